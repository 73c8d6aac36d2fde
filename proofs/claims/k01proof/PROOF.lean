import PyProof.Rows.All
import Wide.All
import OpenK.AllK
import Wide.FinOn
import HandS.ForMost
import HandS.ForExc
import HandS.TupAny
import HandS.TupMul
import HandS.TupLe
import HandS.IsInst
import HandS.WideBits
import HandS.Deep
import HandS.Zip
import HandS.Conv
import HandS.Flow
import HandS.SetFor
import HandS.Gcd
import HandS.Style
import KE.GoesMore
import KE.KMathGC
import KE.KRevSl
import HandS.Ends
import HandS.RaiseMore
import HandS.Dict
import HandS.Codes
import HandS.Small
import HandS.DictComp
import HandS.SetKeys
import KE.KIndexOf
import HandS.SortInts
import HandS.More
import HandS.WordsDict
import HandS.TupLen
import KE.RegKIsAll
import PySem.Challenge.RW_movegroups_k01_moves_told_and_made
set_option linter.all false
/-! Cyc: rounds of a one-to-one function on the numbers below n. -/
namespace Cyc
theorem nodup_len {n : Nat} : ∀ {l : List Nat}, l.Nodup → (∀ x ∈ l, x < n) → l.length ≤ n := by
  induction n with
  | zero =>
    intro l _ h
    cases l with
    | nil => exact Nat.le_refl _
    | cons x l => exact absurd (h x (by simp)) (Nat.not_lt_zero _)
  | succ n ih =>
    intro l hd h
    have h1 : (l.erase n).length ≤ n := ih (hd.erase n) fun x hx => by
      have hm := List.mem_of_mem_erase hx
      have hne : x ≠ n := fun z => by
        subst z
        exact absurd hx (by simpa using hd.not_mem_erase)
      have := h x hm
      omega
    have h2 := List.length_erase_le (a := n) (l := l)
    by_cases hm : n ∈ l
    · rw [List.length_erase_of_mem hm] at h1
      omega
    · rw [List.erase_of_not_mem hm] at h1
      omega
def it (f : Nat → Nat) : Nat → Nat → Nat
  | 0, x => x
  | i + 1, x => f (it f i x)
theorem it_add (f : Nat → Nat) (i j x : Nat) : it f (i + j) x = it f i (it f j x) := by
  induction i with
  | zero => rw [Nat.zero_add]; rfl
  | succ i ih => rw [Nat.succ_add]; show f (it f (i + j) x) = f _; rw [ih]
structure Perm (n : Nat) (f : Nat → Nat) : Prop where
  lt : ∀ x, x < n → f x < n
  inj : ∀ x y, x < n → y < n → f x = f y → x = y
section
variable {n : Nat} {f : Nat → Nat}
theorem Perm.it_lt (h : Perm n f) {x : Nat} (hx : x < n) : ∀ i, it f i x < n
  | 0 => hx
  | i + 1 => h.lt _ (Perm.it_lt h hx i)
theorem Perm.it_inj (h : Perm n f) {x y : Nat} (hx : x < n) (hy : y < n) : ∀ i, it f i x = it f i y → x = y
  | 0, e => e
  | i + 1, e => Perm.it_inj h hx hy i (h.inj _ _ (h.it_lt hx i) (h.it_lt hy i) e)
theorem Perm.returns (h : Perm n f) {x : Nat} (hx : x < n) : ∃ k, 0 < k ∧ k ≤ n ∧ it f k x = x := by
  refine Classical.byContradiction fun hc => ?_
  have hno : ∀ k, 0 < k → k ≤ n → it f k x ≠ x := fun k h1 h2 h3 => hc ⟨k, h1, h2, h3⟩
  have hd : ((List.range (n + 1)).map fun i => it f i x).Nodup := by
    rw [List.Nodup, List.pairwise_map]
    refine List.Pairwise.imp_of_mem ?_ (List.nodup_range (n := n + 1))
    intro a b ha hb hab e
    rw [List.mem_range] at ha hb
    rcases Nat.lt_or_gt_of_ne hab with q | q
    · have e2 : b = a + (b - a) := by omega
      rw [e2, it_add] at e
      have := h.it_inj hx (h.it_lt hx _) a e
      exact hno (b - a) (by omega) (by omega) this.symm
    · have e2 : a = b + (a - b) := by omega
      rw [e2, it_add] at e
      have := h.it_inj (h.it_lt hx _) hx b e
      exact hno (a - b) (by omega) (by omega) this
  have := nodup_len (n := n) hd (by
    intro y hy
    obtain ⟨i, _, rfl⟩ := List.mem_map.mp hy
    exact h.it_lt hx i)
  simp at this
  omega
theorem least {P : Nat → Prop} (h : ∃ k, P k) : ∃ k, P k ∧ ∀ j, j < k → ¬ P j := by
  obtain ⟨k, hk⟩ := h
  induction k using Nat.strongRecOn with
  | _ k ih =>
    by_cases q : ∃ j, j < k ∧ P j
    · obtain ⟨j, h1, h2⟩ := q
      exact ih j h1 h2
    · exact ⟨k, hk, fun j h1 h2 => q ⟨j, h1, h2⟩⟩
open Classical in
noncomputable def per (f : Nat → Nat) (x : Nat) : Nat := if h : ∃ k, 0 < k ∧ it f k x = x then (least h).choose else 1
theorem Perm.per_spec (h : Perm n f) {x : Nat} (hx : x < n) : 0 < per f x ∧ it f (per f x) x = x ∧ (∀ j, 0 < j → j < per f x → it f j x ≠ x) ∧ per f x ≤ n := by
  have hex : ∃ k, 0 < k ∧ it f k x = x := by
    obtain ⟨k, h1, _, h3⟩ := h.returns hx
    exact ⟨k, h1, h3⟩
  have e : per f x = (least hex).choose := by unfold per; rw [dif_pos hex]
  obtain ⟨⟨h1, h2⟩, h3⟩ := (least hex).choose_spec
  rw [← e] at h1 h2 h3
  refine ⟨h1, h2, fun j q1 q2 q3 => h3 j q2 ⟨q1, q3⟩, ?_⟩
  obtain ⟨k, q1, q2, q3⟩ := h.returns hx
  have : ¬ k < per f x := fun z => h3 k z ⟨q1, q3⟩
  omega
theorem Perm.it_per_mul (h : Perm n f) {x : Nat} (hx : x < n) : ∀ q, it f (per f x * q) x = x
  | 0 => rfl
  | q + 1 => by rw [Nat.mul_succ, it_add, (h.per_spec hx).2.1, Perm.it_per_mul h hx q]
theorem Perm.it_mod (h : Perm n f) {x : Nat} (hx : x < n) (i : Nat) : it f i x = it f (i % per f x) x := by
  have e : i = i % per f x + per f x * (i / per f x) := (Nat.mod_add_div i (per f x)).symm
  rw [show it f i x = it f (i % per f x + per f x * (i / per f x)) x from by rw [← e], it_add, h.it_per_mul hx]
theorem Perm.it_ne (h : Perm n f) {x : Nat} (hx : x < n) {i j : Nat} (hij : i < j) (hj : j < per f x) : it f i x ≠ it f j x := fun e => by
  have e2 : j = i + (j - i) := by omega
  rw [e2, it_add] at e
  have := h.it_inj hx (h.it_lt hx _) i e
  exact (h.per_spec hx).2.2.1 (j - i) (by omega) (by omega) this.symm
noncomputable def orb (f : Nat → Nat) (x : Nat) : List Nat := (List.range (per f x)).map fun i => it f i x
theorem orb_len (f : Nat → Nat) (x : Nat) : (orb f x).length = per f x := by simp [orb]
theorem Perm.orb_nodup (h : Perm n f) {x : Nat} (hx : x < n) : (orb f x).Nodup := by
  unfold orb
  rw [List.Nodup, List.pairwise_map]
  refine List.Pairwise.imp_of_mem ?_ (List.nodup_range (n := per f x))
  intro a b ha hb hab e
  rw [List.mem_range] at ha hb
  rcases Nat.lt_or_gt_of_ne hab with q | q
  · exact h.it_ne hx q hb e
  · exact h.it_ne hx q ha e.symm
theorem Perm.mem_orb (h : Perm n f) {x y : Nat} (hx : x < n) : y ∈ orb f x ↔ ∃ i, it f i x = y := by
  unfold orb
  rw [List.mem_map]
  constructor
  · rintro ⟨i, _, e⟩
    exact ⟨i, e⟩
  · rintro ⟨i, e⟩
    refine ⟨i % per f x, List.mem_range.mpr (Nat.mod_lt _ (h.per_spec hx).1), ?_⟩
    rw [← h.it_mod hx]; exact e
theorem Perm.orb_lt (h : Perm n f) {x y : Nat} (hx : x < n) (hy : y ∈ orb f x) : y < n := by
  obtain ⟨i, e⟩ := (h.mem_orb hx).mp hy
  rw [← e]; exact h.it_lt hx i
theorem Perm.orb_self (h : Perm n f) {x : Nat} (hx : x < n) : x ∈ orb f x := (h.mem_orb hx).mpr ⟨0, rfl⟩
theorem Perm.orb_symm (h : Perm n f) {x y : Nat} (hx : x < n) (hy : y ∈ orb f x) : x ∈ orb f y := by
  obtain ⟨i, e⟩ := (h.mem_orb hx).mp hy
  have hyn := h.orb_lt hx hy
  refine (h.mem_orb hyn).mpr ⟨per f x * (i + 1) - i, ?_⟩
  rw [← e, ← it_add]
  have : i ≤ per f x * (i + 1) := by
    have := (h.per_spec hx).1
    calc i ≤ 1 * (i + 1) := by omega
      _ ≤ per f x * (i + 1) := Nat.mul_le_mul_right _ this
  rw [Nat.sub_add_cancel this, h.it_per_mul hx]
theorem Perm.orb_trans (h : Perm n f) {x y z : Nat} (hx : x < n) (hy : y ∈ orb f x) (hz : z ∈ orb f y) : z ∈ orb f x := by
  obtain ⟨i, e⟩ := (h.mem_orb hx).mp hy
  obtain ⟨j, e2⟩ := (h.mem_orb (h.orb_lt hx hy)).mp hz
  exact (h.mem_orb hx).mpr ⟨j + i, by rw [it_add, e, e2]⟩
theorem Perm.orb_step (h : Perm n f) {x y : Nat} (hx : x < n) (hy : y < n) : f y ∈ orb f x ↔ y ∈ orb f x := by
  constructor
  · intro q
    have h1 : f y ∈ orb f y := (h.mem_orb hy).mpr ⟨1, rfl⟩
    exact h.orb_trans hx q (h.orb_symm hy h1)
  · intro q
    exact h.orb_trans hx q ((h.mem_orb hy).mpr ⟨1, rfl⟩)
theorem Perm.per_eq (h : Perm n f) {x y : Nat} (hx : x < n) (hy : y ∈ orb f x) : per f y = per f x := by
  have key : ∀ {a b : Nat}, a < n → b ∈ orb f a → per f b ≤ per f a := fun {a b} ha hb => by
    obtain ⟨i, e⟩ := (h.mem_orb ha).mp hb
    have hbn := h.orb_lt ha hb
    have q : it f (per f a) b = b := by
      rw [← e, ← it_add, Nat.add_comm, it_add, (h.per_spec ha).2.1]
    refine Nat.le_of_not_lt fun z => ?_
    exact (h.per_spec hbn).2.2.1 (per f a) (h.per_spec ha).1 z q
  exact Nat.le_antisymm (key hx hy) (key (h.orb_lt hx hy) (h.orb_symm hx hy))
theorem Perm.orb_get (h : Perm n f) {x : Nat} (hx : x < n) {i : Nat} (hi : i < per f x) : (orb f x)[i]? = some (it f i x) := by
  unfold orb
  rw [List.getElem?_map, List.getElem?_range hi]; rfl
end
/-- what the points below k come to -/
def cov (f : Nat → Nat) (k y : Nat) : Prop := ∃ j, j < k ∧ y ∈ orb f j
section
variable {n : Nat} {f : Nat → Nat}
theorem Perm.cov_orb (h : Perm n f) {k : Nat} (hk : k < n) (hn : ¬ cov f k k) : ∀ y ∈ orb f k, ¬ cov f k y := fun y hy ⟨j, h1, h2⟩ => by
  have hj : j < n := by omega
  exact hn ⟨j, h1, h.orb_trans hj h2 (h.orb_symm hk hy)⟩
theorem Perm.cov_same (h : Perm n f) {k : Nat} (hk : k < n) (hc : cov f k k) (y : Nat) : cov f (k + 1) y ↔ cov f k y := by
  constructor
  · rintro ⟨j, h1, h2⟩
    by_cases e : j = k
    · subst e
      obtain ⟨i, q1, q2⟩ := hc
      exact ⟨i, q1, h.orb_trans (by omega) q2 h2⟩
    · exact ⟨j, by omega, h2⟩
  · rintro ⟨j, h1, h2⟩
    exact ⟨j, by omega, h2⟩
theorem cov_succ (f : Nat → Nat) (k y : Nat) : cov f (k + 1) y ↔ cov f k y ∨ y ∈ orb f k := by
  constructor
  · rintro ⟨j, h1, h2⟩
    by_cases e : j = k
    · subst e; exact .inr h2
    · exact .inl ⟨j, by omega, h2⟩
  · rintro (⟨j, h1, h2⟩ | h2)
    · exact ⟨j, by omega, h2⟩
    · exact ⟨k, by omega, h2⟩
open Classical in
/-- the rounds of the points below k, by their least points -/
noncomputable def rows (f : Nat → Nat) : Nat → List (List Nat)
  | 0 => []
  | k + 1 => if cov f k k then rows f k else rows f k ++ [orb f k]
theorem rows_cov {f : Nat → Nat} {k : Nat} (h : cov f k k) : rows f (k + 1) = rows f k := if_pos h
theorem rows_new {f : Nat → Nat} {k : Nat} (h : ¬ cov f k k) : rows f (k + 1) = rows f k ++ [orb f k] := if_neg h
theorem Perm.mem_rows (h : Perm n f) : ∀ k, k ≤ n → ∀ y, cov f k y ↔ ∃ r ∈ rows f k, y ∈ r
  | 0, _, y => ⟨fun ⟨j, q, _⟩ => absurd q (Nat.not_lt_zero _), fun ⟨r, q, _⟩ => by simp [rows] at q⟩
  | k + 1, hk, y => by
    unfold rows
    split
    · rename_i hc
      rw [h.cov_same (by omega) hc, Perm.mem_rows h k (by omega)]
    · rename_i hc
      rw [cov_succ, Perm.mem_rows h k (by omega)]
      simp only [List.mem_append, List.mem_singleton]
      constructor
      · rintro (⟨r, q1, q2⟩ | q)
        · exact ⟨r, .inl q1, q2⟩
        · exact ⟨_, .inr rfl, q⟩
      · rintro ⟨r, q1 | q1, q2⟩
        · exact .inl ⟨r, q1, q2⟩
        · subst q1; exact .inr q2
theorem Perm.rows_flat (h : Perm n f) : ∀ k, k ≤ n → (rows f k).flatten.Nodup
  | 0, _ => by simp [rows]
  | k + 1, hk => by
    unfold rows
    split
    · exact Perm.rows_flat h k (by omega)
    · rename_i hc
      rw [List.flatten_append, List.nodup_append]
      refine ⟨Perm.rows_flat h k (by omega), by simpa using h.orb_nodup (by omega), fun a ha b hb z => ?_⟩
      subst z
      have hb' : a ∈ orb f k := by simpa using hb
      obtain ⟨r, q1, q2⟩ := List.mem_flatten.mp ha
      exact h.cov_orb (by omega) hc a hb' ((h.mem_rows k (by omega) a).mpr ⟨r, q1, q2⟩)
theorem Perm.rows_all (h : Perm n f) : (rows f n).flatten.length = n := by
  refine Nat.le_antisymm (nodup_len (h.rows_flat n (Nat.le_refl _)) fun x hx => ?_) ?_
  · obtain ⟨r, q1, q2⟩ := List.mem_flatten.mp hx
    obtain ⟨j, w1, w2⟩ := (h.mem_rows n (Nat.le_refl _) x).mpr ⟨r, q1, q2⟩
    exact h.orb_lt w1 w2
  · have hs : ∀ x ∈ List.range n, x ∈ (rows f n).flatten := fun x hx => by
      have hx := List.mem_range.mp hx
      obtain ⟨r, q1, q2⟩ := (h.mem_rows n (Nat.le_refl _) x).mp ⟨x, hx, h.orb_self hx⟩
      exact List.mem_flatten.mpr ⟨r, q1, q2⟩
    have key : ∀ (l m : List Nat), l.Nodup → (∀ x ∈ l, x ∈ m) → l.length ≤ m.length := by
      intro l
      induction l with
      | nil => intro m _ _; exact Nat.zero_le _
      | cons a l ih =>
        intro m hd hm
        have ha := hm a (by simp)
        have hd' := List.nodup_cons.mp hd
        have q := ih (m.erase a) hd'.2 fun x hx => by
          have hne : x ≠ a := fun z => by subst z; exact hd'.1 hx
          exact (List.mem_erase_of_ne hne).mpr (hm x (by simp [hx]))
        rw [List.length_erase_of_mem ha] at q
        have : 0 < m.length := List.length_pos_of_mem ha
        simp only [List.length_cons]
        omega
    have := key (List.range n) _ List.nodup_range hs
    simpa using this
theorem Perm.rows_mem (h : Perm n f) : ∀ k, k ≤ n → ∀ r ∈ rows f k, ∃ j, j < k ∧ r = orb f j
  | 0, _, r, q => by simp [rows] at q
  | k + 1, hk, r, q => by
    unfold rows at q
    split at q
    · obtain ⟨j, h1, h2⟩ := Perm.rows_mem h k (by omega) r q
      exact ⟨j, by omega, h2⟩
    · rcases List.mem_append.mp q with q | q
      · obtain ⟨j, h1, h2⟩ := Perm.rows_mem h k (by omega) r q
        exact ⟨j, by omega, h2⟩
      · exact ⟨k, by omega, by simpa using q⟩
/-- a point is met ahead just where it isn't the least of its round -/
theorem Perm.cov_iff (h : Perm n f) {k : Nat} (hk : k < n) : cov f k k ↔ ∃ y ∈ orb f k, y < k := by
  constructor
  · rintro ⟨j, h1, h2⟩
    exact ⟨j, h.orb_symm (by omega) h2, h1⟩
  · rintro ⟨y, h1, h2⟩
    exact ⟨y, h2, h.orb_symm hk h1⟩
end
end Cyc

set_option Elab.async false
set_option linter.all false
set_option maxRecDepth 100000
set_option maxHeartbeats 4000000
/-! Mv0: a def's promise where no repr is under way (so that repr of a tuple may be told). -/
namespace Mv
open PySem PySem.Spec PyProof.Rows L2
section
variable {P : Program} {w : World} {K : PySem.W.Frag} {mg : Str → Option Value} {base : Heap} {CX : CXT}
/-- as the layer's FnOk, but called with no guard under way -/
structure FnG (P : Program) (w : World) (K : PySem.W.Frag) (mg : Str → Option Value) (base : Heap) (CX : CXT) (k : Nat) (f : Addr) (fd : FuncData) (ps : List Str) (sp : Sp) : Prop where
  many : ∀ vs H Q E, sp vs H Q E → vs.length = ps.length
  goes : ∀ (A : Around), Room k A → A.guards = some [] → ∀ (outer : List Env) (s : Shared) (H : Hp), Env0 P w K mg base A outer s H →
    ∀ (args : Args) (us : List Value), BindsTo s fd args (ps.zip us) → ∀ (vs : List V), Vals vs us → ∀ (Q : VK) (E : XK), sp vs H Q E →
      codeAny (model P w) A (.call (.ref f) args) (CR CX outer P w H s Q E) s
theorem FnG.up {j k : Nat} {f : Addr} {fd : FuncData} {ps : List Str} {sp : Sp} (F : FnG P w K mg base CX j f fd ps sp) (h : j ≤ k) : FnG P w K mg base CX k f fd ps sp :=
  ⟨F.many, fun A hr => F.goes A (hr.mono h)⟩
theorem FnG.weak {k : Nat} {f : Addr} {fd : FuncData} {ps : List Str} {sp sp' : Sp} (F : FnG P w K mg base CX k f fd ps sp) (h : ∀ vs H Q E, sp' vs H Q E → sp vs H Q E) : FnG P w K mg base CX k f fd ps sp' :=
  ⟨fun vs H Q E q => F.many vs H Q E (h _ _ _ _ q), fun A hr hg outer s H e0 args us hb vs rv Q E q => F.goes A hr hg outer s H e0 args us hb vs rv Q E (h _ _ _ _ q)⟩
/-- a def of the text by its body -/
theorem fnG_of {x qual : Str} {st : Stmt} {f : Addr} {fd : FuncData} {N ps : List Str} {k : Nat} {sp : Sp} (F : Fun K x qual st f fd) (S : FnScope N ps (defScope st)) (many : ∀ vs H Q E, sp vs H Q E → vs.length = ps.length)
    (body : ∀ (cdv : Value) (A : Around) (outer : List Env) (s : Shared) (H : Hp) (E : XK), Room k (A.deeper (envOfC qual (defScope st) s.heap.objs.size f cdv)) → A.guards = some [] →
      ∀ (vs : List V) (Q : VK), sp vs H Q E → ∃ t, PSs (cxOf CX P w K mg base N qual (defScope st) f cdv A outer s H E) (defBody st) t ∧ t { nx := fun _ H' => Q .non H', rt := Q } (start N vs) H) :
    FnG P w K mg base CX (k + 1) f fd ps sp := by
  obtain ⟨oc, od, kV, doc, pm, an, cdv, ct, osl, rfl, lk, hcd⟩ := F.ex
  refine ⟨many, fun A hr hg outer s H e0 args us hb vs rv Q E hq => ?_⟩
  have inK : K.In s.heap := e0.mod.kin.keeps (fun b o e => (e0.bs b o e).1)
  have room := hr.deeper (envOfC qual (defScope st) s.heap.objs.size f cdv)
  obtain ⟨t, ht, hw⟩ := body cdv A outer s H E room hg vs Q hq
  refine codeAny_call_function hr.depth (inK _ _ lk) rfl S.co S.gen rfl (PySem.W.codeRec_of inK hcd) (hb _ _ _ _ ?_)
  refine wpAny_newFunctionEnv_cells S.kind ?_ ?_
  · rintro ⟨n, v⟩ hy
    rcases S.par n (List.of_mem_zip hy).1 with q | q
    · exact Or.inl q
    · exact Or.inr ⟨q, PySem.W.cellsFrom_some _ _ _ (Or.inl q)⟩
  · intro env he s1 ic
    subst he
    refine ⟨(e0.mod.nolimit.keeps (fun b o e => (e0.bs b o e).1)).keeps ic.toInCall.keep, codeAny_func ?_⟩
    have I := inv_start (CX := CX) (E := E) S hr.hd e0 (many _ _ _ _ hq) rv ic
    have run := ht.run [] s1 (start N vs) H _ I hw
    refine wpAny_mono run (fun fl s' hs => ?_) (fun e s' hs => hs)
    cases fl with
    | ret u =>
      obtain ⟨v, σ', H', J, rel, q⟩ := hs
      exact ⟨v, H', J.os, J.bare, J.base, J.hok, rel, q⟩
    | next =>
      obtain ⟨σ', H', J, q⟩ := hs
      exact ⟨V.non, H', J.os, J.bare, J.base, J.hok, rfl, q⟩
    | brk => obtain ⟨_, _, _, q⟩ := hs; exact q.elim
    | cont => obtain ⟨_, _, _, q⟩ := hs; exact q.elim
end
section
variable {X : Cx} {CX : CXT} {k : Nat} {f : Addr} {fd : FuncData} {ps : List Str} {sp : Sp} {dvs : List V} {ds : List Value} {E : XK} {x : Str} {p pos : Pos} {e : Expr} {es : List Expr} {t : TA}
theorem runG {pins : List (Addr × Obj)} {σ : L2.St} {H : Hp} {s : Shared} {Q : VK} {us : List Value} {vs : List V} (F : FnG X.prog X.w X.K X.mg X.base CX k f fd ps sp) (hr : Room k X.A) (hG : X.A.guards = some []) (hb : Binds X.K fd ps ds) (hd : Vals dvs ds)
    (hx : Passes CX X E) (I : Inv X pins σ H s) (r : Vals vs us) (h : sp (vs ++ dvs) H Q E) : wpAny (model X.prog X.w) X.A (call (.ref f) us) (EP X pins σ Q) X.xe s := by
  have rr : Vals (vs ++ dvs) (us ++ ds) := r.append hd
  have hn : (us ++ ds).length = ps.length := rr.length ▸ F.many _ _ _ _ h
  refine wpAny_call (codeAny_mono (F.goes X.A hr hG X.stack s H I.env0 ⟨us, []⟩ (us ++ ds) (hb s us I.kIn hn) (vs ++ dvs) rr Q E h) ?_)
  intro res s' hq
  match res, hq with
  | .error e, hq => exact hx pins σ H s e s' I hq
  | .ok (.ret u), hq => exact I.after hq
  | .ok .next, hq => exact False.elim hq
  | .ok .brk, hq => exact False.elim hq
  | .ok .cont, hq => exact False.elim hq
/-- f(e, ..), f a def of the text -/
theorem pe_callG (F : FnG X.prog X.w X.K X.mg X.base CX k f fd ps sp) (hr : Room k X.A) (hG : X.A.guards = some []) (hm : X.mg x = some (.ref f)) (hk : PySem.W.keepIn X.K (.ref f) = true) (hb : Binds X.K fd ps ds) (hd : Vals dvs ds)
    (hx : Passes CX X E) (hg : Gl X x) (ha : PA X (e :: es) t) (hdb : (x == ("__debug__" : Str)) = false := by decide) (he : starEach (e :: es) X.env = (false, eval e X.env) :: starEach es X.env := by rfl)
    (hpl : (backTo pos (starEach es X.env)).any (·.1) = false := by rfl) : PE X (.Call (.Name x p) (e :: es) [] pos) (tCall sp dvs E t) := by
  constructor
  intro pins s σ H Q I h
  refine wpAny_Call_Name_kw (ld_glob I hg hm (PySem.W.callWith_K (h₀ := X.base) I.ok.mod.kin hk ?_ he hpl) hdb)
  refine thn (ha.run pos pins s σ H _ I h) ?_
  rintro us s1 ⟨vs, H1, I1, r, q⟩
  exact ⟨I1.kIn, runG F hr hG hb hd hx I1 r q⟩
end
end Mv

set_option Elab.async false
set_option linter.all false
set_option maxRecDepth 100000
set_option maxHeartbeats 4000000
/-! Mv: Python's values as data (tuples as trees, lists by places), expressions and statements as plain functions over them, and what ties them to the layer's readings. -/
namespace Mv
open PySem PySem.Spec PyProof.Rows L2

abbrev Fg := PySem.W.Frag
/-- a value as data: tuples whole, lists by their place -/
inductive D where
  | non | bl (b : Bool) | int (i : Int) | str (x : Str) | tup (xs : List D) | loc (l : Nat) | ty (n : String) | kl (xs : List D)
  /-- a class of the text; an instance of one that is written no more -/
  | cls (n : Str) | ins (n : Str) (ks : List Str) (xs : List D)
  /-- a tuple of which it is known that it has no dict of its own: its methods may be called -/
  | stp (xs : List D)
/-- what stands at a place -/
inductive Cell where
  | lst (xs : List D)
  | dK (ks : List Key) (xs : List D)
  | dT (ks : List (List Key)) (xs : List D)
  | ob (n : Str) (ks : List Str) (xs : List D)
abbrev Mem := List Cell
abbrev Sl := List (Option D)

/-- the class C has the name n -/
def ClsAt (K : Fg) (n : Str) (C : Addr) : Prop := PySem.W.nsIn K mainGlobals n = some (some (.ref C))
/-- a tuple that stands for good -/
def Fixed : HO → Prop
  | .tup _ => True
  | .frz _ _ => True
  | _ => False
/-- a list that stands for good: the script -/
def KlAt (K : Fg) (H : Hp) (a : Addr) (xs : List V) : Prop := (∃ o, H a = some (.frz o (.lst xs))) ∨ ∀ H', SqL K H' a xs
def TupAt (K : Fg) (H : Hp) (a : Addr) (xs : List V) : Prop := H a = some (.tup xs) ∨ (∃ o, H a = some (.frz o (.tup xs))) ∨ ∀ H', SqT K H' a xs
mutual
inductive Val (K : Fg) (r : List Addr) (H : Hp) : V → D → Prop
  | non : Val K r H .non .non
  | bl (b : Bool) : Val K r H (.bl b) (.bl b)
  | int (i : Int) : Val K r H (.int i) (.int i)
  | str (x : Str) : Val K r H (.str x) (.str x)
  | ty (n : String) : Val K r H (.ty n) (.ty n)
  | tup {a : Addr} {vs : List V} {xs : List D} (h : TupAt K H a vs) (hs : VAll K r H vs xs) : Val K r H (.ref a) (.tup xs)
  | loc {a : Addr} {l : Nat} (h : r[l]? = some a) : Val K r H (.ref a) (.loc l)
  | kl {a : Addr} {vs : List V} {xs : List D} (h : KlAt K H a vs) (hs : VAll K r H vs xs) : Val K r H (.ref a) (.kl xs)
  | stp {a : Addr} {o : Obj} {vs : List V} {xs : List D} (h : H a = some (.frz o (.tup vs))) (hd : o.dict = none) (hs : VAll K r H vs xs) : Val K r H (.ref a) (.stp xs)
  | cls {C : Addr} {n : Str} (h : ClsAt K n C) : Val K r H (.ref C) (.cls n)
  | ins {a C dx : Addr} {n : Str} {ks : List Str} {vs : List V} {xs : List D} (h : H a = some (.ins C dx (ks.zip vs))) (hn : a ∉ r) (hc : ClsAt K n C) (hl : ks.length = xs.length) (hs : VAll K r H vs xs) : Val K r H (.ref a) (.ins n ks xs)
inductive VAll (K : Fg) (r : List Addr) (H : Hp) : List V → List D → Prop
  | nil : VAll K r H [] []
  | cons {v : V} {d : D} {vs : List V} {ds : List D} (h : Val K r H v d) (hs : VAll K r H vs ds) : VAll K r H (v :: vs) (d :: ds)
end

/-- what any step leaves: places stay and come, what is at no place stays, tuples stay -/
structure Ext (r : List Addr) (H : Hp) (r' : List Addr) (H' : Hp) : Prop where
  pre : ∃ t, r' = r ++ t
  new : ∀ a ∈ r', a ∈ r ∨ H a = none
  keep : ∀ b o, H b = some o → b ∉ r → H' b = some o
  fix : ∀ b o, Fixed o → H b = some o → H' b = some o
  had : ∀ b o, H b = some o → ∃ o', H' b = some o'
def CellOk (K : Fg) (r : List Addr) (H : Hp) (a : Addr) : Cell → Prop
  | .lst xs => ∃ vs, H a = some (.lst vs) ∧ VAll K r H vs xs
  | .dK ks xs => ∃ vs, H a = some (.dK (ks.zip vs)) ∧ ks.length = xs.length ∧ VAll K r H vs xs
  | .dT ks xs => ∃ vs, H a = some (.dT (ks.zip vs)) ∧ ks.length = xs.length ∧ VAll K r H vs xs
  | .ob n ks xs => ∃ vs, (∃ C dx, H a = some (.ins C dx (ks.zip vs)) ∧ ClsAt K n C) ∧ ks.length = xs.length ∧ VAll K r H vs xs
structure MemOk (K : Fg) (r : List Addr) (H : Hp) (m : Mem) : Prop where
  len : r.length = m.length
  nd : r.Nodup
  cell : ∀ (l : Nat) (c : Cell), m[l]? = some c → ∃ a, r[l]? = some a ∧ CellOk K r H a c
def SlOk (K : Fg) (r : List Addr) (H : Hp) (σ : L2.St) (e : Sl) : Prop :=
  σ.length = e.length ∧ ∀ (i : Nat) d, e[i]? = some (some d) → ∃ v, σ[i]? = some (some v) ∧ Val K r H v d

section
variable {K : Fg} {r r' r1 r2 : List Addr} {H H' H1 H2 : Hp} {m m' : Mem}
theorem Ext.tup (x : Ext r H r' H') : ∀ b xs, H b = some (.tup xs) → H' b = some (.tup xs) := fun b xs h => x.fix b _ trivial h
theorem Ext.refl : Ext r H r H := ⟨⟨[], by simp⟩, fun _ h => .inl h, fun _ _ h _ => h, fun _ _ _ h => h, fun _ o h => ⟨o, h⟩⟩
theorem Ext.trans (a : Ext r H r1 H1) (b : Ext r1 H1 r2 H2) : Ext r H r2 H2 := by
  refine ⟨?_, fun x hx => ?_, fun x o hx hn => ?_, fun x o hf hx => b.fix _ _ hf (a.fix _ _ hf hx), fun x o hx => ?_⟩
  · obtain ⟨t, e⟩ := a.pre
    obtain ⟨u, e2⟩ := b.pre
    exact ⟨t ++ u, by rw [e2, e, List.append_assoc]⟩
  · rcases b.new x hx with h | h
    · exact a.new x h
    · by_cases hr : x ∈ r
      · exact .inl hr
      · right
        cases q : H x with
        | none => rfl
        | some o =>
          rw [a.keep x o q hr] at h
          cases h
  · have h1 := a.keep x o hx hn
    refine b.keep x o h1 fun h => ?_
    rcases a.new x h with h | h
    · exact hn h
    · rw [hx] at h; cases h
  · obtain ⟨o1, h1⟩ := a.had x o hx
    exact b.had x o1 h1
/-- a new object that is at no place -/
theorem Ext.fresh {p : Addr} {o : HO} (h : H p = none) : Ext r H r (upd H p o) :=
  ⟨⟨[], by simp⟩, fun _ h => .inl h, fun b u e _ => by rw [upd_ne (ne_of_none e h)]; exact e, fun b o hf e => by rw [upd_ne (ne_of_none e h)]; exact e, fun b u e => ⟨u, by rw [upd_ne (ne_of_none e h)]; exact e⟩⟩
/-- a new object at a new place -/
theorem Ext.alloc {p : Addr} {o : HO} (h : H p = none) : Ext r H (r ++ [p]) (upd H p o) :=
  ⟨⟨[p], rfl⟩, fun a ha => by
    rcases List.mem_append.mp ha with ha | ha
    · exact .inl ha
    · have e : a = p := by simpa using ha
      subst e; exact .inr h, fun b u e _ => by rw [upd_ne (ne_of_none e h)]; exact e, fun b o hf e => by rw [upd_ne (ne_of_none e h)]; exact e, fun b u e => ⟨u, by rw [upd_ne (ne_of_none e h)]; exact e⟩⟩
/-- an object that is at a place is written -/
theorem Ext.write {p : Addr} {o : HO} (hp : p ∈ r) (h : ∀ u, Fixed u → H p ≠ some u) : Ext r H r (upd H p o) :=
  ⟨⟨[], by simp⟩, fun _ h => .inl h, fun b u e n => by
    have z : b ≠ p := fun z => n (by rw [z]; exact hp)
    rw [upd_ne z]; exact e, fun b u hf e => by
    have z : b ≠ p := fun z => h u hf (by rw [← z]; exact e)
    rw [upd_ne z]; exact e, fun b u e => by
    by_cases z : b = p
    · exact ⟨o, by rw [z]; exact upd_same⟩
    · exact ⟨u, by rw [upd_ne z]; exact e⟩⟩
theorem TupAt.sq {a : Addr} {xs : List V} (h : TupAt K H a xs) : SqT K H a xs := by
  rcases h with h | ⟨o, h⟩ | h
  · exact .inl (.inl h)
  · exact .inl (.inr ⟨o, h⟩)
  · exact h H
theorem TupAt.ext {a : Addr} {xs : List V} (x : Ext r H r' H') (h : TupAt K H a xs) : TupAt K H' a xs := by
  rcases h with h | ⟨o, h⟩ | h
  · exact .inl (x.fix _ _ trivial h)
  · exact .inr (.inl ⟨o, x.fix _ _ trivial h⟩)
  · exact .inr (.inr h)
theorem Ext.get (x : Ext r H r' H') {l : Nat} {a : Addr} (h : r[l]? = some a) : r'[l]? = some a := by
  obtain ⟨t, e⟩ := x.pre
  rw [e, List.getElem?_append_left (List.getElem?_eq_some_iff.mp h).1]
  exact h
/-- instances at no place stay, at no place -/
def StayI (r : List Addr) (H : Hp) (r' : List Addr) (H' : Hp) : Prop := ∀ b C dx fs, H b = some (.ins C dx fs) → b ∉ r → H' b = some (.ins C dx fs) ∧ b ∉ r'
theorem Ext.stayI (x : Ext r H r' H') : StayI r H r' H' := fun b C dx fs h hn => ⟨x.keep b _ h hn, fun z => (x.new b z).elim hn fun q => by rw [h] at q; cases q⟩
mutual
theorem Val.mo (hp : ∃ t, r' = r ++ t) (ht : ∀ b o, Fixed o → H b = some o → H' b = some o) (hi : StayI r H r' H') : ∀ {v : V} {d : D}, Val K r H v d → Val K r' H' v d
  | _, _, .non => .non
  | _, _, .bl b => .bl b
  | _, _, .int i => .int i
  | _, _, .str s => .str s
  | _, _, .ty n => .ty n
  | _, _, .tup h hs => .tup (h.elim (fun h => .inl (ht _ _ trivial h)) fun h => .inr (h.elim (fun ⟨o, h⟩ => .inl ⟨o, ht _ _ trivial h⟩) .inr)) (VAll.mo hp ht hi hs)
  | _, _, .stp h hd hs => .stp (ht _ _ trivial h) hd (VAll.mo hp ht hi hs)
  | _, _, .kl h hs => .kl (h.elim (fun ⟨o, h⟩ => .inl ⟨o, ht _ _ trivial h⟩) .inr) (VAll.mo hp ht hi hs)
  | _, _, .cls h => .cls h
  | _, _, .ins h hn hc hl hs => .ins (hi _ _ _ _ h hn).1 (hi _ _ _ _ h hn).2 hc hl (VAll.mo hp ht hi hs)
  | _, _, .loc h => .loc (by
    obtain ⟨t, e⟩ := hp
    rw [e, List.getElem?_append_left (List.getElem?_eq_some_iff.mp h).1]
    exact h)
theorem VAll.mo (hp : ∃ t, r' = r ++ t) (ht : ∀ b o, Fixed o → H b = some o → H' b = some o) (hi : StayI r H r' H') : ∀ {vs : List V} {ds : List D}, VAll K r H vs ds → VAll K r' H' vs ds
  | _, _, .nil => .nil
  | _, _, .cons h hs => .cons (Val.mo hp ht hi h) (VAll.mo hp ht hi hs)
end
theorem Val.mono (x : Ext r H r' H') {v : V} {d : D} (h : Val K r H v d) : Val K r' H' v d := h.mo x.pre x.fix x.stayI
theorem VAll.mono (x : Ext r H r' H') {vs : List V} {ds : List D} (h : VAll K r H vs ds) : VAll K r' H' vs ds := h.mo x.pre x.fix x.stayI
theorem SlOk.mono (x : Ext r H r' H') {σ : L2.St} {e : Sl} (h : SlOk K r H σ e) : SlOk K r' H' σ e :=
  ⟨h.1, fun i d q => let ⟨v, a, b⟩ := h.2 i d q; ⟨v, a, b.mono x⟩⟩
theorem VAll.length : ∀ {vs : List V} {ds : List D}, VAll K r H vs ds → vs.length = ds.length
  | _, _, .nil => rfl
  | _, _, .cons _ hs => by rw [List.length_cons, List.length_cons, VAll.length hs]
theorem VAll.append : ∀ {vs ws : List V} {ds es : List D}, VAll K r H vs ds → VAll K r H ws es → VAll K r H (vs ++ ws) (ds ++ es)
  | _, _, _, _, .nil, h => h
  | _, _, _, _, .cons a b, h => .cons a (VAll.append b h)
theorem VAll.get : ∀ {vs : List V} {ds : List D} {i : Nat} {d : D}, VAll K r H vs ds → ds[i]? = some d → ∃ v, vs[i]? = some v ∧ Val K r H v d
  | _, _, _, _, .nil, h => by simp at h
  | _, _, 0, _, .cons a _, h => by simp at h; subst h; exact ⟨_, rfl, a⟩
  | _, _, i + 1, d, .cons _ b, h => by
    obtain ⟨v, q, w⟩ := VAll.get (i := i) (d := d) b (by simpa using h)
    exact ⟨v, by simpa using q, w⟩
theorem VAll.getV : ∀ {vs : List V} {ds : List D} {i : Nat} {v : V}, VAll K r H vs ds → vs[i]? = some v → ∃ d, ds[i]? = some d ∧ Val K r H v d
  | _, _, _, _, .nil, h => by simp at h
  | _, _, 0, _, .cons a _, h => by simp at h; subst h; exact ⟨_, rfl, a⟩
  | _, _, i + 1, d, .cons _ b, h => by
    obtain ⟨v, q, w⟩ := VAll.getV (i := i) (v := d) b (by simpa using h)
    exact ⟨v, by simpa using q, w⟩
theorem VAll.set : ∀ {vs : List V} {ds : List D} {v : V} {d : D} (i : Nat), VAll K r H vs ds → Val K r H v d → VAll K r H (vs.set i v) (ds.set i d)
  | _, _, _, _, _, .nil, _ => .nil
  | _, _, _, _, 0, .cons _ b, h => .cons h b
  | _, _, _, _, i + 1, .cons a b, h => .cons a (VAll.set i b h)
theorem VAll.take : ∀ {vs : List V} {ds : List D} (n : Nat), VAll K r H vs ds → VAll K r H (vs.take n) (ds.take n)
  | _, _, 0, _ => .nil
  | _, _, _ + 1, .nil => .nil
  | _, _, n + 1, .cons a b => .cons a (VAll.take n b)
theorem VAll.drop : ∀ {vs : List V} {ds : List D} (n : Nat), VAll K r H vs ds → VAll K r H (vs.drop n) (ds.drop n)
  | _, _, 0, h => h
  | _, _, _ + 1, .nil => .nil
  | _, _, n + 1, .cons _ b => VAll.drop n b
theorem VAll.dropLast : ∀ {vs : List V} {ds : List D}, VAll K r H vs ds → VAll K r H vs.dropLast ds.dropLast
  | _, _, .nil => .nil
  | _, _, .cons _ .nil => .nil
  | _, _, .cons a (.cons b c) => .cons a (VAll.dropLast (.cons b c))
theorem VAll.reverse {vs : List V} {ds : List D} (h : VAll K r H vs ds) : VAll K r H vs.reverse ds.reverse := by
  match h with
  | .nil => exact .nil
  | .cons a b =>
    rw [List.reverse_cons, List.reverse_cons]
    exact VAll.append (VAll.reverse b) (.cons a .nil)
theorem VAll.rep {vs : List V} {ds : List D} (h : VAll K r H vs ds) : ∀ k : Nat, VAll K r H (List.replicate k vs).flatten (List.replicate k ds).flatten
  | 0 => .nil
  | k + 1 => by
    rw [List.replicate_succ, List.replicate_succ, List.flatten_cons, List.flatten_cons]
    exact VAll.append h (VAll.rep h k)
theorem VAll.ints : ∀ {ns : List Int} {vs : List V}, VAll K r H vs (ns.map D.int) → vs = ns.map V.int
  | [], _, .nil => rfl
  | _ :: _, _, .cons (.int _) b => by rw [List.map_cons, ← VAll.ints b]
theorem VAll.ofInts : ∀ (ns : List Int), VAll K r H (ns.map V.int) (ns.map D.int)
  | [] => .nil
  | _ :: ns => .cons (.int _) (VAll.ofInts ns)
theorem VAll.bools : ∀ {ns : List Bool} {vs : List V}, VAll K r H vs (ns.map D.bl) → vs = ns.map V.bl
  | [], _, .nil => rfl
  | _ :: _, _, .cons (.bl _) b => by rw [List.map_cons, ← VAll.bools b]
theorem Val.intE {v : V} {i : Int} (h : Val K r H v (.int i)) : v = .int i := by cases h; rfl
theorem Val.blE {v : V} {i : Bool} (h : Val K r H v (.bl i)) : v = .bl i := by cases h; rfl
theorem Val.strE {v : V} {i : Str} (h : Val K r H v (.str i)) : v = .str i := by cases h; rfl
theorem Val.tyE {v : V} {n : String} (h : Val K r H v (.ty n)) : v = .ty n := by cases h; rfl
theorem Val.klE {v : V} {xs : List D} (h : Val K r H v (.kl xs)) : ∃ a vs, v = .ref a ∧ KlAt K H a vs ∧ VAll K r H vs xs := by
  cases h with
  | kl a b => exact ⟨_, _, rfl, a, b⟩
theorem KlAt.sq {a : Addr} {xs : List V} (h : KlAt K H a xs) : SqL K H a xs := h.elim (fun ⟨o, h⟩ => .inl (.inr ⟨o, h⟩)) fun h => h H
theorem Val.clsE {v : V} {n : Str} (h : Val K r H v (.cls n)) : ∃ C, v = .ref C ∧ ClsAt K n C := by
  cases h with
  | cls a => exact ⟨_, rfl, a⟩
theorem Val.insE {v : V} {n : Str} {ks : List Str} {xs : List D} (h : Val K r H v (.ins n ks xs)) : ∃ a C dx vs, v = .ref a ∧ H a = some (.ins C dx (ks.zip vs)) ∧ a ∉ r ∧ ClsAt K n C ∧ ks.length = xs.length ∧ VAll K r H vs xs := by
  cases h with
  | ins a b c d e => exact ⟨_, _, _, _, rfl, a, b, c, d, e⟩
theorem Val.nonE {v : V} (h : Val K r H v .non) : v = .non := by cases h; rfl
theorem Val.tupE {v : V} {xs : List D} (h : Val K r H v (.tup xs)) : ∃ a vs, v = .ref a ∧ TupAt K H a vs ∧ VAll K r H vs xs := by
  cases h with
  | tup a b => exact ⟨_, _, rfl, a, b⟩
theorem Val.stpE {v : V} {xs : List D} (h : Val K r H v (.stp xs)) : ∃ a o vs, v = .ref a ∧ H a = some (.frz o (.tup vs)) ∧ o.dict = none ∧ VAll K r H vs xs := by
  cases h with
  | stp a b c => exact ⟨_, _, _, rfl, a, b, c⟩
mutual
/-- .. forgotten, all the way down -/
def D.weak : D → D
  | .stp xs => .tup (D.weakAll xs)
  | .tup xs => .tup (D.weakAll xs)
  | .non => .non | .bl b => .bl b | .int i => .int i | .str x => .str x | .loc l => .loc l | .ty n => .ty n | .kl xs => .kl xs | .cls n => .cls n | .ins n ks xs => .ins n ks xs
def D.weakAll : List D → List D
  | [] => []
  | x :: xs => x.weak :: D.weakAll xs
end
mutual
theorem Val.weak : ∀ {v : V} {d : D}, Val K r H v d → Val K r H v d.weak
  | _, _, .stp h hd hs => .tup (.inr (.inl ⟨_, h⟩)) (VAll.weak hs)
  | _, _, .tup h hs => .tup h (VAll.weak hs)
  | _, _, .non => .non
  | _, _, .bl b => .bl b
  | _, _, .int i => .int i
  | _, _, .str s => .str s
  | _, _, .ty n => .ty n
  | _, _, .loc h => .loc h
  | _, _, .kl h hs => .kl h hs
  | _, _, .cls h => .cls h
  | _, _, .ins h hn hc hl hs => .ins h hn hc hl hs
theorem VAll.weak : ∀ {vs : List V} {ds : List D}, VAll K r H vs ds → VAll K r H vs (D.weakAll ds)
  | _, _, .nil => .nil
  | _, _, .cons h hs => .cons (Val.weak h) (VAll.weak hs)
end
theorem Val.locE {v : V} {l : Nat} (h : Val K r H v (.loc l)) : ∃ a, v = .ref a ∧ r[l]? = some a := by
  cases h with
  | loc a => exact ⟨_, rfl, a⟩

theorem sqL_upd {p a : Addr} {o : HO} {vs : List V} (h : H p = none) (q : SqL K H a vs) : SqL K (upd H p o) a vs := by
  rcases q with (q | ⟨u, q⟩) | q
  · exact .inl (.inl (by rw [upd_ne (ne_of_none q h)]; exact q))
  · exact .inl (.inr ⟨u, by rw [upd_ne (ne_of_none q h)]; exact q⟩)
  · exact .inr q
theorem CellOk.had {a : Addr} {c : Cell} (h : CellOk K r H a c) : ∃ o, H a = some o ∧ ∀ ys, o ≠ .tup ys := by
  cases c with
  | lst xs => obtain ⟨vs, e, _⟩ := h; exact ⟨_, e, fun ys z => by cases z⟩
  | dK ks xs => obtain ⟨vs, e, _⟩ := h; exact ⟨_, e, fun ys z => by cases z⟩
  | dT ks xs => obtain ⟨vs, e, _⟩ := h; exact ⟨_, e, fun ys z => by cases z⟩
  | ob n ks xs => obtain ⟨vs, ⟨C, dx, e, _⟩, _⟩ := h; exact ⟨_, e, fun ys z => by cases z⟩
/-- a new object that is at no place -/
theorem MemOk.fresh {p : Addr} {o : HO} (h : MemOk K r H m) (hp : H p = none) : MemOk K r (upd H p o) m := by
  refine ⟨h.len, h.nd, fun l c q => ?_⟩
  obtain ⟨a, ha, hc⟩ := h.cell l c q
  refine ⟨a, ha, ?_⟩
  cases c with
  | lst xs =>
    obtain ⟨vs, e, w⟩ := hc
    exact ⟨vs, by rw [upd_ne (ne_of_none e hp)]; exact e, w.mono (Ext.fresh hp)⟩
  | dK ks xs =>
    obtain ⟨vs, e, n, w⟩ := hc
    exact ⟨vs, by rw [upd_ne (ne_of_none e hp)]; exact e, n, w.mono (Ext.fresh hp)⟩
  | dT ks xs =>
    obtain ⟨vs, e, n, w⟩ := hc
    exact ⟨vs, by rw [upd_ne (ne_of_none e hp)]; exact e, n, w.mono (Ext.fresh hp)⟩
  | ob nm ks xs =>
    obtain ⟨vs, ⟨C, dx, e, z⟩, n, w⟩ := hc
    exact ⟨vs, ⟨C, dx, by rw [upd_ne (ne_of_none e hp)]; exact e, z⟩, n, w.mono (Ext.fresh hp)⟩
theorem MemOk.notIn {p : Addr} (h : MemOk K r H m) (hp : H p = none) : p ∉ r := fun z => by
  obtain ⟨i, hi, e⟩ := List.getElem_of_mem z
  have hi' : i < m.length := by rw [← h.len]; exact hi
  obtain ⟨a, ha, hc⟩ := h.cell i m[i] (by simp [hi'])
  have : a = p := by
    have q : r[i]? = some p := by rw [List.getElem?_eq_getElem hi, e]
    rw [q] at ha; exact (Option.some.inj ha).symm
  subst this
  obtain ⟨o, q, _⟩ := hc.had
  rw [hp] at q; cases q
/-- a new object at a new place -/
theorem MemOk.allocC {p : Addr} {o : HO} {c : Cell} (h : MemOk K r H m) (hp : H p = none) (w : CellOk K (r ++ [p]) (upd H p o) p c) : MemOk K (r ++ [p]) (upd H p o) (m ++ [c]) := by
  have hpr := h.notIn hp
  refine ⟨by simp [h.len], ?_, fun l c q => ?_⟩
  · rw [List.nodup_append]
    exact ⟨h.nd, by simp, fun a ha b hb z => by
      have e : b = p := by simpa using hb
      subst e; subst z; exact hpr ha⟩
  · by_cases hl : l < m.length
    · rw [List.getElem?_append_left hl] at q
      obtain ⟨a, ha, hc⟩ := h.cell l c q
      refine ⟨a, (Ext.alloc (o := o) hp).get ha, ?_⟩
      cases c with
      | lst ys =>
        obtain ⟨us, e, w⟩ := hc
        exact ⟨us, by rw [upd_ne (ne_of_none e hp)]; exact e, w.mono (Ext.alloc hp)⟩
      | dK ks ys =>
        obtain ⟨us, e, n, w⟩ := hc
        exact ⟨us, by rw [upd_ne (ne_of_none e hp)]; exact e, n, w.mono (Ext.alloc hp)⟩
      | dT ks ys =>
        obtain ⟨us, e, n, w⟩ := hc
        exact ⟨us, by rw [upd_ne (ne_of_none e hp)]; exact e, n, w.mono (Ext.alloc hp)⟩
      | ob nm ks ys =>
        obtain ⟨us, ⟨C, dx, e, z⟩, n, w⟩ := hc
        exact ⟨us, ⟨C, dx, by rw [upd_ne (ne_of_none e hp)]; exact e, z⟩, n, w.mono (Ext.alloc hp)⟩
    · have e : l = m.length := by
        have := (List.getElem?_eq_some_iff.mp q).1
        simp at this; omega
      subst e
      simp at q; subst q
      exact ⟨p, by rw [← h.len]; simp, w⟩
/-- a new list at a new place -/
theorem MemOk.alloc {p : Addr} {vs : List V} {xs : List D} (h : MemOk K r H m) (hp : H p = none) (w : VAll K r H vs xs) :
    MemOk K (r ++ [p]) (upd H p (.lst vs)) (m ++ [.lst xs]) := h.allocC hp ⟨vs, upd_same, w.mono (Ext.alloc hp)⟩
/-- what is at a place is written -/
theorem MemOk.writeC {a : Addr} {l : Nat} {o : HO} {c : Cell} (h : MemOk K r H m) (hl : r[l]? = some a) (w : CellOk K r (upd H a o) a c) (ex : Ext r H r (upd H a o)) : MemOk K r (upd H a o) (m.set l c) := by
  refine ⟨by simp [h.len], h.nd, fun k c' q => ?_⟩
  by_cases hk : l = k
  · subst hk
    have hlm : l < m.length := by rw [← h.len]; exact (List.getElem?_eq_some_iff.mp hl).1
    rw [List.getElem?_set_self hlm] at q
    cases q
    exact ⟨a, hl, w⟩
  · rw [List.getElem?_set_ne hk] at q
    obtain ⟨b, hb, hc⟩ := h.cell k c' q
    have hab : b ≠ a := fun z => by
      subst z
      obtain ⟨h1, e1⟩ := List.getElem?_eq_some_iff.mp hl
      obtain ⟨h2, e2⟩ := List.getElem?_eq_some_iff.mp hb
      exact hk ((List.getElem_inj h.nd).mp (e1.trans e2.symm))
    refine ⟨b, hb, ?_⟩
    cases c' with
    | lst ys =>
      obtain ⟨ws, e, w⟩ := hc
      exact ⟨ws, by rw [upd_ne hab]; exact e, w.mono ex⟩
    | dK ks ys =>
      obtain ⟨ws, e, n, w⟩ := hc
      exact ⟨ws, by rw [upd_ne hab]; exact e, n, w.mono ex⟩
    | dT ks ys =>
      obtain ⟨ws, e, n, w⟩ := hc
      exact ⟨ws, by rw [upd_ne hab]; exact e, n, w.mono ex⟩
    | ob nm ks ys =>
      obtain ⟨ws, ⟨C, dx, e, z⟩, n, w⟩ := hc
      exact ⟨ws, ⟨C, dx, by rw [upd_ne hab]; exact e, z⟩, n, w.mono ex⟩
/-- the list at a place is written -/
theorem MemOk.write {a : Addr} {l : Nat} {vs us : List V} {xs : List D} (h : MemOk K r H m) (hl : r[l]? = some a) (ha : H a = some (.lst us)) (w : VAll K r H vs xs) :
    MemOk K r (upd H a (.lst vs)) (m.set l (.lst xs)) := by
  have ex : Ext r H r (upd H a (.lst vs)) := Ext.write (List.mem_of_getElem? hl) fun u hf z => by rw [ha] at z; cases z; exact hf
  exact h.writeC hl ⟨vs, upd_same, w.mono ex⟩ ex
theorem MemOk.lst {l : Nat} {a : Addr} {xs : List D} (h : MemOk K r H m) (hl : r[l]? = some a) (q : m[l]? = some (.lst xs)) : ∃ vs, H a = some (.lst vs) ∧ VAll K r H vs xs := by
  obtain ⟨b, hb, hc⟩ := h.cell l _ q
  rw [hl] at hb; cases hb
  exact hc
/-- a list that is read: one's own, or the script -/
def rd (m : Mem) (l : Nat) : Option (List D) := match m[l]? with
  | some (.lst xs) => some xs
  | _ => none
theorem MemOk.rd {l : Nat} {a : Addr} {xs : List D} (h : MemOk K r H m) (hl : r[l]? = some a) (q : rd m l = some xs) : ∃ vs, SqL K H a vs ∧ VAll K r H vs xs := by
  unfold Mv.rd at q
  cases e : m[l]? with
  | none => rw [e] at q; cases q
  | some c =>
    rw [e] at q
    obtain ⟨b, hb, hc⟩ := h.cell l _ e
    rw [hl] at hb; cases hb
    cases c with
    | lst ys => cases q; obtain ⟨vs, q1, q2⟩ := hc; exact ⟨vs, .of q1, q2⟩
    | dK ks ys => cases q
    | dT ks ys => cases q
    | ob n ks ys => cases q
end
end Mv

set_option Elab.async false
set_option linter.all false
set_option maxRecDepth 100000
set_option maxHeartbeats 4000000
/-! Mv2: expressions as plain functions. -/
namespace Mv
open PySem PySem.Spec PyProof.Rows L2

abbrev FE := Sl → Mem → Option (D × Mem)
abbrev FT := Sl → Mem → Option (Bool × Mem)
abbrev FA := Sl → Mem → Option (List D × Mem)
section
variable (K : Fg) (r : List Addr) (H : Hp)
def Go (m' : Mem) (d : D) (Q : VK) : Prop := ∀ r' v H', Ext r H r' H' → MemOk K r' H' m' → Val K r' H' v d → Q v H'
def GoT (m' : Mem) (b : Bool) (Q : Bool → Hp → Prop) : Prop := ∀ r' H', Ext r H r' H' → MemOk K r' H' m' → Q b H'
def GoA (m' : Mem) (ds : List D) (Q : List V → Hp → Prop) : Prop := ∀ r' vs H', Ext r H r' H' → MemOk K r' H' m' → VAll K r' H' vs ds → Q vs H'
/-- a new list that is at no place yet -/
def GoL (m' : Mem) (xs : List D) (Q : VK) : Prop := ∀ r' p vs H', Ext r H r' H' → MemOk K r' H' m' → p ∉ r' → H p = none → H' p = some (.lst vs) → VAll K r' H' vs xs → Q (.ref p) H'
end
def EOk (K : Fg) (te : TE) (f : FE) : Prop := ∀ r σ H e m d m', SlOk K r H σ e → MemOk K r H m → f e m = some (d, m') → ∀ Q, Go K r H m' d Q → te σ H Q
def TOk (K : Fg) (tt : TT) (f : FT) : Prop := ∀ r σ H e m b m', SlOk K r H σ e → MemOk K r H m → f e m = some (b, m') → ∀ Q, GoT K r H m' b Q → tt σ H Q
def AOk (K : Fg) (ta : TA) (f : FA) : Prop := ∀ r σ H e m ds m', SlOk K r H σ e → MemOk K r H m → f e m = some (ds, m') → ∀ Q, GoA K r H m' ds Q → ta σ H Q
def LOk (K : Fg) (te : TE) (f : FA) : Prop := ∀ r σ H e m xs m', SlOk K r H σ e → MemOk K r H m → f e m = some (xs, m') → ∀ Q, GoL K r H m' xs Q → te σ H Q
structure E (X : Cx) (e : Expr) (te : TE) (f : FE) : Prop where
  pe : PE X e te
  ok : EOk X.K te f
structure T (X : Cx) (e : Expr) (tt : TT) (f : FT) : Prop where
  pe : PT X e tt
  ok : TOk X.K tt f
structure TW (X : Cx) (e : Expr) (tt : TT) (f : FT) : Prop where
  pe : PW X e tt
  ok : TOk X.K tt f
structure A (X : Cx) (es : List Expr) (ta : TA) (f : FA) : Prop where
  pe : PA X es ta
  ok : AOk X.K ta f
structure L (X : Cx) (e : Expr) (te : TE) (f : FA) : Prop where
  pe : PE X e te
  ok : LOk X.K te f
section
variable {K : Fg} {r r1 : List Addr} {H H1 : Hp} {m m' : Mem} {d : D} {ds : List D} {b : Bool}
theorem Go.here {Q : VK} {v : V} (g : Go K r H m d Q) (hm : MemOk K r H m) (hv : Val K r H v d) : Q v H := g r v H Ext.refl hm hv
theorem Go.step {Q : VK} (g : Go K r H m d Q) (x : Ext r H r1 H1) : Go K r1 H1 m d Q := fun r' v H' y => g r' v H' (x.trans y)
theorem GoT.step {Q : Bool → Hp → Prop} (g : GoT K r H m b Q) (x : Ext r H r1 H1) : GoT K r1 H1 m b Q := fun r' H' y => g r' H' (x.trans y)
theorem GoA.step {Q : List V → Hp → Prop} (g : GoA K r H m ds Q) (x : Ext r H r1 H1) : GoA K r1 H1 m ds Q := fun r' v H' y => g r' v H' (x.trans y)
theorem Ext.back {p : Addr} (x : Ext r H r1 H1) (h : H1 p = none) : H p = none := by
  cases q : H p with
  | none => rfl
  | some o =>
    obtain ⟨o', e⟩ := x.had p o q
    rw [h] at e; cases e
theorem GoL.step {Q : VK} (g : GoL K r H m ds Q) (x : Ext r H r1 H1) : GoL K r1 H1 m ds Q := fun r' p vs H' y hm hp hn => g r' p vs H' (x.trans y) hm hp (x.back hn)
end

/-! ### names, constants -/
def fVar (i : Nat) : FE := fun e m => (e[i]?.join).map fun d => (d, m)
def fC (d : D) : FE := fun _ m => some (d, m)
section
variable {X : Cx} {pos : Pos}
theorem e_var (i : Nat) {x : Str} (hN : X.N[i]? = some x := by rfl) (hv : Vis X.env.scope x := by first | exact Or.inl rfl | exact Or.inr (Or.inl rfl) | exact Or.inr (Or.inr rfl)) (hd : (x == ("__debug__" : Str)) = false := by decide)
    (hcd : (x == ("__classdict__" : Str)) = false := by decide) : E X (.Name x pos) (tVar i) (fVar i) := by
  refine ⟨pe_var hN hv hd hcd, fun r σ H e m d m' hs hm hf Q g => ?_⟩
  unfold fVar at hf
  cases q : e[i]? with
  | none => rw [q] at hf; cases hf
  | some o =>
    rw [q] at hf
    cases o with
    | none => cases hf
    | some d0 =>
      cases hf
      obtain ⟨v, h1, h2⟩ := hs.2 i d q
      exact ⟨v, h1, g.here hm h2⟩
theorem cOk {K : Fg} {v : V} {d : D} (h : ∀ r H, Val K r H v d) : EOk K (tC v) (fC d) := fun r σ H e m d' m' hs hm hf Q g => by
  cases hf
  exact g.here hm (h r H)
theorem e_int {i : Int} {j} : E X (.Constant (.int i) j pos) (tC (.int i)) (fC (.int i)) := ⟨pe_int, cOk fun _ _ => .int i⟩
theorem e_bl {b j} : E X (.Constant (.bool b) j pos) (tC (.bl b)) (fC (.bl b)) := ⟨pe_bl, cOk fun _ _ => .bl b⟩
theorem e_non {j} : E X (.Constant .none j pos) (tC .non) (fC .non) := ⟨pe_non, cOk fun _ _ => .non⟩
theorem e_str {x j} : E X (.Constant (.str x) j pos) (tC (.str x)) (fC (.str x)) := ⟨pe_str, cOk fun _ _ => .str x⟩
/-- a module's int, text -/
theorem e_gint {x : Str} {i : Int} {t : Tok} (hm : X.mg x = some (.int i t)) (hg : Gl X x := by rfl) (hd : (x == ("__debug__" : Str)) = false := by decide) : E X (.Name x pos) (tC (.int i)) (fC (.int i)) := ⟨pe_glob hg hm ⟨t, rfl⟩ hd, cOk fun _ _ => .int i⟩
theorem e_gstr {x z : Str} {t : Tok} (hm : X.mg x = some (.str z t)) (hg : Gl X x := by rfl) (hd : (x == ("__debug__" : Str)) = false := by decide) : E X (.Name x pos) (tC (.str z)) (fC (.str z)) := ⟨pe_glob hg hm ⟨t, rfl⟩ hd, cOk fun _ _ => .str z⟩
end

/-! ### operators by values -/
abbrev G2 := D → D → Mem → Option (D × Mem)
def R2Ok (K : Fg) (rr : R2) (g : G2) : Prop := ∀ r H m x y dx dy d m', MemOk K r H m → Val K r H x dx → Val K r H y dy → g dx dy m = some (d, m') → ∀ Q, Go K r H m' d Q → rr x y H Q
abbrev G1 := D → Mem → Option (D × Mem)
def R1Ok (K : Fg) (rr : V → Hp → VK → Prop) (g : G1) : Prop := ∀ r H m x dx d m', MemOk K r H m → Val K r H x dx → g dx m = some (d, m') → ∀ Q, Go K r H m' d Q → rr x H Q
abbrev GN := List D → Mem → Option (D × Mem)
def RNOk (K : Fg) (rr : List V → Hp → VK → Prop) (g : GN) : Prop := ∀ r H m xs ds d m', MemOk K r H m → VAll K r H xs ds → g ds m = some (d, m') → ∀ Q, Go K r H m' d Q → rr xs H Q
abbrev GLN := List D → Mem → Option (List D × Mem)
/-- a call that makes a new list -/
def RLOk (K : Fg) (rr : List V → Hp → VK → Prop) (g : GLN) : Prop := ∀ r H m xs ds d m', MemOk K r H m → VAll K r H xs ds → g ds m = some (d, m') → ∀ Q, GoL K r H m' d Q → rr xs H Q
/-- a call upon a new list that is at no place -/
def ROnOk (K : Fg) (rr : List V → Hp → VK → Prop) (g : GN) : Prop := ∀ r H m p vs xs d m', MemOk K r H m → p ∉ r → H p = some (.lst vs) → VAll K r H vs xs → g xs m = some (d, m') → ∀ Q, Go K r H m' d Q → rr [.ref p] H Q

def fOp (g : G2) (fa fb : FE) : FE := fun e m => (fa e m).bind fun p => (fb e p.2).bind fun q => g p.1 q.1 q.2
def fUn (g : G1) (fa : FE) : FE := fun e m => (fa e m).bind fun p => g p.1 p.2
def fNil : FA := fun _ m => some ([], m)
def fCons (fa : FE) (fr : FA) : FA := fun e m => (fa e m).bind fun p => (fr e p.2).bind fun q => some (p.1 :: q.1, q.2)
def fCall (g : GN) (fa : FA) : FE := fun e m => (fa e m).bind fun p => g p.1 p.2
theorem bindE {α β : Type} {o : Option α} {f : α → Option β} {b : β} (h : o.bind f = some b) : ∃ a, o = some a ∧ f a = some b := by
  cases o with
  | none => cases h
  | some a => exact ⟨a, rfl, h⟩
theorem SlOk.step {K : Fg} {r r1 : List Addr} {H H1 : Hp} {σ : L2.St} {e : Sl} (h : SlOk K r H σ e) (x : Ext r H r1 H1) : SlOk K r1 H1 σ e := h.mono x
section
variable {K : Fg} {ta tb : TE} {fa fb : FE}
theorem opOk {rr : R2} {g : G2} (hr : R2Ok K rr g) (ha : EOk K ta fa) (hb : EOk K tb fb) : EOk K (tOp rr ta tb) (fOp g fa fb) := fun r σ H e m d m' hs hm hf Q go => by
  obtain ⟨⟨d1, m1⟩, h1, hf⟩ := bindE hf
  obtain ⟨⟨d2, m2⟩, h2, hf⟩ := bindE hf
  refine ha r σ H e m d1 m1 hs hm h1 _ fun r1 v1 H1 x1 hm1 hv1 => ?_
  refine hb r1 σ H1 e m1 d2 m2 (hs.mono x1) hm1 h2 _ fun r2 v2 H2 x2 hm2 hv2 => ?_
  exact hr r2 H2 m2 v1 v2 d1 d2 d m' hm2 (hv1.mono x2) hv2 hf Q ((go.step x1).step x2)
theorem unOk {rr : V → Hp → VK → Prop} {g : G1} (hr : R1Ok K rr g) (ha : EOk K ta fa) : EOk K (tUn rr ta) (fUn g fa) := fun r σ H e m d m' hs hm hf Q go => by
  obtain ⟨⟨d1, m1⟩, h1, hf⟩ := bindE hf
  refine ha r σ H e m d1 m1 hs hm h1 _ fun r1 v1 H1 x1 hm1 hv1 => ?_
  exact hr r1 H1 m1 v1 d1 d m' hm1 hv1 hf Q (go.step x1)
theorem aNil : AOk K tNil fNil := fun r σ H e m ds m' hs hm hf Q g => by
  cases hf
  exact g r [] H Ext.refl hm .nil
theorem aCons {tr : TA} {fr : FA} (ha : EOk K ta fa) (hr : AOk K tr fr) : AOk K (tCons ta tr) (fCons fa fr) := fun r σ H e m ds m' hs hm hf Q g => by
  obtain ⟨⟨d1, m1⟩, h1, hf⟩ := bindE hf
  obtain ⟨⟨d2, m2⟩, h2, hf⟩ := bindE hf
  cases hf
  refine ha r σ H e m d1 m1 hs hm h1 _ fun r1 v1 H1 x1 hm1 hv1 => ?_
  refine hr r1 σ H1 e m1 d2 m2 (hs.mono x1) hm1 h2 _ fun r2 vs H2 x2 hm2 hv2 => ?_
  exact g r2 _ H2 (x1.trans x2) hm2 (.cons (hv1.mono x2) hv2)
theorem callOk {rr : List V → Hp → VK → Prop} {g : GN} {t : TA} {f : FA} (hr : RNOk K rr g) (ha : AOk K t f) : EOk K (tCB rr t) (fCall g f) := fun r σ H e m d m' hs hm hf Q go => by
  obtain ⟨⟨d1, m1⟩, h1, hf⟩ := bindE hf
  refine ha r σ H e m d1 m1 hs hm h1 _ fun r1 vs H1 x1 hm1 hv1 => ?_
  exact hr r1 H1 m1 vs d1 d m' hm1 hv1 hf Q (go.step x1)
def fLCall (g : GLN) (fa : FA) : FA := fun e m => (fa e m).bind fun p => g p.1 p.2
theorem lcallOk {rr : List V → Hp → VK → Prop} {g : GLN} {t : TA} {f : FA} (hr : RLOk K rr g) (ha : AOk K t f) : LOk K (tCB rr t) (fLCall g f) := fun r σ H e m d m' hs hm hf Q go => by
  obtain ⟨⟨d1, m1⟩, h1, hf⟩ := bindE hf
  refine ha r σ H e m d1 m1 hs hm h1 _ fun r1 vs H1 x1 hm1 hv1 => ?_
  exact hr r1 H1 m1 vs d1 d m' hm1 hv1 hf Q (go.step x1)
def fOn (g : GN) (fa : FA) : FE := fun e m => (fa e m).bind fun p => g p.1 p.2
theorem onOk {rr : List V → Hp → VK → Prop} {g : GN} {t : TE} {f : FA} (hr : ROnOk K rr g) (ha : LOk K t f) : EOk K (tCB rr (tCons t tNil)) (fOn g f) := fun r σ H e m d m' hs hm hf Q go => by
  obtain ⟨⟨d1, m1⟩, h1, hf⟩ := bindE hf
  refine ha r σ H e m d1 m1 hs hm h1 _ fun r1 p vs H1 x1 hm1 hp1 hn1 hq1 hv1 => ?_
  exact hr r1 H1 m1 p vs d1 d m' hm1 hp1 hq1 hv1 hf Q (go.step x1)
/-- a new list comes to a place -/
def fPut (f : FA) : FE := fun e m => (f e m).bind fun p => some (.loc p.2.length, p.2 ++ [.lst p.1])
theorem stay_more {r : List Addr} {H : Hp} {p : Addr} {us : List V} (hp : H p = some (.lst us)) : StayI r H (r ++ [p]) H := fun b C dx fs h hn => ⟨h, fun z => by
  rcases List.mem_append.mp z with z | z
  · exact hn z
  · have e : b = p := by simpa using z
    rw [e, hp] at h; cases h⟩
theorem CellOk.more {r : List Addr} {H : Hp} {a p : Addr} {us : List V} {c : Cell} (hp : H p = some (.lst us)) (h : CellOk K r H a c) : CellOk K (r ++ [p]) H a c := by
  cases c with
  | lst xs => obtain ⟨vs, q, w⟩ := h; exact ⟨vs, q, w.mo ⟨[p], rfl⟩ (fun _ _ _ q => q) (stay_more hp)⟩
  | dK ks xs => obtain ⟨vs, q, n, w⟩ := h; exact ⟨vs, q, n, w.mo ⟨[p], rfl⟩ (fun _ _ _ q => q) (stay_more hp)⟩
  | dT ks xs => obtain ⟨vs, q, n, w⟩ := h; exact ⟨vs, q, n, w.mo ⟨[p], rfl⟩ (fun _ _ _ q => q) (stay_more hp)⟩
  | ob nm ks xs => obtain ⟨vs, q, n, w⟩ := h; exact ⟨vs, q, n, w.mo ⟨[p], rfl⟩ (fun _ _ _ q => q) (stay_more hp)⟩
theorem MemOk.adopt {r : List Addr} {H : Hp} {m : Mem} {p : Addr} {vs : List V} {xs : List D} (h : MemOk K r H m) (hp : p ∉ r) (hv : H p = some (.lst vs)) (w : VAll K r H vs xs) : MemOk K (r ++ [p]) H (m ++ [.lst xs]) := by
  refine ⟨by simp [h.len], ?_, fun l c q => ?_⟩
  · rw [List.nodup_append]
    exact ⟨h.nd, by simp, fun a ha b hb z => by
      have e : b = p := by simpa using hb
      subst e; subst z; exact hp ha⟩
  · by_cases hl : l < m.length
    · rw [List.getElem?_append_left hl] at q
      obtain ⟨a, ha, hc⟩ := h.cell l c q
      exact ⟨a, by rw [List.getElem?_append_left (List.getElem?_eq_some_iff.mp ha).1]; exact ha, hc.more hv⟩
    · have e : l = m.length := by
        have := (List.getElem?_eq_some_iff.mp q).1
        simp at this; omega
      subst e
      simp at q; subst q
      exact ⟨p, by rw [← h.len]; simp, vs, hv, w.mo ⟨[p], rfl⟩ (fun _ _ _ q => q) (stay_more hv)⟩
theorem Ext.adopt {r r1 : List Addr} {H H1 : Hp} {p : Addr} (x : Ext r H r1 H1) (h : H p = none) : Ext r H (r1 ++ [p]) H1 :=
  ⟨by obtain ⟨t, e⟩ := x.pre; exact ⟨t ++ [p], by rw [e, List.append_assoc]⟩, fun a ha => by
    rcases List.mem_append.mp ha with ha | ha
    · exact x.new a ha
    · have e : a = p := by simpa using ha
      subst e; exact .inr h, x.keep, x.fix, x.had⟩
theorem putOk {te : TE} {f : FA} (h : LOk K te f) : EOk K te (fPut f) := fun r σ H e m d m' hs hm hf Q go => by
  obtain ⟨⟨xs, m1⟩, h1, hf⟩ := bindE hf
  cases hf
  refine h r σ H e m xs m1 hs hm h1 _ fun r1 p vs H1 x1 hm1 hp hn hq hv => ?_
  refine go (r1 ++ [p]) (.ref p) H1 (x1.adopt hn) (hm1.adopt hp hq hv) (.loc ?_)
  rw [← hm1.len]; simp
end
theorem L.put {X : Cx} {e : Expr} {te : TE} {f : FA} (h : L X e te f) : E X e te (fPut f) := ⟨h.pe, putOk h.ok⟩
/-- new objects -/
theorem Go.newTup {K : Fg} {r : List Addr} {H : Hp} {m : Mem} {vs : List V} {xs : List D} {Q : VK} (g : Go K r H m (.tup xs) Q) (hm : MemOk K r H m) (hv : VAll K r H vs xs) {p : Addr} (hp : H p = none) : Q (.ref p) (upd H p (.tup vs)) :=
  g r (.ref p) _ (Ext.fresh hp) (hm.fresh hp) (.tup (.inl upd_same) (hv.mono (Ext.fresh hp)))
theorem Go.newLst {K : Fg} {r : List Addr} {H : Hp} {m : Mem} {vs : List V} {xs : List D} {Q : VK} (g : Go K r H (m ++ [.lst xs]) (.loc m.length) Q) (hm : MemOk K r H m) (hv : VAll K r H vs xs) {p : Addr} (hp : H p = none) : Q (.ref p) (upd H p (.lst vs)) :=
  g (r ++ [p]) (.ref p) _ (Ext.alloc hp) (hm.alloc hp hv) (.loc (by rw [← hm.len]; simp))
theorem notAt {K : Fg} {r : List Addr} {H : Hp} {m : Mem} {p : Addr} (hm : MemOk K r H m) (hp : H p = none) : p ∉ r := hm.notIn hp
theorem GoL.new {K : Fg} {r : List Addr} {H : Hp} {m : Mem} {vs : List V} {xs : List D} {Q : VK} (g : GoL K r H m xs Q) (hm : MemOk K r H m) (hv : VAll K r H vs xs) {p : Addr} (hp : H p = none) : Q (.ref p) (upd H p (.lst vs)) :=
  g r p vs _ (Ext.fresh hp) (hm.fresh hp) (notAt hm hp) hp upd_same (hv.mono (Ext.fresh hp))

/-! ### displays -/
def fTup (fa : FA) : FE := fun e m => (fa e m).bind fun p => if p.1.length ≤ 100000 then some (.tup p.1, p.2) else none
def fLst (fa : FA) : FA := fun e m => (fa e m).bind fun p => if p.1.length ≤ 100000 then some p else none
theorem lineOf {n : Nat} (h : n ≤ 100000) : n ≤ sizeLine := Nat.le_trans h (by rw [sizeLine_eq]; decide)
section
variable {X : Cx} {pos : Pos} {es : List Expr} {ta : TA} {fa : FA}
theorem a_nil : A X [] tNil fNil := ⟨pa_nil, aNil⟩
theorem a_cons {e : Expr} {te : TE} {fe : FE} (h : E X e te fe) (hr : A X es ta fa) (hs : starEach (e :: es) X.env = (false, eval e X.env) :: starEach es X.env := by rfl) : A X (e :: es) (tCons te ta) (fCons fe fa) := ⟨pa_cons h.pe hr.pe hs, aCons h.ok hr.ok⟩
theorem e_tup {x1} (h : A X es ta fa) : E X (.Tuple es x1 pos) (tTup ta) (fTup fa) := by
  refine ⟨pe_tup h.pe, fun r σ H e m d m' hs hm hf Q go => ?_⟩
  obtain ⟨⟨ds, m1⟩, h1, hf⟩ := bindE hf
  split at hf
  · rename_i hz
    cases hf
    refine h.ok r σ H e m ds m1 hs hm h1 _ fun r1 vs H1 x1 hm1 hv1 => ⟨by rw [hv1.length]; exact lineOf hz, fun p hp => (go.step x1).newTup hm1 hv1 hp⟩
  · cases hf
theorem l_lst (h : A X es ta fa) : L X (.List es pos) (tLst ta) (fLst fa) := by
  refine ⟨pe_lst h.pe, fun r σ H e m d m' hs hm hf Q go => ?_⟩
  obtain ⟨⟨ds, m1⟩, h1, hf⟩ := bindE hf
  split at hf
  · rename_i hz
    cases hf
    refine h.ok r σ H e m d m' hs hm h1 _ fun r1 vs H1 x1 hm1 hv1 => ⟨by rw [hv1.length]; exact lineOf hz, fun p hp => (go.step x1).new hm1 hv1 hp⟩
  · cases hf
end

/-! ### arithmetic -/
def gAdd : G2
  | .int i, .int j, m => some (.int (i + j), m)
  | .tup xs, .tup ys, m => if xs.length + ys.length ≤ 100000 then some (.tup (xs ++ ys), m) else none
  | .loc a, .loc b, m => match m[a]?, m[b]? with
    | some (.lst xs), some (.lst ys) => if xs.length + ys.length ≤ 100000 then some (.loc m.length, m ++ [.lst (xs ++ ys)]) else none
    | _, _ => none
  | .str x, .str y, m => if x.length + y.length ≤ 100000 then some (.str (x ++ y), m) else none
  | _, _, _ => none
def rAddA (K : Fg) : R2 := fun x y H Q => rI0 (fun i j => .int (i + j)) x y H Q ∨ rCatA K x y H Q ∨ rCat x y H Q ∨ (∃ i j, x = .str i ∧ y = .str j ∧ i.length + j.length ≤ sizeLine ∧ Q (.str (i ++ j)) H)
theorem op_addA {X : Cx} : OpR X (binaryOp .Add) (rAddA X.K) := op_add.or (op_catA.or (op_cat.or op_add_str))
theorem gAdd_ok {K : Fg} : R2Ok K (rAddA K) gAdd := fun r H m x y dx dy d m' hm hx hy hg Q go => by
  unfold gAdd at hg
  split at hg
  · cases hg
    rw [hx.intE, hy.intE]
    exact .inl ⟨_, _, rfl, rfl, go.here hm (.int _)⟩
  · split at hg
    · rename_i hz
      cases hg
      obtain ⟨a, vs, rfl, ha, hva⟩ := hx.tupE
      obtain ⟨b, us, rfl, hb, hvb⟩ := hy.tupE
      refine .inr (.inl ⟨a, b, vs, us, rfl, rfl, ha.sq, hb.sq, by rw [hva.length, hvb.length]; exact lineOf hz, fun e => ?_, fun _ e => ?_, fun _ _ p hp => go.newTup hm (hva.append hvb) hp⟩)
      · subst e
        cases hva
        exact go.here hm (.tup hb hvb)
      · subst e
        cases hvb
        rw [List.append_nil] at go
        exact go.here hm (.tup ha hva)
    · cases hg
  · split at hg
    · rename_i q1 q2
      split at hg
      · rename_i hz
        cases hg
        obtain ⟨a, rfl, ha⟩ := hx.locE
        obtain ⟨b, rfl, hb⟩ := hy.locE
        obtain ⟨vs, h1, hva⟩ := hm.lst ha q1
        obtain ⟨us, h2, hvb⟩ := hm.lst hb q2
        exact .inr (.inr (.inl ⟨a, b, vs, us, rfl, rfl, h1, h2, by rw [hva.length, hvb.length]; exact lineOf hz, fun p hp => go.newLst hm (hva.append hvb) hp⟩))
      · cases hg
    · cases hg
  · split at hg
    · rename_i hz
      cases hg
      rw [hx.strE, hy.strE]
      exact .inr (.inr (.inr ⟨_, _, rfl, rfl, lineOf hz, go.here hm (.str _)⟩))
    · cases hg
  · cases hg
/-- ints alone -/
def gInt (C : Int → Int → Bool) (f : Int → Int → D) : G2
  | .int i, .int j, m => if C i j = true then some (f i j, m) else none
  | _, _, _ => none
theorem gInt_ok {K : Fg} {C : Int → Int → Bool} {P : Int → Int → Prop} {f : Int → Int → D} {fv : Int → Int → V} (hC : ∀ i j, C i j = true → P i j) (hv : ∀ r H i j, Val K r H (fv i j) (f i j)) : R2Ok K (rI P fv) (gInt C f) := fun r H m x y dx dy d m' hm hx hy hg Q go => by
  unfold gInt at hg
  split at hg
  · split at hg
    · rename_i hc
      cases hg
      rw [hx.intE, hy.intE]
      exact ⟨_, _, rfl, rfl, hC _ _ hc, go.here hm (hv _ _ _ _)⟩
    · cases hg
  · cases hg
def gInt0 (f : Int → Int → D) : G2
  | .int i, .int j, m => some (f i j, m)
  | _, _, _ => none
theorem gInt0_ok {K : Fg} {f : Int → Int → D} {fv : Int → Int → V} (hv : ∀ r H i j, Val K r H (fv i j) (f i j)) : R2Ok K (rI0 fv) (gInt0 f) := fun r H m x y dx dy d m' hm hx hy hg Q go => by
  unfold gInt0 at hg
  split at hg
  · cases hg
    rw [hx.intE, hy.intE]
    exact ⟨_, _, rfl, rfl, go.here hm (hv _ _ _ _)⟩
  · cases hg
abbrev gSub : G2 := gInt0 fun i j => .int (i - j)
abbrev gFDiv : G2 := gInt (fun i j => decide (0 < j ∧ j < 1073741824)) fun i j => .int (i / j)
abbrev gMod : G2 := gInt (fun i j => decide (0 < j)) fun i j => .int (i % j)
abbrev gPow : G2 := gInt (fun i j => decide (0 ≤ j ∧ j ≤ 1000000 ∧ i.natAbs < 2 ^ 64)) fun i j => .int (i ^ j.toNat)
abbrev gLt : G2 := gInt0 fun i j => .bl (decide (i < j))
abbrev gLe : G2 := gInt0 fun i j => .bl (decide (i ≤ j))
abbrev gGt : G2 := gInt0 fun i j => .bl (decide (j < i))
abbrev gGe : G2 := gInt0 fun i j => .bl (decide (j ≤ i))
def gMul : G2
  | .int i, .int j, m => if (-(2 ^ 64) < i ∧ i < 2 ^ 64) ∨ (-(2 ^ 64) < j ∧ j < 2 ^ 64) then some (.int (i * j), m) else none
  | .tup xs, .int k, m => if xs ≠ [] ∧ 2 ≤ k ∧ k ≤ 1000 ∧ xs.length ≤ 1000 then some (.tup (List.replicate k.toNat xs).flatten, m) else none
  | .loc a, .int k, m => match m[a]? with
    | some (.lst xs) => if -(2 ^ 63) ≤ k ∧ k < 2 ^ 63 ∧ xs.length * k.toNat ≤ 100000 then some (.loc m.length, m ++ [.lst (List.replicate k.toNat xs).flatten]) else none
    | _ => none
  | _, _, _ => none
def rMulA (K : Fg) : R2 := fun x y H Q => rI CMul (fun i j => .int (i * j)) x y H Q ∨ rRepT K x y H Q ∨ rRep x y H Q
theorem op_mulA {X : Cx} : OpR X (binaryOp .Mult) (rMulA X.K) := op_mul.or (op_repT.or op_rep)
theorem VAll.neNil {K : Fg} {r : List Addr} {H : Hp} {vs : List V} {xs : List D} (h : VAll K r H vs xs) (n : xs ≠ []) : vs ≠ [] := fun z => by
  subst z
  cases h
  exact n rfl
theorem gMul_ok {K : Fg} : R2Ok K (rMulA K) gMul := fun r H m x y dx dy d m' hm hx hy hg Q go => by
  unfold gMul at hg
  split at hg
  · split at hg
    · rename_i hc
      cases hg
      rw [hx.intE, hy.intE]
      exact .inl ⟨_, _, rfl, rfl, hc, go.here hm (.int _)⟩
    · cases hg
  · split at hg
    · rename_i hz
      cases hg
      obtain ⟨a, vs, rfl, ha, hva⟩ := hx.tupE
      rw [hy.intE]
      exact .inr (.inl ⟨a, _, vs, rfl, rfl, ha.sq, hva.neNil hz.1, hz.2.1, hz.2.2.1, by rw [hva.length]; exact hz.2.2.2, fun p hp => go.newTup hm (hva.rep _) hp⟩)
    · cases hg
  · split at hg
    · rename_i q1
      split at hg
      · rename_i hz
        cases hg
        obtain ⟨a, rfl, ha⟩ := hx.locE
        rw [hy.intE]
        obtain ⟨vs, h1, hva⟩ := hm.lst ha q1
        exact .inr (.inr ⟨a, _, vs, rfl, rfl, h1, hz.1, hz.2.1, by rw [hva.length]; exact lineOf hz.2.2, fun p hp => go.newLst hm (hva.rep _) hp⟩)
      · cases hg
    · cases hg
  · cases hg
def gNeg : G1
  | .int i, m => some (.int (-i), m)
  | _, _ => none
theorem gNeg_ok {K : Fg} : R1Ok K (rU fun i => .int (-i)) gNeg := fun r H m x dx d m' hm hx hg Q go => by
  unfold gNeg at hg
  split at hg
  · cases hg
    rw [hx.intE]
    exact ⟨_, rfl, go.here hm (.int _)⟩
  · cases hg
section
variable {X : Cx} {a b : Expr} {ta tb : TE} {fa fb : FE} {pos : Pos}
theorem e_add (ha : E X a ta fa) (hb : E X b tb fb) : E X (.BinOp a .Add b pos) (tOp (rAddA X.K) ta tb) (fOp gAdd fa fb) := ⟨pe_op op_addA ha.pe hb.pe, opOk gAdd_ok ha.ok hb.ok⟩
theorem e_sub (ha : E X a ta fa) (hb : E X b tb fb) : E X (.BinOp a .Sub b pos) (tOp (rI0 fun i j => .int (i - j)) ta tb) (fOp gSub fa fb) := ⟨pe_op op_sub ha.pe hb.pe, opOk (gInt0_ok fun _ _ _ _ => .int _) ha.ok hb.ok⟩
theorem e_mul (ha : E X a ta fa) (hb : E X b tb fb) : E X (.BinOp a .Mult b pos) (tOp (rMulA X.K) ta tb) (fOp gMul fa fb) := ⟨pe_op op_mulA ha.pe hb.pe, opOk gMul_ok ha.ok hb.ok⟩
theorem e_fdiv (ha : E X a ta fa) (hb : E X b tb fb) : E X (.BinOp a .FloorDiv b pos) (tOp (rI CDiv fun i j => .int (i / j)) ta tb) (fOp gFDiv fa fb) := ⟨pe_op op_fdiv ha.pe hb.pe, opOk (gInt_ok (fun _ _ h => by have q := of_decide_eq_true h; exact q) fun _ _ _ _ => .int _) ha.ok hb.ok⟩
theorem e_mod (ha : E X a ta fa) (hb : E X b tb fb) : E X (.BinOp a .Mod b pos) (tOp (rI (fun _ j => 0 < j) fun i j => .int (i % j)) ta tb) (fOp gMod fa fb) := ⟨pe_op op_mod ha.pe hb.pe, opOk (gInt_ok (fun _ _ h => by have q := of_decide_eq_true h; exact q) fun _ _ _ _ => .int _) ha.ok hb.ok⟩
theorem e_pow (ha : E X a ta fa) (hb : E X b tb fb) : E X (.BinOp a .Pow b pos) (tOp (rI CPow fun i j => .int (i ^ j.toNat)) ta tb) (fOp gPow fa fb) := ⟨pe_op op_pow ha.pe hb.pe, opOk (gInt_ok (fun _ _ h => by have q := of_decide_eq_true h; exact q) fun _ _ _ _ => .int _) ha.ok hb.ok⟩
theorem e_neg (ha : E X a ta fa) : E X (.UnaryOp .USub a pos) (tUn (rU fun i => .int (-i)) ta) (fUn gNeg fa) := ⟨pe_un un_neg ha.pe, unOk gNeg_ok ha.ok⟩
theorem e_lt (ha : E X a ta fa) (hb : E X b tb fb) : E X (.Compare a [.Lt] [b] pos) (tOp (rI0 fun i j => .bl (decide (i < j))) ta tb) (fOp gLt fa fb) := ⟨pe_cmpR op_lt ha.pe hb.pe (nomark _), opOk (gInt0_ok fun _ _ _ _ => .bl _) ha.ok hb.ok⟩
theorem e_le (ha : E X a ta fa) (hb : E X b tb fb) : E X (.Compare a [.LtE] [b] pos) (tOp (rI0 fun i j => .bl (decide (i ≤ j))) ta tb) (fOp gLe fa fb) := ⟨pe_cmpR op_le ha.pe hb.pe (nomark _), opOk (gInt0_ok fun _ _ _ _ => .bl _) ha.ok hb.ok⟩
theorem e_gt (ha : E X a ta fa) (hb : E X b tb fb) : E X (.Compare a [.Gt] [b] pos) (tOp (rI0 fun i j => .bl (decide (j < i))) ta tb) (fOp gGt fa fb) := ⟨pe_cmpR op_gt ha.pe hb.pe (nomark _), opOk (gInt0_ok fun _ _ _ _ => .bl _) ha.ok hb.ok⟩
theorem e_ge (ha : E X a ta fa) (hb : E X b tb fb) : E X (.Compare a [.GtE] [b] pos) (tOp (rI0 fun i j => .bl (decide (j ≤ i))) ta tb) (fOp gGe fa fb) := ⟨pe_cmpR op_ge ha.pe hb.pe (nomark _), opOk (gInt0_ok fun _ _ _ _ => .bl _) ha.ok hb.ok⟩
end
end Mv

set_option Elab.async false
set_option linter.all false
set_option maxRecDepth 100000
set_option maxHeartbeats 4000000
/-! Mv3: comparisons, tests, calls of built-ins. -/
namespace Mv
open PySem PySem.Spec PyProof.Rows L2

/-! ### data without places, for == -/
mutual
def D.py : D → PyData
  | .non => .none | .bl b => .bool b | .int i => .int i | .str x => .str x | .tup xs => .tuple (D.pyAll xs) | .loc _ => .none | .ty _ => .none | .kl _ => .none | .cls _ => .none | .ins _ _ _ => .none | .stp xs => .tuple (D.pyAll xs)
def D.pyAll : List D → List PyData
  | [] => []
  | x :: xs => x.py :: D.pyAll xs
end
mutual
def D.pure : D → Bool
  | .non => true | .bl _ => true | .int _ => true | .str _ => true | .tup xs => D.pureAll xs | .loc _ => false | .ty _ => false | .kl _ => false | .cls _ => false | .ins _ _ _ => false | .stp xs => D.pureAll xs
def D.pureAll : List D → Bool
  | [] => true
  | x :: xs => x.pure && D.pureAll xs
end
section
variable {K : Fg} {r : List Addr} {H : Hp}
mutual
theorem Val.dp : ∀ {v : V} {d : D}, Val K r H v d → d.pure = true → Dp K H v d.py
  | _, _, .non, _ => .non
  | _, _, .bl b, _ => .bl b
  | _, _, .int i, _ => .int i
  | _, _, .str x, _ => .str x
  | _, _, .tup h hs, p => .tup h.sq (VAll.dp hs p)
  | _, _, .loc _, p => by cases p
  | _, _, .ty _, p => by cases p
  | _, _, .kl _ _, p => by cases p
  | _, _, .cls _, p => by cases p
  | _, _, .stp h _ hs, p => .tup (.inl (.inr ⟨_, h⟩)) (VAll.dp hs p)
  | _, _, .ins _ _ _ _ _, p => by cases p
theorem VAll.dp : ∀ {vs : List V} {ds : List D}, VAll K r H vs ds → D.pureAll ds = true → DpAll K H vs (D.pyAll ds)
  | _, _, .nil, _ => .nil
  | _, _, .cons h hs, p => by
    have q := Bool.and_eq_true_iff.mp p
    exact .cons (Val.dp h q.1) (VAll.dp hs q.2)
end
theorem pure_val (d : D) : ∀ {v : V}, d.pure = true → Val K r H v d → Dp K H v d.py := fun h hv => hv.dp h
mutual
/-- a value as data, f what stands at the places -/
def D.pyF (f : Nat → Option PyData) : D → Option PyData
  | .non => some .none | .bl b => some (.bool b) | .int i => some (.int i) | .str x => some (.str x) | .tup xs => (D.pyFAll f xs).map .tuple | .loc l => f l | .ty _ => none | .kl _ => none | .cls _ => none | .ins _ _ _ => none | .stp xs => (D.pyFAll f xs).map .tuple
def D.pyFAll (f : Nat → Option PyData) : List D → Option (List PyData)
  | [] => some []
  | x :: xs => (x.pyF f).bind fun p => (D.pyFAll f xs).map fun ps => p :: ps
end
/-- lists at places read, n deep -/
def lookN (m : Mem) : Nat → Nat → Option PyData
  | 0, _ => none
  | n + 1, l => (rd m l).bind fun xs => (D.pyFAll (lookN m n) xs).map .list
def res (m : Mem) (d : D) : Option PyData := d.pyF (lookN m 3)
mutual
theorem D.pyF_pure (f : Nat → Option PyData) : ∀ d : D, d.pure = true → d.pyF f = some d.py
  | .non, _ => rfl
  | .bl _, _ => rfl
  | .int _, _ => rfl
  | .str _, _ => rfl
  | .tup xs, h => by
    show (D.pyFAll f xs).map PyData.tuple = _
    rw [D.pyFAll_pure f xs h]; rfl
  | .loc _, h => by cases h
  | .ty _, h => by cases h
  | .kl _, h => by cases h
  | .cls _, h => by cases h
  | .ins _ _ _, h => by cases h
  | .stp xs, h => by
    show (D.pyFAll f xs).map PyData.tuple = _
    rw [D.pyFAll_pure f xs h]; rfl
theorem D.pyFAll_pure (f : Nat → Option PyData) : ∀ ds : List D, D.pureAll ds = true → D.pyFAll f ds = some (D.pyAll ds)
  | [], _ => rfl
  | d :: ds, h => by
    have q := Bool.and_eq_true_iff.mp h
    show (d.pyF f).bind _ = _
    rw [D.pyF_pure f d q.1, D.pyFAll_pure f ds q.2]; rfl
end
theorem bindE' {α β : Type} {o : Option α} {f : α → Option β} {b : β} (h : o.bind f = some b) : ∃ a, o = some a ∧ f a = some b := bindE h
theorem mapE' {α β : Type} {o : Option α} {f : α → β} {b : β} (h : o.map f = some b) : ∃ a, o = some a ∧ f a = b := by
  cases o with
  | none => cases h
  | some a => cases h; exact ⟨a, rfl, rfl⟩
mutual
theorem D.pyF_ok {f : Nat → Option PyData} (hf : ∀ l a p, r[l]? = some a → f l = some p → Dp K H (.ref a) p) : ∀ (d : D) {v : V} {p : PyData}, Val K r H v d → d.pyF f = some p → Dp K H v p
  | .non, _, _, .non, h => by cases h; exact .non
  | .bl b, _, _, .bl _, h => by cases h; exact .bl b
  | .int i, _, _, .int _, h => by cases h; exact .int i
  | .str x, _, _, .str _, h => by cases h; exact .str x
  | .tup xs, _, _, .tup ha hs, h => by
    obtain ⟨ps, h1, h2⟩ := mapE' h
    subst h2
    exact .tup ha.sq (D.pyFAll_ok hf xs hs h1)
  | .loc l, _, _, .loc ha, h => hf l _ _ ha h
  | .ty _, _, _, _, h => by cases h
  | .kl _, _, _, _, h => by cases h
  | .cls _, _, _, _, h => by cases h
  | .stp xs, _, _, .stp ha _ hs, h => by
    obtain ⟨ps, h1, h2⟩ := mapE' h
    subst h2
    exact .tup (.inl (.inr ⟨_, ha⟩)) (D.pyFAll_ok hf xs hs h1)
  | .ins _ _ _, _, _, _, h => by cases h
theorem D.pyFAll_ok {f : Nat → Option PyData} (hf : ∀ l a p, r[l]? = some a → f l = some p → Dp K H (.ref a) p) : ∀ (ds : List D) {vs : List V} {ps : List PyData}, VAll K r H vs ds → D.pyFAll f ds = some ps → DpAll K H vs ps
  | [], _, _, .nil, h => by cases h; exact .nil
  | d :: ds, _, _, .cons hv hs, h => by
    obtain ⟨p, h1, h⟩ := bindE' h
    obtain ⟨ps, h2, h3⟩ := mapE' h
    subst h3
    exact .cons (D.pyF_ok hf d hv h1) (D.pyFAll_ok hf ds hs h2)
end
theorem lookN_ok {m : Mem} (hm : MemOk K r H m) : ∀ (n l : Nat) (a : Addr) (p : PyData), r[l]? = some a → lookN m n l = some p → Dp K H (.ref a) p
  | 0, _, _, _, _, h => by cases h
  | n + 1, l, a, p, ha, h => by
    obtain ⟨xs, h1, h⟩ := bindE' h
    obtain ⟨ps, h2, h3⟩ := mapE' h
    subst h3
    obtain ⟨vs, q1, q2⟩ := hm.rd ha h1
    exact .lst q1 (D.pyFAll_ok (lookN_ok hm n) xs q2 h2)
theorem res_ok {m : Mem} {v : V} {d : D} {p : PyData} (hm : MemOk K r H m) (hv : Val K r H v d) (h : res m d = some p) : Dp K H v p := D.pyF_ok (lookN_ok hm 3) d hv h
theorem res_pure {m : Mem} {d : D} (h : d.pure = true) : res m d = some d.py := D.pyF_pure _ d h
end
def eqD (x y : PyData) : Option Bool := if SeqAt.shaped x = true ∧ SeqAt.shaped y = true then some (PyData.eqv x y) else none
def gEq : G2 := fun x y m => (res m x).bind fun p => (res m y).bind fun q => (eqD p q).map fun b => (.bl b, m)
def gNe : G2 := fun x y m => (res m x).bind fun p => (res m y).bind fun q => (eqD p q).map fun b => (.bl (!b), m)
theorem mapE {α β : Type} {o : Option α} {f : α → β} {b : β} (h : o.map f = some b) : ∃ a, o = some a ∧ f a = b := by
  cases o with
  | none => cases h
  | some a => cases h; exact ⟨a, rfl, rfl⟩
theorem eqD_ok {x y : PyData} {b : Bool} (h : eqD x y = some b) : SeqAt.shaped x = true ∧ SeqAt.shaped y = true ∧ PyData.eqv x y = b := by
  unfold eqD at h
  split at h
  · rename_i q; cases h; exact ⟨q.1, q.2, rfl⟩
  · cases h
theorem gEq_ok {K : Fg} : R2Ok K (rEqD K) gEq := fun r H m x y dx dy d m' hm hx hy hg Q go => by
  obtain ⟨p, h1, hg⟩ := bindE hg
  obtain ⟨q, h2, hg⟩ := bindE hg
  obtain ⟨b, h3, hg⟩ := mapE hg
  cases hg
  obtain ⟨s1, s2, e⟩ := eqD_ok h3
  subst e
  exact ⟨p, q, res_ok hm hx h1, res_ok hm hy h2, s1, s2, go.here hm (.bl _)⟩
theorem gNe_ok {K : Fg} : R2Ok K (rNeD K) gNe := fun r H m x y dx dy d m' hm hx hy hg Q go => by
  obtain ⟨p, h1, hg⟩ := bindE hg
  obtain ⟨q, h2, hg⟩ := bindE hg
  obtain ⟨b, h3, hg⟩ := mapE hg
  cases hg
  obtain ⟨s1, s2, e⟩ := eqD_ok h3
  subst e
  exact ⟨p, q, res_ok hm hx h1, res_ok hm hy h2, s1, s2, go.here hm (.bl _)⟩
/-- is, of truths -/
def gIs : G2
  | .bl a, .bl b, m => some (.bl (decide (a = b)), m)
  | _, _, _ => none
def gIsNot : G2
  | .bl a, .bl b, m => some (.bl (!decide (a = b)), m)
  | _, _, _ => none
def rIsB2 : R2 := fun x y H Q => ∃ a b, x = .bl a ∧ y = .bl b ∧ Q (.bl (decide (a = b))) H
def rIsNB2 : R2 := fun x y H Q => ∃ a b, x = .bl a ∧ y = .bl b ∧ Q (.bl (!decide (a = b))) H
theorem gIs_ok {K : Fg} : R2Ok K rIsB2 gIs := fun r H m x y dx dy d m' hm hx hy hg Q go => by
  unfold gIs at hg
  split at hg
  · cases hg
    rw [hx.blE, hy.blE]
    exact ⟨_, _, rfl, rfl, go.here hm (.bl _)⟩
  · cases hg
theorem gIsNot_ok {K : Fg} : R2Ok K rIsNB2 gIsNot := fun r H m x y dx dy d m' hm hx hy hg Q go => by
  unfold gIsNot at hg
  split at hg
  · cases hg
    rw [hx.blE, hy.blE]
    exact ⟨_, _, rfl, rfl, go.here hm (.bl _)⟩
  · cases hg
/-- a comparison's operator -/
structure Cm (X : Cx) (op : CmpOp) (rr : R2) (g : G2) : Prop where
  orr : OpR X (compareOp op) rr
  ok : R2Ok X.K rr g
section
variable {X : Cx}
theorem cm_lt : Cm X .Lt (rI0 fun i j => .bl (decide (i < j))) gLt := ⟨op_lt, gInt0_ok fun _ _ _ _ => .bl _⟩
theorem cm_le : Cm X .LtE (rI0 fun i j => .bl (decide (i ≤ j))) gLe := ⟨op_le, gInt0_ok fun _ _ _ _ => .bl _⟩
theorem cm_gt : Cm X .Gt (rI0 fun i j => .bl (decide (j < i))) gGt := ⟨op_gt, gInt0_ok fun _ _ _ _ => .bl _⟩
theorem cm_ge : Cm X .GtE (rI0 fun i j => .bl (decide (j ≤ i))) gGe := ⟨op_ge, gInt0_ok fun _ _ _ _ => .bl _⟩
theorem cm_eq (hu : X.A.units + 64 < cLine) : Cm X .Eq (rEqD X.K) gEq := ⟨op_eqD hu, gEq_ok⟩
theorem cm_ne (hu : X.A.units + 64 < cLine) : Cm X .NotEq (rNeD X.K) gNe := ⟨op_neD hu, gNe_ok⟩
theorem cm_is : Cm X .Is rIsB2 gIs := ⟨op_is_bl, gIs_ok⟩
theorem cm_isnot : Cm X .IsNot rIsNB2 gIsNot := ⟨op_isnot_bl, gIsNot_ok⟩
variable {a b c : Expr} {ta tb tc : TE} {fa fb fc : FE} {pos : Pos} {op op' : CmpOp} {rr rr' : R2} {g g' : G2}
def asB : D → Option Bool
  | .bl b => some b
  | _ => none
theorem asB_ok {d : D} {b : Bool} (h : asB d = some b) : d = .bl b := by
  cases d <;> first | (cases h; rfl) | cases h
def fTest (f : FE) : FT := fun e m => (f e m).bind fun p => (asB p.1).map fun b => (b, p.2)
theorem testOk {K : Fg} {te : TE} {f : FE} (h : EOk K te f) : TOk K (tTest te) (fTest f) := fun r σ H e m b m' hs hm hf Q go => by
  obtain ⟨⟨d, m1⟩, h1, hf⟩ := bindE hf
  obtain ⟨k, h2, hf⟩ := mapE hf
  cases hf
  have hk' := asB_ok h2
  have hk'' : d = .bl b := hk'
  subst hk''
  exact h r σ H e m _ _ hs hm h1 _ fun r1 v1 H1 x1 hm1 hv1 => ⟨b, hv1.blE, go r1 H1 x1 hm1⟩
theorem e_cmp (o : Cm X op rr g) (ha : E X a ta fa) (hb : E X b tb fb) (hm : behindInMarks op b = false := by first | exact nomark _ | with_unfolding_all rfl) : E X (.Compare a [op] [b] pos) (tOp rr ta tb) (fOp g fa fb) := ⟨pe_cmpR o.orr ha.pe hb.pe hm, opOk o.ok ha.ok hb.ok⟩
theorem t_cmp (o : Cm X op rr g) (ha : E X a ta fa) (hb : E X b tb fb) (hm : behindInMarks op b = false := by first | exact nomark _ | with_unfolding_all rfl) : T X (.Compare a [op] [b] pos) (tTest (tOp rr ta tb)) (fTest (fOp g fa fb)) := ⟨pt_cmpR o.orr ha.pe hb.pe hm, testOk (opOk o.ok ha.ok hb.ok)⟩
def fChain (g g' : G2) (fa fb fc : FE) : FE := fun e m => (fa e m).bind fun p => (fb e p.2).bind fun q => (g p.1 q.1 q.2).bind fun u => match u.1 with
  | .bl true => (fc e u.2).bind fun v => g' q.1 v.1 v.2
  | .bl false => some (.bl false, u.2)
  | _ => none
theorem chainOk {K : Fg} (h : R2Ok K rr g) (h' : R2Ok K rr' g') (ha : EOk K ta fa) (hb : EOk K tb fb) (hc : EOk K tc fc) : EOk K (tChain rr rr' ta tb tc) (fChain g g' fa fb fc) := fun r σ H e m d m' hs hm hf Q go => by
  obtain ⟨⟨d1, m1⟩, h1, hf⟩ := bindE hf
  obtain ⟨⟨d2, m2⟩, h2, hf⟩ := bindE hf
  obtain ⟨⟨d3, m3⟩, h3, hf⟩ := bindE hf
  refine ha r σ H e m d1 m1 hs hm h1 _ fun r1 v1 H1 x1 hm1 hv1 => ?_
  refine hb r1 σ H1 e m1 d2 m2 (hs.mono x1) hm1 h2 _ fun r2 v2 H2 x2 hm2 hv2 => ?_
  refine h r2 H2 m2 v1 v2 d1 d2 d3 m3 hm2 (hv1.mono x2) hv2 h3 _ fun r3 v3 H3 x3 hm3 hv3 => ?_
  split at hf
  · rename_i hk
    have hk' : d3 = .bl true := hk
    subst hk'
    obtain ⟨⟨d4, m4⟩, h4, hf⟩ := bindE hf
    refine ⟨true, hv3.blE, iteT ?_⟩
    refine hc r3 σ H3 e m3 d4 m4 (hs.mono ((x1.trans x2).trans x3)) hm3 h4 _ fun r4 v4 H4 x4 hm4 hv4 => ?_
    exact h' r4 H4 m4 v2 v4 d2 d4 d m' hm4 (hv2.mono (x3.trans x4)) hv4 hf Q (go.step (((x1.trans x2).trans x3).trans x4))
  · rename_i hk
    have hk' : d3 = .bl false := hk
    subst hk'
    cases hf
    exact ⟨false, hv3.blE, iteF ((go.step ((x1.trans x2).trans x3)).here hm3 (.bl false))⟩
  · cases hf
theorem e_chain (o : Cm X op rr g) (o' : Cm X op' rr' g') (ha : E X a ta fa) (hb : E X b tb fb) (hc : E X c tc fc) (hm : lastMarks [op, op'] [b, c] = false := by with_unfolding_all rfl) :
    E X (.Compare a [op, op'] [b, c] pos) (tChain rr rr' ta tb tc) (fChain g g' fa fb fc) := ⟨pe_chain o.orr o'.orr ha.pe hb.pe hc.pe hm, chainOk o.ok o'.ok ha.ok hb.ok hc.ok⟩
theorem t_chain (o : Cm X op rr g) (o' : Cm X op' rr' g') (ha : E X a ta fa) (hb : E X b tb fb) (hc : E X c tc fc) (hm : lastMarks [op, op'] [b, c] = false := by with_unfolding_all rfl) :
    T X (.Compare a [op, op'] [b, c] pos) (tTest (tChain rr rr' ta tb tc)) (fTest (fChain g g' fa fb fc)) := ⟨pt_chain o.orr o'.orr ha.pe hb.pe hc.pe hm, testOk (chainOk o.ok o'.ok ha.ok hb.ok hc.ok)⟩
/-- is None -/
def D.isNon : D → Bool
  | .non => true
  | _ => false
def gIsN : G1 := fun d m => some (.bl d.isNon, m)
def gNotN : G1 := fun d m => some (.bl (!d.isNon), m)
theorem isN_val {K : Fg} {r : List Addr} {H : Hp} {v : V} {d : D} (h : Val K r H v d) : decide (v = .non) = d.isNon := by
  cases h <;> rfl
theorem e_isN {j} {pos' : Pos} (ha : E X a ta fa) : E X (.Compare a [.Is] [.Constant .none j pos'] pos) (tIsN ta) (fUn gIsN fa) := ⟨pe_cmp (pc_isN ha.pe), fun r σ H e m d m' hs hm hf Q go => by
  obtain ⟨⟨d1, m1⟩, h1, hf⟩ := bindE hf
  cases hf
  refine ha.ok r σ H e m d1 _ hs hm h1 _ fun r1 v1 H1 x1 hm1 hv1 => ?_
  show Q (.bl (decide (v1 = .non))) H1
  rw [isN_val hv1]
  exact (go.step x1).here hm1 (.bl _)⟩
theorem e_notN {j} {pos' : Pos} (ha : E X a ta fa) : E X (.Compare a [.IsNot] [.Constant .none j pos'] pos) (tNotN ta) (fUn gNotN fa) := ⟨pe_cmp (pc_notN ha.pe), fun r σ H e m d m' hs hm hf Q go => by
  obtain ⟨⟨d1, m1⟩, h1, hf⟩ := bindE hf
  cases hf
  refine ha.ok r σ H e m d1 _ hs hm h1 _ fun r1 v1 H1 x1 hm1 hv1 => ?_
  show Q (.bl (!decide (v1 = .non))) H1
  rw [isN_val hv1]
  exact (go.step x1).here hm1 (.bl _)⟩
theorem tB_ok {K : Fg} {te : TE} {f : FE} (h : EOk K te f) : TOk K (tB te) (fTest f) := testOk h
theorem t_isN {j} {pos' : Pos} (ha : E X a ta fa) : T X (.Compare a [.Is] [.Constant .none j pos'] pos) (tB (tIsN ta)) (fTest (fUn gIsN fa)) := ⟨pt_cmp (pc_isN ha.pe), tB_ok (e_isN (pos := pos) (j := j) (pos' := pos') ha).ok⟩
theorem t_notN {j} {pos' : Pos} (ha : E X a ta fa) : T X (.Compare a [.IsNot] [.Constant .none j pos'] pos) (tB (tNotN ta)) (fTest (fUn gNotN fa)) := ⟨pt_cmp (pc_notN ha.pe), tB_ok (e_notN (pos := pos) (j := j) (pos' := pos') ha).ok⟩

/-! ### truth -/
def tru (m : Mem) : D → Option Bool
  | .non => some false
  | .bl b => some b
  | .int i => some (i != 0)
  | .str y => if y.length ≤ 100000 then some ((y.length : Int) != 0) else none
  | .tup xs => some (!xs.isEmpty)
  | .loc l => (rd m l).map fun xs => !xs.isEmpty
  | .ty _ => none
  | .cls _ => none
  | .ins _ _ _ => none
  | .stp _ => none
  | .kl xs => some (!xs.isEmpty)
theorem VAll.isEmpty {K : Fg} {r : List Addr} {H : Hp} {vs : List V} {xs : List D} (h : VAll K r H vs xs) : vs.isEmpty = xs.isEmpty := by
  cases h <;> rfl
theorem tru_val {K : Fg} {r : List Addr} {H : Hp} {m : Mem} {v : V} {d : D} {b : Bool} (hm : MemOk K r H m) (hv : Val K r H v d) (h : tru m d = some b) : TruV K v H b := by
  unfold tru at h
  split at h
  · cases h; rw [hv.nonE]; exact rfl
  · cases h; rw [hv.blE]; exact rfl
  · cases h; rw [hv.intE]; exact rfl
  · split at h
    · rename_i hz; cases h; rw [hv.strE]; exact ⟨lineOf hz, rfl⟩
    · cases h
  · cases h
    obtain ⟨a, vs, rfl, ha, hs⟩ := hv.tupE
    exact .inr (.inl ⟨vs, ha.sq, by rw [hs.isEmpty]⟩)
  · obtain ⟨xs, h1, h⟩ := mapE h
    cases h
    obtain ⟨a, rfl, ha⟩ := hv.locE
    obtain ⟨vs, q1, q2⟩ := hm.rd ha h1
    exact .inl ⟨vs, q1, by rw [q2.isEmpty]⟩
  · cases h
  · cases h
  · cases h
  · cases h
  · cases h
    obtain ⟨a, vs, rfl, ha, hs⟩ := hv.klE
    exact .inl ⟨vs, ha.sq, by rw [hs.isEmpty]⟩
def fTru (f : FE) : FT := fun e m => (f e m).bind fun p => (tru p.2 p.1).map fun b => (b, p.2)
theorem t_tru (ha : E X a ta fa) (he : ∀ whole, isTrue a X.env whole = (do let v ← whole; standAt a.pos; holding [v] (truthy v)) := by intro _; rfl) :
    T X a (fun σ H Q => ta σ H fun x H' => ∃ k, TruV X.K x H' k ∧ Q k H') (fTru fa) := ⟨pt_truth ha.pe he, fun r σ H e m b m' hs hm hf Q go => by
  obtain ⟨⟨d, m1⟩, h1, hf⟩ := bindE hf
  obtain ⟨k, h2, hf⟩ := mapE hf
  cases hf
  exact ha.ok r σ H e m d _ hs hm h1 _ fun r1 v1 H1 x1 hm1 hv1 => ⟨_, tru_val hm1 hv1 h2, go r1 H1 x1 hm1⟩⟩
def fAndT (f g : FT) : FT := fun e m => (f e m).bind fun p => if p.1 = true then g e p.2 else some (false, p.2)
def fOrT (f g : FT) : FT := fun e m => (f e m).bind fun p => if p.1 = true then some (true, p.2) else g e p.2
def fNotT (f : FT) : FT := fun e m => (f e m).map fun p => (!p.1, p.2)
variable {tA tC : TT} {hA hC : FT} {rest : List Expr}
theorem andOk {K : Fg} (ha : TOk K tA hA) (hc : TOk K tC hC) : TOk K (tAnd tA tC) (fAndT hA hC) := fun r σ H e m b m' hs hm hf Q go => by
  obtain ⟨⟨k, m1⟩, h1, hf⟩ := bindE hf
  refine ha r σ H e m k m1 hs hm h1 _ fun r1 H1 x1 hm1 => ?_
  cases k with
  | true => exact iteT (hc r1 σ H1 e m1 b m' (hs.mono x1) hm1 (by simpa using hf) Q (go.step x1))
  | false =>
    have hf' : some (false, m1) = some (b, m') := by simpa using hf
    cases hf'
    exact iteF (go r1 H1 x1 hm1)
theorem orOk {K : Fg} (ha : TOk K tA hA) (hc : TOk K tC hC) : TOk K (tOr tA tC) (fOrT hA hC) := fun r σ H e m b m' hs hm hf Q go => by
  obtain ⟨⟨k, m1⟩, h1, hf⟩ := bindE hf
  refine ha r σ H e m k m1 hs hm h1 _ fun r1 H1 x1 hm1 => ?_
  cases k with
  | false => exact iteF (hc r1 σ H1 e m1 b m' (hs.mono x1) hm1 (by simpa using hf) Q (go.step x1))
  | true =>
    have hf' : some (true, m1) = some (b, m') := by simpa using hf
    cases hf'
    exact iteT (go r1 H1 x1 hm1)
theorem notOk {K : Fg} (ha : TOk K tA hA) : TOk K (tNot tA) (fNotT hA) := fun r σ H e m b m' hs hm hf Q go => by
  obtain ⟨⟨k, m1⟩, h1, hf⟩ := mapE hf
  cases hf
  exact ha r σ H e m k _ hs hm h1 _ fun r1 H1 x1 hm1 => go r1 H1 x1 hm1
theorem TW.t {e : Expr} (h : TW X e tA hA) : T X e tA hA := ⟨h.pe.pt, h.ok⟩
theorem w_and1 (ha : T X a tA hA) : TW X (.BoolOp .And [a] pos) tA hA := ⟨pw_and1 ha.pe, ha.ok⟩
theorem w_or1 (ha : T X a tA hA) : TW X (.BoolOp .Or [a] pos) tA hA := ⟨pw_or1 ha.pe, ha.ok⟩
theorem w_and (ha : T X a tA hA) (hb : TW X (.BoolOp .And (b :: rest) pos) tC hC) : TW X (.BoolOp .And (a :: b :: rest) pos) (tAnd tA tC) (fAndT hA hC) := ⟨pw_and ha.pe hb.pe, andOk ha.ok hb.ok⟩
theorem w_or (ha : T X a tA hA) (hb : TW X (.BoolOp .Or (b :: rest) pos) tC hC) : TW X (.BoolOp .Or (a :: b :: rest) pos) (tOr tA tC) (fOrT hA hC) := ⟨pw_or ha.pe hb.pe, orOk ha.ok hb.ok⟩
theorem t_not (ha : T X a tA hA) : T X (.UnaryOp .Not a pos) (tNot tA) (fNotT hA) := ⟨pt_not ha.pe, notOk ha.ok⟩
/-- .. as values -/
def fAnd (f g : FE) : FE := fun e m => (f e m).bind fun p => (tru p.2 p.1).bind fun k => if k = true then g e p.2 else some p
def fOr (f g : FE) : FE := fun e m => (f e m).bind fun p => (tru p.2 p.1).bind fun k => if k = true then some p else g e p.2
def fNot (f : FE) : FE := fun e m => (f e m).bind fun p => (tru p.2 p.1).map fun k => (.bl (!k), p.2)
def fIf (t : FT) (f g : FE) : FE := fun e m => (t e m).bind fun p => if p.1 = true then f e p.2 else g e p.2
theorem e_one {op} (h : E X a ta fa) : E X (.BoolOp op [a] pos) ta fa := ⟨pe_one h.pe, h.ok⟩
theorem e_and (ha : E X a ta fa) (hb : E X (.BoolOp .And (b :: rest) pos) tb fb) : E X (.BoolOp .And (a :: b :: rest) pos) (tAndT X.K ta tb) (fAnd fa fb) := ⟨pe_andT ha.pe hb.pe, fun r σ H e m d m' hs hm hf Q go => by
  obtain ⟨⟨d1, m1⟩, h1, hf⟩ := bindE hf
  obtain ⟨k, h2, hf⟩ := bindE hf
  refine ha.ok r σ H e m d1 m1 hs hm h1 _ fun r1 v1 H1 x1 hm1 hv1 => ⟨k, tru_val hm1 hv1 h2, ?_⟩
  cases k with
  | true => exact iteT (hb.ok r1 σ H1 e m1 d m' (hs.mono x1) hm1 (by simpa using hf) Q (go.step x1))
  | false =>
    have hf' : some (d1, m1) = some (d, m') := by simpa using hf
    cases hf'
    exact iteF ((go.step x1).here hm1 hv1)⟩
theorem e_or (ha : E X a ta fa) (hb : E X (.BoolOp .Or (b :: rest) pos) tb fb) : E X (.BoolOp .Or (a :: b :: rest) pos) (tOrT X.K ta tb) (fOr fa fb) := ⟨pe_orT ha.pe hb.pe, fun r σ H e m d m' hs hm hf Q go => by
  obtain ⟨⟨d1, m1⟩, h1, hf⟩ := bindE hf
  obtain ⟨k, h2, hf⟩ := bindE hf
  refine ha.ok r σ H e m d1 m1 hs hm h1 _ fun r1 v1 H1 x1 hm1 hv1 => ⟨k, tru_val hm1 hv1 h2, ?_⟩
  cases k with
  | false => exact iteF (hb.ok r1 σ H1 e m1 d m' (hs.mono x1) hm1 (by simpa using hf) Q (go.step x1))
  | true =>
    have hf' : some (d1, m1) = some (d, m') := by simpa using hf
    cases hf'
    exact iteT ((go.step x1).here hm1 hv1)⟩
theorem e_not (ha : E X a ta fa) : E X (.UnaryOp .Not a pos) (tNotT X.K ta) (fNot fa) := ⟨pe_notT ha.pe, fun r σ H e m d m' hs hm hf Q go => by
  obtain ⟨⟨d1, m1⟩, h1, hf⟩ := bindE hf
  obtain ⟨k, h2, hf⟩ := mapE hf
  cases hf
  exact ha.ok r σ H e m d1 _ hs hm h1 _ fun r1 v1 H1 x1 hm1 hv1 => ⟨k, tru_val hm1 hv1 h2, (go.step x1).here hm1 (.bl _)⟩⟩
theorem e_if (hc : T X c tA hA) (ha : E X a ta fa) (hb : E X b tb fb) : E X (.IfExp c a b pos) (tIf tA ta tb) (fIf hA fa fb) := ⟨pe_ifExp hc.pe ha.pe hb.pe, fun r σ H e m d m' hs hm hf Q go => by
  obtain ⟨⟨k, m1⟩, h1, hf⟩ := bindE hf
  refine hc.ok r σ H e m k m1 hs hm h1 _ fun r1 H1 x1 hm1 => ?_
  cases k with
  | true => exact iteT (ha.ok r1 σ H1 e m1 d m' (hs.mono x1) hm1 (by simpa using hf) Q (go.step x1))
  | false => exact iteF (hb.ok r1 σ H1 e m1 d m' (hs.mono x1) hm1 (by simpa using hf) Q (go.step x1))⟩
end
end Mv

set_option Elab.async false
set_option linter.all false
set_option maxRecDepth 100000
set_option maxHeartbeats 4000000
/-! Mv4: items, slices, built-ins called. -/
namespace Mv
open PySem PySem.Spec PyProof.Rows L2

/-! ### items -/
def gIx : G2
  | .tup xs, .int i, m => (atI xs i).map fun d => (d, m)
  | .loc l, .int i, m => (rd m l).bind fun xs => (atI xs i).map fun d => (d, m)
  | .kl xs, .int i, m => (atI xs i).map fun d => (d, m)
  | .str z, .int i, m => if z.length ≤ 100000 then (atI z.cps.toList i).map fun c => (.str ⟨#[c]⟩, m) else none
  | _, _, _ => none
theorem VAll.atI {K : Fg} {r : List Addr} {H : Hp} {vs : List V} {ds : List D} {i : Int} {d : D} (h : VAll K r H vs ds) (q : L2.atI ds i = some d) : ∃ v, L2.atI vs i = some v ∧ Val K r H v d := by
  unfold L2.atI at q ⊢
  rw [h.length]
  obtain ⟨j, h1, q⟩ := bindE q
  rw [h1]
  exact h.get q
theorem gIx_ok {K : Fg} : R2Ok K (rIx K) gIx := fun r H m x y dx dy d m' hm hx hy hg Q go => by
  unfold gIx at hg
  split at hg
  · obtain ⟨e, h1, hg⟩ := mapE hg
    cases hg
    obtain ⟨a, vs, rfl, ha, hs⟩ := hx.tupE
    obtain ⟨v, q1, q2⟩ := hs.atI h1
    exact .inr (.inl ⟨a, vs, _, v, rfl, hy.intE, ha.sq, q1, go.here hm q2⟩)
  · obtain ⟨xs, h0, hg⟩ := bindE hg
    obtain ⟨e, h1, hg⟩ := mapE hg
    cases hg
    obtain ⟨a, rfl, ha⟩ := hx.locE
    obtain ⟨vs, q0, hs⟩ := hm.rd ha h0
    obtain ⟨v, q1, q2⟩ := hs.atI h1
    exact .inl ⟨a, vs, _, v, rfl, hy.intE, q0, q1, go.here hm q2⟩
  · obtain ⟨e, h1, hg⟩ := mapE hg
    cases hg
    obtain ⟨a, vs, rfl, ha, hs⟩ := hx.klE
    obtain ⟨v, q1, q2⟩ := hs.atI h1
    exact .inl ⟨a, vs, _, v, rfl, hy.intE, ha.sq, q1, go.here hm q2⟩
  · split at hg
    · rename_i hz
      obtain ⟨c, h1, hg⟩ := mapE hg
      cases hg
      exact .inr (.inr ⟨_, _, c, hx.strE, hy.intE, lineOf hz, h1, go.here hm (.str _)⟩)
    · cases hg
  · cases hg
section
variable {X : Cx} {a b : Expr} {ta tb : TE} {fa fb : FE} {pos : Pos}
theorem e_ix (ha : E X a ta fa) (hb : E X b tb fb) (hs : PlainIx b := by intro _ _; rfl) : E X (.Subscript a b pos) (tOp (rIx X.K) ta tb) (fOp gIx fa fb) := ⟨pe_ix ix_seq ha.pe hb.pe hs, opOk gIx_ok ha.ok hb.ok⟩
/-- an item of a list that was just made -/
def fIxN (fa : FA) (fb : FE) : FE := fun e m => (fa e m).bind fun p => (fb e p.2).bind fun q => match q.1 with
  | .int i => (atI p.1 i).map fun d => (d, q.2)
  | _ => none
theorem e_ixN (ha : L X a ta fa0) (hb : E X b tb fb) (hs : PlainIx b := by intro _ _; rfl) : E X (.Subscript a b pos) (tOp (rIxL X.K) ta tb) (fIxN fa0 fb) := ⟨pe_ix ix_list ha.pe hb.pe hs, fun r σ H e m d m' hs hm hf Q go => by
  obtain ⟨⟨xs, m1⟩, h1, hf⟩ := bindE hf
  obtain ⟨⟨d2, m2⟩, h2, hf⟩ := bindE hf
  split at hf
  · rename_i i hi
    have hi' : d2 = .int i := hi
    subst hi'
    obtain ⟨d3, h3, hf⟩ := mapE hf
    cases hf
    refine ha.ok r σ H e m xs m1 hs hm h1 _ fun r1 p vs H1 x1 hm1 hp hn hq hv => ?_
    refine hb.ok r1 σ H1 e m1 _ _ (hs.mono x1) hm1 h2 _ fun r2 v2 H2 x2 hm2 hv2 => ?_
    obtain ⟨v, q1, q2⟩ := (hv.mono x2).atI h3
    exact ⟨p, vs, i, v, rfl, hv2.intE, .of (x2.keep p _ hq hp), q1, ((go.step x1).step x2).here hm2 q2⟩
  · cases hf⟩

/-! ### slices -/
abbrev FO := Sl → Mem → Option (Option Int × Mem)
def OOk (K : Fg) (to : TO) (f : FO) : Prop := ∀ r σ H e m o m', SlOk K r H σ e → MemOk K r H m → f e m = some (o, m') → ∀ Q : Option Int → Hp → Prop, (∀ r' H', Ext r H r' H' → MemOk K r' H' m' → Q o H') → to σ H Q
structure O (X : Cx) (e : Option Expr) (to : TO) (f : FO) : Prop where
  pe : PO X e to
  ok : OOk X.K to f
def fNoPart : FO := fun _ m => some (none, m)
def asI : D → Option Int
  | .int i => some i
  | _ => none
theorem asI_ok {d : D} {i : Int} (h : asI d = some i) : d = .int i := by
  cases d <;> first | (cases h; rfl) | cases h
def fPart (f : FE) : FO := fun e m => (f e m).bind fun p => (asI p.1).map fun i => (some i, p.2)
theorem o_none : O X none tNoPart fNoPart := ⟨po_none, fun r σ H e m o m' hs hm hf Q g => by
  cases hf
  exact g r H Ext.refl hm⟩
theorem o_some (h : E X a ta fa) : O X (some a) (tPart ta) (fPart fa) := ⟨po_some h.pe, fun r σ H e m o m' hs hm hf Q g => by
  obtain ⟨⟨d, m1⟩, h1, hf⟩ := bindE hf
  obtain ⟨i, h2, hf⟩ := mapE hf
  cases hf
  have z : d = .int i := asI_ok h2
  subst z
  exact h.ok r σ H e m _ _ hs hm h1 _ fun r1 v H1 x1 hm1 hv => ⟨i, hv.intE, g r1 H1 x1 hm1⟩⟩
def cutD (xs : List D) (lo hi : Option Int) : List D := (xs.drop (HT.sIx xs.length 0 lo)).take (HT.sIx xs.length xs.length hi - HT.sIx xs.length 0 lo)
theorem VAll.cut {K : Fg} {r : List Addr} {H : Hp} {vs : List V} {ds : List D} (h : VAll K r H vs ds) (lo hi : Option Int) : VAll K r H (cutV vs lo hi) (cutD ds lo hi) := by
  unfold cutV cutD
  rw [h.length]
  exact (h.drop _).take _
theorem cutD_all {xs : List D} {lo hi : Option Int} (h1 : HT.sIx xs.length 0 lo = 0) (h2 : HT.sIx xs.length xs.length hi = xs.length) : cutD xs lo hi = xs := by
  unfold cutD
  rw [h1, h2]
  simp
/-- a slice: of a tuple a tuple, of a list a list at a new place, of a text a text -/
def gSl : D → Option Int → Option Int → Mem → Option (D × Mem)
  | .tup xs, lo, hi, m => some (.tup (cutD xs lo hi), m)
  | .loc l, lo, hi, m => (rd m l).map fun xs => (.loc m.length, m ++ [.lst (cutD xs lo hi)])
  | .kl xs, lo, hi, m => some (.loc m.length, m ++ [.lst (cutD xs lo hi)])
  | .str z, lo, hi, m => if z.length ≤ 100000 then some (.str (cutS z lo hi), m) else none
  | _, _, _, _ => none
def rSlAny (K : Fg) : V → Option Int → Option Int → Hp → VK → Prop := fun x lo hi H Q => rSlA K x lo hi H Q ∨ rSlL K x lo hi H Q ∨ rSlS x lo hi H Q
theorem sl_any : SlR X (rSlAny X.K) := sl_tupA.or (sl_list.or sl_str)
theorem gSl_ok {K : Fg} {r : List Addr} {H : Hp} {m m' : Mem} {v : V} {d d' : D} {lo hi : Option Int} (hm : MemOk K r H m) (hv : Val K r H v d) (hf : gSl d lo hi m = some (d', m')) {Q : VK} (go : Go K r H m' d' Q) : rSlAny K v lo hi H Q := by
  unfold gSl at hf
  split at hf
  · cases hf
    obtain ⟨a, vs, rfl, ha, hw⟩ := hv.tupE
    refine .inl ⟨a, vs, rfl, ha.sq, fun hz => ?_, fun _ p hp => go.newTup hm (hw.cut _ _) hp⟩
    have e1 := hz.1
    have e2 := hz.2
    rw [hw.length] at e1 e2
    rw [cutD_all e1 e2] at go
    exact go.here hm (.tup ha hw)
  · obtain ⟨xs, h4, hf⟩ := mapE hf
    cases hf
    obtain ⟨a, rfl, ha⟩ := hv.locE
    obtain ⟨vs, q2, hw⟩ := hm.rd ha h4
    exact .inr (.inl ⟨a, vs, rfl, q2, fun p hp => go.newLst hm (hw.cut _ _) hp⟩)
  · cases hf
    obtain ⟨a, vs, rfl, ha, hw⟩ := hv.klE
    exact .inr (.inl ⟨a, vs, rfl, ha.sq, fun p hp => go.newLst hm (hw.cut _ _) hp⟩)
  · split at hf
    · rename_i hz
      cases hf
      exact .inr (.inr ⟨_, hv.strE, lineOf hz, go.here hm (.str _)⟩)
    · cases hf
  · cases hf
def fSl (f : FE) (fl fh : FO) : FE := fun e m => (f e m).bind fun p => (fl e p.2).bind fun q => (fh e q.2).bind fun u => gSl p.1 q.1 u.1 u.2
theorem e_sl {lo hi : Option Expr} {tl th : TO} {fl fh : FO} {p2 : Pos} (ha : E X a ta fa) (hl : O X lo tl fl) (hh : O X hi th fh) : E X (.Subscript a (.Slice lo hi none p2) pos) (tSl (rSlAny X.K) ta tl th) (fSl fa fl fh) := ⟨pe_slice sl_any ha.pe hl.pe hh.pe, fun r σ H e m d m' hs hm hf Q go => by
  obtain ⟨⟨d1, m1⟩, h1, hf⟩ := bindE hf
  obtain ⟨⟨o1, m2⟩, h2, hf⟩ := bindE hf
  obtain ⟨⟨o2, m3⟩, h3, hf⟩ := bindE hf
  refine ha.ok r σ H e m d1 m1 hs hm h1 _ fun r1 v1 H1 x1 hm1 hv1 => ?_
  refine hl.ok r1 σ H1 e m1 o1 m2 (hs.mono x1) hm1 h2 _ fun r2 H2 x2 hm2 => ?_
  refine hh.ok r2 σ H2 e m2 o2 m3 (hs.mono (x1.trans x2)) hm2 h3 _ fun r3 H3 x3 hm3 => ?_
  exact gSl_ok hm3 (hv1.mono (x2.trans x3)) hf (go.step ((x1.trans x2).trans x3))⟩
end

/-! ### built-ins -/
section
variable {X : Cx} {e : Expr} {es : List Expr} {t : TA} {te : TE} {f : FA} {x : Str} {p pos : Pos} {id n : String} {rr : List V → Hp → VK → Prop} {g : GN} {gl : GLN}
theorem e_cB (hc : CallR X (.builtin id) rr) (ok : RNOk X.K rr g) (hm : X.mg x = none) (hv : bootBuiltins x = some (.builtin id)) (ha : A X (e :: es) t f) (hg : Gl X x := by rfl) (hn : x ≠ "__name__" := by decide) (hdb : (x == ("__debug__" : Str)) = false := by decide)
    (he : starEach (e :: es) X.env = (false, eval e X.env) :: starEach es X.env := by rfl) (hpl : (backTo pos (starEach es X.env)).any (·.1) = false := by rfl) : E X (.Call (.Name x p) (e :: es) [] pos) (tCB rr t) (fCall g f) := ⟨pe_callB hc hg hm hv ha.pe hn hdb he hpl, callOk ok ha.ok⟩
theorem e_cT (hc : CallR X (.type n) rr) (ok : RNOk X.K rr g) (hm : X.mg x = none) (hv : bootBuiltins x = some (.type n)) (ha : A X (e :: es) t f) (hg : Gl X x := by rfl) (hn : x ≠ "__name__" := by decide) (hdb : (x == ("__debug__" : Str)) = false := by decide)
    (he : starEach (e :: es) X.env = (false, eval e X.env) :: starEach es X.env := by rfl) (hpl : (backTo pos (starEach es X.env)).any (·.1) = false := by rfl) : E X (.Call (.Name x p) (e :: es) [] pos) (tCB rr t) (fCall g f) := ⟨pe_callTy hc hg hm hv ha.pe hn hdb he hpl, callOk ok ha.ok⟩
theorem l_cT (hc : CallR X (.type n) rr) (ok : RLOk X.K rr gl) (hm : X.mg x = none) (hv : bootBuiltins x = some (.type n)) (ha : A X (e :: es) t f) (hg : Gl X x := by rfl) (hn : x ≠ "__name__" := by decide) (hdb : (x == ("__debug__" : Str)) = false := by decide)
    (he : starEach (e :: es) X.env = (false, eval e X.env) :: starEach es X.env := by rfl) (hpl : (backTo pos (starEach es X.env)).any (·.1) = false := by rfl) : L X (.Call (.Name x p) (e :: es) [] pos) (tCB rr t) (fLCall gl f) := ⟨pe_callTy hc hg hm hv ha.pe hn hdb he hpl, lcallOk ok ha.ok⟩
/-- upon a list that was just made -/
theorem e_onB (hc : CallR X (.builtin id) rr) (ok : ROnOk X.K rr g) (hm : X.mg x = none) (hv : bootBuiltins x = some (.builtin id)) (ha : L X e te f) (hg : Gl X x := by rfl) (hn : x ≠ "__name__" := by decide) (hdb : (x == ("__debug__" : Str)) = false := by decide)
    (he : starEach [e] X.env = (false, eval e X.env) :: starEach [] X.env := by rfl) : E X (.Call (.Name x p) [e] [] pos) (tCB rr (tCons te tNil)) (fOn g f) := ⟨pe_callB hc hg hm hv (pa_cons ha.pe pa_nil he) hn hdb he rfl, onOk ok ha.ok⟩
theorem e_onT (hc : CallR X (.type n) rr) (ok : ROnOk X.K rr g) (hm : X.mg x = none) (hv : bootBuiltins x = some (.type n)) (ha : L X e te f) (hg : Gl X x := by rfl) (hn : x ≠ "__name__" := by decide) (hdb : (x == ("__debug__" : Str)) = false := by decide)
    (he : starEach [e] X.env = (false, eval e X.env) :: starEach [] X.env := by rfl) : E X (.Call (.Name x p) [e] [] pos) (tCB rr (tCons te tNil)) (fOn g f) := ⟨pe_callTy hc hg hm hv (pa_cons ha.pe pa_nil he) hn hdb he rfl, onOk ok ha.ok⟩
end
section
variable {K : Fg} {r : List Addr} {H : Hp}
theorem VAll.one {xs : List V} {d : D} (h : VAll K r H xs [d]) : ∃ v, xs = [v] ∧ Val K r H v d := by
  cases h with
  | cons a b => cases b; exact ⟨_, rfl, a⟩
theorem VAll.two {xs : List V} {d e : D} (h : VAll K r H xs [d, e]) : ∃ v w, xs = [v, w] ∧ Val K r H v d ∧ Val K r H w e := by
  cases h with
  | cons a b => cases b with
    | cons c z => cases z; exact ⟨_, _, rfl, a, c⟩
/-- len -/
def gLen : GN
  | [.tup xs], m => some (.int xs.length, m)
  | [.loc l], m => (rd m l).map fun xs => (.int xs.length, m)
  | [.kl xs], m => some (.int xs.length, m)
  | [.str z], m => if z.length ≤ 100000 then some (.int z.length, m) else none
  | _, _ => none
theorem gLen_ok : RNOk K (fun xs H Q => ∃ x n, xs = [x] ∧ LenV K x H n ∧ Q (.int n) H) gLen := fun r H m xs ds d m' hm hx hg Q go => by
  unfold gLen at hg
  split at hg
  · cases hg
    obtain ⟨v, rfl, hv⟩ := hx.one
    obtain ⟨a, vs, rfl, ha, hs⟩ := hv.tupE
    exact ⟨_, _, rfl, .inr ⟨vs, ha.sq, hs.length.symm⟩, go.here hm (.int _)⟩
  · obtain ⟨ys, h1, hg⟩ := mapE hg
    cases hg
    obtain ⟨v, rfl, hv⟩ := hx.one
    obtain ⟨a, rfl, ha⟩ := hv.locE
    obtain ⟨vs, q, hs⟩ := hm.rd ha h1
    exact ⟨_, _, rfl, .inl ⟨vs, q, hs.length.symm⟩, go.here hm (.int _)⟩
  · cases hg
    obtain ⟨v, rfl, hv⟩ := hx.one
    obtain ⟨a, vs, rfl, ha, hs⟩ := hv.klE
    exact ⟨_, _, rfl, .inl ⟨vs, ha.sq, hs.length.symm⟩, go.here hm (.int _)⟩
  · split at hg
    · rename_i hz
      cases hg
      obtain ⟨v, rfl, hv⟩ := hx.one
      exact ⟨_, _, rfl, by rw [hv.strE]; exact ⟨lineOf hz, rfl⟩, go.here hm (.int _)⟩
    · cases hg
  · cases hg
def gLenN : GN := fun xs m => some (.int xs.length, m)
theorem gLenN_ok : ROnOk K (fun xs H Q => ∃ x n, xs = [x] ∧ LenV K x H n ∧ Q (.int n) H) gLenN := fun r H m p vs xs d m' hm hp hq hv hg Q go => by
  cases hg
  exact ⟨_, _, rfl, .inl ⟨vs, .of hq, hv.length.symm⟩, go.here hm (.int _)⟩
def gAbs : GN
  | [.int i], m => some (.int (if i < 0 then -i else i), m)
  | _, _ => none
theorem gAbs_ok : RNOk K (fun xs H Q => ∃ i, xs = [.int i] ∧ Q (.int (if i < 0 then -i else i)) H) gAbs := fun r H m xs ds d m' hm hx hg Q go => by
  unfold gAbs at hg
  split at hg
  · cases hg
    obtain ⟨v, rfl, hv⟩ := hx.one
    rw [hv.intE]
    exact ⟨_, rfl, go.here hm (.int _)⟩
  · cases hg
def gIntOf : GN
  | [.int i], m => some (.int i, m)
  | [.bl k], m => some (.int (if k then 1 else 0), m)
  | _, _ => none
theorem gIntOf_ok : RNOk K (fun xs H Q => (∃ i, xs = [.int i] ∧ Q (.int i) H) ∨ ∃ k, xs = [.bl k] ∧ Q (.int (if k then 1 else 0)) H) gIntOf := fun r H m xs ds d m' hm hx hg Q go => by
  unfold gIntOf at hg
  split at hg
  · cases hg
    obtain ⟨v, rfl, hv⟩ := hx.one
    rw [hv.intE]
    exact .inl ⟨_, rfl, go.here hm (.int _)⟩
  · cases hg
    obtain ⟨v, rfl, hv⟩ := hx.one
    rw [hv.blE]
    exact .inr ⟨_, rfl, go.here hm (.int _)⟩
  · cases hg
def gMax2 : GN
  | [.int i, .int j], m => some (.int (if j > i then j else i), m)
  | _, _ => none
def gMin2 : GN
  | [.int i, .int j], m => some (.int (if j < i then j else i), m)
  | _, _ => none
theorem gMax2_ok : RNOk K (fun xs H Q => ∃ i j, xs = [.int i, .int j] ∧ Q (.int (if j > i then j else i)) H) gMax2 := fun r H m xs ds d m' hm hx hg Q go => by
  unfold gMax2 at hg
  split at hg
  · cases hg
    obtain ⟨v, w, rfl, hv, hw⟩ := hx.two
    rw [hv.intE, hw.intE]
    exact ⟨_, _, rfl, go.here hm (.int _)⟩
  · cases hg
theorem gMin2_ok : RNOk K (fun xs H Q => ∃ i j, xs = [.int i, .int j] ∧ Q (.int (if j < i then j else i)) H) gMin2 := fun r H m xs ds d m' hm hx hg Q go => by
  unfold gMin2 at hg
  split at hg
  · cases hg
    obtain ⟨v, w, rfl, hv, hw⟩ := hx.two
    rw [hv.intE, hw.intE]
    exact ⟨_, _, rfl, go.here hm (.int _)⟩
  · cases hg
/-- tuple(..), list(..) -/
def gTupOf : GN
  | [.tup xs], m => some (.tup xs, m)
  | [.loc l], m => (rd m l).map fun xs => (.tup xs, m)
  | _, _ => none
def rTupOf (K : Fg) : List V → Hp → VK → Prop := fun xs H Q => ∃ p ys, xs = [.ref p] ∧ ((SqL K H p ys ∧ ∀ l, H l = none → Q (.ref l) (upd H l (.tup ys))) ∨ (SqT K H p ys ∧ Q (.ref p) H))
theorem gTupOf_ok : RNOk K (rTupOf K) gTupOf := fun r H m xs ds d m' hm hx hg Q go => by
  unfold gTupOf at hg
  split at hg
  · cases hg
    obtain ⟨v, rfl, hv⟩ := hx.one
    obtain ⟨a, vs, rfl, ha, hs⟩ := hv.tupE
    exact ⟨a, vs, rfl, .inr ⟨ha.sq, go.here hm (.tup ha hs)⟩⟩
  · obtain ⟨ys, h1, hg⟩ := mapE hg
    cases hg
    obtain ⟨v, rfl, hv⟩ := hx.one
    obtain ⟨a, rfl, ha⟩ := hv.locE
    obtain ⟨vs, q, hs⟩ := hm.rd ha h1
    exact ⟨a, vs, rfl, .inl ⟨q, fun l hl => go.newTup hm hs hl⟩⟩
  · cases hg
def gTupN : GN := fun xs m => some (.tup xs, m)
theorem gTupN_ok : ROnOk K (rTupOf K) gTupN := fun r H m p vs xs d m' hm hp hq hv hg Q go => by
  cases hg
  exact ⟨p, vs, rfl, .inl ⟨.of hq, fun l hl => go.newTup hm hv hl⟩⟩
def gLstOf : GLN
  | [.tup xs], m => some (xs, m)
  | [.loc l], m => (rd m l).map fun xs => (xs, m)
  | _, _ => none
theorem gLstOf_ok : RLOk K (fun xs H Q => ∃ p ys, xs = [.ref p] ∧ (SqL K H p ys ∨ SqT K H p ys) ∧ ∀ l, H l = none → Q (.ref l) (upd H l (.lst ys))) gLstOf := fun r H m xs ds d m' hm hx hg Q go => by
  unfold gLstOf at hg
  split at hg
  · cases hg
    obtain ⟨v, rfl, hv⟩ := hx.one
    obtain ⟨a, vs, rfl, ha, hs⟩ := hv.tupE
    exact ⟨a, vs, rfl, .inr ha.sq, fun l hl => go.new hm hs hl⟩
  · obtain ⟨ys, h1, hg⟩ := mapE hg
    cases hg
    obtain ⟨v, rfl, hv⟩ := hx.one
    obtain ⟨a, rfl, ha⟩ := hv.locE
    obtain ⟨vs, q, hs⟩ := hm.rd ha h1
    exact ⟨a, vs, rfl, .inl q, fun l hl => go.new hm hs hl⟩
  · cases hg
/-- all, any of a list that was just made -/
def asBs : List D → Option (List Bool)
  | [] => some []
  | .bl b :: r => (asBs r).map (b :: ·)
  | _ => none
theorem asBs_ok : ∀ {ds : List D} {bs : List Bool}, asBs ds = some bs → ds = bs.map D.bl
  | [], bs, h => by cases h; rfl
  | .bl b :: r, bs, h => by
    obtain ⟨q, h1, h2⟩ := mapE h
    subst h2
    rw [asBs_ok h1]; rfl
  | .non :: _, _, h => by cases h
  | .int _ :: _, _, h => by cases h
  | .str _ :: _, _, h => by cases h
  | .tup _ :: _, _, h => by cases h
  | .loc _ :: _, _, h => by cases h
  | .ty _ :: _, _, h => by cases h
  | .kl _ :: _, _, h => by cases h
def gAll : GN := fun xs m => (asBs xs).map fun bs => (.bl (bs.all id), m)
def gAny : GN := fun xs m => (asBs xs).map fun bs => (.bl (bs.any id), m)
theorem gAll_ok : ROnOk K (rAll K) gAll := fun r H m p vs xs d m' hm hp hq hv hg Q go => by
  obtain ⟨bs, h1, hg⟩ := mapE hg
  cases hg
  have e := asBs_ok h1
  subst e
  have e2 := hv.bools
  subst e2
  exact ⟨p, bs, rfl, .of hq, go.here hm (.bl _)⟩
theorem gAny_ok : ROnOk K (rAny K) gAny := fun r H m p vs xs d m' hm hp hq hv hg Q go => by
  obtain ⟨bs, h1, hg⟩ := mapE hg
  cases hg
  have e := asBs_ok h1
  subst e
  have e2 := hv.bools
  subst e2
  exact ⟨p, bs, rfl, .of hq, go.here hm (.bl _)⟩
def asIs : List D → Option (List Int)
  | [] => some []
  | .int b :: r => (asIs r).map (b :: ·)
  | _ => none
theorem asIs_ok : ∀ {ds : List D} {bs : List Int}, asIs ds = some bs → ds = bs.map D.int
  | [], bs, h => by cases h; rfl
  | .int b :: r, bs, h => by
    obtain ⟨q, h1, h2⟩ := mapE h
    subst h2
    rw [asIs_ok h1]; rfl
  | .non :: _, _, h => by cases h
  | .bl _ :: _, _, h => by cases h
  | .str _ :: _, _, h => by cases h
  | .tup _ :: _, _, h => by cases h
  | .loc _ :: _, _, h => by cases h
  | .ty _ :: _, _, h => by cases h
  | .kl _ :: _, _, h => by cases h
theorem asIs_map : ∀ ns : List Int, asIs (ns.map D.int) = some ns
  | [] => rfl
  | n :: ns => by
    show (asIs (ns.map D.int)).map (n :: ·) = _
    rw [asIs_map ns]; rfl
theorem asBs_map : ∀ ns : List Bool, asBs (ns.map D.bl) = some ns
  | [] => rfl
  | n :: ns => by
    show (asBs (ns.map D.bl)).map (n :: ·) = _
    rw [asBs_map ns]; rfl
/-- min of a list of ints -/
def minL : List Int → Int
  | [] => 0
  | [x] => x
  | x :: y :: r => let m := minL (y :: r); if x ≤ m then x else m
theorem minL_le : ∀ {l : List Int} {y : Int}, y ∈ l → minL l ≤ y
  | [x], y, h => by
    have e : y = x := by simpa using h
    subst e; exact Int.le_refl _
  | x :: z :: r, y, h => by
    show (if x ≤ minL (z :: r) then x else minL (z :: r)) ≤ y
    rcases List.mem_cons.mp h with e | h
    · subst e; split <;> omega
    · have := minL_le h
      split <;> omega
theorem minL_mem : ∀ {l : List Int}, l ≠ [] → minL l ∈ l
  | [x], _ => by simp [minL]
  | x :: z :: r, _ => by
    show (if x ≤ minL (z :: r) then x else minL (z :: r)) ∈ _
    split
    · simp
    · exact List.mem_cons_of_mem _ (minL_mem (by simp))
def gMinL : GN
  | [.loc l], m => (rd m l).bind fun xs => (asIs xs).bind fun ns => if ns = [] then none else some (.int (minL ns), m)
  | _, _ => none
theorem gMinL_ok : RNOk K (rMin K) gMinL := fun r H m xs ds d m' hm hx hg Q go => by
  unfold gMinL at hg
  split at hg
  · obtain ⟨ys, h1, hg⟩ := bindE hg
    obtain ⟨ns, h2, hg⟩ := bindE hg
    split at hg
    · cases hg
    · rename_i hne
      cases hg
      obtain ⟨v, rfl, hv⟩ := hx.one
      obtain ⟨a, rfl, ha⟩ := hv.locE
      obtain ⟨vs, q, hs⟩ := hm.rd ha h1
      have e := asIs_ok h2
      subst e
      have e2 := hs.ints
      subst e2
      refine ⟨a, ns, rfl, q, List.length_pos_iff.mpr hne, fun k hk hle => ?_⟩
      have e3 : k = minL ns := by
        have h3 := hle _ (minL_mem hne)
        have h4 := minL_le hk
        omega
      rw [e3]
      exact go.here hm (.int _)
  · cases hg
/-- isinstance(x, T), T a built-in class -/
def tyName : D → Option String
  | .non => some "NoneType" | .bl _ => some "bool" | .int _ => some "int" | .str _ => some "str" | .tup _ => some "tuple" | _ => none
def gIsi : GN
  | [d, .ty n], m => (match d with
    | .loc l => match m[l]? with
      | some (.lst _) => some "list"
      | some (.dK _ _) => some "dict"
      | _ => none
    | d => tyName d).bind fun t => (kitB t n).map fun b => (.bl b, m)
  | _, _ => none
theorem TupAt.ty {a : Addr} {vs : List V} (h : TupAt K H a vs) : TyX K H (.ref a) (.type "tuple") := by
  rcases h with h | ⟨o, h⟩ | h
  · exact .base (.tup h)
  · exact .fTuple h
  · rcases h (fun _ => none) with (q | ⟨o, q⟩) | ⟨o, its, n, q, c, _⟩
    · cases q
    · cases q
    · exact .kTuple q c
theorem gIsi_ok : RNOk K (rIsi K) gIsi := fun r H m xs ds d m' hm hx hg Q go => by
  unfold gIsi at hg
  split at hg
  · rename_i d0 n
    obtain ⟨t, h1, hg⟩ := bindE hg
    obtain ⟨b, h2, hg⟩ := mapE hg
    cases hg
    obtain ⟨v, w, rfl, hv, hw⟩ := hx.two
    have ew := hw.tyE
    subst ew
    refine ⟨v, .ty n, .type t, .type n, b, rfl, .ty n, ?_, kit_ty h2, go.here hm (.bl _)⟩
    cases hv with
    | non => cases h1; exact .base .non
    | bl k => cases h1; exact .base (.bl k)
    | int i => cases h1; exact .base (.int i)
    | str z => cases h1; exact .base (.str z)
    | ty z => cases h1
    | tup ha hs => cases h1; exact ha.ty
    | kl ha hs => cases h1
    | cls z => cases h1
    | ins a1 a2 a3 a4 a5 => cases h1
    | stp a1 a2 a3 => cases h1
    | @loc a l ha =>
      have h1' : (match m[l]? with | some (.lst _) => some "list" | some (.dK _ _) => some "dict" | _ => none) = some t := h1
      split at h1'
      · rename_i ys q
        cases h1'
        obtain ⟨vs, q1, _⟩ := hm.lst ha q
        exact .base (.lst q1)
      · rename_i ks ys q
        cases h1'
        obtain ⟨b, hb, vs, q1, _⟩ := hm.cell l _ q
        have e : some a = some b := ha.symm.trans hb
        cases e
        exact .base (.dK q1)
      · cases h1'
  · cases hg
end
/-- a built-in class as a value -/
theorem e_ty {X : Cx} {x : Str} {n : String} {pos : Pos} (hm : X.mg x = none) (hv : bootBuiltins x = some (.type n)) (hg : Gl X x := by rfl) (hn : x ≠ "__name__" := by decide) (hd : (x == ("__debug__" : Str)) = false := by decide) : E X (.Name x pos) (tC (.ty n)) (fC (.ty n)) := ⟨pe_bltn hg hm hv rfl hn hd, cOk fun _ _ => .ty n⟩
end Mv

set_option Elab.async false
set_option linter.all false
set_option maxRecDepth 100000
set_option maxHeartbeats 4000000
/-! Mv5: what is walked, targets, statements, loops, comprehensions. -/
namespace Mv
open PySem PySem.Spec PyProof.Rows L2

/-! ### what is walked -/
/-- the items; where they are those of a list at a place, that place -/
structure Src where
  xs : List D
  wh : Option Nat
def Src.live (s : Src) (m : Mem) : Prop := match s.wh with
  | none => True
  | some l => rd m l = some s.xs
def Walked (K : Fg) (J : It) (s : Src) (r1 : List Addr) (H1 : Hp) : Prop := ∀ (i : Nat) r H m, Ext r1 H1 r H → MemOk K r H m → s.live m →
  (s.xs.length ≤ i → J.stop i H) ∧ ∀ d, s.xs[i]? = some d → J.go i H ∧ ∀ x H', J.yld i H x H' → Ext r H r H' ∧ MemOk K r H' m ∧ Val K r H' x d
abbrev FI := Sl → Mem → Option (Src × Mem)
def IOk (K : Fg) (wi : TI) (fi : FI) : Prop := ∀ r σ H e m s m1, SlOk K r H σ e → MemOk K r H m → fi e m = some (s, m1) → ∀ R : It → Hp → Prop, (∀ r1 H1 J, Ext r H r1 H1 → MemOk K r1 H1 m1 → s.live m1 → Walked K J s r1 H1 → R J H1) → wi σ H R
structure I (X : Cx) (tg iter : Expr) (wi : TI) (fi : FI) : Prop where
  pe : PI X tg iter wi
  ok : IOk X.K wi fi
theorem pi_or {X : Cx} {tg iter : Expr} {w1 w2 : TI} (h1 : PI X tg iter w1) (h2 : PI X tg iter w2) : PI X tg iter (fun σ H R => w1 σ H R ∨ w2 σ H R) :=
  ⟨fun pins s σ H R I q => q.elim (h1.run pins s σ H R I) (h2.run pins s σ H R I)⟩
section
variable {K : Fg} {r : List Addr} {H : Hp}
theorem walk_list {m : Mem} {l : Nat} {a : Addr} {xs : List D} (ha : r[l]? = some a) : Walked K (Itl K a) ⟨xs, some l⟩ r H := fun i r2 H2 m2 x2 hm2 hl => by
  have hl' : rd m2 l = some xs := hl
  obtain ⟨vs, q1, q2⟩ := hm2.rd (x2.get ha) hl'
  refine ⟨fun hi => ⟨vs, q1, by rw [q2.length]; exact hi⟩, fun d hd => ?_⟩
  obtain ⟨v, q3, q4⟩ := q2.get hd
  refine ⟨⟨vs, v, q1, q3⟩, fun x H' y => ?_⟩
  obtain ⟨e, y⟩ := y
  subst e
  have e2 : some v = some x := q3.symm.trans (y vs q1)
  cases e2
  exact ⟨Ext.refl, hm2, q4⟩
theorem walk_new {p : Addr} {vs : List V} {xs : List D} (hp : p ∉ r) (hq : H p = some (.lst vs)) (hv : VAll K r H vs xs) : Walked K (Itl K p) ⟨xs, none⟩ r H := fun i r2 H2 m2 x2 hm2 hl => by
  have q1 : SqL K H2 p vs := .of (x2.keep p _ hq hp)
  have q2 := hv.mono x2
  refine ⟨fun hi => ⟨vs, q1, by rw [q2.length]; exact hi⟩, fun d hd => ?_⟩
  obtain ⟨v, q3, q4⟩ := q2.get hd
  refine ⟨⟨vs, v, q1, q3⟩, fun x H' y => ?_⟩
  obtain ⟨e, y⟩ := y
  subst e
  have e2 : some v = some x := q3.symm.trans (y vs q1)
  cases e2
  exact ⟨Ext.refl, hm2, q4⟩
theorem walk_kl {a : Addr} {vs : List V} {xs : List D} (ha : KlAt K H a vs) (hv : VAll K r H vs xs) : Walked K (Itl K a) ⟨xs, none⟩ r H := fun i r2 H2 m2 x2 hm2 hl => by
  have q1 : SqL K H2 a vs := KlAt.sq (ha.elim (fun ⟨o, h⟩ => .inl ⟨o, x2.fix _ _ trivial h⟩) .inr)
  have q2 := hv.mono x2
  refine ⟨fun hi => ⟨vs, q1, by rw [q2.length]; exact hi⟩, fun d hd => ?_⟩
  obtain ⟨v, q3, q4⟩ := q2.get hd
  refine ⟨⟨vs, v, q1, q3⟩, fun x H' y => ?_⟩
  obtain ⟨e, y⟩ := y
  subst e
  have e2 : some v = some x := q3.symm.trans (y vs q1)
  cases e2
  exact ⟨Ext.refl, hm2, q4⟩
theorem walk_tup {a : Addr} {vs : List V} {xs : List D} (ha : TupAt K H a vs) (hv : VAll K r H vs xs) : Walked K (Itt K a) ⟨xs, none⟩ r H := fun i r2 H2 m2 x2 hm2 hl => by
  have q1 : SqT K H2 a vs := (ha.ext x2).sq
  have q2 := hv.mono x2
  refine ⟨fun hi => ⟨vs, q1, by rw [q2.length]; exact hi⟩, fun d hd => ?_⟩
  obtain ⟨v, q3, q4⟩ := q2.get hd
  refine ⟨⟨vs, v, q1, q3⟩, fun x H' y => ?_⟩
  obtain ⟨e, y⟩ := y
  subst e
  have e2 : some v = some x := q3.symm.trans (y vs q1)
  cases e2
  exact ⟨Ext.refl, hm2, q4⟩
def rangeD (lo : Int) (n : Nat) : List D := (List.range n).map fun i => .int (lo + (i : Nat))
theorem rangeD_length (lo : Int) (n : Nat) : (rangeD lo n).length = n := by simp [rangeD]
theorem rangeD_get {lo : Int} {n i : Nat} {d : D} (h : (rangeD lo n)[i]? = some d) : i < n ∧ d = .int (lo + i) := by
  unfold rangeD at h
  rw [List.getElem?_map] at h
  by_cases hi : i < n
  · rw [List.getElem?_range hi] at h
    cases h
    exact ⟨hi, rfl⟩
  · rw [List.getElem?_eq_none (by simpa using hi)] at h
    cases h
theorem walk_range {lo : Int} {n : Nat} : Walked K (Itr lo n) ⟨rangeD lo n, none⟩ r H := fun i r2 H2 m2 x2 hm2 hl => by
  refine ⟨fun hi => ?_, fun d hd => ?_⟩
  · have : n ≤ i := by simpa [rangeD_length] using hi
    exact this
  · obtain ⟨hi, e⟩ := rangeD_get hd
    subst e
    refine ⟨hi, fun x H' y => ?_⟩
    obtain ⟨e1, e2⟩ := y
    subst e1; subst e2
    exact ⟨Ext.refl, hm2, .int _⟩
end
def seqOf (m : Mem) : D → Option Src
  | .tup xs => some ⟨xs, none⟩
  | .loc l => (rd m l).map fun xs => ⟨xs, some l⟩
  | .kl xs => some ⟨xs, none⟩
  | _ => none
def fSeq (f : FE) : FI := fun e m => (f e m).bind fun p => (seqOf p.2 p.1).map fun s => (s, p.2)
def fSeqN (f : FA) : FI := fun e m => (f e m).map fun p => (⟨p.1, none⟩, p.2)
def fRange1 (f : FE) : FI := fun e m => (f e m).bind fun p => (asI p.1).bind fun j => if -100000 ≤ j ∧ j ≤ 100000 then some (⟨rangeD 0 j.toNat, none⟩, p.2) else none
def fRange2 (f g : FE) : FI := fun e m => (f e m).bind fun p => (asI p.1).bind fun i => (g e p.2).bind fun q => (asI q.1).bind fun j => if -100000 ≤ i ∧ i ≤ 100000 ∧ -100000 ≤ j ∧ j ≤ 100000 then some (⟨rangeD i (j - i).toNat, none⟩, q.2) else none
section
variable {X : Cx} {tg a b : Expr} {ta tb : TE} {fa fb : FE} {pos p : Pos}
theorem i_seq (h : E X a ta fa) : I X tg a (fun σ H R => iList X.K ta σ H R ∨ iTup X.K ta σ H R) (fSeq fa) := ⟨pi_or (pi_list h.pe) (pi_tup h.pe), fun r σ H e m s m1 hs hm hf R go => by
  obtain ⟨⟨d, m2⟩, h1, hf⟩ := bindE hf
  obtain ⟨s2, h2, hf⟩ := mapE hf
  cases hf
  unfold seqOf at h2
  split at h2
  · rename_i xs q
    have q' : d = .tup xs := q
    subst q'
    cases h2
    refine .inr (h.ok r σ H e m _ _ hs hm h1 _ fun r1 v1 H1 x1 hm1 hv1 => ?_)
    obtain ⟨a, vs, rfl, ha, hw⟩ := hv1.tupE
    exact ⟨a, rfl, ⟨vs, ha.sq⟩, go r1 H1 _ x1 hm1 trivial (walk_tup ha hw)⟩
  · rename_i l q
    have q' : d = .loc l := q
    subst q'
    obtain ⟨xs, h3, h2⟩ := mapE h2
    cases h2
    refine .inl (h.ok r σ H e m _ _ hs hm h1 _ fun r1 v1 H1 x1 hm1 hv1 => ?_)
    obtain ⟨a, rfl, ha⟩ := hv1.locE
    obtain ⟨vs, q1, q2⟩ := hm1.rd ha h3
    exact ⟨a, rfl, ⟨vs, q1⟩, go r1 H1 _ x1 hm1 h3 (walk_list (m := m2) ha)⟩
  · rename_i xs q
    have q' : d = .kl xs := q
    subst q'
    cases h2
    refine .inl (h.ok r σ H e m _ _ hs hm h1 _ fun r1 v1 H1 x1 hm1 hv1 => ?_)
    obtain ⟨a, vs, rfl, ha, hw⟩ := hv1.klE
    exact ⟨a, rfl, ⟨vs, ha.sq⟩, go r1 H1 _ x1 hm1 trivial (walk_kl ha hw)⟩
  · cases h2⟩
theorem i_new {f : FA} (h : L X a ta f) : I X tg a (iList X.K ta) (fSeqN f) := ⟨pi_list h.pe, fun r σ H e m s m1 hs hm hf R go => by
  obtain ⟨⟨xs, m2⟩, h1, hf⟩ := mapE hf
  cases hf
  refine h.ok r σ H e m _ _ hs hm h1 _ fun r1 p vs H1 x1 hm1 hp hn hq hv => ?_
  exact ⟨p, rfl, ⟨vs, .of hq⟩, go r1 H1 _ x1 hm1 trivial (walk_new hp hq hv)⟩⟩
theorem i_range1 (hm : X.mg "range" = none) (h : E X a ta fa) (hg : Gl X "range" := by rfl) (hs : starEach [a] X.env = [(false, eval a X.env)] := by rfl) : I X tg (.Call (.Name "range" p) [a] [] pos) (iRng1 (tCons ta tNil)) (fRange1 fa) := ⟨pi_range1 hg hm (pa_cons h.pe pa_nil (by rw [hs]; rfl)) hs, fun r σ H e m s m1 hs hm hf R go => by
  obtain ⟨⟨d, m2⟩, h1, hf⟩ := bindE hf
  obtain ⟨j, h2, hf⟩ := bindE hf
  split at hf
  · rename_i hj
    cases hf
    have q' : d = .int j := asI_ok h2
    subst q'
    refine h.ok r σ H e m _ _ hs hm h1 _ fun r1 v1 H1 x1 hm1 hv1 => ?_
    exact ⟨j, by rw [hv1.intE], by omega, by omega, go r1 H1 _ x1 hm1 trivial walk_range⟩
  · cases hf⟩
theorem i_range2 (hm : X.mg "range" = none) (h : E X a ta fa) (h' : E X b tb fb) (hg : Gl X "range" := by rfl) (hs : starEach [a, b] X.env = [(false, eval a X.env), (false, eval b X.env)] := by rfl) (hs2 : starEach [b] X.env = [(false, eval b X.env)] := by rfl) :
    I X tg (.Call (.Name "range" p) [a, b] [] pos) (iRng2 (tCons ta (tCons tb tNil))) (fRange2 fa fb) := ⟨pi_range2 hg hm (pa_cons h.pe (pa_cons h'.pe pa_nil (by rw [hs2]; rfl)) (by rw [hs, hs2])) hs hs2, fun r σ H e m s m1 hs hm hf R go => by
  obtain ⟨⟨d, m2⟩, h1, hf⟩ := bindE hf
  obtain ⟨i, h2, hf⟩ := bindE hf
  obtain ⟨⟨d2, m3⟩, h3, hf⟩ := bindE hf
  obtain ⟨j, h4, hf⟩ := bindE hf
  split at hf
  · rename_i hj
    cases hf
    have q' : d = .int i := asI_ok h2
    have q2' : d2 = .int j := asI_ok h4
    subst q'; subst q2'
    refine h.ok r σ H e m _ _ hs hm h1 _ fun r1 v1 H1 x1 hm1 hv1 => ?_
    refine h'.ok r1 σ H1 e _ _ _ (hs.mono x1) hm1 h3 _ fun r2 v2 H2 x2 hm2 hv2 => ?_
    exact ⟨i, j, by rw [hv1.intE, hv2.intE], by omega, go r2 H2 _ (x1.trans x2) hm2 trivial walk_range⟩
  · cases hf⟩
end

/-! ### targets -/
abbrev FG := D → Sl → Mem → Option (Sl × Mem)
abbrev FGs := List D → Sl → Mem → Option (Sl × Mem)
def GEnd (K : Fg) (r : List Addr) (H : Hp) (σ : L2.St) (js : List Nat) (e1 : Sl) (m1 : Mem) (Q : L2.St → Hp → Prop) : Prop := ∀ r' σ' H', Ext r H r' H' → SlOk K r' H' σ' e1 → MemOk K r' H' m1 → (∀ j, j ∉ js → σ'[j]? = σ[j]?) → σ'.length = σ.length → Q σ' H'
def GOk (K : Fg) (g : TG) (f : FG) (js : List Nat) : Prop := ∀ r σ H e m v d e1 m1, SlOk K r H σ e → MemOk K r H m → Val K r H v d → f d e m = some (e1, m1) → ∀ Q, GEnd K r H σ js e1 m1 Q → g v σ H Q
def GsOk (K : Fg) (g : TGs) (f : FGs) (js : List Nat) : Prop := ∀ r σ H e m vs ds e1 m1, SlOk K r H σ e → MemOk K r H m → VAll K r H vs ds → f ds e m = some (e1, m1) → ∀ Q, GEnd K r H σ js e1 m1 Q → g vs σ H Q
structure G (X : Cx) (t : Expr) (g : TG) (f : FG) (js : List Nat) : Prop where
  pe : PG X t g
  ok : GOk X.K g f js
structure Gs (X : Cx) (ts : List Expr) (g : TGs) (f : FGs) (js : List Nat) : Prop where
  pe : PGs X ts g
  ok : GsOk X.K g f js
def fName (i : Nat) : FG := fun d e m => some (e.set i (some d), m)
theorem SlOk.set {K : Fg} {r : List Addr} {H : Hp} {σ : L2.St} {e : Sl} {v : V} {d : D} (i : Nat) (h : SlOk K r H σ e) (hv : Val K r H v d) : SlOk K r H (σ.set i (some v)) (e.set i (some d)) := by
  refine ⟨by simp [h.1], fun j d' q => ?_⟩
  by_cases hj : i = j
  · subst hj
    have hl : i < e.length := by simpa using (List.getElem?_eq_some_iff.mp q).1
    rw [List.getElem?_set_self hl] at q
    cases q
    exact ⟨v, List.getElem?_set_self (by rw [h.1]; exact hl), hv⟩
  · rw [List.getElem?_set_ne hj] at q
    rw [List.getElem?_set_ne hj]
    exact h.2 j d' q
theorem nameOk {K : Fg} (i : Nat) : GOk K (gName i) (fName i) [i] := fun r σ H e m v d e1 m1 hs hm hv hf Q g => by
  cases hf
  exact g r _ H Ext.refl (hs.set i hv) hm (fun j hj => List.getElem?_set_ne fun z => hj (by simp [z])) (by simp)
section
variable {X : Cx} {pos : Pos}
theorem g_name (i : Nat) {x : Str} (hN : X.N.Nodup) (hi : X.N[i]? = some x := by rfl) (hx : Loc X.env.scope x := by first | exact Or.inl rfl | exact Or.inr rfl) (hf : X.fn x = true ∨ X.env.scope.names.lookup x = some .local := by first | exact .inl rfl | exact .inr rfl) : G X (.Name x pos) (gName i) (fName i) [i] := ⟨pg_name hN hi hx hf, nameOk i⟩
def fsNil : FGs := fun ds e m => match ds with
  | [] => some (e, m)
  | _ => none
def fsCons (f : FG) (fs : FGs) : FGs := fun ds e m => match ds with
  | d :: r => (f d e m).bind fun p => fs r p.1 p.2
  | [] => none
theorem gs_nil : Gs X [] gNil fsNil [] := ⟨pgs_nil, fun r σ H e m vs ds e1 m1 hs hm hv hf Q g => by
  unfold fsNil at hf
  split at hf
  · cases hf
    cases hv
    exact ⟨rfl, g r σ H Ext.refl hs hm (fun _ _ => rfl) rfl⟩
  · cases hf⟩
theorem gs_cons {a : Expr} {es : List Expr} {t : TG} {u : TGs} {f : FG} {fs : FGs} {js ks : List Nat} (h1 : G X a t f js) (h2 : Gs X es u fs ks) (hs : (assignEach (a :: es) X.env).map (·.2) = assign a X.env :: (assignEach es X.env).map (·.2) := by rfl) :
    Gs X (a :: es) (gCons t u) (fsCons f fs) (js ++ ks) := ⟨pgs_cons h1.pe h2.pe hs, fun r σ H e m vs ds e1 m1 hs hm hv hf Q g => by
  unfold fsCons at hf
  split at hf
  · obtain ⟨⟨e2, m2⟩, q1, hf⟩ := bindE hf
    cases hv with
    | cons hv hr =>
      refine ⟨_, _, rfl, h1.ok r σ H e m _ _ e2 m2 hs hm hv q1 _ fun r1 σ1 H1 x1 hs1 hm1 k1 n1 => ?_⟩
      refine h2.ok r1 σ1 H1 e2 m2 _ _ e1 m1 hs1 hm1 (hr.mono x1) hf _ fun r2 σ2 H2 x2 hs2 hm2 k2 n2 => ?_
      exact g r2 σ2 H2 (x1.trans x2) hs2 hm2 (fun j hj => (k2 j fun z => hj (List.mem_append_right _ z)).trans (k1 j fun z => hj (List.mem_append_left _ z))) (n2.trans n1)
  · cases hf⟩
def fTupG (n : Nat) (fs : FGs) : FG := fun d e m => match d with
  | .tup ds => if ds.length = n then fs ds e m else none
  | _ => none
theorem g_tup {es : List Expr} {k : Nat} {t : TGs} {n : Nat} {fs : FGs} {js : List Nat} (hc : X.calm = true) (h : Gs X es t fs js) (hn : (assignEach es X.env).length = n := by rfl) (hst : (assignEach es X.env).findIdx? (·.1) = none := by rfl) : G X (.Tuple es k pos) (gTup X.K n t) (fTupG n fs) js := ⟨pg_tup hc h.pe hn hst, fun r σ H e m v d e1 m1 hs hm hv hf Q g => by
  unfold fTupG at hf
  split at hf
  · split at hf
    · rename_i hz
      obtain ⟨a, vs, rfl, ha, hw⟩ := hv.tupE
      exact ⟨a, vs, rfl, ha.sq, by rw [hw.length]; exact hz, h.ok r σ H e m _ _ e1 m1 hs hm hw hf Q g⟩
    · cases hf
  · cases hf⟩
def fSub (fo fi : FE) : FG := fun d e m => (fo e m).bind fun p => (fi e p.2).bind fun q => match p.1, q.1 with
  | .loc l, .int k => match q.2[l]? with
    | some (.lst xs) => (ixN xs.length k).map fun j => (e, q.2.set l (.lst (xs.set j d)))
    | _ => none
  | _, _ => none
theorem g_sub {o i : Expr} {to ti : TE} {fo fi : FE} (ho : E X o to fo) (hi : E X i ti fi)
    (ha : ∀ v, assign (.Subscript o i pos) X.env v = (do
      let ov ← holding [v] (eval o X.env)
      let iv ← holding [v, ov] (eval i X.env)
      standAt pos
      holding [v, ov, iv] (setItem ov iv v)
      release [v, ov, iv] []) := by intro _; rfl) : G X (.Subscript o i pos) (L2.gSub to ti rSetL) (fSub fo fi) [] := ⟨pg_sub ho.pe hi.pe set_list ha, fun r σ H e m v d e1 m1 hs hm hv hf Q g => by
  obtain ⟨⟨d1, m2⟩, q1, hf⟩ := bindE hf
  obtain ⟨⟨d2, m3⟩, q2, hf⟩ := bindE hf
  split at hf
  · rename_i l k z1 z2
    have z1' : d1 = .loc l := z1
    have z2' : d2 = .int k := z2
    subst z1'; subst z2'
    split at hf
    · rename_i xs z3
      obtain ⟨j, h4, hf⟩ := mapE hf
      cases hf
      refine ho.ok r σ H e m _ _ hs hm q1 _ fun r1 v1 H1 x1 hm1 hv1 => ?_
      refine hi.ok r1 σ H1 e _ _ _ (hs.mono x1) hm1 q2 _ fun r2 v2 H2 x2 hm2 hv2 => ?_
      obtain ⟨a, e1, ha⟩ := (hv1.mono x2).locE
      obtain ⟨vs, w1, w2⟩ := hm2.lst ha z3
      have x12 := x1.trans x2
      have ew : Ext r2 H2 r2 (upd H2 a (.lst (vs.set j v))) := Ext.write (List.mem_of_getElem? ha) fun u hf z => by rw [w1] at z; cases z; exact hf
      refine ⟨a, vs, k, j, e1, hv2.intE, w1, by rw [w2.length]; exact h4, ?_⟩
      exact g r2 σ _ (x12.trans ew) (hs.mono (x12.trans ew)) (hm2.write ha w1 (w2.set j (hv.mono x12))) (fun _ _ => rfl) rfl
    · cases hf
  · cases hf⟩
end

/-! ### statements -/
inductive Out where
  | nx (e : Sl) (m : Mem) | rt (d : D) (m : Mem) | bk (e : Sl) (m : Mem) | ct (e : Sl) (m : Mem)
abbrev FS := Sl → Mem → Option Out
def Done (K : Fg) (r : List Addr) (H : Hp) (B : Ends) : Out → Prop
  | .nx e m => ∀ r' σ' H', Ext r H r' H' → SlOk K r' H' σ' e → MemOk K r' H' m → B.nx σ' H'
  | .rt d m => ∀ r' v H', Ext r H r' H' → MemOk K r' H' m → Val K r' H' v d → B.rt v H'
  | .bk e m => ∀ r' σ' H', Ext r H r' H' → SlOk K r' H' σ' e → MemOk K r' H' m → B.bk σ' H'
  | .ct e m => ∀ r' σ' H', Ext r H r' H' → SlOk K r' H' σ' e → MemOk K r' H' m → B.ct σ' H'
theorem Done.step {K : Fg} {r r1 : List Addr} {H H1 : Hp} {B : Ends} {o : Out} (h : Done K r H B o) (x : Ext r H r1 H1) : Done K r1 H1 B o := by
  cases o with
  | nx e m => exact fun r' σ' H' y => h r' σ' H' (x.trans y)
  | rt d m => exact fun r' σ' H' y => h r' σ' H' (x.trans y)
  | bk e m => exact fun r' σ' H' y => h r' σ' H' (x.trans y)
  | ct e m => exact fun r' σ' H' y => h r' σ' H' (x.trans y)
def SOk (K : Fg) (ts : TS) (g : FS) : Prop := ∀ r σ H e m o, SlOk K r H σ e → MemOk K r H m → g e m = some o → ∀ B : Ends, Done K r H B o → ts B σ H
structure S (X : Cx) (st : Stmt) (ts : TS) (g : FS) : Prop where
  pe : PS X st ts
  ok : SOk X.K ts g
structure Ss (X : Cx) (st : List Stmt) (ts : TS) (g : FS) : Prop where
  pe : PSs X st ts
  ok : SOk X.K ts g
def fsNext : FS := fun e m => some (.nx e m)
def fsSeq (f g : FS) : FS := fun e m => (f e m).bind fun o => match o with
  | .nx e1 m1 => g e1 m1
  | o => some o
theorem seqOk {K : Fg} {t u : TS} {f g : FS} (h1 : SOk K t f) (h2 : SOk K u g) : SOk K (tSeq t u) (fsSeq f g) := fun r σ H e m o hs hm hf B go => by
  obtain ⟨o1, q1, hf⟩ := bindE hf
  refine h1 r σ H e m o1 hs hm q1 _ ?_
  cases o1 with
  | nx e1 m1 => exact fun r' σ' H' x hs' hm' => h2 r' σ' H' e1 m1 o hs' hm' hf B (go.step x)
  | rt d m1 => cases hf; exact go
  | bk e1 m1 => cases hf; exact go
  | ct e1 m1 => cases hf; exact go
def fsIf (t : FT) (f g : FS) : FS := fun e m => (t e m).bind fun p => if p.1 = true then f e p.2 else g e p.2
def fsRet (f : FE) : FS := fun e m => (f e m).map fun p => .rt p.1 p.2
def fsDrop (f : FE) : FS := fun e m => (f e m).map fun p => .nx e p.2
def fsAsg (f : FE) (g : FG) : FS := fun e m => (f e m).bind fun p => (g p.1 e p.2).map fun q => .nx q.1 q.2
def wh (t : FT) (g : FS) : Nat → FS
  | 0, _, _ => none
  | n + 1, e, m => (t e m).bind fun p => if p.1 = true then (g e p.2).bind fun o => match o with
    | .nx e1 m1 => wh t g n e1 m1
    | .ct e1 m1 => wh t g n e1 m1
    | .bk e1 m1 => some (.nx e1 m1)
    | .rt d m1 => some (.rt d m1) else some (.nx e p.2)
open Classical in
noncomputable def turns (s : Src) (b : D → FS) : List D → FS
  | [], e, m => if s.live m then some (.nx e m) else none
  | x :: xs, e, m => if s.live m then (b x e m).bind fun o => match o with
    | .nx e1 m1 => turns s b xs e1 m1
    | .ct e1 m1 => turns s b xs e1 m1
    | .bk e1 m1 => some (.nx e1 m1)
    | .rt d m1 => some (.rt d m1) else none
noncomputable def fsFor (fi : FI) (ft : FG) (g : FS) : FS := fun e m => (fi e m).bind fun p => turns p.1 (fun x e m => (ft x e m).bind fun q => g q.1 q.2) p.1.xs e p.2
section
variable {X : Cx} {st : Stmt} {rest : List Stmt} {t u : TS} {f g : FS} {a : Expr} {te : TE} {fe : FE} {pos : Pos}
theorem ss_nil : Ss X [] tNext fsNext := ⟨pss_nil, fun r σ H e m o hs hm hf B go => by cases hf; exact go r σ H Ext.refl hs hm⟩
theorem ss_cons (h1 : S X st t f) (h2 : Ss X rest u g) : Ss X (st :: rest) (tSeq t u) (fsSeq f g) := ⟨pss_cons h1.pe h2.pe, seqOk h1.ok h2.ok⟩
theorem ss_one (h1 : S X st t f) : Ss X [st] t f := ⟨pss_one h1.pe, h1.ok⟩
theorem s_pass : S X (.Pass pos) tNext fsNext := ⟨ps_pass, fun r σ H e m o hs hm hf B go => by cases hf; exact go r σ H Ext.refl hs hm⟩
def fsBreak : FS := fun e m => some (.bk e m)
def fsCont : FS := fun e m => some (.ct e m)
theorem s_break : S X (.Break pos) tBreak fsBreak := ⟨ps_break, fun r σ H e m o hs hm hf B go => by cases hf; exact go r σ H Ext.refl hs hm⟩
theorem s_continue : S X (.Continue pos) tCont fsCont := ⟨ps_continue, fun r σ H e m o hs hm hf B go => by cases hf; exact go r σ H Ext.refl hs hm⟩
def fsNever : FS := fun _ _ => none
theorem s_never : S X st tNever fsNever := ⟨ps_never, fun r σ H e m o hs hm hf B go => by cases hf⟩
theorem s_expr (h : E X a te fe) (hs : swapsWith a none pos.line X.env = pure false := by rfl) : S X (.Expr a pos) (tDrop te) (fsDrop fe) := ⟨ps_expr h.pe hs, fun r σ H e m o hs hm hf B go => by
  obtain ⟨⟨d, m1⟩, q, hf⟩ := mapE hf
  cases hf
  exact h.ok r σ H e m d m1 hs hm q _ fun r1 v H1 x1 hm1 _ => go r1 σ H1 x1 (hs.mono x1) hm1⟩
theorem s_ret (h : E X a te fe) : S X (.Return (some a) pos) (tRet te) (fsRet fe) := ⟨ps_ret h.pe, fun r σ H e m o hs hm hf B go => by
  obtain ⟨⟨d, m1⟩, q, hf⟩ := mapE hf
  cases hf
  exact h.ok r σ H e m d m1 hs hm q _ go⟩
def fsRetN : FS := fun e m => some (.rt .non m)
theorem s_retN : S X (.Return none pos) tRetN fsRetN := ⟨ps_retN, fun r σ H e m o hs hm hf B go => by
  cases hf
  exact go r .non H Ext.refl hm .non⟩
theorem s_if {c : Expr} {p q : List Stmt} {tc : TT} {fc : FT} (hc : T X c tc fc) (hp : Ss X p t f) (hq : Ss X q u g) : S X (.If c p q pos) (tIfS tc t u) (fsIf fc f g) := ⟨ps_if hc.pe hp.pe hq.pe, fun r σ H e m o hs hm hf B go => by
  obtain ⟨⟨k, m1⟩, h1, hf⟩ := bindE hf
  refine hc.ok r σ H e m k m1 hs hm h1 _ fun r1 H1 x1 hm1 => ?_
  cases k with
  | true => exact iteT (hp.ok r1 σ H1 e m1 o (hs.mono x1) hm1 (by simpa using hf) B (go.step x1))
  | false => exact iteF (hq.ok r1 σ H1 e m1 o (hs.mono x1) hm1 (by simpa using hf) B (go.step x1))⟩
theorem asgOk {K : Fg} {te : TE} {fe : FE} {gt : TG} {ft : FG} {js : List Nat} (h : EOk K te fe) (hg : GOk K gt ft js) : SOk K (tAsg te gt) (fsAsg fe ft) := fun r σ H e m o hs hm hf B go => by
  obtain ⟨⟨d, m1⟩, q1, hf⟩ := bindE hf
  obtain ⟨⟨e2, m2⟩, q2, hf⟩ := mapE hf
  cases hf
  refine h r σ H e m d m1 hs hm q1 _ fun r1 v H1 x1 hm1 hv => ?_
  exact hg r1 σ H1 e m1 v d e2 m2 (hs.mono x1) hm1 hv q2 _ fun r2 σ2 H2 x2 hs2 hm2 _ _ => go r2 σ2 H2 (x1.trans x2) hs2 hm2
theorem s_set (i : Nat) {x : Str} {pos' : Pos} (hN : X.N.Nodup) (h : E X a te fe) (hi : X.N[i]? = some x := by rfl) (hx : Loc X.env.scope x := by first | exact Or.inl rfl | exact Or.inr rfl) (hs : swapsWith a (some (.Name x pos')) pos.line X.env = pure false := by rfl)
    (hf : X.fn x = true ∨ X.env.scope.names.lookup x = some .local := by first | exact .inl rfl | exact .inr rfl) : S X (.Assign [.Name x pos'] a pos) (tAsg te (gName i)) (fsAsg fe (fName i)) := ⟨ps_set hN hi hx h.pe hs hf, asgOk h.ok (nameOk i)⟩
theorem s_asg {tg : Expr} {gt : TG} {ft : FG} {js : List Nat} (h : E X a te fe) (hg : G X tg gt ft js) (hs : swapsWithSole [tg] a pos.line X.env = pure false := by rfl) (hw : swappedStores [tg] a X.env = pure none := by rfl)
    (h1 : (assignEach [tg] X.env).map (·.2) = [assign tg X.env] := by rfl) : S X (.Assign [tg] a pos) (tAsg te gt) (fsAsg fe ft) := ⟨ps_asg h.pe hg.pe hs hw h1, asgOk h.ok hg.ok⟩
/-- a, b = x, y -/
def fsPar (i j : Nat) (fa : FA) : FS := fun e m => (fa e m).bind fun p => match p.1 with
  | [x, y] => some (.nx ((e.set i (some x)).set j (some y)) p.2)
  | _ => none
theorem s_par (i j : Nat) {x y : Str} {b : Expr} {ta : TA} {fa : FA} {px py pt : Pos} {kt k2 pt2} (hc : X.calm = true) (hN : X.N.Nodup) (ha : A X [a, b] ta fa) (hij : i ≠ j := by decide) (hi : X.N[i]? = some x := by rfl) (hj : X.N[j]? = some y := by rfl)
    (hx : X.env.scope.names.lookup x = some .local := by rfl) (hy : X.env.scope.names.lookup y = some .local := by rfl)
    (hw : swappedStores [.Tuple [.Name x px, .Name y py] kt pt] (.Tuple [a, b] k2 pt2) X.env = pure (some [x, y]) := by rfl)
    (hs : swapsWithSole [.Tuple [.Name x px, .Name y py] kt pt] (.Tuple [a, b] k2 pt2) pos.line X.env = pure false := by rfl) :
    S X (.Assign [.Tuple [.Name x px, .Name y py] kt pt] (.Tuple [a, b] k2 pt2) pos) (tPar i j ta) (fsPar i j fa) := ⟨ps_par hc hN hi hj hij hx hy ha.pe hw hs, fun r σ H e m o hs hm hf B go => by
  obtain ⟨⟨ds, m1⟩, q1, hf⟩ := bindE hf
  split at hf
  · rename_i d1 d2 z
    have z' : ds = [d1, d2] := z
    subst z'
    cases hf
    refine ha.ok r σ H e m _ m1 hs hm q1 _ fun r1 vs H1 x1 hm1 hv => ?_
    obtain ⟨v, w, rfl, hv1, hv2⟩ := hv.two
    exact ⟨v, w, rfl, go r1 _ H1 x1 (((hs.mono x1).set i hv1).set j hv2) hm1⟩
  · cases hf⟩
/-- .. into a name that a comprehension or an inner def reads -/
theorem s_while (n : Nat) {c : Expr} {body : List Stmt} {tc : TT} {fc : FT} (hp : PassesOwn (model X.prog X.w) X.A X.env X.xe) (hc : T X c tc fc) (hb : Ss X body t f) : S X (.While c body [] pos) (tWhile tc t) (wh fc f n) := ⟨ps_while hp hc.pe hb.pe, fun r0 σ0 H0 e0 m0 o hs0 hm0 hf0 B go => by
  refine ⟨fun k σ H => ∃ r e m, Ext r0 H0 r H ∧ SlOk X.K r H σ e ∧ MemOk X.K r H m ∧ wh fc f k e m = some o, ⟨n, r0, e0, m0, Ext.refl, hs0, hm0, hf0⟩, ?_⟩
  rintro k σ H ⟨r, e, m, x, hs, hm, hf⟩
  cases k with
  | zero => cases hf
  | succ k =>
    unfold wh at hf
    obtain ⟨⟨b, m1⟩, h1, hf⟩ := bindE hf
    refine hc.ok r σ H e m b m1 hs hm h1 _ fun r1 H1 x1 hm1 => ?_
    have hs1 := hs.mono x1
    have x01 := x.trans x1
    cases b with
    | false =>
      have hf' : some (Out.nx e m1) = some o := by simpa using hf
      cases hf'
      exact iteF (go r1 σ H1 x01 hs1 hm1)
    | true =>
      have hf' : ((f e m1).bind fun o => match o with
        | .nx e1 m1 => wh fc f k e1 m1
        | .ct e1 m1 => wh fc f k e1 m1
        | .bk e1 m1 => some (.nx e1 m1)
        | .rt d m1 => some (.rt d m1)) = some o := by simpa using hf
      obtain ⟨o1, h2, hf'⟩ := bindE hf'
      refine iteT ⟨fun σ' H' => ∃ r e m, Ext r0 H0 r H' ∧ SlOk X.K r H' σ' e ∧ MemOk X.K r H' m ∧ wh fc f k e m = some o, fun σ' H' q => ⟨k, Nat.lt_succ_self k, q⟩, ?_⟩
      refine hb.ok r1 σ H1 e m1 o1 hs1 hm1 h2 _ ?_
      cases o1 with
      | nx e1 m2 => exact fun r' σ' H' y hs' hm' => ⟨r', e1, m2, x01.trans y, hs', hm', hf'⟩
      | ct e1 m2 => exact fun r' σ' H' y hs' hm' => ⟨r', e1, m2, x01.trans y, hs', hm', hf'⟩
      | bk e1 m2 => cases hf'; exact fun r' σ' H' y hs' hm' => go r' σ' H' (x01.trans y) hs' hm'
      | rt d m2 => cases hf'; exact fun r' v H' y hm' hv => go r' v H' (x01.trans y) hm' hv⟩
theorem s_for {tg iter : Expr} {body : List Stmt} {wi : TI} {fi : FI} {gt : TG} {ft : FG} {js : List Nat} (hp : PassesOwn (model X.prog X.w) X.A X.env X.xe) (hc : X.calm = true) (hi : I X tg iter wi fi) (hg : G X tg gt ft js) (hb : Ss X body t f)
    (hs : ∀ x, foldedSetIterable iter X.env x = pure x := by intro _; rfl) : S X (.For tg iter body [] pos) (tFor wi gt t) (fsFor fi ft f) := ⟨ps_for hp hc hi.pe hg.pe hb.pe hs, fun r0 σ0 H0 e0 m0 o hs0 hm0 hf0 B go => by
  obtain ⟨⟨s, m1⟩, h1, hf0⟩ := bindE hf0
  refine hi.ok r0 σ0 H0 e0 m0 s m1 hs0 hm0 h1 _ fun r1 H1 J x1 hm1 hl1 hw => ?_
  refine ⟨fun i k σ H => k = s.xs.length - i ∧ i ≤ s.xs.length ∧ ∃ r e m, Ext r1 H1 r H ∧ SlOk X.K r H σ e ∧ MemOk X.K r H m ∧ turns s (fun x e m => (ft x e m).bind fun q => f q.1 q.2) (s.xs.drop i) e m = some o,
    ⟨s.xs.length, by simp, Nat.zero_le _, r1, e0, m1, Ext.refl, hs0.mono x1, hm1, hf0⟩, ?_⟩
  rintro i k σ H ⟨rfl, hi', r, e, m, x, hs, hm, hf⟩
  by_cases hlt : i < s.xs.length
  · have hd : s.xs.drop i = s.xs[i] :: s.xs.drop (i + 1) := List.drop_eq_getElem_cons hlt
    rw [hd] at hf
    unfold turns at hf
    split at hf
    · rename_i hl
      obtain ⟨_, w⟩ := hw i r H m x hm hl
      obtain ⟨w1, w2⟩ := w s.xs[i] (List.getElem?_eq_getElem hlt)
      obtain ⟨o1, h2, hf⟩ := bindE hf
      obtain ⟨⟨e2, m2⟩, h3, h2⟩ := bindE h2
      refine .inr ⟨w1, fun σ' H' => ∃ r e m, Ext r1 H1 r H' ∧ SlOk X.K r H' σ' e ∧ MemOk X.K r H' m ∧ turns s (fun x e m => (ft x e m).bind fun q => f q.1 q.2) (s.xs.drop (i + 1)) e m = some o,
        fun σ' H' q => ⟨s.xs.length - (i + 1), by omega, rfl, hlt, q⟩, fun v H' y => ?_⟩
      obtain ⟨xy, hm', hv⟩ := w2 v H' y
      refine hg.ok r σ H' e m v _ e2 m2 (hs.mono xy) hm' hv h3 _ fun r3 σ3 H3 x3 hs3 hm3 _ _ => ?_
      have x03 := (x.trans xy).trans x3
      refine hb.ok r3 σ3 H3 e2 m2 o1 hs3 hm3 h2 _ ?_
      cases o1 with
      | nx e1 m4 => exact fun r' σ' H' y hs' hm' => ⟨r', e1, m4, x03.trans y, hs', hm', hf⟩
      | ct e1 m4 => exact fun r' σ' H' y hs' hm' => ⟨r', e1, m4, x03.trans y, hs', hm', hf⟩
      | bk e1 m4 => cases hf; exact fun r' σ' H' y hs' hm' => go r' σ' H' (x1.trans (x03.trans y)) hs' hm'
      | rt d m4 => cases hf; exact fun r' v H' y hm' hv => go r' v H' (x1.trans (x03.trans y)) hm' hv
    · cases hf
  · have e1 : i = s.xs.length := by omega
    subst e1
    rw [List.drop_length] at hf
    unfold turns at hf
    split at hf
    · rename_i hl
      cases hf
      obtain ⟨w, _⟩ := hw _ r H m x hm hl
      exact .inl ⟨w (Nat.le_refl _), go r σ H (x1.trans x) hs hm⟩
    · cases hf⟩
end
end Mv

set_option Elab.async false
set_option linter.all false
set_option maxRecDepth 100000
set_option maxHeartbeats 4000000
/-! Mv6: comprehensions, methods, own defs called. -/
namespace Mv
open PySem PySem.Spec PyProof.Rows L2

/-! ### comprehensions -/
def wipeE (e : Sl) : List Nat → Sl
  | [] => e
  | v :: vs => (wipeE e vs).set v none
theorem SlOk.unset {K : Fg} {r : List Addr} {H : Hp} {σ : L2.St} {e : Sl} (i : Nat) (h : SlOk K r H σ e) : SlOk K r H (σ.set i none) (e.set i none) := by
  refine ⟨by simp [h.1], fun j d' q => ?_⟩
  by_cases hj : i = j
  · subst hj
    have hl : i < e.length := by simpa using (List.getElem?_eq_some_iff.mp q).1
    rw [List.getElem?_set_self hl] at q
    cases q
  · rw [List.getElem?_set_ne hj] at q
    rw [List.getElem?_set_ne hj]
    exact h.2 j d' q
theorem SlOk.wipe {K : Fg} {r : List Addr} {H : Hp} {σ : L2.St} {e : Sl} (h : SlOk K r H σ e) : ∀ vs : List Nat, SlOk K r H (wipe σ vs) (wipeE e vs)
  | [] => h
  | _ :: vs => (SlOk.wipe h vs).unset _
theorem wipe_eq {σ τ : L2.St} : ∀ {vs : List Nat}, τ.length = σ.length → (∀ j, j ∉ vs → τ[j]? = (L2.wipe σ vs)[j]?) → L2.wipe τ vs = L2.wipe σ vs := fun {vs} hl h => by
  refine List.ext_getElem? fun i => ?_
  have wg : ∀ (ρ : L2.St) (ws : List Nat), i ∈ ws → i < ρ.length → (L2.wipe ρ ws)[i]? = some none := by
    intro ρ ws
    induction ws with
    | nil => intro h; simp at h
    | cons w ws ih =>
      intro hi hlt
      unfold L2.wipe
      by_cases e : w = i
      · subst e
        exact List.getElem?_set_self (by rw [wipe_length]; exact hlt)
      · rw [List.getElem?_set_ne e]
        exact ih (by simpa [Ne.symm e] using hi) hlt
  have wo : ∀ (ρ : L2.St) (ws : List Nat), i ∉ ws → (L2.wipe ρ ws)[i]? = ρ[i]? := by
    intro ρ ws
    induction ws with
    | nil => intro _; rfl
    | cons w ws ih =>
      intro hi
      unfold L2.wipe
      rw [List.getElem?_set_ne (fun e => hi (by simp [e]))]
      exact ih fun z => hi (List.mem_cons_of_mem _ z)
  by_cases hi : i ∈ vs
  · by_cases hlt : i < σ.length
    · rw [wg τ vs hi (by rw [hl]; exact hlt), wg σ vs hi hlt]
    · rw [List.getElem?_eq_none (by rw [wipe_length, hl]; omega), List.getElem?_eq_none (by rw [wipe_length]; omega)]
  · rw [wo τ vs hi]
    exact h i hi
open Classical in
noncomputable def comp (s : Src) (b : D → Mem → Option (Option D × Mem)) : List D → Mem → Option (List D × Mem)
  | [], m => if s.live m then some ([], m) else none
  | x :: xs, m => if s.live m then (b x m).bind fun p => (comp s b xs p.2).map fun q => (p.1.toList ++ q.1, q.2) else none
/-- one turn: the target, the tests, the element -/
def fElt (ft : FG) (fc : FT) (fe : FE) (e : Sl) : D → Mem → Option (Option D × Mem) := fun x m => (ft x e m).bind fun q => (fc q.1 q.2).bind fun c => if c.1 = true then (fe q.1 c.2).map fun p => (some p.1, p.2) else some (none, c.2)
noncomputable def fLc (fi : FI) (ft : FG) (fc : FT) (fe : FE) (vs : List Nat) : FA := fun e m => (fi e m).bind fun p => if p.1.xs.length ≤ 100000 then comp p.1 (fElt ft fc fe (wipeE e vs)) p.1.xs p.2 else none
theorem Ext.hid {r0 r : List Addr} {H0 H : Hp} {p : Addr} {o : HO} (x : Ext r0 H0 r H) (h : H0 p = none) : Ext r0 H0 r (upd H p o) :=
  ⟨x.pre, x.new, fun b u e n => by rw [upd_ne (ne_of_none e h)]; exact x.keep b u e n, fun b u hf e => by rw [upd_ne (ne_of_none e h)]; exact x.fix b u hf e, fun b u e => by rw [upd_ne (ne_of_none e h)]; exact x.had b u e⟩
theorem VAll.off {K : Fg} {r : List Addr} {H : Hp} {p : Addr} {us : List V} {o : HO} (hp : H p = some (.lst us)) {vs : List V} {ds : List D} (h : VAll K r H vs ds) : VAll K r (upd H p o) vs ds :=
  h.mo ⟨[], by simp⟩ (fun b u hf q => by
    have z : b ≠ p := fun z => by rw [z, hp] at q; cases q; exact hf
    rw [upd_ne z]; exact q) fun b C dx fs q hn => ⟨by
    have z : b ≠ p := fun z => by rw [z, hp] at q; cases q
    rw [upd_ne z]; exact q, hn⟩
theorem Val.off {K : Fg} {r : List Addr} {H : Hp} {p : Addr} {us : List V} {o : HO} (hp : H p = some (.lst us)) {v : V} {d : D} (h : Val K r H v d) : Val K r (upd H p o) v d :=
  h.mo ⟨[], by simp⟩ (fun b u hf q => by
    have z : b ≠ p := fun z => by rw [z, hp] at q; cases q; exact hf
    rw [upd_ne z]; exact q) fun b C dx fs q hn => ⟨by
    have z : b ≠ p := fun z => by rw [z, hp] at q; cases q
    rw [upd_ne z]; exact q, hn⟩
theorem MemOk.off {K : Fg} {r : List Addr} {H : Hp} {m : Mem} {p : Addr} {us : List V} {o : HO} (h : MemOk K r H m) (hr : p ∉ r) (hp : H p = some (.lst us)) : MemOk K r (upd H p o) m := by
  refine ⟨h.len, h.nd, fun l c q => ?_⟩
  obtain ⟨a, ha, hc⟩ := h.cell l c q
  have hap : a ≠ p := fun z => hr (by rw [← z]; exact List.mem_of_getElem? ha)
  refine ⟨a, ha, ?_⟩
  cases c with
  | lst xs =>
    obtain ⟨vs, e, w⟩ := hc
    exact ⟨vs, by rw [upd_ne hap]; exact e, w.off hp⟩
  | dK ks xs =>
    obtain ⟨vs, e, n, w⟩ := hc
    exact ⟨vs, by rw [upd_ne hap]; exact e, n, w.off hp⟩
  | dT ks xs =>
    obtain ⟨vs, e, n, w⟩ := hc
    exact ⟨vs, by rw [upd_ne hap]; exact e, n, w.off hp⟩
  | ob nm ks xs =>
    obtain ⟨vs, ⟨C, dx, e, z⟩, n, w⟩ := hc
    exact ⟨vs, ⟨C, dx, by rw [upd_ne hap]; exact e, z⟩, n, w.off hp⟩
/-- .. an object at no place is written: for those who began with it -/
theorem Ext.offW {r : List Addr} {H : Hp} {p : Addr} {us : List V} {o : HO} (hr : p ∉ r) (hp : H p = some (.lst us)) : (∀ b xs, H b = some (.tup xs) → upd H p o b = some (.tup xs)) := fun b xs q => by
  have z : b ≠ p := fun z => by rw [z, hp] at q; cases q
  rw [upd_ne z]; exact q
theorem iteE {α : Type} {c : Prop} {_ : Decidable c} {a : Option α} {b : α} (h : (if c then a else none) = some b) : c ∧ a = some b := by
  by_cases hc : c
  · rw [if_pos hc] at h; exact ⟨hc, h⟩
  · rw [if_neg hc] at h; cases h
theorem TOk.run5 {K : Fg} {tt : TT} {f : FT} (h : TOk K tt f) {r : List Addr} {σ : L2.St} {H : Hp} {e : Sl} {m m' : Mem} {b : Bool} (hs : SlOk K r H σ e) (hm : MemOk K r H m) (hf : f e m = some (b, m')) {Q : Bool → Hp → Prop} (g : ∀ r' H', Ext r H r' H' → MemOk K r' H' m' → Q b H') : tt σ H Q := h r σ H e m b m' hs hm hf Q g
theorem lcOk {K : Fg} {wi : TI} {g : TG} {tt : TT} {te : TE} {fi : FI} {ft : FG} {fc : FT} {fe : FE} {vs js : List Nat} (hi : IOk K wi fi) (hg : GOk K g ft js) (hjs : ∀ j ∈ js, j ∈ vs) (hc : TOk K tt fc) (he : EOk K te fe) : LOk K (tLc wi g tt te vs) (fLc fi ft fc fe vs) := fun r0 σ0 H0 e0 m0 tot mE hs0 hm0 hf0 Q go => by
  obtain ⟨⟨s, m1⟩, h1, hf0⟩ := bindE hf0
  obtain ⟨hsz, hf0⟩ := iteE hf0
  have hsz : s.xs.length ≤ 100000 := hsz
  refine hi r0 σ0 H0 e0 m0 s m1 hs0 hm0 h1 _ fun r1 H1 J x1 hm1 hl1 hw => ?_
  intro L hL
  have hL0 : H0 L = none := x1.back hL
  refine ⟨fun i k H => k = s.xs.length - i ∧ i ≤ s.xs.length ∧ ∃ r m acc accD ys, Ext r1 H1 r H ∧ MemOk K r H m ∧ L ∉ r ∧ H L = some (.lst acc) ∧ VAll K r H acc accD ∧ acc.length ≤ i ∧ comp s (fElt ft fc fe (wipeE e0 vs)) (s.xs.drop i) m = some (ys, mE) ∧ accD ++ ys = tot,
    ⟨s.xs.length, by simp, Nat.zero_le _, r1, m1, [], [], tot, Ext.fresh hL, hm1.fresh hL, notAt hm1 hL, upd_same, .nil, Nat.le_refl _, hf0, rfl⟩, ?_⟩
  rintro i k H ⟨rfl, hi', r, m, acc, accD, ys, x, hm, hLr, hLq, hacc, hal, hf, htot⟩
  by_cases hlt : i < s.xs.length
  · have hd : s.xs.drop i = s.xs[i] :: s.xs.drop (i + 1) := List.drop_eq_getElem_cons hlt
    rw [hd] at hf
    unfold comp at hf
    obtain ⟨hl, hf⟩ := iteE hf
    obtain ⟨_, w⟩ := hw i r H m x hm hl
    obtain ⟨w1, w2⟩ := w s.xs[i] (List.getElem?_eq_getElem hlt)
    obtain ⟨⟨od, m2⟩, h2, hf⟩ := bindE hf
    obtain ⟨⟨zs, m3⟩, h3, hf⟩ := mapE hf
    have e7 : od.toList ++ zs = ys := congrArg Prod.fst hf
    have e8 : m3 = mE := congrArg Prod.snd hf
    subst e7; subst e8
    obtain ⟨⟨e2, m4⟩, h4, h2⟩ := bindE h2
    obtain ⟨⟨b, m5⟩, h5, h2⟩ := bindE h2
    refine .inr ⟨w1, fun H => ∃ r m acc accD ys, Ext r1 H1 r H ∧ MemOk K r H m ∧ L ∉ r ∧ H L = some (.lst acc) ∧ VAll K r H acc accD ∧ acc.length ≤ i + 1 ∧ comp s (fElt ft fc fe (wipeE e0 vs)) (s.xs.drop (i + 1)) m = some (ys, m3) ∧ accD ++ ys = tot,
      fun H' q => ⟨s.xs.length - (i + 1), by omega, rfl, hlt, q⟩, fun v H' y => ?_⟩
    obtain ⟨xy, hm', hv⟩ := w2 v H' y
    have hsw : SlOk K r H' (L2.wipe σ0 vs) (wipeE e0 vs) := ((hs0.mono x1).mono (x.trans xy)).wipe vs
    refine hg r _ H' _ m v _ e2 m4 hsw hm' hv h4 _ fun r3 σ3 H3 x3 hs3 hm3 k3 n3 => ⟨wipe_eq (by rw [n3, wipe_length]) fun j hj => k3 j fun z => hj (hjs j z), ?_⟩
    refine hc.run5 hs3 hm3 h5 fun r5 H5 x5 hm5 => ?_
    have x05 : Ext r1 H1 r5 H5 := ((x.trans xy).trans x3).trans x5
    have xL : Ext r H r5 H5 := (xy.trans x3).trans x5
    have hL5 : H5 L = some (.lst acc) := xL.keep L _ hLq hLr
    have hLr5 : L ∉ r5 := fun z => by
      rcases xL.new L z with q | q
      · exact hLr q
      · rw [hLq] at q; cases q
    cases b with
    | false =>
      have h2' : some ((none : Option D), m5) = some (od, m2) := by simpa using h2
      have e9 : none = od := congrArg Prod.fst (Option.some.inj h2')
      have e10 : m5 = m2 := congrArg Prod.snd (Option.some.inj h2')
      subst e9; subst e10
      exact iteF ⟨r5, m5, acc, accD, zs, x05, hm5, hLr5, hL5, hacc.mono xL, by omega, h3, htot⟩
    | true =>
      have h2' : (fe e2 m5).map (fun p => (some p.1, p.2)) = some (od, m2) := by simpa using h2
      obtain ⟨⟨d6, m6⟩, h6, h7⟩ := mapE h2'
      have e9 : some d6 = od := congrArg Prod.fst h7
      have e10 : m6 = m2 := congrArg Prod.snd h7
      subst e9; subst e10
      refine iteT (he r5 σ3 H5 e2 m5 d6 m6 (hs3.mono x5) hm5 h6 _ fun r6 y6 H6 x6 hm6 hv6 => ?_)
      have hL6 : H6 L = some (.lst acc) := x6.keep L _ hL5 hLr5
      have hLr6 : L ∉ r6 := fun z => by
        rcases x6.new L z with q | q
        · exact hLr5 q
        · rw [hL5] at q; cases q
      have hlen : acc.length < sizeLine := Nat.lt_of_lt_of_le (show acc.length < 100000 by omega) (by rw [sizeLine_eq]; decide)
      refine ⟨acc, hL6, hlen, r6, m6, acc ++ [y6], accD ++ [d6], zs, (x05.trans x6).hid hL, hm6.off hLr6 hL6, hLr6, upd_same, ?_, by simp; omega, h3, ?_⟩
      · exact ((hacc.mono (xL.trans x6)).append (.cons hv6 .nil)).off hL6
      · rw [← htot]; simp
  · have e1 : i = s.xs.length := by omega
    subst e1
    rw [List.drop_length] at hf
    unfold comp at hf
    obtain ⟨hl, hf⟩ := iteE hf
    have e9 : [] = ys := congrArg Prod.fst (Option.some.inj hf)
    have e10 : m = mE := congrArg Prod.snd (Option.some.inj hf)
    subst e9; subst e10
    obtain ⟨w, _⟩ := hw _ r H m x hm hl
    rw [List.append_nil] at htot
    subst htot
    exact .inl ⟨w (Nat.le_refl _), go r L acc H (x1.trans x) hm hLr hL0 hLq hacc⟩
section
variable {X : Cx} {elt tg iter : Expr} {ifs : List Expr} {scope : Scope} {own : List (Str × Nat)} {pos : Pos} {wi : TI} {g : TG} {tt : TT} {te : TE} {fi : FI} {ft : FG} {fc : FT} {fe : FE} {js : List Nat}
structure Ts (X : Cx) (es : List Expr) (tt : TT) (f : FT) : Prop where
  pe : PTs X es tt
  ok : TOk X.K tt f
def fYes : FT := fun _ m => some (true, m)
theorem ts_nil : Ts X [] tYes fYes := ⟨pts_nil, fun r σ H e m b m' hs hm hf Q go => by cases hf; exact go r H Ext.refl hm⟩
theorem ts_one {c : Expr} (h : T X c tt fc) : Ts X [c] tt fc := ⟨pts_one h.pe, h.ok⟩
theorem l_lc (hc : X.calm = true) (hN : X.N.Nodup) (hi : I X tg iter wi fi) (ok : BlkOk X.N X.env.scope scope own)
    (hg : ∀ (s : Shared) (H : Hp) (C : Addr) (cl : List (Str × Addr)) (fp : List Addr), G (X.blk s H scope (compEnvC scope cl C X.env) fp) tg g ft js)
    (ht : ∀ (s : Shared) (H : Hp) (C : Addr) (cl : List (Str × Addr)) (fp : List Addr), Ts (X.blk s H scope (compEnvC scope cl C X.env) fp) ifs tt fc)
    (he : ∀ (s : Shared) (H : Hp) (C : Addr) (cl : List (Str × Addr)) (fp : List Addr), E (X.blk s H scope (compEnvC scope cl C X.env) fp) elt te fe)
    (hjs : ∀ j ∈ js, j ∈ own.map (·.2) := by decide) (hs : ∀ x, foldedSetIterable iter X.env x = pure x := by intro _; rfl) :
    L X (.ListComp elt [⟨tg, iter, ifs, 0⟩] scope pos) (tLc wi g tt te (own.map (·.2))) (fLc fi ft fc fe (own.map (·.2))) :=
  ⟨pe_lc hc hN hi.pe ok (fun s H C cl fp => (hg s H C cl fp).pe) (fun s H C cl fp => (ht s H C cl fp).pe) (fun s H C cl fp => (he s H C cl fp).pe) hs,
    lcOk hi.ok (hg ⟨X.base, #[], X.s_0.drawn, 0, X.s_0.os⟩ (fun _ => none) 0 [] []).ok hjs (ht ⟨X.base, #[], X.s_0.drawn, 0, X.s_0.os⟩ (fun _ => none) 0 [] []).ok (he ⟨X.base, #[], X.s_0.drawn, 0, X.s_0.os⟩ (fun _ => none) 0 [] []).ok⟩
/-- name = [..] -/
theorem s_setLc (i : Nat) {y : Str} {py spos : Pos} (hc : X.calm = true) (hN : X.N.Nodup) (hi : I X tg iter wi fi) (ok : BlkOk X.N X.env.scope scope own)
    (hg : ∀ (s : Shared) (H : Hp) (C : Addr) (cl : List (Str × Addr)) (fp : List Addr), G (X.blk s H scope (compEnvC scope cl C X.env) fp) tg g ft js)
    (ht : ∀ (s : Shared) (H : Hp) (C : Addr) (cl : List (Str × Addr)) (fp : List Addr), Ts (X.blk s H scope (compEnvC scope cl C X.env) fp) ifs tt fc)
    (he : ∀ (s : Shared) (H : Hp) (C : Addr) (cl : List (Str × Addr)) (fp : List Addr), E (X.blk s H scope (compEnvC scope cl C X.env) fp) elt te fe)
    (hy : X.N[i]? = some y := by rfl) (hyl : X.env.scope.names.lookup y = some .local := by rfl) (hsw : swapsWith (.ListComp elt [⟨tg, iter, ifs, 0⟩] scope pos) (some (.Name y py)) spos.line X.env = pure true := by exact sw_true rfl rfl rfl (by decide +kernel))
    (hjs : ∀ j ∈ js, j ∈ own.map (·.2) := by decide) (hs : ∀ x, foldedSetIterable iter X.env x = pure x := by intro _; rfl) :
    S X (.Assign [.Name y py] (.ListComp elt [⟨tg, iter, ifs, 0⟩] scope pos) spos) (tAsg (tLc wi g tt te (own.map (·.2))) (gName i)) (fsAsg (fPut (fLc fi ft fc fe (own.map (·.2)))) (fName i)) :=
  ⟨ps_setLc hc hN hy hyl hsw hi.pe ok (fun s H C cl fp => (hg s H C cl fp).pe) (fun s H C cl fp => (ht s H C cl fp).pe) (fun s H C cl fp => (he s H C cl fp).pe) hs,
    asgOk (putOk (l_lc (pos := pos) hc hN hi ok hg ht he hjs hs).ok) (nameOk i)⟩
end

/-! ### methods of lists -/
abbrev GM := D → List D → Mem → Option (D × Mem)
def fMeth (g : GM) (fo : FE) (fa : FA) : FE := fun e m => (fo e m).bind fun p => (match p.1 with
  | .loc l => match p.2[l]? with
    | some (.lst _) => some ()
    | _ => none
  | _ => none).bind fun _ => (fa e p.2).bind fun q => g p.1 q.1 q.2
def RMOk (K : Fg) (rr : V → List V → Hp → VK → Prop) (g : GM) : Prop := ∀ r H m x xs dx ds d m', MemOk K r H m → Val K r H x dx → VAll K r H xs ds → g dx ds m = some (d, m') → ∀ Q, Go K r H m' d Q → rr x xs H Q
theorem methOk {K : Fg} {rr : V → List V → Hp → VK → Prop} {g : GM} {to : TE} {ta : TA} {fo : FE} {fa : FA} (hr : RMOk K rr g) (ho : EOk K to fo) (ha : AOk K ta fa) : EOk K (tBM K "list" rr to ta) (fMeth g fo fa) := fun r σ H e m d m' hs hm hf Q go => by
  obtain ⟨⟨d1, m1⟩, h1, hf⟩ := bindE hf
  obtain ⟨_, h2, hf⟩ := bindE hf
  obtain ⟨⟨ds, m2⟩, h3, hf⟩ := bindE hf
  refine ho r σ H e m d1 m1 hs hm h1 _ fun r1 v1 H1 x1 hm1 hv1 => ⟨?_, ?_⟩
  · split at h2
    · rename_i l q
      have q' : d1 = .loc l := q
      subst q'
      split at h2
      · rename_i ys z
        obtain ⟨a, rfl, ha⟩ := hv1.locE
        obtain ⟨vs, q1, _⟩ := hm1.lst ha z
        exact .inl ⟨rfl, _, .of q1⟩
      · cases h2
    · cases h2
  · refine ha r1 σ H1 e m1 ds m2 (hs.mono x1) hm1 h3 _ fun r2 vs H2 x2 hm2 hv2 => ?_
    exact hr r2 H2 m2 v1 vs d1 ds d m' hm2 (hv1.mono x2) hv2 hf Q ((go.step x1).step x2)
def gAppend : GM
  | .loc l, [d], m => match m[l]? with
    | some (.lst xs) => if xs.length < 100000 then some (.non, m.set l (.lst (xs ++ [d]))) else none
    | _ => none
  | _, _, _ => none
theorem ltLine {n : Nat} (h : n < 100000) : n < sizeLine := Nat.lt_of_lt_of_le h (by rw [sizeLine_eq]; decide)
theorem Go.write {K : Fg} {r : List Addr} {H : Hp} {m : Mem} {l : Nat} {a : Addr} {us vs : List V} {xs : List D} {d : D} {v : V} {Q : VK} (g : Go K r H (m.set l (.lst xs)) d Q) (hm : MemOk K r H m) (ha : r[l]? = some a) (hq : H a = some (.lst us)) (w : VAll K r H vs xs) (hv : Val K r H v d) : Q v (upd H a (.lst vs)) := by
  have ew : Ext r H r (upd H a (.lst vs)) := Ext.write (List.mem_of_getElem? ha) fun u hf z => by rw [hq] at z; cases z; exact hf
  exact g r v _ ew (hm.write ha hq w) (hv.mono ew)
theorem gAppend_ok {K : Fg} : RMOk K rAppend gAppend := fun r H m x xs dx ds d m' hm hx hxs hg Q go => by
  unfold gAppend at hg
  split at hg
  · split at hg
    · rename_i ys z
      split at hg
      · rename_i hz
        cases hg
        obtain ⟨a, rfl, ha⟩ := hx.locE
        obtain ⟨v, rfl, hv⟩ := hxs.one
        obtain ⟨vs, q1, q2⟩ := hm.lst ha z
        exact ⟨a, vs, v, rfl, rfl, q1, by rw [q2.length]; exact ltLine hz, go.write hm ha q1 (q2.append (.cons hv .nil)) .non⟩
      · cases hg
    · cases hg
  · cases hg
def gPop : GM
  | .loc l, [], m => match m[l]? with
    | some (.lst xs) => (xs[xs.length - 1]?).map fun d => (d, m.set l (.lst xs.dropLast))
    | _ => none
  | _, _, _ => none
theorem gPop_ok {K : Fg} : RMOk K rPop gPop := fun r H m x xs dx ds d m' hm hx hxs hg Q go => by
  unfold gPop at hg
  split at hg
  · split at hg
    · rename_i ys z
      obtain ⟨d0, h1, hg⟩ := mapE hg
      cases hg
      obtain ⟨a, rfl, ha⟩ := hx.locE
      cases hxs
      obtain ⟨vs, q1, q2⟩ := hm.lst ha z
      obtain ⟨v, q3, q4⟩ := q2.get h1
      exact ⟨a, vs, v, rfl, rfl, q1, by rw [q2.length]; exact q3, go.write hm ha q1 q2.dropLast q4⟩
    · cases hg
  · cases hg
section
variable {X : Cx} {o a : Expr} {to ta : TE} {fo fa : FE} {apos cpos : Pos}
theorem e_append (ho : E X o to fo) (ha : E X a ta fa)
    (hbase : attributeBase o "append" X.env (eval o X.env) = eval o X.env := by rfl)
    (hfew : ((backTo cpos (starEach [a] X.env)).all (fun x => !x.1) && (backToKw cpos (keywordEach [] X.env)).all (fun x => x.1.isSome)
      && decide ([a].length + ([] : List Keyword).length + (if ([] : List Keyword).isEmpty then 0 else 1) < 30)) = true := by rfl)
    (hline : (apos.endLine == cpos.line) = true := by rfl) (hs : starEach [a] X.env = (false, eval a X.env) :: starEach [] X.env := by rfl) :
    E X (.Call (.Attribute o "append" apos) [a] [] cpos) (tBM X.K "list" rAppend to (tCons ta tNil)) (fMeth gAppend fo (fCons fa fNil)) :=
  ⟨pe_bm PySem.F.plainAttrs_list PySem.F.slot_list_append PySem.F.type_list_append mt_append ho.pe (pa_cons ha.pe pa_nil hs) hbase hfew hline hs rfl, methOk gAppend_ok ho.ok (aCons ha.ok aNil)⟩
theorem meth0Ok {K : Fg} {rr : V → List V → Hp → VK → Prop} {g : GM} {to : TE} {fo : FE} (hr : RMOk K rr g) (ho : EOk K to fo) : EOk K (tBM0 K "list" rr to) (fMeth g fo fNil) := fun r σ H e m d m' hs hm hf Q go =>
  methOk (ta := tNil) hr ho aNil r σ H e m d m' hs hm hf Q go
theorem e_pop (ho : E X o to fo) (hbase : attributeBase o "pop" X.env (eval o X.env) = eval o X.env := by rfl) (hline : (apos.endLine == cpos.line) = true := by rfl) :
    E X (.Call (.Attribute o "pop" apos) [] [] cpos) (tBM0 X.K "list" rPop to) (fMeth gPop fo fNil) :=
  ⟨pe_bm0 PySem.F.plainAttrs_list PySem.F.slot_list_pop PySem.F.type_list_pop mt_pop ho.pe hbase hline, meth0Ok gPop_ok ho.ok⟩
end
end Mv

set_option Elab.async false
set_option linter.all false
set_option maxRecDepth 100000
set_option maxHeartbeats 4000000
/-! Mv7: own defs: what a call is, and how a def keeps it. -/
namespace Mv
open PySem PySem.Spec PyProof.Rows L2

mutual
def D.low (n : Nat) : D → Bool
  | .loc l => decide (l < n)
  | .tup xs => D.lowAll n xs
  | .kl xs => D.lowAll n xs
  | .non => true | .bl _ => true | .int _ => true | .str _ => true | .ty _ => true | .cls _ => true
  | .ins _ _ xs => D.lowAll n xs
  | .stp xs => D.lowAll n xs
def D.lowAll (n : Nat) : List D → Bool
  | [] => true
  | x :: xs => x.low n && D.lowAll n xs
end
mutual
theorem D.pure_low (n : Nat) : ∀ d : D, d.pure = true → d.low n = true
  | .non, _ => rfl
  | .bl _, _ => rfl
  | .int _, _ => rfl
  | .str _, _ => rfl
  | .ty _, h => by cases h
  | .loc _, h => by cases h
  | .kl _, h => by cases h
  | .cls _, h => by cases h
  | .ins _ _ _, h => by cases h
  | .stp xs, h => D.pureAll_low n xs h
  | .tup xs, h => D.pureAll_low n xs h
theorem D.pureAll_low (n : Nat) : ∀ ds : List D, D.pureAll ds = true → D.lowAll n ds = true
  | [], _ => rfl
  | d :: ds, h => by
    have q := Bool.and_eq_true_iff.mp h
    exact Bool.and_eq_true_iff.mpr ⟨D.pure_low n d q.1, D.pureAll_low n ds q.2⟩
end
mutual
theorem D.low0 (n : Nat) : ∀ d : D, d.low 0 = true → d.low n = true
  | .non, _ => rfl
  | .bl _, _ => rfl
  | .int _, _ => rfl
  | .str _, _ => rfl
  | .ty _, _ => rfl
  | .cls _, _ => rfl
  | .loc l, h => by
    have h' : decide (l < 0) = true := h
    exact absurd (of_decide_eq_true h') (Nat.not_lt_zero _)
  | .kl xs, h => D.lowAll0 n xs h
  | .ins _ _ xs, h => D.lowAll0 n xs h
  | .stp xs, h => D.lowAll0 n xs h
  | .tup xs, h => D.lowAll0 n xs h
theorem D.lowAll0 (n : Nat) : ∀ ds : List D, D.lowAll 0 ds = true → D.lowAll n ds = true
  | [], _ => rfl
  | d :: ds, h => by
    have q := Bool.and_eq_true_iff.mp h
    exact Bool.and_eq_true_iff.mpr ⟨D.low0 n d q.1, D.lowAll0 n ds q.2⟩
end
section
variable {K : Fg} {r t : List Addr} {H : Hp}
mutual
theorem Val.under : ∀ {v : V} {d : D}, Val K r H v d → d.low r.length = true
  | _, _, .non => rfl
  | _, _, .bl _ => rfl
  | _, _, .int _ => rfl
  | _, _, .str _ => rfl
  | _, _, .ty _ => rfl
  | _, _, .tup _ hs => VAll.under hs
  | _, _, .kl _ hs => VAll.under hs
  | _, _, .cls _ => rfl
  | _, _, .stp _ _ hs => VAll.under hs
  | _, _, .ins _ _ _ _ hs => VAll.under hs
  | _, _, .loc h => decide_eq_true (List.getElem?_eq_some_iff.mp h).1
theorem VAll.under : ∀ {vs : List V} {ds : List D}, VAll K r H vs ds → D.lowAll r.length ds = true
  | _, _, .nil => rfl
  | _, _, .cons h hs => Bool.and_eq_true_iff.mpr ⟨Val.under h, VAll.under hs⟩
end
mutual
theorem Val.cutR : ∀ {v : V} {d : D}, Val K (r ++ t) H v d → d.low r.length = true → Val K r H v d
  | _, _, .non, _ => .non
  | _, _, .bl b, _ => .bl b
  | _, _, .int i, _ => .int i
  | _, _, .str s, _ => .str s
  | _, _, .ty n, _ => .ty n
  | _, _, .tup h hs, q => .tup h (VAll.cutR hs q)
  | _, _, .kl h hs, q => .kl h (VAll.cutR hs q)
  | _, _, .cls h, _ => .cls h
  | _, _, .stp h hd hs, q => .stp h hd (VAll.cutR hs q)
  | _, _, .ins h hn hc hl hs, q => .ins h (fun z => hn (List.mem_append_left _ z)) hc hl (VAll.cutR hs q)
  | _, _, .loc h, q => .loc (by
    have hl := of_decide_eq_true q
    rw [List.getElem?_append_left hl] at h
    exact h)
theorem VAll.cutR : ∀ {vs : List V} {ds : List D}, VAll K (r ++ t) H vs ds → D.lowAll r.length ds = true → VAll K r H vs ds
  | _, _, .nil, _ => .nil
  | _, _, .cons h hs, q => by
    have z := Bool.and_eq_true_iff.mp q
    exact .cons (Val.cutR h z.1) (VAll.cutR hs z.2)
end
end
def Cell.xs : Cell → List D
  | .lst xs => xs
  | .dK _ xs => xs
  | .dT _ xs => xs
  | .ob _ _ xs => xs
/-- of the memory behind a call the caller's places stay -/
def Kept (m m0 m1 : Mem) : Prop := m1.length = m.length ∧ ∀ (l : Nat) c, m1[l]? = some c → m0[l]? = some c ∧ (D.lowAll 0 c.xs = true ∨ m[l]? = some c)
inductive Back (m : Mem) : D → Mem → D → Mem → Prop
  | same {d0 : D} {m0 : Mem} : Back m d0 m0 d0 m0
  | pure {d : D} {m0 m1 : Mem} (h : d.low 0 = true) (k : Kept m m0 m1) : Back m d m0 d m1
  | lst {k : Nat} {xs : List D} {m0 m1 : Mem} (h : D.lowAll 0 xs = true) (hk : m.length ≤ k) (q : m0[k]? = some (.lst xs)) (kp : Kept m m0 m1) : Back m (.loc k) m0 (.loc m.length) (m1 ++ [.lst xs])
theorem CellOk.under {K : Fg} {r : List Addr} {H : Hp} {a : Addr} {c : Cell} (h : CellOk K r H a c) : D.lowAll r.length c.xs = true := by
  cases c with
  | lst xs => obtain ⟨vs, _, w⟩ := h; exact w.under
  | dK ks xs => obtain ⟨vs, _, _, w⟩ := h; exact w.under
  | dT ks xs => obtain ⟨vs, _, _, w⟩ := h; exact w.under
  | ob n ks xs => obtain ⟨vs, _, _, w⟩ := h; exact w.under
theorem CellOk.cutR {K : Fg} {r t : List Addr} {H : Hp} {a : Addr} {c : Cell} (h : CellOk K (r ++ t) H a c) (q : D.lowAll r.length c.xs = true) : CellOk K r H a c := by
  cases c with
  | lst xs => obtain ⟨vs, e, w⟩ := h; exact ⟨vs, e, w.cutR q⟩
  | dK ks xs => obtain ⟨vs, e, z, w⟩ := h; exact ⟨vs, e, z, w.cutR q⟩
  | dT ks xs => obtain ⟨vs, e, z, w⟩ := h; exact ⟨vs, e, z, w.cutR q⟩
  | ob n ks xs => obtain ⟨vs, e, z, w⟩ := h; exact ⟨vs, e, z, w.cutR q⟩
theorem Kept.mem {K : Fg} {r t : List Addr} {H H0 : Hp} {m m0 m1 : Mem} (k : Kept m m0 m1) (hm : MemOk K r H m) (h0 : MemOk K (r ++ t) H0 m0) : MemOk K r H0 m1 := by
  refine ⟨hm.len.trans k.1.symm, hm.nd, fun l c q => ?_⟩
  obtain ⟨q0, hp⟩ := k.2 l c q
  obtain ⟨a, ha, hc⟩ := h0.cell l c q0
  have hl : l < r.length := by
    rw [hm.len, ← k.1]
    exact (List.getElem?_eq_some_iff.mp q).1
  rw [List.getElem?_append_left hl] at ha
  refine ⟨a, ha, hc.cutR ?_⟩
  rcases hp with hp | hp
  · exact D.lowAll0 _ _ hp
  · obtain ⟨b, _, hb⟩ := hm.cell l c hp
    exact hb.under
theorem Ext.cutR {r t : List Addr} {H H0 : Hp} (x : Ext r H (r ++ t) H0) : Ext r H r H0 := ⟨⟨[], by simp⟩, fun _ h => .inl h, x.keep, x.fix, x.had⟩
theorem Back.go {K : Fg} {r r0 : List Addr} {H H0 : Hp} {m m0 m' : Mem} {d0 d : D} {v : V} {Q : VK} (b : Back m d0 m0 d m') (hm : MemOk K r H m) (x : Ext r H r0 H0) (h0 : MemOk K r0 H0 m0) (hv : Val K r0 H0 v d0) (g : Go K r H m' d Q) : Q v H0 := by
  obtain ⟨t, e⟩ := x.pre
  subst e
  cases b with
  | same => exact g _ v H0 x h0 hv
  | pure h k => exact g r v H0 x.cutR (k.mem hm h0) (hv.cutR (D.low0 _ _ h))
  | @lst k xs _ m1 h hk q kp =>
    obtain ⟨a, rfl, ha⟩ := hv.locE
    obtain ⟨vs, q1, q2⟩ := h0.lst ha q
    have mo := kp.mem hm h0
    have har : a ∉ r := fun z => by
      obtain ⟨i, hi, e⟩ := List.getElem_of_mem z
      have e1 : (r ++ t)[i]? = some a := by rw [List.getElem?_append_left hi, List.getElem?_eq_getElem hi, e]
      obtain ⟨h1, e1⟩ := List.getElem?_eq_some_iff.mp e1
      obtain ⟨h2, e2⟩ := List.getElem?_eq_some_iff.mp ha
      have := (List.getElem_inj h0.nd).mp (e1.trans e2.symm)
      rw [hm.len] at hi
      omega
    have hn : H a = none := (x.new a (List.mem_of_getElem? ha)).elim (fun z => absurd z har) id
    refine g (r ++ [a]) (.ref a) H0 (x.cutR.adopt hn) (mo.adopt har q1 (q2.cutR (D.lowAll0 _ _ h))) (.loc ?_)
    rw [← hm.len]; simp
/-- a def's promise, by a function -/
def spG (K : Fg) (F : GN) : Sp := fun vs H Q _ => ∃ r ds m d m', VAll K r H vs ds ∧ MemOk K r H m ∧ F ds m = some (d, m') ∧ Go K r H m' d Q
def Out.ret : Out → Option (D × Mem)
  | .rt d m => some (d, m)
  | .nx _ m => some (.non, m)
  | _ => none
def startE (N : List Str) (ds : List D) : Sl := ds.map some ++ List.replicate (N.length - ds.length) none
theorem startE_ok {K : Fg} {r : List Addr} {H : Hp} {N : List Str} {vs : List V} {ds : List D} (h : VAll K r H vs ds) : SlOk K r H (L2.start N vs) (startE N ds) := by
  have hl := h.length
  refine ⟨by simp [L2.start, startE, hl], fun i d q => ?_⟩
  unfold startE at q
  by_cases hi : i < ds.length
  · rw [List.getElem?_append_left (by simpa using hi), List.getElem?_map] at q
    obtain ⟨d0, e1, e2⟩ := mapE q
    cases e2
    obtain ⟨v, w1, w2⟩ := h.get e1
    refine ⟨v, ?_, w2⟩
    unfold L2.start
    rw [List.getElem?_append_left (by simpa [hl] using hi), List.getElem?_map, w1]
    rfl
  · rw [List.getElem?_append_right (by simpa using hi), List.getElem?_replicate] at q
    split at q <;> cases q
/-- what is to be shown of a def's body -/
def Keeps (N : List Str) (g : FS) (F : GN) : Prop := ∀ ds m d m', F ds m = some (d, m') → ∃ o d0 m0, g (startE N ds) m = some o ∧ o.ret = some (d0, m0) ∧ Back m d0 m0 d m'
section
variable {P : Program} {w : World} {K : Fg} {mg : Str → Option Value} {base : Heap}
theorem fn_ok {x qual : Str} {st : Stmt} {f : Addr} {fd : FuncData} {N ps : List Str} {k : Nat} {F : GN} {g : FS} (Fu : Fun K x qual st f fd) (Sc : FnScope N ps (defScope st)) (many : ∀ ds m z, F ds m = some z → ds.length = ps.length)
    (body : ∀ (cdv : Value) (A : Around) (outer : List Env) (s : Shared) (H : Hp) (E : XK), Room k (A.deeper (envOfC qual (defScope st) s.heap.objs.size f cdv)) → A.guards = some [] → ∃ ts, Ss (cxOf CX0 P w K mg base N qual (defScope st) f cdv A outer s H E).nox (defBody st) ts g)
    (kp : Keeps N g F) : FnG P w K mg base CX0 (k + 1) f fd ps (spG K F) := by
  refine fnG_of Fu Sc (fun vs H Q E h => ?_) fun cdv A outer s H E hr hG vs Q h => ?_
  · obtain ⟨r, ds, m, d, m', hv, _, hF, _⟩ := h
    rw [hv.length]
    exact many _ _ _ hF
  · obtain ⟨r, ds, m, d, m', hv, hm, hF, go⟩ := h
    obtain ⟨ts, hS⟩ := body cdv A outer s H E hr hG
    obtain ⟨o, d0, m0, hg, hret, hb⟩ := kp ds m d m' hF
    refine ⟨ts, hS.pe.nox, hS.ok r _ H _ m o (startE_ok hv) hm hg _ ?_⟩
    cases o with
    | rt d1 m1 => cases hret; exact fun r' v H' x hm' hv' => hb.go hm x hm' hv' go
    | nx e1 m1 => cases hret; exact fun r' σ' H' x _ hm' => hb.go hm x hm' .non go
    | bk e1 m1 => cases hret
    | ct e1 m1 => cases hret
end
section
variable {X : Cx} {k : Nat} {f : Addr} {fd : FuncData} {ps : List Str} {F : GN} {x : Str} {p pos : Pos} {e : Expr} {es : List Expr} {t : TA} {fa : FA}
theorem callG_ok {K : Fg} {E : XK} {t : TA} (h : AOk K t fa) : EOk K (tCall (spG K F) [] E t) (fCall F fa) := fun r σ H e m d m' hs hm hf Q go => by
  obtain ⟨⟨ds, m1⟩, h1, hf⟩ := bindE hf
  refine h r σ H e m ds m1 hs hm h1 _ fun r1 vs H1 x1 hm1 hv1 => ?_
  rw [List.append_nil]
  exact ⟨r1, ds, m1, d, m', hv1, hm1, hf, go.step x1⟩
/-- f(e, ..), f a def of the text -/
theorem e_call (Fn : FnG X.prog X.w X.K X.mg X.base CX0 k f fd ps (spG X.K F)) (hr : Room k X.A) (hG : X.A.guards = some []) (hm : X.mg x = some (.ref f)) (hk : PySem.W.keepIn X.K (.ref f) = true) (hb : Binds X.K fd ps []) (ha : A X (e :: es) t fa) (hg : Gl X x := by rfl)
    (hdb : (x == ("__debug__" : Str)) = false := by decide) (he : starEach (e :: es) X.env = (false, eval e X.env) :: starEach es X.env := by rfl) (hpl : (backTo pos (starEach es X.env)).any (·.1) = false := by rfl) :
    E X (.Call (.Name x p) (e :: es) [] pos) (tCall (spG X.K F) [] E0 t) (fCall F fa) := ⟨pe_callG Fn hr hG hm hk hb .nil pass0 hg ha.pe hdb he hpl, callG_ok ha.ok⟩
end
end Mv

set_option Elab.async false
set_option linter.all false
set_option maxRecDepth 100000
set_option maxHeartbeats 4000000
/-! Mv8: enumerate of a tuple, len(set(t)), lcm, repr, t[::-1], ranges, divmod, index. -/
namespace Mv
open PySem PySem.Spec PyProof.Rows L2

/-! ### enumerate(t), t a tuple -/
set_option maxHeartbeats 2000000 in
theorem meets_enumT {v : Value} {o : Obj} {Hb : Heap → Prop} (B : Begins v o Hb) :
    Meets (Builtin.«enumerate.__new__» ⟨[.type "enumerate", v], []⟩) (fun _ R s => Hb s.heap ∧
      R (.ok (.ret (.ref (s.heap.push o).objs.size))) { s with heap := (s.heap.push o).push { cls := .type "enumerate", data := .fields #[.none, .bool false, .ref s.heap.objs.size, rawInt 0, .none, .none] } }) :=
  .of_wp fun prog w A R s h => by
    obtain ⟨hp, g, d, tk, os⟩ := s
    obtain ⟨h1, h⟩ := h
    have hsub := sub_enumerate
    have q1 : ∀ {A' : Around} {E : Value → Shared → Prop} {Q : Value → Shared → Prop}, Q (.ref hp.objs.size) ⟨hp.push o, g, d, tk, os⟩ → wpAny (model prog w) A' (pyIter v) Q E ⟨hp, g, d, tk, os⟩ := fun q => B.iter prog w _ _ ⟨hp, g, d, tk, os⟩ _ h1 q
    wp_walk using q1
    refine wpAny_stack_any fun st => wpAny_pure ?_
    split
    · rename_i c _ _ _ _ _
      cases (c == Value.type "enumerate") <;> (wp_walk using q1; exact ⟨_, rfl, h⟩)
    · wp_walk using q1
      exact ⟨_, rfl, h⟩
section
variable {prog : Program} {w : World} {Ar : Around} {Ex : Value → Shared → Prop} {s : Shared}
theorem call_enumT {v : Value} {o : Obj} {Hb : Heap → Prop} {Q : Value → Shared → Prop} (B : Begins v o Hb) (h1 : Hb s.heap)
    (h : ∀ h', IsEnum h' (s.heap.objs.size + 1) s.heap.objs.size 0 .none → h'.get? s.heap.objs.size = some o → (∀ b o, s.heap.get? b = some o → h'.get? b = some o) → Q (.ref (s.heap.objs.size + 1)) { s with heap := h' }) :
    wpAny (model prog w) Ar (call (.type "enumerate") [v]) Q Ex s := by
  have hz : (s.heap.push o).objs.size = s.heap.objs.size + 1 := Heap.size_push ..
  refine callType_new F.called_enumerate (by decide) (F.typeCall_enumerate_1 _) (F.newCall_enumerate_1 _) (fun obj => F.args_object_init_2 obj _) F.entry_enumerate_new (meets_enumT B) ⟨h1, ?_⟩
  show _ ∧ _
  rw [hz]
  have he : IsEnum ((s.heap.push o).push { cls := .type "enumerate", data := .fields #[.none, .bool false, .ref s.heap.objs.size, rawInt 0, .none, .none] }) (s.heap.objs.size + 1) s.heap.objs.size 0 .none := by
    have q := Heap.get?_push_size (s.heap.push o) (o := { cls := .type "enumerate", data := .fields #[.none, .bool false, .ref s.heap.objs.size, rawInt 0, .none, .none] }) rfl
    rw [hz] at q
    exact q
  exact ⟨⟨_, he, rfl⟩, h _ he (Heap.get?_push_of_some _ (Heap.get?_push_size _ B.free)) fun b o x => Heap.get?_push_of_some _ (Heap.get?_push_of_some _ x)⟩
end
section
variable {prog : Program} {w : World} {Ar : Around} {Ex : Value → Shared → Prop} {s : Shared}
theorem wpAny_pyNext_enumT_end {e it a : Addr} {items : Array Value} {i : Nat} {c : Int} {old : Value} {Q : Option Value → Shared → Prop} (hh : Ar.handled = none) (he : IsEnum s.heap e it c old) (hit : s.heap.IsTupleIter it a i) (ht : s.heap.IsTuple a items) (hi : items.size ≤ i)
    (hQ : ∀ h', Heap.ExtBut it s.heap h' → Q none { s with heap := h' }) : wpAny (model prog w) Ar (pyNext (.ref e)) Q Ex s := by
  have hT : s.TypeIs (.ref e) "enumerate" := ⟨_, he, rfl⟩
  unfold pyNext
  refine wpAny_bind (wpAny_attempt (wpAny_callSpecial?_slot (name := Str.ofString "__next__") hT F.slot_enumerate_next
    (wpAny_call_entry F.slot_enumerate_next hT F.entry_enumerate_next ?_ (F.args_enumerate_next_1 _))))
  show wpAny _ _ (field (.ref e) 2 >>= _) _ _ _
  refine wpAny_bind (wpAny_field he rfl (x := .ref it) rfl ?_)
  refine wpAny_bind (wpAny_nextOf_tuple_end hh hit ht (Array.getElem?_eq_none hi) fun h' x he' hx' => ?_)
  obtain ⟨o, ho, hc⟩ := hx'
  refine wpAny_bind (wpAny_isInstance (T := "StopIteration") (b := true) ⟨o, ho, hc⟩ isSubtype_stop ?_)
  exact wpAny_pure (hQ _ he')
end
/-- the tuple at a, each item in a new pair -/
def IteT (K : Fg) (a : Addr) : It :=
  ⟨fun i H => ∃ (xs : List V) (x : V), SqT K H a xs ∧ xs[i]? = some x, fun i H v H' => ∃ t x, v = .ref t ∧ H t = none ∧ H' = upd H t (.tup [.int (i : Nat), x]) ∧ ∀ xs, SqT K H a xs → xs[i]? = some x, fun i H => ∃ xs : List V, SqT K H a xs ∧ xs.length ≤ i⟩
theorem turn_enumT {P : Program} {w : World} {K : Fg} {elts : List Expr} {kk : Nat} {tpos : Pos} (a e it : Addr) :
    Turn P w K (.Tuple elts kk tpos) (IteT K a) [e, it] e (fun i h => (∃ old, IsEnum h e it ((i : Nat) : Int) old) ∧ h.IsTupleIter it a i ∧ e ≠ it ∧ a ≠ it ∧ a ≠ e) where
  mem := by simp
  obj := fun i h st b hb => by
    obtain ⟨⟨old, he⟩, ⟨o, ho, hc, hd⟩, _⟩ := st
    have e' : b = e ∨ b = it := by simpa using hb
    rcases e' with z | z
    · rw [z]; exact ⟨_, he, fun v q => nomatch q⟩
    · rw [z]; exact ⟨o, ho, fun v q => by rw [hd] at q; cases q⟩
  keep := fun i h h' st k => by
    obtain ⟨⟨old, he⟩, hi, h1⟩ := st
    exact ⟨⟨old, k e (by simp) _ he⟩, hi.at fun o q => k it (by simp) o q, h1⟩
  item := by
    intro X hP hw hK hc i pins s σ H E I hf st hg
    subst hP hw hK
    obtain ⟨⟨old, he⟩, hit, hne, hai, hae⟩ := st
    obtain ⟨xs, x, hq, hx⟩ := hg
    obtain ⟨its, rv, p, hz⟩ := I.tuple hq
    obtain ⟨u, hu, ru⟩ := rv.get hx
    have hel : e < s.heap.objs.size := Heap.lt_size he
    have hil : it < s.heap.objs.size := by obtain ⟨_, q, _⟩ := hit; exact Heap.lt_size q
    have hlt : i < its.toArray.size := by
      rw [List.size_toArray]
      exact (List.getElem?_eq_some_iff.mp hu).1
    have D := Draws.tuple (prog := X.prog) (w := X.w) (A := X.A.in1) (I.ok.hd hc) it a hai its.toArray
    refine wpAny_pyNext_enum_itemD D he ⟨hit, p⟩ hlt hne (by simp [hne, Ne.symm hae]) fun x2 h' tk hx2 ho hst hT hsz hk => ?_
    have ex : x2 = u := by
      have q1 : its.toArray[i]? = some x2 := hx2
      rw [show its.toArray[i]? = its[i]? by simp] at q1
      rw [hu] at q1
      exact (Option.some.inj q1).symm
    subst ex
    refine ⟨_, rfl, wpAny_letOwnedTupleGo_enum (s := { s with heap := h', toks := tk + 1 }) ho fun h'' he' sb => ?_⟩
    have hT2 : h''.get? s.heap.objs.size = some { cls := .type "tuple", data := .seq #[.int i tk, x2] } := (sb.2 _ (Nat.ne_of_gt hel)).trans hT
    have new : ObjOk X.prog X.w (upd H s.heap.objs.size (.tup [.int (i : Nat), x])) h'' s.heap.objs.size (.tup [.int (i : Nat), x]) :=
      ⟨by show 2 ≤ sizeLine; decide, [.int i tk, x2], .cons ⟨_, rfl⟩ (.cons ru .nil), ⟨_, hT2, rfl, _, rfl⟩⟩
    have I1 : Inv X pins σ (upd H s.heap.objs.size (.tup [.int (i : Nat), x])) { s with heap := h'', toks := tk + 1 } :=
      I.turnedNew (ch := [e, it]) (fun b ob hb q => (sb.2 b (fun z => hb (by simp [z]))).trans (hk b ob (fun z => hb (by simp [z])) (fun z => hb (by simp [z])) q)) hf (Nat.le_refl _) new
    refine ⟨.ref s.heap.objs.size, _, I1, rfl, ⟨_, x, rfl, I.hok.fresh (Nat.le_refl _), rfl, fun ys hy => by rw [I.tuple_inj hy hq]; exact hx⟩, ⟨⟨x2, ?_⟩, hst.1.at fun o q => (sb.2 it (Ne.symm hne)).trans q, hne, hai, hae⟩, fun b hb => ?_⟩
    · have e1 : ((i + 1 : Nat) : Int) = (i : Int) + 1 := by omega
      rw [e1]; exact he'
    · have hb' : b < s.heap.objs.size := by
        have e' : b = e ∨ b = it := by simpa using hb
        rcases e' with z | z
        · rw [z]; exact hel
        · rw [z]; exact hil
      rw [upd_ne (Nat.ne_of_lt hb')]
      exact (hf b hb).1
  done := by
    intro X hP hw hK hc i pins s σ H E I hf st hg
    subst hP hw hK
    obtain ⟨⟨old, he⟩, hit, hne, hai, hae⟩ := st
    obtain ⟨xs, hq, hx⟩ := hg
    obtain ⟨its, rv, p, hz⟩ := I.tuple hq
    obtain ⟨f0, f1, f2, f3, f4, f5⟩ := hf it (by simp)
    have hl := rv.length
    exact wpAny_pyNext_enumT_end (I.ok.hd hc) he hit p (by rw [List.size_toArray]; omega) fun h' eb => ⟨rfl, I.turned (t' := s.toks) (fun b o hb q => eb b o hb q) f0 f1 f3 f4 f5⟩
  self := fun A i s Q E st h => let ⟨⟨_, he⟩, _⟩ := st; wpAny_pyIter_enum he h
def iEnumT (K : Fg) (ta : TA) : TI := fun σ H R => ta σ H fun vs H1 => ∃ a xs, vs = [.ref a] ∧ SqT K H1 a xs ∧ R (IteT K a) H1
theorem pi_enumT {X : Cx} {e : Expr} {ta : TA} {p pos tpos : Pos} {elts : List Expr} {kk : Nat} (hg : Gl X "enumerate") (hm : X.mg "enumerate" = none) (ha : PA X [e] ta) (hs : starEach [e] X.env = [(false, eval e X.env)] := by rfl) :
    PI X (.Tuple elts kk tpos) (.Call (.Name "enumerate" p) [e] [] pos) (iEnumT X.K ta) := by
  refine ⟨fun pins s σ H R I h => ?_⟩
  refine Call_ (ld_blt I hg hm boot_enumerate (PyProof.Rows.callWith_type1 (thn (ha.run pos pins s σ H _ I h) ?_) hs rfl))
  rintro us s1 ⟨vs, H1, I1, r1, a, xs, ex, hq, q⟩
  subst ex
  cases r1 with
  | cons r rr =>
    cases rr
    cases r
    obtain ⟨its, rv, p', hz⟩ := I1.tuple hq
    have hal : a < s1.heap.objs.size := by obtain ⟨o, q, _⟩ := p'; exact Heap.lt_size q
    refine call_enumT (begins_tuple a its.toArray) p' fun h' he hit hk => wpAny_pyIter_enum he ?_
    have I2 : Inv X pins σ H1 { s1 with heap := h' } := I1.kept (t' := s1.toks) hk
    refine ⟨s1.heap.objs.size + 1, [s1.heap.objs.size + 1, s1.heap.objs.size], _, _, H1, rfl, I2, turn_enumT a (s1.heap.objs.size + 1) s1.heap.objs.size, ⟨⟨.none, he⟩, ⟨_, hit, rfl, rfl⟩, Nat.succ_ne_self _, Nat.ne_of_lt hal, Nat.ne_of_lt (Nat.lt_succ_of_lt hal)⟩, fun b hb => ?_, q⟩
    have e' : b = s1.heap.objs.size + 1 ∨ b = s1.heap.objs.size := by simpa using hb
    have hle : s1.heap.objs.size ≤ b := by
      rcases e' with z | z
      · rw [z]; exact Nat.le_add_right _ _
      · rw [z]; exact Nat.le_refl _
    exact I1.fpOk hle (I1.hok.fresh hle)
/-- pairs of the count and the item -/
def numberD : Nat → List D → List D
  | _, [] => []
  | i, x :: xs => .tup [.int (i : Nat), x] :: numberD (i + 1) xs
theorem numberD_length : ∀ (k : Nat) (xs : List D), (numberD k xs).length = xs.length
  | _, [] => rfl
  | k, x :: xs => by show (numberD (k + 1) xs).length + 1 = _; rw [numberD_length (k + 1) xs]; rfl
theorem numberD_get : ∀ (k : Nat) (xs : List D) (i : Nat) (d : D), (numberD k xs)[i]? = some d → ∃ x, xs[i]? = some x ∧ d = .tup [.int ((k + i : Nat) : Int), x]
  | _, [], i, d, h => by simp [numberD] at h
  | k, x :: xs, 0, d, h => by
    have h' : some (D.tup [.int (k : Nat), x]) = some d := h
    cases h'
    exact ⟨x, rfl, rfl⟩
  | k, x :: xs, i + 1, d, h => by
    obtain ⟨y, h1, h2⟩ := numberD_get (k + 1) xs i d h
    exact ⟨y, h1, by rw [h2]; congr 3; omega⟩
def fEnum (f : FE) : FI := fun e m => (f e m).bind fun p => match p.1 with
  | .tup xs => some (⟨numberD 0 xs, none⟩, p.2)
  | _ => none
theorem i_enumT {X : Cx} {a : Expr} {ta : TE} {fa : FE} {p pos tpos : Pos} {elts : List Expr} {kk : Nat} (hm : X.mg "enumerate" = none) (h : E X a ta fa) (hg : Gl X "enumerate" := by rfl) (hs : starEach [a] X.env = [(false, eval a X.env)] := by rfl) :
    I X (.Tuple elts kk tpos) (.Call (.Name "enumerate" p) [a] [] pos) (iEnumT X.K (tCons ta tNil)) (fEnum fa) := ⟨pi_enumT hg hm (pa_cons h.pe pa_nil (by rw [hs]; rfl)) hs, fun r σ H e m s m1 hs hm hf R go => by
  obtain ⟨⟨d, m2⟩, h1, hf⟩ := bindE hf
  split at hf
  · rename_i xs q
    have q' : d = .tup xs := q
    subst q'
    cases hf
    refine h.ok r σ H e m _ _ hs hm h1 _ fun r1 v1 H1 x1 hm1 hv1 => ?_
    obtain ⟨a, vs, rfl, ha, hw⟩ := hv1.tupE
    refine ⟨a, vs, rfl, ha.sq, go r1 H1 _ x1 hm1 trivial fun i r2 H2 m2 x2 hm2 hl => ?_⟩
    have ha2 : TupAt X.K H2 a vs := ha.ext x2
    have hw2 := hw.mono x2
    refine ⟨fun hi => ⟨vs, ha2.sq, ?_⟩, fun d hd => ?_⟩
    · have hi' : (numberD 0 xs).length ≤ i := hi
      rw [numberD_length] at hi'
      rw [hw2.length]; exact hi'
    · obtain ⟨y, hy1, hy2⟩ := numberD_get 0 xs i d hd
      obtain ⟨v, q3, q4⟩ := hw2.get hy1
      refine ⟨⟨vs, v, ha2.sq, q3⟩, fun x H' yl => ?_⟩
      obtain ⟨t, z, e1, e2, e3, e4⟩ := yl
      have ez : some v = some z := q3.symm.trans (e4 vs ha2.sq)
      cases ez
      subst e1; subst e3
      refine ⟨Ext.fresh e2, hm2.fresh e2, ?_⟩
      rw [hy2]
      refine .tup (.inl upd_same) (.cons ?_ (.cons (q4.mono (Ext.fresh e2)) .nil))
      have e5 : ((0 + i : Nat) : Int) = ((i : Nat) : Int) := by omega
      rw [e5]
      exact .int _
  · cases hf⟩
end Mv

set_option Elab.async false
set_option linter.all false
set_option maxRecDepth 100000
set_option maxHeartbeats 4000000
namespace Mv
open PySem PySem.Spec PyProof.Rows L2

/-! ### len(set(t)), t a tuple of ints -/
def dist : List Int → List Int
  | [] => []
  | x :: r => if x ∈ r then dist r else x :: dist r
theorem mem_dist {k : Int} : ∀ {l : List Int}, k ∈ dist l ↔ k ∈ l
  | [] => Iff.rfl
  | x :: r => by
    unfold dist
    split
    · rename_i h
      rw [mem_dist (l := r), List.mem_cons]
      exact ⟨.inr, fun q => q.elim (fun e => e ▸ h) id⟩
    · rw [List.mem_cons, List.mem_cons, mem_dist (l := r)]
theorem nodup_dist : ∀ l : List Int, (dist l).Nodup
  | [] => .nil
  | x :: r => by
    unfold dist
    split
    · exact nodup_dist r
    · rename_i h
      exact List.nodup_cons.mpr ⟨fun q => h (mem_dist.mp q), nodup_dist r⟩
theorem len_le_of_sub : ∀ {l m : List Int}, l.Nodup → (∀ x ∈ l, x ∈ m) → l.length ≤ m.length
  | [], _, _, _ => Nat.zero_le _
  | x :: l, m, nd, h => by
    have hx := h x List.mem_cons_self
    have nd' := List.nodup_cons.mp nd
    have q := len_le_of_sub (l := l) (m := m.erase x) nd'.2 fun y hy => (List.mem_erase_of_ne (fun e => nd'.1 (by rw [← e]; exact hy))).mpr (h y (List.mem_cons_of_mem _ hy))
    rw [List.length_erase_of_mem hx] at q
    have : 0 < m.length := List.length_pos_of_mem hx
    rw [List.length_cons]; omega
theorem len_eq_of_iff {l m : List Int} (h1 : l.Nodup) (h2 : m.Nodup) (h : ∀ x, x ∈ l ↔ x ∈ m) : l.length = m.length :=
  Nat.le_antisymm (len_le_of_sub h1 fun x => (h x).mp) (len_le_of_sub h2 fun x => (h x).mpr)
theorem dist_nodup {l : List Int} (h : l.Nodup) : (dist l).length = l.length := len_eq_of_iff (nodup_dist l) h fun _ => mem_dist
theorem nodup_of_dist : ∀ {l : List Int}, (dist l).length = l.length → l.Nodup
  | [], _ => .nil
  | x :: r, h => by
    have le : ∀ l : List Int, (dist l).length ≤ l.length := fun l => len_le_of_sub (nodup_dist l) fun x => mem_dist.mp
    unfold dist at h
    split at h
    · have := le r
      rw [List.length_cons] at h; omega
    · rename_i hx
      exact List.nodup_cons.mpr ⟨hx, nodup_of_dist (by simpa using h)⟩
def tLenSetT (K : Fg) (ta : TE) : TE := fun σ H Q => ta σ H fun x H1 => ∃ (l : Addr) (ns : List Int), x = .ref l ∧ SqT K H1 l (ns.map V.int) ∧ ns.length ≤ 4000 ∧ Q (.int ((dist ns).length : Nat)) H1
theorem pe_lenSetT {X : Cx} {a : Expr} {ta : TE} {p p2 q pos : Pos} (hg : Gl X "len") (hm : X.mg "len" = none) (hg2 : Gl X "set") (hm2 : X.mg "set" = none) (ha : PE X a ta) (hc : X.calm = true)
    (na : starEach [a] X.env = (false, eval a X.env) :: starEach [] X.env := by rfl) : PE X (.Call (.Name "len" p) [.Call (.Name "set" p2) [a] [] q] [] pos) (tLenSetT X.K ta) := by
  refine ⟨fun pins s σ H Q I h => ?_⟩
  refine Call_ (ld_blt I hg hm boot_len (PyProof.Rows.callWith_builtin1 (PyProof.Rows.args_cons ?_ rfl) rfl rfl))
  refine Call_ (ld_blt I hg2 hm2 boot_set ?_)
  refine PyProof.Rows.callWith_type1 (PyProof.Rows.args_cons (thn (ha.run pins s σ H _ I h) ?_) na) na rfl
  rintro v s1 ⟨x, H1, I1, r1, l, ns, rfl, hq, hl, q1⟩
  refine PyProof.Rows.args_nil ?_
  cases r1
  obtain ⟨its, r, pl, hz⟩ := I1.tuple hq
  refine call_set_tupI ns (I1.ok.hd hc) pl (by simpa using intsAre_of r) (by unfold scanBound; omega) fun h' tk c R hcl hk => PyProof.Rows.args_nil ?_
  obtain ⟨o, es, ep, t, ho, hex, hd, hgood, hnd, hmem, hb, hf, hn, _⟩ := R
  have I2 : Inv X pins σ H1 { s1 with heap := h', toks := tk } := I1.kept hk
  have e1 : es.size = (dist ns).length := by
    have q := len_eq_of_iff hnd (nodup_dist ns) fun k => by
      rw [← hmem k, mem_dist]
      exact decide_eq_true_iff
    rw [← q]; simp
  refine call_len_set ho hex hd hf (by rw [hn]; omega) ⟨.int ((dist ns).length : Nat), H1, I2.tok _, ⟨_, by rw [e1]⟩, q1⟩
def fLenSet (f : FE) : FE := fun e m => (f e m).bind fun p => match p.1 with
  | .tup xs => (asIs xs).bind fun ns => if ns.length ≤ 4000 then some (.int ((dist ns).length : Nat), p.2) else none
  | _ => none
theorem e_lenSet {X : Cx} {a : Expr} {ta : TE} {fa : FE} {p p2 q pos : Pos} (hc : X.calm = true) (hm : X.mg "len" = none) (hm2 : X.mg "set" = none) (h : E X a ta fa) (hg : Gl X "len" := by rfl) (hg2 : Gl X "set" := by rfl) (na : starEach [a] X.env = (false, eval a X.env) :: starEach [] X.env := by rfl) :
    E X (.Call (.Name "len" p) [.Call (.Name "set" p2) [a] [] q] [] pos) (tLenSetT X.K ta) (fLenSet fa) := ⟨pe_lenSetT hg hm hg2 hm2 h.pe hc na, fun r σ H e m d m' hs hm hf Q go => by
  obtain ⟨⟨d1, m1⟩, h1, hf⟩ := bindE hf
  split at hf
  · rename_i xs q
    have q' : d1 = .tup xs := q
    subst q'
    obtain ⟨ns, h2, hf⟩ := bindE hf
    obtain ⟨hz, hf⟩ := iteE hf
    cases hf
    have e := asIs_ok h2
    subst e
    refine h.ok r σ H e m _ _ hs hm h1 _ fun r1 v1 H1 x1 hm1 hv1 => ?_
    obtain ⟨a, vs, rfl, ha, hw⟩ := hv1.tupE
    have e2 := hw.ints
    subst e2
    exact ⟨a, ns, rfl, ha.sq, hz, (go.step x1).here hm1 (.int _)⟩
  · cases hf⟩

/-! ### math.lcm -/
def rLcm : List V → Hp → VK → Prop := fun xs H Q => ∃ a b : Int, xs = [.int a, .int b] ∧ a.natAbs < 2 ^ 64 ∧ b.natAbs < 2 ^ 64 ∧ Q (.int ((a.natAbs.lcm b.natAbs : Nat) : Int)) H
theorem cr_lcm {X : Cx} : CallR X (.builtin "math.lcm") rLcm := by
  intro pins s σ H xs us Q I r h
  obtain ⟨a, b, rfl, h1, h2, q⟩ := h
  obtain ⟨u, v, rfl, ⟨t, rfl⟩, ⟨t', rfl⟩⟩ := Vals.two r
  exact PySem.W.mc_lcm h1 h2 fun _ => ⟨.int _, H, I.tok _, ⟨_, rfl⟩, q⟩
def gLcm : GN
  | [.int a, .int b], m => if a.natAbs < 2 ^ 64 ∧ b.natAbs < 2 ^ 64 then some (.int ((a.natAbs.lcm b.natAbs : Nat) : Int), m) else none
  | _, _ => none
theorem gLcm_ok {K : Fg} : RNOk K rLcm gLcm := fun r H m xs ds d m' hm hx hg Q go => by
  unfold gLcm at hg
  split at hg
  · obtain ⟨hz, hg⟩ := iteE hg
    cases hg
    obtain ⟨v, w, rfl, hv, hw⟩ := hx.two
    rw [hv.intE, hw.intE]
    exact ⟨_, _, rfl, hz.1, hz.2, go.here hm (.int _)⟩
  · cases hg
/-- a function of another module, by its name here -/
theorem e_cF {X : Cx} {e : Expr} {es : List Expr} {t : TA} {f : FA} {x : Str} {p pos : Pos} {id : String} {rr : List V → Hp → VK → Prop} {g : GN} (hc : CallR X (.builtin id) rr) (ok : RNOk X.K rr g) (hm : X.mg x = some (.builtin id)) (ha : A X (e :: es) t f) (hg : Gl X x := by rfl) (hdb : (x == ("__debug__" : Str)) = false := by decide)
    (he : starEach (e :: es) X.env = (false, eval e X.env) :: starEach es X.env := by rfl) (hpl : (backTo pos (starEach es X.env)).any (·.1) = false := by rfl) : E X (.Call (.Name x p) (e :: es) [] pos) (tCB rr t) (fCall g f) := ⟨pe_callBfun hc hg hm ha.pe hdb he hpl, callOk ok ha.ok⟩

/-! ### repr of data -/
def rRepr (K : Fg) : List V → Hp → VK → Prop := fun xs H Q => ∃ (x : V) (d : PyData), xs = [x] ∧ Dp K H x d ∧ d.showable = true ∧ d.hasDict = false ∧ (∃ a, x = .ref a) ∧ d.depth ≤ 60 ∧ d.shown.length ≤ sizeLine ∧ Q (.str d.shown) H
theorem cr_repr {X : Cx} (hG : X.A.guards = some []) (hu : X.A.units + 64 < cLine) : CallR X (.builtin "repr") (rRepr X.K) := by
  intro pins s σ H xs us Q I r h
  obtain ⟨x, d, rfl, hd, h1, h2, ⟨a, rfl⟩, h3, h4, q⟩ := h
  obtain ⟨u, rfl, ru⟩ := Vals.one r
  obtain rfl : u = Value.ref a := ru
  obtain ⟨as, rd⟩ := Dp.reads I d _ _ hd rfl
  refine repr_of_reads' (h₀ := s.heap) rd h1 (fun z => by rw [h2] at z; cases z) hG (by omega) (fun b o e => e) (fun h' u tk hk => ?_) h4
  exact ⟨.str d.shown, H, I.kept hk, ⟨u, rfl⟩, q⟩
def gRepr : GN := fun ds m => match ds with
  | [.tup xs] => (res m (.tup xs)).bind fun p => if p.showable = true ∧ p.hasDict = false ∧ p.depth ≤ 60 ∧ p.shown.length ≤ 100000 then some (.str p.shown, m) else none
  | [.loc l] => (res m (.loc l)).bind fun p => if p.showable = true ∧ p.hasDict = false ∧ p.depth ≤ 60 ∧ p.shown.length ≤ 100000 then some (.str p.shown, m) else none
  | _ => none
theorem gRepr_ok {K : Fg} : RNOk K (rRepr K) gRepr := fun r H m xs ds d m' hm hx hg Q go => by
  unfold gRepr at hg
  split at hg
  · obtain ⟨p, h1, hg⟩ := bindE hg
    obtain ⟨hz, hg⟩ := iteE hg
    cases hg
    obtain ⟨v, rfl, hv⟩ := hx.one
    exact ⟨v, p, rfl, res_ok hm hv h1, hz.1, hz.2.1, by obtain ⟨a, vs, e, _⟩ := hv.tupE; exact ⟨a, e⟩, hz.2.2.1, lineOf hz.2.2.2, go.here hm (.str _)⟩
  · obtain ⟨p, h1, hg⟩ := bindE hg
    obtain ⟨hz, hg⟩ := iteE hg
    cases hg
    obtain ⟨v, rfl, hv⟩ := hx.one
    exact ⟨v, p, rfl, res_ok hm hv h1, hz.1, hz.2.1, by obtain ⟨a, e, _⟩ := hv.locE; exact ⟨a, e⟩, hz.2.2.1, lineOf hz.2.2.2, go.here hm (.str _)⟩
  · cases hg
/-- repr(int), str(int) -/
def gStrI : GN
  | [.int i], m => if i.natAbs.log2 < 1920 then some (.str (toString i), m) else none
  | _, _ => none
theorem gStrI_ok {K : Fg} : RNOk K (fun xs H Q => ∃ i, xs = [.int i] ∧ i.natAbs.log2 < 1920 ∧ Q (.str (toString i)) H) gStrI := fun r H m xs ds d m' hm hx hg Q go => by
  unfold gStrI at hg
  split at hg
  · obtain ⟨hz, hg⟩ := iteE hg
    cases hg
    obtain ⟨v, rfl, hv⟩ := hx.one
    rw [hv.intE]
    exact ⟨_, rfl, hz, go.here hm (.str _)⟩
  · cases hg

/-! ### t[::-1] -/
def tRevT (K : Fg) (te : TE) : TE := fun σ H Q => te σ H fun x H1 => ∃ a xs, x = .ref a ∧ SqT K H1 a xs ∧ ∀ p, H1 p = none → Q (.ref p) (upd H1 p (.tup xs.reverse))
section
variable {prog : Program} {w : World} {Ar : Around} {Ex : Value → Shared → Prop} {s : Shared}
theorem pick_back (xs : Array Value) : ((List.range xs.size).filterMap fun (m : Nat) => xs[((xs.size : Int) - 1 + (m : Int) * (-1)).toNat]?).toArray = xs.toList.reverse.toArray := by
  congr 1
  refine List.ext_getElem? fun k => ?_
  have e : (List.range xs.size).filterMap (fun (m : Nat) => xs[((xs.size : Int) - 1 + (m : Int) * (-1)).toNat]?) = (List.range xs.size).map fun m => xs.toList.getD (xs.size - 1 - m) .none := by
    have go : ∀ l : List Nat, (∀ m ∈ l, m < xs.size) → l.filterMap (fun (m : Nat) => xs[((xs.size : Int) - 1 + (m : Int) * (-1)).toNat]?) = l.map fun m => xs.toList.getD (xs.size - 1 - m) .none := by
      intro l
      induction l with
      | nil => intro _; rfl
      | cons m l ih =>
        intro hl
        have hm' : m < xs.size := hl m List.mem_cons_self
        have e1 : ((xs.size : Int) - 1 + (m : Int) * (-1)).toNat = xs.size - 1 - m := by omega
        have h2 : xs.size - 1 - m < xs.size := by omega
        have e2 : xs[((xs.size : Int) - 1 + (m : Int) * (-1)).toNat]? = some (xs.toList.getD (xs.size - 1 - m) .none) := by
          rw [e1]; simp [List.getD, h2]
        simp only [List.filterMap_cons, e2, List.map_cons]
        rw [ih fun k hk => hl k (List.mem_cons_of_mem _ hk)]
    exact go _ fun m hm => List.mem_range.mp hm
  rw [e, List.getElem?_map]
  by_cases hk : k < xs.size
  · rw [List.getElem?_range hk, List.getElem?_reverse (by simpa using hk)]
    have h2 : xs.size - 1 - k < xs.size := by omega
    simp [List.getD, h2]
  · rw [List.getElem?_eq_none (by simpa using hk), List.getElem?_eq_none (by simpa using hk)]
    rfl
theorem getItem_tuple_rev {t sl : Addr} {items : Array Value} {vl vu vs : Value} {Q : Value → Shared → Prop} (ht : PyProof.Rows.IsTup s.heap t items) (hs : s.heap.IsSliceOf sl vl vu vs) (pl : IsPart vl none) (pu : IsPart vu none) (ps : IsPart vs (some (-1)))
    (h : Q (.ref s.heap.objs.size) { s with heap := s.heap.push { cls := .type "tuple", data := .seq items.toList.reverse.toArray } }) (hsz : items.size ≤ sizeLine) : wpAny (model prog w) Ar (getItem (.ref t) (.ref sl)) Q Ex s := by
  obtain ⟨os, hos, hcs, hds⟩ := id hs
  have hTs : s.TypeIs (.ref sl) "slice" := ⟨os, hos, hcs⟩
  unfold getItem
  try with_reducible refine wpAny_holding ?_
  first | refine wpAny_bind (wpAny_pure ?_) | skip
  refine wpAny_bind (wpAny_sequenceKey ht.typeIs (by decide) ?_)
  refine wpAny_bind (wpAny_callSpecial?_slot (name := Str.ofString "__getitem__") ht.typeIs PyProof.Rows.slot_tuple_getitem
    (wpAny_call_entry PyProof.Rows.slot_tuple_getitem ht.typeIs entry_tuple_getitem ?_ (args_tuple_getitem _ _)))
  show wpAny _ _ (Builtin.Tuple.tupleItemsOf (.ref t) >>= _) _ _ s
  refine wpAny_bind (tupleItemsOf_ ht ?_)
  refine wpAny_bind (wpAny_typeOf hTs ?_)
  rw [if_pos (by decide)]
  cases ps with
  | int _ tk =>
  cases pl
  cases pu
  have app : ∀ {A' : Around} {E' : Value → Shared → Prop} {R : Int × Int × Nat → Shared → Prop}, R ((items.size : Int) - 1, -1, items.size) s → wpAny (model prog w) A' (Builtin.Slice.sliceApplied (.ref sl) (pure (items.size : Int))) R E' s := fun {A' E' R} hR => by
    unfold Builtin.Slice.sliceApplied Builtin.Slice.sliceFields
    refine wpAny_bind (wpAny_bind (wpAny_field hos hds (x := .none) rfl (wpAny_bind (wpAny_field hos hds (x := .none) rfl (wpAny_bind (wpAny_field hos hds (x := .int (-1) tk) rfl (wpAny_pure ?_)))))))
    refine wpAny_bind (slicePart_int ?_)
    show wpAny _ _ (if ((-1 : Int) == 0) = true then _ else _) _ _ s
    rw [if_neg (by decide)]
    refine wpAny_bind (slicePart_none (wpAny_bind (slicePart_none (wpAny_bind (wpAny_pure ?_)))))
    show wpAny _ _ (pure ((items.size : Int) - 1, (-1 : Int), Builtin.Slice.slicePlaces ((items.size : Int) - 1) (-1) (-1))) _ _ s
    have e : Builtin.Slice.slicePlaces ((items.size : Int) - 1) (-1) (-1) = items.size := by
      unfold Builtin.Slice.slicePlaces
      have h1 : ¬ ((-1 : Int) > 0) := by omega
      simp only [h1, if_false]
      split <;> (simp; try omega)
    rw [e]
    exact wpAny_pure hR
  refine wpAny_bind (app ?_)
  show wpAny _ _ (if ((((items.size : Int) - 1) == 0 && ((-1 : Int) == 1) && (items.size == items.size)) = true) then _ else _) _ _ s
  rw [if_neg (by intro q; rw [Bool.and_eq_true, Bool.and_eq_true] at q; exact absurd q.1.2 (by decide)), pick_back]
  have htake : sizeOk (.seq items.toList.reverse.toArray) := by
    show items.toList.reverse.toArray.size ≤ sizeLine
    rw [List.size_toArray, List.length_reverse, Array.length_toList]
    exact hsz
  first
    | exact wpAny_bind (m := Builtin.Tuple.tupleExact _) (wpAny_newObj_type (wpAny_pure ⟨_, rfl, wpAny_pure h⟩) htake)
    | exact wpAny_bind (m := Builtin.Tuple.tupleExact _) (wpAny_newObj_type (wpAny_bind (wpAny_pure (wpAny_pure ⟨_, rfl, wpAny_pure h⟩))) htake)
    | exact wpAny_bind (wpAny_bind (m := Builtin.Tuple.tupleExact _) (wpAny_newObj_type (wpAny_pure (wpAny_pure ⟨_, rfl, wpAny_pure h⟩)) htake))
    | exact wpAny_bind (wpAny_bind (m := Builtin.Tuple.tupleExact _) (wpAny_newObj_type (wpAny_pure ⟨_, rfl, wpAny_pure h⟩) htake))
end
theorem pe_revT {X : Cx} {e : Expr} {te : TE} {k : Nat} {p1 p2 p3 pos : Pos} (he : PE X e te) : PE X (.Subscript e (.Slice none none (some (.UnaryOp .USub (.Constant (.int 1) k p1) p2)) p3) pos) (tRevT X.K te) := by
  refine ⟨fun pins s σ H Q I h => ?_⟩
  refine Subscript_ (thn (he.run pins s σ H _ I h) ?_)
  rintro v s1 ⟨x, H1, I1, r1, a, xs, ex, hx, q⟩
  subst ex
  cases r1
  have neg : PO X (some (.UnaryOp .USub (.Constant (.int 1) k p1) p2)) (tPart (tUn (rU fun i => .int (-i)) (tC (.int 1)))) := po_some (pe_un un_neg pe_int)
  refine wpAny_Slice (thn (po_none.run pins s1 σ H1 (fun o H2 => o = none ∧ H2 = H1) I1 ⟨rfl, rfl⟩) ?_)
  rintro vl s2 ⟨l, H2, I2, pl, el, e2⟩
  subst el e2
  refine thn (po_none.run pins s2 σ H2 (fun o H3 => o = none ∧ H3 = H2) I2 ⟨rfl, rfl⟩) ?_
  rintro vu s3 ⟨u, H3, I3, pu, eu, e3⟩
  subst eu e3
  refine thn (neg.run pins s3 σ H3 (fun o H4 => o = some (-1) ∧ H4 = H3) I3 ⟨1, rfl, -1, rfl, rfl, rfl⟩) ?_
  rintro vs s4 ⟨o, H4, I4, ps, eo, e4⟩
  subst eo e4
  have I5 : Inv X pins σ H4 { s4 with heap := s4.heap.push { cls := .type "slice", data := .fields #[vl, vu, vs] } } := I4.kept (t' := s4.toks) fun b ob q => Heap.get?_push_of_some _ q
  obtain ⟨its, r, ht, hz⟩ := I5.tuple hx
  have hlen := r.length
  show wpAny (model X.prog X.w) X.A (subscriptTail e (.Slice none none (some (.UnaryOp .USub (.Constant (.int 1) k p1) p2)) p3) (.ref a) (.ref s4.heap.objs.size)) (EP X pins σ Q) X.xe { s4 with heap := s4.heap.push { cls := .type "slice", data := .fields #[vl, vu, vs] } }
  refine tail_any (ops := [.ref a, .ref s4.heap.objs.size]) ht.typeIs (PyProof.Rows.slot_tuple_getitem.lookup) ?_ (by with_unfolding_all rfl)
  refine getItem_tuple_rev ht (Heap.IsSliceOf.new _ vl vu vs) pl pu ps ?_ (by rw [List.size_toArray]; omega)
  refine ⟨.ref _, _, I5.laid (t' := s4.toks) (o := .tup xs.reverse) (fun b ob q => Heap.get?_push_of_some _ q) (Nat.le_refl _) ?_, rfl, q _ (I5.hok.fresh (Nat.le_refl _))⟩
  exact ⟨by rw [List.length_reverse]; exact hz, _, r.reverse, IsTup.new _ _⟩
def fRev (f : FE) : FE := fun e m => (f e m).bind fun p => match p.1 with
  | .tup xs => some (.tup xs.reverse, p.2)
  | _ => none
theorem e_rev {X : Cx} {e : Expr} {te : TE} {f : FE} {k : Nat} {p1 p2 p3 pos : Pos} (h : E X e te f) : E X (.Subscript e (.Slice none none (some (.UnaryOp .USub (.Constant (.int 1) k p1) p2)) p3) pos) (tRevT X.K te) (fRev f) := ⟨pe_revT h.pe, fun r σ H e m d m' hs hm hf Q go => by
  obtain ⟨⟨d1, m1⟩, h1, hf⟩ := bindE hf
  split at hf
  · rename_i xs q
    have q' : d1 = .tup xs := q
    subst q'
    cases hf
    refine h.ok r σ H e m _ _ hs hm h1 _ fun r1 v1 H1 x1 hm1 hv1 => ?_
    obtain ⟨a, vs, rfl, ha, hw⟩ := hv1.tupE
    exact ⟨a, vs, rfl, ha.sq, fun p hp => (go.step x1).newTup hm1 hw.reverse hp⟩
  · cases hf⟩

/-! ### tuple(range(..)), list(range(..)) -/
section
variable {X : Cx} {a b : Expr} {ta tb : TE} {fa fb : FE} {p p2 pos pos2 : Pos}
def fRg1 (f : FE) : FA := fun e m => (f e m).bind fun p => (asI p.1).bind fun j => if 0 ≤ j ∧ j ≤ 100000 then some (rangeD 0 j.toNat, p.2) else none
theorem rg_vals {K : Fg} {r : List Addr} {H : Hp} (lo : Int) (n : Nat) : VAll K r H ((List.range n).map fun i => V.int (lo + (i : Nat))) (rangeD lo n) := by
  unfold rangeD
  generalize List.range n = l
  induction l with
  | nil => exact .nil
  | cons k l ih => exact .cons (.int _) ih
theorem l_rg1 (hc : X.calm = true) (hml : X.mg "list" = none) (hmr : X.mg "range" = none) (h : E X a ta fa) (hgl : Gl X "list" := by rfl) (hgr : Gl X "range" := by rfl) (na : starEach [a] X.env = (false, eval a X.env) :: starEach [] X.env := by rfl)
    (na2 : starEach [.Call (.Name "range" p2) [a] [] pos2] X.env = (false, eval (.Call (.Name "range" p2) [a] [] pos2) X.env) :: starEach [] X.env := by rfl) :
    L X (.Call (.Name "list" p) [.Call (.Name "range" p2) [a] [] pos2] [] pos) (tLstRg (tRg1 ta)) (fRg1 fa) := ⟨pe_listRg hc hgl hml (prg_1 hgr hmr h.pe na) na2, fun r σ H e m d m' hs hm hf Q go => by
  obtain ⟨⟨d1, m1⟩, h1, hf⟩ := bindE hf
  obtain ⟨j, h2, hf⟩ := bindE hf
  obtain ⟨hz, hf⟩ := iteE hf
  cases hf
  have q' : d1 = .int j := asI_ok h2
  subst q'
  refine h.ok r σ H e m _ _ hs hm h1 _ fun r1 v1 H1 x1 hm1 hv1 => ⟨j, hv1.intE, RgOk.of_le (by omega) (by omega) (by omega) (by omega), fun q hq => ?_⟩
  have w := rg_vals (K := X.K) (r := r1) (H := H1) 0 j.toNat
  have e1 : rgV 0 j = (List.range j.toNat).map fun i => V.int (0 + (i : Nat)) := by unfold rgV; rw [Int.sub_zero]
  rw [e1]
  exact (go.step x1).new hm1 w hq⟩
def fTRg1 (f : FE) : FE := fun e m => (f e m).bind fun p => (asI p.1).bind fun j => if 0 ≤ j ∧ j ≤ 100000 then some (.tup (rangeD 0 j.toNat), p.2) else none
theorem e_trg1 (hc : X.calm = true) (hml : X.mg "tuple" = none) (hmr : X.mg "range" = none) (h : E X a ta fa) (hgl : Gl X "tuple" := by rfl) (hgr : Gl X "range" := by rfl) (na : starEach [a] X.env = (false, eval a X.env) :: starEach [] X.env := by rfl)
    (na2 : starEach [.Call (.Name "range" p2) [a] [] pos2] X.env = (false, eval (.Call (.Name "range" p2) [a] [] pos2) X.env) :: starEach [] X.env := by rfl) :
    E X (.Call (.Name "tuple" p) [.Call (.Name "range" p2) [a] [] pos2] [] pos) (tTupRg (tRg1 ta)) (fTRg1 fa) := ⟨pe_tupRg hc hgl hml (prg_1 hgr hmr h.pe na) na2, fun r σ H e m d m' hs hm hf Q go => by
  obtain ⟨⟨d1, m1⟩, h1, hf⟩ := bindE hf
  obtain ⟨j, h2, hf⟩ := bindE hf
  obtain ⟨hz, hf⟩ := iteE hf
  cases hf
  have q' : d1 = .int j := asI_ok h2
  subst q'
  refine h.ok r σ H e m _ _ hs hm h1 _ fun r1 v1 H1 x1 hm1 hv1 => ⟨j, hv1.intE, RgOk.of_le (by omega) (by omega) (by omega) (by omega), fun q hq => ?_⟩
  have w := rg_vals (K := X.K) (r := r1) (H := H1) 0 j.toNat
  have e1 : rgV 0 j = (List.range j.toNat).map fun i => V.int (0 + (i : Nat)) := by unfold rgV; rw [Int.sub_zero]
  rw [e1]
  exact (go.step x1).newTup hm1 w hq⟩
/-- range(a, b, c), downward -/
def fRangeC (f g h : FE) : FI := fun e m => (f e m).bind fun p => (asI p.1).bind fun i => (g e p.2).bind fun q => (asI q.1).bind fun j => (h e q.2).bind fun u => (asI u.1).bind fun k => if -100000 ≤ i ∧ i ≤ 100000 ∧ -100000 ≤ j ∧ j ≤ 100000 ∧ k = -1 then some (⟨(List.range (i - j).toNat).map fun n => D.int (i - (n : Nat)), none⟩, u.2) else none
end

/-! ### divmod, index -/
def gDivmod : GN
  | [.int i, .int j], m => if 0 < j ∧ j < 1073741824 then some (.tup [.int (i / j), .int (i % j)], m) else none
  | _, _ => none
theorem gDivmod_ok {K : Fg} : RNOk K (fun xs H Q => ∃ i j, xs = [.int i, .int j] ∧ CDivP i j ∧ ∀ p, H p = none → Q (.ref p) (upd H p (.tup [.int (i / j), .int (i % j)]))) gDivmod := fun r H m xs ds d m' hm hx hg Q go => by
  unfold gDivmod at hg
  split at hg
  · obtain ⟨hz, hg⟩ := iteE hg
    cases hg
    obtain ⟨v, w, rfl, hv, hw⟩ := hx.two
    rw [hv.intE, hw.intE]
    exact ⟨_, _, rfl, ⟨hz.1, PyProof.noPylong_small (by omega)⟩, fun p hp => go.newTup hm (.cons (.int _) (.cons (.int _) .nil)) hp⟩
  · cases hg
end Mv

set_option Elab.async false
set_option linter.all false
set_option maxRecDepth 100000
set_option maxHeartbeats 4000000
/-! Mv10: range downward, list.index, {}. The law's end. -/
namespace Mv
open PySem PySem.Spec PyProof.Rows L2

/-- i, i - 1, .. (n of them) -/
def downD (i : Int) (n : Nat) : List D := (List.range n).map fun k => .int (i + (k : Nat) * -1)
theorem downD_length (lo : Int) (n : Nat) : (downD lo n).length = n := by simp [downD]
theorem downD_get {lo : Int} {n i : Nat} {d : D} (h : (downD lo n)[i]? = some d) : i < n ∧ d = .int (lo + (i : Nat) * -1) := by
  unfold downD at h
  rw [List.getElem?_map] at h
  by_cases hi : i < n
  · rw [List.getElem?_range hi] at h
    cases h
    exact ⟨hi, rfl⟩
  · rw [List.getElem?_eq_none (by simpa using hi)] at h
    cases h
def fDown (f g h : FE) : FI := fun e m => (f e m).bind fun p => (asI p.1).bind fun i => (g e p.2).bind fun q => (asI q.1).bind fun j => (h e q.2).bind fun u => (asI u.1).bind fun k => if -100000 ≤ i ∧ i ≤ 100000 ∧ -100000 ≤ j ∧ j ≤ 100000 ∧ k = -1 then some (⟨downD i (i - j).toNat, none⟩, u.2) else none
theorem i_down {X : Cx} {tg a b c : Expr} {ta tb tc : TE} {fa fb fc : FE} {p pos : Pos} (hm : X.mg "range" = none) (ha : E X a ta fa) (hb : E X b tb fb) (hc : E X c tc fc) (hg : Gl X "range" := by rfl)
    (hs : starEach [a, b, c] X.env = (false, eval a X.env) :: starEach [b, c] X.env := by rfl) (hs2 : starEach [b, c] X.env = (false, eval b X.env) :: starEach [c] X.env := by rfl) (hs3 : starEach [c] X.env = (false, eval c X.env) :: starEach [] X.env := by rfl) (hpl : (backTo pos (starEach [b, c] X.env)).any (·.1) = false := by rfl) :
    I X tg (.Call (.Name "range" p) [a, b, c] [] pos) (iRng3 (tCons ta (tCons tb (tCons tc tNil)))) (fDown fa fb fc) := ⟨pi_range3 hg hm (pa_cons ha.pe (pa_cons hb.pe (pa_cons hc.pe pa_nil hs3) hs2) hs) hs hpl, fun r σ H e m s m1 hs hm hf R go => by
  obtain ⟨⟨d, m2⟩, h1, hf⟩ := bindE hf
  obtain ⟨i, h2, hf⟩ := bindE hf
  obtain ⟨⟨d2, m3⟩, h3, hf⟩ := bindE hf
  obtain ⟨j, h4, hf⟩ := bindE hf
  obtain ⟨⟨d3, m4⟩, h5, hf⟩ := bindE hf
  obtain ⟨k, h6, hf⟩ := bindE hf
  obtain ⟨hz, hf⟩ := iteE hf
  cases hf
  have q1 : d = .int i := asI_ok h2
  have q2 : d2 = .int j := asI_ok h4
  have q3 : d3 = .int k := asI_ok h6
  subst q1; subst q2; subst q3
  refine ha.ok r σ H e m _ _ hs hm h1 _ fun r1 v1 H1 x1 hm1 hv1 => ?_
  refine hb.ok r1 σ H1 e _ _ _ (hs.mono x1) hm1 h3 _ fun r2 v2 H2 x2 hm2 hv2 => ?_
  refine hc.ok r2 σ H2 e _ _ _ (hs.mono (x1.trans x2)) hm2 h5 _ fun r3 v3 H3 x3 hm3 hv3 => ?_
  refine ⟨i, j, k, (i - j).toNat, by rw [hv1.intE, hv2.intE, hv3.intE], by rw [hz.2.2.2.2]; exact RgC.neg (by omega) (by omega) (by omega) (by omega), go r3 H3 _ ((x1.trans x2).trans x3) hm3 trivial fun n r4 H4 m5 x4 hm4 hl => ?_⟩
  refine ⟨fun hi => ?_, fun d hd => ?_⟩
  · have : (i - j).toNat ≤ n := by simpa [downD_length] using hi
    exact this
  · obtain ⟨hi, e⟩ := downD_get hd
    subst e
    refine ⟨hi, fun x H' y => ?_⟩
    obtain ⟨e1, e2⟩ := y
    subst e1; subst e2
    rw [hz.2.2.2.2]
    exact ⟨Ext.refl, hm4, .int _⟩⟩
/-- {} -/
def fDnew : FE := fun _ m => some (.loc m.length, m ++ [.dK [] []])
theorem e_dnew {X : Cx} {pos : Pos} : E X (.Dict [] [] pos) tDNewK fDnew := ⟨pe_dnewK, fun r σ H e m d m' hs hm hf Q go => by
  cases hf
  exact fun p hp => go (r ++ [p]) (.ref p) _ (Ext.alloc hp) (hm.allocC hp ⟨[], upd_same, rfl, .nil⟩) (.loc (by rw [← hm.len]; simp))⟩
/-- xs.index(x), of ints that are there -/
def posI : List Int → Int → Option Nat
  | [], _ => none
  | y :: r, x => if y = x then some 0 else (posI r x).map (· + 1)
theorem posI_ok : ∀ {l : List Int} {x : Int} {j : Nat}, posI l x = some j → l[j]? = some x ∧ ∀ m y, m < j → l[m]? = some y → y ≠ x
  | y :: r, x, j, h => by
    unfold posI at h
    split at h
    · rename_i e
      cases h
      exact ⟨by rw [e]; rfl, fun m y hm => absurd hm (Nat.not_lt_zero m)⟩
    · rename_i ne
      obtain ⟨k, h1, h2⟩ := mapE h
      subst h2
      obtain ⟨q1, q2⟩ := posI_ok h1
      refine ⟨q1, fun m z hm hz => ?_⟩
      cases m with
      | zero => cases hz; exact ne
      | succ m => exact q2 m z (by omega) hz
def gIndex : GM
  | .loc l, [.int x], m => match m[l]? with
    | some (.lst xs) => (asIs xs).bind fun ns => (posI ns x).map fun j => (.int (j : Nat), m)
    | _ => none
  | _, _, _ => none
theorem flat_ints (ns : List Int) : (ns.map V.int).all flatV = true := by
  rw [List.all_eq_true]
  intro x hx
  obtain ⟨i, _, rfl⟩ := List.mem_map.mp hx
  rfl
theorem gIndex_ok {K : Fg} : RMOk K (rIndex K) gIndex := fun r H m x xs dx ds d m' hm hx hxs hg Q go => by
  unfold gIndex at hg
  split at hg
  · split at hg
    · rename_i k mm l kx _ ys z
      obtain ⟨ns, h1, hg⟩ := bindE hg
      obtain ⟨j, h2, hg⟩ := mapE hg
      cases hg
      have e := asIs_ok h1
      subst e
      obtain ⟨a, rfl, ha⟩ := hx.locE
      obtain ⟨v, rfl, hv⟩ := hxs.one
      obtain ⟨vs, q1, q2⟩ := hm.lst ha z
      have e2 := q2.ints
      subst e2
      obtain ⟨p1, p2⟩ := posI_ok h2
      have ev := hv.intE
      subst ev
      refine ⟨a, _, _, j, _, rfl, rfl, .of q1, rfl, flat_ints ns, by rw [List.getElem?_map, p1]; rfl, ?_, fun n z' hn hz => ?_, go.here hm (.int _)⟩
      · show (_ == _) = true
        simp
      · rw [List.getElem?_map] at hz
        obtain ⟨y, w1, w2⟩ := mapE hz
        subst w2
        show (y == _) = false
        simpa using p2 n y hn w1
    · cases hg
  · cases hg
theorem e_index {X : Cx} {o a : Expr} {to ta : TE} {fo fa : FE} {apos cpos : Pos} (ho : E X o to fo) (ha : E X a ta fa)
    (hbase : attributeBase o "index" X.env (eval o X.env) = eval o X.env := by rfl)
    (hfew : ((backTo cpos (starEach [a] X.env)).all (fun x => !x.1) && (backToKw cpos (keywordEach [] X.env)).all (fun x => x.1.isSome)
      && decide ([a].length + ([] : List Keyword).length + (if ([] : List Keyword).isEmpty then 0 else 1) < 30)) = true := by rfl)
    (hline : (apos.endLine == cpos.line) = true := by rfl) (hs : starEach [a] X.env = (false, eval a X.env) :: starEach [] X.env := by rfl) :
    E X (.Call (.Attribute o "index" apos) [a] [] cpos) (tBM X.K "list" (rIndex X.K) to (tCons ta tNil)) (fMeth gIndex fo (fCons fa fNil)) :=
  ⟨pe_bm PySem.F.plainAttrs_list PySem.F.slot_list_index PySem.F.type_list_index mt_index ho.pe (pa_cons ha.pe pa_nil hs) hbase hfew hline hs rfl, methOk gIndex_ok ho.ok (aCons ha.ok aNil)⟩

/-! ### the law's end, for defs that are called with no guard under way -/
theorem law_end {P : Program} {w : World} {K : Fg} {mg mb : Str → Option Value} {CX : CXT} {k : Nat} {fa a : Addr} {fd : FuncData} {x : Str} {sp : Sp} {s : Shared} {vs : List Value} {ns : List Int}
    (inK : K.In s.heap) (hns : s.heap.Ns mainGlobals mg) (hb : s.heap.Ns builtinsNs mb) (hbb : ∀ x : Str, x ≠ "__name__" → mb x = bootBuiltins x) (hlim : s.heap.NoLimit) (hg : s.gens = #[])
    (ha : s.heap.get? a = some { cls := .type "list", data := .seq vs.toArray }) (hi : PyProof.Rows.IntsAre vs ns) (hl : ns.length ≤ sizeLine) (hr : Room k callerA)
    (F : ∀ base : Heap, K.In base → base.Ns mainGlobals mg → FnG P w K mg base CX k fa fd [x] sp) (hbind : ∀ (s : Shared) (u : Value), BindsTo s fd ⟨[u], []⟩ [(x, u)])
    (hsp : ∀ H : Hp, Only H → (∃ o, H a = some o ∧ ∀ ys, o ≠ .tup ys) → SqL K H a (ns.map V.int) → sp [.ref a] H (fun v _ => v = .bl true) fun _ _ _ => False)
    (hCX : ∀ H e s', CX [] H s (fun _ _ _ => False) e s' → False) (hKa : K.lookup a = none) :
    codeAny (model P w) callerA (.call (.ref fa) ⟨[.ref a], []⟩) (fun r s' => r = .ok (.ret (.bool true)) ∧ OldK s.heap s'.heap ∧ s'.os = s.os ∧ AllBare s'.gens) s := by
  have rv := vals_ints hi
  let H : Hp := fun b => if b = a then some (.frz { cls := .type "list", data := .seq vs.toArray } (.lst (ns.map V.int))) else none
  have Ha : H a = some (.frz { cls := .type "list", data := .seq vs.toArray } (.lst (ns.map V.int))) := if_pos rfl
  have Hn : ∀ {b : Addr}, b ≠ a → H b = none := fun hb => if_neg hb
  have hO : Only H := fun b => by
    by_cases e : b = a
    · exact .inr ⟨_, _, by rw [e]; exact Ha⟩
    · exact .inl (Hn e)
  have hok : HOk P w H s.heap := fun b u z => by
    by_cases e : b = a
    · subst e
      rw [Ha] at z; cases z
      exact ⟨ha, by rw [List.length_map]; exact hl, vs, _, rv, ha⟩
    · rw [Hn e] at z; cases z
  have up : ∀ {b : Addr} {o : Obj}, s.heap.get? b = some o → b ≠ a → (hidT s.heap H).get? b = some o := fun e n => hidT_get e (Hn n)
  have nota : ∀ {b : Addr} {o : Obj} {es : Array DictEntry} {ep : Nat}, s.heap.get? b = some o → o.data = .dict es ep → b ≠ a := fun {b o es ep} e d z => by
    subst z
    rw [ha] at e; cases e
    have d' : Data.seq vs.toArray _ = Data.dict es ep := d
    cases d'
  have nsU : ∀ {b : Addr} {m : Str → Option Value}, s.heap.Ns b m → (hidT s.heap H).Ns b m := fun {b m} h => by
    obtain ⟨o, es, ep, e, d, r⟩ := h
    exact ⟨o, es, ep, up e (nota e d), d, r⟩
  have inB : K.In (hidT s.heap H) := fun b o e => up (inK b o e) fun z => by
    rw [z, hKa] at e; cases e
  have M : Mod K mg (hidT s.heap H) := ⟨inB, nsU hns, ⟨mb, nsU hb, hbb⟩, by obtain ⟨mc, h1, h2⟩ := hlim; exact ⟨mc, nsU h1, h2⟩⟩
  have e0 : Env0 P w K mg (hidT s.heap H) callerA [] s H := ⟨rfl, M, fun b o e => of_hidT e, Nat.le_of_eq (hidT_size _ _), trivial, fun b z => by simp [frs] at z, hok, .of_eq hg⟩
  refine codeAny_mono ((F _ inB (nsU hns)).goes callerA hr rfl [] s H e0 ⟨[.ref a], []⟩ [.ref a] (hbind s (.ref a)) [.ref a] (.cons rfl .nil) _ _ (hsp H hO ⟨_, Ha, fun ys z => by cases z⟩ (.inl (.inr ⟨_, Ha⟩)))) ?_
  intro r s' h
  match r, h with
  | .error e, h => exact (hCX H e s' h).elim
  | .ok .next, h => exact False.elim h
  | .ok .brk, h => exact False.elim h
  | .ok .cont, h => exact False.elim h
  | .ok (.ret u), h =>
    obtain ⟨v, H', os, bare, un, hok', rl, q⟩ := h
    have q' : v = .bl true := q
    subst q'
    obtain rfl : u = Value.bool true := rl
    refine ⟨rfl, OldK.of_keep fun b o e => ?_, os, bare⟩
    by_cases hba : b = a
    · subst hba
      have z2 := un.frzs b _ _ Ha
      obtain ⟨e2, _⟩ := hok' b _ z2
      rw [ha] at e; cases e
      exact e2
    · exact un.keep b o e (Hn hba) (by simp [frs]) (by simp)
end Mv

set_option Elab.async false
set_option linter.all false
set_option maxRecDepth 100000
set_option maxHeartbeats 4000000
/-! Mv11: the law's end for a law's promise by a function. -/
namespace Mv
open PySem PySem.Spec PyProof.Rows L2
theorem vals_kl {K : Fg} {r : List Addr} {H : Hp} : ∀ ns : List Int, VAll K r H (ns.map V.int) (ns.map D.int)
  | [] => .nil
  | n :: ns => .cons (.int n) (vals_kl ns)
theorem callG {P : Program} {w : World} {K : Fg} {mg mb : Str → Option Value} {k : Nat} {fa a : Addr} {fd : FuncData} {x : Str} {F : GN} {s : Shared} {vs : List Value} {ns : List Int}
    (KX : K.In s.heap) (hns : s.heap.Ns mainGlobals mg) (hb : s.heap.Ns builtinsNs mb) (hbb : ∀ x : Str, x ≠ "__name__" → mb x = bootBuiltins x) (hlim : s.heap.NoLimit) (hg : s.gens = #[])
    (ha : s.heap.get? a = some { cls := .type "list", data := .seq vs.toArray }) (hi : PyProof.Rows.IntsAre vs ns) (hl : ns.length ≤ sizeLine) (hr : Room k callerA)
    (hF : ∀ base : Heap, K.In base → base.Ns mainGlobals mg → FnG P w K mg base CX0 k fa fd [x] (spG K F)) (hbind : ∀ (s : Shared) (u : Value), BindsTo s fd ⟨[u], []⟩ [(x, u)])
    (hsp : ∃ m', F [.kl (ns.map D.int)] [] = some (.bl true, m')) :
    codeAny (model P w) callerA (.call (.ref fa) ⟨[.ref a], []⟩) (fun r s' => r = .ok (.ret (.bool true)) ∧ OldK s.heap s'.heap ∧ s'.os = s.os ∧ AllBare s'.gens) s := by
  have rv := vals_ints hi
  have lenV := hi.length
  have core : ∀ H : Hp, Only H → KlAt K H a (ns.map V.int) → HOk P w H s.heap → (∀ b, H b ≠ none → b = a) → (H a ≠ none → K.lookup a = none) →
      codeAny (model P w) callerA (.call (.ref fa) ⟨[.ref a], []⟩) (fun r s' => r = .ok (.ret (.bool true)) ∧ OldK s.heap s'.heap ∧ s'.os = s.os ∧ AllBare s'.gens) s := by
    intro H hO hS hok hA hK
    have base_of : ∀ {b : Addr} {o : Obj}, s.heap.get? b = some o → H b = none → (hidT s.heap H).get? b = some o := fun e n => hidT_get e n
    have noA : ∀ {b : Addr} {o : Obj} {es : Array DictEntry} {ep : Nat}, s.heap.get? b = some o → o.data = .dict es ep → H b = none := fun {b o es ep} e d => by
      cases q : H b with
      | none => rfl
      | some u =>
        have z : b = a := hA b (by rw [q]; simp)
        subst z
        rw [ha] at e; cases e
        have d' : Data.seq vs.toArray _ = Data.dict es ep := d
        cases d'
    have nsU : ∀ {b : Addr} {m : Str → Option Value}, s.heap.Ns b m → (hidT s.heap H).Ns b m := fun {b m} h => by
      obtain ⟨o, es, ep, e, d, r⟩ := h
      exact ⟨o, es, ep, base_of e (noA e d), d, r⟩
    have inB : K.In (hidT s.heap H) := fun b o e => base_of (KX b o e) (by
      cases q : H b with
      | none => rfl
      | some u =>
        have z : b = a := hA b (by rw [q]; simp)
        subst z
        rw [hK (by rw [q]; simp)] at e; cases e)
    have M : Mod K mg (hidT s.heap H) := ⟨inB, nsU hns, ⟨mb, nsU hb, hbb⟩, by obtain ⟨mc, h1, h2⟩ := hlim; exact ⟨mc, nsU h1, h2⟩⟩
    have e0 : Env0 P w K mg (hidT s.heap H) callerA [] s H := ⟨rfl, M, fun b o e => of_hidT e, Nat.le_of_eq (hidT_size _ _), trivial, fun b z => by simp [frs] at z, hok, .of_eq hg⟩
    have sp0 : spG K F [.ref a] H (fun v _ => v = .bl true) fun _ _ _ => False := by
      obtain ⟨m', e⟩ := hsp
      exact ⟨[], _, [], _, m', .cons (.kl hS (vals_kl ns)) .nil, ⟨rfl, List.nodup_nil, fun l c q => by cases l <;> cases q⟩, e, fun r' v H' _ _ hv => hv.blE⟩
    refine codeAny_mono ((hF _ inB (nsU hns)).goes callerA hr rfl [] s H e0 ⟨[.ref a], []⟩ [.ref a] (hbind s (.ref a)) [.ref a] (.cons rfl .nil) _ _ sp0) ?_
    intro r s' h
    match r, h with
    | .error e, h => exact False.elim h
    | .ok .next, h => exact False.elim h
    | .ok .brk, h => exact False.elim h
    | .ok .cont, h => exact False.elim h
    | .ok (.ret u), h =>
      obtain ⟨v, H', os, bare, un, hok', rl, q⟩ := h
      have q' : v = .bl true := q
      subst q'
      obtain rfl : u = Value.bool true := rl
      refine ⟨rfl, OldK.of_keep fun b o e => ?_, os, bare⟩
      cases q : H b with
      | none => exact un.keep b o e q (by simp [frs]) (by simp)
      | some u =>
        rcases hO b with z | ⟨ob, xs, z⟩
        · rw [q] at z; cases z
        · have z2 := un.frzs b ob _ z
          obtain ⟨e1, _⟩ := hok b _ z
          obtain ⟨e2, _⟩ := hok' b _ z2
          rw [e] at e1; cases e1
          exact e2
  cases hk : K.lookup a with
  | some o =>
    have e := KX a o hk
    rw [ha] at e
    cases e
    refine core (fun _ => none) (fun _ => .inl rfl) (.inr fun _ => .inr ⟨_, vs.toArray, _, hk, rfl, rfl, rfl, by rw [List.size_toArray, lenV]; exact hl, by simpa using rv⟩) (fun b u z => by have z' : (none : Option HO) = some u := z; cases z') (fun b z => absurd rfl z) fun z => absurd rfl z
  | none =>
    refine core (fun b => if b = a then some (.frz { cls := .type "list", data := .seq vs.toArray } (.lst (ns.map V.int))) else none) (fun b => ?_) (.inl ⟨{ cls := .type "list", data := .seq vs.toArray }, if_pos rfl⟩) (fun b u z => ?_) (fun b z => ?_) fun _ => hk
    · by_cases hb : b = a
      · exact .inr ⟨_, _, if_pos hb⟩
      · exact .inl (if_neg hb)
    · by_cases hb : b = a
      · have z' := (if_pos hb).symm.trans z
        cases z'
        subst hb
        exact ⟨ha, by rw [List.length_map]; exact hl, vs, _, rv, ha⟩
      · have z' := (if_neg hb).symm.trans z
        cases z'
    · by_cases hb : b = a
      · exact hb
      · exact absurd (if_neg hb) z
theorem walk_ofG {l : PySem.W.OpenLaw} {n k : Nat} {q : Program} {loose : List Str} {XP : (Str → Option Value) → Heap → Prop} {YP : World → Heap → Prop} {d : DefRec} {K : Params → Fg} {F : GN} {x : Str}
    (hn : l.most = some n) (hn2 : n ≤ sizeLine) (hdf : d.params.defaults = []) (hr : Room k callerA)
    (hY : ∀ (w : World) (h : Heap), YP w h → (K w.params).In h)
    (hF : ∀ (w : World) (mg : Str → Option Value) (fa : Addr) (h : Heap), (K w.params).In h → h.Ns mainGlobals mg → mg d.name = some (.ref fa) →
      ∃ fd : FuncData, (∀ (s : Shared) (u : Value), BindsTo s fd ⟨[u], []⟩ [(x, u)]) ∧
        ∀ base : Heap, (K w.params).In base → base.Ns mainGlobals mg → FnG l.prog w (K w.params) mg base CX0 k fa fd [x] (spG (K w.params) F))
    (hsp : ∀ ns : List Int, ns.length ≤ n → ∃ m', F [.kl (ns.map D.int)] [] = some (.bl true, m')) :
    PySem.W.WalkO q loose XP YP l.row.toRowW d [] (fun f vs => PySem.call f vs) := by
  refine Att.attach_call hn hdf fun w s₀ s₁ mg mb fa o pm cd doc a vs ns G Y ho hd hcd hmg hobj hints hlen hg => ?_
  have KX := hY w _ Y
  obtain ⟨fd, hb, hF⟩ := hF w mg fa _ KX G.T.g hmg
  exact callG KX G.T.g G.T.b G.T.builtins G.T.nolimit hg hobj hints (Nat.le_trans hlen hn2) hr hF hb (hsp ns hlen)
end Mv

set_option Elab.async false
set_option linter.all false
set_option maxRecDepth 100000
set_option maxHeartbeats 4000000
/-! Mv12: repr of anything; what a body needs to know of a def that it calls. -/
namespace Mv
open PySem PySem.Spec PyProof.Rows L2
def rReprS : List V → Hp → VK → Prop := fun xs H Q => (∃ i, xs = [.int i] ∧ i.natAbs.log2 < 1920 ∧ Q (.str (toString i)) H) ∨ ∃ b, xs = [.bl b] ∧ Q (.str (if b then "True" else "False")) H
theorem cr_reprB {X : Cx} : CallR X (.builtin "repr") (fun xs H Q => ∃ b, xs = [.bl b] ∧ Q (.str (if b then "True" else "False")) H) := by
  intro pins s σ H xs us Q I r h
  obtain ⟨b, rfl, q⟩ := h
  obtain ⟨u, rfl, ru⟩ := Vals.one r
  obtain rfl : u = Value.bool b := ru
  refine PySem.P.repr_of_bool ?_
  exact ⟨.str _, H, I.tok _, ⟨_, rfl⟩, q⟩
theorem cr_reprA {X : Cx} (hG : X.A.guards = some []) (hu : X.A.units + 64 < cLine) : CallR X (.builtin "repr") (fun xs H Q => rRepr X.K xs H Q ∨ rReprS xs H Q) :=
  (cr_repr hG hu).or (SkE.call_repr_int.or cr_reprB)
def gReprA : GN := fun ds m => match ds with
  | [.int i] => if i.natAbs.log2 < 1920 then some (.str (toString i), m) else none
  | [.bl b] => some (.str (if b then "True" else "False"), m)
  | ds => gRepr ds m
theorem gReprA_ok {K : Fg} : RNOk K (fun xs H Q => rRepr K xs H Q ∨ rReprS xs H Q) gReprA := fun r H m xs ds d m' hm hx hg Q go => by
  unfold gReprA at hg
  split at hg
  · obtain ⟨hz, hg⟩ := iteE hg
    cases hg
    obtain ⟨v, rfl, hv⟩ := hx.one
    rw [hv.intE]
    exact .inr (.inl ⟨_, rfl, hz, go.here hm (.str _)⟩)
  · cases hg
    obtain ⟨v, rfl, hv⟩ := hx.one
    rw [hv.blE]
    exact .inr (.inr ⟨_, rfl, go.here hm (.str _)⟩)
  · exact .inl (gRepr_ok r H m xs _ d m' hm hx hg Q go)
/-- what is known of a def that is called -/
structure Kn (P : Program) (w : World) (K : Fg) (mg : Str → Option Value) (base : Heap) (x : Str) (k : Nat) (ps : List Str) (F : GN) : Prop where
  ex : ∃ f fd, FnG P w K mg base CX0 k f fd ps (spG K F) ∧ mg x = some (.ref f) ∧ PySem.W.keepIn K (.ref f) = true ∧ Binds K fd ps []
theorem kn_of {P : Program} {w : World} {K : Fg} {mg : Str → Option Value} {base : Heap} {x qual : Str} {st : Stmt} {f : Addr} {fd : FuncData} {N ps : List Str} {k : Nat} {F : GN} {g : FS} (Fu : Fun K x qual st f fd) (hmg : mg x = some (.ref f)) (hb : Binds K fd ps [])
    (Sc : FnScope N ps (defScope st)) (many : ∀ ds m z, F ds m = some z → ds.length = ps.length)
    (body : ∀ (cdv : Value) (A : Around) (outer : List Env) (s : Shared) (H : Hp) (E : XK), Room k (A.deeper (envOfC qual (defScope st) s.heap.objs.size f cdv)) → A.guards = some [] → ∃ ts, Ss (cxOf CX0 P w K mg base N qual (defScope st) f cdv A outer s H E).nox (defBody st) ts g)
    (kp : Keeps N g F) : Kn P w K mg base x (k + 1) ps F := ⟨f, fd, fn_ok Fu Sc many body kp, hmg, Fu.kp, hb⟩
theorem e_callK {X : Cx} {k : Nat} {ps : List Str} {F : GN} {x : Str} {p pos : Pos} {e : Expr} {es : List Expr} {t : TA} {fa : FA} (kn : Kn X.prog X.w X.K X.mg X.base x k ps F) (hr : Room k X.A) (hG : X.A.guards = some []) (ha : A X (e :: es) t fa) (hg : Gl X x := by rfl)
    (hdb : (x == ("__debug__" : Str)) = false := by decide) (he : starEach (e :: es) X.env = (false, eval e X.env) :: starEach es X.env := by rfl) (hpl : (backTo pos (starEach es X.env)).any (·.1) = false := by rfl) :
    E X (.Call (.Name x p) (e :: es) [] pos) (tCall (spG X.K F) [] E0 t) (fCall F fa) := by
  obtain ⟨f, fd, h1, h2, h3, h4⟩ := kn.ex
  exact e_call h1 hr hG h2 h3 h4 ha hg hdb he hpl
/-- ==, texts too -/
def gEqS : G2 := fun x y m => match x, y with
  | .str a, .str b => some (.bl (decide (a = b)), m)
  | x, y => gEq x y m
def gNeS : G2 := fun x y m => match x, y with
  | .str a, .str b => some (.bl (!decide (a = b)), m)
  | x, y => gNe x y m
theorem gEqS_ok {K : Fg} : R2Ok K (fun x y H Q => rEqD K x y H Q ∨ rEq x y H Q) gEqS := fun r H m x y dx dy d m' hm hx hy hg Q go => by
  unfold gEqS at hg
  split at hg
  · cases hg
    rw [hx.strE, hy.strE]
    refine .inr ⟨rfl, ?_⟩
    rename_i a b
    have e : decide (V.str a = V.str b) = decide (a = b) := by simp
    rw [e]
    exact go.here hm (.bl _)
  · exact .inl (gEq_ok r H m x y dx dy d m' hm hx hy hg Q go)
theorem gNeS_ok {K : Fg} : R2Ok K (fun x y H Q => rNeD K x y H Q ∨ rNe x y H Q) gNeS := fun r H m x y dx dy d m' hm hx hy hg Q go => by
  unfold gNeS at hg
  split at hg
  · cases hg
    rw [hx.strE, hy.strE]
    refine .inr ⟨rfl, ?_⟩
    rename_i a b
    have e : decide (V.str a = V.str b) = decide (a = b) := by simp
    rw [e]
    exact go.here hm (.bl _)
  · exact .inl (gNe_ok r H m x y dx dy d m' hm hx hy hg Q go)
theorem cm_eqS {X : Cx} (hu : X.A.units + 64 < cLine) : Cm X .Eq (fun x y H Q => rEqD X.K x y H Q ∨ rEq x y H Q) gEqS := ⟨(op_eqD hu).or op_eq, gEqS_ok⟩
theorem cm_neS {X : Cx} (hu : X.A.units + 64 < cLine) : Cm X .NotEq (fun x y H Q => rNeD X.K x y H Q ∨ rNe x y H Q) gNeS := ⟨(op_neD hu).or op_ne, gNeS_ok⟩
theorem blkK {X : Cx} {s : Shared} {H : Hp} {sc : Scope} {env : Env} {fp : List Addr} : (X.blk s H sc env fp).K = X.K := rfl
theorem E.to {X : Cx} {e : Expr} {te te' : TE} {f : FE} (h : E X e te f) (q : te = te') : E X e te' f := q ▸ h
theorem Ts.to {X : Cx} {e : List Expr} {te te' : TT} {f : FT} (h : Ts X e te f) (q : te = te') : Ts X e te' f := q ▸ h
theorem G.to {X : Cx} {e : Expr} {te te' : TG} {f : FG} {js : List Nat} (h : G X e te f js) (q : te = te') : G X e te' f js := q ▸ h
end Mv

set_option Elab.async false
set_option linter.all false
set_option maxRecDepth 100000
set_option maxHeartbeats 4000000
/-! Mv13: a def's function from its body; evaluation. -/
namespace Mv
open PySem PySem.Spec PyProof.Rows L2
open Classical in
/-- what a caller sees: new places are dropped where nothing of them is told -/
noncomputable def trimR (m : Mem) (d0 : D) (m0 : Mem) : D × Mem :=
  if d0.low 0 = true ∧ Kept m m0 (m0.take m.length) then (d0, m0.take m.length)
  else match d0 with
    | .loc k => match m0[k]? with
      | some (.lst xs) => if D.lowAll 0 xs = true ∧ m.length ≤ k ∧ Kept m m0 (m0.take m.length) then (.loc m.length, m0.take m.length ++ [.lst xs]) else (d0, m0)
      | _ => (d0, m0)
    | _ => (d0, m0)
theorem trimR_back (m : Mem) (d0 : D) (m0 : Mem) : Back m d0 m0 (trimR m d0 m0).1 (trimR m d0 m0).2 := by
  unfold trimR
  split
  · rename_i h
    exact .pure h.1 h.2
  · split
    · rename_i k
      split
      · rename_i xs q
        split
        · rename_i h
          exact .lst h.1 h.2.1 q h.2.2
        · exact .same
      · exact .same
    · exact .same
noncomputable def Fof (N : List Str) (n : Nat) (g : FS) : GN := fun ds m => if ds.length = n then (g (startE N ds) m).bind fun o => o.ret.map fun p => trimR m p.1 p.2 else none
theorem keeps_Fof (N : List Str) (n : Nat) (g : FS) : Keeps N g (Fof N n g) := fun ds m d m' h => by
  unfold Fof at h
  obtain ⟨_, h⟩ := iteE h
  obtain ⟨o, h1, h⟩ := bindE h
  obtain ⟨p, h2, h⟩ := mapE h
  refine ⟨o, p.1, p.2, h1, h2, ?_⟩
  have b := trimR_back m p.1 p.2
  have e1 : trimR m p.1 p.2 = (d, m') := h
  rw [e1] at b
  exact b
theorem many_Fof {N : List Str} {n : Nat} {g : FS} : ∀ ds m z, Fof N n g ds m = some z → ds.length = n := fun ds m z h => by
  unfold Fof at h
  exact (iteE h).1
theorem Kept.ext (m t : Mem) : Kept m (m ++ t) m := ⟨rfl, fun l c h => ⟨by
  have hl := (List.getElem?_eq_some_iff.mp h).1
  rw [List.getElem?_append_left hl]; exact h, .inr h⟩⟩
theorem Kept.set {m t : Mem} {l : Nat} {xs : List D} (hp : D.pureAll xs = true) : Kept m (m.set l (.lst xs) ++ t) (m.set l (.lst xs)) := ⟨by simp, fun k c h => ⟨by
  have hl := (List.getElem?_eq_some_iff.mp h).1
  rw [List.getElem?_append_left hl]; exact h, by
  by_cases e : l = k
  · subst e
    have hl : l < m.length := by simpa using (List.getElem?_eq_some_iff.mp h).1
    rw [List.getElem?_set_self hl] at h
    cases h; exact .inl (D.pureAll_low 0 _ hp)
  · rw [List.getElem?_set_ne e] at h
    exact .inr h⟩⟩
/-- told is without places: the new places fall away -/
theorem Fof_free {N : List Str} {n : Nat} {g : FS} {ds : List D} {m m1 t : Mem} {o : Out} {d : D} (hn : ds.length = n) (h : g (startE N ds) m = some o) (ho : o.ret = some (d, m1 ++ t)) (hd : d.low 0 = true) (hk : Kept m (m1 ++ t) m1) : Fof N n g ds m = some (d, m1) := by
  unfold Fof
  rw [if_pos hn, h]
  show o.ret.map _ = _
  rw [ho]
  show some (trimR m d (m1 ++ t)) = _
  have e : (m1 ++ t).take m.length = m1 := by rw [← hk.1]; simp
  unfold trimR
  rw [e, if_pos ⟨hd, hk⟩]
/-- told is data without places -/
theorem Fof_pure {N : List Str} {n : Nat} {g : FS} {ds : List D} {m m1 t : Mem} {o : Out} {d : D} (hn : ds.length = n) (h : g (startE N ds) m = some o) (ho : o.ret = some (d, m1 ++ t)) (hd : d.pure = true) (hk : Kept m (m1 ++ t) m1) : Fof N n g ds m = some (d, m1) := Fof_free hn h ho (D.pure_low 0 _ hd) hk
theorem Fof_same {N : List Str} {n : Nat} {g : FS} {ds : List D} {m : Mem} {o : Out} {d : D} {m1 : Mem} (hn : ds.length = n) (h : g (startE N ds) m = some o) (ho : o.ret = some (d, m1)) (hd : d.low 0 = false) (hl : ∀ k, d ≠ .loc k) : Fof N n g ds m = some (d, m1) := by
  unfold Fof
  rw [if_pos hn, h]
  show o.ret.map _ = _
  rw [ho]
  show some (trimR m d m1) = _
  unfold trimR
  rw [if_neg (by rw [hd]; simp)]
  cases d with
  | loc k => exact absurd rfl (hl k)
  | _ => rfl
theorem Fof_lst {N : List Str} {n : Nat} {g : FS} {ds : List D} {m m1 t : Mem} {o : Out} {k : Nat} {xs : List D} (hn : ds.length = n) (h : g (startE N ds) m = some o) (ho : o.ret = some (.loc k, m1 ++ t)) (hk : m.length ≤ k) (hx : (m1 ++ t)[k]? = some (.lst xs)) (hp : D.pureAll xs = true) (hK : Kept m (m1 ++ t) m1) :
    Fof N n g ds m = some (.loc m.length, m1 ++ [.lst xs]) := by
  unfold Fof
  rw [if_pos hn, h]
  show o.ret.map _ = _
  rw [ho]
  show some (trimR m (.loc k) (m1 ++ t)) = _
  have e : (m1 ++ t).take m.length = m1 := by rw [← hK.1]; simp
  unfold trimR
  rw [if_neg (by intro z; have z1 : decide (k < 0) = true := z.1; exact absurd (of_decide_eq_true z1) (Nat.not_lt_zero _))]
  simp only [hx]
  rw [e, if_pos ⟨D.pureAll_low 0 _ hp, hk, hK⟩]
theorem Keeps.start {N : List Str} {ds : List D} : startE N ds = ds.map some ++ List.replicate (N.length - ds.length) none := rfl

/-! ### evaluation -/
section
variable {e : Sl} {m : Mem}
theorem v_var {i : Nat} {d : D} (h : e[i]? = some (some d)) : fVar i e m = some (d, m) := by
  unfold fVar; rw [h]; rfl
theorem v_c {d : D} : fC d e m = some (d, m) := rfl
open Classical in
/-- comprehension over what stands for good -/
theorem comp_ev {b : D → Mem → Option (Option D × Mem)} {ys : List D} {f : D → Option D} (h : ∀ y ∈ ys, b y m = some (f y, m)) (xs : List D) : comp ⟨xs, none⟩ b ys m = some (ys.filterMap f, m) := by
  induction ys with
  | nil => exact if_pos trivial
  | cons y ys ih =>
    show (if (Src.live ⟨xs, none⟩ m) then _ else none) = _
    rw [if_pos (show Src.live ⟨xs, none⟩ m from trivial), h y (by simp)]
    show ((comp ⟨xs, none⟩ b ys m).map _) = _
    rw [ih fun z hz => h z (by simp [hz])]
    show some ((f y).toList ++ ys.filterMap f, m) = _
    rw [List.filterMap_cons]
    cases f y <;> rfl
open Classical in
theorem comp_evL {b : D → Mem → Option (Option D × Mem)} {ys : List D} {f : D → Option D} {xs : List D} {l : Nat} (hl : rd m l = some xs) (h : ∀ y ∈ ys, b y m = some (f y, m)) : comp ⟨xs, some l⟩ b ys m = some (ys.filterMap f, m) := by
  induction ys with
  | nil => exact if_pos hl
  | cons y ys ih =>
    show (if (Src.live ⟨xs, some l⟩ m) then _ else none) = _
    rw [if_pos (show Src.live ⟨xs, some l⟩ m from hl), h y (by simp)]
    show ((comp ⟨xs, some l⟩ b ys m).map _) = _
    rw [ih fun z hz => h z (by simp [hz])]
    show some ((f y).toList ++ ys.filterMap f, m) = _
    rw [List.filterMap_cons]
    cases f y <;> rfl
end
theorem lc_ev {fi : FI} {ft : FG} {fc : FT} {fe : FE} {own : List Nat} {e : Sl} {m : Mem} {xs : List D} (hi : fi e m = some (⟨xs, none⟩, m)) (hl : xs.length ≤ 100000) (f : D → Option D) (h : ∀ y ∈ xs, fElt ft fc fe (wipeE e own) y m = some (f y, m)) : fLc fi ft fc fe own e m = some (xs.filterMap f, m) := by
  unfold fLc
  rw [hi]
  show (if xs.length ≤ 100000 then _ else none) = _
  rw [if_pos hl]
  exact comp_ev h xs
theorem lc_evL {fi : FI} {ft : FG} {fc : FT} {fe : FE} {own : List Nat} {e : Sl} {m : Mem} {xs : List D} {l : Nat} (hi : fi e m = some (⟨xs, some l⟩, m)) (hr : rd m l = some xs) (hl : xs.length ≤ 100000) (f : D → Option D) (h : ∀ y ∈ xs, fElt ft fc fe (wipeE e own) y m = some (f y, m)) : fLc fi ft fc fe own e m = some (xs.filterMap f, m) := by
  unfold fLc
  rw [hi]
  show (if xs.length ≤ 100000 then _ else none) = _
  rw [if_pos hl]
  exact comp_evL hr h
theorem fm_some {f : D → D} (xs : List D) : xs.filterMap (fun y => some (f y)) = xs.map f := by
  induction xs with
  | nil => rfl
  | cons x xs ih => rw [List.filterMap_cons, ih]; rfl
/-- a for loop over what stands for good, by an invariant -/
theorem turns_ev {b : D → FS} {s0 : List D} (I : List D → Sl → Mem → Prop) (R : Out → Prop) (hb : ∀ x xs e m, I (x :: xs) e m → ∃ o, b x e m = some o ∧ match o with
    | .nx e1 m1 => I xs e1 m1
    | .ct e1 m1 => I xs e1 m1
    | .bk e1 m1 => R (.nx e1 m1)
    | .rt d m1 => R (.rt d m1)) (hn : ∀ e m, I [] e m → R (.nx e m)) : ∀ (xs : List D) (e : Sl) (m : Mem), I xs e m → ∃ o, turns ⟨s0, none⟩ b xs e m = some o ∧ R o
  | [], e, m, h => ⟨.nx e m, by unfold turns; exact if_pos trivial, hn e m h⟩
  | x :: xs, e, m, h => by
    obtain ⟨o, h1, h2⟩ := hb x xs e m h
    unfold turns
    rw [if_pos (show Src.live ⟨s0, none⟩ m from trivial), h1]
    cases o with
    | nx e1 m1 => exact turns_ev I R hb hn xs e1 m1 h2
    | ct e1 m1 => exact turns_ev I R hb hn xs e1 m1 h2
    | bk e1 m1 => exact ⟨_, rfl, h2⟩
    | rt d m1 => exact ⟨_, rfl, h2⟩
theorem for_ev {fi : FI} {ft : FG} {g : FS} {e : Sl} {m : Mem} {xs : List D} (hi : fi e m = some (⟨xs, none⟩, m)) (I : List D → Sl → Mem → Prop) (R : Out → Prop) (h0 : I xs e m) (hb : ∀ x xs e m, I (x :: xs) e m → ∃ o, ((ft x e m).bind fun q => g q.1 q.2) = some o ∧ match o with
    | .nx e1 m1 => I xs e1 m1
    | .ct e1 m1 => I xs e1 m1
    | .bk e1 m1 => R (.nx e1 m1)
    | .rt d m1 => R (.rt d m1)) (hn : ∀ e m, I [] e m → R (.nx e m)) : ∃ o, fsFor fi ft g e m = some o ∧ R o := by
  unfold fsFor
  rw [hi]
  exact turns_ev I R hb hn xs e m h0
/-- a while loop, by an invariant that counts down -/
theorem wh_ev {t : FT} {g : FS} (I : Nat → Sl → Mem → Prop) (R : Out → Prop) (hb : ∀ k e m, I k e m → (∃ m1, t e m = some (false, m1) ∧ R (.nx e m1)) ∨ ∃ m1, t e m = some (true, m1) ∧ 0 < k ∧ ∃ o, g e m1 = some o ∧ match o with
    | .nx e1 m2 => I (k - 1) e1 m2
    | .ct e1 m2 => I (k - 1) e1 m2
    | .bk e1 m2 => R (.nx e1 m2)
    | .rt d m2 => R (.rt d m2)) : ∀ (n k : Nat) (e : Sl) (m : Mem), k < n → I k e m → ∃ o, wh t g n e m = some o ∧ R o
  | 0, _, _, _, h, _ => absurd h (Nat.not_lt_zero _)
  | n + 1, k, e, m, h, hI => by
    unfold wh
    rcases hb k e m hI with ⟨m1, h1, h2⟩ | ⟨m1, h1, hk, o, h2, h3⟩
    · rw [h1]
      exact ⟨.nx e m1, rfl, h2⟩
    · rw [h1]
      show ∃ o', ((g e m1).bind _) = some o' ∧ R o'
      rw [h2]
      cases o with
      | nx e1 m2 => exact wh_ev I R hb n (k - 1) e1 m2 (by omega) h3
      | ct e1 m2 => exact wh_ev I R hb n (k - 1) e1 m2 (by omega) h3
      | bk e1 m2 => exact ⟨_, rfl, h3⟩
      | rt d m2 => exact ⟨_, rfl, h3⟩
end Mv

set_option Elab.async false
set_option linter.all false
set_option maxRecDepth 100000
set_option maxHeartbeats 4000000
/-! Mv14: lists by their places, memory behind a given one, walks with an invariant. -/
namespace Mv
open PySem PySem.Spec PyProof.Rows L2
def tab (n : Nat) (g : Nat → D) : List D := (List.range n).map g
theorem tab_len (n : Nat) (g : Nat → D) : (tab n g).length = n := by simp [tab]
theorem tab_get {n y : Nat} {g : Nat → D} (h : y < n) : (tab n g)[y]? = some (g y) := by
  unfold tab
  rw [List.getElem?_map, List.getElem?_range h]; rfl
theorem tab_at {n y : Nat} {g : Nat → D} (h : y < n) : atI (tab n g) (y : Int) = some (g y) := atI_nat (tab_get h)
theorem tab_congr {n : Nat} {g h : Nat → D} (q : ∀ y, y < n → g y = h y) : tab n g = tab n h := List.map_congr_left fun y hy => q y (List.mem_range.mp hy)
theorem tab_set {n y : Nat} {g : Nat → D} {v : D} : (tab n g).set y v = tab n fun z => if z = y then v else g z := by
  refine List.ext_getElem? fun i => ?_
  by_cases hi : i < n
  · rw [tab_get hi]
    by_cases e : y = i
    · subst e
      rw [List.getElem?_set_self (by rw [tab_len]; exact hi), if_pos rfl]
    · rw [List.getElem?_set_ne e, tab_get hi, if_neg (Ne.symm e)]
  · rw [List.getElem?_eq_none (by rw [List.length_set, tab_len]; omega), List.getElem?_eq_none (by rw [tab_len]; omega)]
theorem ixN_nat' {n j : Nat} (hj : j < n) : ixN n (j : Int) = some j := by
  unfold ixN
  rw [if_pos (by omega), if_pos (by omega)]
  simp
theorem tab_ix {n y : Nat} {g : Nat → D} (h : y < n) : ixN (tab n g).length (y : Int) = some y := by rw [tab_len]; exact ixN_nat' h
theorem tab_rep (n : Nat) (d : D) : (List.replicate n [d]).flatten = tab n fun _ => d := by
  refine List.ext_getElem? fun i => ?_
  have e : (List.replicate n [d]).flatten = List.replicate n d := by
    induction n with
    | zero => rfl
    | succ n ih => rw [List.replicate_succ, List.flatten_cons, ih]; rfl
  rw [e]
  by_cases hi : i < n
  · rw [tab_get hi, List.getElem?_replicate, if_pos hi]
  · rw [List.getElem?_eq_none (by simp; omega), List.getElem?_eq_none (by rw [tab_len]; omega)]
theorem tab_range (n : Nat) : rangeD 0 n = tab n fun y => .int (y : Nat) := by
  unfold rangeD tab
  refine List.map_congr_left fun y _ => ?_
  rw [Int.zero_add]
theorem tab_drop {n k : Nat} {g : Nat → D} (h : k < n) : (tab n g).drop k = g k :: (tab n g).drop (k + 1) := by
  rw [List.drop_eq_getElem_cons (by rw [tab_len]; exact h)]
  congr 1
  have := tab_get (g := g) h
  rw [List.getElem?_eq_getElem (by rw [tab_len]; exact h)] at this
  exact Option.some.inj this
theorem get_off (m L : Mem) (i : Nat) : (m ++ L)[m.length + i]? = L[i]? := by
  rw [List.getElem?_append_right (Nat.le_add_right _ _), Nat.add_sub_cancel_left]
theorem set_off (m L : Mem) (i : Nat) (c : Cell) : (m ++ L).set (m.length + i) c = m ++ L.set i c := by
  rw [List.set_append_right _ _ (Nat.le_add_right _ _), Nat.add_sub_cancel_left]
theorem rd_off {m L : Mem} {i : Nat} {xs : List D} (h : L[i]? = some (.lst xs)) : rd (m ++ L) (m.length + i) = some xs := by
  unfold rd
  rw [get_off, h]
theorem rd_of {m : Mem} {l : Nat} {xs : List D} (h : m[l]? = some (.lst xs)) : rd m l = some xs := by
  unfold rd
  rw [h]
open Classical in
theorem turns_evL {b : D → FS} {s : Src} (I : List D → Sl → Mem → Prop) (R : Out → Prop) (hl : ∀ xs e m, I xs e m → s.live m) (hb : ∀ x xs e m, I (x :: xs) e m → ∃ o, b x e m = some o ∧ match o with
    | .nx e1 m1 => I xs e1 m1
    | .ct e1 m1 => I xs e1 m1
    | .bk e1 m1 => R (.nx e1 m1)
    | .rt d m1 => R (.rt d m1)) (hn : ∀ e m, I [] e m → R (.nx e m)) : ∀ (xs : List D) (e : Sl) (m : Mem), I xs e m → ∃ o, turns s b xs e m = some o ∧ R o
  | [], e, m, h => ⟨.nx e m, by unfold turns; exact if_pos (hl _ _ _ h), hn e m h⟩
  | x :: xs, e, m, h => by
    obtain ⟨o, h1, h2⟩ := hb x xs e m h
    unfold turns
    rw [if_pos (hl _ _ _ h), h1]
    cases o with
    | nx e1 m1 => exact turns_evL I R hl hb hn xs e1 m1 h2
    | ct e1 m1 => exact turns_evL I R hl hb hn xs e1 m1 h2
    | bk e1 m1 => exact ⟨_, rfl, h2⟩
    | rt d m1 => exact ⟨_, rfl, h2⟩
theorem for_evL {fi : FI} {ft : FG} {g : FS} {e : Sl} {m m0 : Mem} {s : Src} (hi : fi e m0 = some (s, m)) (I : List D → Sl → Mem → Prop) (R : Out → Prop) (hl : ∀ xs e m, I xs e m → s.live m) (h0 : I s.xs e m) (hb : ∀ x xs e m, I (x :: xs) e m → ∃ o, ((ft x e m).bind fun q => g q.1 q.2) = some o ∧ match o with
    | .nx e1 m1 => I xs e1 m1
    | .ct e1 m1 => I xs e1 m1
    | .bk e1 m1 => R (.nx e1 m1)
    | .rt d m1 => R (.rt d m1)) (hn : ∀ e m, I [] e m → R (.nx e m)) : ∃ o, fsFor fi ft g e m0 = some o ∧ R o := by
  unfold fsFor
  rw [hi]
  exact turns_evL I R hl hb hn s.xs e m h0
theorem fSub_ev {fo fi : FE} {e : Sl} {m : Mem} {l : Nat} {k : Int} {xs : List D} {j : Nat} {d : D} (h1 : fo e m = some (.loc l, m)) (h2 : fi e m = some (.int k, m)) (h3 : m[l]? = some (.lst xs)) (h4 : ixN xs.length k = some j) : fSub fo fi d e m = some (e, m.set l (.lst (xs.set j d))) := by
  unfold fSub
  rw [h1, Option.bind_some]
  show (fi e m).bind _ = _
  rw [h2, Option.bind_some]
  simp only [h3, h4, Option.map_some]
/-- .. the list that stands i-th behind m -/
theorem fSub_off {fo fi : FE} {e : Sl} {m L : Mem} {i n y : Nat} {g : Nat → D} {d : D} (h1 : fo e (m ++ L) = some (.loc (m.length + i), m ++ L)) (h2 : fi e (m ++ L) = some (.int (y : Nat), m ++ L)) (h3 : L[i]? = some (.lst (tab n g))) (hy : y < n) :
    fSub fo fi d e (m ++ L) = some (e, m ++ L.set i (.lst (tab n fun z => if z = y then d else g z))) := by
  rw [fSub_ev h1 h2 (by rw [get_off, h3]) (tab_ix hy), set_off, tab_set]
theorem wh_ev0 {t : FT} {g : FS} (I : Nat → Sl → Mem → Prop) (R : Out → Prop) (hb : ∀ k e m, I k e m → (t e m = some (false, m) ∧ R (.nx e m)) ∨ (t e m = some (true, m) ∧ 0 < k ∧ ∃ o, g e m = some o ∧ match o with
    | .nx e1 m2 => I (k - 1) e1 m2
    | .ct e1 m2 => I (k - 1) e1 m2
    | .bk e1 m2 => R (.nx e1 m2)
    | .rt d m2 => R (.rt d m2))) (n k : Nat) (e : Sl) (m : Mem) (hk : k < n) (hI : I k e m) : ∃ o, wh t g n e m = some o ∧ R o :=
  wh_ev I R (fun k e m h => (hb k e m h).elim (fun q => .inl ⟨m, q⟩) fun q => .inr ⟨m, q⟩) n k e m hk hI
/-! ### moves -/
/-- the move f of n points -/
def mvD (n : Nat) (f : Nat → Nat) : D := .tup (tab n fun y => .int (f y : Nat))
structure IsM (n : Nat) (f : Nat → Nat) : Prop where
  lo : 1 ≤ n
  hi : n ≤ 60
  p : Cyc.Perm n f
/-- the list, point by point: where is it said of whom -/
def invF (f : Nat → Nat) : Nat → Nat → Nat
  | 0, _ => 0
  | k + 1, y => if y = f k then k else invF f k y
theorem invF_of {n : Nat} {f : Nat → Nat} (h : Cyc.Perm n f) : ∀ k, k ≤ n → ∀ j, j < k → invF f k (f j) = j
  | 0, _, j, hj => absurd hj (Nat.not_lt_zero _)
  | k + 1, hk, j, hj => by
    unfold invF
    by_cases e : f j = f k
    · rw [if_pos e]
      exact (h.inj j k (by omega) (by omega) e).symm
    · rw [if_neg e]
      have : j ≠ k := fun z => e (by rw [z])
      exact invF_of h k (by omega) j (by omega)
/-- a one-to-one function hits all -/
theorem surj {n : Nat} {f : Nat → Nat} (h : Cyc.Perm n f) {y : Nat} (hy : y < n) : ∃ x, x < n ∧ f x = y := by
  obtain ⟨h1, h2, _⟩ := h.per_spec hy
  refine ⟨Cyc.it f (Cyc.per f y - 1) y, h.it_lt hy _, ?_⟩
  show Cyc.it f (Cyc.per f y - 1 + 1) y = y
  rw [Nat.sub_add_cancel h1, h2]
theorem inv_perm {n : Nat} {f : Nat → Nat} (h : Cyc.Perm n f) : Cyc.Perm n (invF f n) := by
  refine ⟨fun y hy => ?_, fun x y hx hy e => ?_⟩
  · obtain ⟨x, h1, rfl⟩ := surj h hy
    rw [invF_of h n (Nat.le_refl _) x h1]; exact h1
  · obtain ⟨a, h1, rfl⟩ := surj h hx
    obtain ⟨b, h2, rfl⟩ := surj h hy
    rw [invF_of h n (Nat.le_refl _) a h1, invF_of h n (Nat.le_refl _) b h2] at e
    rw [e]
theorem pure_ints (n : Nat) (g : Nat → Int) : D.pureAll (tab n fun y => .int (g y)) = true := by
  unfold tab
  generalize List.range n = l
  induction l with
  | nil => rfl
  | cons x l ih => rw [List.map_cons, D.pureAll, D.pure, ih]; rfl
theorem pure_mvD (n : Nat) (f : Nat → Nat) : (mvD n f).pure = true := by
  unfold mvD
  rw [D.pure]
  exact pure_ints n _
end Mv

set_option Elab.async false
set_option linter.all false
set_option maxRecDepth 100000
set_option maxHeartbeats 4000000
/-! Mv15: own classes: attributes, instances made, isinstance; dicts with keys of ints and texts. -/
namespace Mv
open PySem PySem.Spec PyProof.Rows L2
open C8 (InsC pe_gc)

/-! ### what is known of the text's classes -/
/-- attributes of each class; built-in types and classes against classes, by isinstance -/
structure CEnv where
  flds : List (Str × List Str)
  isi : List (String × Str × Bool)
  isc : List (Str × Str × Bool)
structure CEnvOk (K : Fg) (ce : CEnv) : Prop where
  f : ∀ p ∈ ce.flds, ∀ C, ClsAt K p.1 C → InsC K C ∧ ∀ x ∈ p.2, NoAttr K C x
  i : ∀ p ∈ ce.isi, ∀ C, ClsAt K p.2.1 C → PySem.W.kitOne K (.type p.1) (.ref C) = some p.2.2
  c : ∀ p ∈ ce.isc, ∀ C' C, ClsAt K p.1 C' → ClsAt K p.2.1 C → PySem.W.kitOne K (.ref C') (.ref C) = some p.2.2
theorem ClsAt.inj {K : Fg} {n : Str} {C C' : Addr} (h : ClsAt K n C) (h' : ClsAt K n C') : C = C' := by
  have e : some (some (Value.ref C)) = some (some (Value.ref C')) := h.symm.trans h'
  cases e; rfl
/-- the instance that is meant -/
def objOf (m : Mem) : D → Option (Str × List Str × List D)
  | .ins n ks xs => some (n, ks, xs)
  | .loc l => match m[l]? with
    | some (.ob n ks xs) => some (n, ks, xs)
    | _ => none
  | _ => none
theorem objOf_ok {K : Fg} {r : List Addr} {H : Hp} {m : Mem} {v : V} {d : D} {n : Str} {ks : List Str} {xs : List D} (hm : MemOk K r H m) (hv : Val K r H v d) (h : objOf m d = some (n, ks, xs)) :
    ∃ a C dx vs, v = .ref a ∧ H a = some (.ins C dx (ks.zip vs)) ∧ ClsAt K n C ∧ ks.length = xs.length ∧ VAll K r H vs xs := by
  cases d with
  | ins n' ks' xs' =>
    cases h
    obtain ⟨a, C, dx, vs, h1, h2, _, h3, h4, h5⟩ := hv.insE
    exact ⟨a, C, dx, vs, h1, h2, h3, h4, h5⟩
  | loc l =>
    obtain ⟨a, rfl, ha⟩ := hv.locE
    have h' : (match m[l]? with | some (.ob n ks xs) => some (n, ks, xs) | _ => none) = some (n, ks, xs) := h
    split at h'
    · rename_i n' ks' xs' q
      cases h'
      obtain ⟨b, hb, vs, ⟨C, dx, h1, h2⟩, h3, h4⟩ := hm.cell l _ q
      rw [ha] at hb; cases hb
      exact ⟨a, C, dx, vs, rfl, h1, h2, h3, h4⟩
    · cases h'
  | _ => cases h
/-! ### o.f -/
def hasF (ce : CEnv) (n f : Str) : Bool := ce.flds.any fun p => decide (p.1 = n) && decide (f ∈ p.2)
theorem hasF_ok {K : Fg} {ce : CEnv} {n f : Str} {C : Addr} (ok : CEnvOk K ce) (h : hasF ce n f = true) (hc : ClsAt K n C) : InsC K C ∧ NoAttr K C f := by
  obtain ⟨p, hp, q⟩ := List.any_eq_true.mp h
  rw [Bool.and_eq_true, decide_eq_true_eq, decide_eq_true_eq] at q
  obtain ⟨e, hf⟩ := q
  subst e
  have z := ok.f p hp C hc
  exact ⟨z.1, z.2 f hf⟩
def lookO {α : Type} (f : Str) : List Str → List α → Option α
  | k :: ks, x :: xs => if f = k then some x else lookO f ks xs
  | _, _ => none
theorem lookO_ok {K : Fg} {r : List Addr} {H : Hp} {f : Str} {d : D} : ∀ {ks : List Str} {vs : List V} {xs : List D}, VAll K r H vs xs → lookO f ks xs = some d → ∃ v, (ks.zip vs).lookup f = some v ∧ Val K r H v d
  | [], _, _, _, h => by cases h
  | _ :: _, _, _, .nil, h => by cases h
  | k :: ks, _, _, .cons (v := v) (vs := vs) a b, h => by
    show ∃ w, ((k, v) :: ks.zip vs).lookup f = some w ∧ _
    unfold lookO at h
    rw [List.lookup_cons]
    split at h
    · rename_i e
      cases h
      have hb : (f == k) = true := beq_iff_eq.mpr e
      rw [hb]
      exact ⟨v, rfl, a⟩
    · rename_i e
      have hb : (f == k) = false := beq_eq_false_iff_ne.mpr e
      rw [hb]
      exact lookO_ok b h
def fFld (ce : CEnv) (f : Str) (fa : FE) : FE := fun e m => (fa e m).bind fun p => (objOf p.2 p.1).bind fun o => if hasF ce o.1 f = true then (lookO f o.2.1 o.2.2).map fun d => (d, p.2) else none
theorem e_fld {X : Cx} {a : Expr} {f : Str} {ta : TE} {fa : FE} {pos : Pos} {ce : CEnv} (ok : CEnvOk X.K ce) (ha : E X a ta fa) (hb : attributeBase a f X.env (eval a X.env) = eval a X.env := by rfl) : E X (.Attribute a f pos) (tFld X.K ta f) (fFld ce f fa) := ⟨pe_fld ha.pe hb, fun r σ H e m d m' hs hm hf Q go => by
  obtain ⟨⟨d1, m1⟩, h1, hf⟩ := bindE hf
  obtain ⟨⟨n, ks, xs⟩, h2, hf⟩ := bindE hf
  obtain ⟨h3, hf⟩ := iteE hf
  obtain ⟨d2, h4, hf⟩ := mapE hf
  cases hf
  refine ha.ok r σ H e m d1 m1 hs hm h1 _ fun r1 v1 H1 x1 hm1 hv1 => ?_
  obtain ⟨a, C, dx, vs, rfl, ea, hc, hl, hw⟩ := objOf_ok hm1 hv1 h2
  obtain ⟨i, na⟩ := hasF_ok ok h3 hc
  obtain ⟨v, lv, vv⟩ := lookO_ok hw h4
  exact ⟨a, C, dx, _, v, rfl, ea, i.cl, na, lv, (go.step x1).here hm1 vv⟩⟩
/-! ### o.f = e -/
def putO {α : Type} (f : Str) (d : α) : List Str → List α → List Str × List α
  | k :: ks, x :: xs => if k = f then (k :: ks, d :: xs) else (k :: (putO f d ks xs).1, x :: (putO f d ks xs).2)
  | _, _ => ([f], [d])
theorem putO_zip (f : Str) (v : V) : ∀ (ks : List Str) (vs : List V), putF f v (ks.zip vs) = (putO f v ks vs).1.zip (putO f v ks vs).2
  | [], vs => by cases vs <;> rfl
  | k :: ks, [] => rfl
  | k :: ks, x :: vs => by
    show (if k = f then (k, v) :: ks.zip vs else (k, x) :: putF f v (ks.zip vs)) = _
    unfold putO
    by_cases e : k = f
    · rw [if_pos e, if_pos e]; rfl
    · rw [if_neg e, if_neg e, putO_zip f v ks vs]; rfl
theorem putO_val {K : Fg} {r : List Addr} {H : Hp} {f : Str} {v : V} {d : D} (hv : Val K r H v d) : ∀ {ks : List Str} {vs : List V} {xs : List D}, ks.length = xs.length → VAll K r H vs xs →
    (putO f v ks vs).1 = (putO f d ks xs).1 ∧ VAll K r H (putO f v ks vs).2 (putO f d ks xs).2 ∧ (putO f d ks xs).1.length = (putO f d ks xs).2.length
  | [], _, _, hl, .nil => ⟨rfl, .cons hv .nil, rfl⟩
  | [], _, _, hl, .cons _ _ => by simp at hl
  | k :: ks, _, _, hl, .nil => by simp at hl
  | k :: ks, _, _, hl, .cons a b => by
    unfold putO
    by_cases e : k = f
    · rw [if_pos e, if_pos e]
      exact ⟨rfl, .cons hv b, by simpa using hl⟩
    · rw [if_neg e, if_neg e]
      obtain ⟨h1, h2, h3⟩ := putO_val (f := f) hv (ks := ks) (by simpa using hl) b
      exact ⟨by rw [h1], .cons a h2, by simpa using h3⟩
def fsFld (ce : CEnv) (f : Str) (fo fv : FE) : FS := fun e m => (fv e m).bind fun p => (fo e p.2).bind fun q => match q.1 with
  | .loc l => match q.2[l]? with
    | some (.ob n ks xs) => if hasF ce n f = true ∧ ks.length < 1000 then some (.nx e (q.2.set l (.ob n (putO f p.1 ks xs).1 (putO f p.1 ks xs).2))) else none
    | _ => none
  | _ => none
theorem s_fld {X : Cx} {o value : Expr} {f : Str} {to tv : TE} {fo fv : FE} {pos pos' : Pos} {ce : CEnv} (ok : CEnvOk X.K ce) (ho : E X o to fo) (hv : E X value tv fv) (hs : swapsWith value (some (.Attribute o f pos')) pos.line X.env = pure false := by rfl) :
    S X (.Assign [.Attribute o f pos'] value pos) (sFld X.K to tv f) (fsFld ce f fo fv) := ⟨ps_fld ho.pe hv.pe hs, fun r σ H e m out hs hm hf B go => by
  obtain ⟨⟨d1, m1⟩, h1, hf⟩ := bindE hf
  obtain ⟨⟨d2, m2⟩, h2, hf⟩ := bindE hf
  split at hf
  · rename_i l q0
    have q0' : d2 = .loc l := q0
    subst q0'
    split at hf
    · rename_i n ks xs q1
      obtain ⟨⟨h3, h4⟩, hf⟩ := iteE hf
      cases hf
      refine hv.ok r σ H e m d1 m1 hs hm h1 _ fun r1 v1 H1 x1 hm1 hv1 => ?_
      refine ho.ok r1 σ H1 e m1 _ m2 (hs.mono x1) hm1 h2 _ fun r2 v2 H2 x2 hm2 hv2 => ?_
      obtain ⟨a, rfl, ha⟩ := hv2.locE
      obtain ⟨b, hb, vs, ⟨C, dx, ea, hc⟩, hl, hw⟩ := hm2.cell l _ q1
      rw [ha] at hb; cases hb
      obtain ⟨i, na⟩ := hasF_ok ok h3 hc
      have hlv := hw.length
      refine ⟨a, C, dx, _, rfl, ea, i.cl, na, by rw [List.length_zip]; omega, ?_⟩
      rw [putO_zip]
      have ex : Ext r2 H2 r2 (upd H2 a (.ins C dx ((putO f v1 ks vs).1.zip (putO f v1 ks vs).2))) := Ext.write (List.mem_of_getElem? ha) fun u hfx z => by rw [ea] at z; cases z; exact hfx
      obtain ⟨p1, p2, p3⟩ := putO_val (f := f) (hv1.mono x2) hl hw
      have hm3 := hm2.writeC (c := .ob n (putO f d1 ks xs).1 (putO f d1 ks xs).2) ha ⟨_, ⟨C, dx, by rw [upd_same, p1], hc⟩, p3, p2.mono ex⟩ ex
      exact go r2 σ _ ((x1.trans x2).trans ex) (hs.mono ((x1.trans x2).trans ex)) hm3
    · cases hf
  · cases hf⟩
/-! ### C(e, ..) -/
section
variable {X : Cx} {k : Nat} {f C : Addr} {fd : FuncData} {ps : List Str} {sp : Sp} {E : XK} {x : Str} {p pos : Pos} {e : Expr} {es : List Expr} {t : TA}
theorem make_guards {A : Around} {C : Addr} {us : List Value} {kw : List (Str × Value)} (h : A.guards = some []) : (A.under (.builtin "type.__call__" ⟨.ref C :: us, kw⟩)).guards = some [] := by
  first | exact h | simpa [Around.under] using h
theorem run_makeG {pins : List (Addr × Obj)} {σ : L2.St} {H : Hp} {s : Shared} {Q : VK} {us : List Value} {vs : List V} (M : Mk X.K C f) (F : FnG X.prog X.w X.K X.mg X.base CX0 k f fd ps sp) (hr : Room (k + 1) X.A) (hG : X.A.guards = some []) (hb : Binds X.K fd ps [])
    (hx : Passes CX0 X E) (I : Inv X pins σ H s) (r : Vals vs us)
    (h : ∀ x dx, H x = none → H dx = none → dx ≠ x → sp (.ref x :: vs) (upd (upd H dx (.own x)) x (.ins C dx [])) (fun v H2 => v = .non ∧ Q (.ref x) H2) E) :
    wpAny (model X.prog X.w) X.A (call (.ref C) us) (EP X pins σ Q) X.xe s := by
  have hq := h (s.heap.objs.size + 1) s.heap.objs.size (I.hok.fresh (Nat.le_succ _)) (I.hok.fresh (Nat.le_refl _)) (Nat.ne_of_lt (Nat.lt_succ_self _))
  have I2 := Inv.made (C := C) I
  have r2 : Vals (V.ref (s.heap.objs.size + 1) :: vs) (Value.ref (s.heap.objs.size + 1) :: us) := .cons rfl r
  have hl : (Value.ref (s.heap.objs.size + 1) :: us ++ []).length = ps.length := by
    have e := r2.length
    rw [F.many _ _ _ _ hq] at e
    rw [List.append_nil]
    exact e.symm
  have hbt := hb _ (Value.ref (s.heap.objs.size + 1) :: us) I2.kIn hl
  rw [List.append_nil] at hbt
  refine wpAny_call (make_map (f := f) I.kIn M.makes M.init (beq_iff_eq.mp M.fn) (codeAny_mono (F.goes _ (hr.make C us []) (make_guards hG) X.stack _ _ (I2.env0.make C us []) ⟨Value.ref (s.heap.objs.size + 1) :: us, []⟩ (Value.ref (s.heap.objs.size + 1) :: us) hbt _ r2 _ E hq) ?_))
  intro r s' hq'
  cases r with
  | error e => exact hx pins σ _ _ e s' I2 hq'
  | ok fl =>
    cases fl with
    | ret u =>
      obtain ⟨v, H', I3, rv, ev, q3⟩ := I2.after hq'
      subst ev
      exact ⟨rv, ⟨V.ref (s.heap.objs.size + 1), H', I3, rfl, q3⟩⟩
    | next => exact False.elim hq'
    | brk => exact False.elim hq'
    | cont => exact False.elim hq'
def tMakeG (C : Addr) (sp : Sp) (E : XK) (t : TA) : TE := fun σ H Q => t σ H fun vs H1 => ∀ x dx, H1 x = none → H1 dx = none → dx ≠ x → sp (.ref x :: vs) (upd (upd H1 dx (.own x)) x (.ins C dx [])) (fun v H2 => v = .non ∧ Q (.ref x) H2) E
theorem pe_makeG (M : Mk X.K C f) (F : FnG X.prog X.w X.K X.mg X.base CX0 k f fd ps sp) (hr : Room (k + 1) X.A) (hG : X.A.guards = some []) (hg : Gl X x) (hm : X.mg x = some (.ref C)) (hb : Binds X.K fd ps []) (hx : Passes CX0 X E)
    (ha : PA X (e :: es) t) (hdb : (x == ("__debug__" : Str)) = false := by decide) (he : starEach (e :: es) X.env = (false, eval e X.env) :: starEach es X.env := by rfl) (hpl : (backTo pos (starEach es X.env)).any (·.1) = false := by rfl) :
    PE X (.Call (.Name x p) (e :: es) [] pos) (tMakeG C sp E t) := by
  refine ⟨fun pins s σ H Q I h => ?_⟩
  refine wpAny_Call_Name_kw (ld_glob I hg hm ?_ hdb)
  refine PySem.W.callWith_K (h₀ := X.base) I.ok.mod.kin M.kp (thn (ha.run pos pins s σ H _ I h) fun us s1 ⟨vs, H1, I1, r, q⟩ => ⟨I1.kIn, ?_⟩) he hpl
  exact run_makeG M F hr hG hb hx I1 r q
end
open Classical in
/-- the instance that was made: written no more where nothing in it is at a place -/
noncomputable def made (m1 m2 : Mem) : Option (D × Mem) := match m2[m1.length]? with
  | some (.ob n ks xs) => if D.lowAll 0 xs = true ∧ Kept m1 m2 (m2.take m1.length) then some (.ins n ks xs, m2.take m1.length) else some (.loc m1.length, m2)
  | _ => none
noncomputable def fMake (n : Str) (F : GN) (fa : FA) : FE := fun e m => (fa e m).bind fun p => (F (.loc p.2.length :: p.1) (p.2 ++ [.ob n [] []])).bind fun q => match q.1 with
  | .non => made p.2 q.2
  | _ => none
theorem made_ev {m1 t : Mem} {n : Str} {ks : List Str} {xs : List D} (h : D.lowAll 0 xs = true) : made m1 (m1 ++ .ob n ks xs :: t) = some (.ins n ks xs, m1) := by
  unfold made
  have e : (m1 ++ .ob n ks xs :: t)[m1.length]? = some (.ob n ks xs) := by simp
  have e2 : (m1 ++ .ob n ks xs :: t).take m1.length = m1 := by simp
  simp only [e]
  rw [e2, if_pos ⟨h, Kept.ext m1 _⟩]
/-- what is known of a class that is made -/
structure KnC (P : Program) (w : World) (K : Fg) (mg : Str → Option Value) (base : Heap) (x : Str) (k : Nat) (ps : List Str) (F : GN) : Prop where
  ex : ∃ C f fd, ClsAt K x C ∧ Mk K C f ∧ FnG P w K mg base CX0 k f fd ps (spG K F) ∧ mg x = some (.ref C) ∧ Binds K fd ps []
theorem makeOk {K : Fg} {C : Addr} {n : Str} {F : GN} {E : XK} {t : TA} {fa : FA} (hc : ClsAt K n C) (h : AOk K t fa) : EOk K (tMakeG C (spG K F) E t) (fMake n F fa) := fun r σ H e m d m' hs hm hf Q go => by
  obtain ⟨⟨ds, m1⟩, h1, hf⟩ := bindE hf
  obtain ⟨⟨d2, m2⟩, h2, hf⟩ := bindE hf
  refine h r σ H e m ds m1 hs hm h1 _ fun r1 vs H1 x1 hm1 hv1 => ?_
  intro x dx nx ndx nex
  split at hf
  · rename_i q0
    have q0' : d2 = .non := q0
    subst q0'
    have xa : Ext r1 H1 r1 (upd H1 dx (.own x)) := Ext.fresh ndx
    have hma : MemOk K r1 (upd H1 dx (.own x)) m1 := hm1.fresh ndx
    have nx' : upd H1 dx (.own x) x = none := by rw [upd_ne (Ne.symm nex)]; exact nx
    have xb : Ext r1 (upd H1 dx (.own x)) (r1 ++ [x]) (upd (upd H1 dx (.own x)) x (.ins C dx [])) := Ext.alloc nx'
    have hmb : MemOk K (r1 ++ [x]) (upd (upd H1 dx (.own x)) x (.ins C dx [])) (m1 ++ [.ob n [] []]) := hma.allocC nx' ⟨[], ⟨C, dx, upd_same, hc⟩, rfl, .nil⟩
    refine ⟨r1 ++ [x], .loc m1.length :: ds, m1 ++ [.ob n [] []], .non, m2, .cons (.loc (by rw [← hm1.len]; simp)) (hv1.mono (xa.trans xb)), hmb, h2, ?_⟩
    intro r2 v2 H2 x2 hm2 hv2
    refine ⟨hv2.nonE, ?_⟩
    obtain ⟨tt, er⟩ := x2.pre
    subst er
    have xx : Ext r H (r1 ++ [x] ++ tt) H2 := x1.trans ((xa.trans xb).trans x2)
    have hx : (r1 ++ [x] ++ tt)[m1.length]? = some x := by rw [← hm1.len]; simp
    have hf' : made m1 m2 = some (d, m') := hf
    unfold made at hf'
    split at hf'
    · rename_i nm ks xs q1
      split at hf'
      · rename_i hk
        cases hf'
        obtain ⟨b, hb, ws, ⟨C', dx', ea, hc'⟩, hl, hw⟩ := hm2.cell _ _ q1
        rw [hx] at hb; cases hb
        have hxr : x ∉ r1 := fun z => by
          obtain ⟨i, hi, ei⟩ := List.getElem_of_mem z
          have e1 : (r1 ++ [x] ++ tt)[i]? = some x := by rw [List.append_assoc, List.getElem?_append_left hi, List.getElem?_eq_getElem hi, ei]
          obtain ⟨g1, e1⟩ := List.getElem?_eq_some_iff.mp e1
          obtain ⟨g2, e2⟩ := List.getElem?_eq_some_iff.mp hx
          have := (List.getElem_inj hm2.nd).mp (e1.trans e2.symm)
          rw [hm1.len] at hi
          omega
        have hm2' : MemOk K (r1 ++ ([x] ++ tt)) H2 m2 := by rw [← List.append_assoc]; exact hm2
        have mo := hk.2.mem hm1 hm2'
        have x12 : Ext r1 H1 (r1 ++ ([x] ++ tt)) H2 := by
          rw [← List.append_assoc]
          exact (xa.trans xb).trans x2
        refine go r1 (.ref x) H2 (x1.trans x12.cutR) mo (.ins ea hxr hc' hl ?_)
        have hw' : VAll K (r1 ++ ([x] ++ tt)) H2 ws xs := by rw [← List.append_assoc]; exact hw
        exact hw'.cutR (D.lowAll0 _ _ hk.1)
      · cases hf'
        exact go _ (.ref x) H2 xx hm2 (.loc hx)
    · cases hf'
  · cases hf
end Mv

set_option Elab.async false
set_option linter.all false
set_option maxRecDepth 100000
set_option maxHeartbeats 4000000
/-! Mv16: isinstance of own classes; dicts: display, items, stores, in. -/
namespace Mv
open PySem PySem.Spec PyProof.Rows L2
open C8 (InsC pe_gc)

/-! ### isinstance(x, C) -/
theorem e_cls {X : Cx} {x : Str} {pos : Pos} {C : Addr} (hm : X.mg x = some (.ref C)) (hc : ClsAt X.K x C) (hg : Gl X x := by rfl) (hd : (x == ("__debug__" : Str)) = false := by decide) : E X (.Name x pos) (tC (.ref C)) (fC (.cls x)) :=
  ⟨pe_gc hg ⟨_, hm, rfl⟩ hd, cOk fun _ _ => .cls hc⟩
def look2 {α : Type} [DecidableEq α] (t : α) (n : Str) : List (α × Str × Bool) → Option Bool
  | [] => none
  | p :: r => if p.1 = t ∧ p.2.1 = n then some p.2.2 else look2 t n r
theorem look2_mem {α : Type} [DecidableEq α] {t : α} {n : Str} {b : Bool} : ∀ {l : List (α × Str × Bool)}, look2 t n l = some b → (t, n, b) ∈ l
  | [], h => by cases h
  | p :: r, h => by
    unfold look2 at h
    split at h
    · rename_i q
      cases h
      obtain ⟨p1, p2, p3⟩ := p
      have e1 : p1 = t := q.1
      have e2 : p2 = n := q.2
      rw [← e1, ← e2]
      exact List.mem_cons_self
    · exact List.mem_cons_of_mem _ (look2_mem h)
/-- the built-in type of a value -/
def tyNm (m : Mem) : D → Option String
  | .loc l => match m[l]? with
    | some (.lst _) => some "list"
    | some (.dK _ _) => some "dict"
    | some (.dT _ _) => some "dict"
    | _ => none
  | d => tyName d
theorem tyNm_ok {K : Fg} {r : List Addr} {H : Hp} {m : Mem} {v : V} {d : D} {t : String} (hm : MemOk K r H m) (hv : Val K r H v d) (h : tyNm m d = some t) : TyX K H v (.type t) := by
  cases hv with
  | non => cases h; exact .base .non
  | bl k => cases h; exact .base (.bl k)
  | int i => cases h; exact .base (.int i)
  | str z => cases h; exact .base (.str z)
  | ty z => cases h
  | cls z => cases h
  | ins a b c d e => cases h
  | stp a b c => cases h
  | tup ha hs => cases h; exact ha.ty
  | kl ha hs => cases h
  | @loc a l ha =>
    have h1' : (match m[l]? with | some (.lst _) => some "list" | some (.dK _ _) => some "dict" | some (.dT _ _) => some "dict" | _ => none) = some t := h
    split at h1'
    · rename_i ys q
      cases h1'
      obtain ⟨vs, q1, _⟩ := hm.lst ha q
      exact .base (.lst q1)
    · rename_i ks ys q
      cases h1'
      obtain ⟨b, hb, vs, q1, _⟩ := hm.cell l _ q
      have e : some a = some b := ha.symm.trans hb
      cases e
      exact .base (.dK q1)
    · rename_i ks ys q
      cases h1'
      obtain ⟨b, hb, vs, q1, _⟩ := hm.cell l _ q
      have e : some a = some b := ha.symm.trans hb
      cases e
      exact .base (.dT q1)
    · cases h1'
def gIsiC (ce : CEnv) : GN := fun ds m => match ds with
  | [d, .cls n] => (match objOf m d with
    | some o => if ce.flds.any (fun p => decide (p.1 = o.1)) = true then look2 o.1 n ce.isc else none
    | none => (tyNm m d).bind fun t => look2 t n ce.isi).map fun b => (.bl b, m)
  | [d, .ty n] => (tyNm m d).bind fun t => (kitB t n).map fun b => (.bl b, m)
  | _ => none
theorem gIsiC_ok {K : Fg} {ce : CEnv} (ok : CEnvOk K ce) : RNOk K (rIsi K) (gIsiC ce) := fun r H m xs ds d m' hm hx hg Q go => by
  unfold gIsiC at hg
  split at hg
  · rename_i d0 n
    obtain ⟨b, h1, hg⟩ := mapE hg
    cases hg
    obtain ⟨v, w, rfl, hv, hw⟩ := hx.two
    obtain ⟨C, rfl, hc⟩ := hw.clsE
    split at h1
    · rename_i o q
      obtain ⟨n', ks, xs⟩ := o
      obtain ⟨a, C', dx, vs, rfl, ea, hc', hl, hw'⟩ := objOf_ok hm hv q
      obtain ⟨hq, h1⟩ := iteE h1
      have hmem := look2_mem h1
      obtain ⟨p, hp, hn⟩ := List.any_eq_true.mp hq
      have hn' : p.1 = n' := of_decide_eq_true hn
      rw [← hn'] at hc' hmem
      obtain ⟨i, _⟩ := ok.f p hp C' hc'
      exact ⟨.ref a, .ref C, .ref C', .ref C, b, rfl, .own C, .base (.ins ea i.cl i.ha i.hn i.htk i.hm), ok.c _ hmem _ _ hc' hc, go.here hm (.bl _)⟩
    · obtain ⟨t, h2, h1⟩ := bindE h1
      exact ⟨v, .ref C, .type t, .ref C, b, rfl, .own C, tyNm_ok hm hv h2, ok.i _ (look2_mem h1) _ hc, go.here hm (.bl _)⟩
  · rename_i d0 n
    obtain ⟨t, h1, hg⟩ := bindE hg
    obtain ⟨b, h2, hg⟩ := mapE hg
    cases hg
    obtain ⟨v, w, rfl, hv, hw⟩ := hx.two
    have ew := hw.tyE
    subst ew
    exact ⟨v, .ty n, .type t, .type n, b, rfl, .ty n, tyNm_ok hm hv h1, kit_ty h2, go.here hm (.bl _)⟩
  · cases hg
end Mv

set_option Elab.async false
set_option linter.all false
set_option maxRecDepth 100000
set_option maxHeartbeats 4000000
/-! Mv17: dicts: items, in, stores, displays. -/
namespace Mv
open PySem PySem.Spec PyProof.Rows L2

/-! ### keys -/
def keyD : D → Option Key
  | .int i => some (.inl i)
  | .str s => some (.inr s)
  | _ => none
def keyL : List D → Option (List Key)
  | [] => some []
  | d :: ds => (keyD d).bind fun k => (keyL ds).map fun ks => k :: ks
theorem keyD_ok {K : Fg} {r : List Addr} {H : Hp} {v : V} {d : D} {k : Key} (hv : Val K r H v d) (h : keyD d = some k) : v = kV k := by
  cases d with
  | int i => cases h; rw [hv.intE]; rfl
  | str i => cases h; rw [hv.strE]; rfl
  | _ => cases h
theorem keyL_ok {K : Fg} {r : List Addr} {H : Hp} : ∀ {ds : List D} {vs : List V} {ks : List Key}, VAll K r H vs ds → keyL ds = some ks → vs = ks.map kV
  | [], _, _, .nil, h => by cases h; rfl
  | d :: ds, _, _, .cons a b, h => by
    obtain ⟨k, h1, h⟩ := bindE h
    obtain ⟨ks, h2, h⟩ := mapE h
    cases h
    rw [keyD_ok a h1, keyL_ok b h2]; rfl
section
variable {κ : Type} [DecidableEq κ]
def lookK (k : κ) : List κ → List D → Option D
  | k' :: ks, x :: xs => if k' = k then some x else lookK k ks xs
  | _, _ => none
theorem lookK_val {K : Fg} {r : List Addr} {H : Hp} {k : κ} : ∀ {ks : List κ} {vs : List V} {xs : List D}, VAll K r H vs xs →
    (∀ d, lookK k ks xs = some d → ∃ v, valV (ks.zip vs) k = some v ∧ Val K r H v d) ∧ (lookK k ks xs = none → valV (ks.zip vs) k = none)
  | [], vs, _, _ => ⟨fun d h => by simp [lookK] at h, fun _ => rfl⟩
  | k' :: ks, _, _, .nil => ⟨fun d h => by simp [lookK] at h, fun _ => rfl⟩
  | k' :: ks, _, _, .cons (v := v) (vs := vs) a b => by
    have ih := lookK_val (k := k) (ks := ks) b
    unfold lookK
    by_cases e : k' = k
    · rw [if_pos e]
      exact ⟨fun d h => by cases h; exact ⟨v, valV_pos (p := (k', v)) e, a⟩, fun h => by cases h⟩
    · rw [if_neg e]
      refine ⟨fun d h => ?_, fun h => ?_⟩
      · obtain ⟨w, h1, h2⟩ := ih.1 d h
        exact ⟨w, by rw [List.zip_cons_cons, valV_neg (p := (k', v)) e]; exact h1, h2⟩
      · rw [List.zip_cons_cons, valV_neg (p := (k', v)) e]; exact ih.2 h
theorem lookK_some {K : Fg} {r : List Addr} {H : Hp} {k : κ} {ks : List κ} {vs : List V} {xs : List D} (h : VAll K r H vs xs) : (valV (ks.zip vs) k).isSome = (lookK k ks xs).isSome := by
  have q := lookK_val (k := k) (ks := ks) h
  cases e : lookK k ks xs with
  | none => rw [q.2 e]; rfl
  | some d => obtain ⟨v, h1, _⟩ := q.1 d e; rw [h1]; rfl
/-- in its place, or at the end -/
def putD {α : Type} (k : κ) (x : α) (ks : List κ) (xs : List α) : List κ × List α := if k ∈ ks then (ks, List.zipWith (fun k' y => if k' = k then x else y) ks xs) else (ks ++ [k], xs ++ [x])
theorem any_zip {k : κ} : ∀ {ks : List κ} {vs : List V}, ks.length = vs.length → ((ks.zip vs).any fun kv => decide (kv.1 = k)) = decide (k ∈ ks)
  | [], _, _ => by simp
  | k' :: ks, [], h => by simp at h
  | k' :: ks, v :: vs, h => by
    rw [List.zip_cons_cons, List.any_cons, any_zip (ks := ks) (by simpa using h)]
    by_cases e : k' = k
    · simp [e]
    · have e2 : ¬ k = k' := fun z => e z.symm
      simp [e, e2]
theorem map_zip {k : κ} {v : V} : ∀ {ks : List κ} {vs : List V}, ((ks.zip vs).map fun kv => if kv.1 = k then (kv.1, v) else kv) = ks.zip (List.zipWith (fun k' y => if k' = k then v else y) ks vs)
  | [], _ => rfl
  | k' :: ks, [] => rfl
  | k' :: ks, w :: vs => by
    rw [List.zip_cons_cons, List.map_cons, map_zip (ks := ks), List.zipWith_cons_cons, List.zip_cons_cons]
    congr 1
    show (if k' = k then (k', v) else (k', w)) = _
    by_cases e : k' = k
    · rw [if_pos e, if_pos e]
    · rw [if_neg e, if_neg e]
theorem zipWith_val {K : Fg} {r : List Addr} {H : Hp} {k : κ} {v : V} {d : D} (hv : Val K r H v d) : ∀ {ks : List κ} {vs : List V} {xs : List D}, VAll K r H vs xs → VAll K r H (List.zipWith (fun k' y => if k' = k then v else y) ks vs) (List.zipWith (fun k' y => if k' = k then d else y) ks xs)
  | [], _, _, _ => by rw [List.zipWith_nil_left, List.zipWith_nil_left]; exact .nil
  | k' :: ks, _, _, .nil => by rw [List.zipWith_nil_right, List.zipWith_nil_right]; exact .nil
  | k' :: ks, _, _, .cons a b => by
    rw [List.zipWith_cons_cons, List.zipWith_cons_cons]
    refine .cons ?_ (zipWith_val hv b)
    by_cases e : k' = k
    · rw [if_pos e, if_pos e]; exact hv
    · rw [if_neg e, if_neg e]; exact a
theorem putD_val {K : Fg} {r : List Addr} {H : Hp} {k : κ} {v : V} {d : D} {ks : List κ} {vs : List V} {xs : List D} (hl : ks.length = xs.length) (h : VAll K r H vs xs) (hv : Val K r H v d) :
    putK (ks.zip vs) k v = (putD k d ks xs).1.zip (putD k v ks vs).2 ∧ (putD k d ks xs).1.length = (putD k d ks xs).2.length ∧ VAll K r H (putD k v ks vs).2 (putD k d ks xs).2 := by
  have hlv : ks.length = vs.length := by rw [h.length]; exact hl
  unfold putK putD
  rw [any_zip hlv]
  by_cases e : k ∈ ks
  · rw [if_pos (decide_eq_true e), if_pos e, if_pos e, map_zip]
    refine ⟨rfl, ?_, zipWith_val hv h⟩
    simp [hl]
  · rw [if_neg (by rw [decide_eq_false e]; simp), if_neg e, if_neg e]
    refine ⟨?_, by simp [hl], h.append (.cons hv .nil)⟩
    show ks.zip vs ++ [(k, v)] = (ks ++ [k]).zip (vs ++ [v])
    rw [List.zip_append hlv]; rfl
end
/-! ### d[k] -/
def ixD (m : Mem) (x y : D) : Option D := match x with
  | .loc l => match m[l]? with
    | some (.dK ks xs) => (keyD y).bind fun k => lookK k ks xs
    | some (.dT ks xs) => match y with
      | .tup ys => (keyL ys).bind fun k => lookK k ks xs
      | _ => none
    | _ => none
  | _ => none
def isDict (m : Mem) : D → Bool
  | .loc l => match m[l]? with
    | some (.dK _ _) => true
    | some (.dT _ _) => true
    | _ => false
  | _ => false
def gIxA : G2 := fun x y m => if isDict m x = true then (ixD m x y).map fun d => (d, m) else gIx x y m
/-- a dict asked: also by tuples that stand written -/
def DGetA (K : Fg) (H : Hp) (a : Addr) (y : V) (r : Option V) : Prop :=
  (∃ kvs k, H a = some (.dK kvs) ∧ y = kV k ∧ r = valV kvs k) ∨ ∃ kvs k b, H a = some (.dT kvs) ∧ y = .ref b ∧ SqT K H b (k.map kV) ∧ r = valV kvs k
section
variable {X : Cx} {pins : List (Addr × Obj)} {σ : L2.St} {H : Hp} {s : Shared} {a : Addr} {y v : V} {u r : Value} {o : Option V} {A : Around} {E : Value → Shared → Prop}
theorem key_ofT {b : Addr} {k : List Key} (I : Inv X pins σ H s) (h : SqT X.K H b (k.map kV)) : (tupleKind (mixKind X.prog X.w)).is s.heap k b := by
  obtain ⟨its, r, pl, hz⟩ := I.tuple h
  obtain ⟨o, h1, h2, n, h3⟩ := pl
  exact ⟨o, its.toArray, n, h1, h2, h3, by simpa using items_are r⟩
theorem d_getItemA {Q : Value → Shared → Prop} (hu : A.units + 1 < cLine) (I : Inv X pins σ H s) (g : DGetA X.K H a y (some v)) (ry : RelV y u) (h : ∀ w' s', Inv X pins σ H s' → RelV v w' → Q w' s') :
    wpAny (model X.prog X.w) A (getItem (.ref a) u) Q E s := by
  rcases g with ⟨kvs, k, e, ey, l⟩ | ⟨kvs, k, b, e, ey, eb, l⟩
  · exact d_getItem hu I (.inl ⟨kvs, k, .inl e, ey, l⟩) ry h
  · subst ey
    cases (show u = Value.ref b from ry)
    obtain ⟨z, hd, xs, rel, dd⟩ := dt_of I.hok e
    obtain ⟨w', hw, rw'⟩ := RelO.some_of (v := v) (o := (atKey xs k).map (·.2)) (by rw [l]; exact rel.val k)
    obtain ⟨p, hp, hp2⟩ := Option.map_eq_some_iff.mp hw
    refine wpAny_getItem_heap (tupleKind_room_in1 hu) (key_ofT I eb) dd hp ?_
    rw [hp2]
    exact h w' _ (I.tok _) rw'
theorem dictA_typeIs (I : Inv X pins σ H s) (g : DGetA X.K H a y o) : s.TypeIs (.ref a) "dict" := by
  rcases g with ⟨kvs, k, e, _, _⟩ | ⟨kvs, k, b, e, _, _, _⟩
  · obtain ⟨_, _, vs, _, dd⟩ := dk_of I.hok e
    exact dd.typeIs
  · obtain ⟨_, _, xs, _, dd⟩ := dt_of I.hok e
    exact dd.typeIs
theorem d_inA {Q : Value → Shared → Prop} (hu : A.units + 1 < cLine) (I : Inv X pins σ H s) (g : DGetA X.K H a y o) (ry : RelV y u) (h : ∀ s', Inv X pins σ H s' → Q (.bool o.isSome) s') :
    wpAny (model X.prog X.w) A (compareOp .In u (.ref a)) Q E s := by
  rcases g with ⟨kvs, k, e, ey, l⟩ | ⟨kvs, k, b, e, ey, eb, l⟩
  · exact d_in hu I (.inl ⟨kvs, k, .inl e, ey, l⟩) ry h
  · subst ey
    cases (show u = Value.ref b from ry)
    obtain ⟨z, hd, xs, rel, dd⟩ := dt_of I.hok e
    refine wpAny_in_heap (tupleKind_room_in1 hu) (key_ofT I eb) hd dd ?_
    have q := (rel.val k).isSome_eq
    rw [Option.isSome_map] at q
    rw [← q, ← l]
    exact h _ (I.tok _)
theorem d_notInA {Q : Value → Shared → Prop} (hu : A.units + 1 < cLine) (I : Inv X pins σ H s) (g : DGetA X.K H a y o) (ry : RelV y u) (h : ∀ s', Inv X pins σ H s' → Q (.bool (!o.isSome)) s') :
    wpAny (model X.prog X.w) A (compareOp .NotIn u (.ref a)) Q E s := by
  rcases g with ⟨kvs, k, e, ey, l⟩ | ⟨kvs, k, b, e, ey, eb, l⟩
  · exact d_notIn hu I (.inl ⟨kvs, k, .inl e, ey, l⟩) ry h
  · subst ey
    cases (show u = Value.ref b from ry)
    obtain ⟨z, hd, xs, rel, dd⟩ := dt_of I.hok e
    refine wpAny_notIn_heap (tupleKind_room_in1 hu) (key_ofT I eb) hd dd ?_
    have q := (rel.val k).isSome_eq
    rw [Option.isSome_map] at q
    rw [← q, ← l]
    exact h _ (I.tok _)
end
def rIxD (K : Fg) : R2 := fun x y H Q => ∃ a v, x = .ref a ∧ DGetA K H a y (some v) ∧ Q v H
theorem ix_dict {X : Cx} (hu : X.A.units + 1 < cLine) : IxR X (rIxD X.K) := by
  intro value slice pins s σ H x y v u Q I rx ry h hs
  obtain ⟨a, w, rfl, g, q⟩ := h
  cases (show v = Value.ref a from rx)
  have hT := dictA_typeIs I g
  unfold subscriptTail
  refine wpAny_bind ?_
  rw [getitemInPython_of_ne hT.not_modules]
  refine wpAny_bind (wpAny_specialOf hT PySem.F.slot_dict_getitem.lookup ?_)
  have fin : wpAny (model X.prog X.w) X.A (subscripted slice false (.ref a) u) (fun r s₃ => wpAny (model X.prog X.w) X.A (letTemporaryGo value (.ref a) r >>= fun _ => pure r) (EP X pins σ Q) X.xe s₃) X.xe s := by
    rw [hs]
    exact wpAny_operating (d_getItemA hu I g ry fun w' s' I' rw' => wpAny_bind (wpAny_letTemporaryGo (wpAny_pure ⟨w, H, I', rw', q⟩)))
  first
    | exact wpAny_pure (wpAny_bind fin)
    | exact wpAny_bind (wpAny_pure (wpAny_bind fin))
    | exact wpAny_bind fin
/-- what a dict at a place tells -/
theorem ixD_ok {K : Fg} {r : List Addr} {H : Hp} {m : Mem} {x y : V} {dx dy : D} (hm : MemOk K r H m) (hx : Val K r H x dx) (hy : Val K r H y dy) (hd : isDict m dx = true) : ∃ a, x = .ref a ∧
    (∀ d, ixD m dx dy = some d → ∃ v, DGetA K H a y (some v) ∧ Val K r H v d) := by
  cases dx with
  | loc l =>
    obtain ⟨a, rfl, ha⟩ := hx.locE
    refine ⟨a, rfl, fun d h => ?_⟩
    have h' := h
    dsimp only [ixD] at h'
    split at h'
    · rename_i ks xs q
      obtain ⟨k, h1, h2⟩ := bindE h'
      obtain ⟨b, hb, vs, ea, hl, hw⟩ := hm.cell l _ q
      rw [ha] at hb; cases hb
      obtain ⟨v, h3, h4⟩ := (lookK_val (k := k) (ks := ks) hw).1 d h2
      exact ⟨v, .inl ⟨_, k, ea, keyD_ok hy h1, h3.symm⟩, h4⟩
    · rename_i ks xs q
      split at h'
      · rename_i ys _
        obtain ⟨k, h1, h2⟩ := bindE h'
        obtain ⟨b, hb, vs, ea, hl, hw⟩ := hm.cell l _ q
        rw [ha] at hb; cases hb
        obtain ⟨t, ts, rfl, ht, hts⟩ := hy.tupE
        obtain ⟨v, h3, h4⟩ := (lookK_val (k := k) (ks := ks) hw).1 d h2
        have e := keyL_ok hts h1
        subst e
        exact ⟨v, .inr ⟨_, k, t, ea, rfl, ht.sq, h3.symm⟩, h4⟩
      · cases h'
    · cases h'
  | _ => cases hd
theorem gIxA_ok {K : Fg} : R2Ok K (fun x y H Q => rIx K x y H Q ∨ rIxD K x y H Q) gIxA := fun r H m x y dx dy d m' hm hx hy hg Q go => by
  unfold gIxA at hg
  split at hg
  · rename_i hd
    obtain ⟨d0, h1, hg⟩ := mapE hg
    cases hg
    obtain ⟨a, rfl, q⟩ := ixD_ok hm hx hy hd
    obtain ⟨v, g, hv⟩ := q _ h1
    exact .inr ⟨a, v, rfl, g, go.here hm hv⟩
  · exact .inl (gIx_ok r H m x y dx dy d m' hm hx hy hg Q go)
theorem e_ixA {X : Cx} {a b : Expr} {ta tb : TE} {fa fb : FE} {pos : Pos} (hu : X.A.units + 1 < cLine) (ha : E X a ta fa) (hb : E X b tb fb) (hs : PlainIx b := by intro _ _; rfl) : E X (.Subscript a b pos) (tOp (fun x y H Q => rIx X.K x y H Q ∨ rIxD X.K x y H Q) ta tb) (fOp gIxA fa fb) :=
  ⟨pe_ix (ix_seq.or (ix_dict hu)) ha.pe hb.pe hs, opOk gIxA_ok ha.ok hb.ok⟩
/-! ### x in y -/
def toV : D → Option V
  | .non => some .non | .bl b => some (.bl b) | .int i => some (.int i) | .str s => some (.str s) | _ => none
def toVs : List D → Option (List V)
  | [] => some []
  | d :: ds => (toV d).bind fun v => (toVs ds).map fun vs => v :: vs
theorem toV_ok {K : Fg} {r : List Addr} {H : Hp} {v w : V} {d : D} (hv : Val K r H v d) (h : toV d = some w) : v = w ∧ flatV v = true := by
  cases d with
  | non => cases h; rw [hv.nonE]; exact ⟨rfl, rfl⟩
  | bl b => cases h; rw [hv.blE]; exact ⟨rfl, rfl⟩
  | int i => cases h; rw [hv.intE]; exact ⟨rfl, rfl⟩
  | str i => cases h; rw [hv.strE]; exact ⟨rfl, rfl⟩
  | _ => cases h
theorem toVs_ok {K : Fg} {r : List Addr} {H : Hp} : ∀ {ds : List D} {vs ws : List V}, VAll K r H vs ds → toVs ds = some ws → vs = ws ∧ vs.all flatV = true
  | [], _, _, .nil, h => by cases h; exact ⟨rfl, rfl⟩
  | d :: ds, _, _, .cons a b, h => by
    obtain ⟨w, h1, h⟩ := bindE h
    obtain ⟨ws, h2, h⟩ := mapE h
    cases h
    obtain ⟨e1, f1⟩ := toV_ok a h1
    obtain ⟨e2, f2⟩ := toVs_ok b h2
    exact ⟨by rw [e1, e2], by rw [List.all_cons, f1, f2]; rfl⟩
/-- whether x is in y -/
def inD (m : Mem) (x y : D) : Option Bool := match y with
  | .tup ys => (toV x).bind fun v => (toVs ys).map fun vs => inV v vs
  | .kl ys => (toV x).bind fun v => (toVs ys).map fun vs => inV v vs
  | .str z => match x with
    | .str w => match w.cps.toList with
      | [c] => some (decide (c ∈ z.cps.toList))
      | _ => none
    | _ => none
  | .loc l => match m[l]? with
    | some (.lst ys) => (toV x).bind fun v => (toVs ys).map fun vs => inV v vs
    | some (.dK ks xs) => (keyD x).map fun k => (lookK k ks xs).isSome
    | some (.dT ks xs) => match x with
      | .tup ys => (keyL ys).map fun k => (lookK k ks xs).isSome
      | _ => none
    | _ => none
  | _ => none
def rInDict (K : Fg) (neg : Bool) : R2 := fun y x H Q => ∃ a o, x = .ref a ∧ DGetA K H a y o ∧ Q (.bl (if neg then !o.isSome else o.isSome)) H
def rInSgn (neg : Bool) : R2 := fun x y H Q => ∃ (c : Nat) (z : Str), x = .str ⟨#[c]⟩ ∧ y = .str z ∧ Q (.bl (if neg then !decide (c ∈ z.cps.toList) else decide (c ∈ z.cps.toList))) H
def rInA (K : Fg) (neg : Bool) : R2 := fun x y H Q => rIn K neg x y H Q ∨ rInDict K neg x y H Q ∨ rInSgn neg x y H Q
theorem op_inA {X : Cx} (hu : X.A.units + 1 < cLine) : OpR X (compareOp .In) (rInA X.K false) := by
  refine op_in_seq.or (OpR.or ?_ ?_)
  · intro pins s σ H x y v u Q I rx ry h
    obtain ⟨a, o, rfl, g, q⟩ := h
    cases (show u = Value.ref a from ry)
    exact d_inA hu I g rx fun s' I' => ⟨.bl o.isSome, H, I', rfl, q⟩
  · exact op_in_sign
theorem op_notInA {X : Cx} (hu : X.A.units + 1 < cLine) : OpR X (compareOp .NotIn) (rInA X.K true) := by
  refine op_notIn_seq.or (OpR.or ?_ ?_)
  · intro pins s σ H x y v u Q I rx ry h
    obtain ⟨a, o, rfl, g, q⟩ := h
    cases (show u = Value.ref a from ry)
    exact d_notInA hu I g rx fun s' I' => ⟨.bl (!o.isSome), H, I', rfl, q⟩
  · exact op_notIn_sign
def gIn (neg : Bool) : G2 := fun x y m => (inD m x y).map fun b => (.bl (if neg then !b else b), m)
theorem gIn_ok {K : Fg} {neg : Bool} : R2Ok K (rInA K neg) (gIn neg) := fun r H m x y dx dy d m' hm hx hy hg Q go => by
  obtain ⟨b, h, hg⟩ := mapE hg
  cases hg
  unfold inD at h
  split at h
  · rename_i ys
    obtain ⟨v, h1, h⟩ := bindE h
    obtain ⟨vs, h2, h⟩ := mapE h
    cases h
    obtain ⟨a, ws, rfl, ha, hw⟩ := hy.tupE
    obtain ⟨e1, f1⟩ := toV_ok hx h1
    obtain ⟨e2, f2⟩ := toVs_ok hw h2
    subst e1; subst e2
    exact .inl ⟨a, ws, rfl, .inr ha.sq, f1, f2, go.here hm (.bl _)⟩
  · rename_i ys
    obtain ⟨v, h1, h⟩ := bindE h
    obtain ⟨vs, h2, h⟩ := mapE h
    cases h
    obtain ⟨a, ws, rfl, ha, hw⟩ := hy.klE
    obtain ⟨e1, f1⟩ := toV_ok hx h1
    obtain ⟨e2, f2⟩ := toVs_ok hw h2
    subst e1; subst e2
    exact .inl ⟨a, ws, rfl, .inl ha.sq, f1, f2, go.here hm (.bl _)⟩
  · rename_i z
    split at h
    · rename_i w
      split at h
      · rename_i c hc
        cases h
        have e : w = ⟨#[c]⟩ := by
          cases w with
          | mk a =>
            have : a.toList = [c] := hc
            congr 1
            exact Array.toList_inj.mp (by rw [this])
        rw [hy.strE, hx.strE, e]
        exact .inr (.inr ⟨c, z, rfl, rfl, go.here hm (.bl _)⟩)
      · cases h
    · cases h
  · rename_i l
    obtain ⟨a, rfl, ha⟩ := hy.locE
    split at h
    · rename_i ys q
      obtain ⟨v, h1, h⟩ := bindE h
      obtain ⟨vs, h2, h⟩ := mapE h
      cases h
      obtain ⟨ws, ea, hw⟩ := hm.lst ha q
      obtain ⟨e1, f1⟩ := toV_ok hx h1
      obtain ⟨e2, f2⟩ := toVs_ok hw h2
      subst e1; subst e2
      exact .inl ⟨a, ws, rfl, .inl (.of ea), f1, f2, go.here hm (.bl _)⟩
    · rename_i ks xs q
      obtain ⟨k, h1, h⟩ := mapE h
      cases h
      obtain ⟨b, hb, vs, ea, hl, hw⟩ := hm.cell l _ q
      rw [ha] at hb; cases hb
      refine .inr (.inl ⟨a, valV (ks.zip vs) k, rfl, .inl ⟨_, k, ea, keyD_ok hx h1, rfl⟩, ?_⟩)
      rw [lookK_some hw]
      exact go.here hm (.bl _)
    · rename_i ks xs q
      split at h
      · rename_i ys
        obtain ⟨k, h1, h⟩ := mapE h
        cases h
        obtain ⟨b, hb, vs, ea, hl, hw⟩ := hm.cell l _ q
        rw [ha] at hb; cases hb
        obtain ⟨t, ts, rfl, ht, hts⟩ := hx.tupE
        have e := keyL_ok hts h1
        subst e
        refine .inr (.inl ⟨a, valV (ks.zip vs) k, rfl, .inr ⟨_, k, t, ea, rfl, ht.sq, rfl⟩, ?_⟩)
        rw [lookK_some hw]
        exact go.here hm (.bl _)
      · cases h
    · cases h
  · cases h
theorem cm_in {X : Cx} (hu : X.A.units + 1 < cLine) : Cm X .In (rInA X.K false) (gIn false) := ⟨op_inA hu, gIn_ok⟩
theorem cm_notin {X : Cx} (hu : X.A.units + 1 < cLine) : Cm X .NotIn (rInA X.K true) (gIn true) := ⟨op_notInA hu, gIn_ok⟩
end Mv

set_option Elab.async false
set_option linter.all false
set_option maxRecDepth 100000
set_option maxHeartbeats 4000000
/-! Mv18: stores into dicts; dict displays; set(texts). -/
namespace Mv
open PySem PySem.Spec PyProof.Rows L2

/-! ### d[k] = v -/
def rPutD (K : Fg) : TSet := fun o i v H Q => (∃ (a : Addr) (ks : List Key) (vs : List V) (k : Key), o = .ref a ∧ i = kV k ∧ H a = some (.dK (ks.zip vs)) ∧ (ks.zip vs).length < sizeLine ∧ Q (upd H a (.dK (putK (ks.zip vs) k v)))) ∨
  ∃ (a : Addr) (ks : List (List Key)) (vs : List V) (k : List Key) (b : Addr), o = .ref a ∧ i = .ref b ∧ H b = some (.tup (k.map kV)) ∧ H a = some (.dT (ks.zip vs)) ∧ (ks.zip vs).length < sizeLine ∧ Q (upd H a (.dT (putK (ks.zip vs) k v)))
theorem set_dictA {X : Cx} (hu : X.A.units + 1 < cLine) : PSet X (fun o i v H Q => rSetL o i v H Q ∨ rPutD X.K o i v H Q) := by
  intro pins s σ H o i v ov iv u Q I ro ri rv h
  rcases h with h | ⟨a, ks, vs, k, eo, ei, ea, hl, q⟩ | ⟨a, ks, vs, k, b, eo, ei, eb, ea, hl, q⟩
  · exact set_list pins s σ H o i v ov iv u Q I ro ri rv h
  · subst eo; subst ei
    exact set_dict hu pins s σ H _ _ v ov iv u Q I ro ri rv ⟨a, _, rfl, .inl ⟨_, k, ea, rfl, hl, rfl⟩, q⟩
  · subst eo; subst ei
    exact set_dict hu pins s σ H _ _ v ov iv u Q I ro ri rv ⟨a, _, rfl, .inr ⟨_, k, b, ea, rfl, eb, hl, rfl⟩, q⟩
/-- a tuple that was laid, not written -/
def fSubA (fo fi : FE) : FG := fun d e m => (fo e m).bind fun p => (fi e p.2).bind fun q => match p.1 with
  | .loc l => match q.2[l]? with
    | some (.lst xs) => match q.1 with
      | .int k => (ixN xs.length k).map fun j => (e, q.2.set l (.lst (xs.set j d)))
      | _ => none
    | some (.dK ks xs) => (keyD q.1).bind fun k => if xs.length < 100000 then some (e, q.2.set l (.dK (putD k d ks xs).1 (putD k d ks xs).2)) else none
    | _ => none
  | _ => none
theorem MemOk.dK {K : Fg} {r : List Addr} {H : Hp} {m : Mem} {l : Nat} {a : Addr} {ks : List Key} {xs : List D} (hm : MemOk K r H m) (ha : r[l]? = some a) (q : m[l]? = some (.dK ks xs)) : ∃ vs, H a = some (.dK (ks.zip vs)) ∧ ks.length = xs.length ∧ VAll K r H vs xs := by
  obtain ⟨b, hb, vs, ea, hl, hw⟩ := hm.cell l _ q
  rw [ha] at hb; cases hb
  exact ⟨vs, ea, hl, hw⟩
theorem g_subA {X : Cx} {o i : Expr} {to ti : TE} {fo fi : FE} {pos : Pos} (hu : X.A.units + 1 < cLine) (ho : E X o to fo) (hi : E X i ti fi)
    (ha : ∀ v, assign (.Subscript o i pos) X.env v = (do
      let ov ← holding [v] (eval o X.env)
      let iv ← holding [v, ov] (eval i X.env)
      standAt pos
      holding [v, ov, iv] (setItem ov iv v)
      release [v, ov, iv] []) := by intro _; rfl) : G X (.Subscript o i pos) (L2.gSub to ti (fun o i v H Q => rSetL o i v H Q ∨ rPutD X.K o i v H Q)) (fSubA fo fi) [] := ⟨pg_sub ho.pe hi.pe (set_dictA hu) ha, fun r σ H e m v d e1 m1 hs hm hv hf Q g => by
  obtain ⟨⟨d1, m2⟩, q1, hf⟩ := bindE hf
  obtain ⟨⟨d2, m3⟩, q2, hf⟩ := bindE hf
  dsimp only at hf q2
  cases d1 with
  | loc l =>
    dsimp only at hf
    refine ho.ok r σ H e m _ _ hs hm q1 _ fun r1 v1 H1 x1 hm1 hv1 => ?_
    refine hi.ok r1 σ H1 e _ _ _ (hs.mono x1) hm1 q2 _ fun r2 v2 H2 x2 hm2 hv2 => ?_
    obtain ⟨a, e1', ha⟩ := (hv1.mono x2).locE
    have x12 := x1.trans x2
    split at hf
    · rename_i xs z3
      cases d2 with
      | int k =>
        dsimp only at hf
        obtain ⟨j, h4, hf⟩ := mapE hf
        cases hf
        obtain ⟨vs, w1, w2⟩ := hm2.lst ha z3
        have ew : Ext r2 H2 r2 (upd H2 a (.lst (vs.set j v))) := Ext.write (List.mem_of_getElem? ha) fun u hf z => by rw [w1] at z; cases z; exact hf
        refine .inl ⟨a, vs, k, j, e1', hv2.intE, w1, by rw [w2.length]; exact h4, ?_⟩
        exact g r2 σ _ (x12.trans ew) (hs.mono (x12.trans ew)) (hm2.write ha w1 (w2.set j (hv.mono x12))) (fun _ _ => rfl) rfl
      | _ => cases hf
    · rename_i ks xs z3
      obtain ⟨k, h4, hf⟩ := bindE hf
      obtain ⟨h5, hf⟩ := iteE hf
      cases hf
      obtain ⟨vs, w1, w2, w3⟩ := hm2.dK ha z3
      obtain ⟨p1, p2, p3⟩ := putD_val (k := k) w2 w3 (hv.mono x12)
      have ew : Ext r2 H2 r2 (upd H2 a (.dK (putK (ks.zip vs) k v))) := Ext.write (List.mem_of_getElem? ha) fun u hf z => by rw [w1] at z; cases z; exact hf
      refine .inr (.inl ⟨a, ks, vs, k, e1', keyD_ok hv2 h4, w1, ?_, ?_⟩)
      · rw [List.length_zip, w3.length, w2, Nat.min_self]
        exact ltLine h5
      · exact g r2 σ _ (x12.trans ew) (hs.mono (x12.trans ew)) (hm2.writeC ha ⟨_, by rw [upd_same, p1], p2, p3.mono ew⟩ ew) (fun _ _ => rfl) rfl
    · cases hf
  | _ => cases hf⟩
/-! ### {k: v, ..} -/
abbrev FP := Sl → Mem → Option (List (Key × D) × Mem)
def PsOk (K : Fg) (trs : List (TE × TE)) (f : FP) : Prop := ∀ r σ H e m ps m', SlOk K r H σ e → MemOk K r H m → f e m = some (ps, m') →
  ∀ Q : List (V × V) → Hp → Prop, (∀ r' H' (kvs : List (Key × V)), Ext r H r' H' → MemOk K r' H' m' → kvs.map (·.1) = ps.map (·.1) → VAll K r' H' (kvs.map (·.2)) (ps.map (·.2)) → Q (kvs.map fun kv => (kV kv.1, kv.2)) H') → tPairs trs σ H Q
structure Ps (X : Cx) (pos : Pos) (keys : List (Option Expr)) (values : List Expr) (trs : List (TE × TE)) (f : FP) : Prop where
  pe : PPs X pos keys values trs
  ok : PsOk X.K trs f
def fpNil : FP := fun _ m => some ([], m)
def fpCons (fk fv : FE) (fr : FP) : FP := fun e m => (fk e m).bind fun p => (keyD p.1).bind fun k => (fv e p.2).bind fun q => (fr e q.2).map fun u => ((k, q.1) :: u.1, u.2)
theorem ps_nil {X : Cx} {pos : Pos} : Ps X pos [] [] [] fpNil := ⟨pps_nil, fun r σ H e m ps m' hs hm hf Q g => by
  cases hf
  exact g r H [] Ext.refl hm rfl .nil⟩
theorem ps_cons {X : Cx} {pos : Pos} {k v : Expr} {ks : List (Option Expr)} {vs : List Expr} {tk tv : TE} {trs : List (TE × TE)} {fk fv : FE} {fr : FP} (hk : E X k tk fk) (hv : E X v tv fv) (hr : Ps X pos ks vs trs fr) : Ps X pos (some k :: ks) (v :: vs) ((tk, tv) :: trs) (fpCons fk fv fr) := ⟨pps_cons hk.pe hv.pe hr.pe, fun r σ H e m ps m' hs hm hf Q g => by
  obtain ⟨⟨d1, m1⟩, h1, hf⟩ := bindE hf
  obtain ⟨kk, h2, hf⟩ := bindE hf
  obtain ⟨⟨d3, m3⟩, h3, hf⟩ := bindE hf
  obtain ⟨⟨ps4, m4⟩, h4, hf⟩ := mapE hf
  cases hf
  refine hk.ok r σ H e m d1 m1 hs hm h1 _ fun r1 v1 H1 x1 hm1 hv1 => ?_
  refine hv.ok r1 σ H1 e m1 d3 m3 (hs.mono x1) hm1 h3 _ fun r2 v2 H2 x2 hm2 hv2 => ?_
  refine hr.ok r2 σ H2 e m3 ps4 m4 ((hs.mono x1).mono x2) hm2 h4 _ fun r3 H3 kvs x3 hm3 ek hvs => ?_
  have q := g r3 H3 ((kk, v2) :: kvs) ((x1.trans x2).trans x3) hm3 (by simp [ek]) (.cons (hv2.mono x3) hvs)
  rw [keyD_ok hv1 h2]
  exact q⟩
def mergeD (ps : List (Key × D)) : List Key × List D := ps.foldl (fun acc kv => putD kv.1 kv.2 acc.1 acc.2) ([], [])
theorem mergeD_val {K : Fg} {r : List Addr} {H : Hp} : ∀ {ps : List (Key × D)} {kvs : List (Key × V)} {ks : List Key} {vs : List V} {xs : List D}, kvs.map (·.1) = ps.map (·.1) → VAll K r H (kvs.map (·.2)) (ps.map (·.2)) → ks.length = xs.length → VAll K r H vs xs →
    ∃ us, mergeK (ks.zip vs) kvs = (ps.foldl (fun acc kv => putD kv.1 kv.2 acc.1 acc.2) (ks, xs)).1.zip us ∧ (ps.foldl (fun acc kv => putD kv.1 kv.2 acc.1 acc.2) (ks, xs)).1.length = (ps.foldl (fun acc kv => putD kv.1 kv.2 acc.1 acc.2) (ks, xs)).2.length ∧ VAll K r H us (ps.foldl (fun acc kv => putD kv.1 kv.2 acc.1 acc.2) (ks, xs)).2
  | [], [], ks, vs, xs, _, _, hl, hv => ⟨vs, rfl, hl, hv⟩
  | [], _ :: _, _, _, _, h, _, _, _ => by cases h
  | _ :: _, [], _, _, _, h, _, _, _ => by cases h
  | (k, d) :: ps, (k', v) :: kvs, ks, vs, xs, h, hvs, hl, hv => by
    rw [List.map_cons, List.map_cons] at h hvs
    have e1 : k' = k := (List.cons.inj h).1
    subst e1
    cases hvs with
    | cons a b =>
      obtain ⟨p1, p2, p3⟩ := putD_val (k := k') hl hv a
      obtain ⟨us, q1, q2, q3⟩ := mergeD_val (ps := ps) (kvs := kvs) (ks := (putD k' d ks xs).1) (vs := (putD k' v ks vs).2) (xs := (putD k' d ks xs).2) (List.cons.inj h).2 b p2 p3
      refine ⟨us, ?_, q2, q3⟩
      have p1' : putK (ks.zip vs) k' v = (putD k' d ks xs).1.zip (putD k' v ks vs).2 := p1
      show mergeK (putK (ks.zip vs) k' v) kvs = _
      rw [p1']
      exact q1
def fDisp (f : FP) : FE := fun e m => (f e m).bind fun p => if p.1.length ≤ 15 then some (.loc p.2.length, p.2 ++ [.dK (mergeD p.1).1 (mergeD p.1).2]) else none
/-- an object at no place is changed -/
theorem StayI.off {r : List Addr} {H : Hp} {p : Addr} {u o : HO} (hp : H p = some u) (hi : ∀ C dx fs, u ≠ .ins C dx fs) : StayI r H r (upd H p o) := fun b C dx fs q hn => ⟨by
  have z : b ≠ p := fun z => by rw [z, hp] at q; cases q; exact hi _ _ _ rfl
  rw [upd_ne z]; exact q, hn⟩
theorem VAll.offG {K : Fg} {r : List Addr} {H : Hp} {p : Addr} {u o : HO} (hp : H p = some u) (hf : ¬ Fixed u) (hi : ∀ C dx fs, u ≠ .ins C dx fs) {vs : List V} {ds : List D} (h : VAll K r H vs ds) : VAll K r (upd H p o) vs ds :=
  h.mo ⟨[], by simp⟩ (fun b w hw q => by
    have z : b ≠ p := fun z => by rw [z, hp] at q; cases q; exact hf hw
    rw [upd_ne z]; exact q) (StayI.off hp hi)
theorem MemOk.offG {K : Fg} {r : List Addr} {H : Hp} {m : Mem} {p : Addr} {u o : HO} (h : MemOk K r H m) (hr : p ∉ r) (hp : H p = some u) (hf : ¬ Fixed u) (hi : ∀ C dx fs, u ≠ .ins C dx fs) : MemOk K r (upd H p o) m := by
  refine ⟨h.len, h.nd, fun l c q => ?_⟩
  obtain ⟨a, ha, hc⟩ := h.cell l c q
  have hap : a ≠ p := fun z => hr (by rw [← z]; exact List.mem_of_getElem? ha)
  refine ⟨a, ha, ?_⟩
  cases c with
  | lst xs =>
    obtain ⟨vs, e, w⟩ := hc
    exact ⟨vs, by rw [upd_ne hap]; exact e, w.offG hp hf hi⟩
  | dK ks xs =>
    obtain ⟨vs, e, n, w⟩ := hc
    exact ⟨vs, by rw [upd_ne hap]; exact e, n, w.offG hp hf hi⟩
  | dT ks xs =>
    obtain ⟨vs, e, n, w⟩ := hc
    exact ⟨vs, by rw [upd_ne hap]; exact e, n, w.offG hp hf hi⟩
  | ob nm ks xs =>
    obtain ⟨vs, ⟨C, dx, e, z⟩, n, w⟩ := hc
    exact ⟨vs, ⟨C, dx, by rw [upd_ne hap]; exact e, z⟩, n, w.offG hp hf hi⟩
/-- what was at no place comes to a place -/
theorem MemOk.adoptC {K : Fg} {r : List Addr} {H : Hp} {m : Mem} {p : Addr} {c : Cell} (h : MemOk K r H m) (hp : p ∉ r) (st : StayI r H (r ++ [p]) H) (w : CellOk K r H p c) : MemOk K (r ++ [p]) H (m ++ [c]) := by
  have up : ∀ {a : Addr} {c : Cell}, CellOk K r H a c → CellOk K (r ++ [p]) H a c := fun {a c} hc => by
    cases c with
    | lst xs => obtain ⟨vs, q, w⟩ := hc; exact ⟨vs, q, w.mo ⟨[p], rfl⟩ (fun _ _ _ q => q) st⟩
    | dK ks xs => obtain ⟨vs, q, n, w⟩ := hc; exact ⟨vs, q, n, w.mo ⟨[p], rfl⟩ (fun _ _ _ q => q) st⟩
    | dT ks xs => obtain ⟨vs, q, n, w⟩ := hc; exact ⟨vs, q, n, w.mo ⟨[p], rfl⟩ (fun _ _ _ q => q) st⟩
    | ob nm ks xs => obtain ⟨vs, q, n, w⟩ := hc; exact ⟨vs, q, n, w.mo ⟨[p], rfl⟩ (fun _ _ _ q => q) st⟩
  refine ⟨by simp [h.len], ?_, fun l c' q => ?_⟩
  · rw [List.nodup_append]
    exact ⟨h.nd, by simp, fun a ha b hb z => by
      have e : b = p := by simpa using hb
      subst e; subst z; exact hp ha⟩
  · by_cases hl : l < m.length
    · rw [List.getElem?_append_left hl] at q
      obtain ⟨a, ha, hc⟩ := h.cell l c' q
      exact ⟨a, by rw [List.getElem?_append_left (List.getElem?_eq_some_iff.mp ha).1]; exact ha, up hc⟩
    · have e : l = m.length := by
        have := (List.getElem?_eq_some_iff.mp q).1
        simp at this; omega
      subst e
      simp at q; subst q
      exact ⟨p, by rw [← h.len]; simp, up w⟩
theorem e_disp {X : Cx} {pos : Pos} {keys : List (Option Expr)} {values : List Expr} {trs : List (TE × TE)} {f : FP} (h : Ps X pos keys values trs f) (hall : keys.all (·.isSome) = true := by rfl) (hl : keys.length = values.length := by rfl) (h0 : keys ≠ [] := by simp)
    (h15 : keys.length ≤ 15 := by decide) : E X (.Dict keys values pos) (tDisp trs) (fDisp f) := ⟨pe_disp h.pe hall hl h0 h15, fun r σ H e m d m' hs hm hf Q go => by
  obtain ⟨⟨ps, m1⟩, h1, hf⟩ := bindE hf
  obtain ⟨h2, hf⟩ := iteE hf
  cases hf
  intro p hp
  have x0 : Ext r H r (upd H p (.dK [])) := Ext.fresh hp
  have hpr := hm.notIn hp
  refine h.ok r σ (upd H p (.dK [])) e m ps m1 (hs.mono x0) (hm.fresh hp) h1 _ fun r1 H1 kvs x1 hm1 ek hvs => ?_
  have e1 : H1 p = some (.dK []) := x1.keep p _ upd_same hpr
  have hp1 : p ∉ r1 := fun z => (x1.new p z).elim hpr fun q => by rw [upd_same] at q; cases q
  refine ⟨e1, kvs, rfl, ?_, ?_⟩
  · have : kvs.length = ps.length := by
      have := congrArg List.length ek
      simpa using this
    rw [this]; exact h2
  obtain ⟨us, q1, q2, q3⟩ := mergeD_val (K := X.K) (r := r1) (H := H1) (ps := ps) (kvs := kvs) (ks := []) (vs := []) (xs := []) ek hvs rfl .nil
  have q1' : mergeK [] kvs = (mergeD ps).1.zip us := q1
  rw [q1']
  let H2 := upd H1 p (.dK ((mergeD ps).1.zip us))
  have hm2 : MemOk X.K r1 H2 m1 := hm1.offG hp1 e1 (fun z => z) (fun _ _ _ z => by cases z)
  have st : StayI r1 H2 (r1 ++ [p]) H2 := fun b C dx fs q hn => ⟨q, fun z => by
    rcases List.mem_append.mp z with z | z
    · exact hn z
    · have ez : b = p := by simpa using z
      have : H2 p = some (.dK ((mergeD ps).1.zip us)) := upd_same
      rw [ez, this] at q; cases q⟩
  have q3' : VAll X.K r1 H2 us (mergeD ps).2 := VAll.offG e1 (fun z => z) (fun _ _ _ z => by cases z) q3
  have hm3 := hm2.adoptC (c := .dK (mergeD ps).1 (mergeD ps).2) hp1 st ⟨us, upd_same, q2, q3'⟩
  have xx : Ext r H (r1 ++ [p]) H2 := by
    have xa : Ext r H r1 H1 := x0.trans x1
    exact (xa.hid hp).adopt hp
  refine go (r1 ++ [p]) (.ref p) H2 xx hm3 (.loc ?_)
  rw [← hm1.len]; simp⟩
end Mv

set_option Elab.async false
set_option linter.all false
set_option maxRecDepth 100000
set_option maxHeartbeats 4000000
/-! Mv19: how many unlike keys a tuple has: len(set(t)), t of ints and texts. -/
namespace Mv
open PySem PySem.Spec PyProof.Rows L2

/-! ### unlike ones, in the turn in which they are met -/
section
variable {κ : Type} [DecidableEq κ]
def addNew (acc : List κ) (k : κ) : List κ := if k ∈ acc then acc else acc ++ [k]
def unlike (l : List κ) : List κ := l.foldl addNew []
theorem unlike_snoc (l : List κ) (k : κ) : unlike (l ++ [k]) = addNew (unlike l) k := by
  unfold unlike
  rw [List.foldl_append]; rfl
theorem mem_addNew {acc : List κ} {k x : κ} : x ∈ addNew acc k ↔ x ∈ acc ∨ x = k := by
  unfold addNew
  split
  · rename_i h
    exact ⟨.inl, fun q => q.elim id fun e => e ▸ h⟩
  · simp
theorem mem_fold {k : κ} : ∀ {l acc : List κ}, k ∈ l.foldl addNew acc ↔ k ∈ acc ∨ k ∈ l
  | [], acc => by simp
  | x :: l, acc => by
    rw [List.foldl_cons, mem_fold (l := l), mem_addNew, List.mem_cons, or_assoc]
theorem mem_unlike {l : List κ} {k : κ} : k ∈ unlike l ↔ k ∈ l := by
  unfold unlike
  rw [mem_fold]
  simp
theorem nodup_addNew {acc : List κ} {k : κ} (h : acc.Nodup) : (addNew acc k).Nodup := by
  unfold addNew
  split
  · exact h
  · rename_i q
    rw [List.nodup_append]
    exact ⟨h, by simp, fun a ha b hb z => by
      have e : b = k := by simpa using hb
      rw [z, e] at ha; exact q ha⟩
theorem nodup_fold : ∀ {l acc : List κ}, acc.Nodup → (l.foldl addNew acc).Nodup
  | [], _, h => h
  | x :: l, acc, h => nodup_fold (l := l) (nodup_addNew h)
theorem nodup_unlike (l : List κ) : (unlike l).Nodup := nodup_fold List.nodup_nil
theorem unlike_nodup {l : List κ} (h : l.Nodup) : unlike l = l := by
  have key : ∀ {l acc : List κ}, (acc ++ l).Nodup → l.foldl addNew acc = acc ++ l := by
    intro l
    induction l with
    | nil => intro acc _; simp
    | cons x l ih =>
      intro acc h
      rw [List.foldl_cons]
      have hx : x ∉ acc := fun q => by
        rw [List.nodup_append] at h
        exact h.2.2 x q x List.mem_cons_self rfl
      have e : addNew acc x = acc ++ [x] := if_neg hx
      rw [e, ih (by rw [List.append_assoc]; exact h), List.append_assoc]; rfl
  exact key (acc := []) h
theorem unlike_le : ∀ {l acc : List κ}, (l.foldl addNew acc).length ≤ acc.length + l.length
  | [], acc => by simp
  | x :: l, acc => by
    have q := unlike_le (l := l) (acc := addNew acc x)
    have q2 : (addNew acc x).length ≤ acc.length + 1 := by unfold addNew; split <;> simp
    rw [List.foldl_cons, List.length_cons]; omega
end
section
variable {P : Program} {w : World} {A : Around} {E : Value → Shared → Prop} {s : Shared}
/-- the loop that fills a set from what is walked, the keys of any kind -/
theorem fill_set {κ : Type} [DecidableEq κ] {knd : KeyKind P w κ} {I : Addr} {fp wr : List Addr} {G : Array GenState → Array GenState → Prop} {n : Nat} {Pv : Nat → Value → Prop} {St : Nat → Shared → Prop} {R : Result → Shared → Prop}
    (W : WalksS P w A.in1 I fp wr G n Pv St) (S : Addr) (out : S ∉ fp) (ks : List κ) (many : n = ks.length) (few : ks.length + 1 < scanBound) (each : ∀ i v, Pv i v → ∃ k, ks[i]? = some k ∧ knd.is k v = true ∧ v.scannable = true) :
    ∀ (left i : Nat) (s : Shared), i + left = n → St i s → s.heap.SetOf knd S (fun k => decide (k ∈ ks.take i)) (unlike (ks.take i)).length →
      (∀ s', Moved (S :: wr) G s s' → s'.heap.SetOf knd S (fun k => decide (k ∈ ks)) (unlike ks).length → R (.ok (.ret .none)) s') → codeAny (model P w) A (.builtin "set.update.loop" ⟨[.ref S, .ref I], []⟩) R s := by
  have notW : S ∉ wr := fun z => out (W.sub _ z)
  have more : ∀ b ∈ wr, b ∈ S :: wr := fun b z => List.mem_cons_of_mem _ z
  have stays : ∀ {s1 s2 : Shared} {T : κ → Bool} {c : Nat}, Moved wr G s1 s2 → s1.heap.SetOf knd S T c → s2.heap.SetOf knd S T c := fun mv ⟨o, es, ep, tb, ho, q⟩ => ⟨o, es, ep, tb, mv.heap S _ notW ho, q⟩
  intro left
  induction left with
  | zero =>
    intro i s hi hst hS hR
    have e : ks.take i = ks := List.take_of_length_le (by omega)
    rw [e] at hS
    refine codeAny_builtin F.entry_set_update_loop ?_
    rw [Around.under_plainId F.plain_set_update_loop _]
    show wpAny _ A.in1 (pyNext (.ref I) >>= _) _ _ s
    have hin : n = i := by omega
    subst hin
    exact wpAny_bind (W.done s _ _ hst fun s' mv => wpAny_pure (hR s' (mv.mono more) (stays mv hS)))
  | succ left ih =>
    intro i s hi hst hS hR
    refine codeAny_builtin F.entry_set_update_loop ?_
    rw [Around.under_plainId F.plain_set_update_loop _]
    show wpAny _ A.in1 (pyNext (.ref I) >>= _) _ _ s
    refine wpAny_bind (W.item i s _ _ (by omega) hst fun v s' hP hst' mv => ?_)
    obtain ⟨k, hk, his, hsc⟩ := each i v hP
    have et : ks.take (i + 1) = ks.take i ++ [k] := by rw [List.take_add_one, hk]; rfl
    show wpAny _ A.in1 (holding [v] (setAdd S v) >>= _) _ _ s'
    refine wpAny_bind (wpAny_holding ?_)
    unfold setAdd
    refine wpAny_holding (wpAny_bind (knd.pyHash his ?_))
    have room : (unlike (ks.take i)).length + 1 < scanBound := by
      have q : (unlike (ks.take i)).length ≤ 0 + (ks.take i).length := unlike_le
      have q2 : (ks.take i).length ≤ ks.length := by rw [List.length_take]; exact Nat.min_le_right _ _
      omega
    refine wpAny_setAddHashed_of (s := { s' with toks := s'.toks + 1 }) his hsc (show s'.heap.SetOf knd S _ _ from stays mv hS) room fun h' same hS2 => ?_
    have hS3 : h'.SetOf knd S (fun x => decide (x ∈ ks.take (i + 1))) (unlike (ks.take (i + 1))).length := by
      have e1 : (fun x => decide (x ∈ ks.take (i + 1))) = fun x => decide (x ∈ ks.take i) || decide (x = k) := by
        funext x
        rw [et]; simp [List.mem_append]
      have e2 : (unlike (ks.take (i + 1))).length = if decide (k ∈ ks.take i) = true then (unlike (ks.take i)).length else (unlike (ks.take i)).length + 1 := by
        rw [et, unlike_snoc]
        unfold addNew
        by_cases q : k ∈ ks.take i
        · rw [if_pos (mem_unlike.mpr q), if_pos (decide_eq_true q)]
        · rw [if_neg fun z => q (mem_unlike.mp z), if_neg (by rw [decide_eq_false q]; simp), List.length_append]; rfl
      rw [e1, e2]; exact hS2
    refine wpAny_pure ⟨plainId_quiet F.plain_set_update_loop _, ih (i + 1) _ (by omega) (W.frame _ s' _ _ hst' (Nat.le_succ _) fun b hb o e => ?_) hS3 fun s'' mv2 hS4 => ?_⟩
    · rw [same.2 b fun z : b = S => out (by rw [← z]; exact hb)]; exact e
    · refine hR s'' (Moved.trans W.gtrans ((mv.mono more).then_heap (Nat.le_succ _) fun b o hb e => ?_) mv2) hS4
      rw [same.2 b fun z : b = S => hb (by rw [z]; exact List.mem_cons_self)]; exact e
/-- an empty set, with or without its order kept -/
abbrev bare (w : World) : Obj := { cls := .type "set", dict := none, data := .set #[] 0 (.fresh 0 0 (!w.params.followText "set-order")) }
theorem bare_of {κ : Type} [DecidableEq κ] {knd : KeyKind P w κ} {h : Heap} {a : Addr} (e : h.get? a = some (bare w)) : h.SetOf knd a (fun _ => false) 0 :=
  ⟨_, #[], 0, _, e, ⟨rfl, rfl, rfl⟩, rfl, fun x hx => by simp at hx, fun k => by simp, by decide, rfl, rfl⟩
set_option maxRecDepth 100000 in
theorem set_of_tuple {κ : Type} [DecidableEq κ] {knd : KeyKind P w κ} {l : Addr} {items : Array Value} (ks : List κ) {Q : Value → Shared → Prop} (calm : A.handled = none) (at_l : s.heap.IsTuple l items) (few : ks.length + 1 < scanBound) (many : items.size = ks.length)
    (each : ∀ (i : Nat) (v : Value), items[i]? = some v → ∃ k, ks[i]? = some k ∧ knd.is k v = true ∧ v.scannable = true)
    (go : ∀ (h' : Heap) (tk : Nat), h'.SetOf knd s.heap.objs.size (fun k => decide (k ∈ ks)) (unlike ks).length → (∀ b o, s.heap.get? b = some o → h'.get? b = some o) → Q (.ref s.heap.objs.size) { s with heap := h', toks := tk }) :
    wpAny (model P w) A (call (.type "set") [.ref l]) Q E s := by
  obtain ⟨c, tl, hmro⟩ := F.called_set.mro
  have hmade := F.called_set.made
  have hsub := F.called_set.sub
  refine wpAny_call (codeAny_of_tree ?_)
  show wpAny _ _ (callAny (.type "set") _) _ _ _
  refine wpAny_pure ⟨Code.quiet_builtin _ (by decide +kernel), codeAny_builtin F.entry_type_call ?_⟩
  rw [Around.under_plain (weight_type_call_type "set" [.ref l] []) rfl]
  have h1 := F.called_set.notType
  have h2 := F.called_set.canCreate
  have hct := F.typeCall_set_1 (.ref l)
  repeat (any_goals (first | assumption | wp_step))
  let N := s.heap.objs.size
  let hp1 := s.heap.push (bare w)
  refine codeAny_mono (code_set_led1 (.ref l) (E := E) (Q₁ := fun v s₁ => v = .ref N ∧ s₁ = { s with heap := hp1 }) ⟨rfl, rfl⟩) fun r s₁ hr => ?_
  match r, hr with
  | .error e, hr => exact hr
  | .ok .next, hr => exact hr.elim
  | .ok .brk, hr => exact hr.elim
  | .ok .cont, hr => exact hr.elim
  | .ok (.ret v), hr =>
    obtain ⟨rfl, rfl⟩ := hr
    have hN : hp1.get? N = some (bare w) := Heap.get?_push_size _ rfl
    have hT : Shared.TypeIs { s with heap := hp1 } (.ref N) "set" := ⟨_, hN, rfl⟩
    have hli := F.called_set.init.lookup
    have hbi := F.called_set.init.bind (.ref N)
    repeat (any_goals (first | assumption | wp_step))
    let good : Shared → Prop := fun s₂ => ∃ (h' : Heap) (tk : Nat), s₂ = { s with heap := h', toks := tk } ∧ h'.SetOf knd N (fun k => decide (k ∈ ks)) (unlike ks).length ∧ ∀ b o, s.heap.get? b = some o → h'.get? b = some o
    refine codeAny_mono (codeAny_call_builtin (R := wants (fun u s₂ => u = .none ∧ good s₂) E) F.called_set.init.plain F.entry_set_init (check_set_init_1 hT ?_)) fun r₂ s₂ hr₂ => ?_
    · have at1 : hp1.IsTuple l items := at_l.push _
      obtain ⟨ol, hol, hcl, nl, hdl⟩ := at_l
      obtain ⟨ocls, odict, odata, oslots⟩ := ol
      simp only at hcl hdl
      subst hcl; subst hdl
      have old : l < N := Heap.lt_size hol
      have hol' : hp1.get? l = some { cls := .type "tuple", dict := odict, data := .seq items nl, slots := oslots } := Heap.get?_push_of_some _ hol
      have n1 := F.sub_tuple_set
      have n2 := F.sub_tuple_frozenset
      have n3 : (Value.type "tuple" == Value.type "dict") = false := by decide
      unfold Builtin.«set.__init__» noKeywords Builtin.Frozenset.updateFrom
      generalize hPI : pyIter = PI
      wp_walk
      subst hPI
      refine wpAny_pyIter_tuple at1 (wpAny_bind (wpAny_runValue ?_))
      have z1 : hp1.objs.size = N + 1 := Heap.size_push ..
      have neI : l ≠ hp1.objs.size := by rw [z1]; exact Nat.ne_of_lt (Nat.lt_succ_of_lt old)
      have out : N ∉ [hp1.objs.size, l] := by
        rw [z1]
        intro z
        rcases List.mem_cons.mp z with z | z
        · exact absurd z (Nat.ne_of_lt (Nat.lt_succ_self _))
        · exact absurd (List.mem_singleton.mp z) (Nat.ne_of_gt old)
      refine fill_set (knd := knd) (Walks.tuple (by simp [calm]) _ l neI items).toS N out ks many few each items.size 0 _ (Nat.zero_add _) ⟨⟨_, Heap.get?_push_size _ rfl, rfl, rfl⟩, at1.push _⟩ ?begin ?fin
      case begin =>
        have e : ∀ k : κ, decide (k ∈ ks.take 0) = false := fun k => by simp
        have q := bare_of (knd := knd) (Heap.get?_push_of_some { cls := .type "tuple_iterator", data := .fields #[.ref l, .int 0 0] } hN)
        exact PyProof.Rows.SetOf_congr q (fun k => (e k).symm) rfl
      case fin =>
        intro s' mv hS
        obtain ⟨h', g2, d', tk', os'⟩ := s'
        have eg : g2 = s.gens := mv.gens
        have ed : d' = s.drawn := mv.drawn
        have eo : os' = s.os := mv.os
        subst eg; subst ed; subst eo
        refine wpAny_pure (wpAny_pure ⟨rfl, h', tk', rfl, hS, fun b o e => ?_⟩)
        have b0 : b < N := Heap.lt_size e
        refine mv.heap b o (fun z => ?_) (Heap.get?_push_of_some _ (Heap.get?_push_of_some _ e))
        rcases List.mem_cons.mp z with z | z
        · exact absurd z (Nat.ne_of_lt b0)
        · have z' : b = hp1.objs.size := by simpa using z
          rw [z1] at z'
          exact absurd z' (Nat.ne_of_lt (Nat.lt_succ_of_lt b0))
    · match r₂, hr₂ with
      | .error e, hr₂ => exact hr₂
      | .ok .next, hr₂ => exact hr₂.elim
      | .ok .brk, hr₂ => exact hr₂.elim
      | .ok .cont, hr₂ => exact hr₂.elim
      | .ok (.ret v), hr₂ =>
        obtain ⟨rfl, h', tk, rfl, hS, hk⟩ := hr₂
        repeat (any_goals (first | assumption | wp_step))
        exact go _ _ hS hk
end
end Mv

set_option Elab.async false
set_option linter.all false
set_option maxRecDepth 100000
set_option maxHeartbeats 4000000
/-! Mv20: len(set(t)), t of ints and texts. -/
namespace Mv
open PySem PySem.Spec PyProof.Rows L2
def tLenSetK (K : Fg) (ta : TE) : TE := fun σ H Q => ta σ H fun x H1 => ∃ (l : Addr) (ks : List Key), x = .ref l ∧ SqT K H1 l (ks.map kV) ∧ ks.length ≤ 4000 ∧ Q (.int ((unlike ks).length : Nat)) H1
theorem each_key {P : Program} {w : World} : ∀ {ks : List Key} {us : List Value}, Vals (ks.map kV) us → ∀ (i : Nat) (v : Value), us[i]? = some v → ∃ k, ks[i]? = some k ∧ (mixKind P w).is k v = true ∧ v.scannable = true
  | [], _, .nil, i, v, h => by simp at h
  | k :: ks, y :: _, .cons a b, 0, v, h => by
    have e : y = v := by simpa using h
    subst e
    refine ⟨k, rfl, kV_is a, ?_⟩
    cases k with
    | inl i => obtain ⟨t, rfl⟩ := (show ∃ t, _ = Value.int i t from a); rfl
    | inr z => obtain ⟨t, rfl⟩ := (show ∃ t, _ = Value.str z t from a); rfl
  | k :: ks, _, .cons a b, i + 1, v, h => by
    obtain ⟨k', h1, h2⟩ := each_key (P := P) (w := w) b i v (by simpa using h)
    exact ⟨k', by simpa using h1, h2⟩
theorem pe_lenSetK {X : Cx} {a : Expr} {ta : TE} {p p2 q pos : Pos} (hg : Gl X "len") (hm : X.mg "len" = none) (hg2 : Gl X "set") (hm2 : X.mg "set" = none) (ha : PE X a ta) (hc : X.calm = true)
    (na : starEach [a] X.env = (false, eval a X.env) :: starEach [] X.env := by rfl) : PE X (.Call (.Name "len" p) [.Call (.Name "set" p2) [a] [] q] [] pos) (tLenSetK X.K ta) := by
  refine ⟨fun pins s σ H Q I h => ?_⟩
  refine Call_ (ld_blt I hg hm boot_len (PyProof.Rows.callWith_builtin1 (PyProof.Rows.args_cons ?_ rfl) rfl rfl))
  refine Call_ (ld_blt I hg2 hm2 boot_set ?_)
  refine PyProof.Rows.callWith_type1 (PyProof.Rows.args_cons (thn (ha.run pins s σ H _ I h) ?_) na) na rfl
  rintro v s1 ⟨x, H1, I1, r1, l, ks, rfl, hq, hl, q1⟩
  refine PyProof.Rows.args_nil ?_
  cases r1
  obtain ⟨its, r, pl, hz⟩ := I1.tuple hq
  have hlen : its.length = ks.length := by rw [← r.length, List.length_map]
  refine set_of_tuple (knd := mixKind X.prog X.w) ks (I1.ok.hd hc) pl (by unfold scanBound; omega) (by rw [List.size_toArray]; exact hlen) (fun i v hv => each_key r i v (by simpa using hv)) fun h' tk R hk => PyProof.Rows.args_nil ?_
  obtain ⟨o, es, ep, t, ho, hex, hd, hgood, hmem, hb, hf, hn⟩ := R
  have I2 : Inv X pins σ H1 { s1 with heap := h', toks := tk } := I1.kept hk
  have le : (unlike ks).length ≤ 0 + ks.length := unlike_le
  exact call_len_set ho hex hd hf (by rw [hn]; omega) ⟨.int ((unlike ks).length : Nat), H1, I2.tok _, ⟨_, by rw [hn]⟩, q1⟩
def fLenSetA (f : FE) : FE := fun e m => (f e m).bind fun p => match p.1 with
  | .tup xs => match asIs xs with
    | some ns => if ns.length ≤ 4000 then some (.int ((dist ns).length : Nat), p.2) else none
    | none => (keyL xs).bind fun ks => if ks.length ≤ 4000 then some (.int ((unlike ks).length : Nat), p.2) else none
  | _ => none
theorem e_lenSetA {X : Cx} {a : Expr} {ta : TE} {fa : FE} {p p2 q pos : Pos} (hc : X.calm = true) (hm : X.mg "len" = none) (hm2 : X.mg "set" = none) (h : E X a ta fa) (hg : Gl X "len" := by rfl) (hg2 : Gl X "set" := by rfl) (na : starEach [a] X.env = (false, eval a X.env) :: starEach [] X.env := by rfl) :
    E X (.Call (.Name "len" p) [.Call (.Name "set" p2) [a] [] q] [] pos) (fun σ H Q => tLenSetT X.K ta σ H Q ∨ tLenSetK X.K ta σ H Q) (fLenSetA fa) := by
  refine ⟨⟨fun pins s σ H Q I w => ?_⟩, fun r σ H e m d m' hs hm hf Q go => ?_⟩
  · rcases w with w | w
    · exact (pe_lenSetT hg ‹_› hg2 hm2 h.pe hc na).run pins s σ H Q I w
    · exact (pe_lenSetK hg ‹_› hg2 hm2 h.pe hc na).run pins s σ H Q I w
  · obtain ⟨⟨d1, m1⟩, h1, hf⟩ := bindE hf
    dsimp only at hf
    cases d1 with
    | tup xs =>
      dsimp only at hf
      split at hf
      · rename_i ns h2
        obtain ⟨hz, hf⟩ := iteE hf
        cases hf
        have e := asIs_ok h2
        subst e
        refine .inl (h.ok r σ H e m _ _ hs ‹_› h1 _ fun r1 v1 H1 x1 hm1 hv1 => ?_)
        obtain ⟨a, vs, rfl, ha, hw⟩ := hv1.tupE
        have e2 := hw.ints
        subst e2
        exact ⟨a, ns, rfl, ha.sq, hz, (go.step x1).here hm1 (.int _)⟩
      · obtain ⟨ks, h2, hf⟩ := bindE hf
        obtain ⟨hz, hf⟩ := iteE hf
        cases hf
        refine .inr (h.ok r σ H e m _ _ hs ‹_› h1 _ fun r1 v1 H1 x1 hm1 hv1 => ?_)
        obtain ⟨a, vs, rfl, ha, hw⟩ := hv1.tupE
        have e2 := keyL_ok hw h2
        subst e2
        exact ⟨a, ks, rfl, ha.sq, hz, (go.step x1).here hm1 (.int _)⟩
    | _ => cases hf
end Mv

set_option Elab.async false
set_option linter.all false
set_option maxRecDepth 100000
set_option maxHeartbeats 4000000
/-! Mv21: a class made by its name. -/
namespace Mv
open PySem PySem.Spec PyProof.Rows L2
def tMakeN (K : Fg) (n : Str) (sp : Sp) (E : XK) (t : TA) : TE := fun σ H Q => ∃ C, ClsAt K n C ∧ tMakeG C sp E t σ H Q
theorem e_make {X : Cx} {k : Nat} {ps : List Str} {F : GN} {n : Str} {p pos : Pos} {e : Expr} {es : List Expr} {t : TA} {fa : FA} (kn : KnC X.prog X.w X.K X.mg X.base n k ps F) (hr : Room (k + 1) X.A) (hG : X.A.guards = some []) (ha : A X (e :: es) t fa) (hg : Gl X n := by rfl)
    (hdb : (n == ("__debug__" : Str)) = false := by decide) (he : starEach (e :: es) X.env = (false, eval e X.env) :: starEach es X.env := by rfl) (hpl : (backTo pos (starEach es X.env)).any (·.1) = false := by rfl) :
    E X (.Call (.Name n p) (e :: es) [] pos) (tMakeN X.K n (spG X.K F) E0 t) (fMake n F fa) := by
  obtain ⟨C, f, fd, hc, M, Fn, hm, hb⟩ := kn.ex
  refine ⟨⟨fun pins s σ H Q I h => ?_⟩, fun r σ H e m d m' hs hmm hf Q go => ⟨C, hc, makeOk hc ha.ok r σ H e m d m' hs hmm hf Q go⟩⟩
  obtain ⟨C', hc', h⟩ := h
  have ec := hc'.inj hc
  subst ec
  exact (pe_makeG M Fn hr hG hg hm hb pass0 ha.pe hdb he hpl).run pins s σ H Q I h
end Mv

set_option Elab.async false
set_option linter.all false
set_option maxRecDepth 100000
set_option maxHeartbeats 4000000
/-! Mv22: tuple * int: once, never, of nothing. -/
namespace Mv
open PySem PySem.Spec PyProof.Rows L2
theorem mul_same (l : Addr) (items : Array Value) (n : Nat) (dd : Option Addr) (sl : Array (Option Value)) (x : Int) (u : Tok) (c0 : (decide (x < -(2 ^ 63)) || decide (x ≥ 2 ^ 63)) = false) (c1 : (items.isEmpty || x == 1) = true) :
    Meets (Builtin.«tuple.__mul__» ⟨[.ref l, .int x u], []⟩) (fun _ R s => s.heap.get? l = some { cls := .type "tuple", dict := dd, data := .seq items n, slots := sl } ∧ R (.ok (.ret (.ref l))) s) :=
  .of_wp fun prog w A R s h => by
    obtain ⟨hp, g, d, tk, os⟩ := s
    obtain ⟨hl, h⟩ := h
    have f1 := AutoSeq1.idx_int
    wp_walk using wpAny_loadPart' hl
    repeat (first
      | (refine wpAny_ite_false (decide_eq_false (by rw [c0]; exact Bool.false_ne_true)) ?_; wp_walk using wpAny_loadPart' hl)
      | (refine wpAny_ite_true (decide_eq_true c1) ?_; wp_walk using wpAny_loadPart' hl))
    exact ⟨_, rfl, h⟩
theorem mul_none (l : Addr) (items : Array Value) (n : Nat) (dd : Option Addr) (sl : Array (Option Value)) (x : Int) (u : Tok) (c0 : (decide (x < -(2 ^ 63)) || decide (x ≥ 2 ^ 63)) = false) (c1 : (items.isEmpty || x == 1) = false) (c2 : (decide (x ≤ 0) || items.isEmpty) = true) :
    Meets (Builtin.«tuple.__mul__» ⟨[.ref l, .int x u], []⟩) (fun _ R s => s.heap.get? l = some { cls := .type "tuple", dict := dd, data := .seq items n, slots := sl } ∧
      R (.ok (.ret (Value.ref s.heap.objs.size))) { s with heap := s.heap.push { cls := Value.type "tuple", data := Data.seq #[] }, toks := s.toks }) :=
  .of_wp fun prog w A R s h => by
    obtain ⟨hp, g, d, tk, os⟩ := s
    obtain ⟨hl, h⟩ := h
    have f1 := AutoSeq1.idx_int
    wp_walk using wpAny_loadPart' hl
    repeat (first
      | (refine wpAny_ite_false (decide_eq_false (by rw [c0]; exact Bool.false_ne_true)) ?_; wp_walk using wpAny_loadPart' hl)
      | (refine wpAny_ite_false (decide_eq_false (by rw [c1]; exact Bool.false_ne_true)) ?_; wp_walk using wpAny_loadPart' hl)
      | (refine wpAny_ite_true (decide_eq_true c2) ?_; wp_walk using wpAny_loadPart' hl))
    exact ⟨_, rfl, h⟩
def rRepE (K : Fg) : R2 := fun x y H Q => ∃ (l : Addr) (k : Int) (xs : List V), x = .ref l ∧ y = .int k ∧ SqT K H l xs ∧ -1000 ≤ k ∧ k ≤ 1000 ∧
  (((xs = [] ∨ k = 1) ∧ Q (.ref l) H) ∨ (xs ≠ [] ∧ k ≤ 0 ∧ ∀ p, H p = none → Q (.ref p) (upd H p (.tup []))))
theorem op_repE {X : Cx} : OpR X (binaryOp .Mult) (rRepE X.K) := by
  intro pins s σ H x y v u Q I rx ry h
  obtain ⟨l, k, xs, rfl, rfl, hT, h1, h2, q⟩ := h
  cases rx
  obtain ⟨t, rfl⟩ := ry
  obtain ⟨its, r, ⟨⟨cls, dd, data, sl⟩, ho, hc, n, hd⟩, hs⟩ := I.tuple hT
  simp only at hc hd
  subst hc hd
  have c0 : (decide (k < -(2 ^ 63)) || decide (k ≥ 2 ^ 63)) = false := by
    rw [decide_eq_false (by omega), decide_eq_false (by omega)]; rfl
  rcases q with ⟨hq, q⟩ | ⟨hne, hk, q⟩
  · have c1 : (its.toArray.isEmpty || k == 1) = true := by
      rcases hq with rfl | rfl
      · cases r; rfl
      · simp
    refine wpAny_binaryOp_repeat_ref (T := "tuple") (U := "int") (by decide) ⟨_, ho, rfl⟩ (fun s' => typeIs_int s' k t) noFill_tuple_mul F.fills_int_mul F.slot_int_rmul repeat_tuple F.slot_int_index.lookup
      (call_meets F.slot_int_rmul (typeIs_int s k t) F.entry_int_rmul (F.args_int_rmul_2 _ _) (int_rmul_tuple k t l its.toArray n dd sl)
        ⟨ho, rfl, ⟨_, ho, rfl⟩, call_meets F.slot_tuple_mul ⟨_, ho, rfl⟩ F.entry_tuple_mul (F.args_tuple_mul_2 _ _) (mul_same l its.toArray n dd sl k t c0 c1) ⟨ho, ?_⟩⟩)
    exact ⟨.ref l, H, I, rfl, q⟩
  · have hi : its.toArray.isEmpty = false := by
      cases its with
      | nil => cases r; exact absurd rfl hne
      | cons a b => rfl
    have c1 : (its.toArray.isEmpty || k == 1) = false := by
      rw [hi, Bool.false_or]
      exact beq_eq_false_iff_ne.mpr (by omega)
    have c2 : (decide (k ≤ 0) || its.toArray.isEmpty) = true := by rw [decide_eq_true hk]; rfl
    refine wpAny_binaryOp_repeat_ref (T := "tuple") (U := "int") (by decide) ⟨_, ho, rfl⟩ (fun s' => typeIs_int s' k t) noFill_tuple_mul F.fills_int_mul F.slot_int_rmul repeat_tuple F.slot_int_index.lookup
      (call_meets F.slot_int_rmul (typeIs_int s k t) F.entry_int_rmul (F.args_int_rmul_2 _ _) (int_rmul_tuple k t l its.toArray n dd sl)
        ⟨ho, rfl, ⟨_, ho, rfl⟩, call_meets F.slot_tuple_mul ⟨_, ho, rfl⟩ F.entry_tuple_mul (F.args_tuple_mul_2 _ _) (mul_none l its.toArray n dd sl k t c0 c1 c2) ⟨ho, ?_⟩⟩)
    refine ⟨.ref s.heap.objs.size, _, I.laid (t' := s.toks) (o := .tup []) (fun b ob q => Heap.get?_push_of_some _ q) (Nat.le_refl _) ?_, rfl, q _ (I.hok.fresh (Nat.le_refl _))⟩
    exact ⟨Nat.zero_le _, [], .nil, IsTup.new _ _⟩
def gMulA : G2 := fun x y m => match x, y with
  | .tup xs, .int k => if -1000 ≤ k ∧ k ≤ 1000 ∧ xs.length ≤ 1000 then some (.tup (List.replicate k.toNat xs).flatten, m) else none
  | x, y => gMul x y m
theorem flat_nils (n : Nat) : (List.replicate n ([] : List D)).flatten = [] := by
  induction n with
  | zero => rfl
  | succ n ih => rw [List.replicate_succ, List.flatten_cons, ih]; rfl
theorem gMulA_ok {K : Fg} : R2Ok K (fun x y H Q => rMulA K x y H Q ∨ rRepE K x y H Q) gMulA := fun r H m x y dx dy d m' hm hx hy hg Q go => by
  unfold gMulA at hg
  split at hg
  · rename_i xs k
    obtain ⟨⟨h1, h2, h3⟩, hg⟩ := iteE hg
    cases hg
    obtain ⟨a, vs, rfl, ha, hva⟩ := hx.tupE
    rw [hy.intE]
    by_cases e : xs = []
    · subst e
      cases hva
      rw [flat_nils] at go
      exact .inr ⟨a, k, [], rfl, rfl, ha.sq, h1, h2, .inl ⟨.inl rfl, go.here hm (.tup ha .nil)⟩⟩
    · by_cases e1 : k = 1
      · subst e1
        have e2 : (List.replicate (1 : Int).toNat xs).flatten = xs := by simp
        rw [e2] at go
        exact .inr ⟨a, 1, vs, rfl, rfl, ha.sq, h1, h2, .inl ⟨.inr rfl, go.here hm (.tup ha hva)⟩⟩
      · by_cases e0 : k ≤ 0
        · have e2 : (List.replicate k.toNat xs).flatten = [] := by
            have : k.toNat = 0 := by omega
            rw [this]; rfl
          rw [e2] at go
          exact .inr ⟨a, k, vs, rfl, rfl, ha.sq, h1, h2, .inr ⟨hva.neNil e, e0, fun p hp => go.newTup hm .nil hp⟩⟩
        · exact .inl (.inr (.inl ⟨a, k, vs, rfl, rfl, ha.sq, hva.neNil e, by omega, h2, by rw [hva.length]; exact h3, fun p hp => go.newTup hm (hva.rep _) hp⟩))
  · exact .inl (gMul_ok r H m x y dx dy d m' hm hx hy hg Q go)
theorem e_mulA {X : Cx} {a b : Expr} {ta tb : TE} {fa fb : FE} {pos : Pos} (ha : E X a ta fa) (hb : E X b tb fb) : E X (.BinOp a .Mult b pos) (tOp (fun x y H Q => rMulA X.K x y H Q ∨ rRepE X.K x y H Q) ta tb) (fOp gMulA fa fb) := ⟨pe_op (op_mulA.or op_repE) ha.pe hb.pe, opOk gMulA_ok ha.ok hb.ok⟩
end Mv

set_option Elab.async false
set_option linter.all false
set_option maxRecDepth 100000
set_option maxHeartbeats 4000000
/-! Mv23: tuples whose methods are called: made, asked by index. -/
namespace Mv
open PySem PySem.Spec PyProof.Rows L2

/-! ### forgotten -/
def fW (f : FE) : FE := fun e m => (f e m).map fun p => (p.1.weak, p.2)
theorem E.w {X : Cx} {e : Expr} {te : TE} {f : FE} (h : E X e te f) : E X e te (fW f) := ⟨h.pe, fun r σ H e m d m' hs hm hf Q go => by
  obtain ⟨⟨d1, m1⟩, h1, hf⟩ := mapE hf
  cases hf
  exact h.ok r σ H e m d1 m1 hs hm h1 _ fun r1 v1 H1 x1 hm1 hv1 => go r1 v1 H1 x1 hm1 hv1.weak⟩
/-! ### made -/
def newS (p : Addr) (H : Hp) (xs : List V) (Q : VK) : Prop := ∀ o : Obj, o.dict = none → Q (.ref p) (upd H p (.frz o (.tup xs)))
theorem Go.newStp {K : Fg} {r : List Addr} {H : Hp} {m : Mem} {vs : List V} {xs : List D} {Q : VK} (g : Go K r H m (.stp xs) Q) (hm : MemOk K r H m) (hv : VAll K r H vs xs) {p : Addr} (hp : H p = none) : newS p H vs Q := fun o hd =>
  g r (.ref p) _ (Ext.fresh hp) (hm.fresh hp) (.stp upd_same hd (hv.mono (Ext.fresh hp)))
theorem frz_new {P : Program} {w : World} {H : Hp} {h : Heap} {xs : List V} {its : List Value} (z : xs.length ≤ sizeLine) (r : Vals xs its) :
    ObjOk P w H (h.push { cls := .type "tuple", data := .seq its.toArray }) h.objs.size (.frz { cls := .type "tuple", data := .seq its.toArray } (.tup xs)) :=
  ⟨Heap.get?_push_size _ rfl, z, its, r, IsTup.new _ _⟩
def tTupS (ta : TA) : TE := fun σ H Q => ta σ H fun xs H1 => xs.length ≤ sizeLine ∧ ∀ p, H1 p = none → newS p H1 xs Q
theorem pe_tupS {X : Cx} {es : List Expr} {t : TA} {pos : Pos} {x1} (h : PA X es t) : PE X (.Tuple es x1 pos) (tTupS t) := by
  refine ⟨fun pins s σ H Q I hq => wpAny_Tuple_spliced (thn (h.run pos pins s σ H _ I hq) fun us s1 ⟨xs, H1, I1, r, z, q⟩ => ⟨by rw [← r.length]; exact z, ?_⟩)⟩
  have free := I1.hok.fresh (Nat.le_refl s1.heap.objs.size)
  exact ⟨.ref s1.heap.objs.size, _, I1.laid (t' := s1.toks) (fun b u e => Heap.get?_push_of_some _ e) (Nat.le_refl _) (frz_new z r), rfl, q _ free _ rfl⟩
def rTupS (K : Fg) : List V → Hp → VK → Prop := fun xs H Q => ∃ p ys, xs = [.ref p] ∧ SqL K H p ys ∧ ∀ l, H l = none → newS l H ys Q
theorem call_tupS {X : Cx} : CallR X (.type "tuple") (rTupS X.K) := by
  intro pins s σ H xs us Q I r h
  obtain ⟨p, ys, rfl, hq, q⟩ := h
  obtain ⟨u, rfl, rx⟩ := vals1 r
  cases rx
  obtain ⟨its, r', pl, hz⟩ := I.list hq
  have many := r'.length
  refine call_tuple_list pl.isList (fun h' kp => ?_) (by rw [List.size_toArray, ← many]; exact hz)
  have I1 : Inv X pins σ H { s with heap := h' } := I.kept (t' := s.toks) kp
  exact ⟨.ref h'.objs.size, _, I1.laid (t' := s.toks) (fun b o e => Heap.get?_push_of_some _ e) (Nat.le_refl _) (frz_new hz r'), rfl, q _ (I1.hok.fresh (Nat.le_refl _)) _ rfl⟩
def tTupRgS (te : L2.St → Hp → (Int → Int → Hp → Prop) → Prop) : TE := fun σ H Q => te σ H fun a b H1 => RgOk a b ∧ ∀ p, H1 p = none → newS p H1 (rgV a b) Q
theorem pe_tupRgS {X : Cx} {e : Expr} {te : L2.St → Hp → (Int → Int → Hp → Prop) → Prop} {p pos : Pos} (hc : X.calm = true) (hg : Gl X "tuple") (hm : X.mg "tuple" = none) (he : PRg X e te) (na : starEach [e] X.env = (false, eval e X.env) :: starEach [] X.env := by rfl) : PE X (.Call (.Name "tuple" p) [e] [] pos) (tTupRgS te) := by
  refine ⟨fun pins s σ H Q I h => Call_ (ld_blt I hg hm boot_tuple (PyProof.Rows.callWith_type1 (PyProof.Rows.args_cons (thn (he pins s σ H _ I h) fun x s1 ⟨r, a, b, t, u, v, H1, ex, hr, I1, ok, q⟩ => PyProof.Rows.args_nil ?_) na) na))⟩
  subst ex
  obtain ⟨b1, b2, b3, b4, b5⟩ := ok
  refine call_tuple_range (n := (b - a).toNat) (I1.ok.hd hc) hr (small_one b1 b2 b3 b4) (rangeSize_nat a b) b5 fun h' tk acc hk hi => ?_
  have I2 : Inv X pins σ H1 { s1 with heap := h', toks := tk } := I1.kept hk
  have z : (rgV a b).length ≤ sizeLine := by rw [rgV_length, sizeLine_eq]; omega
  have fr := frz_new (P := X.prog) (w := X.w) (H := upd H1 h'.objs.size (.frz { cls := .type "tuple", data := .seq acc.toList.toArray } (.tup (rgV a b)))) (h := h') z (vals_rg hi)
  rw [Array.toArray_toList] at fr
  exact ⟨.ref h'.objs.size, _, I2.laid (t' := tk) (fun c o e => Heap.get?_push_of_some _ e) (Nat.le_refl _) fr, rfl, q _ (I2.hok.fresh (Nat.le_refl _)) _ rfl⟩
section
variable {X : Cx} {pos : Pos} {es : List Expr} {ta : TA} {fa : FA}
def fTupS (fa : FA) : FE := fun e m => (fa e m).bind fun p => if p.1.length ≤ 100000 then some (.stp p.1, p.2) else none
theorem e_tupS {x1} (h : A X es ta fa) : E X (.Tuple es x1 pos) (tTupS ta) (fTupS fa) := ⟨pe_tupS h.pe, fun r σ H e m d m' hs hm hf Q go => by
  obtain ⟨⟨ds, m1⟩, h1, hf⟩ := bindE hf
  obtain ⟨hz, hf⟩ := iteE hf
  cases hf
  refine h.ok r σ H e m ds m1 hs hm h1 _ fun r1 vs H1 x1 hm1 hv1 => ⟨by rw [hv1.length]; exact lineOf hz, fun p hp => (go.step x1).newStp hm1 hv1 hp⟩⟩
end
def gTupS : GN := fun ds m => match ds with
  | [.loc l] => (rd m l).map fun xs => (.stp xs, m)
  | _ => none
theorem gTupS_ok {K : Fg} : RNOk K (rTupS K) gTupS := fun r H m xs ds d m' hm hx hg Q go => by
  unfold gTupS at hg
  split at hg
  · obtain ⟨ys, h1, hg⟩ := mapE hg
    cases hg
    obtain ⟨v, rfl, hv⟩ := hx.one
    obtain ⟨a, rfl, ha⟩ := hv.locE
    obtain ⟨vs, q, hs⟩ := hm.rd ha h1
    exact ⟨a, vs, rfl, q, fun l hl => go.newStp hm hs hl⟩
  · cases hg
def gTupNS : GN := fun xs m => some (.stp xs, m)
theorem gTupNS_ok {K : Fg} : ROnOk K (rTupS K) gTupNS := fun r H m p vs xs d m' hm hp hq hv hg Q go => by
  cases hg
  exact ⟨p, vs, rfl, .of hq, fun l hl => go.newStp hm hv hl⟩
def fTRg1S (f : FE) : FE := fun e m => (f e m).bind fun p => (asI p.1).bind fun j => if 0 ≤ j ∧ j ≤ 100000 then some (.stp (rangeD 0 j.toNat), p.2) else none
theorem e_trg1S {X : Cx} {a : Expr} {ta : TE} {fa : FE} {p p2 pos pos2 : Pos} (hc : X.calm = true) (hml : X.mg "tuple" = none) (hmr : X.mg "range" = none) (h : E X a ta fa) (hgl : Gl X "tuple" := by rfl) (hgr : Gl X "range" := by rfl) (na : starEach [a] X.env = (false, eval a X.env) :: starEach [] X.env := by rfl)
    (na2 : starEach [.Call (.Name "range" p2) [a] [] pos2] X.env = (false, eval (.Call (.Name "range" p2) [a] [] pos2) X.env) :: starEach [] X.env := by rfl) :
    E X (.Call (.Name "tuple" p) [.Call (.Name "range" p2) [a] [] pos2] [] pos) (tTupRgS (tRg1 ta)) (fTRg1S fa) := ⟨pe_tupRgS hc hgl hml (prg_1 hgr hmr h.pe na) na2, fun r σ H e m d m' hs hm hf Q go => by
  obtain ⟨⟨d1, m1⟩, h1, hf⟩ := bindE hf
  obtain ⟨j, h2, hf⟩ := bindE hf
  obtain ⟨hz, hf⟩ := iteE hf
  cases hf
  have q' : d1 = .int j := asI_ok h2
  subst q'
  refine h.ok r σ H e m _ _ hs hm h1 _ fun r1 v1 H1 x1 hm1 hv1 => ⟨j, hv1.intE, RgOk.of_le (by omega) (by omega) (by omega) (by omega), fun q hq => ?_⟩
  have w := rg_vals (K := X.K) (r := r1) (H := H1) 0 j.toNat
  have e1 : rgV 0 j = (List.range j.toNat).map fun i => V.int (0 + (i : Nat)) := by unfold rgV; rw [Int.sub_zero]
  rw [e1]
  exact (go.step x1).newStp hm1 w hq⟩
/-! ### t.index(x) -/
def rTIndex (K : Fg) : V → List V → Hp → VK → Prop := fun x xs H Q => ∃ (p : Addr) (ns : List Int) (k : Int), x = .ref p ∧ xs = [.int k] ∧ SqT K H p (ns.map V.int) ∧ k ∈ ns ∧ Q (.int (ns.idxOf k : Nat)) H
theorem mt_tindexI {X : Cx} : MtR X "tuple.index" (rTIndex X.K) := by
  intro pins s σ H x xs v us Q I rx rs h
  obtain ⟨p, ns, k, rfl, rfl, hq, hk, q⟩ := h
  cases rx
  obtain ⟨u, rfl, t, rfl⟩ := vals1 rs
  obtain ⟨its, r, pl, hz⟩ := I.tuple hq
  exact PySem.SeqAt.tuple_index_ints pl (intsAre_of r) hk ⟨.int (ns.idxOf k : Nat), H, I.tok _, ⟨_, rfl⟩, q⟩
/-- o.m(e, ..), o such a tuple -/
def tMetT (r : V → List V → Hp → VK → Prop) (to : TE) (ta : TA) : TE := fun σ H Q => to σ H fun x H1 => (∃ a o vs, x = .ref a ∧ H1 a = some (.frz o (.tup vs)) ∧ o.dict = none) ∧ ta σ H1 fun xs H2 => r x xs H2 Q
theorem pe_metT {X : Cx} {o e : Expr} {es : List Expr} {name : Str} {id : String} {r : V → List V → Hp → VK → Prop} {to : TE} {t : TA} {apos cpos : Pos} (slot : Slot "tuple" name id) (hty : typeOf (.builtin id) = pure (.type "method_descriptor")) (hm : MtR X id r) (ho : PE X o to) (ha : PA X (e :: es) t)
    (hbase : attributeBase o name X.env (eval o X.env) = eval o X.env := by rfl)
    (hfew : ((backTo cpos (starEach (e :: es) X.env)).all (fun x => !x.1) && (backToKw cpos (keywordEach [] X.env)).all (fun x => x.1.isSome)
      && decide ((e :: es).length + ([] : List Keyword).length + (if ([] : List Keyword).isEmpty then 0 else 1) < 30)) = true := by rfl)
    (hline : (apos.endLine == cpos.line) = true := by rfl) (hs : starEach (e :: es) X.env = (false, eval e X.env) :: starEach es X.env := by rfl) (hplain : (backTo cpos (starEach es X.env)).any (·.1) = false := by rfl) :
    PE X (.Call (.Attribute o name apos) (e :: es) [] cpos) (tMetT r to t) := by
  refine ⟨fun pins s σ H Q I h => wpAny_Call_method_late hbase hfew hline rfl (thn (ho.run pins s σ H _ I h) fun v s1 ⟨x, H1, I1, r1, ⟨a, ob, vs, ex, ea, hd⟩, q1⟩ => ?_)⟩
  subst ex
  obtain rfl : v = Value.ref a := r1
  obtain ⟨h1, h2, its, h3, o', h4, h5, n, h6⟩ := (show ObjOk X.prog X.w H1 s1.heap a (.frz ob (.tup vs)) from I1.hok a _ ea)
  refine ⟨"tuple", id, PySem.F.plainAttrs_tuple, slot, hty, ⟨o', h4, h5⟩, fun b hb => ?_, ?_⟩
  · cases hb
    exact ⟨ob, h1, hd⟩
  · have got := ha.run cpos pins s1 σ H1 _ I1 q1
    rw [hs] at got ⊢
    refine Calls.callWith_builtin (by show (false || (backTo cpos (starEach es X.env)).any (·.1)) = false; rw [hplain]; rfl) (Calls.evalArgs_plain ?_)
    exact thn got fun us s2 ⟨vs, H2, I2, r2, q2⟩ => hm pins s2 σ H2 (.ref a) vs (.ref a) us Q I2 rfl r2 q2
def fMetT (g : GM) (fo : FE) (fa : FA) : FE := fun e m => (fo e m).bind fun p => (match p.1 with
  | .stp _ => some ()
  | _ => none).bind fun _ => (fa e p.2).bind fun q => g p.1 q.1 q.2
def gTIndex : GM := fun x xs m => match x, xs with
  | .stp ys, [.int k] => (asIs ys).bind fun ns => if k ∈ ns then some (.int (ns.idxOf k : Nat), m) else none
  | _, _ => none
theorem gTIndex_ok {K : Fg} : RMOk K (rTIndex K) gTIndex := fun r H m x xs dx ds d m' hm hx hxs hg Q go => by
  unfold gTIndex at hg
  split at hg
  · rename_i ys k
    obtain ⟨ns, h1, hg⟩ := bindE hg
    obtain ⟨h2, hg⟩ := iteE hg
    cases hg
    obtain ⟨a, o, vs, rfl, ha, _, hw⟩ := hx.stpE
    have e := asIs_ok h1
    subst e
    have e2 := hw.ints
    subst e2
    cases hxs with
    | cons b c =>
      cases c
      rw [b.intE]
      exact ⟨a, ns, k, rfl, rfl, .inl (.inr ⟨o, ha⟩), h2, go.here hm (.int _)⟩
  · cases hg
theorem metTOk {K : Fg} {rr : V → List V → Hp → VK → Prop} {g : GM} {to : TE} {ta : TA} {fo : FE} {fa : FA} (hr : RMOk K rr g) (ho : EOk K to fo) (ha : AOk K ta fa) : EOk K (tMetT rr to ta) (fMetT g fo fa) := fun r σ H e m d m' hs hm hf Q go => by
  obtain ⟨⟨d1, m1⟩, h1, hf⟩ := bindE hf
  obtain ⟨_, h2, hf⟩ := bindE hf
  obtain ⟨⟨ds, m2⟩, h3, hf⟩ := bindE hf
  cases d1 with
  | stp ys =>
    refine ho r σ H e m _ m1 hs hm h1 _ fun r1 v1 H1 x1 hm1 hv1 => ⟨?_, ?_⟩
    · obtain ⟨a, o, vs, rfl, ha, hd, hw⟩ := hv1.stpE
      exact ⟨a, o, vs, rfl, ha, hd⟩
    · refine ha r1 σ H1 e m1 ds m2 (hs.mono x1) hm1 h3 _ fun r2 vs H2 x2 hm2 hv2 => ?_
      exact hr r2 H2 m2 v1 vs _ ds d m' hm2 (hv1.mono x2) hv2 hf Q ((go.step x1).step x2)
  | _ => cases h2
theorem e_tindex {X : Cx} {o a : Expr} {to ta : TE} {fo fa : FE} {apos cpos : Pos} (ho : E X o to fo) (ha : E X a ta fa)
    (hbase : attributeBase o "index" X.env (eval o X.env) = eval o X.env := by rfl)
    (hfew : ((backTo cpos (starEach [a] X.env)).all (fun x => !x.1) && (backToKw cpos (keywordEach [] X.env)).all (fun x => x.1.isSome)
      && decide ([a].length + ([] : List Keyword).length + (if ([] : List Keyword).isEmpty then 0 else 1) < 30)) = true := by rfl)
    (hline : (apos.endLine == cpos.line) = true := by rfl) (hs : starEach [a] X.env = (false, eval a X.env) :: starEach [] X.env := by rfl) :
    E X (.Call (.Attribute o "index" apos) [a] [] cpos) (tMetT (rTIndex X.K) to (tCons ta tNil)) (fMetT gTIndex fo (fCons fa fNil)) :=
  ⟨pe_metT PySem.F.slot_tuple_index PySem.F.type_tuple_index mt_tindexI ho.pe (pa_cons ha.pe pa_nil hs) hbase hfew hline hs rfl, metTOk gTIndex_ok ho.ok (aCons ha.ok aNil)⟩
end Mv

set_option Elab.async false
set_option linter.all false
set_option maxRecDepth 100000
set_option maxHeartbeats 4000000
/-! Mv24: ==, != of data of ints; words. -/
namespace Mv
open PySem PySem.Spec PyProof.Rows L2
mutual
/-- ints, None and tuples of such -/
def D.pl : D → Bool
  | .non => true | .int _ => true | .tup xs => D.plAll xs
  | .bl _ => false | .str _ => false | .loc _ => false | .ty _ => false | .kl _ => false | .cls _ => false | .ins _ _ _ => false | .stp _ => false
def D.plAll : List D → Bool
  | [] => true
  | x :: xs => x.pl && D.plAll xs
end
mutual
def D.dep : D → Nat
  | .tup xs => D.depAll xs + 1
  | .non => 0 | .int _ => 0 | .bl _ => 0 | .str _ => 0 | .loc _ => 0 | .ty _ => 0 | .kl _ => 0 | .cls _ => 0 | .ins _ _ _ => 0 | .stp _ => 0
def D.depAll : List D → Nat
  | [] => 0
  | x :: xs => max x.dep (D.depAll xs)
end
mutual
theorem D.pl_pure : ∀ d : D, d.pl = true → d.pure = true
  | .non, _ => rfl
  | .int _, _ => rfl
  | .tup xs, h => D.plAll_pure xs h
  | .bl _, h => by cases h
  | .str _, h => by cases h
  | .loc _, h => by cases h
  | .ty _, h => by cases h
  | .kl _, h => by cases h
  | .cls _, h => by cases h
  | .ins _ _ _, h => by cases h
  | .stp _, h => by cases h
theorem D.plAll_pure : ∀ ds : List D, D.plAll ds = true → D.pureAll ds = true
  | [], _ => rfl
  | d :: ds, h => by
    have q := Bool.and_eq_true_iff.mp h
    exact Bool.and_eq_true_iff.mpr ⟨D.pl_pure d q.1, D.plAll_pure ds q.2⟩
end
mutual
theorem D.pl_lay : ∀ d : D, d.pl = true → d.py.canLay0 = true ∧ d.py.depth = d.dep
  | .non, _ => ⟨by rw [D.py, PyData.canLay0], by rw [D.py, PyData.depth, D.dep]⟩
  | .int _, _ => ⟨by rw [D.py, PyData.canLay0], by rw [D.py, PyData.depth, D.dep]⟩
  | .tup xs, h => by
    obtain ⟨a, b⟩ := D.plAll_lay xs h
    exact ⟨by rw [D.py, PyData.canLay0]; exact a, by rw [D.py, PyData.depth, D.dep, b]⟩
  | .bl _, h => by cases h
  | .str _, h => by cases h
  | .loc _, h => by cases h
  | .ty _, h => by cases h
  | .kl _, h => by cases h
  | .cls _, h => by cases h
  | .ins _ _ _, h => by cases h
  | .stp _, h => by cases h
theorem D.plAll_lay : ∀ ds : List D, D.plAll ds = true → PyData.canLayAll0 (D.pyAll ds) = true ∧ PyData.depthAll (D.pyAll ds) = D.depAll ds
  | [], _ => ⟨by rw [D.pyAll, PyData.canLayAll0], by rw [D.pyAll, PyData.depthAll, D.depAll]⟩
  | d :: ds, h => by
    have q := Bool.and_eq_true_iff.mp h
    obtain ⟨a, b⟩ := D.pl_lay d q.1
    obtain ⟨c, e⟩ := D.plAll_lay ds q.2
    exact ⟨by rw [D.pyAll, PyData.canLayAll0, a, c]; rfl, by rw [D.pyAll, PyData.depthAll, D.depAll, b, e]⟩
end
mutual
theorem D.pl_eqv : ∀ a b : D, a.pl = true → b.pl = true → (PyData.eqv a.py b.py = true ↔ a = b)
  | .non, .non, _, _ => by rw [D.py, PyData.eqv]; simp
  | .non, .int _, _, _ => by rw [D.py, D.py, PyData.eqv]; simp
  | .non, .tup _, _, _ => by rw [D.py, D.py, PyData.eqv]; simp
  | .int _, .non, _, _ => by rw [D.py, D.py, PyData.eqv]; simp
  | .int i, .int j, _, _ => by rw [D.py, D.py, PyData.eqv]; simp
  | .int _, .tup _, _, _ => by rw [D.py, D.py, PyData.eqv]; simp
  | .tup _, .non, _, _ => by rw [D.py, D.py, PyData.eqv]; simp
  | .tup _, .int _, _, _ => by rw [D.py, D.py, PyData.eqv]; simp
  | .tup xs, .tup ys, h, k => by
    rw [D.py, D.py, PyData.eqv, D.plAll_eqv xs ys h k]; simp
  | .bl _, _, h, _ => by cases h
  | .str _, _, h, _ => by cases h
  | .loc _, _, h, _ => by cases h
  | .ty _, _, h, _ => by cases h
  | .kl _, _, h, _ => by cases h
  | .cls _, _, h, _ => by cases h
  | .ins _ _ _, _, h, _ => by cases h
  | .stp _, _, h, _ => by cases h
  | .non, .bl _, _, h => by cases h
  | .non, .str _, _, h => by cases h
  | .non, .loc _, _, h => by cases h
  | .non, .ty _, _, h => by cases h
  | .non, .kl _, _, h => by cases h
  | .non, .cls _, _, h => by cases h
  | .non, .ins _ _ _, _, h => by cases h
  | .non, .stp _, _, h => by cases h
  | .int _, .bl _, _, h => by cases h
  | .int _, .str _, _, h => by cases h
  | .int _, .loc _, _, h => by cases h
  | .int _, .ty _, _, h => by cases h
  | .int _, .kl _, _, h => by cases h
  | .int _, .cls _, _, h => by cases h
  | .int _, .ins _ _ _, _, h => by cases h
  | .int _, .stp _, _, h => by cases h
  | .tup _, .bl _, _, h => by cases h
  | .tup _, .str _, _, h => by cases h
  | .tup _, .loc _, _, h => by cases h
  | .tup _, .ty _, _, h => by cases h
  | .tup _, .kl _, _, h => by cases h
  | .tup _, .cls _, _, h => by cases h
  | .tup _, .ins _ _ _, _, h => by cases h
  | .tup _, .stp _, _, h => by cases h
theorem D.plAll_eqv : ∀ xs ys : List D, D.plAll xs = true → D.plAll ys = true → (PyData.eqvAll (D.pyAll xs) (D.pyAll ys) = true ↔ xs = ys)
  | [], [], _, _ => by rw [D.pyAll, PyData.eqvAll]; simp
  | [], _ :: _, _, _ => by rw [D.pyAll, D.pyAll, PyData.eqvAll]; simp
  | _ :: _, [], _, _ => by rw [D.pyAll, D.pyAll, PyData.eqvAll]; simp
  | x :: xs, y :: ys, h, k => by
    have q := Bool.and_eq_true_iff.mp h
    have q2 := Bool.and_eq_true_iff.mp k
    rw [D.pyAll, D.pyAll, PyData.eqvAll, Bool.and_eq_true, D.pl_eqv x y q.1 q2.1, D.plAll_eqv xs ys q.2 q2.2, List.cons.injEq]
end
theorem plEq {a b : D} (ha : a.pl = true) (hb : b.pl = true) (da : a.dep ≤ 60) (db : b.dep ≤ 60) : ∃ t : Bool, (t = true ↔ a = b) ∧ ∀ m, gEqS a b m = some (.bl t, m) ∧ gNeS a b m = some (.bl (!t), m) := by
  refine ⟨PyData.eqv a.py b.py, D.pl_eqv a b ha hb, fun m => ?_⟩
  have sa : SeqAt.shaped a.py = true := by
    obtain ⟨p, q⟩ := D.pl_lay a ha
    exact Bool.and_eq_true_iff.mpr ⟨p, decide_eq_true (by omega)⟩
  have sb : SeqAt.shaped b.py = true := by
    obtain ⟨p, q⟩ := D.pl_lay b hb
    exact Bool.and_eq_true_iff.mpr ⟨p, decide_eq_true (by omega)⟩
  have ra : res m a = some a.py := res_pure (D.pl_pure a ha)
  have rb : res m b = some b.py := res_pure (D.pl_pure b hb)
  have e : eqD a.py b.py = some (PyData.eqv a.py b.py) := if_pos ⟨sa, sb⟩
  have g1 : gEqS a b m = gEq a b m := by
    cases a with
    | str x => cases ha
    | _ => rfl
  have g2 : gNeS a b m = gNe a b m := by
    cases a with
    | str x => cases ha
    | _ => rfl
  rw [g1, g2]
  unfold gEq gNe
  rw [ra, rb, Option.bind_some, Option.bind_some, Option.bind_some, Option.bind_some, e]
  exact ⟨rfl, rfl⟩
theorem plEq_same {a : D} (ha : a.pl = true) (da : a.dep ≤ 60) (m : Mem) : gEqS a a m = some (.bl true, m) ∧ gNeS a a m = some (.bl false, m) := by
  obtain ⟨t, h, k⟩ := plEq ha ha da da
  have e : t = true := h.mpr rfl
  subst e
  exact k m
theorem plEq_ne {a b : D} (ha : a.pl = true) (hb : b.pl = true) (da : a.dep ≤ 60) (db : b.dep ≤ 60) (hn : a ≠ b) (m : Mem) : gEqS a b m = some (.bl false, m) ∧ gNeS a b m = some (.bl true, m) := by
  obtain ⟨t, h, k⟩ := plEq ha hb da db
  cases t with
  | true => exact absurd (h.mp rfl) hn
  | false => exact k m
/-! ### tuples of ints -/
def wD (w : List Int) : D := .tup (w.map D.int)
theorem plAll_ints : ∀ w : List Int, D.plAll (w.map D.int) = true
  | [] => rfl
  | x :: w => plAll_ints w
theorem depAll_ints : ∀ w : List Int, D.depAll (w.map D.int) = 0
  | [] => rfl
  | x :: w => by rw [List.map_cons, D.depAll, depAll_ints w, D.dep]; rfl
theorem pl_wD (w : List Int) : (wD w).pl = true := plAll_ints w
theorem dep_wD (w : List Int) : (wD w).dep = 1 := by unfold wD; rw [D.dep, depAll_ints]
theorem wD_inj {a b : List Int} : wD a = wD b ↔ a = b := by
  unfold wD
  refine ⟨fun h => ?_, fun h => by rw [h]⟩
  have h' : a.map D.int = b.map D.int := by injection h
  have : ∀ {a b : List Int}, a.map D.int = b.map D.int → a = b := by
    intro a
    induction a with
    | nil => intro b h; cases b with
      | nil => rfl
      | cons y b => cases h
    | cons x a ih => intro b h; cases b with
      | nil => cases h
      | cons y b =>
        rw [List.map_cons, List.map_cons] at h
        obtain ⟨h1, h2⟩ := List.cons.inj h
        cases h1
        rw [ih h2]
  exact this h'
theorem pure_wD (w : List Int) : (wD w).pure = true := D.pl_pure _ (pl_wD w)
theorem low_wD (w : List Int) : (wD w).low 0 = true := D.pure_low 0 _ (pure_wD w)
theorem weak_ints : ∀ w : List Int, D.weakAll (w.map D.int) = w.map D.int
  | [] => rfl
  | x :: w => by rw [List.map_cons, D.weakAll, weak_ints w, D.weak]
/-- a move as one that may be asked for its points -/
def mvS (n : Nat) (f : Nat → Nat) : D := .stp (tab n fun y => .int (f y : Nat))
theorem mvD_wD (n : Nat) (f : Nat → Nat) : mvD n f = wD ((List.range n).map fun y => ((f y : Nat) : Int)) := by
  unfold mvD wD tab
  rw [List.map_map]; rfl
theorem mvS_weak (n : Nat) (f : Nat → Nat) : (mvS n f).weak = mvD n f := by
  have e : (tab n fun y => D.int (f y : Nat)) = ((List.range n).map fun y => ((f y : Nat) : Int)).map D.int := by unfold tab; rw [List.map_map]; rfl
  show D.tup (D.weakAll _) = _
  rw [e, weak_ints, mvD_wD]; rfl
theorem mvD_inj {n : Nat} {f g : Nat → Nat} : mvD n f = mvD n g ↔ ∀ y, y < n → f y = g y := by
  rw [mvD_wD, mvD_wD, wD_inj]
  refine ⟨fun h y hy => ?_, fun h => List.map_congr_left fun y hy => by rw [h y (List.mem_range.mp hy)]⟩
  have e := congrArg (fun l => l[y]?) h
  simp [hy] at e
  omega
theorem pl_mvD (n : Nat) (f : Nat → Nat) : (mvD n f).pl = true := by rw [mvD_wD]; exact pl_wD _
theorem dep_mvD (n : Nat) (f : Nat → Nat) : (mvD n f).dep = 1 := by rw [mvD_wD]; exact dep_wD _
end Mv

set_option Elab.async false
set_option linter.all false
set_option maxRecDepth 100000
set_option maxHeartbeats 4000000
/-! Mv25: calls by names alone, in any order: f(b=.., a=..). -/
namespace Mv
open PySem PySem.Spec PyProof.Rows L2
/-- the items of l at the places of o -/
def permL {α : Type} (o : List Nat) (l : List α) : List α := o.filterMap fun i => l[i]?
theorem relAt {vs : List V} {us : List Value} (r : Vals vs us) (i : Nat) : (vs[i]? = none ∧ us[i]? = none) ∨ ∃ v u, vs[i]? = some v ∧ us[i]? = some u ∧ RelV v u := by
  induction r generalizing i with
  | nil => exact .inl ⟨rfl, rfl⟩
  | cons a r ih =>
    cases i with
    | zero => exact .inr ⟨_, _, rfl, rfl, a⟩
    | succ i => exact ih i
theorem relPerm {vs : List V} {us : List Value} (r : Vals vs us) : ∀ o : List Nat, Vals (permL o vs) (permL o us)
  | [] => .nil
  | i :: o => by
    unfold permL
    rw [List.filterMap_cons, List.filterMap_cons]
    rcases relAt r i with ⟨e1, e2⟩ | ⟨v, u, e1, e2, q⟩
    · rw [e1, e2]; exact relPerm r o
    · rw [e1, e2]; exact .cons q (relPerm r o)
theorem allPerm {K : Fg} {r : List Addr} {H : Hp} {vs : List V} {ds : List D} (h : VAll K r H vs ds) : ∀ o : List Nat, VAll K r H (permL o vs) (permL o ds)
  | [] => .nil
  | i :: o => by
    unfold permL
    rw [List.filterMap_cons, List.filterMap_cons]
    cases e : ds[i]? with
    | none =>
      have e2 : vs[i]? = none := List.getElem?_eq_none (by rw [h.length]; exact List.getElem?_eq_none_iff.mp e)
      rw [e2]; exact allPerm h o
    | some d =>
      obtain ⟨v, e2, q⟩ := h.get e
      rw [e2]; exact .cons q (allPerm h o)
/-- a def takes its parameters by their names, told in the order ks; o says where each stands -/
def ByName (fd : FuncData) (ps ks : List Str) (o : List Nat) : Prop := ∀ us : List Value, us.length = ks.length → (permL o us).length = ps.length ∧ bindArgs fd ⟨[], ks.zip us⟩ = pure (ps.zip (permL o us))
theorem byName_of {K : Fg} {x qual : Str} {st : Stmt} {f : Addr} {fd : FuncData} {ps ks : List Str} {o : List Nat} (Fu : Fun K x qual st f fd)
    (h : ∀ (kV doc pm : Value) (an : Option Addr) (cdv ct : Value) (us : List Value), us.length = ks.length → (permL o us).length = ps.length ∧ bindArgs (PySem.W.fnOf x qual (defArgs st) (defBody st) (defScope st) .none kV doc pm an cdv ct) ⟨[], ks.zip us⟩ = pure (ps.zip (permL o us))) : ByName fd ps ks o := by
  obtain ⟨_, _, kV, doc, pm, an, cdv, ct, _, e, _, _⟩ := Fu.ex
  subst e
  exact fun us hl => h kV doc pm an cdv ct us hl
/-- the keywords' values -/
structure AK (X : Cx) (kws : List Keyword) (ta : TA) (f : FA) : Prop where
  pe : PK X kws ta
  ok : AOk X.K ta f
theorem ak_nil {X : Cx} : AK X [] tNil fNil := ⟨pk_nil, aNil⟩
theorem ak_cons {X : Cx} {e : Expr} {te : TE} {fe : FE} {kws : List Keyword} {ta : TA} {fa : FA} {nm : Option Str} {kpos : Pos} (h : E X e te fe) (hr : AK X kws ta fa) : AK X (⟨nm, e, kpos⟩ :: kws) (tCons te ta) (fCons fe fa) := ⟨pk_cons h.pe hr.pe, aCons h.ok hr.ok⟩
/-- what is known of a def that is called by names -/
structure KnN (P : Program) (w : World) (K : Fg) (mg : Str → Option Value) (base : Heap) (x : Str) (k : Nat) (ps ks : List Str) (o : List Nat) (F : GN) : Prop where
  ex : ∃ f fd, FnG P w K mg base CX0 k f fd ps (spG K F) ∧ mg x = some (.ref f) ∧ PySem.W.keepIn K (.ref f) = true ∧ ByName fd ps ks o
section
variable {X : Cx} {k : Nat} {f : Addr} {fd : FuncData} {ps ks : List Str} {o : List Nat} {sp : Sp} {x : Str} {p pos : Pos} {kws : List Keyword} {tk : TA} {fa : FA} {F : GN}
def tNamed (sp : Sp) (n : Nat) (o : List Nat) (E : XK) (tk : TA) : TE := fun σ H Q => tk σ H fun vs H1 => vs.length = n ∧ sp (permL o vs) H1 Q E
theorem pe_named (Fn : FnG X.prog X.w X.K X.mg X.base CX0 k f fd ps sp) (hr : Room k X.A) (hG : X.A.guards = some []) (hm : X.mg x = some (.ref f)) (hk : PySem.W.keepIn X.K (.ref f) = true) (hb : ByName fd ps ks o) (hg : Gl X x) (ha : PK X kws tk)
    (hall : (backToKw pos (keywordEach kws X.env)).all (·.1.isSome) = true := by rfl) (hks : (backToKw pos (keywordEach kws X.env)).filterMap (·.1) = ks := by rfl) (hdb : (x == ("__debug__" : Str)) = false := by decide)
    (hpl : ((backTo pos (starEach [] X.env)).any (·.1) || (backToKw pos (keywordEach kws X.env)).any (·.1.isNone)) = false := by rfl) :
    PE X (.Call (.Name x p) [] kws pos) (tNamed sp ks.length o E0 tk) := by
  constructor
  intro pins s σ H Q I h
  refine wpAny_Call_Name_kw (ld_glob I hg hm (PySem.W.callWith_KW0 (h₀ := X.base) I.ok.mod.kin hk hall (thn (ha.run pos pins s σ H _ I h) ?_) hpl) hdb)
  rintro us s1 ⟨vs, H1, I1, r, many, q⟩
  refine ⟨I1.kIn, ?_⟩
  rw [hks]
  obtain ⟨_, bound⟩ := hb us (r.length ▸ many)
  have went := Fn.goes X.A hr hG X.stack s1 H1 I1.env0 ⟨[], ks.zip us⟩ (permL o us) (.of_eq bound) (permL o vs) (relPerm r o) Q E0 q
  refine wpAny_call (codeAny_mono went fun res s2 got => ?_)
  cases res with
  | error e => exact pass0 pins σ H1 s1 e s2 I1 got
  | ok fl =>
    cases fl with
    | ret u => exact I1.after got
    | next => exact got.elim
    | brk => exact got.elim
    | cont => exact got.elim
/-- the values as they are told, put in the parameters' order -/
def fOrd (n : Nat) (o : List Nat) (fa : FA) : FA := fun e m => (fa e m).bind fun p => if p.1.length = n then some (permL o p.1, p.2) else none
theorem e_named {n : Nat} (kn : KnN X.prog X.w X.K X.mg X.base x k ps ks o F) (hr : Room k X.A) (hG : X.A.guards = some []) (ha : AK X kws tk fa) (hg : Gl X x := by rfl)
    (hall : (backToKw pos (keywordEach kws X.env)).all (·.1.isSome) = true := by rfl) (hks : (backToKw pos (keywordEach kws X.env)).filterMap (·.1) = ks := by rfl) (hdb : (x == ("__debug__" : Str)) = false := by decide)
    (hpl : ((backTo pos (starEach [] X.env)).any (·.1) || (backToKw pos (keywordEach kws X.env)).any (·.1.isNone)) = false := by rfl)
    (hn : ks.length = n := by rfl) : E X (.Call (.Name x p) [] kws pos) (tNamed (spG X.K F) n o E0 tk) (fCall F (fOrd n o fa)) := by
  subst hn
  obtain ⟨f, fd, h1, h2, h3, h4⟩ := kn.ex
  refine ⟨pe_named h1 hr hG h2 h3 h4 hg ha.pe hall hks hdb hpl, fun r σ H e m d m' hs hm hf Q go => ?_⟩
  obtain ⟨⟨es, m1⟩, g0, hf⟩ := bindE hf
  obtain ⟨⟨ds, m2⟩, g1, g0⟩ := bindE g0
  obtain ⟨g2, g0⟩ := iteE g0
  cases g0
  exact ha.ok r σ H e m ds m2 hs hm g1 _ fun r1 vs H1 x1 hm2 hv1 => ⟨hv1.length.trans g2, r1, permL o ds, m2, d, m', allPerm hv1 o, hm2, hf, go.step x1⟩
end
end Mv

set_option Elab.async false
set_option linter.all false
set_option maxRecDepth 100000
set_option maxHeartbeats 4000000
/-! Mv26: sorted of a list of ints, of a dict with int keys. -/
namespace Mv
open PySem PySem.Spec PyProof.Rows L2
/-- ints, rising -/
def srtI (ns : List Int) : List Int := ns.mergeSort fun a b => decide (a ≤ b)
theorem srtI_perm (ns : List Int) : (srtI ns).Perm ns := List.mergeSort_perm _ _
theorem srtI_up (ns : List Int) : (srtI ns).Pairwise (· ≤ ·) := by
  have h := List.pairwise_mergeSort (le := fun a b : Int => decide (a ≤ b)) (fun a b c p q => by simp at p q ⊢; omega) (fun a b => by simp; omega) ns
  exact h.imp fun q => by simpa using q
theorem srtI_only {ns ms : List Int} (h : ms.Perm ns) (u : ms.Pairwise (· ≤ ·)) : ms = srtI ns :=
  List.Perm.eq_of_pairwise (le := fun a b : Int => a ≤ b) (fun a b _ _ p q => by omega) u (srtI_up ns) (h.trans (srtI_perm ns).symm)
/-- keys that are ints all -/
def keysI : List Key → Option (List Int)
  | [] => some []
  | .inl i :: ks => (keysI ks).map (i :: ·)
  | .inr _ :: _ => none
theorem keysI_ok : ∀ {ks : List Key} {ns : List Int}, keysI ks = some ns → ks = ns.map Sum.inl
  | [], ns, h => by cases h; rfl
  | .inl i :: ks, ns, h => by
    obtain ⟨q, h1, h2⟩ := mapE h
    subst h2
    rw [keysI_ok h1]; rfl
  | .inr _ :: _, _, h => by cases h
theorem keysI_map : ∀ ns : List Int, keysI (ns.map Sum.inl) = some ns
  | [] => rfl
  | n :: ns => by
    show (keysI (ns.map Sum.inl)).map (n :: ·) = _
    rw [keysI_map ns]; rfl
def rSort (K : Fg) : List V → Hp → VK → Prop := fun vs H Q => rSortedI K vs H Q ∨ ∃ (a : Addr) (kvs : List (Key × V)) (ks : List Int), vs = [.ref a] ∧ Rd H a (.dK kvs) ∧ kvs.map (·.1) = ks.map Sum.inl ∧ ks.length < 64 ∧
    ∀ (ys : List Int) (p : Addr), ys.Perm ks → ys.Pairwise (· ≤ ·) → H p = none → Q (.ref p) (upd H p (.lst (ys.map V.int)))
theorem call_sort {X : Cx} (hc : X.calm = true) : CallR X (.builtin "sorted") (rSort X.K) := cr_sortedI.or (call_sortedDI hc)
def gSorted : GN := fun ds m => match ds with
  | [.loc l] => match m[l]? with
    | some (.lst xs) => (asIs xs).map fun ns => (.loc m.length, m ++ [.lst ((srtI ns).map D.int)])
    | some (.dK ks _) => (keysI ks).bind fun ns => if ns.length < 64 then some (.loc m.length, m ++ [.lst ((srtI ns).map D.int)]) else none
    | _ => none
  | _ => none
theorem gSorted_ok {K : Fg} : RNOk K (rSort K) gSorted := fun r H m xs ds d m' hm hx hg Q go => by
  unfold gSorted at hg
  split at hg
  · rename_i l
    obtain ⟨v, rfl, hv⟩ := hx.one
    obtain ⟨a, rfl, ha⟩ := hv.locE
    split at hg
    · rename_i ys q
      obtain ⟨ns, h1, hg⟩ := mapE hg
      cases hg
      obtain ⟨vs, hs, hw⟩ := hm.rd ha (rd_of q)
      have e := asIs_ok h1
      subst e
      have ev := hw.ints
      subst ev
      refine .inl ⟨a, ns, rfl, hs, fun ms p h u hp => ?_⟩
      rw [srtI_only h u]
      exact go.newLst hm (VAll.ofInts _) hp
    · rename_i ks ys q
      obtain ⟨ns, h1, hg⟩ := bindE hg
      obtain ⟨h2, hg⟩ := iteE hg
      cases hg
      obtain ⟨b, hb, vs, hd, hl, hw⟩ := hm.cell l _ q
      have e : b = a := by rw [ha] at hb; exact (Option.some.inj hb).symm
      subst e
      have ek := keysI_ok h1
      refine .inr ⟨b, ks.zip vs, ns, rfl, .inl hd, ?_, h2, fun ms p h u hp => ?_⟩
      · rw [← ek]
        exact List.map_fst_zip (by rw [hw.length, hl]; exact Nat.le_refl _)
      · rw [srtI_only h u]
        exact go.newLst hm (VAll.ofInts _) hp
    · cases hg
  · cases hg
end Mv

set_option Elab.async false
set_option linter.all false
set_option maxRecDepth 100000
set_option maxHeartbeats 4000000
/-! Mv27: for x, y in zip(t, u), both tuples. -/
namespace Mv
open PySem PySem.Spec PyProof.Rows L2
open RZ (iZipA pi_zipA)
/-- side by side, till one ends -/
def zipD : List D → List D → List D
  | x :: xs, y :: ys => .tup [x, y] :: zipD xs ys
  | _, _ => []
theorem zipD_length : ∀ (xs ys : List D), (zipD xs ys).length = min xs.length ys.length
  | [], ys => by simp [zipD]
  | _ :: _, [] => by simp [zipD]
  | x :: xs, y :: ys => by
    show (zipD xs ys).length + 1 = _
    rw [zipD_length xs ys, List.length_cons, List.length_cons]; omega
theorem zipD_get : ∀ (xs ys : List D) (i : Nat) (d : D), (zipD xs ys)[i]? = some d → ∃ x y, xs[i]? = some x ∧ ys[i]? = some y ∧ d = .tup [x, y]
  | [], _, _, _, h => by simp [zipD] at h
  | _ :: _, [], _, _, h => by simp [zipD] at h
  | x :: xs, y :: ys, 0, d, h => by
    have h' : some (D.tup [x, y]) = some d := h
    cases h'
    exact ⟨x, y, rfl, rfl, rfl⟩
  | x :: xs, y :: ys, i + 1, d, h => zipD_get xs ys i d h
noncomputable def fZip (fa : FA) : FI := fun e m => (fa e m).bind fun p => match p.1 with
  | [.tup xs, .tup ys] => some (⟨zipD xs ys, none⟩, p.2)
  | _ => none
theorem i_zipT {X : Cx} {a b : Expr} {ta : TA} {fa : FA} {p pos tpos : Pos} {elts : List Expr} {kk : Nat} (hm : X.mg "zip" = none) (h : A X [a, b] ta fa) (hg : Gl X "zip" := by rfl) (hs : starEach [a, b] X.env = (false, eval a X.env) :: starEach [b] X.env := by rfl) (hpl : (backTo pos (starEach [b] X.env)).any (·.1) = false := by rfl) :
    I X (.Tuple elts kk tpos) (.Call (.Name "zip" p) [a, b] [] pos) (iZipA X.K ta) (fZip fa) := ⟨pi_zipA hg hm h.pe hs hpl, fun r σ H e m s m1 hs hm hf R go => by
  obtain ⟨⟨ds, m2⟩, h1, hf⟩ := bindE hf
  split at hf
  · rename_i xs ys q
    have q' : ds = [.tup xs, .tup ys] := q
    subst q'
    cases hf
    refine h.ok r σ H e m _ _ hs hm h1 _ fun r1 vs H1 x1 hm1 hv1 => ?_
    obtain ⟨v, w, rfl, hv, hw⟩ := hv1.two
    obtain ⟨c, us, rfl, hc, hu⟩ := hv.tupE
    obtain ⟨d, zs, rfl, hd, hz⟩ := hw.tupE
    refine ⟨c, d, us, zs, rfl, .inr ⟨hc.sq, hd.sq, go r1 H1 _ x1 hm1 trivial fun i r2 H2 m3 x2 hm2 hl => ?_⟩⟩
    have hc2 : TupAt X.K H2 c us := hc.ext x2
    have hd2 : TupAt X.K H2 d zs := hd.ext x2
    have hu2 := hu.mono x2
    have hz2 := hz.mono x2
    refine ⟨fun hi => ⟨us, zs, hc2.sq, hd2.sq, ?_⟩, fun g hgt => ?_⟩
    · have hi' : (zipD xs ys).length ≤ i := hi
      rw [zipD_length] at hi'
      rw [hu2.length, hz2.length]
      omega
    · obtain ⟨x, y, g1, g2, rfl⟩ := zipD_get xs ys i g hgt
      obtain ⟨v1, p1, p2⟩ := hu2.get g1
      obtain ⟨w1, p3, p4⟩ := hz2.get g2
      refine ⟨⟨us, zs, v1, w1, hc2.sq, hd2.sq, p1, p3⟩, fun o H' yl => ?_⟩
      obtain ⟨t, o1, o2, e1, e2, e3, e4, e5⟩ := yl
      have ez : some v1 = some o1 := p1.symm.trans (e4 us hc2.sq)
      cases ez
      have ez2 : some w1 = some o2 := p3.symm.trans (e5 zs hd2.sq)
      cases ez2
      subst e1; subst e3
      exact ⟨Ext.fresh e2, hm2.fresh e2, .tup (.inl upd_same) (.cons (p2.mono (Ext.fresh e2)) (.cons (p4.mono (Ext.fresh e2)) .nil))⟩
  · cases hf⟩
end Mv

set_option Elab.async false
set_option linter.all false
set_option maxRecDepth 100000
set_option maxHeartbeats 4000000
/-! Mv28: a class made by its parameters' names: C(b=.., a=..). -/
namespace Mv
open PySem PySem.Spec PyProof.Rows L2
/-- __init__ takes all but self by their names, told in the order ks -/
def ByNameC (fd : FuncData) (ps ks : List Str) (o : List Nat) : Prop := ∀ (u : Value) (us : List Value), us.length = ks.length → bindArgs fd ⟨[u], ks.zip us⟩ = pure (ps.zip (u :: permL o us))
theorem byNameC_of {K : Fg} {x qual : Str} {st : Stmt} {f : Addr} {fd : FuncData} {ps ks : List Str} {o : List Nat} (Fu : Fun K x qual st f fd)
    (h : ∀ (kV doc pm : Value) (an : Option Addr) (cdv ct u : Value) (us : List Value), us.length = ks.length → bindArgs (PySem.W.fnOf x qual (defArgs st) (defBody st) (defScope st) .none kV doc pm an cdv ct) ⟨[u], ks.zip us⟩ = pure (ps.zip (u :: permL o us))) : ByNameC fd ps ks o := by
  obtain ⟨_, _, kV, doc, pm, an, cdv, ct, _, e, _, _⟩ := Fu.ex
  subst e
  exact fun u us hl => h kV doc pm an cdv ct u us hl
/-- what is known of a class that is made by names -/
structure KnCN (P : Program) (w : World) (K : Fg) (mg : Str → Option Value) (base : Heap) (x : Str) (k : Nat) (ps ks : List Str) (o : List Nat) (F : GN) : Prop where
  ex : ∃ C f fd, ClsAt K x C ∧ Mk K C f ∧ FnG P w K mg base CX0 k f fd ps (spG K F) ∧ mg x = some (.ref C) ∧ ByNameC fd ps ks o
section
variable {X : Cx} {k : Nat} {f C : Addr} {fd : FuncData} {ps ks : List Str} {o : List Nat} {sp : Sp} {x : Str} {p pos : Pos} {kws : List Keyword} {tk : TA}
/-- .. as told, put in order -/
def tOrd (n : Nat) (o : List Nat) (tk : TA) : TA := fun σ H Q => tk σ H fun vs H1 => vs.length = n ∧ Q (permL o vs) H1
theorem pe_makeNamed (M : Mk X.K C f) (F : FnG X.prog X.w X.K X.mg X.base CX0 k f fd ps sp) (hr : Room (k + 1) X.A) (hG : X.A.guards = some []) (hg : Gl X x) (hm : X.mg x = some (.ref C)) (hb : ByNameC fd ps ks o) (ha : PK X kws tk)
    (hall : (backToKw pos (keywordEach kws X.env)).all (·.1.isSome) = true := by rfl) (hks : (backToKw pos (keywordEach kws X.env)).filterMap (·.1) = ks := by rfl) (hdb : (x == ("__debug__" : Str)) = false := by decide)
    (hpl : ((backTo pos (starEach [] X.env)).any (·.1) || (backToKw pos (keywordEach kws X.env)).any (·.1.isNone)) = false := by rfl) :
    PE X (.Call (.Name x p) [] kws pos) (tMakeG C sp E0 (tOrd ks.length o tk)) := by
  constructor
  intro pins s σ H Q I h
  refine wpAny_Call_Name_kw (ld_glob I hg hm (PySem.W.callWith_KW0 (h₀ := X.base) I.ok.mod.kin M.kp hall (thn (ha.run pos pins s σ H _ I h) ?_) hpl) hdb)
  rintro us s1 ⟨vs, H1, I1, r, told, q⟩
  refine ⟨I1.kIn, ?_⟩
  rw [hks]
  have many : us.length = ks.length := r.length ▸ told
  let self := s1.heap.objs.size + 1
  have q1 := q self s1.heap.objs.size (I1.hok.fresh (Nat.le_succ _)) (I1.hok.fresh (Nat.le_refl _)) (Nat.ne_of_lt (Nat.lt_succ_self _))
  have all : Vals (V.ref self :: permL o vs) (Value.ref self :: permL o us) := .cons rfl (relPerm r o)
  have J := Inv.made (C := C) I1
  have went := F.goes _ (hr.make C [] (ks.zip us)) (make_guards hG) X.stack _ _ (J.env0.make C [] (ks.zip us)) ⟨[Value.ref self], ks.zip us⟩ (Value.ref self :: permL o us) (.of_eq (hb _ us many)) _ all _ E0 q1
  refine wpAny_call (make_map (f := f) I1.kIn M.makes M.init (beq_iff_eq.mp M.fn) (codeAny_mono went fun res s2 got => ?_))
  cases res with
  | error e => exact pass0 pins σ _ _ e s2 J got
  | ok fl =>
    cases fl with
    | ret u =>
      obtain ⟨v, H2, J2, rv, ev, q2⟩ := J.after got
      subst ev
      exact ⟨rv, V.ref self, H2, J2, rfl, q2⟩
    | next => exact got.elim
    | brk => exact got.elim
    | cont => exact got.elim
end
theorem ordOk {K : Fg} {t : TA} {fa : FA} {n : Nat} {o : List Nat} (h : AOk K t fa) : AOk K (tOrd n o t) (fOrd n o fa) := fun r σ H e m ds m' hs hm hf Q go => by
  obtain ⟨⟨es, m1⟩, g1, hf⟩ := bindE hf
  obtain ⟨g2, hf⟩ := iteE hf
  cases hf
  exact h r σ H e m es m1 hs hm g1 _ fun r1 vs H1 x1 hm1 hv1 => ⟨hv1.length.trans g2, go r1 (permL o vs) H1 x1 hm1 (allPerm hv1 o)⟩
theorem e_makeNamed {X : Cx} {k : Nat} {ps ks : List Str} {o : List Nat} {len : Nat} {F : GN} {n : Str} {p pos : Pos} {kws : List Keyword} {t : TA} {fa : FA} (kn : KnCN X.prog X.w X.K X.mg X.base n k ps ks o F) (hr : Room (k + 1) X.A) (hG : X.A.guards = some []) (ha : AK X kws t fa) (hg : Gl X n := by rfl)
    (hall : (backToKw pos (keywordEach kws X.env)).all (·.1.isSome) = true := by rfl) (hks : (backToKw pos (keywordEach kws X.env)).filterMap (·.1) = ks := by rfl) (hdb : (n == ("__debug__" : Str)) = false := by decide)
    (hpl : ((backTo pos (starEach [] X.env)).any (·.1) || (backToKw pos (keywordEach kws X.env)).any (·.1.isNone)) = false := by rfl)
    (hn : ks.length = len := by rfl) : E X (.Call (.Name n p) [] kws pos) (tMakeN X.K n (spG X.K F) E0 (tOrd len o t)) (fMake n F (fOrd len o fa)) := by
  subst hn
  obtain ⟨C, f, fd, hc, M, Fn, hm, hb⟩ := kn.ex
  refine ⟨⟨fun pins s σ H Q I h => ?_⟩, fun r σ H e m d m' hs hmm hf Q go => ⟨C, hc, makeOk hc (ordOk ha.ok) r σ H e m d m' hs hmm hf Q go⟩⟩
  obtain ⟨C', hc', h⟩ := h
  have ec := hc'.inj hc
  subst ec
  exact (pe_makeNamed M Fn hr hG hg hm hb ha.pe hall hks hdb hpl).run pins s σ H Q I h
end Mv

set_option Elab.async false
set_option linter.all false
set_option maxRecDepth 100000
set_option maxHeartbeats 4000000
/-! Mv29: x += e, x -= e of ints. -/
namespace Mv
open PySem PySem.Spec PyProof.Rows L2
/-- the name in slot i, told anew by f of what it was and of e's value -/
def fsAug (f : Int → Int → Int) (i : Nat) (fe : FE) : FS := fun e m => (e[i]?.join).bind fun d => (fe e m).bind fun p => match d, p.1 with
  | .int a, .int b => some (.nx (e.set i (some (.int (f a b)))) p.2)
  | _, _ => none
theorem s_aug {X : Cx} (i : Nat) {x : Str} {a : Expr} {te : TE} {fe : FE} {op : Operator} {f : Int → Int → Int} {pos pos' : Pos} (ho : PIp X op (ipI f)) (hN : X.N.Nodup) (h : E X a te fe) (hi : X.N[i]? = some x := by rfl) (hx : Loc X.env.scope x := by first | exact Or.inl rfl | exact Or.inr rfl)
    (hf : X.fn x = true ∨ X.env.scope.names.lookup x = some .local := by first | exact .inl rfl | exact .inr rfl) : S X (.AugAssign (.Name x pos') op a pos) (tAug i te (ipI f)) (fsAug f i fe) := ⟨ps_aug hN hi hx h.pe ho hf, fun r σ H e m o hs hm hg B go => by
  obtain ⟨d, q0, hg⟩ := bindE hg
  obtain ⟨⟨g, m1⟩, q1, hg⟩ := bindE hg
  have q0' : e[i]? = some (some d) := by
    cases z : e[i]? with
    | none => rw [z] at q0; cases q0
    | some y => rw [z] at q0; exact congrArg some q0
  obtain ⟨v, l1, l2⟩ := hs.2 i d q0'
  split at hg
  · rename_i u w e1 _
    have e1' : g = .int w := e1
    subst e1'
    cases hg
    refine ⟨v, l1, h.ok r σ H e m _ m1 hs hm q1 _ fun r1 y H1 x1 hm1 hv1 => ?_⟩
    exact ⟨u, w, l2.intE, hv1.intE, go r1 _ H1 x1 ((hs.mono x1).set i (.int _)) hm1⟩
  · cases hg⟩
end Mv

set_option Elab.async false
set_option linter.all false
set_option maxRecDepth 100000
set_option maxHeartbeats 4000000
/-! Mv30: sum and sorted of a list of ints that is just made. -/
namespace Mv
open PySem PySem.Spec PyProof.Rows L2
def gSum : GN := fun xs m => (asIs xs).map fun ns => (.int ns.sum, m)
theorem gSum_ok {K : Fg} : ROnOk K (rSum K) gSum := fun r H m p vs xs d m' hm hp hq hv hg Q go => by
  obtain ⟨ns, h1, hg⟩ := mapE hg
  cases hg
  have e := asIs_ok h1
  subst e
  have e2 := hv.ints
  subst e2
  exact ⟨p, ns, rfl, .of hq, go.here hm (.int _)⟩
def gSortedN : GN := fun xs m => (asIs xs).map fun ns => (.loc m.length, m ++ [.lst ((srtI ns).map D.int)])
theorem gSortedN_ok {K : Fg} : ROnOk K (rSort K) gSortedN := fun r H m p vs xs d m' hm hp hq hv hg Q go => by
  obtain ⟨ns, h1, hg⟩ := mapE hg
  cases hg
  have e := asIs_ok h1
  subst e
  have e2 := hv.ints
  subst e2
  refine .inl ⟨p, ns, rfl, .of hq, fun ms p' h u hp' => ?_⟩
  rw [srtI_only h u]
  exact go.newLst hm (VAll.ofInts _) hp'
end Mv

set_option Elab.async false
set_option linter.all false
set_option maxRecDepth 100000
set_option maxHeartbeats 4000000
/-! Mv31: len of dicts too. -/
namespace Mv
open PySem PySem.Spec PyProof.Rows L2
/-- the many keys of a dict that stands at a place -/
def manyK (m : Mem) (l : Nat) : Option Nat := match m[l]? with
  | some (.dK ks _) => some ks.length
  | some (.dT ks _) => some ks.length
  | _ => none
def gLenD : GN := fun ds m => match ds with
  | [.loc l] => match manyK m l with
    | some n => some (.int (n : Nat), m)
    | none => gLen [.loc l] m
  | ds => gLen ds m
def rLenD (K : Fg) : List V → Hp → VK → Prop := fun vs H Q => (∃ x n, vs = [x] ∧ LenV K x H n ∧ Q (.int n) H) ∨ (∃ a kvs, vs = [V.ref a] ∧ H a = some (.dK kvs) ∧ Q (.int kvs.length) H) ∨ rLenT vs H Q
theorem call_lenA {X : Cx} : CallR X (.builtin "len") (rLenD X.K) := call_len.or (call_lenD.or call_len_dT)
theorem gLenD_ok {K : Fg} : RNOk K (rLenD K) gLenD := fun r H m vs ds d m' hm hx hg Q go => by
  unfold gLenD at hg
  split at hg
  · rename_i l
    split at hg
    · rename_i n q
      cases hg
      obtain ⟨v, rfl, hv⟩ := hx.one
      obtain ⟨a, rfl, ha⟩ := hv.locE
      unfold manyK at q
      split at q
      · rename_i ks xs z
        cases q
        obtain ⟨b, hb, ws, e, hl, hw⟩ := hm.cell l _ z
        rw [ha] at hb; cases hb
        have hz : (ks.zip ws).length = ks.length := by rw [List.length_zip, hw.length, ← hl, Nat.min_self]
        exact .inr (.inl ⟨_, _, rfl, e, by rw [hz]; exact go.here hm (.int _)⟩)
      · rename_i ks xs z
        cases q
        obtain ⟨b, hb, ws, e, hl, hw⟩ := hm.cell l _ z
        rw [ha] at hb; cases hb
        have hz : (ks.zip ws).length = ks.length := by rw [List.length_zip, hw.length, ← hl, Nat.min_self]
        exact .inr (.inr ⟨_, _, rfl, e, by rw [hz]; exact go.here hm (.int _)⟩)
      · cases q
    · exact .inl (gLen_ok r H m vs _ d m' hm hx hg Q go)
  · exact .inl (gLen_ok r H m vs _ d m' hm hx hg Q go)
end Mv

set_option Elab.async false
set_option linter.all false
set_option maxRecDepth 100000
set_option maxHeartbeats 4000000
/-! k01: each def's body by the rules; printed by gen.py. -/
namespace k01
open PySem PySem.Spec PyProof.Rows L2 Mv
def fuel : Nat := 100
/-- what the module's names stand for -/
structure Tz (K : Fg) (mg : Str → Option Value) : Prop where
  z_abs : mg "abs" = none
  z_all : mg "all" = none
  z_any : mg "any" = none
  z_bool : mg "bool" = none
  z_divmod : mg "divmod" = none
  z_enumerate : mg "enumerate" = none
  z_int : mg "int" = none
  z_isinstance : mg "isinstance" = none
  z_len : mg "len" = none
  z_list : mg "list" = none
  z_max : mg "max" = none
  z_min : mg "min" = none
  z_range : mg "range" = none
  z_repr : mg "repr" = none
  z_set : mg "set" = none
  z_str : mg "str" = none
  z_tuple : mg "tuple" = none
  c_MOST_POINTS : ∃ t, mg "MOST_POINTS" = some (.int 60 t)
  f_lcm : mg "lcm" = some (.builtin "math.lcm")
def cenv : CEnv := ⟨[], [], []⟩
def topS (i : Nat) : Stmt := PySem.Challenge.pw_movegroups_k01_moves_told_and_made.main.body.getD i (.Pass ⟨0, 0, 0, 0⟩)
/-! ### is_whole -/
abbrev s_is_whole : Stmt := topS 8
abbrev N_is_whole : List Str := ["thing"]
theorem nd_is_whole : (N_is_whole).Nodup := by decide +kernel
theorem sc_is_whole : FnScope N_is_whole ["thing"] (defScope s_is_whole) := ⟨rfl, rfl, rfl, nd_is_whole, rfl, by decide +kernel, by decide +kernel⟩
noncomputable def g_is_whole : FS := (fsRet (fAnd (fCall (gIsiC cenv) (fCons (fVar 0) (fCons (fC (.ty "int")) fNil))) (fNot (fCall (gIsiC cenv) (fCons (fVar 0) (fCons (fC (.ty "bool")) fNil))))))
theorem b_is_whole {P : Program} {w : World} {K : Fg} {mg : Str → Option Value} {base : Heap} (T : Tz K mg) (TC : CEnvOk K cenv) {f : Addr} (cdv : Value) (A : Around) (outer : List Env) (s : Shared) (H : Hp) (EX : XK) (hr : Room 0 (A.deeper (envOfC "is_whole" (defScope s_is_whole) s.heap.objs.size f cdv))) (hG : A.guards = some []) :
    ∃ ts, Ss (cxOf CX0 P w K mg base N_is_whole "is_whole" (defScope s_is_whole) f cdv A outer s H EX).nox (defBody s_is_whole) ts (g_is_whole) := by
  have hu := hr.units
  exact ⟨_, (ss_one (s_ret (e_and (e_cB call_isi (gIsiC_ok TC) T.z_isinstance rfl (a_cons (e_var 0) (a_cons (e_ty T.z_int rfl) a_nil))) (e_one (e_not (e_cB call_isi (gIsiC_ok TC) T.z_isinstance rfl (a_cons (e_var 0) (a_cons (e_ty T.z_bool rfl) a_nil))))))))⟩
/-! ### linked_moves -/
abbrev s_linked_moves : Stmt := topS 21
abbrev N_linked_moves : List Str := ["one", "other", "image"]
theorem nd_linked_moves : (N_linked_moves).Nodup := by decide +kernel
theorem sc_linked_moves : FnScope N_linked_moves ["one", "other"] (defScope s_linked_moves) := ⟨rfl, rfl, rfl, nd_linked_moves, rfl, by decide +kernel, by decide +kernel⟩
noncomputable def lc_linked_moves_1 : FA := fLc (fSeq (fVar 0)) (fName 2) fYes (fOp gIx (fVar 1) (fVar 2)) [2]
noncomputable def g_linked_moves : FS := (fsRet (fOn gTupN (lc_linked_moves_1)))
theorem b_linked_moves {P : Program} {w : World} {K : Fg} {mg : Str → Option Value} {base : Heap} (T : Tz K mg) (TC : CEnvOk K cenv) {f : Addr} (cdv : Value) (A : Around) (outer : List Env) (s : Shared) (H : Hp) (EX : XK) (hr : Room 0 (A.deeper (envOfC "linked_moves" (defScope s_linked_moves) s.heap.objs.size f cdv))) (hG : A.guards = some []) :
    ∃ ts, Ss (cxOf CX0 P w K mg base N_linked_moves "linked_moves" (defScope s_linked_moves) f cdv A outer s H EX).nox (defBody s_linked_moves) ts (g_linked_moves) := by
  have hu := hr.units
  exact ⟨_, (ss_one (s_ret (e_onT call_tuple_of gTupN_ok T.z_tuple rfl (l_lc rfl nd_linked_moves (i_seq (e_var 0)) (blkOk_by (own := [("image", 2)]) rfl) (fun _ _ _ _ _ => (g_name 2 nd_linked_moves)) (fun _ _ _ _ _ => ts_nil) (fun _ _ _ _ _ => E.to (e_ix (e_var 1) (e_var 2)) (by first | rfl | (dsimp only [blkK]; done) | (dsimp only [blkK]; rfl)))))))⟩
/-! ### undone_move -/
abbrev s_undone_move : Stmt := topS 22
abbrev N_undone_move : List Str := ["one", "points", "point", "image"]
theorem nd_undone_move : (N_undone_move).Nodup := by decide +kernel
theorem sc_undone_move : FnScope N_undone_move ["one"] (defScope s_undone_move) := ⟨rfl, rfl, rfl, nd_undone_move, rfl, by decide +kernel, by decide +kernel⟩
noncomputable def lb_undone_move_1 : FS := (fsAsg (fVar 2) (fSub (fVar 1) (fVar 3)))
noncomputable def lp_undone_move_1 : FS := fsFor (fEnum (fVar 0)) (fTupG 2 (fsCons (fName 2) (fsCons (fName 3) fsNil))) (lb_undone_move_1)
noncomputable def g_undone_move : FS := (fsSeq (fsAsg (fOp gMul (fPut (fLst (fCons (fC (.int 0)) fNil))) (fCall gLen (fCons (fVar 0) fNil))) (fName 1)) (fsSeq (lp_undone_move_1) (fsRet (fCall gTupOf (fCons (fVar 1) fNil)))))
theorem b_undone_move {P : Program} {w : World} {K : Fg} {mg : Str → Option Value} {base : Heap} (T : Tz K mg) (TC : CEnvOk K cenv) {f : Addr} (cdv : Value) (A : Around) (outer : List Env) (s : Shared) (H : Hp) (EX : XK) (hr : Room 0 (A.deeper (envOfC "undone_move" (defScope s_undone_move) s.heap.objs.size f cdv))) (hG : A.guards = some []) :
    ∃ ts, Ss (cxOf CX0 P w K mg base N_undone_move "undone_move" (defScope s_undone_move) f cdv A outer s H EX).nox (defBody s_undone_move) ts (g_undone_move) := by
  have hu := hr.units
  exact ⟨_, (ss_cons (s_set 1 nd_undone_move (e_mul (L.put (l_lst (a_cons e_int a_nil))) (e_cB call_len gLen_ok T.z_len rfl (a_cons (e_var 0) a_nil)))) (ss_cons (s_for PassesOwn.never rfl (i_enumT T.z_enumerate (e_var 0)) (g_tup rfl (gs_cons (g_name 2 nd_undone_move) (gs_cons (g_name 3 nd_undone_move) gs_nil))) (ss_one (s_asg (e_var 2) (g_sub (e_var 1) (e_var 3))))) (ss_one (s_ret (e_cT call_tuple_of gTupOf_ok T.z_tuple rfl (a_cons (e_var 1) a_nil))))))⟩
/-! ### _all_rounds -/
abbrev s_all_rounds : Stmt := topS 23
abbrev N_all_rounds : List Str := ["one", "met", "found", "point", "row", "at"]
theorem nd_all_rounds : (N_all_rounds).Nodup := by decide +kernel
theorem sc_all_rounds : FnScope N_all_rounds ["one"] (defScope s_all_rounds) := ⟨rfl, rfl, rfl, nd_all_rounds, rfl, by decide +kernel, by decide +kernel⟩
noncomputable def wt_all_rounds_1 : FT := (fNotT (fTru (fOp gIx (fVar 1) (fVar 5))))
noncomputable def wb_all_rounds_1 : FS := (fsSeq (fsAsg (fC (.bl true)) (fSub (fVar 1) (fVar 5))) (fsSeq (fsDrop (fMeth gAppend (fVar 4) (fCons (fVar 5) fNil))) (fsAsg (fOp gIx (fVar 0) (fVar 5)) (fName 5))))
noncomputable def lb_all_rounds_1 : FS := (fsSeq (fsAsg (fPut (fLst fNil)) (fName 4)) (fsSeq (fsAsg (fVar 3) (fName 5)) (fsSeq (wh (wt_all_rounds_1) (wb_all_rounds_1) fuel) (fsIf (fTru (fVar 4)) (fsDrop (fMeth gAppend (fVar 2) (fCons (fCall gTupOf (fCons (fVar 4) fNil)) fNil))) fsNext))))
noncomputable def lp_all_rounds_1 : FS := fsFor (fRange1 (fCall gLen (fCons (fVar 0) fNil))) (fName 3) (lb_all_rounds_1)
noncomputable def g_all_rounds : FS := (fsSeq (fsAsg (fOp gMul (fPut (fLst (fCons (fC (.bl false)) fNil))) (fCall gLen (fCons (fVar 0) fNil))) (fName 1)) (fsSeq (fsAsg (fPut (fLst fNil)) (fName 2)) (fsSeq (lp_all_rounds_1) (fsRet (fVar 2)))))
theorem b_all_rounds {P : Program} {w : World} {K : Fg} {mg : Str → Option Value} {base : Heap} (T : Tz K mg) (TC : CEnvOk K cenv) {f : Addr} (cdv : Value) (A : Around) (outer : List Env) (s : Shared) (H : Hp) (EX : XK) (hr : Room 0 (A.deeper (envOfC "_all_rounds" (defScope s_all_rounds) s.heap.objs.size f cdv))) (hG : A.guards = some []) :
    ∃ ts, Ss (cxOf CX0 P w K mg base N_all_rounds "_all_rounds" (defScope s_all_rounds) f cdv A outer s H EX).nox (defBody s_all_rounds) ts (g_all_rounds) := by
  have hu := hr.units
  exact ⟨_, (ss_cons (s_set 1 nd_all_rounds (e_mul (L.put (l_lst (a_cons e_bl a_nil))) (e_cB call_len gLen_ok T.z_len rfl (a_cons (e_var 0) a_nil)))) (ss_cons (s_set 2 nd_all_rounds (L.put (l_lst a_nil))) (ss_cons (s_for PassesOwn.never rfl (i_range1 T.z_range (e_cB call_len gLen_ok T.z_len rfl (a_cons (e_var 0) a_nil))) (g_name 3 nd_all_rounds) (ss_cons (s_set 4 nd_all_rounds (L.put (l_lst a_nil))) (ss_cons (s_set 5 nd_all_rounds (e_var 3)) (ss_cons (s_while fuel PassesOwn.never (t_not (t_tru (e_ix (e_var 1) (e_var 5)))) (ss_cons (s_asg e_bl (g_sub (e_var 1) (e_var 5))) (ss_cons (s_expr (e_append (e_var 4) (e_var 5))) (ss_one (s_set 5 nd_all_rounds (e_ix (e_var 0) (e_var 5))))))) (ss_one (s_if (t_tru (e_var 4)) (ss_one (s_expr (e_append (e_var 2) (e_cT call_tuple_of gTupOf_ok T.z_tuple rfl (a_cons (e_var 4) a_nil))))) ss_nil)))))) (ss_one (s_ret (e_var 2))))))⟩
/-! ### _law_cell -/
abbrev s_law_cell : Stmt := topS 25
abbrev N_law_cell : List Str := ["_law_script", "_law_k", "_law_state", "_law_cell_here"]
theorem nd_law_cell : (N_law_cell).Nodup := by decide +kernel
theorem sc_law_cell : FnScope N_law_cell ["_law_script", "_law_k"] (defScope s_law_cell) := ⟨rfl, rfl, rfl, nd_law_cell, rfl, by decide +kernel, by decide +kernel⟩
noncomputable def lb_law_cell_1 : FS := (fsAsg (fOp gMod (fOp gAdd (fOp gMul (fVar 2) (fC (.int 43013))) (fVar 3)) (fC (.int 2147483423))) (fName 2))
noncomputable def lp_law_cell_1 : FS := fsFor (fSeq (fSl (fVar 0) fNoPart (fPart (fC (.int 3))))) (fName 3) (lb_law_cell_1)
noncomputable def g_law_cell : FS := (fsSeq (fsIf (fTest (fOp gLt (fVar 1) (fCall gLen (fCons (fVar 0) fNil)))) (fsRet (fOp gIx (fVar 0) (fVar 1))) fsNext) (fsSeq (fsAsg (fOp gMod (fOp gMul (fC (.int 50021)) (fOp gAdd (fOp gAdd (fOp gMul (fVar 1) (fVar 1)) (fOp gMul (fC (.int 9)) (fVar 1))) (fC (.int 5)))) (fC (.int 2147483423))) (fName 2)) (fsSeq (lp_law_cell_1) (fsRet (fVar 2)))))
theorem b_law_cell {P : Program} {w : World} {K : Fg} {mg : Str → Option Value} {base : Heap} (T : Tz K mg) (TC : CEnvOk K cenv) {f : Addr} (cdv : Value) (A : Around) (outer : List Env) (s : Shared) (H : Hp) (EX : XK) (hr : Room 0 (A.deeper (envOfC "_law_cell" (defScope s_law_cell) s.heap.objs.size f cdv))) (hG : A.guards = some []) :
    ∃ ts, Ss (cxOf CX0 P w K mg base N_law_cell "_law_cell" (defScope s_law_cell) f cdv A outer s H EX).nox (defBody s_law_cell) ts (g_law_cell) := by
  have hu := hr.units
  exact ⟨_, (ss_cons (s_if (t_cmp cm_lt (e_var 1) (e_cB call_len gLen_ok T.z_len rfl (a_cons (e_var 0) a_nil))) (ss_one (s_ret (e_ix (e_var 0) (e_var 1)))) ss_nil) (ss_cons (s_set 2 nd_law_cell (e_mod (e_mul e_int (e_add (e_add (e_mul (e_var 1) (e_var 1)) (e_mul e_int (e_var 1))) e_int)) e_int)) (ss_cons (s_for PassesOwn.never rfl (i_seq (e_sl (e_var 0) o_none (o_some e_int))) (g_name 3 nd_law_cell) (ss_one (s_set 2 nd_law_cell (e_mod (e_add (e_mul (e_var 2) e_int) (e_var 3)) e_int)))) (ss_one (s_ret (e_var 2))))))⟩
/-! ### _law_pool -/
abbrev s_law_pool : Stmt := topS 26
abbrev N_law_pool : List Str := ["_law_cell_here", "_law_digits"]
theorem nd_law_pool : (N_law_pool).Nodup := by decide +kernel
theorem sc_law_pool : FnScope N_law_pool ["_law_cell_here"] (defScope s_law_pool) := ⟨rfl, rfl, rfl, nd_law_pool, rfl, by decide +kernel, by decide +kernel⟩
noncomputable def g_law_pool : FS := (fsSeq (fsAsg (fC (.int 0)) (fName 1)) (fsSeq (fsIf (fOrT (fTest (fOp gLt (fVar 0) (fC (.int 0)))) (fTest (fOp gGe (fVar 0) (fOp gPow (fC (.int 10)) (fC (.int 18)))))) (fsAsg (fCall gAbs (fCons (fVar 0) fNil)) (fName 1)) fsNext) (fsRet (fPut (fLst (fCons (fOp gMod (fVar 0) (fC (.int 2147483423))) (fCons (fVar 1) (fCons (fC (.int 0)) fNil))))))))
theorem b_law_pool {P : Program} {w : World} {K : Fg} {mg : Str → Option Value} {base : Heap} (T : Tz K mg) (TC : CEnvOk K cenv) {f : Addr} (cdv : Value) (A : Around) (outer : List Env) (s : Shared) (H : Hp) (EX : XK) (hr : Room 0 (A.deeper (envOfC "_law_pool" (defScope s_law_pool) s.heap.objs.size f cdv))) (hG : A.guards = some []) :
    ∃ ts, Ss (cxOf CX0 P w K mg base N_law_pool "_law_pool" (defScope s_law_pool) f cdv A outer s H EX).nox (defBody s_law_pool) ts (g_law_pool) := by
  have hu := hr.units
  exact ⟨_, (ss_cons (s_set 1 nd_law_pool e_int) (ss_cons (s_if (TW.t (w_or (t_cmp cm_lt (e_var 0) e_int) (w_or1 (t_cmp cm_ge (e_var 0) (e_pow e_int e_int))))) (ss_one (s_set 1 nd_law_pool (e_cB call_abs gAbs_ok T.z_abs rfl (a_cons (e_var 0) a_nil)))) ss_nil) (ss_one (s_ret (L.put (l_lst (a_cons (e_mod (e_var 0) e_int) (a_cons (e_var 1) (a_cons e_int a_nil)))))))))⟩
/-! ### _law_take -/
abbrev s_law_take : Stmt := topS 27
abbrev N_law_take : List Str := ["_law_pool_here", "_law_many", "_law_state", "_law_digit"]
theorem nd_law_take : (N_law_take).Nodup := by decide +kernel
theorem sc_law_take : FnScope N_law_take ["_law_pool_here", "_law_many"] (defScope s_law_take) := ⟨rfl, rfl, rfl, nd_law_take, rfl, by decide +kernel, by decide +kernel⟩
noncomputable def g_law_take : FS := (fsSeq (fsAsg (fOp gAdd (fOp gIx (fVar 0) (fC (.int 2))) (fC (.int 1))) (fSub (fVar 0) (fC (.int 2)))) (fsSeq (fsAsg (fOp gIx (fVar 0) (fC (.int 0))) (fName 2)) (fsSeq (fsAsg (fOp gMod (fOp gAdd (fOp gMul (fVar 2) (fOp gAdd (fOp gMod (fVar 2) (fC (.int 45007))) (fC (.int 31019)))) (fOp gMul (fC (.int 70009)) (fOp gIx (fVar 0) (fC (.int 2))))) (fC (.int 2147483423))) (fSub (fVar 0) (fC (.int 0)))) (fsSeq (fsIf (fTest (fOp gGt (fOp gIx (fVar 0) (fC (.int 1))) (fC (.int 0)))) (fsSeq (fsAsg (fCall gDivmod (fCons (fOp gIx (fVar 0) (fC (.int 1))) (fCons (fVar 1) fNil))) (fTupG 2 (fsCons (fSub (fVar 0) (fC (.int 1))) (fsCons (fName 3) fsNil)))) (fsRet (fVar 3))) fsNext) (fsRet (fOp gMod (fOp gFDiv (fOp gIx (fVar 0) (fC (.int 0))) (fC (.int 64))) (fVar 1)))))))
theorem b_law_take {P : Program} {w : World} {K : Fg} {mg : Str → Option Value} {base : Heap} (T : Tz K mg) (TC : CEnvOk K cenv) {f : Addr} (cdv : Value) (A : Around) (outer : List Env) (s : Shared) (H : Hp) (EX : XK) (hr : Room 0 (A.deeper (envOfC "_law_take" (defScope s_law_take) s.heap.objs.size f cdv))) (hG : A.guards = some []) :
    ∃ ts, Ss (cxOf CX0 P w K mg base N_law_take "_law_take" (defScope s_law_take) f cdv A outer s H EX).nox (defBody s_law_take) ts (g_law_take) := by
  have hu := hr.units
  exact ⟨_, (ss_cons (s_asg (e_add (e_ix (e_var 0) e_int) e_int) (g_sub (e_var 0) e_int)) (ss_cons (s_set 2 nd_law_take (e_ix (e_var 0) e_int)) (ss_cons (s_asg (e_mod (e_add (e_mul (e_var 2) (e_add (e_mod (e_var 2) e_int) e_int)) (e_mul e_int (e_ix (e_var 0) e_int))) e_int) (g_sub (e_var 0) e_int)) (ss_cons (s_if (t_cmp cm_gt (e_ix (e_var 0) e_int) e_int) (ss_cons (s_asg (e_cB call_divmodW gDivmod_ok T.z_divmod rfl (a_cons (e_ix (e_var 0) e_int) (a_cons (e_var 1) a_nil))) (g_tup rfl (gs_cons (g_sub (e_var 0) e_int) (gs_cons (g_name 3 nd_law_take) gs_nil)))) (ss_one (s_ret (e_var 3)))) ss_nil) (ss_one (s_ret (e_mod (e_fdiv (e_ix (e_var 0) e_int) e_int) (e_var 1))))))))⟩
/-! ### _law_then -/
abbrev s_law_then : Stmt := topS 28
abbrev N_law_then : List Str := ["_law_one", "_law_other", "_law_goal"]
theorem nd_law_then : (N_law_then).Nodup := by decide +kernel
theorem sc_law_then : FnScope N_law_then ["_law_one", "_law_other"] (defScope s_law_then) := ⟨rfl, rfl, rfl, nd_law_then, rfl, by decide +kernel, by decide +kernel⟩
noncomputable def lc_law_then_1 : FA := fLc (fSeq (fVar 0)) (fName 2) fYes (fOp gIx (fVar 1) (fVar 2)) [2]
noncomputable def g_law_then : FS := (fsRet (fOn gTupN (lc_law_then_1)))
theorem b_law_then {P : Program} {w : World} {K : Fg} {mg : Str → Option Value} {base : Heap} (T : Tz K mg) (TC : CEnvOk K cenv) {f : Addr} (cdv : Value) (A : Around) (outer : List Env) (s : Shared) (H : Hp) (EX : XK) (hr : Room 0 (A.deeper (envOfC "_law_then" (defScope s_law_then) s.heap.objs.size f cdv))) (hG : A.guards = some []) :
    ∃ ts, Ss (cxOf CX0 P w K mg base N_law_then "_law_then" (defScope s_law_then) f cdv A outer s H EX).nox (defBody s_law_then) ts (g_law_then) := by
  have hu := hr.units
  exact ⟨_, (ss_one (s_ret (e_onT call_tuple_of gTupN_ok T.z_tuple rfl (l_lc rfl nd_law_then (i_seq (e_var 0)) (blkOk_by (own := [("_law_goal", 2)]) rfl) (fun _ _ _ _ _ => (g_name 2 nd_law_then)) (fun _ _ _ _ _ => ts_nil) (fun _ _ _ _ _ => E.to (e_ix (e_var 1) (e_var 2)) (by first | rfl | (dsimp only [blkK]; done) | (dsimp only [blkK]; rfl)))))))⟩
/-! ### _law_undo -/
abbrev s_law_undo : Stmt := topS 29
abbrev N_law_undo : List Str := ["_law_one", "_law_images", "_law_point"]
theorem nd_law_undo : (N_law_undo).Nodup := by decide +kernel
theorem sc_law_undo : FnScope N_law_undo ["_law_one"] (defScope s_law_undo) := ⟨rfl, rfl, rfl, nd_law_undo, rfl, by decide +kernel, by decide +kernel⟩
noncomputable def lb_law_undo_1 : FS := (fsAsg (fVar 2) (fSub (fVar 1) (fOp gIx (fVar 0) (fVar 2))))
noncomputable def lp_law_undo_1 : FS := fsFor (fRange1 (fCall gLen (fCons (fVar 0) fNil))) (fName 2) (lb_law_undo_1)
noncomputable def g_law_undo : FS := (fsSeq (fsAsg (fOp gMul (fPut (fLst (fCons (fC (.int 0)) fNil))) (fCall gLen (fCons (fVar 0) fNil))) (fName 1)) (fsSeq (lp_law_undo_1) (fsRet (fCall gTupOf (fCons (fVar 1) fNil)))))
theorem b_law_undo {P : Program} {w : World} {K : Fg} {mg : Str → Option Value} {base : Heap} (T : Tz K mg) (TC : CEnvOk K cenv) {f : Addr} (cdv : Value) (A : Around) (outer : List Env) (s : Shared) (H : Hp) (EX : XK) (hr : Room 0 (A.deeper (envOfC "_law_undo" (defScope s_law_undo) s.heap.objs.size f cdv))) (hG : A.guards = some []) :
    ∃ ts, Ss (cxOf CX0 P w K mg base N_law_undo "_law_undo" (defScope s_law_undo) f cdv A outer s H EX).nox (defBody s_law_undo) ts (g_law_undo) := by
  have hu := hr.units
  exact ⟨_, (ss_cons (s_set 1 nd_law_undo (e_mul (L.put (l_lst (a_cons e_int a_nil))) (e_cB call_len gLen_ok T.z_len rfl (a_cons (e_var 0) a_nil)))) (ss_cons (s_for PassesOwn.never rfl (i_range1 T.z_range (e_cB call_len gLen_ok T.z_len rfl (a_cons (e_var 0) a_nil))) (g_name 2 nd_law_undo) (ss_one (s_asg (e_var 2) (g_sub (e_var 1) (e_ix (e_var 0) (e_var 2)))))) (ss_one (s_ret (e_cT call_tuple_of gTupOf_ok T.z_tuple rfl (a_cons (e_var 1) a_nil))))))⟩
/-! ### _law_round_from -/
abbrev s_law_round_from : Stmt := topS 31
abbrev N_law_round_from : List Str := ["_law_one", "_law_point", "_law_found"]
theorem nd_law_round_from : (N_law_round_from).Nodup := by decide +kernel
theorem sc_law_round_from : FnScope N_law_round_from ["_law_one", "_law_point"] (defScope s_law_round_from) := ⟨rfl, rfl, rfl, nd_law_round_from, rfl, by decide +kernel, by decide +kernel⟩
noncomputable def wt_law_round_from_1 : FT := (fTest (fOp gNeS (fOp gIx (fVar 0) (fOp gIx (fVar 2) (fUn gNeg (fC (.int 1))))) (fVar 1)))
noncomputable def wb_law_round_from_1 : FS := (fsDrop (fMeth gAppend (fVar 2) (fCons (fOp gIx (fVar 0) (fOp gIx (fVar 2) (fUn gNeg (fC (.int 1))))) fNil)))
noncomputable def g_law_round_from : FS := (fsSeq (fsAsg (fPut (fLst (fCons (fVar 1) fNil))) (fName 2)) (fsSeq (wh (wt_law_round_from_1) (wb_law_round_from_1) fuel) (fsRet (fVar 2))))
theorem b_law_round_from {P : Program} {w : World} {K : Fg} {mg : Str → Option Value} {base : Heap} (T : Tz K mg) (TC : CEnvOk K cenv) {f : Addr} (cdv : Value) (A : Around) (outer : List Env) (s : Shared) (H : Hp) (EX : XK) (hr : Room 0 (A.deeper (envOfC "_law_round_from" (defScope s_law_round_from) s.heap.objs.size f cdv))) (hG : A.guards = some []) :
    ∃ ts, Ss (cxOf CX0 P w K mg base N_law_round_from "_law_round_from" (defScope s_law_round_from) f cdv A outer s H EX).nox (defBody s_law_round_from) ts (g_law_round_from) := by
  have hu := hr.units
  exact ⟨_, (ss_cons (s_set 2 nd_law_round_from (L.put (l_lst (a_cons (e_var 1) a_nil)))) (ss_cons (s_while fuel PassesOwn.never (t_cmp (cm_neS hu) (e_ix (e_var 0) (e_ix (e_var 2) (e_neg e_int))) (e_var 1)) (ss_one (s_expr (e_append (e_var 2) (e_ix (e_var 0) (e_ix (e_var 2) (e_neg e_int))))))) (ss_one (s_ret (e_var 2)))))⟩
/-! ### _law_same -/
abbrev s_law_same : Stmt := topS 33
abbrev N_law_same : List Str := ["_law_told", "_law_due"]
theorem nd_law_same : (N_law_same).Nodup := by decide +kernel
theorem sc_law_same : FnScope N_law_same ["_law_told", "_law_due"] (defScope s_law_same) := ⟨rfl, rfl, rfl, nd_law_same, rfl, by decide +kernel, by decide +kernel⟩
noncomputable def g_law_same : FS := (fsRet (fOp gEqS (fCall gReprA (fCons (fVar 0) fNil)) (fCall gReprA (fCons (fVar 1) fNil))))
theorem b_law_same {P : Program} {w : World} {K : Fg} {mg : Str → Option Value} {base : Heap} (T : Tz K mg) (TC : CEnvOk K cenv) {f : Addr} (cdv : Value) (A : Around) (outer : List Env) (s : Shared) (H : Hp) (EX : XK) (hr : Room 0 (A.deeper (envOfC "_law_same" (defScope s_law_same) s.heap.objs.size f cdv))) (hG : A.guards = some []) :
    ∃ ts, Ss (cxOf CX0 P w K mg base N_law_same "_law_same" (defScope s_law_same) f cdv A outer s H EX).nox (defBody s_law_same) ts (g_law_same) := by
  have hu := hr.units
  exact ⟨_, (ss_one (s_ret (e_cmp (cm_eqS hu) (e_cB (cr_reprA hG hu) gReprA_ok T.z_repr rfl (a_cons (e_var 0) a_nil)) (e_cB (cr_reprA hG hu) gReprA_ok T.z_repr rfl (a_cons (e_var 1) a_nil)))))⟩
/-! ### _law_sign_due -/
abbrev s_law_sign_due : Stmt := topS 36
abbrev N_law_sign_due : List Str := ["_law_one", "_law_images", "_law_found", "_law_point", "_law_goal"]
theorem nd_law_sign_due : (N_law_sign_due).Nodup := by decide +kernel
theorem sc_law_sign_due : FnScope N_law_sign_due ["_law_one"] (defScope s_law_sign_due) := ⟨rfl, rfl, rfl, nd_law_sign_due, rfl, by decide +kernel, by decide +kernel⟩
noncomputable def wt_law_sign_due_1 : FT := (fTest (fOp gNeS (fOp gIx (fVar 1) (fVar 3)) (fVar 3)))
noncomputable def wb_law_sign_due_1 : FS := (fsSeq (fsAsg (fOp gIx (fVar 1) (fVar 3)) (fName 4)) (fsSeq (fsAsg (fTup (fCons (fOp gIx (fVar 1) (fVar 4)) (fCons (fVar 4) fNil))) (fTupG 2 (fsCons (fSub (fVar 1) (fVar 3)) (fsCons (fSub (fVar 1) (fVar 4)) fsNil)))) (fsAsg (fOp gSub (fC (.int 0)) (fVar 2)) (fName 2))))
noncomputable def lb_law_sign_due_1 : FS := (wh (wt_law_sign_due_1) (wb_law_sign_due_1) fuel)
noncomputable def lp_law_sign_due_1 : FS := fsFor (fRange1 (fCall gLen (fCons (fVar 1) fNil))) (fName 3) (lb_law_sign_due_1)
noncomputable def g_law_sign_due : FS := (fsSeq (fsPar 1 2 (fCons (fPut (fLCall gLstOf (fCons (fVar 0) fNil))) (fCons (fC (.int 1)) fNil))) (fsSeq (lp_law_sign_due_1) (fsRet (fVar 2))))
theorem b_law_sign_due {P : Program} {w : World} {K : Fg} {mg : Str → Option Value} {base : Heap} (T : Tz K mg) (TC : CEnvOk K cenv) {f : Addr} (cdv : Value) (A : Around) (outer : List Env) (s : Shared) (H : Hp) (EX : XK) (hr : Room 0 (A.deeper (envOfC "_law_sign_due" (defScope s_law_sign_due) s.heap.objs.size f cdv))) (hG : A.guards = some []) :
    ∃ ts, Ss (cxOf CX0 P w K mg base N_law_sign_due "_law_sign_due" (defScope s_law_sign_due) f cdv A outer s H EX).nox (defBody s_law_sign_due) ts (g_law_sign_due) := by
  have hu := hr.units
  exact ⟨_, (ss_cons (s_par 1 2 rfl nd_law_sign_due (a_cons (L.put (l_cT call_list_of gLstOf_ok T.z_list rfl (a_cons (e_var 0) a_nil))) (a_cons e_int a_nil))) (ss_cons (s_for PassesOwn.never rfl (i_range1 T.z_range (e_cB call_len gLen_ok T.z_len rfl (a_cons (e_var 1) a_nil))) (g_name 3 nd_law_sign_due) (ss_one (s_while fuel PassesOwn.never (t_cmp (cm_neS hu) (e_ix (e_var 1) (e_var 3)) (e_var 3)) (ss_cons (s_set 4 nd_law_sign_due (e_ix (e_var 1) (e_var 3))) (ss_cons (s_asg (e_tup (a_cons (e_ix (e_var 1) (e_var 4)) (a_cons (e_var 4) a_nil))) (g_tup rfl (gs_cons (g_sub (e_var 1) (e_var 3)) (gs_cons (g_sub (e_var 1) (e_var 4)) gs_nil)))) (ss_one (s_set 2 nd_law_sign_due (e_sub e_int (e_var 2))))))))) (ss_one (s_ret (e_var 2)))))⟩
/-! ### _law_is_move_due -/
abbrev s_law_is_move_due : Stmt := topS 37
abbrev N_law_is_move_due : List Str := ["_law_thing", "_law_goal_here"]
theorem nd_law_is_move_due : (N_law_is_move_due).Nodup := by decide +kernel
theorem sc_law_is_move_due : FnScope N_law_is_move_due ["_law_thing"] (defScope s_law_is_move_due) := ⟨rfl, rfl, rfl, nd_law_is_move_due, rfl, by decide +kernel, by decide +kernel⟩
noncomputable def lc_law_is_move_due_1 : FA := fLc (fSeq (fVar 0)) (fName 1) fYes (fAnd (fCall (gIsiC cenv) (fCons (fVar 1) (fCons (fC (.ty "int")) fNil))) (fNot (fCall (gIsiC cenv) (fCons (fVar 1) (fCons (fC (.ty "bool")) fNil))))) [1]
noncomputable def lc_law_is_move_due_2 : FA := fLc (fSeq (fVar 0)) (fName 1) fYes (fChain gLe gLt (fC (.int 0)) (fVar 1) (fCall gLen (fCons (fVar 0) fNil))) [1]
noncomputable def g_law_is_move_due : FS := (fsSeq (fsIf (fOrT (fNotT (fTru (fCall (gIsiC cenv) (fCons (fVar 0) (fCons (fC (.ty "tuple")) fNil))))) (fNotT (fTest (fChain gLe gLe (fC (.int 1)) (fCall gLen (fCons (fVar 0) fNil)) (fC (.int 60)))))) (fsRet (fC (.bl false))) fsNext) (fsSeq (fsIf (fNotT (fTru (fOn gAll (lc_law_is_move_due_1)))) (fsRet (fC (.bl false))) fsNext) (fsRet (fAnd (fOn gAll (lc_law_is_move_due_2)) (fOp gEqS (fLenSet (fVar 0)) (fCall gLen (fCons (fVar 0) fNil)))))))
theorem b_law_is_move_due {P : Program} {w : World} {K : Fg} {mg : Str → Option Value} {base : Heap} (T : Tz K mg) (TC : CEnvOk K cenv) {f : Addr} (cdv : Value) (A : Around) (outer : List Env) (s : Shared) (H : Hp) (EX : XK) (hr : Room 0 (A.deeper (envOfC "_law_is_move_due" (defScope s_law_is_move_due) s.heap.objs.size f cdv))) (hG : A.guards = some []) :
    ∃ ts, Ss (cxOf CX0 P w K mg base N_law_is_move_due "_law_is_move_due" (defScope s_law_is_move_due) f cdv A outer s H EX).nox (defBody s_law_is_move_due) ts (g_law_is_move_due) := by
  have hu := hr.units
  exact ⟨_, (ss_cons (s_if (TW.t (w_or (t_not (t_tru (e_cB call_isi (gIsiC_ok TC) T.z_isinstance rfl (a_cons (e_var 0) (a_cons (e_ty T.z_tuple rfl) a_nil))))) (w_or1 (t_not (t_chain cm_le cm_le e_int (e_cB call_len gLen_ok T.z_len rfl (a_cons (e_var 0) a_nil)) e_int))))) (ss_one (s_ret e_bl)) ss_nil) (ss_cons (s_if (t_not (t_tru (e_onB (cr_all rfl) gAll_ok T.z_all rfl (l_lc rfl nd_law_is_move_due (i_seq (e_var 0)) (blkOk_by (own := [("_law_goal_here", 1)]) rfl) (fun _ _ _ _ _ => (g_name 1 nd_law_is_move_due)) (fun _ _ _ _ _ => ts_nil) (fun _ _ _ _ _ => E.to (e_and (e_cB call_isi (gIsiC_ok TC) T.z_isinstance rfl (a_cons (e_var 1) (a_cons (e_ty T.z_int rfl) a_nil))) (e_one (e_not (e_cB call_isi (gIsiC_ok TC) T.z_isinstance rfl (a_cons (e_var 1) (a_cons (e_ty T.z_bool rfl) a_nil)))))) (by first | rfl | (dsimp only [blkK]; done) | (dsimp only [blkK]; rfl))))))) (ss_one (s_ret e_bl)) ss_nil) (ss_one (s_ret (e_and (e_onB (cr_all rfl) gAll_ok T.z_all rfl (l_lc rfl nd_law_is_move_due (i_seq (e_var 0)) (blkOk_by (own := [("_law_goal_here", 1)]) rfl) (fun _ _ _ _ _ => (g_name 1 nd_law_is_move_due)) (fun _ _ _ _ _ => ts_nil) (fun _ _ _ _ _ => E.to (e_chain cm_le cm_lt e_int (e_var 1) (e_cB call_len gLen_ok T.z_len rfl (a_cons (e_var 0) a_nil))) (by first | rfl | (dsimp only [blkK]; done) | (dsimp only [blkK]; rfl))))) (e_one (e_cmp (cm_eqS hu) (e_lenSet rfl T.z_len T.z_set (e_var 0)) (e_cB call_len gLen_ok T.z_len rfl (a_cons (e_var 0) a_nil)))))))))⟩
/-! ### is_between -/
abbrev s_is_between : Stmt := topS 9
abbrev N_is_between : List Str := ["thing", "low", "high"]
theorem nd_is_between : (N_is_between).Nodup := by decide +kernel
theorem sc_is_between : FnScope N_is_between ["thing", "low", "high"] (defScope s_is_between) := ⟨rfl, rfl, rfl, nd_is_between, rfl, by decide +kernel, by decide +kernel⟩
noncomputable def g_is_between (Fis_whole : GN) : FS := (fsRet (fAnd (fCall Fis_whole (fCons (fVar 0) fNil)) (fChain gLe gLe (fVar 1) (fVar 0) (fVar 2))))
theorem b_is_between {P : Program} {w : World} {K : Fg} {mg : Str → Option Value} {base : Heap} (T : Tz K mg) (TC : CEnvOk K cenv) {Fis_whole : GN} (k_is_whole : Kn P w K mg base "is_whole" 1 ["thing"] Fis_whole) {f : Addr} (cdv : Value) (A : Around) (outer : List Env) (s : Shared) (H : Hp) (EX : XK) (hr : Room 1 (A.deeper (envOfC "is_between" (defScope s_is_between) s.heap.objs.size f cdv))) (hG : A.guards = some []) :
    ∃ ts, Ss (cxOf CX0 P w K mg base N_is_between "is_between" (defScope s_is_between) f cdv A outer s H EX).nox (defBody s_is_between) ts (g_is_between Fis_whole) := by
  have hu := hr.units
  exact ⟨_, (ss_one (s_ret (e_and (e_callK k_is_whole (hr.mono (by decide)) hG (a_cons (e_var 0) a_nil)) (e_one (e_chain cm_le cm_le (e_var 1) (e_var 0) (e_var 2))))))⟩
/-! ### _law_move -/
abbrev s_law_move : Stmt := topS 30
abbrev N_law_move : List Str := ["_law_pool_here", "_law_points", "_law_images", "_law_way", "_law_first", "_law_last", "_law_point", "_law_other"]
theorem nd_law_move : (N_law_move).Nodup := by decide +kernel
theorem sc_law_move : FnScope N_law_move ["_law_pool_here", "_law_points"] (defScope s_law_move) := ⟨rfl, rfl, rfl, nd_law_move, rfl, by decide +kernel, by decide +kernel⟩
noncomputable def lb_law_move_1 (Flaw_take : GN) : FS := (fsSeq (fsAsg (fCall Flaw_take (fCons (fVar 0) (fCons (fOp gAdd (fVar 6) (fC (.int 1))) fNil))) (fName 7)) (fsAsg (fTup (fCons (fOp gIx (fVar 2) (fVar 7)) (fCons (fOp gIx (fVar 2) (fVar 6)) fNil))) (fTupG 2 (fsCons (fSub (fVar 2) (fVar 6)) (fsCons (fSub (fVar 2) (fVar 7)) fsNil)))))
noncomputable def lp_law_move_1 (Flaw_take : GN) : FS := fsFor (fDown (fOp gSub (fVar 1) (fC (.int 1))) (fC (.int 0)) (fUn gNeg (fC (.int 1)))) (fName 6) (lb_law_move_1 Flaw_take)
noncomputable def lc_law_move_1 (Flaw_take : GN) : FA := fLc (fRange1 (fVar 1)) (fName 6) fYes (fOp gIx (fVar 2) (fOp gMod (fOp gAdd (fMeth gIndex (fVar 2) (fCons (fVar 6) fNil)) (fC (.int 1))) (fVar 1))) [6]
noncomputable def g_law_move (Flaw_take : GN) : FS := (fsSeq (fsAsg (fTup (fCons (fPut (fRg1 (fVar 1))) (fCons (fCall Flaw_take (fCons (fVar 0) (fCons (fC (.int 8)) fNil))) fNil))) (fTupG 2 (fsCons (fName 2) (fsCons (fName 3) fsNil)))) (fsSeq (fsIf (fOrT (fTest (fOp gEqS (fVar 3) (fC (.int 0)))) (fTest (fOp gEqS (fVar 1) (fC (.int 1))))) (fsRet (fCall gTupOf (fCons (fVar 2) fNil))) fsNext) (fsSeq (fsIf (fTest (fOp gLt (fVar 3) (fC (.int 3)))) (fsSeq (fsPar 4 5 (fCons (fCall Flaw_take (fCons (fVar 0) (fCons (fVar 1) fNil))) (fCons (fCall Flaw_take (fCons (fVar 0) (fCons (fVar 1) fNil))) fNil))) (fsSeq (fsAsg (fTup (fCons (fOp gIx (fVar 2) (fVar 5)) (fCons (fOp gIx (fVar 2) (fVar 4)) fNil))) (fTupG 2 (fsCons (fSub (fVar 2) (fVar 4)) (fsCons (fSub (fVar 2) (fVar 5)) fsNil)))) (fsRet (fCall gTupOf (fCons (fVar 2) fNil))))) fsNext) (fsSeq (lp_law_move_1 Flaw_take) (fsSeq (fsIf (fTest (fOp gEqS (fVar 3) (fC (.int 3)))) (fsRet (fOn gTupN (lc_law_move_1 Flaw_take))) fsNext) (fsRet (fCall gTupOf (fCons (fVar 2) fNil))))))))
theorem b_law_move {P : Program} {w : World} {K : Fg} {mg : Str → Option Value} {base : Heap} (T : Tz K mg) (TC : CEnvOk K cenv) {Flaw_take : GN} (k_law_take : Kn P w K mg base "_law_take" 1 ["_law_pool_here", "_law_many"] Flaw_take) {f : Addr} (cdv : Value) (A : Around) (outer : List Env) (s : Shared) (H : Hp) (EX : XK) (hr : Room 1 (A.deeper (envOfC "_law_move" (defScope s_law_move) s.heap.objs.size f cdv))) (hG : A.guards = some []) :
    ∃ ts, Ss (cxOf CX0 P w K mg base N_law_move "_law_move" (defScope s_law_move) f cdv A outer s H EX).nox (defBody s_law_move) ts (g_law_move Flaw_take) := by
  have hu := hr.units
  exact ⟨_, (ss_cons (s_asg (e_tup (a_cons (L.put (l_rg1 rfl T.z_list T.z_range (e_var 1))) (a_cons (e_callK k_law_take (hr.mono (by decide)) hG (a_cons (e_var 0) (a_cons e_int a_nil))) a_nil))) (g_tup rfl (gs_cons (g_name 2 nd_law_move) (gs_cons (g_name 3 nd_law_move) gs_nil)))) (ss_cons (s_if (TW.t (w_or (t_cmp (cm_eqS hu) (e_var 3) e_int) (w_or1 (t_cmp (cm_eqS hu) (e_var 1) e_int)))) (ss_one (s_ret (e_cT call_tuple_of gTupOf_ok T.z_tuple rfl (a_cons (e_var 2) a_nil)))) ss_nil) (ss_cons (s_if (t_cmp cm_lt (e_var 3) e_int) (ss_cons (s_par 4 5 rfl nd_law_move (a_cons (e_callK k_law_take (hr.mono (by decide)) hG (a_cons (e_var 0) (a_cons (e_var 1) a_nil))) (a_cons (e_callK k_law_take (hr.mono (by decide)) hG (a_cons (e_var 0) (a_cons (e_var 1) a_nil))) a_nil))) (ss_cons (s_asg (e_tup (a_cons (e_ix (e_var 2) (e_var 5)) (a_cons (e_ix (e_var 2) (e_var 4)) a_nil))) (g_tup rfl (gs_cons (g_sub (e_var 2) (e_var 4)) (gs_cons (g_sub (e_var 2) (e_var 5)) gs_nil)))) (ss_one (s_ret (e_cT call_tuple_of gTupOf_ok T.z_tuple rfl (a_cons (e_var 2) a_nil)))))) ss_nil) (ss_cons (s_for PassesOwn.never rfl (i_down T.z_range (e_sub (e_var 1) e_int) e_int (e_neg e_int)) (g_name 6 nd_law_move) (ss_cons (s_set 7 nd_law_move (e_callK k_law_take (hr.mono (by decide)) hG (a_cons (e_var 0) (a_cons (e_add (e_var 6) e_int) a_nil)))) (ss_one (s_asg (e_tup (a_cons (e_ix (e_var 2) (e_var 7)) (a_cons (e_ix (e_var 2) (e_var 6)) a_nil))) (g_tup rfl (gs_cons (g_sub (e_var 2) (e_var 6)) (gs_cons (g_sub (e_var 2) (e_var 7)) gs_nil))))))) (ss_cons (s_if (t_cmp (cm_eqS hu) (e_var 3) e_int) (ss_one (s_ret (e_onT call_tuple_of gTupN_ok T.z_tuple rfl (l_lc rfl nd_law_move (i_range1 T.z_range (e_var 1)) (blkOk_by (own := [("_law_point", 6)]) rfl) (fun _ _ _ _ _ => (g_name 6 nd_law_move)) (fun _ _ _ _ _ => ts_nil) (fun _ _ _ _ _ => E.to (e_ix (e_var 2) (e_mod (e_add (e_index (e_var 2) (e_var 6)) e_int) (e_var 1))) (by first | rfl | (dsimp only [blkK]; done) | (dsimp only [blkK]; rfl))))))) ss_nil) (ss_one (s_ret (e_cT call_tuple_of gTupOf_ok T.z_tuple rfl (a_cons (e_var 2) a_nil)))))))))⟩
/-! ### _law_all_rounds -/
abbrev s_law_all_rounds : Stmt := topS 32
abbrev N_law_all_rounds : List Str := ["_law_one", "_law_found", "_law_point", "_law_row"]
theorem nd_law_all_rounds : (N_law_all_rounds).Nodup := by decide +kernel
theorem sc_law_all_rounds : FnScope N_law_all_rounds ["_law_one"] (defScope s_law_all_rounds) := ⟨rfl, rfl, rfl, nd_law_all_rounds, rfl, by decide +kernel, by decide +kernel⟩
noncomputable def lb_law_all_rounds_1 (Flaw_round_from : GN) : FS := (fsSeq (fsAsg (fCall Flaw_round_from (fCons (fVar 0) (fCons (fVar 2) fNil))) (fName 3)) (fsIf (fTest (fOp gEqS (fCall gMinL (fCons (fVar 3) fNil)) (fVar 2))) (fsDrop (fMeth gAppend (fVar 1) (fCons (fCall gTupOf (fCons (fVar 3) fNil)) fNil))) fsNext))
noncomputable def lp_law_all_rounds_1 (Flaw_round_from : GN) : FS := fsFor (fRange1 (fCall gLen (fCons (fVar 0) fNil))) (fName 2) (lb_law_all_rounds_1 Flaw_round_from)
noncomputable def g_law_all_rounds (Flaw_round_from : GN) : FS := (fsSeq (fsAsg (fPut (fLst fNil)) (fName 1)) (fsSeq (lp_law_all_rounds_1 Flaw_round_from) (fsRet (fVar 1))))
theorem b_law_all_rounds {P : Program} {w : World} {K : Fg} {mg : Str → Option Value} {base : Heap} (T : Tz K mg) (TC : CEnvOk K cenv) {Flaw_round_from : GN} (k_law_round_from : Kn P w K mg base "_law_round_from" 1 ["_law_one", "_law_point"] Flaw_round_from) {f : Addr} (cdv : Value) (A : Around) (outer : List Env) (s : Shared) (H : Hp) (EX : XK) (hr : Room 1 (A.deeper (envOfC "_law_all_rounds" (defScope s_law_all_rounds) s.heap.objs.size f cdv))) (hG : A.guards = some []) :
    ∃ ts, Ss (cxOf CX0 P w K mg base N_law_all_rounds "_law_all_rounds" (defScope s_law_all_rounds) f cdv A outer s H EX).nox (defBody s_law_all_rounds) ts (g_law_all_rounds Flaw_round_from) := by
  have hu := hr.units
  exact ⟨_, (ss_cons (s_set 1 nd_law_all_rounds (L.put (l_lst a_nil))) (ss_cons (s_for PassesOwn.never rfl (i_range1 T.z_range (e_cB call_len gLen_ok T.z_len rfl (a_cons (e_var 0) a_nil))) (g_name 2 nd_law_all_rounds) (ss_cons (s_set 3 nd_law_all_rounds (e_callK k_law_round_from (hr.mono (by decide)) hG (a_cons (e_var 0) (a_cons (e_var 2) a_nil)))) (ss_one (s_if (t_cmp (cm_eqS hu) (e_cB (cr_min rfl) gMinL_ok T.z_min rfl (a_cons (e_var 3) a_nil)) (e_var 2)) (ss_one (s_expr (e_append (e_var 1) (e_cT call_tuple_of gTupOf_ok T.z_tuple rfl (a_cons (e_var 3) a_nil))))) ss_nil)))) (ss_one (s_ret (e_var 1)))))⟩
/-! ### _law_raised_due -/
abbrev s_law_raised_due : Stmt := topS 34
abbrev N_law_raised_due : List Str := ["_law_one", "_law_much", "_law_images", "_law_point", "_law_row"]
theorem nd_law_raised_due : (N_law_raised_due).Nodup := by decide +kernel
theorem sc_law_raised_due : FnScope N_law_raised_due ["_law_one", "_law_much"] (defScope s_law_raised_due) := ⟨rfl, rfl, rfl, nd_law_raised_due, rfl, by decide +kernel, by decide +kernel⟩
noncomputable def lb_law_raised_due_1 (Flaw_round_from : GN) : FS := (fsSeq (fsAsg (fCall Flaw_round_from (fCons (fVar 0) (fCons (fVar 3) fNil))) (fName 4)) (fsDrop (fMeth gAppend (fVar 2) (fCons (fOp gIx (fVar 4) (fOp gMod (fVar 1) (fCall gLen (fCons (fVar 4) fNil)))) fNil))))
noncomputable def lp_law_raised_due_1 (Flaw_round_from : GN) : FS := fsFor (fRange1 (fCall gLen (fCons (fVar 0) fNil))) (fName 3) (lb_law_raised_due_1 Flaw_round_from)
noncomputable def g_law_raised_due (Flaw_round_from : GN) : FS := (fsSeq (fsAsg (fPut (fLst fNil)) (fName 2)) (fsSeq (lp_law_raised_due_1 Flaw_round_from) (fsRet (fCall gTupOf (fCons (fVar 2) fNil)))))
theorem b_law_raised_due {P : Program} {w : World} {K : Fg} {mg : Str → Option Value} {base : Heap} (T : Tz K mg) (TC : CEnvOk K cenv) {Flaw_round_from : GN} (k_law_round_from : Kn P w K mg base "_law_round_from" 1 ["_law_one", "_law_point"] Flaw_round_from) {f : Addr} (cdv : Value) (A : Around) (outer : List Env) (s : Shared) (H : Hp) (EX : XK) (hr : Room 1 (A.deeper (envOfC "_law_raised_due" (defScope s_law_raised_due) s.heap.objs.size f cdv))) (hG : A.guards = some []) :
    ∃ ts, Ss (cxOf CX0 P w K mg base N_law_raised_due "_law_raised_due" (defScope s_law_raised_due) f cdv A outer s H EX).nox (defBody s_law_raised_due) ts (g_law_raised_due Flaw_round_from) := by
  have hu := hr.units
  exact ⟨_, (ss_cons (s_set 2 nd_law_raised_due (L.put (l_lst a_nil))) (ss_cons (s_for PassesOwn.never rfl (i_range1 T.z_range (e_cB call_len gLen_ok T.z_len rfl (a_cons (e_var 0) a_nil))) (g_name 3 nd_law_raised_due) (ss_cons (s_set 4 nd_law_raised_due (e_callK k_law_round_from (hr.mono (by decide)) hG (a_cons (e_var 0) (a_cons (e_var 3) a_nil)))) (ss_one (s_expr (e_append (e_var 2) (e_ix (e_var 4) (e_mod (e_var 1) (e_cB call_len gLen_ok T.z_len rfl (a_cons (e_var 4) a_nil))))))))) (ss_one (s_ret (e_cT call_tuple_of gTupOf_ok T.z_tuple rfl (a_cons (e_var 2) a_nil))))))⟩
/-! ### _law_bent -/
abbrev s_law_bent : Stmt := topS 38
abbrev N_law_bent : List Str := ["_law_pool_here", "_law_one", "_law_at", "_law_way", "_law_odd", "_law_some"]
theorem nd_law_bent : (N_law_bent).Nodup := by decide +kernel
theorem sc_law_bent : FnScope N_law_bent ["_law_pool_here", "_law_one"] (defScope s_law_bent) := ⟨rfl, rfl, rfl, nd_law_bent, rfl, by decide +kernel, by decide +kernel⟩
noncomputable def g_law_bent (Flaw_take : GN) : FS := (fsSeq (fsPar 2 3 (fCons (fCall Flaw_take (fCons (fVar 0) (fCons (fCall gLen (fCons (fVar 1) fNil)) fNil))) (fCons (fCall Flaw_take (fCons (fVar 0) (fCons (fC (.int 9)) fNil))) fNil))) (fsSeq (fsAsg (fPut (fLst (fCons (fCall gLen (fCons (fVar 1) fNil)) (fCons (fOp gSub (fC (.int 0)) (fC (.int 1))) (fCons (fC (.bl true)) (fCons (fC (.bl false)) (fCons (fC .non) (fCons (fCall gStrI (fCons (fOp gIx (fVar 1) (fVar 2)) fNil)) (fCons (fTup (fCons (fOp gIx (fVar 1) (fVar 2)) fNil)) (fCons (fPut (fLst (fCons (fOp gIx (fVar 1) (fVar 2)) fNil))) (fCons (fOp gIx (fVar 1) (fOp gSub (fVar 2) (fC (.int 1)))) (fCons (fOp gPow (fC (.int 10)) (fC (.int 20))) fNil)))))))))))) (fName 4)) (fsSeq (fsAsg (fOp gIx (fVar 4) (fCall Flaw_take (fCons (fVar 0) (fCons (fC (.int 10)) fNil)))) (fName 4)) (fsSeq (fsAsg (fPut (fLst (fCons (fOp gAdd (fSl (fVar 1) fNoPart (fPart (fVar 2))) (fSl (fVar 1) (fPart (fOp gAdd (fVar 2) (fC (.int 1)))) fNoPart)) (fCons (fOp gAdd (fVar 1) (fTup (fCons (fCall gLen (fCons (fVar 1) fNil)) fNil))) (fCons (fOp gAdd (fVar 1) (fSl (fVar 1) fNoPart (fPart (fC (.int 1))))) (fCons (fPut (fLCall gLstOf (fCons (fVar 1) fNil))) (fCons (fOp gAdd (fOp gAdd (fSl (fVar 1) fNoPart (fPart (fVar 2))) (fTup (fCons (fVar 4) fNil))) (fSl (fVar 1) (fPart (fOp gAdd (fVar 2) (fC (.int 1)))) fNoPart)) fNil))))))) (fName 5)) (fsSeq (fsAsg (fOp gAdd (fVar 5) (fPut (fLst (fCons (fOp gAdd (fOp gAdd (fSl (fVar 1) fNoPart (fPart (fVar 2))) (fTup (fCons (fVar 4) fNil))) (fSl (fVar 1) (fPart (fOp gAdd (fVar 2) (fC (.int 1)))) fNoPart)) (fCons (fTup (fCons (fVar 1) fNil)) (fCons (fRev (fVar 1)) (fCons (fTRg1 (fC (.int 61))) fNil))))))) (fName 5)) (fsRet (fOp gIx (fVar 5) (fVar 3))))))))
theorem b_law_bent {P : Program} {w : World} {K : Fg} {mg : Str → Option Value} {base : Heap} (T : Tz K mg) (TC : CEnvOk K cenv) {Flaw_take : GN} (k_law_take : Kn P w K mg base "_law_take" 1 ["_law_pool_here", "_law_many"] Flaw_take) {f : Addr} (cdv : Value) (A : Around) (outer : List Env) (s : Shared) (H : Hp) (EX : XK) (hr : Room 1 (A.deeper (envOfC "_law_bent" (defScope s_law_bent) s.heap.objs.size f cdv))) (hG : A.guards = some []) :
    ∃ ts, Ss (cxOf CX0 P w K mg base N_law_bent "_law_bent" (defScope s_law_bent) f cdv A outer s H EX).nox (defBody s_law_bent) ts (g_law_bent Flaw_take) := by
  have hu := hr.units
  exact ⟨_, (ss_cons (s_par 2 3 rfl nd_law_bent (a_cons (e_callK k_law_take (hr.mono (by decide)) hG (a_cons (e_var 0) (a_cons (e_cB call_len gLen_ok T.z_len rfl (a_cons (e_var 1) a_nil)) a_nil))) (a_cons (e_callK k_law_take (hr.mono (by decide)) hG (a_cons (e_var 0) (a_cons e_int a_nil))) a_nil))) (ss_cons (s_set 4 nd_law_bent (L.put (l_lst (a_cons (e_cB call_len gLen_ok T.z_len rfl (a_cons (e_var 1) a_nil)) (a_cons (e_sub e_int e_int) (a_cons e_bl (a_cons e_bl (a_cons e_non (a_cons (e_cT call_str_int gStrI_ok T.z_str rfl (a_cons (e_ix (e_var 1) (e_var 2)) a_nil)) (a_cons (e_tup (a_cons (e_ix (e_var 1) (e_var 2)) a_nil)) (a_cons (L.put (l_lst (a_cons (e_ix (e_var 1) (e_var 2)) a_nil))) (a_cons (e_ix (e_var 1) (e_sub (e_var 2) e_int)) (a_cons (e_pow e_int e_int) a_nil))))))))))))) (ss_cons (s_set 4 nd_law_bent (e_ix (e_var 4) (e_callK k_law_take (hr.mono (by decide)) hG (a_cons (e_var 0) (a_cons e_int a_nil))))) (ss_cons (s_set 5 nd_law_bent (L.put (l_lst (a_cons (e_add (e_sl (e_var 1) o_none (o_some (e_var 2))) (e_sl (e_var 1) (o_some (e_add (e_var 2) e_int)) o_none)) (a_cons (e_add (e_var 1) (e_tup (a_cons (e_cB call_len gLen_ok T.z_len rfl (a_cons (e_var 1) a_nil)) a_nil))) (a_cons (e_add (e_var 1) (e_sl (e_var 1) o_none (o_some e_int))) (a_cons (L.put (l_cT call_list_of gLstOf_ok T.z_list rfl (a_cons (e_var 1) a_nil))) (a_cons (e_add (e_add (e_sl (e_var 1) o_none (o_some (e_var 2))) (e_tup (a_cons (e_var 4) a_nil))) (e_sl (e_var 1) (o_some (e_add (e_var 2) e_int)) o_none)) a_nil)))))))) (ss_cons (s_set 5 nd_law_bent (e_add (e_var 5) (L.put (l_lst (a_cons (e_add (e_add (e_sl (e_var 1) o_none (o_some (e_var 2))) (e_tup (a_cons (e_var 4) a_nil))) (e_sl (e_var 1) (o_some (e_add (e_var 2) e_int)) o_none)) (a_cons (e_tup (a_cons (e_var 1) a_nil)) (a_cons (e_rev (e_var 1)) (a_cons (e_trg1 rfl T.z_tuple T.z_range e_int) a_nil)))))))) (ss_one (s_ret (e_ix (e_var 5) (e_var 3)))))))))⟩
/-! ### is_move -/
abbrev s_is_move : Stmt := topS 11
abbrev N_is_move : List Str := ["thing", "last", "image"]
theorem nd_is_move : (N_is_move).Nodup := by decide +kernel
theorem sc_is_move : FnScope N_is_move ["thing"] (defScope s_is_move) := ⟨rfl, rfl, rfl, nd_is_move, rfl, by decide +kernel, by decide +kernel⟩
noncomputable def lc_is_move_1 (Fis_between : GN) : FA := fLc (fSeq (fVar 0)) (fName 2) fYes (fCall Fis_between (fCons (fVar 2) (fCons (fC (.int 0)) (fCons (fVar 1) fNil)))) [2]
noncomputable def g_is_move (Fis_between : GN) : FS := (fsSeq (fsIf (fOrT (fNotT (fTru (fCall (gIsiC cenv) (fCons (fVar 0) (fCons (fC (.ty "tuple")) fNil))))) (fNotT (fTest (fChain gLe gLe (fC (.int 1)) (fCall gLen (fCons (fVar 0) fNil)) (fC (.int 60)))))) (fsRet (fC (.bl false))) fsNext) (fsSeq (fsAsg (fOp gSub (fCall gLen (fCons (fVar 0) fNil)) (fC (.int 1))) (fName 1)) (fsSeq (fsIf (fNotT (fTru (fOn gAll (lc_is_move_1 Fis_between)))) (fsRet (fC (.bl false))) fsNext) (fsRet (fOp gEqS (fLenSet (fVar 0)) (fCall gLen (fCons (fVar 0) fNil)))))))
theorem b_is_move {P : Program} {w : World} {K : Fg} {mg : Str → Option Value} {base : Heap} (T : Tz K mg) (TC : CEnvOk K cenv) {Fis_between : GN} (k_is_between : Kn P w K mg base "is_between" 2 ["thing", "low", "high"] Fis_between) {f : Addr} (cdv : Value) (A : Around) (outer : List Env) (s : Shared) (H : Hp) (EX : XK) (hr : Room 2 (A.deeper (envOfC "is_move" (defScope s_is_move) s.heap.objs.size f cdv))) (hG : A.guards = some []) :
    ∃ ts, Ss (cxOf CX0 P w K mg base N_is_move "is_move" (defScope s_is_move) f cdv A outer s H EX).nox (defBody s_is_move) ts (g_is_move Fis_between) := by
  have hu := hr.units
  exact ⟨_, (ss_cons (s_if (TW.t (w_or (t_not (t_tru (e_cB call_isi (gIsiC_ok TC) T.z_isinstance rfl (a_cons (e_var 0) (a_cons (e_ty T.z_tuple rfl) a_nil))))) (w_or1 (t_not (t_chain cm_le cm_le e_int (e_cB call_len gLen_ok T.z_len rfl (a_cons (e_var 0) a_nil)) (e_gint T.c_MOST_POINTS.choose_spec)))))) (ss_one (s_ret e_bl)) ss_nil) (ss_cons (s_set 1 nd_is_move (e_sub (e_cB call_len gLen_ok T.z_len rfl (a_cons (e_var 0) a_nil)) e_int)) (ss_cons (s_if (t_not (t_tru (e_onB (cr_all rfl) gAll_ok T.z_all rfl (l_lc rfl nd_is_move (i_seq (e_var 0)) (blkOk_by (own := [("image", 2)]) rfl) (fun _ _ _ _ _ => (g_name 2 nd_is_move)) (fun _ _ _ _ _ => ts_nil) (fun _ _ _ _ _ => E.to (e_callK k_is_between (hr.mono (by decide)) hG (a_cons (e_var 2) (a_cons e_int (a_cons (e_var 1) a_nil)))) (by first | rfl | (dsimp only [blkK]; done) | (dsimp only [blkK]; rfl))))))) (ss_one (s_ret e_bl)) ss_nil) (ss_one (s_ret (e_cmp (cm_eqS hu) (e_lenSet rfl T.z_len T.z_set (e_var 0)) (e_cB call_len gLen_ok T.z_len rfl (a_cons (e_var 0) a_nil))))))))⟩
/-! ### check_points -/
abbrev s_check_points : Stmt := topS 13
abbrev N_check_points : List Str := ["points"]
theorem nd_check_points : (N_check_points).Nodup := by decide +kernel
theorem sc_check_points : FnScope N_check_points ["points"] (defScope s_check_points) := ⟨rfl, rfl, rfl, nd_check_points, rfl, by decide +kernel, by decide +kernel⟩
noncomputable def g_check_points (Fis_between : GN) : FS := (fsIf (fNotT (fTru (fCall Fis_between (fCons (fVar 0) (fCons (fC (.int 1)) (fCons (fC (.int 60)) fNil)))))) fsNever fsNext)
theorem b_check_points {P : Program} {w : World} {K : Fg} {mg : Str → Option Value} {base : Heap} (T : Tz K mg) (TC : CEnvOk K cenv) {Fis_between : GN} (k_is_between : Kn P w K mg base "is_between" 2 ["thing", "low", "high"] Fis_between) {f : Addr} (cdv : Value) (A : Around) (outer : List Env) (s : Shared) (H : Hp) (EX : XK) (hr : Room 2 (A.deeper (envOfC "check_points" (defScope s_check_points) s.heap.objs.size f cdv))) (hG : A.guards = some []) :
    ∃ ts, Ss (cxOf CX0 P w K mg base N_check_points "check_points" (defScope s_check_points) f cdv A outer s H EX).nox (defBody s_check_points) ts (g_check_points Fis_between) := by
  have hu := hr.units
  exact ⟨_, (ss_one (s_if (t_not (t_tru (e_callK k_is_between (hr.mono (by decide)) hG (a_cons (e_var 0) (a_cons e_int (a_cons (e_gint T.c_MOST_POINTS.choose_spec) a_nil)))))) (ss_one s_never) ss_nil))⟩
/-! ### _law_turns_right -/
abbrev s_law_turns_right : Stmt := topS 35
abbrev N_law_turns_right : List Str := ["_law_one", "_law_told", "_law_lengths", "_law_row", "_law_length", "_law_part"]
theorem nd_law_turns_right : (N_law_turns_right).Nodup := by decide +kernel
theorem sc_law_turns_right : FnScope N_law_turns_right ["_law_one", "_law_told"] (defScope s_law_turns_right) := ⟨rfl, rfl, rfl, nd_law_turns_right, rfl, by decide +kernel, by decide +kernel⟩
noncomputable def lc_law_turns_right_1 (Flaw_all_rounds : GN) : FA := fLc (fSeq (fCall Flaw_all_rounds (fCons (fVar 0) fNil))) (fName 3) fYes (fCall gLen (fCons (fVar 3) fNil)) [3]
noncomputable def lc_law_turns_right_2 (Flaw_all_rounds : GN) : FA := fLc (fSeq (fVar 2)) (fName 4) fYes (fOp gNeS (fOp gMod (fVar 1) (fVar 4)) (fC (.int 0))) [4]
noncomputable def lc_law_turns_right_3 (Flaw_all_rounds : GN) : FA := fLc (fSeq (fVar 2)) (fName 4) fYes (fOp gEqS (fOp gMod (fOp gFDiv (fVar 1) (fVar 5)) (fVar 4)) (fC (.int 0))) [4]
noncomputable def lb_law_turns_right_1 (Flaw_all_rounds : GN) : FS := (fsIf (fAndT (fTest (fOp gEqS (fOp gMod (fVar 1) (fVar 5)) (fC (.int 0)))) (fTru (fOn gAll (lc_law_turns_right_3 Flaw_all_rounds)))) (fsRet (fC (.bl false))) fsNext)
noncomputable def lp_law_turns_right_1 (Flaw_all_rounds : GN) : FS := fsFor (fRange2 (fC (.int 2)) (fC (.int 61))) (fName 5) (lb_law_turns_right_1 Flaw_all_rounds)
noncomputable def g_law_turns_right (Flaw_all_rounds : GN) : FS := (fsSeq (fsIf (fOrT (fNotT (fTru (fCall (gIsiC cenv) (fCons (fVar 1) (fCons (fC (.ty "int")) fNil))))) (fOrT (fTru (fCall (gIsiC cenv) (fCons (fVar 1) (fCons (fC (.ty "bool")) fNil)))) (fTest (fOp gLt (fVar 1) (fC (.int 1)))))) (fsRet (fC (.bl false))) fsNext) (fsSeq (fsAsg (fPut (lc_law_turns_right_1 Flaw_all_rounds)) (fName 2)) (fsSeq (fsIf (fTru (fOn gAny (lc_law_turns_right_2 Flaw_all_rounds))) (fsRet (fC (.bl false))) fsNext) (fsSeq (lp_law_turns_right_1 Flaw_all_rounds) (fsRet (fC (.bl true)))))))
theorem b_law_turns_right {P : Program} {w : World} {K : Fg} {mg : Str → Option Value} {base : Heap} (T : Tz K mg) (TC : CEnvOk K cenv) {Flaw_all_rounds : GN} (k_law_all_rounds : Kn P w K mg base "_law_all_rounds" 2 ["_law_one"] Flaw_all_rounds) {f : Addr} (cdv : Value) (A : Around) (outer : List Env) (s : Shared) (H : Hp) (EX : XK) (hr : Room 2 (A.deeper (envOfC "_law_turns_right" (defScope s_law_turns_right) s.heap.objs.size f cdv))) (hG : A.guards = some []) :
    ∃ ts, Ss (cxOf CX0 P w K mg base N_law_turns_right "_law_turns_right" (defScope s_law_turns_right) f cdv A outer s H EX).nox (defBody s_law_turns_right) ts (g_law_turns_right Flaw_all_rounds) := by
  have hu := hr.units
  exact ⟨_, (ss_cons (s_if (TW.t (w_or (t_not (t_tru (e_cB call_isi (gIsiC_ok TC) T.z_isinstance rfl (a_cons (e_var 1) (a_cons (e_ty T.z_int rfl) a_nil))))) (w_or (t_tru (e_cB call_isi (gIsiC_ok TC) T.z_isinstance rfl (a_cons (e_var 1) (a_cons (e_ty T.z_bool rfl) a_nil)))) (w_or1 (t_cmp cm_lt (e_var 1) e_int))))) (ss_one (s_ret e_bl)) ss_nil) (ss_cons (s_setLc 2 rfl nd_law_turns_right (i_seq (e_callK k_law_all_rounds (hr.mono (by decide)) hG (a_cons (e_var 0) a_nil))) (blkOk_by (own := [("_law_row", 3)]) rfl) (fun _ _ _ _ _ => (g_name 3 nd_law_turns_right)) (fun _ _ _ _ _ => ts_nil) (fun _ _ _ _ _ => E.to (e_cB call_len gLen_ok T.z_len rfl (a_cons (e_var 3) a_nil)) (by first | rfl | (dsimp only [blkK]; done) | (dsimp only [blkK]; rfl)))) (ss_cons (s_if (t_tru (e_onB (cr_any rfl) gAny_ok T.z_any rfl (l_lc rfl nd_law_turns_right (i_seq (e_var 2)) (blkOk_by (own := [("_law_length", 4)]) rfl) (fun _ _ _ _ _ => (g_name 4 nd_law_turns_right)) (fun _ _ _ _ _ => ts_nil) (fun _ _ _ _ _ => E.to (e_cmp (cm_neS hu) (e_mod (e_var 1) (e_var 4)) e_int) (by first | rfl | (dsimp only [blkK]; done) | (dsimp only [blkK]; rfl)))))) (ss_one (s_ret e_bl)) ss_nil) (ss_cons (s_for PassesOwn.never rfl (i_range2 T.z_range e_int e_int) (g_name 5 nd_law_turns_right) (ss_one (s_if (TW.t (w_and (t_cmp (cm_eqS hu) (e_mod (e_var 1) (e_var 5)) e_int) (w_and1 (t_tru (e_onB (cr_all rfl) gAll_ok T.z_all rfl (l_lc rfl nd_law_turns_right (i_seq (e_var 2)) (blkOk_by (own := [("_law_length", 4)]) rfl) (fun _ _ _ _ _ => (g_name 4 nd_law_turns_right)) (fun _ _ _ _ _ => ts_nil) (fun _ _ _ _ _ => E.to (e_cmp (cm_eqS hu) (e_mod (e_fdiv (e_var 1) (e_var 5)) (e_var 4)) e_int) (by first | rfl | (dsimp only [blkK]; done) | (dsimp only [blkK]; rfl))))))))) (ss_one (s_ret e_bl)) ss_nil))) (ss_one (s_ret e_bl))))))⟩
/-! ### check_move -/
abbrev s_check_move : Stmt := topS 12
abbrev N_check_move : List Str := ["thing"]
theorem nd_check_move : (N_check_move).Nodup := by decide +kernel
theorem sc_check_move : FnScope N_check_move ["thing"] (defScope s_check_move) := ⟨rfl, rfl, rfl, nd_check_move, rfl, by decide +kernel, by decide +kernel⟩
noncomputable def g_check_move (Fis_move : GN) : FS := (fsIf (fNotT (fTru (fCall Fis_move (fCons (fVar 0) fNil)))) fsNever fsNext)
theorem b_check_move {P : Program} {w : World} {K : Fg} {mg : Str → Option Value} {base : Heap} (T : Tz K mg) (TC : CEnvOk K cenv) {Fis_move : GN} (k_is_move : Kn P w K mg base "is_move" 3 ["thing"] Fis_move) {f : Addr} (cdv : Value) (A : Around) (outer : List Env) (s : Shared) (H : Hp) (EX : XK) (hr : Room 3 (A.deeper (envOfC "check_move" (defScope s_check_move) s.heap.objs.size f cdv))) (hG : A.guards = some []) :
    ∃ ts, Ss (cxOf CX0 P w K mg base N_check_move "check_move" (defScope s_check_move) f cdv A outer s H EX).nox (defBody s_check_move) ts (g_check_move Fis_move) := by
  have hu := hr.units
  exact ⟨_, (ss_one (s_if (t_not (t_tru (e_callK k_is_move (hr.mono (by decide)) hG (a_cons (e_var 0) a_nil)))) (ss_one s_never) ss_nil))⟩
/-! ### rest -/
abbrev s_rest : Stmt := topS 14
abbrev N_rest : List Str := ["points"]
theorem nd_rest : (N_rest).Nodup := by decide +kernel
theorem sc_rest : FnScope N_rest ["points"] (defScope s_rest) := ⟨rfl, rfl, rfl, nd_rest, rfl, by decide +kernel, by decide +kernel⟩
noncomputable def g_rest (Fcheck_points : GN) : FS := (fsSeq (fsDrop (fCall Fcheck_points (fCons (fVar 0) fNil))) (fsRet (fTRg1 (fVar 0))))
theorem b_rest {P : Program} {w : World} {K : Fg} {mg : Str → Option Value} {base : Heap} (T : Tz K mg) (TC : CEnvOk K cenv) {Fcheck_points : GN} (k_check_points : Kn P w K mg base "check_points" 3 ["points"] Fcheck_points) {f : Addr} (cdv : Value) (A : Around) (outer : List Env) (s : Shared) (H : Hp) (EX : XK) (hr : Room 3 (A.deeper (envOfC "rest" (defScope s_rest) s.heap.objs.size f cdv))) (hG : A.guards = some []) :
    ∃ ts, Ss (cxOf CX0 P w K mg base N_rest "rest" (defScope s_rest) f cdv A outer s H EX).nox (defBody s_rest) ts (g_rest Fcheck_points) := by
  have hu := hr.units
  exact ⟨_, (ss_cons (s_expr (e_callK k_check_points (hr.mono (by decide)) hG (a_cons (e_var 0) a_nil))) (ss_one (s_ret (e_trg1 rfl T.z_tuple T.z_range (e_var 0)))))⟩
/-! ### then -/
abbrev s_then : Stmt := topS 15
abbrev N_then : List Str := ["one", "other"]
theorem nd_then : (N_then).Nodup := by decide +kernel
theorem sc_then : FnScope N_then ["one", "other"] (defScope s_then) := ⟨rfl, rfl, rfl, nd_then, rfl, by decide +kernel, by decide +kernel⟩
noncomputable def g_then (Fcheck_move : GN) (Flinked_moves : GN) : FS := (fsSeq (fsDrop (fCall Fcheck_move (fCons (fVar 0) fNil))) (fsSeq (fsDrop (fCall Fcheck_move (fCons (fVar 1) fNil))) (fsSeq (fsIf (fTest (fOp gNeS (fCall gLen (fCons (fVar 0) fNil)) (fCall gLen (fCons (fVar 1) fNil)))) fsNever fsNext) (fsRet (fCall Flinked_moves (fCons (fVar 0) (fCons (fVar 1) fNil)))))))
theorem b_then {P : Program} {w : World} {K : Fg} {mg : Str → Option Value} {base : Heap} (T : Tz K mg) (TC : CEnvOk K cenv) {Fcheck_move : GN} (k_check_move : Kn P w K mg base "check_move" 4 ["thing"] Fcheck_move) {Flinked_moves : GN} (k_linked_moves : Kn P w K mg base "linked_moves" 1 ["one", "other"] Flinked_moves) {f : Addr} (cdv : Value) (A : Around) (outer : List Env) (s : Shared) (H : Hp) (EX : XK) (hr : Room 4 (A.deeper (envOfC "then" (defScope s_then) s.heap.objs.size f cdv))) (hG : A.guards = some []) :
    ∃ ts, Ss (cxOf CX0 P w K mg base N_then "then" (defScope s_then) f cdv A outer s H EX).nox (defBody s_then) ts (g_then Fcheck_move Flinked_moves) := by
  have hu := hr.units
  exact ⟨_, (ss_cons (s_expr (e_callK k_check_move (hr.mono (by decide)) hG (a_cons (e_var 0) a_nil))) (ss_cons (s_expr (e_callK k_check_move (hr.mono (by decide)) hG (a_cons (e_var 1) a_nil))) (ss_cons (s_if (t_cmp (cm_neS hu) (e_cB call_len gLen_ok T.z_len rfl (a_cons (e_var 0) a_nil)) (e_cB call_len gLen_ok T.z_len rfl (a_cons (e_var 1) a_nil))) (ss_one s_never) ss_nil) (ss_one (s_ret (e_callK k_linked_moves (hr.mono (by decide)) hG (a_cons (e_var 0) (a_cons (e_var 1) a_nil))))))))⟩
/-! ### undo -/
abbrev s_undo : Stmt := topS 16
abbrev N_undo : List Str := ["one"]
theorem nd_undo : (N_undo).Nodup := by decide +kernel
theorem sc_undo : FnScope N_undo ["one"] (defScope s_undo) := ⟨rfl, rfl, rfl, nd_undo, rfl, by decide +kernel, by decide +kernel⟩
noncomputable def g_undo (Fcheck_move : GN) (Fundone_move : GN) : FS := (fsSeq (fsDrop (fCall Fcheck_move (fCons (fVar 0) fNil))) (fsRet (fCall Fundone_move (fCons (fVar 0) fNil))))
theorem b_undo {P : Program} {w : World} {K : Fg} {mg : Str → Option Value} {base : Heap} (T : Tz K mg) (TC : CEnvOk K cenv) {Fcheck_move : GN} (k_check_move : Kn P w K mg base "check_move" 4 ["thing"] Fcheck_move) {Fundone_move : GN} (k_undone_move : Kn P w K mg base "undone_move" 1 ["one"] Fundone_move) {f : Addr} (cdv : Value) (A : Around) (outer : List Env) (s : Shared) (H : Hp) (EX : XK) (hr : Room 4 (A.deeper (envOfC "undo" (defScope s_undo) s.heap.objs.size f cdv))) (hG : A.guards = some []) :
    ∃ ts, Ss (cxOf CX0 P w K mg base N_undo "undo" (defScope s_undo) f cdv A outer s H EX).nox (defBody s_undo) ts (g_undo Fcheck_move Fundone_move) := by
  have hu := hr.units
  exact ⟨_, (ss_cons (s_expr (e_callK k_check_move (hr.mono (by decide)) hG (a_cons (e_var 0) a_nil))) (ss_one (s_ret (e_callK k_undone_move (hr.mono (by decide)) hG (a_cons (e_var 0) a_nil)))))⟩
/-! ### raised -/
abbrev s_raised : Stmt := topS 17
abbrev N_raised : List Str := ["one", "times", "images", "row", "place", "point"]
theorem nd_raised : (N_raised).Nodup := by decide +kernel
theorem sc_raised : FnScope N_raised ["one", "times"] (defScope s_raised) := ⟨rfl, rfl, rfl, nd_raised, rfl, by decide +kernel, by decide +kernel⟩
noncomputable def lb_raised_1 (Fcheck_move : GN) (Fis_whole : GN) (Fall_rounds : GN) : FS := (fsAsg (fOp gIx (fVar 3) (fOp gMod (fOp gAdd (fVar 4) (fVar 1)) (fCall gLen (fCons (fVar 3) fNil)))) (fSub (fVar 2) (fVar 5)))
noncomputable def lp_raised_1 (Fcheck_move : GN) (Fis_whole : GN) (Fall_rounds : GN) : FS := fsFor (fEnum (fVar 3)) (fTupG 2 (fsCons (fName 4) (fsCons (fName 5) fsNil))) (lb_raised_1 Fcheck_move Fis_whole Fall_rounds)
noncomputable def lb_raised_2 (Fcheck_move : GN) (Fis_whole : GN) (Fall_rounds : GN) : FS := (lp_raised_1 Fcheck_move Fis_whole Fall_rounds)
noncomputable def lp_raised_2 (Fcheck_move : GN) (Fis_whole : GN) (Fall_rounds : GN) : FS := fsFor (fSeq (fCall Fall_rounds (fCons (fVar 0) fNil))) (fName 3) (lb_raised_2 Fcheck_move Fis_whole Fall_rounds)
noncomputable def g_raised (Fcheck_move : GN) (Fis_whole : GN) (Fall_rounds : GN) : FS := (fsSeq (fsDrop (fCall Fcheck_move (fCons (fVar 0) fNil))) (fsSeq (fsIf (fNotT (fTru (fCall Fis_whole (fCons (fVar 1) fNil)))) fsNever fsNext) (fsSeq (fsAsg (fOp gMul (fPut (fLst (fCons (fC (.int 0)) fNil))) (fCall gLen (fCons (fVar 0) fNil))) (fName 2)) (fsSeq (lp_raised_2 Fcheck_move Fis_whole Fall_rounds) (fsRet (fCall gTupOf (fCons (fVar 2) fNil)))))))
theorem b_raised {P : Program} {w : World} {K : Fg} {mg : Str → Option Value} {base : Heap} (T : Tz K mg) (TC : CEnvOk K cenv) {Fcheck_move : GN} (k_check_move : Kn P w K mg base "check_move" 4 ["thing"] Fcheck_move) {Fis_whole : GN} (k_is_whole : Kn P w K mg base "is_whole" 1 ["thing"] Fis_whole) {Fall_rounds : GN} (k_all_rounds : Kn P w K mg base "_all_rounds" 1 ["one"] Fall_rounds) {f : Addr} (cdv : Value) (A : Around) (outer : List Env) (s : Shared) (H : Hp) (EX : XK) (hr : Room 4 (A.deeper (envOfC "raised" (defScope s_raised) s.heap.objs.size f cdv))) (hG : A.guards = some []) :
    ∃ ts, Ss (cxOf CX0 P w K mg base N_raised "raised" (defScope s_raised) f cdv A outer s H EX).nox (defBody s_raised) ts (g_raised Fcheck_move Fis_whole Fall_rounds) := by
  have hu := hr.units
  exact ⟨_, (ss_cons (s_expr (e_callK k_check_move (hr.mono (by decide)) hG (a_cons (e_var 0) a_nil))) (ss_cons (s_if (t_not (t_tru (e_callK k_is_whole (hr.mono (by decide)) hG (a_cons (e_var 1) a_nil)))) (ss_one s_never) ss_nil) (ss_cons (s_set 2 nd_raised (e_mul (L.put (l_lst (a_cons e_int a_nil))) (e_cB call_len gLen_ok T.z_len rfl (a_cons (e_var 0) a_nil)))) (ss_cons (s_for PassesOwn.never rfl (i_seq (e_callK k_all_rounds (hr.mono (by decide)) hG (a_cons (e_var 0) a_nil))) (g_name 3 nd_raised) (ss_one (s_for PassesOwn.never rfl (i_enumT T.z_enumerate (e_var 3)) (g_tup rfl (gs_cons (g_name 4 nd_raised) (gs_cons (g_name 5 nd_raised) gs_nil))) (ss_one (s_asg (e_ix (e_var 3) (e_mod (e_add (e_var 4) (e_var 1)) (e_cB call_len gLen_ok T.z_len rfl (a_cons (e_var 3) a_nil)))) (g_sub (e_var 2) (e_var 5))))))) (ss_one (s_ret (e_cT call_tuple_of gTupOf_ok T.z_tuple rfl (a_cons (e_var 2) a_nil))))))))⟩
/-! ### turns -/
abbrev s_turns : Stmt := topS 18
abbrev N_turns : List Str := ["one", "many", "row"]
theorem nd_turns : (N_turns).Nodup := by decide +kernel
theorem sc_turns : FnScope N_turns ["one"] (defScope s_turns) := ⟨rfl, rfl, rfl, nd_turns, rfl, by decide +kernel, by decide +kernel⟩
noncomputable def lb_turns_1 (Fcheck_move : GN) (Fall_rounds : GN) : FS := (fsAsg (fCall gLcm (fCons (fVar 1) (fCons (fCall gLen (fCons (fVar 2) fNil)) fNil))) (fName 1))
noncomputable def lp_turns_1 (Fcheck_move : GN) (Fall_rounds : GN) : FS := fsFor (fSeq (fCall Fall_rounds (fCons (fVar 0) fNil))) (fName 2) (lb_turns_1 Fcheck_move Fall_rounds)
noncomputable def g_turns (Fcheck_move : GN) (Fall_rounds : GN) : FS := (fsSeq (fsDrop (fCall Fcheck_move (fCons (fVar 0) fNil))) (fsSeq (fsAsg (fC (.int 1)) (fName 1)) (fsSeq (lp_turns_1 Fcheck_move Fall_rounds) (fsRet (fVar 1)))))
theorem b_turns {P : Program} {w : World} {K : Fg} {mg : Str → Option Value} {base : Heap} (T : Tz K mg) (TC : CEnvOk K cenv) {Fcheck_move : GN} (k_check_move : Kn P w K mg base "check_move" 4 ["thing"] Fcheck_move) {Fall_rounds : GN} (k_all_rounds : Kn P w K mg base "_all_rounds" 1 ["one"] Fall_rounds) {f : Addr} (cdv : Value) (A : Around) (outer : List Env) (s : Shared) (H : Hp) (EX : XK) (hr : Room 4 (A.deeper (envOfC "turns" (defScope s_turns) s.heap.objs.size f cdv))) (hG : A.guards = some []) :
    ∃ ts, Ss (cxOf CX0 P w K mg base N_turns "turns" (defScope s_turns) f cdv A outer s H EX).nox (defBody s_turns) ts (g_turns Fcheck_move Fall_rounds) := by
  have hu := hr.units
  exact ⟨_, (ss_cons (s_expr (e_callK k_check_move (hr.mono (by decide)) hG (a_cons (e_var 0) a_nil))) (ss_cons (s_set 1 nd_turns e_int) (ss_cons (s_for PassesOwn.never rfl (i_seq (e_callK k_all_rounds (hr.mono (by decide)) hG (a_cons (e_var 0) a_nil))) (g_name 2 nd_turns) (ss_one (s_set 1 nd_turns (e_cF cr_lcm gLcm_ok T.f_lcm (a_cons (e_var 1) (a_cons (e_cB call_len gLen_ok T.z_len rfl (a_cons (e_var 2) a_nil)) a_nil)))))) (ss_one (s_ret (e_var 1))))))⟩
/-! ### rounds -/
abbrev s_rounds : Stmt := topS 19
abbrev N_rounds : List Str := ["one", "row"]
theorem nd_rounds : (N_rounds).Nodup := by decide +kernel
theorem sc_rounds : FnScope N_rounds ["one"] (defScope s_rounds) := ⟨rfl, rfl, rfl, nd_rounds, rfl, by decide +kernel, by decide +kernel⟩
noncomputable def lc_rounds_1 (Fcheck_move : GN) (Fall_rounds : GN) : FA := fLc (fSeq (fCall Fall_rounds (fCons (fVar 0) fNil))) (fName 1) (fTest (fOp gGt (fCall gLen (fCons (fVar 1) fNil)) (fC (.int 1)))) (fVar 1) [1]
noncomputable def g_rounds (Fcheck_move : GN) (Fall_rounds : GN) : FS := (fsSeq (fsDrop (fCall Fcheck_move (fCons (fVar 0) fNil))) (fsRet (fOn gTupN (lc_rounds_1 Fcheck_move Fall_rounds))))
theorem b_rounds {P : Program} {w : World} {K : Fg} {mg : Str → Option Value} {base : Heap} (T : Tz K mg) (TC : CEnvOk K cenv) {Fcheck_move : GN} (k_check_move : Kn P w K mg base "check_move" 4 ["thing"] Fcheck_move) {Fall_rounds : GN} (k_all_rounds : Kn P w K mg base "_all_rounds" 1 ["one"] Fall_rounds) {f : Addr} (cdv : Value) (A : Around) (outer : List Env) (s : Shared) (H : Hp) (EX : XK) (hr : Room 4 (A.deeper (envOfC "rounds" (defScope s_rounds) s.heap.objs.size f cdv))) (hG : A.guards = some []) :
    ∃ ts, Ss (cxOf CX0 P w K mg base N_rounds "rounds" (defScope s_rounds) f cdv A outer s H EX).nox (defBody s_rounds) ts (g_rounds Fcheck_move Fall_rounds) := by
  have hu := hr.units
  exact ⟨_, (ss_cons (s_expr (e_callK k_check_move (hr.mono (by decide)) hG (a_cons (e_var 0) a_nil))) (ss_one (s_ret (e_onT call_tuple_of gTupN_ok T.z_tuple rfl (l_lc rfl nd_rounds (i_seq (e_callK k_all_rounds (hr.mono (by decide)) hG (a_cons (e_var 0) a_nil))) (blkOk_by (own := [("row", 1)]) rfl) (fun _ _ _ _ _ => (g_name 1 nd_rounds)) (fun _ _ _ _ _ => Ts.to (ts_one (t_cmp cm_gt (e_cB call_len gLen_ok T.z_len rfl (a_cons (e_var 1) a_nil)) e_int)) (by first | rfl | (dsimp only [blkK]; done) | (dsimp only [blkK]; rfl))) (fun _ _ _ _ _ => E.to (e_var 1) (by first | rfl | (dsimp only [blkK]; done) | (dsimp only [blkK]; rfl))))))))⟩
/-! ### sign -/
abbrev s_sign : Stmt := topS 20
abbrev N_sign : List Str := ["one"]
theorem nd_sign : (N_sign).Nodup := by decide +kernel
theorem sc_sign : FnScope N_sign ["one"] (defScope s_sign) := ⟨rfl, rfl, rfl, nd_sign, rfl, by decide +kernel, by decide +kernel⟩
noncomputable def g_sign (Fcheck_move : GN) (Fall_rounds : GN) : FS := (fsSeq (fsDrop (fCall Fcheck_move (fCons (fVar 0) fNil))) (fsRet (fIf (fTru (fOp gMod (fOp gSub (fCall gLen (fCons (fVar 0) fNil)) (fCall gLen (fCons (fCall Fall_rounds (fCons (fVar 0) fNil)) fNil))) (fC (.int 2)))) (fUn gNeg (fC (.int 1))) (fC (.int 1)))))
theorem b_sign {P : Program} {w : World} {K : Fg} {mg : Str → Option Value} {base : Heap} (T : Tz K mg) (TC : CEnvOk K cenv) {Fcheck_move : GN} (k_check_move : Kn P w K mg base "check_move" 4 ["thing"] Fcheck_move) {Fall_rounds : GN} (k_all_rounds : Kn P w K mg base "_all_rounds" 1 ["one"] Fall_rounds) {f : Addr} (cdv : Value) (A : Around) (outer : List Env) (s : Shared) (H : Hp) (EX : XK) (hr : Room 4 (A.deeper (envOfC "sign" (defScope s_sign) s.heap.objs.size f cdv))) (hG : A.guards = some []) :
    ∃ ts, Ss (cxOf CX0 P w K mg base N_sign "sign" (defScope s_sign) f cdv A outer s H EX).nox (defBody s_sign) ts (g_sign Fcheck_move Fall_rounds) := by
  have hu := hr.units
  exact ⟨_, (ss_cons (s_expr (e_callK k_check_move (hr.mono (by decide)) hG (a_cons (e_var 0) a_nil))) (ss_one (s_ret (e_if (t_tru (e_mod (e_sub (e_cB call_len gLen_ok T.z_len rfl (a_cons (e_var 0) a_nil)) (e_cB call_len gLen_ok T.z_len rfl (a_cons (e_callK k_all_rounds (hr.mono (by decide)) hG (a_cons (e_var 0) a_nil)) a_nil))) e_int)) (e_neg e_int) e_int))))⟩
/-! ### _law_told_right -/
abbrev s_law_told_right : Stmt := topS 39
abbrev N_law_told_right : List Str := ["_law_one", "_law_two", "_law_much", "_law_due", "_law_row"]
theorem nd_law_told_right : (N_law_told_right).Nodup := by decide +kernel
theorem sc_law_told_right : FnScope N_law_told_right ["_law_one", "_law_two", "_law_much"] (defScope s_law_told_right) := ⟨rfl, rfl, rfl, nd_law_told_right, rfl, by decide +kernel, by decide +kernel⟩
noncomputable def lc_law_told_right_1 (Flaw_same : GN) (Fthen : GN) (Flaw_then : GN) (Fundo : GN) (Flaw_undo : GN) (Fraised : GN) (Flaw_raised_due : GN) (Fsign : GN) (Flaw_sign_due : GN) (Flaw_all_rounds : GN) (Frounds : GN) (Flaw_turns_right : GN) (Fturns : GN) : FA := fLc (fSeq (fCall Flaw_all_rounds (fCons (fVar 0) fNil))) (fName 4) (fTest (fOp gGt (fCall gLen (fCons (fVar 4) fNil)) (fC (.int 1)))) (fVar 4) [4]
noncomputable def g_law_told_right (Flaw_same : GN) (Fthen : GN) (Flaw_then : GN) (Fundo : GN) (Flaw_undo : GN) (Fraised : GN) (Flaw_raised_due : GN) (Fsign : GN) (Flaw_sign_due : GN) (Flaw_all_rounds : GN) (Frounds : GN) (Flaw_turns_right : GN) (Fturns : GN) : FS := (fsSeq (fsIf (fOrT (fNotT (fTru (fCall Flaw_same (fCons (fCall Fthen (fCons (fVar 0) (fCons (fVar 1) fNil))) (fCons (fCall Flaw_then (fCons (fVar 0) (fCons (fVar 1) fNil))) fNil))))) (fNotT (fTru (fCall Flaw_same (fCons (fCall Fundo (fCons (fVar 0) fNil)) (fCons (fCall Flaw_undo (fCons (fVar 0) fNil)) fNil)))))) (fsRet (fC (.bl false))) fsNext) (fsSeq (fsIf (fOrT (fNotT (fTru (fCall Flaw_same (fCons (fCall Fraised (fCons (fVar 0) (fCons (fVar 2) fNil))) (fCons (fCall Flaw_raised_due (fCons (fVar 0) (fCons (fVar 2) fNil))) fNil))))) (fNotT (fTru (fCall Flaw_same (fCons (fCall Fsign (fCons (fVar 0) fNil)) (fCons (fCall Flaw_sign_due (fCons (fVar 0) fNil)) fNil)))))) (fsRet (fC (.bl false))) fsNext) (fsSeq (fsAsg (fOn gTupN (lc_law_told_right_1 Flaw_same Fthen Flaw_then Fundo Flaw_undo Fraised Flaw_raised_due Fsign Flaw_sign_due Flaw_all_rounds Frounds Flaw_turns_right Fturns)) (fName 3)) (fsRet (fAnd (fCall Flaw_same (fCons (fCall Frounds (fCons (fVar 0) fNil)) (fCons (fVar 3) fNil))) (fCall Flaw_turns_right (fCons (fVar 0) (fCons (fCall Fturns (fCons (fVar 0) fNil)) fNil))))))))
theorem b_law_told_right {P : Program} {w : World} {K : Fg} {mg : Str → Option Value} {base : Heap} (T : Tz K mg) (TC : CEnvOk K cenv) {Flaw_same : GN} (k_law_same : Kn P w K mg base "_law_same" 1 ["_law_told", "_law_due"] Flaw_same) {Fthen : GN} (k_then : Kn P w K mg base "then" 5 ["one", "other"] Fthen) {Flaw_then : GN} (k_law_then : Kn P w K mg base "_law_then" 1 ["_law_one", "_law_other"] Flaw_then) {Fundo : GN} (k_undo : Kn P w K mg base "undo" 5 ["one"] Fundo) {Flaw_undo : GN} (k_law_undo : Kn P w K mg base "_law_undo" 1 ["_law_one"] Flaw_undo) {Fraised : GN} (k_raised : Kn P w K mg base "raised" 5 ["one", "times"] Fraised) {Flaw_raised_due : GN} (k_law_raised_due : Kn P w K mg base "_law_raised_due" 2 ["_law_one", "_law_much"] Flaw_raised_due) {Fsign : GN} (k_sign : Kn P w K mg base "sign" 5 ["one"] Fsign) {Flaw_sign_due : GN} (k_law_sign_due : Kn P w K mg base "_law_sign_due" 1 ["_law_one"] Flaw_sign_due) {Flaw_all_rounds : GN} (k_law_all_rounds : Kn P w K mg base "_law_all_rounds" 2 ["_law_one"] Flaw_all_rounds) {Frounds : GN} (k_rounds : Kn P w K mg base "rounds" 5 ["one"] Frounds) {Flaw_turns_right : GN} (k_law_turns_right : Kn P w K mg base "_law_turns_right" 3 ["_law_one", "_law_told"] Flaw_turns_right) {Fturns : GN} (k_turns : Kn P w K mg base "turns" 5 ["one"] Fturns) {f : Addr} (cdv : Value) (A : Around) (outer : List Env) (s : Shared) (H : Hp) (EX : XK) (hr : Room 5 (A.deeper (envOfC "_law_told_right" (defScope s_law_told_right) s.heap.objs.size f cdv))) (hG : A.guards = some []) :
    ∃ ts, Ss (cxOf CX0 P w K mg base N_law_told_right "_law_told_right" (defScope s_law_told_right) f cdv A outer s H EX).nox (defBody s_law_told_right) ts (g_law_told_right Flaw_same Fthen Flaw_then Fundo Flaw_undo Fraised Flaw_raised_due Fsign Flaw_sign_due Flaw_all_rounds Frounds Flaw_turns_right Fturns) := by
  have hu := hr.units
  exact ⟨_, (ss_cons (s_if (TW.t (w_or (t_not (t_tru (e_callK k_law_same (hr.mono (by decide)) hG (a_cons (e_callK k_then (hr.mono (by decide)) hG (a_cons (e_var 0) (a_cons (e_var 1) a_nil))) (a_cons (e_callK k_law_then (hr.mono (by decide)) hG (a_cons (e_var 0) (a_cons (e_var 1) a_nil))) a_nil))))) (w_or1 (t_not (t_tru (e_callK k_law_same (hr.mono (by decide)) hG (a_cons (e_callK k_undo (hr.mono (by decide)) hG (a_cons (e_var 0) a_nil)) (a_cons (e_callK k_law_undo (hr.mono (by decide)) hG (a_cons (e_var 0) a_nil)) a_nil)))))))) (ss_one (s_ret e_bl)) ss_nil) (ss_cons (s_if (TW.t (w_or (t_not (t_tru (e_callK k_law_same (hr.mono (by decide)) hG (a_cons (e_callK k_raised (hr.mono (by decide)) hG (a_cons (e_var 0) (a_cons (e_var 2) a_nil))) (a_cons (e_callK k_law_raised_due (hr.mono (by decide)) hG (a_cons (e_var 0) (a_cons (e_var 2) a_nil))) a_nil))))) (w_or1 (t_not (t_tru (e_callK k_law_same (hr.mono (by decide)) hG (a_cons (e_callK k_sign (hr.mono (by decide)) hG (a_cons (e_var 0) a_nil)) (a_cons (e_callK k_law_sign_due (hr.mono (by decide)) hG (a_cons (e_var 0) a_nil)) a_nil)))))))) (ss_one (s_ret e_bl)) ss_nil) (ss_cons (s_set 3 nd_law_told_right (e_onT call_tuple_of gTupN_ok T.z_tuple rfl (l_lc rfl nd_law_told_right (i_seq (e_callK k_law_all_rounds (hr.mono (by decide)) hG (a_cons (e_var 0) a_nil))) (blkOk_by (own := [("_law_row", 4)]) rfl) (fun _ _ _ _ _ => (g_name 4 nd_law_told_right)) (fun _ _ _ _ _ => Ts.to (ts_one (t_cmp cm_gt (e_cB call_len gLen_ok T.z_len rfl (a_cons (e_var 4) a_nil)) e_int)) (by first | rfl | (dsimp only [blkK]; done) | (dsimp only [blkK]; rfl))) (fun _ _ _ _ _ => E.to (e_var 4) (by first | rfl | (dsimp only [blkK]; done) | (dsimp only [blkK]; rfl)))))) (ss_one (s_ret (e_and (e_callK k_law_same (hr.mono (by decide)) hG (a_cons (e_callK k_rounds (hr.mono (by decide)) hG (a_cons (e_var 0) a_nil)) (a_cons (e_var 3) a_nil))) (e_one (e_callK k_law_turns_right (hr.mono (by decide)) hG (a_cons (e_var 0) (a_cons (e_callK k_turns (hr.mono (by decide)) hG (a_cons (e_var 0) a_nil)) a_nil))))))))))⟩
/-! ### _law_right -/
abbrev s_law_right : Stmt := topS 40
abbrev N_law_right : List Str := ["_law_pool_here", "_law_great", "_law_points", "_law_one", "_law_two", "_law_small", "_law_much", "_law_turn", "_law_thing", "_law_before", "_law_odd", "_law_number", "_law_twin", "_law_part"]
theorem nd_law_right : (N_law_right).Nodup := by decide +kernel
theorem sc_law_right : FnScope N_law_right ["_law_pool_here"] (defScope s_law_right) := ⟨rfl, rfl, rfl, nd_law_right, rfl, by decide +kernel, by decide +kernel⟩
noncomputable def lb_law_right_1 (Flaw_take : GN) (Flaw_move : GN) (Flaw_told_right : GN) (Flaw_same : GN) (Frest : GN) (Fthen : GN) (Fundo : GN) (Flaw_bent : GN) (Fis_move : GN) (Flaw_is_move_due : GN) : FS := (fsIf (fOrT (fNotT (fTru (fCall Flaw_told_right (fCons (fVar 3) (fCons (fVar 4) (fCons (fVar 6) fNil)))))) (fNotT (fTru (fCall Flaw_told_right (fCons (fVar 4) (fCons (fVar 3) (fCons (fVar 6) fNil))))))) (fsRet (fC (.bl false))) fsNext)
noncomputable def lp_law_right_1 (Flaw_take : GN) (Flaw_move : GN) (Flaw_told_right : GN) (Flaw_same : GN) (Frest : GN) (Fthen : GN) (Fundo : GN) (Flaw_bent : GN) (Fis_move : GN) (Flaw_is_move_due : GN) : FS := fsFor (fSeqN (fLst (fCons (fC (.int 0)) (fCons (fC (.int 1)) (fCons (fOp gSub (fC (.int 0)) (fC (.int 1))) (fCons (fVar 5) (fCons (fOp gAdd (fOp gPow (fC (.int 10)) (fC (.int 39))) (fCall Flaw_take (fCons (fVar 0) (fCons (fC (.int 9999)) fNil)))) (fCons (fOp gSub (fOp gSub (fC (.int 0)) (fOp gPow (fC (.int 10)) (fC (.int 39)))) (fVar 5)) fNil)))))))) (fName 6) (lb_law_right_1 Flaw_take Flaw_move Flaw_told_right Flaw_same Frest Fthen Fundo Flaw_bent Fis_move Flaw_is_move_due)
noncomputable def lb_law_right_2 (Flaw_take : GN) (Flaw_move : GN) (Flaw_told_right : GN) (Flaw_same : GN) (Frest : GN) (Fthen : GN) (Fundo : GN) (Flaw_bent : GN) (Fis_move : GN) (Flaw_is_move_due : GN) : FS := (fsSeq (fsAsg (fCall Flaw_bent (fCons (fVar 0) (fCons (fVar 3) fNil))) (fName 8)) (fsSeq (fsAsg (fCall gReprA (fCons (fVar 8) fNil)) (fName 9)) (fsIf (fOrT (fNotT (fTru (fCall Flaw_same (fCons (fCall Fis_move (fCons (fVar 8) fNil)) (fCons (fCall Flaw_is_move_due (fCons (fVar 8) fNil)) fNil))))) (fTest (fOp gNeS (fCall gReprA (fCons (fVar 8) fNil)) (fVar 9)))) (fsRet (fC (.bl false))) fsNext)))
noncomputable def lp_law_right_2 (Flaw_take : GN) (Flaw_move : GN) (Flaw_told_right : GN) (Flaw_same : GN) (Frest : GN) (Fthen : GN) (Fundo : GN) (Flaw_bent : GN) (Fis_move : GN) (Flaw_is_move_due : GN) : FS := fsFor (fRange1 (fC (.int 4))) (fName 7) (lb_law_right_2 Flaw_take Flaw_move Flaw_told_right Flaw_same Frest Fthen Fundo Flaw_bent Fis_move Flaw_is_move_due)
noncomputable def lc_law_right_1 (Flaw_take : GN) (Flaw_move : GN) (Flaw_told_right : GN) (Flaw_same : GN) (Frest : GN) (Fthen : GN) (Fundo : GN) (Flaw_bent : GN) (Fis_move : GN) (Flaw_is_move_due : GN) : FA := fLc (fSeq (fVar 3)) (fName 13) fYes (fIf (fTest (fOp gEqS (fVar 13) (fVar 11))) (fOp gEqS (fVar 11) (fC (.int 1))) (fVar 13)) [13]
noncomputable def lb_law_right_3 (Flaw_take : GN) (Flaw_move : GN) (Flaw_told_right : GN) (Flaw_same : GN) (Frest : GN) (Fthen : GN) (Fundo : GN) (Flaw_bent : GN) (Fis_move : GN) (Flaw_is_move_due : GN) : FS := (fsSeq (fsAsg (fOn gTupN (lc_law_right_1 Flaw_take Flaw_move Flaw_told_right Flaw_same Frest Fthen Fundo Flaw_bent Fis_move Flaw_is_move_due)) (fName 12)) (fsIf (fOrT (fTest (fOp gIsNot (fCall Fis_move (fCons (fVar 3) fNil)) (fC (.bl true)))) (fAndT (fTest (fOp gLt (fVar 11) (fVar 2))) (fTest (fOp gIsNot (fCall Fis_move (fCons (fVar 12) fNil)) (fC (.bl false)))))) (fsRet (fC (.bl false))) fsNext))
noncomputable def lp_law_right_3 (Flaw_take : GN) (Flaw_move : GN) (Flaw_told_right : GN) (Flaw_same : GN) (Frest : GN) (Fthen : GN) (Fundo : GN) (Flaw_bent : GN) (Fis_move : GN) (Flaw_is_move_due : GN) : FS := fsFor (fRange1 (fC (.int 2))) (fName 11) (lb_law_right_3 Flaw_take Flaw_move Flaw_told_right Flaw_same Frest Fthen Fundo Flaw_bent Fis_move Flaw_is_move_due)
noncomputable def g_law_right (Flaw_take : GN) (Flaw_move : GN) (Flaw_told_right : GN) (Flaw_same : GN) (Frest : GN) (Fthen : GN) (Fundo : GN) (Flaw_bent : GN) (Fis_move : GN) (Flaw_is_move_due : GN) : FS := (fsSeq (fsAsg (fCall gIntOf (fCons (fOp gEqS (fCall Flaw_take (fCons (fVar 0) (fCons (fC (.int 8)) fNil))) (fC (.int 3))) fNil)) (fName 1)) (fsSeq (fsAsg (fOp gAdd (fC (.int 1)) (fCall Flaw_take (fCons (fVar 0) (fCons (fIxN (fLst (fCons (fC (.int 9)) (fCons (fC (.int 60)) fNil))) (fVar 1)) fNil)))) (fName 2)) (fsSeq (fsPar 3 4 (fCons (fCall Flaw_move (fCons (fVar 0) (fCons (fVar 2) fNil))) (fCons (fCall Flaw_move (fCons (fVar 0) (fCons (fVar 2) fNil))) fNil))) (fsSeq (fsAsg (fOp gSub (fCall Flaw_take (fCons (fVar 0) (fCons (fC (.int 40)) fNil))) (fC (.int 20))) (fName 5)) (fsSeq (lp_law_right_1 Flaw_take Flaw_move Flaw_told_right Flaw_same Frest Fthen Fundo Flaw_bent Fis_move Flaw_is_move_due) (fsSeq (fsIf (fOrT (fNotT (fTru (fCall Flaw_same (fCons (fCall Frest (fCons (fVar 2) fNil)) (fCons (fTRg1 (fVar 2)) fNil))))) (fTest (fOp gNeS (fCall Fthen (fCons (fVar 3) (fCons (fCall Fundo (fCons (fVar 3) fNil)) fNil))) (fCall Frest (fCons (fVar 2) fNil))))) (fsRet (fC (.bl false))) fsNext) (fsSeq (lp_law_right_2 Flaw_take Flaw_move Flaw_told_right Flaw_same Frest Fthen Fundo Flaw_bent Fis_move Flaw_is_move_due) (fsSeq (fsAsg (fIxN (fLst (fCons (fC .non) (fCons (fC (.int 0)) (fCons (fC (.bl true)) (fCons (fC (.str "")) (fCons (fC (.str "()")) (fCons (fTup fNil) (fCons (fPut (fLst fNil)) (fCons fDnew (fCons (fTup (fCons (fPut (fLst fNil)) fNil)) (fCons (fC (.str "012")) (fCons (fTup (fCons (fTup (fCons (fC (.int 0)) fNil)) fNil)) (fCons (fTup (fCons (fC .non) fNil)) (fCons (fTup (fCons (fC (.int 0)) (fCons (fPut (fLst fNil)) fNil))) fNil)))))))))))))) (fCall Flaw_take (fCons (fVar 0) (fCons (fC (.int 13)) fNil)))) (fName 10)) (fsSeq (lp_law_right_3 Flaw_take Flaw_move Flaw_told_right Flaw_same Frest Fthen Fundo Flaw_bent Fis_move Flaw_is_move_due) (fsRet (fAnd (fOp gIs (fCall Fis_move (fCons (fVar 10) fNil)) (fC (.bl false))) (fAnd (fOp gIs (fCall Fis_move (fCons (fVar 3) fNil)) (fC (.bl true))) (fCall Flaw_told_right (fCons (fVar 3) (fCons (fVar 4) (fCons (fVar 5) fNil))))))))))))))))
theorem b_law_right {P : Program} {w : World} {K : Fg} {mg : Str → Option Value} {base : Heap} (T : Tz K mg) (TC : CEnvOk K cenv) {Flaw_take : GN} (k_law_take : Kn P w K mg base "_law_take" 1 ["_law_pool_here", "_law_many"] Flaw_take) {Flaw_move : GN} (k_law_move : Kn P w K mg base "_law_move" 2 ["_law_pool_here", "_law_points"] Flaw_move) {Flaw_told_right : GN} (k_law_told_right : Kn P w K mg base "_law_told_right" 6 ["_law_one", "_law_two", "_law_much"] Flaw_told_right) {Flaw_same : GN} (k_law_same : Kn P w K mg base "_law_same" 1 ["_law_told", "_law_due"] Flaw_same) {Frest : GN} (k_rest : Kn P w K mg base "rest" 4 ["points"] Frest) {Fthen : GN} (k_then : Kn P w K mg base "then" 5 ["one", "other"] Fthen) {Fundo : GN} (k_undo : Kn P w K mg base "undo" 5 ["one"] Fundo) {Flaw_bent : GN} (k_law_bent : Kn P w K mg base "_law_bent" 2 ["_law_pool_here", "_law_one"] Flaw_bent) {Fis_move : GN} (k_is_move : Kn P w K mg base "is_move" 3 ["thing"] Fis_move) {Flaw_is_move_due : GN} (k_law_is_move_due : Kn P w K mg base "_law_is_move_due" 1 ["_law_thing"] Flaw_is_move_due) {f : Addr} (cdv : Value) (A : Around) (outer : List Env) (s : Shared) (H : Hp) (EX : XK) (hr : Room 6 (A.deeper (envOfC "_law_right" (defScope s_law_right) s.heap.objs.size f cdv))) (hG : A.guards = some []) :
    ∃ ts, Ss (cxOf CX0 P w K mg base N_law_right "_law_right" (defScope s_law_right) f cdv A outer s H EX).nox (defBody s_law_right) ts (g_law_right Flaw_take Flaw_move Flaw_told_right Flaw_same Frest Fthen Fundo Flaw_bent Fis_move Flaw_is_move_due) := by
  have hu := hr.units
  exact ⟨_, (ss_cons (s_set 1 nd_law_right (e_cT call_int1 gIntOf_ok T.z_int rfl (a_cons (e_cmp (cm_eqS hu) (e_callK k_law_take (hr.mono (by decide)) hG (a_cons (e_var 0) (a_cons e_int a_nil))) e_int) a_nil))) (ss_cons (s_set 2 nd_law_right (e_add e_int (e_callK k_law_take (hr.mono (by decide)) hG (a_cons (e_var 0) (a_cons (e_ixN (l_lst (a_cons e_int (a_cons e_int a_nil))) (e_var 1)) a_nil))))) (ss_cons (s_par 3 4 rfl nd_law_right (a_cons (e_callK k_law_move (hr.mono (by decide)) hG (a_cons (e_var 0) (a_cons (e_var 2) a_nil))) (a_cons (e_callK k_law_move (hr.mono (by decide)) hG (a_cons (e_var 0) (a_cons (e_var 2) a_nil))) a_nil))) (ss_cons (s_set 5 nd_law_right (e_sub (e_callK k_law_take (hr.mono (by decide)) hG (a_cons (e_var 0) (a_cons e_int a_nil))) e_int)) (ss_cons (s_for PassesOwn.never rfl (i_new (l_lst (a_cons e_int (a_cons e_int (a_cons (e_sub e_int e_int) (a_cons (e_var 5) (a_cons (e_add (e_pow e_int e_int) (e_callK k_law_take (hr.mono (by decide)) hG (a_cons (e_var 0) (a_cons e_int a_nil)))) (a_cons (e_sub (e_sub e_int (e_pow e_int e_int)) (e_var 5)) a_nil)))))))) (g_name 6 nd_law_right) (ss_one (s_if (TW.t (w_or (t_not (t_tru (e_callK k_law_told_right (hr.mono (by decide)) hG (a_cons (e_var 3) (a_cons (e_var 4) (a_cons (e_var 6) a_nil)))))) (w_or1 (t_not (t_tru (e_callK k_law_told_right (hr.mono (by decide)) hG (a_cons (e_var 4) (a_cons (e_var 3) (a_cons (e_var 6) a_nil))))))))) (ss_one (s_ret e_bl)) ss_nil))) (ss_cons (s_if (TW.t (w_or (t_not (t_tru (e_callK k_law_same (hr.mono (by decide)) hG (a_cons (e_callK k_rest (hr.mono (by decide)) hG (a_cons (e_var 2) a_nil)) (a_cons (e_trg1 rfl T.z_tuple T.z_range (e_var 2)) a_nil))))) (w_or1 (t_cmp (cm_neS hu) (e_callK k_then (hr.mono (by decide)) hG (a_cons (e_var 3) (a_cons (e_callK k_undo (hr.mono (by decide)) hG (a_cons (e_var 3) a_nil)) a_nil))) (e_callK k_rest (hr.mono (by decide)) hG (a_cons (e_var 2) a_nil)))))) (ss_one (s_ret e_bl)) ss_nil) (ss_cons (s_for PassesOwn.never rfl (i_range1 T.z_range e_int) (g_name 7 nd_law_right) (ss_cons (s_set 8 nd_law_right (e_callK k_law_bent (hr.mono (by decide)) hG (a_cons (e_var 0) (a_cons (e_var 3) a_nil)))) (ss_cons (s_set 9 nd_law_right (e_cB (cr_reprA hG hu) gReprA_ok T.z_repr rfl (a_cons (e_var 8) a_nil))) (ss_one (s_if (TW.t (w_or (t_not (t_tru (e_callK k_law_same (hr.mono (by decide)) hG (a_cons (e_callK k_is_move (hr.mono (by decide)) hG (a_cons (e_var 8) a_nil)) (a_cons (e_callK k_law_is_move_due (hr.mono (by decide)) hG (a_cons (e_var 8) a_nil)) a_nil))))) (w_or1 (t_cmp (cm_neS hu) (e_cB (cr_reprA hG hu) gReprA_ok T.z_repr rfl (a_cons (e_var 8) a_nil)) (e_var 9))))) (ss_one (s_ret e_bl)) ss_nil))))) (ss_cons (s_set 10 nd_law_right (e_ixN (l_lst (a_cons e_non (a_cons e_int (a_cons e_bl (a_cons e_str (a_cons e_str (a_cons (e_tup a_nil) (a_cons (L.put (l_lst a_nil)) (a_cons e_dnew (a_cons (e_tup (a_cons (L.put (l_lst a_nil)) a_nil)) (a_cons e_str (a_cons (e_tup (a_cons (e_tup (a_cons e_int a_nil)) a_nil)) (a_cons (e_tup (a_cons e_non a_nil)) (a_cons (e_tup (a_cons e_int (a_cons (L.put (l_lst a_nil)) a_nil))) a_nil)))))))))))))) (e_callK k_law_take (hr.mono (by decide)) hG (a_cons (e_var 0) (a_cons e_int a_nil))))) (ss_cons (s_for PassesOwn.never rfl (i_range1 T.z_range e_int) (g_name 11 nd_law_right) (ss_cons (s_set 12 nd_law_right (e_onT call_tuple_of gTupN_ok T.z_tuple rfl (l_lc rfl nd_law_right (i_seq (e_var 3)) (blkOk_by (own := [("_law_part", 13)]) rfl) (fun _ _ _ _ _ => (g_name 13 nd_law_right)) (fun _ _ _ _ _ => ts_nil) (fun _ _ _ _ _ => E.to (e_if (t_cmp (cm_eqS hu) (e_var 13) (e_var 11)) (e_cmp (cm_eqS hu) (e_var 11) e_int) (e_var 13)) (by first | rfl | (dsimp only [blkK]; done) | (dsimp only [blkK]; rfl)))))) (ss_one (s_if (TW.t (w_or (t_cmp cm_isnot (e_callK k_is_move (hr.mono (by decide)) hG (a_cons (e_var 3) a_nil)) e_bl) (w_or1 (TW.t (w_and (t_cmp cm_lt (e_var 11) (e_var 2)) (w_and1 (t_cmp cm_isnot (e_callK k_is_move (hr.mono (by decide)) hG (a_cons (e_var 12) a_nil)) e_bl))))))) (ss_one (s_ret e_bl)) ss_nil)))) (ss_one (s_ret (e_and (e_cmp cm_is (e_callK k_is_move (hr.mono (by decide)) hG (a_cons (e_var 10) a_nil)) e_bl) (e_and (e_cmp cm_is (e_callK k_is_move (hr.mono (by decide)) hG (a_cons (e_var 3) a_nil)) e_bl) (e_one (e_callK k_law_told_right (hr.mono (by decide)) hG (a_cons (e_var 3) (a_cons (e_var 4) (a_cons (e_var 5) a_nil))))))))))))))))))⟩
/-! ### law -/
abbrev s_law : Stmt := topS 41
abbrev N_law : List Str := ["_law_script", "_law_k"]
theorem nd_law : (N_law).Nodup := by decide +kernel
theorem sc_law : FnScope N_law ["_law_script"] (defScope s_law) := ⟨rfl, rfl, rfl, nd_law, rfl, by decide +kernel, by decide +kernel⟩
noncomputable def lc_law_1 (Flaw_right : GN) (Flaw_pool : GN) (Flaw_cell : GN) : FA := fLc (fRange1 (fCall gMax2 (fCons (fC (.int 1)) (fCons (fCall gMin2 (fCons (fCall gLen (fCons (fVar 0) fNil)) (fCons (fC (.int 5)) fNil))) fNil)))) (fName 1) fYes (fCall Flaw_right (fCons (fCall Flaw_pool (fCons (fCall Flaw_cell (fCons (fVar 0) (fCons (fVar 1) fNil))) fNil)) fNil)) [1]
noncomputable def g_law (Flaw_right : GN) (Flaw_pool : GN) (Flaw_cell : GN) : FS := (fsRet (fOn gAll (lc_law_1 Flaw_right Flaw_pool Flaw_cell)))
theorem b_law {P : Program} {w : World} {K : Fg} {mg : Str → Option Value} {base : Heap} (T : Tz K mg) (TC : CEnvOk K cenv) {Flaw_right : GN} (k_law_right : Kn P w K mg base "_law_right" 7 ["_law_pool_here"] Flaw_right) {Flaw_pool : GN} (k_law_pool : Kn P w K mg base "_law_pool" 1 ["_law_cell_here"] Flaw_pool) {Flaw_cell : GN} (k_law_cell : Kn P w K mg base "_law_cell" 1 ["_law_script", "_law_k"] Flaw_cell) {f : Addr} (cdv : Value) (A : Around) (outer : List Env) (s : Shared) (H : Hp) (EX : XK) (hr : Room 7 (A.deeper (envOfC "law" (defScope s_law) s.heap.objs.size f cdv))) (hG : A.guards = some []) :
    ∃ ts, Ss (cxOf CX0 P w K mg base N_law "law" (defScope s_law) f cdv A outer s H EX).nox (defBody s_law) ts (g_law Flaw_right Flaw_pool Flaw_cell) := by
  have hu := hr.units
  exact ⟨_, (ss_one (s_ret (e_onB (cr_all rfl) gAll_ok T.z_all rfl (l_lc rfl nd_law (i_range1 T.z_range (e_cB (call_max2 rfl) gMax2_ok T.z_max rfl (a_cons e_int (a_cons (e_cB (call_min2 rfl) gMin2_ok T.z_min rfl (a_cons (e_cB call_len gLen_ok T.z_len rfl (a_cons (e_var 0) a_nil)) (a_cons e_int a_nil))) a_nil)))) (blkOk_by (own := [("_law_k", 1)]) rfl) (fun _ _ _ _ _ => (g_name 1 nd_law)) (fun _ _ _ _ _ => ts_nil) (fun _ _ _ _ _ => E.to (e_callK k_law_right (hr.mono (by decide)) hG (a_cons (e_callK k_law_pool (hr.mono (by decide)) hG (a_cons (e_callK k_law_cell (hr.mono (by decide)) hG (a_cons (e_var 0) (a_cons (e_var 1) a_nil))) a_nil)) a_nil)) (by first | rfl | (dsimp only [blkK]; done) | (dsimp only [blkK]; rfl)))))))⟩
end k01

set_option Elab.async false
set_option linter.all false
set_option maxRecDepth 100000
set_option maxHeartbeats 1000000
namespace k01
open PySem PySem.Spec PyProof.Rows L2 Mv
/-! ### things: what isinstance is asked of -/
def typed (m : Mem) : D → Bool
  | .loc l => match m[l]? with
    | some (.lst _) => true
    | some (.dK _ _) => true
    | some (.dT _ _) => true
    | _ => false
  | .ty _ => false
  | .kl _ => false
  | .cls _ => false
  | .ins _ _ _ => false
  | .stp _ => false
  | _ => true
def isInt : D → Bool
  | .int _ => true
  | _ => false
theorem isi_int {m : Mem} {d : D} (h : typed m d = true) : gIsiC cenv [d, .ty "int"] m = some (.bl (match d with | .int _ => true | .bl _ => true | _ => false), m) := by
  unfold gIsiC
  cases d with
  | ty n => cases h
  | kl n => cases h
  | cls n => cases h
  | ins n ks xs => cases h
  | stp xs => cases h
  | loc l =>
    have h' : (match m[l]? with | some (.lst _) => true | some (.dK _ _) => true | some (.dT _ _) => true | _ => false) = true := h
    show (Option.bind (match m[l]? with | some (.lst _) => some "list" | some (.dK _ _) => some "dict" | some (.dT _ _) => some "dict" | _ => none) _) = _
    split at h'
    · rfl
    · rfl
    · rfl
    · cases h'
  | _ => rfl
theorem isi_bool {m : Mem} {d : D} (h : typed m d = true) : gIsiC cenv [d, .ty "bool"] m = some (.bl (match d with | .bl _ => true | _ => false), m) := by
  unfold gIsiC
  cases d with
  | ty n => cases h
  | kl n => cases h
  | cls n => cases h
  | ins n ks xs => cases h
  | stp xs => cases h
  | loc l =>
    have h' : (match m[l]? with | some (.lst _) => true | some (.dK _ _) => true | some (.dT _ _) => true | _ => false) = true := h
    show (Option.bind (match m[l]? with | some (.lst _) => some "list" | some (.dK _ _) => some "dict" | some (.dT _ _) => some "dict" | _ => none) _) = _
    split at h'
    · rfl
    · rfl
    · rfl
    · cases h'
  | _ => rfl
theorem isi_tuple {m : Mem} {d : D} (h : typed m d = true) : gIsiC cenv [d, .ty "tuple"] m = some (.bl (match d with | .tup _ => true | _ => false), m) := by
  unfold gIsiC
  cases d with
  | ty n => cases h
  | kl n => cases h
  | cls n => cases h
  | ins n ks xs => cases h
  | stp xs => cases h
  | loc l =>
    have h' : (match m[l]? with | some (.lst _) => true | some (.dK _ _) => true | some (.dT _ _) => true | _ => false) = true := h
    show (Option.bind (match m[l]? with | some (.lst _) => some "list" | some (.dK _ _) => some "dict" | some (.dT _ _) => some "dict" | _ => none) _) = _
    split at h'
    · rfl
    · rfl
    · rfl
    · cases h'
  | _ => rfl
noncomputable def F_is_whole : GN := Fof N_is_whole 1 g_is_whole
theorem is_whole_ev {m : Mem} {d : D} (h : typed m d = true) : F_is_whole [d] m = some (.bl (isInt d), m) := by
  refine Fof_pure (t := []) (o := .rt (.bl (isInt d)) m) rfl ?_ (by rw [List.append_nil]; rfl) rfl (Kept.ext m [])
  have e : startE N_is_whole [d] = [some d] := rfl
  rw [e]
  unfold g_is_whole
  simp only [fsSeq, fsRet, fsRetN, fsIf, fsAsg, fsDrop, fsPar, fVar, fC, fCons, fNil, fCall, fOp, fUn, fOn, fTest, fTru, fNotT, fAndT, fOrT, fAnd, fOr, fNot, fIf, fChain, fName, fTupG, fsCons, fsNil, fPut, fLst, fTup, asB, asI, Option.bind_some, Option.map_some, Option.bind_none, Option.map_none, Option.join_some, List.getElem?_cons_zero, List.getElem?_cons_succ, fsNever, fsNext, fSeq, seqOf, fYes, fLCall, fPart, fNoPart, fSl, List.length_cons, List.length_nil, fIxN, fRange1, fRange2, fEnum, fDown, fLenSet, fRev, fTRg1, fRg1, isi_int h, isi_bool h]
  cases d <;> first | rfl | (simp [tru, isInt])
noncomputable def F_is_between : GN := Fof N_is_between 3 (g_is_between F_is_whole)
def inR (lo hi : Int) : D → Bool
  | .int i => decide (lo ≤ i) && decide (i ≤ hi)
  | _ => false
theorem is_between_ev {m : Mem} {d : D} {lo hi : Int} (h : typed m d = true) : F_is_between [d, .int lo, .int hi] m = some (.bl (inR lo hi d), m) := by
  refine Fof_pure (t := []) (o := .rt (.bl (inR lo hi d)) m) rfl ?_ (by rw [List.append_nil]; rfl) rfl (Kept.ext m [])
  have e : startE N_is_between [d, .int lo, .int hi] = [some d, some (.int lo), some (.int hi)] := rfl
  rw [e]
  unfold g_is_between
  simp only [fsSeq, fsRet, fsRetN, fsIf, fsAsg, fsDrop, fsPar, fVar, fC, fCons, fNil, fCall, fOp, fUn, fOn, fTest, fTru, fNotT, fAndT, fOrT, fAnd, fOr, fNot, fIf, fChain, fName, fTupG, fsCons, fsNil, fPut, fLst, fTup, asB, asI, Option.bind_some, Option.map_some, Option.bind_none, Option.map_none, Option.join_some, List.getElem?_cons_zero, List.getElem?_cons_succ, fsNever, fsNext, fSeq, seqOf, fYes, fLCall, fPart, fNoPart, fSl, List.length_cons, List.length_nil, fIxN, fRange1, fRange2, fEnum, fDown, fLenSet, fRev, fTRg1, fRg1, is_whole_ev h]
  cases d <;> first | rfl | skip
  rename_i i
  simp only [isInt, tru, gLe, gInt0, inR, Option.bind_some, Option.map_some]
  by_cases h1 : lo ≤ i
  · simp [h1]
  · simp [h1]

/-! ### is_move -/
theorem inR_int {lo hi i : Int} : inR lo hi (.int i) = true ↔ lo ≤ i ∧ i ≤ hi := by
  show (decide (lo ≤ i) && decide (i ≤ hi)) = true ↔ _
  rw [Bool.and_eq_true, decide_eq_true_eq, decide_eq_true_eq]
theorem inR_ints {hi : Int} : ∀ {xs : List D}, xs.all (inR 0 hi) = true → ∃ ns : List Int, xs = ns.map D.int ∧ ∀ n ∈ ns, 0 ≤ n ∧ n ≤ hi
  | [], _ => ⟨[], rfl, by simp⟩
  | x :: xs, h => by
    rw [List.all_cons, Bool.and_eq_true] at h
    obtain ⟨ns, h1, h2⟩ := inR_ints h.2
    cases x with
    | int i =>
      have q := inR_int.mp h.1
      refine ⟨i :: ns, by rw [h1]; rfl, fun n hn => ?_⟩
      rcases List.mem_cons.mp hn with e | hn
      · subst e; exact q
      · exact h2 n hn
    | _ => have q : false = true := h.1; cases q
def intsOf (xs : List D) : List Int := xs.filterMap asI
theorem intsOf_map (ns : List Int) : intsOf (ns.map D.int) = ns := by
  unfold intsOf
  induction ns with
  | nil => rfl
  | cons n ns ih => rw [List.map_cons, List.filterMap_cons]; show n :: _ = _; rw [ih]
def mvL (xs : List D) : Bool := decide (1 ≤ xs.length ∧ xs.length ≤ 60) && xs.all (inR 0 ((xs.length : Int) - 1)) && decide (intsOf xs).Nodup
def mvB : D → Bool
  | .tup xs => mvL xs
  | _ => false
theorem eqv_int (a b : Int) : eqD (.int a) (.int b) = some (decide (a = b)) := by
  unfold eqD
  rw [if_pos ⟨rfl, rfl⟩]
  congr 1
theorem gEq_int {m : Mem} (a b : Int) : gEqS (.int a) (.int b) m = some (.bl (decide (a = b)), m) := by
  have e : gEqS (.int a) (.int b) m = (res m (.int a)).bind fun p => (res m (.int b)).bind fun q => (eqD p q).map fun b => (D.bl b, m) := rfl
  have ea : ∀ a : Int, (D.int a).py = PyData.int a := fun a => by rw [D.py]
  rw [e, res_pure (m := m) (d := .int a) (by rw [D.pure]), res_pure (m := m) (d := .int b) (by rw [D.pure]), ea, ea, Option.bind_some, Option.bind_some, eqv_int]
  rfl
noncomputable def F_is_move : GN := Fof N_is_move 1 (g_is_move F_is_between)
theorem lc_is_move_ev {m : Mem} {xs : List D} {hi : Int} {o : Option D} (hl : xs.length ≤ 100000) (hx : ∀ x ∈ xs, typed m x = true) : lc_is_move_1 F_is_between [some (.tup xs), some (.int hi), o] m = some (xs.map fun x => .bl (inR 0 hi x), m) := by
  unfold lc_is_move_1
  rw [lc_ev (xs := xs) rfl hl (fun y => some (.bl (inR 0 hi y))) fun y hy => ?_, fm_some]
  have e : wipeE [some (.tup xs), some (.int hi), o] [2] = [some (.tup xs), some (.int hi), none] := rfl
  rw [e]
  unfold fElt
  simp only [fsSeq, fsRet, fsRetN, fsIf, fsAsg, fsDrop, fsPar, fVar, fC, fCons, fNil, fCall, fOp, fUn, fOn, fTest, fTru, fNotT, fAndT, fOrT, fAnd, fOr, fNot, fIf, fChain, fName, fTupG, fsCons, fsNil, fPut, fLst, fTup, asB, asI, Option.bind_some, Option.map_some, Option.bind_none, Option.map_none, Option.join_some, List.getElem?_cons_zero, List.getElem?_cons_succ, fsNever, fsNext, fSeq, seqOf, fYes, fLCall, fPart, fNoPart, fSl, List.length_cons, List.length_nil, fIxN, fRange1, fRange2, fEnum, fDown, fLenSet, fRev, fTRg1, fRg1, List.set_cons_succ, List.set_cons_zero, is_between_ev (hx y hy), if_true]
theorem all_bl (xs : List D) (f : D → Bool) (m : Mem) : gAll (xs.map fun x => .bl (f x)) m = some (.bl (xs.all f), m) := by
  unfold gAll
  have e : (xs.map fun x => D.bl (f x)) = (xs.map f).map D.bl := by rw [List.map_map]; rfl
  rw [e, asBs_map]
  show some (D.bl ((xs.map f).all id), m) = _
  rw [List.all_map]; rfl
theorem dist_dec (ns : List Int) : decide (((dist ns).length : Int) = (ns.length : Int)) = decide ns.Nodup := by
  by_cases h : ns.Nodup
  · rw [dist_nodup h]; simp [h]
  · have : ¬ ((dist ns).length : Int) = (ns.length : Int) := fun z => h (nodup_of_dist (by omega))
    simp [h, this]
theorem is_move_ev {m : Mem} {d : D} (h : typed m d = true) (hx : ∀ xs, d = .tup xs → ∀ x ∈ xs, typed m x = true) : F_is_move [d] m = some (.bl (mvB d), m) := by
  refine Fof_pure (t := []) (o := .rt (.bl (mvB d)) m) rfl ?_ (by rw [List.append_nil]; rfl) rfl (Kept.ext m [])
  have e : startE N_is_move [d] = [some d, none, none] := rfl
  rw [e]
  unfold g_is_move
  cases d with
  | tup xs =>
    have hx := hx xs rfl
    simp only [fsSeq, fsRet, fsRetN, fsIf, fsAsg, fsDrop, fsPar, fVar, fC, fCons, fNil, fCall, fOp, fUn, fOn, fTest, fTru, fNotT, fAndT, fOrT, fAnd, fOr, fNot, fIf, fChain, fName, fTupG, fsCons, fsNil, fPut, fLst, fTup, asB, asI, Option.bind_some, Option.map_some, Option.bind_none, Option.map_none, Option.join_some, List.getElem?_cons_zero, List.getElem?_cons_succ, fsNever, fsNext, fSeq, seqOf, fYes, fLCall, fPart, fNoPart, fSl, List.length_cons, List.length_nil, fIxN, fRange1, fRange2, fEnum, fDown, fLenSet, fRev, fTRg1, fRg1, isi_tuple h, gLen, gLe, gInt0, tru, Bool.not_true, Bool.false_eq_true, if_false, ite_true]
    by_cases h1 : 1 ≤ xs.length
    · by_cases h2 : xs.length ≤ 60
      · have h1' : (1 : Int) ≤ xs.length := by omega
        have h2' : (xs.length : Int) ≤ 60 := by omega
        simp only [h1', h2', decide_true, Bool.not_true, Bool.false_eq_true, if_false, List.set_cons_succ, List.set_cons_zero, Mv.gSub, gInt0, fsSeq, fsRet, fsRetN, fsIf, fsAsg, fsDrop, fsPar, fVar, fC, fCons, fNil, fCall, fOp, fUn, fOn, fTest, fTru, fNotT, fAndT, fOrT, fAnd, fOr, fNot, fIf, fChain, fName, fTupG, fsCons, fsNil, fPut, fLst, fTup, asB, asI, Option.bind_some, Option.map_some, Option.bind_none, Option.map_none, Option.join_some, List.getElem?_cons_zero, List.getElem?_cons_succ, fsNever, fsNext, fSeq, seqOf, fYes, fLCall, fPart, fNoPart, fSl, List.length_cons, List.length_nil, fIxN, fRange1, fRange2, fEnum, fDown, fLenSet, fRev, fTRg1, fRg1]
        rw [lc_is_move_ev (by omega) hx]
        simp only [fsSeq, fsRet, fsRetN, fsIf, fsAsg, fsDrop, fsPar, fVar, fC, fCons, fNil, fCall, fOp, fUn, fOn, fTest, fTru, fNotT, fAndT, fOrT, fAnd, fOr, fNot, fIf, fChain, fName, fTupG, fsCons, fsNil, fPut, fLst, fTup, asB, asI, Option.bind_some, Option.map_some, Option.bind_none, Option.map_none, Option.join_some, List.getElem?_cons_zero, List.getElem?_cons_succ, fsNever, fsNext, fSeq, seqOf, fYes, fLCall, fPart, fNoPart, fSl, List.length_cons, List.length_nil, fIxN, fRange1, fRange2, fEnum, fDown, fLenSet, fRev, fTRg1, fRg1, all_bl, tru]
        cases ha : xs.all (inR 0 ((xs.length : Int) - 1)) with
        | false => simp [mvB, mvL, ha]
        | true =>
          obtain ⟨ns, e1, e2⟩ := inR_ints ha
          have hlen : ns.length = xs.length := by rw [e1, List.length_map]
          simp only [Bool.not_true, Bool.false_eq_true, if_false]
          subst e1
          have hl4 : ns.length ≤ 4000 := by rw [List.length_map] at h2; omega
          simp only [asIs_map, fsSeq, fsRet, fsRetN, fsIf, fsAsg, fsDrop, fsPar, fVar, fC, fCons, fNil, fCall, fOp, fUn, fOn, fTest, fTru, fNotT, fAndT, fOrT, fAnd, fOr, fNot, fIf, fChain, fName, fTupG, fsCons, fsNil, fPut, fLst, fTup, asB, asI, Option.bind_some, Option.map_some, Option.bind_none, Option.map_none, Option.join_some, List.getElem?_cons_zero, List.getElem?_cons_succ, fsNever, fsNext, fSeq, seqOf, fYes, fLCall, fPart, fNoPart, fSl, List.length_cons, List.length_nil, fIxN, fRange1, fRange2, fEnum, fDown, fLenSet, fRev, fTRg1, fRg1, hl4, if_true, gEq_int, List.length_map, dist_dec]
          have e3 : mvB (.tup (ns.map D.int)) = decide ns.Nodup := by
            show (_ && _ && decide (intsOf (ns.map D.int)).Nodup) = _
            rw [ha, intsOf_map, decide_eq_true ⟨h1, h2⟩]; rfl
          rw [e3]
      · have h2' : ¬ (xs.length : Int) ≤ 60 := by omega
        have h1' : (1 : Int) ≤ xs.length := by omega
        simp [h1', h2', mvB, mvL, h2]
    · have h1' : ¬ (1 : Int) ≤ xs.length := by omega
      simp [h1', mvB, mvL, h1]
  | ty n => cases h
  | kl n => cases h
  | cls n => cases h
  | ins n ks xs => cases h
  | stp xs => cases h
  | _ => simp [fsSeq, fsRet, fsRetN, fsIf, fsAsg, fsDrop, fsPar, fVar, fC, fCons, fNil, fCall, fOp, fUn, fOn, fTest, fTru, fNotT, fAndT, fOrT, fAnd, fOr, fNot, fIf, fChain, fName, fTupG, fsCons, fsNil, fPut, fLst, fTup, asB, asI, Option.bind_some, Option.map_some, Option.bind_none, Option.map_none, Option.join_some, List.getElem?_cons_zero, List.getElem?_cons_succ, fsNever, fsNext, fSeq, seqOf, fYes, fLCall, fPart, fNoPart, fSl, List.length_cons, List.length_nil, fIxN, fRange1, fRange2, fEnum, fDown, fLenSet, fRev, fTRg1, fRg1, isi_tuple h, mvB, tru]
end k01

set_option Elab.async false
set_option linter.all false
set_option maxRecDepth 100000
set_option maxHeartbeats 1000000
namespace k01
open PySem PySem.Spec PyProof.Rows L2 Mv
theorem typed_tab {m : Mem} {n : Nat} {g : Nat → Int} : ∀ x ∈ tab n (fun y => D.int (g y)), typed m x = true := fun x hx => by
  obtain ⟨y, _, rfl⟩ := List.mem_map.mp hx
  rfl
theorem tab_ints (n : Nat) (g : Nat → Int) : tab n (fun y => D.int (g y)) = ((List.range n).map g).map D.int := by
  unfold tab; rw [List.map_map]; rfl
theorem mvB_mvD {n : Nat} {f : Nat → Nat} (h : IsM n f) : mvB (mvD n f) = true := by
  show mvL (tab n fun y => .int (f y : Nat)) = true
  unfold mvL
  rw [tab_len, decide_eq_true ⟨h.lo, h.hi⟩, tab_ints, intsOf_map]
  have e : (((List.range n).map fun y => ((f y : Nat) : Int)).map D.int).all (inR 0 ((n : Int) - 1)) = true := by
    rw [List.all_eq_true]
    intro x hx
    obtain ⟨z, hz, rfl⟩ := List.mem_map.mp hx
    obtain ⟨y, hy, rfl⟩ := List.mem_map.mp hz
    have := h.p.lt y (List.mem_range.mp hy)
    exact inR_int.mpr (by omega)
  rw [e, Bool.true_and, Bool.true_and, decide_eq_true_eq, List.Nodup, List.pairwise_map]
  refine List.Pairwise.imp_of_mem ?_ (List.nodup_range (n := n))
  intro a b ha hb hab z
  exact hab (h.p.inj a b (List.mem_range.mp ha) (List.mem_range.mp hb) (by omega))
noncomputable def F_check_move : GN := Fof N_check_move 1 (g_check_move F_is_move)
theorem check_move_ev {m : Mem} {n : Nat} {f : Nat → Nat} (h : IsM n f) : F_check_move [mvD n f] m = some (.non, m) := by
  refine Fof_pure (t := []) (o := .nx [some (mvD n f)] m) rfl ?_ (by rw [List.append_nil]; rfl) rfl (Kept.ext m [])
  have e : startE N_check_move [mvD n f] = [some (mvD n f)] := rfl
  rw [e]
  unfold g_check_move
  have q : F_is_move [mvD n f] m = some (.bl true, m) := by
    rw [is_move_ev rfl fun xs hxs x hx => ?_, mvB_mvD h]
    unfold mvD at hxs
    cases hxs
    exact typed_tab x hx
  simp only [fsSeq, fsRet, fsRetN, fsIf, fsAsg, fsDrop, fsPar, fVar, fC, fCons, fNil, fCall, fOp, fUn, fOn, fTest, fTru, fNotT, fAndT, fOrT, fAnd, fOr, fNot, fIf, fChain, fName, fTupG, fsCons, fsNil, fPut, fLst, fTup, asB, asI, Option.bind_some, Option.map_some, Option.bind_none, Option.map_none, Option.join_some, List.getElem?_cons_zero, List.getElem?_cons_succ, fsNever, fsNext, fSeq, seqOf, fYes, fLCall, fPart, fNoPart, fSl, List.length_cons, List.length_nil, fIxN, fRange1, fRange2, fEnum, fDown, fLenSet, fRev, fTRg1, fRg1, q, tru, Bool.not_true, Bool.false_eq_true, if_false]
noncomputable def F_check_points : GN := Fof N_check_points 1 (g_check_points F_is_between)
theorem check_points_ev {m : Mem} {n : Int} (h : 1 ≤ n ∧ n ≤ 60) : F_check_points [.int n] m = some (.non, m) := by
  refine Fof_pure (t := []) (o := .nx [some (.int n)] m) rfl ?_ (by rw [List.append_nil]; rfl) rfl (Kept.ext m [])
  have e : startE N_check_points [.int n] = [some (.int n)] := rfl
  rw [e]
  unfold g_check_points
  have q : F_is_between [.int n, .int 1, .int 60] m = some (.bl true, m) := by
    rw [is_between_ev rfl, inR_int.mpr h]
  simp only [fsSeq, fsRet, fsRetN, fsIf, fsAsg, fsDrop, fsPar, fVar, fC, fCons, fNil, fCall, fOp, fUn, fOn, fTest, fTru, fNotT, fAndT, fOrT, fAnd, fOr, fNot, fIf, fChain, fName, fTupG, fsCons, fsNil, fPut, fLst, fTup, asB, asI, Option.bind_some, Option.map_some, Option.bind_none, Option.map_none, Option.join_some, List.getElem?_cons_zero, List.getElem?_cons_succ, fsNever, fsNext, fSeq, seqOf, fYes, fLCall, fPart, fNoPart, fSl, List.length_cons, List.length_nil, fIxN, fRange1, fRange2, fEnum, fDown, fLenSet, fRev, fTRg1, fRg1, q, tru, Bool.not_true, Bool.false_eq_true, if_false]
noncomputable def F_rest : GN := Fof N_rest 1 (g_rest F_check_points)
theorem rest_ev {m : Mem} {n : Nat} (h : 1 ≤ n ∧ n ≤ 60) : F_rest [.int n] m = some (mvD n id, m) := by
  refine Fof_pure (t := []) (o := .rt (mvD n id) m) rfl ?_ (by rw [List.append_nil]; rfl) (pure_mvD _ _) (Kept.ext m [])
  have e : startE N_rest [.int n] = [some (.int n)] := rfl
  rw [e]
  unfold g_rest
  have h2 : (0 : Int) ≤ n ∧ (n : Int) ≤ 100000 := by omega
  simp only [fsSeq, fsRet, fsRetN, fsIf, fsAsg, fsDrop, fsPar, fVar, fC, fCons, fNil, fCall, fOp, fUn, fOn, fTest, fTru, fNotT, fAndT, fOrT, fAnd, fOr, fNot, fIf, fChain, fName, fTupG, fsCons, fsNil, fPut, fLst, fTup, asB, asI, Option.bind_some, Option.map_some, Option.bind_none, Option.map_none, Option.join_some, List.getElem?_cons_zero, List.getElem?_cons_succ, fsNever, fsNext, fSeq, seqOf, fYes, fLCall, fPart, fNoPart, fSl, List.length_cons, List.length_nil, fIxN, fRange1, fRange2, fEnum, fDown, fLenSet, fRev, fTRg1, fRg1, check_points_ev (m := m) (n := n) (by omega), h2, and_self, if_true, Int.toNat_natCast, tab_range]
  rfl
noncomputable def F_linked_moves : GN := Fof N_linked_moves 2 g_linked_moves
noncomputable def F_then : GN := Fof N_then 2 (g_then F_check_move F_linked_moves)
theorem gNe_int {m : Mem} (a b : Int) : gNeS (.int a) (.int b) m = some (.bl (!decide (a = b)), m) := by
  have e : gNeS (.int a) (.int b) m = (res m (.int a)).bind fun p => (res m (.int b)).bind fun q => (eqD p q).map fun b => (D.bl (!b), m) := rfl
  have ea : ∀ a : Int, (D.int a).py = PyData.int a := fun a => by rw [D.py]
  rw [e, res_pure (m := m) (d := .int a) (by rw [D.pure]), res_pure (m := m) (d := .int b) (by rw [D.pure]), ea, ea, Option.bind_some, Option.bind_some, eqv_int]
  rfl
theorem fm_tab {n : Nat} {g : Nat → D} {h : D → Option D} {k : Nat → D} (q : ∀ y, y < n → h (g y) = some (k y)) : (tab n g).filterMap h = tab n k := by
  unfold tab
  rw [List.filterMap_map]
  have : ∀ l : List Nat, (∀ y ∈ l, y < n) → l.filterMap (h ∘ g) = l.map k := by
    intro l
    induction l with
    | nil => intro _; rfl
    | cons y l ih =>
      intro hl
      rw [List.filterMap_cons, List.map_cons]
      have e1 : (h ∘ g) y = some (k y) := q y (hl y (by simp))
      rw [e1, ih fun z hz => hl z (by simp [hz])]
  exact this _ fun y hy => List.mem_range.mp hy
theorem lc_then_ev {m : Mem} {n : Nat} {f g : Nat → Nat} {o : Option D} (hf : IsM n f) (hg : IsM n g) : lc_linked_moves_1 [some (mvD n f), some (mvD n g), o] m = some (tab n fun y => .int (g (f y) : Nat), m) := by
  unfold lc_linked_moves_1
  have hi := hf.hi
  rw [lc_ev (xs := tab n fun y => .int (f y : Nat)) rfl (by rw [tab_len]; omega) (fun d => match d with | .int i => atI (tab n fun y => .int (g y : Nat)) i | _ => none) fun y hy => ?_]
  · rw [fm_tab (k := fun y => .int (g (f y) : Nat)) fun y hy => tab_at (hf.p.lt y hy)]
  · obtain ⟨z, hz, rfl⟩ := List.mem_map.mp hy
    have hz := List.mem_range.mp hz
    have e : wipeE [some (mvD n f), some (mvD n g), o] [2] = [some (mvD n f), some (mvD n g), none] := rfl
    rw [e]
    unfold fElt
    have q := tab_at (g := fun y => D.int (g y : Nat)) (hf.p.lt z hz)
    simp only [fsSeq, fsRet, fsRetN, fsIf, fsAsg, fsDrop, fsPar, fVar, fC, fCons, fNil, fCall, fOp, fUn, fOn, fTest, fTru, fNotT, fAndT, fOrT, fAnd, fOr, fNot, fIf, fChain, fName, fTupG, fsCons, fsNil, fPut, fLst, fTup, asB, asI, Option.bind_some, Option.map_some, Option.bind_none, Option.map_none, Option.join_some, List.getElem?_cons_zero, List.getElem?_cons_succ, fsNever, fsNext, fSeq, seqOf, fYes, fLCall, fPart, fNoPart, fSl, List.length_cons, List.length_nil, fIxN, fRange1, fRange2, fEnum, fDown, fLenSet, fRev, fTRg1, fRg1, List.set_cons_succ, List.set_cons_zero, mvD, gIx, q, if_true]
theorem linked_moves_ev {m : Mem} {n : Nat} {f g : Nat → Nat} (hf : IsM n f) (hg : IsM n g) : F_linked_moves [mvD n f, mvD n g] m = some (mvD n fun y => g (f y), m) := by
  refine Fof_pure (t := []) (o := .rt (mvD n fun y => g (f y)) m) rfl ?_ (by rw [List.append_nil]; rfl) (pure_mvD _ _) (Kept.ext m [])
  have e : startE N_linked_moves [mvD n f, mvD n g] = [some (mvD n f), some (mvD n g), none] := rfl
  rw [e]
  unfold g_linked_moves
  simp only [fsSeq, fsRet, fsRetN, fsIf, fsAsg, fsDrop, fsPar, fVar, fC, fCons, fNil, fCall, fOp, fUn, fOn, fTest, fTru, fNotT, fAndT, fOrT, fAnd, fOr, fNot, fIf, fChain, fName, fTupG, fsCons, fsNil, fPut, fLst, fTup, asB, asI, Option.bind_some, Option.map_some, Option.bind_none, Option.map_none, Option.join_some, List.getElem?_cons_zero, List.getElem?_cons_succ, fsNever, fsNext, fSeq, seqOf, fYes, fLCall, fPart, fNoPart, fSl, List.length_cons, List.length_nil, fIxN, fRange1, fRange2, fEnum, fDown, fLenSet, fRev, fTRg1, fRg1, lc_then_ev hf hg, gTupN]
  rfl
theorem then_ev {m : Mem} {n : Nat} {f g : Nat → Nat} (hf : IsM n f) (hg : IsM n g) : F_then [mvD n f, mvD n g] m = some (mvD n fun y => g (f y), m) := by
  refine Fof_pure (t := []) (o := .rt (mvD n fun y => g (f y)) m) rfl ?_ (by rw [List.append_nil]; rfl) (pure_mvD _ _) (Kept.ext m [])
  have e : startE N_then [mvD n f, mvD n g] = [some (mvD n f), some (mvD n g)] := rfl
  rw [e]
  unfold g_then
  have l1 : gLen [mvD n f] m = some (.int n, m) := by show some (D.int ((tab n _).length : Nat), m) = _; rw [tab_len]
  have l2 : gLen [mvD n g] m = some (.int n, m) := by show some (D.int ((tab n _).length : Nat), m) = _; rw [tab_len]
  simp only [fsSeq, fsRet, fsRetN, fsIf, fsAsg, fsDrop, fsPar, fVar, fC, fCons, fNil, fCall, fOp, fUn, fOn, fTest, fTru, fNotT, fAndT, fOrT, fAnd, fOr, fNot, fIf, fChain, fName, fTupG, fsCons, fsNil, fPut, fLst, fTup, asB, asI, Option.bind_some, Option.map_some, Option.bind_none, Option.map_none, Option.join_some, List.getElem?_cons_zero, List.getElem?_cons_succ, fsNever, fsNext, fSeq, seqOf, fYes, fLCall, fPart, fNoPart, fSl, List.length_cons, List.length_nil, fIxN, fRange1, fRange2, fEnum, fDown, fLenSet, fRev, fTRg1, fRg1, check_move_ev hf, check_move_ev hg, l1, l2, gNe_int, decide_true, Bool.not_true, Bool.false_eq_true, if_false, linked_moves_ev hf hg]
theorem rep_ev {m : Mem} {n : Nat} {d : D} (h : n ≤ 1000) : gMul (.loc m.length) (.int n) (m ++ [.lst [d]]) = some (.loc (m.length + 1), m ++ [.lst [d], .lst (tab n fun _ => d)]) := by
  have e : (m ++ [Cell.lst [d]])[m.length]? = some (.lst [d]) := get_off m [.lst [d]] 0
  unfold gMul
  simp only [e]
  rw [if_pos ⟨by omega, by omega, by simp; omega⟩, Int.toNat_natCast, tab_rep, List.length_append, List.append_assoc]
  rfl
theorem tupOf_ev {m : Mem} {l : Nat} {xs : List D} (h : rd m l = some xs) : gTupOf [.loc l] m = some (.tup xs, m) := by
  show (rd m l).map _ = _
  rw [h]; rfl
/-! ### undo -/
noncomputable def F_undone_move : GN := Fof N_undone_move 1 g_undone_move
noncomputable def F_undo : GN := Fof N_undo 1 (g_undo F_check_move F_undone_move)
theorem numberD_drop {n k : Nat} {g : Nat → D} (h : k < n) : numberD k ((tab n g).drop k) = .tup [.int (k : Nat), g k] :: numberD (k + 1) ((tab n g).drop (k + 1)) := by
  rw [tab_drop h]; rfl
theorem lp_undo_ev {m : Mem} {n : Nat} {f : Nat → Nat} {a b : Option D} (hf : IsM n f) :
    ∃ a' b', lp_undone_move_1 [some (mvD n f), some (.loc (m.length + 1)), a, b] (m ++ [.lst [.int 0], .lst (tab n fun _ => .int 0)]) = some (.nx [some (mvD n f), some (.loc (m.length + 1)), a', b'] (m ++ [.lst [.int 0], .lst (tab n fun y => .int (invF f n y : Nat))])) := by
  unfold lp_undone_move_1
  have h := for_evL (fi := fEnum (fVar 0)) (ft := fTupG 2 (fsCons (fName 2) (fsCons (fName 3) fsNil))) (g := lb_undone_move_1) (e := [some (mvD n f), some (.loc (m.length + 1)), a, b]) (m0 := m ++ [.lst [.int 0], .lst (tab n fun _ => .int 0)])
    (m := m ++ [.lst [.int 0], .lst (tab n fun _ => .int 0)]) (s := ⟨numberD 0 (tab n fun y => .int (f y : Nat)), none⟩) rfl
    (fun xs e mm => ∃ k a b, k ≤ n ∧ xs = numberD k ((tab n fun y => .int (f y : Nat)).drop k) ∧ e = [some (mvD n f), some (.loc (m.length + 1)), a, b] ∧ mm = m ++ [.lst [.int 0], .lst (tab n fun y => .int (invF f k y : Nat))])
    (fun o => ∃ a b, o = .nx [some (mvD n f), some (.loc (m.length + 1)), a, b] (m ++ [.lst [.int 0], .lst (tab n fun y => .int (invF f n y : Nat))]))
    (fun _ _ _ _ => trivial) ⟨0, a, b, Nat.zero_le _, rfl, rfl, rfl⟩ ?_ ?_
  · obtain ⟨o, h1, a', b', rfl⟩ := h
    exact ⟨a', b', h1⟩
  · rintro x xs e mm ⟨k, a, b, hk, hx, rfl, rfl⟩
    by_cases hkn : k < n
    · rw [numberD_drop hkn] at hx
      cases hx
      refine ⟨.nx [some (mvD n f), some (.loc (m.length + 1)), some (.int (k : Nat)), some (.int (f k : Nat))] (m ++ [.lst [.int 0], .lst (tab n fun y => .int (invF f (k + 1) y : Nat))]), ?_, k + 1, _, _, hkn, rfl, rfl, rfl⟩
      unfold lb_undone_move_1
      simp only [fsSeq, fsRet, fsRetN, fsIf, fsAsg, fsDrop, fsPar, fVar, fC, fCons, fNil, fCall, fOp, fUn, fOn, fTest, fTru, fNotT, fAndT, fOrT, fAnd, fOr, fNot, fIf, fChain, fName, fTupG, fsCons, fsNil, fPut, fLst, fTup, asB, asI, Option.bind_some, Option.map_some, Option.bind_none, Option.map_none, Option.join_some, List.getElem?_cons_zero, List.getElem?_cons_succ, fsNever, fsNext, fSeq, seqOf, fYes, fLCall, fPart, fNoPart, fSl, List.length_cons, List.length_nil, fIxN, fRange1, fRange2, fEnum, fDown, fLenSet, fRev, fTRg1, fRg1, if_true, List.set_cons_succ, List.set_cons_zero]
      rw [fSub_off (i := 1) rfl rfl rfl (hf.p.lt k hkn)]
      simp only [Option.map_some, List.set_cons_succ, List.set_cons_zero]
      have e5 : (tab n fun z => if z = f k then D.int (k : Nat) else D.int (invF f k z : Nat)) = tab n fun y => .int (invF f (k + 1) y : Nat) := tab_congr fun y _ => by
        show _ = D.int (if y = f k then k else invF f k y : Nat)
        split <;> rfl
      rw [e5]
    · have : (tab n fun y => D.int (f y : Nat)).drop k = [] := List.drop_eq_nil_of_le (by rw [tab_len]; omega)
      rw [this] at hx; cases hx
  · rintro e mm ⟨k, a, b, hk, hx, rfl, rfl⟩
    have : k = n := by
      have := congrArg List.length hx
      rw [numberD_length, List.length_drop, tab_len] at this
      simp at this; omega
    subst this
    exact ⟨a, b, rfl⟩
theorem undone_move_ev {m : Mem} {n : Nat} {f : Nat → Nat} (hf : IsM n f) : F_undone_move [mvD n f] m = some (mvD n (invF f n), m) := by
  refine Fof_pure (t := [.lst [.int 0], .lst (tab n fun y => .int (invF f n y : Nat))]) (o := .rt (mvD n (invF f n)) (m ++ [.lst [.int 0], .lst (tab n fun y => .int (invF f n y : Nat))])) rfl ?_ rfl (pure_mvD _ _) (Kept.ext m _)
  have e : startE N_undone_move [mvD n f] = [some (mvD n f), none, none, none] := rfl
  rw [e]
  unfold g_undone_move
  have hi := hf.hi
  have l1 : ∀ m : Mem, gLen [mvD n f] m = some (.int n, m) := fun m => by show some (D.int ((tab n _).length : Nat), m) = _; rw [tab_len]
  have r1 : gMul (.loc m.length) (.int n) (m ++ [.lst [.int 0]]) = some (.loc (m.length + 1), m ++ [.lst [.int 0], .lst (tab n fun _ => .int 0)]) := rep_ev (by omega)
  obtain ⟨a', b', hl⟩ := lp_undo_ev (m := m) (a := none) (b := none) hf
  simp only [fsSeq, fsRet, fsRetN, fsIf, fsAsg, fsDrop, fsPar, fVar, fC, fCons, fNil, fCall, fOp, fUn, fOn, fTest, fTru, fNotT, fAndT, fOrT, fAnd, fOr, fNot, fIf, fChain, fName, fTupG, fsCons, fsNil, fPut, fLst, fTup, asB, asI, Option.bind_some, Option.map_some, Option.bind_none, Option.map_none, Option.join_some, List.getElem?_cons_zero, List.getElem?_cons_succ, fsNever, fsNext, fSeq, seqOf, fYes, fLCall, fPart, fNoPart, fSl, List.length_cons, List.length_nil, fIxN, fRange1, fRange2, fEnum, fDown, fLenSet, fRev, fTRg1, fRg1, l1, r1, List.set_cons_succ, List.set_cons_zero, hl, Nat.zero_le, Nat.reduceLeDiff, if_true, Nat.reduceAdd]
  have r2 : gTupOf [.loc (m.length + 1)] (m ++ [.lst [.int 0], .lst (tab n fun y => .int (invF f n y : Nat))]) = some (mvD n (invF f n), m ++ [.lst [.int 0], .lst (tab n fun y => .int (invF f n y : Nat))]) := tupOf_ev (rd_off (i := 1) rfl)
  rw [r2]
  rfl

theorem undo_ev {m : Mem} {n : Nat} {f : Nat → Nat} (hf : IsM n f) : F_undo [mvD n f] m = some (mvD n (invF f n), m) := by
  refine Fof_pure (t := []) (o := .rt (mvD n (invF f n)) m) rfl ?_ (by rw [List.append_nil]; rfl) (pure_mvD _ _) (Kept.ext m _)
  have e : startE N_undo [mvD n f] = [some (mvD n f)] := rfl
  rw [e]
  unfold g_undo
  simp only [fsSeq, fsRet, fsRetN, fsIf, fsAsg, fsDrop, fsPar, fVar, fC, fCons, fNil, fCall, fOp, fUn, fOn, fTest, fTru, fNotT, fAndT, fOrT, fAnd, fOr, fNot, fIf, fChain, fName, fTupG, fsCons, fsNil, fPut, fLst, fTup, asB, asI, Option.bind_some, Option.map_some, Option.bind_none, Option.map_none, Option.join_some, List.getElem?_cons_zero, List.getElem?_cons_succ, fsNever, fsNext, fSeq, seqOf, fYes, fLCall, fPart, fNoPart, fSl, List.length_cons, List.length_nil, fIxN, fRange1, fRange2, fEnum, fDown, fLenSet, fRev, fTRg1, fRg1, check_move_ev hf, undone_move_ev hf]
end k01

set_option Elab.async false
set_option linter.all false
set_option maxRecDepth 100000
set_option maxHeartbeats 1000000
namespace k01
open PySem PySem.Spec PyProof.Rows L2 Mv
noncomputable def bD (p : Prop) : D := .bl (@decide p (Classical.propDecidable p))
theorem bD_t {p : Prop} (h : p) : bD p = .bl true := by unfold bD; rw [@decide_eq_true p (Classical.propDecidable p) h]
theorem bD_f {p : Prop} (h : ¬ p) : bD p = .bl false := by unfold bD; rw [@decide_eq_false p (Classical.propDecidable p) h]
theorem bD_c {p q : Prop} (h : p ↔ q) : bD p = bD q := by rw [propext h]
theorem gIx_off {m L : Mem} {i n y : Nat} {g : Nat → D} (h : L[i]? = some (.lst (tab n g))) (hy : y < n) : gIx (.loc (m.length + i)) (.int (y : Nat)) (m ++ L) = some (g y, m ++ L) := by
  show (rd (m ++ L) (m.length + i)).bind _ = _
  rw [rd_off h, Option.bind_some, tab_at hy]; rfl
theorem gIx_mv {m : Mem} {n y : Nat} {f : Nat → Nat} (hy : y < n) : gIx (mvD n f) (.int (y : Nat)) m = some (.int (f y : Nat), m) := by
  show (atI (tab n _) (y : Int)).map _ = _
  rw [tab_at hy]; rfl
theorem gLen_mv (m : Mem) (n : Nat) (f : Nat → Nat) : gLen [mvD n f] m = some (.int n, m) := by show some (D.int ((tab n _).length : Nat), m) = _; rw [tab_len]
theorem app_ev {fo fa : FE} {e : Sl} {m : Mem} {l : Nat} {d : D} {xs : List D} (h1 : fo e m = some (.loc l, m)) (h2 : fa e m = some (d, m)) (h3 : m[l]? = some (.lst xs)) (h4 : xs.length < 100000) : fMeth gAppend fo (fCons fa fNil) e m = some (.non, m.set l (.lst (xs ++ [d]))) := by
  unfold fMeth
  rw [h1, Option.bind_some]
  simp only [h3, Option.bind_some]
  unfold fCons fNil
  rw [h2, Option.bind_some, Option.bind_some, Option.bind_some]
  unfold gAppend
  simp only [h3]
  rw [if_pos h4]
theorem get3 (c0 c1 c2 c : Cell) (t : Mem) : (c0 :: c1 :: c2 :: (t ++ [c]))[3 + t.length]? = some c := by
  rw [Nat.add_comm]
  show (t ++ [c])[t.length]? = some c
  rw [List.getElem?_append_right (Nat.le_refl _), Nat.sub_self]; rfl
theorem set3 (c0 c1 c2 c d : Cell) (t : Mem) : (c0 :: c1 :: c2 :: (t ++ [c])).set (3 + t.length) d = c0 :: c1 :: c2 :: (t ++ [d]) := by
  rw [Nat.add_comm]
  show c0 :: c1 :: c2 :: (t ++ [c]).set t.length d = _
  rw [List.set_append_right _ _ (Nat.le_refl _), Nat.sub_self]; rfl
def rowL (r : List Nat) : List D := r.map fun y => .int (y : Nat)
def rowD (r : List Nat) : D := .tup (rowL r)
theorem rowL_snoc (r : List Nat) (y : Nat) : rowL (r ++ [y]) = rowL r ++ [.int (y : Nat)] := by unfold rowL; rw [List.map_append]; rfl
abbrev rE (m : Mem) (n : Nat) (f : Nat → Nat) (k tl : Nat) (b : Option D) : Sl := [some (mvD n f), some (.loc (m.length + 1)), some (.loc (m.length + 2)), some (.int (k : Nat)), some (.loc (m.length + (3 + tl))), b]
abbrev rM (m : Mem) (c0 c2 : Cell) (t : Mem) (met row : List D) : Mem := m ++ (c0 :: .lst met :: c2 :: (t ++ [.lst row]))
section
variable {m : Mem} {n : Nat} {f : Nat → Nat} {c0 c2 : Cell} {t : Mem} {k : Nat} {a0 : Option D}
theorem setRow {met row row' : List D} : (rM m c0 c2 t met row).set (m.length + (3 + t.length)) (.lst row') = rM m c0 c2 t met row' := by
  unfold rM
  rw [set_off, set3]
theorem getRow {met row : List D} : (rM m c0 c2 t met row)[m.length + (3 + t.length)]? = some (.lst row) := by
  unfold rM
  rw [get_off, get3]
open Cyc in
theorem wh_all_ev (hf : IsM n f) (hk : k < n) (hc : ¬ cov f k k) : ∃ b, wh wt_all_rounds_1 wb_all_rounds_1 fuel (rE m n f k t.length (some (.int (k : Nat)))) (rM m c0 c2 t (tab n fun y => bD (cov f k y)) [])
    = some (.nx (rE m n f k t.length b) (rM m c0 c2 t (tab n fun y => bD (cov f (k + 1) y)) (rowL (orb f k)))) := by
  obtain ⟨p1, p2, p3, p4⟩ := hf.p.per_spec hk
  have hi := hf.hi
  have h := wh_ev0 (t := wt_all_rounds_1) (g := wb_all_rounds_1)
    (fun j e mm => ∃ i, i ≤ per f k ∧ j = per f k - i ∧ e = rE m n f k t.length (some (.int (it f i k : Nat))) ∧
      mm = rM m c0 c2 t (tab n fun y => bD (cov f k y ∨ ∃ j, j < i ∧ it f j k = y)) (rowL ((List.range i).map fun j => it f j k)))
    (fun o => ∃ b, o = .nx (rE m n f k t.length b) (rM m c0 c2 t (tab n fun y => bD (cov f (k + 1) y)) (rowL (orb f k)))) ?_ fuel (per f k) (rE m n f k t.length (some (.int (k : Nat)))) (rM m c0 c2 t (tab n fun y => bD (cov f k y)) []) (by show per f k < 100; omega) ⟨0, Nat.zero_le _, rfl, rfl, ?_⟩
  · obtain ⟨o, h1, b, rfl⟩ := h
    exact ⟨b, h1⟩
  · rintro j e mm ⟨i, hi1, rfl, rfl, rfl⟩
    have hit : it f i k < n := hf.p.it_lt hk i
    have hx : ∀ row, gIx (.loc (m.length + 1)) (.int (it f i k : Nat)) (rM m c0 c2 t (tab n fun y => bD (cov f k y ∨ ∃ j, j < i ∧ it f j k = y)) row) = _ := fun row => gIx_off (i := 1) rfl hit
    by_cases hlt : i < per f k
    · right
      have hno : ¬ (cov f k (it f i k) ∨ ∃ j, j < i ∧ it f j k = it f i k) := by
        rintro (q | ⟨j, q1, q2⟩)
        · exact hf.p.cov_orb hk hc _ ((hf.p.mem_orb hk).mpr ⟨i, rfl⟩) q
        · exact hf.p.it_ne hk q1 hlt q2
      refine ⟨?_, by omega, .nx (rE m n f k t.length (some (.int (it f (i + 1) k : Nat)))) (rM m c0 c2 t (tab n fun y => bD (cov f k y ∨ ∃ j, j < i + 1 ∧ it f j k = y)) (rowL ((List.range (i + 1)).map fun j => it f j k))), ?_, i + 1, hlt, by omega, rfl, rfl⟩
      · unfold wt_all_rounds_1
        simp only [fsSeq, fsRet, fsRetN, fsIf, fsAsg, fsDrop, fsPar, fVar, fC, fCons, fNil, fCall, fOp, fUn, fOn, fTest, fTru, fNotT, fAndT, fOrT, fAnd, fOr, fNot, fIf, fChain, fName, fTupG, fsCons, fsNil, fPut, fLst, fTup, asB, asI, Option.bind_some, Option.map_some, Option.bind_none, Option.map_none, Option.join_some, List.getElem?_cons_zero, List.getElem?_cons_succ, fsNever, fsNext, fSeq, seqOf, fYes, fLCall, fPart, fNoPart, fSl, List.length_cons, List.length_nil, fIxN, fRange1, fRange2, fEnum, fDown, fLenSet, fRev, fTRg1, fRg1, rE, hx, bD_f hno, tru, Bool.not_false]
      · unfold wb_all_rounds_1
        simp only [fsSeq, fsRet, fsRetN, fsIf, fsAsg, fsDrop, fsPar, fVar, fC, fCons, fNil, fCall, fOp, fUn, fOn, fTest, fTru, fNotT, fAndT, fOrT, fAnd, fOr, fNot, fIf, fChain, fName, fTupG, fsCons, fsNil, fPut, fLst, fTup, asB, asI, Option.bind_some, Option.map_some, Option.bind_none, Option.map_none, Option.join_some, List.getElem?_cons_zero, List.getElem?_cons_succ, fsNever, fsNext, fSeq, seqOf, fYes, fLCall, fPart, fNoPart, fSl, List.length_cons, List.length_nil, fIxN, fRange1, fRange2, fEnum, fDown, fLenSet, fRev, fTRg1, fRg1, rE]
        rw [fSub_off (i := 1) rfl rfl rfl hit]
        simp only [Option.map_some, Option.bind_some, List.set_cons_succ, List.set_cons_zero]
        have e5 : (tab n fun z => if z = it f i k then D.bl true else bD (cov f k z ∨ ∃ j, j < i ∧ it f j k = z)) = tab n fun y => bD (cov f k y ∨ ∃ j, j < i + 1 ∧ it f j k = y) := tab_congr fun y _ => by
          by_cases e : y = it f i k
          · rw [if_pos e, bD_t (.inr ⟨i, Nat.lt_succ_self i, e.symm⟩)]
          · rw [if_neg e]
            refine bD_c ⟨fun q => q.imp id fun ⟨j, q1, q2⟩ => ⟨j, by omega, q2⟩, fun q => q.imp id fun ⟨j, q1, q2⟩ => ⟨j, ?_, q2⟩⟩
            have : j ≠ i := fun z => e (by rw [← q2, z])
            omega
        rw [e5, app_ev (l := m.length + (3 + t.length)) (xs := rowL ((List.range i).map fun j => it f j k)) (d := .int (it f i k : Nat)) rfl rfl getRow (by simp [rowL]; omega), setRow]
        simp only [fsSeq, fsRet, fsRetN, fsIf, fsAsg, fsDrop, fsPar, fVar, fC, fCons, fNil, fCall, fOp, fUn, fOn, fTest, fTru, fNotT, fAndT, fOrT, fAnd, fOr, fNot, fIf, fChain, fName, fTupG, fsCons, fsNil, fPut, fLst, fTup, asB, asI, Option.bind_some, Option.map_some, Option.bind_none, Option.map_none, Option.join_some, List.getElem?_cons_zero, List.getElem?_cons_succ, fsNever, fsNext, fSeq, seqOf, fYes, fLCall, fPart, fNoPart, fSl, List.length_cons, List.length_nil, fIxN, fRange1, fRange2, fEnum, fDown, fLenSet, fRev, fTRg1, fRg1, gIx_mv hit, List.set_cons_succ, List.set_cons_zero]
        rw [List.range_succ, List.map_append, ← rowL_snoc]
        rfl
    · left
      have hip : i = per f k := by omega
      subst hip
      have hyes : cov f k (it f (per f k) k) ∨ ∃ j, j < per f k ∧ it f j k = it f (per f k) k := .inr ⟨0, p1, by rw [p2]; rfl⟩
      refine ⟨?_, some (.int (it f (per f k) k : Nat)), ?_⟩
      · unfold wt_all_rounds_1
        simp only [fsSeq, fsRet, fsRetN, fsIf, fsAsg, fsDrop, fsPar, fVar, fC, fCons, fNil, fCall, fOp, fUn, fOn, fTest, fTru, fNotT, fAndT, fOrT, fAnd, fOr, fNot, fIf, fChain, fName, fTupG, fsCons, fsNil, fPut, fLst, fTup, asB, asI, Option.bind_some, Option.map_some, Option.bind_none, Option.map_none, Option.join_some, List.getElem?_cons_zero, List.getElem?_cons_succ, fsNever, fsNext, fSeq, seqOf, fYes, fLCall, fPart, fNoPart, fSl, List.length_cons, List.length_nil, fIxN, fRange1, fRange2, fEnum, fDown, fLenSet, fRev, fTRg1, fRg1, rE, hx, bD_t hyes, tru, Bool.not_true]
      · have e6 : (tab n fun y => bD (cov f k y ∨ ∃ j, j < per f k ∧ it f j k = y)) = tab n fun y => bD (cov f (k + 1) y) := tab_congr fun y _ => bD_c (by
          rw [cov_succ]
          refine or_congr Iff.rfl ?_
          unfold orb
          simp)
        rw [e6]; rfl
  · show rM m c0 c2 t (tab n fun y => bD (cov f k y)) [] = rM m c0 c2 t (tab n fun y => bD (cov f k y ∨ ∃ j, j < 0 ∧ it f j k = y)) []
    have e6 : (tab n fun y => bD (cov f k y ∨ ∃ j, j < 0 ∧ it f j k = y)) = tab n fun y => bD (cov f k y) := tab_congr fun y _ => bD_c (by simp)
    rw [e6]
abbrev fM (m : Mem) (c0 : Cell) (met fnd : List D) (t : Mem) : Mem := m ++ (c0 :: .lst met :: .lst fnd :: t)
open Cyc in
theorem rows_len (f : Nat → Nat) : ∀ k, (rows f k).length ≤ k
  | 0 => Nat.le_refl _
  | k + 1 => by
    unfold rows
    split
    · have := rows_len f k; omega
    · rw [List.length_append]; have := rows_len f k; simp; omega
theorem put3 (m : Mem) (c0 c1 c2 : Cell) (t : Mem) (row : List D) : (m ++ (c0 :: c1 :: c2 :: t)) ++ [.lst row] = m ++ (c0 :: c1 :: c2 :: (t ++ [.lst row])) := by
  rw [List.append_assoc]; rfl
theorem len3 (m : Mem) (c0 c1 c2 : Cell) (t : Mem) : (m ++ (c0 :: c1 :: c2 :: t)).length = m.length + (3 + t.length) := by
  rw [List.length_append]; simp; omega
theorem lnil (e : Sl) (m : Mem) : fPut (fLst fNil) e m = some (.loc m.length, m ++ [.lst []]) := by
  simp only [fsSeq, fsRet, fsRetN, fsIf, fsAsg, fsDrop, fsPar, fVar, fC, fCons, fNil, fCall, fOp, fUn, fOn, fTest, fTru, fNotT, fAndT, fOrT, fAnd, fOr, fNot, fIf, fChain, fName, fTupG, fsCons, fsNil, fPut, fLst, fTup, asB, asI, Option.bind_some, Option.map_some, Option.bind_none, Option.map_none, Option.join_some, List.getElem?_cons_zero, List.getElem?_cons_succ, fsNever, fsNext, fSeq, seqOf, fYes, fLCall, fPart, fNoPart, fSl, List.length_cons, List.length_nil, fIxN, fRange1, fRange2, fEnum, fDown, fLenSet, fRev, fTRg1, fRg1, Nat.zero_le, if_true]
theorem tru_loc {m : Mem} {l : Nat} {xs : List D} (h : m[l]? = some (.lst xs)) : tru m (.loc l) = some (!xs.isEmpty) := by
  show (rd m l).map _ = _
  rw [rd_of h]; rfl
open Cyc in
theorem lb_all_ev (hf : IsM n f) (hk : k < n) {a b : Option D} : ∃ a' b' t', ((fName 3 (.int (k : Nat)) [some (mvD n f), some (.loc (m.length + 1)), some (.loc (m.length + 2)), a0, a, b] (fM m c0 (tab n fun y => bD (cov f k y)) ((rows f k).map rowD) t)).bind fun q => lb_all_rounds_1 q.1 q.2)
    = some (.nx [some (mvD n f), some (.loc (m.length + 1)), some (.loc (m.length + 2)), some (.int (k : Nat)), a', b'] (fM m c0 (tab n fun y => bD (cov f (k + 1) y)) ((rows f (k + 1)).map rowD) t')) := by
  unfold lb_all_rounds_1
  have hi := hf.hi
  by_cases hc : cov f k k
  · have hw : wh wt_all_rounds_1 wb_all_rounds_1 fuel (rE m n f k t.length (some (.int (k : Nat)))) (rM m c0 (.lst ((rows f k).map rowD)) t (tab n fun y => bD (cov f k y)) []) = some (.nx (rE m n f k t.length (some (.int (k : Nat)))) (rM m c0 (.lst ((rows f k).map rowD)) t (tab n fun y => bD (cov f k y)) [])) := by
      show wh _ _ (99 + 1) _ _ = _
      unfold wh
      have hx : gIx (.loc (m.length + 1)) (.int (k : Nat)) (rM m c0 (.lst ((rows f k).map rowD)) t (tab n fun y => bD (cov f k y)) []) = _ := gIx_off (i := 1) rfl hk
      have ht : wt_all_rounds_1 (rE m n f k t.length (some (.int (k : Nat)))) (rM m c0 (.lst ((rows f k).map rowD)) t (tab n fun y => bD (cov f k y)) []) = some (false, rM m c0 (.lst ((rows f k).map rowD)) t (tab n fun y => bD (cov f k y)) []) := by
        unfold wt_all_rounds_1
        simp only [fsSeq, fsRet, fsRetN, fsIf, fsAsg, fsDrop, fsPar, fVar, fC, fCons, fNil, fCall, fOp, fUn, fOn, fTest, fTru, fNotT, fAndT, fOrT, fAnd, fOr, fNot, fIf, fChain, fName, fTupG, fsCons, fsNil, fPut, fLst, fTup, asB, asI, Option.bind_some, Option.map_some, Option.bind_none, Option.map_none, Option.join_some, List.getElem?_cons_zero, List.getElem?_cons_succ, fsNever, fsNext, fSeq, seqOf, fYes, fLCall, fPart, fNoPart, fSl, List.length_cons, List.length_nil, fIxN, fRange1, fRange2, fEnum, fDown, fLenSet, fRev, fTRg1, fRg1, rE, hx, bD_t hc, tru, Bool.not_true]
      rw [ht]; rfl
    refine ⟨some (.loc (m.length + (3 + t.length))), some (.int (k : Nat)), t ++ [.lst []], ?_⟩
    simp only [fName, Option.bind_some, fsSeq, fsAsg, lnil, List.set_cons_succ, List.set_cons_zero, Option.map_some, len3, put3]
    simp only [fsSeq, fsRet, fsRetN, fsIf, fsAsg, fsDrop, fsPar, fVar, fC, fCons, fNil, fCall, fOp, fUn, fOn, fTest, fTru, fNotT, fAndT, fOrT, fAnd, fOr, fNot, fIf, fChain, fName, fTupG, fsCons, fsNil, fPut, fLst, fTup, asB, asI, Option.bind_some, Option.map_some, Option.bind_none, Option.map_none, Option.join_some, List.getElem?_cons_zero, List.getElem?_cons_succ, fsNever, fsNext, fSeq, seqOf, fYes, fLCall, fPart, fNoPart, fSl, List.length_cons, List.length_nil, fIxN, fRange1, fRange2, fEnum, fDown, fLenSet, fRev, fTRg1, fRg1, List.set_cons_succ, List.set_cons_zero, hw]
    rw [tru_loc getRow]
    have e6 : (tab n fun y => bD (cov f k y)) = tab n fun y => bD (cov f (k + 1) y) := tab_congr fun y _ => bD_c (hf.p.cov_same hk hc y).symm
    have e7 : rows f (k + 1) = rows f k := rows_cov hc
    rw [e6, e7]
    rfl
  · obtain ⟨b', hw⟩ := wh_all_ev (m := m) (c0 := c0) (c2 := .lst ((rows f k).map rowD)) (t := t) hf hk hc
    refine ⟨some (.loc (m.length + (3 + t.length))), b', t ++ [.lst (rowL (orb f k))], ?_⟩
    simp only [fName, Option.bind_some, fsSeq, fsAsg, lnil, List.set_cons_succ, List.set_cons_zero, Option.map_some, len3, put3]
    simp only [fsSeq, fsRet, fsRetN, fsIf, fsAsg, fsDrop, fsPar, fVar, fC, fCons, fNil, fCall, fOp, fUn, fOn, fTest, fTru, fNotT, fAndT, fOrT, fAnd, fOr, fNot, fIf, fChain, fName, fTupG, fsCons, fsNil, fPut, fLst, fTup, asB, asI, Option.bind_some, Option.map_some, Option.bind_none, Option.map_none, Option.join_some, List.getElem?_cons_zero, List.getElem?_cons_succ, fsNever, fsNext, fSeq, seqOf, fYes, fLCall, fPart, fNoPart, fSl, List.length_cons, List.length_nil, fIxN, fRange1, fRange2, fEnum, fDown, fLenSet, fRev, fTRg1, fRg1, List.set_cons_succ, List.set_cons_zero, hw]
    rw [tru_loc getRow]
    have ne : (rowL (orb f k)).isEmpty = false := by
      have := (hf.p.per_spec hk).1
      unfold rowL
      cases q : orb f k with
      | nil => have := orb_len f k; rw [q] at this; simp at this; omega
      | cons x l => rfl
    have e7 : rows f (k + 1) = rows f k ++ [orb f k] := rows_new hc
    have hr := rows_len f k
    have ht : gTupOf [.loc (m.length + (3 + t.length))] (rM m c0 (.lst ((rows f k).map rowD)) t (tab n fun y => bD (cov f (k + 1) y)) (rowL (orb f k))) = some (rowD (orb f k), _) := tupOf_ev (rd_of getRow)
    rw [ne, Option.map_some, Option.bind_some]
    simp only [Bool.not_false, if_true]
    unfold rE rM
    rw [app_ev (l := m.length + 2) (xs := (rows f k).map rowD) (d := rowD (orb f k)) rfl (by simp only [fsSeq, fsRet, fsRetN, fsIf, fsAsg, fsDrop, fsPar, fVar, fC, fCons, fNil, fCall, fOp, fUn, fOn, fTest, fTru, fNotT, fAndT, fOrT, fAnd, fOr, fNot, fIf, fChain, fName, fTupG, fsCons, fsNil, fPut, fLst, fTup, asB, asI, Option.bind_some, Option.map_some, Option.bind_none, Option.map_none, Option.join_some, List.getElem?_cons_zero, List.getElem?_cons_succ, fsNever, fsNext, fSeq, seqOf, fYes, fLCall, fPart, fNoPart, fSl, List.length_cons, List.length_nil, fIxN, fRange1, fRange2, fEnum, fDown, fLenSet, fRev, fTRg1, fRg1]; exact ht) (get_off m _ 2) (by simp; omega), set_off, e7, List.map_append]
    rfl
end
noncomputable def F_all_rounds : GN := Fof N_all_rounds 1 g_all_rounds
theorem pure_rowD (r : List Nat) : (rowD r).pure = true := by
  unfold rowD rowL
  rw [D.pure]
  induction r with
  | nil => rfl
  | cons x l ih => rw [List.map_cons, D.pureAll, D.pure, ih]; rfl
theorem pure_rows (rs : List (List Nat)) : D.pureAll (rs.map rowD) = true := by
  induction rs with
  | nil => rfl
  | cons x l ih => rw [List.map_cons, D.pureAll, pure_rowD, ih]; rfl
open Cyc in
theorem all_rounds_ev {m : Mem} {n : Nat} {f : Nat → Nat} (hf : IsM n f) : F_all_rounds [mvD n f] m = some (.loc m.length, m ++ [.lst ((rows f n).map rowD)]) := by
  have hi := hf.hi
  have h := for_evL (fi := fRange1 (fCall gLen (fCons (fVar 0) fNil))) (ft := fName 3) (g := lb_all_rounds_1) (e := [some (mvD n f), some (.loc (m.length + 1)), some (.loc (m.length + 2)), none, none, none])
    (m0 := fM m (.lst [.bl false]) (tab n fun _ => .bl false) [] []) (m := fM m (.lst [.bl false]) (tab n fun _ => .bl false) [] []) (s := ⟨tab n fun y => .int (y : Nat), none⟩) ?_
    (fun xs e mm => ∃ k a0 a b t, k ≤ n ∧ xs = (tab n fun y => .int (y : Nat)).drop k ∧ e = [some (mvD n f), some (.loc (m.length + 1)), some (.loc (m.length + 2)), a0, a, b] ∧ mm = fM m (.lst [.bl false]) (tab n fun y => bD (cov f k y)) ((rows f k).map rowD) t)
    (fun o => ∃ a0 a b t, o = .nx [some (mvD n f), some (.loc (m.length + 1)), some (.loc (m.length + 2)), a0, a, b] (fM m (.lst [.bl false]) (tab n fun y => bD (cov f n y)) ((rows f n).map rowD) t))
    (fun _ _ _ _ => trivial) ⟨0, none, none, none, [], Nat.zero_le _, rfl, rfl, ?_⟩ ?_ ?_
  · obtain ⟨o, h1, a0, a, b, t, rfl⟩ := h
    refine Fof_lst (m1 := m) (t := .lst [.bl false] :: .lst (tab n fun y => bD (cov f n y)) :: .lst ((rows f n).map rowD) :: t) (o := .rt (.loc (m.length + 2)) (fM m (.lst [.bl false]) (tab n fun y => bD (cov f n y)) ((rows f n).map rowD) t)) (k := m.length + 2) rfl ?_ rfl (by omega) (get_off m _ 2) (pure_rows _) (Kept.ext m _)
    have e : startE N_all_rounds [mvD n f] = [some (mvD n f), none, none, none, none, none] := rfl
    rw [e]
    unfold g_all_rounds
    have r1 : gMul (.loc m.length) (.int n) (m ++ [.lst [.bl false]]) = some (.loc (m.length + 1), m ++ [.lst [.bl false], .lst (tab n fun _ => .bl false)]) := rep_ev (by omega)
    have r2 : fPut (fLst (fCons (fC (.bl false)) fNil)) [some (mvD n f), none, none, none, none, none] m = some (.loc m.length, m ++ [.lst [.bl false]]) := by
      simp only [fsSeq, fsRet, fsRetN, fsIf, fsAsg, fsDrop, fsPar, fVar, fC, fCons, fNil, fCall, fOp, fUn, fOn, fTest, fTru, fNotT, fAndT, fOrT, fAnd, fOr, fNot, fIf, fChain, fName, fTupG, fsCons, fsNil, fPut, fLst, fTup, asB, asI, Option.bind_some, Option.map_some, Option.bind_none, Option.map_none, Option.join_some, List.getElem?_cons_zero, List.getElem?_cons_succ, fsNever, fsNext, fSeq, seqOf, fYes, fLCall, fPart, fNoPart, fSl, List.length_cons, List.length_nil, fIxN, fRange1, fRange2, fEnum, fDown, fLenSet, fRev, fTRg1, fRg1, Nat.reduceLeDiff, if_true, Nat.reduceAdd]
    have r3 : ∀ e, fPut (fLst fNil) e (m ++ [.lst [.bl false], .lst (tab n fun _ => .bl false)]) = some (.loc (m.length + 2), fM m (.lst [.bl false]) (tab n fun _ => .bl false) [] []) := fun e => by
      rw [lnil, List.length_append, List.append_assoc]; rfl
    have r4 : fOp gMul (fPut (fLst (fCons (fC (.bl false)) fNil))) (fCall gLen (fCons (fVar 0) fNil)) [some (mvD n f), none, none, none, none, none] m = some (.loc (m.length + 1), m ++ [.lst [.bl false], .lst (tab n fun _ => .bl false)]) := by
      unfold fOp
      rw [r2, Option.bind_some]
      simp only [fsSeq, fsRet, fsRetN, fsIf, fsAsg, fsDrop, fsPar, fVar, fC, fCons, fNil, fCall, fOp, fUn, fOn, fTest, fTru, fNotT, fAndT, fOrT, fAnd, fOr, fNot, fIf, fChain, fName, fTupG, fsCons, fsNil, fPut, fLst, fTup, asB, asI, Option.bind_some, Option.map_some, Option.bind_none, Option.map_none, Option.join_some, List.getElem?_cons_zero, List.getElem?_cons_succ, fsNever, fsNext, fSeq, seqOf, fYes, fLCall, fPart, fNoPart, fSl, List.length_cons, List.length_nil, fIxN, fRange1, fRange2, fEnum, fDown, fLenSet, fRev, fTRg1, fRg1, gLen_mv]
      exact r1
    have h2 : lp_all_rounds_1 [some (mvD n f), some (.loc (m.length + 1)), some (.loc (m.length + 2)), none, none, none] (fM m (.lst [.bl false]) (tab n fun _ => .bl false) [] []) = _ := h1
    simp only [fsSeq, fsAsg, r4, Option.bind_some, fName, Option.map_some, List.set_cons_succ, List.set_cons_zero, r3, h2]
    rfl
  · have h2 : (-100000 : Int) ≤ n ∧ (n : Int) ≤ 100000 := by omega
    simp only [fsSeq, fsRet, fsRetN, fsIf, fsAsg, fsDrop, fsPar, fVar, fC, fCons, fNil, fCall, fOp, fUn, fOn, fTest, fTru, fNotT, fAndT, fOrT, fAnd, fOr, fNot, fIf, fChain, fName, fTupG, fsCons, fsNil, fPut, fLst, fTup, asB, asI, Option.bind_some, Option.map_some, Option.bind_none, Option.map_none, Option.join_some, List.getElem?_cons_zero, List.getElem?_cons_succ, fsNever, fsNext, fSeq, seqOf, fYes, fLCall, fPart, fNoPart, fSl, List.length_cons, List.length_nil, fIxN, fRange1, fRange2, fEnum, fDown, fLenSet, fRev, fTRg1, fRg1, gLen_mv, h2, and_self, if_true, Int.toNat_natCast, tab_range]
  · have e6 : (tab n fun y => bD (cov f 0 y)) = tab n fun _ => .bl false := tab_congr fun y _ => bD_f fun ⟨j, h, _⟩ => absurd h (Nat.not_lt_zero _)
    rw [e6]; rfl
  · rintro x xs e mm ⟨k, a0, a, b, t, hk, hx, rfl, rfl⟩
    by_cases hkn : k < n
    · rw [tab_drop hkn] at hx
      cases hx
      obtain ⟨a', b', t', q⟩ := lb_all_ev (m := m) (c0 := .lst [.bl false]) (t := t) (a0 := a0) (a := a) (b := b) hf hkn
      exact ⟨_, q, k + 1, _, a', b', t', hkn, rfl, rfl, rfl⟩
    · have : (tab n fun y => D.int (y : Nat)).drop k = [] := List.drop_eq_nil_of_le (by rw [tab_len]; omega)
      rw [this] at hx; cases hx
  · rintro e mm ⟨k, a0, a, b, t, hk, hx, rfl, rfl⟩
    have : k = n := by
      have := congrArg List.length hx
      rw [List.length_drop, tab_len] at this
      simp at this; omega
    subst this
    exact ⟨a0, a, b, t, rfl⟩
end k01

set_option Elab.async false
set_option linter.all false
set_option maxRecDepth 100000
set_option maxHeartbeats 1000000
namespace k01
open PySem PySem.Spec PyProof.Rows L2 Mv Cyc
theorem lc_evR {fi : FI} {ft : FG} {fc : FT} {fe : FE} {own : List Nat} {e : Sl} {m0 m : Mem} {xs : List D} {l : Nat} (hi : fi e m0 = some (⟨xs, some l⟩, m)) (hr : rd m l = some xs) (hl : xs.length ≤ 100000) (f : D → Option D) (h : ∀ y ∈ xs, fElt ft fc fe (wipeE e own) y m = some (f y, m)) : fLc fi ft fc fe own e m0 = some (xs.filterMap f, m) := by
  unfold fLc
  rw [hi]
  show (if xs.length ≤ 100000 then _ else none) = _
  rw [if_pos hl]
  exact comp_evL hr h
theorem rd_last {m : Mem} {xs : List D} : rd (m ++ [.lst xs]) m.length = some xs := rd_off (m := m) (L := [.lst xs]) (i := 0) rfl
theorem gLen_row (m : Mem) (r : List Nat) : gLen [rowD r] m = some (.int (r.length : Nat), m) := by
  show some (D.int ((rowL r).length : Nat), m) = _
  unfold rowL; rw [List.length_map]
end k01

set_option Elab.async false
set_option linter.all false
set_option maxRecDepth 100000
set_option maxHeartbeats 1000000
namespace k01
open PySem PySem.Spec PyProof.Rows L2 Mv Cyc
noncomputable def raisF (f : Nat → Nat) (t : Int) (y : Nat) : Nat := it f (t % (per f y : Nat)).toNat y
theorem raised_at {n : Nat} {f : Nat → Nat} (h : Perm n f) {k j : Nat} (hk : k < n) (hj : j < per f k) (t : Int) : it f (((j : Nat) + t) % (per f k : Nat)).toNat k = raisF f t (it f j k) := by
  obtain ⟨p1, _, _, _⟩ := h.per_spec hk
  have hp : per f (it f j k) = per f k := h.per_eq hk ((h.mem_orb hk).mpr ⟨j, rfl⟩)
  unfold raisF
  rw [hp, ← it_add, h.it_mod hk ((t % (per f k : Nat)).toNat + j)]
  congr 1
  have hL : (0 : Int) < (per f k : Nat) := by omega
  have h1 : (((t % (per f k : Nat)).toNat + j : Nat) : Int) = t % (per f k : Nat) + j := by
    have := Int.emod_nonneg t (b := (per f k : Nat)) (by omega)
    omega
  have h2 : ((((t % (per f k : Nat)).toNat + j) % per f k : Nat) : Int) = ((j : Nat) + t) % (per f k : Nat) := by
    rw [Int.natCast_emod, h1, Int.emod_add_emod, Int.add_comm]
  omega
noncomputable def pick (p : Prop) (a b : D) : D := @ite _ p (Classical.propDecidable p) a b
theorem pick_t {p : Prop} {a b : D} (h : p) : pick p a b = a := by unfold pick; exact @if_pos p (Classical.propDecidable p) h _ _ _
theorem pick_f {p : Prop} {a b : D} (h : ¬ p) : pick p a b = b := by unfold pick; exact @if_neg p (Classical.propDecidable p) h _ _ _
theorem pick_c {p q : Prop} {a b : D} (h : p ↔ q) : pick p a b = pick q a b := by rw [propext h]
noncomputable def F_raised : GN := Fof N_raised 2 (g_raised F_check_move F_is_whole F_all_rounds)
section
variable {m : Mem} {n : Nat} {f : Nat → Nat} {t : Int} {k : Nat} {rs : List D}
noncomputable abbrev iM (m : Mem) (n : Nat) (f : Nat → Nat) (t : Int) (p : Nat → Prop) (rs : List D) : Mem := m ++ [.lst [.int 0], .lst (tab n fun y => pick (p y) (.int (raisF f t y : Nat)) (.int 0)), .lst rs]
theorem numberD_map {α : Type} (g : α → D) : ∀ (i : Nat) (l : List α) (x : α), numberD i ((x :: l).map g) = .tup [.int (i : Nat), g x] :: numberD (i + 1) (l.map g) := fun i l x => rfl
theorem lp_raised_1_ev (hf : IsM n f) (hk : k < n) {p : Nat → Prop} {a b : Option D} :
    ∃ a' b', lp_raised_1 F_check_move F_is_whole F_all_rounds [some (mvD n f), some (.int t), some (.loc (m.length + 1)), some (rowD (orb f k)), a, b] (iM m n f t p rs) = some (.nx [some (mvD n f), some (.int t), some (.loc (m.length + 1)), some (rowD (orb f k)), a', b'] (iM m n f t (fun y => p y ∨ y ∈ orb f k) rs)) := by
  obtain ⟨p1, p2, p3, p4⟩ := hf.p.per_spec hk
  unfold lp_raised_1
  have h := for_evL (fi := fEnum (fVar 3)) (ft := fTupG 2 (fsCons (fName 4) (fsCons (fName 5) fsNil))) (g := lb_raised_1 F_check_move F_is_whole F_all_rounds) (e := [some (mvD n f), some (.int t), some (.loc (m.length + 1)), some (rowD (orb f k)), a, b]) (m0 := iM m n f t p rs)
    (m := iM m n f t p rs) (s := ⟨numberD 0 (tab (per f k) fun i => .int (it f i k : Nat)), none⟩) ?_
    (fun xs e mm => ∃ i a b, i ≤ per f k ∧ xs = numberD i ((tab (per f k) fun i => .int (it f i k : Nat)).drop i) ∧ e = [some (mvD n f), some (.int t), some (.loc (m.length + 1)), some (rowD (orb f k)), a, b] ∧ mm = iM m n f t (fun y => p y ∨ ∃ j, j < i ∧ it f j k = y) rs)
    (fun o => ∃ a b, o = .nx [some (mvD n f), some (.int t), some (.loc (m.length + 1)), some (rowD (orb f k)), a, b] (iM m n f t (fun y => p y ∨ y ∈ orb f k) rs))
    (fun _ _ _ _ => trivial) ⟨0, a, b, Nat.zero_le _, rfl, rfl, ?_⟩ ?_ ?_
  · obtain ⟨o, h1, a', b', rfl⟩ := h
    exact ⟨a', b', h1⟩
  · have e : rowL (orb f k) = tab (per f k) fun i => .int (it f i k : Nat) := by
      unfold rowL orb tab
      rw [List.map_map]; rfl
    simp only [fsSeq, fsRet, fsRetN, fsIf, fsAsg, fsDrop, fsPar, fVar, fC, fCons, fNil, fCall, fOp, fUn, fOn, fTest, fTru, fNotT, fAndT, fOrT, fAnd, fOr, fNot, fIf, fChain, fName, fTupG, fsCons, fsNil, fPut, fLst, fTup, asB, asI, Option.bind_some, Option.map_some, Option.bind_none, Option.map_none, Option.join_some, List.getElem?_cons_zero, List.getElem?_cons_succ, fsNever, fsNext, fSeq, seqOf, fYes, fLCall, fPart, fNoPart, fSl, List.length_cons, List.length_nil, fIxN, fRange1, fRange2, fEnum, fDown, fLenSet, fRev, fTRg1, fRg1, rowD, e]
  · have e6 : (tab n fun y => pick (p y ∨ ∃ j, j < 0 ∧ it f j k = y) (.int (raisF f t y : Nat)) (.int 0)) = tab n fun y => pick (p y) (.int (raisF f t y : Nat)) (.int 0) := tab_congr fun y _ => pick_c (by simp)
    unfold iM
    rw [e6]
  · rintro x xs e mm ⟨i, a, b, hi, hx, rfl, rfl⟩
    by_cases hin : i < per f k
    · rw [numberD_drop hin] at hx
      cases hx
      refine ⟨.nx [some (mvD n f), some (.int t), some (.loc (m.length + 1)), some (rowD (orb f k)), some (.int (i : Nat)), some (.int (it f i k : Nat))] (iM m n f t (fun y => p y ∨ ∃ j, j < i + 1 ∧ it f j k = y) rs), ?_, i + 1, _, _, hin, rfl, rfl, rfl⟩
      have hit : it f i k < n := hf.p.it_lt hk i
      have hL : (0 : Int) < (per f k : Nat) := by omega
      have hz0 := Int.emod_nonneg ((i : Nat) + t) (b := (per f k : Nat)) (by omega)
      have hz1 := Int.emod_lt_of_pos ((i : Nat) + t) hL
      have hix : ∀ mm, gIx (rowD (orb f k)) (.int (((i : Nat) + t) % (per f k : Nat))) mm = some (.int (raisF f t (it f i k) : Nat), mm) := fun mm => by
        have e1 : (((i : Nat) + t) % (per f k : Nat)) = (((((i : Nat) + t) % (per f k : Nat)).toNat : Nat) : Int) := by omega
        rw [e1]
        have q : (rowL (orb f k))[(((i : Nat) + t) % (per f k : Nat)).toNat]? = some (.int (raisF f t (it f i k) : Nat)) := by
          unfold rowL
          rw [List.getElem?_map, hf.p.orb_get hk (by omega), ← raised_at hf.p hk hin]; rfl
        show (atI (rowL (orb f k)) _).map _ = _
        rw [atI_nat q]; rfl
      have hadd : ∀ mm, gAdd (.int (i : Nat)) (.int t) mm = some (.int ((i : Nat) + t), mm) := fun _ => rfl
      unfold lb_raised_1
      simp only [fsSeq, fsRet, fsRetN, fsIf, fsAsg, fsDrop, fsPar, fVar, fC, fCons, fNil, fCall, fOp, fUn, fOn, fTest, fTru, fNotT, fAndT, fOrT, fAnd, fOr, fNot, fIf, fChain, fName, fTupG, fsCons, fsNil, fPut, fLst, fTup, asB, asI, Option.bind_some, Option.map_some, Option.bind_none, Option.map_none, Option.join_some, List.getElem?_cons_zero, List.getElem?_cons_succ, fsNever, fsNext, fSeq, seqOf, fYes, fLCall, fPart, fNoPart, fSl, List.length_cons, List.length_nil, fIxN, fRange1, fRange2, fEnum, fDown, fLenSet, fRev, fTRg1, fRg1, if_true, List.set_cons_succ, List.set_cons_zero, hadd, gLen_row, orb_len, gMod, gInt, hL, decide_true, hix]
      rw [fSub_off (i := 1) rfl rfl rfl hit]
      simp only [Option.map_some, List.set_cons_succ, List.set_cons_zero]
      have e5 : (tab n fun z => if z = it f i k then D.int (raisF f t (it f i k) : Nat) else pick (p z ∨ ∃ j, j < i ∧ it f j k = z) (.int (raisF f t z : Nat)) (.int 0)) = tab n fun y => pick (p y ∨ ∃ j, j < i + 1 ∧ it f j k = y) (.int (raisF f t y : Nat)) (.int 0) := tab_congr fun y _ => by
        by_cases e : y = it f i k
        · rw [if_pos e, pick_t (.inr ⟨i, Nat.lt_succ_self i, e.symm⟩), e]
        · rw [if_neg e]
          refine pick_c ⟨fun q => q.imp id fun ⟨j, q1, q2⟩ => ⟨j, by omega, q2⟩, fun q => q.imp id fun ⟨j, q1, q2⟩ => ⟨j, ?_, q2⟩⟩
          have : j ≠ i := fun z => e (by rw [← q2, z])
          omega
      rw [e5]
    · have : (tab (per f k) fun i => D.int (it f i k : Nat)).drop i = [] := List.drop_eq_nil_of_le (by rw [tab_len]; omega)
      rw [this] at hx; cases hx
  · rintro e mm ⟨i, a, b, hi, hx, rfl, rfl⟩
    have : i = per f k := by
      have := congrArg List.length hx
      rw [numberD_length, List.length_drop, tab_len] at this
      simp at this; omega
    subst this
    refine ⟨a, b, ?_⟩
    have e6 : (tab n fun y => pick (p y ∨ ∃ j, j < per f k ∧ it f j k = y) (.int (raisF f t y : Nat)) (.int 0)) = tab n fun y => pick (p y ∨ y ∈ orb f k) (.int (raisF f t y : Nat)) (.int 0) := tab_congr fun y _ => pick_c (or_congr Iff.rfl (by unfold orb; simp))
    unfold iM
    rw [e6]
theorem lp_raised_2_ev (hf : IsM n f) : ∃ a b c, lp_raised_2 F_check_move F_is_whole F_all_rounds [some (mvD n f), some (.int t), some (.loc (m.length + 1)), none, none, none] (m ++ [.lst [.int 0], .lst (tab n fun _ => .int 0)])
    = some (.nx [some (mvD n f), some (.int t), some (.loc (m.length + 1)), a, b, c] (m ++ [.lst [.int 0], .lst (tab n fun y => .int (raisF f t y : Nat)), .lst ((rows f n).map rowD)])) := by
  unfold lp_raised_2
  have hlen : (m ++ [Cell.lst [D.int 0], Cell.lst (tab n fun _ => D.int 0)]).length = m.length + 2 := by simp
  have h := for_evL (fi := fSeq (fCall F_all_rounds (fCons (fVar 0) fNil))) (ft := fName 3) (g := lb_raised_2 F_check_move F_is_whole F_all_rounds) (e := [some (mvD n f), some (.int t), some (.loc (m.length + 1)), none, none, none]) (m0 := m ++ [.lst [.int 0], .lst (tab n fun _ => .int 0)])
    (m := m ++ [.lst [.int 0], .lst (tab n fun _ => .int 0), .lst ((rows f n).map rowD)]) (s := ⟨(rows f n).map rowD, some (m.length + 2)⟩) ?_
    (fun xs e mm => ∃ (done todo : List (List Nat)) (a b c : Option D), rows f n = done ++ todo ∧ xs = todo.map rowD ∧ e = [some (mvD n f), some (.int t), some (.loc (m.length + 1)), a, b, c] ∧ mm = iM m n f t (fun y => ∃ r ∈ done, y ∈ r) ((rows f n).map rowD))
    (fun o => ∃ a b c, o = .nx [some (mvD n f), some (.int t), some (.loc (m.length + 1)), a, b, c] (iM m n f t (fun y => ∃ r ∈ rows f n, y ∈ r) ((rows f n).map rowD)))
    ?_ ⟨[], rows f n, none, none, none, rfl, rfl, rfl, ?_⟩ ?_ ?_
  · obtain ⟨o, h1, a, b, c, rfl⟩ := h
    refine ⟨a, b, c, ?_⟩
    rw [h1]
    have e6 : (tab n fun y => pick (∃ r ∈ rows f n, y ∈ r) (.int (raisF f t y : Nat)) (.int 0)) = tab n fun y => .int (raisF f t y : Nat) := tab_congr fun y hy => pick_t ((hf.p.mem_rows n (Nat.le_refl _) y).mp ⟨y, hy, hf.p.orb_self hy⟩)
    unfold iM
    rw [e6]
  · simp only [fsSeq, fsRet, fsRetN, fsIf, fsAsg, fsDrop, fsPar, fVar, fC, fCons, fNil, fCall, fOp, fUn, fOn, fTest, fTru, fNotT, fAndT, fOrT, fAnd, fOr, fNot, fIf, fChain, fName, fTupG, fsCons, fsNil, fPut, fLst, fTup, asB, asI, Option.bind_some, Option.map_some, Option.bind_none, Option.map_none, Option.join_some, List.getElem?_cons_zero, List.getElem?_cons_succ, fsNever, fsNext, fSeq, seqOf, fYes, fLCall, fPart, fNoPart, fSl, List.length_cons, List.length_nil, fIxN, fRange1, fRange2, fEnum, fDown, fLenSet, fRev, fTRg1, fRg1, all_rounds_ev hf]
    rw [hlen, List.append_assoc]
    have q : rd (m ++ ([Cell.lst [D.int 0], Cell.lst (tab n fun _ => D.int 0)] ++ [Cell.lst ((rows f n).map rowD)])) (m.length + 2) = some ((rows f n).map rowD) := rd_off (i := 2) rfl
    rw [q]; rfl
  · rintro xs e mm ⟨done, todo, a, b, c, _, rfl, rfl, rfl⟩
    exact rd_off (i := 2) rfl
  · have e6 : (tab n fun y => pick (∃ r ∈ ([] : List (List Nat)), y ∈ r) (.int (raisF f t y : Nat)) (.int 0)) = tab n fun _ => .int 0 := tab_congr fun y hy => pick_f (by simp)
    unfold iM
    rw [e6]
  · rintro x xs e mm ⟨done, todo, a, b, c, h1, hx, rfl, rfl⟩
    cases todo with
    | nil => cases hx
    | cons r todo =>
      cases hx
      obtain ⟨k, hk, rfl⟩ := hf.p.rows_mem n (Nat.le_refl _) r (by rw [h1]; simp)
      obtain ⟨a', b', q⟩ := lp_raised_1_ev (m := m) (t := t) (rs := (rows f n).map rowD) (p := fun y => ∃ r ∈ done, y ∈ r) (a := b) (b := c) hf hk
      refine ⟨_, q, done ++ [orb f k], todo, _, a', b', by rw [h1, List.append_assoc]; rfl, rfl, rfl, ?_⟩
      have e6 : (tab n fun y => pick ((∃ r ∈ done, y ∈ r) ∨ y ∈ orb f k) (.int (raisF f t y : Nat)) (.int 0)) = tab n fun y => pick (∃ r ∈ done ++ [orb f k], y ∈ r) (.int (raisF f t y : Nat)) (.int 0) := tab_congr fun y _ => pick_c (by
        simp only [List.mem_append, List.mem_singleton]
        constructor
        · rintro (⟨r, q1, q2⟩ | q)
          · exact ⟨r, .inl q1, q2⟩
          · exact ⟨_, .inr rfl, q⟩
        · rintro ⟨r, q1 | q1, q2⟩
          · exact .inl ⟨r, q1, q2⟩
          · subst q1; exact .inr q2)
      unfold iM
      rw [e6]
  · rintro e mm ⟨done, todo, a, b, c, h1, hx, rfl, rfl⟩
    cases todo with
    | cons r todo => cases hx
    | nil =>
      rw [List.append_nil] at h1
      rw [h1]
      exact ⟨a, b, c, rfl⟩
theorem raised_ev (hf : IsM n f) : F_raised [mvD n f, .int t] m = some (mvD n (raisF f t), m) := by
  obtain ⟨a, b, c, h⟩ := lp_raised_2_ev (m := m) (t := t) hf
  refine Fof_pure (t := [.lst [.int 0], .lst (tab n fun y => .int (raisF f t y : Nat)), .lst ((rows f n).map rowD)]) (o := .rt (mvD n (raisF f t)) (m ++ [.lst [.int 0], .lst (tab n fun y => .int (raisF f t y : Nat)), .lst ((rows f n).map rowD)])) rfl ?_ rfl (pure_mvD _ _) (Kept.ext m _)
  have e : startE N_raised [mvD n f, .int t] = [some (mvD n f), some (.int t), none, none, none, none] := rfl
  rw [e]
  unfold g_raised
  have hi := hf.hi
  have r1 : gMul (.loc m.length) (.int n) (m ++ [.lst [.int 0]]) = some (.loc (m.length + 1), m ++ [.lst [.int 0], .lst (tab n fun _ => .int 0)]) := rep_ev (by omega)
  have hw : F_is_whole [.int t] m = some (.bl true, m) := is_whole_ev rfl
  simp only [fsSeq, fsRet, fsRetN, fsIf, fsAsg, fsDrop, fsPar, fVar, fC, fCons, fNil, fCall, fOp, fUn, fOn, fTest, fTru, fNotT, fAndT, fOrT, fAnd, fOr, fNot, fIf, fChain, fName, fTupG, fsCons, fsNil, fPut, fLst, fTup, asB, asI, Option.bind_some, Option.map_some, Option.bind_none, Option.map_none, Option.join_some, List.getElem?_cons_zero, List.getElem?_cons_succ, fsNever, fsNext, fSeq, seqOf, fYes, fLCall, fPart, fNoPart, fSl, List.length_cons, List.length_nil, fIxN, fRange1, fRange2, fEnum, fDown, fLenSet, fRev, fTRg1, fRg1, check_move_ev hf, hw, tru, Bool.not_true, Bool.false_eq_true, if_false, gLen_mv, r1, List.set_cons_succ, List.set_cons_zero, Nat.zero_le, Nat.reduceLeDiff, if_true, Nat.reduceAdd, h]
  have r2 : gTupOf [.loc (m.length + 1)] (m ++ [.lst [.int 0], .lst (tab n fun y => .int (raisF f t y : Nat)), .lst ((rows f n).map rowD)]) = some (mvD n (raisF f t), _) := tupOf_ev (rd_off (i := 1) rfl)
  rw [r2]
  rfl
end
end k01

set_option Elab.async false
set_option linter.all false
set_option maxRecDepth 100000
set_option maxHeartbeats 1000000
namespace k01
open PySem PySem.Spec PyProof.Rows L2 Mv Cyc
noncomputable def Fof0 (N : List Str) (n : Nat) (g : FS) : GN := fun ds m => if ds.length = n then (g (startE N ds) m).bind Out.ret else none
theorem keeps_Fof0 (N : List Str) (n : Nat) (g : FS) : Keeps N g (Fof0 N n g) := fun ds m d m' h => by
  unfold Fof0 at h
  obtain ⟨_, h⟩ := iteE h
  obtain ⟨o, h1, h2⟩ := bindE h
  exact ⟨o, d, m', h1, h2, .same⟩
theorem many_Fof0 {N : List Str} {n : Nat} {g : FS} : ∀ ds m z, Fof0 N n g ds m = some z → ds.length = n := fun ds m z h => by
  unfold Fof0 at h
  exact (iteE h).1
theorem Fof0_of {N : List Str} {n : Nat} {g : FS} {ds : List D} {m m' : Mem} {o : Out} {d : D} (hn : ds.length = n) (h : g (startE N ds) m = some o) (ho : o.ret = some (d, m')) : Fof0 N n g ds m = some (d, m') := by
  unfold Fof0
  rw [if_pos hn, h]
  exact ho
def PoolAt (l : Nat) (m : Mem) : Prop := ∃ a b c : Int, m[l]? = some (.lst [.int a, .int b, .int c]) ∧ 0 ≤ a ∧ a < 2147483423 ∧ 0 ≤ b
/-- but for the pool all stays -/
def Still (l : Nat) (m m' : Mem) : Prop := m'.length = m.length ∧ ∀ j, j ≠ l → m'[j]? = m[j]?
theorem Still.refl {l : Nat} {m : Mem} : Still l m m := ⟨rfl, fun _ _ => rfl⟩
theorem Still.trans {l : Nat} {m m1 m2 : Mem} (h : Still l m m1) (k : Still l m1 m2) : Still l m m2 := ⟨k.1.trans h.1, fun j hj => (k.2 j hj).trans (h.2 j hj)⟩
theorem still_set {l : Nat} {m : Mem} {c : Cell} : Still l m (m.set l c) := ⟨by simp, fun j hj => List.getElem?_set_ne (Ne.symm hj)⟩
theorem get_set {l : Nat} {m : Mem} {c c0 : Cell} (h : m[l]? = some c0) : (m.set l c)[l]? = some c := List.getElem?_set_self (List.getElem?_eq_some_iff.mp h).1
noncomputable def F_law_take : GN := Fof0 N_law_take 2 g_law_take
theorem ix0 {m : Mem} {l : Nat} {a b c : D} (h : m[l]? = some (.lst [a, b, c])) : gIx (.loc l) (.int 0) m = some (a, m) := by
  show (rd m l).bind _ = _
  rw [rd_of h]; rfl
theorem ix1 {m : Mem} {l : Nat} {a b c : D} (h : m[l]? = some (.lst [a, b, c])) : gIx (.loc l) (.int 1) m = some (b, m) := by
  show (rd m l).bind _ = _
  rw [rd_of h]; rfl
theorem ix2 {m : Mem} {l : Nat} {a b c : D} (h : m[l]? = some (.lst [a, b, c])) : gIx (.loc l) (.int 2) m = some (c, m) := by
  show (rd m l).bind _ = _
  rw [rd_of h]; rfl
theorem take_ev {m : Mem} {l : Nat} {k : Int} (hp : PoolAt l m) (hk : 1 ≤ k) (hk2 : k < 1073741824) : ∃ v m', F_law_take [.loc l, .int k] m = some (.int v, m') ∧ 0 ≤ v ∧ v < k ∧ PoolAt l m' ∧ Still l m m' := by
  obtain ⟨a, b, c, h0, a0, a1, b0⟩ := hp
  have h1 : (m.set l (.lst [.int a, .int b, .int (c + 1)]))[l]? = some (.lst [.int a, .int b, .int (c + 1)]) := get_set h0
  have hx1 := Int.emod_nonneg (a * (a % 45007 + 31019) + 70009 * (c + 1)) (b := 2147483423) (by decide)
  have hx2 := Int.emod_lt_of_pos (a * (a % 45007 + 31019) + 70009 * (c + 1)) (b := 2147483423) (by decide)
  have h2 : ((m.set l (.lst [.int a, .int b, .int (c + 1)])).set l (.lst [.int ((a * (a % 45007 + 31019) + 70009 * (c + 1)) % 2147483423), .int b, .int (c + 1)]))[l]? = some (.lst [.int ((a * (a % 45007 + 31019) + 70009 * (c + 1)) % 2147483423), .int b, .int (c + 1)]) := get_set h1
  have hm : (-(2 ^ 64) < a ∧ a < 2 ^ 64) := by omega
  have hc1 : (-(2 ^ 64) < (70009 : Int) ∧ (70009 : Int) < 2 ^ 64) := by omega
  have e : startE N_law_take [.loc l, .int k] = [some (.loc l), some (.int k), none, none] := rfl
  have s1 : ∀ ee, fSub (fVar 0) (fC (.int 2)) (.int (c + 1)) (some (.loc l) :: ee) m = some (some (.loc l) :: ee, m.set l (.lst [.int a, .int b, .int (c + 1)])) := fun ee => fSub_ev (k := 2) (j := 2) rfl rfl h0 rfl
  have s2 : ∀ ee (v : D), fSub (fVar 0) (fC (.int 0)) v (some (.loc l) :: ee) (m.set l (.lst [.int a, .int b, .int (c + 1)])) = some (some (.loc l) :: ee, (m.set l (.lst [.int a, .int b, .int (c + 1)])).set l (.lst [v, .int b, .int (c + 1)])) := fun ee v => fSub_ev (k := 0) (j := 0) rfl rfl h1 rfl
  have hmod1 : (0 : Int) < 45007 := by decide
  have hmod2 : (0 : Int) < 2147483423 := by decide
  generalize hX : (a * (a % 45007 + 31019) + 70009 * (c + 1)) % 2147483423 = X at hx1 hx2 h2
  by_cases hb : 0 < b
  · have s3 : ∀ ee (v : D), fSub (fVar 0) (fC (.int 1)) v (some (.loc l) :: ee) ((m.set l (.lst [.int a, .int b, .int (c + 1)])).set l (.lst [.int X, .int b, .int (c + 1)])) = some (some (.loc l) :: ee, ((m.set l (.lst [.int a, .int b, .int (c + 1)])).set l (.lst [.int X, .int b, .int (c + 1)])).set l (.lst [.int X, v, .int (c + 1)])) := fun ee v => fSub_ev (k := 1) (j := 1) rfl rfl h2 rfl
    have hkk : 0 < k ∧ k < 1073741824 := ⟨by omega, hk2⟩
    refine ⟨b % k, ((m.set l (.lst [.int a, .int b, .int (c + 1)])).set l (.lst [.int X, .int b, .int (c + 1)])).set l (.lst [.int X, .int (b / k), .int (c + 1)]), Fof0_of (o := .rt (.int (b % k)) (((m.set l (.lst [.int a, .int b, .int (c + 1)])).set l (.lst [.int X, .int b, .int (c + 1)])).set l (.lst [.int X, .int (b / k), .int (c + 1)]))) rfl ?_ rfl, Int.emod_nonneg _ (by omega), Int.emod_lt_of_pos _ (by omega), ⟨X, b / k, c + 1, get_set h2, hx1, hx2, Int.ediv_nonneg b0 (by omega)⟩, (still_set.trans still_set).trans still_set⟩
    rw [e]
    unfold g_law_take
    simp only [fsSeq, fsRet, fsRetN, fsIf, fsAsg, fsDrop, fsPar, fVar, fC, fCons, fNil, fCall, fOp, fUn, fOn, fTest, fTru, fNotT, fAndT, fOrT, fAnd, fOr, fNot, fIf, fChain, fName, fTupG, fsCons, fsNil, fPut, fLst, fTup, asB, asI, Option.bind_some, Option.map_some, Option.bind_none, Option.map_none, Option.join_some, List.getElem?_cons_zero, List.getElem?_cons_succ, fsNever, fsNext, fSeq, seqOf, fYes, fLCall, fPart, fNoPart, fSl, List.length_cons, List.length_nil, fIxN, fRange1, fRange2, fEnum, fDown, fLenSet, fRev, fTRg1, fRg1, ix2 h0, gAdd, s1, List.set_cons_succ, List.set_cons_zero, ix0 h1, gMod, gInt, hmod1, hmod2, decide_true, if_true, gMul, hm, hc1, true_or, and_self, ix2 h1, hX, s2, ix1 h2, gGt, gInt0, hb, gDivmod, hkk, s3]
  · have h64 : (0 : Int) < 64 ∧ (64 : Int) < 1073741824 := by decide
    have hk0 : 0 < k := by omega
    refine ⟨X / 64 % k, (m.set l (.lst [.int a, .int b, .int (c + 1)])).set l (.lst [.int X, .int b, .int (c + 1)]), Fof0_of (o := .rt (.int (X / 64 % k)) ((m.set l (.lst [.int a, .int b, .int (c + 1)])).set l (.lst [.int X, .int b, .int (c + 1)]))) rfl ?_ rfl, Int.emod_nonneg _ (by omega), Int.emod_lt_of_pos _ (by omega), ⟨X, b, c + 1, h2, hx1, hx2, b0⟩, still_set.trans still_set⟩
    rw [e]
    unfold g_law_take
    simp only [fsSeq, fsRet, fsRetN, fsIf, fsAsg, fsDrop, fsPar, fVar, fC, fCons, fNil, fCall, fOp, fUn, fOn, fTest, fTru, fNotT, fAndT, fOrT, fAnd, fOr, fNot, fIf, fChain, fName, fTupG, fsCons, fsNil, fPut, fLst, fTup, asB, asI, Option.bind_some, Option.map_some, Option.bind_none, Option.map_none, Option.join_some, List.getElem?_cons_zero, List.getElem?_cons_succ, fsNever, fsNext, fSeq, seqOf, fYes, fLCall, fPart, fNoPart, fSl, List.length_cons, List.length_nil, fIxN, fRange1, fRange2, fEnum, fDown, fLenSet, fRev, fTRg1, fRg1, ix2 h0, gAdd, s1, List.set_cons_succ, List.set_cons_zero, ix0 h1, gMod, gInt, hmod1, hmod2, decide_true, if_true, gMul, hm, hc1, true_or, and_self, ix2 h1, hX, s2, ix1 h2, gGt, gInt0, hb, decide_false, Bool.false_eq_true, if_false, ix0 h2, gFDiv, h64, hk0]
noncomputable def F_law_pool : GN := Fof0 N_law_pool 1 g_law_pool
theorem pool_ev {m : Mem} {z : Int} : ∃ m', F_law_pool [.int z] m = some (.loc m.length, m') ∧ PoolAt m.length m' := by
  have e : startE N_law_pool [.int z] = [some (.int z), none] := rfl
  have hx1 := Int.emod_nonneg z (b := 2147483423) (by decide)
  have hx2 := Int.emod_lt_of_pos z (b := 2147483423) (by decide)
  have hpw : ∀ mm, gPow (.int 10) (.int 18) mm = some (.int (10 ^ 18), mm) := fun mm => rfl
  have hmod2 : (0 : Int) < 2147483423 := by decide
  by_cases h1 : z < 0
  · refine ⟨m ++ [.lst [.int (z % 2147483423), .int (-z), .int 0]], Fof0_of (o := .rt (.loc m.length) (m ++ [.lst [.int (z % 2147483423), .int (-z), .int 0]])) rfl ?_ rfl, z % 2147483423, -z, 0, get_off m _ 0, hx1, hx2, by omega⟩
    rw [e]
    unfold g_law_pool
    simp only [fsSeq, fsRet, fsRetN, fsIf, fsAsg, fsDrop, fsPar, fVar, fC, fCons, fNil, fCall, fOp, fUn, fOn, fTest, fTru, fNotT, fAndT, fOrT, fAnd, fOr, fNot, fIf, fChain, fName, fTupG, fsCons, fsNil, fPut, fLst, fTup, asB, asI, Option.bind_some, Option.map_some, Option.bind_none, Option.map_none, Option.join_some, List.getElem?_cons_zero, List.getElem?_cons_succ, fsNever, fsNext, fSeq, seqOf, fYes, fLCall, fPart, fNoPart, fSl, List.length_cons, List.length_nil, fIxN, fRange1, fRange2, fEnum, fDown, fLenSet, fRev, fTRg1, fRg1, List.set_cons_succ, List.set_cons_zero, gLt, gInt0, h1, decide_true, if_true, gAbs, gMod, gInt, hmod2, Nat.zero_le, Nat.reduceLeDiff, Nat.reduceAdd]
  · by_cases h2 : z ≥ 10 ^ 18
    · have h2' : (10 : Int) ^ 18 ≤ z := h2
      refine ⟨m ++ [.lst [.int (z % 2147483423), .int z, .int 0]], Fof0_of (o := .rt (.loc m.length) (m ++ [.lst [.int (z % 2147483423), .int z, .int 0]])) rfl ?_ rfl, z % 2147483423, z, 0, get_off m _ 0, hx1, hx2, by omega⟩
      rw [e]
      unfold g_law_pool
      simp only [fsSeq, fsRet, fsRetN, fsIf, fsAsg, fsDrop, fsPar, fVar, fC, fCons, fNil, fCall, fOp, fUn, fOn, fTest, fTru, fNotT, fAndT, fOrT, fAnd, fOr, fNot, fIf, fChain, fName, fTupG, fsCons, fsNil, fPut, fLst, fTup, asB, asI, Option.bind_some, Option.map_some, Option.bind_none, Option.map_none, Option.join_some, List.getElem?_cons_zero, List.getElem?_cons_succ, fsNever, fsNext, fSeq, seqOf, fYes, fLCall, fPart, fNoPart, fSl, List.length_cons, List.length_nil, fIxN, fRange1, fRange2, fEnum, fDown, fLenSet, fRev, fTRg1, fRg1, List.set_cons_succ, List.set_cons_zero, gLt, gGe, gInt0, h1, decide_false, Bool.false_eq_true, if_false, hpw, h2', decide_true, if_true, gAbs, gMod, gInt, hmod2, Nat.zero_le, Nat.reduceLeDiff, Nat.reduceAdd]
    · have h2' : ¬ (10 : Int) ^ 18 ≤ z := h2
      refine ⟨m ++ [.lst [.int (z % 2147483423), .int 0, .int 0]], Fof0_of (o := .rt (.loc m.length) (m ++ [.lst [.int (z % 2147483423), .int 0, .int 0]])) rfl ?_ rfl, z % 2147483423, 0, 0, get_off m _ 0, hx1, hx2, by omega⟩
      rw [e]
      unfold g_law_pool
      simp only [fsSeq, fsRet, fsRetN, fsIf, fsAsg, fsDrop, fsPar, fVar, fC, fCons, fNil, fCall, fOp, fUn, fOn, fTest, fTru, fNotT, fAndT, fOrT, fAnd, fOr, fNot, fIf, fChain, fName, fTupG, fsCons, fsNil, fPut, fLst, fTup, asB, asI, Option.bind_some, Option.map_some, Option.bind_none, Option.map_none, Option.join_some, List.getElem?_cons_zero, List.getElem?_cons_succ, fsNever, fsNext, fSeq, seqOf, fYes, fLCall, fPart, fNoPart, fSl, List.length_cons, List.length_nil, fIxN, fRange1, fRange2, fEnum, fDown, fLenSet, fRev, fTRg1, fRg1, List.set_cons_succ, List.set_cons_zero, gLt, gGe, gInt0, h1, decide_false, Bool.false_eq_true, if_false, hpw, h2', decide_true, if_true, gMod, gInt, hmod2, Nat.zero_le, Nat.reduceLeDiff, Nat.reduceAdd]
end k01

set_option Elab.async false
set_option linter.all false
set_option maxRecDepth 100000
set_option maxHeartbeats 1000000
namespace k01
open PySem PySem.Spec PyProof.Rows L2 Mv Cyc
theorem gMod_ex (x c : Int) (h : 0 < c) : ∃ r, ∀ mm, gMod (.int x) (.int c) mm = some (.int r, mm) := ⟨x % c, fun mm => by
  show (if decide (0 < c) = true then some (D.int (x % c), mm) else none) = _
  rw [if_pos (decide_eq_true h)]⟩
theorem gMul_ex (x c : Int) (h : -(2 ^ 64) < x ∧ x < 2 ^ 64) : ∃ r, ∀ mm, gMul (.int x) (.int c) mm = some (.int r, mm) := ⟨x * c, fun mm => if_pos (.inl h)⟩
theorem gAdd_ex (x c : Int) : ∃ r, ∀ mm, gAdd (.int x) (.int c) mm = some (.int r, mm) := ⟨x + c, fun mm => rfl⟩
theorem seq_ev {f g : FS} {e e1 : Sl} {m m1 : Mem} {o : Option Out} (h : f e m = some (.nx e1 m1)) (h2 : g e1 m1 = o) : fsSeq f g e m = o := by
  unfold fsSeq
  rw [h]
  exact h2
theorem op_ev {g : G2} {fa fb : FE} {e : Sl} {m m1 m2 : Mem} {a b : D} {o : Option (D × Mem)} (h : fa e m = some (a, m1)) (h2 : fb e m1 = some (b, m2)) (h3 : g a b m2 = o) : fOp g fa fb e m = o := by
  unfold fOp
  rw [h, Option.bind_some, h2, Option.bind_some]
  exact h3
theorem asg_ev {f : FE} {e : Sl} {m m1 : Mem} {i : Nat} {d : D} (h : f e m = some (d, m1)) : fsAsg f (fName i) e m = some (.nx (e.set i (some d)) m1) := by
  unfold fsAsg fName
  rw [h]; rfl
noncomputable def F_law_cell : GN := Fof0 N_law_cell 2 g_law_cell
theorem cell_ev {m : Mem} {ns : List Int} {k : Nat} (hk : k ≤ 100) : ∃ z m', F_law_cell [.kl (ns.map D.int), .int (k : Nat)] m = some (.int z, m') := by
  have e : startE N_law_cell [.kl (ns.map D.int), .int (k : Nat)] = [some (.kl (ns.map D.int)), some (.int (k : Nat)), none, none] := rfl
  have hl : ∀ mm, gLen [.kl (ns.map D.int)] mm = some (.int (ns.length : Nat), mm) := fun mm => by show some (D.int ((ns.map D.int).length : Nat), mm) = _; rw [List.length_map]
  by_cases h1 : k < ns.length
  · have h1' : ((k : Nat) : Int) < (ns.length : Nat) := by omega
    have hix : gIx (.kl (ns.map D.int)) (.int (k : Nat)) m = some (.int ns[k], m) := by
      have q : (ns.map D.int)[k]? = some (.int ns[k]) := by rw [List.getElem?_map, List.getElem?_eq_getElem h1]; rfl
      show (atI _ _).map _ = _
      rw [atI_nat q]; rfl
    refine ⟨ns[k], m, Fof0_of (o := .rt (.int ns[k]) m) rfl ?_ rfl⟩
    rw [e]
    unfold g_law_cell
    simp only [fsSeq, fsRet, fsRetN, fsIf, fsAsg, fsDrop, fsPar, fVar, fC, fCons, fNil, fCall, fOp, fUn, fOn, fTest, fTru, fNotT, fAndT, fOrT, fAnd, fOr, fNot, fIf, fChain, fName, fTupG, fsCons, fsNil, fPut, fLst, fTup, asB, asI, Option.bind_some, Option.map_some, Option.bind_none, Option.map_none, Option.join_some, List.getElem?_cons_zero, List.getElem?_cons_succ, fsNever, fsNext, fSeq, seqOf, fYes, fLCall, fPart, fNoPart, fSl, List.length_cons, List.length_nil, fIxN, fRange1, fRange2, fEnum, fDown, fLenSet, fRev, fTRg1, fRg1, hl, gLt, gInt0, h1', decide_true, if_true, hix]
  · have h1' : ¬ ((k : Nat) : Int) < (ns.length : Nat) := by omega
    have hc : ∀ x : Int, Mv.cutD (ns.map D.int) none (some 3) = ((ns.map D.int).take 3) := fun _ => by
      unfold Mv.cutD
      rw [show HT.sIx (ns.map D.int).length (ns.map D.int).length (some 3) = min 3 (ns.map D.int).length from HT.sIx_nat (ns.map D.int).length _ 3, HT.sIx_none]
      rw [List.drop_zero, Nat.sub_zero]
      refine List.ext_getElem? fun i => ?_
      rw [List.getElem?_take, List.getElem?_take]
      by_cases q : i < (ns.map D.int).length
      · by_cases q2 : i < 3
        · rw [if_pos (by omega), if_pos q2]
        · rw [if_neg (by omega), if_neg q2]
      · rw [List.getElem?_eq_none (by omega)]; simp
    have hmod2 : (0 : Int) < 2147483423 := by decide
    obtain ⟨w1, hw1⟩ := gMul_ex (k : Nat) (k : Nat) (by omega)
    obtain ⟨w2, hw2⟩ := gMul_ex 9 (k : Nat) (by omega)
    obtain ⟨w3, hw3⟩ := gAdd_ex w1 w2
    obtain ⟨w4, hw4⟩ := gAdd_ex w3 5
    obtain ⟨w5, hw5⟩ := gMul_ex 50021 w4 (by omega)
    obtain ⟨z0, hz0⟩ := gMod_ex w5 2147483423 (by decide)
    have h := for_evL (fi := fSeq (fSl (fVar 0) fNoPart (fPart (fC (.int 3))))) (ft := fName 3) (g := lb_law_cell_1) (e := [some (.kl (ns.map D.int)), some (.int (k : Nat)), some (.int z0), none])
      (m0 := m) (m := m ++ [.lst (Mv.cutD (ns.map D.int) none (some 3))]) (s := ⟨Mv.cutD (ns.map D.int) none (some 3), some m.length⟩) ?_
      (fun xs e mm => (∀ x ∈ xs, ∃ i : Int, x = .int i) ∧ mm = m ++ [.lst (Mv.cutD (ns.map D.int) none (some 3))] ∧ ∃ (z : Int) (b : Option D), e = [some (.kl (ns.map D.int)), some (.int (k : Nat)), some (.int z), b])
      (fun o => ∃ (z : Int) (b : Option D), o = .nx [some (.kl (ns.map D.int)), some (.int (k : Nat)), some (.int z), b] (m ++ [.lst (Mv.cutD (ns.map D.int) none (some 3))]))
      ?_ ⟨fun x hx => ?_, rfl, _, _, rfl⟩ ?_ ?_
    · obtain ⟨o, h2, z, b, rfl⟩ := h
      have h3 : lp_law_cell_1 _ m = _ := h2
      refine ⟨z, m ++ [.lst (Mv.cutD (ns.map D.int) none (some 3))], Fof0_of (o := .rt (.int z) (m ++ [.lst (Mv.cutD (ns.map D.int) none (some 3))])) rfl ?_ rfl⟩
      rw [e]
      unfold g_law_cell
      refine seq_ev (e1 := [some (.kl (ns.map D.int)), some (.int (k : Nat)), none, none]) (m1 := m) ?_ (seq_ev (e1 := [some (.kl (ns.map D.int)), some (.int (k : Nat)), some (.int z0), none]) (m1 := m) ?_ (seq_ev h3 rfl))
      · have hlt : ∀ mm, gLt (.int (k : Nat)) (.int (ns.length : Nat)) mm = some (.bl false, mm) := fun mm => by show some (D.bl (decide (((k : Nat) : Int) < (ns.length : Nat))), mm) = _; rw [decide_eq_false h1']
        simp only [fsSeq, fsRet, fsRetN, fsIf, fsAsg, fsDrop, fsPar, fVar, fC, fCons, fNil, fCall, fOp, fUn, fOn, fTest, fTru, fNotT, fAndT, fOrT, fAnd, fOr, fNot, fIf, fChain, fName, fTupG, fsCons, fsNil, fPut, fLst, fTup, asB, asI, Option.bind_some, Option.map_some, Option.bind_none, Option.map_none, Option.join_some, List.getElem?_cons_zero, List.getElem?_cons_succ, fsNever, fsNext, fSeq, seqOf, fYes, fLCall, fPart, fNoPart, fSl, List.length_cons, List.length_nil, fIxN, fRange1, fRange2, fEnum, fDown, fLenSet, fRev, fTRg1, fRg1, hl, hlt, Bool.false_eq_true, if_false]
      · have q1 : fOp gMul (fVar 1) (fVar 1) [some (.kl (ns.map D.int)), some (.int (k : Nat)), none, none] m = some (.int w1, m) := op_ev (g := gMul) rfl rfl (hw1 m)
        have q2 : fOp gMul (fC (.int 9)) (fVar 1) [some (.kl (ns.map D.int)), some (.int (k : Nat)), none, none] m = some (.int w2, m) := op_ev (g := gMul) rfl rfl (hw2 m)
        have q3 := op_ev (g := gAdd) q1 q2 (hw3 m)
        have q4 := op_ev (g := gAdd) (fb := fC (.int 5)) q3 rfl (hw4 m)
        have q5 := op_ev (g := gMul) (fa := fC (.int 50021)) rfl q4 (hw5 m)
        have q6 := op_ev (g := gMod) (fb := fC (.int 2147483423)) q5 rfl (hz0 m)
        exact asg_ev q6
    · have hs : gSl (.kl (ns.map D.int)) none (some 3) m = some (.loc m.length, m ++ [.lst (Mv.cutD (ns.map D.int) none (some 3))]) := rfl
      simp only [fsSeq, fsRet, fsRetN, fsIf, fsAsg, fsDrop, fsPar, fVar, fC, fCons, fNil, fCall, fOp, fUn, fOn, fTest, fTru, fNotT, fAndT, fOrT, fAnd, fOr, fNot, fIf, fChain, fName, fTupG, fsCons, fsNil, fPut, fLst, fTup, asB, asI, Option.bind_some, Option.map_some, Option.bind_none, Option.map_none, Option.join_some, List.getElem?_cons_zero, List.getElem?_cons_succ, fsNever, fsNext, fSeq, seqOf, fYes, fLCall, fPart, fNoPart, fSl, List.length_cons, List.length_nil, fIxN, fRange1, fRange2, fEnum, fDown, fLenSet, fRev, fTRg1, fRg1, hs]
      rw [rd_last]; rfl
    · rintro xs e mm ⟨_, rfl, z, b, rfl⟩
      exact rd_last
    · have hx' : x ∈ Mv.cutD (ns.map D.int) none (some 3) := hx
      rw [hc 0] at hx'
      obtain ⟨i, _, rfl⟩ := List.mem_map.mp (List.mem_of_mem_take hx')
      exact ⟨i, rfl⟩
    · rintro x xs e mm ⟨hx, rfl, z, b, rfl⟩
      obtain ⟨i, rfl⟩ := hx x (by simp)
      obtain ⟨u1, hu1⟩ : ∃ r, ∀ mm, gMul (.int z) (.int 43013) mm = some (.int r, mm) := ⟨z * 43013, fun mm => if_pos (.inr (by omega))⟩
      obtain ⟨u2, hu2⟩ := gAdd_ex u1 i
      obtain ⟨r, hr⟩ := gMod_ex u2 2147483423 (by decide)
      refine ⟨.nx [some (.kl (ns.map D.int)), some (.int (k : Nat)), some (.int r), some (.int i)] (m ++ [.lst (Mv.cutD (ns.map D.int) none (some 3))]), ?_, fun y hy => hx y (by simp [hy]), rfl, _, _, rfl⟩
      unfold lb_law_cell_1
      simp only [fsSeq, fsRet, fsRetN, fsIf, fsAsg, fsDrop, fsPar, fVar, fC, fCons, fNil, fCall, fOp, fUn, fOn, fTest, fTru, fNotT, fAndT, fOrT, fAnd, fOr, fNot, fIf, fChain, fName, fTupG, fsCons, fsNil, fPut, fLst, fTup, asB, asI, Option.bind_some, Option.map_some, Option.bind_none, Option.map_none, Option.join_some, List.getElem?_cons_zero, List.getElem?_cons_succ, fsNever, fsNext, fSeq, seqOf, fYes, fLCall, fPart, fNoPart, fSl, List.length_cons, List.length_nil, fIxN, fRange1, fRange2, fEnum, fDown, fLenSet, fRev, fTRg1, fRg1, List.set_cons_succ, List.set_cons_zero, hu1, hu2, hr]
    · rintro e mm ⟨_, rfl, z, b, rfl⟩
      exact ⟨z, b, rfl⟩
end k01

set_option Elab.async false
set_option linter.all false
set_option maxRecDepth 100000
set_option maxHeartbeats 1000000
namespace k01
open PySem PySem.Spec PyProof.Rows L2 Mv Cyc
def swp (g : Nat → Nat) (a b z : Nat) : Nat := if z = b then g a else if z = a then g b else g z
theorem swp_perm {n : Nat} {g : Nat → Nat} (h : Perm n g) {a b : Nat} (ha : a < n) (hb : b < n) : Perm n (swp g a b) := by
  have e : ∀ z, swp g a b z = g (if z = b then a else if z = a then b else z) := fun z => by
    unfold swp
    split
    · rfl
    · split <;> rfl
  refine ⟨fun x hx => ?_, fun x y hx hy q => ?_⟩
  · rw [e]
    refine h.lt _ ?_
    split
    · exact ha
    · split
      · exact hb
      · exact hx
  · rw [e, e] at q
    have q2 := h.inj _ _ (by split; exact ha; split; exact hb; exact hx) (by split; exact ha; split; exact hb; exact hy) q
    repeat' split at q2
    all_goals omega
structure St (l q n : Nat) (g : Nat → Nat) (mm : Mem) : Prop where
  pool : PoolAt l mm
  img : mm[q]? = some (.lst (tab n fun y => .int (g y : Nat)))
  p : Perm n g
  ne : l ≠ q
theorem St.still {l q n : Nat} {g : Nat → Nat} {mm m' : Mem} (h : St l q n g mm) (hp : PoolAt l m') (hs : Still l mm m') : St l q n g m' := ⟨hp, by rw [hs.2 q (Ne.symm h.ne)]; exact h.img, h.p, h.ne⟩
theorem St.put {l q n : Nat} {g g' : Nat → Nat} {mm : Mem} (h : St l q n g mm) (hg : Perm n g') : St l q n g' (mm.set q (.lst (tab n fun y => .int (g' y : Nat)))) := by
  obtain ⟨a, b, c, h1, h2⟩ := h.pool
  exact ⟨⟨a, b, c, by rw [List.getElem?_set_ne (Ne.symm h.ne)]; exact h1, h2⟩, List.getElem?_set_self (List.getElem?_eq_some_iff.mp h.img).1, hg, h.ne⟩
theorem St.ix {l q n : Nat} {g : Nat → Nat} {mm : Mem} (h : St l q n g mm) {y : Nat} (hy : y < n) : gIx (.loc q) (.int (y : Nat)) mm = some (.int (g y : Nat), mm) := by
  show (rd mm q).bind _ = _
  rw [rd_of h.img, Option.bind_some, tab_at hy]; rfl
theorem St.tup {l q n : Nat} {g : Nat → Nat} {mm : Mem} (h : St l q n g mm) : gTupOf [.loc q] mm = some (mvD n g, mm) := tupOf_ev (rd_of h.img)
theorem St.sub {l q n : Nat} {g : Nat → Nat} {mm : Mem} (h : St l q n g mm) {fo fi : FE} {e : Sl} {y v : Nat} (h1 : fo e mm = some (.loc q, mm)) (h2 : fi e mm = some (.int (y : Nat), mm)) (hy : y < n) :
    fSub fo fi (.int (v : Nat)) e mm = some (e, mm.set q (.lst (tab n fun z => .int ((if z = y then v else g z : Nat) : Int)))) := by
  rw [fSub_ev h1 h2 h.img (tab_ix hy), tab_set]
  have e5 : (tab n fun z => if z = y then D.int (v : Nat) else D.int (g z : Nat)) = tab n fun z => .int ((if z = y then v else g z : Nat) : Int) := tab_congr fun z _ => by split <;> rfl
  rw [e5]
theorem swap_ev {l q n : Nat} {g : Nat → Nat} {mm : Mem} (h : St l q n g mm) {e : Sl} {i j a b : Nat} (he : e[2]? = some (some (.loc q))) (hi : e[i]? = some (some (.int (a : Nat)))) (hj : e[j]? = some (some (.int (b : Nat)))) (ha : a < n) (hb : b < n) :
    ∃ m', (fsAsg (fTup (fCons (fOp gIx (fVar 2) (fVar j)) (fCons (fOp gIx (fVar 2) (fVar i)) fNil))) (fTupG 2 (fsCons (fSub (fVar 2) (fVar i)) (fsCons (fSub (fVar 2) (fVar j)) fsNil)))) e mm = some (.nx e m') ∧ St l q n (swp g a b) m' := by
  have h2 : St l q n (swp g a b) ((mm.set q (.lst (tab n fun z => .int ((if z = a then g b else g z : Nat) : Int)))).set q (.lst (tab n fun z => .int (swp g a b z : Nat)))) := by
    rw [List.set_set]
    exact h.put (swp_perm h.p ha hb)
  refine ⟨_, ?_, h2⟩
  have s1 := h.sub (fo := fVar 2) (fi := fVar i) (e := e) (v := g b) (v_var he) (v_var hi) ha
  have hget : (mm.set q (.lst (tab n fun z => .int ((if z = a then g b else g z : Nat) : Int))))[q]? = some (.lst (tab n fun z => .int ((if z = a then g b else g z : Nat) : Int))) := List.getElem?_set_self (List.getElem?_eq_some_iff.mp h.img).1
  have s2 := fSub_ev (fo := fVar 2) (fi := fVar j) (e := e) (d := .int (g a : Nat)) (v_var he) (v_var hj) hget (tab_ix hb)
  rw [tab_set] at s2
  have e5 : (tab n fun z => if z = b then D.int (g a : Nat) else D.int ((if z = a then g b else g z : Nat) : Int)) = tab n fun z => .int (swp g a b z : Nat) := tab_congr fun z _ => by
    unfold swp
    split <;> rfl
  rw [e5] at s2
  have i1 : fOp gIx (fVar 2) (fVar j) e mm = some (.int (g b : Nat), mm) := op_ev (v_var he) (v_var hj) (h.ix hb)
  have i2 : fOp gIx (fVar 2) (fVar i) e mm = some (.int (g a : Nat), mm) := op_ev (v_var he) (v_var hi) (h.ix ha)
  unfold fsAsg fTup fCons fNil
  rw [i1, Option.bind_some]
  simp only [i2, Option.bind_some, List.length_cons, List.length_nil, Nat.reduceAdd, Nat.reduceLeDiff, if_true, fTupG, fsCons, fsNil, s1, s2, Option.map_some]
theorem posI_some {l : List Int} {x : Int} : x ∈ l → ∃ j, posI l x = some j := by
  induction l with
  | nil => intro h; cases h
  | cons y r ih =>
    intro h
    unfold posI
    by_cases e : y = x
    · exact ⟨0, if_pos e⟩
    · rw [if_neg e]
      rcases List.mem_cons.mp h with q | q
      · exact absurd q.symm e
      · obtain ⟨j, hj⟩ := ih q
        exact ⟨j + 1, by rw [hj]; rfl⟩
def idx (n : Nat) (g : Nat → Nat) (y : Nat) : Nat := (posI ((List.range n).map fun z => ((g z : Nat) : Int)) (y : Nat)).getD 0
theorem idx_ok {n : Nat} {g : Nat → Nat} (h : Perm n g) {y : Nat} (hy : y < n) : posI ((List.range n).map fun z => ((g z : Nat) : Int)) (y : Nat) = some (idx n g y) ∧ idx n g y < n ∧ g (idx n g y) = y := by
  obtain ⟨x, hx, e⟩ := surj h hy
  have hm : ((y : Nat) : Int) ∈ (List.range n).map fun z => ((g z : Nat) : Int) := List.mem_map.mpr ⟨x, List.mem_range.mpr hx, by rw [e]⟩
  obtain ⟨j, hj⟩ := posI_some hm
  have e2 : idx n g y = j := by unfold idx; rw [hj]; rfl
  rw [e2]
  obtain ⟨q1, _⟩ := posI_ok hj
  rw [List.getElem?_map] at q1
  obtain ⟨z, q2, q3⟩ := mapE q1
  have hjn : j < n := by
    have := (List.getElem?_eq_some_iff.mp q2).1
    simpa using this
  rw [List.getElem?_range hjn] at q2
  cases q2
  exact ⟨hj, hjn, by omega⟩
theorem succ_mod_inj {n a b : Nat} (ha : a < n) (hb : b < n) (h : (a + 1) % n = (b + 1) % n) : a = b := by
  by_cases h1 : a + 1 < n
  · rw [Nat.mod_eq_of_lt h1] at h
    by_cases h2 : b + 1 < n
    · rw [Nat.mod_eq_of_lt h2] at h; omega
    · have : b + 1 = n := by omega
      rw [this, Nat.mod_self] at h; omega
  · have e1 : a + 1 = n := by omega
    rw [e1, Nat.mod_self] at h
    by_cases h2 : b + 1 < n
    · rw [Nat.mod_eq_of_lt h2] at h; omega
    · omega
theorem round_perm {n : Nat} {g : Nat → Nat} (hn : 0 < n) (h : Perm n g) : Perm n fun y => g ((idx n g y + 1) % n) := by
  refine ⟨fun x hx => h.lt _ (Nat.mod_lt _ hn), fun x y hx hy e => ?_⟩
  obtain ⟨_, x1, x2⟩ := idx_ok h hx
  obtain ⟨_, y1, y2⟩ := idx_ok h hy
  have e2 := succ_mod_inj x1 y1 (h.inj _ _ (Nat.mod_lt _ hn) (Nat.mod_lt _ hn) e)
  rw [← x2, ← y2, e2]
theorem gMod_natW {m : Mem} {a b : Nat} (h : 0 < b) : gMod (.int (a : Nat)) (.int (b : Nat)) m = some (.int ((a % b : Nat) : Int), m) := by
  unfold gMod gInt
  have : (0 : Int) < (b : Nat) := by omega
  simp only [this, decide_true, if_true, Int.natCast_emod]
noncomputable def F_law_move : GN := Fof0 N_law_move 2 (g_law_move F_law_take)
abbrev vE (l n q : Nat) (w : Int) (a b c d : Option D) : Sl := [some (.loc l), some (.int (n : Nat)), some (.loc q), some (.int w), a, b, c, d]
theorem lp_move_ev {l q n : Nat} {g : Nat → Nat} {mm : Mem} {w : Int} (h1 : 1 ≤ n ∧ n ≤ 60) (h : St l q n g mm) : ∃ g' m' c d, lp_law_move_1 F_law_take (vE l n q w none none none none) mm = some (.nx (vE l n q w none none c d) m') ∧ St l q n g' m' := by
  have hj : (-100000 : Int) ≤ (n : Int) - 1 ∧ ((n : Int) - 1) ≤ 100000 ∧ (-100000 : Int) ≤ 0 ∧ (0 : Int) ≤ 100000 := by omega
  have hz := for_evL (fi := fDown (fOp Mv.gSub (fVar 1) (fC (.int 1))) (fC (.int 0)) (fUn gNeg (fC (.int 1)))) (ft := fName 6) (g := lb_law_move_1 F_law_take) (e := vE l n q w none none none none)
    (m0 := mm) (m := mm) (s := ⟨downD ((n : Int) - 1) (((n : Int) - 1) - 0).toNat, none⟩) ?_
    (fun xs e mm => (∀ x ∈ xs, ∃ p : Nat, 1 ≤ p ∧ p < n ∧ x = .int (p : Nat)) ∧ ∃ g c d, e = vE l n q w none none c d ∧ St l q n g mm)
    (fun o => ∃ g' m' c d, o = .nx (vE l n q w none none c d) m' ∧ St l q n g' m')
    (fun _ _ _ _ => trivial) ⟨fun x hx => ?_, g, none, none, rfl, h⟩ ?_ ?_
  · obtain ⟨o, h2, g', m', c, d, rfl, h3⟩ := hz
    exact ⟨g', m', c, d, h2, h3⟩
  · simp only [fsSeq, fsRet, fsRetN, fsIf, fsAsg, fsDrop, fsPar, fVar, fC, fCons, fNil, fCall, fOp, fUn, fOn, fTest, fTru, fNotT, fAndT, fOrT, fAnd, fOr, fNot, fIf, fChain, fName, fTupG, fsCons, fsNil, fPut, fLst, fTup, asB, asI, Option.bind_some, Option.map_some, Option.bind_none, Option.map_none, Option.join_some, List.getElem?_cons_zero, List.getElem?_cons_succ, fsNever, fsNext, fSeq, seqOf, fYes, fLCall, fPart, fNoPart, fSl, List.length_cons, List.length_nil, fIxN, fRange1, fRange2, fEnum, fDown, fLenSet, fRev, fTRg1, fRg1, vE, Mv.gSub, gInt0, gNeg, hj, and_self, if_true]
  · obtain ⟨k, hk, rfl⟩ := List.mem_map.mp hx
    have hk := List.mem_range.mp hk
    refine ⟨n - 1 - k, by omega, by omega, ?_⟩
    congr 1
    omega
  · rintro x xs e mm ⟨hx, g, c, d, rfl, hs⟩
    obtain ⟨p, p1, p2, rfl⟩ := hx x (by simp)
    obtain ⟨v, m1, t1, t2, t3, t4, t5⟩ := take_ev (k := (p : Int) + 1) hs.pool (by omega) (by omega)
    have hs1 := hs.still t4 t5
    obtain ⟨u, rfl⟩ : ∃ u : Nat, v = (u : Nat) := ⟨v.toNat, by omega⟩
    obtain ⟨m2, s1, s2⟩ := swap_ev (i := 6) (j := 7) (e := vE l n q w none none (some (.int (p : Nat))) (some (.int (u : Nat)))) hs1 rfl rfl rfl p2 (show u < n by omega)
    refine ⟨.nx (vE l n q w none none (some (.int (p : Nat))) (some (.int (u : Nat)))) m2, ?_, fun y hy => hx y (by simp [hy]), _, _, _, rfl, s2⟩
    show lb_law_move_1 F_law_take (vE l n q w none none (some (.int (p : Nat))) d) mm = _
    unfold lb_law_move_1
    refine seq_ev (e1 := vE l n q w none none (some (.int (p : Nat))) (some (.int (u : Nat)))) (m1 := m1) ?_ s1
    have ha : ∀ mm, gAdd (.int (p : Nat)) (.int 1) mm = some (.int ((p : Nat) + 1), mm) := fun _ => rfl
    simp only [fsSeq, fsRet, fsRetN, fsIf, fsAsg, fsDrop, fsPar, fVar, fC, fCons, fNil, fCall, fOp, fUn, fOn, fTest, fTru, fNotT, fAndT, fOrT, fAnd, fOr, fNot, fIf, fChain, fName, fTupG, fsCons, fsNil, fPut, fLst, fTup, asB, asI, Option.bind_some, Option.map_some, Option.bind_none, Option.map_none, Option.join_some, List.getElem?_cons_zero, List.getElem?_cons_succ, fsNever, fsNext, fSeq, seqOf, fYes, fLCall, fPart, fNoPart, fSl, List.length_cons, List.length_nil, fIxN, fRange1, fRange2, fEnum, fDown, fLenSet, fRev, fTRg1, fRg1, vE, ha, t1, List.set_cons_succ, List.set_cons_zero]
  · rintro e mm ⟨_, g, c, d, rfl, hs⟩
    exact ⟨g, mm, c, d, rfl, hs⟩
theorem lc_move_ev {l q n : Nat} {g : Nat → Nat} {mm : Mem} {w : Int} {a b c d : Option D} (h1 : 1 ≤ n ∧ n ≤ 60) (h : St l q n g mm) : lc_law_move_1 F_law_take (vE l n q w a b c d) mm = some (tab n fun y => .int ((g ((idx n g y + 1) % n) : Nat) : Int), mm) := by
  have hj : (-100000 : Int) ≤ (n : Nat) ∧ ((n : Nat) : Int) ≤ 100000 := by omega
  unfold lc_law_move_1
  rw [lc_ev (xs := tab n fun y => .int (y : Nat)) (by simp only [fsSeq, fsRet, fsRetN, fsIf, fsAsg, fsDrop, fsPar, fVar, fC, fCons, fNil, fCall, fOp, fUn, fOn, fTest, fTru, fNotT, fAndT, fOrT, fAnd, fOr, fNot, fIf, fChain, fName, fTupG, fsCons, fsNil, fPut, fLst, fTup, asB, asI, Option.bind_some, Option.map_some, Option.bind_none, Option.map_none, Option.join_some, List.getElem?_cons_zero, List.getElem?_cons_succ, fsNever, fsNext, fSeq, seqOf, fYes, fLCall, fPart, fNoPart, fSl, List.length_cons, List.length_nil, fIxN, fRange1, fRange2, fEnum, fDown, fLenSet, fRev, fTRg1, fRg1, vE, hj, and_self, if_true, Int.toNat_natCast, tab_range]) (by rw [tab_len]; omega) (fun x => match x with | .int i => some (.int ((g ((idx n g i.toNat + 1) % n) : Nat) : Int)) | _ => none) fun y hy => ?_]
  · rw [fm_tab (k := fun y => .int ((g ((idx n g y + 1) % n) : Nat) : Int)) fun y hy => by simp only [Int.toNat_natCast]]
  · obtain ⟨z, hz, rfl⟩ := List.mem_map.mp hy
    have hz := List.mem_range.mp hz
    have e : wipeE (vE l n q w a b c d) [6] = vE l n q w a b none d := rfl
    obtain ⟨i1, i2, i3⟩ := idx_ok h.p hz
    have hix : fMeth gIndex (fVar 2) (fCons (fVar 6) fNil) (vE l n q w a b (some (.int (z : Nat))) d) mm = some (.int ((idx n g z : Nat) : Int), mm) := by
      unfold fMeth
      rw [v_var (i := 2) (d := .loc q) rfl, Option.bind_some]
      simp only [h.img, Option.bind_some, fCons, fNil]
      rw [v_var (i := 6) (d := .int (z : Nat)) rfl, Option.bind_some, Option.bind_some]
      unfold gIndex
      simp only [h.img, tab_ints, asIs_map, Option.bind_some, i1, Option.map_some]
    have hmod : gMod (.int ((idx n g z : Nat) + 1)) (.int (n : Nat)) mm = some (.int (((idx n g z + 1) % n : Nat) : Int), mm) := gMod_natW (a := idx n g z + 1) (by omega)
    have hx := h.ix (y := (idx n g z + 1) % n) (Nat.mod_lt _ (by omega))
    have hadd : gAdd (.int ((idx n g z : Nat) : Int)) (.int 1) mm = some (.int ((idx n g z : Nat) + 1), mm) := rfl
    rw [e]
    unfold fElt
    have q1 : fOp gIx (fVar 2) (fOp gMod (fOp gAdd (fMeth gIndex (fVar 2) (fCons (fVar 6) fNil)) (fC (.int 1))) (fVar 1)) (vE l n q w a b (some (.int (z : Nat))) d) mm = some (.int ((g ((idx n g z + 1) % n) : Nat) : Int), mm) :=
      op_ev (v_var rfl) (op_ev (op_ev hix v_c hadd) (v_var rfl) hmod) hx
    simp only [fName, Option.bind_some, fYes, if_true, vE, List.set_cons_succ, List.set_cons_zero]
    simp only [vE] at q1
    rw [q1, Option.map_some, Int.toNat_natCast]
theorem seq_rt {f g : FS} {e : Sl} {m m1 : Mem} {d : D} (h : f e m = some (.rt d m1)) : fsSeq f g e m = some (.rt d m1) := by
  unfold fsSeq
  rw [h]; rfl
theorem ret_tup {l q n : Nat} {g : Nat → Nat} {mm : Mem} {e : Sl} (h : St l q n g mm) (he : e[2]? = some (some (.loc q))) : fsRet (fCall gTupOf (fCons (fVar 2) fNil)) e mm = some (.rt (mvD n g) mm) := by
  unfold fsRet fCall fCons fNil
  rw [v_var he]
  simp only [Option.bind_some, h.tup, Option.map_some]
theorem move_ev {m : Mem} {l n : Nat} (h1 : 1 ≤ n ∧ n ≤ 60) (hp : PoolAt l m) : ∃ f m', F_law_move [.loc l, .int (n : Nat)] m = some (mvD n f, m') ∧ IsM n f ∧ PoolAt l m' := by
  have hl : l < m.length := by
    obtain ⟨a, b, c, q, _⟩ := hp
    exact (List.getElem?_eq_some_iff.mp q).1
  have e : startE N_law_move [.loc l, .int (n : Nat)] = [some (.loc l), some (.int (n : Nat)), none, none, none, none, none, none] := rfl
  have hp0 : PoolAt l (m ++ [.lst (tab n fun y => .int (y : Nat))]) := by
    obtain ⟨a, b, c, q, q2⟩ := hp
    exact ⟨a, b, c, by rw [List.getElem?_append_left hl]; exact q, q2⟩
  obtain ⟨w, m1, t1, t2, t3, t4, t5⟩ := take_ev (k := 8) hp0 (by decide) (by decide)
  have hs : St l m.length n id m1 := by
    have h0 : St l m.length n id (m ++ [.lst (tab n fun y => .int (y : Nat))]) := ⟨hp0, get_off m _ 0, ⟨fun x hx => hx, fun x y _ _ q => q⟩, by omega⟩
    exact h0.still t4 t5
  have hz : (0 : Int) ≤ n ∧ (n : Int) ≤ 100000 := by omega
  have hA : fsAsg (fTup (fCons (fPut (fRg1 (fVar 1))) (fCons (fCall F_law_take (fCons (fVar 0) (fCons (fC (.int 8)) fNil))) fNil))) (fTupG 2 (fsCons (fName 2) (fsCons (fName 3) fsNil))) [some (.loc l), some (.int (n : Nat)), none, none, none, none, none, none] m = some (.nx (vE l n m.length w none none none none) m1) := by
    simp only [fsSeq, fsRet, fsRetN, fsIf, fsAsg, fsDrop, fsPar, fVar, fC, fCons, fNil, fCall, fOp, fUn, fOn, fTest, fTru, fNotT, fAndT, fOrT, fAnd, fOr, fNot, fIf, fChain, fName, fTupG, fsCons, fsNil, fPut, fLst, fTup, asB, asI, Option.bind_some, Option.map_some, Option.bind_none, Option.map_none, Option.join_some, List.getElem?_cons_zero, List.getElem?_cons_succ, fsNever, fsNext, fSeq, seqOf, fYes, fLCall, fPart, fNoPart, fSl, List.length_cons, List.length_nil, fIxN, fRange1, fRange2, fEnum, fDown, fLenSet, fRev, fTRg1, fRg1, hz, and_self, if_true, Int.toNat_natCast, tab_range, t1, Nat.reduceAdd, Nat.reduceLeDiff, List.set_cons_succ, List.set_cons_zero]
  by_cases c1 : w = 0 ∨ (n : Int) = 1
  · refine ⟨id, m1, Fof0_of (o := .rt (mvD n id) m1) rfl ?_ rfl, ⟨h1.1, h1.2, hs.p⟩, hs.pool⟩
    rw [e]
    unfold g_law_move
    refine seq_ev hA (seq_rt ?_)
    have hr := ret_tup (e := vE l n m.length w none none none none) hs rfl
    by_cases c0 : w = 0
    · unfold fsIf
      simp only [fOrT, fTest, fOp, fVar, fC, vE, List.getElem?_cons_zero, List.getElem?_cons_succ, Option.join_some, Option.map_some, Option.bind_some, gEq_int, c0, decide_true, asB, if_true]
      simp only [vE, c0] at hr
      exact hr
    · have c2 : (n : Int) = 1 := c1.resolve_left c0
      unfold fsIf
      simp only [fOrT, fTest, fOp, fVar, fC, vE, List.getElem?_cons_zero, List.getElem?_cons_succ, Option.join_some, Option.map_some, Option.bind_some, gEq_int, c0, decide_false, asB, Bool.false_eq_true, if_false, decide_eq_true c2, if_true]
      exact hr
  · have c0 : ¬ w = 0 := fun z => c1 (.inl z)
    have c2 : ¬ (n : Int) = 1 := fun z => c1 (.inr z)
    have hB : fsIf (fOrT (fTest (fOp gEqS (fVar 3) (fC (.int 0)))) (fTest (fOp gEqS (fVar 1) (fC (.int 1))))) (fsRet (fCall gTupOf (fCons (fVar 2) fNil))) fsNext (vE l n m.length w none none none none) m1 = some (.nx (vE l n m.length w none none none none) m1) := by
      simp only [fsSeq, fsRet, fsRetN, fsIf, fsAsg, fsDrop, fsPar, fVar, fC, fCons, fNil, fCall, fOp, fUn, fOn, fTest, fTru, fNotT, fAndT, fOrT, fAnd, fOr, fNot, fIf, fChain, fName, fTupG, fsCons, fsNil, fPut, fLst, fTup, asB, asI, Option.bind_some, Option.map_some, Option.bind_none, Option.map_none, Option.join_some, List.getElem?_cons_zero, List.getElem?_cons_succ, fsNever, fsNext, fSeq, seqOf, fYes, fLCall, fPart, fNoPart, fSl, List.length_cons, List.length_nil, fIxN, fRange1, fRange2, fEnum, fDown, fLenSet, fRev, fTRg1, fRg1, vE, gEq_int, c0, c2, decide_false, Bool.false_eq_true, if_false]
    by_cases c3 : w < 3
    · obtain ⟨v1, m2, u1, u2, u3, u4, u5⟩ := take_ev (k := (n : Nat)) hs.pool (by omega) (by omega)
      have hs2 := hs.still u4 u5
      obtain ⟨v2, m3, x1, x2, x3, x4, x5⟩ := take_ev (k := (n : Nat)) hs2.pool (by omega) (by omega)
      have hs3 := hs2.still x4 x5
      obtain ⟨a, rfl⟩ : ∃ u : Nat, v1 = (u : Nat) := ⟨v1.toNat, by omega⟩
      obtain ⟨b, rfl⟩ : ∃ u : Nat, v2 = (u : Nat) := ⟨v2.toNat, by omega⟩
      obtain ⟨m4, y1, y2⟩ := swap_ev (i := 4) (j := 5) (e := vE l n m.length w (some (.int (a : Nat))) (some (.int (b : Nat))) none none) hs3 rfl rfl rfl (show a < n by omega) (show b < n by omega)
      refine ⟨swp id a b, m4, Fof0_of (o := .rt (mvD n (swp id a b)) m4) rfl ?_ rfl, ⟨h1.1, h1.2, y2.p⟩, y2.pool⟩
      rw [e]
      unfold g_law_move
      refine seq_ev hA (seq_ev hB (seq_rt ?_))
      unfold fsIf
      have ht : fTest (fOp gLt (fVar 3) (fC (.int 3))) (vE l n m.length w none none none none) m1 = some (true, m1) := by
        simp only [fsSeq, fsRet, fsRetN, fsIf, fsAsg, fsDrop, fsPar, fVar, fC, fCons, fNil, fCall, fOp, fUn, fOn, fTest, fTru, fNotT, fAndT, fOrT, fAnd, fOr, fNot, fIf, fChain, fName, fTupG, fsCons, fsNil, fPut, fLst, fTup, asB, asI, Option.bind_some, Option.map_some, Option.bind_none, Option.map_none, Option.join_some, List.getElem?_cons_zero, List.getElem?_cons_succ, fsNever, fsNext, fSeq, seqOf, fYes, fLCall, fPart, fNoPart, fSl, List.length_cons, List.length_nil, fIxN, fRange1, fRange2, fEnum, fDown, fLenSet, fRev, fTRg1, fRg1, vE, gLt, gInt0, c3, decide_true]
      rw [ht, Option.bind_some, if_pos rfl]
      refine seq_ev (e1 := vE l n m.length w (some (.int (a : Nat))) (some (.int (b : Nat))) none none) (m1 := m3) ?_ (seq_ev y1 (ret_tup y2 rfl))
      simp only [fsSeq, fsRet, fsRetN, fsIf, fsAsg, fsDrop, fsPar, fVar, fC, fCons, fNil, fCall, fOp, fUn, fOn, fTest, fTru, fNotT, fAndT, fOrT, fAnd, fOr, fNot, fIf, fChain, fName, fTupG, fsCons, fsNil, fPut, fLst, fTup, asB, asI, Option.bind_some, Option.map_some, Option.bind_none, Option.map_none, Option.join_some, List.getElem?_cons_zero, List.getElem?_cons_succ, fsNever, fsNext, fSeq, seqOf, fYes, fLCall, fPart, fNoPart, fSl, List.length_cons, List.length_nil, fIxN, fRange1, fRange2, fEnum, fDown, fLenSet, fRev, fTRg1, fRg1, vE, u1, x1, List.set_cons_succ, List.set_cons_zero]
    · have hC : ∀ X, fsIf (fTest (fOp gLt (fVar 3) (fC (.int 3)))) X fsNext (vE l n m.length w none none none none) m1 = some (.nx (vE l n m.length w none none none none) m1) := fun X => by
        have ht : fTest (fOp gLt (fVar 3) (fC (.int 3))) (vE l n m.length w none none none none) m1 = some (false, m1) := by
          simp only [fsSeq, fsRet, fsRetN, fsIf, fsAsg, fsDrop, fsPar, fVar, fC, fCons, fNil, fCall, fOp, fUn, fOn, fTest, fTru, fNotT, fAndT, fOrT, fAnd, fOr, fNot, fIf, fChain, fName, fTupG, fsCons, fsNil, fPut, fLst, fTup, asB, asI, Option.bind_some, Option.map_some, Option.bind_none, Option.map_none, Option.join_some, List.getElem?_cons_zero, List.getElem?_cons_succ, fsNever, fsNext, fSeq, seqOf, fYes, fLCall, fPart, fNoPart, fSl, List.length_cons, List.length_nil, fIxN, fRange1, fRange2, fEnum, fDown, fLenSet, fRev, fTRg1, fRg1, vE, gLt, gInt0, c3, decide_false]
        unfold fsIf
        rw [ht]; rfl
      obtain ⟨g', m2, c, d, z1, z2⟩ := lp_move_ev (w := w) h1 hs
      by_cases c4 : w = 3
      · refine ⟨_, m2, Fof0_of (o := .rt (mvD n fun y => g' ((idx n g' y + 1) % n)) m2) rfl ?_ rfl, ⟨h1.1, h1.2, round_perm (by omega) z2.p⟩, z2.pool⟩
        rw [e]
        unfold g_law_move
        refine seq_ev hA (seq_ev hB (seq_ev (hC _) (seq_ev z1 (seq_rt ?_))))
        have ht : fTest (fOp gEqS (fVar 3) (fC (.int 3))) (vE l n m.length w none none c d) m2 = some (true, m2) := by
          simp only [fsSeq, fsRet, fsRetN, fsIf, fsAsg, fsDrop, fsPar, fVar, fC, fCons, fNil, fCall, fOp, fUn, fOn, fTest, fTru, fNotT, fAndT, fOrT, fAnd, fOr, fNot, fIf, fChain, fName, fTupG, fsCons, fsNil, fPut, fLst, fTup, asB, asI, Option.bind_some, Option.map_some, Option.bind_none, Option.map_none, Option.join_some, List.getElem?_cons_zero, List.getElem?_cons_succ, fsNever, fsNext, fSeq, seqOf, fYes, fLCall, fPart, fNoPart, fSl, List.length_cons, List.length_nil, fIxN, fRange1, fRange2, fEnum, fDown, fLenSet, fRev, fTRg1, fRg1, vE, gEq_int, c4, decide_true]
        unfold fsIf
        rw [ht, Option.bind_some, if_pos rfl]
        have hl := lc_move_ev (w := w) (a := none) (b := none) (c := c) (d := d) h1 z2
        unfold fsRet fOn
        rw [hl]; rfl
      · refine ⟨g', m2, Fof0_of (o := .rt (mvD n g') m2) rfl ?_ rfl, ⟨h1.1, h1.2, z2.p⟩, z2.pool⟩
        rw [e]
        unfold g_law_move
        refine seq_ev hA (seq_ev hB (seq_ev (hC _) (seq_ev z1 (seq_ev (e1 := vE l n m.length w none none c d) (m1 := m2) ?_ (ret_tup z2 rfl)))))
        have ht : fTest (fOp gEqS (fVar 3) (fC (.int 3))) (vE l n m.length w none none c d) m2 = some (false, m2) := by
          simp only [fsSeq, fsRet, fsRetN, fsIf, fsAsg, fsDrop, fsPar, fVar, fC, fCons, fNil, fCall, fOp, fUn, fOn, fTest, fTru, fNotT, fAndT, fOrT, fAnd, fOr, fNot, fIf, fChain, fName, fTupG, fsCons, fsNil, fPut, fLst, fTup, asB, asI, Option.bind_some, Option.map_some, Option.bind_none, Option.map_none, Option.join_some, List.getElem?_cons_zero, List.getElem?_cons_succ, fsNever, fsNext, fSeq, seqOf, fYes, fLCall, fPart, fNoPart, fSl, List.length_cons, List.length_nil, fIxN, fRange1, fRange2, fEnum, fDown, fLenSet, fRev, fTRg1, fRg1, vE, gEq_int, c4, decide_false]
        unfold fsIf
        rw [ht]; rfl
end k01

set_option Elab.async false
set_option linter.all false
set_option maxRecDepth 100000
set_option maxHeartbeats 1000000
namespace k01
open PySem PySem.Spec PyProof.Rows L2 Mv Cyc
noncomputable def F_rounds : GN := Fof N_rounds 1 (g_rounds F_check_move F_all_rounds)
def big (f : Nat → Nat) (n : Nat) : List (List Nat) := []
noncomputable def roundsL (f : Nat → Nat) (n : Nat) : List D := ((rows f n).filter fun r => decide (1 < r.length)).map rowD
theorem filt_rows (rs : List (List Nat)) (h : D → Option D) (hh : ∀ r, h (rowD r) = if 1 < r.length then some (rowD r) else none) : (rs.map rowD).filterMap h = (rs.filter fun r => decide (1 < r.length)).map rowD := by
  induction rs with
  | nil => rfl
  | cons r rs ih =>
    rw [List.map_cons, List.filterMap_cons, hh, List.filter_cons]
    by_cases q : 1 < r.length
    · rw [if_pos q]
      simp only [q, decide_true, if_true, List.map_cons, ih]
    · rw [if_neg q]
      simp only [q, decide_false, Bool.false_eq_true, if_false, ih]
def lenD : D → Nat
  | .tup xs => xs.length
  | _ => 0
theorem rounds_ev {m : Mem} {n : Nat} {f : Nat → Nat} (hf : IsM n f) : F_rounds [mvD n f] m = some (.tup (roundsL f n), m) := by
  have hi := hf.hi
  have hr := rows_len f n
  have hp : (D.tup (roundsL f n)).pure = true := by rw [D.pure]; exact pure_rows _
  refine Fof_pure (t := [.lst ((rows f n).map rowD)]) (o := .rt (.tup (roundsL f n)) (m ++ [.lst ((rows f n).map rowD)])) rfl ?_ rfl hp (Kept.ext m _)
  have e : startE N_rounds [mvD n f] = [some (mvD n f), none] := rfl
  rw [e]
  unfold g_rounds
  have h1 : lc_rounds_1 F_check_move F_all_rounds [some (mvD n f), none] m = some (roundsL f n, m ++ [.lst ((rows f n).map rowD)]) := by
    unfold lc_rounds_1
    rw [lc_evR (xs := (rows f n).map rowD) (l := m.length) (m := m ++ [.lst ((rows f n).map rowD)]) ?_ rd_last (by simp; omega) (fun d => if 1 < lenD d then some d else none) fun y hy => ?_]
    · unfold roundsL
      rw [filt_rows]
      intro r
      have : lenD (rowD r) = r.length := by show (rowL r).length = _; unfold rowL; rw [List.length_map]
      rw [this]
    · simp only [fsSeq, fsRet, fsRetN, fsIf, fsAsg, fsDrop, fsPar, fVar, fC, fCons, fNil, fCall, fOp, fUn, fOn, fTest, fTru, fNotT, fAndT, fOrT, fAnd, fOr, fNot, fIf, fChain, fName, fTupG, fsCons, fsNil, fPut, fLst, fTup, asB, asI, Option.bind_some, Option.map_some, Option.bind_none, Option.map_none, Option.join_some, List.getElem?_cons_zero, List.getElem?_cons_succ, fsNever, fsNext, fSeq, seqOf, fYes, fLCall, fPart, fNoPart, fSl, List.length_cons, List.length_nil, fIxN, fRange1, fRange2, fEnum, fDown, fLenSet, fRev, fTRg1, fRg1, all_rounds_ev hf]
      rw [rd_last]; rfl
    · obtain ⟨r, _, rfl⟩ := List.mem_map.mp hy
      have : lenD (rowD r) = r.length := by show (rowL r).length = _; unfold rowL; rw [List.length_map]
      have e : wipeE [some (mvD n f), none] [1] = [some (mvD n f), none] := rfl
      rw [e, this]
      unfold fElt
      simp only [fsSeq, fsRet, fsRetN, fsIf, fsAsg, fsDrop, fsPar, fVar, fC, fCons, fNil, fCall, fOp, fUn, fOn, fTest, fTru, fNotT, fAndT, fOrT, fAnd, fOr, fNot, fIf, fChain, fName, fTupG, fsCons, fsNil, fPut, fLst, fTup, asB, asI, Option.bind_some, Option.map_some, Option.bind_none, Option.map_none, Option.join_some, List.getElem?_cons_zero, List.getElem?_cons_succ, fsNever, fsNext, fSeq, seqOf, fYes, fLCall, fPart, fNoPart, fSl, List.length_cons, List.length_nil, fIxN, fRange1, fRange2, fEnum, fDown, fLenSet, fRev, fTRg1, fRg1, List.set_cons_succ, List.set_cons_zero, gLen_row, gGt, gInt0]
      by_cases q : 1 < r.length
      · have q' : (1 : Int) < (r.length : Nat) := by omega
        simp only [q, q', decide_true, if_true]
      · have q' : ¬ (1 : Int) < (r.length : Nat) := by omega
        simp only [q, q', decide_false, Bool.false_eq_true, if_false]
  simp only [fsSeq, fsRet, fsRetN, fsIf, fsAsg, fsDrop, fsPar, fVar, fC, fCons, fNil, fCall, fOp, fUn, fOn, fTest, fTru, fNotT, fAndT, fOrT, fAnd, fOr, fNot, fIf, fChain, fName, fTupG, fsCons, fsNil, fPut, fLst, fTup, asB, asI, Option.bind_some, Option.map_some, Option.bind_none, Option.map_none, Option.join_some, List.getElem?_cons_zero, List.getElem?_cons_succ, fsNever, fsNext, fSeq, seqOf, fYes, fLCall, fPart, fNoPart, fSl, List.length_cons, List.length_nil, fIxN, fRange1, fRange2, fEnum, fDown, fLenSet, fRev, fTRg1, fRg1, check_move_ev hf, h1, gTupN]
noncomputable def F_sign : GN := Fof N_sign 1 (g_sign F_check_move F_all_rounds)
noncomputable def signV (f : Nat → Nat) (n : Nat) : Int := if ((n : Int) - ((rows f n).length : Nat)) % 2 = 0 then 1 else -1
theorem sign_ev {m : Mem} {n : Nat} {f : Nat → Nat} (hf : IsM n f) : F_sign [mvD n f] m = some (.int (signV f n), m) := by
  refine Fof_pure (t := [.lst ((rows f n).map rowD)]) (o := .rt (.int (signV f n)) (m ++ [.lst ((rows f n).map rowD)])) rfl ?_ rfl rfl (Kept.ext m _)
  have e : startE N_sign [mvD n f] = [some (mvD n f)] := rfl
  rw [e]
  unfold g_sign
  have l2 : gLen [.loc m.length] (m ++ [.lst ((rows f n).map rowD)]) = some (.int ((rows f n).length : Nat), m ++ [.lst ((rows f n).map rowD)]) := by
    show (rd _ _).map _ = _
    rw [rd_last, Option.map_some, List.length_map]
  simp only [fsSeq, fsRet, fsRetN, fsIf, fsAsg, fsDrop, fsPar, fVar, fC, fCons, fNil, fCall, fOp, fUn, fOn, fTest, fTru, fNotT, fAndT, fOrT, fAnd, fOr, fNot, fIf, fChain, fName, fTupG, fsCons, fsNil, fPut, fLst, fTup, asB, asI, Option.bind_some, Option.map_some, Option.bind_none, Option.map_none, Option.join_some, List.getElem?_cons_zero, List.getElem?_cons_succ, fsNever, fsNext, fSeq, seqOf, fYes, fLCall, fPart, fNoPart, fSl, List.length_cons, List.length_nil, fIxN, fRange1, fRange2, fEnum, fDown, fLenSet, fRev, fTRg1, fRg1, check_move_ev hf, gLen_mv, all_rounds_ev hf, l2, Mv.gSub, gInt0, gMod, gInt, decide_true, if_true, tru, show (0:Int) < 2 from by decide]
  unfold signV
  by_cases q : ((n : Int) - ((rows f n).length : Nat)) % 2 = 0
  · rw [if_pos q, q]; rfl
  · rw [if_neg q]
    have : (((n : Int) - ((rows f n).length : Nat)) % 2 != 0) = true := by simpa using q
    simp only [this, if_true, gNeg, Option.map_some]
noncomputable def F_turns : GN := Fof N_turns 1 (g_turns F_check_move F_all_rounds)
def lcms (a : Nat) : List (List Nat) → Nat
  | [] => a
  | r :: rs => lcms (Nat.lcm a r.length) rs
theorem len_pow (k : Nat) : k ≤ 2 ^ k := Nat.le_of_lt Nat.lt_two_pow_self
theorem flat_len_le : ∀ (rs : List (List Nat)) (r : List Nat), (r :: rs).flatten.length = r.length + rs.flatten.length := fun rs r => by
  rw [List.flatten_cons, List.length_append]
theorem lcm_bound {a s l : Nat} (h : a ≤ 2 ^ s) : Nat.lcm a l ≤ 2 ^ (s + l) := by
  have h1 : Nat.lcm a l ≤ a * l := Nat.div_le_self _ _
  refine Nat.le_trans h1 ?_
  rw [Nat.pow_add]
  exact Nat.mul_le_mul h (len_pow l)
theorem lp_turns_ev {m : Mem} {n : Nat} {f : Nat → Nat} (hf : IsM n f) : ∃ a b, lp_turns_1 F_check_move F_all_rounds [some (mvD n f), some (.int 1), none] m = some (.nx [some (mvD n f), some (.int ((lcms 1 (rows f n) : Nat) : Int)), b] (m ++ [.lst ((rows f n).map rowD)])) ∧ a = b := by
  have hi := hf.hi
  have hall := hf.p.rows_all
  unfold lp_turns_1
  have h := for_evL (fi := fSeq (fCall F_all_rounds (fCons (fVar 0) fNil))) (ft := fName 2) (g := lb_turns_1 F_check_move F_all_rounds) (e := [some (mvD n f), some (.int 1), none]) (m0 := m) (m := m ++ [.lst ((rows f n).map rowD)]) (s := ⟨(rows f n).map rowD, some m.length⟩) ?_
    (fun xs e mm => ∃ (rs : List (List Nat)) (a s : Nat) (b : Option D), xs = rs.map rowD ∧ e = [some (mvD n f), some (.int (a : Nat)), b] ∧ mm = m ++ [.lst ((rows f n).map rowD)] ∧ lcms a rs = lcms 1 (rows f n) ∧ a ≤ 2 ^ s ∧ s + rs.flatten.length ≤ 60)
    (fun o => ∃ b, o = .nx [some (mvD n f), some (.int ((lcms 1 (rows f n) : Nat) : Int)), b] (m ++ [.lst ((rows f n).map rowD)]))
    ?_ ⟨rows f n, 1, 0, none, rfl, rfl, rfl, rfl, by decide, by omega⟩ ?_ ?_
  · obtain ⟨o, h1, b, rfl⟩ := h
    exact ⟨b, b, h1, rfl⟩
  · simp only [fsSeq, fsRet, fsRetN, fsIf, fsAsg, fsDrop, fsPar, fVar, fC, fCons, fNil, fCall, fOp, fUn, fOn, fTest, fTru, fNotT, fAndT, fOrT, fAnd, fOr, fNot, fIf, fChain, fName, fTupG, fsCons, fsNil, fPut, fLst, fTup, asB, asI, Option.bind_some, Option.map_some, Option.bind_none, Option.map_none, Option.join_some, List.getElem?_cons_zero, List.getElem?_cons_succ, fsNever, fsNext, fSeq, seqOf, fYes, fLCall, fPart, fNoPart, fSl, List.length_cons, List.length_nil, fIxN, fRange1, fRange2, fEnum, fDown, fLenSet, fRev, fTRg1, fRg1, all_rounds_ev hf]
    rw [rd_last]; rfl
  · rintro xs e mm ⟨rs, a, s, b, rfl, rfl, rfl, _⟩
    exact rd_last
  · rintro x xs e mm ⟨rs, a, s, b, hx, rfl, rfl, h3, h4, h5⟩
    cases rs with
    | nil => cases hx
    | cons r rs =>
      cases hx
      rw [flat_len_le] at h5
      have h60 : (2 : Nat) ^ 60 < 2 ^ 64 := by decide
      have ha : a < 2 ^ 64 := Nat.lt_of_le_of_lt (Nat.le_trans h4 (Nat.pow_le_pow_right (by decide) (by omega))) h60
      have hr : r.length < 2 ^ 64 := by omega
      refine ⟨.nx [some (mvD n f), some (.int ((Nat.lcm a r.length : Nat) : Int)), some (rowD r)] (m ++ [.lst ((rows f n).map rowD)]), ?_, rs, Nat.lcm a r.length, s + r.length, some (rowD r), rfl, rfl, rfl, h3, lcm_bound h4, by omega⟩
      have hg : ∀ mm, gLcm [.int (a : Nat), .int (r.length : Nat)] mm = some (.int ((Nat.lcm a r.length : Nat) : Int), mm) := fun mm => by
        unfold gLcm
        simp only [Int.natAbs_natCast]
        rw [if_pos ⟨ha, hr⟩]
      unfold lb_turns_1
      simp only [fsSeq, fsRet, fsRetN, fsIf, fsAsg, fsDrop, fsPar, fVar, fC, fCons, fNil, fCall, fOp, fUn, fOn, fTest, fTru, fNotT, fAndT, fOrT, fAnd, fOr, fNot, fIf, fChain, fName, fTupG, fsCons, fsNil, fPut, fLst, fTup, asB, asI, Option.bind_some, Option.map_some, Option.bind_none, Option.map_none, Option.join_some, List.getElem?_cons_zero, List.getElem?_cons_succ, fsNever, fsNext, fSeq, seqOf, fYes, fLCall, fPart, fNoPart, fSl, List.length_cons, List.length_nil, fIxN, fRange1, fRange2, fEnum, fDown, fLenSet, fRev, fTRg1, fRg1, List.set_cons_succ, List.set_cons_zero, gLen_row, hg]
  · rintro e mm ⟨rs, a, s, b, hx, rfl, rfl, h3, h4, h5⟩
    cases rs with
    | cons r rs => cases hx
    | nil =>
      have h3' : a = lcms 1 (rows f n) := h3
      exact ⟨b, by rw [h3']⟩
theorem turns_ev' {m : Mem} {n : Nat} {f : Nat → Nat} (hf : IsM n f) : F_turns [mvD n f] m = some (.int ((lcms 1 (rows f n) : Nat) : Int), m) := by
  obtain ⟨a, b, h, _⟩ := lp_turns_ev (m := m) hf
  refine Fof_pure (t := [.lst ((rows f n).map rowD)]) (o := .rt (.int ((lcms 1 (rows f n) : Nat) : Int)) (m ++ [.lst ((rows f n).map rowD)])) rfl ?_ rfl rfl (Kept.ext m _)
  have e : startE N_turns [mvD n f] = [some (mvD n f), none, none] := rfl
  rw [e]
  unfold g_turns
  simp only [fsSeq, fsRet, fsRetN, fsIf, fsAsg, fsDrop, fsPar, fVar, fC, fCons, fNil, fCall, fOp, fUn, fOn, fTest, fTru, fNotT, fAndT, fOrT, fAnd, fOr, fNot, fIf, fChain, fName, fTupG, fsCons, fsNil, fPut, fLst, fTup, asB, asI, Option.bind_some, Option.map_some, Option.bind_none, Option.map_none, Option.join_some, List.getElem?_cons_zero, List.getElem?_cons_succ, fsNever, fsNext, fSeq, seqOf, fYes, fLCall, fPart, fNoPart, fSl, List.length_cons, List.length_nil, fIxN, fRange1, fRange2, fEnum, fDown, fLenSet, fRev, fTRg1, fRg1, check_move_ev hf, List.set_cons_succ, List.set_cons_zero, h]
end k01

set_option Elab.async false
set_option linter.all false
set_option maxRecDepth 100000
set_option maxHeartbeats 1000000
namespace k01
open PySem PySem.Spec PyProof.Rows L2 Mv Cyc
noncomputable def F_law_then : GN := Fof N_law_then 2 g_law_then
theorem law_then_ev {m : Mem} {n : Nat} {f g : Nat → Nat} (hf : IsM n f) (hg : IsM n g) : F_law_then [mvD n f, mvD n g] m = some (mvD n fun y => g (f y), m) := by
  refine Fof_pure (t := []) (o := .rt (mvD n fun y => g (f y)) m) rfl ?_ (by rw [List.append_nil]; rfl) (pure_mvD _ _) (Kept.ext m [])
  have e : startE N_law_then [mvD n f, mvD n g] = [some (mvD n f), some (mvD n g), none] := rfl
  rw [e]
  unfold g_law_then
  have hl : lc_law_then_1 [some (mvD n f), some (mvD n g), none] m = some (tab n fun y => .int (g (f y) : Nat), m) := lc_then_ev hf hg
  simp only [fsSeq, fsRet, fsRetN, fsIf, fsAsg, fsDrop, fsPar, fVar, fC, fCons, fNil, fCall, fOp, fUn, fOn, fTest, fTru, fNotT, fAndT, fOrT, fAnd, fOr, fNot, fIf, fChain, fName, fTupG, fsCons, fsNil, fPut, fLst, fTup, asB, asI, Option.bind_some, Option.map_some, Option.bind_none, Option.map_none, Option.join_some, List.getElem?_cons_zero, List.getElem?_cons_succ, fsNever, fsNext, fSeq, seqOf, fYes, fLCall, fPart, fNoPart, fSl, List.length_cons, List.length_nil, fIxN, fRange1, fRange2, fEnum, fDown, fLenSet, fRev, fTRg1, fRg1, hl, gTupN]
  rfl
noncomputable def F_law_undo : GN := Fof N_law_undo 1 g_law_undo
theorem law_undo_ev {m : Mem} {n : Nat} {f : Nat → Nat} (hf : IsM n f) : F_law_undo [mvD n f] m = some (mvD n (invF f n), m) := by
  have hi := hf.hi
  have h := for_evL (fi := fRange1 (fCall gLen (fCons (fVar 0) fNil))) (ft := fName 2) (g := lb_law_undo_1) (e := [some (mvD n f), some (.loc (m.length + 1)), none]) (m0 := m ++ [.lst [.int 0], .lst (tab n fun _ => .int 0)])
    (m := m ++ [.lst [.int 0], .lst (tab n fun _ => .int 0)]) (s := ⟨tab n fun y => .int (y : Nat), none⟩) ?_
    (fun xs e mm => ∃ k a, k ≤ n ∧ xs = (tab n fun y => .int (y : Nat)).drop k ∧ e = [some (mvD n f), some (.loc (m.length + 1)), a] ∧ mm = m ++ [.lst [.int 0], .lst (tab n fun y => .int (invF f k y : Nat))])
    (fun o => ∃ a, o = .nx [some (mvD n f), some (.loc (m.length + 1)), a] (m ++ [.lst [.int 0], .lst (tab n fun y => .int (invF f n y : Nat))]))
    (fun _ _ _ _ => trivial) ⟨0, none, Nat.zero_le _, rfl, rfl, rfl⟩ ?_ ?_
  · obtain ⟨o, h1, a, rfl⟩ := h
    refine Fof_pure (t := [.lst [.int 0], .lst (tab n fun y => .int (invF f n y : Nat))]) (o := .rt (mvD n (invF f n)) (m ++ [.lst [.int 0], .lst (tab n fun y => .int (invF f n y : Nat))])) rfl ?_ rfl (pure_mvD _ _) (Kept.ext m _)
    have e : startE N_law_undo [mvD n f] = [some (mvD n f), none, none] := rfl
    rw [e]
    unfold g_law_undo
    have r1 : gMul (.loc m.length) (.int n) (m ++ [.lst [.int 0]]) = some (.loc (m.length + 1), m ++ [.lst [.int 0], .lst (tab n fun _ => .int 0)]) := rep_ev (by omega)
    have h2 : lp_law_undo_1 [some (mvD n f), some (.loc (m.length + 1)), none] (m ++ [.lst [.int 0], .lst (tab n fun _ => .int 0)]) = _ := h1
    simp only [fsSeq, fsRet, fsRetN, fsIf, fsAsg, fsDrop, fsPar, fVar, fC, fCons, fNil, fCall, fOp, fUn, fOn, fTest, fTru, fNotT, fAndT, fOrT, fAnd, fOr, fNot, fIf, fChain, fName, fTupG, fsCons, fsNil, fPut, fLst, fTup, asB, asI, Option.bind_some, Option.map_some, Option.bind_none, Option.map_none, Option.join_some, List.getElem?_cons_zero, List.getElem?_cons_succ, fsNever, fsNext, fSeq, seqOf, fYes, fLCall, fPart, fNoPart, fSl, List.length_cons, List.length_nil, fIxN, fRange1, fRange2, fEnum, fDown, fLenSet, fRev, fTRg1, fRg1, gLen_mv, r1, List.set_cons_succ, List.set_cons_zero, h2, Nat.zero_le, Nat.reduceLeDiff, if_true, Nat.reduceAdd]
    have r2 : gTupOf [.loc (m.length + 1)] (m ++ [.lst [.int 0], .lst (tab n fun y => .int (invF f n y : Nat))]) = some (mvD n (invF f n), _) := tupOf_ev (rd_off (i := 1) rfl)
    rw [r2]
    rfl
  · have h2 : (-100000 : Int) ≤ n ∧ (n : Int) ≤ 100000 := by omega
    simp only [fsSeq, fsRet, fsRetN, fsIf, fsAsg, fsDrop, fsPar, fVar, fC, fCons, fNil, fCall, fOp, fUn, fOn, fTest, fTru, fNotT, fAndT, fOrT, fAnd, fOr, fNot, fIf, fChain, fName, fTupG, fsCons, fsNil, fPut, fLst, fTup, asB, asI, Option.bind_some, Option.map_some, Option.bind_none, Option.map_none, Option.join_some, List.getElem?_cons_zero, List.getElem?_cons_succ, fsNever, fsNext, fSeq, seqOf, fYes, fLCall, fPart, fNoPart, fSl, List.length_cons, List.length_nil, fIxN, fRange1, fRange2, fEnum, fDown, fLenSet, fRev, fTRg1, fRg1, gLen_mv, h2, and_self, if_true, Int.toNat_natCast, tab_range]
  · rintro x xs e mm ⟨k, a, hk, hx, rfl, rfl⟩
    by_cases hkn : k < n
    · rw [tab_drop hkn] at hx
      cases hx
      refine ⟨.nx [some (mvD n f), some (.loc (m.length + 1)), some (.int (k : Nat))] (m ++ [.lst [.int 0], .lst (tab n fun y => .int (invF f (k + 1) y : Nat))]), ?_, k + 1, _, hkn, rfl, rfl, rfl⟩
      unfold lb_law_undo_1
      simp only [fsSeq, fsRet, fsRetN, fsIf, fsAsg, fsDrop, fsPar, fVar, fC, fCons, fNil, fCall, fOp, fUn, fOn, fTest, fTru, fNotT, fAndT, fOrT, fAnd, fOr, fNot, fIf, fChain, fName, fTupG, fsCons, fsNil, fPut, fLst, fTup, asB, asI, Option.bind_some, Option.map_some, Option.bind_none, Option.map_none, Option.join_some, List.getElem?_cons_zero, List.getElem?_cons_succ, fsNever, fsNext, fSeq, seqOf, fYes, fLCall, fPart, fNoPart, fSl, List.length_cons, List.length_nil, fIxN, fRange1, fRange2, fEnum, fDown, fLenSet, fRev, fTRg1, fRg1, List.set_cons_succ, List.set_cons_zero]
      rw [fSub_off (i := 1) (y := f k) rfl (by simp only [fsSeq, fsRet, fsRetN, fsIf, fsAsg, fsDrop, fsPar, fVar, fC, fCons, fNil, fCall, fOp, fUn, fOn, fTest, fTru, fNotT, fAndT, fOrT, fAnd, fOr, fNot, fIf, fChain, fName, fTupG, fsCons, fsNil, fPut, fLst, fTup, asB, asI, Option.bind_some, Option.map_some, Option.bind_none, Option.map_none, Option.join_some, List.getElem?_cons_zero, List.getElem?_cons_succ, fsNever, fsNext, fSeq, seqOf, fYes, fLCall, fPart, fNoPart, fSl, List.length_cons, List.length_nil, fIxN, fRange1, fRange2, fEnum, fDown, fLenSet, fRev, fTRg1, fRg1, gIx_mv hkn]) rfl (hf.p.lt k hkn)]
      simp only [Option.map_some, List.set_cons_succ, List.set_cons_zero]
      have e5 : (tab n fun z => if z = f k then D.int (k : Nat) else D.int (invF f k z : Nat)) = tab n fun y => .int (invF f (k + 1) y : Nat) := tab_congr fun y _ => by
        show _ = D.int (if y = f k then k else invF f k y : Nat)
        split <;> rfl
      rw [e5]
    · have : (tab n fun y => D.int (y : Nat)).drop k = [] := List.drop_eq_nil_of_le (by rw [tab_len]; omega)
      rw [this] at hx; cases hx
  · rintro e mm ⟨k, a, hk, hx, rfl, rfl⟩
    have : k = n := by
      have := congrArg List.length hx
      rw [List.length_drop, tab_len] at this
      simp at this; omega
    subst this
    exact ⟨a, rfl⟩
theorem set_at (m t : Mem) (c d : Cell) : (m ++ (c :: t)).set m.length d = m ++ (d :: t) := set_off m (c :: t) 0 d
/-! ### rounds, by the law -/
noncomputable def F_law_round_from : GN := Fof N_law_round_from 2 g_law_round_from
theorem rowL_succ (f : Nat → Nat) (k i : Nat) : rowL ((List.range (i + 1)).map fun j => it f j k) = rowL ((List.range i).map fun j => it f j k) ++ [.int (it f i k : Nat)] := by
  rw [List.range_succ, List.map_append, ← rowL_snoc]; rfl
theorem pure_rowL (r : List Nat) : D.pureAll (rowL r) = true := by
  have := pure_rowD r
  unfold rowD at this
  rw [D.pure] at this
  exact this
theorem round_from_ev {m : Mem} {n k : Nat} {f : Nat → Nat} (hf : IsM n f) (hk : k < n) : F_law_round_from [mvD n f, .int (k : Nat)] m = some (.loc m.length, m ++ [.lst (rowL (orb f k))]) := by
  have hi := hf.hi
  obtain ⟨p1, p2, p3, p4⟩ := hf.p.per_spec hk
  have h := wh_ev0 (t := wt_law_round_from_1) (g := wb_law_round_from_1)
    (fun j e mm => ∃ i, i < per f k ∧ j = per f k - 1 - i ∧ e = [some (mvD n f), some (.int (k : Nat)), some (.loc m.length)] ∧ mm = m ++ [.lst (rowL ((List.range (i + 1)).map fun j => it f j k))])
    (fun o => o = .nx [some (mvD n f), some (.int (k : Nat)), some (.loc m.length)] (m ++ [.lst (rowL (orb f k))])) ?_ fuel (per f k - 1) [some (mvD n f), some (.int (k : Nat)), some (.loc m.length)] (m ++ [.lst [.int (k : Nat)]]) (by show per f k - 1 < 100; omega) ⟨0, p1, by omega, rfl, rfl⟩
  · obtain ⟨o, h1, rfl⟩ := h
    refine Fof_lst (m1 := m) (t := [.lst (rowL (orb f k))]) (o := .rt (.loc m.length) (m ++ [.lst (rowL (orb f k))])) (k := m.length) rfl ?_ rfl (Nat.le_refl _) (get_off m _ 0) (pure_rowL _) (Kept.ext m _)
    have e : startE N_law_round_from [mvD n f, .int (k : Nat)] = [some (mvD n f), some (.int (k : Nat)), none] := rfl
    rw [e]
    unfold g_law_round_from
    simp only [fsSeq, fsRet, fsRetN, fsIf, fsAsg, fsDrop, fsPar, fVar, fC, fCons, fNil, fCall, fOp, fUn, fOn, fTest, fTru, fNotT, fAndT, fOrT, fAnd, fOr, fNot, fIf, fChain, fName, fTupG, fsCons, fsNil, fPut, fLst, fTup, asB, asI, Option.bind_some, Option.map_some, Option.bind_none, Option.map_none, Option.join_some, List.getElem?_cons_zero, List.getElem?_cons_succ, fsNever, fsNext, fSeq, seqOf, fYes, fLCall, fPart, fNoPart, fSl, List.length_cons, List.length_nil, fIxN, fRange1, fRange2, fEnum, fDown, fLenSet, fRev, fTRg1, fRg1, List.set_cons_succ, List.set_cons_zero, Nat.zero_le, Nat.reduceLeDiff, if_true, Nat.reduceAdd, h1]
  · rintro j e mm ⟨i, hi1, rfl, rfl, rfl⟩
    have hit : it f i k < n := hf.p.it_lt hk i
    have hl : ∀ (X : Mem), X = m ++ [.lst (rowL ((List.range (i + 1)).map fun j => it f j k))] → gIx (.loc m.length) (.int (-1)) X = some (.int (it f i k : Nat), X) := fun X hX => by
      show (rd X m.length).bind _ = _
      rw [hX, rd_last, Option.bind_some, rowL_succ, atI_last]; rfl
    have hg : ∀ (X : Mem), gIx (mvD n f) (.int (it f i k : Nat)) X = some (.int (it f (i + 1) k : Nat), X) := fun X => gIx_mv hit
    by_cases hlt : i + 1 < per f k
    · right
      have hne : ¬ ((it f (i + 1) k : Nat) : Int) = (k : Nat) := fun z => p3 (i + 1) (by omega) hlt (by omega)
      refine ⟨?_, by omega, .nx [some (mvD n f), some (.int (k : Nat)), some (.loc m.length)] (m ++ [.lst (rowL ((List.range (i + 1 + 1)).map fun j => it f j k))]), ?_, i + 1, hlt, by omega, rfl, rfl⟩
      · unfold wt_law_round_from_1
        simp only [fsSeq, fsRet, fsRetN, fsIf, fsAsg, fsDrop, fsPar, fVar, fC, fCons, fNil, fCall, fOp, fUn, fOn, fTest, fTru, fNotT, fAndT, fOrT, fAnd, fOr, fNot, fIf, fChain, fName, fTupG, fsCons, fsNil, fPut, fLst, fTup, asB, asI, Option.bind_some, Option.map_some, Option.bind_none, Option.map_none, Option.join_some, List.getElem?_cons_zero, List.getElem?_cons_succ, fsNever, fsNext, fSeq, seqOf, fYes, fLCall, fPart, fNoPart, fSl, List.length_cons, List.length_nil, fIxN, fRange1, fRange2, fEnum, fDown, fLenSet, fRev, fTRg1, fRg1, gNeg, hl _ rfl, hg, gNe_int, hne, decide_false, Bool.not_false]
      · unfold wb_law_round_from_1
        simp only [fsSeq, fsRet, fsRetN, fsIf, fsAsg, fsDrop, fsPar, fVar, fC, fCons, fNil, fCall, fOp, fUn, fOn, fTest, fTru, fNotT, fAndT, fOrT, fAnd, fOr, fNot, fIf, fChain, fName, fTupG, fsCons, fsNil, fPut, fLst, fTup, asB, asI, Option.bind_some, Option.map_some, Option.bind_none, Option.map_none, Option.join_some, List.getElem?_cons_zero, List.getElem?_cons_succ, fsNever, fsNext, fSeq, seqOf, fYes, fLCall, fPart, fNoPart, fSl, List.length_cons, List.length_nil, fIxN, fRange1, fRange2, fEnum, fDown, fLenSet, fRev, fTRg1, fRg1]
        rw [app_ev (l := m.length) (xs := rowL ((List.range (i + 1)).map fun j => it f j k)) (d := .int (it f (i + 1) k : Nat)) rfl (by simp only [fsSeq, fsRet, fsRetN, fsIf, fsAsg, fsDrop, fsPar, fVar, fC, fCons, fNil, fCall, fOp, fUn, fOn, fTest, fTru, fNotT, fAndT, fOrT, fAnd, fOr, fNot, fIf, fChain, fName, fTupG, fsCons, fsNil, fPut, fLst, fTup, asB, asI, Option.bind_some, Option.map_some, Option.bind_none, Option.map_none, Option.join_some, List.getElem?_cons_zero, List.getElem?_cons_succ, fsNever, fsNext, fSeq, seqOf, fYes, fLCall, fPart, fNoPart, fSl, List.length_cons, List.length_nil, fIxN, fRange1, fRange2, fEnum, fDown, fLenSet, fRev, fTRg1, fRg1, gNeg, hl _ rfl, hg]) (get_off m _ 0) (by simp [rowL]; omega), rowL_succ f k (i + 1)]
        rw [set_at]; rfl
    · left
      have hip : i + 1 = per f k := by omega
      have hne : ((it f (i + 1) k : Nat) : Int) = (k : Nat) := by rw [hip, p2]
      refine ⟨?_, ?_⟩
      · unfold wt_law_round_from_1
        simp only [fsSeq, fsRet, fsRetN, fsIf, fsAsg, fsDrop, fsPar, fVar, fC, fCons, fNil, fCall, fOp, fUn, fOn, fTest, fTru, fNotT, fAndT, fOrT, fAnd, fOr, fNot, fIf, fChain, fName, fTupG, fsCons, fsNil, fPut, fLst, fTup, asB, asI, Option.bind_some, Option.map_some, Option.bind_none, Option.map_none, Option.join_some, List.getElem?_cons_zero, List.getElem?_cons_succ, fsNever, fsNext, fSeq, seqOf, fYes, fLCall, fPart, fNoPart, fSl, List.length_cons, List.length_nil, fIxN, fRange1, fRange2, fEnum, fDown, fLenSet, fRev, fTRg1, fRg1, gNeg, hl _ rfl, hg, gNe_int, hne, decide_true, Bool.not_true]
      · rw [hip]; rfl
noncomputable def F_law_all_rounds : GN := Fof N_law_all_rounds 1 (g_law_all_rounds F_law_round_from)
abbrev nI (r : List Nat) : List Int := r.map fun (y : Nat) => (y : Int)
theorem asIs_rowL (r : List Nat) : asIs (rowL r) = some (nI r) := by
  have e : rowL r = (nI r).map D.int := by unfold rowL; rw [List.map_map]; rfl
  rw [e, asIs_map]
theorem min_cov {n k : Nat} {f : Nat → Nat} (h : Perm n f) (hk : k < n) : minL (nI (orb f k)) = (k : Nat) ↔ ¬ cov f k k := by
  have hself : ((k : Nat) : Int) ∈ nI (orb f k) := List.mem_map.mpr ⟨k, h.orb_self hk, rfl⟩
  rw [h.cov_iff hk]
  constructor
  · rintro e ⟨y, h1, h2⟩
    have h9 : ((y : Nat) : Int) ∈ nI (orb f k) := List.mem_map.mpr ⟨y, h1, rfl⟩
    have h8 : minL (nI (orb f k)) ≤ (y : Nat) := minL_le h9
    omega
  · intro hn
    have hm := minL_mem (l := nI (orb f k)) (by intro z; rw [z] at hself; cases hself)
    obtain ⟨y, h1, h2⟩ := List.mem_map.mp hm
    have h3 : minL (nI (orb f k)) ≤ (k : Nat) := minL_le hself
    have h4 : ¬ y < k := fun z => hn ⟨y, h1, z⟩
    have h5 : ((y : Nat) : Int) = minL (nI (orb f k)) := h2
    omega
theorem law_all_rounds_ev {m : Mem} {n : Nat} {f : Nat → Nat} (hf : IsM n f) : F_law_all_rounds [mvD n f] m = some (.loc m.length, m ++ [.lst ((rows f n).map rowD)]) := by
  have hi := hf.hi
  have h := for_evL (fi := fRange1 (fCall gLen (fCons (fVar 0) fNil))) (ft := fName 2) (g := lb_law_all_rounds_1 F_law_round_from) (e := [some (mvD n f), some (.loc m.length), none, none])
    (m0 := m ++ [.lst []]) (m := m ++ [.lst []]) (s := ⟨tab n fun y => .int (y : Nat), none⟩) ?_
    (fun xs e mm => ∃ k a b t, k ≤ n ∧ xs = (tab n fun y => .int (y : Nat)).drop k ∧ e = [some (mvD n f), some (.loc m.length), a, b] ∧ mm = m ++ (.lst ((rows f k).map rowD) :: t))
    (fun o => ∃ a b t, o = .nx [some (mvD n f), some (.loc m.length), a, b] (m ++ (.lst ((rows f n).map rowD) :: t)))
    (fun _ _ _ _ => trivial) ⟨0, none, none, [], Nat.zero_le _, rfl, rfl, rfl⟩ ?_ ?_
  · obtain ⟨o, h1, a, b, t, rfl⟩ := h
    refine Fof_lst (m1 := m) (t := .lst ((rows f n).map rowD) :: t) (o := .rt (.loc m.length) (m ++ (.lst ((rows f n).map rowD) :: t))) (k := m.length) rfl ?_ rfl (Nat.le_refl _) (get_off m _ 0) (pure_rows _) (Kept.ext m _)
    have e : startE N_law_all_rounds [mvD n f] = [some (mvD n f), none, none, none] := rfl
    rw [e]
    unfold g_law_all_rounds
    have h2 : lp_law_all_rounds_1 F_law_round_from [some (mvD n f), some (.loc m.length), none, none] (m ++ [.lst []]) = _ := h1
    simp only [fsSeq, fsAsg, lnil, fName, Option.bind_some, Option.map_some, List.set_cons_succ, List.set_cons_zero, h2]
    rfl
  · have h2 : (-100000 : Int) ≤ n ∧ (n : Int) ≤ 100000 := by omega
    simp only [fsSeq, fsRet, fsRetN, fsIf, fsAsg, fsDrop, fsPar, fVar, fC, fCons, fNil, fCall, fOp, fUn, fOn, fTest, fTru, fNotT, fAndT, fOrT, fAnd, fOr, fNot, fIf, fChain, fName, fTupG, fsCons, fsNil, fPut, fLst, fTup, asB, asI, Option.bind_some, Option.map_some, Option.bind_none, Option.map_none, Option.join_some, List.getElem?_cons_zero, List.getElem?_cons_succ, fsNever, fsNext, fSeq, seqOf, fYes, fLCall, fPart, fNoPart, fSl, List.length_cons, List.length_nil, fIxN, fRange1, fRange2, fEnum, fDown, fLenSet, fRev, fTRg1, fRg1, gLen_mv, h2, and_self, if_true, Int.toNat_natCast, tab_range]
  · rintro x xs e mm ⟨k, a, b, t, hk, hx, rfl, rfl⟩
    by_cases hkn : k < n
    · rw [tab_drop hkn] at hx
      cases hx
      have hrf := round_from_ev (m := m ++ (.lst ((rows f k).map rowD) :: t)) hf hkn
      rw [List.append_assoc] at hrf
      have hlen : (m ++ (.lst ((rows f k).map rowD) :: t)).length = m.length + (1 + t.length) := by simp; omega
      have hget : (m ++ ((Cell.lst ((rows f k).map rowD) :: t) ++ [Cell.lst (rowL (orb f k))]))[m.length + (1 + t.length)]? = some (.lst (rowL (orb f k))) := by
        rw [get_off, Nat.add_comm 1]
        show (t ++ [Cell.lst (rowL (orb f k))])[t.length]? = _
        rw [List.getElem?_append_right (Nat.le_refl _), Nat.sub_self]; rfl
      have hne : nI (orb f k) ≠ [] := fun z => by
        have h9 : ((k : Nat) : Int) ∈ nI (orb f k) := List.mem_map.mpr ⟨k, hf.p.orb_self hkn, rfl⟩
        rw [z] at h9; cases h9
      have hmin : gMinL [.loc (m.length + (1 + t.length))] (m ++ ((Cell.lst ((rows f k).map rowD) :: t) ++ [Cell.lst (rowL (orb f k))])) = some (.int (minL (nI (orb f k))), m ++ ((Cell.lst ((rows f k).map rowD) :: t) ++ [Cell.lst (rowL (orb f k))])) := by
        unfold gMinL
        simp only [rd_of hget, Option.bind_some, asIs_rowL, hne, if_false]
      have hr := rows_len f k
      by_cases hc : cov f k k
      · have hq : ¬ minL (nI (orb f k)) = (k : Nat) := fun z => (min_cov hf.p hkn).mp z hc
        refine ⟨.nx [some (mvD n f), some (.loc m.length), some (.int (k : Nat)), some (.loc (m.length + (1 + t.length)))] (m ++ (Cell.lst ((rows f (k + 1)).map rowD) :: (t ++ [Cell.lst (rowL (orb f k))]))), ?_, k + 1, _, _, _, hkn, rfl, rfl, rfl⟩
        unfold lb_law_all_rounds_1
        simp only [fsSeq, fsRet, fsRetN, fsIf, fsAsg, fsDrop, fsPar, fVar, fC, fCons, fNil, fCall, fOp, fUn, fOn, fTest, fTru, fNotT, fAndT, fOrT, fAnd, fOr, fNot, fIf, fChain, fName, fTupG, fsCons, fsNil, fPut, fLst, fTup, asB, asI, Option.bind_some, Option.map_some, Option.bind_none, Option.map_none, Option.join_some, List.getElem?_cons_zero, List.getElem?_cons_succ, fsNever, fsNext, fSeq, seqOf, fYes, fLCall, fPart, fNoPart, fSl, List.length_cons, List.length_nil, fIxN, fRange1, fRange2, fEnum, fDown, fLenSet, fRev, fTRg1, fRg1, List.set_cons_succ, List.set_cons_zero, hrf, hlen, hmin, gEq_int, hq, decide_false, Bool.false_eq_true, if_false]
        rw [rows_cov hc]; rfl
      · have hq : minL (nI (orb f k)) = (k : Nat) := (min_cov hf.p hkn).mpr hc
        refine ⟨.nx [some (mvD n f), some (.loc m.length), some (.int (k : Nat)), some (.loc (m.length + (1 + t.length)))] (m ++ (Cell.lst ((rows f (k + 1)).map rowD) :: (t ++ [Cell.lst (rowL (orb f k))]))), ?_, k + 1, _, _, _, hkn, rfl, rfl, rfl⟩
        unfold lb_law_all_rounds_1
        simp only [fsSeq, fsRet, fsRetN, fsIf, fsAsg, fsDrop, fsPar, fVar, fC, fCons, fNil, fCall, fOp, fUn, fOn, fTest, fTru, fNotT, fAndT, fOrT, fAnd, fOr, fNot, fIf, fChain, fName, fTupG, fsCons, fsNil, fPut, fLst, fTup, asB, asI, Option.bind_some, Option.map_some, Option.bind_none, Option.map_none, Option.join_some, List.getElem?_cons_zero, List.getElem?_cons_succ, fsNever, fsNext, fSeq, seqOf, fYes, fLCall, fPart, fNoPart, fSl, List.length_cons, List.length_nil, fIxN, fRange1, fRange2, fEnum, fDown, fLenSet, fRev, fTRg1, fRg1, List.set_cons_succ, List.set_cons_zero, hrf, hlen, hmin, gEq_int, hq, decide_true, if_true]
        have ht : gTupOf [.loc (m.length + (1 + t.length))] (m ++ ((Cell.lst ((rows f k).map rowD) :: t) ++ [Cell.lst (rowL (orb f k))])) = some (rowD (orb f k), _) := tupOf_ev (rd_of hget)
        rw [app_ev (l := m.length) (xs := (rows f k).map rowD) (d := rowD (orb f k)) rfl (by simp only [fsSeq, fsRet, fsRetN, fsIf, fsAsg, fsDrop, fsPar, fVar, fC, fCons, fNil, fCall, fOp, fUn, fOn, fTest, fTru, fNotT, fAndT, fOrT, fAnd, fOr, fNot, fIf, fChain, fName, fTupG, fsCons, fsNil, fPut, fLst, fTup, asB, asI, Option.bind_some, Option.map_some, Option.bind_none, Option.map_none, Option.join_some, List.getElem?_cons_zero, List.getElem?_cons_succ, fsNever, fsNext, fSeq, seqOf, fYes, fLCall, fPart, fNoPart, fSl, List.length_cons, List.length_nil, fIxN, fRange1, fRange2, fEnum, fDown, fLenSet, fRev, fTRg1, fRg1]; exact ht) (get_off m _ 0) (by simp; omega), rows_new hc, List.map_append]
        rw [List.cons_append, set_at]; rfl
    · have : (tab n fun y => D.int (y : Nat)).drop k = [] := List.drop_eq_nil_of_le (by rw [tab_len]; omega)
      rw [this] at hx; cases hx
  · rintro e mm ⟨k, a, b, t, hk, hx, rfl, rfl⟩
    have : k = n := by
      have := congrArg List.length hx
      rw [List.length_drop, tab_len] at this
      simp at this; omega
    subst this
    exact ⟨a, b, t, rfl⟩
end k01

set_option Elab.async false
set_option linter.all false
set_option maxRecDepth 100000
set_option maxHeartbeats 1000000
namespace k01
open PySem PySem.Spec PyProof.Rows L2 Mv Cyc
theorem range_ev {m : Mem} {n : Nat} {f : Nat → Nat} {e : Sl} (hn : n ≤ 60) (h : e[0]? = some (some (mvD n f))) : fRange1 (fCall gLen (fCons (fVar 0) fNil)) e m = some (⟨tab n fun y => .int (y : Nat), none⟩, m) := by
  have h2 : (-100000 : Int) ≤ n ∧ (n : Int) ≤ 100000 := by omega
  simp only [fsSeq, fsRet, fsRetN, fsIf, fsAsg, fsDrop, fsPar, fVar, fC, fCons, fNil, fCall, fOp, fUn, fOn, fTest, fTru, fNotT, fAndT, fOrT, fAnd, fOr, fNot, fIf, fChain, fName, fTupG, fsCons, fsNil, fPut, fLst, fTup, asB, asI, Option.bind_some, Option.map_some, Option.bind_none, Option.map_none, Option.join_some, List.getElem?_cons_zero, List.getElem?_cons_succ, fsNever, fsNext, fSeq, seqOf, fYes, fLCall, fPart, fNoPart, fSl, List.length_cons, List.length_nil, fIxN, fRange1, fRange2, fEnum, fDown, fLenSet, fRev, fTRg1, fRg1, h, gLen_mv, h2, and_self, if_true, Int.toNat_natCast, tab_range]
theorem drop_nil {n k : Nat} {g : Nat → D} (h : ¬ k < n) : (tab n g).drop k = [] := List.drop_eq_nil_of_le (by rw [tab_len]; omega)
theorem drop_end {n k : Nat} {g : Nat → D} (hk : k ≤ n) (h : [] = (tab n g).drop k) : k = n := by
  have := congrArg List.length h
  rw [List.length_drop, tab_len] at this
  simp at this; omega
theorem tab_succ (k : Nat) (g : Nat → D) : tab (k + 1) g = tab k g ++ [g k] := by
  unfold tab
  rw [List.range_succ, List.map_append]; rfl
noncomputable def F_law_raised_due : GN := Fof N_law_raised_due 2 (g_law_raised_due F_law_round_from)
theorem raised_due_ev {m : Mem} {n : Nat} {f : Nat → Nat} {u : Int} (hf : IsM n f) : F_law_raised_due [mvD n f, .int u] m = some (mvD n (raisF f u), m) := by
  have hi := hf.hi
  have h := for_evL (fi := fRange1 (fCall gLen (fCons (fVar 0) fNil))) (ft := fName 3) (g := lb_law_raised_due_1 F_law_round_from) (e := [some (mvD n f), some (.int u), some (.loc m.length), none, none])
    (m0 := m ++ [.lst []]) (m := m ++ [.lst []]) (s := ⟨tab n fun y => .int (y : Nat), none⟩) (range_ev hi rfl)
    (fun xs e mm => ∃ k a b t, k ≤ n ∧ xs = (tab n fun y => .int (y : Nat)).drop k ∧ e = [some (mvD n f), some (.int u), some (.loc m.length), a, b] ∧ mm = m ++ (.lst (tab k fun y => .int (raisF f u y : Nat)) :: t))
    (fun o => ∃ a b t, o = .nx [some (mvD n f), some (.int u), some (.loc m.length), a, b] (m ++ (.lst (tab n fun y => .int (raisF f u y : Nat)) :: t)))
    (fun _ _ _ _ => trivial) ⟨0, none, none, [], Nat.zero_le _, rfl, rfl, rfl⟩ ?_ ?_
  · obtain ⟨o, h1, a, b, t, rfl⟩ := h
    refine Fof_pure (t := .lst (tab n fun y => .int (raisF f u y : Nat)) :: t) (o := .rt (mvD n (raisF f u)) (m ++ (.lst (tab n fun y => .int (raisF f u y : Nat)) :: t))) rfl ?_ rfl (pure_mvD _ _) (Kept.ext m _)
    have e : startE N_law_raised_due [mvD n f, .int u] = [some (mvD n f), some (.int u), none, none, none] := rfl
    rw [e]
    unfold g_law_raised_due
    have h2 : lp_law_raised_due_1 F_law_round_from [some (mvD n f), some (.int u), some (.loc m.length), none, none] (m ++ [.lst []]) = _ := h1
    have r2 : gTupOf [.loc m.length] (m ++ (.lst (tab n fun y => .int (raisF f u y : Nat)) :: t)) = some (mvD n (raisF f u), _) := tupOf_ev (rd_off (i := 0) (L := .lst (tab n fun y => .int (raisF f u y : Nat)) :: t) rfl)
    simp only [fsSeq, fsAsg, lnil, fName, Option.bind_some, Option.map_some, List.set_cons_succ, List.set_cons_zero, h2]
    simp only [fsSeq, fsRet, fsRetN, fsIf, fsAsg, fsDrop, fsPar, fVar, fC, fCons, fNil, fCall, fOp, fUn, fOn, fTest, fTru, fNotT, fAndT, fOrT, fAnd, fOr, fNot, fIf, fChain, fName, fTupG, fsCons, fsNil, fPut, fLst, fTup, asB, asI, Option.bind_some, Option.map_some, Option.bind_none, Option.map_none, Option.join_some, List.getElem?_cons_zero, List.getElem?_cons_succ, fsNever, fsNext, fSeq, seqOf, fYes, fLCall, fPart, fNoPart, fSl, List.length_cons, List.length_nil, fIxN, fRange1, fRange2, fEnum, fDown, fLenSet, fRev, fTRg1, fRg1]
    rw [r2]
    rfl
  · rintro x xs e mm ⟨k, a, b, t, hk, hx, rfl, rfl⟩
    by_cases hkn : k < n
    · rw [tab_drop hkn] at hx
      cases hx
      obtain ⟨p1, p2, p3, p4⟩ := hf.p.per_spec hkn
      have hrf := round_from_ev (m := m ++ (.lst (tab k fun y => .int (raisF f u y : Nat)) :: t)) hf hkn
      rw [List.append_assoc] at hrf
      have hlen : (m ++ (Cell.lst (tab k fun y => .int (raisF f u y : Nat)) :: t)).length = m.length + (1 + t.length) := by simp; omega
      have hget : (m ++ ((Cell.lst (tab k fun y => .int (raisF f u y : Nat)) :: t) ++ [Cell.lst (rowL (orb f k))]))[m.length + (1 + t.length)]? = some (.lst (rowL (orb f k))) := by
        rw [get_off, Nat.add_comm 1]
        show (t ++ [Cell.lst (rowL (orb f k))])[t.length]? = _
        rw [List.getElem?_append_right (Nat.le_refl _), Nat.sub_self]; rfl
      have hL : (0 : Int) < (per f k : Nat) := by omega
      have hz0 := Int.emod_nonneg u (b := (per f k : Nat)) (by omega)
      have hz1 := Int.emod_lt_of_pos u hL
      have hlr : (rowL (orb f k)).length = per f k := by unfold rowL; rw [List.length_map, orb_len]
      have hl : gLen [.loc (m.length + (1 + t.length))] (m ++ ((Cell.lst (tab k fun y => .int (raisF f u y : Nat)) :: t) ++ [Cell.lst (rowL (orb f k))])) = some (.int (per f k : Nat), m ++ ((Cell.lst (tab k fun y => .int (raisF f u y : Nat)) :: t) ++ [Cell.lst (rowL (orb f k))])) := by
        show (rd _ _).map _ = _
        rw [rd_of hget, Option.map_some, hlr]
      have hix : gIx (.loc (m.length + (1 + t.length))) (.int (u % (per f k : Nat))) (m ++ ((Cell.lst (tab k fun y => .int (raisF f u y : Nat)) :: t) ++ [Cell.lst (rowL (orb f k))])) = some (.int (raisF f u k : Nat), m ++ ((Cell.lst (tab k fun y => .int (raisF f u y : Nat)) :: t) ++ [Cell.lst (rowL (orb f k))])) := by
        have e1 : (u % (per f k : Nat)) = (((u % (per f k : Nat)).toNat : Nat) : Int) := by omega
        have q : (rowL (orb f k))[(u % (per f k : Nat)).toNat]? = some (.int (raisF f u k : Nat)) := by
          unfold rowL
          rw [List.getElem?_map, hf.p.orb_get hkn (by omega)]; rfl
        show (rd _ _).bind _ = _
        rw [rd_of hget, Option.bind_some, e1, atI_nat q]; rfl
      refine ⟨.nx [some (mvD n f), some (.int u), some (.loc m.length), some (.int (k : Nat)), some (.loc (m.length + (1 + t.length)))] (m ++ (Cell.lst (tab (k + 1) fun y => .int (raisF f u y : Nat)) :: (t ++ [Cell.lst (rowL (orb f k))]))), ?_, k + 1, _, _, _, hkn, rfl, rfl, rfl⟩
      unfold lb_law_raised_due_1
      simp only [fsSeq, fsRet, fsRetN, fsIf, fsAsg, fsDrop, fsPar, fVar, fC, fCons, fNil, fCall, fOp, fUn, fOn, fTest, fTru, fNotT, fAndT, fOrT, fAnd, fOr, fNot, fIf, fChain, fName, fTupG, fsCons, fsNil, fPut, fLst, fTup, asB, asI, Option.bind_some, Option.map_some, Option.bind_none, Option.map_none, Option.join_some, List.getElem?_cons_zero, List.getElem?_cons_succ, fsNever, fsNext, fSeq, seqOf, fYes, fLCall, fPart, fNoPart, fSl, List.length_cons, List.length_nil, fIxN, fRange1, fRange2, fEnum, fDown, fLenSet, fRev, fTRg1, fRg1, List.set_cons_succ, List.set_cons_zero, hrf, hlen]
      rw [app_ev (l := m.length) (xs := tab k fun y => .int (raisF f u y : Nat)) (d := .int (raisF f u k : Nat)) rfl (by simp only [fsSeq, fsRet, fsRetN, fsIf, fsAsg, fsDrop, fsPar, fVar, fC, fCons, fNil, fCall, fOp, fUn, fOn, fTest, fTru, fNotT, fAndT, fOrT, fAnd, fOr, fNot, fIf, fChain, fName, fTupG, fsCons, fsNil, fPut, fLst, fTup, asB, asI, Option.bind_some, Option.map_some, Option.bind_none, Option.map_none, Option.join_some, List.getElem?_cons_zero, List.getElem?_cons_succ, fsNever, fsNext, fSeq, seqOf, fYes, fLCall, fPart, fNoPart, fSl, List.length_cons, List.length_nil, fIxN, fRange1, fRange2, fEnum, fDown, fLenSet, fRev, fTRg1, fRg1, hl, gMod, gInt, hL, decide_true, if_true, hix]) (get_off m _ 0) (by rw [tab_len]; omega), tab_succ]
      rw [List.cons_append, set_at]; rfl
    · rw [drop_nil hkn] at hx; cases hx
  · rintro e mm ⟨k, a, b, t, hk, hx, rfl, rfl⟩
    have := drop_end hk hx
    subst this
    exact ⟨a, b, t, rfl⟩
/-! ### the sign, by swaps -/
def par (i : Nat) (s : Int) : Int := if i % 2 = 0 then s else 0 - s
theorem par_succ (i : Nat) (s : Int) : par (i + 1) s = 0 - par i s := by
  unfold par
  by_cases h : i % 2 = 0
  · rw [if_pos h, if_neg (by omega)]
  · rw [if_neg h, if_pos (by omega)]; omega
open Classical in
noncomputable def sg (f : Nat → Nat) : Nat → Int
  | 0 => 1
  | k + 1 => if cov f k k then sg f k else par (per f k - 1) (sg f k)
theorem sg_cov {f : Nat → Nat} {k : Nat} (h : cov f k k) : sg f (k + 1) = sg f k := if_pos h
theorem sg_new {f : Nat → Nat} {k : Nat} (h : ¬ cov f k k) : sg f (k + 1) = par (per f k - 1) (sg f k) := if_neg h
theorem sg_par {n : Nat} {f : Nat → Nat} (h : Perm n f) : ∀ k, k ≤ n → (rows f k).length ≤ (rows f k).flatten.length ∧ sg f k = par ((rows f k).flatten.length - (rows f k).length) 1
  | 0, _ => ⟨Nat.le_refl _, rfl⟩
  | k + 1, hk => by
    obtain ⟨h1, h2⟩ := sg_par h k (by omega)
    by_cases hc : cov f k k
    · rw [rows_cov hc, sg_cov hc]
      exact ⟨h1, h2⟩
    · have p1 := (h.per_spec (show k < n by omega)).1
      rw [rows_new hc, sg_new hc, h2, List.flatten_append, List.length_append, List.length_append]
      simp only [List.flatten_cons, List.flatten_nil, List.append_nil, orb_len, List.length_cons, List.length_nil]
      refine ⟨by omega, ?_⟩
      unfold par
      have e : (rows f k).flatten.length + per f k - ((rows f k).length + (0 + 1)) = ((rows f k).flatten.length - (rows f k).length) + (per f k - 1) := by omega
      rw [e]
      generalize (rows f k).flatten.length - (rows f k).length = a
      generalize per f k - 1 = b
      by_cases ha : a % 2 = 0
      · by_cases hb : b % 2 = 0
        · rw [if_pos hb, if_pos ha, if_pos (by omega)]
        · rw [if_neg hb, if_pos ha, if_neg (by omega)]
      · by_cases hb : b % 2 = 0
        · rw [if_pos hb, if_neg ha, if_neg (by omega)]
        · rw [if_neg hb, if_neg ha, if_pos (by omega)]; rfl
theorem sg_sign {n : Nat} {f : Nat → Nat} (h : Perm n f) : sg f n = signV f n := by
  obtain ⟨h1, h2⟩ := sg_par h n (Nat.le_refl _)
  have h3 := h.rows_all
  rw [h2]
  unfold signV par
  rw [h3] at h1 ⊢
  by_cases q : (n - (rows f n).length) % 2 = 0
  · rw [if_pos q, if_pos (by omega)]
  · rw [if_neg q, if_neg (by omega)]; rfl
/-- the list of the law's swaps, i of them within k's round -/
noncomputable def swG (f : Nat → Nat) (k i y : Nat) : Nat := @ite _ (cov f k y) (Classical.propDecidable _) y (if y = k then it f (i + 1) k else @ite _ (∃ j, 1 ≤ j ∧ j ≤ i ∧ it f j k = y) (Classical.propDecidable _) y (f y))
theorem swG_cov {f : Nat → Nat} {k i y : Nat} (h : cov f k y) : swG f k i y = y := @if_pos _ (Classical.propDecidable _) h _ _ _
theorem swG_k {f : Nat → Nat} {k i : Nat} (h : ¬ cov f k k) : swG f k i k = it f (i + 1) k := by
  unfold swG
  rw [@if_neg _ (Classical.propDecidable _) h, if_pos rfl]
theorem swG_in {f : Nat → Nat} {k i y : Nat} (h : ¬ cov f k y) (hy : y ≠ k) (hj : ∃ j, 1 ≤ j ∧ j ≤ i ∧ it f j k = y) : swG f k i y = y := by
  unfold swG
  rw [@if_neg _ (Classical.propDecidable _) h, if_neg hy, @if_pos _ (Classical.propDecidable _) hj]
theorem swG_out {f : Nat → Nat} {k i y : Nat} (h : ¬ cov f k y) (hy : y ≠ k) (hj : ¬ ∃ j, 1 ≤ j ∧ j ≤ i ∧ it f j k = y) : swG f k i y = f y := by
  unfold swG
  rw [@if_neg _ (Classical.propDecidable _) h, if_neg hy, @if_neg _ (Classical.propDecidable _) hj]
noncomputable def swD (f : Nat → Nat) (k y : Nat) : Nat := @ite _ (cov f k y) (Classical.propDecidable _) y (f y)
theorem swD_t {f : Nat → Nat} {k y : Nat} (h : cov f k y) : swD f k y = y := @if_pos _ (Classical.propDecidable _) h _ _ _
theorem swD_f {f : Nat → Nat} {k y : Nat} (h : ¬ cov f k y) : swD f k y = f y := @if_neg _ (Classical.propDecidable _) h _ _ _
theorem swG_0 {f : Nat → Nat} {k y : Nat} (hk : ¬ cov f k k) : swG f k 0 y = swD f k y := by
  by_cases h : cov f k y
  · rw [swG_cov h, swD_t h]
  · rw [swD_f h]
    by_cases e : y = k
    · subst e; rw [swG_k h]; rfl
    · rw [swG_out h e (fun ⟨j, h1, h2, _⟩ => by omega)]
theorem swG_end {n : Nat} {f : Nat → Nat} (h : Perm n f) {k y : Nat} (hkn : k < n) (hk : ¬ cov f k k) : swG f k (per f k - 1) y = swD f (k + 1) y := by
  obtain ⟨p1, p2, p3, p4⟩ := h.per_spec hkn
  by_cases hc : cov f k y
  · rw [swG_cov hc, swD_t ((cov_succ f k y).mpr (.inl hc))]
  · by_cases e : y = k
    · subst e
      rw [swG_k hc, Nat.sub_add_cancel p1, p2, swD_t ((cov_succ f y y).mpr (.inr (h.orb_self hkn)))]
    · by_cases hj : ∃ j, 1 ≤ j ∧ j ≤ per f k - 1 ∧ it f j k = y
      · rw [swG_in hc e hj]
        obtain ⟨j, h1, h2, h3⟩ := hj
        rw [swD_t ((cov_succ f k y).mpr (.inr ((h.mem_orb hkn).mpr ⟨j, h3⟩)))]
      · rw [swG_out hc e hj, swD_f]
        intro q
        rcases (cov_succ f k y).mp q with q | q
        · exact hc q
        · unfold orb at q
          obtain ⟨j, q1, q2⟩ := List.mem_map.mp q
          have q1 := List.mem_range.mp q1
          have q2 : it f j k = y := q2
          refine hj ⟨j, ?_, by omega, q2⟩
          cases j with
          | zero => exact absurd q2.symm e
          | succ j => omega
theorem swG_step {n : Nat} {f : Nat → Nat} (h : Perm n f) {k i : Nat} (hkn : k < n) (hk : ¬ cov f k k) (hi : i + 1 < per f k) (z : Nat) :
    (if z = it f (i + 1) k then it f (i + 1) k else if z = k then it f (i + 2) k else swG f k i z) = swG f k (i + 1) z := by
  have hg : ¬ cov f k (it f (i + 1) k) := h.cov_orb hkn hk _ ((h.mem_orb hkn).mpr ⟨i + 1, rfl⟩)
  have hne : it f (i + 1) k ≠ k := (h.per_spec hkn).2.2.1 (i + 1) (by omega) hi
  by_cases e1 : z = it f (i + 1) k
  · rw [if_pos e1, e1, swG_in hg hne ⟨i + 1, by omega, by omega, rfl⟩]
  · rw [if_neg e1]
    by_cases e2 : z = k
    · rw [if_pos e2, e2, swG_k hk]
    · rw [if_neg e2]
      by_cases hc : cov f k z
      · rw [swG_cov hc, swG_cov hc]
      · by_cases hj : ∃ j, 1 ≤ j ∧ j ≤ i ∧ it f j k = z
        · obtain ⟨j, h1, h2, h3⟩ := hj
          rw [swG_in hc e2 ⟨j, h1, h2, h3⟩, swG_in hc e2 ⟨j, h1, by omega, h3⟩]
        · rw [swG_out hc e2 hj, swG_out hc e2]
          rintro ⟨j, h1, h2, h3⟩
          have : j ≠ i + 1 := fun q => e1 (by rw [← h3, q])
          exact hj ⟨j, h1, by omega, h3⟩
theorem swG_goal {n : Nat} {f : Nat → Nat} (h : Perm n f) {k i : Nat} (hkn : k < n) (hk : ¬ cov f k k) (hi : i + 1 < per f k) : swG f k i (it f (i + 1) k) = it f (i + 2) k := by
  have hg : ¬ cov f k (it f (i + 1) k) := h.cov_orb hkn hk _ ((h.mem_orb hkn).mpr ⟨i + 1, rfl⟩)
  have hne : it f (i + 1) k ≠ k := (h.per_spec hkn).2.2.1 (i + 1) (by omega) hi
  rw [swG_out hg hne]
  · rfl
  · rintro ⟨j, h1, h2, h3⟩
    exact h.it_ne hkn (by omega) hi h3
abbrev sE (m : Mem) (n : Nat) (f : Nat → Nat) (s : Int) (a b : Option D) : Sl := [some (mvD n f), some (.loc m.length), some (.int s), a, b]
noncomputable abbrev sM (m : Mem) (n : Nat) (g : Nat → Nat) : Mem := m ++ [.lst (tab n fun y => .int (g y : Nat))]
theorem gIx_s {m : Mem} {n y : Nat} {g : Nat → Nat} (hy : y < n) : gIx (.loc m.length) (.int (y : Nat)) (sM m n g) = some (.int (g y : Nat), sM m n g) := gIx_off (i := 0) (g := fun y => D.int (g y : Nat)) rfl hy
theorem fSub_s {fo fi : FE} {e : Sl} {m : Mem} {n y v : Nat} {g : Nat → Nat} (h1 : fo e (sM m n g) = some (.loc m.length, sM m n g)) (h2 : fi e (sM m n g) = some (.int (y : Nat), sM m n g)) (hy : y < n) :
    fSub fo fi (.int (v : Nat)) e (sM m n g) = some (e, sM m n fun z => if z = y then v else g z) := by
  rw [fSub_off (m := m) (i := 0) (n := n) (y := y) (g := fun y => D.int (g y : Nat)) (d := .int (v : Nat)) h1 h2 rfl hy]
  have e5 : (tab n fun z => if z = y then D.int (v : Nat) else D.int (g z : Nat)) = tab n fun z => .int ((if z = y then v else g z : Nat) : Int) := tab_congr fun z _ => by split <;> rfl
  simp only [List.set_cons_zero]
  rw [e5]
theorem sM_c {m : Mem} {n : Nat} {g h : Nat → Nat} (q : ∀ y, y < n → g y = h y) : sM m n g = sM m n h := by
  unfold sM
  rw [tab_congr (g := fun y => D.int (g y : Nat)) (h := fun y => D.int (h y : Nat)) fun y hy => by rw [q y hy]]
noncomputable def F_law_sign_due : GN := Fof N_law_sign_due 1 g_law_sign_due
theorem lb_sign_ev {m : Mem} {n k : Nat} {f : Nat → Nat} {a b : Option D} (hf : IsM n f) (hk : k < n) : ∃ b', ((fName 3 (.int (k : Nat)) (sE m n f (sg f k) a b) (sM m n (swD f k))).bind fun q => lb_law_sign_due_1 q.1 q.2) = some (.nx (sE m n f (sg f (k + 1)) (some (.int (k : Nat))) b') (sM m n (swD f (k + 1)))) := by
  have hi := hf.hi
  obtain ⟨p1, p2, p3, p4⟩ := hf.p.per_spec hk
  by_cases hc : cov f k k
  · have hq : swD f k k = k := swD_t hc
    refine ⟨b, ?_⟩
    have e1 : sM m n (swD f (k + 1)) = sM m n (swD f k) := sM_c fun y _ => by
      by_cases q : cov f k y
      · rw [swD_t q, swD_t ((hf.p.cov_same hk hc y).mpr q)]
      · rw [swD_f q, swD_f (fun z => q ((hf.p.cov_same hk hc y).mp z))]
    rw [sg_cov hc, e1]
    show wh _ _ (99 + 1) (sE m n f (sg f k) (some (.int (k : Nat))) b) (sM m n (swD f k)) = _
    unfold wh
    have ht : wt_law_sign_due_1 (sE m n f (sg f k) (some (.int (k : Nat))) b) (sM m n (swD f k)) = some (false, sM m n (swD f k)) := by
      unfold wt_law_sign_due_1
      simp only [fsSeq, fsRet, fsRetN, fsIf, fsAsg, fsDrop, fsPar, fVar, fC, fCons, fNil, fCall, fOp, fUn, fOn, fTest, fTru, fNotT, fAndT, fOrT, fAnd, fOr, fNot, fIf, fChain, fName, fTupG, fsCons, fsNil, fPut, fLst, fTup, asB, asI, Option.bind_some, Option.map_some, Option.bind_none, Option.map_none, Option.join_some, List.getElem?_cons_zero, List.getElem?_cons_succ, fsNever, fsNext, fSeq, seqOf, fYes, fLCall, fPart, fNoPart, fSl, List.length_cons, List.length_nil, fIxN, fRange1, fRange2, fEnum, fDown, fLenSet, fRev, fTRg1, fRg1, sE, gIx_s hk, hq, gNe_int, decide_true, Bool.not_true]
    rw [ht]; rfl
  · have h := wh_ev0 (t := wt_law_sign_due_1) (g := wb_law_sign_due_1)
      (fun j e mm => ∃ i b, i < per f k ∧ j = per f k - 1 - i ∧ e = sE m n f (par i (sg f k)) (some (.int (k : Nat))) b ∧ mm = sM m n (swG f k i))
      (fun o => ∃ b, o = .nx (sE m n f (sg f (k + 1)) (some (.int (k : Nat))) b) (sM m n (swD f (k + 1)))) ?_ fuel (per f k - 1) (sE m n f (sg f k) (some (.int (k : Nat))) b) (sM m n (swD f k)) (by show per f k - 1 < 100; omega) ⟨0, b, p1, by omega, rfl, sM_c fun y _ => (swG_0 hc).symm⟩
    · obtain ⟨o, h1, b', rfl⟩ := h
      exact ⟨b', h1⟩
    · rintro j e mm ⟨i, b, hi1, rfl, rfl, rfl⟩
      have hg : swG f k i k = it f (i + 1) k := swG_k hc
      by_cases hlt : i + 1 < per f k
      · right
        have hne : ¬ ((it f (i + 1) k : Nat) : Int) = (k : Nat) := fun z => p3 (i + 1) (by omega) hlt (by omega)
        have hgl : it f (i + 1) k < n := hf.p.it_lt hk _
        have hgo := swG_goal hf.p hk hc hlt
        refine ⟨?_, by omega, .nx (sE m n f (par (i + 1) (sg f k)) (some (.int (k : Nat))) (some (.int (it f (i + 1) k : Nat)))) (sM m n (swG f k (i + 1))), ?_, i + 1, _, hlt, by omega, rfl, rfl⟩
        · unfold wt_law_sign_due_1
          simp only [fsSeq, fsRet, fsRetN, fsIf, fsAsg, fsDrop, fsPar, fVar, fC, fCons, fNil, fCall, fOp, fUn, fOn, fTest, fTru, fNotT, fAndT, fOrT, fAnd, fOr, fNot, fIf, fChain, fName, fTupG, fsCons, fsNil, fPut, fLst, fTup, asB, asI, Option.bind_some, Option.map_some, Option.bind_none, Option.map_none, Option.join_some, List.getElem?_cons_zero, List.getElem?_cons_succ, fsNever, fsNext, fSeq, seqOf, fYes, fLCall, fPart, fNoPart, fSl, List.length_cons, List.length_nil, fIxN, fRange1, fRange2, fEnum, fDown, fLenSet, fRev, fTRg1, fRg1, sE, gIx_s hk, hg, gNe_int, hne, decide_false, Bool.not_false]
        · unfold wb_law_sign_due_1
          simp only [fsSeq, fsRet, fsRetN, fsIf, fsAsg, fsDrop, fsPar, fVar, fC, fCons, fNil, fCall, fOp, fUn, fOn, fTest, fTru, fNotT, fAndT, fOrT, fAnd, fOr, fNot, fIf, fChain, fName, fTupG, fsCons, fsNil, fPut, fLst, fTup, asB, asI, Option.bind_some, Option.map_some, Option.bind_none, Option.map_none, Option.join_some, List.getElem?_cons_zero, List.getElem?_cons_succ, fsNever, fsNext, fSeq, seqOf, fYes, fLCall, fPart, fNoPart, fSl, List.length_cons, List.length_nil, fIxN, fRange1, fRange2, fEnum, fDown, fLenSet, fRev, fTRg1, fRg1, sE, gIx_s hk, hg, List.set_cons_succ, List.set_cons_zero, gIx_s hgl, hgo, Nat.zero_le, Nat.reduceLeDiff, if_true, Nat.reduceAdd]
          rw [fSub_s rfl rfl hk]
          simp only [Option.bind_some]
          rw [fSub_s (n := n) rfl rfl hgl]
          simp only [Option.map_some, Option.bind_some, Mv.gSub, gInt0, List.set_cons_succ, List.set_cons_zero, List.getElem?_cons_succ, List.getElem?_cons_zero, Option.join_some]
          rw [sM_c (h := swG f k (i + 1)) fun z _ => swG_step hf.p hk hc hlt z, par_succ]
      · left
        have hip : i + 1 = per f k := by omega
        have hne : ((it f (i + 1) k : Nat) : Int) = (k : Nat) := by rw [hip, p2]
        refine ⟨?_, b, ?_⟩
        · unfold wt_law_sign_due_1
          simp only [fsSeq, fsRet, fsRetN, fsIf, fsAsg, fsDrop, fsPar, fVar, fC, fCons, fNil, fCall, fOp, fUn, fOn, fTest, fTru, fNotT, fAndT, fOrT, fAnd, fOr, fNot, fIf, fChain, fName, fTupG, fsCons, fsNil, fPut, fLst, fTup, asB, asI, Option.bind_some, Option.map_some, Option.bind_none, Option.map_none, Option.join_some, List.getElem?_cons_zero, List.getElem?_cons_succ, fsNever, fsNext, fSeq, seqOf, fYes, fLCall, fPart, fNoPart, fSl, List.length_cons, List.length_nil, fIxN, fRange1, fRange2, fEnum, fDown, fLenSet, fRev, fTRg1, fRg1, sE, gIx_s hk, hg, gNe_int, hne, decide_true, Bool.not_true]
        · have e2 : i = per f k - 1 := by omega
          rw [sg_new hc, e2, sM_c (h := swD f (k + 1)) fun y _ => swG_end hf.p hk hc]
theorem sign_due_ev {m : Mem} {n : Nat} {f : Nat → Nat} (hf : IsM n f) : F_law_sign_due [mvD n f] m = some (.int (signV f n), m) := by
  have hi := hf.hi
  have hs : ∀ g : Nat → Nat, gLen [.loc m.length] (sM m n g) = some (.int (n : Nat), sM m n g) := fun g => by
    show (rd _ _).map _ = _
    unfold sM
    rw [rd_last, Option.map_some, tab_len]
  have h2n : (-100000 : Int) ≤ n ∧ (n : Int) ≤ 100000 := by omega
  have h := for_evL (fi := fRange1 (fCall gLen (fCons (fVar 1) fNil))) (ft := fName 3) (g := lb_law_sign_due_1) (e := sE m n f 1 none none)
    (m0 := sM m n f) (m := sM m n f) (s := ⟨tab n fun y => .int (y : Nat), none⟩) (by simp only [fsSeq, fsRet, fsRetN, fsIf, fsAsg, fsDrop, fsPar, fVar, fC, fCons, fNil, fCall, fOp, fUn, fOn, fTest, fTru, fNotT, fAndT, fOrT, fAnd, fOr, fNot, fIf, fChain, fName, fTupG, fsCons, fsNil, fPut, fLst, fTup, asB, asI, Option.bind_some, Option.map_some, Option.bind_none, Option.map_none, Option.join_some, List.getElem?_cons_zero, List.getElem?_cons_succ, fsNever, fsNext, fSeq, seqOf, fYes, fLCall, fPart, fNoPart, fSl, List.length_cons, List.length_nil, fIxN, fRange1, fRange2, fEnum, fDown, fLenSet, fRev, fTRg1, fRg1, sE, hs, h2n, and_self, if_true, Int.toNat_natCast, tab_range])
    (fun xs e mm => ∃ k a b, k ≤ n ∧ xs = (tab n fun y => .int (y : Nat)).drop k ∧ e = sE m n f (sg f k) a b ∧ mm = sM m n (swD f k))
    (fun o => ∃ a b, o = .nx (sE m n f (sg f n) a b) (sM m n (swD f n)))
    (fun _ _ _ _ => trivial) ⟨0, none, none, Nat.zero_le _, rfl, rfl, sM_c fun y _ => (swD_f (fun ⟨j, q, _⟩ => absurd q (Nat.not_lt_zero _))).symm⟩ ?_ ?_
  · obtain ⟨o, h1, a, b, rfl⟩ := h
    refine Fof_pure (t := [.lst (tab n fun y => .int (swD f n y : Nat))]) (o := .rt (.int (signV f n)) (sM m n (swD f n))) rfl ?_ rfl rfl (Kept.ext m _)
    have e : startE N_law_sign_due [mvD n f] = [some (mvD n f), none, none, none, none] := rfl
    rw [e]
    unfold g_law_sign_due
    have hl : gLstOf [mvD n f] m = some (tab n fun y => .int (f y : Nat), m) := rfl
    have h2 : lp_law_sign_due_1 (sE m n f 1 none none) (sM m n f) = _ := h1
    simp only [sE, sM] at h2
    simp only [fsSeq, fsRet, fsRetN, fsIf, fsAsg, fsDrop, fsPar, fVar, fC, fCons, fNil, fCall, fOp, fUn, fOn, fTest, fTru, fNotT, fAndT, fOrT, fAnd, fOr, fNot, fIf, fChain, fName, fTupG, fsCons, fsNil, fPut, fLst, fTup, asB, asI, Option.bind_some, Option.map_some, Option.bind_none, Option.map_none, Option.join_some, List.getElem?_cons_zero, List.getElem?_cons_succ, fsNever, fsNext, fSeq, seqOf, fYes, fLCall, fPart, fNoPart, fSl, List.length_cons, List.length_nil, fIxN, fRange1, fRange2, fEnum, fDown, fLenSet, fRev, fTRg1, fRg1, hl, List.set_cons_succ, List.set_cons_zero, h2, sg_sign hf.p]
  · rintro x xs e mm ⟨k, a, b, hk, hx, rfl, rfl⟩
    by_cases hkn : k < n
    · rw [tab_drop hkn] at hx
      cases hx
      obtain ⟨b', q⟩ := lb_sign_ev (m := m) (a := a) (b := b) hf hkn
      exact ⟨_, q, k + 1, _, b', hkn, rfl, rfl, rfl⟩
    · rw [drop_nil hkn] at hx; cases hx
  · rintro e mm ⟨k, a, b, hk, hx, rfl, rfl⟩
    have := drop_end hk hx
    subst this
    exact ⟨a, b, rfl⟩
end k01

set_option Elab.async false
set_option linter.all false
set_option maxRecDepth 100000
set_option maxHeartbeats 1000000
namespace k01
open PySem PySem.Spec PyProof.Rows L2 Mv Cyc
theorem lcms_dvd_a : ∀ (rs : List (List Nat)) (a : Nat), a ∣ lcms a rs
  | [], a => Nat.dvd_refl a
  | r :: rs, a => Nat.dvd_trans (Nat.dvd_lcm_left a r.length) (lcms_dvd_a rs _)
theorem lcms_dvd : ∀ (rs : List (List Nat)) (a : Nat) (r : List Nat), r ∈ rs → r.length ∣ lcms a rs
  | x :: rs, a, r, h => by
    rcases List.mem_cons.mp h with e | h
    · subst e
      exact Nat.dvd_trans (Nat.dvd_lcm_right a r.length) (lcms_dvd_a rs _)
    · exact lcms_dvd rs _ r h
theorem lcms_least : ∀ (rs : List (List Nat)) (a M : Nat), a ∣ M → (∀ r ∈ rs, r.length ∣ M) → lcms a rs ∣ M
  | [], a, M, h, _ => h
  | x :: rs, a, M, h, hr => lcms_least rs _ M (Nat.lcm_dvd h (hr x (by simp))) fun r q => hr r (by simp [q])
theorem lcms_pos : ∀ (rs : List (List Nat)) (a : Nat), 0 < a → (∀ r ∈ rs, 0 < r.length) → 0 < lcms a rs
  | [], a, h, _ => h
  | x :: rs, a, h, hr => lcms_pos rs _ (Nat.lcm_pos h (hr x (by simp))) fun r q => hr r (by simp [q])
theorem rows_pos {n : Nat} {f : Nat → Nat} (h : Perm n f) : ∀ r ∈ rows f n, 0 < r.length := fun r hr => by
  obtain ⟨j, h1, rfl⟩ := h.rows_mem n (Nat.le_refl _) r hr
  rw [orb_len]; exact (h.per_spec h1).1
noncomputable def F_law_turns_right : GN := Fof N_law_turns_right 2 (g_law_turns_right F_law_all_rounds)
def lenL (rs : List (List Nat)) : List D := rs.map fun r => .int (r.length : Nat)
theorem fm_map {α : Type} {g : α → D} {h : D → Option D} {k : α → D} {l : List α} (q : ∀ y ∈ l, h (g y) = some (k y)) : (l.map g).filterMap h = l.map k := by
  induction l with
  | nil => rfl
  | cons y l ih =>
    rw [List.map_cons, List.filterMap_cons, q y (by simp), ih fun z hz => q z (by simp [hz]), List.map_cons]
abbrev tE (n : Nat) (f : Nat → Nat) (L : Nat) (k : Nat) (a b c : Option D) : Sl := [some (mvD n f), some (.int (L : Nat)), some (.loc k), a, b, c]
noncomputable abbrev tM (m : Mem) (f : Nat → Nat) (n : Nat) : Mem := m ++ [.lst ((rows f n).map rowD), .lst (lenL (rows f n))]
theorem lc_turns_1 {m : Mem} {n : Nat} {f : Nat → Nat} {L : Nat} (hf : IsM n f) : lc_law_turns_right_1 F_law_all_rounds [some (mvD n f), some (.int (L : Nat)), none, none, none, none] m = some (lenL (rows f n), m ++ [.lst ((rows f n).map rowD)]) := by
  have hi := hf.hi
  have hr := rows_len f n
  unfold lc_law_turns_right_1
  rw [lc_evR (xs := (rows f n).map rowD) (l := m.length) (m := m ++ [.lst ((rows f n).map rowD)]) ?_ rd_last (by simp; omega) (fun d => some (.int (lenD d : Nat))) fun y hy => ?_]
  · rw [fm_map (k := fun r => .int (r.length : Nat)) fun r _ => ?_]
    · rfl
    · have : lenD (rowD r) = r.length := by show (rowL r).length = _; unfold rowL; rw [List.length_map]
      rw [this]
  · simp only [fsSeq, fsRet, fsRetN, fsIf, fsAsg, fsDrop, fsPar, fVar, fC, fCons, fNil, fCall, fOp, fUn, fOn, fTest, fTru, fNotT, fAndT, fOrT, fAnd, fOr, fNot, fIf, fChain, fName, fTupG, fsCons, fsNil, fPut, fLst, fTup, asB, asI, Option.bind_some, Option.map_some, Option.bind_none, Option.map_none, Option.join_some, List.getElem?_cons_zero, List.getElem?_cons_succ, fsNever, fsNext, fSeq, seqOf, fYes, fLCall, fPart, fNoPart, fSl, List.length_cons, List.length_nil, fIxN, fRange1, fRange2, fEnum, fDown, fLenSet, fRev, fTRg1, fRg1, law_all_rounds_ev hf]
    rw [rd_last]; rfl
  · obtain ⟨r, _, rfl⟩ := List.mem_map.mp hy
    have : lenD (rowD r) = r.length := by show (rowL r).length = _; unfold rowL; rw [List.length_map]
    have e : wipeE [some (mvD n f), some (.int (L : Nat)), none, none, none, none] [3] = [some (mvD n f), some (.int (L : Nat)), none, none, none, none] := rfl
    rw [e, this]
    unfold fElt
    simp only [fsSeq, fsRet, fsRetN, fsIf, fsAsg, fsDrop, fsPar, fVar, fC, fCons, fNil, fCall, fOp, fUn, fOn, fTest, fTru, fNotT, fAndT, fOrT, fAnd, fOr, fNot, fIf, fChain, fName, fTupG, fsCons, fsNil, fPut, fLst, fTup, asB, asI, Option.bind_some, Option.map_some, Option.bind_none, Option.map_none, Option.join_some, List.getElem?_cons_zero, List.getElem?_cons_succ, fsNever, fsNext, fSeq, seqOf, fYes, fLCall, fPart, fNoPart, fSl, List.length_cons, List.length_nil, fIxN, fRange1, fRange2, fEnum, fDown, fLenSet, fRev, fTRg1, fRg1, List.set_cons_succ, List.set_cons_zero, gLen_row, if_true]
theorem gMod_nat {m : Mem} {a b : Nat} (h : 0 < b) : gMod (.int (a : Nat)) (.int (b : Nat)) m = some (.int ((a % b : Nat) : Int), m) := by
  have h' : (0 : Int) < (b : Nat) := by omega
  show (if decide ((0 : Int) < (b : Nat)) = true then some (D.int ((a : Int) % (b : Nat)), m) else none) = _
  rw [if_pos (decide_eq_true h'), Int.natCast_emod]
theorem gFDiv_nat {m : Mem} {a b : Nat} (h : 0 < b) (h2 : b < 1073741824) : gFDiv (.int (a : Nat)) (.int (b : Nat)) m = some (.int ((a / b : Nat) : Int), m) := by
  have h' : (0 : Int) < (b : Nat) ∧ ((b : Nat) : Int) < 1073741824 := by omega
  show (if decide ((0 : Int) < (b : Nat) ∧ ((b : Nat) : Int) < 1073741824) = true then some (D.int ((a : Int) / (b : Nat)), m) else none) = _
  rw [if_pos (decide_eq_true h'), Int.natCast_ediv]
theorem any_bl {α : Type} (xs : List α) (f : α → Bool) (m : Mem) : gAny (xs.map fun x => .bl (f x)) m = some (.bl (xs.any f), m) := by
  unfold gAny
  have e : (xs.map fun x => D.bl (f x)) = (xs.map f).map D.bl := by rw [List.map_map]; rfl
  rw [e, asBs_map]
  show some (D.bl ((xs.map f).any id), m) = _
  rw [List.any_map]; rfl
theorem all_bl' {α : Type} (xs : List α) (f : α → Bool) (m : Mem) : gAll (xs.map fun x => .bl (f x)) m = some (.bl (xs.all f), m) := by
  unfold gAll
  have e : (xs.map fun x => D.bl (f x)) = (xs.map f).map D.bl := by rw [List.map_map]; rfl
  rw [e, asBs_map]
  show some (D.bl ((xs.map f).all id), m) = _
  rw [List.all_map]; rfl
def divF (L : Nat) : D → Option D
  | .int i => some (.bl (!decide (((L % i.toNat : Nat) : Int) = 0)))
  | _ => none
def divG (L : Nat) : D → Option D
  | .int i => some (.bl (decide (((L % i.toNat : Nat) : Int) = 0)))
  | _ => none
theorem lc_turns_2 {m : Mem} {n L : Nat} {f : Nat → Nat} {a b c : Option D} (hf : IsM n f) : lc_law_turns_right_2 F_law_all_rounds (tE n f L (m.length + 1) a b c) (tM m f n) = some ((rows f n).map fun r => .bl (!decide (((L % r.length : Nat) : Int) = 0)), tM m f n) := by
  have hi := hf.hi
  have hr := rows_len f n
  unfold lc_law_turns_right_2
  have hg : rd (tM m f n) (m.length + 1) = some (lenL (rows f n)) := rd_off (i := 1) rfl
  rw [lc_evR (xs := lenL (rows f n)) (l := m.length + 1) (m := tM m f n) ?_ hg (by simp [lenL]; omega) (divF L) fun y hy => ?_]
  · unfold lenL
    rw [fm_map (k := fun r => .bl (!decide (((L % r.length : Nat) : Int) = 0))) fun r _ => ?_]
    show some (D.bl (!decide (((L % ((r.length : Nat) : Int).toNat : Nat) : Int) = 0))) = _
    rw [Int.toNat_natCast]
  · simp only [fsSeq, fsRet, fsRetN, fsIf, fsAsg, fsDrop, fsPar, fVar, fC, fCons, fNil, fCall, fOp, fUn, fOn, fTest, fTru, fNotT, fAndT, fOrT, fAnd, fOr, fNot, fIf, fChain, fName, fTupG, fsCons, fsNil, fPut, fLst, fTup, asB, asI, Option.bind_some, Option.map_some, Option.bind_none, Option.map_none, Option.join_some, List.getElem?_cons_zero, List.getElem?_cons_succ, fsNever, fsNext, fSeq, seqOf, fYes, fLCall, fPart, fNoPart, fSl, List.length_cons, List.length_nil, fIxN, fRange1, fRange2, fEnum, fDown, fLenSet, fRev, fTRg1, fRg1, tE, hg]
  · obtain ⟨r, hr, rfl⟩ := List.mem_map.mp hy
    have hp := rows_pos hf.p r hr
    have e : wipeE (tE n f L (m.length + 1) a b c) [4] = tE n f L (m.length + 1) a none c := rfl
    rw [e]
    unfold fElt divF
    simp only [fsSeq, fsRet, fsRetN, fsIf, fsAsg, fsDrop, fsPar, fVar, fC, fCons, fNil, fCall, fOp, fUn, fOn, fTest, fTru, fNotT, fAndT, fOrT, fAnd, fOr, fNot, fIf, fChain, fName, fTupG, fsCons, fsNil, fPut, fLst, fTup, asB, asI, Option.bind_some, Option.map_some, Option.bind_none, Option.map_none, Option.join_some, List.getElem?_cons_zero, List.getElem?_cons_succ, fsNever, fsNext, fSeq, seqOf, fYes, fLCall, fPart, fNoPart, fSl, List.length_cons, List.length_nil, fIxN, fRange1, fRange2, fEnum, fDown, fLenSet, fRev, fTRg1, fRg1, tE, List.set_cons_succ, List.set_cons_zero, gMod_nat hp, gNe_int, if_true, Int.toNat_natCast]
theorem lc_turns_3 {m : Mem} {n L p : Nat} {f : Nat → Nat} {a b : Option D} (hf : IsM n f) (h1 : 0 < p) (h2 : p < 100) : lc_law_turns_right_3 F_law_all_rounds (tE n f L (m.length + 1) a b (some (.int (p : Nat)))) (tM m f n) = some ((rows f n).map fun r => .bl (decide ((((L / p) % r.length : Nat) : Int) = 0)), tM m f n) := by
  have hi := hf.hi
  have hr := rows_len f n
  unfold lc_law_turns_right_3
  have hg : rd (tM m f n) (m.length + 1) = some (lenL (rows f n)) := rd_off (i := 1) rfl
  rw [lc_evR (xs := lenL (rows f n)) (l := m.length + 1) (m := tM m f n) ?_ hg (by simp [lenL]; omega) (divG (L / p)) fun y hy => ?_]
  · unfold lenL
    rw [fm_map (k := fun r => .bl (decide ((((L / p) % r.length : Nat) : Int) = 0))) fun r _ => ?_]
    show some (D.bl (decide ((((L / p) % ((r.length : Nat) : Int).toNat : Nat) : Int) = 0))) = _
    rw [Int.toNat_natCast]
  · simp only [fsSeq, fsRet, fsRetN, fsIf, fsAsg, fsDrop, fsPar, fVar, fC, fCons, fNil, fCall, fOp, fUn, fOn, fTest, fTru, fNotT, fAndT, fOrT, fAnd, fOr, fNot, fIf, fChain, fName, fTupG, fsCons, fsNil, fPut, fLst, fTup, asB, asI, Option.bind_some, Option.map_some, Option.bind_none, Option.map_none, Option.join_some, List.getElem?_cons_zero, List.getElem?_cons_succ, fsNever, fsNext, fSeq, seqOf, fYes, fLCall, fPart, fNoPart, fSl, List.length_cons, List.length_nil, fIxN, fRange1, fRange2, fEnum, fDown, fLenSet, fRev, fTRg1, fRg1, tE, hg]
  · obtain ⟨r, hr, rfl⟩ := List.mem_map.mp hy
    have hp := rows_pos hf.p r hr
    have e : wipeE (tE n f L (m.length + 1) a b (some (.int (p : Nat)))) [4] = tE n f L (m.length + 1) a none (some (.int (p : Nat))) := rfl
    rw [e]
    unfold fElt divG
    have hd : ∀ mm, gFDiv (.int (L : Nat)) (.int (p : Nat)) mm = some (.int ((L / p : Nat) : Int), mm) := fun mm => gFDiv_nat h1 (by omega)
    have hm : ∀ mm, gMod (.int ((L / p : Nat) : Int)) (.int (r.length : Nat)) mm = some (.int ((L / p % r.length : Nat) : Int), mm) := fun mm => gMod_nat hp
    simp only [fsSeq, fsRet, fsRetN, fsIf, fsAsg, fsDrop, fsPar, fVar, fC, fCons, fNil, fCall, fOp, fUn, fOn, fTest, fTru, fNotT, fAndT, fOrT, fAnd, fOr, fNot, fIf, fChain, fName, fTupG, fsCons, fsNil, fPut, fLst, fTup, asB, asI, Option.bind_some, Option.map_some, Option.bind_none, Option.map_none, Option.join_some, List.getElem?_cons_zero, List.getElem?_cons_succ, fsNever, fsNext, fSeq, seqOf, fYes, fLCall, fPart, fNoPart, fSl, List.length_cons, List.length_nil, fIxN, fRange1, fRange2, fEnum, fDown, fLenSet, fRev, fTRg1, fRg1, tE, List.set_cons_succ, List.set_cons_zero, hd, hm, gEq_int, if_true, Int.toNat_natCast]
theorem turns_right_ev {m : Mem} {n : Nat} {f : Nat → Nat} (hf : IsM n f) : F_law_turns_right [mvD n f, .int ((lcms 1 (rows f n) : Nat) : Int)] m = some (.bl true, m) := by
  have hi := hf.hi
  have hpos := lcms_pos (rows f n) 1 (by decide) (rows_pos hf.p)
  have hL : ∀ r ∈ rows f n, lcms 1 (rows f n) % r.length = 0 := fun r hr => Nat.mod_eq_zero_of_dvd (lcms_dvd _ 1 r hr)
  have hleast : ∀ p, 2 ≤ p → lcms 1 (rows f n) % p = 0 → ¬ ∀ r ∈ rows f n, (lcms 1 (rows f n) / p) % r.length = 0 := fun p hp h0 hall => by
    have hd := lcms_least (rows f n) 1 (lcms 1 (rows f n) / p) (Nat.one_dvd _) fun r hr => Nat.dvd_of_mod_eq_zero (hall r hr)
    have hq : 0 < lcms 1 (rows f n) / p := Nat.div_pos (Nat.le_of_dvd hpos (Nat.dvd_of_mod_eq_zero h0)) (by omega)
    have h1 := Nat.le_of_dvd hq hd
    have h2 := Nat.div_lt_self hpos (show 1 < p by omega)
    omega
  generalize lcms 1 (rows f n) = L at hpos hL hleast
  have h := for_evL (fi := fRange2 (fC (.int 2)) (fC (.int 61))) (ft := fName 5) (g := lb_law_turns_right_1 F_law_all_rounds) (e := tE n f L (m.length + 1) none none none)
    (m0 := tM m f n) (m := tM m f n) (s := ⟨rangeD 2 59, none⟩) rfl
    (fun xs e mm => (∀ x ∈ xs, ∃ p : Nat, 2 ≤ p ∧ p < 61 ∧ x = .int (p : Nat)) ∧ ∃ a b c, e = tE n f L (m.length + 1) a b c ∧ mm = tM m f n)
    (fun o => ∃ a b c, o = .nx (tE n f L (m.length + 1) a b c) (tM m f n))
    (fun _ _ _ _ => trivial) ⟨fun x hx => ?_, none, none, none, rfl, rfl⟩ ?_ ?_
  · obtain ⟨o, h1, a, b, c, rfl⟩ := h
    refine Fof_pure (t := [.lst ((rows f n).map rowD), .lst (lenL (rows f n))]) (o := .rt (.bl true) (tM m f n)) rfl ?_ rfl rfl (Kept.ext m _)
    have e : startE N_law_turns_right [mvD n f, .int (L : Nat)] = [some (mvD n f), some (.int (L : Nat)), none, none, none, none] := rfl
    rw [e]
    unfold g_law_turns_right
    have hge : ¬ ((L : Nat) : Int) < 1 := by omega
    have h2 : lp_law_turns_right_1 F_law_all_rounds (tE n f L (m.length + 1) none none none) (tM m f n) = _ := h1
    have hlen : (m ++ [Cell.lst ((rows f n).map rowD)]).length = m.length + 1 := by simp
    have hany : (rows f n).any (fun r => !decide (((L % r.length : Nat) : Int) = 0)) = false := by
      rw [List.any_eq_false]
      intro r hr
      rw [hL r hr]; decide
    have hlc2 := lc_turns_2 (m := m) (L := L) (a := none) (b := none) (c := none) hf
    simp only [tE, tM] at h2 hlc2
    simp only [fsSeq, fsRet, fsRetN, fsIf, fsAsg, fsDrop, fsPar, fVar, fC, fCons, fNil, fCall, fOp, fUn, fOn, fTest, fTru, fNotT, fAndT, fOrT, fAnd, fOr, fNot, fIf, fChain, fName, fTupG, fsCons, fsNil, fPut, fLst, fTup, asB, asI, Option.bind_some, Option.map_some, Option.bind_none, Option.map_none, Option.join_some, List.getElem?_cons_zero, List.getElem?_cons_succ, fsNever, fsNext, fSeq, seqOf, fYes, fLCall, fPart, fNoPart, fSl, List.length_cons, List.length_nil, fIxN, fRange1, fRange2, fEnum, fDown, fLenSet, fRev, fTRg1, fRg1, isi_int (show typed m (.int (L : Nat)) = true from rfl), isi_bool (show typed m (.int (L : Nat)) = true from rfl), tru, Bool.not_true, Bool.false_eq_true, if_false, gLt, gInt0, hge, decide_false, lc_turns_1 hf, hlen, List.append_assoc, List.cons_append, List.nil_append, List.set_cons_succ, List.set_cons_zero, hlc2, any_bl, hany, h2]
  · obtain ⟨i, hi, rfl⟩ := List.mem_map.mp hx
    have := List.mem_range.mp hi
    exact ⟨2 + i, by omega, by omega, by congr 1⟩
  · rintro x xs e mm ⟨hx, a, b, c, rfl, rfl⟩
    obtain ⟨p, h1, h2, rfl⟩ := hx x (by simp)
    refine ⟨.nx (tE n f L (m.length + 1) a b (some (.int (p : Nat)))) (tM m f n), ?_, fun y hy => hx y (by simp [hy]), _, _, _, rfl, rfl⟩
    unfold lb_law_turns_right_1
    have hm : gMod (.int (L : Nat)) (.int (p : Nat)) (tM m f n) = _ := gMod_nat (by omega)
    have hlc := lc_turns_3 (m := m) (L := L) (a := a) (b := b) hf (show 0 < p by omega) (show p < 100 by omega)
    simp only [tE] at hlc
    by_cases q : L % p = 0
    · have hall : (rows f n).all (fun r => decide (((L / p % r.length : Nat) : Int) = 0)) = false := by
        rw [Bool.eq_false_iff]
        intro z
        rw [List.all_eq_true] at z
        exact hleast p h1 q fun r hr => by
          have := of_decide_eq_true (z r hr)
          omega
      simp only [fsSeq, fsRet, fsRetN, fsIf, fsAsg, fsDrop, fsPar, fVar, fC, fCons, fNil, fCall, fOp, fUn, fOn, fTest, fTru, fNotT, fAndT, fOrT, fAnd, fOr, fNot, fIf, fChain, fName, fTupG, fsCons, fsNil, fPut, fLst, fTup, asB, asI, Option.bind_some, Option.map_some, Option.bind_none, Option.map_none, Option.join_some, List.getElem?_cons_zero, List.getElem?_cons_succ, fsNever, fsNext, fSeq, seqOf, fYes, fLCall, fPart, fNoPart, fSl, List.length_cons, List.length_nil, fIxN, fRange1, fRange2, fEnum, fDown, fLenSet, fRev, fTRg1, fRg1, tE, List.set_cons_succ, List.set_cons_zero, hm, q, gEq_int, Int.ofNat_zero, decide_true, hlc, all_bl', hall, tru, if_true, Bool.false_eq_true, if_false]
    · have q' : ¬ ((L % p : Nat) : Int) = 0 := by omega
      simp only [fsSeq, fsRet, fsRetN, fsIf, fsAsg, fsDrop, fsPar, fVar, fC, fCons, fNil, fCall, fOp, fUn, fOn, fTest, fTru, fNotT, fAndT, fOrT, fAnd, fOr, fNot, fIf, fChain, fName, fTupG, fsCons, fsNil, fPut, fLst, fTup, asB, asI, Option.bind_some, Option.map_some, Option.bind_none, Option.map_none, Option.join_some, List.getElem?_cons_zero, List.getElem?_cons_succ, fsNever, fsNext, fSeq, seqOf, fYes, fLCall, fPart, fNoPart, fSl, List.length_cons, List.length_nil, fIxN, fRange1, fRange2, fEnum, fDown, fLenSet, fRev, fTRg1, fRg1, tE, List.set_cons_succ, List.set_cons_zero, hm, q', gEq_int, decide_false, Bool.false_eq_true, if_false]
  · rintro e mm ⟨_, a, b, c, rfl, rfl⟩
    exact ⟨a, b, c, rfl⟩
end k01

set_option Elab.async false
set_option linter.all false
set_option maxRecDepth 100000
set_option maxHeartbeats 1000000
namespace k01
open PySem PySem.Spec PyProof.Rows L2 Mv Cyc
noncomputable def F_law_is_move_due : GN := Fof N_law_is_move_due 1 g_law_is_move_due
theorem lc_due_1 {m : Mem} {xs : List D} {o : Option D} (hl : xs.length ≤ 100000) (hx : ∀ x ∈ xs, typed m x = true) : lc_law_is_move_due_1 [some (.tup xs), o] m = some (xs.map fun x => .bl (isInt x), m) := by
  unfold lc_law_is_move_due_1
  rw [lc_ev (xs := xs) rfl hl (fun y => some (.bl (isInt y))) fun y hy => ?_, fm_some]
  have e : wipeE [some (.tup xs), o] [1] = [some (.tup xs), none] := rfl
  rw [e]
  unfold fElt
  simp only [fsSeq, fsRet, fsRetN, fsIf, fsAsg, fsDrop, fsPar, fVar, fC, fCons, fNil, fCall, fOp, fUn, fOn, fTest, fTru, fNotT, fAndT, fOrT, fAnd, fOr, fNot, fIf, fChain, fName, fTupG, fsCons, fsNil, fPut, fLst, fTup, asB, asI, Option.bind_some, Option.map_some, Option.bind_none, Option.map_none, Option.join_some, List.getElem?_cons_zero, List.getElem?_cons_succ, fsNever, fsNext, fSeq, seqOf, fYes, fLCall, fPart, fNoPart, fSl, List.length_cons, List.length_nil, fIxN, fRange1, fRange2, fEnum, fDown, fLenSet, fRev, fTRg1, fRg1, List.set_cons_succ, List.set_cons_zero, isi_int (hx y hy), isi_bool (hx y hy), if_true]
  cases y <;> first | rfl | simp [tru, isInt]
theorem lc_due_2 {m : Mem} {ns : List Int} {o : Option D} (hl : ns.length ≤ 100000) : lc_law_is_move_due_2 [some (.tup (ns.map D.int)), o] m = some ((ns.map D.int).map fun x => .bl (inR 0 ((ns.length : Int) - 1) x), m) := by
  unfold lc_law_is_move_due_2
  rw [lc_ev (xs := ns.map D.int) rfl (by rw [List.length_map]; exact hl) (fun y => some (.bl (inR 0 ((ns.length : Int) - 1) y))) fun y hy => ?_, fm_some]
  obtain ⟨i, _, rfl⟩ := List.mem_map.mp hy
  have e : wipeE [some (.tup (ns.map D.int)), o] [1] = [some (.tup (ns.map D.int)), none] := rfl
  rw [e]
  unfold fElt
  have hlen : ∀ mm, gLen [.tup (ns.map D.int)] mm = some (.int (ns.length : Nat), mm) := fun mm => by show some (D.int ((ns.map D.int).length : Nat), mm) = _; rw [List.length_map]
  simp only [fsSeq, fsRet, fsRetN, fsIf, fsAsg, fsDrop, fsPar, fVar, fC, fCons, fNil, fCall, fOp, fUn, fOn, fTest, fTru, fNotT, fAndT, fOrT, fAnd, fOr, fNot, fIf, fChain, fName, fTupG, fsCons, fsNil, fPut, fLst, fTup, asB, asI, Option.bind_some, Option.map_some, Option.bind_none, Option.map_none, Option.join_some, List.getElem?_cons_zero, List.getElem?_cons_succ, fsNever, fsNext, fSeq, seqOf, fYes, fLCall, fPart, fNoPart, fSl, List.length_cons, List.length_nil, fIxN, fRange1, fRange2, fEnum, fDown, fLenSet, fRev, fTRg1, fRg1, List.set_cons_succ, List.set_cons_zero, gLe, gLt, gInt0, hlen]
  by_cases h1 : 0 ≤ i
  · by_cases h2 : i < (ns.length : Nat)
    · simp only [h1, h2, decide_true, Option.map_some, if_true, Option.bind_some]
      rw [inR_int.mpr (by omega)]
    · have h3 : inR 0 ((ns.length : Int) - 1) (.int i) = false := by rw [Bool.eq_false_iff]; intro z; have := inR_int.mp z; omega
      simp only [h1, h2, decide_true, decide_false, Option.map_some, if_true, Option.bind_some, h3]
  · have h3 : inR 0 ((ns.length : Int) - 1) (.int i) = false := by rw [Bool.eq_false_iff]; intro z; have := inR_int.mp z; omega
    simp only [h1, decide_false, Option.map_some, if_true, Option.bind_some, h3]
theorem isInt_ints : ∀ {xs : List D}, xs.all isInt = true → ∃ ns : List Int, xs = ns.map D.int
  | [], _ => ⟨[], rfl⟩
  | x :: xs, h => by
    rw [List.all_cons, Bool.and_eq_true] at h
    obtain ⟨ns, h1⟩ := isInt_ints h.2
    cases x with
    | int i => exact ⟨i :: ns, by rw [h1]; rfl⟩
    | _ => have q : false = true := h.1; cases q
theorem is_move_due_ev {m : Mem} {d : D} (h : typed m d = true) (hx : ∀ xs, d = .tup xs → ∀ x ∈ xs, typed m x = true) : F_law_is_move_due [d] m = some (.bl (mvB d), m) := by
  refine Fof_pure (t := []) (o := .rt (.bl (mvB d)) m) rfl ?_ (by rw [List.append_nil]; rfl) rfl (Kept.ext m [])
  have e : startE N_law_is_move_due [d] = [some d, none] := rfl
  rw [e]
  unfold g_law_is_move_due
  cases d with
  | tup xs =>
    have hx := hx xs rfl
    simp only [fsSeq, fsRet, fsRetN, fsIf, fsAsg, fsDrop, fsPar, fVar, fC, fCons, fNil, fCall, fOp, fUn, fOn, fTest, fTru, fNotT, fAndT, fOrT, fAnd, fOr, fNot, fIf, fChain, fName, fTupG, fsCons, fsNil, fPut, fLst, fTup, asB, asI, Option.bind_some, Option.map_some, Option.bind_none, Option.map_none, Option.join_some, List.getElem?_cons_zero, List.getElem?_cons_succ, fsNever, fsNext, fSeq, seqOf, fYes, fLCall, fPart, fNoPart, fSl, List.length_cons, List.length_nil, fIxN, fRange1, fRange2, fEnum, fDown, fLenSet, fRev, fTRg1, fRg1, isi_tuple h, gLen, gLe, gInt0, tru, Bool.not_true, Bool.false_eq_true, if_false, ite_true]
    by_cases h1 : 1 ≤ xs.length
    · by_cases h2 : xs.length ≤ 60
      · have h1' : (1 : Int) ≤ xs.length := by omega
        have h2' : (xs.length : Int) ≤ 60 := by omega
        simp only [h1', h2', decide_true, Bool.not_true, Bool.false_eq_true, if_false, fsSeq, fsRet, fsRetN, fsIf, fsAsg, fsDrop, fsPar, fVar, fC, fCons, fNil, fCall, fOp, fUn, fOn, fTest, fTru, fNotT, fAndT, fOrT, fAnd, fOr, fNot, fIf, fChain, fName, fTupG, fsCons, fsNil, fPut, fLst, fTup, asB, asI, Option.bind_some, Option.map_some, Option.bind_none, Option.map_none, Option.join_some, List.getElem?_cons_zero, List.getElem?_cons_succ, fsNever, fsNext, fSeq, seqOf, fYes, fLCall, fPart, fNoPart, fSl, List.length_cons, List.length_nil, fIxN, fRange1, fRange2, fEnum, fDown, fLenSet, fRev, fTRg1, fRg1]
        rw [lc_due_1 (by omega) hx]
        simp only [fsSeq, fsRet, fsRetN, fsIf, fsAsg, fsDrop, fsPar, fVar, fC, fCons, fNil, fCall, fOp, fUn, fOn, fTest, fTru, fNotT, fAndT, fOrT, fAnd, fOr, fNot, fIf, fChain, fName, fTupG, fsCons, fsNil, fPut, fLst, fTup, asB, asI, Option.bind_some, Option.map_some, Option.bind_none, Option.map_none, Option.join_some, List.getElem?_cons_zero, List.getElem?_cons_succ, fsNever, fsNext, fSeq, seqOf, fYes, fLCall, fPart, fNoPart, fSl, List.length_cons, List.length_nil, fIxN, fRange1, fRange2, fEnum, fDown, fLenSet, fRev, fTRg1, fRg1, all_bl, tru]
        cases ha : xs.all isInt with
        | false =>
          have hb : xs.all (inR 0 ((xs.length : Int) - 1)) = false := by
            rw [Bool.eq_false_iff] at ha ⊢
            intro z
            apply ha
            obtain ⟨ns, e1, _⟩ := inR_ints z
            rw [e1, List.all_eq_true]
            intro x hx
            obtain ⟨i, _, rfl⟩ := List.mem_map.mp hx
            rfl
          simp [mvB, mvL, hb]
        | true =>
          obtain ⟨ns, rfl⟩ := isInt_ints ha
          have hl4 : ns.length ≤ 4000 := by rw [List.length_map] at h2; omega
          simp only [Bool.not_true, Bool.false_eq_true, if_false, fsSeq, fsRet, fsRetN, fsIf, fsAsg, fsDrop, fsPar, fVar, fC, fCons, fNil, fCall, fOp, fUn, fOn, fTest, fTru, fNotT, fAndT, fOrT, fAnd, fOr, fNot, fIf, fChain, fName, fTupG, fsCons, fsNil, fPut, fLst, fTup, asB, asI, Option.bind_some, Option.map_some, Option.bind_none, Option.map_none, Option.join_some, List.getElem?_cons_zero, List.getElem?_cons_succ, fsNever, fsNext, fSeq, seqOf, fYes, fLCall, fPart, fNoPart, fSl, List.length_cons, List.length_nil, fIxN, fRange1, fRange2, fEnum, fDown, fLenSet, fRev, fTRg1, fRg1]
          rw [lc_due_2 (ns := ns) (by omega)]
          simp only [fsSeq, fsRet, fsRetN, fsIf, fsAsg, fsDrop, fsPar, fVar, fC, fCons, fNil, fCall, fOp, fUn, fOn, fTest, fTru, fNotT, fAndT, fOrT, fAnd, fOr, fNot, fIf, fChain, fName, fTupG, fsCons, fsNil, fPut, fLst, fTup, asB, asI, Option.bind_some, Option.map_some, Option.bind_none, Option.map_none, Option.join_some, List.getElem?_cons_zero, List.getElem?_cons_succ, fsNever, fsNext, fSeq, seqOf, fYes, fLCall, fPart, fNoPart, fSl, List.length_cons, List.length_nil, fIxN, fRange1, fRange2, fEnum, fDown, fLenSet, fRev, fTRg1, fRg1, all_bl, tru, asIs_map, hl4, if_true, gEq_int, List.length_map, dist_dec]
          have e3 : mvB (.tup (ns.map D.int)) = ((ns.map D.int).all (inR 0 ((ns.length : Int) - 1)) && decide ns.Nodup) := by
            show (_ && (ns.map D.int).all (inR 0 (((ns.map D.int).length : Int) - 1)) && decide (intsOf (ns.map D.int)).Nodup) = _
            rw [intsOf_map, decide_eq_true ⟨h1, h2⟩, List.length_map, Bool.true_and]
          rw [e3]
          cases hb : (ns.map D.int).all (inR 0 ((ns.length : Int) - 1)) with
          | false => simp
          | true => simp
      · have h2' : ¬ (xs.length : Int) ≤ 60 := by omega
        have h1' : (1 : Int) ≤ xs.length := by omega
        simp [h1', h2', mvB, mvL, h2]
    · have h1' : ¬ (1 : Int) ≤ xs.length := by omega
      simp [h1', mvB, mvL, h1]
  | ty n => cases h
  | kl n => cases h
  | _ => simp [fsSeq, fsRet, fsRetN, fsIf, fsAsg, fsDrop, fsPar, fVar, fC, fCons, fNil, fCall, fOp, fUn, fOn, fTest, fTru, fNotT, fAndT, fOrT, fAnd, fOr, fNot, fIf, fChain, fName, fTupG, fsCons, fsNil, fPut, fLst, fTup, asB, asI, Option.bind_some, Option.map_some, Option.bind_none, Option.map_none, Option.join_some, List.getElem?_cons_zero, List.getElem?_cons_succ, fsNever, fsNext, fSeq, seqOf, fYes, fLCall, fPart, fNoPart, fSl, List.length_cons, List.length_nil, fIxN, fRange1, fRange2, fEnum, fDown, fLenSet, fRev, fTRg1, fRg1, isi_tuple h, mvB, tru]
/-! ### texts of things -/
structure Ok (k B : Nat) (p : PyData) : Prop where
  sh : p.showable = true
  nd : p.hasDict = false
  dp : p.depth ≤ k
  ln : p.shown.length ≤ B
theorem Ok.up {k k' B B' : Nat} {p : PyData} (h : Ok k B p) (hk : k ≤ k') (hB : B ≤ B') : Ok k' B' p := ⟨h.sh, h.nd, Nat.le_trans h.dp hk, Nat.le_trans h.ln hB⟩
theorem okAll {k B : Nat} : ∀ {xs : List PyData}, (∀ x ∈ xs, Ok k B x) → PyData.showableAll xs = true ∧ PyData.hasDictAll xs = false ∧ PyData.depthAll xs ≤ k ∧ piled (PyData.shownAll xs) ≤ xs.length * (B + 2)
  | [], _ => ⟨by simp [PyData.showableAll], by simp [PyData.hasDictAll], by simp [PyData.depthAll], by simp [PyData.shownAll, piled]⟩
  | x :: xs, h => by
    have hx := h x (by simp)
    obtain ⟨h1, h2, h3, h4⟩ := okAll (k := k) (B := B) (xs := xs) fun y hy => h y (by simp [hy])
    refine ⟨by rw [PyData.showableAll, hx.sh, h1]; rfl, by rw [PyData.hasDictAll, hx.nd, h2]; rfl, by rw [PyData.depthAll]; exact Nat.max_le.mpr ⟨hx.dp, h3⟩, ?_⟩
    rw [PyData.shownAll, piled_cons, List.length_cons, Nat.succ_mul]
    have := hx.ln
    omega
theorem shownAll_len : ∀ xs : List PyData, (PyData.shownAll xs).length = xs.length
  | [] => by simp [PyData.shownAll]
  | x :: xs => by rw [PyData.shownAll, List.length_cons, List.length_cons, shownAll_len xs]
theorem tupleText_le (ts : List Str) : (tupleText ts).length ≤ 3 + piled ts := by
  unfold tupleText
  rw [strLen_append, strLen_append]
  have e1 : ((("(" : String) : Str)).length = 1 := rfl
  have e3 : (((if ts.length == 1 then ",)" else ")" : String) : Str)).length ≤ 2 := by split <;> decide
  rw [e1]
  cases ts with
  | nil => show 1 + (Str.join ", " []).length + _ ≤ _; have : (Str.join ", " []).length = 0 := rfl; omega
  | cons t ts => have := join_length_add (t :: ts) (by simp); omega
theorem listText_le (ts : List Str) : (listText ts).length ≤ 3 + piled ts := by
  unfold listText
  rw [strLen_append]
  have e3 : (("]" : String) : Str).length = 1 := rfl
  rw [e3]
  cases ts with
  | nil => show (("[" : String) : Str).length + 1 ≤ _; have : (("[" : String) : Str).length = 1 := rfl; omega
  | cons t ts =>
    have e : (textFrom 0 "[" (t :: ts)).length = (textFrom 1 (("[" : Str) ++ ("" : Str) ++ t) ts).length := rfl
    rw [e, textFrom_length_pos _ _ _ (by decide), strLen_append, strLen_append, piled_cons]
    have e1 : (("[" : String) : Str).length = 1 := rfl
    have e2 : (("" : String) : Str).length = 0 := rfl
    rw [e1, e2]
    omega
theorem Ok.tuple {k B : Nat} {xs : List PyData} (h : ∀ x ∈ xs, Ok k B x) : Ok (k + 1) (3 + xs.length * (B + 2)) (.tuple xs) := by
  obtain ⟨h1, h2, h3, h4⟩ := okAll h
  refine ⟨by rw [PyData.showable]; exact h1, by rw [PyData.hasDict]; exact h2, by rw [PyData.depth]; omega, ?_⟩
  rw [PyData.shown]
  exact Nat.le_trans (tupleText_le _) (by omega)
theorem Ok.list {k B : Nat} {xs : List PyData} (h : ∀ x ∈ xs, Ok k B x) : Ok (k + 1) (3 + xs.length * (B + 2)) (.list xs) := by
  obtain ⟨h1, h2, h3, h4⟩ := okAll h
  refine ⟨by rw [PyData.showable]; exact h1, by rw [PyData.hasDict]; exact h2, by rw [PyData.depth]; omega, ?_⟩
  rw [PyData.shown]
  exact Nat.le_trans (listText_le _) (by omega)
theorem ok_int_small : ∀ i : Fin 62, (PyData.int ((i.val : Nat) : Int)).shown.length ≤ 3 ∧ (PyData.str (Str.ofString (toString ((i.val : Nat) : Int)))).shown.length ≤ 8 := by
  intro i
  rw [PyData.shown, PyData.shown]
  revert i
  decide +kernel
end k01

set_option Elab.async false
set_option linter.all false
set_option maxRecDepth 100000
set_option maxHeartbeats 1000000
namespace k01
open PySem PySem.Spec PyProof.Rows L2 Mv Cyc
theorem reprT {m : Mem} {xs : List D} {p : PyData} (h : res m (.tup xs) = some p) (ok : Ok 60 100000 p) : gReprA [.tup xs] m = some (.str p.shown, m) := by
  show ((res m (.tup xs)).bind fun p => if p.showable = true ∧ p.hasDict = false ∧ p.depth ≤ 60 ∧ p.shown.length ≤ 100000 then some (D.str p.shown, m) else none) = _
  rw [h, Option.bind_some, if_pos ⟨ok.sh, ok.nd, ok.dp, ok.ln⟩]
theorem reprL {m : Mem} {l : Nat} {p : PyData} (h : res m (.loc l) = some p) (ok : Ok 60 100000 p) : gReprA [.loc l] m = some (.str p.shown, m) := by
  show ((res m (.loc l)).bind fun p => if p.showable = true ∧ p.hasDict = false ∧ p.depth ≤ 60 ∧ p.shown.length ≤ 100000 then some (D.str p.shown, m) else none) = _
  rw [h, Option.bind_some, if_pos ⟨ok.sh, ok.nd, ok.dp, ok.ln⟩]
theorem pyAll_map : ∀ xs : List D, D.pyAll xs = xs.map D.py
  | [] => by rw [D.pyAll]; rfl
  | x :: xs => by rw [D.pyAll, pyAll_map xs]; rfl
theorem py_tup (xs : List D) : (D.tup xs).py = .tuple (xs.map D.py) := by rw [D.py, pyAll_map]
theorem py_int (i : Int) : (D.int i).py = .int i := by rw [D.py]
theorem ok_int {i : Nat} (h : i < 62) : Ok 0 3 (.int (i : Nat)) := by
  refine ⟨?_, by rw [PyData.hasDict], by rw [PyData.depth]; exact Nat.le_refl _, (ok_int_small ⟨i, h⟩).1⟩
  rw [PyData.showable]
  have : (((i : Nat) : Int).natAbs).log2 ≤ i := by rw [Int.natAbs_natCast]; exact Nat.log2_le_self i
  exact decide_eq_true (by omega)
theorem ok_mv {n : Nat} {f : Nat → Nat} (h : IsM n f) : Ok 1 303 (mvD n f).py := by
  unfold mvD
  rw [py_tup]
  have hi := h.hi
  have hl : ((tab n fun y => D.int (f y : Nat)).map D.py).length = n := by rw [List.length_map, tab_len]
  refine (Ok.tuple (k := 0) (B := 3) fun x hx => ?_).up (Nat.le_refl _) (by rw [hl]; omega)
  obtain ⟨d, hd, rfl⟩ := List.mem_map.mp hx
  obtain ⟨y, hy, rfl⟩ := List.mem_map.mp hd
  rw [py_int]
  exact ok_int (by have := h.p.lt y (List.mem_range.mp hy); omega)
theorem repr_mv {m : Mem} {n : Nat} {f : Nat → Nat} (h : IsM n f) : gReprA [mvD n f] m = some (.str (mvD n f).py.shown, m) :=
  reprT (res_pure (pure_mvD n f)) ((ok_mv h).up (by decide) (by decide))
theorem ok_row {n : Nat} {f : Nat → Nat} (h : IsM n f) {r : List Nat} (hr : r ∈ rows f n) : Ok 1 303 (rowD r).py := by
  have hi := h.hi
  obtain ⟨j, hj, rfl⟩ := h.p.rows_mem n (Nat.le_refl _) r hr
  unfold rowD rowL
  rw [py_tup]
  have hp := (h.p.per_spec hj).2.2.2
  have hl : (((orb f j).map fun y => D.int (y : Nat)).map D.py).length = per f j := by rw [List.length_map, List.length_map, orb_len]
  refine (Ok.tuple (k := 0) (B := 3) fun x hx => ?_).up (Nat.le_refl _) (by rw [hl]; omega)
  obtain ⟨d, hd, rfl⟩ := List.mem_map.mp hx
  obtain ⟨y, hy, rfl⟩ := List.mem_map.mp hd
  rw [py_int]
  exact ok_int (by have := h.p.orb_lt hj hy; omega)
theorem repr_rounds {m : Mem} {n : Nat} {f : Nat → Nat} (h : IsM n f) : gReprA [.tup (roundsL f n)] m = some (.str (D.tup (roundsL f n)).py.shown, m) := by
  have hi := h.hi
  have hr := rows_len f n
  refine reprT (res_pure (by rw [D.pure]; exact pure_rows _)) ?_
  rw [py_tup]
  have hl : ((roundsL f n).map D.py).length ≤ 60 := by
    unfold roundsL
    rw [List.length_map, List.length_map]
    have := List.length_filter_le (fun r : List Nat => decide (1 < r.length)) (rows f n)
    omega
  refine (Ok.tuple (k := 1) (B := 303) fun x hx => ?_).up (by decide) (by omega)
  obtain ⟨d, hd, rfl⟩ := List.mem_map.mp hx
  obtain ⟨r, hr, rfl⟩ := List.mem_map.mp hd
  exact ok_row h (List.mem_filter.mp hr).1
noncomputable def F_law_same : GN := Fof N_law_same 2 g_law_same
theorem same_ev {m : Mem} {a b : D} {s : Str} (h1 : gReprA [a] m = some (.str s, m)) (h2 : gReprA [b] m = some (.str s, m)) : F_law_same [a, b] m = some (.bl true, m) := by
  refine Fof_pure (t := []) (o := .rt (.bl true) m) rfl ?_ (by rw [List.append_nil]; rfl) rfl (Kept.ext m [])
  have e : startE N_law_same [a, b] = [some a, some b] := rfl
  rw [e]
  unfold g_law_same
  have q : gEqS (.str s) (.str s) m = some (.bl true, m) := by show some (D.bl (decide (s = s)), m) = _; rw [decide_eq_true rfl]
  simp only [fsSeq, fsRet, fsRetN, fsIf, fsAsg, fsDrop, fsPar, fVar, fC, fCons, fNil, fCall, fOp, fUn, fOn, fTest, fTru, fNotT, fAndT, fOrT, fAnd, fOr, fNot, fIf, fChain, fName, fTupG, fsCons, fsNil, fPut, fLst, fTup, asB, asI, Option.bind_some, Option.map_some, Option.bind_none, Option.map_none, Option.join_some, List.getElem?_cons_zero, List.getElem?_cons_succ, fsNever, fsNext, fSeq, seqOf, fYes, fLCall, fPart, fNoPart, fSl, List.length_cons, List.length_nil, fIxN, fRange1, fRange2, fEnum, fDown, fLenSet, fRev, fTRg1, fRg1, h1, h2, q]
theorem inv_m {n : Nat} {f : Nat → Nat} (h : IsM n f) : IsM n (invF f n) := ⟨h.lo, h.hi, inv_perm h.p⟩
theorem comp_m {n : Nat} {f g : Nat → Nat} (hf : IsM n f) (hg : IsM n g) : IsM n fun y => g (f y) := ⟨hf.lo, hf.hi, ⟨fun x hx => hg.p.lt _ (hf.p.lt x hx), fun x y hx hy e => hf.p.inj x y hx hy (hg.p.inj _ _ (hf.p.lt x hx) (hf.p.lt y hy) e)⟩⟩
theorem rais_m {n : Nat} {f : Nat → Nat} (h : IsM n f) (t : Int) : IsM n (raisF f t) := by
  refine ⟨h.lo, h.hi, ⟨fun x hx => h.p.it_lt hx _, fun x y hx hy e => ?_⟩⟩
  unfold raisF at e
  have h1 : it f (t % (per f x : Nat)).toNat x ∈ orb f x := (h.p.mem_orb hx).mpr ⟨_, rfl⟩
  have h2 : it f (t % (per f y : Nat)).toNat y ∈ orb f y := (h.p.mem_orb hy).mpr ⟨_, rfl⟩
  rw [← e] at h2
  have hz := h.p.orb_lt hx h1
  have h3 : per f x = per f y := by rw [← h.p.per_eq hx h1, ← h.p.per_eq hy h2]
  rw [h3] at e
  exact h.p.it_inj hx hy _ e
noncomputable def F_law_told_right : GN := Fof N_law_told_right 3 (g_law_told_right F_law_same F_then F_law_then F_undo F_law_undo F_raised F_law_raised_due F_sign F_law_sign_due F_law_all_rounds F_rounds F_law_turns_right F_turns)
theorem repr_sign {m : Mem} {n : Nat} {f : Nat → Nat} : gReprA [.int (signV f n)] m = some (.str (toString (signV f n)), m) := by
  show (if (signV f n).natAbs.log2 < 1920 then some (D.str (toString (signV f n)), m) else none) = _
  unfold signV
  split <;> rfl
theorem told_right_ev {m : Mem} {n : Nat} {f g : Nat → Nat} {u : Int} (hf : IsM n f) (hg : IsM n g) : F_law_told_right [mvD n f, mvD n g, .int u] m = some (.bl true, m) := by
  have hi := hf.hi
  have hr := rows_len f n
  refine Fof_pure (t := [.lst ((rows f n).map rowD)]) (o := .rt (.bl true) (m ++ [.lst ((rows f n).map rowD)])) rfl ?_ rfl rfl (Kept.ext m _)
  have e : startE N_law_told_right [mvD n f, mvD n g, .int u] = [some (mvD n f), some (mvD n g), some (.int u), none, none] := rfl
  rw [e]
  unfold g_law_told_right
  have h1 : ∀ mm, F_law_same [mvD n fun y => g (f y), mvD n fun y => g (f y)] mm = some (.bl true, mm) := fun mm => same_ev (repr_mv (comp_m hf hg)) (repr_mv (comp_m hf hg))
  have h2 : ∀ mm, F_law_same [mvD n (invF f n), mvD n (invF f n)] mm = some (.bl true, mm) := fun mm => same_ev (repr_mv (inv_m hf)) (repr_mv (inv_m hf))
  have h3 : ∀ mm, F_law_same [mvD n (raisF f u), mvD n (raisF f u)] mm = some (.bl true, mm) := fun mm => same_ev (repr_mv (rais_m hf u)) (repr_mv (rais_m hf u))
  have h4 : ∀ mm, F_law_same [.int (signV f n), .int (signV f n)] mm = some (.bl true, mm) := fun mm => same_ev repr_sign repr_sign
  have h5 : ∀ mm, F_law_same [.tup (roundsL f n), .tup (roundsL f n)] mm = some (.bl true, mm) := fun mm => same_ev (repr_rounds hf) (repr_rounds hf)
  have h6 : lc_law_told_right_1 F_law_same F_then F_law_then F_undo F_law_undo F_raised F_law_raised_due F_sign F_law_sign_due F_law_all_rounds F_rounds F_law_turns_right F_turns [some (mvD n f), some (mvD n g), some (.int u), none, none] m = some (roundsL f n, m ++ [.lst ((rows f n).map rowD)]) := by
    unfold lc_law_told_right_1
    rw [lc_evR (xs := (rows f n).map rowD) (l := m.length) (m := m ++ [.lst ((rows f n).map rowD)]) ?_ rd_last (by simp; omega) (fun d => if 1 < lenD d then some d else none) fun y hy => ?_]
    · unfold roundsL
      rw [filt_rows]
      intro r
      have : lenD (rowD r) = r.length := by show (rowL r).length = _; unfold rowL; rw [List.length_map]
      rw [this]
    · simp only [fsSeq, fsRet, fsRetN, fsIf, fsAsg, fsDrop, fsPar, fVar, fC, fCons, fNil, fCall, fOp, fUn, fOn, fTest, fTru, fNotT, fAndT, fOrT, fAnd, fOr, fNot, fIf, fChain, fName, fTupG, fsCons, fsNil, fPut, fLst, fTup, asB, asI, Option.bind_some, Option.map_some, Option.bind_none, Option.map_none, Option.join_some, List.getElem?_cons_zero, List.getElem?_cons_succ, fsNever, fsNext, fSeq, seqOf, fYes, fLCall, fPart, fNoPart, fSl, List.length_cons, List.length_nil, fIxN, fRange1, fRange2, fEnum, fDown, fLenSet, fRev, fTRg1, fRg1, law_all_rounds_ev hf]
      rw [rd_last]; rfl
    · obtain ⟨r, _, rfl⟩ := List.mem_map.mp hy
      have : lenD (rowD r) = r.length := by show (rowL r).length = _; unfold rowL; rw [List.length_map]
      have e : wipeE [some (mvD n f), some (mvD n g), some (.int u), none, none] [4] = [some (mvD n f), some (mvD n g), some (.int u), none, none] := rfl
      rw [e, this]
      unfold fElt
      simp only [fsSeq, fsRet, fsRetN, fsIf, fsAsg, fsDrop, fsPar, fVar, fC, fCons, fNil, fCall, fOp, fUn, fOn, fTest, fTru, fNotT, fAndT, fOrT, fAnd, fOr, fNot, fIf, fChain, fName, fTupG, fsCons, fsNil, fPut, fLst, fTup, asB, asI, Option.bind_some, Option.map_some, Option.bind_none, Option.map_none, Option.join_some, List.getElem?_cons_zero, List.getElem?_cons_succ, fsNever, fsNext, fSeq, seqOf, fYes, fLCall, fPart, fNoPart, fSl, List.length_cons, List.length_nil, fIxN, fRange1, fRange2, fEnum, fDown, fLenSet, fRev, fTRg1, fRg1, List.set_cons_succ, List.set_cons_zero, gLen_row, gGt, gInt0]
      by_cases q : 1 < r.length
      · have q' : (1 : Int) < (r.length : Nat) := by omega
        simp only [q, q', decide_true, if_true]
      · have q' : ¬ (1 : Int) < (r.length : Nat) := by omega
        simp only [q, q', decide_false, Bool.false_eq_true, if_false]
  simp only [fsSeq, fsRet, fsRetN, fsIf, fsAsg, fsDrop, fsPar, fVar, fC, fCons, fNil, fCall, fOp, fUn, fOn, fTest, fTru, fNotT, fAndT, fOrT, fAnd, fOr, fNot, fIf, fChain, fName, fTupG, fsCons, fsNil, fPut, fLst, fTup, asB, asI, Option.bind_some, Option.map_some, Option.bind_none, Option.map_none, Option.join_some, List.getElem?_cons_zero, List.getElem?_cons_succ, fsNever, fsNext, fSeq, seqOf, fYes, fLCall, fPart, fNoPart, fSl, List.length_cons, List.length_nil, fIxN, fRange1, fRange2, fEnum, fDown, fLenSet, fRev, fTRg1, fRg1, then_ev hf hg, law_then_ev hf hg, h1, tru, Bool.not_true, Bool.false_eq_true, if_false, undo_ev hf, law_undo_ev hf, h2, raised_ev hf, raised_due_ev hf, h3, sign_ev hf, sign_due_ev hf, h4, h6, gTupN, List.set_cons_succ, List.set_cons_zero, rounds_ev hf, h5, if_true, turns_ev' hf, turns_right_ev hf]
end k01

set_option Elab.async false
set_option linter.all false
set_option maxRecDepth 100000
set_option maxHeartbeats 1000000
namespace k01
open PySem PySem.Spec PyProof.Rows L2 Mv Cyc
theorem typed_lst {m : Mem} {l : Nat} {xs : List D} (h : m[l]? = some (.lst xs)) : typed m (.loc l) = true := by
  show (match m[l]? with | some (.lst _) => true | some (.dK _ _) => true | some (.dT _ _) => true | _ => false) = true
  rw [h]
theorem typed_dK {m : Mem} {l : Nat} {ks : List Key} {xs : List D} (h : m[l]? = some (.dK ks xs)) : typed m (.loc l) = true := by
  show (match m[l]? with | some (.lst _) => true | some (.dK _ _) => true | some (.dT _ _) => true | _ => false) = true
  rw [h]
structure Elt (mm : Mem) (x : D) : Prop where
  ty : typed mm x = true
  sh : ∃ p, D.pyF (lookN mm 3) x = some p ∧ Ok 3 400 p
structure Thing (mm : Mem) (d : D) : Prop where
  ty : typed mm d = true
  el : ∀ xs, d = .tup xs → ∀ x ∈ xs, typed mm x = true
  sh : ∃ s, gReprA [d] mm = some (.str s, mm)
theorem pyFAll_elt {mm : Mem} : ∀ {xs : List D}, (∀ x ∈ xs, Elt mm x) → ∃ ps, D.pyFAll (lookN mm 3) xs = some ps ∧ ps.length = xs.length ∧ ∀ p ∈ ps, Ok 3 400 p
  | [], _ => ⟨[], by rw [D.pyFAll], rfl, by simp⟩
  | x :: xs, h => by
    obtain ⟨p, h1, h2⟩ := (h x (by simp)).sh
    obtain ⟨ps, h3, h4, h5⟩ := pyFAll_elt (xs := xs) fun y hy => h y (by simp [hy])
    refine ⟨p :: ps, by rw [D.pyFAll, h1, h3]; rfl, by rw [List.length_cons, List.length_cons, h4], fun q hq => ?_⟩
    rcases List.mem_cons.mp hq with e | hq
    · rw [e]; exact h2
    · exact h5 q hq
theorem thing_tup {mm : Mem} {xs : List D} (h : ∀ x ∈ xs, Elt mm x) (hl : xs.length ≤ 200) : Thing mm (.tup xs) := by
  refine ⟨rfl, fun ys e x hx => ?_, ?_⟩
  · cases e
    exact (h x hx).ty
  · obtain ⟨ps, h1, h2, h3⟩ := pyFAll_elt h
    have hr : res mm (.tup xs) = some (.tuple ps) := by
      show D.pyF (lookN mm 3) (.tup xs) = _
      rw [D.pyF, h1]; rfl
    exact ⟨_, reprT hr ((Ok.tuple h3).up (by decide) (by omega))⟩
def noS : D → Bool
  | .stp _ => false
  | .ins _ _ _ => false
  | _ => true
theorem elt_pure {mm : Mem} {x : D} (hp : x.pure = true) (ok : Ok 3 400 x.py) (hn : noS x = true := by rfl) : Elt mm x := by
  refine ⟨?_, x.py, D.pyF_pure _ x hp, ok⟩
  cases x with
  | loc l => cases hp
  | ty n => cases hp
  | kl n => cases hp
  | cls n => cases hp
  | ins n ks xs => cases hn
  | stp xs => cases hn
  | _ => rfl
theorem elt_int {mm : Mem} {i : Nat} (h : i < 62) : Elt mm (.int (i : Nat)) := elt_pure (by rw [D.pure]) (by rw [py_int]; exact (ok_int h).up (by decide) (by decide))
theorem ok_odd : (PyData.int (-1)).showable = true ∧ (PyData.int (-1)).shown.length ≤ 400 ∧ (PyData.int (10 ^ 20)).showable = true ∧ (PyData.int (10 ^ 20)).shown.length ≤ 400 ∧ (PyData.bool true).shown.length ≤ 400 ∧ (PyData.bool false).shown.length ≤ 400 ∧ PyData.none.shown.length ≤ 400 := by
  rw [PyData.showable, PyData.showable, PyData.shown, PyData.shown, PyData.shown, PyData.shown, PyData.shown]
  decide +kernel
theorem atI_mem {xs : List D} {v : Int} (h0 : 0 ≤ v) (h1 : v < xs.length) : ∃ d ∈ xs, atI xs v = some d := by
  obtain ⟨k, rfl⟩ : ∃ u : Nat, v = (u : Nat) := ⟨v.toNat, by omega⟩
  have hk : k < xs.length := by omega
  exact ⟨xs[k], List.getElem_mem hk, atI_nat (List.getElem?_eq_getElem hk)⟩
theorem cut_mem {xs : List D} {lo hi : Option Int} {x : D} (h : x ∈ Mv.cutD xs lo hi) : x ∈ xs := by
  unfold Mv.cutD at h
  exact List.mem_of_mem_drop (List.mem_of_mem_take h)
theorem cut_len {xs : List D} {lo hi : Option Int} : (Mv.cutD xs lo hi).length ≤ xs.length := by
  unfold Mv.cutD
  rw [List.length_take, List.length_drop]
  omega
theorem addT {xs ys : List D} {m : Mem} (h : xs.length + ys.length ≤ 100000) : gAdd (.tup xs) (.tup ys) m = some (.tup (xs ++ ys), m) := if_pos h
theorem cons_ev {fe : FE} {fr : FA} {e : Sl} {m m1 m2 : Mem} {d : D} {ds : List D} (h : fe e m = some (d, m1)) (h2 : fr e m1 = some (ds, m2)) : fCons fe fr e m = some (d :: ds, m2) := by
  unfold fCons
  rw [h, Option.bind_some, h2]; rfl
theorem nil_ev {e : Sl} {m : Mem} : fNil e m = some ([], m) := rfl
theorem put_ev {f : FA} {e : Sl} {m m1 : Mem} {xs : List D} (h : f e m = some (xs, m1)) : fPut f e m = some (.loc m1.length, m1 ++ [.lst xs]) := by
  unfold fPut
  rw [h]; rfl
theorem lst_ev {f : FA} {e : Sl} {m m1 : Mem} {xs : List D} (h : f e m = some (xs, m1)) (hl : xs.length ≤ 100000) : fLst f e m = some (xs, m1) := by
  unfold fLst
  rw [h, Option.bind_some, if_pos hl]
theorem tup_ev {f : FA} {e : Sl} {m m1 : Mem} {xs : List D} (h : f e m = some (xs, m1)) (hl : xs.length ≤ 100000) : fTup f e m = some (.tup xs, m1) := by
  unfold fTup
  rw [h, Option.bind_some, if_pos hl]
noncomputable def F_law_bent : GN := Fof0 N_law_bent 2 (g_law_bent F_law_take)
theorem pool_app {l : Nat} {m t : Mem} (h : PoolAt l m) : PoolAt l (m ++ t) := by
  obtain ⟨a, b, c, q, q2⟩ := h
  exact ⟨a, b, c, by rw [List.getElem?_append_left (List.getElem?_eq_some_iff.mp q).1]; exact q, q2⟩
theorem bent_ev {m : Mem} {l n : Nat} {f : Nat → Nat} (hf : IsM n f) (hp : PoolAt l m) : ∃ d m', F_law_bent [.loc l, mvD n f] m = some (d, m') ∧ PoolAt l m' ∧ Thing m' d := by
  have hi := hf.hi
  have hlo := hf.lo
  obtain ⟨v1, m1, u1, u2, u3, u4, u5⟩ := take_ev (k := (n : Nat)) hp (by omega) (by omega)
  obtain ⟨way, m2, x1, x2, x3, x4, x5⟩ := take_ev (k := 9) u4 (by decide) (by decide)
  obtain ⟨a, rfl⟩ : ∃ u : Nat, v1 = (u : Nat) := ⟨v1.toNat, by omega⟩
  have ha : a < n := by omega
  have hfa := hf.p.lt a ha
  have hl : l < m2.length := by
    obtain ⟨_, _, _, q, _⟩ := x4
    exact (List.getElem?_eq_some_iff.mp q).1
  -- the number ahead
  obtain ⟨w, hw, hwx⟩ : ∃ w, w < 62 ∧ ∀ mm, gIx (mvD n f) (.int ((a : Nat) - 1)) mm = some (.int (w : Nat), mm) := by
    by_cases h0 : a = 0
    · refine ⟨f (n - 1), by have := hf.p.lt (n - 1) (by omega); omega, fun mm => ?_⟩
      have e1 : ((a : Nat) : Int) - 1 = -1 := by omega
      have e2 : (tab n fun y => D.int (f y : Nat)) = tab (n - 1) (fun y => D.int (f y : Nat)) ++ [.int (f (n - 1) : Nat)] := by
        rw [← tab_succ, Nat.sub_add_cancel hlo]
      rw [e1]
      show (atI (tab n fun y => D.int (f y : Nat)) (-1)).map _ = _
      rw [e2, atI_last]; rfl
    · refine ⟨f (a - 1), by have := hf.p.lt (a - 1) (by omega); omega, fun mm => ?_⟩
      have e1 : ((a : Nat) : Int) - 1 = ((a - 1 : Nat) : Int) := by omega
      rw [e1]
      exact gIx_mv (by omega)
  let odds : List D := [.int (n : Nat), .int (0 - 1), .bl true, .bl false, .non, .str (toString ((f a : Nat) : Int)), .tup [.int (f a : Nat)], .loc m2.length, .int (w : Nat), .int (10 ^ 20)]
  have hpm : PoolAt l (m2 ++ [.lst [.int (f a : Nat)], .lst odds]) := pool_app x4
  obtain ⟨v3, m3, y1, y2, y3, y4, y5⟩ := take_ev (k := 10) hpm (by decide) (by decide)
  obtain ⟨odd, hodd, hox⟩ := atI_mem (xs := odds) y2 y3
  let T : List D := tab n fun y => .int (f y : Nat)
  have hTl : T.length = n := tab_len _ _
  let A1 : List D := Mv.cutD T none (some (a : Nat))
  let A2 : List D := Mv.cutD T (some ((a : Nat) + 1)) none
  have hA1 : A1.length ≤ n := Nat.le_trans cut_len (by rw [hTl]; exact Nat.le_refl _)
  have hA2 : A2.length ≤ n := Nat.le_trans cut_len (by rw [hTl]; exact Nat.le_refl _)
  have hC : (Mv.cutD T none (some 1)).length ≤ n := Nat.le_trans cut_len (by rw [hTl]; exact Nat.le_refl _)
  let S : List D := [.tup (A1 ++ A2), .tup (T ++ [.int (n : Nat)]), .tup (T ++ Mv.cutD T none (some 1)), .loc m3.length, .tup ((A1 ++ [odd]) ++ A2)]
  let S2 : List D := [.tup ((A1 ++ [odd]) ++ A2), .tup [mvD n f], .tup T.reverse, .tup (rangeD 0 61)]
  let mm : Mem := m3 ++ [.lst T, .lst S, .lst S2, .lst (S ++ S2)]
  obtain ⟨d, hd, hdx⟩ := atI_mem (xs := S ++ S2) x2 (by show way < ((9 : Nat) : Int); omega)
  have hm3 : m3.length = m2.length + 2 := by rw [y5.1, List.length_append]; rfl
  have hg1 : mm[m2.length]? = some (.lst [.int (f a : Nat)]) := by
    show (m3 ++ _)[m2.length]? = _
    rw [List.getElem?_append_left (by omega), y5.2 _ (by omega)]
    exact get_off m2 _ 0
  have eT : ∀ x ∈ T, Elt mm x := fun x hx => by
    obtain ⟨y, hy, rfl⟩ := List.mem_map.mp hx
    exact elt_int (by have := hf.p.lt y (List.mem_range.mp hy); omega)
  have eO : ∀ x ∈ odds, Elt mm x := by
    obtain ⟨o1, o2, o3, o4, o5, o6, o7⟩ := ok_odd
    intro x hx
    simp only [odds, List.mem_cons, List.not_mem_nil, or_false] at hx
    rcases hx with rfl | rfl | rfl | rfl | rfl | rfl | rfl | rfl | rfl | rfl
    · exact elt_int (by omega)
    · exact elt_pure (by rw [D.pure]) (by rw [py_int]; exact ⟨o1, by rw [PyData.hasDict], by rw [PyData.depth]; omega, o2⟩)
    · exact elt_pure (by rw [D.pure]) (by rw [D.py]; exact ⟨by rw [PyData.showable], by rw [PyData.hasDict], by rw [PyData.depth]; omega, o5⟩)
    · exact elt_pure (by rw [D.pure]) (by rw [D.py]; exact ⟨by rw [PyData.showable], by rw [PyData.hasDict], by rw [PyData.depth]; omega, o6⟩)
    · exact elt_pure (by rw [D.pure]) (by rw [D.py]; exact ⟨by rw [PyData.showable], by rw [PyData.hasDict], by rw [PyData.depth]; omega, o7⟩)
    · exact elt_pure (by rw [D.pure]) (by rw [D.py]; exact ⟨by rw [PyData.showable], by rw [PyData.hasDict], by rw [PyData.depth]; omega, Nat.le_trans (ok_int_small ⟨f a, by omega⟩).2 (by decide)⟩)
    · refine elt_pure (by rw [D.pure, D.pureAll, D.pure, D.pureAll]; rfl) ?_
      rw [py_tup]
      refine (Ok.tuple (k := 0) (B := 3) fun p hp => ?_).up (by decide) (by simp)
      have : p = .int (f a : Nat) := by simpa [py_int] using hp
      rw [this]; exact ok_int (by omega)
    · refine ⟨?_, .list [.int (f a : Nat)], ?_, ?_⟩
      · exact typed_lst hg1
      · rw [D.pyF]
        show (rd mm m2.length).bind _ = _
        rw [rd_of hg1, Option.bind_some, D.pyFAll, D.pyF, D.pyFAll]; rfl
      · refine (Ok.list (k := 0) (B := 3) fun p hp => ?_).up (by decide) (by simp)
        have : p = .int (f a : Nat) := by simpa using hp
        rw [this]; exact ok_int (by omega)
    · exact elt_int hw
    · exact elt_pure (by rw [D.pure]) (by rw [py_int]; exact ⟨o3, by rw [PyData.hasDict], by rw [PyData.depth]; omega, o4⟩)
  have eodd : Elt mm odd := eO odd hodd
  have eA1 : ∀ x ∈ A1, Elt mm x := fun x hx => eT x (cut_mem hx)
  have eA2 : ∀ x ∈ A2, Elt mm x := fun x hx => eT x (cut_mem hx)
  have eB : ∀ x ∈ (A1 ++ [odd]) ++ A2, Elt mm x := fun x hx => by
    rcases List.mem_append.mp hx with hx | hx
    · rcases List.mem_append.mp hx with hx | hx
      · exact eA1 x hx
      · have : x = odd := by simpa using hx
        rw [this]; exact eodd
    · exact eA2 x hx
  have lB : ((A1 ++ [odd]) ++ A2).length ≤ 200 := by rw [List.length_append, List.length_append]; simp only [List.length_singleton]; omega
  have hth : Thing mm d := by
    have hd' : d ∈ [D.tup (A1 ++ A2), .tup (T ++ [.int (n : Nat)]), .tup (T ++ Mv.cutD T none (some 1)), .loc m3.length, .tup ((A1 ++ [odd]) ++ A2), .tup ((A1 ++ [odd]) ++ A2), .tup [mvD n f], .tup T.reverse, .tup (rangeD 0 61)] := hd
    simp only [List.mem_cons, List.not_mem_nil, or_false] at hd'
    rcases hd' with e | e | e | e | e | e | e | e | e <;> rw [e]
    · exact thing_tup (fun x hx => (List.mem_append.mp hx).elim (eA1 x) (eA2 x)) (by rw [List.length_append]; omega)
    · refine thing_tup (fun x hx => (List.mem_append.mp hx).elim (eT x) fun hx => ?_) (by rw [List.length_append, hTl]; simp only [List.length_singleton]; omega)
      have : x = .int (n : Nat) := by simpa using hx
      rw [this]; exact elt_int (by omega)
    · exact thing_tup (fun x hx => (List.mem_append.mp hx).elim (eT x) fun hx => eT x (cut_mem hx)) (by rw [List.length_append, hTl]; omega)
    · have hg : mm[m3.length]? = some (.lst T) := get_off m3 _ 0
      refine ⟨typed_lst hg, fun xs e' => (by cases e'), ?_⟩
      have hr : res mm (.loc m3.length) = some (.list (T.map D.py)) := by
        show D.pyF (lookN mm 3) (.loc m3.length) = _
        rw [D.pyF]
        show (rd mm m3.length).bind _ = _
        rw [rd_of hg, Option.bind_some, D.pyFAll_pure _ T (pure_ints n _), pyAll_map]; rfl
      refine ⟨_, reprL hr ((Ok.list (k := 0) (B := 3) fun p hp => ?_).up (by decide) (by rw [List.length_map, hTl]; omega))⟩
      obtain ⟨x, hx, rfl⟩ := List.mem_map.mp hp
      obtain ⟨y, hy, rfl⟩ := List.mem_map.mp hx
      rw [py_int]
      exact ok_int (by have := hf.p.lt y (List.mem_range.mp hy); omega)
    · exact thing_tup eB lB
    · exact thing_tup eB lB
    · refine thing_tup (fun x hx => ?_) (by simp)
      have : x = mvD n f := by simpa using hx
      rw [this]
      exact elt_pure (pure_mvD n f) ((ok_mv hf).up (by decide) (by decide))
    · exact thing_tup (fun x hx => eT x (List.mem_reverse.mp hx)) (by rw [List.length_reverse, hTl]; omega)
    · refine thing_tup (fun x hx => ?_) (by rw [rangeD_length]; omega)
      rw [tab_range] at hx
      obtain ⟨y, hy, rfl⟩ := List.mem_map.mp hx
      exact elt_int (by have := List.mem_range.mp hy; omega)
  refine ⟨d, mm, Fof0_of (o := .rt d mm) rfl ?_ rfl, pool_app y4, hth⟩
  have e : startE N_law_bent [.loc l, mvD n f] = [some (.loc l), some (mvD n f), none, none, none, none] := rfl
  rw [e]
  unfold g_law_bent
  refine seq_ev (e1 := [some (.loc l), some (mvD n f), some (.int (a : Nat)), some (.int way), none, none]) (m1 := m2) ?_ (seq_ev (e1 := [some (.loc l), some (mvD n f), some (.int (a : Nat)), some (.int way), some (.loc (m2.length + 1)), none]) (m1 := m2 ++ [.lst [.int (f a : Nat)], .lst odds]) ?_ (seq_ev (e1 := [some (.loc l), some (mvD n f), some (.int (a : Nat)), some (.int way), some odd, none]) (m1 := m3) ?_
    (seq_ev (e1 := [some (.loc l), some (mvD n f), some (.int (a : Nat)), some (.int way), some odd, some (.loc (m3.length + 1))]) (m1 := m3 ++ [.lst T, .lst S]) ?_ (seq_ev (e1 := [some (.loc l), some (mvD n f), some (.int (a : Nat)), some (.int way), some odd, some (.loc (m3.length + 3))]) (m1 := mm) ?_ ?_))))
  · simp only [fsSeq, fsRet, fsRetN, fsIf, fsAsg, fsDrop, fsPar, fVar, fC, fCons, fNil, fCall, fOp, fUn, fOn, fTest, fTru, fNotT, fAndT, fOrT, fAnd, fOr, fNot, fIf, fChain, fName, fTupG, fsCons, fsNil, fPut, fLst, fTup, asB, asI, Option.bind_some, Option.map_some, Option.bind_none, Option.map_none, Option.join_some, List.getElem?_cons_zero, List.getElem?_cons_succ, fsNever, fsNext, fSeq, seqOf, fYes, fLCall, fPart, fNoPart, fSl, List.length_cons, List.length_nil, fIxN, fRange1, fRange2, fEnum, fDown, fLenSet, fRev, fTRg1, fRg1, gLen_mv, u1, x1, List.set_cons_succ, List.set_cons_zero]
  · have hs : ∀ mm, gStrI [.int (f a : Nat)] mm = some (.str (toString ((f a : Nat) : Int)), mm) := fun mm => by
      have : (((f a : Nat) : Int).natAbs).log2 ≤ f a := by rw [Int.natAbs_natCast]; exact Nat.log2_le_self _
      exact if_pos (by omega)
    have hpw : ∀ mm, gPow (.int 10) (.int 20) mm = some (.int (10 ^ 20), mm) := fun mm => rfl
    have hsub : ∀ mm, Mv.gSub (.int (a : Nat)) (.int 1) mm = some (.int ((a : Nat) - 1), mm) := fun mm => rfl
    have hsub2 : ∀ mm, Mv.gSub (.int 0) (.int 1) mm = some (.int (0 - 1), mm) := fun mm => rfl
    simp only [fsSeq, fsRet, fsRetN, fsIf, fsAsg, fsDrop, fsPar, fVar, fC, fCons, fNil, fCall, fOp, fUn, fOn, fTest, fTru, fNotT, fAndT, fOrT, fAnd, fOr, fNot, fIf, fChain, fName, fTupG, fsCons, fsNil, fPut, fLst, fTup, asB, asI, Option.bind_some, Option.map_some, Option.bind_none, Option.map_none, Option.join_some, List.getElem?_cons_zero, List.getElem?_cons_succ, fsNever, fsNext, fSeq, seqOf, fYes, fLCall, fPart, fNoPart, fSl, List.length_cons, List.length_nil, fIxN, fRange1, fRange2, fEnum, fDown, fLenSet, fRev, fTRg1, fRg1, gLen_mv, hsub2, gIx_mv ha, hs, hsub, hwx, hpw, List.set_cons_succ, List.set_cons_zero, Nat.reduceAdd, Nat.reduceLeDiff, if_true, List.length_append, List.append_assoc, List.cons_append, List.nil_append]
    rfl
  · have hg : gIx (.loc (m2.length + 1)) (.int v3) m3 = some (odd, m3) := by
      show (rd m3 (m2.length + 1)).bind _ = _
      have q : m3[m2.length + 1]? = some (.lst odds) := by
        rw [y5.2 _ (by omega)]
        exact get_off m2 _ 1
      rw [rd_of q, Option.bind_some, hox]; rfl
    simp only [fsSeq, fsRet, fsRetN, fsIf, fsAsg, fsDrop, fsPar, fVar, fC, fCons, fNil, fCall, fOp, fUn, fOn, fTest, fTru, fNotT, fAndT, fOrT, fAnd, fOr, fNot, fIf, fChain, fName, fTupG, fsCons, fsNil, fPut, fLst, fTup, asB, asI, Option.bind_some, Option.map_some, Option.bind_none, Option.map_none, Option.join_some, List.getElem?_cons_zero, List.getElem?_cons_succ, fsNever, fsNext, fSeq, seqOf, fYes, fLCall, fPart, fNoPart, fSl, List.length_cons, List.length_nil, fIxN, fRange1, fRange2, fEnum, fDown, fLenSet, fRev, fTRg1, fRg1, y1, hg, List.set_cons_succ, List.set_cons_zero]
  · have g1 : ∀ mm, gSl (mvD n f) none (some (a : Nat)) mm = some (.tup A1, mm) := fun mm => rfl
    have g2 : ∀ mm, gSl (mvD n f) (some ((a : Nat) + 1)) none mm = some (.tup A2, mm) := fun mm => rfl
    have g3 : ∀ mm, gSl (mvD n f) none (some 1) mm = some (.tup (Mv.cutD T none (some 1)), mm) := fun mm => rfl
    have hadd : ∀ mm, gAdd (.int (a : Nat)) (.int 1) mm = some (.int ((a : Nat) + 1), mm) := fun mm => rfl
    have p1 : ∀ mm, gAdd (.tup A1) (.tup A2) mm = some (.tup (A1 ++ A2), mm) := fun mm => addT (by omega)
    have p2 : ∀ mm, gAdd (mvD n f) (.tup [.int (n : Nat)]) mm = some (.tup (T ++ [.int (n : Nat)]), mm) := fun mm => addT (by show T.length + 1 ≤ _; omega)
    have p3 : ∀ mm, gAdd (mvD n f) (.tup (Mv.cutD T none (some 1))) mm = some (.tup (T ++ Mv.cutD T none (some 1)), mm) := fun mm => addT (by show T.length + _ ≤ _; omega)
    have p4 : ∀ mm, gAdd (.tup A1) (.tup [odd]) mm = some (.tup (A1 ++ [odd]), mm) := fun mm => addT (by show A1.length + 1 ≤ _; omega)
    have p5 : ∀ mm, gAdd (.tup (A1 ++ [odd])) (.tup A2) mm = some (.tup ((A1 ++ [odd]) ++ A2), mm) := fun mm => addT (by rw [List.length_append]; simp only [List.length_singleton]; omega)
    have hl : ∀ mm, gLstOf [mvD n f] mm = some (T, mm) := fun mm => rfl
    let e0 : Sl := [some (.loc l), some (mvD n f), some (.int (a : Nat)), some (.int way), some odd, none]
    have k1 : ∀ mm, fSl (fVar 1) fNoPart (fPart (fVar 2)) e0 mm = some (.tup A1, mm) := fun mm => rfl
    have k2 : ∀ mm, fSl (fVar 1) (fPart (fOp gAdd (fVar 2) (fC (.int 1)))) fNoPart e0 mm = some (.tup A2, mm) := fun mm => rfl
    have k3 : ∀ mm, fSl (fVar 1) fNoPart (fPart (fC (.int 1))) e0 mm = some (.tup (Mv.cutD T none (some 1)), mm) := fun mm => rfl
    have k4 : ∀ mm, fTup (fCons (fCall gLen (fCons (fVar 1) fNil)) fNil) e0 mm = some (.tup [.int (n : Nat)], mm) := fun mm => by
      refine tup_ev (cons_ev (d := .int (n : Nat)) ?_ rfl) (show 1 ≤ 100000 by decide)
      unfold fCall
      rw [cons_ev (d := mvD n f) rfl rfl, Option.bind_some, gLen_mv]
    have k5 : ∀ mm, fPut (fLCall gLstOf (fCons (fVar 1) fNil)) e0 mm = some (.loc mm.length, mm ++ [.lst T]) := fun mm => rfl
    have k6 : ∀ mm, fTup (fCons (fVar 4) fNil) e0 mm = some (.tup [odd], mm) := fun mm => rfl
    refine asg_ev (i := 5) (e := e0) ?_
    rw [put_ev (lst_ev (cons_ev (op_ev (g := gAdd) (k1 _) (k2 _) (p1 _)) (cons_ev (op_ev (g := gAdd) (v_var rfl) (k4 _) (p2 _)) (cons_ev (op_ev (g := gAdd) (v_var rfl) (k3 _) (p3 _)) (cons_ev (k5 m3) (cons_ev (op_ev (g := gAdd) (op_ev (g := gAdd) (k1 _) (k6 _) (p4 _)) (k2 _) (p5 _)) nil_ev))))) (show 5 ≤ 100000 by decide)), List.length_append, List.append_assoc]
    rfl
  · have g1 : ∀ mm, gSl (mvD n f) none (some (a : Nat)) mm = some (.tup A1, mm) := fun mm => rfl
    have g2 : ∀ mm, gSl (mvD n f) (some ((a : Nat) + 1)) none mm = some (.tup A2, mm) := fun mm => rfl
    have hadd : ∀ mm, gAdd (.int (a : Nat)) (.int 1) mm = some (.int ((a : Nat) + 1), mm) := fun mm => rfl
    have p4 : ∀ mm, gAdd (.tup A1) (.tup [odd]) mm = some (.tup (A1 ++ [odd]), mm) := fun mm => addT (by show A1.length + 1 ≤ _; omega)
    have p5 : ∀ mm, gAdd (.tup (A1 ++ [odd])) (.tup A2) mm = some (.tup ((A1 ++ [odd]) ++ A2), mm) := fun mm => addT (by rw [List.length_append]; simp only [List.length_singleton]; omega)
    have hrev : ∀ e mm, e[1]? = some (some (mvD n f)) → fRev (fVar 1) e mm = some (.tup T.reverse, mm) := fun e mm h => by
      unfold fRev
      rw [v_var h]; rfl
    have hrg : ∀ e mm, fTRg1 (fC (.int 61)) e mm = some (.tup (rangeD 0 61), mm) := fun e mm => rfl
    have h4 : fPut (fLst (fCons (fOp gAdd (fOp gAdd (fSl (fVar 1) fNoPart (fPart (fVar 2))) (fTup (fCons (fVar 4) fNil))) (fSl (fVar 1) (fPart (fOp gAdd (fVar 2) (fC (.int 1)))) fNoPart)) (fCons (fTup (fCons (fVar 1) fNil)) (fCons (fRev (fVar 1)) (fCons (fTRg1 (fC (.int 61))) fNil))))) [some (.loc l), some (mvD n f), some (.int (a : Nat)), some (.int way), some odd, some (.loc (m3.length + 1))] (m3 ++ [.lst T, .lst S]) = some (.loc (m3.length + 2), m3 ++ [.lst T, .lst S, .lst S2]) := by
      have q1 : fOp gAdd (fOp gAdd (fSl (fVar 1) fNoPart (fPart (fVar 2))) (fTup (fCons (fVar 4) fNil))) (fSl (fVar 1) (fPart (fOp gAdd (fVar 2) (fC (.int 1)))) fNoPart) [some (.loc l), some (mvD n f), some (.int (a : Nat)), some (.int way), some odd, some (.loc (m3.length + 1))] (m3 ++ [.lst T, .lst S]) = some (.tup ((A1 ++ [odd]) ++ A2), m3 ++ [.lst T, .lst S]) := by
        simp only [fOp, fSl, fVar, fNoPart, fPart, fTup, fCons, fNil, fC, asI, Option.bind_some, Option.map_some, Option.join_some, List.getElem?_cons_zero, List.getElem?_cons_succ, List.length_cons, List.length_nil, g1, g2, hadd, p4, p5, Nat.reduceAdd, Nat.reduceLeDiff, if_true]
      have q2 : fTup (fCons (fVar 1) fNil) [some (.loc l), some (mvD n f), some (.int (a : Nat)), some (.int way), some odd, some (.loc (m3.length + 1))] (m3 ++ [.lst T, .lst S]) = some (.tup [mvD n f], m3 ++ [.lst T, .lst S]) := rfl
      rw [put_ev (lst_ev (cons_ev q1 (cons_ev q2 (cons_ev (hrev _ _ rfl) (cons_ev (hrg _ _) nil_ev)))) (show 4 ≤ 100000 by decide)), List.length_append, List.append_assoc]
      rfl
    refine asg_ev (i := 5) (op_ev (g := gAdd) rfl h4 ?_)
    have r1 : (m3 ++ [Cell.lst T, Cell.lst S, Cell.lst S2])[m3.length + 1]? = some (.lst S) := get_off m3 _ 1
    have r2 : (m3 ++ [Cell.lst T, Cell.lst S, Cell.lst S2])[m3.length + 2]? = some (.lst S2) := get_off m3 _ 2
    unfold gAdd
    simp only [r1, r2]
    rw [if_pos (by show 5 + 4 ≤ 100000; decide), List.length_append, List.append_assoc]; rfl
  · have r3 : mm[m3.length + 3]? = some (.lst (S ++ S2)) := get_off m3 _ 3
    have hg : gIx (.loc (m3.length + 3)) (.int way) mm = some (d, mm) := by
      show (rd mm _).bind _ = _
      rw [rd_of r3, Option.bind_some, hdx]; rfl
    unfold fsRet
    rw [op_ev (g := gIx) rfl rfl hg]; rfl
end k01

set_option Elab.async false
set_option linter.all false
set_option maxRecDepth 100000
set_option maxHeartbeats 1000000
namespace k01
open PySem PySem.Spec PyProof.Rows L2 Mv Cyc
noncomputable def F_law_right : GN := Fof0 N_law_right 1 (g_law_right F_law_take F_law_move F_law_told_right F_law_same F_rest F_then F_undo F_law_bent F_is_move F_law_is_move_due)
noncomputable abbrev rt (f : GN → GN → GN → GN → GN → GN → GN → GN → GN → GN → α) : α := f F_law_take F_law_move F_law_told_right F_law_same F_rest F_then F_undo F_law_bent F_is_move F_law_is_move_due
/-- the slots: pool, great, points, one, two, small, much, turn, thing, before, odd, number, twin, part -/
abbrev RE (l : Nat) (gr : Int) (n : Nat) (f g : Nat → Nat) (s : Int) (mu tu th be od nu tw pa : Option D) : Sl := [some (.loc l), some (.int gr), some (.int (n : Nat)), some (mvD n f), some (mvD n g), some (.int s), mu, tu, th, be, od, nu, tw, pa]
section
variable {l n : Nat} {gr s : Int} {f g : Nat → Nat} {m : Mem}
theorem lp1_ev (hf : IsM n f) (hg : IsM n g) (hp : PoolAt l m) : ∃ m' mu, rt lp_law_right_1 (RE l gr n f g s none none none none none none none none) m = some (.nx (RE l gr n f g s mu none none none none none none none) m') ∧ PoolAt l m' := by
  obtain ⟨v, m1, t1, t2, t3, t4, t5⟩ := take_ev (k := 9999) hp (by decide) (by decide)
  obtain ⟨big, hbig⟩ : ∃ b, ∀ mm, gPow (.int 10) (.int 39) mm = some (.int b, mm) := ⟨10 ^ 39, fun _ => rfl⟩
  have hs0 : ∀ x y mm, Mv.gSub (.int x) (.int y) mm = some (.int (x - y), mm) := fun _ _ _ => rfl
  have ha0 : ∀ x y mm, gAdd (.int x) (.int y) mm = some (.int (x + y), mm) := fun _ _ _ => rfl
  have h := for_evL (fi := fSeqN (fLst (fCons (fC (.int 0)) (fCons (fC (.int 1)) (fCons (fOp Mv.gSub (fC (.int 0)) (fC (.int 1))) (fCons (fVar 5) (fCons (fOp gAdd (fOp gPow (fC (.int 10)) (fC (.int 39))) (fCall F_law_take (fCons (fVar 0) (fCons (fC (.int 9999)) fNil)))) (fCons (fOp Mv.gSub (fOp Mv.gSub (fC (.int 0)) (fOp gPow (fC (.int 10)) (fC (.int 39)))) (fVar 5)) fNil)))))))) (ft := fName 6) (g := rt lb_law_right_1) (e := RE l gr n f g s none none none none none none none none)
    (m0 := m) (m := m1) (s := ⟨[.int 0, .int 1, .int (0 - 1), .int s, .int (big + v), .int (0 - big - s)], none⟩) ?_
    (fun xs e mm => (∀ x ∈ xs, ∃ i : Int, x = .int i) ∧ mm = m1 ∧ ∃ mu, e = RE l gr n f g s mu none none none none none none none)
    (fun o => ∃ mu, o = .nx (RE l gr n f g s mu none none none none none none none) m1)
    (fun _ _ _ _ => trivial) ⟨fun x hx => ?_, rfl, none, rfl⟩ ?_ ?_
  · obtain ⟨o, h2, mu, rfl⟩ := h
    exact ⟨m1, mu, h2, t4⟩
  · unfold fSeqN
    have q1 : fOp Mv.gSub (fC (.int 0)) (fC (.int 1)) (RE l gr n f g s none none none none none none none none) m = some (.int (0 - 1), m) := rfl
    have q2 : fOp gAdd (fOp gPow (fC (.int 10)) (fC (.int 39))) (fCall F_law_take (fCons (fVar 0) (fCons (fC (.int 9999)) fNil))) (RE l gr n f g s none none none none none none none none) m = some (.int (big + v), m1) := by
      refine op_ev (g := gAdd) (op_ev (g := gPow) rfl rfl (hbig m)) ?_ (ha0 _ _ _)
      unfold fCall
      rw [cons_ev (d := .loc l) rfl (cons_ev (d := .int 9999) rfl nil_ev), Option.bind_some, t1]
    have q3 : fOp Mv.gSub (fOp Mv.gSub (fC (.int 0)) (fOp gPow (fC (.int 10)) (fC (.int 39)))) (fVar 5) (RE l gr n f g s none none none none none none none none) m1 = some (.int (0 - big - s), m1) :=
      op_ev (g := Mv.gSub) (op_ev (g := Mv.gSub) rfl (op_ev (g := gPow) rfl rfl (hbig m1)) (hs0 _ _ _)) rfl (hs0 _ _ _)
    rw [lst_ev (cons_ev (d := .int 0) rfl (cons_ev (d := .int 1) rfl (cons_ev q1 (cons_ev (d := .int s) rfl (cons_ev q2 (cons_ev q3 nil_ev)))))) (show 6 ≤ 100000 by decide)]
    rfl
  · simp only [List.mem_cons, List.not_mem_nil, or_false] at hx
    rcases hx with rfl | rfl | rfl | rfl | rfl | rfl <;> exact ⟨_, rfl⟩
  · rintro x xs e mm ⟨hx, rfl, mu, rfl⟩
    obtain ⟨i, rfl⟩ := hx x (by simp)
    refine ⟨.nx (RE l gr n f g s (some (.int i)) none none none none none none none) mm, ?_, fun y hy => hx y (by simp [hy]), rfl, _, rfl⟩
    show rt lb_law_right_1 (RE l gr n f g s (some (.int i)) none none none none none none none) mm = _
    unfold rt lb_law_right_1
    simp only [fsSeq, fsRet, fsRetN, fsIf, fsAsg, fsDrop, fsPar, fVar, fC, fCons, fNil, fCall, fOp, fUn, fOn, fTest, fTru, fNotT, fAndT, fOrT, fAnd, fOr, fNot, fIf, fChain, fName, fTupG, fsCons, fsNil, fPut, fLst, fTup, asB, asI, Option.bind_some, Option.map_some, Option.bind_none, Option.map_none, Option.join_some, List.getElem?_cons_zero, List.getElem?_cons_succ, fsNever, fsNext, fSeq, seqOf, fYes, fLCall, fPart, fNoPart, fSl, List.length_cons, List.length_nil, fIxN, fRange1, fRange2, fEnum, fDown, fLenSet, fRev, fTRg1, fRg1, RE, told_right_ev hf hg, told_right_ev hg hf, tru, Bool.not_true, Bool.false_eq_true, if_false]
  · rintro e mm ⟨_, rfl, mu, rfl⟩
    exact ⟨mu, rfl⟩
theorem gNe_str {mm : Mem} (x : Str) : gNeS (.str x) (.str x) mm = some (.bl false, mm) := by
  show some (D.bl (!decide (x = x)), mm) = _
  rw [decide_eq_true rfl]; rfl
theorem lp2_ev {mu : Option D} (hf : IsM n f) (hg : IsM n g) (hp : PoolAt l m) : ∃ m' tu th be, rt lp_law_right_2 (RE l gr n f g s mu none none none none none none none) m = some (.nx (RE l gr n f g s mu tu th be none none none none) m') ∧ PoolAt l m' := by
  have h := for_evL (fi := fRange1 (fC (.int 4))) (ft := fName 7) (g := rt lb_law_right_2) (e := RE l gr n f g s mu none none none none none none none)
    (m0 := m) (m := m) (s := ⟨rangeD 0 4, none⟩) rfl
    (fun xs e mm => PoolAt l mm ∧ ∃ tu th be, e = RE l gr n f g s mu tu th be none none none none)
    (fun o => ∃ m' tu th be, o = .nx (RE l gr n f g s mu tu th be none none none none) m' ∧ PoolAt l m')
    (fun _ _ _ _ => trivial) ⟨hp, none, none, none, rfl⟩ ?_ ?_
  · obtain ⟨o, h2, m', tu, th, be, rfl, h3⟩ := h
    exact ⟨m', tu, th, be, h2, h3⟩
  · rintro x xs e mm ⟨hpm, tu, th, be, rfl⟩
    obtain ⟨d, m', b1, b2, b3⟩ := bent_ev hf hpm
    obtain ⟨st, hst⟩ := b3.sh
    refine ⟨.nx (RE l gr n f g s mu (some x) (some d) (some (.str st)) none none none none) m', ?_, b2, _, _, _, rfl⟩
    show rt lb_law_right_2 (RE l gr n f g s mu (some x) th be none none none none) mm = _
    unfold rt lb_law_right_2
    have hsm : F_law_same [.bl (mvB d), .bl (mvB d)] m' = some (.bl true, m') := same_ev rfl rfl
    simp only [fsSeq, fsRet, fsRetN, fsIf, fsAsg, fsDrop, fsPar, fVar, fC, fCons, fNil, fCall, fOp, fUn, fOn, fTest, fTru, fNotT, fAndT, fOrT, fAnd, fOr, fNot, fIf, fChain, fName, fTupG, fsCons, fsNil, fPut, fLst, fTup, asB, asI, Option.bind_some, Option.map_some, Option.bind_none, Option.map_none, Option.join_some, List.getElem?_cons_zero, List.getElem?_cons_succ, fsNever, fsNext, fSeq, seqOf, fYes, fLCall, fPart, fNoPart, fSl, List.length_cons, List.length_nil, fIxN, fRange1, fRange2, fEnum, fDown, fLenSet, fRev, fTRg1, fRg1, RE, b1, hst, is_move_ev b3.ty b3.el, is_move_due_ev b3.ty b3.el, hsm, tru, Bool.not_true, Bool.false_eq_true, if_false, gNe_str, List.set_cons_succ, List.set_cons_zero]
  · rintro e mm ⟨hpm, tu, th, be, rfl⟩
    exact ⟨mm, tu, th, be, rfl, hpm⟩
def twinF (k : Nat) (x : Nat) : D := if x = k then .bl (decide ((k : Int) = 1)) else .int (x : Nat)
theorem lc_right_ev {mu tu th be od : Option D} {k : Nat} {tw pa : Option D} (hf : IsM n f) : rt lc_law_right_1 (RE l gr n f g s mu tu th be od (some (.int (k : Nat))) tw pa) m = some (tab n fun y => twinF k (f y), m) := by
  have hi := hf.hi
  unfold rt lc_law_right_1
  rw [lc_ev (xs := tab n fun y => .int (f y : Nat)) rfl (by rw [tab_len]; omega) (fun x => match x with | .int i => some (twinF k i.toNat) | _ => none) fun y hy => ?_]
  · rw [fm_tab (k := fun y => twinF k (f y)) fun y hy => by simp only [Int.toNat_natCast]]
  · obtain ⟨z, hz, rfl⟩ := List.mem_map.mp hy
    have e : wipeE (RE l gr n f g s mu tu th be od (some (.int (k : Nat))) tw pa) [13] = RE l gr n f g s mu tu th be od (some (.int (k : Nat))) tw none := rfl
    rw [e]
    unfold fElt
    by_cases q : f z = k
    · have q' : ((f z : Nat) : Int) = (k : Nat) := by omega
      simp only [fsSeq, fsRet, fsRetN, fsIf, fsAsg, fsDrop, fsPar, fVar, fC, fCons, fNil, fCall, fOp, fUn, fOn, fTest, fTru, fNotT, fAndT, fOrT, fAnd, fOr, fNot, fIf, fChain, fName, fTupG, fsCons, fsNil, fPut, fLst, fTup, asB, asI, Option.bind_some, Option.map_some, Option.bind_none, Option.map_none, Option.join_some, List.getElem?_cons_zero, List.getElem?_cons_succ, fsNever, fsNext, fSeq, seqOf, fYes, fLCall, fPart, fNoPart, fSl, List.length_cons, List.length_nil, fIxN, fRange1, fRange2, fEnum, fDown, fLenSet, fRev, fTRg1, fRg1, RE, List.set_cons_succ, List.set_cons_zero, gEq_int, q', decide_true, if_true, Int.toNat_natCast, twinF]
    · have q' : ¬ ((f z : Nat) : Int) = (k : Nat) := by omega
      simp only [fsSeq, fsRet, fsRetN, fsIf, fsAsg, fsDrop, fsPar, fVar, fC, fCons, fNil, fCall, fOp, fUn, fOn, fTest, fTru, fNotT, fAndT, fOrT, fAnd, fOr, fNot, fIf, fChain, fName, fTupG, fsCons, fsNil, fPut, fLst, fTup, asB, asI, Option.bind_some, Option.map_some, Option.bind_none, Option.map_none, Option.join_some, List.getElem?_cons_zero, List.getElem?_cons_succ, fsNever, fsNext, fSeq, seqOf, fYes, fLCall, fPart, fNoPart, fSl, List.length_cons, List.length_nil, fIxN, fRange1, fRange2, fEnum, fDown, fLenSet, fRev, fTRg1, fRg1, RE, List.set_cons_succ, List.set_cons_zero, gEq_int, q', decide_false, Bool.false_eq_true, if_false, if_true, Int.toNat_natCast, twinF, q]
theorem twin_bad {k : Nat} (hf : IsM n f) (hk : k < n) : mvB (.tup (tab n fun y => twinF k (f y))) = false := by
  obtain ⟨x, hx, hfx⟩ := surj hf.p hk
  show mvL _ = false
  have ha : (tab n fun y => twinF k (f y)).all (inR 0 (((tab n fun y => twinF k (f y)).length : Int) - 1)) = false := by
    rw [Bool.eq_false_iff]
    intro z
    rw [List.all_eq_true] at z
    have := z (twinF k (f x)) (List.mem_map.mpr ⟨x, List.mem_range.mpr hx, rfl⟩)
    unfold twinF at this
    rw [if_pos hfx] at this
    exact absurd (show false = true from this) (by decide)
  unfold mvL
  rw [ha]; simp
theorem lp3_ev {mu tu th be od : Option D} (hf : IsM n f) : ∃ nu tw, rt lp_law_right_3 (RE l gr n f g s mu tu th be od none none none) m = some (.nx (RE l gr n f g s mu tu th be od nu tw none) m) := by
  have h := for_evL (fi := fRange1 (fC (.int 2))) (ft := fName 11) (g := rt lb_law_right_3) (e := RE l gr n f g s mu tu th be od none none none)
    (m0 := m) (m := m) (s := ⟨rangeD 0 2, none⟩) rfl
    (fun xs e mm => (∀ x ∈ xs, ∃ i : Nat, x = .int (i : Nat)) ∧ mm = m ∧ ∃ nu tw, e = RE l gr n f g s mu tu th be od nu tw none)
    (fun o => ∃ nu tw, o = .nx (RE l gr n f g s mu tu th be od nu tw none) m)
    (fun _ _ _ _ => trivial) ⟨fun x hx => ?_, rfl, none, none, rfl⟩ ?_ ?_
  · obtain ⟨o, h2, nu, tw, rfl⟩ := h
    exact ⟨nu, tw, h2⟩
  · rw [tab_range] at hx
    obtain ⟨y, _, rfl⟩ := List.mem_map.mp hx
    exact ⟨y, rfl⟩
  · rintro x xs e mm ⟨hx, rfl, nu, tw, rfl⟩
    obtain ⟨k, rfl⟩ := hx x (by simp)
    refine ⟨.nx (RE l gr n f g s mu tu th be od (some (.int (k : Nat))) (some (.tup (tab n fun y => twinF k (f y)))) none) mm, ?_, fun y hy => hx y (by simp [hy]), rfl, _, _, rfl⟩
    show rt lb_law_right_3 (RE l gr n f g s mu tu th be od (some (.int (k : Nat))) tw none) mm = _
    unfold rt lb_law_right_3
    have hl := lc_right_ev (l := l) (gr := gr) (g := g) (s := s) (m := mm) (mu := mu) (tu := tu) (th := th) (be := be) (od := od) (k := k) (tw := tw) (pa := none) hf
    unfold rt at hl
    have hm1 : F_is_move [mvD n f] mm = some (.bl true, mm) := by
      rw [is_move_ev rfl fun xs hxs x hx => ?_, mvB_mvD hf]
      unfold mvD at hxs
      cases hxs
      exact typed_tab x hx
    have hm2 : F_is_move [.tup (tab n fun y => twinF k (f y))] mm = some (.bl (mvB (.tup (tab n fun y => twinF k (f y)))), mm) := is_move_ev rfl fun xs hxs x hx => by
      cases hxs
      obtain ⟨y, _, rfl⟩ := List.mem_map.mp hx
      unfold twinF
      split <;> rfl
    have g1 : ∀ a b : Bool, gIsNot (.bl a) (.bl b) mm = some (.bl (!decide (a = b)), mm) := fun _ _ => rfl
    by_cases hk : k < n
    · have hk' : ((k : Nat) : Int) < (n : Nat) := by omega
      rw [twin_bad hf hk] at hm2
      simp only [fsSeq, fsRet, fsRetN, fsIf, fsAsg, fsDrop, fsPar, fVar, fC, fCons, fNil, fCall, fOp, fUn, fOn, fTest, fTru, fNotT, fAndT, fOrT, fAnd, fOr, fNot, fIf, fChain, fName, fTupG, fsCons, fsNil, fPut, fLst, fTup, asB, asI, Option.bind_some, Option.map_some, Option.bind_none, Option.map_none, Option.join_some, List.getElem?_cons_zero, List.getElem?_cons_succ, fsNever, fsNext, fSeq, seqOf, fYes, fLCall, fPart, fNoPart, fSl, List.length_cons, List.length_nil, fIxN, fRange1, fRange2, fEnum, fDown, fLenSet, fRev, fTRg1, fRg1, RE] at hl ⊢
      simp only [fsSeq, fsRet, fsRetN, fsIf, fsAsg, fsDrop, fsPar, fVar, fC, fCons, fNil, fCall, fOp, fUn, fOn, fTest, fTru, fNotT, fAndT, fOrT, fAnd, fOr, fNot, fIf, fChain, fName, fTupG, fsCons, fsNil, fPut, fLst, fTup, asB, asI, Option.bind_some, Option.map_some, Option.bind_none, Option.map_none, Option.join_some, List.getElem?_cons_zero, List.getElem?_cons_succ, fsNever, fsNext, fSeq, seqOf, fYes, fLCall, fPart, fNoPart, fSl, List.length_cons, List.length_nil, fIxN, fRange1, fRange2, fEnum, fDown, fLenSet, fRev, fTRg1, fRg1, RE, hl, gTupN, List.set_cons_succ, List.set_cons_zero, hm1, hm2, g1, decide_true, Bool.not_true, gLt, gInt0, hk', if_true, Bool.false_eq_true, if_false]
    · have hk' : ¬ ((k : Nat) : Int) < (n : Nat) := by omega
      simp only [fsSeq, fsRet, fsRetN, fsIf, fsAsg, fsDrop, fsPar, fVar, fC, fCons, fNil, fCall, fOp, fUn, fOn, fTest, fTru, fNotT, fAndT, fOrT, fAnd, fOr, fNot, fIf, fChain, fName, fTupG, fsCons, fsNil, fPut, fLst, fTup, asB, asI, Option.bind_some, Option.map_some, Option.bind_none, Option.map_none, Option.join_some, List.getElem?_cons_zero, List.getElem?_cons_succ, fsNever, fsNext, fSeq, seqOf, fYes, fLCall, fPart, fNoPart, fSl, List.length_cons, List.length_nil, fIxN, fRange1, fRange2, fEnum, fDown, fLenSet, fRev, fTRg1, fRg1, RE] at hl ⊢
      simp only [fsSeq, fsRet, fsRetN, fsIf, fsAsg, fsDrop, fsPar, fVar, fC, fCons, fNil, fCall, fOp, fUn, fOn, fTest, fTru, fNotT, fAndT, fOrT, fAnd, fOr, fNot, fIf, fChain, fName, fTupG, fsCons, fsNil, fPut, fLst, fTup, asB, asI, Option.bind_some, Option.map_some, Option.bind_none, Option.map_none, Option.join_some, List.getElem?_cons_zero, List.getElem?_cons_succ, fsNever, fsNext, fSeq, seqOf, fYes, fLCall, fPart, fNoPart, fSl, List.length_cons, List.length_nil, fIxN, fRange1, fRange2, fEnum, fDown, fLenSet, fRev, fTRg1, fRg1, RE, hl, gTupN, List.set_cons_succ, List.set_cons_zero, hm1, g1, decide_true, decide_false, Bool.not_true, gLt, gInt0, hk', if_true, Bool.false_eq_true, if_false]
  · rintro e mm ⟨_, rfl, nu, tw, rfl⟩
    exact ⟨nu, tw, rfl⟩
end
end k01

set_option Elab.async false
set_option linter.all false
set_option maxRecDepth 100000
set_option maxHeartbeats 1000000
namespace k01
open PySem PySem.Spec PyProof.Rows L2 Mv Cyc
theorem eqv_ints : ∀ l : List Int, PyData.eqvAll (l.map PyData.int) (l.map PyData.int) = true
  | [] => by rw [List.map_nil, PyData.eqvAll]
  | x :: l => by
    rw [List.map_cons, PyData.eqvAll, eqv_ints l, PyData.eqv]
    simp
theorem canLay_ints : ∀ l : List Int, PyData.canLayAll0 (l.map PyData.int) = true
  | [] => by rw [List.map_nil, PyData.canLayAll0]
  | x :: l => by rw [List.map_cons, PyData.canLayAll0, canLay_ints l, PyData.canLay0]; rfl
theorem gNe_mv {mm : Mem} {n : Nat} {f : Nat → Nat} (hf : IsM n f) : gNeS (mvD n f) (mvD n f) mm = some (.bl false, mm) := by
  have e : gNeS (mvD n f) (mvD n f) mm = (res mm (mvD n f)).bind fun p => (res mm (mvD n f)).bind fun q => (eqD p q).map fun b => (D.bl (!b), mm) := rfl
  have hpy : (mvD n f).py = .tuple (((List.range n).map fun y => ((f y : Nat) : Int)).map PyData.int) := by
    unfold mvD
    rw [py_tup, tab_ints, List.map_map]
    congr 1
  have hsh : SeqAt.shaped (mvD n f).py = true := by
    unfold SeqAt.shaped
    have h1 := (ok_mv hf).dp
    rw [Bool.and_eq_true]
    refine ⟨?_, decide_eq_true (by omega)⟩
    rw [hpy, PyData.canLay0]
    exact canLay_ints _
  have hq : eqD (mvD n f).py (mvD n f).py = some true := by
    unfold eqD
    rw [if_pos ⟨hsh, hsh⟩, hpy, PyData.eqv, eqv_ints]
  rw [e, res_pure (pure_mvD n f), Option.bind_some, Option.bind_some, hq]; rfl
theorem id_m {n : Nat} (h : 1 ≤ n ∧ n ≤ 60) : IsM n id := ⟨h.1, h.2, ⟨fun x hx => hx, fun x y _ _ q => q⟩⟩
theorem then_undo {n : Nat} {f : Nat → Nat} (hf : IsM n f) : (mvD n fun y => invF f n (f y)) = mvD n id := by
  unfold mvD
  rw [tab_congr (g := fun y => D.int (invF f n (f y) : Nat)) (h := fun y => D.int ((id y : Nat) : Int)) fun y hy => by rw [invF_of hf.p n (Nat.le_refl _) y hy]; rfl]
theorem dnew_ev {e : Sl} {m : Mem} : fDnew e m = some (.loc m.length, m ++ [.dK [] []]) := rfl
theorem fIxN_ev {fa : FA} {fb : FE} {e : Sl} {m m1 m2 : Mem} {xs : List D} {i : Int} {d : D} (h : fa e m = some (xs, m1)) (h2 : fb e m1 = some (.int i, m2)) (h3 : atI xs i = some d) : fIxN fa fb e m = some (d, m2) := by
  unfold fIxN
  rw [h, Option.bind_some, h2, Option.bind_some]
  show (atI xs i).map _ = _
  rw [h3]; rfl
theorem asg_at {f : FE} {e e' : Sl} {m m1 : Mem} {i : Nat} {d : D} (h : f e m = some (d, m1)) (he : e.set i (some d) = e') : fsAsg f (fName i) e m = some (.nx e' m1) := by
  rw [← he]; exact asg_ev h
theorem call_ev {F : GN} {fa : FA} {e : Sl} {m m1 : Mem} {ds : List D} {o : Option (D × Mem)} (h : fa e m = some (ds, m1)) (h2 : F ds m1 = o) : fCall F fa e m = o := by
  unfold fCall
  rw [h, Option.bind_some]; exact h2
theorem right_ev {m : Mem} {l : Nat} (hp : PoolAt l m) : ∃ m', F_law_right [.loc l] m = some (.bl true, m') := by
  obtain ⟨v0, m0, a1, a2, a3, a4, _⟩ := take_ev (k := 8) hp (by decide) (by decide)
  obtain ⟨gr, hgr, hk⟩ : ∃ gr : Int, (gr = 0 ∨ gr = 1) ∧ ∀ mm, gIntOf [.bl (decide (v0 = 3))] mm = some (.int gr, mm) := by
    by_cases q : v0 = 3
    · exact ⟨1, .inr rfl, fun mm => by rw [decide_eq_true q]; rfl⟩
    · exact ⟨0, .inl rfl, fun mm => by rw [decide_eq_false q]; rfl⟩
  obtain ⟨kk, hkk, hkx⟩ : ∃ kk : Int, (1 ≤ kk ∧ kk ≤ 60 ∧ kk < 1073741824) ∧ atI [D.int 9, D.int 60] gr = some (.int kk) := by
    rcases hgr with q | q
    · exact ⟨9, by decide, by rw [q]; rfl⟩
    · exact ⟨60, by decide, by rw [q]; rfl⟩
  obtain ⟨v1, m1, b1, b2, b3, b4, _⟩ := take_ev (k := kk) a4 hkk.1 hkk.2.2
  obtain ⟨n, hn⟩ : ∃ n : Nat, 1 + v1 = (n : Nat) := ⟨(1 + v1).toNat, by omega⟩
  have hn1 : 1 ≤ n ∧ n ≤ 60 := by omega
  obtain ⟨f, m2, c1, hf, c3⟩ := move_ev hn1 b4
  obtain ⟨g, m3, d1, hg, d3⟩ := move_ev hn1 c3
  obtain ⟨v2, m4, e1, e2, e3, e4, _⟩ := take_ev (k := 40) d3 (by decide) (by decide)
  obtain ⟨m5, mu, f1, f2⟩ := lp1_ev (l := l) (gr := gr) (s := v2 - 20) hf hg e4
  obtain ⟨m6, tu, th, be, g1, g2⟩ := lp2_ev (gr := gr) (s := v2 - 20) (mu := mu) hf hg f2
  let mx : Mem := m6 ++ [.lst [], .dK [] [], .lst [], .lst []]
  obtain ⟨v3, m7, h1, h2, h3, h4, h5⟩ := take_ev (k := 13) (pool_app (t := [.lst [], .dK [] [], .lst [], .lst []]) g2) (by decide) (by decide)
  let ods : List D := [.non, .int 0, .bl true, .str "", .str "()", .tup [], .loc m6.length, .loc (m6.length + 1), .tup [.loc (m6.length + 2)], .str "012", .tup [.tup [.int 0]], .tup [.non], .tup [.int 0, .loc (m6.length + 3)]]
  obtain ⟨od, hod, hox⟩ := atI_mem (xs := ods) h2 h3
  have hl7 : m7.length = m6.length + 4 := by rw [h5.1, List.length_append]; rfl
  have hll : l < m6.length := by
    obtain ⟨_, _, _, q, _⟩ := g2
    exact (List.getElem?_eq_some_iff.mp q).1
  have hc7 : ∀ k c, k < 4 → ([Cell.lst [], .dK [] [], .lst [], .lst []] : Mem)[k]? = some c → m7[m6.length + k]? = some c := fun k c hk q => by
    rw [h5.2 _ (by omega)]
    exact (get_off m6 _ k).trans q
  have hty : ∀ k, k < 4 → typed m7 (.loc (m6.length + k)) = true := fun k hk => by
    have : k = 0 ∨ k = 1 ∨ k = 2 ∨ k = 3 := by omega
    rcases this with rfl | rfl | rfl | rfl
    · exact typed_lst (hc7 0 _ hk rfl)
    · exact typed_dK (hc7 1 _ hk rfl)
    · exact typed_lst (hc7 2 _ hk rfl)
    · exact typed_lst (hc7 3 _ hk rfl)
  have hth : typed m7 od = true ∧ (∀ xs, od = .tup xs → ∀ x ∈ xs, typed m7 x = true) ∧ mvB od = false := by
    simp only [ods, List.mem_cons, List.not_mem_nil, or_false] at hod
    rcases hod with rfl | rfl | rfl | rfl | rfl | rfl | rfl | rfl | rfl | rfl | rfl | rfl | rfl
    · exact ⟨rfl, fun xs e => (by cases e), rfl⟩
    · exact ⟨rfl, fun xs e => (by cases e), rfl⟩
    · exact ⟨rfl, fun xs e => (by cases e), rfl⟩
    · exact ⟨rfl, fun xs e => (by cases e), rfl⟩
    · exact ⟨rfl, fun xs e => (by cases e), rfl⟩
    · exact ⟨rfl, fun xs e x hx => (by cases e; cases hx), rfl⟩
    · exact ⟨hty 0 (by decide), fun xs e => (by cases e), rfl⟩
    · exact ⟨hty 1 (by decide), fun xs e => (by cases e), rfl⟩
    · refine ⟨rfl, fun xs e x hx => ?_, by simp [mvB, mvL, inR]⟩
      cases e
      have : x = .loc (m6.length + 2) := by simpa using hx
      rw [this]; exact hty 2 (by decide)
    · exact ⟨rfl, fun xs e => (by cases e), rfl⟩
    · refine ⟨rfl, fun xs e x hx => ?_, by simp [mvB, mvL, inR]⟩
      cases e
      have : x = .tup [.int 0] := by simpa using hx
      rw [this]; rfl
    · refine ⟨rfl, fun xs e x hx => ?_, by simp [mvB, mvL, inR]⟩
      cases e
      have : x = .non := by simpa using hx
      rw [this]; rfl
    · refine ⟨rfl, fun xs e x hx => ?_, by simp [mvB, mvL, inR]⟩
      cases e
      rcases List.mem_cons.mp hx with q | q
      · rw [q]; rfl
      · have : x = .loc (m6.length + 3) := by simpa using q
        rw [this]; exact hty 3 (by decide)
  obtain ⟨nu, tw, i1⟩ := lp3_ev (l := l) (gr := gr) (g := g) (s := v2 - 20) (m := m7) (mu := mu) (tu := tu) (th := th) (be := be) (od := some od) hf
  unfold rt at f1 g1 i1
  refine ⟨m7, Fof0_of (o := .rt (.bl true) m7) rfl ?_ rfl⟩
  have e : startE N_law_right [.loc l] = [some (.loc l), none, none, none, none, none, none, none, none, none, none, none, none, none] := rfl
  rw [e]
  unfold g_law_right
  refine seq_ev (e1 := [some (.loc l), some (.int gr), none, none, none, none, none, none, none, none, none, none, none, none]) (m1 := m0) ?_ ?_
  · refine asg_at (call_ev (cons_ev (op_ev (g := gEqS) (call_ev (cons_ev (d := .loc l) rfl (cons_ev (d := .int 8) rfl nil_ev)) a1) rfl (gEq_int v0 3)) nil_ev) (hk m0)) rfl
  refine seq_ev (e1 := [some (.loc l), some (.int gr), some (.int (n : Nat)), none, none, none, none, none, none, none, none, none, none, none]) (m1 := m1) ?_ ?_
  · refine asg_at (op_ev (g := gAdd) (a := .int 1) (b := .int v1) rfl (call_ev (cons_ev (d := .loc l) rfl (cons_ev (fIxN_ev (lst_ev (cons_ev (d := .int 9) rfl (cons_ev (d := .int 60) rfl nil_ev)) (show 2 ≤ 100000 by decide)) (i := gr) rfl hkx) nil_ev)) b1) (show some (D.int (1 + v1), m1) = some (D.int (n : Nat), m1) by rw [hn])) rfl
  refine seq_ev (e1 := [some (.loc l), some (.int gr), some (.int (n : Nat)), some (mvD n f), some (mvD n g), none, none, none, none, none, none, none, none, none]) (m1 := m3) ?_ ?_
  · unfold fsPar
    rw [cons_ev (d := mvD n f) (call_ev (cons_ev (d := .loc l) rfl (cons_ev (d := .int (n : Nat)) rfl nil_ev)) c1) (cons_ev (d := mvD n g) (call_ev (cons_ev (d := .loc l) rfl (cons_ev (d := .int (n : Nat)) rfl nil_ev)) d1) nil_ev)]
    rfl
  refine seq_ev (e1 := RE l gr n f g (v2 - 20) none none none none none none none none) (m1 := m4) ?_ ?_
  · exact asg_at (op_ev (g := Mv.gSub) (a := .int v2) (b := .int 20) (call_ev (cons_ev (d := .loc l) rfl (cons_ev (d := .int 40) rfl nil_ev)) e1) rfl rfl) rfl
  refine seq_ev f1 (seq_ev (e1 := RE l gr n f g (v2 - 20) mu none none none none none none none) (m1 := m5) ?_ (seq_ev g1 (seq_ev (e1 := RE l gr n f g (v2 - 20) mu tu th be (some od) none none none) (m1 := m7) ?_ (seq_ev i1 ?_))))
  · have hrg : fTRg1 (fVar 2) (RE l gr n f g (v2 - 20) mu none none none none none none none) m5 = some (mvD n id, m5) := by
      have hz : (0 : Int) ≤ n ∧ (n : Int) ≤ 100000 := by omega
      unfold fTRg1
      rw [v_var (i := 2) (d := .int (n : Nat)) rfl]
      simp only [Option.bind_some, asI, hz, and_self, if_true, Int.toNat_natCast, tab_range]
      rfl
    have hrest : fCall F_rest (fCons (fVar 2) fNil) (RE l gr n f g (v2 - 20) mu none none none none none none none) m5 = some (mvD n id, m5) := call_ev (cons_ev (d := .int (n : Nat)) rfl nil_ev) (rest_ev hn1)
    have hsame : fCall F_law_same (fCons (fCall F_rest (fCons (fVar 2) fNil)) (fCons (fTRg1 (fVar 2)) fNil)) (RE l gr n f g (v2 - 20) mu none none none none none none none) m5 = some (.bl true, m5) := call_ev (cons_ev hrest (cons_ev hrg nil_ev)) (same_ev (repr_mv (id_m hn1)) (repr_mv (id_m hn1)))
    have hund : fCall F_undo (fCons (fVar 3) fNil) (RE l gr n f g (v2 - 20) mu none none none none none none none) m5 = some (mvD n (invF f n), m5) := call_ev (cons_ev (d := mvD n f) rfl nil_ev) (undo_ev hf)
    have hthen : fCall F_then (fCons (fVar 3) (fCons (fCall F_undo (fCons (fVar 3) fNil)) fNil)) (RE l gr n f g (v2 - 20) mu none none none none none none none) m5 = some (mvD n id, m5) := by
      rw [call_ev (cons_ev (d := mvD n f) rfl (cons_ev hund nil_ev)) (then_ev hf (inv_m hf)), then_undo hf]
    have hne := op_ev (g := gNeS) hthen hrest (gNe_mv (id_m hn1))
    unfold fsIf fOrT fNotT fTru fTest
    simp only [hsame, hne, Option.bind_some, Option.map_some, tru, asB, Bool.not_true, Bool.false_eq_true, if_false]
    rfl
  · refine asg_at (fIxN_ev (lst_ev (cons_ev (d := .non) rfl (cons_ev (d := .int 0) rfl (cons_ev (d := .bl true) rfl (cons_ev (d := .str "") rfl (cons_ev (d := .str "()") rfl (cons_ev (tup_ev nil_ev (Nat.zero_le _)) (cons_ev (put_ev (lst_ev nil_ev (Nat.zero_le _))) (cons_ev dnew_ev (cons_ev (tup_ev (cons_ev (put_ev (lst_ev nil_ev (Nat.zero_le _))) nil_ev) (show 1 ≤ 100000 by decide)) (cons_ev (d := .str "012") rfl (cons_ev (tup_ev (cons_ev (tup_ev (cons_ev (d := .int 0) rfl nil_ev) (show 1 ≤ 100000 by decide)) nil_ev) (show 1 ≤ 100000 by decide)) (cons_ev (tup_ev (cons_ev (d := .non) rfl nil_ev) (show 1 ≤ 100000 by decide)) (cons_ev (tup_ev (cons_ev (d := .int 0) rfl (cons_ev (put_ev (lst_ev nil_ev (Nat.zero_le _))) nil_ev)) (show 2 ≤ 100000 by decide)) nil_ev))))))))))))) (show 13 ≤ 100000 by decide)) (i := v3) (m2 := m7) ?_ (d := od) ?_) rfl
    · refine call_ev (cons_ev (d := .loc l) rfl (cons_ev (d := .int 13) rfl nil_ev)) ?_
      simp only [List.append_assoc, List.cons_append, List.nil_append]
      exact h1
    · simp only [List.length_append, List.length_cons, List.length_nil, Nat.zero_add, Nat.add_assoc, Nat.reduceAdd]
      exact hox
  · have hm1 : F_is_move [mvD n f] m7 = some (.bl true, m7) := by
      rw [is_move_ev rfl fun xs hxs x hx => ?_, mvB_mvD hf]
      unfold mvD at hxs
      cases hxs
      exact typed_tab x hx
    have hm2 : F_is_move [od] m7 = some (.bl false, m7) := by rw [is_move_ev hth.1 hth.2.1, hth.2.2]
    have q1 : fOp gIs (fCall F_is_move (fCons (fVar 10) fNil)) (fC (.bl false)) (RE l gr n f g (v2 - 20) mu tu th be (some od) nu tw none) m7 = some (.bl true, m7) := op_ev (g := gIs) (call_ev (cons_ev (d := od) rfl nil_ev) hm2) rfl rfl
    have q2 : fOp gIs (fCall F_is_move (fCons (fVar 3) fNil)) (fC (.bl true)) (RE l gr n f g (v2 - 20) mu tu th be (some od) nu tw none) m7 = some (.bl true, m7) := op_ev (g := gIs) (call_ev (cons_ev (d := mvD n f) rfl nil_ev) hm1) rfl rfl
    have q3 : fCall F_law_told_right (fCons (fVar 3) (fCons (fVar 4) (fCons (fVar 5) fNil))) (RE l gr n f g (v2 - 20) mu tu th be (some od) nu tw none) m7 = some (.bl true, m7) := call_ev (cons_ev (d := mvD n f) rfl (cons_ev (d := mvD n g) rfl (cons_ev (d := .int (v2 - 20)) rfl nil_ev))) (told_right_ev hf hg)
    unfold fsRet fAnd
    simp only [q1, q2, q3, Option.bind_some, tru, if_true, Option.map_some]
noncomputable def F_law : GN := Fof0 N_law 1 (g_law F_law_right F_law_pool F_law_cell)
open Classical in
theorem comp_any {b : D → Mem → Option (Option D × Mem)} {ys : List D} {f : D → Option D} (h : ∀ y ∈ ys, ∀ m, ∃ m', b y m = some (f y, m')) (xs : List D) : ∀ m, ∃ m', comp ⟨xs, none⟩ b ys m = some (ys.filterMap f, m') := by
  induction ys with
  | nil => exact fun m => ⟨m, if_pos trivial⟩
  | cons y ys ih =>
    intro m
    obtain ⟨m1, h1⟩ := h y (by simp) m
    obtain ⟨m2, h2⟩ := ih (fun z hz => h z (by simp [hz])) m1
    refine ⟨m2, ?_⟩
    show (if (Src.live ⟨xs, none⟩ m) then _ else none) = _
    rw [if_pos (show Src.live ⟨xs, none⟩ m from trivial), h1]
    show ((comp ⟨xs, none⟩ b ys m1).map _) = _
    rw [h2]
    show some ((f y).toList ++ ys.filterMap f, m2) = _
    rw [List.filterMap_cons]
    cases f y <;> rfl
theorem law_ev (ns : List Int) : ∃ m', F_law [.kl (ns.map D.int)] [] = some (.bl true, m') := by
  have e : startE N_law [.kl (ns.map D.int)] = [some (.kl (ns.map D.int)), none] := rfl
  have hl : ∀ mm, gLen [.kl (ns.map D.int)] mm = some (.int (ns.length : Nat), mm) := fun mm => by show some (D.int ((ns.map D.int).length : Nat), mm) = _; rw [List.length_map]
  obtain ⟨k, hk, hkx⟩ : ∃ k : Nat, k ≤ 60 ∧ fRange1 (fCall gMax2 (fCons (fC (.int 1)) (fCons (fCall gMin2 (fCons (fCall gLen (fCons (fVar 0) fNil)) (fCons (fC (.int 5)) fNil))) fNil))) [some (.kl (ns.map D.int)), none] [] = some (⟨rangeD 0 k, none⟩, []) := by
    obtain ⟨a, ha, hax⟩ : ∃ a : Int, a ≤ 5 ∧ ∀ mm, gMin2 [.int (ns.length : Nat), .int 5] mm = some (.int a, mm) := by
      by_cases q : (5 : Int) < (ns.length : Nat)
      · exact ⟨5, by decide, fun mm => by show some (D.int (if (5 : Int) < (ns.length : Nat) then 5 else (ns.length : Nat)), mm) = _; rw [if_pos q]⟩
      · exact ⟨(ns.length : Nat), by omega, fun mm => by show some (D.int (if (5 : Int) < (ns.length : Nat) then 5 else (ns.length : Nat)), mm) = _; rw [if_neg q]⟩
    obtain ⟨b, hb, hbx⟩ : ∃ b : Int, (1 ≤ b ∧ b ≤ 5) ∧ ∀ mm, gMax2 [.int 1, .int a] mm = some (.int b, mm) := by
      by_cases q : a > 1
      · exact ⟨a, by omega, fun mm => by show some (D.int (if a > 1 then a else 1), mm) = _; rw [if_pos q]⟩
      · exact ⟨1, by decide, fun mm => by show some (D.int (if a > 1 then a else 1), mm) = _; rw [if_neg q]⟩
    have hz : (-100000 : Int) ≤ b ∧ b ≤ 100000 := by omega
    refine ⟨b.toNat, by omega, ?_⟩
    simp only [fsSeq, fsRet, fsRetN, fsIf, fsAsg, fsDrop, fsPar, fVar, fC, fCons, fNil, fCall, fOp, fUn, fOn, fTest, fTru, fNotT, fAndT, fOrT, fAnd, fOr, fNot, fIf, fChain, fName, fTupG, fsCons, fsNil, fPut, fLst, fTup, asB, asI, Option.bind_some, Option.map_some, Option.bind_none, Option.map_none, Option.join_some, List.getElem?_cons_zero, List.getElem?_cons_succ, fsNever, fsNext, fSeq, seqOf, fYes, fLCall, fPart, fNoPart, fSl, List.length_cons, List.length_nil, fIxN, fRange1, fRange2, fEnum, fDown, fLenSet, fRev, fTRg1, fRg1, hl, hax, hbx, hz, and_self, if_true]
  have hb : ∀ y ∈ rangeD 0 k, ∀ m, ∃ m', fElt (fName 1) fYes (fCall F_law_right (fCons (fCall F_law_pool (fCons (fCall F_law_cell (fCons (fVar 0) (fCons (fVar 1) fNil))) fNil)) fNil)) (wipeE [some (.kl (ns.map D.int)), none] [1]) y m = some (some (.bl true), m') := fun y hy m => by
    rw [tab_range] at hy
    obtain ⟨i, hi, rfl⟩ := List.mem_map.mp hy
    have hi := List.mem_range.mp hi
    obtain ⟨z, m1, c1⟩ := cell_ev (m := m) (ns := ns) (k := i) (by omega)
    obtain ⟨m2, p1, p2⟩ := pool_ev (m := m1) (z := z)
    obtain ⟨m3, r1⟩ := right_ev p2
    refine ⟨m3, ?_⟩
    have q : fCall F_law_right (fCons (fCall F_law_pool (fCons (fCall F_law_cell (fCons (fVar 0) (fCons (fVar 1) fNil))) fNil)) fNil) [some (.kl (ns.map D.int)), some (.int (i : Nat))] m = some (.bl true, m3) :=
      call_ev (cons_ev (call_ev (cons_ev (call_ev (cons_ev (d := .kl (ns.map D.int)) rfl (cons_ev (d := .int (i : Nat)) rfl nil_ev)) c1) nil_ev) p1) nil_ev) r1
    unfold fElt
    show (fCall F_law_right _ [some (.kl (ns.map D.int)), some (.int (i : Nat))] m).map _ = _
    rw [q]; rfl
  obtain ⟨m', hc⟩ := comp_any hb (rangeD 0 k) []
  refine ⟨m', Fof0_of (o := .rt (.bl true) m') rfl ?_ rfl⟩
  rw [e]
  unfold g_law
  have hlc : lc_law_1 F_law_right F_law_pool F_law_cell [some (.kl (ns.map D.int)), none] [] = some ((rangeD 0 k).map fun _ => .bl true, m') := by
    unfold lc_law_1 fLc
    rw [hkx, Option.bind_some, if_pos (show (rangeD 0 k).length ≤ 100000 by rw [rangeD_length]; omega), hc, fm_some]
  unfold fsRet fOn
  rw [hlc, Option.bind_some, all_bl' (rangeD 0 k) (fun _ => true)]
  have : (rangeD 0 k).all (fun _ => true) = true := by rw [List.all_eq_true]; exact fun _ _ => rfl
  rw [this]; rfl
end k01

set_option Elab.async false
set_option linter.all false
set_option maxRecDepth 100000
set_option maxHeartbeats 4000000
/-! what the top has written; the end -/
namespace k01
open PySem PySem.Spec PyProof.Rows L2 Mv
theorem all_mk {l : PySem.W.OpenLaw} {w : World} {K : Fg} {h : Heap} {mg : Str → Option Value} {fa : Addr} (X : K.In h) (G : h.Ns mainGlobals mg) (hfa : mg "law" = some (.ref fa))
    {f0 : Addr} {od0 an0 : Option Addr} {sl0 : Array (Option Value)} {oc0 kV0 dc0 pm0 cd0 ct0 : Value}
    {f1 : Addr} {od1 an1 : Option Addr} {sl1 : Array (Option Value)} {oc1 kV1 dc1 pm1 cd1 ct1 : Value}
    {f2 : Addr} {od2 an2 : Option Addr} {sl2 : Array (Option Value)} {oc2 kV2 dc2 pm2 cd2 ct2 : Value}
    {f3 : Addr} {od3 an3 : Option Addr} {sl3 : Array (Option Value)} {oc3 kV3 dc3 pm3 cd3 ct3 : Value}
    {f4 : Addr} {od4 an4 : Option Addr} {sl4 : Array (Option Value)} {oc4 kV4 dc4 pm4 cd4 ct4 : Value}
    {f5 : Addr} {od5 an5 : Option Addr} {sl5 : Array (Option Value)} {oc5 kV5 dc5 pm5 cd5 ct5 : Value}
    {f6 : Addr} {od6 an6 : Option Addr} {sl6 : Array (Option Value)} {oc6 kV6 dc6 pm6 cd6 ct6 : Value}
    {f7 : Addr} {od7 an7 : Option Addr} {sl7 : Array (Option Value)} {oc7 kV7 dc7 pm7 cd7 ct7 : Value}
    {f8 : Addr} {od8 an8 : Option Addr} {sl8 : Array (Option Value)} {oc8 kV8 dc8 pm8 cd8 ct8 : Value}
    {f9 : Addr} {od9 an9 : Option Addr} {sl9 : Array (Option Value)} {oc9 kV9 dc9 pm9 cd9 ct9 : Value}
    {f10 : Addr} {od10 an10 : Option Addr} {sl10 : Array (Option Value)} {oc10 kV10 dc10 pm10 cd10 ct10 : Value}
    {f11 : Addr} {od11 an11 : Option Addr} {sl11 : Array (Option Value)} {oc11 kV11 dc11 pm11 cd11 ct11 : Value}
    {f12 : Addr} {od12 an12 : Option Addr} {sl12 : Array (Option Value)} {oc12 kV12 dc12 pm12 cd12 ct12 : Value}
    {f13 : Addr} {od13 an13 : Option Addr} {sl13 : Array (Option Value)} {oc13 kV13 dc13 pm13 cd13 ct13 : Value}
    {f14 : Addr} {od14 an14 : Option Addr} {sl14 : Array (Option Value)} {oc14 kV14 dc14 pm14 cd14 ct14 : Value}
    {f15 : Addr} {od15 an15 : Option Addr} {sl15 : Array (Option Value)} {oc15 kV15 dc15 pm15 cd15 ct15 : Value}
    {f16 : Addr} {od16 an16 : Option Addr} {sl16 : Array (Option Value)} {oc16 kV16 dc16 pm16 cd16 ct16 : Value}
    {f17 : Addr} {od17 an17 : Option Addr} {sl17 : Array (Option Value)} {oc17 kV17 dc17 pm17 cd17 ct17 : Value}
    {f18 : Addr} {od18 an18 : Option Addr} {sl18 : Array (Option Value)} {oc18 kV18 dc18 pm18 cd18 ct18 : Value}
    {f19 : Addr} {od19 an19 : Option Addr} {sl19 : Array (Option Value)} {oc19 kV19 dc19 pm19 cd19 ct19 : Value}
    {f20 : Addr} {od20 an20 : Option Addr} {sl20 : Array (Option Value)} {oc20 kV20 dc20 pm20 cd20 ct20 : Value}
    {f21 : Addr} {od21 an21 : Option Addr} {sl21 : Array (Option Value)} {oc21 kV21 dc21 pm21 cd21 ct21 : Value}
    {f22 : Addr} {od22 an22 : Option Addr} {sl22 : Array (Option Value)} {oc22 kV22 dc22 pm22 cd22 ct22 : Value}
    {f23 : Addr} {od23 an23 : Option Addr} {sl23 : Array (Option Value)} {oc23 kV23 dc23 pm23 cd23 ct23 : Value}
    {f24 : Addr} {od24 an24 : Option Addr} {sl24 : Array (Option Value)} {oc24 kV24 dc24 pm24 cd24 ct24 : Value}
    {f25 : Addr} {od25 an25 : Option Addr} {sl25 : Array (Option Value)} {oc25 kV25 dc25 pm25 cd25 ct25 : Value}
    {f26 : Addr} {od26 an26 : Option Addr} {sl26 : Array (Option Value)} {oc26 kV26 dc26 pm26 cd26 ct26 : Value}
    {f27 : Addr} {od27 an27 : Option Addr} {sl27 : Array (Option Value)} {oc27 kV27 dc27 pm27 cd27 ct27 : Value}
    {f28 : Addr} {od28 an28 : Option Addr} {sl28 : Array (Option Value)} {oc28 kV28 dc28 pm28 cd28 ct28 : Value}
    {f29 : Addr} {od29 an29 : Option Addr} {sl29 : Array (Option Value)} {oc29 kV29 dc29 pm29 cd29 ct29 : Value}
    {f30 : Addr} {od30 an30 : Option Addr} {sl30 : Array (Option Value)} {oc30 kV30 dc30 pm30 cd30 ct30 : Value}
    {f31 : Addr} {od31 an31 : Option Addr} {sl31 : Array (Option Value)} {oc31 kV31 dc31 pm31 cd31 ct31 : Value}
    {tk_MOST_POINTS : Tok}
    (a0 : PySem.W.nsIn K mainGlobals "is_whole" = some (some (.ref f0)))
    (l0 : K.lookup f0 = some ⟨oc0, od0, .func (PySem.W.fnOf "is_whole" "is_whole" (defArgs s_is_whole) (defBody s_is_whole) (defScope s_is_whole) .none kV0 dc0 pm0 an0 cd0 ct0), sl0⟩) (c0 : PySem.W.codeIn K cd0 "is_whole" = true) (k0 : PySem.W.keepIn K (.ref f0) = true)
    (a1 : PySem.W.nsIn K mainGlobals "linked_moves" = some (some (.ref f1)))
    (l1 : K.lookup f1 = some ⟨oc1, od1, .func (PySem.W.fnOf "linked_moves" "linked_moves" (defArgs s_linked_moves) (defBody s_linked_moves) (defScope s_linked_moves) .none kV1 dc1 pm1 an1 cd1 ct1), sl1⟩) (c1 : PySem.W.codeIn K cd1 "linked_moves" = true) (k1 : PySem.W.keepIn K (.ref f1) = true)
    (a2 : PySem.W.nsIn K mainGlobals "undone_move" = some (some (.ref f2)))
    (l2 : K.lookup f2 = some ⟨oc2, od2, .func (PySem.W.fnOf "undone_move" "undone_move" (defArgs s_undone_move) (defBody s_undone_move) (defScope s_undone_move) .none kV2 dc2 pm2 an2 cd2 ct2), sl2⟩) (c2 : PySem.W.codeIn K cd2 "undone_move" = true) (k2 : PySem.W.keepIn K (.ref f2) = true)
    (a3 : PySem.W.nsIn K mainGlobals "_all_rounds" = some (some (.ref f3)))
    (l3 : K.lookup f3 = some ⟨oc3, od3, .func (PySem.W.fnOf "_all_rounds" "_all_rounds" (defArgs s_all_rounds) (defBody s_all_rounds) (defScope s_all_rounds) .none kV3 dc3 pm3 an3 cd3 ct3), sl3⟩) (c3 : PySem.W.codeIn K cd3 "_all_rounds" = true) (k3 : PySem.W.keepIn K (.ref f3) = true)
    (a4 : PySem.W.nsIn K mainGlobals "_law_cell" = some (some (.ref f4)))
    (l4 : K.lookup f4 = some ⟨oc4, od4, .func (PySem.W.fnOf "_law_cell" "_law_cell" (defArgs s_law_cell) (defBody s_law_cell) (defScope s_law_cell) .none kV4 dc4 pm4 an4 cd4 ct4), sl4⟩) (c4 : PySem.W.codeIn K cd4 "_law_cell" = true) (k4 : PySem.W.keepIn K (.ref f4) = true)
    (a5 : PySem.W.nsIn K mainGlobals "_law_pool" = some (some (.ref f5)))
    (l5 : K.lookup f5 = some ⟨oc5, od5, .func (PySem.W.fnOf "_law_pool" "_law_pool" (defArgs s_law_pool) (defBody s_law_pool) (defScope s_law_pool) .none kV5 dc5 pm5 an5 cd5 ct5), sl5⟩) (c5 : PySem.W.codeIn K cd5 "_law_pool" = true) (k5 : PySem.W.keepIn K (.ref f5) = true)
    (a6 : PySem.W.nsIn K mainGlobals "_law_take" = some (some (.ref f6)))
    (l6 : K.lookup f6 = some ⟨oc6, od6, .func (PySem.W.fnOf "_law_take" "_law_take" (defArgs s_law_take) (defBody s_law_take) (defScope s_law_take) .none kV6 dc6 pm6 an6 cd6 ct6), sl6⟩) (c6 : PySem.W.codeIn K cd6 "_law_take" = true) (k6 : PySem.W.keepIn K (.ref f6) = true)
    (a7 : PySem.W.nsIn K mainGlobals "_law_then" = some (some (.ref f7)))
    (l7 : K.lookup f7 = some ⟨oc7, od7, .func (PySem.W.fnOf "_law_then" "_law_then" (defArgs s_law_then) (defBody s_law_then) (defScope s_law_then) .none kV7 dc7 pm7 an7 cd7 ct7), sl7⟩) (c7 : PySem.W.codeIn K cd7 "_law_then" = true) (k7 : PySem.W.keepIn K (.ref f7) = true)
    (a8 : PySem.W.nsIn K mainGlobals "_law_undo" = some (some (.ref f8)))
    (l8 : K.lookup f8 = some ⟨oc8, od8, .func (PySem.W.fnOf "_law_undo" "_law_undo" (defArgs s_law_undo) (defBody s_law_undo) (defScope s_law_undo) .none kV8 dc8 pm8 an8 cd8 ct8), sl8⟩) (c8 : PySem.W.codeIn K cd8 "_law_undo" = true) (k8 : PySem.W.keepIn K (.ref f8) = true)
    (a9 : PySem.W.nsIn K mainGlobals "_law_round_from" = some (some (.ref f9)))
    (l9 : K.lookup f9 = some ⟨oc9, od9, .func (PySem.W.fnOf "_law_round_from" "_law_round_from" (defArgs s_law_round_from) (defBody s_law_round_from) (defScope s_law_round_from) .none kV9 dc9 pm9 an9 cd9 ct9), sl9⟩) (c9 : PySem.W.codeIn K cd9 "_law_round_from" = true) (k9 : PySem.W.keepIn K (.ref f9) = true)
    (a10 : PySem.W.nsIn K mainGlobals "_law_same" = some (some (.ref f10)))
    (l10 : K.lookup f10 = some ⟨oc10, od10, .func (PySem.W.fnOf "_law_same" "_law_same" (defArgs s_law_same) (defBody s_law_same) (defScope s_law_same) .none kV10 dc10 pm10 an10 cd10 ct10), sl10⟩) (c10 : PySem.W.codeIn K cd10 "_law_same" = true) (k10 : PySem.W.keepIn K (.ref f10) = true)
    (a11 : PySem.W.nsIn K mainGlobals "_law_sign_due" = some (some (.ref f11)))
    (l11 : K.lookup f11 = some ⟨oc11, od11, .func (PySem.W.fnOf "_law_sign_due" "_law_sign_due" (defArgs s_law_sign_due) (defBody s_law_sign_due) (defScope s_law_sign_due) .none kV11 dc11 pm11 an11 cd11 ct11), sl11⟩) (c11 : PySem.W.codeIn K cd11 "_law_sign_due" = true) (k11 : PySem.W.keepIn K (.ref f11) = true)
    (a12 : PySem.W.nsIn K mainGlobals "_law_is_move_due" = some (some (.ref f12)))
    (l12 : K.lookup f12 = some ⟨oc12, od12, .func (PySem.W.fnOf "_law_is_move_due" "_law_is_move_due" (defArgs s_law_is_move_due) (defBody s_law_is_move_due) (defScope s_law_is_move_due) .none kV12 dc12 pm12 an12 cd12 ct12), sl12⟩) (c12 : PySem.W.codeIn K cd12 "_law_is_move_due" = true) (k12 : PySem.W.keepIn K (.ref f12) = true)
    (a13 : PySem.W.nsIn K mainGlobals "is_between" = some (some (.ref f13)))
    (l13 : K.lookup f13 = some ⟨oc13, od13, .func (PySem.W.fnOf "is_between" "is_between" (defArgs s_is_between) (defBody s_is_between) (defScope s_is_between) .none kV13 dc13 pm13 an13 cd13 ct13), sl13⟩) (c13 : PySem.W.codeIn K cd13 "is_between" = true) (k13 : PySem.W.keepIn K (.ref f13) = true)
    (a14 : PySem.W.nsIn K mainGlobals "_law_move" = some (some (.ref f14)))
    (l14 : K.lookup f14 = some ⟨oc14, od14, .func (PySem.W.fnOf "_law_move" "_law_move" (defArgs s_law_move) (defBody s_law_move) (defScope s_law_move) .none kV14 dc14 pm14 an14 cd14 ct14), sl14⟩) (c14 : PySem.W.codeIn K cd14 "_law_move" = true) (k14 : PySem.W.keepIn K (.ref f14) = true)
    (a15 : PySem.W.nsIn K mainGlobals "_law_all_rounds" = some (some (.ref f15)))
    (l15 : K.lookup f15 = some ⟨oc15, od15, .func (PySem.W.fnOf "_law_all_rounds" "_law_all_rounds" (defArgs s_law_all_rounds) (defBody s_law_all_rounds) (defScope s_law_all_rounds) .none kV15 dc15 pm15 an15 cd15 ct15), sl15⟩) (c15 : PySem.W.codeIn K cd15 "_law_all_rounds" = true) (k15 : PySem.W.keepIn K (.ref f15) = true)
    (a16 : PySem.W.nsIn K mainGlobals "_law_raised_due" = some (some (.ref f16)))
    (l16 : K.lookup f16 = some ⟨oc16, od16, .func (PySem.W.fnOf "_law_raised_due" "_law_raised_due" (defArgs s_law_raised_due) (defBody s_law_raised_due) (defScope s_law_raised_due) .none kV16 dc16 pm16 an16 cd16 ct16), sl16⟩) (c16 : PySem.W.codeIn K cd16 "_law_raised_due" = true) (k16 : PySem.W.keepIn K (.ref f16) = true)
    (a17 : PySem.W.nsIn K mainGlobals "_law_bent" = some (some (.ref f17)))
    (l17 : K.lookup f17 = some ⟨oc17, od17, .func (PySem.W.fnOf "_law_bent" "_law_bent" (defArgs s_law_bent) (defBody s_law_bent) (defScope s_law_bent) .none kV17 dc17 pm17 an17 cd17 ct17), sl17⟩) (c17 : PySem.W.codeIn K cd17 "_law_bent" = true) (k17 : PySem.W.keepIn K (.ref f17) = true)
    (a18 : PySem.W.nsIn K mainGlobals "is_move" = some (some (.ref f18)))
    (l18 : K.lookup f18 = some ⟨oc18, od18, .func (PySem.W.fnOf "is_move" "is_move" (defArgs s_is_move) (defBody s_is_move) (defScope s_is_move) .none kV18 dc18 pm18 an18 cd18 ct18), sl18⟩) (c18 : PySem.W.codeIn K cd18 "is_move" = true) (k18 : PySem.W.keepIn K (.ref f18) = true)
    (a19 : PySem.W.nsIn K mainGlobals "check_points" = some (some (.ref f19)))
    (l19 : K.lookup f19 = some ⟨oc19, od19, .func (PySem.W.fnOf "check_points" "check_points" (defArgs s_check_points) (defBody s_check_points) (defScope s_check_points) .none kV19 dc19 pm19 an19 cd19 ct19), sl19⟩) (c19 : PySem.W.codeIn K cd19 "check_points" = true) (k19 : PySem.W.keepIn K (.ref f19) = true)
    (a20 : PySem.W.nsIn K mainGlobals "_law_turns_right" = some (some (.ref f20)))
    (l20 : K.lookup f20 = some ⟨oc20, od20, .func (PySem.W.fnOf "_law_turns_right" "_law_turns_right" (defArgs s_law_turns_right) (defBody s_law_turns_right) (defScope s_law_turns_right) .none kV20 dc20 pm20 an20 cd20 ct20), sl20⟩) (c20 : PySem.W.codeIn K cd20 "_law_turns_right" = true) (k20 : PySem.W.keepIn K (.ref f20) = true)
    (a21 : PySem.W.nsIn K mainGlobals "check_move" = some (some (.ref f21)))
    (l21 : K.lookup f21 = some ⟨oc21, od21, .func (PySem.W.fnOf "check_move" "check_move" (defArgs s_check_move) (defBody s_check_move) (defScope s_check_move) .none kV21 dc21 pm21 an21 cd21 ct21), sl21⟩) (c21 : PySem.W.codeIn K cd21 "check_move" = true) (k21 : PySem.W.keepIn K (.ref f21) = true)
    (a22 : PySem.W.nsIn K mainGlobals "rest" = some (some (.ref f22)))
    (l22 : K.lookup f22 = some ⟨oc22, od22, .func (PySem.W.fnOf "rest" "rest" (defArgs s_rest) (defBody s_rest) (defScope s_rest) .none kV22 dc22 pm22 an22 cd22 ct22), sl22⟩) (c22 : PySem.W.codeIn K cd22 "rest" = true) (k22 : PySem.W.keepIn K (.ref f22) = true)
    (a23 : PySem.W.nsIn K mainGlobals "then" = some (some (.ref f23)))
    (l23 : K.lookup f23 = some ⟨oc23, od23, .func (PySem.W.fnOf "then" "then" (defArgs s_then) (defBody s_then) (defScope s_then) .none kV23 dc23 pm23 an23 cd23 ct23), sl23⟩) (c23 : PySem.W.codeIn K cd23 "then" = true) (k23 : PySem.W.keepIn K (.ref f23) = true)
    (a24 : PySem.W.nsIn K mainGlobals "undo" = some (some (.ref f24)))
    (l24 : K.lookup f24 = some ⟨oc24, od24, .func (PySem.W.fnOf "undo" "undo" (defArgs s_undo) (defBody s_undo) (defScope s_undo) .none kV24 dc24 pm24 an24 cd24 ct24), sl24⟩) (c24 : PySem.W.codeIn K cd24 "undo" = true) (k24 : PySem.W.keepIn K (.ref f24) = true)
    (a25 : PySem.W.nsIn K mainGlobals "raised" = some (some (.ref f25)))
    (l25 : K.lookup f25 = some ⟨oc25, od25, .func (PySem.W.fnOf "raised" "raised" (defArgs s_raised) (defBody s_raised) (defScope s_raised) .none kV25 dc25 pm25 an25 cd25 ct25), sl25⟩) (c25 : PySem.W.codeIn K cd25 "raised" = true) (k25 : PySem.W.keepIn K (.ref f25) = true)
    (a26 : PySem.W.nsIn K mainGlobals "turns" = some (some (.ref f26)))
    (l26 : K.lookup f26 = some ⟨oc26, od26, .func (PySem.W.fnOf "turns" "turns" (defArgs s_turns) (defBody s_turns) (defScope s_turns) .none kV26 dc26 pm26 an26 cd26 ct26), sl26⟩) (c26 : PySem.W.codeIn K cd26 "turns" = true) (k26 : PySem.W.keepIn K (.ref f26) = true)
    (a27 : PySem.W.nsIn K mainGlobals "rounds" = some (some (.ref f27)))
    (l27 : K.lookup f27 = some ⟨oc27, od27, .func (PySem.W.fnOf "rounds" "rounds" (defArgs s_rounds) (defBody s_rounds) (defScope s_rounds) .none kV27 dc27 pm27 an27 cd27 ct27), sl27⟩) (c27 : PySem.W.codeIn K cd27 "rounds" = true) (k27 : PySem.W.keepIn K (.ref f27) = true)
    (a28 : PySem.W.nsIn K mainGlobals "sign" = some (some (.ref f28)))
    (l28 : K.lookup f28 = some ⟨oc28, od28, .func (PySem.W.fnOf "sign" "sign" (defArgs s_sign) (defBody s_sign) (defScope s_sign) .none kV28 dc28 pm28 an28 cd28 ct28), sl28⟩) (c28 : PySem.W.codeIn K cd28 "sign" = true) (k28 : PySem.W.keepIn K (.ref f28) = true)
    (a29 : PySem.W.nsIn K mainGlobals "_law_told_right" = some (some (.ref f29)))
    (l29 : K.lookup f29 = some ⟨oc29, od29, .func (PySem.W.fnOf "_law_told_right" "_law_told_right" (defArgs s_law_told_right) (defBody s_law_told_right) (defScope s_law_told_right) .none kV29 dc29 pm29 an29 cd29 ct29), sl29⟩) (c29 : PySem.W.codeIn K cd29 "_law_told_right" = true) (k29 : PySem.W.keepIn K (.ref f29) = true)
    (a30 : PySem.W.nsIn K mainGlobals "_law_right" = some (some (.ref f30)))
    (l30 : K.lookup f30 = some ⟨oc30, od30, .func (PySem.W.fnOf "_law_right" "_law_right" (defArgs s_law_right) (defBody s_law_right) (defScope s_law_right) .none kV30 dc30 pm30 an30 cd30 ct30), sl30⟩) (c30 : PySem.W.codeIn K cd30 "_law_right" = true) (k30 : PySem.W.keepIn K (.ref f30) = true)
    (a31 : PySem.W.nsIn K mainGlobals "law" = some (some (.ref f31)))
    (l31 : K.lookup f31 = some ⟨oc31, od31, .func (PySem.W.fnOf "law" "law" (defArgs s_law) (defBody s_law) (defScope s_law) .none kV31 dc31 pm31 an31 cd31 ct31), sl31⟩) (c31 : PySem.W.codeIn K cd31 "law" = true) (k31 : PySem.W.keepIn K (.ref f31) = true)
    (z_abs : PySem.W.nsIn K mainGlobals "abs" = some none)
    (z_all : PySem.W.nsIn K mainGlobals "all" = some none)
    (z_any : PySem.W.nsIn K mainGlobals "any" = some none)
    (z_bool : PySem.W.nsIn K mainGlobals "bool" = some none)
    (z_divmod : PySem.W.nsIn K mainGlobals "divmod" = some none)
    (z_enumerate : PySem.W.nsIn K mainGlobals "enumerate" = some none)
    (z_int : PySem.W.nsIn K mainGlobals "int" = some none)
    (z_isinstance : PySem.W.nsIn K mainGlobals "isinstance" = some none)
    (z_len : PySem.W.nsIn K mainGlobals "len" = some none)
    (z_list : PySem.W.nsIn K mainGlobals "list" = some none)
    (z_max : PySem.W.nsIn K mainGlobals "max" = some none)
    (z_min : PySem.W.nsIn K mainGlobals "min" = some none)
    (z_range : PySem.W.nsIn K mainGlobals "range" = some none)
    (z_repr : PySem.W.nsIn K mainGlobals "repr" = some none)
    (z_set : PySem.W.nsIn K mainGlobals "set" = some none)
    (z_str : PySem.W.nsIn K mainGlobals "str" = some none)
    (z_tuple : PySem.W.nsIn K mainGlobals "tuple" = some none)
    (q_MOST_POINTS : PySem.W.nsIn K mainGlobals "MOST_POINTS" = some (some (.int 60 tk_MOST_POINTS)))
    (q_lcm : PySem.W.nsIn K mainGlobals "lcm" = some (some (.builtin "math.lcm"))) :
    ∃ fd : FuncData, (∀ (s : Shared) (u : Value), BindsTo s fd ⟨[u], []⟩ [("_law_script", u)]) ∧ ∀ base : Heap, K.In base → base.Ns mainGlobals mg → FnG l.prog w K mg base CX0 8 fa fd ["_law_script"] (spG K F_law) := by
  have e := hfa.symm.trans (PySem.W.mg_of X G a31)
  cases e
  have T : Tz K mg := ⟨PySem.W.mg_none_of X G z_abs, PySem.W.mg_none_of X G z_all, PySem.W.mg_none_of X G z_any, PySem.W.mg_none_of X G z_bool, PySem.W.mg_none_of X G z_divmod, PySem.W.mg_none_of X G z_enumerate, PySem.W.mg_none_of X G z_int, PySem.W.mg_none_of X G z_isinstance, PySem.W.mg_none_of X G z_len, PySem.W.mg_none_of X G z_list, PySem.W.mg_none_of X G z_max, PySem.W.mg_none_of X G z_min, PySem.W.mg_none_of X G z_range, PySem.W.mg_none_of X G z_repr, PySem.W.mg_none_of X G z_set, PySem.W.mg_none_of X G z_str, PySem.W.mg_none_of X G z_tuple, ⟨tk_MOST_POINTS, PySem.W.mg_of X G q_MOST_POINTS⟩, PySem.W.mg_of X G q_lcm⟩
  have TC : CEnvOk K cenv := by
    refine ⟨fun p hp C hC => ?_, fun p hp C hC => ?_, fun p hp C' C hC' hC => ?_⟩
    · simp [cenv] at hp
    · simp [cenv] at hp
    · simp [cenv] at hp
  have F0 := fun_mk (st := s_is_whole) l0 c0 k0
  have b0 := F0.binds (ps := ["thing"]) fun _ _ _ _ _ _ us hl => match us, hl with | [_], _ => rfl
  have F1 := fun_mk (st := s_linked_moves) l1 c1 k1
  have b1 := F1.binds (ps := ["one", "other"]) fun _ _ _ _ _ _ us hl => match us, hl with | [_, _], _ => rfl
  have F2 := fun_mk (st := s_undone_move) l2 c2 k2
  have b2 := F2.binds (ps := ["one"]) fun _ _ _ _ _ _ us hl => match us, hl with | [_], _ => rfl
  have F3 := fun_mk (st := s_all_rounds) l3 c3 k3
  have b3 := F3.binds (ps := ["one"]) fun _ _ _ _ _ _ us hl => match us, hl with | [_], _ => rfl
  have F4 := fun_mk (st := s_law_cell) l4 c4 k4
  have b4 := F4.binds (ps := ["_law_script", "_law_k"]) fun _ _ _ _ _ _ us hl => match us, hl with | [_, _], _ => rfl
  have F5 := fun_mk (st := s_law_pool) l5 c5 k5
  have b5 := F5.binds (ps := ["_law_cell_here"]) fun _ _ _ _ _ _ us hl => match us, hl with | [_], _ => rfl
  have F6 := fun_mk (st := s_law_take) l6 c6 k6
  have b6 := F6.binds (ps := ["_law_pool_here", "_law_many"]) fun _ _ _ _ _ _ us hl => match us, hl with | [_, _], _ => rfl
  have F7 := fun_mk (st := s_law_then) l7 c7 k7
  have b7 := F7.binds (ps := ["_law_one", "_law_other"]) fun _ _ _ _ _ _ us hl => match us, hl with | [_, _], _ => rfl
  have F8 := fun_mk (st := s_law_undo) l8 c8 k8
  have b8 := F8.binds (ps := ["_law_one"]) fun _ _ _ _ _ _ us hl => match us, hl with | [_], _ => rfl
  have F9 := fun_mk (st := s_law_round_from) l9 c9 k9
  have b9 := F9.binds (ps := ["_law_one", "_law_point"]) fun _ _ _ _ _ _ us hl => match us, hl with | [_, _], _ => rfl
  have F10 := fun_mk (st := s_law_same) l10 c10 k10
  have b10 := F10.binds (ps := ["_law_told", "_law_due"]) fun _ _ _ _ _ _ us hl => match us, hl with | [_, _], _ => rfl
  have F11 := fun_mk (st := s_law_sign_due) l11 c11 k11
  have b11 := F11.binds (ps := ["_law_one"]) fun _ _ _ _ _ _ us hl => match us, hl with | [_], _ => rfl
  have F12 := fun_mk (st := s_law_is_move_due) l12 c12 k12
  have b12 := F12.binds (ps := ["_law_thing"]) fun _ _ _ _ _ _ us hl => match us, hl with | [_], _ => rfl
  have F13 := fun_mk (st := s_is_between) l13 c13 k13
  have b13 := F13.binds (ps := ["thing", "low", "high"]) fun _ _ _ _ _ _ us hl => match us, hl with | [_, _, _], _ => rfl
  have F14 := fun_mk (st := s_law_move) l14 c14 k14
  have b14 := F14.binds (ps := ["_law_pool_here", "_law_points"]) fun _ _ _ _ _ _ us hl => match us, hl with | [_, _], _ => rfl
  have F15 := fun_mk (st := s_law_all_rounds) l15 c15 k15
  have b15 := F15.binds (ps := ["_law_one"]) fun _ _ _ _ _ _ us hl => match us, hl with | [_], _ => rfl
  have F16 := fun_mk (st := s_law_raised_due) l16 c16 k16
  have b16 := F16.binds (ps := ["_law_one", "_law_much"]) fun _ _ _ _ _ _ us hl => match us, hl with | [_, _], _ => rfl
  have F17 := fun_mk (st := s_law_bent) l17 c17 k17
  have b17 := F17.binds (ps := ["_law_pool_here", "_law_one"]) fun _ _ _ _ _ _ us hl => match us, hl with | [_, _], _ => rfl
  have F18 := fun_mk (st := s_is_move) l18 c18 k18
  have b18 := F18.binds (ps := ["thing"]) fun _ _ _ _ _ _ us hl => match us, hl with | [_], _ => rfl
  have F19 := fun_mk (st := s_check_points) l19 c19 k19
  have b19 := F19.binds (ps := ["points"]) fun _ _ _ _ _ _ us hl => match us, hl with | [_], _ => rfl
  have F20 := fun_mk (st := s_law_turns_right) l20 c20 k20
  have b20 := F20.binds (ps := ["_law_one", "_law_told"]) fun _ _ _ _ _ _ us hl => match us, hl with | [_, _], _ => rfl
  have F21 := fun_mk (st := s_check_move) l21 c21 k21
  have b21 := F21.binds (ps := ["thing"]) fun _ _ _ _ _ _ us hl => match us, hl with | [_], _ => rfl
  have F22 := fun_mk (st := s_rest) l22 c22 k22
  have b22 := F22.binds (ps := ["points"]) fun _ _ _ _ _ _ us hl => match us, hl with | [_], _ => rfl
  have F23 := fun_mk (st := s_then) l23 c23 k23
  have b23 := F23.binds (ps := ["one", "other"]) fun _ _ _ _ _ _ us hl => match us, hl with | [_, _], _ => rfl
  have F24 := fun_mk (st := s_undo) l24 c24 k24
  have b24 := F24.binds (ps := ["one"]) fun _ _ _ _ _ _ us hl => match us, hl with | [_], _ => rfl
  have F25 := fun_mk (st := s_raised) l25 c25 k25
  have b25 := F25.binds (ps := ["one", "times"]) fun _ _ _ _ _ _ us hl => match us, hl with | [_, _], _ => rfl
  have F26 := fun_mk (st := s_turns) l26 c26 k26
  have b26 := F26.binds (ps := ["one"]) fun _ _ _ _ _ _ us hl => match us, hl with | [_], _ => rfl
  have F27 := fun_mk (st := s_rounds) l27 c27 k27
  have b27 := F27.binds (ps := ["one"]) fun _ _ _ _ _ _ us hl => match us, hl with | [_], _ => rfl
  have F28 := fun_mk (st := s_sign) l28 c28 k28
  have b28 := F28.binds (ps := ["one"]) fun _ _ _ _ _ _ us hl => match us, hl with | [_], _ => rfl
  have F29 := fun_mk (st := s_law_told_right) l29 c29 k29
  have b29 := F29.binds (ps := ["_law_one", "_law_two", "_law_much"]) fun _ _ _ _ _ _ us hl => match us, hl with | [_, _, _], _ => rfl
  have F30 := fun_mk (st := s_law_right) l30 c30 k30
  have b30 := F30.binds (ps := ["_law_pool_here"]) fun _ _ _ _ _ _ us hl => match us, hl with | [_], _ => rfl
  have F31 := fun_mk (st := s_law) l31 c31 k31
  refine ⟨PySem.W.fnOf "law" "law" (defArgs s_law) (defBody s_law) (defScope s_law) .none kV31 dc31 pm31 an31 cd31 ct31, fun s u => .of_eq rfl, fun base _ _ => ?_⟩
  have n0 : Kn l.prog w K mg base "is_whole" 1 ["thing"] F_is_whole := kn_of F0 (PySem.W.mg_of X G a0) b0 sc_is_whole (fun ds m z q => many_Fof ds m z q) (fun cdv A outer s H EX hr hG => b_is_whole T TC cdv A outer s H EX hr hG) (keeps_Fof _ _ _)
  have n1 : Kn l.prog w K mg base "linked_moves" 1 ["one", "other"] F_linked_moves := kn_of F1 (PySem.W.mg_of X G a1) b1 sc_linked_moves (fun ds m z q => many_Fof ds m z q) (fun cdv A outer s H EX hr hG => b_linked_moves T TC cdv A outer s H EX hr hG) (keeps_Fof _ _ _)
  have n2 : Kn l.prog w K mg base "undone_move" 1 ["one"] F_undone_move := kn_of F2 (PySem.W.mg_of X G a2) b2 sc_undone_move (fun ds m z q => many_Fof ds m z q) (fun cdv A outer s H EX hr hG => b_undone_move T TC cdv A outer s H EX hr hG) (keeps_Fof _ _ _)
  have n3 : Kn l.prog w K mg base "_all_rounds" 1 ["one"] F_all_rounds := kn_of F3 (PySem.W.mg_of X G a3) b3 sc_all_rounds (fun ds m z q => many_Fof ds m z q) (fun cdv A outer s H EX hr hG => b_all_rounds T TC cdv A outer s H EX hr hG) (keeps_Fof _ _ _)
  have n4 : Kn l.prog w K mg base "_law_cell" 1 ["_law_script", "_law_k"] F_law_cell := kn_of F4 (PySem.W.mg_of X G a4) b4 sc_law_cell (fun ds m z q => many_Fof0 ds m z q) (fun cdv A outer s H EX hr hG => b_law_cell T TC cdv A outer s H EX hr hG) (keeps_Fof0 _ _ _)
  have n5 : Kn l.prog w K mg base "_law_pool" 1 ["_law_cell_here"] F_law_pool := kn_of F5 (PySem.W.mg_of X G a5) b5 sc_law_pool (fun ds m z q => many_Fof0 ds m z q) (fun cdv A outer s H EX hr hG => b_law_pool T TC cdv A outer s H EX hr hG) (keeps_Fof0 _ _ _)
  have n6 : Kn l.prog w K mg base "_law_take" 1 ["_law_pool_here", "_law_many"] F_law_take := kn_of F6 (PySem.W.mg_of X G a6) b6 sc_law_take (fun ds m z q => many_Fof0 ds m z q) (fun cdv A outer s H EX hr hG => b_law_take T TC cdv A outer s H EX hr hG) (keeps_Fof0 _ _ _)
  have n7 : Kn l.prog w K mg base "_law_then" 1 ["_law_one", "_law_other"] F_law_then := kn_of F7 (PySem.W.mg_of X G a7) b7 sc_law_then (fun ds m z q => many_Fof ds m z q) (fun cdv A outer s H EX hr hG => b_law_then T TC cdv A outer s H EX hr hG) (keeps_Fof _ _ _)
  have n8 : Kn l.prog w K mg base "_law_undo" 1 ["_law_one"] F_law_undo := kn_of F8 (PySem.W.mg_of X G a8) b8 sc_law_undo (fun ds m z q => many_Fof ds m z q) (fun cdv A outer s H EX hr hG => b_law_undo T TC cdv A outer s H EX hr hG) (keeps_Fof _ _ _)
  have n9 : Kn l.prog w K mg base "_law_round_from" 1 ["_law_one", "_law_point"] F_law_round_from := kn_of F9 (PySem.W.mg_of X G a9) b9 sc_law_round_from (fun ds m z q => many_Fof ds m z q) (fun cdv A outer s H EX hr hG => b_law_round_from T TC cdv A outer s H EX hr hG) (keeps_Fof _ _ _)
  have n10 : Kn l.prog w K mg base "_law_same" 1 ["_law_told", "_law_due"] F_law_same := kn_of F10 (PySem.W.mg_of X G a10) b10 sc_law_same (fun ds m z q => many_Fof ds m z q) (fun cdv A outer s H EX hr hG => b_law_same T TC cdv A outer s H EX hr hG) (keeps_Fof _ _ _)
  have n11 : Kn l.prog w K mg base "_law_sign_due" 1 ["_law_one"] F_law_sign_due := kn_of F11 (PySem.W.mg_of X G a11) b11 sc_law_sign_due (fun ds m z q => many_Fof ds m z q) (fun cdv A outer s H EX hr hG => b_law_sign_due T TC cdv A outer s H EX hr hG) (keeps_Fof _ _ _)
  have n12 : Kn l.prog w K mg base "_law_is_move_due" 1 ["_law_thing"] F_law_is_move_due := kn_of F12 (PySem.W.mg_of X G a12) b12 sc_law_is_move_due (fun ds m z q => many_Fof ds m z q) (fun cdv A outer s H EX hr hG => b_law_is_move_due T TC cdv A outer s H EX hr hG) (keeps_Fof _ _ _)
  have n13 : Kn l.prog w K mg base "is_between" 2 ["thing", "low", "high"] F_is_between := kn_of F13 (PySem.W.mg_of X G a13) b13 sc_is_between (fun ds m z q => many_Fof ds m z q) (fun cdv A outer s H EX hr hG => b_is_between T TC n0 cdv A outer s H EX hr hG) (keeps_Fof _ _ _)
  have n14 : Kn l.prog w K mg base "_law_move" 2 ["_law_pool_here", "_law_points"] F_law_move := kn_of F14 (PySem.W.mg_of X G a14) b14 sc_law_move (fun ds m z q => many_Fof0 ds m z q) (fun cdv A outer s H EX hr hG => b_law_move T TC n6 cdv A outer s H EX hr hG) (keeps_Fof0 _ _ _)
  have n15 : Kn l.prog w K mg base "_law_all_rounds" 2 ["_law_one"] F_law_all_rounds := kn_of F15 (PySem.W.mg_of X G a15) b15 sc_law_all_rounds (fun ds m z q => many_Fof ds m z q) (fun cdv A outer s H EX hr hG => b_law_all_rounds T TC n9 cdv A outer s H EX hr hG) (keeps_Fof _ _ _)
  have n16 : Kn l.prog w K mg base "_law_raised_due" 2 ["_law_one", "_law_much"] F_law_raised_due := kn_of F16 (PySem.W.mg_of X G a16) b16 sc_law_raised_due (fun ds m z q => many_Fof ds m z q) (fun cdv A outer s H EX hr hG => b_law_raised_due T TC n9 cdv A outer s H EX hr hG) (keeps_Fof _ _ _)
  have n17 : Kn l.prog w K mg base "_law_bent" 2 ["_law_pool_here", "_law_one"] F_law_bent := kn_of F17 (PySem.W.mg_of X G a17) b17 sc_law_bent (fun ds m z q => many_Fof0 ds m z q) (fun cdv A outer s H EX hr hG => b_law_bent T TC n6 cdv A outer s H EX hr hG) (keeps_Fof0 _ _ _)
  have n18 : Kn l.prog w K mg base "is_move" 3 ["thing"] F_is_move := kn_of F18 (PySem.W.mg_of X G a18) b18 sc_is_move (fun ds m z q => many_Fof ds m z q) (fun cdv A outer s H EX hr hG => b_is_move T TC n13 cdv A outer s H EX hr hG) (keeps_Fof _ _ _)
  have n19 : Kn l.prog w K mg base "check_points" 3 ["points"] F_check_points := kn_of F19 (PySem.W.mg_of X G a19) b19 sc_check_points (fun ds m z q => many_Fof ds m z q) (fun cdv A outer s H EX hr hG => b_check_points T TC n13 cdv A outer s H EX hr hG) (keeps_Fof _ _ _)
  have n20 : Kn l.prog w K mg base "_law_turns_right" 3 ["_law_one", "_law_told"] F_law_turns_right := kn_of F20 (PySem.W.mg_of X G a20) b20 sc_law_turns_right (fun ds m z q => many_Fof ds m z q) (fun cdv A outer s H EX hr hG => b_law_turns_right T TC n15 cdv A outer s H EX hr hG) (keeps_Fof _ _ _)
  have n21 : Kn l.prog w K mg base "check_move" 4 ["thing"] F_check_move := kn_of F21 (PySem.W.mg_of X G a21) b21 sc_check_move (fun ds m z q => many_Fof ds m z q) (fun cdv A outer s H EX hr hG => b_check_move T TC n18 cdv A outer s H EX hr hG) (keeps_Fof _ _ _)
  have n22 : Kn l.prog w K mg base "rest" 4 ["points"] F_rest := kn_of F22 (PySem.W.mg_of X G a22) b22 sc_rest (fun ds m z q => many_Fof ds m z q) (fun cdv A outer s H EX hr hG => b_rest T TC n19 cdv A outer s H EX hr hG) (keeps_Fof _ _ _)
  have n23 : Kn l.prog w K mg base "then" 5 ["one", "other"] F_then := kn_of F23 (PySem.W.mg_of X G a23) b23 sc_then (fun ds m z q => many_Fof ds m z q) (fun cdv A outer s H EX hr hG => b_then T TC n21 n1 cdv A outer s H EX hr hG) (keeps_Fof _ _ _)
  have n24 : Kn l.prog w K mg base "undo" 5 ["one"] F_undo := kn_of F24 (PySem.W.mg_of X G a24) b24 sc_undo (fun ds m z q => many_Fof ds m z q) (fun cdv A outer s H EX hr hG => b_undo T TC n21 n2 cdv A outer s H EX hr hG) (keeps_Fof _ _ _)
  have n25 : Kn l.prog w K mg base "raised" 5 ["one", "times"] F_raised := kn_of F25 (PySem.W.mg_of X G a25) b25 sc_raised (fun ds m z q => many_Fof ds m z q) (fun cdv A outer s H EX hr hG => b_raised T TC n21 n0 n3 cdv A outer s H EX hr hG) (keeps_Fof _ _ _)
  have n26 : Kn l.prog w K mg base "turns" 5 ["one"] F_turns := kn_of F26 (PySem.W.mg_of X G a26) b26 sc_turns (fun ds m z q => many_Fof ds m z q) (fun cdv A outer s H EX hr hG => b_turns T TC n21 n3 cdv A outer s H EX hr hG) (keeps_Fof _ _ _)
  have n27 : Kn l.prog w K mg base "rounds" 5 ["one"] F_rounds := kn_of F27 (PySem.W.mg_of X G a27) b27 sc_rounds (fun ds m z q => many_Fof ds m z q) (fun cdv A outer s H EX hr hG => b_rounds T TC n21 n3 cdv A outer s H EX hr hG) (keeps_Fof _ _ _)
  have n28 : Kn l.prog w K mg base "sign" 5 ["one"] F_sign := kn_of F28 (PySem.W.mg_of X G a28) b28 sc_sign (fun ds m z q => many_Fof ds m z q) (fun cdv A outer s H EX hr hG => b_sign T TC n21 n3 cdv A outer s H EX hr hG) (keeps_Fof _ _ _)
  have n29 : Kn l.prog w K mg base "_law_told_right" 6 ["_law_one", "_law_two", "_law_much"] F_law_told_right := kn_of F29 (PySem.W.mg_of X G a29) b29 sc_law_told_right (fun ds m z q => many_Fof ds m z q) (fun cdv A outer s H EX hr hG => b_law_told_right T TC n10 n23 n7 n24 n8 n25 n16 n28 n11 n15 n27 n20 n26 cdv A outer s H EX hr hG) (keeps_Fof _ _ _)
  have n30 : Kn l.prog w K mg base "_law_right" 7 ["_law_pool_here"] F_law_right := kn_of F30 (PySem.W.mg_of X G a30) b30 sc_law_right (fun ds m z q => many_Fof0 ds m z q) (fun cdv A outer s H EX hr hG => b_law_right T TC n6 n14 n29 n10 n22 n23 n24 n17 n18 n12 cdv A outer s H EX hr hG) (keeps_Fof0 _ _ _)
  exact fn_ok (F := F_law) F31 sc_law (fun ds m z q => many_Fof0 ds m z q) (fun cdv A outer s H EX hr hG => b_law T TC n30 n5 n4 cdv A outer s H EX hr hG) (keeps_Fof0 _ _ _)
end k01
open PySem PySem.W PyProof.Rows
set_option maxHeartbeats 0 in
theorem PySem.Challenge.cw_movegroups_k01_moves_told_and_made_holds : PySem.Challenge.rw_movegroups_k01_moves_told_and_made.Holds := by
  w_on; o_law; k_head; (case hw => w_witness2)
  k_fill
  refine Mv.walk_ofG (l := PySem.Challenge.rw_movegroups_k01_moves_told_and_made) (n := 63) (k := 8) (x := "_law_script") (F := k01.F_law) rfl (by decide) rfl ⟨rfl, by decide, by decide⟩ (fun w h Y => PySem.W.kIn_of Y) ?F (fun ns _ => k01.law_ev ns)
  case F =>
    intro w mg fa h KX G hmg
    refine' k01.all_mk KX G hmg ?a0 ?l0 ?c0 ?k0 ?a1 ?l1 ?c1 ?k1 ?a2 ?l2 ?c2 ?k2 ?a3 ?l3 ?c3 ?k3 ?a4 ?l4 ?c4 ?k4 ?a5 ?l5 ?c5 ?k5 ?a6 ?l6 ?c6 ?k6 ?a7 ?l7 ?c7 ?k7 ?a8 ?l8 ?c8 ?k8 ?a9 ?l9 ?c9 ?k9 ?a10 ?l10 ?c10 ?k10 ?a11 ?l11 ?c11 ?k11 ?a12 ?l12 ?c12 ?k12 ?a13 ?l13 ?c13 ?k13 ?a14 ?l14 ?c14 ?k14 ?a15 ?l15 ?c15 ?k15 ?a16 ?l16 ?c16 ?k16 ?a17 ?l17 ?c17 ?k17 ?a18 ?l18 ?c18 ?k18 ?a19 ?l19 ?c19 ?k19 ?a20 ?l20 ?c20 ?k20 ?a21 ?l21 ?c21 ?k21 ?a22 ?l22 ?c22 ?k22 ?a23 ?l23 ?c23 ?k23 ?a24 ?l24 ?c24 ?k24 ?a25 ?l25 ?c25 ?k25 ?a26 ?l26 ?c26 ?k26 ?a27 ?l27 ?c27 ?k27 ?a28 ?l28 ?c28 ?k28 ?a29 ?l29 ?c29 ?k29 ?a30 ?l30 ?c30 ?k30 ?a31 ?l31 ?c31 ?k31 ?z_abs ?z_all ?z_any ?z_bool ?z_divmod ?z_enumerate ?z_int ?z_isinstance ?z_len ?z_list ?z_max ?z_min ?z_range ?z_repr ?z_set ?z_str ?z_tuple ?q_MOST_POINTS ?q_lcm
    (case a0 => k_is); (case l0 => k_is); (case c0 => k_is); (case k0 => k_is); (case a1 => k_is); (case l1 => k_is); (case c1 => k_is); (case k1 => k_is); (case a2 => k_is); (case l2 => k_is); (case c2 => k_is); (case k2 => k_is); (case a3 => k_is); (case l3 => k_is); (case c3 => k_is); (case k3 => k_is); (case a4 => k_is); (case l4 => k_is); (case c4 => k_is); (case k4 => k_is); (case a5 => k_is); (case l5 => k_is); (case c5 => k_is); (case k5 => k_is); (case a6 => k_is); (case l6 => k_is); (case c6 => k_is); (case k6 => k_is); (case a7 => k_is); (case l7 => k_is); (case c7 => k_is); (case k7 => k_is); (case a8 => k_is); (case l8 => k_is); (case c8 => k_is); (case k8 => k_is); (case a9 => k_is); (case l9 => k_is); (case c9 => k_is); (case k9 => k_is); (case a10 => k_is); (case l10 => k_is); (case c10 => k_is); (case k10 => k_is); (case a11 => k_is); (case l11 => k_is); (case c11 => k_is); (case k11 => k_is); (case a12 => k_is); (case l12 => k_is); (case c12 => k_is); (case k12 => k_is); (case a13 => k_is); (case l13 => k_is); (case c13 => k_is); (case k13 => k_is); (case a14 => k_is); (case l14 => k_is); (case c14 => k_is); (case k14 => k_is); (case a15 => k_is); (case l15 => k_is); (case c15 => k_is); (case k15 => k_is); (case a16 => k_is); (case l16 => k_is); (case c16 => k_is); (case k16 => k_is); (case a17 => k_is); (case l17 => k_is); (case c17 => k_is); (case k17 => k_is); (case a18 => k_is); (case l18 => k_is); (case c18 => k_is); (case k18 => k_is); (case a19 => k_is); (case l19 => k_is); (case c19 => k_is); (case k19 => k_is); (case a20 => k_is); (case l20 => k_is); (case c20 => k_is); (case k20 => k_is); (case a21 => k_is); (case l21 => k_is); (case c21 => k_is); (case k21 => k_is); (case a22 => k_is); (case l22 => k_is); (case c22 => k_is); (case k22 => k_is); (case a23 => k_is); (case l23 => k_is); (case c23 => k_is); (case k23 => k_is); (case a24 => k_is); (case l24 => k_is); (case c24 => k_is); (case k24 => k_is); (case a25 => k_is); (case l25 => k_is); (case c25 => k_is); (case k25 => k_is); (case a26 => k_is); (case l26 => k_is); (case c26 => k_is); (case k26 => k_is); (case a27 => k_is); (case l27 => k_is); (case c27 => k_is); (case k27 => k_is); (case a28 => k_is); (case l28 => k_is); (case c28 => k_is); (case k28 => k_is); (case a29 => k_is); (case l29 => k_is); (case c29 => k_is); (case k29 => k_is); (case a30 => k_is); (case l30 => k_is); (case c30 => k_is); (case k30 => k_is); (case a31 => k_is); (case l31 => k_is); (case c31 => k_is); (case k31 => k_is); (case z_abs => k_is); (case z_all => k_is); (case z_any => k_is); (case z_bool => k_is); (case z_divmod => k_is); (case z_enumerate => k_is); (case z_int => k_is); (case z_isinstance => k_is); (case z_len => k_is); (case z_list => k_is); (case z_max => k_is); (case z_min => k_is); (case z_range => k_is); (case z_repr => k_is); (case z_set => k_is); (case z_str => k_is); (case z_tuple => k_is); (case q_MOST_POINTS => k_is); (case q_lcm => k_is)

