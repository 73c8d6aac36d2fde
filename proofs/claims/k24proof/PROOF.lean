import PyProof.Rows.All
import Wide.All
import OpenK.AllK
import Wide.FinOn
import HandS.ForMost
import HandS.ForExc
import HandS.TupAny
import HandS.TupMul
import HandS.TupLe
import HandS.IsInst
import HandS.WideBits
import HandS.Deep
import HandS.Zip
import HandS.Conv
import HandS.Flow
import HandS.SetFor
import HandS.Gcd
import HandS.Style
import KE.GoesMore
import KE.KMathGC
import KE.KRevSl
import HandS.Ends
import HandS.RaiseMore
import HandS.Dict
import HandS.Codes
import HandS.Small
import HandS.DictComp
import HandS.SetKeys
import KE.KIndexOf
import HandS.SortInts
import HandS.More
import HandS.WordsDict
import HandS.TupLen
import KE.KDictDisplayH
import KE.KDictPairs
import HandS.TupSets
import KE.KDictSum
import HandS.SetBool
import HandS.Strs
import KE.RegKIsAll
import PySem.Challenge.RW_movegroups_k24_series_of_parts
set_option linter.all false
/-! Cyc: rounds of a one-to-one function on the numbers below n. -/
namespace Cyc
theorem nodup_len {n : Nat} : ∀ {l : List Nat}, l.Nodup → (∀ x ∈ l, x < n) → l.length ≤ n := by
  induction n with
  | zero =>
    intro l _ h
    cases l with
    | nil => exact Nat.le_refl _
    | cons x l => exact absurd (h x (by simp)) (Nat.not_lt_zero _)
  | succ n ih =>
    intro l hd h
    have h1 : (l.erase n).length ≤ n := ih (hd.erase n) fun x hx => by
      have hm := List.mem_of_mem_erase hx
      have hne : x ≠ n := fun z => by
        subst z
        exact absurd hx (by simpa using hd.not_mem_erase)
      have := h x hm
      omega
    have h2 := List.length_erase_le (a := n) (l := l)
    by_cases hm : n ∈ l
    · rw [List.length_erase_of_mem hm] at h1
      omega
    · rw [List.erase_of_not_mem hm] at h1
      omega
def it (f : Nat → Nat) : Nat → Nat → Nat
  | 0, x => x
  | i + 1, x => f (it f i x)
theorem it_add (f : Nat → Nat) (i j x : Nat) : it f (i + j) x = it f i (it f j x) := by
  induction i with
  | zero => rw [Nat.zero_add]; rfl
  | succ i ih => rw [Nat.succ_add]; show f (it f (i + j) x) = f _; rw [ih]
structure Perm (n : Nat) (f : Nat → Nat) : Prop where
  lt : ∀ x, x < n → f x < n
  inj : ∀ x y, x < n → y < n → f x = f y → x = y
section
variable {n : Nat} {f : Nat → Nat}
theorem Perm.it_lt (h : Perm n f) {x : Nat} (hx : x < n) : ∀ i, it f i x < n
  | 0 => hx
  | i + 1 => h.lt _ (Perm.it_lt h hx i)
theorem Perm.it_inj (h : Perm n f) {x y : Nat} (hx : x < n) (hy : y < n) : ∀ i, it f i x = it f i y → x = y
  | 0, e => e
  | i + 1, e => Perm.it_inj h hx hy i (h.inj _ _ (h.it_lt hx i) (h.it_lt hy i) e)
theorem Perm.returns (h : Perm n f) {x : Nat} (hx : x < n) : ∃ k, 0 < k ∧ k ≤ n ∧ it f k x = x := by
  refine Classical.byContradiction fun hc => ?_
  have hno : ∀ k, 0 < k → k ≤ n → it f k x ≠ x := fun k h1 h2 h3 => hc ⟨k, h1, h2, h3⟩
  have hd : ((List.range (n + 1)).map fun i => it f i x).Nodup := by
    rw [List.Nodup, List.pairwise_map]
    refine List.Pairwise.imp_of_mem ?_ (List.nodup_range (n := n + 1))
    intro a b ha hb hab e
    rw [List.mem_range] at ha hb
    rcases Nat.lt_or_gt_of_ne hab with q | q
    · have e2 : b = a + (b - a) := by omega
      rw [e2, it_add] at e
      have := h.it_inj hx (h.it_lt hx _) a e
      exact hno (b - a) (by omega) (by omega) this.symm
    · have e2 : a = b + (a - b) := by omega
      rw [e2, it_add] at e
      have := h.it_inj (h.it_lt hx _) hx b e
      exact hno (a - b) (by omega) (by omega) this
  have := nodup_len (n := n) hd (by
    intro y hy
    obtain ⟨i, _, rfl⟩ := List.mem_map.mp hy
    exact h.it_lt hx i)
  simp at this
  omega
theorem least {P : Nat → Prop} (h : ∃ k, P k) : ∃ k, P k ∧ ∀ j, j < k → ¬ P j := by
  obtain ⟨k, hk⟩ := h
  induction k using Nat.strongRecOn with
  | _ k ih =>
    by_cases q : ∃ j, j < k ∧ P j
    · obtain ⟨j, h1, h2⟩ := q
      exact ih j h1 h2
    · exact ⟨k, hk, fun j h1 h2 => q ⟨j, h1, h2⟩⟩
open Classical in
noncomputable def per (f : Nat → Nat) (x : Nat) : Nat := if h : ∃ k, 0 < k ∧ it f k x = x then (least h).choose else 1
theorem Perm.per_spec (h : Perm n f) {x : Nat} (hx : x < n) : 0 < per f x ∧ it f (per f x) x = x ∧ (∀ j, 0 < j → j < per f x → it f j x ≠ x) ∧ per f x ≤ n := by
  have hex : ∃ k, 0 < k ∧ it f k x = x := by
    obtain ⟨k, h1, _, h3⟩ := h.returns hx
    exact ⟨k, h1, h3⟩
  have e : per f x = (least hex).choose := by unfold per; rw [dif_pos hex]
  obtain ⟨⟨h1, h2⟩, h3⟩ := (least hex).choose_spec
  rw [← e] at h1 h2 h3
  refine ⟨h1, h2, fun j q1 q2 q3 => h3 j q2 ⟨q1, q3⟩, ?_⟩
  obtain ⟨k, q1, q2, q3⟩ := h.returns hx
  have : ¬ k < per f x := fun z => h3 k z ⟨q1, q3⟩
  omega
theorem Perm.it_per_mul (h : Perm n f) {x : Nat} (hx : x < n) : ∀ q, it f (per f x * q) x = x
  | 0 => rfl
  | q + 1 => by rw [Nat.mul_succ, it_add, (h.per_spec hx).2.1, Perm.it_per_mul h hx q]
theorem Perm.it_mod (h : Perm n f) {x : Nat} (hx : x < n) (i : Nat) : it f i x = it f (i % per f x) x := by
  have e : i = i % per f x + per f x * (i / per f x) := (Nat.mod_add_div i (per f x)).symm
  rw [show it f i x = it f (i % per f x + per f x * (i / per f x)) x from by rw [← e], it_add, h.it_per_mul hx]
theorem Perm.it_ne (h : Perm n f) {x : Nat} (hx : x < n) {i j : Nat} (hij : i < j) (hj : j < per f x) : it f i x ≠ it f j x := fun e => by
  have e2 : j = i + (j - i) := by omega
  rw [e2, it_add] at e
  have := h.it_inj hx (h.it_lt hx _) i e
  exact (h.per_spec hx).2.2.1 (j - i) (by omega) (by omega) this.symm
noncomputable def orb (f : Nat → Nat) (x : Nat) : List Nat := (List.range (per f x)).map fun i => it f i x
theorem orb_len (f : Nat → Nat) (x : Nat) : (orb f x).length = per f x := by simp [orb]
theorem Perm.orb_nodup (h : Perm n f) {x : Nat} (hx : x < n) : (orb f x).Nodup := by
  unfold orb
  rw [List.Nodup, List.pairwise_map]
  refine List.Pairwise.imp_of_mem ?_ (List.nodup_range (n := per f x))
  intro a b ha hb hab e
  rw [List.mem_range] at ha hb
  rcases Nat.lt_or_gt_of_ne hab with q | q
  · exact h.it_ne hx q hb e
  · exact h.it_ne hx q ha e.symm
theorem Perm.mem_orb (h : Perm n f) {x y : Nat} (hx : x < n) : y ∈ orb f x ↔ ∃ i, it f i x = y := by
  unfold orb
  rw [List.mem_map]
  constructor
  · rintro ⟨i, _, e⟩
    exact ⟨i, e⟩
  · rintro ⟨i, e⟩
    refine ⟨i % per f x, List.mem_range.mpr (Nat.mod_lt _ (h.per_spec hx).1), ?_⟩
    rw [← h.it_mod hx]; exact e
theorem Perm.orb_lt (h : Perm n f) {x y : Nat} (hx : x < n) (hy : y ∈ orb f x) : y < n := by
  obtain ⟨i, e⟩ := (h.mem_orb hx).mp hy
  rw [← e]; exact h.it_lt hx i
theorem Perm.orb_self (h : Perm n f) {x : Nat} (hx : x < n) : x ∈ orb f x := (h.mem_orb hx).mpr ⟨0, rfl⟩
theorem Perm.orb_symm (h : Perm n f) {x y : Nat} (hx : x < n) (hy : y ∈ orb f x) : x ∈ orb f y := by
  obtain ⟨i, e⟩ := (h.mem_orb hx).mp hy
  have hyn := h.orb_lt hx hy
  refine (h.mem_orb hyn).mpr ⟨per f x * (i + 1) - i, ?_⟩
  rw [← e, ← it_add]
  have : i ≤ per f x * (i + 1) := by
    have := (h.per_spec hx).1
    calc i ≤ 1 * (i + 1) := by omega
      _ ≤ per f x * (i + 1) := Nat.mul_le_mul_right _ this
  rw [Nat.sub_add_cancel this, h.it_per_mul hx]
theorem Perm.orb_trans (h : Perm n f) {x y z : Nat} (hx : x < n) (hy : y ∈ orb f x) (hz : z ∈ orb f y) : z ∈ orb f x := by
  obtain ⟨i, e⟩ := (h.mem_orb hx).mp hy
  obtain ⟨j, e2⟩ := (h.mem_orb (h.orb_lt hx hy)).mp hz
  exact (h.mem_orb hx).mpr ⟨j + i, by rw [it_add, e, e2]⟩
theorem Perm.orb_step (h : Perm n f) {x y : Nat} (hx : x < n) (hy : y < n) : f y ∈ orb f x ↔ y ∈ orb f x := by
  constructor
  · intro q
    have h1 : f y ∈ orb f y := (h.mem_orb hy).mpr ⟨1, rfl⟩
    exact h.orb_trans hx q (h.orb_symm hy h1)
  · intro q
    exact h.orb_trans hx q ((h.mem_orb hy).mpr ⟨1, rfl⟩)
theorem Perm.per_eq (h : Perm n f) {x y : Nat} (hx : x < n) (hy : y ∈ orb f x) : per f y = per f x := by
  have key : ∀ {a b : Nat}, a < n → b ∈ orb f a → per f b ≤ per f a := fun {a b} ha hb => by
    obtain ⟨i, e⟩ := (h.mem_orb ha).mp hb
    have hbn := h.orb_lt ha hb
    have q : it f (per f a) b = b := by
      rw [← e, ← it_add, Nat.add_comm, it_add, (h.per_spec ha).2.1]
    refine Nat.le_of_not_lt fun z => ?_
    exact (h.per_spec hbn).2.2.1 (per f a) (h.per_spec ha).1 z q
  exact Nat.le_antisymm (key hx hy) (key (h.orb_lt hx hy) (h.orb_symm hx hy))
theorem Perm.orb_get (h : Perm n f) {x : Nat} (hx : x < n) {i : Nat} (hi : i < per f x) : (orb f x)[i]? = some (it f i x) := by
  unfold orb
  rw [List.getElem?_map, List.getElem?_range hi]; rfl
end
/-- what the points below k come to -/
def cov (f : Nat → Nat) (k y : Nat) : Prop := ∃ j, j < k ∧ y ∈ orb f j
section
variable {n : Nat} {f : Nat → Nat}
theorem Perm.cov_orb (h : Perm n f) {k : Nat} (hk : k < n) (hn : ¬ cov f k k) : ∀ y ∈ orb f k, ¬ cov f k y := fun y hy ⟨j, h1, h2⟩ => by
  have hj : j < n := by omega
  exact hn ⟨j, h1, h.orb_trans hj h2 (h.orb_symm hk hy)⟩
theorem Perm.cov_same (h : Perm n f) {k : Nat} (hk : k < n) (hc : cov f k k) (y : Nat) : cov f (k + 1) y ↔ cov f k y := by
  constructor
  · rintro ⟨j, h1, h2⟩
    by_cases e : j = k
    · subst e
      obtain ⟨i, q1, q2⟩ := hc
      exact ⟨i, q1, h.orb_trans (by omega) q2 h2⟩
    · exact ⟨j, by omega, h2⟩
  · rintro ⟨j, h1, h2⟩
    exact ⟨j, by omega, h2⟩
theorem cov_succ (f : Nat → Nat) (k y : Nat) : cov f (k + 1) y ↔ cov f k y ∨ y ∈ orb f k := by
  constructor
  · rintro ⟨j, h1, h2⟩
    by_cases e : j = k
    · subst e; exact .inr h2
    · exact .inl ⟨j, by omega, h2⟩
  · rintro (⟨j, h1, h2⟩ | h2)
    · exact ⟨j, by omega, h2⟩
    · exact ⟨k, by omega, h2⟩
open Classical in
/-- the rounds of the points below k, by their least points -/
noncomputable def rows (f : Nat → Nat) : Nat → List (List Nat)
  | 0 => []
  | k + 1 => if cov f k k then rows f k else rows f k ++ [orb f k]
theorem rows_cov {f : Nat → Nat} {k : Nat} (h : cov f k k) : rows f (k + 1) = rows f k := if_pos h
theorem rows_new {f : Nat → Nat} {k : Nat} (h : ¬ cov f k k) : rows f (k + 1) = rows f k ++ [orb f k] := if_neg h
theorem Perm.mem_rows (h : Perm n f) : ∀ k, k ≤ n → ∀ y, cov f k y ↔ ∃ r ∈ rows f k, y ∈ r
  | 0, _, y => ⟨fun ⟨j, q, _⟩ => absurd q (Nat.not_lt_zero _), fun ⟨r, q, _⟩ => by simp [rows] at q⟩
  | k + 1, hk, y => by
    unfold rows
    split
    · rename_i hc
      rw [h.cov_same (by omega) hc, Perm.mem_rows h k (by omega)]
    · rename_i hc
      rw [cov_succ, Perm.mem_rows h k (by omega)]
      simp only [List.mem_append, List.mem_singleton]
      constructor
      · rintro (⟨r, q1, q2⟩ | q)
        · exact ⟨r, .inl q1, q2⟩
        · exact ⟨_, .inr rfl, q⟩
      · rintro ⟨r, q1 | q1, q2⟩
        · exact .inl ⟨r, q1, q2⟩
        · subst q1; exact .inr q2
theorem Perm.rows_flat (h : Perm n f) : ∀ k, k ≤ n → (rows f k).flatten.Nodup
  | 0, _ => by simp [rows]
  | k + 1, hk => by
    unfold rows
    split
    · exact Perm.rows_flat h k (by omega)
    · rename_i hc
      rw [List.flatten_append, List.nodup_append]
      refine ⟨Perm.rows_flat h k (by omega), by simpa using h.orb_nodup (by omega), fun a ha b hb z => ?_⟩
      subst z
      have hb' : a ∈ orb f k := by simpa using hb
      obtain ⟨r, q1, q2⟩ := List.mem_flatten.mp ha
      exact h.cov_orb (by omega) hc a hb' ((h.mem_rows k (by omega) a).mpr ⟨r, q1, q2⟩)
theorem Perm.rows_all (h : Perm n f) : (rows f n).flatten.length = n := by
  refine Nat.le_antisymm (nodup_len (h.rows_flat n (Nat.le_refl _)) fun x hx => ?_) ?_
  · obtain ⟨r, q1, q2⟩ := List.mem_flatten.mp hx
    obtain ⟨j, w1, w2⟩ := (h.mem_rows n (Nat.le_refl _) x).mpr ⟨r, q1, q2⟩
    exact h.orb_lt w1 w2
  · have hs : ∀ x ∈ List.range n, x ∈ (rows f n).flatten := fun x hx => by
      have hx := List.mem_range.mp hx
      obtain ⟨r, q1, q2⟩ := (h.mem_rows n (Nat.le_refl _) x).mp ⟨x, hx, h.orb_self hx⟩
      exact List.mem_flatten.mpr ⟨r, q1, q2⟩
    have key : ∀ (l m : List Nat), l.Nodup → (∀ x ∈ l, x ∈ m) → l.length ≤ m.length := by
      intro l
      induction l with
      | nil => intro m _ _; exact Nat.zero_le _
      | cons a l ih =>
        intro m hd hm
        have ha := hm a (by simp)
        have hd' := List.nodup_cons.mp hd
        have q := ih (m.erase a) hd'.2 fun x hx => by
          have hne : x ≠ a := fun z => by subst z; exact hd'.1 hx
          exact (List.mem_erase_of_ne hne).mpr (hm x (by simp [hx]))
        rw [List.length_erase_of_mem ha] at q
        have : 0 < m.length := List.length_pos_of_mem ha
        simp only [List.length_cons]
        omega
    have := key (List.range n) _ List.nodup_range hs
    simpa using this
theorem Perm.rows_mem (h : Perm n f) : ∀ k, k ≤ n → ∀ r ∈ rows f k, ∃ j, j < k ∧ r = orb f j
  | 0, _, r, q => by simp [rows] at q
  | k + 1, hk, r, q => by
    unfold rows at q
    split at q
    · obtain ⟨j, h1, h2⟩ := Perm.rows_mem h k (by omega) r q
      exact ⟨j, by omega, h2⟩
    · rcases List.mem_append.mp q with q | q
      · obtain ⟨j, h1, h2⟩ := Perm.rows_mem h k (by omega) r q
        exact ⟨j, by omega, h2⟩
      · exact ⟨k, by omega, by simpa using q⟩
/-- a point is met ahead just where it isn't the least of its round -/
theorem Perm.cov_iff (h : Perm n f) {k : Nat} (hk : k < n) : cov f k k ↔ ∃ y ∈ orb f k, y < k := by
  constructor
  · rintro ⟨j, h1, h2⟩
    exact ⟨j, h.orb_symm (by omega) h2, h1⟩
  · rintro ⟨y, h1, h2⟩
    exact ⟨y, h2, h.orb_symm hk h1⟩
end
end Cyc

set_option Elab.async false
set_option linter.all false
set_option maxRecDepth 100000
set_option maxHeartbeats 4000000
/-! Mv0: a def's promise where no repr is under way (so that repr of a tuple may be told). -/
namespace Mv
open PySem PySem.Spec PyProof.Rows L2
section
variable {P : Program} {w : World} {K : PySem.W.Frag} {mg : Str → Option Value} {base : Heap} {CX : CXT}
/-- as the layer's FnOk, but called with no guard under way -/
structure FnG (P : Program) (w : World) (K : PySem.W.Frag) (mg : Str → Option Value) (base : Heap) (CX : CXT) (k : Nat) (f : Addr) (fd : FuncData) (ps : List Str) (sp : Sp) : Prop where
  many : ∀ vs H Q E, sp vs H Q E → vs.length = ps.length
  goes : ∀ (A : Around), Room k A → A.guards = some [] → ∀ (outer : List Env) (s : Shared) (H : Hp), Env0 P w K mg base A outer s H →
    ∀ (args : Args) (us : List Value), BindsTo s fd args (ps.zip us) → ∀ (vs : List V), Vals vs us → ∀ (Q : VK) (E : XK), sp vs H Q E →
      codeAny (model P w) A (.call (.ref f) args) (CR CX outer P w H s Q E) s
theorem FnG.up {j k : Nat} {f : Addr} {fd : FuncData} {ps : List Str} {sp : Sp} (F : FnG P w K mg base CX j f fd ps sp) (h : j ≤ k) : FnG P w K mg base CX k f fd ps sp :=
  ⟨F.many, fun A hr => F.goes A (hr.mono h)⟩
theorem FnG.weak {k : Nat} {f : Addr} {fd : FuncData} {ps : List Str} {sp sp' : Sp} (F : FnG P w K mg base CX k f fd ps sp) (h : ∀ vs H Q E, sp' vs H Q E → sp vs H Q E) : FnG P w K mg base CX k f fd ps sp' :=
  ⟨fun vs H Q E q => F.many vs H Q E (h _ _ _ _ q), fun A hr hg outer s H e0 args us hb vs rv Q E q => F.goes A hr hg outer s H e0 args us hb vs rv Q E (h _ _ _ _ q)⟩
/-- a def of the text by its body -/
theorem fnG_of {x qual : Str} {st : Stmt} {f : Addr} {fd : FuncData} {N ps : List Str} {k : Nat} {sp : Sp} (F : Fun K x qual st f fd) (S : FnScope N ps (defScope st)) (many : ∀ vs H Q E, sp vs H Q E → vs.length = ps.length)
    (body : ∀ (cdv : Value) (A : Around) (outer : List Env) (s : Shared) (H : Hp) (E : XK), Room k (A.deeper (envOfC qual (defScope st) s.heap.objs.size f cdv)) → A.guards = some [] →
      ∀ (vs : List V) (Q : VK), sp vs H Q E → ∃ t, PSs (cxOf CX P w K mg base N qual (defScope st) f cdv A outer s H E) (defBody st) t ∧ t { nx := fun _ H' => Q .non H', rt := Q } (start N vs) H) :
    FnG P w K mg base CX (k + 1) f fd ps sp := by
  obtain ⟨oc, od, kV, doc, pm, an, cdv, ct, osl, rfl, lk, hcd⟩ := F.ex
  refine ⟨many, fun A hr hg outer s H e0 args us hb vs rv Q E hq => ?_⟩
  have inK : K.In s.heap := e0.mod.kin.keeps (fun b o e => (e0.bs b o e).1)
  have room := hr.deeper (envOfC qual (defScope st) s.heap.objs.size f cdv)
  obtain ⟨t, ht, hw⟩ := body cdv A outer s H E room hg vs Q hq
  refine codeAny_call_function hr.depth (inK _ _ lk) rfl S.co S.gen rfl (PySem.W.codeRec_of inK hcd) (hb _ _ _ _ ?_)
  refine wpAny_newFunctionEnv_cells S.kind ?_ ?_
  · rintro ⟨n, v⟩ hy
    rcases S.par n (List.of_mem_zip hy).1 with q | q
    · exact Or.inl q
    · exact Or.inr ⟨q, PySem.W.cellsFrom_some _ _ _ (Or.inl q)⟩
  · intro env he s1 ic
    subst he
    refine ⟨(e0.mod.nolimit.keeps (fun b o e => (e0.bs b o e).1)).keeps ic.toInCall.keep, codeAny_func ?_⟩
    have I := inv_start (CX := CX) (E := E) S hr.hd e0 (many _ _ _ _ hq) rv ic
    have run := ht.run [] s1 (start N vs) H _ I hw
    refine wpAny_mono run (fun fl s' hs => ?_) (fun e s' hs => hs)
    cases fl with
    | ret u =>
      obtain ⟨v, σ', H', J, rel, q⟩ := hs
      exact ⟨v, H', J.os, J.bare, J.base, J.hok, rel, q⟩
    | next =>
      obtain ⟨σ', H', J, q⟩ := hs
      exact ⟨V.non, H', J.os, J.bare, J.base, J.hok, rfl, q⟩
    | brk => obtain ⟨_, _, _, q⟩ := hs; exact q.elim
    | cont => obtain ⟨_, _, _, q⟩ := hs; exact q.elim
end
section
variable {X : Cx} {CX : CXT} {k : Nat} {f : Addr} {fd : FuncData} {ps : List Str} {sp : Sp} {dvs : List V} {ds : List Value} {E : XK} {x : Str} {p pos : Pos} {e : Expr} {es : List Expr} {t : TA}
theorem runG {pins : List (Addr × Obj)} {σ : L2.St} {H : Hp} {s : Shared} {Q : VK} {us : List Value} {vs : List V} (F : FnG X.prog X.w X.K X.mg X.base CX k f fd ps sp) (hr : Room k X.A) (hG : X.A.guards = some []) (hb : Binds X.K fd ps ds) (hd : Vals dvs ds)
    (hx : Passes CX X E) (I : Inv X pins σ H s) (r : Vals vs us) (h : sp (vs ++ dvs) H Q E) : wpAny (model X.prog X.w) X.A (call (.ref f) us) (EP X pins σ Q) X.xe s := by
  have rr : Vals (vs ++ dvs) (us ++ ds) := r.append hd
  have hn : (us ++ ds).length = ps.length := rr.length ▸ F.many _ _ _ _ h
  refine wpAny_call (codeAny_mono (F.goes X.A hr hG X.stack s H I.env0 ⟨us, []⟩ (us ++ ds) (hb s us I.kIn hn) (vs ++ dvs) rr Q E h) ?_)
  intro res s' hq
  match res, hq with
  | .error e, hq => exact hx pins σ H s e s' I hq
  | .ok (.ret u), hq => exact I.after hq
  | .ok .next, hq => exact False.elim hq
  | .ok .brk, hq => exact False.elim hq
  | .ok .cont, hq => exact False.elim hq
/-- f(e, ..), f a def of the text -/
theorem pe_callG (F : FnG X.prog X.w X.K X.mg X.base CX k f fd ps sp) (hr : Room k X.A) (hG : X.A.guards = some []) (hm : X.mg x = some (.ref f)) (hk : PySem.W.keepIn X.K (.ref f) = true) (hb : Binds X.K fd ps ds) (hd : Vals dvs ds)
    (hx : Passes CX X E) (hg : Gl X x) (ha : PA X (e :: es) t) (hdb : (x == ("__debug__" : Str)) = false := by decide) (he : starEach (e :: es) X.env = (false, eval e X.env) :: starEach es X.env := by rfl)
    (hpl : (backTo pos (starEach es X.env)).any (·.1) = false := by rfl) : PE X (.Call (.Name x p) (e :: es) [] pos) (tCall sp dvs E t) := by
  constructor
  intro pins s σ H Q I h
  refine wpAny_Call_Name_kw (ld_glob I hg hm (PySem.W.callWith_K (h₀ := X.base) I.ok.mod.kin hk ?_ he hpl) hdb)
  refine thn (ha.run pos pins s σ H _ I h) ?_
  rintro us s1 ⟨vs, H1, I1, r, q⟩
  exact ⟨I1.kIn, runG F hr hG hb hd hx I1 r q⟩
end
end Mv

set_option Elab.async false
set_option linter.all false
set_option maxRecDepth 100000
set_option maxHeartbeats 4000000
/-! Mv: Python's values as data (tuples as trees, lists by places), expressions and statements as plain functions over them, and what ties them to the layer's readings. -/
namespace Mv
open PySem PySem.Spec PyProof.Rows L2

abbrev Fg := PySem.W.Frag
/-- a value as data: tuples whole, lists by their place -/
inductive D where
  | non | bl (b : Bool) | int (i : Int) | str (x : Str) | tup (xs : List D) | loc (l : Nat) | ty (n : String) | kl (xs : List D)
  /-- a class of the text; an instance of one that is written no more -/
  | cls (n : Str) | ins (n : Str) (ks : List Str) (xs : List D)
  /-- a tuple of which it is known that it has no dict of its own: its methods may be called -/
  | stp (xs : List D)
  /-- a tuple that is just made and stands in the heap by itself: it may be a dict's key -/
  | ttp (xs : List D)
/-- what stands at a place -/
inductive Cell where
  | lst (xs : List D)
  | dK (ks : List Key) (xs : List D)
  | dT (ks : List (List Key)) (xs : List D)
  | ob (n : Str) (ks : List Str) (xs : List D)
abbrev Mem := List Cell
abbrev Sl := List (Option D)

/-- the class C has the name n -/
def ClsAt (K : Fg) (n : Str) (C : Addr) : Prop := PySem.W.nsIn K mainGlobals n = some (some (.ref C))
/-- a tuple that stands for good -/
def Fixed : HO → Prop
  | .tup _ => True
  | .frz _ _ => True
  | _ => False
/-- a list that stands for good: the script -/
def KlAt (K : Fg) (H : Hp) (a : Addr) (xs : List V) : Prop := (∃ o, H a = some (.frz o (.lst xs))) ∨ ∀ H', SqL K H' a xs
def TupAt (K : Fg) (H : Hp) (a : Addr) (xs : List V) : Prop := H a = some (.tup xs) ∨ (∃ o, H a = some (.frz o (.tup xs))) ∨ ∀ H', SqT K H' a xs
mutual
inductive Val (K : Fg) (r : List Addr) (H : Hp) : V → D → Prop
  | non : Val K r H .non .non
  | bl (b : Bool) : Val K r H (.bl b) (.bl b)
  | int (i : Int) : Val K r H (.int i) (.int i)
  | str (x : Str) : Val K r H (.str x) (.str x)
  | ty (n : String) : Val K r H (.ty n) (.ty n)
  | tup {a : Addr} {vs : List V} {xs : List D} (h : TupAt K H a vs) (hs : VAll K r H vs xs) : Val K r H (.ref a) (.tup xs)
  | loc {a : Addr} {l : Nat} (h : r[l]? = some a) : Val K r H (.ref a) (.loc l)
  | kl {a : Addr} {vs : List V} {xs : List D} (h : KlAt K H a vs) (hs : VAll K r H vs xs) : Val K r H (.ref a) (.kl xs)
  | stp {a : Addr} {o : Obj} {vs : List V} {xs : List D} (h : H a = some (.frz o (.tup vs))) (hd : o.dict = none) (hs : VAll K r H vs xs) : Val K r H (.ref a) (.stp xs)
  | ttp {a : Addr} {vs : List V} {xs : List D} (h : H a = some (.tup vs)) (hs : VAll K r H vs xs) : Val K r H (.ref a) (.ttp xs)
  | cls {C : Addr} {n : Str} (h : ClsAt K n C) : Val K r H (.ref C) (.cls n)
  | ins {a C dx : Addr} {n : Str} {ks : List Str} {vs : List V} {xs : List D} (h : H a = some (.ins C dx (ks.zip vs))) (hn : a ∉ r) (hc : ClsAt K n C) (hl : ks.length = xs.length) (hs : VAll K r H vs xs) : Val K r H (.ref a) (.ins n ks xs)
inductive VAll (K : Fg) (r : List Addr) (H : Hp) : List V → List D → Prop
  | nil : VAll K r H [] []
  | cons {v : V} {d : D} {vs : List V} {ds : List D} (h : Val K r H v d) (hs : VAll K r H vs ds) : VAll K r H (v :: vs) (d :: ds)
end

/-- what any step leaves: places stay and come, what is at no place stays, tuples stay -/
structure Ext (r : List Addr) (H : Hp) (r' : List Addr) (H' : Hp) : Prop where
  pre : ∃ t, r' = r ++ t
  new : ∀ a ∈ r', a ∈ r ∨ H a = none
  keep : ∀ b o, H b = some o → b ∉ r → H' b = some o
  fix : ∀ b o, Fixed o → H b = some o → H' b = some o
  had : ∀ b o, H b = some o → ∃ o', H' b = some o'
def CellOk (K : Fg) (r : List Addr) (H : Hp) (a : Addr) : Cell → Prop
  | .lst xs => ∃ vs, H a = some (.lst vs) ∧ VAll K r H vs xs
  | .dK ks xs => ∃ vs, H a = some (.dK (ks.zip vs)) ∧ ks.length = xs.length ∧ VAll K r H vs xs
  | .dT ks xs => ∃ vs, H a = some (.dT (ks.zip vs)) ∧ ks.length = xs.length ∧ VAll K r H vs xs
  | .ob n ks xs => ∃ vs, (∃ C dx, H a = some (.ins C dx (ks.zip vs)) ∧ ClsAt K n C) ∧ ks.length = xs.length ∧ VAll K r H vs xs
structure MemOk (K : Fg) (r : List Addr) (H : Hp) (m : Mem) : Prop where
  len : r.length = m.length
  nd : r.Nodup
  cell : ∀ (l : Nat) (c : Cell), m[l]? = some c → ∃ a, r[l]? = some a ∧ CellOk K r H a c
def SlOk (K : Fg) (r : List Addr) (H : Hp) (σ : L2.St) (e : Sl) : Prop :=
  σ.length = e.length ∧ ∀ (i : Nat) d, e[i]? = some (some d) → ∃ v, σ[i]? = some (some v) ∧ Val K r H v d

section
variable {K : Fg} {r r' r1 r2 : List Addr} {H H' H1 H2 : Hp} {m m' : Mem}
theorem Ext.tup (x : Ext r H r' H') : ∀ b xs, H b = some (.tup xs) → H' b = some (.tup xs) := fun b xs h => x.fix b _ trivial h
theorem Ext.refl : Ext r H r H := ⟨⟨[], by simp⟩, fun _ h => .inl h, fun _ _ h _ => h, fun _ _ _ h => h, fun _ o h => ⟨o, h⟩⟩
theorem Ext.trans (a : Ext r H r1 H1) (b : Ext r1 H1 r2 H2) : Ext r H r2 H2 := by
  refine ⟨?_, fun x hx => ?_, fun x o hx hn => ?_, fun x o hf hx => b.fix _ _ hf (a.fix _ _ hf hx), fun x o hx => ?_⟩
  · obtain ⟨t, e⟩ := a.pre
    obtain ⟨u, e2⟩ := b.pre
    exact ⟨t ++ u, by rw [e2, e, List.append_assoc]⟩
  · rcases b.new x hx with h | h
    · exact a.new x h
    · by_cases hr : x ∈ r
      · exact .inl hr
      · right
        cases q : H x with
        | none => rfl
        | some o =>
          rw [a.keep x o q hr] at h
          cases h
  · have h1 := a.keep x o hx hn
    refine b.keep x o h1 fun h => ?_
    rcases a.new x h with h | h
    · exact hn h
    · rw [hx] at h; cases h
  · obtain ⟨o1, h1⟩ := a.had x o hx
    exact b.had x o1 h1
/-- a new object that is at no place -/
theorem Ext.fresh {p : Addr} {o : HO} (h : H p = none) : Ext r H r (upd H p o) :=
  ⟨⟨[], by simp⟩, fun _ h => .inl h, fun b u e _ => by rw [upd_ne (ne_of_none e h)]; exact e, fun b o hf e => by rw [upd_ne (ne_of_none e h)]; exact e, fun b u e => ⟨u, by rw [upd_ne (ne_of_none e h)]; exact e⟩⟩
/-- a new object at a new place -/
theorem Ext.alloc {p : Addr} {o : HO} (h : H p = none) : Ext r H (r ++ [p]) (upd H p o) :=
  ⟨⟨[p], rfl⟩, fun a ha => by
    rcases List.mem_append.mp ha with ha | ha
    · exact .inl ha
    · have e : a = p := by simpa using ha
      subst e; exact .inr h, fun b u e _ => by rw [upd_ne (ne_of_none e h)]; exact e, fun b o hf e => by rw [upd_ne (ne_of_none e h)]; exact e, fun b u e => ⟨u, by rw [upd_ne (ne_of_none e h)]; exact e⟩⟩
/-- an object that is at a place is written -/
theorem Ext.write {p : Addr} {o : HO} (hp : p ∈ r) (h : ∀ u, Fixed u → H p ≠ some u) : Ext r H r (upd H p o) :=
  ⟨⟨[], by simp⟩, fun _ h => .inl h, fun b u e n => by
    have z : b ≠ p := fun z => n (by rw [z]; exact hp)
    rw [upd_ne z]; exact e, fun b u hf e => by
    have z : b ≠ p := fun z => h u hf (by rw [← z]; exact e)
    rw [upd_ne z]; exact e, fun b u e => by
    by_cases z : b = p
    · exact ⟨o, by rw [z]; exact upd_same⟩
    · exact ⟨u, by rw [upd_ne z]; exact e⟩⟩
theorem TupAt.sq {a : Addr} {xs : List V} (h : TupAt K H a xs) : SqT K H a xs := by
  rcases h with h | ⟨o, h⟩ | h
  · exact .inl (.inl h)
  · exact .inl (.inr ⟨o, h⟩)
  · exact h H
theorem TupAt.ext {a : Addr} {xs : List V} (x : Ext r H r' H') (h : TupAt K H a xs) : TupAt K H' a xs := by
  rcases h with h | ⟨o, h⟩ | h
  · exact .inl (x.fix _ _ trivial h)
  · exact .inr (.inl ⟨o, x.fix _ _ trivial h⟩)
  · exact .inr (.inr h)
theorem Ext.get (x : Ext r H r' H') {l : Nat} {a : Addr} (h : r[l]? = some a) : r'[l]? = some a := by
  obtain ⟨t, e⟩ := x.pre
  rw [e, List.getElem?_append_left (List.getElem?_eq_some_iff.mp h).1]
  exact h
/-- instances at no place stay, at no place -/
def StayI (r : List Addr) (H : Hp) (r' : List Addr) (H' : Hp) : Prop := ∀ b C dx fs, H b = some (.ins C dx fs) → b ∉ r → H' b = some (.ins C dx fs) ∧ b ∉ r'
theorem Ext.stayI (x : Ext r H r' H') : StayI r H r' H' := fun b C dx fs h hn => ⟨x.keep b _ h hn, fun z => (x.new b z).elim hn fun q => by rw [h] at q; cases q⟩
mutual
theorem Val.mo (hp : ∃ t, r' = r ++ t) (ht : ∀ b o, Fixed o → H b = some o → H' b = some o) (hi : StayI r H r' H') : ∀ {v : V} {d : D}, Val K r H v d → Val K r' H' v d
  | _, _, .non => .non
  | _, _, .bl b => .bl b
  | _, _, .int i => .int i
  | _, _, .str s => .str s
  | _, _, .ty n => .ty n
  | _, _, .tup h hs => .tup (h.elim (fun h => .inl (ht _ _ trivial h)) fun h => .inr (h.elim (fun ⟨o, h⟩ => .inl ⟨o, ht _ _ trivial h⟩) .inr)) (VAll.mo hp ht hi hs)
  | _, _, .stp h hd hs => .stp (ht _ _ trivial h) hd (VAll.mo hp ht hi hs)
  | _, _, .ttp h hs => .ttp (ht _ _ trivial h) (VAll.mo hp ht hi hs)
  | _, _, .kl h hs => .kl (h.elim (fun ⟨o, h⟩ => .inl ⟨o, ht _ _ trivial h⟩) .inr) (VAll.mo hp ht hi hs)
  | _, _, .cls h => .cls h
  | _, _, .ins h hn hc hl hs => .ins (hi _ _ _ _ h hn).1 (hi _ _ _ _ h hn).2 hc hl (VAll.mo hp ht hi hs)
  | _, _, .loc h => .loc (by
    obtain ⟨t, e⟩ := hp
    rw [e, List.getElem?_append_left (List.getElem?_eq_some_iff.mp h).1]
    exact h)
theorem VAll.mo (hp : ∃ t, r' = r ++ t) (ht : ∀ b o, Fixed o → H b = some o → H' b = some o) (hi : StayI r H r' H') : ∀ {vs : List V} {ds : List D}, VAll K r H vs ds → VAll K r' H' vs ds
  | _, _, .nil => .nil
  | _, _, .cons h hs => .cons (Val.mo hp ht hi h) (VAll.mo hp ht hi hs)
end
theorem Val.mono (x : Ext r H r' H') {v : V} {d : D} (h : Val K r H v d) : Val K r' H' v d := h.mo x.pre x.fix x.stayI
theorem VAll.mono (x : Ext r H r' H') {vs : List V} {ds : List D} (h : VAll K r H vs ds) : VAll K r' H' vs ds := h.mo x.pre x.fix x.stayI
theorem SlOk.mono (x : Ext r H r' H') {σ : L2.St} {e : Sl} (h : SlOk K r H σ e) : SlOk K r' H' σ e :=
  ⟨h.1, fun i d q => let ⟨v, a, b⟩ := h.2 i d q; ⟨v, a, b.mono x⟩⟩
theorem VAll.length : ∀ {vs : List V} {ds : List D}, VAll K r H vs ds → vs.length = ds.length
  | _, _, .nil => rfl
  | _, _, .cons _ hs => by rw [List.length_cons, List.length_cons, VAll.length hs]
theorem VAll.append : ∀ {vs ws : List V} {ds es : List D}, VAll K r H vs ds → VAll K r H ws es → VAll K r H (vs ++ ws) (ds ++ es)
  | _, _, _, _, .nil, h => h
  | _, _, _, _, .cons a b, h => .cons a (VAll.append b h)
theorem VAll.get : ∀ {vs : List V} {ds : List D} {i : Nat} {d : D}, VAll K r H vs ds → ds[i]? = some d → ∃ v, vs[i]? = some v ∧ Val K r H v d
  | _, _, _, _, .nil, h => by simp at h
  | _, _, 0, _, .cons a _, h => by simp at h; subst h; exact ⟨_, rfl, a⟩
  | _, _, i + 1, d, .cons _ b, h => by
    obtain ⟨v, q, w⟩ := VAll.get (i := i) (d := d) b (by simpa using h)
    exact ⟨v, by simpa using q, w⟩
theorem VAll.getV : ∀ {vs : List V} {ds : List D} {i : Nat} {v : V}, VAll K r H vs ds → vs[i]? = some v → ∃ d, ds[i]? = some d ∧ Val K r H v d
  | _, _, _, _, .nil, h => by simp at h
  | _, _, 0, _, .cons a _, h => by simp at h; subst h; exact ⟨_, rfl, a⟩
  | _, _, i + 1, d, .cons _ b, h => by
    obtain ⟨v, q, w⟩ := VAll.getV (i := i) (v := d) b (by simpa using h)
    exact ⟨v, by simpa using q, w⟩
theorem VAll.set : ∀ {vs : List V} {ds : List D} {v : V} {d : D} (i : Nat), VAll K r H vs ds → Val K r H v d → VAll K r H (vs.set i v) (ds.set i d)
  | _, _, _, _, _, .nil, _ => .nil
  | _, _, _, _, 0, .cons _ b, h => .cons h b
  | _, _, _, _, i + 1, .cons a b, h => .cons a (VAll.set i b h)
theorem VAll.take : ∀ {vs : List V} {ds : List D} (n : Nat), VAll K r H vs ds → VAll K r H (vs.take n) (ds.take n)
  | _, _, 0, _ => .nil
  | _, _, _ + 1, .nil => .nil
  | _, _, n + 1, .cons a b => .cons a (VAll.take n b)
theorem VAll.drop : ∀ {vs : List V} {ds : List D} (n : Nat), VAll K r H vs ds → VAll K r H (vs.drop n) (ds.drop n)
  | _, _, 0, h => h
  | _, _, _ + 1, .nil => .nil
  | _, _, n + 1, .cons _ b => VAll.drop n b
theorem VAll.dropLast : ∀ {vs : List V} {ds : List D}, VAll K r H vs ds → VAll K r H vs.dropLast ds.dropLast
  | _, _, .nil => .nil
  | _, _, .cons _ .nil => .nil
  | _, _, .cons a (.cons b c) => .cons a (VAll.dropLast (.cons b c))
theorem VAll.reverse {vs : List V} {ds : List D} (h : VAll K r H vs ds) : VAll K r H vs.reverse ds.reverse := by
  match h with
  | .nil => exact .nil
  | .cons a b =>
    rw [List.reverse_cons, List.reverse_cons]
    exact VAll.append (VAll.reverse b) (.cons a .nil)
theorem VAll.rep {vs : List V} {ds : List D} (h : VAll K r H vs ds) : ∀ k : Nat, VAll K r H (List.replicate k vs).flatten (List.replicate k ds).flatten
  | 0 => .nil
  | k + 1 => by
    rw [List.replicate_succ, List.replicate_succ, List.flatten_cons, List.flatten_cons]
    exact VAll.append h (VAll.rep h k)
theorem VAll.ints : ∀ {ns : List Int} {vs : List V}, VAll K r H vs (ns.map D.int) → vs = ns.map V.int
  | [], _, .nil => rfl
  | _ :: _, _, .cons (.int _) b => by rw [List.map_cons, ← VAll.ints b]
theorem VAll.ofInts : ∀ (ns : List Int), VAll K r H (ns.map V.int) (ns.map D.int)
  | [] => .nil
  | _ :: ns => .cons (.int _) (VAll.ofInts ns)
theorem VAll.bools : ∀ {ns : List Bool} {vs : List V}, VAll K r H vs (ns.map D.bl) → vs = ns.map V.bl
  | [], _, .nil => rfl
  | _ :: _, _, .cons (.bl _) b => by rw [List.map_cons, ← VAll.bools b]
theorem Val.intE {v : V} {i : Int} (h : Val K r H v (.int i)) : v = .int i := by cases h; rfl
theorem Val.blE {v : V} {i : Bool} (h : Val K r H v (.bl i)) : v = .bl i := by cases h; rfl
theorem Val.strE {v : V} {i : Str} (h : Val K r H v (.str i)) : v = .str i := by cases h; rfl
theorem Val.tyE {v : V} {n : String} (h : Val K r H v (.ty n)) : v = .ty n := by cases h; rfl
theorem Val.klE {v : V} {xs : List D} (h : Val K r H v (.kl xs)) : ∃ a vs, v = .ref a ∧ KlAt K H a vs ∧ VAll K r H vs xs := by
  cases h with
  | kl a b => exact ⟨_, _, rfl, a, b⟩
theorem KlAt.sq {a : Addr} {xs : List V} (h : KlAt K H a xs) : SqL K H a xs := h.elim (fun ⟨o, h⟩ => .inl (.inr ⟨o, h⟩)) fun h => h H
theorem Val.clsE {v : V} {n : Str} (h : Val K r H v (.cls n)) : ∃ C, v = .ref C ∧ ClsAt K n C := by
  cases h with
  | cls a => exact ⟨_, rfl, a⟩
theorem Val.insE {v : V} {n : Str} {ks : List Str} {xs : List D} (h : Val K r H v (.ins n ks xs)) : ∃ a C dx vs, v = .ref a ∧ H a = some (.ins C dx (ks.zip vs)) ∧ a ∉ r ∧ ClsAt K n C ∧ ks.length = xs.length ∧ VAll K r H vs xs := by
  cases h with
  | ins a b c d e => exact ⟨_, _, _, _, rfl, a, b, c, d, e⟩
theorem Val.nonE {v : V} (h : Val K r H v .non) : v = .non := by cases h; rfl
theorem Val.tupE {v : V} {xs : List D} (h : Val K r H v (.tup xs)) : ∃ a vs, v = .ref a ∧ TupAt K H a vs ∧ VAll K r H vs xs := by
  cases h with
  | tup a b => exact ⟨_, _, rfl, a, b⟩
theorem Val.stpE {v : V} {xs : List D} (h : Val K r H v (.stp xs)) : ∃ a o vs, v = .ref a ∧ H a = some (.frz o (.tup vs)) ∧ o.dict = none ∧ VAll K r H vs xs := by
  cases h with
  | stp a b c => exact ⟨_, _, _, rfl, a, b, c⟩
theorem Val.ttpE {v : V} {xs : List D} (h : Val K r H v (.ttp xs)) : ∃ a vs, v = .ref a ∧ H a = some (.tup vs) ∧ VAll K r H vs xs := by
  cases h with
  | ttp a b => exact ⟨_, _, rfl, a, b⟩
mutual
/-- .. forgotten, all the way down -/
def D.weak : D → D
  | .stp xs => .tup (D.weakAll xs)
  | .ttp xs => .tup (D.weakAll xs)
  | .tup xs => .tup (D.weakAll xs)
  | .non => .non | .bl b => .bl b | .int i => .int i | .str x => .str x | .loc l => .loc l | .ty n => .ty n | .kl xs => .kl xs | .cls n => .cls n | .ins n ks xs => .ins n ks xs
def D.weakAll : List D → List D
  | [] => []
  | x :: xs => x.weak :: D.weakAll xs
end
mutual
theorem Val.weak : ∀ {v : V} {d : D}, Val K r H v d → Val K r H v d.weak
  | _, _, .stp h hd hs => .tup (.inr (.inl ⟨_, h⟩)) (VAll.weak hs)
  | _, _, .ttp h hs => .tup (.inl h) (VAll.weak hs)
  | _, _, .tup h hs => .tup h (VAll.weak hs)
  | _, _, .non => .non
  | _, _, .bl b => .bl b
  | _, _, .int i => .int i
  | _, _, .str s => .str s
  | _, _, .ty n => .ty n
  | _, _, .loc h => .loc h
  | _, _, .kl h hs => .kl h hs
  | _, _, .cls h => .cls h
  | _, _, .ins h hn hc hl hs => .ins h hn hc hl hs
theorem VAll.weak : ∀ {vs : List V} {ds : List D}, VAll K r H vs ds → VAll K r H vs (D.weakAll ds)
  | _, _, .nil => .nil
  | _, _, .cons h hs => .cons (Val.weak h) (VAll.weak hs)
end
theorem Val.locE {v : V} {l : Nat} (h : Val K r H v (.loc l)) : ∃ a, v = .ref a ∧ r[l]? = some a := by
  cases h with
  | loc a => exact ⟨_, rfl, a⟩

theorem sqL_upd {p a : Addr} {o : HO} {vs : List V} (h : H p = none) (q : SqL K H a vs) : SqL K (upd H p o) a vs := by
  rcases q with (q | ⟨u, q⟩) | q
  · exact .inl (.inl (by rw [upd_ne (ne_of_none q h)]; exact q))
  · exact .inl (.inr ⟨u, by rw [upd_ne (ne_of_none q h)]; exact q⟩)
  · exact .inr q
theorem CellOk.had {a : Addr} {c : Cell} (h : CellOk K r H a c) : ∃ o, H a = some o ∧ ∀ ys, o ≠ .tup ys := by
  cases c with
  | lst xs => obtain ⟨vs, e, _⟩ := h; exact ⟨_, e, fun ys z => by cases z⟩
  | dK ks xs => obtain ⟨vs, e, _⟩ := h; exact ⟨_, e, fun ys z => by cases z⟩
  | dT ks xs => obtain ⟨vs, e, _⟩ := h; exact ⟨_, e, fun ys z => by cases z⟩
  | ob n ks xs => obtain ⟨vs, ⟨C, dx, e, _⟩, _⟩ := h; exact ⟨_, e, fun ys z => by cases z⟩
/-- a new object that is at no place -/
theorem MemOk.fresh {p : Addr} {o : HO} (h : MemOk K r H m) (hp : H p = none) : MemOk K r (upd H p o) m := by
  refine ⟨h.len, h.nd, fun l c q => ?_⟩
  obtain ⟨a, ha, hc⟩ := h.cell l c q
  refine ⟨a, ha, ?_⟩
  cases c with
  | lst xs =>
    obtain ⟨vs, e, w⟩ := hc
    exact ⟨vs, by rw [upd_ne (ne_of_none e hp)]; exact e, w.mono (Ext.fresh hp)⟩
  | dK ks xs =>
    obtain ⟨vs, e, n, w⟩ := hc
    exact ⟨vs, by rw [upd_ne (ne_of_none e hp)]; exact e, n, w.mono (Ext.fresh hp)⟩
  | dT ks xs =>
    obtain ⟨vs, e, n, w⟩ := hc
    exact ⟨vs, by rw [upd_ne (ne_of_none e hp)]; exact e, n, w.mono (Ext.fresh hp)⟩
  | ob nm ks xs =>
    obtain ⟨vs, ⟨C, dx, e, z⟩, n, w⟩ := hc
    exact ⟨vs, ⟨C, dx, by rw [upd_ne (ne_of_none e hp)]; exact e, z⟩, n, w.mono (Ext.fresh hp)⟩
theorem MemOk.notIn {p : Addr} (h : MemOk K r H m) (hp : H p = none) : p ∉ r := fun z => by
  obtain ⟨i, hi, e⟩ := List.getElem_of_mem z
  have hi' : i < m.length := by rw [← h.len]; exact hi
  obtain ⟨a, ha, hc⟩ := h.cell i m[i] (by simp [hi'])
  have : a = p := by
    have q : r[i]? = some p := by rw [List.getElem?_eq_getElem hi, e]
    rw [q] at ha; exact (Option.some.inj ha).symm
  subst this
  obtain ⟨o, q, _⟩ := hc.had
  rw [hp] at q; cases q
/-- a new object at a new place -/
theorem MemOk.allocC {p : Addr} {o : HO} {c : Cell} (h : MemOk K r H m) (hp : H p = none) (w : CellOk K (r ++ [p]) (upd H p o) p c) : MemOk K (r ++ [p]) (upd H p o) (m ++ [c]) := by
  have hpr := h.notIn hp
  refine ⟨by simp [h.len], ?_, fun l c q => ?_⟩
  · rw [List.nodup_append]
    exact ⟨h.nd, by simp, fun a ha b hb z => by
      have e : b = p := by simpa using hb
      subst e; subst z; exact hpr ha⟩
  · by_cases hl : l < m.length
    · rw [List.getElem?_append_left hl] at q
      obtain ⟨a, ha, hc⟩ := h.cell l c q
      refine ⟨a, (Ext.alloc (o := o) hp).get ha, ?_⟩
      cases c with
      | lst ys =>
        obtain ⟨us, e, w⟩ := hc
        exact ⟨us, by rw [upd_ne (ne_of_none e hp)]; exact e, w.mono (Ext.alloc hp)⟩
      | dK ks ys =>
        obtain ⟨us, e, n, w⟩ := hc
        exact ⟨us, by rw [upd_ne (ne_of_none e hp)]; exact e, n, w.mono (Ext.alloc hp)⟩
      | dT ks ys =>
        obtain ⟨us, e, n, w⟩ := hc
        exact ⟨us, by rw [upd_ne (ne_of_none e hp)]; exact e, n, w.mono (Ext.alloc hp)⟩
      | ob nm ks ys =>
        obtain ⟨us, ⟨C, dx, e, z⟩, n, w⟩ := hc
        exact ⟨us, ⟨C, dx, by rw [upd_ne (ne_of_none e hp)]; exact e, z⟩, n, w.mono (Ext.alloc hp)⟩
    · have e : l = m.length := by
        have := (List.getElem?_eq_some_iff.mp q).1
        simp at this; omega
      subst e
      simp at q; subst q
      exact ⟨p, by rw [← h.len]; simp, w⟩
/-- a new list at a new place -/
theorem MemOk.alloc {p : Addr} {vs : List V} {xs : List D} (h : MemOk K r H m) (hp : H p = none) (w : VAll K r H vs xs) :
    MemOk K (r ++ [p]) (upd H p (.lst vs)) (m ++ [.lst xs]) := h.allocC hp ⟨vs, upd_same, w.mono (Ext.alloc hp)⟩
/-- what is at a place is written -/
theorem MemOk.writeC {a : Addr} {l : Nat} {o : HO} {c : Cell} (h : MemOk K r H m) (hl : r[l]? = some a) (w : CellOk K r (upd H a o) a c) (ex : Ext r H r (upd H a o)) : MemOk K r (upd H a o) (m.set l c) := by
  refine ⟨by simp [h.len], h.nd, fun k c' q => ?_⟩
  by_cases hk : l = k
  · subst hk
    have hlm : l < m.length := by rw [← h.len]; exact (List.getElem?_eq_some_iff.mp hl).1
    rw [List.getElem?_set_self hlm] at q
    cases q
    exact ⟨a, hl, w⟩
  · rw [List.getElem?_set_ne hk] at q
    obtain ⟨b, hb, hc⟩ := h.cell k c' q
    have hab : b ≠ a := fun z => by
      subst z
      obtain ⟨h1, e1⟩ := List.getElem?_eq_some_iff.mp hl
      obtain ⟨h2, e2⟩ := List.getElem?_eq_some_iff.mp hb
      exact hk ((List.getElem_inj h.nd).mp (e1.trans e2.symm))
    refine ⟨b, hb, ?_⟩
    cases c' with
    | lst ys =>
      obtain ⟨ws, e, w⟩ := hc
      exact ⟨ws, by rw [upd_ne hab]; exact e, w.mono ex⟩
    | dK ks ys =>
      obtain ⟨ws, e, n, w⟩ := hc
      exact ⟨ws, by rw [upd_ne hab]; exact e, n, w.mono ex⟩
    | dT ks ys =>
      obtain ⟨ws, e, n, w⟩ := hc
      exact ⟨ws, by rw [upd_ne hab]; exact e, n, w.mono ex⟩
    | ob nm ks ys =>
      obtain ⟨ws, ⟨C, dx, e, z⟩, n, w⟩ := hc
      exact ⟨ws, ⟨C, dx, by rw [upd_ne hab]; exact e, z⟩, n, w.mono ex⟩
/-- the list at a place is written -/
theorem MemOk.write {a : Addr} {l : Nat} {vs us : List V} {xs : List D} (h : MemOk K r H m) (hl : r[l]? = some a) (ha : H a = some (.lst us)) (w : VAll K r H vs xs) :
    MemOk K r (upd H a (.lst vs)) (m.set l (.lst xs)) := by
  have ex : Ext r H r (upd H a (.lst vs)) := Ext.write (List.mem_of_getElem? hl) fun u hf z => by rw [ha] at z; cases z; exact hf
  exact h.writeC hl ⟨vs, upd_same, w.mono ex⟩ ex
theorem MemOk.lst {l : Nat} {a : Addr} {xs : List D} (h : MemOk K r H m) (hl : r[l]? = some a) (q : m[l]? = some (.lst xs)) : ∃ vs, H a = some (.lst vs) ∧ VAll K r H vs xs := by
  obtain ⟨b, hb, hc⟩ := h.cell l _ q
  rw [hl] at hb; cases hb
  exact hc
/-- a list that is read: one's own, or the script -/
def rd (m : Mem) (l : Nat) : Option (List D) := match m[l]? with
  | some (.lst xs) => some xs
  | _ => none
theorem MemOk.rd {l : Nat} {a : Addr} {xs : List D} (h : MemOk K r H m) (hl : r[l]? = some a) (q : rd m l = some xs) : ∃ vs, SqL K H a vs ∧ VAll K r H vs xs := by
  unfold Mv.rd at q
  cases e : m[l]? with
  | none => rw [e] at q; cases q
  | some c =>
    rw [e] at q
    obtain ⟨b, hb, hc⟩ := h.cell l _ e
    rw [hl] at hb; cases hb
    cases c with
    | lst ys => cases q; obtain ⟨vs, q1, q2⟩ := hc; exact ⟨vs, .of q1, q2⟩
    | dK ks ys => cases q
    | dT ks ys => cases q
    | ob n ks ys => cases q
end
end Mv

set_option Elab.async false
set_option linter.all false
set_option maxRecDepth 100000
set_option maxHeartbeats 4000000
/-! Mv2: expressions as plain functions. -/
namespace Mv
open PySem PySem.Spec PyProof.Rows L2

abbrev FE := Sl → Mem → Option (D × Mem)
abbrev FT := Sl → Mem → Option (Bool × Mem)
abbrev FA := Sl → Mem → Option (List D × Mem)
section
variable (K : Fg) (r : List Addr) (H : Hp)
def Go (m' : Mem) (d : D) (Q : VK) : Prop := ∀ r' v H', Ext r H r' H' → MemOk K r' H' m' → Val K r' H' v d → Q v H'
def GoT (m' : Mem) (b : Bool) (Q : Bool → Hp → Prop) : Prop := ∀ r' H', Ext r H r' H' → MemOk K r' H' m' → Q b H'
def GoA (m' : Mem) (ds : List D) (Q : List V → Hp → Prop) : Prop := ∀ r' vs H', Ext r H r' H' → MemOk K r' H' m' → VAll K r' H' vs ds → Q vs H'
/-- a new list that is at no place yet -/
def GoL (m' : Mem) (xs : List D) (Q : VK) : Prop := ∀ r' p vs H', Ext r H r' H' → MemOk K r' H' m' → p ∉ r' → H p = none → H' p = some (.lst vs) → VAll K r' H' vs xs → Q (.ref p) H'
end
def EOk (K : Fg) (te : TE) (f : FE) : Prop := ∀ r σ H e m d m', SlOk K r H σ e → MemOk K r H m → f e m = some (d, m') → ∀ Q, Go K r H m' d Q → te σ H Q
def TOk (K : Fg) (tt : TT) (f : FT) : Prop := ∀ r σ H e m b m', SlOk K r H σ e → MemOk K r H m → f e m = some (b, m') → ∀ Q, GoT K r H m' b Q → tt σ H Q
def AOk (K : Fg) (ta : TA) (f : FA) : Prop := ∀ r σ H e m ds m', SlOk K r H σ e → MemOk K r H m → f e m = some (ds, m') → ∀ Q, GoA K r H m' ds Q → ta σ H Q
def LOk (K : Fg) (te : TE) (f : FA) : Prop := ∀ r σ H e m xs m', SlOk K r H σ e → MemOk K r H m → f e m = some (xs, m') → ∀ Q, GoL K r H m' xs Q → te σ H Q
structure E (X : Cx) (e : Expr) (te : TE) (f : FE) : Prop where
  pe : PE X e te
  ok : EOk X.K te f
structure T (X : Cx) (e : Expr) (tt : TT) (f : FT) : Prop where
  pe : PT X e tt
  ok : TOk X.K tt f
structure TW (X : Cx) (e : Expr) (tt : TT) (f : FT) : Prop where
  pe : PW X e tt
  ok : TOk X.K tt f
structure A (X : Cx) (es : List Expr) (ta : TA) (f : FA) : Prop where
  pe : PA X es ta
  ok : AOk X.K ta f
structure L (X : Cx) (e : Expr) (te : TE) (f : FA) : Prop where
  pe : PE X e te
  ok : LOk X.K te f
section
variable {K : Fg} {r r1 : List Addr} {H H1 : Hp} {m m' : Mem} {d : D} {ds : List D} {b : Bool}
theorem Go.here {Q : VK} {v : V} (g : Go K r H m d Q) (hm : MemOk K r H m) (hv : Val K r H v d) : Q v H := g r v H Ext.refl hm hv
theorem Go.step {Q : VK} (g : Go K r H m d Q) (x : Ext r H r1 H1) : Go K r1 H1 m d Q := fun r' v H' y => g r' v H' (x.trans y)
theorem GoT.step {Q : Bool → Hp → Prop} (g : GoT K r H m b Q) (x : Ext r H r1 H1) : GoT K r1 H1 m b Q := fun r' H' y => g r' H' (x.trans y)
theorem GoA.step {Q : List V → Hp → Prop} (g : GoA K r H m ds Q) (x : Ext r H r1 H1) : GoA K r1 H1 m ds Q := fun r' v H' y => g r' v H' (x.trans y)
theorem Ext.back {p : Addr} (x : Ext r H r1 H1) (h : H1 p = none) : H p = none := by
  cases q : H p with
  | none => rfl
  | some o =>
    obtain ⟨o', e⟩ := x.had p o q
    rw [h] at e; cases e
theorem GoL.step {Q : VK} (g : GoL K r H m ds Q) (x : Ext r H r1 H1) : GoL K r1 H1 m ds Q := fun r' p vs H' y hm hp hn => g r' p vs H' (x.trans y) hm hp (x.back hn)
end

/-! ### names, constants -/
def fVar (i : Nat) : FE := fun e m => (e[i]?.join).map fun d => (d, m)
def fC (d : D) : FE := fun _ m => some (d, m)
section
variable {X : Cx} {pos : Pos}
theorem e_var (i : Nat) {x : Str} (hN : X.N[i]? = some x := by rfl) (hv : Vis X.env.scope x := by first | exact Or.inl rfl | exact Or.inr (Or.inl rfl) | exact Or.inr (Or.inr rfl)) (hd : (x == ("__debug__" : Str)) = false := by decide)
    (hcd : (x == ("__classdict__" : Str)) = false := by decide) : E X (.Name x pos) (tVar i) (fVar i) := by
  refine ⟨pe_var hN hv hd hcd, fun r σ H e m d m' hs hm hf Q g => ?_⟩
  unfold fVar at hf
  cases q : e[i]? with
  | none => rw [q] at hf; cases hf
  | some o =>
    rw [q] at hf
    cases o with
    | none => cases hf
    | some d0 =>
      cases hf
      obtain ⟨v, h1, h2⟩ := hs.2 i d q
      exact ⟨v, h1, g.here hm h2⟩
theorem cOk {K : Fg} {v : V} {d : D} (h : ∀ r H, Val K r H v d) : EOk K (tC v) (fC d) := fun r σ H e m d' m' hs hm hf Q g => by
  cases hf
  exact g.here hm (h r H)
theorem e_int {i : Int} {j} : E X (.Constant (.int i) j pos) (tC (.int i)) (fC (.int i)) := ⟨pe_int, cOk fun _ _ => .int i⟩
theorem e_bl {b j} : E X (.Constant (.bool b) j pos) (tC (.bl b)) (fC (.bl b)) := ⟨pe_bl, cOk fun _ _ => .bl b⟩
theorem e_non {j} : E X (.Constant .none j pos) (tC .non) (fC .non) := ⟨pe_non, cOk fun _ _ => .non⟩
theorem e_str {x j} : E X (.Constant (.str x) j pos) (tC (.str x)) (fC (.str x)) := ⟨pe_str, cOk fun _ _ => .str x⟩
/-- a module's int, text -/
theorem e_gint {x : Str} {i : Int} {t : Tok} (hm : X.mg x = some (.int i t)) (hg : Gl X x := by rfl) (hd : (x == ("__debug__" : Str)) = false := by decide) : E X (.Name x pos) (tC (.int i)) (fC (.int i)) := ⟨pe_glob hg hm ⟨t, rfl⟩ hd, cOk fun _ _ => .int i⟩
theorem e_gstr {x z : Str} {t : Tok} (hm : X.mg x = some (.str z t)) (hg : Gl X x := by rfl) (hd : (x == ("__debug__" : Str)) = false := by decide) : E X (.Name x pos) (tC (.str z)) (fC (.str z)) := ⟨pe_glob hg hm ⟨t, rfl⟩ hd, cOk fun _ _ => .str z⟩
end

/-! ### operators by values -/
abbrev G2 := D → D → Mem → Option (D × Mem)
def R2Ok (K : Fg) (rr : R2) (g : G2) : Prop := ∀ r H m x y dx dy d m', MemOk K r H m → Val K r H x dx → Val K r H y dy → g dx dy m = some (d, m') → ∀ Q, Go K r H m' d Q → rr x y H Q
abbrev G1 := D → Mem → Option (D × Mem)
def R1Ok (K : Fg) (rr : V → Hp → VK → Prop) (g : G1) : Prop := ∀ r H m x dx d m', MemOk K r H m → Val K r H x dx → g dx m = some (d, m') → ∀ Q, Go K r H m' d Q → rr x H Q
abbrev GN := List D → Mem → Option (D × Mem)
def RNOk (K : Fg) (rr : List V → Hp → VK → Prop) (g : GN) : Prop := ∀ r H m xs ds d m', MemOk K r H m → VAll K r H xs ds → g ds m = some (d, m') → ∀ Q, Go K r H m' d Q → rr xs H Q
abbrev GLN := List D → Mem → Option (List D × Mem)
/-- a call that makes a new list -/
def RLOk (K : Fg) (rr : List V → Hp → VK → Prop) (g : GLN) : Prop := ∀ r H m xs ds d m', MemOk K r H m → VAll K r H xs ds → g ds m = some (d, m') → ∀ Q, GoL K r H m' d Q → rr xs H Q
/-- a call upon a new list that is at no place -/
def ROnOk (K : Fg) (rr : List V → Hp → VK → Prop) (g : GN) : Prop := ∀ r H m p vs xs d m', MemOk K r H m → p ∉ r → H p = some (.lst vs) → VAll K r H vs xs → g xs m = some (d, m') → ∀ Q, Go K r H m' d Q → rr [.ref p] H Q

def fOp (g : G2) (fa fb : FE) : FE := fun e m => (fa e m).bind fun p => (fb e p.2).bind fun q => g p.1 q.1 q.2
def fUn (g : G1) (fa : FE) : FE := fun e m => (fa e m).bind fun p => g p.1 p.2
def fNil : FA := fun _ m => some ([], m)
def fCons (fa : FE) (fr : FA) : FA := fun e m => (fa e m).bind fun p => (fr e p.2).bind fun q => some (p.1 :: q.1, q.2)
def fCall (g : GN) (fa : FA) : FE := fun e m => (fa e m).bind fun p => g p.1 p.2
theorem bindE {α β : Type} {o : Option α} {f : α → Option β} {b : β} (h : o.bind f = some b) : ∃ a, o = some a ∧ f a = some b := by
  cases o with
  | none => cases h
  | some a => exact ⟨a, rfl, h⟩
theorem SlOk.step {K : Fg} {r r1 : List Addr} {H H1 : Hp} {σ : L2.St} {e : Sl} (h : SlOk K r H σ e) (x : Ext r H r1 H1) : SlOk K r1 H1 σ e := h.mono x
section
variable {K : Fg} {ta tb : TE} {fa fb : FE}
theorem opOk {rr : R2} {g : G2} (hr : R2Ok K rr g) (ha : EOk K ta fa) (hb : EOk K tb fb) : EOk K (tOp rr ta tb) (fOp g fa fb) := fun r σ H e m d m' hs hm hf Q go => by
  obtain ⟨⟨d1, m1⟩, h1, hf⟩ := bindE hf
  obtain ⟨⟨d2, m2⟩, h2, hf⟩ := bindE hf
  refine ha r σ H e m d1 m1 hs hm h1 _ fun r1 v1 H1 x1 hm1 hv1 => ?_
  refine hb r1 σ H1 e m1 d2 m2 (hs.mono x1) hm1 h2 _ fun r2 v2 H2 x2 hm2 hv2 => ?_
  exact hr r2 H2 m2 v1 v2 d1 d2 d m' hm2 (hv1.mono x2) hv2 hf Q ((go.step x1).step x2)
theorem unOk {rr : V → Hp → VK → Prop} {g : G1} (hr : R1Ok K rr g) (ha : EOk K ta fa) : EOk K (tUn rr ta) (fUn g fa) := fun r σ H e m d m' hs hm hf Q go => by
  obtain ⟨⟨d1, m1⟩, h1, hf⟩ := bindE hf
  refine ha r σ H e m d1 m1 hs hm h1 _ fun r1 v1 H1 x1 hm1 hv1 => ?_
  exact hr r1 H1 m1 v1 d1 d m' hm1 hv1 hf Q (go.step x1)
theorem aNil : AOk K tNil fNil := fun r σ H e m ds m' hs hm hf Q g => by
  cases hf
  exact g r [] H Ext.refl hm .nil
theorem aCons {tr : TA} {fr : FA} (ha : EOk K ta fa) (hr : AOk K tr fr) : AOk K (tCons ta tr) (fCons fa fr) := fun r σ H e m ds m' hs hm hf Q g => by
  obtain ⟨⟨d1, m1⟩, h1, hf⟩ := bindE hf
  obtain ⟨⟨d2, m2⟩, h2, hf⟩ := bindE hf
  cases hf
  refine ha r σ H e m d1 m1 hs hm h1 _ fun r1 v1 H1 x1 hm1 hv1 => ?_
  refine hr r1 σ H1 e m1 d2 m2 (hs.mono x1) hm1 h2 _ fun r2 vs H2 x2 hm2 hv2 => ?_
  exact g r2 _ H2 (x1.trans x2) hm2 (.cons (hv1.mono x2) hv2)
theorem callOk {rr : List V → Hp → VK → Prop} {g : GN} {t : TA} {f : FA} (hr : RNOk K rr g) (ha : AOk K t f) : EOk K (tCB rr t) (fCall g f) := fun r σ H e m d m' hs hm hf Q go => by
  obtain ⟨⟨d1, m1⟩, h1, hf⟩ := bindE hf
  refine ha r σ H e m d1 m1 hs hm h1 _ fun r1 vs H1 x1 hm1 hv1 => ?_
  exact hr r1 H1 m1 vs d1 d m' hm1 hv1 hf Q (go.step x1)
def fLCall (g : GLN) (fa : FA) : FA := fun e m => (fa e m).bind fun p => g p.1 p.2
theorem lcallOk {rr : List V → Hp → VK → Prop} {g : GLN} {t : TA} {f : FA} (hr : RLOk K rr g) (ha : AOk K t f) : LOk K (tCB rr t) (fLCall g f) := fun r σ H e m d m' hs hm hf Q go => by
  obtain ⟨⟨d1, m1⟩, h1, hf⟩ := bindE hf
  refine ha r σ H e m d1 m1 hs hm h1 _ fun r1 vs H1 x1 hm1 hv1 => ?_
  exact hr r1 H1 m1 vs d1 d m' hm1 hv1 hf Q (go.step x1)
def fOn (g : GN) (fa : FA) : FE := fun e m => (fa e m).bind fun p => g p.1 p.2
theorem onOk {rr : List V → Hp → VK → Prop} {g : GN} {t : TE} {f : FA} (hr : ROnOk K rr g) (ha : LOk K t f) : EOk K (tCB rr (tCons t tNil)) (fOn g f) := fun r σ H e m d m' hs hm hf Q go => by
  obtain ⟨⟨d1, m1⟩, h1, hf⟩ := bindE hf
  refine ha r σ H e m d1 m1 hs hm h1 _ fun r1 p vs H1 x1 hm1 hp1 hn1 hq1 hv1 => ?_
  exact hr r1 H1 m1 p vs d1 d m' hm1 hp1 hq1 hv1 hf Q (go.step x1)
/-- a new list comes to a place -/
def fPut (f : FA) : FE := fun e m => (f e m).bind fun p => some (.loc p.2.length, p.2 ++ [.lst p.1])
theorem stay_more {r : List Addr} {H : Hp} {p : Addr} {us : List V} (hp : H p = some (.lst us)) : StayI r H (r ++ [p]) H := fun b C dx fs h hn => ⟨h, fun z => by
  rcases List.mem_append.mp z with z | z
  · exact hn z
  · have e : b = p := by simpa using z
    rw [e, hp] at h; cases h⟩
theorem CellOk.more {r : List Addr} {H : Hp} {a p : Addr} {us : List V} {c : Cell} (hp : H p = some (.lst us)) (h : CellOk K r H a c) : CellOk K (r ++ [p]) H a c := by
  cases c with
  | lst xs => obtain ⟨vs, q, w⟩ := h; exact ⟨vs, q, w.mo ⟨[p], rfl⟩ (fun _ _ _ q => q) (stay_more hp)⟩
  | dK ks xs => obtain ⟨vs, q, n, w⟩ := h; exact ⟨vs, q, n, w.mo ⟨[p], rfl⟩ (fun _ _ _ q => q) (stay_more hp)⟩
  | dT ks xs => obtain ⟨vs, q, n, w⟩ := h; exact ⟨vs, q, n, w.mo ⟨[p], rfl⟩ (fun _ _ _ q => q) (stay_more hp)⟩
  | ob nm ks xs => obtain ⟨vs, q, n, w⟩ := h; exact ⟨vs, q, n, w.mo ⟨[p], rfl⟩ (fun _ _ _ q => q) (stay_more hp)⟩
theorem MemOk.adopt {r : List Addr} {H : Hp} {m : Mem} {p : Addr} {vs : List V} {xs : List D} (h : MemOk K r H m) (hp : p ∉ r) (hv : H p = some (.lst vs)) (w : VAll K r H vs xs) : MemOk K (r ++ [p]) H (m ++ [.lst xs]) := by
  refine ⟨by simp [h.len], ?_, fun l c q => ?_⟩
  · rw [List.nodup_append]
    exact ⟨h.nd, by simp, fun a ha b hb z => by
      have e : b = p := by simpa using hb
      subst e; subst z; exact hp ha⟩
  · by_cases hl : l < m.length
    · rw [List.getElem?_append_left hl] at q
      obtain ⟨a, ha, hc⟩ := h.cell l c q
      exact ⟨a, by rw [List.getElem?_append_left (List.getElem?_eq_some_iff.mp ha).1]; exact ha, hc.more hv⟩
    · have e : l = m.length := by
        have := (List.getElem?_eq_some_iff.mp q).1
        simp at this; omega
      subst e
      simp at q; subst q
      exact ⟨p, by rw [← h.len]; simp, vs, hv, w.mo ⟨[p], rfl⟩ (fun _ _ _ q => q) (stay_more hv)⟩
theorem Ext.adopt {r r1 : List Addr} {H H1 : Hp} {p : Addr} (x : Ext r H r1 H1) (h : H p = none) : Ext r H (r1 ++ [p]) H1 :=
  ⟨by obtain ⟨t, e⟩ := x.pre; exact ⟨t ++ [p], by rw [e, List.append_assoc]⟩, fun a ha => by
    rcases List.mem_append.mp ha with ha | ha
    · exact x.new a ha
    · have e : a = p := by simpa using ha
      subst e; exact .inr h, x.keep, x.fix, x.had⟩
theorem putOk {te : TE} {f : FA} (h : LOk K te f) : EOk K te (fPut f) := fun r σ H e m d m' hs hm hf Q go => by
  obtain ⟨⟨xs, m1⟩, h1, hf⟩ := bindE hf
  cases hf
  refine h r σ H e m xs m1 hs hm h1 _ fun r1 p vs H1 x1 hm1 hp hn hq hv => ?_
  refine go (r1 ++ [p]) (.ref p) H1 (x1.adopt hn) (hm1.adopt hp hq hv) (.loc ?_)
  rw [← hm1.len]; simp
end
theorem L.put {X : Cx} {e : Expr} {te : TE} {f : FA} (h : L X e te f) : E X e te (fPut f) := ⟨h.pe, putOk h.ok⟩
/-- new objects -/
theorem Go.newTup {K : Fg} {r : List Addr} {H : Hp} {m : Mem} {vs : List V} {xs : List D} {Q : VK} (g : Go K r H m (.tup xs) Q) (hm : MemOk K r H m) (hv : VAll K r H vs xs) {p : Addr} (hp : H p = none) : Q (.ref p) (upd H p (.tup vs)) :=
  g r (.ref p) _ (Ext.fresh hp) (hm.fresh hp) (.tup (.inl upd_same) (hv.mono (Ext.fresh hp)))
theorem Go.newLst {K : Fg} {r : List Addr} {H : Hp} {m : Mem} {vs : List V} {xs : List D} {Q : VK} (g : Go K r H (m ++ [.lst xs]) (.loc m.length) Q) (hm : MemOk K r H m) (hv : VAll K r H vs xs) {p : Addr} (hp : H p = none) : Q (.ref p) (upd H p (.lst vs)) :=
  g (r ++ [p]) (.ref p) _ (Ext.alloc hp) (hm.alloc hp hv) (.loc (by rw [← hm.len]; simp))
theorem notAt {K : Fg} {r : List Addr} {H : Hp} {m : Mem} {p : Addr} (hm : MemOk K r H m) (hp : H p = none) : p ∉ r := hm.notIn hp
theorem GoL.new {K : Fg} {r : List Addr} {H : Hp} {m : Mem} {vs : List V} {xs : List D} {Q : VK} (g : GoL K r H m xs Q) (hm : MemOk K r H m) (hv : VAll K r H vs xs) {p : Addr} (hp : H p = none) : Q (.ref p) (upd H p (.lst vs)) :=
  g r p vs _ (Ext.fresh hp) (hm.fresh hp) (notAt hm hp) hp upd_same (hv.mono (Ext.fresh hp))

/-! ### displays -/
def fTup (fa : FA) : FE := fun e m => (fa e m).bind fun p => if p.1.length ≤ 100000 then some (.tup p.1, p.2) else none
def fLst (fa : FA) : FA := fun e m => (fa e m).bind fun p => if p.1.length ≤ 100000 then some p else none
theorem lineOf {n : Nat} (h : n ≤ 100000) : n ≤ sizeLine := Nat.le_trans h (by rw [sizeLine_eq]; decide)
section
variable {X : Cx} {pos : Pos} {es : List Expr} {ta : TA} {fa : FA}
theorem a_nil : A X [] tNil fNil := ⟨pa_nil, aNil⟩
theorem a_cons {e : Expr} {te : TE} {fe : FE} (h : E X e te fe) (hr : A X es ta fa) (hs : starEach (e :: es) X.env = (false, eval e X.env) :: starEach es X.env := by rfl) : A X (e :: es) (tCons te ta) (fCons fe fa) := ⟨pa_cons h.pe hr.pe hs, aCons h.ok hr.ok⟩
theorem e_tup {x1} (h : A X es ta fa) : E X (.Tuple es x1 pos) (tTup ta) (fTup fa) := by
  refine ⟨pe_tup h.pe, fun r σ H e m d m' hs hm hf Q go => ?_⟩
  obtain ⟨⟨ds, m1⟩, h1, hf⟩ := bindE hf
  split at hf
  · rename_i hz
    cases hf
    refine h.ok r σ H e m ds m1 hs hm h1 _ fun r1 vs H1 x1 hm1 hv1 => ⟨by rw [hv1.length]; exact lineOf hz, fun p hp => (go.step x1).newTup hm1 hv1 hp⟩
  · cases hf
theorem l_lst (h : A X es ta fa) : L X (.List es pos) (tLst ta) (fLst fa) := by
  refine ⟨pe_lst h.pe, fun r σ H e m d m' hs hm hf Q go => ?_⟩
  obtain ⟨⟨ds, m1⟩, h1, hf⟩ := bindE hf
  split at hf
  · rename_i hz
    cases hf
    refine h.ok r σ H e m d m' hs hm h1 _ fun r1 vs H1 x1 hm1 hv1 => ⟨by rw [hv1.length]; exact lineOf hz, fun p hp => (go.step x1).new hm1 hv1 hp⟩
  · cases hf
end

/-! ### arithmetic -/
def gAdd : G2
  | .int i, .int j, m => some (.int (i + j), m)
  | .tup xs, .tup ys, m => if xs.length + ys.length ≤ 100000 then some (.tup (xs ++ ys), m) else none
  | .loc a, .loc b, m => match m[a]?, m[b]? with
    | some (.lst xs), some (.lst ys) => if xs.length + ys.length ≤ 100000 then some (.loc m.length, m ++ [.lst (xs ++ ys)]) else none
    | _, _ => none
  | .str x, .str y, m => if x.length + y.length ≤ 100000 then some (.str (x ++ y), m) else none
  | _, _, _ => none
def rAddA (K : Fg) : R2 := fun x y H Q => rI0 (fun i j => .int (i + j)) x y H Q ∨ rCatA K x y H Q ∨ rCat x y H Q ∨ (∃ i j, x = .str i ∧ y = .str j ∧ i.length + j.length ≤ sizeLine ∧ Q (.str (i ++ j)) H)
theorem op_addA {X : Cx} : OpR X (binaryOp .Add) (rAddA X.K) := op_add.or (op_catA.or (op_cat.or op_add_str))
theorem gAdd_ok {K : Fg} : R2Ok K (rAddA K) gAdd := fun r H m x y dx dy d m' hm hx hy hg Q go => by
  unfold gAdd at hg
  split at hg
  · cases hg
    rw [hx.intE, hy.intE]
    exact .inl ⟨_, _, rfl, rfl, go.here hm (.int _)⟩
  · split at hg
    · rename_i hz
      cases hg
      obtain ⟨a, vs, rfl, ha, hva⟩ := hx.tupE
      obtain ⟨b, us, rfl, hb, hvb⟩ := hy.tupE
      refine .inr (.inl ⟨a, b, vs, us, rfl, rfl, ha.sq, hb.sq, by rw [hva.length, hvb.length]; exact lineOf hz, fun e => ?_, fun _ e => ?_, fun _ _ p hp => go.newTup hm (hva.append hvb) hp⟩)
      · subst e
        cases hva
        exact go.here hm (.tup hb hvb)
      · subst e
        cases hvb
        rw [List.append_nil] at go
        exact go.here hm (.tup ha hva)
    · cases hg
  · split at hg
    · rename_i q1 q2
      split at hg
      · rename_i hz
        cases hg
        obtain ⟨a, rfl, ha⟩ := hx.locE
        obtain ⟨b, rfl, hb⟩ := hy.locE
        obtain ⟨vs, h1, hva⟩ := hm.lst ha q1
        obtain ⟨us, h2, hvb⟩ := hm.lst hb q2
        exact .inr (.inr (.inl ⟨a, b, vs, us, rfl, rfl, h1, h2, by rw [hva.length, hvb.length]; exact lineOf hz, fun p hp => go.newLst hm (hva.append hvb) hp⟩))
      · cases hg
    · cases hg
  · split at hg
    · rename_i hz
      cases hg
      rw [hx.strE, hy.strE]
      exact .inr (.inr (.inr ⟨_, _, rfl, rfl, lineOf hz, go.here hm (.str _)⟩))
    · cases hg
  · cases hg
/-- ints alone -/
def gInt (C : Int → Int → Bool) (f : Int → Int → D) : G2
  | .int i, .int j, m => if C i j = true then some (f i j, m) else none
  | _, _, _ => none
theorem gInt_ok {K : Fg} {C : Int → Int → Bool} {P : Int → Int → Prop} {f : Int → Int → D} {fv : Int → Int → V} (hC : ∀ i j, C i j = true → P i j) (hv : ∀ r H i j, Val K r H (fv i j) (f i j)) : R2Ok K (rI P fv) (gInt C f) := fun r H m x y dx dy d m' hm hx hy hg Q go => by
  unfold gInt at hg
  split at hg
  · split at hg
    · rename_i hc
      cases hg
      rw [hx.intE, hy.intE]
      exact ⟨_, _, rfl, rfl, hC _ _ hc, go.here hm (hv _ _ _ _)⟩
    · cases hg
  · cases hg
def gInt0 (f : Int → Int → D) : G2
  | .int i, .int j, m => some (f i j, m)
  | _, _, _ => none
theorem gInt0_ok {K : Fg} {f : Int → Int → D} {fv : Int → Int → V} (hv : ∀ r H i j, Val K r H (fv i j) (f i j)) : R2Ok K (rI0 fv) (gInt0 f) := fun r H m x y dx dy d m' hm hx hy hg Q go => by
  unfold gInt0 at hg
  split at hg
  · cases hg
    rw [hx.intE, hy.intE]
    exact ⟨_, _, rfl, rfl, go.here hm (hv _ _ _ _)⟩
  · cases hg
abbrev gSub : G2 := gInt0 fun i j => .int (i - j)
abbrev gFDiv : G2 := gInt (fun i j => decide (0 < j ∧ j < 1073741824)) fun i j => .int (i / j)
abbrev gMod : G2 := gInt (fun i j => decide (0 < j)) fun i j => .int (i % j)
abbrev gPow : G2 := gInt (fun i j => decide (0 ≤ j ∧ j ≤ 1000000 ∧ i.natAbs < 2 ^ 64)) fun i j => .int (i ^ j.toNat)
abbrev gLt : G2 := gInt0 fun i j => .bl (decide (i < j))
abbrev gLe : G2 := gInt0 fun i j => .bl (decide (i ≤ j))
abbrev gGt : G2 := gInt0 fun i j => .bl (decide (j < i))
abbrev gGe : G2 := gInt0 fun i j => .bl (decide (j ≤ i))
def gMul : G2
  | .int i, .int j, m => if (-(2 ^ 64) < i ∧ i < 2 ^ 64) ∨ (-(2 ^ 64) < j ∧ j < 2 ^ 64) then some (.int (i * j), m) else none
  | .tup xs, .int k, m => if xs ≠ [] ∧ 2 ≤ k ∧ k ≤ 1000 ∧ xs.length ≤ 1000 then some (.tup (List.replicate k.toNat xs).flatten, m) else none
  | .loc a, .int k, m => match m[a]? with
    | some (.lst xs) => if -(2 ^ 63) ≤ k ∧ k < 2 ^ 63 ∧ xs.length * k.toNat ≤ 100000 then some (.loc m.length, m ++ [.lst (List.replicate k.toNat xs).flatten]) else none
    | _ => none
  | _, _, _ => none
def rMulA (K : Fg) : R2 := fun x y H Q => rI CMul (fun i j => .int (i * j)) x y H Q ∨ rRepT K x y H Q ∨ rRep x y H Q
theorem op_mulA {X : Cx} : OpR X (binaryOp .Mult) (rMulA X.K) := op_mul.or (op_repT.or op_rep)
theorem VAll.neNil {K : Fg} {r : List Addr} {H : Hp} {vs : List V} {xs : List D} (h : VAll K r H vs xs) (n : xs ≠ []) : vs ≠ [] := fun z => by
  subst z
  cases h
  exact n rfl
theorem gMul_ok {K : Fg} : R2Ok K (rMulA K) gMul := fun r H m x y dx dy d m' hm hx hy hg Q go => by
  unfold gMul at hg
  split at hg
  · split at hg
    · rename_i hc
      cases hg
      rw [hx.intE, hy.intE]
      exact .inl ⟨_, _, rfl, rfl, hc, go.here hm (.int _)⟩
    · cases hg
  · split at hg
    · rename_i hz
      cases hg
      obtain ⟨a, vs, rfl, ha, hva⟩ := hx.tupE
      rw [hy.intE]
      exact .inr (.inl ⟨a, _, vs, rfl, rfl, ha.sq, hva.neNil hz.1, hz.2.1, hz.2.2.1, by rw [hva.length]; exact hz.2.2.2, fun p hp => go.newTup hm (hva.rep _) hp⟩)
    · cases hg
  · split at hg
    · rename_i q1
      split at hg
      · rename_i hz
        cases hg
        obtain ⟨a, rfl, ha⟩ := hx.locE
        rw [hy.intE]
        obtain ⟨vs, h1, hva⟩ := hm.lst ha q1
        exact .inr (.inr ⟨a, _, vs, rfl, rfl, h1, hz.1, hz.2.1, by rw [hva.length]; exact lineOf hz.2.2, fun p hp => go.newLst hm (hva.rep _) hp⟩)
      · cases hg
    · cases hg
  · cases hg
def gNeg : G1
  | .int i, m => some (.int (-i), m)
  | _, _ => none
theorem gNeg_ok {K : Fg} : R1Ok K (rU fun i => .int (-i)) gNeg := fun r H m x dx d m' hm hx hg Q go => by
  unfold gNeg at hg
  split at hg
  · cases hg
    rw [hx.intE]
    exact ⟨_, rfl, go.here hm (.int _)⟩
  · cases hg
section
variable {X : Cx} {a b : Expr} {ta tb : TE} {fa fb : FE} {pos : Pos}
theorem e_add (ha : E X a ta fa) (hb : E X b tb fb) : E X (.BinOp a .Add b pos) (tOp (rAddA X.K) ta tb) (fOp gAdd fa fb) := ⟨pe_op op_addA ha.pe hb.pe, opOk gAdd_ok ha.ok hb.ok⟩
theorem e_sub (ha : E X a ta fa) (hb : E X b tb fb) : E X (.BinOp a .Sub b pos) (tOp (rI0 fun i j => .int (i - j)) ta tb) (fOp gSub fa fb) := ⟨pe_op op_sub ha.pe hb.pe, opOk (gInt0_ok fun _ _ _ _ => .int _) ha.ok hb.ok⟩
theorem e_mul (ha : E X a ta fa) (hb : E X b tb fb) : E X (.BinOp a .Mult b pos) (tOp (rMulA X.K) ta tb) (fOp gMul fa fb) := ⟨pe_op op_mulA ha.pe hb.pe, opOk gMul_ok ha.ok hb.ok⟩
theorem e_fdiv (ha : E X a ta fa) (hb : E X b tb fb) : E X (.BinOp a .FloorDiv b pos) (tOp (rI CDiv fun i j => .int (i / j)) ta tb) (fOp gFDiv fa fb) := ⟨pe_op op_fdiv ha.pe hb.pe, opOk (gInt_ok (fun _ _ h => by have q := of_decide_eq_true h; exact q) fun _ _ _ _ => .int _) ha.ok hb.ok⟩
theorem e_mod (ha : E X a ta fa) (hb : E X b tb fb) : E X (.BinOp a .Mod b pos) (tOp (rI (fun _ j => 0 < j) fun i j => .int (i % j)) ta tb) (fOp gMod fa fb) := ⟨pe_op op_mod ha.pe hb.pe, opOk (gInt_ok (fun _ _ h => by have q := of_decide_eq_true h; exact q) fun _ _ _ _ => .int _) ha.ok hb.ok⟩
theorem e_pow (ha : E X a ta fa) (hb : E X b tb fb) : E X (.BinOp a .Pow b pos) (tOp (rI CPow fun i j => .int (i ^ j.toNat)) ta tb) (fOp gPow fa fb) := ⟨pe_op op_pow ha.pe hb.pe, opOk (gInt_ok (fun _ _ h => by have q := of_decide_eq_true h; exact q) fun _ _ _ _ => .int _) ha.ok hb.ok⟩
theorem e_neg (ha : E X a ta fa) : E X (.UnaryOp .USub a pos) (tUn (rU fun i => .int (-i)) ta) (fUn gNeg fa) := ⟨pe_un un_neg ha.pe, unOk gNeg_ok ha.ok⟩
theorem e_lt (ha : E X a ta fa) (hb : E X b tb fb) : E X (.Compare a [.Lt] [b] pos) (tOp (rI0 fun i j => .bl (decide (i < j))) ta tb) (fOp gLt fa fb) := ⟨pe_cmpR op_lt ha.pe hb.pe (nomark _), opOk (gInt0_ok fun _ _ _ _ => .bl _) ha.ok hb.ok⟩
theorem e_le (ha : E X a ta fa) (hb : E X b tb fb) : E X (.Compare a [.LtE] [b] pos) (tOp (rI0 fun i j => .bl (decide (i ≤ j))) ta tb) (fOp gLe fa fb) := ⟨pe_cmpR op_le ha.pe hb.pe (nomark _), opOk (gInt0_ok fun _ _ _ _ => .bl _) ha.ok hb.ok⟩
theorem e_gt (ha : E X a ta fa) (hb : E X b tb fb) : E X (.Compare a [.Gt] [b] pos) (tOp (rI0 fun i j => .bl (decide (j < i))) ta tb) (fOp gGt fa fb) := ⟨pe_cmpR op_gt ha.pe hb.pe (nomark _), opOk (gInt0_ok fun _ _ _ _ => .bl _) ha.ok hb.ok⟩
theorem e_ge (ha : E X a ta fa) (hb : E X b tb fb) : E X (.Compare a [.GtE] [b] pos) (tOp (rI0 fun i j => .bl (decide (j ≤ i))) ta tb) (fOp gGe fa fb) := ⟨pe_cmpR op_ge ha.pe hb.pe (nomark _), opOk (gInt0_ok fun _ _ _ _ => .bl _) ha.ok hb.ok⟩
end
end Mv

set_option Elab.async false
set_option linter.all false
set_option maxRecDepth 100000
set_option maxHeartbeats 4000000
/-! Mv3: comparisons, tests, calls of built-ins. -/
namespace Mv
open PySem PySem.Spec PyProof.Rows L2

/-! ### data without places, for == -/
mutual
def D.py : D → PyData
  | .non => .none | .bl b => .bool b | .int i => .int i | .str x => .str x | .tup xs => .tuple (D.pyAll xs) | .loc _ => .none | .ty _ => .none | .kl _ => .none | .cls _ => .none | .ins _ _ _ => .none | .stp xs => .tuple (D.pyAll xs) | .ttp xs => .tuple (D.pyAll xs)
def D.pyAll : List D → List PyData
  | [] => []
  | x :: xs => x.py :: D.pyAll xs
end
mutual
def D.pure : D → Bool
  | .non => true | .bl _ => true | .int _ => true | .str _ => true | .tup xs => D.pureAll xs | .loc _ => false | .ty _ => false | .kl _ => false | .cls _ => false | .ins _ _ _ => false | .stp xs => D.pureAll xs | .ttp xs => D.pureAll xs
def D.pureAll : List D → Bool
  | [] => true
  | x :: xs => x.pure && D.pureAll xs
end
section
variable {K : Fg} {r : List Addr} {H : Hp}
mutual
theorem Val.dp : ∀ {v : V} {d : D}, Val K r H v d → d.pure = true → Dp K H v d.py
  | _, _, .non, _ => .non
  | _, _, .bl b, _ => .bl b
  | _, _, .int i, _ => .int i
  | _, _, .str x, _ => .str x
  | _, _, .tup h hs, p => .tup h.sq (VAll.dp hs p)
  | _, _, .loc _, p => by cases p
  | _, _, .ty _, p => by cases p
  | _, _, .kl _ _, p => by cases p
  | _, _, .cls _, p => by cases p
  | _, _, .stp h _ hs, p => .tup (.inl (.inr ⟨_, h⟩)) (VAll.dp hs p)
  | _, _, .ttp h hs, p => .tup (.inl (.inl h)) (VAll.dp hs p)
  | _, _, .ins _ _ _ _ _, p => by cases p
theorem VAll.dp : ∀ {vs : List V} {ds : List D}, VAll K r H vs ds → D.pureAll ds = true → DpAll K H vs (D.pyAll ds)
  | _, _, .nil, _ => .nil
  | _, _, .cons h hs, p => by
    have q := Bool.and_eq_true_iff.mp p
    exact .cons (Val.dp h q.1) (VAll.dp hs q.2)
end
theorem pure_val (d : D) : ∀ {v : V}, d.pure = true → Val K r H v d → Dp K H v d.py := fun h hv => hv.dp h
mutual
/-- a value as data, f what stands at the places -/
def D.pyF (f : Nat → Option PyData) : D → Option PyData
  | .non => some .none | .bl b => some (.bool b) | .int i => some (.int i) | .str x => some (.str x) | .tup xs => (D.pyFAll f xs).map .tuple | .loc l => f l | .ty _ => none | .kl _ => none | .cls _ => none | .ins _ _ _ => none | .stp xs => (D.pyFAll f xs).map .tuple | .ttp xs => (D.pyFAll f xs).map .tuple
def D.pyFAll (f : Nat → Option PyData) : List D → Option (List PyData)
  | [] => some []
  | x :: xs => (x.pyF f).bind fun p => (D.pyFAll f xs).map fun ps => p :: ps
end
/-- lists at places read, n deep -/
def lookN (m : Mem) : Nat → Nat → Option PyData
  | 0, _ => none
  | n + 1, l => (rd m l).bind fun xs => (D.pyFAll (lookN m n) xs).map .list
def res (m : Mem) (d : D) : Option PyData := d.pyF (lookN m 3)
mutual
theorem D.pyF_pure (f : Nat → Option PyData) : ∀ d : D, d.pure = true → d.pyF f = some d.py
  | .non, _ => rfl
  | .bl _, _ => rfl
  | .int _, _ => rfl
  | .str _, _ => rfl
  | .tup xs, h => by
    show (D.pyFAll f xs).map PyData.tuple = _
    rw [D.pyFAll_pure f xs h]; rfl
  | .loc _, h => by cases h
  | .ty _, h => by cases h
  | .kl _, h => by cases h
  | .cls _, h => by cases h
  | .ins _ _ _, h => by cases h
  | .stp xs, h => by
    show (D.pyFAll f xs).map PyData.tuple = _
    rw [D.pyFAll_pure f xs h]; rfl
  | .ttp xs, h => by
    show (D.pyFAll f xs).map PyData.tuple = _
    rw [D.pyFAll_pure f xs h]; rfl
theorem D.pyFAll_pure (f : Nat → Option PyData) : ∀ ds : List D, D.pureAll ds = true → D.pyFAll f ds = some (D.pyAll ds)
  | [], _ => rfl
  | d :: ds, h => by
    have q := Bool.and_eq_true_iff.mp h
    show (d.pyF f).bind _ = _
    rw [D.pyF_pure f d q.1, D.pyFAll_pure f ds q.2]; rfl
end
theorem bindE' {α β : Type} {o : Option α} {f : α → Option β} {b : β} (h : o.bind f = some b) : ∃ a, o = some a ∧ f a = some b := bindE h
theorem mapE' {α β : Type} {o : Option α} {f : α → β} {b : β} (h : o.map f = some b) : ∃ a, o = some a ∧ f a = b := by
  cases o with
  | none => cases h
  | some a => cases h; exact ⟨a, rfl, rfl⟩
mutual
theorem D.pyF_ok {f : Nat → Option PyData} (hf : ∀ l a p, r[l]? = some a → f l = some p → Dp K H (.ref a) p) : ∀ (d : D) {v : V} {p : PyData}, Val K r H v d → d.pyF f = some p → Dp K H v p
  | .non, _, _, .non, h => by cases h; exact .non
  | .bl b, _, _, .bl _, h => by cases h; exact .bl b
  | .int i, _, _, .int _, h => by cases h; exact .int i
  | .str x, _, _, .str _, h => by cases h; exact .str x
  | .tup xs, _, _, .tup ha hs, h => by
    obtain ⟨ps, h1, h2⟩ := mapE' h
    subst h2
    exact .tup ha.sq (D.pyFAll_ok hf xs hs h1)
  | .loc l, _, _, .loc ha, h => hf l _ _ ha h
  | .ty _, _, _, _, h => by cases h
  | .kl _, _, _, _, h => by cases h
  | .cls _, _, _, _, h => by cases h
  | .stp xs, _, _, .stp ha _ hs, h => by
    obtain ⟨ps, h1, h2⟩ := mapE' h
    subst h2
    exact .tup (.inl (.inr ⟨_, ha⟩)) (D.pyFAll_ok hf xs hs h1)
  | .ttp xs, _, _, .ttp ha hs, h => by
    obtain ⟨ps, h1, h2⟩ := mapE' h
    subst h2
    exact .tup (.inl (.inl ha)) (D.pyFAll_ok hf xs hs h1)
  | .ins _ _ _, _, _, _, h => by cases h
theorem D.pyFAll_ok {f : Nat → Option PyData} (hf : ∀ l a p, r[l]? = some a → f l = some p → Dp K H (.ref a) p) : ∀ (ds : List D) {vs : List V} {ps : List PyData}, VAll K r H vs ds → D.pyFAll f ds = some ps → DpAll K H vs ps
  | [], _, _, .nil, h => by cases h; exact .nil
  | d :: ds, _, _, .cons hv hs, h => by
    obtain ⟨p, h1, h⟩ := bindE' h
    obtain ⟨ps, h2, h3⟩ := mapE' h
    subst h3
    exact .cons (D.pyF_ok hf d hv h1) (D.pyFAll_ok hf ds hs h2)
end
theorem lookN_ok {m : Mem} (hm : MemOk K r H m) : ∀ (n l : Nat) (a : Addr) (p : PyData), r[l]? = some a → lookN m n l = some p → Dp K H (.ref a) p
  | 0, _, _, _, _, h => by cases h
  | n + 1, l, a, p, ha, h => by
    obtain ⟨xs, h1, h⟩ := bindE' h
    obtain ⟨ps, h2, h3⟩ := mapE' h
    subst h3
    obtain ⟨vs, q1, q2⟩ := hm.rd ha h1
    exact .lst q1 (D.pyFAll_ok (lookN_ok hm n) xs q2 h2)
theorem res_ok {m : Mem} {v : V} {d : D} {p : PyData} (hm : MemOk K r H m) (hv : Val K r H v d) (h : res m d = some p) : Dp K H v p := D.pyF_ok (lookN_ok hm 3) d hv h
theorem res_pure {m : Mem} {d : D} (h : d.pure = true) : res m d = some d.py := D.pyF_pure _ d h
end
def eqD (x y : PyData) : Option Bool := if SeqAt.shaped x = true ∧ SeqAt.shaped y = true then some (PyData.eqv x y) else none
def gEq : G2 := fun x y m => (res m x).bind fun p => (res m y).bind fun q => (eqD p q).map fun b => (.bl b, m)
def gNe : G2 := fun x y m => (res m x).bind fun p => (res m y).bind fun q => (eqD p q).map fun b => (.bl (!b), m)
theorem mapE {α β : Type} {o : Option α} {f : α → β} {b : β} (h : o.map f = some b) : ∃ a, o = some a ∧ f a = b := by
  cases o with
  | none => cases h
  | some a => cases h; exact ⟨a, rfl, rfl⟩
theorem eqD_ok {x y : PyData} {b : Bool} (h : eqD x y = some b) : SeqAt.shaped x = true ∧ SeqAt.shaped y = true ∧ PyData.eqv x y = b := by
  unfold eqD at h
  split at h
  · rename_i q; cases h; exact ⟨q.1, q.2, rfl⟩
  · cases h
theorem gEq_ok {K : Fg} : R2Ok K (rEqD K) gEq := fun r H m x y dx dy d m' hm hx hy hg Q go => by
  obtain ⟨p, h1, hg⟩ := bindE hg
  obtain ⟨q, h2, hg⟩ := bindE hg
  obtain ⟨b, h3, hg⟩ := mapE hg
  cases hg
  obtain ⟨s1, s2, e⟩ := eqD_ok h3
  subst e
  exact ⟨p, q, res_ok hm hx h1, res_ok hm hy h2, s1, s2, go.here hm (.bl _)⟩
theorem gNe_ok {K : Fg} : R2Ok K (rNeD K) gNe := fun r H m x y dx dy d m' hm hx hy hg Q go => by
  obtain ⟨p, h1, hg⟩ := bindE hg
  obtain ⟨q, h2, hg⟩ := bindE hg
  obtain ⟨b, h3, hg⟩ := mapE hg
  cases hg
  obtain ⟨s1, s2, e⟩ := eqD_ok h3
  subst e
  exact ⟨p, q, res_ok hm hx h1, res_ok hm hy h2, s1, s2, go.here hm (.bl _)⟩
/-- is, of truths -/
def gIs : G2
  | .bl a, .bl b, m => some (.bl (decide (a = b)), m)
  | _, _, _ => none
def gIsNot : G2
  | .bl a, .bl b, m => some (.bl (!decide (a = b)), m)
  | _, _, _ => none
def rIsB2 : R2 := fun x y H Q => ∃ a b, x = .bl a ∧ y = .bl b ∧ Q (.bl (decide (a = b))) H
def rIsNB2 : R2 := fun x y H Q => ∃ a b, x = .bl a ∧ y = .bl b ∧ Q (.bl (!decide (a = b))) H
theorem gIs_ok {K : Fg} : R2Ok K rIsB2 gIs := fun r H m x y dx dy d m' hm hx hy hg Q go => by
  unfold gIs at hg
  split at hg
  · cases hg
    rw [hx.blE, hy.blE]
    exact ⟨_, _, rfl, rfl, go.here hm (.bl _)⟩
  · cases hg
theorem gIsNot_ok {K : Fg} : R2Ok K rIsNB2 gIsNot := fun r H m x y dx dy d m' hm hx hy hg Q go => by
  unfold gIsNot at hg
  split at hg
  · cases hg
    rw [hx.blE, hy.blE]
    exact ⟨_, _, rfl, rfl, go.here hm (.bl _)⟩
  · cases hg
/-- a comparison's operator -/
structure Cm (X : Cx) (op : CmpOp) (rr : R2) (g : G2) : Prop where
  orr : OpR X (compareOp op) rr
  ok : R2Ok X.K rr g
section
variable {X : Cx}
theorem cm_lt : Cm X .Lt (rI0 fun i j => .bl (decide (i < j))) gLt := ⟨op_lt, gInt0_ok fun _ _ _ _ => .bl _⟩
theorem cm_le : Cm X .LtE (rI0 fun i j => .bl (decide (i ≤ j))) gLe := ⟨op_le, gInt0_ok fun _ _ _ _ => .bl _⟩
theorem cm_gt : Cm X .Gt (rI0 fun i j => .bl (decide (j < i))) gGt := ⟨op_gt, gInt0_ok fun _ _ _ _ => .bl _⟩
theorem cm_ge : Cm X .GtE (rI0 fun i j => .bl (decide (j ≤ i))) gGe := ⟨op_ge, gInt0_ok fun _ _ _ _ => .bl _⟩
theorem cm_eq (hu : X.A.units + 64 < cLine) : Cm X .Eq (rEqD X.K) gEq := ⟨op_eqD hu, gEq_ok⟩
theorem cm_ne (hu : X.A.units + 64 < cLine) : Cm X .NotEq (rNeD X.K) gNe := ⟨op_neD hu, gNe_ok⟩
theorem cm_is : Cm X .Is rIsB2 gIs := ⟨op_is_bl, gIs_ok⟩
theorem cm_isnot : Cm X .IsNot rIsNB2 gIsNot := ⟨op_isnot_bl, gIsNot_ok⟩
variable {a b c : Expr} {ta tb tc : TE} {fa fb fc : FE} {pos : Pos} {op op' : CmpOp} {rr rr' : R2} {g g' : G2}
def asB : D → Option Bool
  | .bl b => some b
  | _ => none
theorem asB_ok {d : D} {b : Bool} (h : asB d = some b) : d = .bl b := by
  cases d <;> first | (cases h; rfl) | cases h
def fTest (f : FE) : FT := fun e m => (f e m).bind fun p => (asB p.1).map fun b => (b, p.2)
theorem testOk {K : Fg} {te : TE} {f : FE} (h : EOk K te f) : TOk K (tTest te) (fTest f) := fun r σ H e m b m' hs hm hf Q go => by
  obtain ⟨⟨d, m1⟩, h1, hf⟩ := bindE hf
  obtain ⟨k, h2, hf⟩ := mapE hf
  cases hf
  have hk' := asB_ok h2
  have hk'' : d = .bl b := hk'
  subst hk''
  exact h r σ H e m _ _ hs hm h1 _ fun r1 v1 H1 x1 hm1 hv1 => ⟨b, hv1.blE, go r1 H1 x1 hm1⟩
theorem e_cmp (o : Cm X op rr g) (ha : E X a ta fa) (hb : E X b tb fb) (hm : behindInMarks op b = false := by first | exact nomark _ | with_unfolding_all rfl) : E X (.Compare a [op] [b] pos) (tOp rr ta tb) (fOp g fa fb) := ⟨pe_cmpR o.orr ha.pe hb.pe hm, opOk o.ok ha.ok hb.ok⟩
theorem t_cmp (o : Cm X op rr g) (ha : E X a ta fa) (hb : E X b tb fb) (hm : behindInMarks op b = false := by first | exact nomark _ | with_unfolding_all rfl) : T X (.Compare a [op] [b] pos) (tTest (tOp rr ta tb)) (fTest (fOp g fa fb)) := ⟨pt_cmpR o.orr ha.pe hb.pe hm, testOk (opOk o.ok ha.ok hb.ok)⟩
def fChain (g g' : G2) (fa fb fc : FE) : FE := fun e m => (fa e m).bind fun p => (fb e p.2).bind fun q => (g p.1 q.1 q.2).bind fun u => match u.1 with
  | .bl true => (fc e u.2).bind fun v => g' q.1 v.1 v.2
  | .bl false => some (.bl false, u.2)
  | _ => none
theorem chainOk {K : Fg} (h : R2Ok K rr g) (h' : R2Ok K rr' g') (ha : EOk K ta fa) (hb : EOk K tb fb) (hc : EOk K tc fc) : EOk K (tChain rr rr' ta tb tc) (fChain g g' fa fb fc) := fun r σ H e m d m' hs hm hf Q go => by
  obtain ⟨⟨d1, m1⟩, h1, hf⟩ := bindE hf
  obtain ⟨⟨d2, m2⟩, h2, hf⟩ := bindE hf
  obtain ⟨⟨d3, m3⟩, h3, hf⟩ := bindE hf
  refine ha r σ H e m d1 m1 hs hm h1 _ fun r1 v1 H1 x1 hm1 hv1 => ?_
  refine hb r1 σ H1 e m1 d2 m2 (hs.mono x1) hm1 h2 _ fun r2 v2 H2 x2 hm2 hv2 => ?_
  refine h r2 H2 m2 v1 v2 d1 d2 d3 m3 hm2 (hv1.mono x2) hv2 h3 _ fun r3 v3 H3 x3 hm3 hv3 => ?_
  split at hf
  · rename_i hk
    have hk' : d3 = .bl true := hk
    subst hk'
    obtain ⟨⟨d4, m4⟩, h4, hf⟩ := bindE hf
    refine ⟨true, hv3.blE, iteT ?_⟩
    refine hc r3 σ H3 e m3 d4 m4 (hs.mono ((x1.trans x2).trans x3)) hm3 h4 _ fun r4 v4 H4 x4 hm4 hv4 => ?_
    exact h' r4 H4 m4 v2 v4 d2 d4 d m' hm4 (hv2.mono (x3.trans x4)) hv4 hf Q (go.step (((x1.trans x2).trans x3).trans x4))
  · rename_i hk
    have hk' : d3 = .bl false := hk
    subst hk'
    cases hf
    exact ⟨false, hv3.blE, iteF ((go.step ((x1.trans x2).trans x3)).here hm3 (.bl false))⟩
  · cases hf
theorem e_chain (o : Cm X op rr g) (o' : Cm X op' rr' g') (ha : E X a ta fa) (hb : E X b tb fb) (hc : E X c tc fc) (hm : lastMarks [op, op'] [b, c] = false := by with_unfolding_all rfl) :
    E X (.Compare a [op, op'] [b, c] pos) (tChain rr rr' ta tb tc) (fChain g g' fa fb fc) := ⟨pe_chain o.orr o'.orr ha.pe hb.pe hc.pe hm, chainOk o.ok o'.ok ha.ok hb.ok hc.ok⟩
theorem t_chain (o : Cm X op rr g) (o' : Cm X op' rr' g') (ha : E X a ta fa) (hb : E X b tb fb) (hc : E X c tc fc) (hm : lastMarks [op, op'] [b, c] = false := by with_unfolding_all rfl) :
    T X (.Compare a [op, op'] [b, c] pos) (tTest (tChain rr rr' ta tb tc)) (fTest (fChain g g' fa fb fc)) := ⟨pt_chain o.orr o'.orr ha.pe hb.pe hc.pe hm, testOk (chainOk o.ok o'.ok ha.ok hb.ok hc.ok)⟩
/-- is None -/
def D.isNon : D → Bool
  | .non => true
  | _ => false
def gIsN : G1 := fun d m => some (.bl d.isNon, m)
def gNotN : G1 := fun d m => some (.bl (!d.isNon), m)
theorem isN_val {K : Fg} {r : List Addr} {H : Hp} {v : V} {d : D} (h : Val K r H v d) : decide (v = .non) = d.isNon := by
  cases h <;> rfl
theorem e_isN {j} {pos' : Pos} (ha : E X a ta fa) : E X (.Compare a [.Is] [.Constant .none j pos'] pos) (tIsN ta) (fUn gIsN fa) := ⟨pe_cmp (pc_isN ha.pe), fun r σ H e m d m' hs hm hf Q go => by
  obtain ⟨⟨d1, m1⟩, h1, hf⟩ := bindE hf
  cases hf
  refine ha.ok r σ H e m d1 _ hs hm h1 _ fun r1 v1 H1 x1 hm1 hv1 => ?_
  show Q (.bl (decide (v1 = .non))) H1
  rw [isN_val hv1]
  exact (go.step x1).here hm1 (.bl _)⟩
theorem e_notN {j} {pos' : Pos} (ha : E X a ta fa) : E X (.Compare a [.IsNot] [.Constant .none j pos'] pos) (tNotN ta) (fUn gNotN fa) := ⟨pe_cmp (pc_notN ha.pe), fun r σ H e m d m' hs hm hf Q go => by
  obtain ⟨⟨d1, m1⟩, h1, hf⟩ := bindE hf
  cases hf
  refine ha.ok r σ H e m d1 _ hs hm h1 _ fun r1 v1 H1 x1 hm1 hv1 => ?_
  show Q (.bl (!decide (v1 = .non))) H1
  rw [isN_val hv1]
  exact (go.step x1).here hm1 (.bl _)⟩
theorem tB_ok {K : Fg} {te : TE} {f : FE} (h : EOk K te f) : TOk K (tB te) (fTest f) := testOk h
theorem t_isN {j} {pos' : Pos} (ha : E X a ta fa) : T X (.Compare a [.Is] [.Constant .none j pos'] pos) (tB (tIsN ta)) (fTest (fUn gIsN fa)) := ⟨pt_cmp (pc_isN ha.pe), tB_ok (e_isN (pos := pos) (j := j) (pos' := pos') ha).ok⟩
theorem t_notN {j} {pos' : Pos} (ha : E X a ta fa) : T X (.Compare a [.IsNot] [.Constant .none j pos'] pos) (tB (tNotN ta)) (fTest (fUn gNotN fa)) := ⟨pt_cmp (pc_notN ha.pe), tB_ok (e_notN (pos := pos) (j := j) (pos' := pos') ha).ok⟩

/-! ### truth -/
def tru (m : Mem) : D → Option Bool
  | .non => some false
  | .bl b => some b
  | .int i => some (i != 0)
  | .str y => if y.length ≤ 100000 then some ((y.length : Int) != 0) else none
  | .tup xs => some (!xs.isEmpty)
  | .loc l => (rd m l).map fun xs => !xs.isEmpty
  | .ty _ => none
  | .cls _ => none
  | .ins _ _ _ => none
  | .stp _ => none
  | .kl xs => some (!xs.isEmpty)
  | .ttp _ => none
theorem VAll.isEmpty {K : Fg} {r : List Addr} {H : Hp} {vs : List V} {xs : List D} (h : VAll K r H vs xs) : vs.isEmpty = xs.isEmpty := by
  cases h <;> rfl
theorem tru_val {K : Fg} {r : List Addr} {H : Hp} {m : Mem} {v : V} {d : D} {b : Bool} (hm : MemOk K r H m) (hv : Val K r H v d) (h : tru m d = some b) : TruV K v H b := by
  unfold tru at h
  split at h
  · cases h; rw [hv.nonE]; exact rfl
  · cases h; rw [hv.blE]; exact rfl
  · cases h; rw [hv.intE]; exact rfl
  · split at h
    · rename_i hz; cases h; rw [hv.strE]; exact ⟨lineOf hz, rfl⟩
    · cases h
  · cases h
    obtain ⟨a, vs, rfl, ha, hs⟩ := hv.tupE
    exact .inr (.inl ⟨vs, ha.sq, by rw [hs.isEmpty]⟩)
  · obtain ⟨xs, h1, h⟩ := mapE h
    cases h
    obtain ⟨a, rfl, ha⟩ := hv.locE
    obtain ⟨vs, q1, q2⟩ := hm.rd ha h1
    exact .inl ⟨vs, q1, by rw [q2.isEmpty]⟩
  · cases h
  · cases h
  · cases h
  · cases h
  · cases h
    obtain ⟨a, vs, rfl, ha, hs⟩ := hv.klE
    exact .inl ⟨vs, ha.sq, by rw [hs.isEmpty]⟩
  · cases h
def fTru (f : FE) : FT := fun e m => (f e m).bind fun p => (tru p.2 p.1).map fun b => (b, p.2)
theorem t_tru (ha : E X a ta fa) (he : ∀ whole, isTrue a X.env whole = (do let v ← whole; standAt a.pos; holding [v] (truthy v)) := by intro _; rfl) :
    T X a (fun σ H Q => ta σ H fun x H' => ∃ k, TruV X.K x H' k ∧ Q k H') (fTru fa) := ⟨pt_truth ha.pe he, fun r σ H e m b m' hs hm hf Q go => by
  obtain ⟨⟨d, m1⟩, h1, hf⟩ := bindE hf
  obtain ⟨k, h2, hf⟩ := mapE hf
  cases hf
  exact ha.ok r σ H e m d _ hs hm h1 _ fun r1 v1 H1 x1 hm1 hv1 => ⟨_, tru_val hm1 hv1 h2, go r1 H1 x1 hm1⟩⟩
def fAndT (f g : FT) : FT := fun e m => (f e m).bind fun p => if p.1 = true then g e p.2 else some (false, p.2)
def fOrT (f g : FT) : FT := fun e m => (f e m).bind fun p => if p.1 = true then some (true, p.2) else g e p.2
def fNotT (f : FT) : FT := fun e m => (f e m).map fun p => (!p.1, p.2)
variable {tA tC : TT} {hA hC : FT} {rest : List Expr}
theorem andOk {K : Fg} (ha : TOk K tA hA) (hc : TOk K tC hC) : TOk K (tAnd tA tC) (fAndT hA hC) := fun r σ H e m b m' hs hm hf Q go => by
  obtain ⟨⟨k, m1⟩, h1, hf⟩ := bindE hf
  refine ha r σ H e m k m1 hs hm h1 _ fun r1 H1 x1 hm1 => ?_
  cases k with
  | true => exact iteT (hc r1 σ H1 e m1 b m' (hs.mono x1) hm1 (by simpa using hf) Q (go.step x1))
  | false =>
    have hf' : some (false, m1) = some (b, m') := by simpa using hf
    cases hf'
    exact iteF (go r1 H1 x1 hm1)
theorem orOk {K : Fg} (ha : TOk K tA hA) (hc : TOk K tC hC) : TOk K (tOr tA tC) (fOrT hA hC) := fun r σ H e m b m' hs hm hf Q go => by
  obtain ⟨⟨k, m1⟩, h1, hf⟩ := bindE hf
  refine ha r σ H e m k m1 hs hm h1 _ fun r1 H1 x1 hm1 => ?_
  cases k with
  | false => exact iteF (hc r1 σ H1 e m1 b m' (hs.mono x1) hm1 (by simpa using hf) Q (go.step x1))
  | true =>
    have hf' : some (true, m1) = some (b, m') := by simpa using hf
    cases hf'
    exact iteT (go r1 H1 x1 hm1)
theorem notOk {K : Fg} (ha : TOk K tA hA) : TOk K (tNot tA) (fNotT hA) := fun r σ H e m b m' hs hm hf Q go => by
  obtain ⟨⟨k, m1⟩, h1, hf⟩ := mapE hf
  cases hf
  exact ha r σ H e m k _ hs hm h1 _ fun r1 H1 x1 hm1 => go r1 H1 x1 hm1
theorem TW.t {e : Expr} (h : TW X e tA hA) : T X e tA hA := ⟨h.pe.pt, h.ok⟩
theorem w_and1 (ha : T X a tA hA) : TW X (.BoolOp .And [a] pos) tA hA := ⟨pw_and1 ha.pe, ha.ok⟩
theorem w_or1 (ha : T X a tA hA) : TW X (.BoolOp .Or [a] pos) tA hA := ⟨pw_or1 ha.pe, ha.ok⟩
theorem w_and (ha : T X a tA hA) (hb : TW X (.BoolOp .And (b :: rest) pos) tC hC) : TW X (.BoolOp .And (a :: b :: rest) pos) (tAnd tA tC) (fAndT hA hC) := ⟨pw_and ha.pe hb.pe, andOk ha.ok hb.ok⟩
theorem w_or (ha : T X a tA hA) (hb : TW X (.BoolOp .Or (b :: rest) pos) tC hC) : TW X (.BoolOp .Or (a :: b :: rest) pos) (tOr tA tC) (fOrT hA hC) := ⟨pw_or ha.pe hb.pe, orOk ha.ok hb.ok⟩
theorem t_not (ha : T X a tA hA) : T X (.UnaryOp .Not a pos) (tNot tA) (fNotT hA) := ⟨pt_not ha.pe, notOk ha.ok⟩
/-- .. as values -/
def fAnd (f g : FE) : FE := fun e m => (f e m).bind fun p => (tru p.2 p.1).bind fun k => if k = true then g e p.2 else some p
def fOr (f g : FE) : FE := fun e m => (f e m).bind fun p => (tru p.2 p.1).bind fun k => if k = true then some p else g e p.2
def fNot (f : FE) : FE := fun e m => (f e m).bind fun p => (tru p.2 p.1).map fun k => (.bl (!k), p.2)
def fIf (t : FT) (f g : FE) : FE := fun e m => (t e m).bind fun p => if p.1 = true then f e p.2 else g e p.2
theorem e_one {op} (h : E X a ta fa) : E X (.BoolOp op [a] pos) ta fa := ⟨pe_one h.pe, h.ok⟩
theorem e_and (ha : E X a ta fa) (hb : E X (.BoolOp .And (b :: rest) pos) tb fb) : E X (.BoolOp .And (a :: b :: rest) pos) (tAndT X.K ta tb) (fAnd fa fb) := ⟨pe_andT ha.pe hb.pe, fun r σ H e m d m' hs hm hf Q go => by
  obtain ⟨⟨d1, m1⟩, h1, hf⟩ := bindE hf
  obtain ⟨k, h2, hf⟩ := bindE hf
  refine ha.ok r σ H e m d1 m1 hs hm h1 _ fun r1 v1 H1 x1 hm1 hv1 => ⟨k, tru_val hm1 hv1 h2, ?_⟩
  cases k with
  | true => exact iteT (hb.ok r1 σ H1 e m1 d m' (hs.mono x1) hm1 (by simpa using hf) Q (go.step x1))
  | false =>
    have hf' : some (d1, m1) = some (d, m') := by simpa using hf
    cases hf'
    exact iteF ((go.step x1).here hm1 hv1)⟩
theorem e_or (ha : E X a ta fa) (hb : E X (.BoolOp .Or (b :: rest) pos) tb fb) : E X (.BoolOp .Or (a :: b :: rest) pos) (tOrT X.K ta tb) (fOr fa fb) := ⟨pe_orT ha.pe hb.pe, fun r σ H e m d m' hs hm hf Q go => by
  obtain ⟨⟨d1, m1⟩, h1, hf⟩ := bindE hf
  obtain ⟨k, h2, hf⟩ := bindE hf
  refine ha.ok r σ H e m d1 m1 hs hm h1 _ fun r1 v1 H1 x1 hm1 hv1 => ⟨k, tru_val hm1 hv1 h2, ?_⟩
  cases k with
  | false => exact iteF (hb.ok r1 σ H1 e m1 d m' (hs.mono x1) hm1 (by simpa using hf) Q (go.step x1))
  | true =>
    have hf' : some (d1, m1) = some (d, m') := by simpa using hf
    cases hf'
    exact iteT ((go.step x1).here hm1 hv1)⟩
theorem e_not (ha : E X a ta fa) : E X (.UnaryOp .Not a pos) (tNotT X.K ta) (fNot fa) := ⟨pe_notT ha.pe, fun r σ H e m d m' hs hm hf Q go => by
  obtain ⟨⟨d1, m1⟩, h1, hf⟩ := bindE hf
  obtain ⟨k, h2, hf⟩ := mapE hf
  cases hf
  exact ha.ok r σ H e m d1 _ hs hm h1 _ fun r1 v1 H1 x1 hm1 hv1 => ⟨k, tru_val hm1 hv1 h2, (go.step x1).here hm1 (.bl _)⟩⟩
theorem e_if (hc : T X c tA hA) (ha : E X a ta fa) (hb : E X b tb fb) : E X (.IfExp c a b pos) (tIf tA ta tb) (fIf hA fa fb) := ⟨pe_ifExp hc.pe ha.pe hb.pe, fun r σ H e m d m' hs hm hf Q go => by
  obtain ⟨⟨k, m1⟩, h1, hf⟩ := bindE hf
  refine hc.ok r σ H e m k m1 hs hm h1 _ fun r1 H1 x1 hm1 => ?_
  cases k with
  | true => exact iteT (ha.ok r1 σ H1 e m1 d m' (hs.mono x1) hm1 (by simpa using hf) Q (go.step x1))
  | false => exact iteF (hb.ok r1 σ H1 e m1 d m' (hs.mono x1) hm1 (by simpa using hf) Q (go.step x1))⟩
end
end Mv

set_option Elab.async false
set_option linter.all false
set_option maxRecDepth 100000
set_option maxHeartbeats 4000000
/-! Mv4: items, slices, built-ins called. -/
namespace Mv
open PySem PySem.Spec PyProof.Rows L2

/-! ### items -/
def gIx : G2
  | .tup xs, .int i, m => (atI xs i).map fun d => (d, m)
  | .loc l, .int i, m => (rd m l).bind fun xs => (atI xs i).map fun d => (d, m)
  | .kl xs, .int i, m => (atI xs i).map fun d => (d, m)
  | .str z, .int i, m => if z.length ≤ 100000 then (atI z.cps.toList i).map fun c => (.str ⟨#[c]⟩, m) else none
  | _, _, _ => none
theorem VAll.atI {K : Fg} {r : List Addr} {H : Hp} {vs : List V} {ds : List D} {i : Int} {d : D} (h : VAll K r H vs ds) (q : L2.atI ds i = some d) : ∃ v, L2.atI vs i = some v ∧ Val K r H v d := by
  unfold L2.atI at q ⊢
  rw [h.length]
  obtain ⟨j, h1, q⟩ := bindE q
  rw [h1]
  exact h.get q
theorem gIx_ok {K : Fg} : R2Ok K (rIx K) gIx := fun r H m x y dx dy d m' hm hx hy hg Q go => by
  unfold gIx at hg
  split at hg
  · obtain ⟨e, h1, hg⟩ := mapE hg
    cases hg
    obtain ⟨a, vs, rfl, ha, hs⟩ := hx.tupE
    obtain ⟨v, q1, q2⟩ := hs.atI h1
    exact .inr (.inl ⟨a, vs, _, v, rfl, hy.intE, ha.sq, q1, go.here hm q2⟩)
  · obtain ⟨xs, h0, hg⟩ := bindE hg
    obtain ⟨e, h1, hg⟩ := mapE hg
    cases hg
    obtain ⟨a, rfl, ha⟩ := hx.locE
    obtain ⟨vs, q0, hs⟩ := hm.rd ha h0
    obtain ⟨v, q1, q2⟩ := hs.atI h1
    exact .inl ⟨a, vs, _, v, rfl, hy.intE, q0, q1, go.here hm q2⟩
  · obtain ⟨e, h1, hg⟩ := mapE hg
    cases hg
    obtain ⟨a, vs, rfl, ha, hs⟩ := hx.klE
    obtain ⟨v, q1, q2⟩ := hs.atI h1
    exact .inl ⟨a, vs, _, v, rfl, hy.intE, ha.sq, q1, go.here hm q2⟩
  · split at hg
    · rename_i hz
      obtain ⟨c, h1, hg⟩ := mapE hg
      cases hg
      exact .inr (.inr ⟨_, _, c, hx.strE, hy.intE, lineOf hz, h1, go.here hm (.str _)⟩)
    · cases hg
  · cases hg
section
variable {X : Cx} {a b : Expr} {ta tb : TE} {fa fb : FE} {pos : Pos}
theorem e_ix (ha : E X a ta fa) (hb : E X b tb fb) (hs : PlainIx b := by intro _ _; rfl) : E X (.Subscript a b pos) (tOp (rIx X.K) ta tb) (fOp gIx fa fb) := ⟨pe_ix ix_seq ha.pe hb.pe hs, opOk gIx_ok ha.ok hb.ok⟩
/-- an item of a list that was just made -/
def fIxN (fa : FA) (fb : FE) : FE := fun e m => (fa e m).bind fun p => (fb e p.2).bind fun q => match q.1 with
  | .int i => (atI p.1 i).map fun d => (d, q.2)
  | _ => none
theorem e_ixN (ha : L X a ta fa0) (hb : E X b tb fb) (hs : PlainIx b := by intro _ _; rfl) : E X (.Subscript a b pos) (tOp (rIxL X.K) ta tb) (fIxN fa0 fb) := ⟨pe_ix ix_list ha.pe hb.pe hs, fun r σ H e m d m' hs hm hf Q go => by
  obtain ⟨⟨xs, m1⟩, h1, hf⟩ := bindE hf
  obtain ⟨⟨d2, m2⟩, h2, hf⟩ := bindE hf
  split at hf
  · rename_i i hi
    have hi' : d2 = .int i := hi
    subst hi'
    obtain ⟨d3, h3, hf⟩ := mapE hf
    cases hf
    refine ha.ok r σ H e m xs m1 hs hm h1 _ fun r1 p vs H1 x1 hm1 hp hn hq hv => ?_
    refine hb.ok r1 σ H1 e m1 _ _ (hs.mono x1) hm1 h2 _ fun r2 v2 H2 x2 hm2 hv2 => ?_
    obtain ⟨v, q1, q2⟩ := (hv.mono x2).atI h3
    exact ⟨p, vs, i, v, rfl, hv2.intE, .of (x2.keep p _ hq hp), q1, ((go.step x1).step x2).here hm2 q2⟩
  · cases hf⟩

/-! ### slices -/
abbrev FO := Sl → Mem → Option (Option Int × Mem)
def OOk (K : Fg) (to : TO) (f : FO) : Prop := ∀ r σ H e m o m', SlOk K r H σ e → MemOk K r H m → f e m = some (o, m') → ∀ Q : Option Int → Hp → Prop, (∀ r' H', Ext r H r' H' → MemOk K r' H' m' → Q o H') → to σ H Q
structure O (X : Cx) (e : Option Expr) (to : TO) (f : FO) : Prop where
  pe : PO X e to
  ok : OOk X.K to f
def fNoPart : FO := fun _ m => some (none, m)
def asI : D → Option Int
  | .int i => some i
  | _ => none
theorem asI_ok {d : D} {i : Int} (h : asI d = some i) : d = .int i := by
  cases d <;> first | (cases h; rfl) | cases h
def fPart (f : FE) : FO := fun e m => (f e m).bind fun p => (asI p.1).map fun i => (some i, p.2)
theorem o_none : O X none tNoPart fNoPart := ⟨po_none, fun r σ H e m o m' hs hm hf Q g => by
  cases hf
  exact g r H Ext.refl hm⟩
theorem o_some (h : E X a ta fa) : O X (some a) (tPart ta) (fPart fa) := ⟨po_some h.pe, fun r σ H e m o m' hs hm hf Q g => by
  obtain ⟨⟨d, m1⟩, h1, hf⟩ := bindE hf
  obtain ⟨i, h2, hf⟩ := mapE hf
  cases hf
  have z : d = .int i := asI_ok h2
  subst z
  exact h.ok r σ H e m _ _ hs hm h1 _ fun r1 v H1 x1 hm1 hv => ⟨i, hv.intE, g r1 H1 x1 hm1⟩⟩
def cutD (xs : List D) (lo hi : Option Int) : List D := (xs.drop (HT.sIx xs.length 0 lo)).take (HT.sIx xs.length xs.length hi - HT.sIx xs.length 0 lo)
theorem VAll.cut {K : Fg} {r : List Addr} {H : Hp} {vs : List V} {ds : List D} (h : VAll K r H vs ds) (lo hi : Option Int) : VAll K r H (cutV vs lo hi) (cutD ds lo hi) := by
  unfold cutV cutD
  rw [h.length]
  exact (h.drop _).take _
theorem cutD_all {xs : List D} {lo hi : Option Int} (h1 : HT.sIx xs.length 0 lo = 0) (h2 : HT.sIx xs.length xs.length hi = xs.length) : cutD xs lo hi = xs := by
  unfold cutD
  rw [h1, h2]
  simp
/-- a slice: of a tuple a tuple, of a list a list at a new place, of a text a text -/
def gSl : D → Option Int → Option Int → Mem → Option (D × Mem)
  | .tup xs, lo, hi, m => some (.tup (cutD xs lo hi), m)
  | .loc l, lo, hi, m => (rd m l).map fun xs => (.loc m.length, m ++ [.lst (cutD xs lo hi)])
  | .kl xs, lo, hi, m => some (.loc m.length, m ++ [.lst (cutD xs lo hi)])
  | .str z, lo, hi, m => if z.length ≤ 100000 then some (.str (cutS z lo hi), m) else none
  | _, _, _, _ => none
def rSlAny (K : Fg) : V → Option Int → Option Int → Hp → VK → Prop := fun x lo hi H Q => rSlA K x lo hi H Q ∨ rSlL K x lo hi H Q ∨ rSlS x lo hi H Q
theorem sl_any : SlR X (rSlAny X.K) := sl_tupA.or (sl_list.or sl_str)
theorem gSl_ok {K : Fg} {r : List Addr} {H : Hp} {m m' : Mem} {v : V} {d d' : D} {lo hi : Option Int} (hm : MemOk K r H m) (hv : Val K r H v d) (hf : gSl d lo hi m = some (d', m')) {Q : VK} (go : Go K r H m' d' Q) : rSlAny K v lo hi H Q := by
  unfold gSl at hf
  split at hf
  · cases hf
    obtain ⟨a, vs, rfl, ha, hw⟩ := hv.tupE
    refine .inl ⟨a, vs, rfl, ha.sq, fun hz => ?_, fun _ p hp => go.newTup hm (hw.cut _ _) hp⟩
    have e1 := hz.1
    have e2 := hz.2
    rw [hw.length] at e1 e2
    rw [cutD_all e1 e2] at go
    exact go.here hm (.tup ha hw)
  · obtain ⟨xs, h4, hf⟩ := mapE hf
    cases hf
    obtain ⟨a, rfl, ha⟩ := hv.locE
    obtain ⟨vs, q2, hw⟩ := hm.rd ha h4
    exact .inr (.inl ⟨a, vs, rfl, q2, fun p hp => go.newLst hm (hw.cut _ _) hp⟩)
  · cases hf
    obtain ⟨a, vs, rfl, ha, hw⟩ := hv.klE
    exact .inr (.inl ⟨a, vs, rfl, ha.sq, fun p hp => go.newLst hm (hw.cut _ _) hp⟩)
  · split at hf
    · rename_i hz
      cases hf
      exact .inr (.inr ⟨_, hv.strE, lineOf hz, go.here hm (.str _)⟩)
    · cases hf
  · cases hf
def fSl (f : FE) (fl fh : FO) : FE := fun e m => (f e m).bind fun p => (fl e p.2).bind fun q => (fh e q.2).bind fun u => gSl p.1 q.1 u.1 u.2
theorem e_sl {lo hi : Option Expr} {tl th : TO} {fl fh : FO} {p2 : Pos} (ha : E X a ta fa) (hl : O X lo tl fl) (hh : O X hi th fh) : E X (.Subscript a (.Slice lo hi none p2) pos) (tSl (rSlAny X.K) ta tl th) (fSl fa fl fh) := ⟨pe_slice sl_any ha.pe hl.pe hh.pe, fun r σ H e m d m' hs hm hf Q go => by
  obtain ⟨⟨d1, m1⟩, h1, hf⟩ := bindE hf
  obtain ⟨⟨o1, m2⟩, h2, hf⟩ := bindE hf
  obtain ⟨⟨o2, m3⟩, h3, hf⟩ := bindE hf
  refine ha.ok r σ H e m d1 m1 hs hm h1 _ fun r1 v1 H1 x1 hm1 hv1 => ?_
  refine hl.ok r1 σ H1 e m1 o1 m2 (hs.mono x1) hm1 h2 _ fun r2 H2 x2 hm2 => ?_
  refine hh.ok r2 σ H2 e m2 o2 m3 (hs.mono (x1.trans x2)) hm2 h3 _ fun r3 H3 x3 hm3 => ?_
  exact gSl_ok hm3 (hv1.mono (x2.trans x3)) hf (go.step ((x1.trans x2).trans x3))⟩
end

/-! ### built-ins -/
section
variable {X : Cx} {e : Expr} {es : List Expr} {t : TA} {te : TE} {f : FA} {x : Str} {p pos : Pos} {id n : String} {rr : List V → Hp → VK → Prop} {g : GN} {gl : GLN}
theorem e_cB (hc : CallR X (.builtin id) rr) (ok : RNOk X.K rr g) (hm : X.mg x = none) (hv : bootBuiltins x = some (.builtin id)) (ha : A X (e :: es) t f) (hg : Gl X x := by rfl) (hn : x ≠ "__name__" := by decide) (hdb : (x == ("__debug__" : Str)) = false := by decide)
    (he : starEach (e :: es) X.env = (false, eval e X.env) :: starEach es X.env := by rfl) (hpl : (backTo pos (starEach es X.env)).any (·.1) = false := by rfl) : E X (.Call (.Name x p) (e :: es) [] pos) (tCB rr t) (fCall g f) := ⟨pe_callB hc hg hm hv ha.pe hn hdb he hpl, callOk ok ha.ok⟩
theorem e_cT (hc : CallR X (.type n) rr) (ok : RNOk X.K rr g) (hm : X.mg x = none) (hv : bootBuiltins x = some (.type n)) (ha : A X (e :: es) t f) (hg : Gl X x := by rfl) (hn : x ≠ "__name__" := by decide) (hdb : (x == ("__debug__" : Str)) = false := by decide)
    (he : starEach (e :: es) X.env = (false, eval e X.env) :: starEach es X.env := by rfl) (hpl : (backTo pos (starEach es X.env)).any (·.1) = false := by rfl) : E X (.Call (.Name x p) (e :: es) [] pos) (tCB rr t) (fCall g f) := ⟨pe_callTy hc hg hm hv ha.pe hn hdb he hpl, callOk ok ha.ok⟩
theorem l_cT (hc : CallR X (.type n) rr) (ok : RLOk X.K rr gl) (hm : X.mg x = none) (hv : bootBuiltins x = some (.type n)) (ha : A X (e :: es) t f) (hg : Gl X x := by rfl) (hn : x ≠ "__name__" := by decide) (hdb : (x == ("__debug__" : Str)) = false := by decide)
    (he : starEach (e :: es) X.env = (false, eval e X.env) :: starEach es X.env := by rfl) (hpl : (backTo pos (starEach es X.env)).any (·.1) = false := by rfl) : L X (.Call (.Name x p) (e :: es) [] pos) (tCB rr t) (fLCall gl f) := ⟨pe_callTy hc hg hm hv ha.pe hn hdb he hpl, lcallOk ok ha.ok⟩
/-- upon a list that was just made -/
theorem e_onB (hc : CallR X (.builtin id) rr) (ok : ROnOk X.K rr g) (hm : X.mg x = none) (hv : bootBuiltins x = some (.builtin id)) (ha : L X e te f) (hg : Gl X x := by rfl) (hn : x ≠ "__name__" := by decide) (hdb : (x == ("__debug__" : Str)) = false := by decide)
    (he : starEach [e] X.env = (false, eval e X.env) :: starEach [] X.env := by rfl) : E X (.Call (.Name x p) [e] [] pos) (tCB rr (tCons te tNil)) (fOn g f) := ⟨pe_callB hc hg hm hv (pa_cons ha.pe pa_nil he) hn hdb he rfl, onOk ok ha.ok⟩
theorem e_onT (hc : CallR X (.type n) rr) (ok : ROnOk X.K rr g) (hm : X.mg x = none) (hv : bootBuiltins x = some (.type n)) (ha : L X e te f) (hg : Gl X x := by rfl) (hn : x ≠ "__name__" := by decide) (hdb : (x == ("__debug__" : Str)) = false := by decide)
    (he : starEach [e] X.env = (false, eval e X.env) :: starEach [] X.env := by rfl) : E X (.Call (.Name x p) [e] [] pos) (tCB rr (tCons te tNil)) (fOn g f) := ⟨pe_callTy hc hg hm hv (pa_cons ha.pe pa_nil he) hn hdb he rfl, onOk ok ha.ok⟩
end
section
variable {K : Fg} {r : List Addr} {H : Hp}
theorem VAll.one {xs : List V} {d : D} (h : VAll K r H xs [d]) : ∃ v, xs = [v] ∧ Val K r H v d := by
  cases h with
  | cons a b => cases b; exact ⟨_, rfl, a⟩
theorem VAll.two {xs : List V} {d e : D} (h : VAll K r H xs [d, e]) : ∃ v w, xs = [v, w] ∧ Val K r H v d ∧ Val K r H w e := by
  cases h with
  | cons a b => cases b with
    | cons c z => cases z; exact ⟨_, _, rfl, a, c⟩
/-- len -/
def gLen : GN
  | [.tup xs], m => some (.int xs.length, m)
  | [.loc l], m => (rd m l).map fun xs => (.int xs.length, m)
  | [.kl xs], m => some (.int xs.length, m)
  | [.str z], m => if z.length ≤ 100000 then some (.int z.length, m) else none
  | _, _ => none
theorem gLen_ok : RNOk K (fun xs H Q => ∃ x n, xs = [x] ∧ LenV K x H n ∧ Q (.int n) H) gLen := fun r H m xs ds d m' hm hx hg Q go => by
  unfold gLen at hg
  split at hg
  · cases hg
    obtain ⟨v, rfl, hv⟩ := hx.one
    obtain ⟨a, vs, rfl, ha, hs⟩ := hv.tupE
    exact ⟨_, _, rfl, .inr ⟨vs, ha.sq, hs.length.symm⟩, go.here hm (.int _)⟩
  · obtain ⟨ys, h1, hg⟩ := mapE hg
    cases hg
    obtain ⟨v, rfl, hv⟩ := hx.one
    obtain ⟨a, rfl, ha⟩ := hv.locE
    obtain ⟨vs, q, hs⟩ := hm.rd ha h1
    exact ⟨_, _, rfl, .inl ⟨vs, q, hs.length.symm⟩, go.here hm (.int _)⟩
  · cases hg
    obtain ⟨v, rfl, hv⟩ := hx.one
    obtain ⟨a, vs, rfl, ha, hs⟩ := hv.klE
    exact ⟨_, _, rfl, .inl ⟨vs, ha.sq, hs.length.symm⟩, go.here hm (.int _)⟩
  · split at hg
    · rename_i hz
      cases hg
      obtain ⟨v, rfl, hv⟩ := hx.one
      exact ⟨_, _, rfl, by rw [hv.strE]; exact ⟨lineOf hz, rfl⟩, go.here hm (.int _)⟩
    · cases hg
  · cases hg
def gLenN : GN := fun xs m => some (.int xs.length, m)
theorem gLenN_ok : ROnOk K (fun xs H Q => ∃ x n, xs = [x] ∧ LenV K x H n ∧ Q (.int n) H) gLenN := fun r H m p vs xs d m' hm hp hq hv hg Q go => by
  cases hg
  exact ⟨_, _, rfl, .inl ⟨vs, .of hq, hv.length.symm⟩, go.here hm (.int _)⟩
def gAbs : GN
  | [.int i], m => some (.int (if i < 0 then -i else i), m)
  | _, _ => none
theorem gAbs_ok : RNOk K (fun xs H Q => ∃ i, xs = [.int i] ∧ Q (.int (if i < 0 then -i else i)) H) gAbs := fun r H m xs ds d m' hm hx hg Q go => by
  unfold gAbs at hg
  split at hg
  · cases hg
    obtain ⟨v, rfl, hv⟩ := hx.one
    rw [hv.intE]
    exact ⟨_, rfl, go.here hm (.int _)⟩
  · cases hg
def gIntOf : GN
  | [.int i], m => some (.int i, m)
  | [.bl k], m => some (.int (if k then 1 else 0), m)
  | _, _ => none
theorem gIntOf_ok : RNOk K (fun xs H Q => (∃ i, xs = [.int i] ∧ Q (.int i) H) ∨ ∃ k, xs = [.bl k] ∧ Q (.int (if k then 1 else 0)) H) gIntOf := fun r H m xs ds d m' hm hx hg Q go => by
  unfold gIntOf at hg
  split at hg
  · cases hg
    obtain ⟨v, rfl, hv⟩ := hx.one
    rw [hv.intE]
    exact .inl ⟨_, rfl, go.here hm (.int _)⟩
  · cases hg
    obtain ⟨v, rfl, hv⟩ := hx.one
    rw [hv.blE]
    exact .inr ⟨_, rfl, go.here hm (.int _)⟩
  · cases hg
def gMax2 : GN
  | [.int i, .int j], m => some (.int (if j > i then j else i), m)
  | _, _ => none
def gMin2 : GN
  | [.int i, .int j], m => some (.int (if j < i then j else i), m)
  | _, _ => none
theorem gMax2_ok : RNOk K (fun xs H Q => ∃ i j, xs = [.int i, .int j] ∧ Q (.int (if j > i then j else i)) H) gMax2 := fun r H m xs ds d m' hm hx hg Q go => by
  unfold gMax2 at hg
  split at hg
  · cases hg
    obtain ⟨v, w, rfl, hv, hw⟩ := hx.two
    rw [hv.intE, hw.intE]
    exact ⟨_, _, rfl, go.here hm (.int _)⟩
  · cases hg
theorem gMin2_ok : RNOk K (fun xs H Q => ∃ i j, xs = [.int i, .int j] ∧ Q (.int (if j < i then j else i)) H) gMin2 := fun r H m xs ds d m' hm hx hg Q go => by
  unfold gMin2 at hg
  split at hg
  · cases hg
    obtain ⟨v, w, rfl, hv, hw⟩ := hx.two
    rw [hv.intE, hw.intE]
    exact ⟨_, _, rfl, go.here hm (.int _)⟩
  · cases hg
/-- tuple(..), list(..) -/
def gTupOf : GN
  | [.tup xs], m => some (.tup xs, m)
  | [.loc l], m => (rd m l).map fun xs => (.tup xs, m)
  | _, _ => none
def rTupOf (K : Fg) : List V → Hp → VK → Prop := fun xs H Q => ∃ p ys, xs = [.ref p] ∧ ((SqL K H p ys ∧ ∀ l, H l = none → Q (.ref l) (upd H l (.tup ys))) ∨ (SqT K H p ys ∧ Q (.ref p) H))
theorem gTupOf_ok : RNOk K (rTupOf K) gTupOf := fun r H m xs ds d m' hm hx hg Q go => by
  unfold gTupOf at hg
  split at hg
  · cases hg
    obtain ⟨v, rfl, hv⟩ := hx.one
    obtain ⟨a, vs, rfl, ha, hs⟩ := hv.tupE
    exact ⟨a, vs, rfl, .inr ⟨ha.sq, go.here hm (.tup ha hs)⟩⟩
  · obtain ⟨ys, h1, hg⟩ := mapE hg
    cases hg
    obtain ⟨v, rfl, hv⟩ := hx.one
    obtain ⟨a, rfl, ha⟩ := hv.locE
    obtain ⟨vs, q, hs⟩ := hm.rd ha h1
    exact ⟨a, vs, rfl, .inl ⟨q, fun l hl => go.newTup hm hs hl⟩⟩
  · cases hg
def gTupN : GN := fun xs m => some (.tup xs, m)
theorem gTupN_ok : ROnOk K (rTupOf K) gTupN := fun r H m p vs xs d m' hm hp hq hv hg Q go => by
  cases hg
  exact ⟨p, vs, rfl, .inl ⟨.of hq, fun l hl => go.newTup hm hv hl⟩⟩
def gLstOf : GLN
  | [.tup xs], m => some (xs, m)
  | [.loc l], m => (rd m l).map fun xs => (xs, m)
  | _, _ => none
theorem gLstOf_ok : RLOk K (fun xs H Q => ∃ p ys, xs = [.ref p] ∧ (SqL K H p ys ∨ SqT K H p ys) ∧ ∀ l, H l = none → Q (.ref l) (upd H l (.lst ys))) gLstOf := fun r H m xs ds d m' hm hx hg Q go => by
  unfold gLstOf at hg
  split at hg
  · cases hg
    obtain ⟨v, rfl, hv⟩ := hx.one
    obtain ⟨a, vs, rfl, ha, hs⟩ := hv.tupE
    exact ⟨a, vs, rfl, .inr ha.sq, fun l hl => go.new hm hs hl⟩
  · obtain ⟨ys, h1, hg⟩ := mapE hg
    cases hg
    obtain ⟨v, rfl, hv⟩ := hx.one
    obtain ⟨a, rfl, ha⟩ := hv.locE
    obtain ⟨vs, q, hs⟩ := hm.rd ha h1
    exact ⟨a, vs, rfl, .inl q, fun l hl => go.new hm hs hl⟩
  · cases hg
/-- all, any of a list that was just made -/
def asBs : List D → Option (List Bool)
  | [] => some []
  | .bl b :: r => (asBs r).map (b :: ·)
  | _ => none
theorem asBs_ok : ∀ {ds : List D} {bs : List Bool}, asBs ds = some bs → ds = bs.map D.bl
  | [], bs, h => by cases h; rfl
  | .bl b :: r, bs, h => by
    obtain ⟨q, h1, h2⟩ := mapE h
    subst h2
    rw [asBs_ok h1]; rfl
  | .non :: _, _, h => by cases h
  | .int _ :: _, _, h => by cases h
  | .str _ :: _, _, h => by cases h
  | .tup _ :: _, _, h => by cases h
  | .loc _ :: _, _, h => by cases h
  | .ty _ :: _, _, h => by cases h
  | .kl _ :: _, _, h => by cases h
def gAll : GN := fun xs m => (asBs xs).map fun bs => (.bl (bs.all id), m)
def gAny : GN := fun xs m => (asBs xs).map fun bs => (.bl (bs.any id), m)
theorem gAll_ok : ROnOk K (rAll K) gAll := fun r H m p vs xs d m' hm hp hq hv hg Q go => by
  obtain ⟨bs, h1, hg⟩ := mapE hg
  cases hg
  have e := asBs_ok h1
  subst e
  have e2 := hv.bools
  subst e2
  exact ⟨p, bs, rfl, .of hq, go.here hm (.bl _)⟩
theorem gAny_ok : ROnOk K (rAny K) gAny := fun r H m p vs xs d m' hm hp hq hv hg Q go => by
  obtain ⟨bs, h1, hg⟩ := mapE hg
  cases hg
  have e := asBs_ok h1
  subst e
  have e2 := hv.bools
  subst e2
  exact ⟨p, bs, rfl, .of hq, go.here hm (.bl _)⟩
def asIs : List D → Option (List Int)
  | [] => some []
  | .int b :: r => (asIs r).map (b :: ·)
  | _ => none
theorem asIs_ok : ∀ {ds : List D} {bs : List Int}, asIs ds = some bs → ds = bs.map D.int
  | [], bs, h => by cases h; rfl
  | .int b :: r, bs, h => by
    obtain ⟨q, h1, h2⟩ := mapE h
    subst h2
    rw [asIs_ok h1]; rfl
  | .non :: _, _, h => by cases h
  | .bl _ :: _, _, h => by cases h
  | .str _ :: _, _, h => by cases h
  | .tup _ :: _, _, h => by cases h
  | .loc _ :: _, _, h => by cases h
  | .ty _ :: _, _, h => by cases h
  | .kl _ :: _, _, h => by cases h
theorem asIs_map : ∀ ns : List Int, asIs (ns.map D.int) = some ns
  | [] => rfl
  | n :: ns => by
    show (asIs (ns.map D.int)).map (n :: ·) = _
    rw [asIs_map ns]; rfl
theorem asBs_map : ∀ ns : List Bool, asBs (ns.map D.bl) = some ns
  | [] => rfl
  | n :: ns => by
    show (asBs (ns.map D.bl)).map (n :: ·) = _
    rw [asBs_map ns]; rfl
/-- min of a list of ints -/
def minL : List Int → Int
  | [] => 0
  | [x] => x
  | x :: y :: r => let m := minL (y :: r); if x ≤ m then x else m
theorem minL_le : ∀ {l : List Int} {y : Int}, y ∈ l → minL l ≤ y
  | [x], y, h => by
    have e : y = x := by simpa using h
    subst e; exact Int.le_refl _
  | x :: z :: r, y, h => by
    show (if x ≤ minL (z :: r) then x else minL (z :: r)) ≤ y
    rcases List.mem_cons.mp h with e | h
    · subst e; split <;> omega
    · have := minL_le h
      split <;> omega
theorem minL_mem : ∀ {l : List Int}, l ≠ [] → minL l ∈ l
  | [x], _ => by simp [minL]
  | x :: z :: r, _ => by
    show (if x ≤ minL (z :: r) then x else minL (z :: r)) ∈ _
    split
    · simp
    · exact List.mem_cons_of_mem _ (minL_mem (by simp))
def gMinL : GN
  | [.loc l], m => (rd m l).bind fun xs => (asIs xs).bind fun ns => if ns = [] then none else some (.int (minL ns), m)
  | _, _ => none
theorem gMinL_ok : RNOk K (rMin K) gMinL := fun r H m xs ds d m' hm hx hg Q go => by
  unfold gMinL at hg
  split at hg
  · obtain ⟨ys, h1, hg⟩ := bindE hg
    obtain ⟨ns, h2, hg⟩ := bindE hg
    split at hg
    · cases hg
    · rename_i hne
      cases hg
      obtain ⟨v, rfl, hv⟩ := hx.one
      obtain ⟨a, rfl, ha⟩ := hv.locE
      obtain ⟨vs, q, hs⟩ := hm.rd ha h1
      have e := asIs_ok h2
      subst e
      have e2 := hs.ints
      subst e2
      refine ⟨a, ns, rfl, q, List.length_pos_iff.mpr hne, fun k hk hle => ?_⟩
      have e3 : k = minL ns := by
        have h3 := hle _ (minL_mem hne)
        have h4 := minL_le hk
        omega
      rw [e3]
      exact go.here hm (.int _)
  · cases hg
/-- isinstance(x, T), T a built-in class -/
def tyName : D → Option String
  | .non => some "NoneType" | .bl _ => some "bool" | .int _ => some "int" | .str _ => some "str" | .tup _ => some "tuple" | _ => none
def gIsi : GN
  | [d, .ty n], m => (match d with
    | .loc l => match m[l]? with
      | some (.lst _) => some "list"
      | some (.dK _ _) => some "dict"
      | _ => none
    | d => tyName d).bind fun t => (kitB t n).map fun b => (.bl b, m)
  | _, _ => none
theorem TupAt.ty {a : Addr} {vs : List V} (h : TupAt K H a vs) : TyX K H (.ref a) (.type "tuple") := by
  rcases h with h | ⟨o, h⟩ | h
  · exact .base (.tup h)
  · exact .fTuple h
  · rcases h (fun _ => none) with (q | ⟨o, q⟩) | ⟨o, its, n, q, c, _⟩
    · cases q
    · cases q
    · exact .kTuple q c
theorem gIsi_ok : RNOk K (rIsi K) gIsi := fun r H m xs ds d m' hm hx hg Q go => by
  unfold gIsi at hg
  split at hg
  · rename_i d0 n
    obtain ⟨t, h1, hg⟩ := bindE hg
    obtain ⟨b, h2, hg⟩ := mapE hg
    cases hg
    obtain ⟨v, w, rfl, hv, hw⟩ := hx.two
    have ew := hw.tyE
    subst ew
    refine ⟨v, .ty n, .type t, .type n, b, rfl, .ty n, ?_, kit_ty h2, go.here hm (.bl _)⟩
    cases hv with
    | non => cases h1; exact .base .non
    | bl k => cases h1; exact .base (.bl k)
    | int i => cases h1; exact .base (.int i)
    | str z => cases h1; exact .base (.str z)
    | ty z => cases h1
    | tup ha hs => cases h1; exact ha.ty
    | kl ha hs => cases h1
    | cls z => cases h1
    | ins a1 a2 a3 a4 a5 => cases h1
    | stp a1 a2 a3 => cases h1
    | ttp a1 a2 => cases h1
    | @loc a l ha =>
      have h1' : (match m[l]? with | some (.lst _) => some "list" | some (.dK _ _) => some "dict" | _ => none) = some t := h1
      split at h1'
      · rename_i ys q
        cases h1'
        obtain ⟨vs, q1, _⟩ := hm.lst ha q
        exact .base (.lst q1)
      · rename_i ks ys q
        cases h1'
        obtain ⟨b, hb, vs, q1, _⟩ := hm.cell l _ q
        have e : some a = some b := ha.symm.trans hb
        cases e
        exact .base (.dK q1)
      · cases h1'
  · cases hg
end
/-- a built-in class as a value -/
theorem e_ty {X : Cx} {x : Str} {n : String} {pos : Pos} (hm : X.mg x = none) (hv : bootBuiltins x = some (.type n)) (hg : Gl X x := by rfl) (hn : x ≠ "__name__" := by decide) (hd : (x == ("__debug__" : Str)) = false := by decide) : E X (.Name x pos) (tC (.ty n)) (fC (.ty n)) := ⟨pe_bltn hg hm hv rfl hn hd, cOk fun _ _ => .ty n⟩
end Mv

set_option Elab.async false
set_option linter.all false
set_option maxRecDepth 100000
set_option maxHeartbeats 4000000
/-! Mv5: what is walked, targets, statements, loops, comprehensions. -/
namespace Mv
open PySem PySem.Spec PyProof.Rows L2

/-! ### what is walked -/
/-- the items; where they are those of a list at a place, that place -/
structure Src where
  xs : List D
  wh : Option Nat
def Src.live (s : Src) (m : Mem) : Prop := match s.wh with
  | none => True
  | some l => rd m l = some s.xs
def Walked (K : Fg) (J : It) (s : Src) (r1 : List Addr) (H1 : Hp) : Prop := ∀ (i : Nat) r H m, Ext r1 H1 r H → MemOk K r H m → s.live m →
  (s.xs.length ≤ i → J.stop i H) ∧ ∀ d, s.xs[i]? = some d → J.go i H ∧ ∀ x H', J.yld i H x H' → Ext r H r H' ∧ MemOk K r H' m ∧ Val K r H' x d
abbrev FI := Sl → Mem → Option (Src × Mem)
def IOk (K : Fg) (wi : TI) (fi : FI) : Prop := ∀ r σ H e m s m1, SlOk K r H σ e → MemOk K r H m → fi e m = some (s, m1) → ∀ R : It → Hp → Prop, (∀ r1 H1 J, Ext r H r1 H1 → MemOk K r1 H1 m1 → s.live m1 → Walked K J s r1 H1 → R J H1) → wi σ H R
structure I (X : Cx) (tg iter : Expr) (wi : TI) (fi : FI) : Prop where
  pe : PI X tg iter wi
  ok : IOk X.K wi fi
theorem pi_or {X : Cx} {tg iter : Expr} {w1 w2 : TI} (h1 : PI X tg iter w1) (h2 : PI X tg iter w2) : PI X tg iter (fun σ H R => w1 σ H R ∨ w2 σ H R) :=
  ⟨fun pins s σ H R I q => q.elim (h1.run pins s σ H R I) (h2.run pins s σ H R I)⟩
section
variable {K : Fg} {r : List Addr} {H : Hp}
theorem walk_list {m : Mem} {l : Nat} {a : Addr} {xs : List D} (ha : r[l]? = some a) : Walked K (Itl K a) ⟨xs, some l⟩ r H := fun i r2 H2 m2 x2 hm2 hl => by
  have hl' : rd m2 l = some xs := hl
  obtain ⟨vs, q1, q2⟩ := hm2.rd (x2.get ha) hl'
  refine ⟨fun hi => ⟨vs, q1, by rw [q2.length]; exact hi⟩, fun d hd => ?_⟩
  obtain ⟨v, q3, q4⟩ := q2.get hd
  refine ⟨⟨vs, v, q1, q3⟩, fun x H' y => ?_⟩
  obtain ⟨e, y⟩ := y
  subst e
  have e2 : some v = some x := q3.symm.trans (y vs q1)
  cases e2
  exact ⟨Ext.refl, hm2, q4⟩
theorem walk_new {p : Addr} {vs : List V} {xs : List D} (hp : p ∉ r) (hq : H p = some (.lst vs)) (hv : VAll K r H vs xs) : Walked K (Itl K p) ⟨xs, none⟩ r H := fun i r2 H2 m2 x2 hm2 hl => by
  have q1 : SqL K H2 p vs := .of (x2.keep p _ hq hp)
  have q2 := hv.mono x2
  refine ⟨fun hi => ⟨vs, q1, by rw [q2.length]; exact hi⟩, fun d hd => ?_⟩
  obtain ⟨v, q3, q4⟩ := q2.get hd
  refine ⟨⟨vs, v, q1, q3⟩, fun x H' y => ?_⟩
  obtain ⟨e, y⟩ := y
  subst e
  have e2 : some v = some x := q3.symm.trans (y vs q1)
  cases e2
  exact ⟨Ext.refl, hm2, q4⟩
theorem walk_kl {a : Addr} {vs : List V} {xs : List D} (ha : KlAt K H a vs) (hv : VAll K r H vs xs) : Walked K (Itl K a) ⟨xs, none⟩ r H := fun i r2 H2 m2 x2 hm2 hl => by
  have q1 : SqL K H2 a vs := KlAt.sq (ha.elim (fun ⟨o, h⟩ => .inl ⟨o, x2.fix _ _ trivial h⟩) .inr)
  have q2 := hv.mono x2
  refine ⟨fun hi => ⟨vs, q1, by rw [q2.length]; exact hi⟩, fun d hd => ?_⟩
  obtain ⟨v, q3, q4⟩ := q2.get hd
  refine ⟨⟨vs, v, q1, q3⟩, fun x H' y => ?_⟩
  obtain ⟨e, y⟩ := y
  subst e
  have e2 : some v = some x := q3.symm.trans (y vs q1)
  cases e2
  exact ⟨Ext.refl, hm2, q4⟩
theorem walk_tup {a : Addr} {vs : List V} {xs : List D} (ha : TupAt K H a vs) (hv : VAll K r H vs xs) : Walked K (Itt K a) ⟨xs, none⟩ r H := fun i r2 H2 m2 x2 hm2 hl => by
  have q1 : SqT K H2 a vs := (ha.ext x2).sq
  have q2 := hv.mono x2
  refine ⟨fun hi => ⟨vs, q1, by rw [q2.length]; exact hi⟩, fun d hd => ?_⟩
  obtain ⟨v, q3, q4⟩ := q2.get hd
  refine ⟨⟨vs, v, q1, q3⟩, fun x H' y => ?_⟩
  obtain ⟨e, y⟩ := y
  subst e
  have e2 : some v = some x := q3.symm.trans (y vs q1)
  cases e2
  exact ⟨Ext.refl, hm2, q4⟩
def rangeD (lo : Int) (n : Nat) : List D := (List.range n).map fun i => .int (lo + (i : Nat))
theorem rangeD_length (lo : Int) (n : Nat) : (rangeD lo n).length = n := by simp [rangeD]
theorem rangeD_get {lo : Int} {n i : Nat} {d : D} (h : (rangeD lo n)[i]? = some d) : i < n ∧ d = .int (lo + i) := by
  unfold rangeD at h
  rw [List.getElem?_map] at h
  by_cases hi : i < n
  · rw [List.getElem?_range hi] at h
    cases h
    exact ⟨hi, rfl⟩
  · rw [List.getElem?_eq_none (by simpa using hi)] at h
    cases h
theorem walk_range {lo : Int} {n : Nat} : Walked K (Itr lo n) ⟨rangeD lo n, none⟩ r H := fun i r2 H2 m2 x2 hm2 hl => by
  refine ⟨fun hi => ?_, fun d hd => ?_⟩
  · have : n ≤ i := by simpa [rangeD_length] using hi
    exact this
  · obtain ⟨hi, e⟩ := rangeD_get hd
    subst e
    refine ⟨hi, fun x H' y => ?_⟩
    obtain ⟨e1, e2⟩ := y
    subst e1; subst e2
    exact ⟨Ext.refl, hm2, .int _⟩
end
def seqOf (m : Mem) : D → Option Src
  | .tup xs => some ⟨xs, none⟩
  | .loc l => (rd m l).map fun xs => ⟨xs, some l⟩
  | .kl xs => some ⟨xs, none⟩
  | _ => none
def fSeq (f : FE) : FI := fun e m => (f e m).bind fun p => (seqOf p.2 p.1).map fun s => (s, p.2)
def fSeqN (f : FA) : FI := fun e m => (f e m).map fun p => (⟨p.1, none⟩, p.2)
def fRange1 (f : FE) : FI := fun e m => (f e m).bind fun p => (asI p.1).bind fun j => if -100000 ≤ j ∧ j ≤ 100000 then some (⟨rangeD 0 j.toNat, none⟩, p.2) else none
def fRange2 (f g : FE) : FI := fun e m => (f e m).bind fun p => (asI p.1).bind fun i => (g e p.2).bind fun q => (asI q.1).bind fun j => if -100000 ≤ i ∧ i ≤ 100000 ∧ -100000 ≤ j ∧ j ≤ 100000 then some (⟨rangeD i (j - i).toNat, none⟩, q.2) else none
section
variable {X : Cx} {tg a b : Expr} {ta tb : TE} {fa fb : FE} {pos p : Pos}
theorem i_seq (h : E X a ta fa) : I X tg a (fun σ H R => iList X.K ta σ H R ∨ iTup X.K ta σ H R) (fSeq fa) := ⟨pi_or (pi_list h.pe) (pi_tup h.pe), fun r σ H e m s m1 hs hm hf R go => by
  obtain ⟨⟨d, m2⟩, h1, hf⟩ := bindE hf
  obtain ⟨s2, h2, hf⟩ := mapE hf
  cases hf
  unfold seqOf at h2
  split at h2
  · rename_i xs q
    have q' : d = .tup xs := q
    subst q'
    cases h2
    refine .inr (h.ok r σ H e m _ _ hs hm h1 _ fun r1 v1 H1 x1 hm1 hv1 => ?_)
    obtain ⟨a, vs, rfl, ha, hw⟩ := hv1.tupE
    exact ⟨a, rfl, ⟨vs, ha.sq⟩, go r1 H1 _ x1 hm1 trivial (walk_tup ha hw)⟩
  · rename_i l q
    have q' : d = .loc l := q
    subst q'
    obtain ⟨xs, h3, h2⟩ := mapE h2
    cases h2
    refine .inl (h.ok r σ H e m _ _ hs hm h1 _ fun r1 v1 H1 x1 hm1 hv1 => ?_)
    obtain ⟨a, rfl, ha⟩ := hv1.locE
    obtain ⟨vs, q1, q2⟩ := hm1.rd ha h3
    exact ⟨a, rfl, ⟨vs, q1⟩, go r1 H1 _ x1 hm1 h3 (walk_list (m := m2) ha)⟩
  · rename_i xs q
    have q' : d = .kl xs := q
    subst q'
    cases h2
    refine .inl (h.ok r σ H e m _ _ hs hm h1 _ fun r1 v1 H1 x1 hm1 hv1 => ?_)
    obtain ⟨a, vs, rfl, ha, hw⟩ := hv1.klE
    exact ⟨a, rfl, ⟨vs, ha.sq⟩, go r1 H1 _ x1 hm1 trivial (walk_kl ha hw)⟩
  · cases h2⟩
theorem i_new {f : FA} (h : L X a ta f) : I X tg a (iList X.K ta) (fSeqN f) := ⟨pi_list h.pe, fun r σ H e m s m1 hs hm hf R go => by
  obtain ⟨⟨xs, m2⟩, h1, hf⟩ := mapE hf
  cases hf
  refine h.ok r σ H e m _ _ hs hm h1 _ fun r1 p vs H1 x1 hm1 hp hn hq hv => ?_
  exact ⟨p, rfl, ⟨vs, .of hq⟩, go r1 H1 _ x1 hm1 trivial (walk_new hp hq hv)⟩⟩
theorem i_range1 (hm : X.mg "range" = none) (h : E X a ta fa) (hg : Gl X "range" := by rfl) (hs : starEach [a] X.env = [(false, eval a X.env)] := by rfl) : I X tg (.Call (.Name "range" p) [a] [] pos) (iRng1 (tCons ta tNil)) (fRange1 fa) := ⟨pi_range1 hg hm (pa_cons h.pe pa_nil (by rw [hs]; rfl)) hs, fun r σ H e m s m1 hs hm hf R go => by
  obtain ⟨⟨d, m2⟩, h1, hf⟩ := bindE hf
  obtain ⟨j, h2, hf⟩ := bindE hf
  split at hf
  · rename_i hj
    cases hf
    have q' : d = .int j := asI_ok h2
    subst q'
    refine h.ok r σ H e m _ _ hs hm h1 _ fun r1 v1 H1 x1 hm1 hv1 => ?_
    exact ⟨j, by rw [hv1.intE], by omega, by omega, go r1 H1 _ x1 hm1 trivial walk_range⟩
  · cases hf⟩
theorem i_range2 (hm : X.mg "range" = none) (h : E X a ta fa) (h' : E X b tb fb) (hg : Gl X "range" := by rfl) (hs : starEach [a, b] X.env = [(false, eval a X.env), (false, eval b X.env)] := by rfl) (hs2 : starEach [b] X.env = [(false, eval b X.env)] := by rfl) :
    I X tg (.Call (.Name "range" p) [a, b] [] pos) (iRng2 (tCons ta (tCons tb tNil))) (fRange2 fa fb) := ⟨pi_range2 hg hm (pa_cons h.pe (pa_cons h'.pe pa_nil (by rw [hs2]; rfl)) (by rw [hs, hs2])) hs hs2, fun r σ H e m s m1 hs hm hf R go => by
  obtain ⟨⟨d, m2⟩, h1, hf⟩ := bindE hf
  obtain ⟨i, h2, hf⟩ := bindE hf
  obtain ⟨⟨d2, m3⟩, h3, hf⟩ := bindE hf
  obtain ⟨j, h4, hf⟩ := bindE hf
  split at hf
  · rename_i hj
    cases hf
    have q' : d = .int i := asI_ok h2
    have q2' : d2 = .int j := asI_ok h4
    subst q'; subst q2'
    refine h.ok r σ H e m _ _ hs hm h1 _ fun r1 v1 H1 x1 hm1 hv1 => ?_
    refine h'.ok r1 σ H1 e _ _ _ (hs.mono x1) hm1 h3 _ fun r2 v2 H2 x2 hm2 hv2 => ?_
    exact ⟨i, j, by rw [hv1.intE, hv2.intE], by omega, go r2 H2 _ (x1.trans x2) hm2 trivial walk_range⟩
  · cases hf⟩
end

/-! ### targets -/
abbrev FG := D → Sl → Mem → Option (Sl × Mem)
abbrev FGs := List D → Sl → Mem → Option (Sl × Mem)
def GEnd (K : Fg) (r : List Addr) (H : Hp) (σ : L2.St) (js : List Nat) (e1 : Sl) (m1 : Mem) (Q : L2.St → Hp → Prop) : Prop := ∀ r' σ' H', Ext r H r' H' → SlOk K r' H' σ' e1 → MemOk K r' H' m1 → (∀ j, j ∉ js → σ'[j]? = σ[j]?) → σ'.length = σ.length → Q σ' H'
def GOk (K : Fg) (g : TG) (f : FG) (js : List Nat) : Prop := ∀ r σ H e m v d e1 m1, SlOk K r H σ e → MemOk K r H m → Val K r H v d → f d e m = some (e1, m1) → ∀ Q, GEnd K r H σ js e1 m1 Q → g v σ H Q
def GsOk (K : Fg) (g : TGs) (f : FGs) (js : List Nat) : Prop := ∀ r σ H e m vs ds e1 m1, SlOk K r H σ e → MemOk K r H m → VAll K r H vs ds → f ds e m = some (e1, m1) → ∀ Q, GEnd K r H σ js e1 m1 Q → g vs σ H Q
structure G (X : Cx) (t : Expr) (g : TG) (f : FG) (js : List Nat) : Prop where
  pe : PG X t g
  ok : GOk X.K g f js
structure Gs (X : Cx) (ts : List Expr) (g : TGs) (f : FGs) (js : List Nat) : Prop where
  pe : PGs X ts g
  ok : GsOk X.K g f js
def fName (i : Nat) : FG := fun d e m => some (e.set i (some d), m)
theorem SlOk.set {K : Fg} {r : List Addr} {H : Hp} {σ : L2.St} {e : Sl} {v : V} {d : D} (i : Nat) (h : SlOk K r H σ e) (hv : Val K r H v d) : SlOk K r H (σ.set i (some v)) (e.set i (some d)) := by
  refine ⟨by simp [h.1], fun j d' q => ?_⟩
  by_cases hj : i = j
  · subst hj
    have hl : i < e.length := by simpa using (List.getElem?_eq_some_iff.mp q).1
    rw [List.getElem?_set_self hl] at q
    cases q
    exact ⟨v, List.getElem?_set_self (by rw [h.1]; exact hl), hv⟩
  · rw [List.getElem?_set_ne hj] at q
    rw [List.getElem?_set_ne hj]
    exact h.2 j d' q
theorem nameOk {K : Fg} (i : Nat) : GOk K (gName i) (fName i) [i] := fun r σ H e m v d e1 m1 hs hm hv hf Q g => by
  cases hf
  exact g r _ H Ext.refl (hs.set i hv) hm (fun j hj => List.getElem?_set_ne fun z => hj (by simp [z])) (by simp)
section
variable {X : Cx} {pos : Pos}
theorem g_name (i : Nat) {x : Str} (hN : X.N.Nodup) (hi : X.N[i]? = some x := by rfl) (hx : Loc X.env.scope x := by first | exact Or.inl rfl | exact Or.inr rfl) (hf : X.fn x = true ∨ X.env.scope.names.lookup x = some .local := by first | exact .inl rfl | exact .inr rfl) : G X (.Name x pos) (gName i) (fName i) [i] := ⟨pg_name hN hi hx hf, nameOk i⟩
def fsNil : FGs := fun ds e m => match ds with
  | [] => some (e, m)
  | _ => none
def fsCons (f : FG) (fs : FGs) : FGs := fun ds e m => match ds with
  | d :: r => (f d e m).bind fun p => fs r p.1 p.2
  | [] => none
theorem gs_nil : Gs X [] gNil fsNil [] := ⟨pgs_nil, fun r σ H e m vs ds e1 m1 hs hm hv hf Q g => by
  unfold fsNil at hf
  split at hf
  · cases hf
    cases hv
    exact ⟨rfl, g r σ H Ext.refl hs hm (fun _ _ => rfl) rfl⟩
  · cases hf⟩
theorem gs_cons {a : Expr} {es : List Expr} {t : TG} {u : TGs} {f : FG} {fs : FGs} {js ks : List Nat} (h1 : G X a t f js) (h2 : Gs X es u fs ks) (hs : (assignEach (a :: es) X.env).map (·.2) = assign a X.env :: (assignEach es X.env).map (·.2) := by rfl) :
    Gs X (a :: es) (gCons t u) (fsCons f fs) (js ++ ks) := ⟨pgs_cons h1.pe h2.pe hs, fun r σ H e m vs ds e1 m1 hs hm hv hf Q g => by
  unfold fsCons at hf
  split at hf
  · obtain ⟨⟨e2, m2⟩, q1, hf⟩ := bindE hf
    cases hv with
    | cons hv hr =>
      refine ⟨_, _, rfl, h1.ok r σ H e m _ _ e2 m2 hs hm hv q1 _ fun r1 σ1 H1 x1 hs1 hm1 k1 n1 => ?_⟩
      refine h2.ok r1 σ1 H1 e2 m2 _ _ e1 m1 hs1 hm1 (hr.mono x1) hf _ fun r2 σ2 H2 x2 hs2 hm2 k2 n2 => ?_
      exact g r2 σ2 H2 (x1.trans x2) hs2 hm2 (fun j hj => (k2 j fun z => hj (List.mem_append_right _ z)).trans (k1 j fun z => hj (List.mem_append_left _ z))) (n2.trans n1)
  · cases hf⟩
def fTupG (n : Nat) (fs : FGs) : FG := fun d e m => match d with
  | .tup ds => if ds.length = n then fs ds e m else none
  | _ => none
theorem g_tup {es : List Expr} {k : Nat} {t : TGs} {n : Nat} {fs : FGs} {js : List Nat} (hc : X.calm = true) (h : Gs X es t fs js) (hn : (assignEach es X.env).length = n := by rfl) (hst : (assignEach es X.env).findIdx? (·.1) = none := by rfl) : G X (.Tuple es k pos) (gTup X.K n t) (fTupG n fs) js := ⟨pg_tup hc h.pe hn hst, fun r σ H e m v d e1 m1 hs hm hv hf Q g => by
  unfold fTupG at hf
  split at hf
  · split at hf
    · rename_i hz
      obtain ⟨a, vs, rfl, ha, hw⟩ := hv.tupE
      exact ⟨a, vs, rfl, ha.sq, by rw [hw.length]; exact hz, h.ok r σ H e m _ _ e1 m1 hs hm hw hf Q g⟩
    · cases hf
  · cases hf⟩
def fSub (fo fi : FE) : FG := fun d e m => (fo e m).bind fun p => (fi e p.2).bind fun q => match p.1, q.1 with
  | .loc l, .int k => match q.2[l]? with
    | some (.lst xs) => (ixN xs.length k).map fun j => (e, q.2.set l (.lst (xs.set j d)))
    | _ => none
  | _, _ => none
theorem g_sub {o i : Expr} {to ti : TE} {fo fi : FE} (ho : E X o to fo) (hi : E X i ti fi)
    (ha : ∀ v, assign (.Subscript o i pos) X.env v = (do
      let ov ← holding [v] (eval o X.env)
      let iv ← holding [v, ov] (eval i X.env)
      standAt pos
      holding [v, ov, iv] (setItem ov iv v)
      release [v, ov, iv] []) := by intro _; rfl) : G X (.Subscript o i pos) (L2.gSub to ti rSetL) (fSub fo fi) [] := ⟨pg_sub ho.pe hi.pe set_list ha, fun r σ H e m v d e1 m1 hs hm hv hf Q g => by
  obtain ⟨⟨d1, m2⟩, q1, hf⟩ := bindE hf
  obtain ⟨⟨d2, m3⟩, q2, hf⟩ := bindE hf
  split at hf
  · rename_i l k z1 z2
    have z1' : d1 = .loc l := z1
    have z2' : d2 = .int k := z2
    subst z1'; subst z2'
    split at hf
    · rename_i xs z3
      obtain ⟨j, h4, hf⟩ := mapE hf
      cases hf
      refine ho.ok r σ H e m _ _ hs hm q1 _ fun r1 v1 H1 x1 hm1 hv1 => ?_
      refine hi.ok r1 σ H1 e _ _ _ (hs.mono x1) hm1 q2 _ fun r2 v2 H2 x2 hm2 hv2 => ?_
      obtain ⟨a, e1, ha⟩ := (hv1.mono x2).locE
      obtain ⟨vs, w1, w2⟩ := hm2.lst ha z3
      have x12 := x1.trans x2
      have ew : Ext r2 H2 r2 (upd H2 a (.lst (vs.set j v))) := Ext.write (List.mem_of_getElem? ha) fun u hf z => by rw [w1] at z; cases z; exact hf
      refine ⟨a, vs, k, j, e1, hv2.intE, w1, by rw [w2.length]; exact h4, ?_⟩
      exact g r2 σ _ (x12.trans ew) (hs.mono (x12.trans ew)) (hm2.write ha w1 (w2.set j (hv.mono x12))) (fun _ _ => rfl) rfl
    · cases hf
  · cases hf⟩
end

/-! ### statements -/
inductive Out where
  | nx (e : Sl) (m : Mem) | rt (d : D) (m : Mem) | bk (e : Sl) (m : Mem) | ct (e : Sl) (m : Mem)
abbrev FS := Sl → Mem → Option Out
def Done (K : Fg) (r : List Addr) (H : Hp) (B : Ends) : Out → Prop
  | .nx e m => ∀ r' σ' H', Ext r H r' H' → SlOk K r' H' σ' e → MemOk K r' H' m → B.nx σ' H'
  | .rt d m => ∀ r' v H', Ext r H r' H' → MemOk K r' H' m → Val K r' H' v d → B.rt v H'
  | .bk e m => ∀ r' σ' H', Ext r H r' H' → SlOk K r' H' σ' e → MemOk K r' H' m → B.bk σ' H'
  | .ct e m => ∀ r' σ' H', Ext r H r' H' → SlOk K r' H' σ' e → MemOk K r' H' m → B.ct σ' H'
theorem Done.step {K : Fg} {r r1 : List Addr} {H H1 : Hp} {B : Ends} {o : Out} (h : Done K r H B o) (x : Ext r H r1 H1) : Done K r1 H1 B o := by
  cases o with
  | nx e m => exact fun r' σ' H' y => h r' σ' H' (x.trans y)
  | rt d m => exact fun r' σ' H' y => h r' σ' H' (x.trans y)
  | bk e m => exact fun r' σ' H' y => h r' σ' H' (x.trans y)
  | ct e m => exact fun r' σ' H' y => h r' σ' H' (x.trans y)
def SOk (K : Fg) (ts : TS) (g : FS) : Prop := ∀ r σ H e m o, SlOk K r H σ e → MemOk K r H m → g e m = some o → ∀ B : Ends, Done K r H B o → ts B σ H
structure S (X : Cx) (st : Stmt) (ts : TS) (g : FS) : Prop where
  pe : PS X st ts
  ok : SOk X.K ts g
structure Ss (X : Cx) (st : List Stmt) (ts : TS) (g : FS) : Prop where
  pe : PSs X st ts
  ok : SOk X.K ts g
def fsNext : FS := fun e m => some (.nx e m)
def fsSeq (f g : FS) : FS := fun e m => (f e m).bind fun o => match o with
  | .nx e1 m1 => g e1 m1
  | o => some o
theorem seqOk {K : Fg} {t u : TS} {f g : FS} (h1 : SOk K t f) (h2 : SOk K u g) : SOk K (tSeq t u) (fsSeq f g) := fun r σ H e m o hs hm hf B go => by
  obtain ⟨o1, q1, hf⟩ := bindE hf
  refine h1 r σ H e m o1 hs hm q1 _ ?_
  cases o1 with
  | nx e1 m1 => exact fun r' σ' H' x hs' hm' => h2 r' σ' H' e1 m1 o hs' hm' hf B (go.step x)
  | rt d m1 => cases hf; exact go
  | bk e1 m1 => cases hf; exact go
  | ct e1 m1 => cases hf; exact go
def fsIf (t : FT) (f g : FS) : FS := fun e m => (t e m).bind fun p => if p.1 = true then f e p.2 else g e p.2
def fsRet (f : FE) : FS := fun e m => (f e m).map fun p => .rt p.1 p.2
def fsDrop (f : FE) : FS := fun e m => (f e m).map fun p => .nx e p.2
def fsAsg (f : FE) (g : FG) : FS := fun e m => (f e m).bind fun p => (g p.1 e p.2).map fun q => .nx q.1 q.2
def wh (t : FT) (g : FS) : Nat → FS
  | 0, _, _ => none
  | n + 1, e, m => (t e m).bind fun p => if p.1 = true then (g e p.2).bind fun o => match o with
    | .nx e1 m1 => wh t g n e1 m1
    | .ct e1 m1 => wh t g n e1 m1
    | .bk e1 m1 => some (.nx e1 m1)
    | .rt d m1 => some (.rt d m1) else some (.nx e p.2)
open Classical in
noncomputable def turns (s : Src) (b : D → FS) : List D → FS
  | [], e, m => if s.live m then some (.nx e m) else none
  | x :: xs, e, m => if s.live m then (b x e m).bind fun o => match o with
    | .nx e1 m1 => turns s b xs e1 m1
    | .ct e1 m1 => turns s b xs e1 m1
    | .bk e1 m1 => some (.nx e1 m1)
    | .rt d m1 => some (.rt d m1) else none
noncomputable def fsFor (fi : FI) (ft : FG) (g : FS) : FS := fun e m => (fi e m).bind fun p => turns p.1 (fun x e m => (ft x e m).bind fun q => g q.1 q.2) p.1.xs e p.2
section
variable {X : Cx} {st : Stmt} {rest : List Stmt} {t u : TS} {f g : FS} {a : Expr} {te : TE} {fe : FE} {pos : Pos}
theorem ss_nil : Ss X [] tNext fsNext := ⟨pss_nil, fun r σ H e m o hs hm hf B go => by cases hf; exact go r σ H Ext.refl hs hm⟩
theorem ss_cons (h1 : S X st t f) (h2 : Ss X rest u g) : Ss X (st :: rest) (tSeq t u) (fsSeq f g) := ⟨pss_cons h1.pe h2.pe, seqOk h1.ok h2.ok⟩
theorem ss_one (h1 : S X st t f) : Ss X [st] t f := ⟨pss_one h1.pe, h1.ok⟩
theorem s_pass : S X (.Pass pos) tNext fsNext := ⟨ps_pass, fun r σ H e m o hs hm hf B go => by cases hf; exact go r σ H Ext.refl hs hm⟩
def fsBreak : FS := fun e m => some (.bk e m)
def fsCont : FS := fun e m => some (.ct e m)
theorem s_break : S X (.Break pos) tBreak fsBreak := ⟨ps_break, fun r σ H e m o hs hm hf B go => by cases hf; exact go r σ H Ext.refl hs hm⟩
theorem s_continue : S X (.Continue pos) tCont fsCont := ⟨ps_continue, fun r σ H e m o hs hm hf B go => by cases hf; exact go r σ H Ext.refl hs hm⟩
def fsNever : FS := fun _ _ => none
theorem s_never : S X st tNever fsNever := ⟨ps_never, fun r σ H e m o hs hm hf B go => by cases hf⟩
theorem s_expr (h : E X a te fe) (hs : swapsWith a none pos.line X.env = pure false := by rfl) : S X (.Expr a pos) (tDrop te) (fsDrop fe) := ⟨ps_expr h.pe hs, fun r σ H e m o hs hm hf B go => by
  obtain ⟨⟨d, m1⟩, q, hf⟩ := mapE hf
  cases hf
  exact h.ok r σ H e m d m1 hs hm q _ fun r1 v H1 x1 hm1 _ => go r1 σ H1 x1 (hs.mono x1) hm1⟩
theorem s_ret (h : E X a te fe) : S X (.Return (some a) pos) (tRet te) (fsRet fe) := ⟨ps_ret h.pe, fun r σ H e m o hs hm hf B go => by
  obtain ⟨⟨d, m1⟩, q, hf⟩ := mapE hf
  cases hf
  exact h.ok r σ H e m d m1 hs hm q _ go⟩
def fsRetN : FS := fun e m => some (.rt .non m)
theorem s_retN : S X (.Return none pos) tRetN fsRetN := ⟨ps_retN, fun r σ H e m o hs hm hf B go => by
  cases hf
  exact go r .non H Ext.refl hm .non⟩
theorem s_if {c : Expr} {p q : List Stmt} {tc : TT} {fc : FT} (hc : T X c tc fc) (hp : Ss X p t f) (hq : Ss X q u g) : S X (.If c p q pos) (tIfS tc t u) (fsIf fc f g) := ⟨ps_if hc.pe hp.pe hq.pe, fun r σ H e m o hs hm hf B go => by
  obtain ⟨⟨k, m1⟩, h1, hf⟩ := bindE hf
  refine hc.ok r σ H e m k m1 hs hm h1 _ fun r1 H1 x1 hm1 => ?_
  cases k with
  | true => exact iteT (hp.ok r1 σ H1 e m1 o (hs.mono x1) hm1 (by simpa using hf) B (go.step x1))
  | false => exact iteF (hq.ok r1 σ H1 e m1 o (hs.mono x1) hm1 (by simpa using hf) B (go.step x1))⟩
theorem asgOk {K : Fg} {te : TE} {fe : FE} {gt : TG} {ft : FG} {js : List Nat} (h : EOk K te fe) (hg : GOk K gt ft js) : SOk K (tAsg te gt) (fsAsg fe ft) := fun r σ H e m o hs hm hf B go => by
  obtain ⟨⟨d, m1⟩, q1, hf⟩ := bindE hf
  obtain ⟨⟨e2, m2⟩, q2, hf⟩ := mapE hf
  cases hf
  refine h r σ H e m d m1 hs hm q1 _ fun r1 v H1 x1 hm1 hv => ?_
  exact hg r1 σ H1 e m1 v d e2 m2 (hs.mono x1) hm1 hv q2 _ fun r2 σ2 H2 x2 hs2 hm2 _ _ => go r2 σ2 H2 (x1.trans x2) hs2 hm2
theorem s_set (i : Nat) {x : Str} {pos' : Pos} (hN : X.N.Nodup) (h : E X a te fe) (hi : X.N[i]? = some x := by rfl) (hx : Loc X.env.scope x := by first | exact Or.inl rfl | exact Or.inr rfl) (hs : swapsWith a (some (.Name x pos')) pos.line X.env = pure false := by rfl)
    (hf : X.fn x = true ∨ X.env.scope.names.lookup x = some .local := by first | exact .inl rfl | exact .inr rfl) : S X (.Assign [.Name x pos'] a pos) (tAsg te (gName i)) (fsAsg fe (fName i)) := ⟨ps_set hN hi hx h.pe hs hf, asgOk h.ok (nameOk i)⟩
theorem s_asg {tg : Expr} {gt : TG} {ft : FG} {js : List Nat} (h : E X a te fe) (hg : G X tg gt ft js) (hs : swapsWithSole [tg] a pos.line X.env = pure false := by rfl) (hw : swappedStores [tg] a X.env = pure none := by rfl)
    (h1 : (assignEach [tg] X.env).map (·.2) = [assign tg X.env] := by rfl) : S X (.Assign [tg] a pos) (tAsg te gt) (fsAsg fe ft) := ⟨ps_asg h.pe hg.pe hs hw h1, asgOk h.ok hg.ok⟩
/-- a, b = x, y -/
def fsPar (i j : Nat) (fa : FA) : FS := fun e m => (fa e m).bind fun p => match p.1 with
  | [x, y] => some (.nx ((e.set i (some x)).set j (some y)) p.2)
  | _ => none
theorem s_par (i j : Nat) {x y : Str} {b : Expr} {ta : TA} {fa : FA} {px py pt : Pos} {kt k2 pt2} (hc : X.calm = true) (hN : X.N.Nodup) (ha : A X [a, b] ta fa) (hij : i ≠ j := by decide) (hi : X.N[i]? = some x := by rfl) (hj : X.N[j]? = some y := by rfl)
    (hx : X.env.scope.names.lookup x = some .local := by rfl) (hy : X.env.scope.names.lookup y = some .local := by rfl)
    (hw : swappedStores [.Tuple [.Name x px, .Name y py] kt pt] (.Tuple [a, b] k2 pt2) X.env = pure (some [x, y]) := by rfl)
    (hs : swapsWithSole [.Tuple [.Name x px, .Name y py] kt pt] (.Tuple [a, b] k2 pt2) pos.line X.env = pure false := by rfl) :
    S X (.Assign [.Tuple [.Name x px, .Name y py] kt pt] (.Tuple [a, b] k2 pt2) pos) (tPar i j ta) (fsPar i j fa) := ⟨ps_par hc hN hi hj hij hx hy ha.pe hw hs, fun r σ H e m o hs hm hf B go => by
  obtain ⟨⟨ds, m1⟩, q1, hf⟩ := bindE hf
  split at hf
  · rename_i d1 d2 z
    have z' : ds = [d1, d2] := z
    subst z'
    cases hf
    refine ha.ok r σ H e m _ m1 hs hm q1 _ fun r1 vs H1 x1 hm1 hv => ?_
    obtain ⟨v, w, rfl, hv1, hv2⟩ := hv.two
    exact ⟨v, w, rfl, go r1 _ H1 x1 (((hs.mono x1).set i hv1).set j hv2) hm1⟩
  · cases hf⟩
/-- .. into a name that a comprehension or an inner def reads -/
theorem s_while (n : Nat) {c : Expr} {body : List Stmt} {tc : TT} {fc : FT} (hp : PassesOwn (model X.prog X.w) X.A X.env X.xe) (hc : T X c tc fc) (hb : Ss X body t f) : S X (.While c body [] pos) (tWhile tc t) (wh fc f n) := ⟨ps_while hp hc.pe hb.pe, fun r0 σ0 H0 e0 m0 o hs0 hm0 hf0 B go => by
  refine ⟨fun k σ H => ∃ r e m, Ext r0 H0 r H ∧ SlOk X.K r H σ e ∧ MemOk X.K r H m ∧ wh fc f k e m = some o, ⟨n, r0, e0, m0, Ext.refl, hs0, hm0, hf0⟩, ?_⟩
  rintro k σ H ⟨r, e, m, x, hs, hm, hf⟩
  cases k with
  | zero => cases hf
  | succ k =>
    unfold wh at hf
    obtain ⟨⟨b, m1⟩, h1, hf⟩ := bindE hf
    refine hc.ok r σ H e m b m1 hs hm h1 _ fun r1 H1 x1 hm1 => ?_
    have hs1 := hs.mono x1
    have x01 := x.trans x1
    cases b with
    | false =>
      have hf' : some (Out.nx e m1) = some o := by simpa using hf
      cases hf'
      exact iteF (go r1 σ H1 x01 hs1 hm1)
    | true =>
      have hf' : ((f e m1).bind fun o => match o with
        | .nx e1 m1 => wh fc f k e1 m1
        | .ct e1 m1 => wh fc f k e1 m1
        | .bk e1 m1 => some (.nx e1 m1)
        | .rt d m1 => some (.rt d m1)) = some o := by simpa using hf
      obtain ⟨o1, h2, hf'⟩ := bindE hf'
      refine iteT ⟨fun σ' H' => ∃ r e m, Ext r0 H0 r H' ∧ SlOk X.K r H' σ' e ∧ MemOk X.K r H' m ∧ wh fc f k e m = some o, fun σ' H' q => ⟨k, Nat.lt_succ_self k, q⟩, ?_⟩
      refine hb.ok r1 σ H1 e m1 o1 hs1 hm1 h2 _ ?_
      cases o1 with
      | nx e1 m2 => exact fun r' σ' H' y hs' hm' => ⟨r', e1, m2, x01.trans y, hs', hm', hf'⟩
      | ct e1 m2 => exact fun r' σ' H' y hs' hm' => ⟨r', e1, m2, x01.trans y, hs', hm', hf'⟩
      | bk e1 m2 => cases hf'; exact fun r' σ' H' y hs' hm' => go r' σ' H' (x01.trans y) hs' hm'
      | rt d m2 => cases hf'; exact fun r' v H' y hm' hv => go r' v H' (x01.trans y) hm' hv⟩
theorem s_for {tg iter : Expr} {body : List Stmt} {wi : TI} {fi : FI} {gt : TG} {ft : FG} {js : List Nat} (hp : PassesOwn (model X.prog X.w) X.A X.env X.xe) (hc : X.calm = true) (hi : I X tg iter wi fi) (hg : G X tg gt ft js) (hb : Ss X body t f)
    (hs : ∀ x, foldedSetIterable iter X.env x = pure x := by intro _; rfl) : S X (.For tg iter body [] pos) (tFor wi gt t) (fsFor fi ft f) := ⟨ps_for hp hc hi.pe hg.pe hb.pe hs, fun r0 σ0 H0 e0 m0 o hs0 hm0 hf0 B go => by
  obtain ⟨⟨s, m1⟩, h1, hf0⟩ := bindE hf0
  refine hi.ok r0 σ0 H0 e0 m0 s m1 hs0 hm0 h1 _ fun r1 H1 J x1 hm1 hl1 hw => ?_
  refine ⟨fun i k σ H => k = s.xs.length - i ∧ i ≤ s.xs.length ∧ ∃ r e m, Ext r1 H1 r H ∧ SlOk X.K r H σ e ∧ MemOk X.K r H m ∧ turns s (fun x e m => (ft x e m).bind fun q => f q.1 q.2) (s.xs.drop i) e m = some o,
    ⟨s.xs.length, by simp, Nat.zero_le _, r1, e0, m1, Ext.refl, hs0.mono x1, hm1, hf0⟩, ?_⟩
  rintro i k σ H ⟨rfl, hi', r, e, m, x, hs, hm, hf⟩
  by_cases hlt : i < s.xs.length
  · have hd : s.xs.drop i = s.xs[i] :: s.xs.drop (i + 1) := List.drop_eq_getElem_cons hlt
    rw [hd] at hf
    unfold turns at hf
    split at hf
    · rename_i hl
      obtain ⟨_, w⟩ := hw i r H m x hm hl
      obtain ⟨w1, w2⟩ := w s.xs[i] (List.getElem?_eq_getElem hlt)
      obtain ⟨o1, h2, hf⟩ := bindE hf
      obtain ⟨⟨e2, m2⟩, h3, h2⟩ := bindE h2
      refine .inr ⟨w1, fun σ' H' => ∃ r e m, Ext r1 H1 r H' ∧ SlOk X.K r H' σ' e ∧ MemOk X.K r H' m ∧ turns s (fun x e m => (ft x e m).bind fun q => f q.1 q.2) (s.xs.drop (i + 1)) e m = some o,
        fun σ' H' q => ⟨s.xs.length - (i + 1), by omega, rfl, hlt, q⟩, fun v H' y => ?_⟩
      obtain ⟨xy, hm', hv⟩ := w2 v H' y
      refine hg.ok r σ H' e m v _ e2 m2 (hs.mono xy) hm' hv h3 _ fun r3 σ3 H3 x3 hs3 hm3 _ _ => ?_
      have x03 := (x.trans xy).trans x3
      refine hb.ok r3 σ3 H3 e2 m2 o1 hs3 hm3 h2 _ ?_
      cases o1 with
      | nx e1 m4 => exact fun r' σ' H' y hs' hm' => ⟨r', e1, m4, x03.trans y, hs', hm', hf⟩
      | ct e1 m4 => exact fun r' σ' H' y hs' hm' => ⟨r', e1, m4, x03.trans y, hs', hm', hf⟩
      | bk e1 m4 => cases hf; exact fun r' σ' H' y hs' hm' => go r' σ' H' (x1.trans (x03.trans y)) hs' hm'
      | rt d m4 => cases hf; exact fun r' v H' y hm' hv => go r' v H' (x1.trans (x03.trans y)) hm' hv
    · cases hf
  · have e1 : i = s.xs.length := by omega
    subst e1
    rw [List.drop_length] at hf
    unfold turns at hf
    split at hf
    · rename_i hl
      cases hf
      obtain ⟨w, _⟩ := hw _ r H m x hm hl
      exact .inl ⟨w (Nat.le_refl _), go r σ H (x1.trans x) hs hm⟩
    · cases hf⟩
end
end Mv

set_option Elab.async false
set_option linter.all false
set_option maxRecDepth 100000
set_option maxHeartbeats 4000000
/-! Mv6: comprehensions, methods, own defs called. -/
namespace Mv
open PySem PySem.Spec PyProof.Rows L2

/-! ### comprehensions -/
def wipeE (e : Sl) : List Nat → Sl
  | [] => e
  | v :: vs => (wipeE e vs).set v none
theorem SlOk.unset {K : Fg} {r : List Addr} {H : Hp} {σ : L2.St} {e : Sl} (i : Nat) (h : SlOk K r H σ e) : SlOk K r H (σ.set i none) (e.set i none) := by
  refine ⟨by simp [h.1], fun j d' q => ?_⟩
  by_cases hj : i = j
  · subst hj
    have hl : i < e.length := by simpa using (List.getElem?_eq_some_iff.mp q).1
    rw [List.getElem?_set_self hl] at q
    cases q
  · rw [List.getElem?_set_ne hj] at q
    rw [List.getElem?_set_ne hj]
    exact h.2 j d' q
theorem SlOk.wipe {K : Fg} {r : List Addr} {H : Hp} {σ : L2.St} {e : Sl} (h : SlOk K r H σ e) : ∀ vs : List Nat, SlOk K r H (wipe σ vs) (wipeE e vs)
  | [] => h
  | _ :: vs => (SlOk.wipe h vs).unset _
theorem wipe_eq {σ τ : L2.St} : ∀ {vs : List Nat}, τ.length = σ.length → (∀ j, j ∉ vs → τ[j]? = (L2.wipe σ vs)[j]?) → L2.wipe τ vs = L2.wipe σ vs := fun {vs} hl h => by
  refine List.ext_getElem? fun i => ?_
  have wg : ∀ (ρ : L2.St) (ws : List Nat), i ∈ ws → i < ρ.length → (L2.wipe ρ ws)[i]? = some none := by
    intro ρ ws
    induction ws with
    | nil => intro h; simp at h
    | cons w ws ih =>
      intro hi hlt
      unfold L2.wipe
      by_cases e : w = i
      · subst e
        exact List.getElem?_set_self (by rw [wipe_length]; exact hlt)
      · rw [List.getElem?_set_ne e]
        exact ih (by simpa [Ne.symm e] using hi) hlt
  have wo : ∀ (ρ : L2.St) (ws : List Nat), i ∉ ws → (L2.wipe ρ ws)[i]? = ρ[i]? := by
    intro ρ ws
    induction ws with
    | nil => intro _; rfl
    | cons w ws ih =>
      intro hi
      unfold L2.wipe
      rw [List.getElem?_set_ne (fun e => hi (by simp [e]))]
      exact ih fun z => hi (List.mem_cons_of_mem _ z)
  by_cases hi : i ∈ vs
  · by_cases hlt : i < σ.length
    · rw [wg τ vs hi (by rw [hl]; exact hlt), wg σ vs hi hlt]
    · rw [List.getElem?_eq_none (by rw [wipe_length, hl]; omega), List.getElem?_eq_none (by rw [wipe_length]; omega)]
  · rw [wo τ vs hi]
    exact h i hi
open Classical in
noncomputable def comp (s : Src) (b : D → Mem → Option (Option D × Mem)) : List D → Mem → Option (List D × Mem)
  | [], m => if s.live m then some ([], m) else none
  | x :: xs, m => if s.live m then (b x m).bind fun p => (comp s b xs p.2).map fun q => (p.1.toList ++ q.1, q.2) else none
/-- one turn: the target, the tests, the element -/
def fElt (ft : FG) (fc : FT) (fe : FE) (e : Sl) : D → Mem → Option (Option D × Mem) := fun x m => (ft x e m).bind fun q => (fc q.1 q.2).bind fun c => if c.1 = true then (fe q.1 c.2).map fun p => (some p.1, p.2) else some (none, c.2)
noncomputable def fLc (fi : FI) (ft : FG) (fc : FT) (fe : FE) (vs : List Nat) : FA := fun e m => (fi e m).bind fun p => if p.1.xs.length ≤ 100000 then comp p.1 (fElt ft fc fe (wipeE e vs)) p.1.xs p.2 else none
theorem Ext.hid {r0 r : List Addr} {H0 H : Hp} {p : Addr} {o : HO} (x : Ext r0 H0 r H) (h : H0 p = none) : Ext r0 H0 r (upd H p o) :=
  ⟨x.pre, x.new, fun b u e n => by rw [upd_ne (ne_of_none e h)]; exact x.keep b u e n, fun b u hf e => by rw [upd_ne (ne_of_none e h)]; exact x.fix b u hf e, fun b u e => by rw [upd_ne (ne_of_none e h)]; exact x.had b u e⟩
theorem VAll.off {K : Fg} {r : List Addr} {H : Hp} {p : Addr} {us : List V} {o : HO} (hp : H p = some (.lst us)) {vs : List V} {ds : List D} (h : VAll K r H vs ds) : VAll K r (upd H p o) vs ds :=
  h.mo ⟨[], by simp⟩ (fun b u hf q => by
    have z : b ≠ p := fun z => by rw [z, hp] at q; cases q; exact hf
    rw [upd_ne z]; exact q) fun b C dx fs q hn => ⟨by
    have z : b ≠ p := fun z => by rw [z, hp] at q; cases q
    rw [upd_ne z]; exact q, hn⟩
theorem Val.off {K : Fg} {r : List Addr} {H : Hp} {p : Addr} {us : List V} {o : HO} (hp : H p = some (.lst us)) {v : V} {d : D} (h : Val K r H v d) : Val K r (upd H p o) v d :=
  h.mo ⟨[], by simp⟩ (fun b u hf q => by
    have z : b ≠ p := fun z => by rw [z, hp] at q; cases q; exact hf
    rw [upd_ne z]; exact q) fun b C dx fs q hn => ⟨by
    have z : b ≠ p := fun z => by rw [z, hp] at q; cases q
    rw [upd_ne z]; exact q, hn⟩
theorem MemOk.off {K : Fg} {r : List Addr} {H : Hp} {m : Mem} {p : Addr} {us : List V} {o : HO} (h : MemOk K r H m) (hr : p ∉ r) (hp : H p = some (.lst us)) : MemOk K r (upd H p o) m := by
  refine ⟨h.len, h.nd, fun l c q => ?_⟩
  obtain ⟨a, ha, hc⟩ := h.cell l c q
  have hap : a ≠ p := fun z => hr (by rw [← z]; exact List.mem_of_getElem? ha)
  refine ⟨a, ha, ?_⟩
  cases c with
  | lst xs =>
    obtain ⟨vs, e, w⟩ := hc
    exact ⟨vs, by rw [upd_ne hap]; exact e, w.off hp⟩
  | dK ks xs =>
    obtain ⟨vs, e, n, w⟩ := hc
    exact ⟨vs, by rw [upd_ne hap]; exact e, n, w.off hp⟩
  | dT ks xs =>
    obtain ⟨vs, e, n, w⟩ := hc
    exact ⟨vs, by rw [upd_ne hap]; exact e, n, w.off hp⟩
  | ob nm ks xs =>
    obtain ⟨vs, ⟨C, dx, e, z⟩, n, w⟩ := hc
    exact ⟨vs, ⟨C, dx, by rw [upd_ne hap]; exact e, z⟩, n, w.off hp⟩
/-- .. an object at no place is written: for those who began with it -/
theorem Ext.offW {r : List Addr} {H : Hp} {p : Addr} {us : List V} {o : HO} (hr : p ∉ r) (hp : H p = some (.lst us)) : (∀ b xs, H b = some (.tup xs) → upd H p o b = some (.tup xs)) := fun b xs q => by
  have z : b ≠ p := fun z => by rw [z, hp] at q; cases q
  rw [upd_ne z]; exact q
theorem iteE {α : Type} {c : Prop} {_ : Decidable c} {a : Option α} {b : α} (h : (if c then a else none) = some b) : c ∧ a = some b := by
  by_cases hc : c
  · rw [if_pos hc] at h; exact ⟨hc, h⟩
  · rw [if_neg hc] at h; cases h
theorem TOk.run5 {K : Fg} {tt : TT} {f : FT} (h : TOk K tt f) {r : List Addr} {σ : L2.St} {H : Hp} {e : Sl} {m m' : Mem} {b : Bool} (hs : SlOk K r H σ e) (hm : MemOk K r H m) (hf : f e m = some (b, m')) {Q : Bool → Hp → Prop} (g : ∀ r' H', Ext r H r' H' → MemOk K r' H' m' → Q b H') : tt σ H Q := h r σ H e m b m' hs hm hf Q g
theorem lcOk {K : Fg} {wi : TI} {g : TG} {tt : TT} {te : TE} {fi : FI} {ft : FG} {fc : FT} {fe : FE} {vs js : List Nat} (hi : IOk K wi fi) (hg : GOk K g ft js) (hjs : ∀ j ∈ js, j ∈ vs) (hc : TOk K tt fc) (he : EOk K te fe) : LOk K (tLc wi g tt te vs) (fLc fi ft fc fe vs) := fun r0 σ0 H0 e0 m0 tot mE hs0 hm0 hf0 Q go => by
  obtain ⟨⟨s, m1⟩, h1, hf0⟩ := bindE hf0
  obtain ⟨hsz, hf0⟩ := iteE hf0
  have hsz : s.xs.length ≤ 100000 := hsz
  refine hi r0 σ0 H0 e0 m0 s m1 hs0 hm0 h1 _ fun r1 H1 J x1 hm1 hl1 hw => ?_
  intro L hL
  have hL0 : H0 L = none := x1.back hL
  refine ⟨fun i k H => k = s.xs.length - i ∧ i ≤ s.xs.length ∧ ∃ r m acc accD ys, Ext r1 H1 r H ∧ MemOk K r H m ∧ L ∉ r ∧ H L = some (.lst acc) ∧ VAll K r H acc accD ∧ acc.length ≤ i ∧ comp s (fElt ft fc fe (wipeE e0 vs)) (s.xs.drop i) m = some (ys, mE) ∧ accD ++ ys = tot,
    ⟨s.xs.length, by simp, Nat.zero_le _, r1, m1, [], [], tot, Ext.fresh hL, hm1.fresh hL, notAt hm1 hL, upd_same, .nil, Nat.le_refl _, hf0, rfl⟩, ?_⟩
  rintro i k H ⟨rfl, hi', r, m, acc, accD, ys, x, hm, hLr, hLq, hacc, hal, hf, htot⟩
  by_cases hlt : i < s.xs.length
  · have hd : s.xs.drop i = s.xs[i] :: s.xs.drop (i + 1) := List.drop_eq_getElem_cons hlt
    rw [hd] at hf
    unfold comp at hf
    obtain ⟨hl, hf⟩ := iteE hf
    obtain ⟨_, w⟩ := hw i r H m x hm hl
    obtain ⟨w1, w2⟩ := w s.xs[i] (List.getElem?_eq_getElem hlt)
    obtain ⟨⟨od, m2⟩, h2, hf⟩ := bindE hf
    obtain ⟨⟨zs, m3⟩, h3, hf⟩ := mapE hf
    have e7 : od.toList ++ zs = ys := congrArg Prod.fst hf
    have e8 : m3 = mE := congrArg Prod.snd hf
    subst e7; subst e8
    obtain ⟨⟨e2, m4⟩, h4, h2⟩ := bindE h2
    obtain ⟨⟨b, m5⟩, h5, h2⟩ := bindE h2
    refine .inr ⟨w1, fun H => ∃ r m acc accD ys, Ext r1 H1 r H ∧ MemOk K r H m ∧ L ∉ r ∧ H L = some (.lst acc) ∧ VAll K r H acc accD ∧ acc.length ≤ i + 1 ∧ comp s (fElt ft fc fe (wipeE e0 vs)) (s.xs.drop (i + 1)) m = some (ys, m3) ∧ accD ++ ys = tot,
      fun H' q => ⟨s.xs.length - (i + 1), by omega, rfl, hlt, q⟩, fun v H' y => ?_⟩
    obtain ⟨xy, hm', hv⟩ := w2 v H' y
    have hsw : SlOk K r H' (L2.wipe σ0 vs) (wipeE e0 vs) := ((hs0.mono x1).mono (x.trans xy)).wipe vs
    refine hg r _ H' _ m v _ e2 m4 hsw hm' hv h4 _ fun r3 σ3 H3 x3 hs3 hm3 k3 n3 => ⟨wipe_eq (by rw [n3, wipe_length]) fun j hj => k3 j fun z => hj (hjs j z), ?_⟩
    refine hc.run5 hs3 hm3 h5 fun r5 H5 x5 hm5 => ?_
    have x05 : Ext r1 H1 r5 H5 := ((x.trans xy).trans x3).trans x5
    have xL : Ext r H r5 H5 := (xy.trans x3).trans x5
    have hL5 : H5 L = some (.lst acc) := xL.keep L _ hLq hLr
    have hLr5 : L ∉ r5 := fun z => by
      rcases xL.new L z with q | q
      · exact hLr q
      · rw [hLq] at q; cases q
    cases b with
    | false =>
      have h2' : some ((none : Option D), m5) = some (od, m2) := by simpa using h2
      have e9 : none = od := congrArg Prod.fst (Option.some.inj h2')
      have e10 : m5 = m2 := congrArg Prod.snd (Option.some.inj h2')
      subst e9; subst e10
      exact iteF ⟨r5, m5, acc, accD, zs, x05, hm5, hLr5, hL5, hacc.mono xL, by omega, h3, htot⟩
    | true =>
      have h2' : (fe e2 m5).map (fun p => (some p.1, p.2)) = some (od, m2) := by simpa using h2
      obtain ⟨⟨d6, m6⟩, h6, h7⟩ := mapE h2'
      have e9 : some d6 = od := congrArg Prod.fst h7
      have e10 : m6 = m2 := congrArg Prod.snd h7
      subst e9; subst e10
      refine iteT (he r5 σ3 H5 e2 m5 d6 m6 (hs3.mono x5) hm5 h6 _ fun r6 y6 H6 x6 hm6 hv6 => ?_)
      have hL6 : H6 L = some (.lst acc) := x6.keep L _ hL5 hLr5
      have hLr6 : L ∉ r6 := fun z => by
        rcases x6.new L z with q | q
        · exact hLr5 q
        · rw [hL5] at q; cases q
      have hlen : acc.length < sizeLine := Nat.lt_of_lt_of_le (show acc.length < 100000 by omega) (by rw [sizeLine_eq]; decide)
      refine ⟨acc, hL6, hlen, r6, m6, acc ++ [y6], accD ++ [d6], zs, (x05.trans x6).hid hL, hm6.off hLr6 hL6, hLr6, upd_same, ?_, by simp; omega, h3, ?_⟩
      · exact ((hacc.mono (xL.trans x6)).append (.cons hv6 .nil)).off hL6
      · rw [← htot]; simp
  · have e1 : i = s.xs.length := by omega
    subst e1
    rw [List.drop_length] at hf
    unfold comp at hf
    obtain ⟨hl, hf⟩ := iteE hf
    have e9 : [] = ys := congrArg Prod.fst (Option.some.inj hf)
    have e10 : m = mE := congrArg Prod.snd (Option.some.inj hf)
    subst e9; subst e10
    obtain ⟨w, _⟩ := hw _ r H m x hm hl
    rw [List.append_nil] at htot
    subst htot
    exact .inl ⟨w (Nat.le_refl _), go r L acc H (x1.trans x) hm hLr hL0 hLq hacc⟩
section
variable {X : Cx} {elt tg iter : Expr} {ifs : List Expr} {scope : Scope} {own : List (Str × Nat)} {pos : Pos} {wi : TI} {g : TG} {tt : TT} {te : TE} {fi : FI} {ft : FG} {fc : FT} {fe : FE} {js : List Nat}
structure Ts (X : Cx) (es : List Expr) (tt : TT) (f : FT) : Prop where
  pe : PTs X es tt
  ok : TOk X.K tt f
def fYes : FT := fun _ m => some (true, m)
theorem ts_nil : Ts X [] tYes fYes := ⟨pts_nil, fun r σ H e m b m' hs hm hf Q go => by cases hf; exact go r H Ext.refl hm⟩
theorem ts_one {c : Expr} (h : T X c tt fc) : Ts X [c] tt fc := ⟨pts_one h.pe, h.ok⟩
theorem l_lc (hc : X.calm = true) (hN : X.N.Nodup) (hi : I X tg iter wi fi) (ok : BlkOk X.N X.env.scope scope own)
    (hg : ∀ (s : Shared) (H : Hp) (C : Addr) (cl : List (Str × Addr)) (fp : List Addr), G (X.blk s H scope (compEnvC scope cl C X.env) fp) tg g ft js)
    (ht : ∀ (s : Shared) (H : Hp) (C : Addr) (cl : List (Str × Addr)) (fp : List Addr), Ts (X.blk s H scope (compEnvC scope cl C X.env) fp) ifs tt fc)
    (he : ∀ (s : Shared) (H : Hp) (C : Addr) (cl : List (Str × Addr)) (fp : List Addr), E (X.blk s H scope (compEnvC scope cl C X.env) fp) elt te fe)
    (hjs : ∀ j ∈ js, j ∈ own.map (·.2) := by decide) (hs : ∀ x, foldedSetIterable iter X.env x = pure x := by intro _; rfl) :
    L X (.ListComp elt [⟨tg, iter, ifs, 0⟩] scope pos) (tLc wi g tt te (own.map (·.2))) (fLc fi ft fc fe (own.map (·.2))) :=
  ⟨pe_lc hc hN hi.pe ok (fun s H C cl fp => (hg s H C cl fp).pe) (fun s H C cl fp => (ht s H C cl fp).pe) (fun s H C cl fp => (he s H C cl fp).pe) hs,
    lcOk hi.ok (hg ⟨X.base, #[], X.s_0.drawn, 0, X.s_0.os⟩ (fun _ => none) 0 [] []).ok hjs (ht ⟨X.base, #[], X.s_0.drawn, 0, X.s_0.os⟩ (fun _ => none) 0 [] []).ok (he ⟨X.base, #[], X.s_0.drawn, 0, X.s_0.os⟩ (fun _ => none) 0 [] []).ok⟩
/-- name = [..] -/
theorem s_setLc (i : Nat) {y : Str} {py spos : Pos} (hc : X.calm = true) (hN : X.N.Nodup) (hi : I X tg iter wi fi) (ok : BlkOk X.N X.env.scope scope own)
    (hg : ∀ (s : Shared) (H : Hp) (C : Addr) (cl : List (Str × Addr)) (fp : List Addr), G (X.blk s H scope (compEnvC scope cl C X.env) fp) tg g ft js)
    (ht : ∀ (s : Shared) (H : Hp) (C : Addr) (cl : List (Str × Addr)) (fp : List Addr), Ts (X.blk s H scope (compEnvC scope cl C X.env) fp) ifs tt fc)
    (he : ∀ (s : Shared) (H : Hp) (C : Addr) (cl : List (Str × Addr)) (fp : List Addr), E (X.blk s H scope (compEnvC scope cl C X.env) fp) elt te fe)
    (hy : X.N[i]? = some y := by rfl) (hyl : X.env.scope.names.lookup y = some .local := by rfl) (hsw : swapsWith (.ListComp elt [⟨tg, iter, ifs, 0⟩] scope pos) (some (.Name y py)) spos.line X.env = pure true := by exact sw_true rfl rfl rfl (by decide +kernel))
    (hjs : ∀ j ∈ js, j ∈ own.map (·.2) := by decide) (hs : ∀ x, foldedSetIterable iter X.env x = pure x := by intro _; rfl) :
    S X (.Assign [.Name y py] (.ListComp elt [⟨tg, iter, ifs, 0⟩] scope pos) spos) (tAsg (tLc wi g tt te (own.map (·.2))) (gName i)) (fsAsg (fPut (fLc fi ft fc fe (own.map (·.2)))) (fName i)) :=
  ⟨ps_setLc hc hN hy hyl hsw hi.pe ok (fun s H C cl fp => (hg s H C cl fp).pe) (fun s H C cl fp => (ht s H C cl fp).pe) (fun s H C cl fp => (he s H C cl fp).pe) hs,
    asgOk (putOk (l_lc (pos := pos) hc hN hi ok hg ht he hjs hs).ok) (nameOk i)⟩
end

/-! ### methods of lists -/
abbrev GM := D → List D → Mem → Option (D × Mem)
def fMeth (g : GM) (fo : FE) (fa : FA) : FE := fun e m => (fo e m).bind fun p => (match p.1 with
  | .loc l => match p.2[l]? with
    | some (.lst _) => some ()
    | _ => none
  | _ => none).bind fun _ => (fa e p.2).bind fun q => g p.1 q.1 q.2
def RMOk (K : Fg) (rr : V → List V → Hp → VK → Prop) (g : GM) : Prop := ∀ r H m x xs dx ds d m', MemOk K r H m → Val K r H x dx → VAll K r H xs ds → g dx ds m = some (d, m') → ∀ Q, Go K r H m' d Q → rr x xs H Q
theorem methOk {K : Fg} {rr : V → List V → Hp → VK → Prop} {g : GM} {to : TE} {ta : TA} {fo : FE} {fa : FA} (hr : RMOk K rr g) (ho : EOk K to fo) (ha : AOk K ta fa) : EOk K (tBM K "list" rr to ta) (fMeth g fo fa) := fun r σ H e m d m' hs hm hf Q go => by
  obtain ⟨⟨d1, m1⟩, h1, hf⟩ := bindE hf
  obtain ⟨_, h2, hf⟩ := bindE hf
  obtain ⟨⟨ds, m2⟩, h3, hf⟩ := bindE hf
  refine ho r σ H e m d1 m1 hs hm h1 _ fun r1 v1 H1 x1 hm1 hv1 => ⟨?_, ?_⟩
  · split at h2
    · rename_i l q
      have q' : d1 = .loc l := q
      subst q'
      split at h2
      · rename_i ys z
        obtain ⟨a, rfl, ha⟩ := hv1.locE
        obtain ⟨vs, q1, _⟩ := hm1.lst ha z
        exact .inl ⟨rfl, _, .of q1⟩
      · cases h2
    · cases h2
  · refine ha r1 σ H1 e m1 ds m2 (hs.mono x1) hm1 h3 _ fun r2 vs H2 x2 hm2 hv2 => ?_
    exact hr r2 H2 m2 v1 vs d1 ds d m' hm2 (hv1.mono x2) hv2 hf Q ((go.step x1).step x2)
def gAppend : GM
  | .loc l, [d], m => match m[l]? with
    | some (.lst xs) => if xs.length < 100000 then some (.non, m.set l (.lst (xs ++ [d]))) else none
    | _ => none
  | _, _, _ => none
theorem ltLine {n : Nat} (h : n < 100000) : n < sizeLine := Nat.lt_of_lt_of_le h (by rw [sizeLine_eq]; decide)
theorem Go.write {K : Fg} {r : List Addr} {H : Hp} {m : Mem} {l : Nat} {a : Addr} {us vs : List V} {xs : List D} {d : D} {v : V} {Q : VK} (g : Go K r H (m.set l (.lst xs)) d Q) (hm : MemOk K r H m) (ha : r[l]? = some a) (hq : H a = some (.lst us)) (w : VAll K r H vs xs) (hv : Val K r H v d) : Q v (upd H a (.lst vs)) := by
  have ew : Ext r H r (upd H a (.lst vs)) := Ext.write (List.mem_of_getElem? ha) fun u hf z => by rw [hq] at z; cases z; exact hf
  exact g r v _ ew (hm.write ha hq w) (hv.mono ew)
theorem gAppend_ok {K : Fg} : RMOk K rAppend gAppend := fun r H m x xs dx ds d m' hm hx hxs hg Q go => by
  unfold gAppend at hg
  split at hg
  · split at hg
    · rename_i ys z
      split at hg
      · rename_i hz
        cases hg
        obtain ⟨a, rfl, ha⟩ := hx.locE
        obtain ⟨v, rfl, hv⟩ := hxs.one
        obtain ⟨vs, q1, q2⟩ := hm.lst ha z
        exact ⟨a, vs, v, rfl, rfl, q1, by rw [q2.length]; exact ltLine hz, go.write hm ha q1 (q2.append (.cons hv .nil)) .non⟩
      · cases hg
    · cases hg
  · cases hg
def gPop : GM
  | .loc l, [], m => match m[l]? with
    | some (.lst xs) => (xs[xs.length - 1]?).map fun d => (d, m.set l (.lst xs.dropLast))
    | _ => none
  | _, _, _ => none
theorem gPop_ok {K : Fg} : RMOk K rPop gPop := fun r H m x xs dx ds d m' hm hx hxs hg Q go => by
  unfold gPop at hg
  split at hg
  · split at hg
    · rename_i ys z
      obtain ⟨d0, h1, hg⟩ := mapE hg
      cases hg
      obtain ⟨a, rfl, ha⟩ := hx.locE
      cases hxs
      obtain ⟨vs, q1, q2⟩ := hm.lst ha z
      obtain ⟨v, q3, q4⟩ := q2.get h1
      exact ⟨a, vs, v, rfl, rfl, q1, by rw [q2.length]; exact q3, go.write hm ha q1 q2.dropLast q4⟩
    · cases hg
  · cases hg
section
variable {X : Cx} {o a : Expr} {to ta : TE} {fo fa : FE} {apos cpos : Pos}
theorem e_append (ho : E X o to fo) (ha : E X a ta fa)
    (hbase : attributeBase o "append" X.env (eval o X.env) = eval o X.env := by rfl)
    (hfew : ((backTo cpos (starEach [a] X.env)).all (fun x => !x.1) && (backToKw cpos (keywordEach [] X.env)).all (fun x => x.1.isSome)
      && decide ([a].length + ([] : List Keyword).length + (if ([] : List Keyword).isEmpty then 0 else 1) < 30)) = true := by rfl)
    (hline : (apos.endLine == cpos.line) = true := by rfl) (hs : starEach [a] X.env = (false, eval a X.env) :: starEach [] X.env := by rfl) :
    E X (.Call (.Attribute o "append" apos) [a] [] cpos) (tBM X.K "list" rAppend to (tCons ta tNil)) (fMeth gAppend fo (fCons fa fNil)) :=
  ⟨pe_bm PySem.F.plainAttrs_list PySem.F.slot_list_append PySem.F.type_list_append mt_append ho.pe (pa_cons ha.pe pa_nil hs) hbase hfew hline hs rfl, methOk gAppend_ok ho.ok (aCons ha.ok aNil)⟩
theorem meth0Ok {K : Fg} {rr : V → List V → Hp → VK → Prop} {g : GM} {to : TE} {fo : FE} (hr : RMOk K rr g) (ho : EOk K to fo) : EOk K (tBM0 K "list" rr to) (fMeth g fo fNil) := fun r σ H e m d m' hs hm hf Q go =>
  methOk (ta := tNil) hr ho aNil r σ H e m d m' hs hm hf Q go
theorem e_pop (ho : E X o to fo) (hbase : attributeBase o "pop" X.env (eval o X.env) = eval o X.env := by rfl) (hline : (apos.endLine == cpos.line) = true := by rfl) :
    E X (.Call (.Attribute o "pop" apos) [] [] cpos) (tBM0 X.K "list" rPop to) (fMeth gPop fo fNil) :=
  ⟨pe_bm0 PySem.F.plainAttrs_list PySem.F.slot_list_pop PySem.F.type_list_pop mt_pop ho.pe hbase hline, meth0Ok gPop_ok ho.ok⟩
end
end Mv

set_option Elab.async false
set_option linter.all false
set_option maxRecDepth 100000
set_option maxHeartbeats 4000000
/-! Mv7: own defs: what a call is, and how a def keeps it. -/
namespace Mv
open PySem PySem.Spec PyProof.Rows L2

mutual
def D.low (n : Nat) : D → Bool
  | .loc l => decide (l < n)
  | .tup xs => D.lowAll n xs
  | .kl xs => D.lowAll n xs
  | .non => true | .bl _ => true | .int _ => true | .str _ => true | .ty _ => true | .cls _ => true
  | .ins _ _ xs => D.lowAll n xs
  | .stp xs => D.lowAll n xs
  | .ttp xs => D.lowAll n xs
def D.lowAll (n : Nat) : List D → Bool
  | [] => true
  | x :: xs => x.low n && D.lowAll n xs
end
mutual
theorem D.pure_low (n : Nat) : ∀ d : D, d.pure = true → d.low n = true
  | .non, _ => rfl
  | .bl _, _ => rfl
  | .int _, _ => rfl
  | .str _, _ => rfl
  | .ty _, h => by cases h
  | .loc _, h => by cases h
  | .kl _, h => by cases h
  | .cls _, h => by cases h
  | .ins _ _ _, h => by cases h
  | .stp xs, h => D.pureAll_low n xs h
  | .ttp xs, h => D.pureAll_low n xs h
  | .tup xs, h => D.pureAll_low n xs h
theorem D.pureAll_low (n : Nat) : ∀ ds : List D, D.pureAll ds = true → D.lowAll n ds = true
  | [], _ => rfl
  | d :: ds, h => by
    have q := Bool.and_eq_true_iff.mp h
    exact Bool.and_eq_true_iff.mpr ⟨D.pure_low n d q.1, D.pureAll_low n ds q.2⟩
end
mutual
theorem D.low0 (n : Nat) : ∀ d : D, d.low 0 = true → d.low n = true
  | .non, _ => rfl
  | .bl _, _ => rfl
  | .int _, _ => rfl
  | .str _, _ => rfl
  | .ty _, _ => rfl
  | .cls _, _ => rfl
  | .loc l, h => by
    have h' : decide (l < 0) = true := h
    exact absurd (of_decide_eq_true h') (Nat.not_lt_zero _)
  | .kl xs, h => D.lowAll0 n xs h
  | .ins _ _ xs, h => D.lowAll0 n xs h
  | .stp xs, h => D.lowAll0 n xs h
  | .ttp xs, h => D.lowAll0 n xs h
  | .tup xs, h => D.lowAll0 n xs h
theorem D.lowAll0 (n : Nat) : ∀ ds : List D, D.lowAll 0 ds = true → D.lowAll n ds = true
  | [], _ => rfl
  | d :: ds, h => by
    have q := Bool.and_eq_true_iff.mp h
    exact Bool.and_eq_true_iff.mpr ⟨D.low0 n d q.1, D.lowAll0 n ds q.2⟩
end
section
variable {K : Fg} {r t : List Addr} {H : Hp}
mutual
theorem Val.under : ∀ {v : V} {d : D}, Val K r H v d → d.low r.length = true
  | _, _, .non => rfl
  | _, _, .bl _ => rfl
  | _, _, .int _ => rfl
  | _, _, .str _ => rfl
  | _, _, .ty _ => rfl
  | _, _, .tup _ hs => VAll.under hs
  | _, _, .kl _ hs => VAll.under hs
  | _, _, .cls _ => rfl
  | _, _, .stp _ _ hs => VAll.under hs
  | _, _, .ttp _ hs => VAll.under hs
  | _, _, .ins _ _ _ _ hs => VAll.under hs
  | _, _, .loc h => decide_eq_true (List.getElem?_eq_some_iff.mp h).1
theorem VAll.under : ∀ {vs : List V} {ds : List D}, VAll K r H vs ds → D.lowAll r.length ds = true
  | _, _, .nil => rfl
  | _, _, .cons h hs => Bool.and_eq_true_iff.mpr ⟨Val.under h, VAll.under hs⟩
end
mutual
theorem Val.cutR : ∀ {v : V} {d : D}, Val K (r ++ t) H v d → d.low r.length = true → Val K r H v d
  | _, _, .non, _ => .non
  | _, _, .bl b, _ => .bl b
  | _, _, .int i, _ => .int i
  | _, _, .str s, _ => .str s
  | _, _, .ty n, _ => .ty n
  | _, _, .tup h hs, q => .tup h (VAll.cutR hs q)
  | _, _, .kl h hs, q => .kl h (VAll.cutR hs q)
  | _, _, .cls h, _ => .cls h
  | _, _, .stp h hd hs, q => .stp h hd (VAll.cutR hs q)
  | _, _, .ttp h hs, q => .ttp h (VAll.cutR hs q)
  | _, _, .ins h hn hc hl hs, q => .ins h (fun z => hn (List.mem_append_left _ z)) hc hl (VAll.cutR hs q)
  | _, _, .loc h, q => .loc (by
    have hl := of_decide_eq_true q
    rw [List.getElem?_append_left hl] at h
    exact h)
theorem VAll.cutR : ∀ {vs : List V} {ds : List D}, VAll K (r ++ t) H vs ds → D.lowAll r.length ds = true → VAll K r H vs ds
  | _, _, .nil, _ => .nil
  | _, _, .cons h hs, q => by
    have z := Bool.and_eq_true_iff.mp q
    exact .cons (Val.cutR h z.1) (VAll.cutR hs z.2)
end
end
def Cell.xs : Cell → List D
  | .lst xs => xs
  | .dK _ xs => xs
  | .dT _ xs => xs
  | .ob _ _ xs => xs
/-- of the memory behind a call the caller's places stay -/
def Kept (m m0 m1 : Mem) : Prop := m1.length = m.length ∧ ∀ (l : Nat) c, m1[l]? = some c → m0[l]? = some c ∧ (D.lowAll 0 c.xs = true ∨ m[l]? = some c)
inductive Back (m : Mem) : D → Mem → D → Mem → Prop
  | same {d0 : D} {m0 : Mem} : Back m d0 m0 d0 m0
  | pure {d : D} {m0 m1 : Mem} (h : d.low 0 = true) (k : Kept m m0 m1) : Back m d m0 d m1
  | lst {k : Nat} {xs : List D} {m0 m1 : Mem} (h : D.lowAll 0 xs = true) (hk : m.length ≤ k) (q : m0[k]? = some (.lst xs)) (kp : Kept m m0 m1) : Back m (.loc k) m0 (.loc m.length) (m1 ++ [.lst xs])
theorem CellOk.under {K : Fg} {r : List Addr} {H : Hp} {a : Addr} {c : Cell} (h : CellOk K r H a c) : D.lowAll r.length c.xs = true := by
  cases c with
  | lst xs => obtain ⟨vs, _, w⟩ := h; exact w.under
  | dK ks xs => obtain ⟨vs, _, _, w⟩ := h; exact w.under
  | dT ks xs => obtain ⟨vs, _, _, w⟩ := h; exact w.under
  | ob n ks xs => obtain ⟨vs, _, _, w⟩ := h; exact w.under
theorem CellOk.cutR {K : Fg} {r t : List Addr} {H : Hp} {a : Addr} {c : Cell} (h : CellOk K (r ++ t) H a c) (q : D.lowAll r.length c.xs = true) : CellOk K r H a c := by
  cases c with
  | lst xs => obtain ⟨vs, e, w⟩ := h; exact ⟨vs, e, w.cutR q⟩
  | dK ks xs => obtain ⟨vs, e, z, w⟩ := h; exact ⟨vs, e, z, w.cutR q⟩
  | dT ks xs => obtain ⟨vs, e, z, w⟩ := h; exact ⟨vs, e, z, w.cutR q⟩
  | ob n ks xs => obtain ⟨vs, e, z, w⟩ := h; exact ⟨vs, e, z, w.cutR q⟩
theorem Kept.mem {K : Fg} {r t : List Addr} {H H0 : Hp} {m m0 m1 : Mem} (k : Kept m m0 m1) (hm : MemOk K r H m) (h0 : MemOk K (r ++ t) H0 m0) : MemOk K r H0 m1 := by
  refine ⟨hm.len.trans k.1.symm, hm.nd, fun l c q => ?_⟩
  obtain ⟨q0, hp⟩ := k.2 l c q
  obtain ⟨a, ha, hc⟩ := h0.cell l c q0
  have hl : l < r.length := by
    rw [hm.len, ← k.1]
    exact (List.getElem?_eq_some_iff.mp q).1
  rw [List.getElem?_append_left hl] at ha
  refine ⟨a, ha, hc.cutR ?_⟩
  rcases hp with hp | hp
  · exact D.lowAll0 _ _ hp
  · obtain ⟨b, _, hb⟩ := hm.cell l c hp
    exact hb.under
theorem Ext.cutR {r t : List Addr} {H H0 : Hp} (x : Ext r H (r ++ t) H0) : Ext r H r H0 := ⟨⟨[], by simp⟩, fun _ h => .inl h, x.keep, x.fix, x.had⟩
theorem Back.go {K : Fg} {r r0 : List Addr} {H H0 : Hp} {m m0 m' : Mem} {d0 d : D} {v : V} {Q : VK} (b : Back m d0 m0 d m') (hm : MemOk K r H m) (x : Ext r H r0 H0) (h0 : MemOk K r0 H0 m0) (hv : Val K r0 H0 v d0) (g : Go K r H m' d Q) : Q v H0 := by
  obtain ⟨t, e⟩ := x.pre
  subst e
  cases b with
  | same => exact g _ v H0 x h0 hv
  | pure h k => exact g r v H0 x.cutR (k.mem hm h0) (hv.cutR (D.low0 _ _ h))
  | @lst k xs _ m1 h hk q kp =>
    obtain ⟨a, rfl, ha⟩ := hv.locE
    obtain ⟨vs, q1, q2⟩ := h0.lst ha q
    have mo := kp.mem hm h0
    have har : a ∉ r := fun z => by
      obtain ⟨i, hi, e⟩ := List.getElem_of_mem z
      have e1 : (r ++ t)[i]? = some a := by rw [List.getElem?_append_left hi, List.getElem?_eq_getElem hi, e]
      obtain ⟨h1, e1⟩ := List.getElem?_eq_some_iff.mp e1
      obtain ⟨h2, e2⟩ := List.getElem?_eq_some_iff.mp ha
      have := (List.getElem_inj h0.nd).mp (e1.trans e2.symm)
      rw [hm.len] at hi
      omega
    have hn : H a = none := (x.new a (List.mem_of_getElem? ha)).elim (fun z => absurd z har) id
    refine g (r ++ [a]) (.ref a) H0 (x.cutR.adopt hn) (mo.adopt har q1 (q2.cutR (D.lowAll0 _ _ h))) (.loc ?_)
    rw [← hm.len]; simp
/-- a def's promise, by a function -/
def spG (K : Fg) (F : GN) : Sp := fun vs H Q _ => ∃ r ds m d m', VAll K r H vs ds ∧ MemOk K r H m ∧ F ds m = some (d, m') ∧ Go K r H m' d Q
def Out.ret : Out → Option (D × Mem)
  | .rt d m => some (d, m)
  | .nx _ m => some (.non, m)
  | _ => none
def startE (N : List Str) (ds : List D) : Sl := ds.map some ++ List.replicate (N.length - ds.length) none
theorem startE_ok {K : Fg} {r : List Addr} {H : Hp} {N : List Str} {vs : List V} {ds : List D} (h : VAll K r H vs ds) : SlOk K r H (L2.start N vs) (startE N ds) := by
  have hl := h.length
  refine ⟨by simp [L2.start, startE, hl], fun i d q => ?_⟩
  unfold startE at q
  by_cases hi : i < ds.length
  · rw [List.getElem?_append_left (by simpa using hi), List.getElem?_map] at q
    obtain ⟨d0, e1, e2⟩ := mapE q
    cases e2
    obtain ⟨v, w1, w2⟩ := h.get e1
    refine ⟨v, ?_, w2⟩
    unfold L2.start
    rw [List.getElem?_append_left (by simpa [hl] using hi), List.getElem?_map, w1]
    rfl
  · rw [List.getElem?_append_right (by simpa using hi), List.getElem?_replicate] at q
    split at q <;> cases q
/-- what is to be shown of a def's body -/
def Keeps (N : List Str) (g : FS) (F : GN) : Prop := ∀ ds m d m', F ds m = some (d, m') → ∃ o d0 m0, g (startE N ds) m = some o ∧ o.ret = some (d0, m0) ∧ Back m d0 m0 d m'
section
variable {P : Program} {w : World} {K : Fg} {mg : Str → Option Value} {base : Heap}
theorem fn_ok {x qual : Str} {st : Stmt} {f : Addr} {fd : FuncData} {N ps : List Str} {k : Nat} {F : GN} {g : FS} (Fu : Fun K x qual st f fd) (Sc : FnScope N ps (defScope st)) (many : ∀ ds m z, F ds m = some z → ds.length = ps.length)
    (body : ∀ (cdv : Value) (A : Around) (outer : List Env) (s : Shared) (H : Hp) (E : XK), Room k (A.deeper (envOfC qual (defScope st) s.heap.objs.size f cdv)) → A.guards = some [] → ∃ ts, Ss (cxOf CX0 P w K mg base N qual (defScope st) f cdv A outer s H E).nox (defBody st) ts g)
    (kp : Keeps N g F) : FnG P w K mg base CX0 (k + 1) f fd ps (spG K F) := by
  refine fnG_of Fu Sc (fun vs H Q E h => ?_) fun cdv A outer s H E hr hG vs Q h => ?_
  · obtain ⟨r, ds, m, d, m', hv, _, hF, _⟩ := h
    rw [hv.length]
    exact many _ _ _ hF
  · obtain ⟨r, ds, m, d, m', hv, hm, hF, go⟩ := h
    obtain ⟨ts, hS⟩ := body cdv A outer s H E hr hG
    obtain ⟨o, d0, m0, hg, hret, hb⟩ := kp ds m d m' hF
    refine ⟨ts, hS.pe.nox, hS.ok r _ H _ m o (startE_ok hv) hm hg _ ?_⟩
    cases o with
    | rt d1 m1 => cases hret; exact fun r' v H' x hm' hv' => hb.go hm x hm' hv' go
    | nx e1 m1 => cases hret; exact fun r' σ' H' x _ hm' => hb.go hm x hm' .non go
    | bk e1 m1 => cases hret
    | ct e1 m1 => cases hret
end
section
variable {X : Cx} {k : Nat} {f : Addr} {fd : FuncData} {ps : List Str} {F : GN} {x : Str} {p pos : Pos} {e : Expr} {es : List Expr} {t : TA} {fa : FA}
theorem callG_ok {K : Fg} {E : XK} {t : TA} (h : AOk K t fa) : EOk K (tCall (spG K F) [] E t) (fCall F fa) := fun r σ H e m d m' hs hm hf Q go => by
  obtain ⟨⟨ds, m1⟩, h1, hf⟩ := bindE hf
  refine h r σ H e m ds m1 hs hm h1 _ fun r1 vs H1 x1 hm1 hv1 => ?_
  rw [List.append_nil]
  exact ⟨r1, ds, m1, d, m', hv1, hm1, hf, go.step x1⟩
/-- f(e, ..), f a def of the text -/
theorem e_call (Fn : FnG X.prog X.w X.K X.mg X.base CX0 k f fd ps (spG X.K F)) (hr : Room k X.A) (hG : X.A.guards = some []) (hm : X.mg x = some (.ref f)) (hk : PySem.W.keepIn X.K (.ref f) = true) (hb : Binds X.K fd ps []) (ha : A X (e :: es) t fa) (hg : Gl X x := by rfl)
    (hdb : (x == ("__debug__" : Str)) = false := by decide) (he : starEach (e :: es) X.env = (false, eval e X.env) :: starEach es X.env := by rfl) (hpl : (backTo pos (starEach es X.env)).any (·.1) = false := by rfl) :
    E X (.Call (.Name x p) (e :: es) [] pos) (tCall (spG X.K F) [] E0 t) (fCall F fa) := ⟨pe_callG Fn hr hG hm hk hb .nil pass0 hg ha.pe hdb he hpl, callG_ok ha.ok⟩
end
end Mv

set_option Elab.async false
set_option linter.all false
set_option maxRecDepth 100000
set_option maxHeartbeats 4000000
/-! Mv8: enumerate of a tuple, len(set(t)), lcm, repr, t[::-1], ranges, divmod, index. -/
namespace Mv
open PySem PySem.Spec PyProof.Rows L2

/-! ### enumerate(t), t a tuple -/
set_option maxHeartbeats 2000000 in
theorem meets_enumT {v : Value} {o : Obj} {Hb : Heap → Prop} (B : Begins v o Hb) :
    Meets (Builtin.«enumerate.__new__» ⟨[.type "enumerate", v], []⟩) (fun _ R s => Hb s.heap ∧
      R (.ok (.ret (.ref (s.heap.push o).objs.size))) { s with heap := (s.heap.push o).push { cls := .type "enumerate", data := .fields #[.none, .bool false, .ref s.heap.objs.size, rawInt 0, .none, .none] } }) :=
  .of_wp fun prog w A R s h => by
    obtain ⟨hp, g, d, tk, os⟩ := s
    obtain ⟨h1, h⟩ := h
    have hsub := sub_enumerate
    have q1 : ∀ {A' : Around} {E : Value → Shared → Prop} {Q : Value → Shared → Prop}, Q (.ref hp.objs.size) ⟨hp.push o, g, d, tk, os⟩ → wpAny (model prog w) A' (pyIter v) Q E ⟨hp, g, d, tk, os⟩ := fun q => B.iter prog w _ _ ⟨hp, g, d, tk, os⟩ _ h1 q
    wp_walk using q1
    refine wpAny_stack_any fun st => wpAny_pure ?_
    split
    · rename_i c _ _ _ _ _
      cases (c == Value.type "enumerate") <;> (wp_walk using q1; exact ⟨_, rfl, h⟩)
    · wp_walk using q1
      exact ⟨_, rfl, h⟩
section
variable {prog : Program} {w : World} {Ar : Around} {Ex : Value → Shared → Prop} {s : Shared}
theorem call_enumT {v : Value} {o : Obj} {Hb : Heap → Prop} {Q : Value → Shared → Prop} (B : Begins v o Hb) (h1 : Hb s.heap)
    (h : ∀ h', IsEnum h' (s.heap.objs.size + 1) s.heap.objs.size 0 .none → h'.get? s.heap.objs.size = some o → (∀ b o, s.heap.get? b = some o → h'.get? b = some o) → Q (.ref (s.heap.objs.size + 1)) { s with heap := h' }) :
    wpAny (model prog w) Ar (call (.type "enumerate") [v]) Q Ex s := by
  have hz : (s.heap.push o).objs.size = s.heap.objs.size + 1 := Heap.size_push ..
  refine callType_new F.called_enumerate (by decide) (F.typeCall_enumerate_1 _) (F.newCall_enumerate_1 _) (fun obj => F.args_object_init_2 obj _) F.entry_enumerate_new (meets_enumT B) ⟨h1, ?_⟩
  show _ ∧ _
  rw [hz]
  have he : IsEnum ((s.heap.push o).push { cls := .type "enumerate", data := .fields #[.none, .bool false, .ref s.heap.objs.size, rawInt 0, .none, .none] }) (s.heap.objs.size + 1) s.heap.objs.size 0 .none := by
    have q := Heap.get?_push_size (s.heap.push o) (o := { cls := .type "enumerate", data := .fields #[.none, .bool false, .ref s.heap.objs.size, rawInt 0, .none, .none] }) rfl
    rw [hz] at q
    exact q
  exact ⟨⟨_, he, rfl⟩, h _ he (Heap.get?_push_of_some _ (Heap.get?_push_size _ B.free)) fun b o x => Heap.get?_push_of_some _ (Heap.get?_push_of_some _ x)⟩
end
section
variable {prog : Program} {w : World} {Ar : Around} {Ex : Value → Shared → Prop} {s : Shared}
theorem wpAny_pyNext_enumT_end {e it a : Addr} {items : Array Value} {i : Nat} {c : Int} {old : Value} {Q : Option Value → Shared → Prop} (hh : Ar.handled = none) (he : IsEnum s.heap e it c old) (hit : s.heap.IsTupleIter it a i) (ht : s.heap.IsTuple a items) (hi : items.size ≤ i)
    (hQ : ∀ h', Heap.ExtBut it s.heap h' → Q none { s with heap := h' }) : wpAny (model prog w) Ar (pyNext (.ref e)) Q Ex s := by
  have hT : s.TypeIs (.ref e) "enumerate" := ⟨_, he, rfl⟩
  unfold pyNext
  refine wpAny_bind (wpAny_attempt (wpAny_callSpecial?_slot (name := Str.ofString "__next__") hT F.slot_enumerate_next
    (wpAny_call_entry F.slot_enumerate_next hT F.entry_enumerate_next ?_ (F.args_enumerate_next_1 _))))
  show wpAny _ _ (field (.ref e) 2 >>= _) _ _ _
  refine wpAny_bind (wpAny_field he rfl (x := .ref it) rfl ?_)
  refine wpAny_bind (wpAny_nextOf_tuple_end hh hit ht (Array.getElem?_eq_none hi) fun h' x he' hx' => ?_)
  obtain ⟨o, ho, hc⟩ := hx'
  refine wpAny_bind (wpAny_isInstance (T := "StopIteration") (b := true) ⟨o, ho, hc⟩ isSubtype_stop ?_)
  exact wpAny_pure (hQ _ he')
end
/-- the tuple at a, each item in a new pair -/
def IteT (K : Fg) (a : Addr) : It :=
  ⟨fun i H => ∃ (xs : List V) (x : V), SqT K H a xs ∧ xs[i]? = some x, fun i H v H' => ∃ t x, v = .ref t ∧ H t = none ∧ H' = upd H t (.tup [.int (i : Nat), x]) ∧ ∀ xs, SqT K H a xs → xs[i]? = some x, fun i H => ∃ xs : List V, SqT K H a xs ∧ xs.length ≤ i⟩
theorem turn_enumT {P : Program} {w : World} {K : Fg} {elts : List Expr} {kk : Nat} {tpos : Pos} (a e it : Addr) :
    Turn P w K (.Tuple elts kk tpos) (IteT K a) [e, it] e (fun i h => (∃ old, IsEnum h e it ((i : Nat) : Int) old) ∧ h.IsTupleIter it a i ∧ e ≠ it ∧ a ≠ it ∧ a ≠ e) where
  mem := by simp
  obj := fun i h st b hb => by
    obtain ⟨⟨old, he⟩, ⟨o, ho, hc, hd⟩, _⟩ := st
    have e' : b = e ∨ b = it := by simpa using hb
    rcases e' with z | z
    · rw [z]; exact ⟨_, he, fun v q => nomatch q⟩
    · rw [z]; exact ⟨o, ho, fun v q => by rw [hd] at q; cases q⟩
  keep := fun i h h' st k => by
    obtain ⟨⟨old, he⟩, hi, h1⟩ := st
    exact ⟨⟨old, k e (by simp) _ he⟩, hi.at fun o q => k it (by simp) o q, h1⟩
  item := by
    intro X hP hw hK hc i pins s σ H E I hf st hg
    subst hP hw hK
    obtain ⟨⟨old, he⟩, hit, hne, hai, hae⟩ := st
    obtain ⟨xs, x, hq, hx⟩ := hg
    obtain ⟨its, rv, p, hz⟩ := I.tuple hq
    obtain ⟨u, hu, ru⟩ := rv.get hx
    have hel : e < s.heap.objs.size := Heap.lt_size he
    have hil : it < s.heap.objs.size := by obtain ⟨_, q, _⟩ := hit; exact Heap.lt_size q
    have hlt : i < its.toArray.size := by
      rw [List.size_toArray]
      exact (List.getElem?_eq_some_iff.mp hu).1
    have D := Draws.tuple (prog := X.prog) (w := X.w) (A := X.A.in1) (I.ok.hd hc) it a hai its.toArray
    refine wpAny_pyNext_enum_itemD D he ⟨hit, p⟩ hlt hne (by simp [hne, Ne.symm hae]) fun x2 h' tk hx2 ho hst hT hsz hk => ?_
    have ex : x2 = u := by
      have q1 : its.toArray[i]? = some x2 := hx2
      rw [show its.toArray[i]? = its[i]? by simp] at q1
      rw [hu] at q1
      exact (Option.some.inj q1).symm
    subst ex
    refine ⟨_, rfl, wpAny_letOwnedTupleGo_enum (s := { s with heap := h', toks := tk + 1 }) ho fun h'' he' sb => ?_⟩
    have hT2 : h''.get? s.heap.objs.size = some { cls := .type "tuple", data := .seq #[.int i tk, x2] } := (sb.2 _ (Nat.ne_of_gt hel)).trans hT
    have new : ObjOk X.prog X.w (upd H s.heap.objs.size (.tup [.int (i : Nat), x])) h'' s.heap.objs.size (.tup [.int (i : Nat), x]) :=
      ⟨by show 2 ≤ sizeLine; decide, [.int i tk, x2], .cons ⟨_, rfl⟩ (.cons ru .nil), ⟨_, hT2, rfl, _, rfl⟩⟩
    have I1 : Inv X pins σ (upd H s.heap.objs.size (.tup [.int (i : Nat), x])) { s with heap := h'', toks := tk + 1 } :=
      I.turnedNew (ch := [e, it]) (fun b ob hb q => (sb.2 b (fun z => hb (by simp [z]))).trans (hk b ob (fun z => hb (by simp [z])) (fun z => hb (by simp [z])) q)) hf (Nat.le_refl _) new
    refine ⟨.ref s.heap.objs.size, _, I1, rfl, ⟨_, x, rfl, I.hok.fresh (Nat.le_refl _), rfl, fun ys hy => by rw [I.tuple_inj hy hq]; exact hx⟩, ⟨⟨x2, ?_⟩, hst.1.at fun o q => (sb.2 it (Ne.symm hne)).trans q, hne, hai, hae⟩, fun b hb => ?_⟩
    · have e1 : ((i + 1 : Nat) : Int) = (i : Int) + 1 := by omega
      rw [e1]; exact he'
    · have hb' : b < s.heap.objs.size := by
        have e' : b = e ∨ b = it := by simpa using hb
        rcases e' with z | z
        · rw [z]; exact hel
        · rw [z]; exact hil
      rw [upd_ne (Nat.ne_of_lt hb')]
      exact (hf b hb).1
  done := by
    intro X hP hw hK hc i pins s σ H E I hf st hg
    subst hP hw hK
    obtain ⟨⟨old, he⟩, hit, hne, hai, hae⟩ := st
    obtain ⟨xs, hq, hx⟩ := hg
    obtain ⟨its, rv, p, hz⟩ := I.tuple hq
    obtain ⟨f0, f1, f2, f3, f4, f5⟩ := hf it (by simp)
    have hl := rv.length
    exact wpAny_pyNext_enumT_end (I.ok.hd hc) he hit p (by rw [List.size_toArray]; omega) fun h' eb => ⟨rfl, I.turned (t' := s.toks) (fun b o hb q => eb b o hb q) f0 f1 f3 f4 f5⟩
  self := fun A i s Q E st h => let ⟨⟨_, he⟩, _⟩ := st; wpAny_pyIter_enum he h
def iEnumT (K : Fg) (ta : TA) : TI := fun σ H R => ta σ H fun vs H1 => ∃ a xs, vs = [.ref a] ∧ SqT K H1 a xs ∧ R (IteT K a) H1
theorem pi_enumT {X : Cx} {e : Expr} {ta : TA} {p pos tpos : Pos} {elts : List Expr} {kk : Nat} (hg : Gl X "enumerate") (hm : X.mg "enumerate" = none) (ha : PA X [e] ta) (hs : starEach [e] X.env = [(false, eval e X.env)] := by rfl) :
    PI X (.Tuple elts kk tpos) (.Call (.Name "enumerate" p) [e] [] pos) (iEnumT X.K ta) := by
  refine ⟨fun pins s σ H R I h => ?_⟩
  refine Call_ (ld_blt I hg hm boot_enumerate (PyProof.Rows.callWith_type1 (thn (ha.run pos pins s σ H _ I h) ?_) hs rfl))
  rintro us s1 ⟨vs, H1, I1, r1, a, xs, ex, hq, q⟩
  subst ex
  cases r1 with
  | cons r rr =>
    cases rr
    cases r
    obtain ⟨its, rv, p', hz⟩ := I1.tuple hq
    have hal : a < s1.heap.objs.size := by obtain ⟨o, q, _⟩ := p'; exact Heap.lt_size q
    refine call_enumT (begins_tuple a its.toArray) p' fun h' he hit hk => wpAny_pyIter_enum he ?_
    have I2 : Inv X pins σ H1 { s1 with heap := h' } := I1.kept (t' := s1.toks) hk
    refine ⟨s1.heap.objs.size + 1, [s1.heap.objs.size + 1, s1.heap.objs.size], _, _, H1, rfl, I2, turn_enumT a (s1.heap.objs.size + 1) s1.heap.objs.size, ⟨⟨.none, he⟩, ⟨_, hit, rfl, rfl⟩, Nat.succ_ne_self _, Nat.ne_of_lt hal, Nat.ne_of_lt (Nat.lt_succ_of_lt hal)⟩, fun b hb => ?_, q⟩
    have e' : b = s1.heap.objs.size + 1 ∨ b = s1.heap.objs.size := by simpa using hb
    have hle : s1.heap.objs.size ≤ b := by
      rcases e' with z | z
      · rw [z]; exact Nat.le_add_right _ _
      · rw [z]; exact Nat.le_refl _
    exact I1.fpOk hle (I1.hok.fresh hle)
/-- pairs of the count and the item -/
def numberD : Nat → List D → List D
  | _, [] => []
  | i, x :: xs => .tup [.int (i : Nat), x] :: numberD (i + 1) xs
theorem numberD_length : ∀ (k : Nat) (xs : List D), (numberD k xs).length = xs.length
  | _, [] => rfl
  | k, x :: xs => by show (numberD (k + 1) xs).length + 1 = _; rw [numberD_length (k + 1) xs]; rfl
theorem numberD_get : ∀ (k : Nat) (xs : List D) (i : Nat) (d : D), (numberD k xs)[i]? = some d → ∃ x, xs[i]? = some x ∧ d = .tup [.int ((k + i : Nat) : Int), x]
  | _, [], i, d, h => by simp [numberD] at h
  | k, x :: xs, 0, d, h => by
    have h' : some (D.tup [.int (k : Nat), x]) = some d := h
    cases h'
    exact ⟨x, rfl, rfl⟩
  | k, x :: xs, i + 1, d, h => by
    obtain ⟨y, h1, h2⟩ := numberD_get (k + 1) xs i d h
    exact ⟨y, h1, by rw [h2]; congr 3; omega⟩
def fEnum (f : FE) : FI := fun e m => (f e m).bind fun p => match p.1 with
  | .tup xs => some (⟨numberD 0 xs, none⟩, p.2)
  | _ => none
theorem i_enumT {X : Cx} {a : Expr} {ta : TE} {fa : FE} {p pos tpos : Pos} {elts : List Expr} {kk : Nat} (hm : X.mg "enumerate" = none) (h : E X a ta fa) (hg : Gl X "enumerate" := by rfl) (hs : starEach [a] X.env = [(false, eval a X.env)] := by rfl) :
    I X (.Tuple elts kk tpos) (.Call (.Name "enumerate" p) [a] [] pos) (iEnumT X.K (tCons ta tNil)) (fEnum fa) := ⟨pi_enumT hg hm (pa_cons h.pe pa_nil (by rw [hs]; rfl)) hs, fun r σ H e m s m1 hs hm hf R go => by
  obtain ⟨⟨d, m2⟩, h1, hf⟩ := bindE hf
  split at hf
  · rename_i xs q
    have q' : d = .tup xs := q
    subst q'
    cases hf
    refine h.ok r σ H e m _ _ hs hm h1 _ fun r1 v1 H1 x1 hm1 hv1 => ?_
    obtain ⟨a, vs, rfl, ha, hw⟩ := hv1.tupE
    refine ⟨a, vs, rfl, ha.sq, go r1 H1 _ x1 hm1 trivial fun i r2 H2 m2 x2 hm2 hl => ?_⟩
    have ha2 : TupAt X.K H2 a vs := ha.ext x2
    have hw2 := hw.mono x2
    refine ⟨fun hi => ⟨vs, ha2.sq, ?_⟩, fun d hd => ?_⟩
    · have hi' : (numberD 0 xs).length ≤ i := hi
      rw [numberD_length] at hi'
      rw [hw2.length]; exact hi'
    · obtain ⟨y, hy1, hy2⟩ := numberD_get 0 xs i d hd
      obtain ⟨v, q3, q4⟩ := hw2.get hy1
      refine ⟨⟨vs, v, ha2.sq, q3⟩, fun x H' yl => ?_⟩
      obtain ⟨t, z, e1, e2, e3, e4⟩ := yl
      have ez : some v = some z := q3.symm.trans (e4 vs ha2.sq)
      cases ez
      subst e1; subst e3
      refine ⟨Ext.fresh e2, hm2.fresh e2, ?_⟩
      rw [hy2]
      refine .tup (.inl upd_same) (.cons ?_ (.cons (q4.mono (Ext.fresh e2)) .nil))
      have e5 : ((0 + i : Nat) : Int) = ((i : Nat) : Int) := by omega
      rw [e5]
      exact .int _
  · cases hf⟩
end Mv

set_option Elab.async false
set_option linter.all false
set_option maxRecDepth 100000
set_option maxHeartbeats 4000000
namespace Mv
open PySem PySem.Spec PyProof.Rows L2

/-! ### len(set(t)), t a tuple of ints -/
def dist : List Int → List Int
  | [] => []
  | x :: r => if x ∈ r then dist r else x :: dist r
theorem mem_dist {k : Int} : ∀ {l : List Int}, k ∈ dist l ↔ k ∈ l
  | [] => Iff.rfl
  | x :: r => by
    unfold dist
    split
    · rename_i h
      rw [mem_dist (l := r), List.mem_cons]
      exact ⟨.inr, fun q => q.elim (fun e => e ▸ h) id⟩
    · rw [List.mem_cons, List.mem_cons, mem_dist (l := r)]
theorem nodup_dist : ∀ l : List Int, (dist l).Nodup
  | [] => .nil
  | x :: r => by
    unfold dist
    split
    · exact nodup_dist r
    · rename_i h
      exact List.nodup_cons.mpr ⟨fun q => h (mem_dist.mp q), nodup_dist r⟩
theorem len_le_of_sub : ∀ {l m : List Int}, l.Nodup → (∀ x ∈ l, x ∈ m) → l.length ≤ m.length
  | [], _, _, _ => Nat.zero_le _
  | x :: l, m, nd, h => by
    have hx := h x List.mem_cons_self
    have nd' := List.nodup_cons.mp nd
    have q := len_le_of_sub (l := l) (m := m.erase x) nd'.2 fun y hy => (List.mem_erase_of_ne (fun e => nd'.1 (by rw [← e]; exact hy))).mpr (h y (List.mem_cons_of_mem _ hy))
    rw [List.length_erase_of_mem hx] at q
    have : 0 < m.length := List.length_pos_of_mem hx
    rw [List.length_cons]; omega
theorem len_eq_of_iff {l m : List Int} (h1 : l.Nodup) (h2 : m.Nodup) (h : ∀ x, x ∈ l ↔ x ∈ m) : l.length = m.length :=
  Nat.le_antisymm (len_le_of_sub h1 fun x => (h x).mp) (len_le_of_sub h2 fun x => (h x).mpr)
theorem dist_nodup {l : List Int} (h : l.Nodup) : (dist l).length = l.length := len_eq_of_iff (nodup_dist l) h fun _ => mem_dist
theorem nodup_of_dist : ∀ {l : List Int}, (dist l).length = l.length → l.Nodup
  | [], _ => .nil
  | x :: r, h => by
    have le : ∀ l : List Int, (dist l).length ≤ l.length := fun l => len_le_of_sub (nodup_dist l) fun x => mem_dist.mp
    unfold dist at h
    split at h
    · have := le r
      rw [List.length_cons] at h; omega
    · rename_i hx
      exact List.nodup_cons.mpr ⟨hx, nodup_of_dist (by simpa using h)⟩
def tLenSetT (K : Fg) (ta : TE) : TE := fun σ H Q => ta σ H fun x H1 => ∃ (l : Addr) (ns : List Int), x = .ref l ∧ SqT K H1 l (ns.map V.int) ∧ ns.length ≤ 4000 ∧ Q (.int ((dist ns).length : Nat)) H1
theorem pe_lenSetT {X : Cx} {a : Expr} {ta : TE} {p p2 q pos : Pos} (hg : Gl X "len") (hm : X.mg "len" = none) (hg2 : Gl X "set") (hm2 : X.mg "set" = none) (ha : PE X a ta) (hc : X.calm = true)
    (na : starEach [a] X.env = (false, eval a X.env) :: starEach [] X.env := by rfl) : PE X (.Call (.Name "len" p) [.Call (.Name "set" p2) [a] [] q] [] pos) (tLenSetT X.K ta) := by
  refine ⟨fun pins s σ H Q I h => ?_⟩
  refine Call_ (ld_blt I hg hm boot_len (PyProof.Rows.callWith_builtin1 (PyProof.Rows.args_cons ?_ rfl) rfl rfl))
  refine Call_ (ld_blt I hg2 hm2 boot_set ?_)
  refine PyProof.Rows.callWith_type1 (PyProof.Rows.args_cons (thn (ha.run pins s σ H _ I h) ?_) na) na rfl
  rintro v s1 ⟨x, H1, I1, r1, l, ns, rfl, hq, hl, q1⟩
  refine PyProof.Rows.args_nil ?_
  cases r1
  obtain ⟨its, r, pl, hz⟩ := I1.tuple hq
  refine call_set_tupI ns (I1.ok.hd hc) pl (by simpa using intsAre_of r) (by unfold scanBound; omega) fun h' tk c R hcl hk => PyProof.Rows.args_nil ?_
  obtain ⟨o, es, ep, t, ho, hex, hd, hgood, hnd, hmem, hb, hf, hn, _⟩ := R
  have I2 : Inv X pins σ H1 { s1 with heap := h', toks := tk } := I1.kept hk
  have e1 : es.size = (dist ns).length := by
    have q := len_eq_of_iff hnd (nodup_dist ns) fun k => by
      rw [← hmem k, mem_dist]
      exact decide_eq_true_iff
    rw [← q]; simp
  refine call_len_set ho hex hd hf (by rw [hn]; omega) ⟨.int ((dist ns).length : Nat), H1, I2.tok _, ⟨_, by rw [e1]⟩, q1⟩
def fLenSet (f : FE) : FE := fun e m => (f e m).bind fun p => match p.1 with
  | .tup xs => (asIs xs).bind fun ns => if ns.length ≤ 4000 then some (.int ((dist ns).length : Nat), p.2) else none
  | _ => none
theorem e_lenSet {X : Cx} {a : Expr} {ta : TE} {fa : FE} {p p2 q pos : Pos} (hc : X.calm = true) (hm : X.mg "len" = none) (hm2 : X.mg "set" = none) (h : E X a ta fa) (hg : Gl X "len" := by rfl) (hg2 : Gl X "set" := by rfl) (na : starEach [a] X.env = (false, eval a X.env) :: starEach [] X.env := by rfl) :
    E X (.Call (.Name "len" p) [.Call (.Name "set" p2) [a] [] q] [] pos) (tLenSetT X.K ta) (fLenSet fa) := ⟨pe_lenSetT hg hm hg2 hm2 h.pe hc na, fun r σ H e m d m' hs hm hf Q go => by
  obtain ⟨⟨d1, m1⟩, h1, hf⟩ := bindE hf
  split at hf
  · rename_i xs q
    have q' : d1 = .tup xs := q
    subst q'
    obtain ⟨ns, h2, hf⟩ := bindE hf
    obtain ⟨hz, hf⟩ := iteE hf
    cases hf
    have e := asIs_ok h2
    subst e
    refine h.ok r σ H e m _ _ hs hm h1 _ fun r1 v1 H1 x1 hm1 hv1 => ?_
    obtain ⟨a, vs, rfl, ha, hw⟩ := hv1.tupE
    have e2 := hw.ints
    subst e2
    exact ⟨a, ns, rfl, ha.sq, hz, (go.step x1).here hm1 (.int _)⟩
  · cases hf⟩

/-! ### math.lcm -/
def rLcm : List V → Hp → VK → Prop := fun xs H Q => ∃ a b : Int, xs = [.int a, .int b] ∧ a.natAbs < 2 ^ 64 ∧ b.natAbs < 2 ^ 64 ∧ Q (.int ((a.natAbs.lcm b.natAbs : Nat) : Int)) H
theorem cr_lcm {X : Cx} : CallR X (.builtin "math.lcm") rLcm := by
  intro pins s σ H xs us Q I r h
  obtain ⟨a, b, rfl, h1, h2, q⟩ := h
  obtain ⟨u, v, rfl, ⟨t, rfl⟩, ⟨t', rfl⟩⟩ := Vals.two r
  exact PySem.W.mc_lcm h1 h2 fun _ => ⟨.int _, H, I.tok _, ⟨_, rfl⟩, q⟩
def gLcm : GN
  | [.int a, .int b], m => if a.natAbs < 2 ^ 64 ∧ b.natAbs < 2 ^ 64 then some (.int ((a.natAbs.lcm b.natAbs : Nat) : Int), m) else none
  | _, _ => none
theorem gLcm_ok {K : Fg} : RNOk K rLcm gLcm := fun r H m xs ds d m' hm hx hg Q go => by
  unfold gLcm at hg
  split at hg
  · obtain ⟨hz, hg⟩ := iteE hg
    cases hg
    obtain ⟨v, w, rfl, hv, hw⟩ := hx.two
    rw [hv.intE, hw.intE]
    exact ⟨_, _, rfl, hz.1, hz.2, go.here hm (.int _)⟩
  · cases hg
/-- a function of another module, by its name here -/
theorem e_cF {X : Cx} {e : Expr} {es : List Expr} {t : TA} {f : FA} {x : Str} {p pos : Pos} {id : String} {rr : List V → Hp → VK → Prop} {g : GN} (hc : CallR X (.builtin id) rr) (ok : RNOk X.K rr g) (hm : X.mg x = some (.builtin id)) (ha : A X (e :: es) t f) (hg : Gl X x := by rfl) (hdb : (x == ("__debug__" : Str)) = false := by decide)
    (he : starEach (e :: es) X.env = (false, eval e X.env) :: starEach es X.env := by rfl) (hpl : (backTo pos (starEach es X.env)).any (·.1) = false := by rfl) : E X (.Call (.Name x p) (e :: es) [] pos) (tCB rr t) (fCall g f) := ⟨pe_callBfun hc hg hm ha.pe hdb he hpl, callOk ok ha.ok⟩

/-! ### repr of data -/
def rRepr (K : Fg) : List V → Hp → VK → Prop := fun xs H Q => ∃ (x : V) (d : PyData), xs = [x] ∧ Dp K H x d ∧ d.showable = true ∧ d.hasDict = false ∧ (∃ a, x = .ref a) ∧ d.depth ≤ 60 ∧ d.shown.length ≤ sizeLine ∧ Q (.str d.shown) H
theorem cr_repr {X : Cx} (hG : X.A.guards = some []) (hu : X.A.units + 64 < cLine) : CallR X (.builtin "repr") (rRepr X.K) := by
  intro pins s σ H xs us Q I r h
  obtain ⟨x, d, rfl, hd, h1, h2, ⟨a, rfl⟩, h3, h4, q⟩ := h
  obtain ⟨u, rfl, ru⟩ := Vals.one r
  obtain rfl : u = Value.ref a := ru
  obtain ⟨as, rd⟩ := Dp.reads I d _ _ hd rfl
  refine repr_of_reads' (h₀ := s.heap) rd h1 (fun z => by rw [h2] at z; cases z) hG (by omega) (fun b o e => e) (fun h' u tk hk => ?_) h4
  exact ⟨.str d.shown, H, I.kept hk, ⟨u, rfl⟩, q⟩
def gRepr : GN := fun ds m => match ds with
  | [.tup xs] => (res m (.tup xs)).bind fun p => if p.showable = true ∧ p.hasDict = false ∧ p.depth ≤ 60 ∧ p.shown.length ≤ 100000 then some (.str p.shown, m) else none
  | [.loc l] => (res m (.loc l)).bind fun p => if p.showable = true ∧ p.hasDict = false ∧ p.depth ≤ 60 ∧ p.shown.length ≤ 100000 then some (.str p.shown, m) else none
  | _ => none
theorem gRepr_ok {K : Fg} : RNOk K (rRepr K) gRepr := fun r H m xs ds d m' hm hx hg Q go => by
  unfold gRepr at hg
  split at hg
  · obtain ⟨p, h1, hg⟩ := bindE hg
    obtain ⟨hz, hg⟩ := iteE hg
    cases hg
    obtain ⟨v, rfl, hv⟩ := hx.one
    exact ⟨v, p, rfl, res_ok hm hv h1, hz.1, hz.2.1, by obtain ⟨a, vs, e, _⟩ := hv.tupE; exact ⟨a, e⟩, hz.2.2.1, lineOf hz.2.2.2, go.here hm (.str _)⟩
  · obtain ⟨p, h1, hg⟩ := bindE hg
    obtain ⟨hz, hg⟩ := iteE hg
    cases hg
    obtain ⟨v, rfl, hv⟩ := hx.one
    exact ⟨v, p, rfl, res_ok hm hv h1, hz.1, hz.2.1, by obtain ⟨a, e, _⟩ := hv.locE; exact ⟨a, e⟩, hz.2.2.1, lineOf hz.2.2.2, go.here hm (.str _)⟩
  · cases hg
/-- repr(int), str(int) -/
def gStrI : GN
  | [.int i], m => if i.natAbs.log2 < 1920 then some (.str (toString i), m) else none
  | _, _ => none
theorem gStrI_ok {K : Fg} : RNOk K (fun xs H Q => ∃ i, xs = [.int i] ∧ i.natAbs.log2 < 1920 ∧ Q (.str (toString i)) H) gStrI := fun r H m xs ds d m' hm hx hg Q go => by
  unfold gStrI at hg
  split at hg
  · obtain ⟨hz, hg⟩ := iteE hg
    cases hg
    obtain ⟨v, rfl, hv⟩ := hx.one
    rw [hv.intE]
    exact ⟨_, rfl, hz, go.here hm (.str _)⟩
  · cases hg

/-! ### t[::-1] -/
def tRevT (K : Fg) (te : TE) : TE := fun σ H Q => te σ H fun x H1 => ∃ a xs, x = .ref a ∧ SqT K H1 a xs ∧ ∀ p, H1 p = none → Q (.ref p) (upd H1 p (.tup xs.reverse))
section
variable {prog : Program} {w : World} {Ar : Around} {Ex : Value → Shared → Prop} {s : Shared}
theorem pick_back (xs : Array Value) : ((List.range xs.size).filterMap fun (m : Nat) => xs[((xs.size : Int) - 1 + (m : Int) * (-1)).toNat]?).toArray = xs.toList.reverse.toArray := by
  congr 1
  refine List.ext_getElem? fun k => ?_
  have e : (List.range xs.size).filterMap (fun (m : Nat) => xs[((xs.size : Int) - 1 + (m : Int) * (-1)).toNat]?) = (List.range xs.size).map fun m => xs.toList.getD (xs.size - 1 - m) .none := by
    have go : ∀ l : List Nat, (∀ m ∈ l, m < xs.size) → l.filterMap (fun (m : Nat) => xs[((xs.size : Int) - 1 + (m : Int) * (-1)).toNat]?) = l.map fun m => xs.toList.getD (xs.size - 1 - m) .none := by
      intro l
      induction l with
      | nil => intro _; rfl
      | cons m l ih =>
        intro hl
        have hm' : m < xs.size := hl m List.mem_cons_self
        have e1 : ((xs.size : Int) - 1 + (m : Int) * (-1)).toNat = xs.size - 1 - m := by omega
        have h2 : xs.size - 1 - m < xs.size := by omega
        have e2 : xs[((xs.size : Int) - 1 + (m : Int) * (-1)).toNat]? = some (xs.toList.getD (xs.size - 1 - m) .none) := by
          rw [e1]; simp [List.getD, h2]
        simp only [List.filterMap_cons, e2, List.map_cons]
        rw [ih fun k hk => hl k (List.mem_cons_of_mem _ hk)]
    exact go _ fun m hm => List.mem_range.mp hm
  rw [e, List.getElem?_map]
  by_cases hk : k < xs.size
  · rw [List.getElem?_range hk, List.getElem?_reverse (by simpa using hk)]
    have h2 : xs.size - 1 - k < xs.size := by omega
    simp [List.getD, h2]
  · rw [List.getElem?_eq_none (by simpa using hk), List.getElem?_eq_none (by simpa using hk)]
    rfl
theorem getItem_tuple_rev {t sl : Addr} {items : Array Value} {vl vu vs : Value} {Q : Value → Shared → Prop} (ht : PyProof.Rows.IsTup s.heap t items) (hs : s.heap.IsSliceOf sl vl vu vs) (pl : IsPart vl none) (pu : IsPart vu none) (ps : IsPart vs (some (-1)))
    (h : Q (.ref s.heap.objs.size) { s with heap := s.heap.push { cls := .type "tuple", data := .seq items.toList.reverse.toArray } }) (hsz : items.size ≤ sizeLine) : wpAny (model prog w) Ar (getItem (.ref t) (.ref sl)) Q Ex s := by
  obtain ⟨os, hos, hcs, hds⟩ := id hs
  have hTs : s.TypeIs (.ref sl) "slice" := ⟨os, hos, hcs⟩
  unfold getItem
  try with_reducible refine wpAny_holding ?_
  first | refine wpAny_bind (wpAny_pure ?_) | skip
  refine wpAny_bind (wpAny_sequenceKey ht.typeIs (by decide) ?_)
  refine wpAny_bind (wpAny_callSpecial?_slot (name := Str.ofString "__getitem__") ht.typeIs PyProof.Rows.slot_tuple_getitem
    (wpAny_call_entry PyProof.Rows.slot_tuple_getitem ht.typeIs entry_tuple_getitem ?_ (args_tuple_getitem _ _)))
  show wpAny _ _ (Builtin.Tuple.tupleItemsOf (.ref t) >>= _) _ _ s
  refine wpAny_bind (tupleItemsOf_ ht ?_)
  refine wpAny_bind (wpAny_typeOf hTs ?_)
  rw [if_pos (by decide)]
  cases ps with
  | int _ tk =>
  cases pl
  cases pu
  have app : ∀ {A' : Around} {E' : Value → Shared → Prop} {R : Int × Int × Nat → Shared → Prop}, R ((items.size : Int) - 1, -1, items.size) s → wpAny (model prog w) A' (Builtin.Slice.sliceApplied (.ref sl) (pure (items.size : Int))) R E' s := fun {A' E' R} hR => by
    unfold Builtin.Slice.sliceApplied Builtin.Slice.sliceFields
    refine wpAny_bind (wpAny_bind (wpAny_field hos hds (x := .none) rfl (wpAny_bind (wpAny_field hos hds (x := .none) rfl (wpAny_bind (wpAny_field hos hds (x := .int (-1) tk) rfl (wpAny_pure ?_)))))))
    refine wpAny_bind (slicePart_int ?_)
    show wpAny _ _ (if ((-1 : Int) == 0) = true then _ else _) _ _ s
    rw [if_neg (by decide)]
    refine wpAny_bind (slicePart_none (wpAny_bind (slicePart_none (wpAny_bind (wpAny_pure ?_)))))
    show wpAny _ _ (pure ((items.size : Int) - 1, (-1 : Int), Builtin.Slice.slicePlaces ((items.size : Int) - 1) (-1) (-1))) _ _ s
    have e : Builtin.Slice.slicePlaces ((items.size : Int) - 1) (-1) (-1) = items.size := by
      unfold Builtin.Slice.slicePlaces
      have h1 : ¬ ((-1 : Int) > 0) := by omega
      simp only [h1, if_false]
      split <;> (simp; try omega)
    rw [e]
    exact wpAny_pure hR
  refine wpAny_bind (app ?_)
  show wpAny _ _ (if ((((items.size : Int) - 1) == 0 && ((-1 : Int) == 1) && (items.size == items.size)) = true) then _ else _) _ _ s
  rw [if_neg (by intro q; rw [Bool.and_eq_true, Bool.and_eq_true] at q; exact absurd q.1.2 (by decide)), pick_back]
  have htake : sizeOk (.seq items.toList.reverse.toArray) := by
    show items.toList.reverse.toArray.size ≤ sizeLine
    rw [List.size_toArray, List.length_reverse, Array.length_toList]
    exact hsz
  first
    | exact wpAny_bind (m := Builtin.Tuple.tupleExact _) (wpAny_newObj_type (wpAny_pure ⟨_, rfl, wpAny_pure h⟩) htake)
    | exact wpAny_bind (m := Builtin.Tuple.tupleExact _) (wpAny_newObj_type (wpAny_bind (wpAny_pure (wpAny_pure ⟨_, rfl, wpAny_pure h⟩))) htake)
    | exact wpAny_bind (wpAny_bind (m := Builtin.Tuple.tupleExact _) (wpAny_newObj_type (wpAny_pure (wpAny_pure ⟨_, rfl, wpAny_pure h⟩)) htake))
    | exact wpAny_bind (wpAny_bind (m := Builtin.Tuple.tupleExact _) (wpAny_newObj_type (wpAny_pure ⟨_, rfl, wpAny_pure h⟩) htake))
end
theorem pe_revT {X : Cx} {e : Expr} {te : TE} {k : Nat} {p1 p2 p3 pos : Pos} (he : PE X e te) : PE X (.Subscript e (.Slice none none (some (.UnaryOp .USub (.Constant (.int 1) k p1) p2)) p3) pos) (tRevT X.K te) := by
  refine ⟨fun pins s σ H Q I h => ?_⟩
  refine Subscript_ (thn (he.run pins s σ H _ I h) ?_)
  rintro v s1 ⟨x, H1, I1, r1, a, xs, ex, hx, q⟩
  subst ex
  cases r1
  have neg : PO X (some (.UnaryOp .USub (.Constant (.int 1) k p1) p2)) (tPart (tUn (rU fun i => .int (-i)) (tC (.int 1)))) := po_some (pe_un un_neg pe_int)
  refine wpAny_Slice (thn (po_none.run pins s1 σ H1 (fun o H2 => o = none ∧ H2 = H1) I1 ⟨rfl, rfl⟩) ?_)
  rintro vl s2 ⟨l, H2, I2, pl, el, e2⟩
  subst el e2
  refine thn (po_none.run pins s2 σ H2 (fun o H3 => o = none ∧ H3 = H2) I2 ⟨rfl, rfl⟩) ?_
  rintro vu s3 ⟨u, H3, I3, pu, eu, e3⟩
  subst eu e3
  refine thn (neg.run pins s3 σ H3 (fun o H4 => o = some (-1) ∧ H4 = H3) I3 ⟨1, rfl, -1, rfl, rfl, rfl⟩) ?_
  rintro vs s4 ⟨o, H4, I4, ps, eo, e4⟩
  subst eo e4
  have I5 : Inv X pins σ H4 { s4 with heap := s4.heap.push { cls := .type "slice", data := .fields #[vl, vu, vs] } } := I4.kept (t' := s4.toks) fun b ob q => Heap.get?_push_of_some _ q
  obtain ⟨its, r, ht, hz⟩ := I5.tuple hx
  have hlen := r.length
  show wpAny (model X.prog X.w) X.A (subscriptTail e (.Slice none none (some (.UnaryOp .USub (.Constant (.int 1) k p1) p2)) p3) (.ref a) (.ref s4.heap.objs.size)) (EP X pins σ Q) X.xe { s4 with heap := s4.heap.push { cls := .type "slice", data := .fields #[vl, vu, vs] } }
  refine tail_any (ops := [.ref a, .ref s4.heap.objs.size]) ht.typeIs (PyProof.Rows.slot_tuple_getitem.lookup) ?_ (by with_unfolding_all rfl)
  refine getItem_tuple_rev ht (Heap.IsSliceOf.new _ vl vu vs) pl pu ps ?_ (by rw [List.size_toArray]; omega)
  refine ⟨.ref _, _, I5.laid (t' := s4.toks) (o := .tup xs.reverse) (fun b ob q => Heap.get?_push_of_some _ q) (Nat.le_refl _) ?_, rfl, q _ (I5.hok.fresh (Nat.le_refl _))⟩
  exact ⟨by rw [List.length_reverse]; exact hz, _, r.reverse, IsTup.new _ _⟩
def fRev (f : FE) : FE := fun e m => (f e m).bind fun p => match p.1 with
  | .tup xs => some (.tup xs.reverse, p.2)
  | _ => none
theorem e_rev {X : Cx} {e : Expr} {te : TE} {f : FE} {k : Nat} {p1 p2 p3 pos : Pos} (h : E X e te f) : E X (.Subscript e (.Slice none none (some (.UnaryOp .USub (.Constant (.int 1) k p1) p2)) p3) pos) (tRevT X.K te) (fRev f) := ⟨pe_revT h.pe, fun r σ H e m d m' hs hm hf Q go => by
  obtain ⟨⟨d1, m1⟩, h1, hf⟩ := bindE hf
  split at hf
  · rename_i xs q
    have q' : d1 = .tup xs := q
    subst q'
    cases hf
    refine h.ok r σ H e m _ _ hs hm h1 _ fun r1 v1 H1 x1 hm1 hv1 => ?_
    obtain ⟨a, vs, rfl, ha, hw⟩ := hv1.tupE
    exact ⟨a, vs, rfl, ha.sq, fun p hp => (go.step x1).newTup hm1 hw.reverse hp⟩
  · cases hf⟩

/-! ### tuple(range(..)), list(range(..)) -/
section
variable {X : Cx} {a b : Expr} {ta tb : TE} {fa fb : FE} {p p2 pos pos2 : Pos}
def fRg1 (f : FE) : FA := fun e m => (f e m).bind fun p => (asI p.1).bind fun j => if 0 ≤ j ∧ j ≤ 100000 then some (rangeD 0 j.toNat, p.2) else none
theorem rg_vals {K : Fg} {r : List Addr} {H : Hp} (lo : Int) (n : Nat) : VAll K r H ((List.range n).map fun i => V.int (lo + (i : Nat))) (rangeD lo n) := by
  unfold rangeD
  generalize List.range n = l
  induction l with
  | nil => exact .nil
  | cons k l ih => exact .cons (.int _) ih
theorem l_rg1 (hc : X.calm = true) (hml : X.mg "list" = none) (hmr : X.mg "range" = none) (h : E X a ta fa) (hgl : Gl X "list" := by rfl) (hgr : Gl X "range" := by rfl) (na : starEach [a] X.env = (false, eval a X.env) :: starEach [] X.env := by rfl)
    (na2 : starEach [.Call (.Name "range" p2) [a] [] pos2] X.env = (false, eval (.Call (.Name "range" p2) [a] [] pos2) X.env) :: starEach [] X.env := by rfl) :
    L X (.Call (.Name "list" p) [.Call (.Name "range" p2) [a] [] pos2] [] pos) (tLstRg (tRg1 ta)) (fRg1 fa) := ⟨pe_listRg hc hgl hml (prg_1 hgr hmr h.pe na) na2, fun r σ H e m d m' hs hm hf Q go => by
  obtain ⟨⟨d1, m1⟩, h1, hf⟩ := bindE hf
  obtain ⟨j, h2, hf⟩ := bindE hf
  obtain ⟨hz, hf⟩ := iteE hf
  cases hf
  have q' : d1 = .int j := asI_ok h2
  subst q'
  refine h.ok r σ H e m _ _ hs hm h1 _ fun r1 v1 H1 x1 hm1 hv1 => ⟨j, hv1.intE, RgOk.of_le (by omega) (by omega) (by omega) (by omega), fun q hq => ?_⟩
  have w := rg_vals (K := X.K) (r := r1) (H := H1) 0 j.toNat
  have e1 : rgV 0 j = (List.range j.toNat).map fun i => V.int (0 + (i : Nat)) := by unfold rgV; rw [Int.sub_zero]
  rw [e1]
  exact (go.step x1).new hm1 w hq⟩
def fTRg1 (f : FE) : FE := fun e m => (f e m).bind fun p => (asI p.1).bind fun j => if 0 ≤ j ∧ j ≤ 100000 then some (.tup (rangeD 0 j.toNat), p.2) else none
theorem e_trg1 (hc : X.calm = true) (hml : X.mg "tuple" = none) (hmr : X.mg "range" = none) (h : E X a ta fa) (hgl : Gl X "tuple" := by rfl) (hgr : Gl X "range" := by rfl) (na : starEach [a] X.env = (false, eval a X.env) :: starEach [] X.env := by rfl)
    (na2 : starEach [.Call (.Name "range" p2) [a] [] pos2] X.env = (false, eval (.Call (.Name "range" p2) [a] [] pos2) X.env) :: starEach [] X.env := by rfl) :
    E X (.Call (.Name "tuple" p) [.Call (.Name "range" p2) [a] [] pos2] [] pos) (tTupRg (tRg1 ta)) (fTRg1 fa) := ⟨pe_tupRg hc hgl hml (prg_1 hgr hmr h.pe na) na2, fun r σ H e m d m' hs hm hf Q go => by
  obtain ⟨⟨d1, m1⟩, h1, hf⟩ := bindE hf
  obtain ⟨j, h2, hf⟩ := bindE hf
  obtain ⟨hz, hf⟩ := iteE hf
  cases hf
  have q' : d1 = .int j := asI_ok h2
  subst q'
  refine h.ok r σ H e m _ _ hs hm h1 _ fun r1 v1 H1 x1 hm1 hv1 => ⟨j, hv1.intE, RgOk.of_le (by omega) (by omega) (by omega) (by omega), fun q hq => ?_⟩
  have w := rg_vals (K := X.K) (r := r1) (H := H1) 0 j.toNat
  have e1 : rgV 0 j = (List.range j.toNat).map fun i => V.int (0 + (i : Nat)) := by unfold rgV; rw [Int.sub_zero]
  rw [e1]
  exact (go.step x1).newTup hm1 w hq⟩
/-- range(a, b, c), downward -/
def fRangeC (f g h : FE) : FI := fun e m => (f e m).bind fun p => (asI p.1).bind fun i => (g e p.2).bind fun q => (asI q.1).bind fun j => (h e q.2).bind fun u => (asI u.1).bind fun k => if -100000 ≤ i ∧ i ≤ 100000 ∧ -100000 ≤ j ∧ j ≤ 100000 ∧ k = -1 then some (⟨(List.range (i - j).toNat).map fun n => D.int (i - (n : Nat)), none⟩, u.2) else none
end

/-! ### divmod, index -/
def gDivmod : GN
  | [.int i, .int j], m => if 0 < j ∧ j < 1073741824 then some (.tup [.int (i / j), .int (i % j)], m) else none
  | _, _ => none
theorem gDivmod_ok {K : Fg} : RNOk K (fun xs H Q => ∃ i j, xs = [.int i, .int j] ∧ CDivP i j ∧ ∀ p, H p = none → Q (.ref p) (upd H p (.tup [.int (i / j), .int (i % j)]))) gDivmod := fun r H m xs ds d m' hm hx hg Q go => by
  unfold gDivmod at hg
  split at hg
  · obtain ⟨hz, hg⟩ := iteE hg
    cases hg
    obtain ⟨v, w, rfl, hv, hw⟩ := hx.two
    rw [hv.intE, hw.intE]
    exact ⟨_, _, rfl, ⟨hz.1, PyProof.noPylong_small (by omega)⟩, fun p hp => go.newTup hm (.cons (.int _) (.cons (.int _) .nil)) hp⟩
  · cases hg
end Mv

set_option Elab.async false
set_option linter.all false
set_option maxRecDepth 100000
set_option maxHeartbeats 4000000
/-! Mv10: range downward, list.index, {}. The law's end. -/
namespace Mv
open PySem PySem.Spec PyProof.Rows L2

/-- i, i - 1, .. (n of them) -/
def downD (i : Int) (n : Nat) : List D := (List.range n).map fun k => .int (i + (k : Nat) * -1)
theorem downD_length (lo : Int) (n : Nat) : (downD lo n).length = n := by simp [downD]
theorem downD_get {lo : Int} {n i : Nat} {d : D} (h : (downD lo n)[i]? = some d) : i < n ∧ d = .int (lo + (i : Nat) * -1) := by
  unfold downD at h
  rw [List.getElem?_map] at h
  by_cases hi : i < n
  · rw [List.getElem?_range hi] at h
    cases h
    exact ⟨hi, rfl⟩
  · rw [List.getElem?_eq_none (by simpa using hi)] at h
    cases h
def fDown (f g h : FE) : FI := fun e m => (f e m).bind fun p => (asI p.1).bind fun i => (g e p.2).bind fun q => (asI q.1).bind fun j => (h e q.2).bind fun u => (asI u.1).bind fun k => if -100000 ≤ i ∧ i ≤ 100000 ∧ -100000 ≤ j ∧ j ≤ 100000 ∧ k = -1 then some (⟨downD i (i - j).toNat, none⟩, u.2) else none
theorem i_down {X : Cx} {tg a b c : Expr} {ta tb tc : TE} {fa fb fc : FE} {p pos : Pos} (hm : X.mg "range" = none) (ha : E X a ta fa) (hb : E X b tb fb) (hc : E X c tc fc) (hg : Gl X "range" := by rfl)
    (hs : starEach [a, b, c] X.env = (false, eval a X.env) :: starEach [b, c] X.env := by rfl) (hs2 : starEach [b, c] X.env = (false, eval b X.env) :: starEach [c] X.env := by rfl) (hs3 : starEach [c] X.env = (false, eval c X.env) :: starEach [] X.env := by rfl) (hpl : (backTo pos (starEach [b, c] X.env)).any (·.1) = false := by rfl) :
    I X tg (.Call (.Name "range" p) [a, b, c] [] pos) (iRng3 (tCons ta (tCons tb (tCons tc tNil)))) (fDown fa fb fc) := ⟨pi_range3 hg hm (pa_cons ha.pe (pa_cons hb.pe (pa_cons hc.pe pa_nil hs3) hs2) hs) hs hpl, fun r σ H e m s m1 hs hm hf R go => by
  obtain ⟨⟨d, m2⟩, h1, hf⟩ := bindE hf
  obtain ⟨i, h2, hf⟩ := bindE hf
  obtain ⟨⟨d2, m3⟩, h3, hf⟩ := bindE hf
  obtain ⟨j, h4, hf⟩ := bindE hf
  obtain ⟨⟨d3, m4⟩, h5, hf⟩ := bindE hf
  obtain ⟨k, h6, hf⟩ := bindE hf
  obtain ⟨hz, hf⟩ := iteE hf
  cases hf
  have q1 : d = .int i := asI_ok h2
  have q2 : d2 = .int j := asI_ok h4
  have q3 : d3 = .int k := asI_ok h6
  subst q1; subst q2; subst q3
  refine ha.ok r σ H e m _ _ hs hm h1 _ fun r1 v1 H1 x1 hm1 hv1 => ?_
  refine hb.ok r1 σ H1 e _ _ _ (hs.mono x1) hm1 h3 _ fun r2 v2 H2 x2 hm2 hv2 => ?_
  refine hc.ok r2 σ H2 e _ _ _ (hs.mono (x1.trans x2)) hm2 h5 _ fun r3 v3 H3 x3 hm3 hv3 => ?_
  refine ⟨i, j, k, (i - j).toNat, by rw [hv1.intE, hv2.intE, hv3.intE], by rw [hz.2.2.2.2]; exact RgC.neg (by omega) (by omega) (by omega) (by omega), go r3 H3 _ ((x1.trans x2).trans x3) hm3 trivial fun n r4 H4 m5 x4 hm4 hl => ?_⟩
  refine ⟨fun hi => ?_, fun d hd => ?_⟩
  · have : (i - j).toNat ≤ n := by simpa [downD_length] using hi
    exact this
  · obtain ⟨hi, e⟩ := downD_get hd
    subst e
    refine ⟨hi, fun x H' y => ?_⟩
    obtain ⟨e1, e2⟩ := y
    subst e1; subst e2
    rw [hz.2.2.2.2]
    exact ⟨Ext.refl, hm4, .int _⟩⟩
/-- {} -/
def fDnew : FE := fun _ m => some (.loc m.length, m ++ [.dK [] []])
theorem e_dnew {X : Cx} {pos : Pos} : E X (.Dict [] [] pos) tDNewK fDnew := ⟨pe_dnewK, fun r σ H e m d m' hs hm hf Q go => by
  cases hf
  exact fun p hp => go (r ++ [p]) (.ref p) _ (Ext.alloc hp) (hm.allocC hp ⟨[], upd_same, rfl, .nil⟩) (.loc (by rw [← hm.len]; simp))⟩
/-- xs.index(x), of ints that are there -/
def posI : List Int → Int → Option Nat
  | [], _ => none
  | y :: r, x => if y = x then some 0 else (posI r x).map (· + 1)
theorem posI_ok : ∀ {l : List Int} {x : Int} {j : Nat}, posI l x = some j → l[j]? = some x ∧ ∀ m y, m < j → l[m]? = some y → y ≠ x
  | y :: r, x, j, h => by
    unfold posI at h
    split at h
    · rename_i e
      cases h
      exact ⟨by rw [e]; rfl, fun m y hm => absurd hm (Nat.not_lt_zero m)⟩
    · rename_i ne
      obtain ⟨k, h1, h2⟩ := mapE h
      subst h2
      obtain ⟨q1, q2⟩ := posI_ok h1
      refine ⟨q1, fun m z hm hz => ?_⟩
      cases m with
      | zero => cases hz; exact ne
      | succ m => exact q2 m z (by omega) hz
def gIndex : GM
  | .loc l, [.int x], m => match m[l]? with
    | some (.lst xs) => (asIs xs).bind fun ns => (posI ns x).map fun j => (.int (j : Nat), m)
    | _ => none
  | _, _, _ => none
theorem flat_ints (ns : List Int) : (ns.map V.int).all flatV = true := by
  rw [List.all_eq_true]
  intro x hx
  obtain ⟨i, _, rfl⟩ := List.mem_map.mp hx
  rfl
theorem gIndex_ok {K : Fg} : RMOk K (rIndex K) gIndex := fun r H m x xs dx ds d m' hm hx hxs hg Q go => by
  unfold gIndex at hg
  split at hg
  · split at hg
    · rename_i k mm l kx _ ys z
      obtain ⟨ns, h1, hg⟩ := bindE hg
      obtain ⟨j, h2, hg⟩ := mapE hg
      cases hg
      have e := asIs_ok h1
      subst e
      obtain ⟨a, rfl, ha⟩ := hx.locE
      obtain ⟨v, rfl, hv⟩ := hxs.one
      obtain ⟨vs, q1, q2⟩ := hm.lst ha z
      have e2 := q2.ints
      subst e2
      obtain ⟨p1, p2⟩ := posI_ok h2
      have ev := hv.intE
      subst ev
      refine ⟨a, _, _, j, _, rfl, rfl, .of q1, rfl, flat_ints ns, by rw [List.getElem?_map, p1]; rfl, ?_, fun n z' hn hz => ?_, go.here hm (.int _)⟩
      · show (_ == _) = true
        simp
      · rw [List.getElem?_map] at hz
        obtain ⟨y, w1, w2⟩ := mapE hz
        subst w2
        show (y == _) = false
        simpa using p2 n y hn w1
    · cases hg
  · cases hg
theorem e_index {X : Cx} {o a : Expr} {to ta : TE} {fo fa : FE} {apos cpos : Pos} (ho : E X o to fo) (ha : E X a ta fa)
    (hbase : attributeBase o "index" X.env (eval o X.env) = eval o X.env := by rfl)
    (hfew : ((backTo cpos (starEach [a] X.env)).all (fun x => !x.1) && (backToKw cpos (keywordEach [] X.env)).all (fun x => x.1.isSome)
      && decide ([a].length + ([] : List Keyword).length + (if ([] : List Keyword).isEmpty then 0 else 1) < 30)) = true := by rfl)
    (hline : (apos.endLine == cpos.line) = true := by rfl) (hs : starEach [a] X.env = (false, eval a X.env) :: starEach [] X.env := by rfl) :
    E X (.Call (.Attribute o "index" apos) [a] [] cpos) (tBM X.K "list" (rIndex X.K) to (tCons ta tNil)) (fMeth gIndex fo (fCons fa fNil)) :=
  ⟨pe_bm PySem.F.plainAttrs_list PySem.F.slot_list_index PySem.F.type_list_index mt_index ho.pe (pa_cons ha.pe pa_nil hs) hbase hfew hline hs rfl, methOk gIndex_ok ho.ok (aCons ha.ok aNil)⟩

/-! ### the law's end, for defs that are called with no guard under way -/
theorem law_end {P : Program} {w : World} {K : Fg} {mg mb : Str → Option Value} {CX : CXT} {k : Nat} {fa a : Addr} {fd : FuncData} {x : Str} {sp : Sp} {s : Shared} {vs : List Value} {ns : List Int}
    (inK : K.In s.heap) (hns : s.heap.Ns mainGlobals mg) (hb : s.heap.Ns builtinsNs mb) (hbb : ∀ x : Str, x ≠ "__name__" → mb x = bootBuiltins x) (hlim : s.heap.NoLimit) (hg : s.gens = #[])
    (ha : s.heap.get? a = some { cls := .type "list", data := .seq vs.toArray }) (hi : PyProof.Rows.IntsAre vs ns) (hl : ns.length ≤ sizeLine) (hr : Room k callerA)
    (F : ∀ base : Heap, K.In base → base.Ns mainGlobals mg → FnG P w K mg base CX k fa fd [x] sp) (hbind : ∀ (s : Shared) (u : Value), BindsTo s fd ⟨[u], []⟩ [(x, u)])
    (hsp : ∀ H : Hp, Only H → (∃ o, H a = some o ∧ ∀ ys, o ≠ .tup ys) → SqL K H a (ns.map V.int) → sp [.ref a] H (fun v _ => v = .bl true) fun _ _ _ => False)
    (hCX : ∀ H e s', CX [] H s (fun _ _ _ => False) e s' → False) (hKa : K.lookup a = none) :
    codeAny (model P w) callerA (.call (.ref fa) ⟨[.ref a], []⟩) (fun r s' => r = .ok (.ret (.bool true)) ∧ OldK s.heap s'.heap ∧ s'.os = s.os ∧ AllBare s'.gens) s := by
  have rv := vals_ints hi
  let H : Hp := fun b => if b = a then some (.frz { cls := .type "list", data := .seq vs.toArray } (.lst (ns.map V.int))) else none
  have Ha : H a = some (.frz { cls := .type "list", data := .seq vs.toArray } (.lst (ns.map V.int))) := if_pos rfl
  have Hn : ∀ {b : Addr}, b ≠ a → H b = none := fun hb => if_neg hb
  have hO : Only H := fun b => by
    by_cases e : b = a
    · exact .inr ⟨_, _, by rw [e]; exact Ha⟩
    · exact .inl (Hn e)
  have hok : HOk P w H s.heap := fun b u z => by
    by_cases e : b = a
    · subst e
      rw [Ha] at z; cases z
      exact ⟨ha, by rw [List.length_map]; exact hl, vs, _, rv, ha⟩
    · rw [Hn e] at z; cases z
  have up : ∀ {b : Addr} {o : Obj}, s.heap.get? b = some o → b ≠ a → (hidT s.heap H).get? b = some o := fun e n => hidT_get e (Hn n)
  have nota : ∀ {b : Addr} {o : Obj} {es : Array DictEntry} {ep : Nat}, s.heap.get? b = some o → o.data = .dict es ep → b ≠ a := fun {b o es ep} e d z => by
    subst z
    rw [ha] at e; cases e
    have d' : Data.seq vs.toArray _ = Data.dict es ep := d
    cases d'
  have nsU : ∀ {b : Addr} {m : Str → Option Value}, s.heap.Ns b m → (hidT s.heap H).Ns b m := fun {b m} h => by
    obtain ⟨o, es, ep, e, d, r⟩ := h
    exact ⟨o, es, ep, up e (nota e d), d, r⟩
  have inB : K.In (hidT s.heap H) := fun b o e => up (inK b o e) fun z => by
    rw [z, hKa] at e; cases e
  have M : Mod K mg (hidT s.heap H) := ⟨inB, nsU hns, ⟨mb, nsU hb, hbb⟩, by obtain ⟨mc, h1, h2⟩ := hlim; exact ⟨mc, nsU h1, h2⟩⟩
  have e0 : Env0 P w K mg (hidT s.heap H) callerA [] s H := ⟨rfl, M, fun b o e => of_hidT e, Nat.le_of_eq (hidT_size _ _), trivial, fun b z => by simp [frs] at z, hok, .of_eq hg⟩
  refine codeAny_mono ((F _ inB (nsU hns)).goes callerA hr rfl [] s H e0 ⟨[.ref a], []⟩ [.ref a] (hbind s (.ref a)) [.ref a] (.cons rfl .nil) _ _ (hsp H hO ⟨_, Ha, fun ys z => by cases z⟩ (.inl (.inr ⟨_, Ha⟩)))) ?_
  intro r s' h
  match r, h with
  | .error e, h => exact (hCX H e s' h).elim
  | .ok .next, h => exact False.elim h
  | .ok .brk, h => exact False.elim h
  | .ok .cont, h => exact False.elim h
  | .ok (.ret u), h =>
    obtain ⟨v, H', os, bare, un, hok', rl, q⟩ := h
    have q' : v = .bl true := q
    subst q'
    obtain rfl : u = Value.bool true := rl
    refine ⟨rfl, OldK.of_keep fun b o e => ?_, os, bare⟩
    by_cases hba : b = a
    · subst hba
      have z2 := un.frzs b _ _ Ha
      obtain ⟨e2, _⟩ := hok' b _ z2
      rw [ha] at e; cases e
      exact e2
    · exact un.keep b o e (Hn hba) (by simp [frs]) (by simp)
end Mv

set_option Elab.async false
set_option linter.all false
set_option maxRecDepth 100000
set_option maxHeartbeats 4000000
/-! Mv11: the law's end for a law's promise by a function. -/
namespace Mv
open PySem PySem.Spec PyProof.Rows L2
theorem vals_kl {K : Fg} {r : List Addr} {H : Hp} : ∀ ns : List Int, VAll K r H (ns.map V.int) (ns.map D.int)
  | [] => .nil
  | n :: ns => .cons (.int n) (vals_kl ns)
theorem callG {P : Program} {w : World} {K : Fg} {mg mb : Str → Option Value} {k : Nat} {fa a : Addr} {fd : FuncData} {x : Str} {F : GN} {s : Shared} {vs : List Value} {ns : List Int}
    (KX : K.In s.heap) (hns : s.heap.Ns mainGlobals mg) (hb : s.heap.Ns builtinsNs mb) (hbb : ∀ x : Str, x ≠ "__name__" → mb x = bootBuiltins x) (hlim : s.heap.NoLimit) (hg : s.gens = #[])
    (ha : s.heap.get? a = some { cls := .type "list", data := .seq vs.toArray }) (hi : PyProof.Rows.IntsAre vs ns) (hl : ns.length ≤ sizeLine) (hr : Room k callerA)
    (hF : ∀ base : Heap, K.In base → base.Ns mainGlobals mg → FnG P w K mg base CX0 k fa fd [x] (spG K F)) (hbind : ∀ (s : Shared) (u : Value), BindsTo s fd ⟨[u], []⟩ [(x, u)])
    (hsp : ∃ m', F [.kl (ns.map D.int)] [] = some (.bl true, m')) :
    codeAny (model P w) callerA (.call (.ref fa) ⟨[.ref a], []⟩) (fun r s' => r = .ok (.ret (.bool true)) ∧ OldK s.heap s'.heap ∧ s'.os = s.os ∧ AllBare s'.gens) s := by
  have rv := vals_ints hi
  have lenV := hi.length
  have core : ∀ H : Hp, Only H → KlAt K H a (ns.map V.int) → HOk P w H s.heap → (∀ b, H b ≠ none → b = a) → (H a ≠ none → K.lookup a = none) →
      codeAny (model P w) callerA (.call (.ref fa) ⟨[.ref a], []⟩) (fun r s' => r = .ok (.ret (.bool true)) ∧ OldK s.heap s'.heap ∧ s'.os = s.os ∧ AllBare s'.gens) s := by
    intro H hO hS hok hA hK
    have base_of : ∀ {b : Addr} {o : Obj}, s.heap.get? b = some o → H b = none → (hidT s.heap H).get? b = some o := fun e n => hidT_get e n
    have noA : ∀ {b : Addr} {o : Obj} {es : Array DictEntry} {ep : Nat}, s.heap.get? b = some o → o.data = .dict es ep → H b = none := fun {b o es ep} e d => by
      cases q : H b with
      | none => rfl
      | some u =>
        have z : b = a := hA b (by rw [q]; simp)
        subst z
        rw [ha] at e; cases e
        have d' : Data.seq vs.toArray _ = Data.dict es ep := d
        cases d'
    have nsU : ∀ {b : Addr} {m : Str → Option Value}, s.heap.Ns b m → (hidT s.heap H).Ns b m := fun {b m} h => by
      obtain ⟨o, es, ep, e, d, r⟩ := h
      exact ⟨o, es, ep, base_of e (noA e d), d, r⟩
    have inB : K.In (hidT s.heap H) := fun b o e => base_of (KX b o e) (by
      cases q : H b with
      | none => rfl
      | some u =>
        have z : b = a := hA b (by rw [q]; simp)
        subst z
        rw [hK (by rw [q]; simp)] at e; cases e)
    have M : Mod K mg (hidT s.heap H) := ⟨inB, nsU hns, ⟨mb, nsU hb, hbb⟩, by obtain ⟨mc, h1, h2⟩ := hlim; exact ⟨mc, nsU h1, h2⟩⟩
    have e0 : Env0 P w K mg (hidT s.heap H) callerA [] s H := ⟨rfl, M, fun b o e => of_hidT e, Nat.le_of_eq (hidT_size _ _), trivial, fun b z => by simp [frs] at z, hok, .of_eq hg⟩
    have sp0 : spG K F [.ref a] H (fun v _ => v = .bl true) fun _ _ _ => False := by
      obtain ⟨m', e⟩ := hsp
      exact ⟨[], _, [], _, m', .cons (.kl hS (vals_kl ns)) .nil, ⟨rfl, List.nodup_nil, fun l c q => by cases l <;> cases q⟩, e, fun r' v H' _ _ hv => hv.blE⟩
    refine codeAny_mono ((hF _ inB (nsU hns)).goes callerA hr rfl [] s H e0 ⟨[.ref a], []⟩ [.ref a] (hbind s (.ref a)) [.ref a] (.cons rfl .nil) _ _ sp0) ?_
    intro r s' h
    match r, h with
    | .error e, h => exact False.elim h
    | .ok .next, h => exact False.elim h
    | .ok .brk, h => exact False.elim h
    | .ok .cont, h => exact False.elim h
    | .ok (.ret u), h =>
      obtain ⟨v, H', os, bare, un, hok', rl, q⟩ := h
      have q' : v = .bl true := q
      subst q'
      obtain rfl : u = Value.bool true := rl
      refine ⟨rfl, OldK.of_keep fun b o e => ?_, os, bare⟩
      cases q : H b with
      | none => exact un.keep b o e q (by simp [frs]) (by simp)
      | some u =>
        rcases hO b with z | ⟨ob, xs, z⟩
        · rw [q] at z; cases z
        · have z2 := un.frzs b ob _ z
          obtain ⟨e1, _⟩ := hok b _ z
          obtain ⟨e2, _⟩ := hok' b _ z2
          rw [e] at e1; cases e1
          exact e2
  cases hk : K.lookup a with
  | some o =>
    have e := KX a o hk
    rw [ha] at e
    cases e
    refine core (fun _ => none) (fun _ => .inl rfl) (.inr fun _ => .inr ⟨_, vs.toArray, _, hk, rfl, rfl, rfl, by rw [List.size_toArray, lenV]; exact hl, by simpa using rv⟩) (fun b u z => by have z' : (none : Option HO) = some u := z; cases z') (fun b z => absurd rfl z) fun z => absurd rfl z
  | none =>
    refine core (fun b => if b = a then some (.frz { cls := .type "list", data := .seq vs.toArray } (.lst (ns.map V.int))) else none) (fun b => ?_) (.inl ⟨{ cls := .type "list", data := .seq vs.toArray }, if_pos rfl⟩) (fun b u z => ?_) (fun b z => ?_) fun _ => hk
    · by_cases hb : b = a
      · exact .inr ⟨_, _, if_pos hb⟩
      · exact .inl (if_neg hb)
    · by_cases hb : b = a
      · have z' := (if_pos hb).symm.trans z
        cases z'
        subst hb
        exact ⟨ha, by rw [List.length_map]; exact hl, vs, _, rv, ha⟩
      · have z' := (if_neg hb).symm.trans z
        cases z'
    · by_cases hb : b = a
      · exact hb
      · exact absurd (if_neg hb) z
theorem walk_ofG {l : PySem.W.OpenLaw} {n k : Nat} {q : Program} {loose : List Str} {XP : (Str → Option Value) → Heap → Prop} {YP : World → Heap → Prop} {d : DefRec} {K : Params → Fg} {F : GN} {x : Str}
    (hn : l.most = some n) (hn2 : n ≤ sizeLine) (hdf : d.params.defaults = []) (hr : Room k callerA)
    (hY : ∀ (w : World) (h : Heap), YP w h → (K w.params).In h)
    (hF : ∀ (w : World) (mg : Str → Option Value) (fa : Addr) (h : Heap), (K w.params).In h → h.Ns mainGlobals mg → mg d.name = some (.ref fa) →
      ∃ fd : FuncData, (∀ (s : Shared) (u : Value), BindsTo s fd ⟨[u], []⟩ [(x, u)]) ∧
        ∀ base : Heap, (K w.params).In base → base.Ns mainGlobals mg → FnG l.prog w (K w.params) mg base CX0 k fa fd [x] (spG (K w.params) F))
    (hsp : ∀ ns : List Int, ns.length ≤ n → ∃ m', F [.kl (ns.map D.int)] [] = some (.bl true, m')) :
    PySem.W.WalkO q loose XP YP l.row.toRowW d [] (fun f vs => PySem.call f vs) := by
  refine Att.attach_call hn hdf fun w s₀ s₁ mg mb fa o pm cd doc a vs ns G Y ho hd hcd hmg hobj hints hlen hg => ?_
  have KX := hY w _ Y
  obtain ⟨fd, hb, hF⟩ := hF w mg fa _ KX G.T.g hmg
  exact callG KX G.T.g G.T.b G.T.builtins G.T.nolimit hg hobj hints (Nat.le_trans hlen hn2) hr hF hb (hsp ns hlen)
end Mv

set_option Elab.async false
set_option linter.all false
set_option maxRecDepth 100000
set_option maxHeartbeats 4000000
/-! Mv12: repr of anything; what a body needs to know of a def that it calls. -/
namespace Mv
open PySem PySem.Spec PyProof.Rows L2
def rReprS : List V → Hp → VK → Prop := fun xs H Q => (∃ i, xs = [.int i] ∧ i.natAbs.log2 < 1920 ∧ Q (.str (toString i)) H) ∨ ∃ b, xs = [.bl b] ∧ Q (.str (if b then "True" else "False")) H
theorem cr_reprB {X : Cx} : CallR X (.builtin "repr") (fun xs H Q => ∃ b, xs = [.bl b] ∧ Q (.str (if b then "True" else "False")) H) := by
  intro pins s σ H xs us Q I r h
  obtain ⟨b, rfl, q⟩ := h
  obtain ⟨u, rfl, ru⟩ := Vals.one r
  obtain rfl : u = Value.bool b := ru
  refine PySem.P.repr_of_bool ?_
  exact ⟨.str _, H, I.tok _, ⟨_, rfl⟩, q⟩
theorem cr_reprA {X : Cx} (hG : X.A.guards = some []) (hu : X.A.units + 64 < cLine) : CallR X (.builtin "repr") (fun xs H Q => rRepr X.K xs H Q ∨ rReprS xs H Q) :=
  (cr_repr hG hu).or (SkE.call_repr_int.or cr_reprB)
def gReprA : GN := fun ds m => match ds with
  | [.int i] => if i.natAbs.log2 < 1920 then some (.str (toString i), m) else none
  | [.bl b] => some (.str (if b then "True" else "False"), m)
  | ds => gRepr ds m
theorem gReprA_ok {K : Fg} : RNOk K (fun xs H Q => rRepr K xs H Q ∨ rReprS xs H Q) gReprA := fun r H m xs ds d m' hm hx hg Q go => by
  unfold gReprA at hg
  split at hg
  · obtain ⟨hz, hg⟩ := iteE hg
    cases hg
    obtain ⟨v, rfl, hv⟩ := hx.one
    rw [hv.intE]
    exact .inr (.inl ⟨_, rfl, hz, go.here hm (.str _)⟩)
  · cases hg
    obtain ⟨v, rfl, hv⟩ := hx.one
    rw [hv.blE]
    exact .inr (.inr ⟨_, rfl, go.here hm (.str _)⟩)
  · exact .inl (gRepr_ok r H m xs _ d m' hm hx hg Q go)
/-- what is known of a def that is called -/
structure Kn (P : Program) (w : World) (K : Fg) (mg : Str → Option Value) (base : Heap) (x : Str) (k : Nat) (ps : List Str) (F : GN) : Prop where
  ex : ∃ f fd, FnG P w K mg base CX0 k f fd ps (spG K F) ∧ mg x = some (.ref f) ∧ PySem.W.keepIn K (.ref f) = true ∧ Binds K fd ps []
theorem kn_of {P : Program} {w : World} {K : Fg} {mg : Str → Option Value} {base : Heap} {x qual : Str} {st : Stmt} {f : Addr} {fd : FuncData} {N ps : List Str} {k : Nat} {F : GN} {g : FS} (Fu : Fun K x qual st f fd) (hmg : mg x = some (.ref f)) (hb : Binds K fd ps [])
    (Sc : FnScope N ps (defScope st)) (many : ∀ ds m z, F ds m = some z → ds.length = ps.length)
    (body : ∀ (cdv : Value) (A : Around) (outer : List Env) (s : Shared) (H : Hp) (E : XK), Room k (A.deeper (envOfC qual (defScope st) s.heap.objs.size f cdv)) → A.guards = some [] → ∃ ts, Ss (cxOf CX0 P w K mg base N qual (defScope st) f cdv A outer s H E).nox (defBody st) ts g)
    (kp : Keeps N g F) : Kn P w K mg base x (k + 1) ps F := ⟨f, fd, fn_ok Fu Sc many body kp, hmg, Fu.kp, hb⟩
theorem e_callK {X : Cx} {k : Nat} {ps : List Str} {F : GN} {x : Str} {p pos : Pos} {e : Expr} {es : List Expr} {t : TA} {fa : FA} (kn : Kn X.prog X.w X.K X.mg X.base x k ps F) (hr : Room k X.A) (hG : X.A.guards = some []) (ha : A X (e :: es) t fa) (hg : Gl X x := by rfl)
    (hdb : (x == ("__debug__" : Str)) = false := by decide) (he : starEach (e :: es) X.env = (false, eval e X.env) :: starEach es X.env := by rfl) (hpl : (backTo pos (starEach es X.env)).any (·.1) = false := by rfl) :
    E X (.Call (.Name x p) (e :: es) [] pos) (tCall (spG X.K F) [] E0 t) (fCall F fa) := by
  obtain ⟨f, fd, h1, h2, h3, h4⟩ := kn.ex
  exact e_call h1 hr hG h2 h3 h4 ha hg hdb he hpl
/-- ==, texts too -/
def gEqS : G2 := fun x y m => match x, y with
  | .str a, .str b => some (.bl (decide (a = b)), m)
  | x, y => gEq x y m
def gNeS : G2 := fun x y m => match x, y with
  | .str a, .str b => some (.bl (!decide (a = b)), m)
  | x, y => gNe x y m
theorem gEqS_ok {K : Fg} : R2Ok K (fun x y H Q => rEqD K x y H Q ∨ rEq x y H Q) gEqS := fun r H m x y dx dy d m' hm hx hy hg Q go => by
  unfold gEqS at hg
  split at hg
  · cases hg
    rw [hx.strE, hy.strE]
    refine .inr ⟨rfl, ?_⟩
    rename_i a b
    have e : decide (V.str a = V.str b) = decide (a = b) := by simp
    rw [e]
    exact go.here hm (.bl _)
  · exact .inl (gEq_ok r H m x y dx dy d m' hm hx hy hg Q go)
theorem gNeS_ok {K : Fg} : R2Ok K (fun x y H Q => rNeD K x y H Q ∨ rNe x y H Q) gNeS := fun r H m x y dx dy d m' hm hx hy hg Q go => by
  unfold gNeS at hg
  split at hg
  · cases hg
    rw [hx.strE, hy.strE]
    refine .inr ⟨rfl, ?_⟩
    rename_i a b
    have e : decide (V.str a = V.str b) = decide (a = b) := by simp
    rw [e]
    exact go.here hm (.bl _)
  · exact .inl (gNe_ok r H m x y dx dy d m' hm hx hy hg Q go)
theorem cm_eqS {X : Cx} (hu : X.A.units + 64 < cLine) : Cm X .Eq (fun x y H Q => rEqD X.K x y H Q ∨ rEq x y H Q) gEqS := ⟨(op_eqD hu).or op_eq, gEqS_ok⟩
theorem cm_neS {X : Cx} (hu : X.A.units + 64 < cLine) : Cm X .NotEq (fun x y H Q => rNeD X.K x y H Q ∨ rNe x y H Q) gNeS := ⟨(op_neD hu).or op_ne, gNeS_ok⟩
theorem blkK {X : Cx} {s : Shared} {H : Hp} {sc : Scope} {env : Env} {fp : List Addr} : (X.blk s H sc env fp).K = X.K := rfl
theorem E.to {X : Cx} {e : Expr} {te te' : TE} {f : FE} (h : E X e te f) (q : te = te') : E X e te' f := q ▸ h
theorem Ts.to {X : Cx} {e : List Expr} {te te' : TT} {f : FT} (h : Ts X e te f) (q : te = te') : Ts X e te' f := q ▸ h
theorem G.to {X : Cx} {e : Expr} {te te' : TG} {f : FG} {js : List Nat} (h : G X e te f js) (q : te = te') : G X e te' f js := q ▸ h
end Mv

set_option Elab.async false
set_option linter.all false
set_option maxRecDepth 100000
set_option maxHeartbeats 4000000
/-! Mv13: a def's function from its body; evaluation. -/
namespace Mv
open PySem PySem.Spec PyProof.Rows L2
open Classical in
/-- what a caller sees: new places are dropped where nothing of them is told -/
noncomputable def trimR (m : Mem) (d0 : D) (m0 : Mem) : D × Mem :=
  if d0.low 0 = true ∧ Kept m m0 (m0.take m.length) then (d0, m0.take m.length)
  else match d0 with
    | .loc k => match m0[k]? with
      | some (.lst xs) => if D.lowAll 0 xs = true ∧ m.length ≤ k ∧ Kept m m0 (m0.take m.length) then (.loc m.length, m0.take m.length ++ [.lst xs]) else (d0, m0)
      | _ => (d0, m0)
    | _ => (d0, m0)
theorem trimR_back (m : Mem) (d0 : D) (m0 : Mem) : Back m d0 m0 (trimR m d0 m0).1 (trimR m d0 m0).2 := by
  unfold trimR
  split
  · rename_i h
    exact .pure h.1 h.2
  · split
    · rename_i k
      split
      · rename_i xs q
        split
        · rename_i h
          exact .lst h.1 h.2.1 q h.2.2
        · exact .same
      · exact .same
    · exact .same
noncomputable def Fof (N : List Str) (n : Nat) (g : FS) : GN := fun ds m => if ds.length = n then (g (startE N ds) m).bind fun o => o.ret.map fun p => trimR m p.1 p.2 else none
theorem keeps_Fof (N : List Str) (n : Nat) (g : FS) : Keeps N g (Fof N n g) := fun ds m d m' h => by
  unfold Fof at h
  obtain ⟨_, h⟩ := iteE h
  obtain ⟨o, h1, h⟩ := bindE h
  obtain ⟨p, h2, h⟩ := mapE h
  refine ⟨o, p.1, p.2, h1, h2, ?_⟩
  have b := trimR_back m p.1 p.2
  have e1 : trimR m p.1 p.2 = (d, m') := h
  rw [e1] at b
  exact b
theorem many_Fof {N : List Str} {n : Nat} {g : FS} : ∀ ds m z, Fof N n g ds m = some z → ds.length = n := fun ds m z h => by
  unfold Fof at h
  exact (iteE h).1
theorem Kept.ext (m t : Mem) : Kept m (m ++ t) m := ⟨rfl, fun l c h => ⟨by
  have hl := (List.getElem?_eq_some_iff.mp h).1
  rw [List.getElem?_append_left hl]; exact h, .inr h⟩⟩
theorem Kept.set {m t : Mem} {l : Nat} {xs : List D} (hp : D.pureAll xs = true) : Kept m (m.set l (.lst xs) ++ t) (m.set l (.lst xs)) := ⟨by simp, fun k c h => ⟨by
  have hl := (List.getElem?_eq_some_iff.mp h).1
  rw [List.getElem?_append_left hl]; exact h, by
  by_cases e : l = k
  · subst e
    have hl : l < m.length := by simpa using (List.getElem?_eq_some_iff.mp h).1
    rw [List.getElem?_set_self hl] at h
    cases h; exact .inl (D.pureAll_low 0 _ hp)
  · rw [List.getElem?_set_ne e] at h
    exact .inr h⟩⟩
/-- told is without places: the new places fall away -/
theorem Fof_free {N : List Str} {n : Nat} {g : FS} {ds : List D} {m m1 t : Mem} {o : Out} {d : D} (hn : ds.length = n) (h : g (startE N ds) m = some o) (ho : o.ret = some (d, m1 ++ t)) (hd : d.low 0 = true) (hk : Kept m (m1 ++ t) m1) : Fof N n g ds m = some (d, m1) := by
  unfold Fof
  rw [if_pos hn, h]
  show o.ret.map _ = _
  rw [ho]
  show some (trimR m d (m1 ++ t)) = _
  have e : (m1 ++ t).take m.length = m1 := by rw [← hk.1]; simp
  unfold trimR
  rw [e, if_pos ⟨hd, hk⟩]
/-- told is data without places -/
theorem Fof_pure {N : List Str} {n : Nat} {g : FS} {ds : List D} {m m1 t : Mem} {o : Out} {d : D} (hn : ds.length = n) (h : g (startE N ds) m = some o) (ho : o.ret = some (d, m1 ++ t)) (hd : d.pure = true) (hk : Kept m (m1 ++ t) m1) : Fof N n g ds m = some (d, m1) := Fof_free hn h ho (D.pure_low 0 _ hd) hk
theorem Fof_same {N : List Str} {n : Nat} {g : FS} {ds : List D} {m : Mem} {o : Out} {d : D} {m1 : Mem} (hn : ds.length = n) (h : g (startE N ds) m = some o) (ho : o.ret = some (d, m1)) (hd : d.low 0 = false) (hl : ∀ k, d ≠ .loc k) : Fof N n g ds m = some (d, m1) := by
  unfold Fof
  rw [if_pos hn, h]
  show o.ret.map _ = _
  rw [ho]
  show some (trimR m d m1) = _
  unfold trimR
  rw [if_neg (by rw [hd]; simp)]
  cases d with
  | loc k => exact absurd rfl (hl k)
  | _ => rfl
theorem Fof_lst {N : List Str} {n : Nat} {g : FS} {ds : List D} {m m1 t : Mem} {o : Out} {k : Nat} {xs : List D} (hn : ds.length = n) (h : g (startE N ds) m = some o) (ho : o.ret = some (.loc k, m1 ++ t)) (hk : m.length ≤ k) (hx : (m1 ++ t)[k]? = some (.lst xs)) (hp : D.pureAll xs = true) (hK : Kept m (m1 ++ t) m1) :
    Fof N n g ds m = some (.loc m.length, m1 ++ [.lst xs]) := by
  unfold Fof
  rw [if_pos hn, h]
  show o.ret.map _ = _
  rw [ho]
  show some (trimR m (.loc k) (m1 ++ t)) = _
  have e : (m1 ++ t).take m.length = m1 := by rw [← hK.1]; simp
  unfold trimR
  rw [if_neg (by intro z; have z1 : decide (k < 0) = true := z.1; exact absurd (of_decide_eq_true z1) (Nat.not_lt_zero _))]
  simp only [hx]
  rw [e, if_pos ⟨D.pureAll_low 0 _ hp, hk, hK⟩]
theorem Keeps.start {N : List Str} {ds : List D} : startE N ds = ds.map some ++ List.replicate (N.length - ds.length) none := rfl

/-! ### evaluation -/
section
variable {e : Sl} {m : Mem}
theorem v_var {i : Nat} {d : D} (h : e[i]? = some (some d)) : fVar i e m = some (d, m) := by
  unfold fVar; rw [h]; rfl
theorem v_c {d : D} : fC d e m = some (d, m) := rfl
open Classical in
/-- comprehension over what stands for good -/
theorem comp_ev {b : D → Mem → Option (Option D × Mem)} {ys : List D} {f : D → Option D} (h : ∀ y ∈ ys, b y m = some (f y, m)) (xs : List D) : comp ⟨xs, none⟩ b ys m = some (ys.filterMap f, m) := by
  induction ys with
  | nil => exact if_pos trivial
  | cons y ys ih =>
    show (if (Src.live ⟨xs, none⟩ m) then _ else none) = _
    rw [if_pos (show Src.live ⟨xs, none⟩ m from trivial), h y (by simp)]
    show ((comp ⟨xs, none⟩ b ys m).map _) = _
    rw [ih fun z hz => h z (by simp [hz])]
    show some ((f y).toList ++ ys.filterMap f, m) = _
    rw [List.filterMap_cons]
    cases f y <;> rfl
open Classical in
theorem comp_evL {b : D → Mem → Option (Option D × Mem)} {ys : List D} {f : D → Option D} {xs : List D} {l : Nat} (hl : rd m l = some xs) (h : ∀ y ∈ ys, b y m = some (f y, m)) : comp ⟨xs, some l⟩ b ys m = some (ys.filterMap f, m) := by
  induction ys with
  | nil => exact if_pos hl
  | cons y ys ih =>
    show (if (Src.live ⟨xs, some l⟩ m) then _ else none) = _
    rw [if_pos (show Src.live ⟨xs, some l⟩ m from hl), h y (by simp)]
    show ((comp ⟨xs, some l⟩ b ys m).map _) = _
    rw [ih fun z hz => h z (by simp [hz])]
    show some ((f y).toList ++ ys.filterMap f, m) = _
    rw [List.filterMap_cons]
    cases f y <;> rfl
end
theorem lc_ev {fi : FI} {ft : FG} {fc : FT} {fe : FE} {own : List Nat} {e : Sl} {m : Mem} {xs : List D} (hi : fi e m = some (⟨xs, none⟩, m)) (hl : xs.length ≤ 100000) (f : D → Option D) (h : ∀ y ∈ xs, fElt ft fc fe (wipeE e own) y m = some (f y, m)) : fLc fi ft fc fe own e m = some (xs.filterMap f, m) := by
  unfold fLc
  rw [hi]
  show (if xs.length ≤ 100000 then _ else none) = _
  rw [if_pos hl]
  exact comp_ev h xs
theorem lc_evL {fi : FI} {ft : FG} {fc : FT} {fe : FE} {own : List Nat} {e : Sl} {m : Mem} {xs : List D} {l : Nat} (hi : fi e m = some (⟨xs, some l⟩, m)) (hr : rd m l = some xs) (hl : xs.length ≤ 100000) (f : D → Option D) (h : ∀ y ∈ xs, fElt ft fc fe (wipeE e own) y m = some (f y, m)) : fLc fi ft fc fe own e m = some (xs.filterMap f, m) := by
  unfold fLc
  rw [hi]
  show (if xs.length ≤ 100000 then _ else none) = _
  rw [if_pos hl]
  exact comp_evL hr h
theorem fm_some {f : D → D} (xs : List D) : xs.filterMap (fun y => some (f y)) = xs.map f := by
  induction xs with
  | nil => rfl
  | cons x xs ih => rw [List.filterMap_cons, ih]; rfl
/-- a for loop over what stands for good, by an invariant -/
theorem turns_ev {b : D → FS} {s0 : List D} (I : List D → Sl → Mem → Prop) (R : Out → Prop) (hb : ∀ x xs e m, I (x :: xs) e m → ∃ o, b x e m = some o ∧ match o with
    | .nx e1 m1 => I xs e1 m1
    | .ct e1 m1 => I xs e1 m1
    | .bk e1 m1 => R (.nx e1 m1)
    | .rt d m1 => R (.rt d m1)) (hn : ∀ e m, I [] e m → R (.nx e m)) : ∀ (xs : List D) (e : Sl) (m : Mem), I xs e m → ∃ o, turns ⟨s0, none⟩ b xs e m = some o ∧ R o
  | [], e, m, h => ⟨.nx e m, by unfold turns; exact if_pos trivial, hn e m h⟩
  | x :: xs, e, m, h => by
    obtain ⟨o, h1, h2⟩ := hb x xs e m h
    unfold turns
    rw [if_pos (show Src.live ⟨s0, none⟩ m from trivial), h1]
    cases o with
    | nx e1 m1 => exact turns_ev I R hb hn xs e1 m1 h2
    | ct e1 m1 => exact turns_ev I R hb hn xs e1 m1 h2
    | bk e1 m1 => exact ⟨_, rfl, h2⟩
    | rt d m1 => exact ⟨_, rfl, h2⟩
theorem for_ev {fi : FI} {ft : FG} {g : FS} {e : Sl} {m : Mem} {xs : List D} (hi : fi e m = some (⟨xs, none⟩, m)) (I : List D → Sl → Mem → Prop) (R : Out → Prop) (h0 : I xs e m) (hb : ∀ x xs e m, I (x :: xs) e m → ∃ o, ((ft x e m).bind fun q => g q.1 q.2) = some o ∧ match o with
    | .nx e1 m1 => I xs e1 m1
    | .ct e1 m1 => I xs e1 m1
    | .bk e1 m1 => R (.nx e1 m1)
    | .rt d m1 => R (.rt d m1)) (hn : ∀ e m, I [] e m → R (.nx e m)) : ∃ o, fsFor fi ft g e m = some o ∧ R o := by
  unfold fsFor
  rw [hi]
  exact turns_ev I R hb hn xs e m h0
/-- a while loop, by an invariant that counts down -/
theorem wh_ev {t : FT} {g : FS} (I : Nat → Sl → Mem → Prop) (R : Out → Prop) (hb : ∀ k e m, I k e m → (∃ m1, t e m = some (false, m1) ∧ R (.nx e m1)) ∨ ∃ m1, t e m = some (true, m1) ∧ 0 < k ∧ ∃ o, g e m1 = some o ∧ match o with
    | .nx e1 m2 => I (k - 1) e1 m2
    | .ct e1 m2 => I (k - 1) e1 m2
    | .bk e1 m2 => R (.nx e1 m2)
    | .rt d m2 => R (.rt d m2)) : ∀ (n k : Nat) (e : Sl) (m : Mem), k < n → I k e m → ∃ o, wh t g n e m = some o ∧ R o
  | 0, _, _, _, h, _ => absurd h (Nat.not_lt_zero _)
  | n + 1, k, e, m, h, hI => by
    unfold wh
    rcases hb k e m hI with ⟨m1, h1, h2⟩ | ⟨m1, h1, hk, o, h2, h3⟩
    · rw [h1]
      exact ⟨.nx e m1, rfl, h2⟩
    · rw [h1]
      show ∃ o', ((g e m1).bind _) = some o' ∧ R o'
      rw [h2]
      cases o with
      | nx e1 m2 => exact wh_ev I R hb n (k - 1) e1 m2 (by omega) h3
      | ct e1 m2 => exact wh_ev I R hb n (k - 1) e1 m2 (by omega) h3
      | bk e1 m2 => exact ⟨_, rfl, h3⟩
      | rt d m2 => exact ⟨_, rfl, h3⟩
end Mv

set_option Elab.async false
set_option linter.all false
set_option maxRecDepth 100000
set_option maxHeartbeats 4000000
/-! Mv14: lists by their places, memory behind a given one, walks with an invariant. -/
namespace Mv
open PySem PySem.Spec PyProof.Rows L2
def tab (n : Nat) (g : Nat → D) : List D := (List.range n).map g
theorem tab_len (n : Nat) (g : Nat → D) : (tab n g).length = n := by simp [tab]
theorem tab_get {n y : Nat} {g : Nat → D} (h : y < n) : (tab n g)[y]? = some (g y) := by
  unfold tab
  rw [List.getElem?_map, List.getElem?_range h]; rfl
theorem tab_at {n y : Nat} {g : Nat → D} (h : y < n) : atI (tab n g) (y : Int) = some (g y) := atI_nat (tab_get h)
theorem tab_congr {n : Nat} {g h : Nat → D} (q : ∀ y, y < n → g y = h y) : tab n g = tab n h := List.map_congr_left fun y hy => q y (List.mem_range.mp hy)
theorem tab_set {n y : Nat} {g : Nat → D} {v : D} : (tab n g).set y v = tab n fun z => if z = y then v else g z := by
  refine List.ext_getElem? fun i => ?_
  by_cases hi : i < n
  · rw [tab_get hi]
    by_cases e : y = i
    · subst e
      rw [List.getElem?_set_self (by rw [tab_len]; exact hi), if_pos rfl]
    · rw [List.getElem?_set_ne e, tab_get hi, if_neg (Ne.symm e)]
  · rw [List.getElem?_eq_none (by rw [List.length_set, tab_len]; omega), List.getElem?_eq_none (by rw [tab_len]; omega)]
theorem ixN_nat' {n j : Nat} (hj : j < n) : ixN n (j : Int) = some j := by
  unfold ixN
  rw [if_pos (by omega), if_pos (by omega)]
  simp
theorem tab_ix {n y : Nat} {g : Nat → D} (h : y < n) : ixN (tab n g).length (y : Int) = some y := by rw [tab_len]; exact ixN_nat' h
theorem tab_rep (n : Nat) (d : D) : (List.replicate n [d]).flatten = tab n fun _ => d := by
  refine List.ext_getElem? fun i => ?_
  have e : (List.replicate n [d]).flatten = List.replicate n d := by
    induction n with
    | zero => rfl
    | succ n ih => rw [List.replicate_succ, List.flatten_cons, ih]; rfl
  rw [e]
  by_cases hi : i < n
  · rw [tab_get hi, List.getElem?_replicate, if_pos hi]
  · rw [List.getElem?_eq_none (by simp; omega), List.getElem?_eq_none (by rw [tab_len]; omega)]
theorem tab_range (n : Nat) : rangeD 0 n = tab n fun y => .int (y : Nat) := by
  unfold rangeD tab
  refine List.map_congr_left fun y _ => ?_
  rw [Int.zero_add]
theorem tab_drop {n k : Nat} {g : Nat → D} (h : k < n) : (tab n g).drop k = g k :: (tab n g).drop (k + 1) := by
  rw [List.drop_eq_getElem_cons (by rw [tab_len]; exact h)]
  congr 1
  have := tab_get (g := g) h
  rw [List.getElem?_eq_getElem (by rw [tab_len]; exact h)] at this
  exact Option.some.inj this
theorem get_off (m L : Mem) (i : Nat) : (m ++ L)[m.length + i]? = L[i]? := by
  rw [List.getElem?_append_right (Nat.le_add_right _ _), Nat.add_sub_cancel_left]
theorem set_off (m L : Mem) (i : Nat) (c : Cell) : (m ++ L).set (m.length + i) c = m ++ L.set i c := by
  rw [List.set_append_right _ _ (Nat.le_add_right _ _), Nat.add_sub_cancel_left]
theorem rd_off {m L : Mem} {i : Nat} {xs : List D} (h : L[i]? = some (.lst xs)) : rd (m ++ L) (m.length + i) = some xs := by
  unfold rd
  rw [get_off, h]
theorem rd_of {m : Mem} {l : Nat} {xs : List D} (h : m[l]? = some (.lst xs)) : rd m l = some xs := by
  unfold rd
  rw [h]
open Classical in
theorem turns_evL {b : D → FS} {s : Src} (I : List D → Sl → Mem → Prop) (R : Out → Prop) (hl : ∀ xs e m, I xs e m → s.live m) (hb : ∀ x xs e m, I (x :: xs) e m → ∃ o, b x e m = some o ∧ match o with
    | .nx e1 m1 => I xs e1 m1
    | .ct e1 m1 => I xs e1 m1
    | .bk e1 m1 => R (.nx e1 m1)
    | .rt d m1 => R (.rt d m1)) (hn : ∀ e m, I [] e m → R (.nx e m)) : ∀ (xs : List D) (e : Sl) (m : Mem), I xs e m → ∃ o, turns s b xs e m = some o ∧ R o
  | [], e, m, h => ⟨.nx e m, by unfold turns; exact if_pos (hl _ _ _ h), hn e m h⟩
  | x :: xs, e, m, h => by
    obtain ⟨o, h1, h2⟩ := hb x xs e m h
    unfold turns
    rw [if_pos (hl _ _ _ h), h1]
    cases o with
    | nx e1 m1 => exact turns_evL I R hl hb hn xs e1 m1 h2
    | ct e1 m1 => exact turns_evL I R hl hb hn xs e1 m1 h2
    | bk e1 m1 => exact ⟨_, rfl, h2⟩
    | rt d m1 => exact ⟨_, rfl, h2⟩
theorem for_evL {fi : FI} {ft : FG} {g : FS} {e : Sl} {m m0 : Mem} {s : Src} (hi : fi e m0 = some (s, m)) (I : List D → Sl → Mem → Prop) (R : Out → Prop) (hl : ∀ xs e m, I xs e m → s.live m) (h0 : I s.xs e m) (hb : ∀ x xs e m, I (x :: xs) e m → ∃ o, ((ft x e m).bind fun q => g q.1 q.2) = some o ∧ match o with
    | .nx e1 m1 => I xs e1 m1
    | .ct e1 m1 => I xs e1 m1
    | .bk e1 m1 => R (.nx e1 m1)
    | .rt d m1 => R (.rt d m1)) (hn : ∀ e m, I [] e m → R (.nx e m)) : ∃ o, fsFor fi ft g e m0 = some o ∧ R o := by
  unfold fsFor
  rw [hi]
  exact turns_evL I R hl hb hn s.xs e m h0
theorem fSub_ev {fo fi : FE} {e : Sl} {m : Mem} {l : Nat} {k : Int} {xs : List D} {j : Nat} {d : D} (h1 : fo e m = some (.loc l, m)) (h2 : fi e m = some (.int k, m)) (h3 : m[l]? = some (.lst xs)) (h4 : ixN xs.length k = some j) : fSub fo fi d e m = some (e, m.set l (.lst (xs.set j d))) := by
  unfold fSub
  rw [h1, Option.bind_some]
  show (fi e m).bind _ = _
  rw [h2, Option.bind_some]
  simp only [h3, h4, Option.map_some]
/-- .. the list that stands i-th behind m -/
theorem fSub_off {fo fi : FE} {e : Sl} {m L : Mem} {i n y : Nat} {g : Nat → D} {d : D} (h1 : fo e (m ++ L) = some (.loc (m.length + i), m ++ L)) (h2 : fi e (m ++ L) = some (.int (y : Nat), m ++ L)) (h3 : L[i]? = some (.lst (tab n g))) (hy : y < n) :
    fSub fo fi d e (m ++ L) = some (e, m ++ L.set i (.lst (tab n fun z => if z = y then d else g z))) := by
  rw [fSub_ev h1 h2 (by rw [get_off, h3]) (tab_ix hy), set_off, tab_set]
theorem wh_ev0 {t : FT} {g : FS} (I : Nat → Sl → Mem → Prop) (R : Out → Prop) (hb : ∀ k e m, I k e m → (t e m = some (false, m) ∧ R (.nx e m)) ∨ (t e m = some (true, m) ∧ 0 < k ∧ ∃ o, g e m = some o ∧ match o with
    | .nx e1 m2 => I (k - 1) e1 m2
    | .ct e1 m2 => I (k - 1) e1 m2
    | .bk e1 m2 => R (.nx e1 m2)
    | .rt d m2 => R (.rt d m2))) (n k : Nat) (e : Sl) (m : Mem) (hk : k < n) (hI : I k e m) : ∃ o, wh t g n e m = some o ∧ R o :=
  wh_ev I R (fun k e m h => (hb k e m h).elim (fun q => .inl ⟨m, q⟩) fun q => .inr ⟨m, q⟩) n k e m hk hI
/-! ### moves -/
/-- the move f of n points -/
def mvD (n : Nat) (f : Nat → Nat) : D := .tup (tab n fun y => .int (f y : Nat))
structure IsM (n : Nat) (f : Nat → Nat) : Prop where
  lo : 1 ≤ n
  hi : n ≤ 60
  p : Cyc.Perm n f
/-- the list, point by point: where is it said of whom -/
def invF (f : Nat → Nat) : Nat → Nat → Nat
  | 0, _ => 0
  | k + 1, y => if y = f k then k else invF f k y
theorem invF_of {n : Nat} {f : Nat → Nat} (h : Cyc.Perm n f) : ∀ k, k ≤ n → ∀ j, j < k → invF f k (f j) = j
  | 0, _, j, hj => absurd hj (Nat.not_lt_zero _)
  | k + 1, hk, j, hj => by
    unfold invF
    by_cases e : f j = f k
    · rw [if_pos e]
      exact (h.inj j k (by omega) (by omega) e).symm
    · rw [if_neg e]
      have : j ≠ k := fun z => e (by rw [z])
      exact invF_of h k (by omega) j (by omega)
/-- a one-to-one function hits all -/
theorem surj {n : Nat} {f : Nat → Nat} (h : Cyc.Perm n f) {y : Nat} (hy : y < n) : ∃ x, x < n ∧ f x = y := by
  obtain ⟨h1, h2, _⟩ := h.per_spec hy
  refine ⟨Cyc.it f (Cyc.per f y - 1) y, h.it_lt hy _, ?_⟩
  show Cyc.it f (Cyc.per f y - 1 + 1) y = y
  rw [Nat.sub_add_cancel h1, h2]
theorem inv_perm {n : Nat} {f : Nat → Nat} (h : Cyc.Perm n f) : Cyc.Perm n (invF f n) := by
  refine ⟨fun y hy => ?_, fun x y hx hy e => ?_⟩
  · obtain ⟨x, h1, rfl⟩ := surj h hy
    rw [invF_of h n (Nat.le_refl _) x h1]; exact h1
  · obtain ⟨a, h1, rfl⟩ := surj h hx
    obtain ⟨b, h2, rfl⟩ := surj h hy
    rw [invF_of h n (Nat.le_refl _) a h1, invF_of h n (Nat.le_refl _) b h2] at e
    rw [e]
theorem pure_ints (n : Nat) (g : Nat → Int) : D.pureAll (tab n fun y => .int (g y)) = true := by
  unfold tab
  generalize List.range n = l
  induction l with
  | nil => rfl
  | cons x l ih => rw [List.map_cons, D.pureAll, D.pure, ih]; rfl
theorem pure_mvD (n : Nat) (f : Nat → Nat) : (mvD n f).pure = true := by
  unfold mvD
  rw [D.pure]
  exact pure_ints n _
end Mv

set_option Elab.async false
set_option linter.all false
set_option maxRecDepth 100000
set_option maxHeartbeats 4000000
/-! Mv15: own classes: attributes, instances made, isinstance; dicts with keys of ints and texts. -/
namespace Mv
open PySem PySem.Spec PyProof.Rows L2
open C8 (InsC pe_gc)

/-! ### what is known of the text's classes -/
/-- attributes of each class; built-in types and classes against classes, by isinstance -/
structure CEnv where
  flds : List (Str × List Str)
  isi : List (String × Str × Bool)
  isc : List (Str × Str × Bool)
structure CEnvOk (K : Fg) (ce : CEnv) : Prop where
  f : ∀ p ∈ ce.flds, ∀ C, ClsAt K p.1 C → InsC K C ∧ ∀ x ∈ p.2, NoAttr K C x
  i : ∀ p ∈ ce.isi, ∀ C, ClsAt K p.2.1 C → PySem.W.kitOne K (.type p.1) (.ref C) = some p.2.2
  c : ∀ p ∈ ce.isc, ∀ C' C, ClsAt K p.1 C' → ClsAt K p.2.1 C → PySem.W.kitOne K (.ref C') (.ref C) = some p.2.2
theorem ClsAt.inj {K : Fg} {n : Str} {C C' : Addr} (h : ClsAt K n C) (h' : ClsAt K n C') : C = C' := by
  have e : some (some (Value.ref C)) = some (some (Value.ref C')) := h.symm.trans h'
  cases e; rfl
/-- the instance that is meant -/
def objOf (m : Mem) : D → Option (Str × List Str × List D)
  | .ins n ks xs => some (n, ks, xs)
  | .loc l => match m[l]? with
    | some (.ob n ks xs) => some (n, ks, xs)
    | _ => none
  | _ => none
theorem objOf_ok {K : Fg} {r : List Addr} {H : Hp} {m : Mem} {v : V} {d : D} {n : Str} {ks : List Str} {xs : List D} (hm : MemOk K r H m) (hv : Val K r H v d) (h : objOf m d = some (n, ks, xs)) :
    ∃ a C dx vs, v = .ref a ∧ H a = some (.ins C dx (ks.zip vs)) ∧ ClsAt K n C ∧ ks.length = xs.length ∧ VAll K r H vs xs := by
  cases d with
  | ins n' ks' xs' =>
    cases h
    obtain ⟨a, C, dx, vs, h1, h2, _, h3, h4, h5⟩ := hv.insE
    exact ⟨a, C, dx, vs, h1, h2, h3, h4, h5⟩
  | loc l =>
    obtain ⟨a, rfl, ha⟩ := hv.locE
    have h' : (match m[l]? with | some (.ob n ks xs) => some (n, ks, xs) | _ => none) = some (n, ks, xs) := h
    split at h'
    · rename_i n' ks' xs' q
      cases h'
      obtain ⟨b, hb, vs, ⟨C, dx, h1, h2⟩, h3, h4⟩ := hm.cell l _ q
      rw [ha] at hb; cases hb
      exact ⟨a, C, dx, vs, rfl, h1, h2, h3, h4⟩
    · cases h'
  | _ => cases h
/-! ### o.f -/
def hasF (ce : CEnv) (n f : Str) : Bool := ce.flds.any fun p => decide (p.1 = n) && decide (f ∈ p.2)
theorem hasF_ok {K : Fg} {ce : CEnv} {n f : Str} {C : Addr} (ok : CEnvOk K ce) (h : hasF ce n f = true) (hc : ClsAt K n C) : InsC K C ∧ NoAttr K C f := by
  obtain ⟨p, hp, q⟩ := List.any_eq_true.mp h
  rw [Bool.and_eq_true, decide_eq_true_eq, decide_eq_true_eq] at q
  obtain ⟨e, hf⟩ := q
  subst e
  have z := ok.f p hp C hc
  exact ⟨z.1, z.2 f hf⟩
def lookO {α : Type} (f : Str) : List Str → List α → Option α
  | k :: ks, x :: xs => if f = k then some x else lookO f ks xs
  | _, _ => none
theorem lookO_ok {K : Fg} {r : List Addr} {H : Hp} {f : Str} {d : D} : ∀ {ks : List Str} {vs : List V} {xs : List D}, VAll K r H vs xs → lookO f ks xs = some d → ∃ v, (ks.zip vs).lookup f = some v ∧ Val K r H v d
  | [], _, _, _, h => by cases h
  | _ :: _, _, _, .nil, h => by cases h
  | k :: ks, _, _, .cons (v := v) (vs := vs) a b, h => by
    show ∃ w, ((k, v) :: ks.zip vs).lookup f = some w ∧ _
    unfold lookO at h
    rw [List.lookup_cons]
    split at h
    · rename_i e
      cases h
      have hb : (f == k) = true := beq_iff_eq.mpr e
      rw [hb]
      exact ⟨v, rfl, a⟩
    · rename_i e
      have hb : (f == k) = false := beq_eq_false_iff_ne.mpr e
      rw [hb]
      exact lookO_ok b h
def fFld (ce : CEnv) (f : Str) (fa : FE) : FE := fun e m => (fa e m).bind fun p => (objOf p.2 p.1).bind fun o => if hasF ce o.1 f = true then (lookO f o.2.1 o.2.2).map fun d => (d, p.2) else none
theorem e_fld {X : Cx} {a : Expr} {f : Str} {ta : TE} {fa : FE} {pos : Pos} {ce : CEnv} (ok : CEnvOk X.K ce) (ha : E X a ta fa) (hb : attributeBase a f X.env (eval a X.env) = eval a X.env := by rfl) : E X (.Attribute a f pos) (tFld X.K ta f) (fFld ce f fa) := ⟨pe_fld ha.pe hb, fun r σ H e m d m' hs hm hf Q go => by
  obtain ⟨⟨d1, m1⟩, h1, hf⟩ := bindE hf
  obtain ⟨⟨n, ks, xs⟩, h2, hf⟩ := bindE hf
  obtain ⟨h3, hf⟩ := iteE hf
  obtain ⟨d2, h4, hf⟩ := mapE hf
  cases hf
  refine ha.ok r σ H e m d1 m1 hs hm h1 _ fun r1 v1 H1 x1 hm1 hv1 => ?_
  obtain ⟨a, C, dx, vs, rfl, ea, hc, hl, hw⟩ := objOf_ok hm1 hv1 h2
  obtain ⟨i, na⟩ := hasF_ok ok h3 hc
  obtain ⟨v, lv, vv⟩ := lookO_ok hw h4
  exact ⟨a, C, dx, _, v, rfl, ea, i.cl, na, lv, (go.step x1).here hm1 vv⟩⟩
/-! ### o.f = e -/
def putO {α : Type} (f : Str) (d : α) : List Str → List α → List Str × List α
  | k :: ks, x :: xs => if k = f then (k :: ks, d :: xs) else (k :: (putO f d ks xs).1, x :: (putO f d ks xs).2)
  | _, _ => ([f], [d])
theorem putO_zip (f : Str) (v : V) : ∀ (ks : List Str) (vs : List V), putF f v (ks.zip vs) = (putO f v ks vs).1.zip (putO f v ks vs).2
  | [], vs => by cases vs <;> rfl
  | k :: ks, [] => rfl
  | k :: ks, x :: vs => by
    show (if k = f then (k, v) :: ks.zip vs else (k, x) :: putF f v (ks.zip vs)) = _
    unfold putO
    by_cases e : k = f
    · rw [if_pos e, if_pos e]; rfl
    · rw [if_neg e, if_neg e, putO_zip f v ks vs]; rfl
theorem putO_val {K : Fg} {r : List Addr} {H : Hp} {f : Str} {v : V} {d : D} (hv : Val K r H v d) : ∀ {ks : List Str} {vs : List V} {xs : List D}, ks.length = xs.length → VAll K r H vs xs →
    (putO f v ks vs).1 = (putO f d ks xs).1 ∧ VAll K r H (putO f v ks vs).2 (putO f d ks xs).2 ∧ (putO f d ks xs).1.length = (putO f d ks xs).2.length
  | [], _, _, hl, .nil => ⟨rfl, .cons hv .nil, rfl⟩
  | [], _, _, hl, .cons _ _ => by simp at hl
  | k :: ks, _, _, hl, .nil => by simp at hl
  | k :: ks, _, _, hl, .cons a b => by
    unfold putO
    by_cases e : k = f
    · rw [if_pos e, if_pos e]
      exact ⟨rfl, .cons hv b, by simpa using hl⟩
    · rw [if_neg e, if_neg e]
      obtain ⟨h1, h2, h3⟩ := putO_val (f := f) hv (ks := ks) (by simpa using hl) b
      exact ⟨by rw [h1], .cons a h2, by simpa using h3⟩
def fsFld (ce : CEnv) (f : Str) (fo fv : FE) : FS := fun e m => (fv e m).bind fun p => (fo e p.2).bind fun q => match q.1 with
  | .loc l => match q.2[l]? with
    | some (.ob n ks xs) => if hasF ce n f = true ∧ ks.length < 1000 then some (.nx e (q.2.set l (.ob n (putO f p.1 ks xs).1 (putO f p.1 ks xs).2))) else none
    | _ => none
  | _ => none
theorem s_fld {X : Cx} {o value : Expr} {f : Str} {to tv : TE} {fo fv : FE} {pos pos' : Pos} {ce : CEnv} (ok : CEnvOk X.K ce) (ho : E X o to fo) (hv : E X value tv fv) (hs : swapsWith value (some (.Attribute o f pos')) pos.line X.env = pure false := by rfl) :
    S X (.Assign [.Attribute o f pos'] value pos) (sFld X.K to tv f) (fsFld ce f fo fv) := ⟨ps_fld ho.pe hv.pe hs, fun r σ H e m out hs hm hf B go => by
  obtain ⟨⟨d1, m1⟩, h1, hf⟩ := bindE hf
  obtain ⟨⟨d2, m2⟩, h2, hf⟩ := bindE hf
  split at hf
  · rename_i l q0
    have q0' : d2 = .loc l := q0
    subst q0'
    split at hf
    · rename_i n ks xs q1
      obtain ⟨⟨h3, h4⟩, hf⟩ := iteE hf
      cases hf
      refine hv.ok r σ H e m d1 m1 hs hm h1 _ fun r1 v1 H1 x1 hm1 hv1 => ?_
      refine ho.ok r1 σ H1 e m1 _ m2 (hs.mono x1) hm1 h2 _ fun r2 v2 H2 x2 hm2 hv2 => ?_
      obtain ⟨a, rfl, ha⟩ := hv2.locE
      obtain ⟨b, hb, vs, ⟨C, dx, ea, hc⟩, hl, hw⟩ := hm2.cell l _ q1
      rw [ha] at hb; cases hb
      obtain ⟨i, na⟩ := hasF_ok ok h3 hc
      have hlv := hw.length
      refine ⟨a, C, dx, _, rfl, ea, i.cl, na, by rw [List.length_zip]; omega, ?_⟩
      rw [putO_zip]
      have ex : Ext r2 H2 r2 (upd H2 a (.ins C dx ((putO f v1 ks vs).1.zip (putO f v1 ks vs).2))) := Ext.write (List.mem_of_getElem? ha) fun u hfx z => by rw [ea] at z; cases z; exact hfx
      obtain ⟨p1, p2, p3⟩ := putO_val (f := f) (hv1.mono x2) hl hw
      have hm3 := hm2.writeC (c := .ob n (putO f d1 ks xs).1 (putO f d1 ks xs).2) ha ⟨_, ⟨C, dx, by rw [upd_same, p1], hc⟩, p3, p2.mono ex⟩ ex
      exact go r2 σ _ ((x1.trans x2).trans ex) (hs.mono ((x1.trans x2).trans ex)) hm3
    · cases hf
  · cases hf⟩
/-! ### C(e, ..) -/
section
variable {X : Cx} {k : Nat} {f C : Addr} {fd : FuncData} {ps : List Str} {sp : Sp} {E : XK} {x : Str} {p pos : Pos} {e : Expr} {es : List Expr} {t : TA}
theorem make_guards {A : Around} {C : Addr} {us : List Value} {kw : List (Str × Value)} (h : A.guards = some []) : (A.under (.builtin "type.__call__" ⟨.ref C :: us, kw⟩)).guards = some [] := by
  first | exact h | simpa [Around.under] using h
theorem run_makeG {pins : List (Addr × Obj)} {σ : L2.St} {H : Hp} {s : Shared} {Q : VK} {us : List Value} {vs : List V} (M : Mk X.K C f) (F : FnG X.prog X.w X.K X.mg X.base CX0 k f fd ps sp) (hr : Room (k + 1) X.A) (hG : X.A.guards = some []) (hb : Binds X.K fd ps [])
    (hx : Passes CX0 X E) (I : Inv X pins σ H s) (r : Vals vs us)
    (h : ∀ x dx, H x = none → H dx = none → dx ≠ x → sp (.ref x :: vs) (upd (upd H dx (.own x)) x (.ins C dx [])) (fun v H2 => v = .non ∧ Q (.ref x) H2) E) :
    wpAny (model X.prog X.w) X.A (call (.ref C) us) (EP X pins σ Q) X.xe s := by
  have hq := h (s.heap.objs.size + 1) s.heap.objs.size (I.hok.fresh (Nat.le_succ _)) (I.hok.fresh (Nat.le_refl _)) (Nat.ne_of_lt (Nat.lt_succ_self _))
  have I2 := Inv.made (C := C) I
  have r2 : Vals (V.ref (s.heap.objs.size + 1) :: vs) (Value.ref (s.heap.objs.size + 1) :: us) := .cons rfl r
  have hl : (Value.ref (s.heap.objs.size + 1) :: us ++ []).length = ps.length := by
    have e := r2.length
    rw [F.many _ _ _ _ hq] at e
    rw [List.append_nil]
    exact e.symm
  have hbt := hb _ (Value.ref (s.heap.objs.size + 1) :: us) I2.kIn hl
  rw [List.append_nil] at hbt
  refine wpAny_call (make_map (f := f) I.kIn M.makes M.init (beq_iff_eq.mp M.fn) (codeAny_mono (F.goes _ (hr.make C us []) (make_guards hG) X.stack _ _ (I2.env0.make C us []) ⟨Value.ref (s.heap.objs.size + 1) :: us, []⟩ (Value.ref (s.heap.objs.size + 1) :: us) hbt _ r2 _ E hq) ?_))
  intro r s' hq'
  cases r with
  | error e => exact hx pins σ _ _ e s' I2 hq'
  | ok fl =>
    cases fl with
    | ret u =>
      obtain ⟨v, H', I3, rv, ev, q3⟩ := I2.after hq'
      subst ev
      exact ⟨rv, ⟨V.ref (s.heap.objs.size + 1), H', I3, rfl, q3⟩⟩
    | next => exact False.elim hq'
    | brk => exact False.elim hq'
    | cont => exact False.elim hq'
def tMakeG (C : Addr) (sp : Sp) (E : XK) (t : TA) : TE := fun σ H Q => t σ H fun vs H1 => ∀ x dx, H1 x = none → H1 dx = none → dx ≠ x → sp (.ref x :: vs) (upd (upd H1 dx (.own x)) x (.ins C dx [])) (fun v H2 => v = .non ∧ Q (.ref x) H2) E
theorem pe_makeG (M : Mk X.K C f) (F : FnG X.prog X.w X.K X.mg X.base CX0 k f fd ps sp) (hr : Room (k + 1) X.A) (hG : X.A.guards = some []) (hg : Gl X x) (hm : X.mg x = some (.ref C)) (hb : Binds X.K fd ps []) (hx : Passes CX0 X E)
    (ha : PA X (e :: es) t) (hdb : (x == ("__debug__" : Str)) = false := by decide) (he : starEach (e :: es) X.env = (false, eval e X.env) :: starEach es X.env := by rfl) (hpl : (backTo pos (starEach es X.env)).any (·.1) = false := by rfl) :
    PE X (.Call (.Name x p) (e :: es) [] pos) (tMakeG C sp E t) := by
  refine ⟨fun pins s σ H Q I h => ?_⟩
  refine wpAny_Call_Name_kw (ld_glob I hg hm ?_ hdb)
  refine PySem.W.callWith_K (h₀ := X.base) I.ok.mod.kin M.kp (thn (ha.run pos pins s σ H _ I h) fun us s1 ⟨vs, H1, I1, r, q⟩ => ⟨I1.kIn, ?_⟩) he hpl
  exact run_makeG M F hr hG hb hx I1 r q
end
open Classical in
/-- the instance that was made: written no more where nothing in it is at a place -/
noncomputable def made (m1 m2 : Mem) : Option (D × Mem) := match m2[m1.length]? with
  | some (.ob n ks xs) => if D.lowAll 0 xs = true ∧ Kept m1 m2 (m2.take m1.length) then some (.ins n ks xs, m2.take m1.length) else some (.loc m1.length, m2)
  | _ => none
noncomputable def fMake (n : Str) (F : GN) (fa : FA) : FE := fun e m => (fa e m).bind fun p => (F (.loc p.2.length :: p.1) (p.2 ++ [.ob n [] []])).bind fun q => match q.1 with
  | .non => made p.2 q.2
  | _ => none
theorem made_ev {m1 t : Mem} {n : Str} {ks : List Str} {xs : List D} (h : D.lowAll 0 xs = true) : made m1 (m1 ++ .ob n ks xs :: t) = some (.ins n ks xs, m1) := by
  unfold made
  have e : (m1 ++ .ob n ks xs :: t)[m1.length]? = some (.ob n ks xs) := by simp
  have e2 : (m1 ++ .ob n ks xs :: t).take m1.length = m1 := by simp
  simp only [e]
  rw [e2, if_pos ⟨h, Kept.ext m1 _⟩]
/-- what is known of a class that is made -/
structure KnC (P : Program) (w : World) (K : Fg) (mg : Str → Option Value) (base : Heap) (x : Str) (k : Nat) (ps : List Str) (F : GN) : Prop where
  ex : ∃ C f fd, ClsAt K x C ∧ Mk K C f ∧ FnG P w K mg base CX0 k f fd ps (spG K F) ∧ mg x = some (.ref C) ∧ Binds K fd ps []
theorem makeOk {K : Fg} {C : Addr} {n : Str} {F : GN} {E : XK} {t : TA} {fa : FA} (hc : ClsAt K n C) (h : AOk K t fa) : EOk K (tMakeG C (spG K F) E t) (fMake n F fa) := fun r σ H e m d m' hs hm hf Q go => by
  obtain ⟨⟨ds, m1⟩, h1, hf⟩ := bindE hf
  obtain ⟨⟨d2, m2⟩, h2, hf⟩ := bindE hf
  refine h r σ H e m ds m1 hs hm h1 _ fun r1 vs H1 x1 hm1 hv1 => ?_
  intro x dx nx ndx nex
  split at hf
  · rename_i q0
    have q0' : d2 = .non := q0
    subst q0'
    have xa : Ext r1 H1 r1 (upd H1 dx (.own x)) := Ext.fresh ndx
    have hma : MemOk K r1 (upd H1 dx (.own x)) m1 := hm1.fresh ndx
    have nx' : upd H1 dx (.own x) x = none := by rw [upd_ne (Ne.symm nex)]; exact nx
    have xb : Ext r1 (upd H1 dx (.own x)) (r1 ++ [x]) (upd (upd H1 dx (.own x)) x (.ins C dx [])) := Ext.alloc nx'
    have hmb : MemOk K (r1 ++ [x]) (upd (upd H1 dx (.own x)) x (.ins C dx [])) (m1 ++ [.ob n [] []]) := hma.allocC nx' ⟨[], ⟨C, dx, upd_same, hc⟩, rfl, .nil⟩
    refine ⟨r1 ++ [x], .loc m1.length :: ds, m1 ++ [.ob n [] []], .non, m2, .cons (.loc (by rw [← hm1.len]; simp)) (hv1.mono (xa.trans xb)), hmb, h2, ?_⟩
    intro r2 v2 H2 x2 hm2 hv2
    refine ⟨hv2.nonE, ?_⟩
    obtain ⟨tt, er⟩ := x2.pre
    subst er
    have xx : Ext r H (r1 ++ [x] ++ tt) H2 := x1.trans ((xa.trans xb).trans x2)
    have hx : (r1 ++ [x] ++ tt)[m1.length]? = some x := by rw [← hm1.len]; simp
    have hf' : made m1 m2 = some (d, m') := hf
    unfold made at hf'
    split at hf'
    · rename_i nm ks xs q1
      split at hf'
      · rename_i hk
        cases hf'
        obtain ⟨b, hb, ws, ⟨C', dx', ea, hc'⟩, hl, hw⟩ := hm2.cell _ _ q1
        rw [hx] at hb; cases hb
        have hxr : x ∉ r1 := fun z => by
          obtain ⟨i, hi, ei⟩ := List.getElem_of_mem z
          have e1 : (r1 ++ [x] ++ tt)[i]? = some x := by rw [List.append_assoc, List.getElem?_append_left hi, List.getElem?_eq_getElem hi, ei]
          obtain ⟨g1, e1⟩ := List.getElem?_eq_some_iff.mp e1
          obtain ⟨g2, e2⟩ := List.getElem?_eq_some_iff.mp hx
          have := (List.getElem_inj hm2.nd).mp (e1.trans e2.symm)
          rw [hm1.len] at hi
          omega
        have hm2' : MemOk K (r1 ++ ([x] ++ tt)) H2 m2 := by rw [← List.append_assoc]; exact hm2
        have mo := hk.2.mem hm1 hm2'
        have x12 : Ext r1 H1 (r1 ++ ([x] ++ tt)) H2 := by
          rw [← List.append_assoc]
          exact (xa.trans xb).trans x2
        refine go r1 (.ref x) H2 (x1.trans x12.cutR) mo (.ins ea hxr hc' hl ?_)
        have hw' : VAll K (r1 ++ ([x] ++ tt)) H2 ws xs := by rw [← List.append_assoc]; exact hw
        exact hw'.cutR (D.lowAll0 _ _ hk.1)
      · cases hf'
        exact go _ (.ref x) H2 xx hm2 (.loc hx)
    · cases hf'
  · cases hf
end Mv

set_option Elab.async false
set_option linter.all false
set_option maxRecDepth 100000
set_option maxHeartbeats 4000000
/-! Mv16: isinstance of own classes; dicts: display, items, stores, in. -/
namespace Mv
open PySem PySem.Spec PyProof.Rows L2
open C8 (InsC pe_gc)

/-! ### isinstance(x, C) -/
theorem e_cls {X : Cx} {x : Str} {pos : Pos} {C : Addr} (hm : X.mg x = some (.ref C)) (hc : ClsAt X.K x C) (hg : Gl X x := by rfl) (hd : (x == ("__debug__" : Str)) = false := by decide) : E X (.Name x pos) (tC (.ref C)) (fC (.cls x)) :=
  ⟨pe_gc hg ⟨_, hm, rfl⟩ hd, cOk fun _ _ => .cls hc⟩
def look2 {α : Type} [DecidableEq α] (t : α) (n : Str) : List (α × Str × Bool) → Option Bool
  | [] => none
  | p :: r => if p.1 = t ∧ p.2.1 = n then some p.2.2 else look2 t n r
theorem look2_mem {α : Type} [DecidableEq α] {t : α} {n : Str} {b : Bool} : ∀ {l : List (α × Str × Bool)}, look2 t n l = some b → (t, n, b) ∈ l
  | [], h => by cases h
  | p :: r, h => by
    unfold look2 at h
    split at h
    · rename_i q
      cases h
      obtain ⟨p1, p2, p3⟩ := p
      have e1 : p1 = t := q.1
      have e2 : p2 = n := q.2
      rw [← e1, ← e2]
      exact List.mem_cons_self
    · exact List.mem_cons_of_mem _ (look2_mem h)
/-- the built-in type of a value -/
def tyNm (m : Mem) : D → Option String
  | .loc l => match m[l]? with
    | some (.lst _) => some "list"
    | some (.dK _ _) => some "dict"
    | some (.dT _ _) => some "dict"
    | _ => none
  | d => tyName d
theorem tyNm_ok {K : Fg} {r : List Addr} {H : Hp} {m : Mem} {v : V} {d : D} {t : String} (hm : MemOk K r H m) (hv : Val K r H v d) (h : tyNm m d = some t) : TyX K H v (.type t) := by
  cases hv with
  | non => cases h; exact .base .non
  | bl k => cases h; exact .base (.bl k)
  | int i => cases h; exact .base (.int i)
  | str z => cases h; exact .base (.str z)
  | ty z => cases h
  | cls z => cases h
  | ins a b c d e => cases h
  | stp a b c => cases h
  | ttp a b => cases h
  | tup ha hs => cases h; exact ha.ty
  | kl ha hs => cases h
  | @loc a l ha =>
    have h1' : (match m[l]? with | some (.lst _) => some "list" | some (.dK _ _) => some "dict" | some (.dT _ _) => some "dict" | _ => none) = some t := h
    split at h1'
    · rename_i ys q
      cases h1'
      obtain ⟨vs, q1, _⟩ := hm.lst ha q
      exact .base (.lst q1)
    · rename_i ks ys q
      cases h1'
      obtain ⟨b, hb, vs, q1, _⟩ := hm.cell l _ q
      have e : some a = some b := ha.symm.trans hb
      cases e
      exact .base (.dK q1)
    · rename_i ks ys q
      cases h1'
      obtain ⟨b, hb, vs, q1, _⟩ := hm.cell l _ q
      have e : some a = some b := ha.symm.trans hb
      cases e
      exact .base (.dT q1)
    · cases h1'
def gIsiC (ce : CEnv) : GN := fun ds m => match ds with
  | [d, .cls n] => (match objOf m d with
    | some o => if ce.flds.any (fun p => decide (p.1 = o.1)) = true then look2 o.1 n ce.isc else none
    | none => (tyNm m d).bind fun t => look2 t n ce.isi).map fun b => (.bl b, m)
  | [d, .ty n] => (tyNm m d).bind fun t => (kitB t n).map fun b => (.bl b, m)
  | _ => none
theorem gIsiC_ok {K : Fg} {ce : CEnv} (ok : CEnvOk K ce) : RNOk K (rIsi K) (gIsiC ce) := fun r H m xs ds d m' hm hx hg Q go => by
  unfold gIsiC at hg
  split at hg
  · rename_i d0 n
    obtain ⟨b, h1, hg⟩ := mapE hg
    cases hg
    obtain ⟨v, w, rfl, hv, hw⟩ := hx.two
    obtain ⟨C, rfl, hc⟩ := hw.clsE
    split at h1
    · rename_i o q
      obtain ⟨n', ks, xs⟩ := o
      obtain ⟨a, C', dx, vs, rfl, ea, hc', hl, hw'⟩ := objOf_ok hm hv q
      obtain ⟨hq, h1⟩ := iteE h1
      have hmem := look2_mem h1
      obtain ⟨p, hp, hn⟩ := List.any_eq_true.mp hq
      have hn' : p.1 = n' := of_decide_eq_true hn
      rw [← hn'] at hc' hmem
      obtain ⟨i, _⟩ := ok.f p hp C' hc'
      exact ⟨.ref a, .ref C, .ref C', .ref C, b, rfl, .own C, .base (.ins ea i.cl i.ha i.hn i.htk i.hm), ok.c _ hmem _ _ hc' hc, go.here hm (.bl _)⟩
    · obtain ⟨t, h2, h1⟩ := bindE h1
      exact ⟨v, .ref C, .type t, .ref C, b, rfl, .own C, tyNm_ok hm hv h2, ok.i _ (look2_mem h1) _ hc, go.here hm (.bl _)⟩
  · rename_i d0 n
    obtain ⟨t, h1, hg⟩ := bindE hg
    obtain ⟨b, h2, hg⟩ := mapE hg
    cases hg
    obtain ⟨v, w, rfl, hv, hw⟩ := hx.two
    have ew := hw.tyE
    subst ew
    exact ⟨v, .ty n, .type t, .type n, b, rfl, .ty n, tyNm_ok hm hv h1, kit_ty h2, go.here hm (.bl _)⟩
  · cases hg
end Mv

set_option Elab.async false
set_option linter.all false
set_option maxRecDepth 100000
set_option maxHeartbeats 4000000
/-! Mv17: dicts: items, in, stores, displays. -/
namespace Mv
open PySem PySem.Spec PyProof.Rows L2

/-! ### keys -/
def keyD : D → Option Key
  | .int i => some (.inl i)
  | .str s => some (.inr s)
  | _ => none
def keyL : List D → Option (List Key)
  | [] => some []
  | d :: ds => (keyD d).bind fun k => (keyL ds).map fun ks => k :: ks
theorem keyD_ok {K : Fg} {r : List Addr} {H : Hp} {v : V} {d : D} {k : Key} (hv : Val K r H v d) (h : keyD d = some k) : v = kV k := by
  cases d with
  | int i => cases h; rw [hv.intE]; rfl
  | str i => cases h; rw [hv.strE]; rfl
  | _ => cases h
theorem keyL_ok {K : Fg} {r : List Addr} {H : Hp} : ∀ {ds : List D} {vs : List V} {ks : List Key}, VAll K r H vs ds → keyL ds = some ks → vs = ks.map kV
  | [], _, _, .nil, h => by cases h; rfl
  | d :: ds, _, _, .cons a b, h => by
    obtain ⟨k, h1, h⟩ := bindE h
    obtain ⟨ks, h2, h⟩ := mapE h
    cases h
    rw [keyD_ok a h1, keyL_ok b h2]; rfl
section
variable {κ : Type} [DecidableEq κ]
def lookK (k : κ) : List κ → List D → Option D
  | k' :: ks, x :: xs => if k' = k then some x else lookK k ks xs
  | _, _ => none
theorem lookK_val {K : Fg} {r : List Addr} {H : Hp} {k : κ} : ∀ {ks : List κ} {vs : List V} {xs : List D}, VAll K r H vs xs →
    (∀ d, lookK k ks xs = some d → ∃ v, valV (ks.zip vs) k = some v ∧ Val K r H v d) ∧ (lookK k ks xs = none → valV (ks.zip vs) k = none)
  | [], vs, _, _ => ⟨fun d h => by simp [lookK] at h, fun _ => rfl⟩
  | k' :: ks, _, _, .nil => ⟨fun d h => by simp [lookK] at h, fun _ => rfl⟩
  | k' :: ks, _, _, .cons (v := v) (vs := vs) a b => by
    have ih := lookK_val (k := k) (ks := ks) b
    unfold lookK
    by_cases e : k' = k
    · rw [if_pos e]
      exact ⟨fun d h => by cases h; exact ⟨v, valV_pos (p := (k', v)) e, a⟩, fun h => by cases h⟩
    · rw [if_neg e]
      refine ⟨fun d h => ?_, fun h => ?_⟩
      · obtain ⟨w, h1, h2⟩ := ih.1 d h
        exact ⟨w, by rw [List.zip_cons_cons, valV_neg (p := (k', v)) e]; exact h1, h2⟩
      · rw [List.zip_cons_cons, valV_neg (p := (k', v)) e]; exact ih.2 h
theorem lookK_some {K : Fg} {r : List Addr} {H : Hp} {k : κ} {ks : List κ} {vs : List V} {xs : List D} (h : VAll K r H vs xs) : (valV (ks.zip vs) k).isSome = (lookK k ks xs).isSome := by
  have q := lookK_val (k := k) (ks := ks) h
  cases e : lookK k ks xs with
  | none => rw [q.2 e]; rfl
  | some d => obtain ⟨v, h1, _⟩ := q.1 d e; rw [h1]; rfl
/-- in its place, or at the end -/
def putD {α : Type} (k : κ) (x : α) (ks : List κ) (xs : List α) : List κ × List α := if k ∈ ks then (ks, List.zipWith (fun k' y => if k' = k then x else y) ks xs) else (ks ++ [k], xs ++ [x])
theorem any_zip {k : κ} : ∀ {ks : List κ} {vs : List V}, ks.length = vs.length → ((ks.zip vs).any fun kv => decide (kv.1 = k)) = decide (k ∈ ks)
  | [], _, _ => by simp
  | k' :: ks, [], h => by simp at h
  | k' :: ks, v :: vs, h => by
    rw [List.zip_cons_cons, List.any_cons, any_zip (ks := ks) (by simpa using h)]
    by_cases e : k' = k
    · simp [e]
    · have e2 : ¬ k = k' := fun z => e z.symm
      simp [e, e2]
theorem map_zip {k : κ} {v : V} : ∀ {ks : List κ} {vs : List V}, ((ks.zip vs).map fun kv => if kv.1 = k then (kv.1, v) else kv) = ks.zip (List.zipWith (fun k' y => if k' = k then v else y) ks vs)
  | [], _ => rfl
  | k' :: ks, [] => rfl
  | k' :: ks, w :: vs => by
    rw [List.zip_cons_cons, List.map_cons, map_zip (ks := ks), List.zipWith_cons_cons, List.zip_cons_cons]
    congr 1
    show (if k' = k then (k', v) else (k', w)) = _
    by_cases e : k' = k
    · rw [if_pos e, if_pos e]
    · rw [if_neg e, if_neg e]
theorem zipWith_val {K : Fg} {r : List Addr} {H : Hp} {k : κ} {v : V} {d : D} (hv : Val K r H v d) : ∀ {ks : List κ} {vs : List V} {xs : List D}, VAll K r H vs xs → VAll K r H (List.zipWith (fun k' y => if k' = k then v else y) ks vs) (List.zipWith (fun k' y => if k' = k then d else y) ks xs)
  | [], _, _, _ => by rw [List.zipWith_nil_left, List.zipWith_nil_left]; exact .nil
  | k' :: ks, _, _, .nil => by rw [List.zipWith_nil_right, List.zipWith_nil_right]; exact .nil
  | k' :: ks, _, _, .cons a b => by
    rw [List.zipWith_cons_cons, List.zipWith_cons_cons]
    refine .cons ?_ (zipWith_val hv b)
    by_cases e : k' = k
    · rw [if_pos e, if_pos e]; exact hv
    · rw [if_neg e, if_neg e]; exact a
theorem putD_val {K : Fg} {r : List Addr} {H : Hp} {k : κ} {v : V} {d : D} {ks : List κ} {vs : List V} {xs : List D} (hl : ks.length = xs.length) (h : VAll K r H vs xs) (hv : Val K r H v d) :
    putK (ks.zip vs) k v = (putD k d ks xs).1.zip (putD k v ks vs).2 ∧ (putD k d ks xs).1.length = (putD k d ks xs).2.length ∧ VAll K r H (putD k v ks vs).2 (putD k d ks xs).2 := by
  have hlv : ks.length = vs.length := by rw [h.length]; exact hl
  unfold putK putD
  rw [any_zip hlv]
  by_cases e : k ∈ ks
  · rw [if_pos (decide_eq_true e), if_pos e, if_pos e, map_zip]
    refine ⟨rfl, ?_, zipWith_val hv h⟩
    simp [hl]
  · rw [if_neg (by rw [decide_eq_false e]; simp), if_neg e, if_neg e]
    refine ⟨?_, by simp [hl], h.append (.cons hv .nil)⟩
    show ks.zip vs ++ [(k, v)] = (ks ++ [k]).zip (vs ++ [v])
    rw [List.zip_append hlv]; rfl
end
/-! ### d[k] -/
def ixD (m : Mem) (x y : D) : Option D := match x with
  | .loc l => match m[l]? with
    | some (.dK ks xs) => (keyD y).bind fun k => lookK k ks xs
    | some (.dT ks xs) => match y with
      | .tup ys => (keyL ys).bind fun k => lookK k ks xs
      | _ => none
    | _ => none
  | _ => none
def isDict (m : Mem) : D → Bool
  | .loc l => match m[l]? with
    | some (.dK _ _) => true
    | some (.dT _ _) => true
    | _ => false
  | _ => false
def gIxA : G2 := fun x y m => if isDict m x = true then (ixD m x y).map fun d => (d, m) else gIx x y m
/-- a dict asked: also by tuples that stand written -/
def DGetA (K : Fg) (H : Hp) (a : Addr) (y : V) (r : Option V) : Prop :=
  (∃ kvs k, H a = some (.dK kvs) ∧ y = kV k ∧ r = valV kvs k) ∨ ∃ kvs k b, H a = some (.dT kvs) ∧ y = .ref b ∧ SqT K H b (k.map kV) ∧ r = valV kvs k
section
variable {X : Cx} {pins : List (Addr × Obj)} {σ : L2.St} {H : Hp} {s : Shared} {a : Addr} {y v : V} {u r : Value} {o : Option V} {A : Around} {E : Value → Shared → Prop}
theorem key_ofT {b : Addr} {k : List Key} (I : Inv X pins σ H s) (h : SqT X.K H b (k.map kV)) : (tupleKind (mixKind X.prog X.w)).is s.heap k b := by
  obtain ⟨its, r, pl, hz⟩ := I.tuple h
  obtain ⟨o, h1, h2, n, h3⟩ := pl
  exact ⟨o, its.toArray, n, h1, h2, h3, by simpa using items_are r⟩
theorem d_getItemA {Q : Value → Shared → Prop} (hu : A.units + 1 < cLine) (I : Inv X pins σ H s) (g : DGetA X.K H a y (some v)) (ry : RelV y u) (h : ∀ w' s', Inv X pins σ H s' → RelV v w' → Q w' s') :
    wpAny (model X.prog X.w) A (getItem (.ref a) u) Q E s := by
  rcases g with ⟨kvs, k, e, ey, l⟩ | ⟨kvs, k, b, e, ey, eb, l⟩
  · exact d_getItem hu I (.inl ⟨kvs, k, .inl e, ey, l⟩) ry h
  · subst ey
    cases (show u = Value.ref b from ry)
    obtain ⟨z, hd, xs, rel, dd⟩ := dt_of I.hok e
    obtain ⟨w', hw, rw'⟩ := RelO.some_of (v := v) (o := (atKey xs k).map (·.2)) (by rw [l]; exact rel.val k)
    obtain ⟨p, hp, hp2⟩ := Option.map_eq_some_iff.mp hw
    refine wpAny_getItem_heap (tupleKind_room_in1 hu) (key_ofT I eb) dd hp ?_
    rw [hp2]
    exact h w' _ (I.tok _) rw'
theorem dictA_typeIs (I : Inv X pins σ H s) (g : DGetA X.K H a y o) : s.TypeIs (.ref a) "dict" := by
  rcases g with ⟨kvs, k, e, _, _⟩ | ⟨kvs, k, b, e, _, _, _⟩
  · obtain ⟨_, _, vs, _, dd⟩ := dk_of I.hok e
    exact dd.typeIs
  · obtain ⟨_, _, xs, _, dd⟩ := dt_of I.hok e
    exact dd.typeIs
theorem d_inA {Q : Value → Shared → Prop} (hu : A.units + 1 < cLine) (I : Inv X pins σ H s) (g : DGetA X.K H a y o) (ry : RelV y u) (h : ∀ s', Inv X pins σ H s' → Q (.bool o.isSome) s') :
    wpAny (model X.prog X.w) A (compareOp .In u (.ref a)) Q E s := by
  rcases g with ⟨kvs, k, e, ey, l⟩ | ⟨kvs, k, b, e, ey, eb, l⟩
  · exact d_in hu I (.inl ⟨kvs, k, .inl e, ey, l⟩) ry h
  · subst ey
    cases (show u = Value.ref b from ry)
    obtain ⟨z, hd, xs, rel, dd⟩ := dt_of I.hok e
    refine wpAny_in_heap (tupleKind_room_in1 hu) (key_ofT I eb) hd dd ?_
    have q := (rel.val k).isSome_eq
    rw [Option.isSome_map] at q
    rw [← q, ← l]
    exact h _ (I.tok _)
theorem d_notInA {Q : Value → Shared → Prop} (hu : A.units + 1 < cLine) (I : Inv X pins σ H s) (g : DGetA X.K H a y o) (ry : RelV y u) (h : ∀ s', Inv X pins σ H s' → Q (.bool (!o.isSome)) s') :
    wpAny (model X.prog X.w) A (compareOp .NotIn u (.ref a)) Q E s := by
  rcases g with ⟨kvs, k, e, ey, l⟩ | ⟨kvs, k, b, e, ey, eb, l⟩
  · exact d_notIn hu I (.inl ⟨kvs, k, .inl e, ey, l⟩) ry h
  · subst ey
    cases (show u = Value.ref b from ry)
    obtain ⟨z, hd, xs, rel, dd⟩ := dt_of I.hok e
    refine wpAny_notIn_heap (tupleKind_room_in1 hu) (key_ofT I eb) hd dd ?_
    have q := (rel.val k).isSome_eq
    rw [Option.isSome_map] at q
    rw [← q, ← l]
    exact h _ (I.tok _)
end
def rIxD (K : Fg) : R2 := fun x y H Q => ∃ a v, x = .ref a ∧ DGetA K H a y (some v) ∧ Q v H
theorem ix_dict {X : Cx} (hu : X.A.units + 1 < cLine) : IxR X (rIxD X.K) := by
  intro value slice pins s σ H x y v u Q I rx ry h hs
  obtain ⟨a, w, rfl, g, q⟩ := h
  cases (show v = Value.ref a from rx)
  have hT := dictA_typeIs I g
  unfold subscriptTail
  refine wpAny_bind ?_
  rw [getitemInPython_of_ne hT.not_modules]
  refine wpAny_bind (wpAny_specialOf hT PySem.F.slot_dict_getitem.lookup ?_)
  have fin : wpAny (model X.prog X.w) X.A (subscripted slice false (.ref a) u) (fun r s₃ => wpAny (model X.prog X.w) X.A (letTemporaryGo value (.ref a) r >>= fun _ => pure r) (EP X pins σ Q) X.xe s₃) X.xe s := by
    rw [hs]
    exact wpAny_operating (d_getItemA hu I g ry fun w' s' I' rw' => wpAny_bind (wpAny_letTemporaryGo (wpAny_pure ⟨w, H, I', rw', q⟩)))
  first
    | exact wpAny_pure (wpAny_bind fin)
    | exact wpAny_bind (wpAny_pure (wpAny_bind fin))
    | exact wpAny_bind fin
/-- what a dict at a place tells -/
theorem ixD_ok {K : Fg} {r : List Addr} {H : Hp} {m : Mem} {x y : V} {dx dy : D} (hm : MemOk K r H m) (hx : Val K r H x dx) (hy : Val K r H y dy) (hd : isDict m dx = true) : ∃ a, x = .ref a ∧
    (∀ d, ixD m dx dy = some d → ∃ v, DGetA K H a y (some v) ∧ Val K r H v d) := by
  cases dx with
  | loc l =>
    obtain ⟨a, rfl, ha⟩ := hx.locE
    refine ⟨a, rfl, fun d h => ?_⟩
    have h' := h
    dsimp only [ixD] at h'
    split at h'
    · rename_i ks xs q
      obtain ⟨k, h1, h2⟩ := bindE h'
      obtain ⟨b, hb, vs, ea, hl, hw⟩ := hm.cell l _ q
      rw [ha] at hb; cases hb
      obtain ⟨v, h3, h4⟩ := (lookK_val (k := k) (ks := ks) hw).1 d h2
      exact ⟨v, .inl ⟨_, k, ea, keyD_ok hy h1, h3.symm⟩, h4⟩
    · rename_i ks xs q
      split at h'
      · rename_i ys _
        obtain ⟨k, h1, h2⟩ := bindE h'
        obtain ⟨b, hb, vs, ea, hl, hw⟩ := hm.cell l _ q
        rw [ha] at hb; cases hb
        obtain ⟨t, ts, rfl, ht, hts⟩ := hy.tupE
        obtain ⟨v, h3, h4⟩ := (lookK_val (k := k) (ks := ks) hw).1 d h2
        have e := keyL_ok hts h1
        subst e
        exact ⟨v, .inr ⟨_, k, t, ea, rfl, ht.sq, h3.symm⟩, h4⟩
      · cases h'
    · cases h'
  | _ => cases hd
theorem gIxA_ok {K : Fg} : R2Ok K (fun x y H Q => rIx K x y H Q ∨ rIxD K x y H Q) gIxA := fun r H m x y dx dy d m' hm hx hy hg Q go => by
  unfold gIxA at hg
  split at hg
  · rename_i hd
    obtain ⟨d0, h1, hg⟩ := mapE hg
    cases hg
    obtain ⟨a, rfl, q⟩ := ixD_ok hm hx hy hd
    obtain ⟨v, g, hv⟩ := q _ h1
    exact .inr ⟨a, v, rfl, g, go.here hm hv⟩
  · exact .inl (gIx_ok r H m x y dx dy d m' hm hx hy hg Q go)
theorem e_ixA {X : Cx} {a b : Expr} {ta tb : TE} {fa fb : FE} {pos : Pos} (hu : X.A.units + 1 < cLine) (ha : E X a ta fa) (hb : E X b tb fb) (hs : PlainIx b := by intro _ _; rfl) : E X (.Subscript a b pos) (tOp (fun x y H Q => rIx X.K x y H Q ∨ rIxD X.K x y H Q) ta tb) (fOp gIxA fa fb) :=
  ⟨pe_ix (ix_seq.or (ix_dict hu)) ha.pe hb.pe hs, opOk gIxA_ok ha.ok hb.ok⟩
/-! ### x in y -/
def toV : D → Option V
  | .non => some .non | .bl b => some (.bl b) | .int i => some (.int i) | .str s => some (.str s) | _ => none
def toVs : List D → Option (List V)
  | [] => some []
  | d :: ds => (toV d).bind fun v => (toVs ds).map fun vs => v :: vs
theorem toV_ok {K : Fg} {r : List Addr} {H : Hp} {v w : V} {d : D} (hv : Val K r H v d) (h : toV d = some w) : v = w ∧ flatV v = true := by
  cases d with
  | non => cases h; rw [hv.nonE]; exact ⟨rfl, rfl⟩
  | bl b => cases h; rw [hv.blE]; exact ⟨rfl, rfl⟩
  | int i => cases h; rw [hv.intE]; exact ⟨rfl, rfl⟩
  | str i => cases h; rw [hv.strE]; exact ⟨rfl, rfl⟩
  | _ => cases h
theorem toVs_ok {K : Fg} {r : List Addr} {H : Hp} : ∀ {ds : List D} {vs ws : List V}, VAll K r H vs ds → toVs ds = some ws → vs = ws ∧ vs.all flatV = true
  | [], _, _, .nil, h => by cases h; exact ⟨rfl, rfl⟩
  | d :: ds, _, _, .cons a b, h => by
    obtain ⟨w, h1, h⟩ := bindE h
    obtain ⟨ws, h2, h⟩ := mapE h
    cases h
    obtain ⟨e1, f1⟩ := toV_ok a h1
    obtain ⟨e2, f2⟩ := toVs_ok b h2
    exact ⟨by rw [e1, e2], by rw [List.all_cons, f1, f2]; rfl⟩
/-- whether x is in y -/
def inD (m : Mem) (x y : D) : Option Bool := match y with
  | .tup ys => (toV x).bind fun v => (toVs ys).map fun vs => inV v vs
  | .kl ys => (toV x).bind fun v => (toVs ys).map fun vs => inV v vs
  | .str z => match x with
    | .str w => match w.cps.toList with
      | [c] => some (decide (c ∈ z.cps.toList))
      | _ => none
    | _ => none
  | .loc l => match m[l]? with
    | some (.lst ys) => (toV x).bind fun v => (toVs ys).map fun vs => inV v vs
    | some (.dK ks xs) => (keyD x).map fun k => (lookK k ks xs).isSome
    | some (.dT ks xs) => match x with
      | .tup ys => (keyL ys).map fun k => (lookK k ks xs).isSome
      | _ => none
    | _ => none
  | _ => none
def rInDict (K : Fg) (neg : Bool) : R2 := fun y x H Q => ∃ a o, x = .ref a ∧ DGetA K H a y o ∧ Q (.bl (if neg then !o.isSome else o.isSome)) H
def rInSgn (neg : Bool) : R2 := fun x y H Q => ∃ (c : Nat) (z : Str), x = .str ⟨#[c]⟩ ∧ y = .str z ∧ Q (.bl (if neg then !decide (c ∈ z.cps.toList) else decide (c ∈ z.cps.toList))) H
def rInA (K : Fg) (neg : Bool) : R2 := fun x y H Q => rIn K neg x y H Q ∨ rInDict K neg x y H Q ∨ rInSgn neg x y H Q
theorem op_inA {X : Cx} (hu : X.A.units + 1 < cLine) : OpR X (compareOp .In) (rInA X.K false) := by
  refine op_in_seq.or (OpR.or ?_ ?_)
  · intro pins s σ H x y v u Q I rx ry h
    obtain ⟨a, o, rfl, g, q⟩ := h
    cases (show u = Value.ref a from ry)
    exact d_inA hu I g rx fun s' I' => ⟨.bl o.isSome, H, I', rfl, q⟩
  · exact op_in_sign
theorem op_notInA {X : Cx} (hu : X.A.units + 1 < cLine) : OpR X (compareOp .NotIn) (rInA X.K true) := by
  refine op_notIn_seq.or (OpR.or ?_ ?_)
  · intro pins s σ H x y v u Q I rx ry h
    obtain ⟨a, o, rfl, g, q⟩ := h
    cases (show u = Value.ref a from ry)
    exact d_notInA hu I g rx fun s' I' => ⟨.bl (!o.isSome), H, I', rfl, q⟩
  · exact op_notIn_sign
def gIn (neg : Bool) : G2 := fun x y m => (inD m x y).map fun b => (.bl (if neg then !b else b), m)
theorem gIn_ok {K : Fg} {neg : Bool} : R2Ok K (rInA K neg) (gIn neg) := fun r H m x y dx dy d m' hm hx hy hg Q go => by
  obtain ⟨b, h, hg⟩ := mapE hg
  cases hg
  unfold inD at h
  split at h
  · rename_i ys
    obtain ⟨v, h1, h⟩ := bindE h
    obtain ⟨vs, h2, h⟩ := mapE h
    cases h
    obtain ⟨a, ws, rfl, ha, hw⟩ := hy.tupE
    obtain ⟨e1, f1⟩ := toV_ok hx h1
    obtain ⟨e2, f2⟩ := toVs_ok hw h2
    subst e1; subst e2
    exact .inl ⟨a, ws, rfl, .inr ha.sq, f1, f2, go.here hm (.bl _)⟩
  · rename_i ys
    obtain ⟨v, h1, h⟩ := bindE h
    obtain ⟨vs, h2, h⟩ := mapE h
    cases h
    obtain ⟨a, ws, rfl, ha, hw⟩ := hy.klE
    obtain ⟨e1, f1⟩ := toV_ok hx h1
    obtain ⟨e2, f2⟩ := toVs_ok hw h2
    subst e1; subst e2
    exact .inl ⟨a, ws, rfl, .inl ha.sq, f1, f2, go.here hm (.bl _)⟩
  · rename_i z
    split at h
    · rename_i w
      split at h
      · rename_i c hc
        cases h
        have e : w = ⟨#[c]⟩ := by
          cases w with
          | mk a =>
            have : a.toList = [c] := hc
            congr 1
            exact Array.toList_inj.mp (by rw [this])
        rw [hy.strE, hx.strE, e]
        exact .inr (.inr ⟨c, z, rfl, rfl, go.here hm (.bl _)⟩)
      · cases h
    · cases h
  · rename_i l
    obtain ⟨a, rfl, ha⟩ := hy.locE
    split at h
    · rename_i ys q
      obtain ⟨v, h1, h⟩ := bindE h
      obtain ⟨vs, h2, h⟩ := mapE h
      cases h
      obtain ⟨ws, ea, hw⟩ := hm.lst ha q
      obtain ⟨e1, f1⟩ := toV_ok hx h1
      obtain ⟨e2, f2⟩ := toVs_ok hw h2
      subst e1; subst e2
      exact .inl ⟨a, ws, rfl, .inl (.of ea), f1, f2, go.here hm (.bl _)⟩
    · rename_i ks xs q
      obtain ⟨k, h1, h⟩ := mapE h
      cases h
      obtain ⟨b, hb, vs, ea, hl, hw⟩ := hm.cell l _ q
      rw [ha] at hb; cases hb
      refine .inr (.inl ⟨a, valV (ks.zip vs) k, rfl, .inl ⟨_, k, ea, keyD_ok hx h1, rfl⟩, ?_⟩)
      rw [lookK_some hw]
      exact go.here hm (.bl _)
    · rename_i ks xs q
      split at h
      · rename_i ys
        obtain ⟨k, h1, h⟩ := mapE h
        cases h
        obtain ⟨b, hb, vs, ea, hl, hw⟩ := hm.cell l _ q
        rw [ha] at hb; cases hb
        obtain ⟨t, ts, rfl, ht, hts⟩ := hx.tupE
        have e := keyL_ok hts h1
        subst e
        refine .inr (.inl ⟨a, valV (ks.zip vs) k, rfl, .inr ⟨_, k, t, ea, rfl, ht.sq, rfl⟩, ?_⟩)
        rw [lookK_some hw]
        exact go.here hm (.bl _)
      · cases h
    · cases h
  · cases h
theorem cm_in {X : Cx} (hu : X.A.units + 1 < cLine) : Cm X .In (rInA X.K false) (gIn false) := ⟨op_inA hu, gIn_ok⟩
theorem cm_notin {X : Cx} (hu : X.A.units + 1 < cLine) : Cm X .NotIn (rInA X.K true) (gIn true) := ⟨op_notInA hu, gIn_ok⟩
end Mv

set_option Elab.async false
set_option linter.all false
set_option maxRecDepth 100000
set_option maxHeartbeats 4000000
/-! Mv18: stores into dicts; dict displays; set(texts). -/
namespace Mv
open PySem PySem.Spec PyProof.Rows L2

/-! ### d[k] = v -/
def rPutD (K : Fg) : TSet := fun o i v H Q => (∃ (a : Addr) (ks : List Key) (vs : List V) (k : Key), o = .ref a ∧ i = kV k ∧ H a = some (.dK (ks.zip vs)) ∧ (ks.zip vs).length < sizeLine ∧ Q (upd H a (.dK (putK (ks.zip vs) k v)))) ∨
  ∃ (a : Addr) (ks : List (List Key)) (vs : List V) (k : List Key) (b : Addr), o = .ref a ∧ i = .ref b ∧ H b = some (.tup (k.map kV)) ∧ H a = some (.dT (ks.zip vs)) ∧ (ks.zip vs).length < sizeLine ∧ Q (upd H a (.dT (putK (ks.zip vs) k v)))
theorem set_dictA {X : Cx} (hu : X.A.units + 1 < cLine) : PSet X (fun o i v H Q => rSetL o i v H Q ∨ rPutD X.K o i v H Q) := by
  intro pins s σ H o i v ov iv u Q I ro ri rv h
  rcases h with h | ⟨a, ks, vs, k, eo, ei, ea, hl, q⟩ | ⟨a, ks, vs, k, b, eo, ei, eb, ea, hl, q⟩
  · exact set_list pins s σ H o i v ov iv u Q I ro ri rv h
  · subst eo; subst ei
    exact set_dict hu pins s σ H _ _ v ov iv u Q I ro ri rv ⟨a, _, rfl, .inl ⟨_, k, ea, rfl, hl, rfl⟩, q⟩
  · subst eo; subst ei
    exact set_dict hu pins s σ H _ _ v ov iv u Q I ro ri rv ⟨a, _, rfl, .inr ⟨_, k, b, ea, rfl, eb, hl, rfl⟩, q⟩
/-- a tuple that was laid, not written -/
def fSubA (fo fi : FE) : FG := fun d e m => (fo e m).bind fun p => (fi e p.2).bind fun q => match p.1 with
  | .loc l => match q.2[l]? with
    | some (.lst xs) => match q.1 with
      | .int k => (ixN xs.length k).map fun j => (e, q.2.set l (.lst (xs.set j d)))
      | _ => none
    | some (.dK ks xs) => (keyD q.1).bind fun k => if xs.length < 100000 then some (e, q.2.set l (.dK (putD k d ks xs).1 (putD k d ks xs).2)) else none
    | _ => none
  | _ => none
theorem MemOk.dK {K : Fg} {r : List Addr} {H : Hp} {m : Mem} {l : Nat} {a : Addr} {ks : List Key} {xs : List D} (hm : MemOk K r H m) (ha : r[l]? = some a) (q : m[l]? = some (.dK ks xs)) : ∃ vs, H a = some (.dK (ks.zip vs)) ∧ ks.length = xs.length ∧ VAll K r H vs xs := by
  obtain ⟨b, hb, vs, ea, hl, hw⟩ := hm.cell l _ q
  rw [ha] at hb; cases hb
  exact ⟨vs, ea, hl, hw⟩
theorem g_subA {X : Cx} {o i : Expr} {to ti : TE} {fo fi : FE} {pos : Pos} (hu : X.A.units + 1 < cLine) (ho : E X o to fo) (hi : E X i ti fi)
    (ha : ∀ v, assign (.Subscript o i pos) X.env v = (do
      let ov ← holding [v] (eval o X.env)
      let iv ← holding [v, ov] (eval i X.env)
      standAt pos
      holding [v, ov, iv] (setItem ov iv v)
      release [v, ov, iv] []) := by intro _; rfl) : G X (.Subscript o i pos) (L2.gSub to ti (fun o i v H Q => rSetL o i v H Q ∨ rPutD X.K o i v H Q)) (fSubA fo fi) [] := ⟨pg_sub ho.pe hi.pe (set_dictA hu) ha, fun r σ H e m v d e1 m1 hs hm hv hf Q g => by
  obtain ⟨⟨d1, m2⟩, q1, hf⟩ := bindE hf
  obtain ⟨⟨d2, m3⟩, q2, hf⟩ := bindE hf
  dsimp only at hf q2
  cases d1 with
  | loc l =>
    dsimp only at hf
    refine ho.ok r σ H e m _ _ hs hm q1 _ fun r1 v1 H1 x1 hm1 hv1 => ?_
    refine hi.ok r1 σ H1 e _ _ _ (hs.mono x1) hm1 q2 _ fun r2 v2 H2 x2 hm2 hv2 => ?_
    obtain ⟨a, e1', ha⟩ := (hv1.mono x2).locE
    have x12 := x1.trans x2
    split at hf
    · rename_i xs z3
      cases d2 with
      | int k =>
        dsimp only at hf
        obtain ⟨j, h4, hf⟩ := mapE hf
        cases hf
        obtain ⟨vs, w1, w2⟩ := hm2.lst ha z3
        have ew : Ext r2 H2 r2 (upd H2 a (.lst (vs.set j v))) := Ext.write (List.mem_of_getElem? ha) fun u hf z => by rw [w1] at z; cases z; exact hf
        refine .inl ⟨a, vs, k, j, e1', hv2.intE, w1, by rw [w2.length]; exact h4, ?_⟩
        exact g r2 σ _ (x12.trans ew) (hs.mono (x12.trans ew)) (hm2.write ha w1 (w2.set j (hv.mono x12))) (fun _ _ => rfl) rfl
      | _ => cases hf
    · rename_i ks xs z3
      obtain ⟨k, h4, hf⟩ := bindE hf
      obtain ⟨h5, hf⟩ := iteE hf
      cases hf
      obtain ⟨vs, w1, w2, w3⟩ := hm2.dK ha z3
      obtain ⟨p1, p2, p3⟩ := putD_val (k := k) w2 w3 (hv.mono x12)
      have ew : Ext r2 H2 r2 (upd H2 a (.dK (putK (ks.zip vs) k v))) := Ext.write (List.mem_of_getElem? ha) fun u hf z => by rw [w1] at z; cases z; exact hf
      refine .inr (.inl ⟨a, ks, vs, k, e1', keyD_ok hv2 h4, w1, ?_, ?_⟩)
      · rw [List.length_zip, w3.length, w2, Nat.min_self]
        exact ltLine h5
      · exact g r2 σ _ (x12.trans ew) (hs.mono (x12.trans ew)) (hm2.writeC ha ⟨_, by rw [upd_same, p1], p2, p3.mono ew⟩ ew) (fun _ _ => rfl) rfl
    · cases hf
  | _ => cases hf⟩
/-! ### {k: v, ..} -/
abbrev FP := Sl → Mem → Option (List (Key × D) × Mem)
def PsOk (K : Fg) (trs : List (TE × TE)) (f : FP) : Prop := ∀ r σ H e m ps m', SlOk K r H σ e → MemOk K r H m → f e m = some (ps, m') →
  ∀ Q : List (V × V) → Hp → Prop, (∀ r' H' (kvs : List (Key × V)), Ext r H r' H' → MemOk K r' H' m' → kvs.map (·.1) = ps.map (·.1) → VAll K r' H' (kvs.map (·.2)) (ps.map (·.2)) → Q (kvs.map fun kv => (kV kv.1, kv.2)) H') → tPairs trs σ H Q
structure Ps (X : Cx) (pos : Pos) (keys : List (Option Expr)) (values : List Expr) (trs : List (TE × TE)) (f : FP) : Prop where
  pe : PPs X pos keys values trs
  ok : PsOk X.K trs f
def fpNil : FP := fun _ m => some ([], m)
def fpCons (fk fv : FE) (fr : FP) : FP := fun e m => (fk e m).bind fun p => (keyD p.1).bind fun k => (fv e p.2).bind fun q => (fr e q.2).map fun u => ((k, q.1) :: u.1, u.2)
theorem ps_nil {X : Cx} {pos : Pos} : Ps X pos [] [] [] fpNil := ⟨pps_nil, fun r σ H e m ps m' hs hm hf Q g => by
  cases hf
  exact g r H [] Ext.refl hm rfl .nil⟩
theorem ps_cons {X : Cx} {pos : Pos} {k v : Expr} {ks : List (Option Expr)} {vs : List Expr} {tk tv : TE} {trs : List (TE × TE)} {fk fv : FE} {fr : FP} (hk : E X k tk fk) (hv : E X v tv fv) (hr : Ps X pos ks vs trs fr) : Ps X pos (some k :: ks) (v :: vs) ((tk, tv) :: trs) (fpCons fk fv fr) := ⟨pps_cons hk.pe hv.pe hr.pe, fun r σ H e m ps m' hs hm hf Q g => by
  obtain ⟨⟨d1, m1⟩, h1, hf⟩ := bindE hf
  obtain ⟨kk, h2, hf⟩ := bindE hf
  obtain ⟨⟨d3, m3⟩, h3, hf⟩ := bindE hf
  obtain ⟨⟨ps4, m4⟩, h4, hf⟩ := mapE hf
  cases hf
  refine hk.ok r σ H e m d1 m1 hs hm h1 _ fun r1 v1 H1 x1 hm1 hv1 => ?_
  refine hv.ok r1 σ H1 e m1 d3 m3 (hs.mono x1) hm1 h3 _ fun r2 v2 H2 x2 hm2 hv2 => ?_
  refine hr.ok r2 σ H2 e m3 ps4 m4 ((hs.mono x1).mono x2) hm2 h4 _ fun r3 H3 kvs x3 hm3 ek hvs => ?_
  have q := g r3 H3 ((kk, v2) :: kvs) ((x1.trans x2).trans x3) hm3 (by simp [ek]) (.cons (hv2.mono x3) hvs)
  rw [keyD_ok hv1 h2]
  exact q⟩
def mergeD (ps : List (Key × D)) : List Key × List D := ps.foldl (fun acc kv => putD kv.1 kv.2 acc.1 acc.2) ([], [])
theorem mergeD_val {K : Fg} {r : List Addr} {H : Hp} : ∀ {ps : List (Key × D)} {kvs : List (Key × V)} {ks : List Key} {vs : List V} {xs : List D}, kvs.map (·.1) = ps.map (·.1) → VAll K r H (kvs.map (·.2)) (ps.map (·.2)) → ks.length = xs.length → VAll K r H vs xs →
    ∃ us, mergeK (ks.zip vs) kvs = (ps.foldl (fun acc kv => putD kv.1 kv.2 acc.1 acc.2) (ks, xs)).1.zip us ∧ (ps.foldl (fun acc kv => putD kv.1 kv.2 acc.1 acc.2) (ks, xs)).1.length = (ps.foldl (fun acc kv => putD kv.1 kv.2 acc.1 acc.2) (ks, xs)).2.length ∧ VAll K r H us (ps.foldl (fun acc kv => putD kv.1 kv.2 acc.1 acc.2) (ks, xs)).2
  | [], [], ks, vs, xs, _, _, hl, hv => ⟨vs, rfl, hl, hv⟩
  | [], _ :: _, _, _, _, h, _, _, _ => by cases h
  | _ :: _, [], _, _, _, h, _, _, _ => by cases h
  | (k, d) :: ps, (k', v) :: kvs, ks, vs, xs, h, hvs, hl, hv => by
    rw [List.map_cons, List.map_cons] at h hvs
    have e1 : k' = k := (List.cons.inj h).1
    subst e1
    cases hvs with
    | cons a b =>
      obtain ⟨p1, p2, p3⟩ := putD_val (k := k') hl hv a
      obtain ⟨us, q1, q2, q3⟩ := mergeD_val (ps := ps) (kvs := kvs) (ks := (putD k' d ks xs).1) (vs := (putD k' v ks vs).2) (xs := (putD k' d ks xs).2) (List.cons.inj h).2 b p2 p3
      refine ⟨us, ?_, q2, q3⟩
      have p1' : putK (ks.zip vs) k' v = (putD k' d ks xs).1.zip (putD k' v ks vs).2 := p1
      show mergeK (putK (ks.zip vs) k' v) kvs = _
      rw [p1']
      exact q1
def fDisp (f : FP) : FE := fun e m => (f e m).bind fun p => if p.1.length ≤ 15 then some (.loc p.2.length, p.2 ++ [.dK (mergeD p.1).1 (mergeD p.1).2]) else none
/-- an object at no place is changed -/
theorem StayI.off {r : List Addr} {H : Hp} {p : Addr} {u o : HO} (hp : H p = some u) (hi : ∀ C dx fs, u ≠ .ins C dx fs) : StayI r H r (upd H p o) := fun b C dx fs q hn => ⟨by
  have z : b ≠ p := fun z => by rw [z, hp] at q; cases q; exact hi _ _ _ rfl
  rw [upd_ne z]; exact q, hn⟩
theorem VAll.offG {K : Fg} {r : List Addr} {H : Hp} {p : Addr} {u o : HO} (hp : H p = some u) (hf : ¬ Fixed u) (hi : ∀ C dx fs, u ≠ .ins C dx fs) {vs : List V} {ds : List D} (h : VAll K r H vs ds) : VAll K r (upd H p o) vs ds :=
  h.mo ⟨[], by simp⟩ (fun b w hw q => by
    have z : b ≠ p := fun z => by rw [z, hp] at q; cases q; exact hf hw
    rw [upd_ne z]; exact q) (StayI.off hp hi)
theorem MemOk.offG {K : Fg} {r : List Addr} {H : Hp} {m : Mem} {p : Addr} {u o : HO} (h : MemOk K r H m) (hr : p ∉ r) (hp : H p = some u) (hf : ¬ Fixed u) (hi : ∀ C dx fs, u ≠ .ins C dx fs) : MemOk K r (upd H p o) m := by
  refine ⟨h.len, h.nd, fun l c q => ?_⟩
  obtain ⟨a, ha, hc⟩ := h.cell l c q
  have hap : a ≠ p := fun z => hr (by rw [← z]; exact List.mem_of_getElem? ha)
  refine ⟨a, ha, ?_⟩
  cases c with
  | lst xs =>
    obtain ⟨vs, e, w⟩ := hc
    exact ⟨vs, by rw [upd_ne hap]; exact e, w.offG hp hf hi⟩
  | dK ks xs =>
    obtain ⟨vs, e, n, w⟩ := hc
    exact ⟨vs, by rw [upd_ne hap]; exact e, n, w.offG hp hf hi⟩
  | dT ks xs =>
    obtain ⟨vs, e, n, w⟩ := hc
    exact ⟨vs, by rw [upd_ne hap]; exact e, n, w.offG hp hf hi⟩
  | ob nm ks xs =>
    obtain ⟨vs, ⟨C, dx, e, z⟩, n, w⟩ := hc
    exact ⟨vs, ⟨C, dx, by rw [upd_ne hap]; exact e, z⟩, n, w.offG hp hf hi⟩
/-- what was at no place comes to a place -/
theorem MemOk.adoptC {K : Fg} {r : List Addr} {H : Hp} {m : Mem} {p : Addr} {c : Cell} (h : MemOk K r H m) (hp : p ∉ r) (st : StayI r H (r ++ [p]) H) (w : CellOk K r H p c) : MemOk K (r ++ [p]) H (m ++ [c]) := by
  have up : ∀ {a : Addr} {c : Cell}, CellOk K r H a c → CellOk K (r ++ [p]) H a c := fun {a c} hc => by
    cases c with
    | lst xs => obtain ⟨vs, q, w⟩ := hc; exact ⟨vs, q, w.mo ⟨[p], rfl⟩ (fun _ _ _ q => q) st⟩
    | dK ks xs => obtain ⟨vs, q, n, w⟩ := hc; exact ⟨vs, q, n, w.mo ⟨[p], rfl⟩ (fun _ _ _ q => q) st⟩
    | dT ks xs => obtain ⟨vs, q, n, w⟩ := hc; exact ⟨vs, q, n, w.mo ⟨[p], rfl⟩ (fun _ _ _ q => q) st⟩
    | ob nm ks xs => obtain ⟨vs, q, n, w⟩ := hc; exact ⟨vs, q, n, w.mo ⟨[p], rfl⟩ (fun _ _ _ q => q) st⟩
  refine ⟨by simp [h.len], ?_, fun l c' q => ?_⟩
  · rw [List.nodup_append]
    exact ⟨h.nd, by simp, fun a ha b hb z => by
      have e : b = p := by simpa using hb
      subst e; subst z; exact hp ha⟩
  · by_cases hl : l < m.length
    · rw [List.getElem?_append_left hl] at q
      obtain ⟨a, ha, hc⟩ := h.cell l c' q
      exact ⟨a, by rw [List.getElem?_append_left (List.getElem?_eq_some_iff.mp ha).1]; exact ha, up hc⟩
    · have e : l = m.length := by
        have := (List.getElem?_eq_some_iff.mp q).1
        simp at this; omega
      subst e
      simp at q; subst q
      exact ⟨p, by rw [← h.len]; simp, up w⟩
theorem e_disp {X : Cx} {pos : Pos} {keys : List (Option Expr)} {values : List Expr} {trs : List (TE × TE)} {f : FP} (h : Ps X pos keys values trs f) (hall : keys.all (·.isSome) = true := by rfl) (hl : keys.length = values.length := by rfl) (h0 : keys ≠ [] := by simp)
    (h15 : keys.length ≤ 15 := by decide) : E X (.Dict keys values pos) (tDisp trs) (fDisp f) := ⟨pe_disp h.pe hall hl h0 h15, fun r σ H e m d m' hs hm hf Q go => by
  obtain ⟨⟨ps, m1⟩, h1, hf⟩ := bindE hf
  obtain ⟨h2, hf⟩ := iteE hf
  cases hf
  intro p hp
  have x0 : Ext r H r (upd H p (.dK [])) := Ext.fresh hp
  have hpr := hm.notIn hp
  refine h.ok r σ (upd H p (.dK [])) e m ps m1 (hs.mono x0) (hm.fresh hp) h1 _ fun r1 H1 kvs x1 hm1 ek hvs => ?_
  have e1 : H1 p = some (.dK []) := x1.keep p _ upd_same hpr
  have hp1 : p ∉ r1 := fun z => (x1.new p z).elim hpr fun q => by rw [upd_same] at q; cases q
  refine ⟨e1, kvs, rfl, ?_, ?_⟩
  · have : kvs.length = ps.length := by
      have := congrArg List.length ek
      simpa using this
    rw [this]; exact h2
  obtain ⟨us, q1, q2, q3⟩ := mergeD_val (K := X.K) (r := r1) (H := H1) (ps := ps) (kvs := kvs) (ks := []) (vs := []) (xs := []) ek hvs rfl .nil
  have q1' : mergeK [] kvs = (mergeD ps).1.zip us := q1
  rw [q1']
  let H2 := upd H1 p (.dK ((mergeD ps).1.zip us))
  have hm2 : MemOk X.K r1 H2 m1 := hm1.offG hp1 e1 (fun z => z) (fun _ _ _ z => by cases z)
  have st : StayI r1 H2 (r1 ++ [p]) H2 := fun b C dx fs q hn => ⟨q, fun z => by
    rcases List.mem_append.mp z with z | z
    · exact hn z
    · have ez : b = p := by simpa using z
      have : H2 p = some (.dK ((mergeD ps).1.zip us)) := upd_same
      rw [ez, this] at q; cases q⟩
  have q3' : VAll X.K r1 H2 us (mergeD ps).2 := VAll.offG e1 (fun z => z) (fun _ _ _ z => by cases z) q3
  have hm3 := hm2.adoptC (c := .dK (mergeD ps).1 (mergeD ps).2) hp1 st ⟨us, upd_same, q2, q3'⟩
  have xx : Ext r H (r1 ++ [p]) H2 := by
    have xa : Ext r H r1 H1 := x0.trans x1
    exact (xa.hid hp).adopt hp
  refine go (r1 ++ [p]) (.ref p) H2 xx hm3 (.loc ?_)
  rw [← hm1.len]; simp⟩
end Mv

set_option Elab.async false
set_option linter.all false
set_option maxRecDepth 100000
set_option maxHeartbeats 4000000
/-! Mv19: how many unlike keys a tuple has: len(set(t)), t of ints and texts. -/
namespace Mv
open PySem PySem.Spec PyProof.Rows L2

/-! ### unlike ones, in the turn in which they are met -/
section
variable {κ : Type} [DecidableEq κ]
def addNew (acc : List κ) (k : κ) : List κ := if k ∈ acc then acc else acc ++ [k]
def unlike (l : List κ) : List κ := l.foldl addNew []
theorem unlike_snoc (l : List κ) (k : κ) : unlike (l ++ [k]) = addNew (unlike l) k := by
  unfold unlike
  rw [List.foldl_append]; rfl
theorem mem_addNew {acc : List κ} {k x : κ} : x ∈ addNew acc k ↔ x ∈ acc ∨ x = k := by
  unfold addNew
  split
  · rename_i h
    exact ⟨.inl, fun q => q.elim id fun e => e ▸ h⟩
  · simp
theorem mem_fold {k : κ} : ∀ {l acc : List κ}, k ∈ l.foldl addNew acc ↔ k ∈ acc ∨ k ∈ l
  | [], acc => by simp
  | x :: l, acc => by
    rw [List.foldl_cons, mem_fold (l := l), mem_addNew, List.mem_cons, or_assoc]
theorem mem_unlike {l : List κ} {k : κ} : k ∈ unlike l ↔ k ∈ l := by
  unfold unlike
  rw [mem_fold]
  simp
theorem nodup_addNew {acc : List κ} {k : κ} (h : acc.Nodup) : (addNew acc k).Nodup := by
  unfold addNew
  split
  · exact h
  · rename_i q
    rw [List.nodup_append]
    exact ⟨h, by simp, fun a ha b hb z => by
      have e : b = k := by simpa using hb
      rw [z, e] at ha; exact q ha⟩
theorem nodup_fold : ∀ {l acc : List κ}, acc.Nodup → (l.foldl addNew acc).Nodup
  | [], _, h => h
  | x :: l, acc, h => nodup_fold (l := l) (nodup_addNew h)
theorem nodup_unlike (l : List κ) : (unlike l).Nodup := nodup_fold List.nodup_nil
theorem unlike_nodup {l : List κ} (h : l.Nodup) : unlike l = l := by
  have key : ∀ {l acc : List κ}, (acc ++ l).Nodup → l.foldl addNew acc = acc ++ l := by
    intro l
    induction l with
    | nil => intro acc _; simp
    | cons x l ih =>
      intro acc h
      rw [List.foldl_cons]
      have hx : x ∉ acc := fun q => by
        rw [List.nodup_append] at h
        exact h.2.2 x q x List.mem_cons_self rfl
      have e : addNew acc x = acc ++ [x] := if_neg hx
      rw [e, ih (by rw [List.append_assoc]; exact h), List.append_assoc]; rfl
  exact key (acc := []) h
theorem unlike_le : ∀ {l acc : List κ}, (l.foldl addNew acc).length ≤ acc.length + l.length
  | [], acc => by simp
  | x :: l, acc => by
    have q := unlike_le (l := l) (acc := addNew acc x)
    have q2 : (addNew acc x).length ≤ acc.length + 1 := by unfold addNew; split <;> simp
    rw [List.foldl_cons, List.length_cons]; omega
end
section
variable {P : Program} {w : World} {A : Around} {E : Value → Shared → Prop} {s : Shared}
/-- the loop that fills a set from what is walked, the keys of any kind -/
theorem fill_set {κ : Type} [DecidableEq κ] {knd : KeyKind P w κ} {I : Addr} {fp wr : List Addr} {G : Array GenState → Array GenState → Prop} {n : Nat} {Pv : Nat → Value → Prop} {St : Nat → Shared → Prop} {R : Result → Shared → Prop}
    (W : WalksS P w A.in1 I fp wr G n Pv St) (S : Addr) (out : S ∉ fp) (ks : List κ) (many : n = ks.length) (few : ks.length + 1 < scanBound) (each : ∀ i v, Pv i v → ∃ k, ks[i]? = some k ∧ knd.is k v = true ∧ v.scannable = true) :
    ∀ (left i : Nat) (s : Shared), i + left = n → St i s → s.heap.SetOf knd S (fun k => decide (k ∈ ks.take i)) (unlike (ks.take i)).length →
      (∀ s', Moved (S :: wr) G s s' → s'.heap.SetOf knd S (fun k => decide (k ∈ ks)) (unlike ks).length → R (.ok (.ret .none)) s') → codeAny (model P w) A (.builtin "set.update.loop" ⟨[.ref S, .ref I], []⟩) R s := by
  have notW : S ∉ wr := fun z => out (W.sub _ z)
  have more : ∀ b ∈ wr, b ∈ S :: wr := fun b z => List.mem_cons_of_mem _ z
  have stays : ∀ {s1 s2 : Shared} {T : κ → Bool} {c : Nat}, Moved wr G s1 s2 → s1.heap.SetOf knd S T c → s2.heap.SetOf knd S T c := fun mv ⟨o, es, ep, tb, ho, q⟩ => ⟨o, es, ep, tb, mv.heap S _ notW ho, q⟩
  intro left
  induction left with
  | zero =>
    intro i s hi hst hS hR
    have e : ks.take i = ks := List.take_of_length_le (by omega)
    rw [e] at hS
    refine codeAny_builtin F.entry_set_update_loop ?_
    rw [Around.under_plainId F.plain_set_update_loop _]
    show wpAny _ A.in1 (pyNext (.ref I) >>= _) _ _ s
    have hin : n = i := by omega
    subst hin
    exact wpAny_bind (W.done s _ _ hst fun s' mv => wpAny_pure (hR s' (mv.mono more) (stays mv hS)))
  | succ left ih =>
    intro i s hi hst hS hR
    refine codeAny_builtin F.entry_set_update_loop ?_
    rw [Around.under_plainId F.plain_set_update_loop _]
    show wpAny _ A.in1 (pyNext (.ref I) >>= _) _ _ s
    refine wpAny_bind (W.item i s _ _ (by omega) hst fun v s' hP hst' mv => ?_)
    obtain ⟨k, hk, his, hsc⟩ := each i v hP
    have et : ks.take (i + 1) = ks.take i ++ [k] := by rw [List.take_add_one, hk]; rfl
    show wpAny _ A.in1 (holding [v] (setAdd S v) >>= _) _ _ s'
    refine wpAny_bind (wpAny_holding ?_)
    unfold setAdd
    refine wpAny_holding (wpAny_bind (knd.pyHash his ?_))
    have room : (unlike (ks.take i)).length + 1 < scanBound := by
      have q : (unlike (ks.take i)).length ≤ 0 + (ks.take i).length := unlike_le
      have q2 : (ks.take i).length ≤ ks.length := by rw [List.length_take]; exact Nat.min_le_right _ _
      omega
    refine wpAny_setAddHashed_of (s := { s' with toks := s'.toks + 1 }) his hsc (show s'.heap.SetOf knd S _ _ from stays mv hS) room fun h' same hS2 => ?_
    have hS3 : h'.SetOf knd S (fun x => decide (x ∈ ks.take (i + 1))) (unlike (ks.take (i + 1))).length := by
      have e1 : (fun x => decide (x ∈ ks.take (i + 1))) = fun x => decide (x ∈ ks.take i) || decide (x = k) := by
        funext x
        rw [et]; simp [List.mem_append]
      have e2 : (unlike (ks.take (i + 1))).length = if decide (k ∈ ks.take i) = true then (unlike (ks.take i)).length else (unlike (ks.take i)).length + 1 := by
        rw [et, unlike_snoc]
        unfold addNew
        by_cases q : k ∈ ks.take i
        · rw [if_pos (mem_unlike.mpr q), if_pos (decide_eq_true q)]
        · rw [if_neg fun z => q (mem_unlike.mp z), if_neg (by rw [decide_eq_false q]; simp), List.length_append]; rfl
      rw [e1, e2]; exact hS2
    refine wpAny_pure ⟨plainId_quiet F.plain_set_update_loop _, ih (i + 1) _ (by omega) (W.frame _ s' _ _ hst' (Nat.le_succ _) fun b hb o e => ?_) hS3 fun s'' mv2 hS4 => ?_⟩
    · rw [same.2 b fun z : b = S => out (by rw [← z]; exact hb)]; exact e
    · refine hR s'' (Moved.trans W.gtrans ((mv.mono more).then_heap (Nat.le_succ _) fun b o hb e => ?_) mv2) hS4
      rw [same.2 b fun z : b = S => hb (by rw [z]; exact List.mem_cons_self)]; exact e
/-- an empty set, with or without its order kept -/
abbrev bare (w : World) : Obj := { cls := .type "set", dict := none, data := .set #[] 0 (.fresh 0 0 (!w.params.followText "set-order")) }
theorem bare_of {κ : Type} [DecidableEq κ] {knd : KeyKind P w κ} {h : Heap} {a : Addr} (e : h.get? a = some (bare w)) : h.SetOf knd a (fun _ => false) 0 :=
  ⟨_, #[], 0, _, e, ⟨rfl, rfl, rfl⟩, rfl, fun x hx => by simp at hx, fun k => by simp, by decide, rfl, rfl⟩
set_option maxRecDepth 100000 in
theorem set_of_tuple {κ : Type} [DecidableEq κ] {knd : KeyKind P w κ} {l : Addr} {items : Array Value} (ks : List κ) {Q : Value → Shared → Prop} (calm : A.handled = none) (at_l : s.heap.IsTuple l items) (few : ks.length + 1 < scanBound) (many : items.size = ks.length)
    (each : ∀ (i : Nat) (v : Value), items[i]? = some v → ∃ k, ks[i]? = some k ∧ knd.is k v = true ∧ v.scannable = true)
    (go : ∀ (h' : Heap) (tk : Nat), h'.SetOf knd s.heap.objs.size (fun k => decide (k ∈ ks)) (unlike ks).length → (∀ b o, s.heap.get? b = some o → h'.get? b = some o) → Q (.ref s.heap.objs.size) { s with heap := h', toks := tk }) :
    wpAny (model P w) A (call (.type "set") [.ref l]) Q E s := by
  obtain ⟨c, tl, hmro⟩ := F.called_set.mro
  have hmade := F.called_set.made
  have hsub := F.called_set.sub
  refine wpAny_call (codeAny_of_tree ?_)
  show wpAny _ _ (callAny (.type "set") _) _ _ _
  refine wpAny_pure ⟨Code.quiet_builtin _ (by decide +kernel), codeAny_builtin F.entry_type_call ?_⟩
  rw [Around.under_plain (weight_type_call_type "set" [.ref l] []) rfl]
  have h1 := F.called_set.notType
  have h2 := F.called_set.canCreate
  have hct := F.typeCall_set_1 (.ref l)
  repeat (any_goals (first | assumption | wp_step))
  let N := s.heap.objs.size
  let hp1 := s.heap.push (bare w)
  refine codeAny_mono (code_set_led1 (.ref l) (E := E) (Q₁ := fun v s₁ => v = .ref N ∧ s₁ = { s with heap := hp1 }) ⟨rfl, rfl⟩) fun r s₁ hr => ?_
  match r, hr with
  | .error e, hr => exact hr
  | .ok .next, hr => exact hr.elim
  | .ok .brk, hr => exact hr.elim
  | .ok .cont, hr => exact hr.elim
  | .ok (.ret v), hr =>
    obtain ⟨rfl, rfl⟩ := hr
    have hN : hp1.get? N = some (bare w) := Heap.get?_push_size _ rfl
    have hT : Shared.TypeIs { s with heap := hp1 } (.ref N) "set" := ⟨_, hN, rfl⟩
    have hli := F.called_set.init.lookup
    have hbi := F.called_set.init.bind (.ref N)
    repeat (any_goals (first | assumption | wp_step))
    let good : Shared → Prop := fun s₂ => ∃ (h' : Heap) (tk : Nat), s₂ = { s with heap := h', toks := tk } ∧ h'.SetOf knd N (fun k => decide (k ∈ ks)) (unlike ks).length ∧ ∀ b o, s.heap.get? b = some o → h'.get? b = some o
    refine codeAny_mono (codeAny_call_builtin (R := wants (fun u s₂ => u = .none ∧ good s₂) E) F.called_set.init.plain F.entry_set_init (check_set_init_1 hT ?_)) fun r₂ s₂ hr₂ => ?_
    · have at1 : hp1.IsTuple l items := at_l.push _
      obtain ⟨ol, hol, hcl, nl, hdl⟩ := at_l
      obtain ⟨ocls, odict, odata, oslots⟩ := ol
      simp only at hcl hdl
      subst hcl; subst hdl
      have old : l < N := Heap.lt_size hol
      have hol' : hp1.get? l = some { cls := .type "tuple", dict := odict, data := .seq items nl, slots := oslots } := Heap.get?_push_of_some _ hol
      have n1 := F.sub_tuple_set
      have n2 := F.sub_tuple_frozenset
      have n3 : (Value.type "tuple" == Value.type "dict") = false := by decide
      unfold Builtin.«set.__init__» noKeywords Builtin.Frozenset.updateFrom
      generalize hPI : pyIter = PI
      wp_walk
      subst hPI
      refine wpAny_pyIter_tuple at1 (wpAny_bind (wpAny_runValue ?_))
      have z1 : hp1.objs.size = N + 1 := Heap.size_push ..
      have neI : l ≠ hp1.objs.size := by rw [z1]; exact Nat.ne_of_lt (Nat.lt_succ_of_lt old)
      have out : N ∉ [hp1.objs.size, l] := by
        rw [z1]
        intro z
        rcases List.mem_cons.mp z with z | z
        · exact absurd z (Nat.ne_of_lt (Nat.lt_succ_self _))
        · exact absurd (List.mem_singleton.mp z) (Nat.ne_of_gt old)
      refine fill_set (knd := knd) (Walks.tuple (by simp [calm]) _ l neI items).toS N out ks many few each items.size 0 _ (Nat.zero_add _) ⟨⟨_, Heap.get?_push_size _ rfl, rfl, rfl⟩, at1.push _⟩ ?begin ?fin
      case begin =>
        have e : ∀ k : κ, decide (k ∈ ks.take 0) = false := fun k => by simp
        have q := bare_of (knd := knd) (Heap.get?_push_of_some { cls := .type "tuple_iterator", data := .fields #[.ref l, .int 0 0] } hN)
        exact PyProof.Rows.SetOf_congr q (fun k => (e k).symm) rfl
      case fin =>
        intro s' mv hS
        obtain ⟨h', g2, d', tk', os'⟩ := s'
        have eg : g2 = s.gens := mv.gens
        have ed : d' = s.drawn := mv.drawn
        have eo : os' = s.os := mv.os
        subst eg; subst ed; subst eo
        refine wpAny_pure (wpAny_pure ⟨rfl, h', tk', rfl, hS, fun b o e => ?_⟩)
        have b0 : b < N := Heap.lt_size e
        refine mv.heap b o (fun z => ?_) (Heap.get?_push_of_some _ (Heap.get?_push_of_some _ e))
        rcases List.mem_cons.mp z with z | z
        · exact absurd z (Nat.ne_of_lt b0)
        · have z' : b = hp1.objs.size := by simpa using z
          rw [z1] at z'
          exact absurd z' (Nat.ne_of_lt (Nat.lt_succ_of_lt b0))
    · match r₂, hr₂ with
      | .error e, hr₂ => exact hr₂
      | .ok .next, hr₂ => exact hr₂.elim
      | .ok .brk, hr₂ => exact hr₂.elim
      | .ok .cont, hr₂ => exact hr₂.elim
      | .ok (.ret v), hr₂ =>
        obtain ⟨rfl, h', tk, rfl, hS, hk⟩ := hr₂
        repeat (any_goals (first | assumption | wp_step))
        exact go _ _ hS hk
end
end Mv

set_option Elab.async false
set_option linter.all false
set_option maxRecDepth 100000
set_option maxHeartbeats 4000000
/-! Mv20: len(set(t)), t of ints and texts. -/
namespace Mv
open PySem PySem.Spec PyProof.Rows L2
def tLenSetK (K : Fg) (ta : TE) : TE := fun σ H Q => ta σ H fun x H1 => ∃ (l : Addr) (ks : List Key), x = .ref l ∧ SqT K H1 l (ks.map kV) ∧ ks.length ≤ 4000 ∧ Q (.int ((unlike ks).length : Nat)) H1
theorem each_key {P : Program} {w : World} : ∀ {ks : List Key} {us : List Value}, Vals (ks.map kV) us → ∀ (i : Nat) (v : Value), us[i]? = some v → ∃ k, ks[i]? = some k ∧ (mixKind P w).is k v = true ∧ v.scannable = true
  | [], _, .nil, i, v, h => by simp at h
  | k :: ks, y :: _, .cons a b, 0, v, h => by
    have e : y = v := by simpa using h
    subst e
    refine ⟨k, rfl, kV_is a, ?_⟩
    cases k with
    | inl i => obtain ⟨t, rfl⟩ := (show ∃ t, _ = Value.int i t from a); rfl
    | inr z => obtain ⟨t, rfl⟩ := (show ∃ t, _ = Value.str z t from a); rfl
  | k :: ks, _, .cons a b, i + 1, v, h => by
    obtain ⟨k', h1, h2⟩ := each_key (P := P) (w := w) b i v (by simpa using h)
    exact ⟨k', by simpa using h1, h2⟩
theorem pe_lenSetK {X : Cx} {a : Expr} {ta : TE} {p p2 q pos : Pos} (hg : Gl X "len") (hm : X.mg "len" = none) (hg2 : Gl X "set") (hm2 : X.mg "set" = none) (ha : PE X a ta) (hc : X.calm = true)
    (na : starEach [a] X.env = (false, eval a X.env) :: starEach [] X.env := by rfl) : PE X (.Call (.Name "len" p) [.Call (.Name "set" p2) [a] [] q] [] pos) (tLenSetK X.K ta) := by
  refine ⟨fun pins s σ H Q I h => ?_⟩
  refine Call_ (ld_blt I hg hm boot_len (PyProof.Rows.callWith_builtin1 (PyProof.Rows.args_cons ?_ rfl) rfl rfl))
  refine Call_ (ld_blt I hg2 hm2 boot_set ?_)
  refine PyProof.Rows.callWith_type1 (PyProof.Rows.args_cons (thn (ha.run pins s σ H _ I h) ?_) na) na rfl
  rintro v s1 ⟨x, H1, I1, r1, l, ks, rfl, hq, hl, q1⟩
  refine PyProof.Rows.args_nil ?_
  cases r1
  obtain ⟨its, r, pl, hz⟩ := I1.tuple hq
  have hlen : its.length = ks.length := by rw [← r.length, List.length_map]
  refine set_of_tuple (knd := mixKind X.prog X.w) ks (I1.ok.hd hc) pl (by unfold scanBound; omega) (by rw [List.size_toArray]; exact hlen) (fun i v hv => each_key r i v (by simpa using hv)) fun h' tk R hk => PyProof.Rows.args_nil ?_
  obtain ⟨o, es, ep, t, ho, hex, hd, hgood, hmem, hb, hf, hn⟩ := R
  have I2 : Inv X pins σ H1 { s1 with heap := h', toks := tk } := I1.kept hk
  have le : (unlike ks).length ≤ 0 + ks.length := unlike_le
  exact call_len_set ho hex hd hf (by rw [hn]; omega) ⟨.int ((unlike ks).length : Nat), H1, I2.tok _, ⟨_, by rw [hn]⟩, q1⟩
def fLenSetA (f : FE) : FE := fun e m => (f e m).bind fun p => match p.1 with
  | .tup xs => match asIs xs with
    | some ns => if ns.length ≤ 4000 then some (.int ((dist ns).length : Nat), p.2) else none
    | none => (keyL xs).bind fun ks => if ks.length ≤ 4000 then some (.int ((unlike ks).length : Nat), p.2) else none
  | _ => none
theorem e_lenSetA {X : Cx} {a : Expr} {ta : TE} {fa : FE} {p p2 q pos : Pos} (hc : X.calm = true) (hm : X.mg "len" = none) (hm2 : X.mg "set" = none) (h : E X a ta fa) (hg : Gl X "len" := by rfl) (hg2 : Gl X "set" := by rfl) (na : starEach [a] X.env = (false, eval a X.env) :: starEach [] X.env := by rfl) :
    E X (.Call (.Name "len" p) [.Call (.Name "set" p2) [a] [] q] [] pos) (fun σ H Q => tLenSetT X.K ta σ H Q ∨ tLenSetK X.K ta σ H Q) (fLenSetA fa) := by
  refine ⟨⟨fun pins s σ H Q I w => ?_⟩, fun r σ H e m d m' hs hm hf Q go => ?_⟩
  · rcases w with w | w
    · exact (pe_lenSetT hg ‹_› hg2 hm2 h.pe hc na).run pins s σ H Q I w
    · exact (pe_lenSetK hg ‹_› hg2 hm2 h.pe hc na).run pins s σ H Q I w
  · obtain ⟨⟨d1, m1⟩, h1, hf⟩ := bindE hf
    dsimp only at hf
    cases d1 with
    | tup xs =>
      dsimp only at hf
      split at hf
      · rename_i ns h2
        obtain ⟨hz, hf⟩ := iteE hf
        cases hf
        have e := asIs_ok h2
        subst e
        refine .inl (h.ok r σ H e m _ _ hs ‹_› h1 _ fun r1 v1 H1 x1 hm1 hv1 => ?_)
        obtain ⟨a, vs, rfl, ha, hw⟩ := hv1.tupE
        have e2 := hw.ints
        subst e2
        exact ⟨a, ns, rfl, ha.sq, hz, (go.step x1).here hm1 (.int _)⟩
      · obtain ⟨ks, h2, hf⟩ := bindE hf
        obtain ⟨hz, hf⟩ := iteE hf
        cases hf
        refine .inr (h.ok r σ H e m _ _ hs ‹_› h1 _ fun r1 v1 H1 x1 hm1 hv1 => ?_)
        obtain ⟨a, vs, rfl, ha, hw⟩ := hv1.tupE
        have e2 := keyL_ok hw h2
        subst e2
        exact ⟨a, ks, rfl, ha.sq, hz, (go.step x1).here hm1 (.int _)⟩
    | _ => cases hf
end Mv

set_option Elab.async false
set_option linter.all false
set_option maxRecDepth 100000
set_option maxHeartbeats 4000000
/-! Mv21: a class made by its name. -/
namespace Mv
open PySem PySem.Spec PyProof.Rows L2
def tMakeN (K : Fg) (n : Str) (sp : Sp) (E : XK) (t : TA) : TE := fun σ H Q => ∃ C, ClsAt K n C ∧ tMakeG C sp E t σ H Q
theorem e_make {X : Cx} {k : Nat} {ps : List Str} {F : GN} {n : Str} {p pos : Pos} {e : Expr} {es : List Expr} {t : TA} {fa : FA} (kn : KnC X.prog X.w X.K X.mg X.base n k ps F) (hr : Room (k + 1) X.A) (hG : X.A.guards = some []) (ha : A X (e :: es) t fa) (hg : Gl X n := by rfl)
    (hdb : (n == ("__debug__" : Str)) = false := by decide) (he : starEach (e :: es) X.env = (false, eval e X.env) :: starEach es X.env := by rfl) (hpl : (backTo pos (starEach es X.env)).any (·.1) = false := by rfl) :
    E X (.Call (.Name n p) (e :: es) [] pos) (tMakeN X.K n (spG X.K F) E0 t) (fMake n F fa) := by
  obtain ⟨C, f, fd, hc, M, Fn, hm, hb⟩ := kn.ex
  refine ⟨⟨fun pins s σ H Q I h => ?_⟩, fun r σ H e m d m' hs hmm hf Q go => ⟨C, hc, makeOk hc ha.ok r σ H e m d m' hs hmm hf Q go⟩⟩
  obtain ⟨C', hc', h⟩ := h
  have ec := hc'.inj hc
  subst ec
  exact (pe_makeG M Fn hr hG hg hm hb pass0 ha.pe hdb he hpl).run pins s σ H Q I h
end Mv

set_option Elab.async false
set_option linter.all false
set_option maxRecDepth 100000
set_option maxHeartbeats 4000000
/-! Mv22: tuple * int: once, never, of nothing. -/
namespace Mv
open PySem PySem.Spec PyProof.Rows L2
theorem mul_same (l : Addr) (items : Array Value) (n : Nat) (dd : Option Addr) (sl : Array (Option Value)) (x : Int) (u : Tok) (c0 : (decide (x < -(2 ^ 63)) || decide (x ≥ 2 ^ 63)) = false) (c1 : (items.isEmpty || x == 1) = true) :
    Meets (Builtin.«tuple.__mul__» ⟨[.ref l, .int x u], []⟩) (fun _ R s => s.heap.get? l = some { cls := .type "tuple", dict := dd, data := .seq items n, slots := sl } ∧ R (.ok (.ret (.ref l))) s) :=
  .of_wp fun prog w A R s h => by
    obtain ⟨hp, g, d, tk, os⟩ := s
    obtain ⟨hl, h⟩ := h
    have f1 := AutoSeq1.idx_int
    wp_walk using wpAny_loadPart' hl
    repeat (first
      | (refine wpAny_ite_false (decide_eq_false (by rw [c0]; exact Bool.false_ne_true)) ?_; wp_walk using wpAny_loadPart' hl)
      | (refine wpAny_ite_true (decide_eq_true c1) ?_; wp_walk using wpAny_loadPart' hl))
    exact ⟨_, rfl, h⟩
theorem mul_none (l : Addr) (items : Array Value) (n : Nat) (dd : Option Addr) (sl : Array (Option Value)) (x : Int) (u : Tok) (c0 : (decide (x < -(2 ^ 63)) || decide (x ≥ 2 ^ 63)) = false) (c1 : (items.isEmpty || x == 1) = false) (c2 : (decide (x ≤ 0) || items.isEmpty) = true) :
    Meets (Builtin.«tuple.__mul__» ⟨[.ref l, .int x u], []⟩) (fun _ R s => s.heap.get? l = some { cls := .type "tuple", dict := dd, data := .seq items n, slots := sl } ∧
      R (.ok (.ret (Value.ref s.heap.objs.size))) { s with heap := s.heap.push { cls := Value.type "tuple", data := Data.seq #[] }, toks := s.toks }) :=
  .of_wp fun prog w A R s h => by
    obtain ⟨hp, g, d, tk, os⟩ := s
    obtain ⟨hl, h⟩ := h
    have f1 := AutoSeq1.idx_int
    wp_walk using wpAny_loadPart' hl
    repeat (first
      | (refine wpAny_ite_false (decide_eq_false (by rw [c0]; exact Bool.false_ne_true)) ?_; wp_walk using wpAny_loadPart' hl)
      | (refine wpAny_ite_false (decide_eq_false (by rw [c1]; exact Bool.false_ne_true)) ?_; wp_walk using wpAny_loadPart' hl)
      | (refine wpAny_ite_true (decide_eq_true c2) ?_; wp_walk using wpAny_loadPart' hl))
    exact ⟨_, rfl, h⟩
def rRepE (K : Fg) : R2 := fun x y H Q => ∃ (l : Addr) (k : Int) (xs : List V), x = .ref l ∧ y = .int k ∧ SqT K H l xs ∧ -1000 ≤ k ∧ k ≤ 1000 ∧
  (((xs = [] ∨ k = 1) ∧ Q (.ref l) H) ∨ (xs ≠ [] ∧ k ≤ 0 ∧ ∀ p, H p = none → Q (.ref p) (upd H p (.tup []))))
theorem op_repE {X : Cx} : OpR X (binaryOp .Mult) (rRepE X.K) := by
  intro pins s σ H x y v u Q I rx ry h
  obtain ⟨l, k, xs, rfl, rfl, hT, h1, h2, q⟩ := h
  cases rx
  obtain ⟨t, rfl⟩ := ry
  obtain ⟨its, r, ⟨⟨cls, dd, data, sl⟩, ho, hc, n, hd⟩, hs⟩ := I.tuple hT
  simp only at hc hd
  subst hc hd
  have c0 : (decide (k < -(2 ^ 63)) || decide (k ≥ 2 ^ 63)) = false := by
    rw [decide_eq_false (by omega), decide_eq_false (by omega)]; rfl
  rcases q with ⟨hq, q⟩ | ⟨hne, hk, q⟩
  · have c1 : (its.toArray.isEmpty || k == 1) = true := by
      rcases hq with rfl | rfl
      · cases r; rfl
      · simp
    refine wpAny_binaryOp_repeat_ref (T := "tuple") (U := "int") (by decide) ⟨_, ho, rfl⟩ (fun s' => typeIs_int s' k t) noFill_tuple_mul F.fills_int_mul F.slot_int_rmul repeat_tuple F.slot_int_index.lookup
      (call_meets F.slot_int_rmul (typeIs_int s k t) F.entry_int_rmul (F.args_int_rmul_2 _ _) (int_rmul_tuple k t l its.toArray n dd sl)
        ⟨ho, rfl, ⟨_, ho, rfl⟩, call_meets F.slot_tuple_mul ⟨_, ho, rfl⟩ F.entry_tuple_mul (F.args_tuple_mul_2 _ _) (mul_same l its.toArray n dd sl k t c0 c1) ⟨ho, ?_⟩⟩)
    exact ⟨.ref l, H, I, rfl, q⟩
  · have hi : its.toArray.isEmpty = false := by
      cases its with
      | nil => cases r; exact absurd rfl hne
      | cons a b => rfl
    have c1 : (its.toArray.isEmpty || k == 1) = false := by
      rw [hi, Bool.false_or]
      exact beq_eq_false_iff_ne.mpr (by omega)
    have c2 : (decide (k ≤ 0) || its.toArray.isEmpty) = true := by rw [decide_eq_true hk]; rfl
    refine wpAny_binaryOp_repeat_ref (T := "tuple") (U := "int") (by decide) ⟨_, ho, rfl⟩ (fun s' => typeIs_int s' k t) noFill_tuple_mul F.fills_int_mul F.slot_int_rmul repeat_tuple F.slot_int_index.lookup
      (call_meets F.slot_int_rmul (typeIs_int s k t) F.entry_int_rmul (F.args_int_rmul_2 _ _) (int_rmul_tuple k t l its.toArray n dd sl)
        ⟨ho, rfl, ⟨_, ho, rfl⟩, call_meets F.slot_tuple_mul ⟨_, ho, rfl⟩ F.entry_tuple_mul (F.args_tuple_mul_2 _ _) (mul_none l its.toArray n dd sl k t c0 c1 c2) ⟨ho, ?_⟩⟩)
    refine ⟨.ref s.heap.objs.size, _, I.laid (t' := s.toks) (o := .tup []) (fun b ob q => Heap.get?_push_of_some _ q) (Nat.le_refl _) ?_, rfl, q _ (I.hok.fresh (Nat.le_refl _))⟩
    exact ⟨Nat.zero_le _, [], .nil, IsTup.new _ _⟩
def gMulA : G2 := fun x y m => match x, y with
  | .tup xs, .int k => if -1000 ≤ k ∧ k ≤ 1000 ∧ xs.length ≤ 1000 then some (.tup (List.replicate k.toNat xs).flatten, m) else none
  | x, y => gMul x y m
theorem flat_nils (n : Nat) : (List.replicate n ([] : List D)).flatten = [] := by
  induction n with
  | zero => rfl
  | succ n ih => rw [List.replicate_succ, List.flatten_cons, ih]; rfl
theorem gMulA_ok {K : Fg} : R2Ok K (fun x y H Q => rMulA K x y H Q ∨ rRepE K x y H Q) gMulA := fun r H m x y dx dy d m' hm hx hy hg Q go => by
  unfold gMulA at hg
  split at hg
  · rename_i xs k
    obtain ⟨⟨h1, h2, h3⟩, hg⟩ := iteE hg
    cases hg
    obtain ⟨a, vs, rfl, ha, hva⟩ := hx.tupE
    rw [hy.intE]
    by_cases e : xs = []
    · subst e
      cases hva
      rw [flat_nils] at go
      exact .inr ⟨a, k, [], rfl, rfl, ha.sq, h1, h2, .inl ⟨.inl rfl, go.here hm (.tup ha .nil)⟩⟩
    · by_cases e1 : k = 1
      · subst e1
        have e2 : (List.replicate (1 : Int).toNat xs).flatten = xs := by simp
        rw [e2] at go
        exact .inr ⟨a, 1, vs, rfl, rfl, ha.sq, h1, h2, .inl ⟨.inr rfl, go.here hm (.tup ha hva)⟩⟩
      · by_cases e0 : k ≤ 0
        · have e2 : (List.replicate k.toNat xs).flatten = [] := by
            have : k.toNat = 0 := by omega
            rw [this]; rfl
          rw [e2] at go
          exact .inr ⟨a, k, vs, rfl, rfl, ha.sq, h1, h2, .inr ⟨hva.neNil e, e0, fun p hp => go.newTup hm .nil hp⟩⟩
        · exact .inl (.inr (.inl ⟨a, k, vs, rfl, rfl, ha.sq, hva.neNil e, by omega, h2, by rw [hva.length]; exact h3, fun p hp => go.newTup hm (hva.rep _) hp⟩))
  · exact .inl (gMul_ok r H m x y dx dy d m' hm hx hy hg Q go)
theorem e_mulA {X : Cx} {a b : Expr} {ta tb : TE} {fa fb : FE} {pos : Pos} (ha : E X a ta fa) (hb : E X b tb fb) : E X (.BinOp a .Mult b pos) (tOp (fun x y H Q => rMulA X.K x y H Q ∨ rRepE X.K x y H Q) ta tb) (fOp gMulA fa fb) := ⟨pe_op (op_mulA.or op_repE) ha.pe hb.pe, opOk gMulA_ok ha.ok hb.ok⟩
end Mv

set_option Elab.async false
set_option linter.all false
set_option maxRecDepth 100000
set_option maxHeartbeats 4000000
/-! Mv23: tuples whose methods are called: made, asked by index. -/
namespace Mv
open PySem PySem.Spec PyProof.Rows L2

/-! ### forgotten -/
def fW (f : FE) : FE := fun e m => (f e m).map fun p => (p.1.weak, p.2)
theorem E.w {X : Cx} {e : Expr} {te : TE} {f : FE} (h : E X e te f) : E X e te (fW f) := ⟨h.pe, fun r σ H e m d m' hs hm hf Q go => by
  obtain ⟨⟨d1, m1⟩, h1, hf⟩ := mapE hf
  cases hf
  exact h.ok r σ H e m d1 m1 hs hm h1 _ fun r1 v1 H1 x1 hm1 hv1 => go r1 v1 H1 x1 hm1 hv1.weak⟩
/-! ### made -/
def newS (p : Addr) (H : Hp) (xs : List V) (Q : VK) : Prop := ∀ o : Obj, o.dict = none → Q (.ref p) (upd H p (.frz o (.tup xs)))
theorem Go.newStp {K : Fg} {r : List Addr} {H : Hp} {m : Mem} {vs : List V} {xs : List D} {Q : VK} (g : Go K r H m (.stp xs) Q) (hm : MemOk K r H m) (hv : VAll K r H vs xs) {p : Addr} (hp : H p = none) : newS p H vs Q := fun o hd =>
  g r (.ref p) _ (Ext.fresh hp) (hm.fresh hp) (.stp upd_same hd (hv.mono (Ext.fresh hp)))
theorem frz_new {P : Program} {w : World} {H : Hp} {h : Heap} {xs : List V} {its : List Value} (z : xs.length ≤ sizeLine) (r : Vals xs its) :
    ObjOk P w H (h.push { cls := .type "tuple", data := .seq its.toArray }) h.objs.size (.frz { cls := .type "tuple", data := .seq its.toArray } (.tup xs)) :=
  ⟨Heap.get?_push_size _ rfl, z, its, r, IsTup.new _ _⟩
def tTupS (ta : TA) : TE := fun σ H Q => ta σ H fun xs H1 => xs.length ≤ sizeLine ∧ ∀ p, H1 p = none → newS p H1 xs Q
theorem pe_tupS {X : Cx} {es : List Expr} {t : TA} {pos : Pos} {x1} (h : PA X es t) : PE X (.Tuple es x1 pos) (tTupS t) := by
  refine ⟨fun pins s σ H Q I hq => wpAny_Tuple_spliced (thn (h.run pos pins s σ H _ I hq) fun us s1 ⟨xs, H1, I1, r, z, q⟩ => ⟨by rw [← r.length]; exact z, ?_⟩)⟩
  have free := I1.hok.fresh (Nat.le_refl s1.heap.objs.size)
  exact ⟨.ref s1.heap.objs.size, _, I1.laid (t' := s1.toks) (fun b u e => Heap.get?_push_of_some _ e) (Nat.le_refl _) (frz_new z r), rfl, q _ free _ rfl⟩
def rTupS (K : Fg) : List V → Hp → VK → Prop := fun xs H Q => ∃ p ys, xs = [.ref p] ∧ SqL K H p ys ∧ ∀ l, H l = none → newS l H ys Q
theorem call_tupS {X : Cx} : CallR X (.type "tuple") (rTupS X.K) := by
  intro pins s σ H xs us Q I r h
  obtain ⟨p, ys, rfl, hq, q⟩ := h
  obtain ⟨u, rfl, rx⟩ := vals1 r
  cases rx
  obtain ⟨its, r', pl, hz⟩ := I.list hq
  have many := r'.length
  refine call_tuple_list pl.isList (fun h' kp => ?_) (by rw [List.size_toArray, ← many]; exact hz)
  have I1 : Inv X pins σ H { s with heap := h' } := I.kept (t' := s.toks) kp
  exact ⟨.ref h'.objs.size, _, I1.laid (t' := s.toks) (fun b o e => Heap.get?_push_of_some _ e) (Nat.le_refl _) (frz_new hz r'), rfl, q _ (I1.hok.fresh (Nat.le_refl _)) _ rfl⟩
def tTupRgS (te : L2.St → Hp → (Int → Int → Hp → Prop) → Prop) : TE := fun σ H Q => te σ H fun a b H1 => RgOk a b ∧ ∀ p, H1 p = none → newS p H1 (rgV a b) Q
theorem pe_tupRgS {X : Cx} {e : Expr} {te : L2.St → Hp → (Int → Int → Hp → Prop) → Prop} {p pos : Pos} (hc : X.calm = true) (hg : Gl X "tuple") (hm : X.mg "tuple" = none) (he : PRg X e te) (na : starEach [e] X.env = (false, eval e X.env) :: starEach [] X.env := by rfl) : PE X (.Call (.Name "tuple" p) [e] [] pos) (tTupRgS te) := by
  refine ⟨fun pins s σ H Q I h => Call_ (ld_blt I hg hm boot_tuple (PyProof.Rows.callWith_type1 (PyProof.Rows.args_cons (thn (he pins s σ H _ I h) fun x s1 ⟨r, a, b, t, u, v, H1, ex, hr, I1, ok, q⟩ => PyProof.Rows.args_nil ?_) na) na))⟩
  subst ex
  obtain ⟨b1, b2, b3, b4, b5⟩ := ok
  refine call_tuple_range (n := (b - a).toNat) (I1.ok.hd hc) hr (small_one b1 b2 b3 b4) (rangeSize_nat a b) b5 fun h' tk acc hk hi => ?_
  have I2 : Inv X pins σ H1 { s1 with heap := h', toks := tk } := I1.kept hk
  have z : (rgV a b).length ≤ sizeLine := by rw [rgV_length, sizeLine_eq]; omega
  have fr := frz_new (P := X.prog) (w := X.w) (H := upd H1 h'.objs.size (.frz { cls := .type "tuple", data := .seq acc.toList.toArray } (.tup (rgV a b)))) (h := h') z (vals_rg hi)
  rw [Array.toArray_toList] at fr
  exact ⟨.ref h'.objs.size, _, I2.laid (t' := tk) (fun c o e => Heap.get?_push_of_some _ e) (Nat.le_refl _) fr, rfl, q _ (I2.hok.fresh (Nat.le_refl _)) _ rfl⟩
section
variable {X : Cx} {pos : Pos} {es : List Expr} {ta : TA} {fa : FA}
def fTupS (fa : FA) : FE := fun e m => (fa e m).bind fun p => if p.1.length ≤ 100000 then some (.stp p.1, p.2) else none
theorem e_tupS {x1} (h : A X es ta fa) : E X (.Tuple es x1 pos) (tTupS ta) (fTupS fa) := ⟨pe_tupS h.pe, fun r σ H e m d m' hs hm hf Q go => by
  obtain ⟨⟨ds, m1⟩, h1, hf⟩ := bindE hf
  obtain ⟨hz, hf⟩ := iteE hf
  cases hf
  refine h.ok r σ H e m ds m1 hs hm h1 _ fun r1 vs H1 x1 hm1 hv1 => ⟨by rw [hv1.length]; exact lineOf hz, fun p hp => (go.step x1).newStp hm1 hv1 hp⟩⟩
end
def gTupS : GN := fun ds m => match ds with
  | [.loc l] => (rd m l).map fun xs => (.stp xs, m)
  | _ => none
theorem gTupS_ok {K : Fg} : RNOk K (rTupS K) gTupS := fun r H m xs ds d m' hm hx hg Q go => by
  unfold gTupS at hg
  split at hg
  · obtain ⟨ys, h1, hg⟩ := mapE hg
    cases hg
    obtain ⟨v, rfl, hv⟩ := hx.one
    obtain ⟨a, rfl, ha⟩ := hv.locE
    obtain ⟨vs, q, hs⟩ := hm.rd ha h1
    exact ⟨a, vs, rfl, q, fun l hl => go.newStp hm hs hl⟩
  · cases hg
def gTupNS : GN := fun xs m => some (.stp xs, m)
theorem gTupNS_ok {K : Fg} : ROnOk K (rTupS K) gTupNS := fun r H m p vs xs d m' hm hp hq hv hg Q go => by
  cases hg
  exact ⟨p, vs, rfl, .of hq, fun l hl => go.newStp hm hv hl⟩
def fTRg1S (f : FE) : FE := fun e m => (f e m).bind fun p => (asI p.1).bind fun j => if 0 ≤ j ∧ j ≤ 100000 then some (.stp (rangeD 0 j.toNat), p.2) else none
theorem e_trg1S {X : Cx} {a : Expr} {ta : TE} {fa : FE} {p p2 pos pos2 : Pos} (hc : X.calm = true) (hml : X.mg "tuple" = none) (hmr : X.mg "range" = none) (h : E X a ta fa) (hgl : Gl X "tuple" := by rfl) (hgr : Gl X "range" := by rfl) (na : starEach [a] X.env = (false, eval a X.env) :: starEach [] X.env := by rfl)
    (na2 : starEach [.Call (.Name "range" p2) [a] [] pos2] X.env = (false, eval (.Call (.Name "range" p2) [a] [] pos2) X.env) :: starEach [] X.env := by rfl) :
    E X (.Call (.Name "tuple" p) [.Call (.Name "range" p2) [a] [] pos2] [] pos) (tTupRgS (tRg1 ta)) (fTRg1S fa) := ⟨pe_tupRgS hc hgl hml (prg_1 hgr hmr h.pe na) na2, fun r σ H e m d m' hs hm hf Q go => by
  obtain ⟨⟨d1, m1⟩, h1, hf⟩ := bindE hf
  obtain ⟨j, h2, hf⟩ := bindE hf
  obtain ⟨hz, hf⟩ := iteE hf
  cases hf
  have q' : d1 = .int j := asI_ok h2
  subst q'
  refine h.ok r σ H e m _ _ hs hm h1 _ fun r1 v1 H1 x1 hm1 hv1 => ⟨j, hv1.intE, RgOk.of_le (by omega) (by omega) (by omega) (by omega), fun q hq => ?_⟩
  have w := rg_vals (K := X.K) (r := r1) (H := H1) 0 j.toNat
  have e1 : rgV 0 j = (List.range j.toNat).map fun i => V.int (0 + (i : Nat)) := by unfold rgV; rw [Int.sub_zero]
  rw [e1]
  exact (go.step x1).newStp hm1 w hq⟩
/-! ### t.index(x) -/
def rTIndex (K : Fg) : V → List V → Hp → VK → Prop := fun x xs H Q => ∃ (p : Addr) (ns : List Int) (k : Int), x = .ref p ∧ xs = [.int k] ∧ SqT K H p (ns.map V.int) ∧ k ∈ ns ∧ Q (.int (ns.idxOf k : Nat)) H
theorem mt_tindexI {X : Cx} : MtR X "tuple.index" (rTIndex X.K) := by
  intro pins s σ H x xs v us Q I rx rs h
  obtain ⟨p, ns, k, rfl, rfl, hq, hk, q⟩ := h
  cases rx
  obtain ⟨u, rfl, t, rfl⟩ := vals1 rs
  obtain ⟨its, r, pl, hz⟩ := I.tuple hq
  exact PySem.SeqAt.tuple_index_ints pl (intsAre_of r) hk ⟨.int (ns.idxOf k : Nat), H, I.tok _, ⟨_, rfl⟩, q⟩
/-- o.m(e, ..), o such a tuple -/
def tMetT (r : V → List V → Hp → VK → Prop) (to : TE) (ta : TA) : TE := fun σ H Q => to σ H fun x H1 => (∃ a o vs, x = .ref a ∧ H1 a = some (.frz o (.tup vs)) ∧ o.dict = none) ∧ ta σ H1 fun xs H2 => r x xs H2 Q
theorem pe_metT {X : Cx} {o e : Expr} {es : List Expr} {name : Str} {id : String} {r : V → List V → Hp → VK → Prop} {to : TE} {t : TA} {apos cpos : Pos} (slot : Slot "tuple" name id) (hty : typeOf (.builtin id) = pure (.type "method_descriptor")) (hm : MtR X id r) (ho : PE X o to) (ha : PA X (e :: es) t)
    (hbase : attributeBase o name X.env (eval o X.env) = eval o X.env := by rfl)
    (hfew : ((backTo cpos (starEach (e :: es) X.env)).all (fun x => !x.1) && (backToKw cpos (keywordEach [] X.env)).all (fun x => x.1.isSome)
      && decide ((e :: es).length + ([] : List Keyword).length + (if ([] : List Keyword).isEmpty then 0 else 1) < 30)) = true := by rfl)
    (hline : (apos.endLine == cpos.line) = true := by rfl) (hs : starEach (e :: es) X.env = (false, eval e X.env) :: starEach es X.env := by rfl) (hplain : (backTo cpos (starEach es X.env)).any (·.1) = false := by rfl) :
    PE X (.Call (.Attribute o name apos) (e :: es) [] cpos) (tMetT r to t) := by
  refine ⟨fun pins s σ H Q I h => wpAny_Call_method_late hbase hfew hline rfl (thn (ho.run pins s σ H _ I h) fun v s1 ⟨x, H1, I1, r1, ⟨a, ob, vs, ex, ea, hd⟩, q1⟩ => ?_)⟩
  subst ex
  obtain rfl : v = Value.ref a := r1
  obtain ⟨h1, h2, its, h3, o', h4, h5, n, h6⟩ := (show ObjOk X.prog X.w H1 s1.heap a (.frz ob (.tup vs)) from I1.hok a _ ea)
  refine ⟨"tuple", id, PySem.F.plainAttrs_tuple, slot, hty, ⟨o', h4, h5⟩, fun b hb => ?_, ?_⟩
  · cases hb
    exact ⟨ob, h1, hd⟩
  · have got := ha.run cpos pins s1 σ H1 _ I1 q1
    rw [hs] at got ⊢
    refine Calls.callWith_builtin (by show (false || (backTo cpos (starEach es X.env)).any (·.1)) = false; rw [hplain]; rfl) (Calls.evalArgs_plain ?_)
    exact thn got fun us s2 ⟨vs, H2, I2, r2, q2⟩ => hm pins s2 σ H2 (.ref a) vs (.ref a) us Q I2 rfl r2 q2
def fMetT (g : GM) (fo : FE) (fa : FA) : FE := fun e m => (fo e m).bind fun p => (match p.1 with
  | .stp _ => some ()
  | _ => none).bind fun _ => (fa e p.2).bind fun q => g p.1 q.1 q.2
def gTIndex : GM := fun x xs m => match x, xs with
  | .stp ys, [.int k] => (asIs ys).bind fun ns => if k ∈ ns then some (.int (ns.idxOf k : Nat), m) else none
  | _, _ => none
theorem gTIndex_ok {K : Fg} : RMOk K (rTIndex K) gTIndex := fun r H m x xs dx ds d m' hm hx hxs hg Q go => by
  unfold gTIndex at hg
  split at hg
  · rename_i ys k
    obtain ⟨ns, h1, hg⟩ := bindE hg
    obtain ⟨h2, hg⟩ := iteE hg
    cases hg
    obtain ⟨a, o, vs, rfl, ha, _, hw⟩ := hx.stpE
    have e := asIs_ok h1
    subst e
    have e2 := hw.ints
    subst e2
    cases hxs with
    | cons b c =>
      cases c
      rw [b.intE]
      exact ⟨a, ns, k, rfl, rfl, .inl (.inr ⟨o, ha⟩), h2, go.here hm (.int _)⟩
  · cases hg
theorem metTOk {K : Fg} {rr : V → List V → Hp → VK → Prop} {g : GM} {to : TE} {ta : TA} {fo : FE} {fa : FA} (hr : RMOk K rr g) (ho : EOk K to fo) (ha : AOk K ta fa) : EOk K (tMetT rr to ta) (fMetT g fo fa) := fun r σ H e m d m' hs hm hf Q go => by
  obtain ⟨⟨d1, m1⟩, h1, hf⟩ := bindE hf
  obtain ⟨_, h2, hf⟩ := bindE hf
  obtain ⟨⟨ds, m2⟩, h3, hf⟩ := bindE hf
  cases d1 with
  | stp ys =>
    refine ho r σ H e m _ m1 hs hm h1 _ fun r1 v1 H1 x1 hm1 hv1 => ⟨?_, ?_⟩
    · obtain ⟨a, o, vs, rfl, ha, hd, hw⟩ := hv1.stpE
      exact ⟨a, o, vs, rfl, ha, hd⟩
    · refine ha r1 σ H1 e m1 ds m2 (hs.mono x1) hm1 h3 _ fun r2 vs H2 x2 hm2 hv2 => ?_
      exact hr r2 H2 m2 v1 vs _ ds d m' hm2 (hv1.mono x2) hv2 hf Q ((go.step x1).step x2)
  | _ => cases h2
theorem e_tindex {X : Cx} {o a : Expr} {to ta : TE} {fo fa : FE} {apos cpos : Pos} (ho : E X o to fo) (ha : E X a ta fa)
    (hbase : attributeBase o "index" X.env (eval o X.env) = eval o X.env := by rfl)
    (hfew : ((backTo cpos (starEach [a] X.env)).all (fun x => !x.1) && (backToKw cpos (keywordEach [] X.env)).all (fun x => x.1.isSome)
      && decide ([a].length + ([] : List Keyword).length + (if ([] : List Keyword).isEmpty then 0 else 1) < 30)) = true := by rfl)
    (hline : (apos.endLine == cpos.line) = true := by rfl) (hs : starEach [a] X.env = (false, eval a X.env) :: starEach [] X.env := by rfl) :
    E X (.Call (.Attribute o "index" apos) [a] [] cpos) (tMetT (rTIndex X.K) to (tCons ta tNil)) (fMetT gTIndex fo (fCons fa fNil)) :=
  ⟨pe_metT PySem.F.slot_tuple_index PySem.F.type_tuple_index mt_tindexI ho.pe (pa_cons ha.pe pa_nil hs) hbase hfew hline hs rfl, metTOk gTIndex_ok ho.ok (aCons ha.ok aNil)⟩
end Mv

set_option Elab.async false
set_option linter.all false
set_option maxRecDepth 100000
set_option maxHeartbeats 4000000
/-! Mv24: ==, != of data of ints; words. -/
namespace Mv
open PySem PySem.Spec PyProof.Rows L2
mutual
/-- ints, None and tuples of such -/
def D.pl : D → Bool
  | .non => true | .int _ => true | .tup xs => D.plAll xs
  | .bl _ => false | .str _ => false | .loc _ => false | .ty _ => false | .kl _ => false | .cls _ => false | .ins _ _ _ => false | .stp _ => false | .ttp _ => false
def D.plAll : List D → Bool
  | [] => true
  | x :: xs => x.pl && D.plAll xs
end
mutual
def D.dep : D → Nat
  | .tup xs => D.depAll xs + 1
  | .non => 0 | .int _ => 0 | .bl _ => 0 | .str _ => 0 | .loc _ => 0 | .ty _ => 0 | .kl _ => 0 | .cls _ => 0 | .ins _ _ _ => 0 | .stp _ => 0 | .ttp _ => 0
def D.depAll : List D → Nat
  | [] => 0
  | x :: xs => max x.dep (D.depAll xs)
end
mutual
theorem D.pl_pure : ∀ d : D, d.pl = true → d.pure = true
  | .non, _ => rfl
  | .int _, _ => rfl
  | .tup xs, h => D.plAll_pure xs h
  | .bl _, h => by cases h
  | .str _, h => by cases h
  | .loc _, h => by cases h
  | .ty _, h => by cases h
  | .kl _, h => by cases h
  | .cls _, h => by cases h
  | .ins _ _ _, h => by cases h
  | .stp _, h => by cases h
  | .ttp _, h => by cases h
theorem D.plAll_pure : ∀ ds : List D, D.plAll ds = true → D.pureAll ds = true
  | [], _ => rfl
  | d :: ds, h => by
    have q := Bool.and_eq_true_iff.mp h
    exact Bool.and_eq_true_iff.mpr ⟨D.pl_pure d q.1, D.plAll_pure ds q.2⟩
end
mutual
theorem D.pl_lay : ∀ d : D, d.pl = true → d.py.canLay0 = true ∧ d.py.depth = d.dep
  | .non, _ => ⟨by rw [D.py, PyData.canLay0], by rw [D.py, PyData.depth, D.dep]⟩
  | .int _, _ => ⟨by rw [D.py, PyData.canLay0], by rw [D.py, PyData.depth, D.dep]⟩
  | .tup xs, h => by
    obtain ⟨a, b⟩ := D.plAll_lay xs h
    exact ⟨by rw [D.py, PyData.canLay0]; exact a, by rw [D.py, PyData.depth, D.dep, b]⟩
  | .bl _, h => by cases h
  | .str _, h => by cases h
  | .loc _, h => by cases h
  | .ty _, h => by cases h
  | .kl _, h => by cases h
  | .cls _, h => by cases h
  | .ins _ _ _, h => by cases h
  | .stp _, h => by cases h
  | .ttp _, h => by cases h
theorem D.plAll_lay : ∀ ds : List D, D.plAll ds = true → PyData.canLayAll0 (D.pyAll ds) = true ∧ PyData.depthAll (D.pyAll ds) = D.depAll ds
  | [], _ => ⟨by rw [D.pyAll, PyData.canLayAll0], by rw [D.pyAll, PyData.depthAll, D.depAll]⟩
  | d :: ds, h => by
    have q := Bool.and_eq_true_iff.mp h
    obtain ⟨a, b⟩ := D.pl_lay d q.1
    obtain ⟨c, e⟩ := D.plAll_lay ds q.2
    exact ⟨by rw [D.pyAll, PyData.canLayAll0, a, c]; rfl, by rw [D.pyAll, PyData.depthAll, D.depAll, b, e]⟩
end
mutual
theorem D.pl_eqv : ∀ a b : D, a.pl = true → b.pl = true → (PyData.eqv a.py b.py = true ↔ a = b)
  | .non, .non, _, _ => by rw [D.py, PyData.eqv]; simp
  | .non, .int _, _, _ => by rw [D.py, D.py, PyData.eqv]; simp
  | .non, .tup _, _, _ => by rw [D.py, D.py, PyData.eqv]; simp
  | .int _, .non, _, _ => by rw [D.py, D.py, PyData.eqv]; simp
  | .int i, .int j, _, _ => by rw [D.py, D.py, PyData.eqv]; simp
  | .int _, .tup _, _, _ => by rw [D.py, D.py, PyData.eqv]; simp
  | .tup _, .non, _, _ => by rw [D.py, D.py, PyData.eqv]; simp
  | .tup _, .int _, _, _ => by rw [D.py, D.py, PyData.eqv]; simp
  | .tup xs, .tup ys, h, k => by
    rw [D.py, D.py, PyData.eqv, D.plAll_eqv xs ys h k]; simp
  | .bl _, _, h, _ => by cases h
  | .str _, _, h, _ => by cases h
  | .loc _, _, h, _ => by cases h
  | .ty _, _, h, _ => by cases h
  | .kl _, _, h, _ => by cases h
  | .cls _, _, h, _ => by cases h
  | .ins _ _ _, _, h, _ => by cases h
  | .stp _, _, h, _ => by cases h
  | .ttp _, _, h, _ => by cases h
  | .non, .bl _, _, h => by cases h
  | .non, .str _, _, h => by cases h
  | .non, .loc _, _, h => by cases h
  | .non, .ty _, _, h => by cases h
  | .non, .kl _, _, h => by cases h
  | .non, .cls _, _, h => by cases h
  | .non, .ins _ _ _, _, h => by cases h
  | .non, .stp _, _, h => by cases h
  | .non, .ttp _, _, h => by cases h
  | .int _, .bl _, _, h => by cases h
  | .int _, .str _, _, h => by cases h
  | .int _, .loc _, _, h => by cases h
  | .int _, .ty _, _, h => by cases h
  | .int _, .kl _, _, h => by cases h
  | .int _, .cls _, _, h => by cases h
  | .int _, .ins _ _ _, _, h => by cases h
  | .int _, .stp _, _, h => by cases h
  | .int _, .ttp _, _, h => by cases h
  | .tup _, .bl _, _, h => by cases h
  | .tup _, .str _, _, h => by cases h
  | .tup _, .loc _, _, h => by cases h
  | .tup _, .ty _, _, h => by cases h
  | .tup _, .kl _, _, h => by cases h
  | .tup _, .cls _, _, h => by cases h
  | .tup _, .ins _ _ _, _, h => by cases h
  | .tup _, .stp _, _, h => by cases h
  | .tup _, .ttp _, _, h => by cases h
theorem D.plAll_eqv : ∀ xs ys : List D, D.plAll xs = true → D.plAll ys = true → (PyData.eqvAll (D.pyAll xs) (D.pyAll ys) = true ↔ xs = ys)
  | [], [], _, _ => by rw [D.pyAll, PyData.eqvAll]; simp
  | [], _ :: _, _, _ => by rw [D.pyAll, D.pyAll, PyData.eqvAll]; simp
  | _ :: _, [], _, _ => by rw [D.pyAll, D.pyAll, PyData.eqvAll]; simp
  | x :: xs, y :: ys, h, k => by
    have q := Bool.and_eq_true_iff.mp h
    have q2 := Bool.and_eq_true_iff.mp k
    rw [D.pyAll, D.pyAll, PyData.eqvAll, Bool.and_eq_true, D.pl_eqv x y q.1 q2.1, D.plAll_eqv xs ys q.2 q2.2, List.cons.injEq]
end
theorem plEq {a b : D} (ha : a.pl = true) (hb : b.pl = true) (da : a.dep ≤ 60) (db : b.dep ≤ 60) : ∃ t : Bool, (t = true ↔ a = b) ∧ ∀ m, gEqS a b m = some (.bl t, m) ∧ gNeS a b m = some (.bl (!t), m) := by
  refine ⟨PyData.eqv a.py b.py, D.pl_eqv a b ha hb, fun m => ?_⟩
  have sa : SeqAt.shaped a.py = true := by
    obtain ⟨p, q⟩ := D.pl_lay a ha
    exact Bool.and_eq_true_iff.mpr ⟨p, decide_eq_true (by omega)⟩
  have sb : SeqAt.shaped b.py = true := by
    obtain ⟨p, q⟩ := D.pl_lay b hb
    exact Bool.and_eq_true_iff.mpr ⟨p, decide_eq_true (by omega)⟩
  have ra : res m a = some a.py := res_pure (D.pl_pure a ha)
  have rb : res m b = some b.py := res_pure (D.pl_pure b hb)
  have e : eqD a.py b.py = some (PyData.eqv a.py b.py) := if_pos ⟨sa, sb⟩
  have g1 : gEqS a b m = gEq a b m := by
    cases a with
    | str x => cases ha
    | _ => rfl
  have g2 : gNeS a b m = gNe a b m := by
    cases a with
    | str x => cases ha
    | _ => rfl
  rw [g1, g2]
  unfold gEq gNe
  rw [ra, rb, Option.bind_some, Option.bind_some, Option.bind_some, Option.bind_some, e]
  exact ⟨rfl, rfl⟩
theorem plEq_same {a : D} (ha : a.pl = true) (da : a.dep ≤ 60) (m : Mem) : gEqS a a m = some (.bl true, m) ∧ gNeS a a m = some (.bl false, m) := by
  obtain ⟨t, h, k⟩ := plEq ha ha da da
  have e : t = true := h.mpr rfl
  subst e
  exact k m
theorem plEq_ne {a b : D} (ha : a.pl = true) (hb : b.pl = true) (da : a.dep ≤ 60) (db : b.dep ≤ 60) (hn : a ≠ b) (m : Mem) : gEqS a b m = some (.bl false, m) ∧ gNeS a b m = some (.bl true, m) := by
  obtain ⟨t, h, k⟩ := plEq ha hb da db
  cases t with
  | true => exact absurd (h.mp rfl) hn
  | false => exact k m
/-! ### tuples of ints -/
def wD (w : List Int) : D := .tup (w.map D.int)
theorem plAll_ints : ∀ w : List Int, D.plAll (w.map D.int) = true
  | [] => rfl
  | x :: w => plAll_ints w
theorem depAll_ints : ∀ w : List Int, D.depAll (w.map D.int) = 0
  | [] => rfl
  | x :: w => by rw [List.map_cons, D.depAll, depAll_ints w, D.dep]; rfl
theorem pl_wD (w : List Int) : (wD w).pl = true := plAll_ints w
theorem dep_wD (w : List Int) : (wD w).dep = 1 := by unfold wD; rw [D.dep, depAll_ints]
theorem wD_inj {a b : List Int} : wD a = wD b ↔ a = b := by
  unfold wD
  refine ⟨fun h => ?_, fun h => by rw [h]⟩
  have h' : a.map D.int = b.map D.int := by injection h
  have : ∀ {a b : List Int}, a.map D.int = b.map D.int → a = b := by
    intro a
    induction a with
    | nil => intro b h; cases b with
      | nil => rfl
      | cons y b => cases h
    | cons x a ih => intro b h; cases b with
      | nil => cases h
      | cons y b =>
        rw [List.map_cons, List.map_cons] at h
        obtain ⟨h1, h2⟩ := List.cons.inj h
        cases h1
        rw [ih h2]
  exact this h'
theorem pure_wD (w : List Int) : (wD w).pure = true := D.pl_pure _ (pl_wD w)
theorem low_wD (w : List Int) : (wD w).low 0 = true := D.pure_low 0 _ (pure_wD w)
theorem weak_ints : ∀ w : List Int, D.weakAll (w.map D.int) = w.map D.int
  | [] => rfl
  | x :: w => by rw [List.map_cons, D.weakAll, weak_ints w, D.weak]
/-- a move as one that may be asked for its points -/
def mvS (n : Nat) (f : Nat → Nat) : D := .stp (tab n fun y => .int (f y : Nat))
theorem mvD_wD (n : Nat) (f : Nat → Nat) : mvD n f = wD ((List.range n).map fun y => ((f y : Nat) : Int)) := by
  unfold mvD wD tab
  rw [List.map_map]; rfl
theorem mvS_weak (n : Nat) (f : Nat → Nat) : (mvS n f).weak = mvD n f := by
  have e : (tab n fun y => D.int (f y : Nat)) = ((List.range n).map fun y => ((f y : Nat) : Int)).map D.int := by unfold tab; rw [List.map_map]; rfl
  show D.tup (D.weakAll _) = _
  rw [e, weak_ints, mvD_wD]; rfl
theorem mvD_inj {n : Nat} {f g : Nat → Nat} : mvD n f = mvD n g ↔ ∀ y, y < n → f y = g y := by
  rw [mvD_wD, mvD_wD, wD_inj]
  refine ⟨fun h y hy => ?_, fun h => List.map_congr_left fun y hy => by rw [h y (List.mem_range.mp hy)]⟩
  have e := congrArg (fun l => l[y]?) h
  simp [hy] at e
  omega
theorem pl_mvD (n : Nat) (f : Nat → Nat) : (mvD n f).pl = true := by rw [mvD_wD]; exact pl_wD _
theorem dep_mvD (n : Nat) (f : Nat → Nat) : (mvD n f).dep = 1 := by rw [mvD_wD]; exact dep_wD _
end Mv

set_option Elab.async false
set_option linter.all false
set_option maxRecDepth 100000
set_option maxHeartbeats 4000000
/-! Mv25: calls by names alone, in any order: f(b=.., a=..). -/
namespace Mv
open PySem PySem.Spec PyProof.Rows L2
/-- the items of l at the places of o -/
def permL {α : Type} (o : List Nat) (l : List α) : List α := o.filterMap fun i => l[i]?
theorem relAt {vs : List V} {us : List Value} (r : Vals vs us) (i : Nat) : (vs[i]? = none ∧ us[i]? = none) ∨ ∃ v u, vs[i]? = some v ∧ us[i]? = some u ∧ RelV v u := by
  induction r generalizing i with
  | nil => exact .inl ⟨rfl, rfl⟩
  | cons a r ih =>
    cases i with
    | zero => exact .inr ⟨_, _, rfl, rfl, a⟩
    | succ i => exact ih i
theorem relPerm {vs : List V} {us : List Value} (r : Vals vs us) : ∀ o : List Nat, Vals (permL o vs) (permL o us)
  | [] => .nil
  | i :: o => by
    unfold permL
    rw [List.filterMap_cons, List.filterMap_cons]
    rcases relAt r i with ⟨e1, e2⟩ | ⟨v, u, e1, e2, q⟩
    · rw [e1, e2]; exact relPerm r o
    · rw [e1, e2]; exact .cons q (relPerm r o)
theorem allPerm {K : Fg} {r : List Addr} {H : Hp} {vs : List V} {ds : List D} (h : VAll K r H vs ds) : ∀ o : List Nat, VAll K r H (permL o vs) (permL o ds)
  | [] => .nil
  | i :: o => by
    unfold permL
    rw [List.filterMap_cons, List.filterMap_cons]
    cases e : ds[i]? with
    | none =>
      have e2 : vs[i]? = none := List.getElem?_eq_none (by rw [h.length]; exact List.getElem?_eq_none_iff.mp e)
      rw [e2]; exact allPerm h o
    | some d =>
      obtain ⟨v, e2, q⟩ := h.get e
      rw [e2]; exact .cons q (allPerm h o)
/-- a def takes its parameters by their names, told in the order ks; o says where each stands -/
def ByName (fd : FuncData) (ps ks : List Str) (o : List Nat) : Prop := ∀ us : List Value, us.length = ks.length → (permL o us).length = ps.length ∧ bindArgs fd ⟨[], ks.zip us⟩ = pure (ps.zip (permL o us))
theorem byName_of {K : Fg} {x qual : Str} {st : Stmt} {f : Addr} {fd : FuncData} {ps ks : List Str} {o : List Nat} (Fu : Fun K x qual st f fd)
    (h : ∀ (kV doc pm : Value) (an : Option Addr) (cdv ct : Value) (us : List Value), us.length = ks.length → (permL o us).length = ps.length ∧ bindArgs (PySem.W.fnOf x qual (defArgs st) (defBody st) (defScope st) .none kV doc pm an cdv ct) ⟨[], ks.zip us⟩ = pure (ps.zip (permL o us))) : ByName fd ps ks o := by
  obtain ⟨_, _, kV, doc, pm, an, cdv, ct, _, e, _, _⟩ := Fu.ex
  subst e
  exact fun us hl => h kV doc pm an cdv ct us hl
/-- the keywords' values -/
structure AK (X : Cx) (kws : List Keyword) (ta : TA) (f : FA) : Prop where
  pe : PK X kws ta
  ok : AOk X.K ta f
theorem ak_nil {X : Cx} : AK X [] tNil fNil := ⟨pk_nil, aNil⟩
theorem ak_cons {X : Cx} {e : Expr} {te : TE} {fe : FE} {kws : List Keyword} {ta : TA} {fa : FA} {nm : Option Str} {kpos : Pos} (h : E X e te fe) (hr : AK X kws ta fa) : AK X (⟨nm, e, kpos⟩ :: kws) (tCons te ta) (fCons fe fa) := ⟨pk_cons h.pe hr.pe, aCons h.ok hr.ok⟩
/-- what is known of a def that is called by names -/
structure KnN (P : Program) (w : World) (K : Fg) (mg : Str → Option Value) (base : Heap) (x : Str) (k : Nat) (ps ks : List Str) (o : List Nat) (F : GN) : Prop where
  ex : ∃ f fd, FnG P w K mg base CX0 k f fd ps (spG K F) ∧ mg x = some (.ref f) ∧ PySem.W.keepIn K (.ref f) = true ∧ ByName fd ps ks o
section
variable {X : Cx} {k : Nat} {f : Addr} {fd : FuncData} {ps ks : List Str} {o : List Nat} {sp : Sp} {x : Str} {p pos : Pos} {kws : List Keyword} {tk : TA} {fa : FA} {F : GN}
def tNamed (sp : Sp) (n : Nat) (o : List Nat) (E : XK) (tk : TA) : TE := fun σ H Q => tk σ H fun vs H1 => vs.length = n ∧ sp (permL o vs) H1 Q E
theorem pe_named (Fn : FnG X.prog X.w X.K X.mg X.base CX0 k f fd ps sp) (hr : Room k X.A) (hG : X.A.guards = some []) (hm : X.mg x = some (.ref f)) (hk : PySem.W.keepIn X.K (.ref f) = true) (hb : ByName fd ps ks o) (hg : Gl X x) (ha : PK X kws tk)
    (hall : (backToKw pos (keywordEach kws X.env)).all (·.1.isSome) = true := by rfl) (hks : (backToKw pos (keywordEach kws X.env)).filterMap (·.1) = ks := by rfl) (hdb : (x == ("__debug__" : Str)) = false := by decide)
    (hpl : ((backTo pos (starEach [] X.env)).any (·.1) || (backToKw pos (keywordEach kws X.env)).any (·.1.isNone)) = false := by rfl) :
    PE X (.Call (.Name x p) [] kws pos) (tNamed sp ks.length o E0 tk) := by
  constructor
  intro pins s σ H Q I h
  refine wpAny_Call_Name_kw (ld_glob I hg hm (PySem.W.callWith_KW0 (h₀ := X.base) I.ok.mod.kin hk hall (thn (ha.run pos pins s σ H _ I h) ?_) hpl) hdb)
  rintro us s1 ⟨vs, H1, I1, r, many, q⟩
  refine ⟨I1.kIn, ?_⟩
  rw [hks]
  obtain ⟨_, bound⟩ := hb us (r.length ▸ many)
  have went := Fn.goes X.A hr hG X.stack s1 H1 I1.env0 ⟨[], ks.zip us⟩ (permL o us) (.of_eq bound) (permL o vs) (relPerm r o) Q E0 q
  refine wpAny_call (codeAny_mono went fun res s2 got => ?_)
  cases res with
  | error e => exact pass0 pins σ H1 s1 e s2 I1 got
  | ok fl =>
    cases fl with
    | ret u => exact I1.after got
    | next => exact got.elim
    | brk => exact got.elim
    | cont => exact got.elim
/-- the values as they are told, put in the parameters' order -/
def fOrd (n : Nat) (o : List Nat) (fa : FA) : FA := fun e m => (fa e m).bind fun p => if p.1.length = n then some (permL o p.1, p.2) else none
theorem e_named {n : Nat} (kn : KnN X.prog X.w X.K X.mg X.base x k ps ks o F) (hr : Room k X.A) (hG : X.A.guards = some []) (ha : AK X kws tk fa) (hg : Gl X x := by rfl)
    (hall : (backToKw pos (keywordEach kws X.env)).all (·.1.isSome) = true := by rfl) (hks : (backToKw pos (keywordEach kws X.env)).filterMap (·.1) = ks := by rfl) (hdb : (x == ("__debug__" : Str)) = false := by decide)
    (hpl : ((backTo pos (starEach [] X.env)).any (·.1) || (backToKw pos (keywordEach kws X.env)).any (·.1.isNone)) = false := by rfl)
    (hn : ks.length = n := by rfl) : E X (.Call (.Name x p) [] kws pos) (tNamed (spG X.K F) n o E0 tk) (fCall F (fOrd n o fa)) := by
  subst hn
  obtain ⟨f, fd, h1, h2, h3, h4⟩ := kn.ex
  refine ⟨pe_named h1 hr hG h2 h3 h4 hg ha.pe hall hks hdb hpl, fun r σ H e m d m' hs hm hf Q go => ?_⟩
  obtain ⟨⟨es, m1⟩, g0, hf⟩ := bindE hf
  obtain ⟨⟨ds, m2⟩, g1, g0⟩ := bindE g0
  obtain ⟨g2, g0⟩ := iteE g0
  cases g0
  exact ha.ok r σ H e m ds m2 hs hm g1 _ fun r1 vs H1 x1 hm2 hv1 => ⟨hv1.length.trans g2, r1, permL o ds, m2, d, m', allPerm hv1 o, hm2, hf, go.step x1⟩
end
end Mv

set_option Elab.async false
set_option linter.all false
set_option maxRecDepth 100000
set_option maxHeartbeats 4000000
/-! Mv26: sorted of a list of ints, of a dict with int keys. -/
namespace Mv
open PySem PySem.Spec PyProof.Rows L2
/-- ints, rising -/
def srtI (ns : List Int) : List Int := ns.mergeSort fun a b => decide (a ≤ b)
theorem srtI_perm (ns : List Int) : (srtI ns).Perm ns := List.mergeSort_perm _ _
theorem srtI_up (ns : List Int) : (srtI ns).Pairwise (· ≤ ·) := by
  have h := List.pairwise_mergeSort (le := fun a b : Int => decide (a ≤ b)) (fun a b c p q => by simp at p q ⊢; omega) (fun a b => by simp; omega) ns
  exact h.imp fun q => by simpa using q
theorem srtI_only {ns ms : List Int} (h : ms.Perm ns) (u : ms.Pairwise (· ≤ ·)) : ms = srtI ns :=
  List.Perm.eq_of_pairwise (le := fun a b : Int => a ≤ b) (fun a b _ _ p q => by omega) u (srtI_up ns) (h.trans (srtI_perm ns).symm)
/-- keys that are ints all -/
def keysI : List Key → Option (List Int)
  | [] => some []
  | .inl i :: ks => (keysI ks).map (i :: ·)
  | .inr _ :: _ => none
theorem keysI_ok : ∀ {ks : List Key} {ns : List Int}, keysI ks = some ns → ks = ns.map Sum.inl
  | [], ns, h => by cases h; rfl
  | .inl i :: ks, ns, h => by
    obtain ⟨q, h1, h2⟩ := mapE h
    subst h2
    rw [keysI_ok h1]; rfl
  | .inr _ :: _, _, h => by cases h
theorem keysI_map : ∀ ns : List Int, keysI (ns.map Sum.inl) = some ns
  | [] => rfl
  | n :: ns => by
    show (keysI (ns.map Sum.inl)).map (n :: ·) = _
    rw [keysI_map ns]; rfl
def rSort (K : Fg) : List V → Hp → VK → Prop := fun vs H Q => rSortedI K vs H Q ∨ ∃ (a : Addr) (kvs : List (Key × V)) (ks : List Int), vs = [.ref a] ∧ Rd H a (.dK kvs) ∧ kvs.map (·.1) = ks.map Sum.inl ∧ ks.length < 64 ∧
    ∀ (ys : List Int) (p : Addr), ys.Perm ks → ys.Pairwise (· ≤ ·) → H p = none → Q (.ref p) (upd H p (.lst (ys.map V.int)))
theorem call_sort {X : Cx} (hc : X.calm = true) : CallR X (.builtin "sorted") (rSort X.K) := cr_sortedI.or (call_sortedDI hc)
def gSorted : GN := fun ds m => match ds with
  | [.loc l] => match m[l]? with
    | some (.lst xs) => (asIs xs).map fun ns => (.loc m.length, m ++ [.lst ((srtI ns).map D.int)])
    | some (.dK ks _) => (keysI ks).bind fun ns => if ns.length < 64 then some (.loc m.length, m ++ [.lst ((srtI ns).map D.int)]) else none
    | _ => none
  | _ => none
theorem gSorted_ok {K : Fg} : RNOk K (rSort K) gSorted := fun r H m xs ds d m' hm hx hg Q go => by
  unfold gSorted at hg
  split at hg
  · rename_i l
    obtain ⟨v, rfl, hv⟩ := hx.one
    obtain ⟨a, rfl, ha⟩ := hv.locE
    split at hg
    · rename_i ys q
      obtain ⟨ns, h1, hg⟩ := mapE hg
      cases hg
      obtain ⟨vs, hs, hw⟩ := hm.rd ha (rd_of q)
      have e := asIs_ok h1
      subst e
      have ev := hw.ints
      subst ev
      refine .inl ⟨a, ns, rfl, hs, fun ms p h u hp => ?_⟩
      rw [srtI_only h u]
      exact go.newLst hm (VAll.ofInts _) hp
    · rename_i ks ys q
      obtain ⟨ns, h1, hg⟩ := bindE hg
      obtain ⟨h2, hg⟩ := iteE hg
      cases hg
      obtain ⟨b, hb, vs, hd, hl, hw⟩ := hm.cell l _ q
      have e : b = a := by rw [ha] at hb; exact (Option.some.inj hb).symm
      subst e
      have ek := keysI_ok h1
      refine .inr ⟨b, ks.zip vs, ns, rfl, .inl hd, ?_, h2, fun ms p h u hp => ?_⟩
      · rw [← ek]
        exact List.map_fst_zip (by rw [hw.length, hl]; exact Nat.le_refl _)
      · rw [srtI_only h u]
        exact go.newLst hm (VAll.ofInts _) hp
    · cases hg
  · cases hg
end Mv

set_option Elab.async false
set_option linter.all false
set_option maxRecDepth 100000
set_option maxHeartbeats 4000000
/-! Mv27: for x, y in zip(t, u), both tuples. -/
namespace Mv
open PySem PySem.Spec PyProof.Rows L2
open RZ (iZipA pi_zipA)
/-- side by side, till one ends -/
def zipD : List D → List D → List D
  | x :: xs, y :: ys => .tup [x, y] :: zipD xs ys
  | _, _ => []
theorem zipD_length : ∀ (xs ys : List D), (zipD xs ys).length = min xs.length ys.length
  | [], ys => by simp [zipD]
  | _ :: _, [] => by simp [zipD]
  | x :: xs, y :: ys => by
    show (zipD xs ys).length + 1 = _
    rw [zipD_length xs ys, List.length_cons, List.length_cons]; omega
theorem zipD_get : ∀ (xs ys : List D) (i : Nat) (d : D), (zipD xs ys)[i]? = some d → ∃ x y, xs[i]? = some x ∧ ys[i]? = some y ∧ d = .tup [x, y]
  | [], _, _, _, h => by simp [zipD] at h
  | _ :: _, [], _, _, h => by simp [zipD] at h
  | x :: xs, y :: ys, 0, d, h => by
    have h' : some (D.tup [x, y]) = some d := h
    cases h'
    exact ⟨x, y, rfl, rfl, rfl⟩
  | x :: xs, y :: ys, i + 1, d, h => zipD_get xs ys i d h
noncomputable def fZip (fa : FA) : FI := fun e m => (fa e m).bind fun p => match p.1 with
  | [.tup xs, .tup ys] => some (⟨zipD xs ys, none⟩, p.2)
  | _ => none
theorem i_zipT {X : Cx} {a b : Expr} {ta : TA} {fa : FA} {p pos tpos : Pos} {elts : List Expr} {kk : Nat} (hm : X.mg "zip" = none) (h : A X [a, b] ta fa) (hg : Gl X "zip" := by rfl) (hs : starEach [a, b] X.env = (false, eval a X.env) :: starEach [b] X.env := by rfl) (hpl : (backTo pos (starEach [b] X.env)).any (·.1) = false := by rfl) :
    I X (.Tuple elts kk tpos) (.Call (.Name "zip" p) [a, b] [] pos) (iZipA X.K ta) (fZip fa) := ⟨pi_zipA hg hm h.pe hs hpl, fun r σ H e m s m1 hs hm hf R go => by
  obtain ⟨⟨ds, m2⟩, h1, hf⟩ := bindE hf
  split at hf
  · rename_i xs ys q
    have q' : ds = [.tup xs, .tup ys] := q
    subst q'
    cases hf
    refine h.ok r σ H e m _ _ hs hm h1 _ fun r1 vs H1 x1 hm1 hv1 => ?_
    obtain ⟨v, w, rfl, hv, hw⟩ := hv1.two
    obtain ⟨c, us, rfl, hc, hu⟩ := hv.tupE
    obtain ⟨d, zs, rfl, hd, hz⟩ := hw.tupE
    refine ⟨c, d, us, zs, rfl, .inr ⟨hc.sq, hd.sq, go r1 H1 _ x1 hm1 trivial fun i r2 H2 m3 x2 hm2 hl => ?_⟩⟩
    have hc2 : TupAt X.K H2 c us := hc.ext x2
    have hd2 : TupAt X.K H2 d zs := hd.ext x2
    have hu2 := hu.mono x2
    have hz2 := hz.mono x2
    refine ⟨fun hi => ⟨us, zs, hc2.sq, hd2.sq, ?_⟩, fun g hgt => ?_⟩
    · have hi' : (zipD xs ys).length ≤ i := hi
      rw [zipD_length] at hi'
      rw [hu2.length, hz2.length]
      omega
    · obtain ⟨x, y, g1, g2, rfl⟩ := zipD_get xs ys i g hgt
      obtain ⟨v1, p1, p2⟩ := hu2.get g1
      obtain ⟨w1, p3, p4⟩ := hz2.get g2
      refine ⟨⟨us, zs, v1, w1, hc2.sq, hd2.sq, p1, p3⟩, fun o H' yl => ?_⟩
      obtain ⟨t, o1, o2, e1, e2, e3, e4, e5⟩ := yl
      have ez : some v1 = some o1 := p1.symm.trans (e4 us hc2.sq)
      cases ez
      have ez2 : some w1 = some o2 := p3.symm.trans (e5 zs hd2.sq)
      cases ez2
      subst e1; subst e3
      exact ⟨Ext.fresh e2, hm2.fresh e2, .tup (.inl upd_same) (.cons (p2.mono (Ext.fresh e2)) (.cons (p4.mono (Ext.fresh e2)) .nil))⟩
  · cases hf⟩
end Mv

set_option Elab.async false
set_option linter.all false
set_option maxRecDepth 100000
set_option maxHeartbeats 4000000
/-! Mv28: a class made by its parameters' names: C(b=.., a=..). -/
namespace Mv
open PySem PySem.Spec PyProof.Rows L2
/-- __init__ takes all but self by their names, told in the order ks -/
def ByNameC (fd : FuncData) (ps ks : List Str) (o : List Nat) : Prop := ∀ (u : Value) (us : List Value), us.length = ks.length → bindArgs fd ⟨[u], ks.zip us⟩ = pure (ps.zip (u :: permL o us))
theorem byNameC_of {K : Fg} {x qual : Str} {st : Stmt} {f : Addr} {fd : FuncData} {ps ks : List Str} {o : List Nat} (Fu : Fun K x qual st f fd)
    (h : ∀ (kV doc pm : Value) (an : Option Addr) (cdv ct u : Value) (us : List Value), us.length = ks.length → bindArgs (PySem.W.fnOf x qual (defArgs st) (defBody st) (defScope st) .none kV doc pm an cdv ct) ⟨[u], ks.zip us⟩ = pure (ps.zip (u :: permL o us))) : ByNameC fd ps ks o := by
  obtain ⟨_, _, kV, doc, pm, an, cdv, ct, _, e, _, _⟩ := Fu.ex
  subst e
  exact fun u us hl => h kV doc pm an cdv ct u us hl
/-- what is known of a class that is made by names -/
structure KnCN (P : Program) (w : World) (K : Fg) (mg : Str → Option Value) (base : Heap) (x : Str) (k : Nat) (ps ks : List Str) (o : List Nat) (F : GN) : Prop where
  ex : ∃ C f fd, ClsAt K x C ∧ Mk K C f ∧ FnG P w K mg base CX0 k f fd ps (spG K F) ∧ mg x = some (.ref C) ∧ ByNameC fd ps ks o
section
variable {X : Cx} {k : Nat} {f C : Addr} {fd : FuncData} {ps ks : List Str} {o : List Nat} {sp : Sp} {x : Str} {p pos : Pos} {kws : List Keyword} {tk : TA}
/-- .. as told, put in order -/
def tOrd (n : Nat) (o : List Nat) (tk : TA) : TA := fun σ H Q => tk σ H fun vs H1 => vs.length = n ∧ Q (permL o vs) H1
theorem pe_makeNamed (M : Mk X.K C f) (F : FnG X.prog X.w X.K X.mg X.base CX0 k f fd ps sp) (hr : Room (k + 1) X.A) (hG : X.A.guards = some []) (hg : Gl X x) (hm : X.mg x = some (.ref C)) (hb : ByNameC fd ps ks o) (ha : PK X kws tk)
    (hall : (backToKw pos (keywordEach kws X.env)).all (·.1.isSome) = true := by rfl) (hks : (backToKw pos (keywordEach kws X.env)).filterMap (·.1) = ks := by rfl) (hdb : (x == ("__debug__" : Str)) = false := by decide)
    (hpl : ((backTo pos (starEach [] X.env)).any (·.1) || (backToKw pos (keywordEach kws X.env)).any (·.1.isNone)) = false := by rfl) :
    PE X (.Call (.Name x p) [] kws pos) (tMakeG C sp E0 (tOrd ks.length o tk)) := by
  constructor
  intro pins s σ H Q I h
  refine wpAny_Call_Name_kw (ld_glob I hg hm (PySem.W.callWith_KW0 (h₀ := X.base) I.ok.mod.kin M.kp hall (thn (ha.run pos pins s σ H _ I h) ?_) hpl) hdb)
  rintro us s1 ⟨vs, H1, I1, r, told, q⟩
  refine ⟨I1.kIn, ?_⟩
  rw [hks]
  have many : us.length = ks.length := r.length ▸ told
  let self := s1.heap.objs.size + 1
  have q1 := q self s1.heap.objs.size (I1.hok.fresh (Nat.le_succ _)) (I1.hok.fresh (Nat.le_refl _)) (Nat.ne_of_lt (Nat.lt_succ_self _))
  have all : Vals (V.ref self :: permL o vs) (Value.ref self :: permL o us) := .cons rfl (relPerm r o)
  have J := Inv.made (C := C) I1
  have went := F.goes _ (hr.make C [] (ks.zip us)) (make_guards hG) X.stack _ _ (J.env0.make C [] (ks.zip us)) ⟨[Value.ref self], ks.zip us⟩ (Value.ref self :: permL o us) (.of_eq (hb _ us many)) _ all _ E0 q1
  refine wpAny_call (make_map (f := f) I1.kIn M.makes M.init (beq_iff_eq.mp M.fn) (codeAny_mono went fun res s2 got => ?_))
  cases res with
  | error e => exact pass0 pins σ _ _ e s2 J got
  | ok fl =>
    cases fl with
    | ret u =>
      obtain ⟨v, H2, J2, rv, ev, q2⟩ := J.after got
      subst ev
      exact ⟨rv, V.ref self, H2, J2, rfl, q2⟩
    | next => exact got.elim
    | brk => exact got.elim
    | cont => exact got.elim
end
theorem ordOk {K : Fg} {t : TA} {fa : FA} {n : Nat} {o : List Nat} (h : AOk K t fa) : AOk K (tOrd n o t) (fOrd n o fa) := fun r σ H e m ds m' hs hm hf Q go => by
  obtain ⟨⟨es, m1⟩, g1, hf⟩ := bindE hf
  obtain ⟨g2, hf⟩ := iteE hf
  cases hf
  exact h r σ H e m es m1 hs hm g1 _ fun r1 vs H1 x1 hm1 hv1 => ⟨hv1.length.trans g2, go r1 (permL o vs) H1 x1 hm1 (allPerm hv1 o)⟩
theorem e_makeNamed {X : Cx} {k : Nat} {ps ks : List Str} {o : List Nat} {len : Nat} {F : GN} {n : Str} {p pos : Pos} {kws : List Keyword} {t : TA} {fa : FA} (kn : KnCN X.prog X.w X.K X.mg X.base n k ps ks o F) (hr : Room (k + 1) X.A) (hG : X.A.guards = some []) (ha : AK X kws t fa) (hg : Gl X n := by rfl)
    (hall : (backToKw pos (keywordEach kws X.env)).all (·.1.isSome) = true := by rfl) (hks : (backToKw pos (keywordEach kws X.env)).filterMap (·.1) = ks := by rfl) (hdb : (n == ("__debug__" : Str)) = false := by decide)
    (hpl : ((backTo pos (starEach [] X.env)).any (·.1) || (backToKw pos (keywordEach kws X.env)).any (·.1.isNone)) = false := by rfl)
    (hn : ks.length = len := by rfl) : E X (.Call (.Name n p) [] kws pos) (tMakeN X.K n (spG X.K F) E0 (tOrd len o t)) (fMake n F (fOrd len o fa)) := by
  subst hn
  obtain ⟨C, f, fd, hc, M, Fn, hm, hb⟩ := kn.ex
  refine ⟨⟨fun pins s σ H Q I h => ?_⟩, fun r σ H e m d m' hs hmm hf Q go => ⟨C, hc, makeOk hc (ordOk ha.ok) r σ H e m d m' hs hmm hf Q go⟩⟩
  obtain ⟨C', hc', h⟩ := h
  have ec := hc'.inj hc
  subst ec
  exact (pe_makeNamed M Fn hr hG hg hm hb ha.pe hall hks hdb hpl).run pins s σ H Q I h
end Mv

set_option Elab.async false
set_option linter.all false
set_option maxRecDepth 100000
set_option maxHeartbeats 4000000
/-! Mv29: x += e, x -= e of ints. -/
namespace Mv
open PySem PySem.Spec PyProof.Rows L2
/-- the name in slot i, told anew by f of what it was and of e's value -/
def fsAug (f : Int → Int → Int) (i : Nat) (fe : FE) : FS := fun e m => (e[i]?.join).bind fun d => (fe e m).bind fun p => match d, p.1 with
  | .int a, .int b => some (.nx (e.set i (some (.int (f a b)))) p.2)
  | _, _ => none
theorem s_aug {X : Cx} (i : Nat) {x : Str} {a : Expr} {te : TE} {fe : FE} {op : Operator} {f : Int → Int → Int} {pos pos' : Pos} (ho : PIp X op (ipI f)) (hN : X.N.Nodup) (h : E X a te fe) (hi : X.N[i]? = some x := by rfl) (hx : Loc X.env.scope x := by first | exact Or.inl rfl | exact Or.inr rfl)
    (hf : X.fn x = true ∨ X.env.scope.names.lookup x = some .local := by first | exact .inl rfl | exact .inr rfl) : S X (.AugAssign (.Name x pos') op a pos) (tAug i te (ipI f)) (fsAug f i fe) := ⟨ps_aug hN hi hx h.pe ho hf, fun r σ H e m o hs hm hg B go => by
  obtain ⟨d, q0, hg⟩ := bindE hg
  obtain ⟨⟨g, m1⟩, q1, hg⟩ := bindE hg
  have q0' : e[i]? = some (some d) := by
    cases z : e[i]? with
    | none => rw [z] at q0; cases q0
    | some y => rw [z] at q0; exact congrArg some q0
  obtain ⟨v, l1, l2⟩ := hs.2 i d q0'
  split at hg
  · rename_i u w e1 _
    have e1' : g = .int w := e1
    subst e1'
    cases hg
    refine ⟨v, l1, h.ok r σ H e m _ m1 hs hm q1 _ fun r1 y H1 x1 hm1 hv1 => ?_⟩
    exact ⟨u, w, l2.intE, hv1.intE, go r1 _ H1 x1 ((hs.mono x1).set i (.int _)) hm1⟩
  · cases hg⟩
end Mv

set_option Elab.async false
set_option linter.all false
set_option maxRecDepth 100000
set_option maxHeartbeats 4000000
/-! Mv30: sum and sorted of a list of ints that is just made. -/
namespace Mv
open PySem PySem.Spec PyProof.Rows L2
def gSum : GN := fun xs m => (asIs xs).map fun ns => (.int ns.sum, m)
theorem gSum_ok {K : Fg} : ROnOk K (rSum K) gSum := fun r H m p vs xs d m' hm hp hq hv hg Q go => by
  obtain ⟨ns, h1, hg⟩ := mapE hg
  cases hg
  have e := asIs_ok h1
  subst e
  have e2 := hv.ints
  subst e2
  exact ⟨p, ns, rfl, .of hq, go.here hm (.int _)⟩
def gSortedN : GN := fun xs m => (asIs xs).map fun ns => (.loc m.length, m ++ [.lst ((srtI ns).map D.int)])
theorem gSortedN_ok {K : Fg} : ROnOk K (rSort K) gSortedN := fun r H m p vs xs d m' hm hp hq hv hg Q go => by
  obtain ⟨ns, h1, hg⟩ := mapE hg
  cases hg
  have e := asIs_ok h1
  subst e
  have e2 := hv.ints
  subst e2
  refine .inl ⟨p, ns, rfl, .of hq, fun ms p' h u hp' => ?_⟩
  rw [srtI_only h u]
  exact go.newLst hm (VAll.ofInts _) hp'
end Mv

set_option Elab.async false
set_option linter.all false
set_option maxRecDepth 100000
set_option maxHeartbeats 4000000
/-! Mv31: len of dicts too. -/
namespace Mv
open PySem PySem.Spec PyProof.Rows L2
/-- the many keys of a dict that stands at a place -/
def manyK (m : Mem) (l : Nat) : Option Nat := match m[l]? with
  | some (.dK ks _) => some ks.length
  | some (.dT ks _) => some ks.length
  | _ => none
def gLenD : GN := fun ds m => match ds with
  | [.loc l] => match manyK m l with
    | some n => some (.int (n : Nat), m)
    | none => gLen [.loc l] m
  | ds => gLen ds m
def rLenD (K : Fg) : List V → Hp → VK → Prop := fun vs H Q => (∃ x n, vs = [x] ∧ LenV K x H n ∧ Q (.int n) H) ∨ (∃ a kvs, vs = [V.ref a] ∧ H a = some (.dK kvs) ∧ Q (.int kvs.length) H) ∨ rLenT vs H Q
theorem call_lenA {X : Cx} : CallR X (.builtin "len") (rLenD X.K) := call_len.or (call_lenD.or call_len_dT)
theorem gLenD_ok {K : Fg} : RNOk K (rLenD K) gLenD := fun r H m vs ds d m' hm hx hg Q go => by
  unfold gLenD at hg
  split at hg
  · rename_i l
    split at hg
    · rename_i n q
      cases hg
      obtain ⟨v, rfl, hv⟩ := hx.one
      obtain ⟨a, rfl, ha⟩ := hv.locE
      unfold manyK at q
      split at q
      · rename_i ks xs z
        cases q
        obtain ⟨b, hb, ws, e, hl, hw⟩ := hm.cell l _ z
        rw [ha] at hb; cases hb
        have hz : (ks.zip ws).length = ks.length := by rw [List.length_zip, hw.length, ← hl, Nat.min_self]
        exact .inr (.inl ⟨_, _, rfl, e, by rw [hz]; exact go.here hm (.int _)⟩)
      · rename_i ks xs z
        cases q
        obtain ⟨b, hb, ws, e, hl, hw⟩ := hm.cell l _ z
        rw [ha] at hb; cases hb
        have hz : (ks.zip ws).length = ks.length := by rw [List.length_zip, hw.length, ← hl, Nat.min_self]
        exact .inr (.inr ⟨_, _, rfl, e, by rw [hz]; exact go.here hm (.int _)⟩)
      · cases q
    · exact .inl (gLen_ok r H m vs _ d m' hm hx hg Q go)
  · exact .inl (gLen_ok r H m vs _ d m' hm hx hg Q go)
end Mv

set_option Elab.async false
set_option linter.all false
set_option maxRecDepth 100000
set_option maxHeartbeats 4000000
/-! Mv32: dicts with tuples for keys: displays, stores. -/
namespace Mv
open PySem PySem.Spec PyProof.Rows L2

/-! ### {t: v}, t a tuple that stands by itself -/
def tDispT (tk tv : TE) : TE := fun σ H Q => ∀ p, H p = none → tk σ (upd H p (.dT [])) fun x H1 => tv σ H1 fun y H2 =>
  ∃ (b : Addr) (k : List Key), H2 p = some (.dT []) ∧ x = .ref b ∧ H2 b = some (.tup (k.map kV)) ∧ Q (.ref p) (upd H2 p (.dT [(k, y)]))
theorem pe_dispT {X : Cx} {pos : Pos} {k v : Expr} {tk tv : TE} (hu : X.A.units + 1 < cLine) (hk : PE X k tk) (hv : PE X v tv) : PE X (.Dict [some k] [v] pos) (tDispT tk tv) := by
  refine ⟨fun pins s σ H Q I q => ?_⟩
  have hn := I.hok.fresh (Nat.le_refl s.heap.objs.size)
  have I1 := I.laid (a := s.heap.objs.size) (o := .dT []) (t' := s.toks) (fun _ _ z => Heap.get?_push_of_some _ z) (Nat.le_refl _) (dt_empty s.heap I.big)
  rw [arm_eval_Dict, zip_pairTrees [some k] [v] X.env pos rfl rfl, dictDisplay_pairs _ (fun z => by cases z) (by rw [pairTrees_length [some k] [v] X.env pos rfl rfl]; exact (by decide : 1 < 17))]
  refine wpAny_bind (wpAny_standAt (wpAny_bind (wpAny_subDictH (knd := tupleKind (mixKind X.prog X.w)) (Nat.lt_of_succ_lt hu : X.A.units < cLine) (by rw [pairTrees_length [some k] [v] X.env pos rfl rfl]; exact (by decide : 1 ≤ 15)) ?_)))
  refine pairTrees_cons_walk (thn (hk.run pins _ σ _ _ I1 (q _ hn)) fun u s1 ⟨x, H1, I1', rx, q1⟩ => ?_)
  refine thn (hv.run pins s1 σ H1 _ I1' q1) fun w2 s2 ⟨y, H2, I2, ry, b, kk, e, ex, eb, q2⟩ => pairTrees_nil_walk ?_
  subst ex
  cases (show u = Value.ref b from rx)
  obtain ⟨_, hd, xs, r, dd⟩ := dt_of I2.hok e
  cases r
  refine ⟨[(kk, b, w2)], ⟨rfl, rfl, key_of I2.hok eb, trivial⟩, dd, fun h' tk' dd' hs => wpAny_pure ⟨.ref s.heap.objs.size, _, ?_, rfl, q2⟩⟩
  have he : ∃ z, h'.get? s.heap.objs.size = some z := let ⟨z, _, _, hz, _⟩ := dd'; ⟨z, hz⟩
  have hne : b ≠ s.heap.objs.size := fun z => by rw [z, e] at eb; cases eb
  obtain ⟨o, es, ep, d1, d2, d3, d4, _, d5⟩ := dd'
  have d4' : es.toList = [(kk, b, w2)].map (entryOfKey (tupleKind (mixKind X.prog X.w))) := d4
  exact d_write I2 (by rw [e]; exact True.intro) hs he ⟨by rw [sizeLine_eq]; show 1 ≤ _; decide, hd, [(kk, b, w2)], .cons ⟨rfl, by rw [upd_ne hne]; exact eb, ry⟩ .nil, o, es, ep, d1, d2, d3, d4', d5⟩
def keyT : D → Option (List Key)
  | .ttp xs => keyL xs
  | _ => none
theorem keyT_ok {K : Fg} {r : List Addr} {H : Hp} {v : V} {d : D} {k : List Key} (hv : Val K r H v d) (h : keyT d = some k) : ∃ b, v = .ref b ∧ H b = some (.tup (k.map kV)) := by
  cases d with
  | ttp xs =>
    obtain ⟨b, vs, rfl, e, w⟩ := hv.ttpE
    have e2 := keyL_ok w h
    subst e2
    exact ⟨b, rfl, e⟩
  | _ => cases h
def fDispT (fk fv : FE) : FE := fun e m => (fk e m).bind fun p => (keyT p.1).bind fun k => (fv e p.2).map fun q => (.loc q.2.length, q.2 ++ [.dT [k] [q.1]])
theorem e_dispT {X : Cx} {pos : Pos} {k v : Expr} {tk tv : TE} {fk fv : FE} (hu : X.A.units + 1 < cLine) (hk : E X k tk fk) (hv : E X v tv fv) : E X (.Dict [some k] [v] pos) (tDispT tk tv) (fDispT fk fv) := ⟨pe_dispT hu hk.pe hv.pe, fun r σ H e m d m' hs hm hf Q go => by
  obtain ⟨⟨d1, m1⟩, h1, hf⟩ := bindE hf
  obtain ⟨kk, h2, hf⟩ := bindE hf
  obtain ⟨⟨d2, m2⟩, h3, hf⟩ := mapE hf
  cases hf
  intro p hp
  have x0 : Ext r H r (upd H p (.dT [])) := Ext.fresh hp
  have hpr := hm.notIn hp
  refine hk.ok r σ _ e m d1 m1 (hs.mono x0) (hm.fresh hp) h1 _ fun r1 v1 H1 x1 hm1 hv1 => ?_
  refine hv.ok r1 σ H1 e m1 d2 m2 (hs.mono (x0.trans x1)) hm1 h3 _ fun r2 v2 H2 x2 hm2 hv2 => ?_
  obtain ⟨b, eb, hb⟩ := keyT_ok hv1 h2
  have x12 := x1.trans x2
  have e1 : H2 p = some (.dT []) := x12.keep p _ upd_same hpr
  have hp2 : p ∉ r2 := fun z => (x12.new p z).elim hpr fun q => by rw [upd_same] at q; cases q
  refine ⟨b, kk, e1, eb, x2.fix b _ trivial hb, ?_⟩
  let H3 := upd H2 p (.dT [(kk, v2)])
  have hm3 : MemOk X.K r2 H3 m2 := hm2.offG hp2 e1 (fun z => z) (fun _ _ _ z => by cases z)
  have st : StayI r2 H3 (r2 ++ [p]) H3 := fun b C dx fs q hn => ⟨q, fun z => by
    rcases List.mem_append.mp z with z | z
    · exact hn z
    · have ez : b = p := by simpa using z
      have : H3 p = some (.dT [(kk, v2)]) := upd_same
      rw [ez, this] at q; cases q⟩
  have q3 : VAll X.K r2 H3 [v2] [d2] := VAll.offG e1 (fun z => z) (fun _ _ _ z => by cases z) (.cons hv2 .nil)
  have hm4 := hm3.adoptC (c := .dT [kk] [d2]) hp2 st ⟨[v2], upd_same, rfl, q3⟩
  have xx : Ext r H (r2 ++ [p]) H3 := ((x0.trans x12).hid hp).adopt hp
  refine go (r2 ++ [p]) (.ref p) H3 xx hm4 (.loc ?_)
  rw [← hm2.len]; simp⟩
/-! ### d[t] = v, d a dict of tuples -/
def fSubT (fo fi : FE) : FG := fun d e m => (fo e m).bind fun p => (fi e p.2).bind fun q => match p.1 with
  | .loc l => match q.2[l]? with
    | some (.dT ks xs) => (keyT q.1).bind fun k => if xs.length < 100000 then some (e, q.2.set l (.dT (putD k d ks xs).1 (putD k d ks xs).2)) else none
    | _ => none
  | _ => none
theorem MemOk.dT {K : Fg} {r : List Addr} {H : Hp} {m : Mem} {l : Nat} {a : Addr} {ks : List (List Key)} {xs : List D} (hm : MemOk K r H m) (ha : r[l]? = some a) (q : m[l]? = some (.dT ks xs)) : ∃ vs, H a = some (.dT (ks.zip vs)) ∧ ks.length = xs.length ∧ VAll K r H vs xs := by
  obtain ⟨b, hb, vs, ea, hl, hw⟩ := hm.cell l _ q
  rw [ha] at hb; cases hb
  exact ⟨vs, ea, hl, hw⟩
theorem g_subT {X : Cx} {o i : Expr} {to ti : TE} {fo fi : FE} {pos : Pos} (hu : X.A.units + 1 < cLine) (ho : E X o to fo) (hi : E X i ti fi)
    (ha : ∀ v, assign (.Subscript o i pos) X.env v = (do
      let ov ← holding [v] (eval o X.env)
      let iv ← holding [v, ov] (eval i X.env)
      standAt pos
      holding [v, ov, iv] (setItem ov iv v)
      release [v, ov, iv] []) := by intro _; rfl) : G X (.Subscript o i pos) (L2.gSub to ti (fun o i v H Q => rSetL o i v H Q ∨ rPutD X.K o i v H Q)) (fSubT fo fi) [] := ⟨pg_sub ho.pe hi.pe (set_dictA hu) ha, fun r σ H e m v d e1 m1 hs hm hv hf Q g => by
  obtain ⟨⟨d1, m2⟩, q1, hf⟩ := bindE hf
  obtain ⟨⟨d2, m3⟩, q2, hf⟩ := bindE hf
  dsimp only at hf q2
  cases d1 with
  | loc l =>
    dsimp only at hf
    refine ho.ok r σ H e m _ _ hs hm q1 _ fun r1 v1 H1 x1 hm1 hv1 => ?_
    refine hi.ok r1 σ H1 e _ _ _ (hs.mono x1) hm1 q2 _ fun r2 v2 H2 x2 hm2 hv2 => ?_
    obtain ⟨a, e1', ha⟩ := (hv1.mono x2).locE
    have x12 := x1.trans x2
    split at hf
    · rename_i ks xs z3
      obtain ⟨k, h4, hf⟩ := bindE hf
      obtain ⟨h5, hf⟩ := iteE hf
      cases hf
      obtain ⟨vs, w1, w2, w3⟩ := hm2.dT ha z3
      obtain ⟨b, eb, hb⟩ := keyT_ok hv2 h4
      obtain ⟨p1, p2, p3⟩ := putD_val (k := k) w2 w3 (hv.mono x12)
      have ew : Ext r2 H2 r2 (upd H2 a (.dT (putK (ks.zip vs) k v))) := Ext.write (List.mem_of_getElem? ha) fun u hf z => by rw [w1] at z; cases z; exact hf
      refine .inr (.inr ⟨a, ks, vs, k, b, e1', eb, hb, w1, ?_, ?_⟩)
      · rw [List.length_zip, w3.length, w2, Nat.min_self]
        exact ltLine h5
      · exact g r2 σ _ (x12.trans ew) (hs.mono (x12.trans ew)) (hm2.writeC ha ⟨_, by rw [upd_same, p1], p2, p3.mono ew⟩ ew) (fun _ _ => rfl) rfl
    · cases hf
  | _ => cases hf⟩
/-! ### tuples that are just made, as keys may be -/
def gTupNT : GN := fun xs m => some (.ttp xs, m)
theorem Go.newTtp {K : Fg} {r : List Addr} {H : Hp} {m : Mem} {vs : List V} {xs : List D} {Q : VK} (g : Go K r H m (.ttp xs) Q) (hm : MemOk K r H m) (hv : VAll K r H vs xs) {p : Addr} (hp : H p = none) : Q (.ref p) (upd H p (.tup vs)) :=
  g r (.ref p) _ (Ext.fresh hp) (hm.fresh hp) (.ttp upd_same (hv.mono (Ext.fresh hp)))
theorem gTupNT_ok {K : Fg} : ROnOk K (rTupOf K) gTupNT := fun r H m p vs xs d m' hm hp hq hv hg Q go => by
  cases hg
  exact ⟨p, vs, rfl, .inl ⟨.of hq, fun l hl => go.newTtp hm hv hl⟩⟩
end Mv

set_option Elab.async false
set_option linter.all false
set_option maxRecDepth 100000
set_option maxHeartbeats 4000000
/-! Mv33: sorted of a dict whose keys are tuples of ints. -/
namespace Mv
open PySem PySem.Spec PyProof.Rows L2
/-- the address of a thing that has one -/
def adOf : Value → Addr
  | .ref a => a
  | _ => 0
def rSortedDT : List V → Hp → VK → Prop := fun xs H Q => ∃ (a : Addr) (kvs : List (List Key × V)) (ns : List (List Int)) (d : Nat) (B : Int),
  xs = [V.ref a] ∧ H a = some (.dT kvs) ∧ kvs.map (·.1) = ns.map (fun n => n.map Sum.inl) ∧ ns.length < 64 ∧ 1 ≤ d ∧ (∀ n ∈ ns, n.length = d ∧ TS.Bd B n) ∧
  ∀ (L : List (Addr × List Int)) (p : Addr), (L.map (·.2)).Perm ns → L.Pairwise (fun x y => TS.code B x.2 ≤ TS.code B y.2) → (∀ q ∈ L, H q.1 = some (.tup (q.2.map V.int))) → H p = none → Q (.ref p) (upd H p (.lst (L.map fun q => V.ref q.1)))
theorem kV_inl (n : List Int) : (n.map Sum.inl : List Key).map kV = n.map V.int := by
  rw [List.map_map]; rfl
theorem IsKeys.ints {H : Hp} : ∀ {kvs : List (List Key × V)} {bs : List Addr} {ns : List (List Int)}, IsKeys H kvs bs → kvs.map (·.1) = ns.map (fun n => n.map Sum.inl) → bs.length = ns.length ∧ ∀ q ∈ bs.zip ns, H q.1 = some (.tup (q.2.map V.int))
  | _, _, [], .nil, _ => ⟨rfl, fun q hq => by cases hq⟩
  | _, _, _ :: _, .nil, e => by cases e
  | _, _, [], .cons _ _, e => by cases e
  | _, _, n :: ns, .cons h t, e => by
    rw [List.map_cons, List.map_cons] at e
    obtain ⟨e1, e2⟩ := List.cons.inj e
    obtain ⟨l, k⟩ := IsKeys.ints (show IsKeys H _ _ from t) e2
    refine ⟨by rw [List.length_cons, List.length_cons, l], fun q hq => ?_⟩
    rw [List.zip_cons_cons] at hq
    rcases List.mem_cons.mp hq with rfl | hq
    · rw [e1, kV_inl] at h; exact h
    · exact k q hq
theorem cr_sortedDT {X : Cx} (hc : X.calm = true) : CallR X (.builtin "sorted") rSortedDT := by
  intro pins s σ H xs us Q I r q
  obtain ⟨a, kvs, ns, d, B, rfl, ha, hks, h64, hd1, hB, q⟩ := q
  obtain ⟨u, rfl, rx⟩ := r.one
  cases rx
  obtain ⟨z, lo, ks, pr, o, es, ep, ho, hx, hdt, he, hn⟩ := (show ObjOk X.prog X.w H s.heap a (.dT kvs) from I.hok a _ ha)
  obtain ⟨hbl, hbs⟩ := IsKeys.ints (isKeys_of pr) hks
  have lk : es.size = ks.length := size_of_entries he
  have lb : ks.length = ns.length := by rw [← hbl, List.length_map]
  refine Calls.call_function_entry kind_sorted plain_sorted entry_sorted (args_sorted1 _) ?_
  unfold Builtin.«sorted»
  refine wpAny_bind (m := checkCount "sorted" 1 1 _) (wpAny_pure ?_)
  refine wpAny_bind (PySem.W.kdu_collect (A := X.A.in1) (kdl_raw lo hx hdt) (I.ok.hd hc) ho (by rw [lk, lb, sizeLine_eq]; omega) fun h1 tk acc kp it => ?_)
  have al : acc.toList.length = ks.length := by rw [Array.length_toList, it.1, lk]
  -- what was gathered are the keys' own addresses
  have ea : acc.toList = (ks.map fun x => x.2.1).map Value.ref := by
    refine List.ext_getElem? fun j => ?_
    rw [List.getElem?_map, List.getElem?_map]
    by_cases hj : j < ks.length
    · obtain ⟨v, hv⟩ : ∃ v, acc.toList[j]? = some v := ⟨_, List.getElem?_eq_getElem (by omega)⟩
      obtain ⟨en, hen, e2⟩ := it.2 j v (by rw [← Array.getElem?_toList]; exact hv)
      have q1 := entry_at he j
      rw [hen, List.getElem?_eq_getElem hj] at q1
      have q2 : en = entryOfKey (tupleKind (mixKind X.prog X.w)) ks[j] := Option.some.inj q1
      rw [hv, List.getElem?_eq_getElem hj, e2, q2]
      rfl
    · rw [List.getElem?_eq_none (by omega), List.getElem?_eq_none (by omega)]; rfl
  have I1 : Inv X pins σ H { s with heap := h1, toks := tk } := I.kept kp
  have l64 : acc.toList.length < 64 := by omega
  refine wpAny_bind (wpAny_newList ?_ (by rw [sizeLine_eq]; omega))
  have hoL : (h1.push (seqObj "list" acc.toList.toArray 0)).get? h1.objs.size = some (seqObj "list" acc.toList.toArray 0) := Heap.get?_push_size _ rfl
  let hL := h1.push (seqObj "list" acc.toList.toArray 0)
  -- each one's ints
  have tI : ∀ p ∈ (ks.map fun x => x.2.1).zip ns, TS.TupInts hL (.ref p.1) p.2 := fun p hp => by
    have t := tupI_raw I1 (t := p.1) (ns := p.2) (.inl (.inl (hbs p hp)))
    exact t.keeps fun b u e _ => Heap.get?_push_of_some _ e
  have hin : ∀ v ∈ acc.toList, ∃ p ∈ (ks.map fun x => x.2.1).zip ns, v = .ref p.1 := fun v hv => by
    rw [ea] at hv
    obtain ⟨b, hb, rfl⟩ := List.mem_map.mp hv
    have : ((ks.map fun x => x.2.1).zip ns).map Prod.fst = ks.map fun x => x.2.1 := List.map_fst_zip (by omega)
    rw [← this] at hb
    obtain ⟨p, hp, rfl⟩ := List.mem_map.mp hb
    exact ⟨p, hp, rfl⟩
  have ok : TS.TupsOk hL d B acc.toList := fun v hv => by
    obtain ⟨p, hp, rfl⟩ := hin v hv
    have := hB p.2 (List.of_mem_zip hp).2
    exact ⟨p.2, tI p hp, this.1, this.2⟩
  show wpAny _ _ _ _ _ { s with heap := hL, toks := tk }
  refine wpAny_bind (wpAny_holding (TS.call_sort_tups (s := { s with heap := hL, toks := tk }) hoL l64 hd1 ok fun out o1 o2 => ?_))
  obtain ⟨cc, hcc⟩ := sortedHeap_at (vs := acc.toList) (out := out) hoL
  let g : Value → Addr × List Int := fun v => (adOf v, TS.intsOf hL v)
  have gz : acc.toList.map g = (ks.map fun x => x.2.1).zip ns := by
    have e : ∀ (bs : List Addr) (ms : List (List Int)), bs.length = ms.length → (∀ p ∈ bs.zip ms, TS.TupInts hL (.ref p.1) p.2) → (bs.map Value.ref).map g = bs.zip ms := by
      intro bs
      induction bs with
      | nil => intro ms _ _; rfl
      | cons b bs ih =>
        intro ms hl ht
        cases ms with
        | nil => cases hl
        | cons m ms =>
          rw [List.map_cons, List.map_cons, List.zip_cons_cons, ih ms (Nat.succ.inj hl) fun p hp => ht p (List.mem_cons_of_mem _ hp)]
          have := (ht (b, m) List.mem_cons_self).ints
          show ((b, TS.intsOf hL (.ref b)) :: _) = _
          rw [this]
    rw [ea]
    exact e _ _ (by rw [List.length_map]; omega) tI
  have oin : ∀ v ∈ out.toList, ∃ p ∈ (ks.map fun x => x.2.1).zip ns, v = .ref p.1 := fun v hv => hin v (o1.mem_iff.mp hv)
  have eo : out.toList = (out.toList.map g).map fun q => Value.ref q.1 := by
    rw [List.map_map]
    refine (List.map_id _).symm.trans (List.map_congr_left fun v hv => ?_)
    obtain ⟨p, _, rfl⟩ := oin v hv
    rfl
  have pL : (out.toList.map g).Perm ((ks.map fun x => x.2.1).zip ns) := gz ▸ o1.map g
  have hlen : ((out.toList.map g).map fun q => V.ref q.1).length ≤ sizeLine := by
    rw [List.length_map, pL.length_eq, List.length_zip, List.length_map, sizeLine_eq]; omega
  have rv : Vals ((out.toList.map g).map fun q => V.ref q.1) out.toList := by
    have w : Vals (((out.toList.map g).map Prod.fst).map V.ref) (((out.toList.map g).map Prod.fst).map Value.ref) := vals_refs _
    have e2 : ((out.toList.map g).map Prod.fst).map Value.ref = out.toList := by rw [List.map_map]; exact eo.symm
    rw [e2, List.map_map] at w
    exact w
  refine wpAny_pure ⟨_, rfl, .ref h1.objs.size, upd H h1.objs.size (.lst ((out.toList.map g).map fun q => V.ref q.1)), I1.laid (t' := tk) (fun b u e => ?_) (Nat.le_refl _)
    (show ObjOk X.prog X.w _ _ _ (.lst _) from ⟨hlen, out.toList, cc, rv, by rw [Array.toArray_toList]; exact hcc⟩), rfl, q _ _ ?_ ?_ (fun p hp => hbs p (pL.mem_iff.mp hp)) (I1.hok.fresh (Nat.le_refl _))⟩
  · have hb : b < h1.objs.size := Heap.lt_size e
    rw [sortedHeap_old (Nat.ne_of_lt hb) (by rw [size_push']; exact Nat.lt_succ_of_lt hb)]
    exact Heap.get?_push_of_some _ e
  · have : ((ks.map fun x => x.2.1).zip ns).map Prod.snd = ns := List.map_snd_zip (by rw [List.length_map]; omega)
    exact this ▸ pL.map Prod.snd
  · rw [List.pairwise_map]
    exact o2
/-! ### .. as a function -/
theorem code_bd {B : Int} : ∀ {ns : List Int}, TS.Bd B ns → 0 ≤ TS.code B ns ∧ TS.code B ns < B ^ ns.length
  | [], _ => ⟨Int.le_refl _, by rw [List.length_nil, Int.pow_zero]; exact (by decide : (0 : Int) < 1)⟩
  | n :: ns, h => by
    obtain ⟨c0, c1⟩ := code_bd h.tail
    have := TS.num1 c0 c1 h.head.1 h.head.2
    exact ⟨this.1, by rw [List.length_cons, Int.pow_succ]; exact this.2⟩
theorem code_inj {B : Int} : ∀ {a b : List Int}, a.length = b.length → TS.Bd B a → TS.Bd B b → TS.code B a = TS.code B b → a = b
  | [], [], _, _, _, _ => rfl
  | [], _ :: _, h, _, _, _ => by cases h
  | _ :: _, [], h, _, _, _ => by cases h
  | x :: a, y :: b, hl, ha, hb, e => by
    have hl' : a.length = b.length := Nat.succ.inj hl
    obtain ⟨a0, a1⟩ := code_bd ha.tail
    obtain ⟨b0, b1⟩ := code_bd hb.tail
    have e' : x * B ^ a.length + TS.code B a = y * B ^ b.length + TS.code B b := e
    rw [← hl'] at e' b1
    have exy : x = y := by
      rcases Int.lt_trichotomy x y with h | h | h
      · have := TS.num2 (P := B ^ a.length) a0 a1 b0 h
        omega
      · exact h
      · have := TS.num2 (P := B ^ a.length) b0 b1 a0 h
        omega
    subst exy
    rw [code_inj hl' ha.tail hb.tail (by omega)]
/-- rows of ints by their size as numbers to 64: as tuples rise, where all are of one length -/
def srtT (ns : List (List Int)) : List (List Int) := ns.mergeSort fun a b => decide (TS.code 64 a ≤ TS.code 64 b)
theorem srtT_perm (ns : List (List Int)) : (srtT ns).Perm ns := List.mergeSort_perm _ _
theorem srtT_up (ns : List (List Int)) : (srtT ns).Pairwise fun a b => TS.code 64 a ≤ TS.code 64 b := by
  have h := List.pairwise_mergeSort (le := fun a b : List Int => decide (TS.code 64 a ≤ TS.code 64 b)) (fun a b c p q => by simp at p q ⊢; omega) (fun a b => by simp; omega) ns
  exact h.imp fun q => by simpa using q
def okT (ns : List (List Int)) : Bool := match ns with
  | [] => true
  | n :: r => decide (1 ≤ n.length) && (n :: r).all fun k => decide (k.length = n.length) && k.all fun x => decide (0 ≤ x ∧ x < 64)
theorem okT_ok {ns : List (List Int)} (h : okT ns = true) : ∃ d, 1 ≤ d ∧ ∀ n ∈ ns, n.length = d ∧ TS.Bd 64 n := by
  cases ns with
  | nil => exact ⟨1, Nat.le_refl _, fun n hn => by cases hn⟩
  | cons n r =>
    obtain ⟨h1, h2⟩ := Bool.and_eq_true_iff.mp h
    refine ⟨n.length, of_decide_eq_true h1, fun k hk => ?_⟩
    obtain ⟨h3, h4⟩ := Bool.and_eq_true_iff.mp (List.all_eq_true.mp h2 k hk)
    exact ⟨of_decide_eq_true h3, fun m hm => of_decide_eq_true (List.all_eq_true.mp h4 m hm)⟩
theorem srtT_only {ns ms : List (List Int)} {d : Nat} (hd : ∀ n ∈ ns, n.length = d ∧ TS.Bd 64 n) (h : ms.Perm ns) (u : ms.Pairwise fun a b => TS.code 64 a ≤ TS.code 64 b) : ms = srtT ns :=
  List.Perm.eq_of_pairwise (le := fun a b => TS.code 64 a ≤ TS.code 64 b) (fun a b ha hb p q => by
    have h1 := hd a (h.mem_iff.mp ha)
    have h2 := hd b ((srtT_perm ns).mem_iff.mp hb)
    exact code_inj (h1.1.trans h2.1.symm) h1.2 h2.2 (by omega)) u (srtT_up ns) (h.trans (srtT_perm ns).symm)
def keysT : List (List Key) → Option (List (List Int))
  | [] => some []
  | k :: ks => (keysI k).bind fun n => (keysT ks).map (n :: ·)
theorem keysT_ok : ∀ {ks : List (List Key)} {ns : List (List Int)}, keysT ks = some ns → ks = ns.map fun n => n.map Sum.inl
  | [], ns, h => by cases h; rfl
  | k :: ks, ns, h => by
    obtain ⟨n, h1, h⟩ := bindE h
    obtain ⟨q, h2, h3⟩ := mapE h
    subst h3
    rw [keysI_ok h1, keysT_ok h2]; rfl
theorem keysT_map : ∀ ns : List (List Int), keysT (ns.map fun n => n.map Sum.inl) = some ns
  | [] => rfl
  | n :: ns => by
    show (keysI (n.map Sum.inl)).bind _ = _
    rw [keysI_map n, Option.bind_some, keysT_map ns]; rfl
def ttD (n : List Int) : D := .ttp (n.map D.int)
def gSortedT : GN := fun ds m => match ds with
  | [.loc l] => match m[l]? with
    | some (.dT ks _) => (keysT ks).bind fun ns => if ns.length < 64 ∧ okT ns = true then some (.loc m.length, m ++ [.lst ((srtT ns).map ttD)]) else none
    | _ => none
  | _ => none
theorem gSortedT_ok {K : Fg} : RNOk K rSortedDT gSortedT := fun r H m xs ds d m' hm hx hg Q go => by
  unfold gSortedT at hg
  split at hg
  · rename_i l
    obtain ⟨v, rfl, hv⟩ := hx.one
    obtain ⟨a, rfl, ha⟩ := hv.locE
    split at hg
    · rename_i ks ys q
      obtain ⟨ns, h1, hg⟩ := bindE hg
      obtain ⟨h2, hg⟩ := iteE hg
      cases hg
      obtain ⟨vs, hd, hl, hw⟩ := hm.dT ha q
      have ek := keysT_ok h1
      obtain ⟨d, hd1, hB⟩ := okT_ok h2.2
      refine ⟨a, ks.zip vs, ns, d, 64, rfl, hd, ?_, h2.1, hd1, hB, fun L p pm up hL hp => ?_⟩
      · rw [← ek]
        exact List.map_fst_zip (by rw [hw.length, hl]; exact Nat.le_refl _)
      · have e := srtT_only hB pm (by rw [List.pairwise_map]; exact up)
        rw [← e] at go
        refine go.newLst hm ?_ hp
        have : ∀ L : List (Addr × List Int), (∀ q ∈ L, H q.1 = some (.tup (q.2.map V.int))) → VAll K r H (L.map fun q => V.ref q.1) ((L.map (·.2)).map ttD) := by
          intro L
          induction L with
          | nil => intro _; exact .nil
          | cons q L ih =>
            intro hq
            rw [List.map_cons, List.map_cons, List.map_cons]
            exact .cons (.ttp (hq q List.mem_cons_self) (VAll.ofInts _)) (ih fun z hz => hq z (List.mem_cons_of_mem _ hz))
        exact this L hL
    · cases hg
  · cases hg
end Mv

set_option Elab.async false
set_option linter.all false
set_option maxRecDepth 100000
set_option maxHeartbeats 4000000
/-! Mv34: dict(pairs), the keys tuples that stand by themselves. -/
namespace Mv
open PySem PySem.Spec PyProof.Rows L2
/-- a pair: its own address, its key's address, the key, the value -/
abbrev Pr4 := Addr × Addr × List Key × V
def mergeT (kvs : List (List Key × V)) (ps : List Pr4) : List (List Key × V) := ps.foldl (fun acc p => putK acc p.2.2.1 p.2.2.2) kvs
def rDictT (K : Fg) : List V → Hp → VK → Prop := fun xs H Q => ∃ (a : Addr) (ps : List Pr4), xs = [V.ref a] ∧ SqL K H a (ps.map fun p => V.ref p.1) ∧
  (∀ p ∈ ps, SqT K H p.1 [V.ref p.2.1, p.2.2.2] ∧ H p.2.1 = some (.tup (p.2.2.1.map kV))) ∧ ∀ q, H q = none → Q (.ref q) (upd H q (.dT (mergeT [] ps)))
theorem putK_len {κ : Type} [DecidableEq κ] (kvs : List (κ × V)) (k : κ) (v : V) : (putK kvs k v).length ≤ kvs.length + 1 := length_putK kvs k v
theorem mergeT_len : ∀ (ps : List Pr4) (kvs : List (List Key × V)), (mergeT kvs ps).length ≤ kvs.length + ps.length
  | [], kvs => Nat.le_refl _
  | p :: ps, kvs => by
    have h := mergeT_len ps (putK kvs p.2.2.1 p.2.2.2)
    have h2 := putK_len kvs p.2.2.1 p.2.2.2
    show (mergeT (putK kvs p.2.2.1 p.2.2.2) ps).length ≤ _
    rw [List.length_cons]; omega
theorem kt_merge {H : Hp} : ∀ {ps : List Pr4} {us : List (List Key × Addr × Value)} {kvs : List (List Key × V)} {xs : List (List Key × Addr × Value)}, KT H kvs xs →
    Paired (fun (p : Pr4) (u : List Key × Addr × Value) => u.1 = p.2.2.1 ∧ u.2.1 = p.2.1 ∧ RelV p.2.2.2 u.2.2 ∧ H p.2.1 = some (.tup (p.2.2.1.map kV))) ps us → KT H (mergeT kvs ps) (storedAllH xs us)
  | _, _, _, _, r, .nil => r
  | p :: ps, u :: us, kvs, xs, r, .cons h t => by
    obtain ⟨e1, e2, e3, e4⟩ := h
    have r2 := r.put p.2.2.1 (b := p.2.1) e4 e3
    show KT H (mergeT (putK kvs p.2.2.1 p.2.2.2) ps) (storedAllH (storedH xs u.1 u.2.1 u.2.2) us)
    rw [e1, e2]
    exact kt_merge r2 t
theorem cr_dictT {X : Cx} (hc : X.calm = true) (hu : X.A.units + 64 < cLine) : CallR X (.type "dict") (rDictT X.K) := by
  intro pins s σ H xs us Q I r q
  obtain ⟨a, ps, rfl, hq, hp, q⟩ := q
  obtain ⟨u, rfl, rx⟩ := r.one
  cases rx
  obtain ⟨its, rv, ⟨o, n, ho, ho2, ho3, ho4⟩, hz⟩ := I.list hq
  -- the things of the list are the pairs' addresses, each with its two things
  have key : ∀ (ps : List Pr4) (its : List Value), Vals (ps.map fun p => V.ref p.1) its → (∀ p ∈ ps, SqT X.K H p.1 [V.ref p.2.1, p.2.2.2] ∧ H p.2.1 = some (.tup (p.2.2.1.map kV))) →
      ∃ ws : List Value, ws.length = ps.length ∧ its = ps.map (fun p => Value.ref p.1) ∧ (∀ (j : Nat) (p : Pr4) (w : Value), ps[j]? = some p → ws[j]? = some w → RelV p.2.2.2 w ∧ s.heap.IsTuple p.1 #[.ref p.2.1, w]) := by
    intro ps
    induction ps with
    | nil =>
      intro its h _
      rw [List.map_nil] at h
      cases h
      exact ⟨[], rfl, rfl, fun j p w e => by simp at e⟩
    | cons p ps ih =>
      intro its h hp
      rw [List.map_cons] at h
      cases h with
      | @cons _ v _ vs h1 h2 =>
        cases h1
        obtain ⟨ws, l, e, k⟩ := ih _ h2 fun z hz => hp z (List.mem_cons_of_mem _ hz)
        obtain ⟨js, jr, jt, _⟩ := I.tuple (hp p List.mem_cons_self).1
        obtain ⟨b, w, ej, rb, rw'⟩ := vals2 jr
        cases rb
        subst ej
        refine ⟨w :: ws, by rw [List.length_cons, List.length_cons, l], by rw [List.map_cons, e], fun j p' w' e1 e2 => ?_⟩
        cases j with
        | zero => cases e1; cases e2; exact ⟨rw', jt⟩
        | succ j => exact k j p' w' (by simpa using e1) (by simpa using e2)
  obtain ⟨ws, wl, ei, wk⟩ := key ps its rv hp
  have hn : ps.length ≤ sizeLine := by rw [List.length_map] at hz; exact hz
  let Ts : Nat → Addr := fun j => ((ps[j]?).map Prod.fst).getD 0
  let prs : List (Value × Value) := (ps.zip ws).map fun z => (Value.ref z.1.2.1, z.2)
  have prl : prs.length = ps.length := by show ((ps.zip ws).map _).length = _; rw [List.length_map, List.length_zip]; omega
  have pj : ∀ (j : Nat) (k v : Value), prs[j]? = some (k, v) → ∃ p w, ps[j]? = some p ∧ ws[j]? = some w ∧ k = .ref p.2.1 ∧ v = w := fun j k v e => by
    have e' : ((ps.zip ws).map fun z => (Value.ref z.1.2.1, z.2))[j]? = some (k, v) := e
    rw [List.getElem?_map] at e'
    cases h1 : (ps.zip ws)[j]? with
    | none => rw [h1] at e'; cases e'
    | some z =>
      rw [h1] at e'
      cases e'
      obtain ⟨h2, h3⟩ := List.getElem?_zip_eq_some.mp h1
      exact ⟨z.1, z.2, h2, h3, rfl, rfl⟩
  let kps : List (List Key × Addr × Value) := (ps.zip ws).map fun z => (z.1.2.2.1, z.1.2.1, z.2)
  have P := PairArg.list (prog := X.prog) (w := X.w) a its.toArray Ts prs
  have pit : PairItems s.heap its.toArray Ts prs := by
    refine ⟨by rw [prl, List.size_toArray, ei, List.length_map], fun j k v e => ?_⟩
    obtain ⟨p, w, h1, h2, rfl, rfl⟩ := pj j k v e
    have ts : Ts j = p.1 := by show ((ps[j]?).map Prod.fst).getD 0 = _; rw [h1]; rfl
    rw [ts]
    refine ⟨?_, .inl (wk j p v h1 h2).2⟩
    rw [List.getElem?_toArray, ei, List.getElem?_map, h1]; rfl
  have pkt : Paired (fun (p : Pr4) (u : List Key × Addr × Value) => u.1 = p.2.2.1 ∧ u.2.1 = p.2.1 ∧ RelV p.2.2.2 u.2.2 ∧ H p.2.1 = some (.tup (p.2.2.1.map kV))) ps kps := by
    have : ∀ (ps : List Pr4) (ws : List Value), ws.length = ps.length → (∀ p ∈ ps, H p.2.1 = some (.tup (p.2.2.1.map kV))) → (∀ (j : Nat) (p : Pr4) (w : Value), ps[j]? = some p → ws[j]? = some w → RelV p.2.2.2 w) →
        Paired (fun (p : Pr4) (u : List Key × Addr × Value) => u.1 = p.2.2.1 ∧ u.2.1 = p.2.1 ∧ RelV p.2.2.2 u.2.2 ∧ H p.2.1 = some (.tup (p.2.2.1.map kV))) ps ((ps.zip ws).map fun z => (z.1.2.2.1, z.1.2.1, z.2)) := by
      intro ps
      induction ps with
      | nil => intro ws _ _ _; exact .nil
      | cons p ps ih =>
        intro ws hl h1 h2
        cases ws with
        | nil => cases hl
        | cons w ws => exact .cons ⟨rfl, rfl, h2 0 p w rfl rfl, h1 p List.mem_cons_self⟩ (ih ws (Nat.succ.inj hl) (fun z hz => h1 z (List.mem_cons_of_mem _ hz)) fun j p' w' e1 e2 => h2 (j + 1) p' w' (by simpa using e1) (by simpa using e2))
    exact this ps ws wl (fun p hp' => (hp p hp').2) fun j p w e1 e2 => (wk j p w e1 e2).1
  have keyAt : ∀ x ∈ kps, ∃ p ∈ ps, x.1 = p.2.2.1 ∧ x.2.1 = p.2.1 := fun x hx => by
    obtain ⟨z, hz, rfl⟩ := List.mem_map.mp hx
    exact ⟨z.1, (List.of_mem_zip hz).1, rfl, rfl⟩
  have hfresh := I.hok.fresh (Nat.le_refl s.heap.objs.size)
  refine call_dict_pairsH (knd := tupleKind (mixKind X.prog X.w)) (ps := kps) P (I.ok.hd hc) ?_ ⟨⟨o, n, ho, ho2, ho3, ho4⟩, pit⟩ ⟨?_, fun i k v e => ?_⟩ (fun h' hk x hx => ?_) (by rw [prl]; exact hn) fun h' tk dd hk => ?_
  · show X.A.in1.in1.units < cLine
    have e1 : X.A.in1.in1.units ≤ X.A.units + 2 := by first | exact Nat.le_refl _ | (simp [Around.in1]; omega)
    omega
  · show ((ps.zip ws).map _).length = prs.length
    rw [prl, List.length_map, List.length_zip]; omega
  · obtain ⟨p, w, h1, h2, rfl, rfl⟩ := pj i k v e
    refine ⟨p.2.2.1, p.2.1, ?_, rfl⟩
    show ((ps.zip ws).map _)[i]? = _
    rw [List.getElem?_map, (List.getElem?_zip_eq_some (z := (p, v))).mpr ⟨h1, h2⟩]; rfl
  · obtain ⟨p, hp', e1, e2⟩ := keyAt x hx
    rw [e1, e2]
    obtain ⟨ob, items, nn, h1, h2, h3, h4⟩ := key_of I.hok (hp p hp').2
    refine ⟨ob, items, nn, hk _ _ ?_ (by simp) h1, h2, h3, h4⟩
    intro z
    have := (hp p hp').2
    rw [z, hfresh] at this; cases this
  · have hm : (s.heap.objs.size == sysModules) = false := beq_eq_false_iff_ne.mpr (Nat.ne_of_gt I.big)
    have hlen : (mergeT [] ps).length ≤ sizeLine := Nat.le_trans (mergeT_len ps []) (by rw [List.length_nil, Nat.zero_add]; exact hn)
    have kt := (kt_merge (H := H) .nil pkt).keeps (H' := upd H s.heap.objs.size (.dT (mergeT [] ps))) fun b ys e => by
      rw [upd_ne fun z => by rw [z, hfresh] at e; cases e]; exact e
    obtain ⟨ob, es, ep, d1, d2, d3, d4, _, d5⟩ := dd
    exact ⟨.ref s.heap.objs.size, upd H s.heap.objs.size (.dT (mergeT [] ps)), I.laid (t' := tk) (fun b ob e => hk b ob (by simp) e) (Nat.le_refl _) (show ObjOk X.prog X.w _ _ _ (.dT _) from ⟨hlen, hm, _, kt, ob, es, ep, d1, d2, d3, d4, d5⟩), rfl, q _ hfresh⟩
/-! ### .. as a function -/
def pairT : D → Option (List Key × D)
  | .tup [t, v] => (keyT t).map fun k => (k, v)
  | _ => none
def pairsT : List D → Option (List (List Key × D))
  | [] => some []
  | x :: xs => (pairT x).bind fun p => (pairsT xs).map (p :: ·)
def mergeTD (ps : List (List Key × D)) : List (List Key) × List D := ps.foldl (fun acc kv => putD kv.1 kv.2 acc.1 acc.2) ([], [])
def gDictT : GN := fun xs m => (pairsT xs).map fun ps => (.loc m.length, m ++ [.dT (mergeTD ps).1 (mergeTD ps).2])
theorem pairsT_ok {K : Fg} {r : List Addr} {H : Hp} : ∀ {xs : List D} {vs : List V} {ps : List (List Key × D)}, VAll K r H vs xs → pairsT xs = some ps → ∃ qs : List Pr4, vs = qs.map (fun p => V.ref p.1) ∧
    (∀ p ∈ qs, SqT K H p.1 [V.ref p.2.1, p.2.2.2] ∧ H p.2.1 = some (.tup (p.2.2.1.map kV))) ∧ qs.map (fun p => p.2.2.1) = ps.map (·.1) ∧ VAll K r H (qs.map fun p => p.2.2.2) (ps.map (·.2))
  | [], _, _, .nil, h => by
    cases h
    exact ⟨[], rfl, (fun p hp => absurd hp List.not_mem_nil), rfl, .nil⟩
  | x :: xs, _, _, .cons hv hw, h => by
    obtain ⟨p, h1, h⟩ := bindE h
    obtain ⟨ps, h2, h3⟩ := mapE h
    subst h3
    obtain ⟨qs, e1, e2, e3, e4⟩ := pairsT_ok hw h2
    unfold pairT at h1
    split at h1
    · rename_i t v
      obtain ⟨k, h4, h5⟩ := mapE h1
      subst h5
      obtain ⟨a, us, rfl, ha, hus⟩ := hv.tupE
      obtain ⟨y, z, rfl, hy, hz⟩ := hus.two
      obtain ⟨b, rfl, hb⟩ := keyT_ok hy h4
      refine ⟨(a, b, k, z) :: qs, by rw [List.map_cons, e1], fun p hp => ?_, by rw [List.map_cons, List.map_cons, e3], .cons hz e4⟩
      rcases List.mem_cons.mp hp with rfl | hp
      · exact ⟨ha.sq, hb⟩
      · exact e2 p hp
    · cases h1
theorem mergeTD_val {K : Fg} {r : List Addr} {H : Hp} : ∀ {ps : List (List Key × D)} {qs : List Pr4} {ks : List (List Key)} {vs : List V} {xs : List D}, qs.map (fun p => p.2.2.1) = ps.map (·.1) → VAll K r H (qs.map fun p => p.2.2.2) (ps.map (·.2)) → ks.length = xs.length → VAll K r H vs xs →
    ∃ us, mergeT (ks.zip vs) qs = (ps.foldl (fun acc kv => putD kv.1 kv.2 acc.1 acc.2) (ks, xs)).1.zip us ∧ (ps.foldl (fun acc kv => putD kv.1 kv.2 acc.1 acc.2) (ks, xs)).1.length = (ps.foldl (fun acc kv => putD kv.1 kv.2 acc.1 acc.2) (ks, xs)).2.length ∧
      VAll K r H us (ps.foldl (fun acc kv => putD kv.1 kv.2 acc.1 acc.2) (ks, xs)).2
  | [], [], ks, vs, xs, _, _, hl, hv => ⟨vs, rfl, hl, hv⟩
  | [], _ :: _, _, _, _, h, _, _, _ => by cases h
  | _ :: _, [], _, _, _, h, _, _, _ => by cases h
  | (k, d) :: ps, (a, b, k', v) :: qs, ks, vs, xs, h, hvs, hl, hv => by
    rw [List.map_cons, List.map_cons] at h hvs
    have e1 : k' = k := (List.cons.inj h).1
    subst e1
    cases hvs with
    | cons c d' =>
      obtain ⟨p1, p2, p3⟩ := putD_val (k := k') hl hv c
      obtain ⟨us, q1, q2, q3⟩ := mergeTD_val (ps := ps) (qs := qs) (ks := (putD k' d ks xs).1) (vs := (putD k' v ks vs).2) (xs := (putD k' d ks xs).2) (List.cons.inj h).2 d' p2 p3
      have p1' : putK (ks.zip vs) k' v = (putD k' d ks xs).1.zip (putD k' v ks vs).2 := p1
      refine ⟨us, ?_, q2, q3⟩
      show mergeT (putK (ks.zip vs) k' v) qs = _
      rw [p1']
      exact q1
theorem gDictT_ok {K : Fg} : ROnOk K (rDictT K) gDictT := fun r H m p vs xs d m' hm hp hq hv hg Q go => by
  obtain ⟨ps, h1, hg⟩ := mapE hg
  cases hg
  obtain ⟨qs, e1, e2, e3, e4⟩ := pairsT_ok hv h1
  obtain ⟨us, q1, q2, q3⟩ := mergeTD_val (ks := []) (vs := []) (xs := []) e3 e4 rfl .nil
  refine ⟨p, qs, rfl, e1 ▸ .of hq, e2, fun q hn => ?_⟩
  have q1' : mergeT [] qs = (mergeTD ps).1.zip us := q1
  rw [q1']
  exact go (r ++ [q]) (.ref q) _ (Ext.alloc hn) (hm.allocC hn ⟨us, upd_same, q2, q3.mono (Ext.alloc hn)⟩) (.loc (by rw [← hm.len]; simp))
end Mv

set_option Elab.async false
set_option linter.all false
set_option maxRecDepth 100000
set_option maxHeartbeats 4000000
/-! Mv35: {x for a in .. for b in ..} of ints, sorted. -/
namespace Mv
open PySem PySem.Spec PyProof.Rows L2
/-! ### the machine's turns of both loops -/
section
variable {prog : Program} {w : World} {A : Around} {R : Result → Shared → Prop} {s : Shared} {elt t0 i0 t1 i1 : Expr} {scope : Scope} {pos : Pos} {it acc : Value} {env : Env}
abbrev sc2E (elt t0 i0 t1 i1 : Expr) (scope : Scope) (pos : Pos) : Expr := .SetComp elt [⟨t0, i0, [], 0⟩, ⟨t1, i1, [], 0⟩] scope pos
theorem sc2_eqIn (it acc : Value) (env : Env) : compTurn (sc2E elt t0 i0 t1 i1 scope pos) 1 it acc env = (do
      standAt i1.pos
      match ← pyNext it with
      | none => pure (.done .next)
      | some v =>
        letOwnedTupleGo t1 it v
        assign t1 env v
        (do let v ← eval elt env; standAt elt.pos; let _ ← call (.builtin "set.add") [acc, v])
        again (.compLoop (sc2E elt t0 i0 t1 i1 scope pos) 1 it acc env)) := by rfl
theorem sc2_eqOut (it acc : Value) (env : Env) : compTurn (sc2E elt t0 i0 t1 i1 scope pos) 0 it acc env = (do
      standAt i0.pos
      match ← pyNext it with
      | none => pure (.done .next)
      | some v =>
        letOwnedTupleGo t0 it v
        assign t0 env v
        let x ← eval i1 env
        standAt i1.pos
        let x ← foldedSetIterable i1 env x
        let _ ← runOwn (.compStart (sc2E elt t0 i0 t1 i1 scope pos) 1 (← holding [x] (pyIter x)) acc env) env
        again (.compLoop (sc2E elt t0 i0 t1 i1 scope pos) 0 it acc env)) := by rfl
/-- what an error of a turn comes to -/
abbrev Noted (prog : Program) (w : World) (A : Around) (env : Env) (R : Result → Shared → Prop) : Value → Shared → Prop := notedBy (model prog w) A env fun e s' => R (.error e) s'
theorem sc2_inner (I : Nat → Shared → Prop) (turn : ∀ n s, I n s → wpAny (model prog w) A (pyNext it) (fun r s1 => match r with
      | none => R (.ok .next) s1
      | some v => wpAny (model prog w) A (letOwnedTupleGo t1 it v) (fun _ s2 => wpAny (model prog w) A (assign t1 env v) (fun _ s3 => wpAny (model prog w) A (eval elt env) (fun x s4 =>
          wpAny (model prog w) A (call (.builtin "set.add") [acc, x]) (fun _ s5 => ∃ m, m < n ∧ I m s5) (Noted prog w A env R) s4) (Noted prog w A env R) s3) (Noted prog w A env R) s2) (Noted prog w A env R) s1) (Noted prog w A env R) s)
    (n : Nat) (h : I n s) : codeAny (model prog w) A (.compLoop (sc2E elt t0 i0 t1 i1 scope pos) 1 it acc env) R s := by
  refine codeAny_loop rfl I (fun k s' hI => ?_) n h
  show wpAny _ A ((compTurn (sc2E elt t0 i0 t1 i1 scope pos) 1 it acc env).onRaise fun x => do noteFrame x env; theTreesLotGoes x) _ _ s'
  refine wpAny_noted ?_
  rw [sc2_eqIn]
  refine wpAny_bind (wpAny_standAt (wpAny_bind (wpAny_mono (turn k s' hI) (fun r s1 h1 => ?_) fun _ _ z => z)))
  match r, h1 with
  | none, h1 => exact wpAny_pure h1
  | some v, h1 =>
    refine wpAny_bind (wpAny_mono h1 (fun _ s2 h2 => ?_) fun _ _ z => z)
    refine wpAny_bind (wpAny_mono h2 (fun _ s3 h3 => ?_) fun _ _ z => z)
    exact wpAny_bind (wpAny_bind (wpAny_mono h3 (fun x s4 h4 => wpAny_bind (wpAny_standAt (wpAny_bind (wpAny_mono h4 (fun _ s5 h5 => wpAny_pure (wpAny_pure ⟨rfl, h5⟩)) fun _ _ z => z)))) fun _ _ z => z))
theorem sc2_start1 (h0 : codeAny (model prog w) A (.compLoop (sc2E elt t0 i0 t1 i1 scope pos) 1 it acc env) R s)
    (h : wpAny (model prog w) A (pyIter it) (fun it' s' => codeAny (model prog w) A (.compLoop (sc2E elt t0 i0 t1 i1 scope pos) 1 it' acc env) R s') (Noted prog w A env R) s) :
    codeAny (model prog w) A (.compStart (sc2E elt t0 i0 t1 i1 scope pos) 1 it acc env) R s := by
  refine codeAny_of_tree ?_
  show wpAny _ _ ((compStart (sc2E elt t0 i0 t1 i1 scope pos) 1 it acc env).onRaise fun x => do noteFrame x env; standAt theWindowsPlace) _ _ s
  refine wpAny_notedAt ?_
  unfold compStart
  show wpAny _ _ (ask >>= _) _ _ s
  refine wpAny_bind (wpAny_askSetting (wpAny_ite ?_))
  split
  · first
      | exact wpAny_pure ⟨rfl, h0⟩
      | exact wpAny_bind (wpAny_pure (wpAny_pure ⟨rfl, h0⟩))
  · refine wpAny_bind (wpAny_rule ?_)
    first
      | exact wpAny_bind (wpAny_standAt (wpAny_bind (wpAny_mono h (fun _ _ k => wpAny_pure ⟨rfl, k⟩) fun _ _ z => z)))
      | (show wpAny _ _ (standAt i1.pos >>= _) _ _ s; exact wpAny_bind (wpAny_standAt (wpAny_bind (wpAny_mono h (fun _ _ k => wpAny_pure ⟨rfl, k⟩) fun _ _ z => z))))
theorem sc2_outer (hs : ∀ x, foldedSetIterable i1 env x = pure x) (I : Nat → Shared → Prop) (turn : ∀ n s, I n s → wpAny (model prog w) A (pyNext it) (fun r s1 => match r with
      | none => R (.ok .next) s1
      | some v => wpAny (model prog w) A (letOwnedTupleGo t0 it v) (fun _ s2 => wpAny (model prog w) A (assign t0 env v) (fun _ s3 => wpAny (model prog w) A (eval i1 env) (fun x s4 => wpAny (model prog w) A (pyIter x) (fun it1 s5 =>
          codeAny (model prog w) A (.compStart (sc2E elt t0 i0 t1 i1 scope pos) 1 it1 acc env) (fun r s' => match r with
            | .ok _ => ∃ m, m < n ∧ I m s'
            | .error _ => False) s5) (Noted prog w A env R) s4) (Noted prog w A env R) s3) (Noted prog w A env R) s2) (Noted prog w A env R) s1) (Noted prog w A env R) s)
    (n : Nat) (h : I n s) : codeAny (model prog w) A (.compLoop (sc2E elt t0 i0 t1 i1 scope pos) 0 it acc env) R s := by
  refine codeAny_loop rfl I (fun k s' hI => ?_) n h
  show wpAny _ A ((compTurn (sc2E elt t0 i0 t1 i1 scope pos) 0 it acc env).onRaise fun x => do noteFrame x env; theTreesLotGoes x) _ _ s'
  refine wpAny_noted ?_
  rw [sc2_eqOut]
  refine wpAny_bind (wpAny_standAt (wpAny_bind (wpAny_mono (turn k s' hI) (fun r s1 h1 => ?_) fun _ _ z => z)))
  match r, h1 with
  | none, h1 => exact wpAny_pure h1
  | some v, h1 =>
    refine wpAny_bind (wpAny_mono h1 (fun _ s2 h2 => ?_) fun _ _ z => z)
    refine wpAny_bind (wpAny_mono h2 (fun _ s3 h3 => ?_) fun _ _ z => z)
    refine wpAny_bind (wpAny_mono h3 (fun x s4 h4 => ?_) fun _ _ z => z)
    refine wpAny_bind (wpAny_standAt (wpAny_bind (wpAny_of_eq (hs x) (wpAny_bind (wpAny_holding (wpAny_mono h4 (fun it1 s5 h5 => ?_) fun _ _ z => z))))))
    refine wpAny_bind (wpAny_runOwn ?_)
    rw [Around.mark_none]
    refine codeAny_mono h5 fun r s6 hr => ?_
    match r, hr with
    | .ok f, hr => first | exact wpAny_pure ⟨rfl, hr⟩ | exact wpAny_bind (wpAny_pure (wpAny_pure ⟨rfl, hr⟩))
    | .error e, hr => exact hr.elim
end
end Mv

set_option Elab.async false
set_option linter.all false
set_option maxRecDepth 100000
set_option maxHeartbeats 4000000
/-! Mv36: the rule of {x for a in .. for b in ..} of ints. -/
namespace Mv
open PySem PySem.Spec PyProof.Rows L2
section
variable {X : Cx}
/-- a set with one more int -/
abbrev moreS (w : World) (D : Addr) (S : Int → Bool) (n : Nat) (c : Int) : HO := SetO w D (fun j => S j || decide (j = c)) (if S c = true then n else n + 1)
theorem addI_ok {pins : List (Addr × Obj)} {σ : L2.St} {H : Hp} {s : Shared} {E : Value → Shared → Prop} {D : Addr} {S : Int → Bool} {n : Nat} {c : Int} {u : Value} {Q : Value → Shared → Prop} (I : Inv X pins σ H s) (hD : H D = some (SetO X.w D S n)) (room : n + 1 < scanBound) (hu : RelV (.int c) u)
    (h : ∀ s', Inv X pins σ (upd H D (moreS X.w D S n c)) s' → Q .none s') : wpAny (model X.prog X.w) X.A (call (.builtin "set.add") [.ref D, u]) Q E s := by
  obtain ⟨tk, rfl⟩ := hu
  refine setR_add (setO_get I hD) room fun h' sb new => h _ ?_
  have there : ∃ o, h'.get? D = some o := let ⟨o, _, _, _, ho, _⟩ := new; ⟨o, ho⟩
  exact I.write (e := D) (t' := s.toks + 1) (by rw [hD]; trivial) (.inl rfl) (fun b o hb e => (sb.2 b hb).trans e) there (setO_new new)
/-- what the two loops ask -/
def tSc2 (w : World) (wi : TI) (g : TG) (wi1 : TI) (g1 : TG) (te : TE) (vs vs1 : List Nat) : TE := fun σ H Q => wi σ H fun J H1 => ∀ D, H1 D = none → ∃ W : Nat → Nat → Hp → Prop, (∃ m, W 0 m (upd H1 D (SetO w D (fun _ => false) 0))) ∧ ∀ i m H, W i m H →
  (J.stop i H ∧ Q (.ref D) H) ∨ (J.go i H ∧ ∃ Nx : Hp → Prop, (∀ H', Nx H' → ∃ m', m' < m ∧ W (i + 1) m' H') ∧ ∀ x H', J.yld i H x H' → g x (wipe σ vs) H' fun σ2 H2 => wipe σ2 vs = wipe σ vs ∧ wi1 σ2 H2 fun J1 H4 =>
    ∃ W1 : Nat → Nat → Hp → Prop, (∃ m, W1 0 m H4) ∧ ∀ j k H, W1 j k H → (J1.stop j H ∧ Nx H) ∨ (J1.go j H ∧ ∃ Nx1 : Hp → Prop, (∀ H', Nx1 H' → ∃ k', k' < k ∧ W1 (j + 1) k' H') ∧
      ∀ x H', J1.yld j H x H' → g1 x (wipe σ2 vs1) H' fun σ3 H5 => wipe σ3 vs1 = wipe σ2 vs1 ∧ te σ3 H5 fun y H7 => ∃ (c : Int) (S : Int → Bool) (n : Nat), y = .int c ∧ H7 D = some (SetO w D S n) ∧ n + 1 < scanBound ∧ Nx1 (upd H7 D (moreS w D S n c))))
theorem sc2_core {pins : List (Addr × Obj)} {s : Shared} {σ : L2.St} {H : Hp} {Q : VK} {elt t0 i0 t1 i1 : Expr} {scope : Scope} {own : List (Str × Nat)} {vs1 : List Nat} {pos pos' : Pos} {wi wi1 : TI} {g g1 : TG} {te : TE} {use : Option (Value → Sem Unit)} {Qf : Value → Shared → Prop}
    (hc : X.calm = true) (hN : X.N.Nodup) (I : Inv X pins σ H s) (hi : PI X t0 i0 wi) (ok : BlkOk X.N X.env.scope scope own) (hv : ∀ i ∈ vs1, i ∈ own.map (·.2))
    (hg : ∀ (s : Shared) (H : Hp) (C : Addr) (cl : List (Str × Addr)) (fp : List Addr), PG (X.blk s H scope (compEnvC scope cl C X.env) fp) t0 g)
    (hi1 : ∀ (s : Shared) (H : Hp) (C : Addr) (cl : List (Str × Addr)) (fp : List Addr), PI (X.blk s H scope (compEnvC scope cl C X.env) fp) t1 i1 wi1)
    (hg1 : ∀ (s : Shared) (H : Hp) (C : Addr) (cl : List (Str × Addr)) (fp : List Addr), PG (X.blk s H scope (compEnvC scope cl C X.env) fp) t1 g1)
    (he : ∀ (s : Shared) (H : Hp) (C : Addr) (cl : List (Str × Addr)) (fp : List Addr), PE (X.blk s H scope (compEnvC scope cl C X.env) fp) elt te)
    (hs : ∀ x, foldedSetIterable i0 X.env x = pure x) (hs1 : ∀ env x, foldedSetIterable i1 env x = pure x) (h : tSc2 X.w wi g wi1 g1 te (own.map (·.2)) vs1 σ H Q)
    (hR : ∀ D C s' m H', Inv X pins σ H' s' → Q (.ref D) H' → s'.heap.Ns C m → FpOk X pins H' C → compPost (model X.prog X.w) X.A X.xe use Qf (.ref D) C (.ok .next) s') :
    wpAny (model X.prog X.w) X.A (comprehension (sc2E elt t0 i0 t1 i1 scope pos) scope X.env pos' (newSet (.type "set")) false (eval i0 X.env) use) Qf X.xe s := by
  have free : ∀ y ∈ scope.names, y.2 = .free → ∃ c, X.env.cells.lookup y.1 = some c := fun y hy e => (ok.free y hy e).elim (fun k => I.ok.has _ (.inl k)) fun k => I.ok.has _ (.inr k)
  refine wpAny_comprehension_free (use := use) rfl hs (closure_ok free) ok.kind (fun y hy e => by rw [ok.uniq y hy, e]) (thn (hi.run pins s σ H _ I h) fun xv s1 hx => thn hx fun itv s2 h2 => ?_)
  obtain ⟨it, fp, tn, J, H2, rfl, I2, T, st2, f2, q⟩ := h2
  refine PpSet.newSet_ok (newEnv_comp ?_)
  -- the new set, at D
  generalize hD : s2.heap.objs.size = D
  have hDn : H2 D = none := I2.hok.fresh (Nat.le_of_eq hD)
  obtain ⟨W, ⟨m0, w0⟩, turn⟩ := q D hDn
  let oS : Obj := { cls := .type "set", dict := none, data := .set #[] 0 (.fresh 0 0 (!X.w.params.followText "set-order")) }
  generalize hs3 : ({ s2 with heap := s2.heap.push oS } : Shared) = s3
  have e3 : s3.heap = s2.heap.push oS := by rw [← hs3]
  have I3 : Inv X pins σ (upd H2 D (SetO X.w D (fun _ => false) 0)) s3 := by
    rw [← hs3]
    refine I2.laid (t' := s2.toks) (fun b o e => Heap.get?_push_of_some _ e) (Nat.le_of_eq hD) ?_
    rw [← hD]
    exact setO_new (setR_fresh X.w)
  have f3 : ∀ b ∈ fp, FpOk X pins (upd H2 D (SetO X.w D (fun _ => false) 0)) b ∧ b < s3.heap.objs.size := fun b hb => by
    obtain ⟨o, e, _⟩ := T.obj _ _ st2 b hb
    have hlt := Heap.lt_size e
    refine ⟨⟨?_, (f2 b hb).2⟩, by rw [e3, Heap.size_push]; exact Nat.lt_succ_of_lt hlt⟩
    rw [upd_ne fun z => by rw [z, ← hD] at hlt; exact Nat.lt_irrefl _ hlt]
    exact (f2 b hb).1
  have st3 : tn 0 s3.heap := T.keep _ _ _ st2 fun b _ o e => by rw [e3]; exact Heap.get?_push_of_some _ e
  have I4 := block_start I3 ok hN f3
  -- the block's frame
  let C := s3.heap.objs.size
  let cl := cellsFrom (C + 1) scope.names (cloFrom X.env.cells scope.names [])
  have pg := hg s3 (upd H2 D (SetO X.w D (fun _ => false) 0)) C cl fp
  have pi1 := hi1 s3 (upd H2 D (SetO X.w D (fun _ => false) 0)) C cl fp
  have pg1 := hg1 s3 (upd H2 D (SetO X.w D (fun _ => false) 0)) C cl fp
  have pe := he s3 (upd H2 D (SetO X.w D (fun _ => false) 0)) C cl fp
  show codeAny _ _ (.compStart (sc2E elt t0 i0 t1 i1 scope pos) 0 (.ref it) (.ref D) (compEnvC scope cl C X.env)) (compPost (model X.prog X.w) X.A X.xe use Qf (.ref D) C) _
  have nfp : ∀ b ∈ fp, (upd H2 D (SetO X.w D (fun _ => false) 0)) b = none := fun b hb => (f3 b hb).1.1
  generalize hce : compEnvC scope cl C X.env = ce at I4 pg pe pi1 pg1 ⊢
  have cL : ce.locals = C := by subst hce; rfl
  generalize hH3 : upd H2 D (SetO X.w D (fun _ => false) 0) = H3 at I3 I4 pg pe pi1 pg1 w0 nfp f3
  generalize hs4 : ({ s3 with heap := pushCells (s3.heap.push { cls := .type "dict", data := .dict #[] }) scope.names } : Shared) = s4 at I4 ⊢
  have st4 : tn 0 s4.heap := T.keep _ _ _ st3 fun b _ o e => by rw [← hs4]; exact pushCells_keeps _ _ _ _ (Heap.get?_push_of_some _ e)
  let XB := X.blk s3 H3 scope ce fp
  let σ0 := wipe σ (own.map (·.2))
  have stat : ∀ {σ' : L2.St} {H' : Hp} {s' : Shared}, Inv XB [] σ' H' s' → (∀ b ∈ fp, H' b = none) → ∀ b ∈ fp, FpOk XB [] H' b := fun {σ' H' s'} I' hn b hb =>
    ⟨hn b hb, (I'.ok.exf b hb).1, I'.ok.exfs b hb, .inl hb, fun x c e => (I'.ok.exf b hb).2 x c e, fun p hp => absurd (show p ∈ ([] : List (Addr × Obj)) ++ [] from hp) (by simp)⟩
  -- what holds ahead of each turn of the first loop, and of the second
  let Out : Nat → Shared → Prop := fun n s' => ∃ i H', Inv XB [] σ0 H' s' ∧ tn i s'.heap ∧ (∀ b ∈ fp, H' b = none) ∧ W i n H'
  have first : codeAny (model X.prog X.w) X.A (.compLoop (sc2E elt t0 i0 t1 i1 scope pos) 0 (.ref it) (.ref D) ce) (compPost (model X.prog X.w) X.A X.xe use Qf (.ref D) C) s4 := by
    refine sc2_outer (hs1 ce) Out ?_ m0 ⟨0, H3, I4, st4, nfp, w0⟩
    rintro n s5 ⟨i, H5, I5, st5, n5, w5⟩
    rcases turn i n H5 w5 with ⟨stop, qq⟩ | ⟨go, Nx, hNx, step⟩
    · refine thnF (T.done XB rfl rfl rfl hc i [] s5 _ H5 (fun _ _ => False) I5 (stat I5 n5) st5 stop) fun r s6 ⟨hr, I6⟩ => ?_
      subst hr
      have I7 : Inv X pins σ H5 s6 := I3.call' (ch := fp) I6.os I6.base I6.hok I6.bare fun b hb => let z := (f3 b hb).1; ⟨z.2.2.2.1, z.2.1, z.2.2.2.2.1, z.2.2.2.2.2⟩
      obtain ⟨m, hn, _⟩ := I6.loc
      have hn : s6.heap.Ns ce.locals m := hn
      have nC : H5 ce.locals = none := I6.free
      rw [cL] at hn nC
      exact hR D C s6 m H5 I7 qq hn (I3.fpOk (Nat.le_refl _) nC)
    · refine thnF (T.item XB rfl rfl rfl hc i [] s5 _ H5 (fun _ _ => False) I5 (stat I5 n5) st5 go) fun r s6 ⟨u, hr, h6⟩ => ?_
      subst hr
      refine thnF h6 fun _ s7 ⟨x, H7, I7, r7, y7, st7, n7⟩ => ?_
      have I7' := I7.pinned (stat I7 n7) (T.obj _ _ st7)
      refine thnF (pg.run _ s7 _ H7 x u _ I7' r7 (step x H7 y7)) fun _ s8 ⟨σ8, H8, I8, hw8, q8⟩ => ?_
      let P7 := ([] : List (Addr × Obj)) ++ pinsAt fp s7.heap
      -- a turn of the first loop is over
      have over : ∀ {σ9 : L2.St} {s' : Shared} {H' : Hp}, Inv XB P7 σ9 H' s' → σ0.length = σ9.length → (∀ (j : Nat) v, σ0[j]? = some (some v) → σ9[j]? = some (some v)) → Nx H' → ∃ m, m < n ∧ Out m s' := fun {σ9 s' H'} I' hl hk nx => by
        obtain ⟨m', hm, w'⟩ := hNx H' nx
        have held : ∀ b ∈ fp, ∀ o, s7.heap.get? b = some o → s'.heap.get? b = some o ∧ H' b = none := fun b hb o e =>
          let z := I'.pin (b, o) (List.mem_append_right _ (List.mem_append_right _ (mem_pinsAt hb e))); ⟨z.1, z.2.1⟩
        refine ⟨m', hm, i + 1, H', (I'.unpinned (pins := [])).weak hl hk, T.keep _ _ _ st7 fun b hb o e => (held b hb o e).1, fun b hb => ?_, w'⟩
        obtain ⟨o, e, _⟩ := T.obj _ _ st7 b hb
        exact (held b hb o e).2
      have l8 : σ0.length = σ8.length := by show (wipe σ _).length = _; rw [← hw8, wipe_length]
      have k8 : ∀ (j : Nat) v, σ0[j]? = some (some v) → (wipe σ8 vs1)[j]? = some (some v) := fun j v e => by
        have e : (wipe σ (own.map (·.2)))[j]? = some (some v) := e
        rw [← hw8] at e
        obtain ⟨e1, e2⟩ := wipe_some e
        rw [wipe_out fun z => e2 (hv j z)]
        exact e1
      refine thnF (pi1.run P7 s8 σ8 H8 _ I8 q8) fun xv s9 hx => thnF hx fun itv s10 h10 => ?_
      obtain ⟨it1, fp1, tn1, J1, H10, rfl, I10, T1, st10, f10, W1, ⟨m1, w1⟩, turn1⟩ := h10
      have stat1 : ∀ {H' : Hp}, (∀ b ∈ fp1, H' b = none) → ∀ b ∈ fp1, FpOk XB P7 H' b := fun hn b hb => ⟨hn b hb, (f10 b hb).2⟩
      let In : Nat → Shared → Prop := fun k s' => ∃ j H', Inv XB P7 (wipe σ8 vs1) H' s' ∧ tn1 j s'.heap ∧ (∀ b ∈ fp1, H' b = none) ∧ W1 j k H'
      have second : codeAny (model X.prog X.w) X.A (.compLoop (sc2E elt t0 i0 t1 i1 scope pos) 1 (.ref it1) (.ref D) ce) (fun r s' => match r with
          | .ok _ => ∃ m, m < n ∧ Out m s'
          | .error _ => False) s10 := by
        refine sc2_inner In ?_ m1 ⟨0, H10, I10.weak (wipe_length _ _) (fun j v e => (wipe_some e).1), st10, fun b hb => (f10 b hb).1, w1⟩
        rintro k s11 ⟨j, H11, I11, st11, n11, w11⟩
        rcases turn1 j k H11 w11 with ⟨stop1, nx1⟩ | ⟨go1, Nx1, hNx1, step1⟩
        · refine thnF (T1.done XB rfl rfl rfl hc j _ s11 (wipe σ8 vs1) H11 (fun _ _ => False) I11 (stat1 n11) st11 stop1) fun r s12 ⟨hr, I12⟩ => ?_
          subst hr
          exact over I12 (l8.trans (wipe_length σ8 vs1).symm) k8 nx1
        · refine thnF (T1.item XB rfl rfl rfl hc j _ s11 (wipe σ8 vs1) H11 (fun _ _ => False) I11 (stat1 n11) st11 go1) fun r s12 ⟨u1, hr, h12⟩ => ?_
          subst hr
          refine thnF h12 fun _ s13 ⟨x1, H13, I13, r13, y13, st13, n13⟩ => ?_
          have I13' := I13.pinned (stat1 n13) (T1.obj _ _ st13)
          refine thnF (pg1.run _ s13 (wipe σ8 vs1) H13 x1 u1 _ I13' r13 (step1 x1 H13 y13)) fun _ s14 ⟨σ14, H14, I14, hw14, q14⟩ => ?_
          refine thnF (pe.run _ s14 σ14 H14 _ I14 q14) fun z s15 ⟨y, H15, I15, r15, c, S, nn, ey, hD15, room, nx⟩ => ?_
          subst ey
          refine addI_ok (X := XB) I15 hD15 room r15 fun s16 I16 => ?_
          obtain ⟨k', hk', w'⟩ := hNx1 _ nx
          have held : ∀ b ∈ fp1, ∀ o, s13.heap.get? b = some o → s16.heap.get? b = some o ∧ (upd H15 D (moreS X.w D S nn c)) b = none := fun b hb o e =>
            let z := I16.pin (b, o) (List.mem_append_right _ (List.mem_append_right _ (mem_pinsAt hb e))); ⟨z.1, z.2.1⟩
          refine ⟨k', hk', j + 1, _, I16.unpinned.weak (by rw [← hw14, wipe_length]) (fun j v e => by rw [← hw14] at e; exact (wipe_some e).1), T1.keep _ _ _ st13 fun b hb o e => (held b hb o e).1, fun b hb => ?_, w'⟩
          obtain ⟨o, e, _⟩ := T1.obj _ _ st13 b hb
          exact (held b hb o e).2
      exact sc2_start1 second (T1.self X.A 0 _ _ _ st10 second)
  exact PpSet.codeAny_compStart_set first (T.self X.A 0 _ _ _ st4 first)
theorem pe_sc2 {elt t0 i0 t1 i1 : Expr} {scope : Scope} {own : List (Str × Nat)} {vs1 : List Nat} {pos : Pos} {wi wi1 : TI} {g g1 : TG} {te : TE} (hc : X.calm = true) (hN : X.N.Nodup) (hi : PI X t0 i0 wi) (ok : BlkOk X.N X.env.scope scope own) (hv : ∀ i ∈ vs1, i ∈ own.map (·.2))
    (hg : ∀ (s : Shared) (H : Hp) (C : Addr) (cl : List (Str × Addr)) (fp : List Addr), PG (X.blk s H scope (compEnvC scope cl C X.env) fp) t0 g)
    (hi1 : ∀ (s : Shared) (H : Hp) (C : Addr) (cl : List (Str × Addr)) (fp : List Addr), PI (X.blk s H scope (compEnvC scope cl C X.env) fp) t1 i1 wi1)
    (hg1 : ∀ (s : Shared) (H : Hp) (C : Addr) (cl : List (Str × Addr)) (fp : List Addr), PG (X.blk s H scope (compEnvC scope cl C X.env) fp) t1 g1)
    (he : ∀ (s : Shared) (H : Hp) (C : Addr) (cl : List (Str × Addr)) (fp : List Addr), PE (X.blk s H scope (compEnvC scope cl C X.env) fp) elt te)
    (hs : ∀ x, foldedSetIterable i0 X.env x = pure x := by intro _; rfl) (hs1 : ∀ env x, foldedSetIterable i1 env x = pure x := by intro _ _; rfl) :
    PE X (.SetComp elt [⟨t0, i0, [], 0⟩, ⟨t1, i1, [], 0⟩] scope pos) (tSc2 X.w wi g wi1 g1 te (own.map (·.2)) vs1) := by
  refine ⟨fun pins s σ H Q I h => ?_⟩
  rw [PpSet.eval_SetComp]
  refine sc2_core hc hN I hi ok hv hg hi1 hg1 he hs hs1 h fun D C s' m H' I' q hn f => ⟨m, hn, fun h'' sb => ?_⟩
  obtain ⟨f0, f1, f2, f3, f4, f5⟩ := f
  exact ⟨.ref D, H', I'.turned (t' := s'.toks) (fun b o hb e => (sb.2 b hb).trans e) f0 f1 f3 f4 f5, rfl, q⟩
end
end Mv

set_option Elab.async false
set_option linter.all false
set_option maxRecDepth 100000
set_option maxHeartbeats 4000000
/-! Mv37: sorted({x for a in .. for b in ..}) as a function. -/
namespace Mv
open PySem PySem.Spec PyProof.Rows L2
open Classical in
/-- what is told, where the memory stays as it is -/
noncomputable def sameM {α : Type} (m : Mem) (o : Option (α × Mem)) : Option α := o.bind fun p => if p.2 = m then some p.1 else none
theorem sameM_ok {α : Type} {m : Mem} {o : Option (α × Mem)} {a : α} (h : sameM m o = some a) : o = some (a, m) := by
  unfold sameM at h
  obtain ⟨p, h1, h2⟩ := bindE h
  obtain ⟨e, h3⟩ := iteE h2
  cases h3
  rw [h1, ← e]
theorem sameM_of {α : Type} {m : Mem} {o : Option (α × Mem)} {a : α} (h : o = some (a, m)) : sameM m o = some a := by
  unfold sameM
  rw [h, Option.bind_some, if_pos rfl]
noncomputable def sc2In (ft1 : FG) (fe : FE) (e : Sl) (m : Mem) : List D → Option (List Int)
  | [] => some []
  | y :: ys => (sameM m (ft1 y e m)).bind fun e2 => (sameM m (fe e2 m)).bind fun d => (asI d).bind fun c => (sc2In ft1 fe e m ys).map (c :: ·)
def asTup : D → Option (List D)
  | .tup xs => some xs
  | _ => none
theorem asTup_ok {d : D} {xs : List D} (h : asTup d = some xs) : d = .tup xs := by
  cases d <;> first | (cases h; rfl) | cases h
noncomputable def sc2Out (ft : FG) (f1 : FE) (ft1 : FG) (fe : FE) (vs1 : List Nat) (e : Sl) (m : Mem) : List D → Option (List Int)
  | [] => some []
  | x :: xs => (sameM m (ft x e m)).bind fun e1 => (sameM m (f1 e1 m)).bind fun d => (asTup d).bind fun ys => (sc2In ft1 fe (wipeE e1 vs1) m ys).bind fun a => (sc2Out ft f1 ft1 fe vs1 e m xs).map (a ++ ·)
noncomputable def sc2F (fi : FI) (ft : FG) (fi1 : FE) (ft1 : FG) (fe : FE) (vs vs1 : List Nat) (e : Sl) (m : Mem) : Option (List Int) :=
  (sameM m (fi e m)).bind fun s => if s.wh = none then (sc2Out ft fi1 ft1 fe vs1 (wipeE e vs) m s.xs).bind fun ns => if (dist ns.reverse).length < 64 then some ns else none else none
theorem dist_more : ∀ (a b : List Int), (dist b).length ≤ (dist (a ++ b)).length
  | [], b => Nat.le_refl _
  | x :: a, b => by
    have h := dist_more a b
    show _ ≤ (if x ∈ a ++ b then dist (a ++ b) else x :: dist (a ++ b)).length
    split
    · exact h
    · rw [List.length_cons]; omega
/-- the set D, that is at no place, has the ints of pr -/
structure Coll (K : Fg) (w : World) (r : List Addr) (H : Hp) (D : Addr) (m : Mem) (pr : List Int) : Prop where
  hm : MemOk K r H m
  out : D ∉ r
  set : ∃ S n, H D = some (SetO w D S n) ∧ (∀ k, S k = true ↔ k ∈ pr) ∧ n = (dist pr).length
theorem Coll.step {K : Fg} {w : World} {r r' : List Addr} {H H' : Hp} {D : Addr} {m : Mem} {pr : List Int} (c : Coll K w r H D m pr) (x : Ext r H r' H') (hm : MemOk K r' H' m) : Coll K w r' H' D m pr := by
  obtain ⟨S, n, h1, h2, h3⟩ := c.set
  exact ⟨hm, fun z => (x.new D z).elim c.out (fun q => by rw [h1] at q; cases q), ⟨S, n, x.keep D _ h1 c.out, h2, h3⟩⟩
theorem setO_fix {w : World} {D : Addr} {S : Int → Bool} {n : Nat} : ¬ Fixed (SetO w D S n) := fun z => z
theorem setO_ins {w : World} {D : Addr} {S : Int → Bool} {n : Nat} : ∀ C dx fs, SetO w D S n ≠ .ins C dx fs := fun _ _ _ z => by unfold SetO at z; cases z
theorem Coll.more {K : Fg} {w : World} {r : List Addr} {H : Hp} {D : Addr} {m : Mem} {pr : List Int} (c : Coll K w r H D m pr) {S : Int → Bool} {n : Nat} (hS : H D = some (SetO w D S n)) (h2 : ∀ k, S k = true ↔ k ∈ pr) (h3 : n = (dist pr).length) (y : Int) : Coll K w r (upd H D (moreS w D S n y)) D m (y :: pr) := by
  refine ⟨c.hm.offG c.out hS setO_fix setO_ins, c.out, ⟨_, _, upd_same, fun k => ?_, ?_⟩⟩
  · rw [Bool.or_eq_true, h2, decide_eq_true_eq, List.mem_cons, Or.comm]
  · show _ = (if y ∈ pr then dist pr else y :: dist pr).length
    by_cases hy : y ∈ pr
    · rw [if_pos ((h2 y).mpr hy), if_pos hy]; exact h3
    · rw [if_neg fun z => hy ((h2 y).mp z), if_neg hy, List.length_cons, h3]
theorem SlOk.offG {K : Fg} {r : List Addr} {H : Hp} {σ : L2.St} {e : Sl} {p : Addr} {u o : HO} (hp : H p = some u) (hf : ¬ Fixed u) (hi : ∀ C dx fs, u ≠ .ins C dx fs) (h : SlOk K r H σ e) : SlOk K r (upd H p o) σ e := ⟨h.1, fun i d q => by
  obtain ⟨v, a, b⟩ := h.2 i d q
  have c : VAll K r (upd H p o) [v] [d] := VAll.offG hp hf hi (.cons b .nil)
  cases c with
  | cons c _ => exact ⟨v, a, c⟩⟩
theorem TupAt.offG {K : Fg} {H : Hp} {a p : Addr} {vs : List V} {u o : HO} (hp : H p = some u) (hf : ¬ Fixed u) (h : TupAt K H a vs) : TupAt K (upd H p o) a vs := by
  rcases h with h | ⟨w, h⟩ | h
  · exact .inl (by rw [upd_ne fun z => by rw [z, hp] at h; cases h; exact hf trivial]; exact h)
  · exact .inr (.inl ⟨w, by rw [upd_ne fun z => by rw [z, hp] at h; cases h; exact hf trivial]; exact h⟩)
  · exact .inr (.inr h)
theorem sc2Ok {K : Fg} {w : World} {wi : TI} {g g1 : TG} {t1 te : TE} {fi : FI} {f1 : FE} {ft ft1 : FG} {fe : FE} {vs vs1 js js1 : List Nat} (hi : IOk K wi fi) (hg : GOk K g ft js) (hjs : ∀ j ∈ js, j ∈ vs) (hi1 : EOk K t1 f1) (hg1 : GOk K g1 ft1 js1) (hjs1 : ∀ j ∈ js1, j ∈ vs1) (he : EOk K te fe)
    {r0 : List Addr} {σ0 : L2.St} {H0 : Hp} {e0 : Sl} {m : Mem} {ns : List Int} (hs0 : SlOk K r0 H0 σ0 e0) (hm0 : MemOk K r0 H0 m) (hf : sc2F fi ft f1 ft1 fe vs vs1 e0 m = some ns) {Q : VK}
    (go : ∀ r D H, Ext r0 H0 r H → Coll K w r H D m ns.reverse → H0 D = none → Q (.ref D) H) : tSc2 w wi g (iTup K t1) g1 te vs vs1 σ0 H0 Q := by
  unfold sc2F at hf
  obtain ⟨s, h1, hf⟩ := bindE hf
  obtain ⟨hwh, hf⟩ := iteE hf
  obtain ⟨ns', h2, hf⟩ := bindE hf
  obtain ⟨h64, hf⟩ := iteE hf
  cases hf
  have live : s.live m := by unfold Src.live; rw [hwh]; trivial
  refine hi r0 σ0 H0 e0 m s m hs0 hm0 (sameM_ok h1) _ fun r1 H1 J x1 hm1 hl1 hw => ?_
  intro D hD
  have hD0 : H0 D = none := x1.back hD
  let St : List Int → Nat → Hp → Prop := fun pr i H => ∃ r rest, Ext r1 H1 r H ∧ Coll K w r H D m pr ∧ sc2Out ft f1 ft1 fe vs1 (wipeE e0 vs) m (s.xs.drop i) = some rest ∧ rest.reverse ++ pr = ns.reverse
  refine ⟨fun i k H => k = s.xs.length - i ∧ i ≤ s.xs.length ∧ ∃ pr, St pr i H, ⟨s.xs.length, by simp, Nat.zero_le _, [], r1, ns, Ext.fresh hD, ⟨hm1.fresh hD, notAt hm1 hD, ⟨_, _, upd_same, fun k => by simp, rfl⟩⟩, h2, List.append_nil _⟩, ?_⟩
  rintro i k H ⟨rfl, hi', pr, r, rest, x, c, hr, hpr⟩
  by_cases hlt : i < s.xs.length
  · rw [List.drop_eq_getElem_cons hlt] at hr
    unfold sc2Out at hr
    obtain ⟨e1, a1, hr⟩ := bindE hr
    obtain ⟨d1, a2, hr⟩ := bindE hr
    obtain ⟨ys, a3, hr⟩ := bindE hr
    obtain ⟨as, a4, hr⟩ := bindE hr
    obtain ⟨rest2, a5, a6⟩ := mapE hr
    subst a6
    have ed1 := asTup_ok a3
    subst ed1
    obtain ⟨_, w0⟩ := hw i r H m x c.hm live
    obtain ⟨w1, w2⟩ := w0 s.xs[i] (List.getElem?_eq_getElem hlt)
    refine .inr ⟨w1, fun H => ∃ pr, St pr (i + 1) H, fun H' q => ⟨s.xs.length - (i + 1), by omega, rfl, hlt, q⟩, fun v H' y => ?_⟩
    obtain ⟨xy, hm', hv⟩ := w2 v H' y
    have c' := c.step xy hm'
    have hsw : SlOk K r H' (L2.wipe σ0 vs) (wipeE e0 vs) := ((hs0.mono x1).mono (x.trans xy)).wipe vs
    refine hg r _ H' _ m v _ e1 m hsw hm' hv (sameM_ok a1) _ fun r3 σ3 H3 x3 hs3 hm3 k3 n3 => ⟨wipe_eq (by rw [n3, wipe_length]) fun j hj => k3 j fun z => hj (hjs j z), ?_⟩
    have c3 := c'.step x3 hm3
    refine hi1 r3 σ3 H3 e1 m _ m hs3 hm3 (sameM_ok a2) _ fun r4 v4 H4 x4 hm4 hv4 => ?_
    obtain ⟨a, us, rfl, ha, hus⟩ := hv4.tupE
    refine ⟨a, rfl, ⟨us, ha.sq⟩, ?_⟩
    have c4 := c3.step x4 hm4
    have x14 : Ext r1 H1 r4 H4 := ((x.trans xy).trans x3).trans x4
    let St1 : Nat → Hp → Prop := fun j H => ∃ r pr' rest', Ext r1 H1 r H ∧ Coll K w r H D m pr' ∧ SlOk K r H σ3 e1 ∧ TupAt K H a us ∧ VAll K r H us ys ∧ sc2In ft1 fe (wipeE e1 vs1) m (ys.drop j) = some rest' ∧ rest'.reverse ++ pr' = as.reverse ++ pr
    refine ⟨fun j k H => k = ys.length - j ∧ j ≤ ys.length ∧ St1 j H, ⟨ys.length, by simp, Nat.zero_le _, r4, pr, as, x14, c4, hs3.mono x4, ha, hus, a4, rfl⟩, ?_⟩
    rintro j k5 H5 ⟨rfl, hj, r5, pr5, rest5, x5, c5, s5, t5, u5, h5, hp5⟩
    have ul := u5.length
    by_cases hlt1 : j < ys.length
    · rw [List.drop_eq_getElem_cons hlt1] at h5
      unfold sc2In at h5
      obtain ⟨e6, b1, h5⟩ := bindE h5
      obtain ⟨d6, b2, h5⟩ := bindE h5
      obtain ⟨z6, b3, h5⟩ := bindE h5
      obtain ⟨rest6, b4, b5⟩ := mapE h5
      subst b5
      have ed := asI_ok b3
      subst ed
      obtain ⟨v6, q6, hv6⟩ := u5.get (List.getElem?_eq_getElem hlt1)
      refine .inr ⟨⟨us, v6, t5.sq, q6⟩, fun H => St1 (j + 1) H, fun H' q => ⟨ys.length - (j + 1), by omega, rfl, hlt1, q⟩, fun v' H6 y6 => ?_⟩
      obtain ⟨rfl, y6⟩ := y6
      have e6' : some v6 = some v' := q6.symm.trans (y6 us t5.sq)
      cases e6'
      refine hg1 r5 _ H6 _ m v6 _ e6 m (s5.wipe vs1) c5.hm hv6 (sameM_ok b1) _ fun r7 σ7 H7 x7 hs7 hm7 k7 n7 => ⟨wipe_eq (by rw [n7, wipe_length]) fun j hj => k7 j fun z => hj (hjs1 j z), ?_⟩
      have c7 := c5.step x7 hm7
      refine he r7 σ7 H7 e6 m _ m hs7 hm7 (sameM_ok b2) _ fun r8 y8 H8 x8 hm8 hv8 => ?_
      have c8 := c7.step x8 hm8
      have x58 := x7.trans x8
      obtain ⟨S, n, q1, q2, q3⟩ := c8.set
      have hle : n ≤ (dist ns.reverse).length := by
        have h9 := dist_more (rest2.reverse ++ (rest6.reverse ++ [z6])) pr5
        have e9 : (rest2.reverse ++ (rest6.reverse ++ [z6])) ++ pr5 = ns.reverse := by
          rw [← hpr, List.reverse_append, List.append_assoc, List.append_assoc (bs := as.reverse), ← hp5, List.reverse_cons, List.append_assoc]
        rw [e9] at h9
        omega
      refine ⟨z6, S, n, hv8.intE, q1, ?_, r8, z6 :: pr5, rest6, (x5.trans x58).hid hD, c8.more q1 q2 q3 z6, (s5.mono x58).offG q1 setO_fix setO_ins, (t5.ext x58).offG q1 setO_fix, (u5.mono x58).offG q1 setO_fix setO_ins, b4, ?_⟩
      · unfold scanBound; omega
      · rw [← hp5, List.reverse_cons, List.append_assoc]; rfl
    · have ej : j = ys.length := by omega
      subst ej
      rw [List.drop_length] at h5
      cases h5
      refine .inl ⟨⟨us, t5.sq, by omega⟩, pr5, r5, rest2, x5, c5, a5, ?_⟩
      have hp5' : pr5 = as.reverse ++ pr := by simpa using hp5
      rw [hp5', ← hpr, List.reverse_append, List.append_assoc]
  · have ei : i = s.xs.length := by omega
    subst ei
    rw [List.drop_length] at hr
    cases hr
    obtain ⟨w0, _⟩ := hw _ r H m x c.hm live
    have hpr' : pr = ns.reverse := by simpa using hpr
    subst hpr'
    exact .inl ⟨w0 (Nat.le_refl _), go r D H (x1.trans x) c hD0⟩
/-- the ints, rising, each once -/
noncomputable def fSrtSc2 (fi : FI) (ft : FG) (f1 : FE) (ft1 : FG) (fe : FE) (vs vs1 : List Nat) : FA := fun e m => (sc2F fi ft f1 ft1 fe vs vs1 e m).map fun ns => ((srtI (dist ns)).map D.int, m)
theorem srt_lt {l : List Int} (h : l.Nodup) : (srtI l).Pairwise (· < ·) := by
  have nd : (srtI l).Nodup := (srtI_perm l).nodup_iff.mpr h
  exact (List.Pairwise.and (srtI_up l) nd).imp fun {a b} q => by
    have h1 : a ≤ b := q.1
    have h2 : a ≠ b := q.2
    omega
section
variable {X : Cx} {elt t0 i0 t1 i1 : Expr} {scope : Scope} {own : List (Str × Nat)} {vs1 : List Nat} {pos p pos2 : Pos} {wi : TI} {g g1 : TG} {ti te : TE} {fi : FI} {f1 : FE} {ft ft1 : FG} {fe : FE} {js js1 : List Nat} {x : Str}
theorem l_srtSc2 (hc : X.calm = true) (hN : X.N.Nodup) (hm : X.mg "sorted" = none) (hi : I X t0 i0 wi fi) (ok : BlkOk X.N X.env.scope scope own) (hv : ∀ i ∈ vs1, i ∈ own.map (·.2))
    (hg : ∀ (s : Shared) (H : Hp) (C : Addr) (cl : List (Str × Addr)) (fp : List Addr), G (X.blk s H scope (compEnvC scope cl C X.env) fp) t0 g ft js)
    (hi1 : ∀ (s : Shared) (H : Hp) (C : Addr) (cl : List (Str × Addr)) (fp : List Addr), E (X.blk s H scope (compEnvC scope cl C X.env) fp) i1 ti f1)
    (hg1 : ∀ (s : Shared) (H : Hp) (C : Addr) (cl : List (Str × Addr)) (fp : List Addr), G (X.blk s H scope (compEnvC scope cl C X.env) fp) t1 g1 ft1 js1)
    (he : ∀ (s : Shared) (H : Hp) (C : Addr) (cl : List (Str × Addr)) (fp : List Addr), E (X.blk s H scope (compEnvC scope cl C X.env) fp) elt te fe)
    (hjs : ∀ j ∈ js, j ∈ own.map (·.2) := by decide) (hjs1 : ∀ j ∈ js1, j ∈ vs1 := by decide) (hs : ∀ x, foldedSetIterable i0 X.env x = pure x := by intro _; rfl) (hs1 : ∀ env x, foldedSetIterable i1 env x = pure x := by intro _ _; rfl)
    (hgl : Gl X "sorted" := by rfl) (na : starEach [Expr.SetComp elt [⟨t0, i0, [], 0⟩, ⟨t1, i1, [], 0⟩] scope pos] X.env = (false, eval (Expr.SetComp elt [⟨t0, i0, [], 0⟩, ⟨t1, i1, [], 0⟩] scope pos) X.env) :: starEach [] X.env := by rfl) :
    L X (.Call (.Name "sorted" p) [.SetComp elt [⟨t0, i0, [], 0⟩, ⟨t1, i1, [], 0⟩] scope pos] [] pos2) (tCB (rSortedSet X.w) (tCons (tSc2 X.w wi g (iTup X.K ti) g1 te (own.map (·.2)) vs1) tNil)) (fSrtSc2 fi ft f1 ft1 fe (own.map (·.2)) vs1) := by
  refine ⟨pe_callB (cr_sortedSet hc) hgl hm rfl (pa_cons (pe_sc2 hc hN hi.pe ok hv (fun s H C cl fp => (hg s H C cl fp).pe) (fun s H C cl fp => pi_tup (hi1 s H C cl fp).pe) (fun s H C cl fp => (hg1 s H C cl fp).pe) (fun s H C cl fp => (he s H C cl fp).pe) hs hs1) pa_nil na) (by decide) (by decide) na rfl, fun r σ H e m xs m' hs0 hm0 hf Q go => ?_⟩
  obtain ⟨ns, h1, hf⟩ := mapE hf
  cases hf
  show tSc2 X.w wi g (iTup X.K ti) g1 te (own.map (·.2)) vs1 σ H fun v H1 => rSortedSet X.w [v] H1 Q
  refine sc2Ok (w := X.w) hi.ok (hg ⟨X.base, #[], X.s_0.drawn, 0, X.s_0.os⟩ (fun _ => none) 0 [] []).ok hjs (hi1 ⟨X.base, #[], X.s_0.drawn, 0, X.s_0.os⟩ (fun _ => none) 0 [] []).ok (hg1 ⟨X.base, #[], X.s_0.drawn, 0, X.s_0.os⟩ (fun _ => none) 0 [] []).ok hjs1 (he ⟨X.base, #[], X.s_0.drawn, 0, X.s_0.os⟩ (fun _ => none) 0 [] []).ok hs0 hm0 h1 fun r1 D H1 x1 c hD => ?_
  obtain ⟨S, n, q1, q2, q3⟩ := c.set
  have h64 : (dist ns.reverse).length < 64 := by
    unfold sc2F at h1
    obtain ⟨_, _, h1⟩ := bindE h1
    obtain ⟨_, h1⟩ := iteE h1
    obtain ⟨ns', _, h1⟩ := bindE h1
    obtain ⟨h64, h1⟩ := iteE h1
    cases h1
    exact h64
  have mem : ∀ k : Int, k ∈ srtI (dist ns) ↔ S k = true := fun k => by
    rw [(srtI_perm _).mem_iff, mem_dist, q2, List.mem_reverse]
  refine ⟨D, S, n, rfl, q1, by omega, fun ms q hup hmem hlen hq => ?_⟩
  have em : ms = srtI (dist ns) := by
    have nd1 : ms.Nodup := hup.imp fun {a b} h => by have : a < b := h; omega
    have nd2 := (srtI_perm (dist ns)).nodup_iff.mpr (nodup_dist ns)
    have pm : ms.Perm (srtI (dist ns)) := (List.perm_ext_iff_of_nodup nd1 nd2).mpr fun k => (hmem k).trans (mem k).symm
    exact srtI_only (pm.trans (srtI_perm _)) (hup.imp fun {a b} h => by have : a < b := h; omega)
  subst em
  have xq : Ext r1 H1 r1 (upd H1 q (.lst ((srtI (dist ns)).map V.int))) := Ext.fresh hq
  exact go r1 q _ _ (x1.trans xq) (c.hm.fresh hq) (notAt c.hm hq) (x1.back hq) upd_same (VAll.ofInts _)
end
end Mv

set_option Elab.async false
set_option linter.all false
set_option maxRecDepth 100000
set_option maxHeartbeats 4000000
/-! Mv38: tuple(range(n)) as a key. -/
namespace Mv
open PySem PySem.Spec PyProof.Rows L2
section
variable {X : Cx}
def fTRg1T (f : FE) : FE := fun e m => (f e m).bind fun p => (asI p.1).bind fun j => if 0 ≤ j ∧ j ≤ 100000 then some (.ttp (rangeD 0 j.toNat), p.2) else none
theorem e_trg1T {a : Expr} {ta : TE} {fa : FE} {p p2 pos pos2 : Pos} (hc : X.calm = true) (hml : X.mg "tuple" = none) (hmr : X.mg "range" = none) (h : E X a ta fa) (hgl : Gl X "tuple" := by rfl) (hgr : Gl X "range" := by rfl) (na : starEach [a] X.env = (false, eval a X.env) :: starEach [] X.env := by rfl)
    (na2 : starEach [.Call (.Name "range" p2) [a] [] pos2] X.env = (false, eval (.Call (.Name "range" p2) [a] [] pos2) X.env) :: starEach [] X.env := by rfl) :
    E X (.Call (.Name "tuple" p) [.Call (.Name "range" p2) [a] [] pos2] [] pos) (tTupRg (tRg1 ta)) (fTRg1T fa) := ⟨pe_tupRg hc hgl hml (prg_1 hgr hmr h.pe na) na2, fun r σ H e m d m' hs hm hf Q go => by
  obtain ⟨⟨d1, m1⟩, h1, hf⟩ := bindE hf
  obtain ⟨j, h2, hf⟩ := bindE hf
  obtain ⟨hz, hf⟩ := iteE hf
  cases hf
  have ej := asI_ok h2
  subst ej
  refine h.ok r σ H e m _ _ hs hm h1 _ fun r1 v1 H1 x1 hm1 hv1 => ⟨j, hv1.intE, RgOk.of_le (by omega) (by omega) (by omega) (by omega), fun q hq => ?_⟩
  have e1 : rgV 0 j = (List.range j.toNat).map fun i => V.int (0 + (i : Nat)) := by unfold rgV; rw [Int.sub_zero]
  rw [e1]
  exact (go.step x1).newTtp hm1 (rg_vals (K := X.K) (r := r1) (H := H1) 0 j.toNat) hq⟩
end
end Mv

set_option Elab.async false
set_option linter.all false
set_option maxRecDepth 100000
/-! # Steps: each construct's value from its parts' -/
namespace Mv
open PySem PySem.Spec PyProof.Rows L2
section
variable {e : Sl} {m m1 m2 m3 : Mem}
theorem y_seq {f g : FS} {e1 : Sl} {o : Option Out} (h : f e m = some (.nx e1 m1)) (h2 : g e1 m1 = o) : fsSeq f g e m = o := by
  unfold fsSeq; rw [h]; exact h2
theorem y_seqR {f g : FS} {d : D} (h : f e m = some (.rt d m1)) : fsSeq f g e m = some (.rt d m1) := by
  unfold fsSeq; rw [h]; rfl
theorem y_asg {f : FE} {i : Nat} {d : D} {e' : Sl} (h : f e m = some (d, m1)) (he : e.set i (some d) = e') : fsAsg f (fName i) e m = some (.nx e' m1) := by
  unfold fsAsg; rw [h, ← he]; rfl
theorem y_asgG {f : FE} {g : FG} {d : D} {e' : Sl} (h : f e m = some (d, m1)) (h2 : g d e m1 = some (e', m2)) : fsAsg f g e m = some (.nx e' m2) := by
  unfold fsAsg; rw [h, Option.bind_some]; show (g d e m1).map _ = _; rw [h2]; rfl
theorem y_no {t : FT} {a b : FS} {o : Option Out} (h : t e m = some (false, m1)) (h2 : b e m1 = o) : fsIf t a b e m = o := by
  unfold fsIf; rw [h]; exact h2
theorem y_yes {t : FT} {a b : FS} {o : Option Out} (h : t e m = some (true, m1)) (h2 : a e m1 = o) : fsIf t a b e m = o := by
  unfold fsIf; rw [h]; exact h2
theorem y_ret {f : FE} {d : D} (h : f e m = some (d, m1)) : fsRet f e m = some (.rt d m1) := by unfold fsRet; rw [h]; rfl
theorem y_drop {f : FE} {d : D} (h : f e m = some (d, m1)) : fsDrop f e m = some (.nx e m1) := by unfold fsDrop; rw [h]; rfl
theorem y_next : fsNext e m = some (.nx e m) := rfl
theorem y_par {i j : Nat} {fa : FA} {x y : D} {e' : Sl} (h : fa e m = some ([x, y], m1)) (he : (e.set i (some x)).set j (some y) = e') : fsPar i j fa e m = some (.nx e' m1) := by
  unfold fsPar; rw [h, ← he]; rfl
theorem y_var {i : Nat} {d : D} (h : e[i]? = some (some d)) : fVar i e m = some (d, m) := by unfold fVar; rw [h]; rfl
theorem y_c {d : D} : fC d e m = some (d, m) := rfl
theorem y_op {g : G2} {fa fb : FE} {a b : D} {o : Option (D × Mem)} (h : fa e m = some (a, m1)) (h2 : fb e m1 = some (b, m2)) (h3 : g a b m2 = o) : fOp g fa fb e m = o := by
  unfold fOp; rw [h, Option.bind_some]; show (fb e m1).bind _ = _; rw [h2]; exact h3
theorem y_un {g : G1} {fa : FE} {a : D} {o : Option (D × Mem)} (h : fa e m = some (a, m1)) (h3 : g a m1 = o) : fUn g fa e m = o := by
  unfold fUn; rw [h]; exact h3
theorem y_nil : fNil e m = some ([], m) := rfl
theorem y_cons {fe : FE} {fr : FA} {d : D} {ds : List D} (h : fe e m = some (d, m1)) (h2 : fr e m1 = some (ds, m2)) : fCons fe fr e m = some (d :: ds, m2) := by
  unfold fCons; rw [h, Option.bind_some]; show (fr e m1).bind _ = _; rw [h2]; rfl
theorem y_call {F : GN} {fa : FA} {ds : List D} {o : Option (D × Mem)} (h : fa e m = some (ds, m1)) (h2 : F ds m1 = o) : fCall F fa e m = o := by
  unfold fCall; rw [h]; exact h2
theorem y_lcall {F : GLN} {fa : FA} {ds : List D} {o : Option (List D × Mem)} (h : fa e m = some (ds, m1)) (h2 : F ds m1 = o) : fLCall F fa e m = o := by
  unfold fLCall; rw [h]; exact h2
theorem y_on {G : GN} {fa : FA} {xs : List D} {o : Option (D × Mem)} (h : fa e m = some (xs, m1)) (h2 : G xs m1 = o) : fOn G fa e m = o := by
  unfold fOn; rw [h]; exact h2
theorem y_put {f : FA} {xs : List D} (h : f e m = some (xs, m1)) : fPut f e m = some (.loc m1.length, m1 ++ [.lst xs]) := by unfold fPut; rw [h]; rfl
theorem y_lst {f : FA} {xs : List D} (h : f e m = some (xs, m1)) (hl : xs.length ≤ 100000 := by first | decide | exact Nat.le_of_ble_eq_true rfl) : fLst f e m = some (xs, m1) := by
  unfold fLst; rw [h, Option.bind_some, if_pos hl]
theorem y_tup {f : FA} {xs : List D} (h : f e m = some (xs, m1)) (hl : xs.length ≤ 100000 := by first | decide | exact Nat.le_of_ble_eq_true rfl) : fTup f e m = some (.tup xs, m1) := by
  unfold fTup; rw [h, Option.bind_some, if_pos hl]
theorem y_w {f : FE} {d d' : D} (h : f e m = some (d, m1)) (hw : d.weak = d') : fW f e m = some (d', m1) := by
  unfold fW; rw [h, ← hw]; rfl
theorem y_test {f : FE} {b : Bool} (h : f e m = some (.bl b, m1)) : fTest f e m = some (b, m1) := by unfold fTest; rw [h]; rfl
theorem y_tru {f : FE} {d : D} {b : Bool} (h : f e m = some (d, m1)) (h2 : tru m1 d = some b) : fTru f e m = some (b, m1) := by
  unfold fTru; rw [h, Option.bind_some]; show (tru m1 d).map _ = _; rw [h2]; rfl
theorem y_notT {f : FT} {b : Bool} (h : f e m = some (b, m1)) : fNotT f e m = some (!b, m1) := by unfold fNotT; rw [h]; rfl
theorem y_orN {f g : FT} {o : Option (Bool × Mem)} (h : f e m = some (false, m1)) (h2 : g e m1 = o) : fOrT f g e m = o := by unfold fOrT; rw [h]; exact h2
theorem y_orY {f g : FT} (h : f e m = some (true, m1)) : fOrT f g e m = some (true, m1) := by unfold fOrT; rw [h]; rfl
theorem y_andY {f g : FT} {o : Option (Bool × Mem)} (h : f e m = some (true, m1)) (h2 : g e m1 = o) : fAndT f g e m = o := by unfold fAndT; rw [h]; exact h2
theorem y_andN {f g : FT} (h : f e m = some (false, m1)) : fAndT f g e m = some (false, m1) := by unfold fAndT; rw [h]; rfl
theorem y_not {f : FE} {d : D} {b : Bool} (h : f e m = some (d, m1)) (h2 : tru m1 d = some b) : fNot f e m = some (.bl (!b), m1) := by
  unfold fNot; rw [h, Option.bind_some]; show (tru m1 d).map _ = _; rw [h2]; rfl
theorem y_and1 {f g : FE} {d : D} {o : Option (D × Mem)} (h : f e m = some (d, m1)) (h2 : tru m1 d = some true) (h3 : g e m1 = o) : fAnd f g e m = o := by
  unfold fAnd; rw [h, Option.bind_some]; show (tru m1 d).bind _ = _; rw [h2]; exact h3
theorem y_and0 {f g : FE} {d : D} (h : f e m = some (d, m1)) (h2 : tru m1 d = some false) : fAnd f g e m = some (d, m1) := by
  unfold fAnd; rw [h, Option.bind_some]; show (tru m1 d).bind _ = _; rw [h2]; rfl
theorem y_if1 {t : FT} {f g : FE} {o : Option (D × Mem)} (h : t e m = some (true, m1)) (h2 : f e m1 = o) : fIf t f g e m = o := by unfold fIf; rw [h]; exact h2
theorem y_if0 {t : FT} {f g : FE} {o : Option (D × Mem)} (h : t e m = some (false, m1)) (h2 : g e m1 = o) : fIf t f g e m = o := by unfold fIf; rw [h]; exact h2
theorem y_meth {g : GM} {fo : FE} {fa : FA} {l : Nat} {c : Cell} {ds : List D} {o : Option (D × Mem)} (h1 : fo e m = some (.loc l, m1)) (h0 : ∃ xs, m1[l]? = some (.lst xs)) (h2 : fa e m1 = some (ds, m2)) (h3 : g (.loc l) ds m2 = o) : fMeth g fo fa e m = o := by
  obtain ⟨xs, h0⟩ := h0
  unfold fMeth
  rw [h1, Option.bind_some]
  simp only [h0, Option.bind_some, h2, h3]
theorem y_metT {g : GM} {fo : FE} {fa : FA} {xs ds : List D} {o : Option (D × Mem)} (h1 : fo e m = some (.stp xs, m1)) (h2 : fa e m1 = some (ds, m2)) (h3 : g (.stp xs) ds m2 = o) : fMetT g fo fa e m = o := by
  unfold fMetT
  rw [h1, Option.bind_some]
  simp only [Option.bind_some, h2, h3]
theorem y_fld {ce : CEnv} {f : Str} {fa : FE} {n : Str} {ks : List Str} {xs : List D} {d : D} (h : fa e m = some (.ins n ks xs, m1)) (h2 : hasF ce n f = true) (h3 : lookO f ks xs = some d) : fFld ce f fa e m = some (d, m1) := by
  unfold fFld
  rw [h, Option.bind_some]
  show (if hasF ce n f = true then _ else _) = _
  rw [if_pos h2, h3]; rfl
theorem y_chainY {g g' : G2} {fa fb fc : FE} {a b c : D} {o : Option (D × Mem)} (h1 : fa e m = some (a, m1)) (h2 : fb e m1 = some (b, m2)) (h3 : g a b m2 = some (.bl true, m2)) (h4 : fc e m2 = some (c, m3)) (h5 : g' b c m3 = o) : fChain g g' fa fb fc e m = o := by
  unfold fChain
  rw [h1, Option.bind_some, h2, Option.bind_some, h3, Option.bind_some]
  show (fc e m2).bind _ = _
  rw [h4]; exact h5
/-! ### sequences -/
theorem y_seqT {f : FE} {xs : List D} (h : f e m = some (.tup xs, m1)) : fSeq f e m = some (⟨xs, none⟩, m1) := by unfold fSeq; rw [h]; rfl
theorem y_seqL {f : FE} {l : Nat} {xs : List D} (h : f e m = some (.loc l, m1)) (h2 : m1[l]? = some (.lst xs)) : fSeq f e m = some (⟨xs, some l⟩, m1) := by
  unfold fSeq
  rw [h, Option.bind_some]
  show ((rd m1 l).map _).map _ = _
  rw [rd_of h2]; rfl
theorem y_rg1 {f : FE} {n : Nat} (h : f e m = some (.int (n : Nat), m1)) (hn : n ≤ 100000) : fRange1 f e m = some (⟨tab n fun y => .int (y : Nat), none⟩, m1) := by
  unfold fRange1
  rw [h, Option.bind_some]
  show (if (-100000 : Int) ≤ (n : Nat) ∧ ((n : Nat) : Int) ≤ 100000 then _ else _) = _
  rw [if_pos (by omega), Int.toNat_natCast, tab_range]
theorem y_tRg1 {f : FE} {n : Nat} (h : f e m = some (.int (n : Nat), m1)) (hn : n ≤ 100000) : fTRg1 f e m = some (.tup (tab n fun y => .int (y : Nat)), m1) := by
  unfold fTRg1
  rw [h, Option.bind_some]
  show (if _ then _ else _) = _
  rw [if_pos (by omega), Int.toNat_natCast, tab_range]
theorem y_tRg1T {f : FE} {n : Nat} (h : f e m = some (.int (n : Nat), m1)) (hn : n ≤ 100000) : fTRg1T f e m = some (.ttp (tab n fun y => .int (y : Nat)), m1) := by
  unfold fTRg1T
  rw [h, Option.bind_some]
  show (if (0 : Int) ≤ (n : Nat) ∧ ((n : Nat) : Int) ≤ 100000 then _ else _) = _
  rw [if_pos (by omega), Int.toNat_natCast, tab_range]
theorem y_enumT {f : FE} {xs : List D} (h : f e m = some (.tup xs, m1)) : fEnum f e m = some (⟨numberD 0 xs, none⟩, m1) := by
  unfold fEnum
  rw [h]; rfl
theorem y_elt {ft : FG} {fe : FE} {x d : D} {e1 : Sl} (h : ft x e m = some (e1, m1)) (h2 : fe e1 m1 = some (d, m2)) : fElt ft fYes fe e x m = some (some d, m2) := by
  unfold fElt
  rw [h, Option.bind_some]
  show (fe e1 m1).map _ = _
  rw [h2]; rfl
theorem y_eltC {ft : FG} {fc : FT} {fe : FE} {x d : D} {e1 : Sl} {b : Bool} (h : ft x e m = some (e1, m1)) (h1 : fc e1 m1 = some (b, m2)) (h2 : fe e1 m2 = some (d, m2)) : fElt ft fc fe e x m = some (if b = true then some d else none, m2) := by
  unfold fElt
  rw [h, Option.bind_some]
  show (fc e1 m1).bind _ = _
  rw [h1, Option.bind_some]
  cases b
  · rfl
  · show (fe e1 m2).map _ = _
    rw [h2]; rfl
end
/-- a comprehension over what stands for good, the memory the same throughout -/
theorem y_lc {fi : FI} {ft : FG} {fe : FE} {own : List Nat} {e : Sl} {m m0 : Mem} {α : Type} {l : List α} {g k : α → D} (hi : fi e m0 = some (⟨l.map g, none⟩, m)) (hl : l.length ≤ 100000) (h : ∀ y ∈ l, fElt ft fYes fe (wipeE e own) (g y) m = some (some (k y), m)) : fLc fi ft fYes fe own e m0 = some (l.map k, m) := by
  unfold fLc
  rw [hi, Option.bind_some, if_pos (by show (l.map g).length ≤ _; rw [List.length_map]; exact hl)]
  have main : ∀ (s0 : List D) (l : List α), (∀ y ∈ l, fElt ft fYes fe (wipeE e own) (g y) m = some (some (k y), m)) → comp ⟨s0, none⟩ (fElt ft fYes fe (wipeE e own)) (l.map g) m = some (l.map k, m) := fun s0 l h => by
    induction l with
    | nil => show comp _ _ [] m = _; unfold comp; exact if_pos trivial
    | cons y r ih =>
      show comp _ _ (g y :: r.map g) m = _
      unfold comp
      rw [if_pos (show Src.live ⟨s0, none⟩ m from trivial), h y (by simp), Option.bind_some]
      show ((comp _ _ (r.map g) m).map _) = _
      rw [ih fun z hz => h z (by simp [hz])]; rfl
  exact main _ l h
/-- .. with a condition -/
theorem y_lcC {fi : FI} {ft : FG} {fc : FT} {fe : FE} {own : List Nat} {e : Sl} {m m0 : Mem} {α : Type} {l : List α} {g k : α → D} {p : α → Bool} (hi : fi e m0 = some (⟨l.map g, none⟩, m)) (hl : l.length ≤ 100000) (h : ∀ y ∈ l, fElt ft fc fe (wipeE e own) (g y) m = some (if p y = true then some (k y) else none, m)) : fLc fi ft fc fe own e m0 = some ((l.filter p).map k, m) := by
  unfold fLc
  rw [hi, Option.bind_some, if_pos (by show (l.map g).length ≤ _; rw [List.length_map]; exact hl)]
  have main : ∀ (s0 : List D) (l : List α), (∀ y ∈ l, fElt ft fc fe (wipeE e own) (g y) m = some (if p y = true then some (k y) else none, m)) → comp ⟨s0, none⟩ (fElt ft fc fe (wipeE e own)) (l.map g) m = some ((l.filter p).map k, m) := fun s0 l h => by
    induction l with
    | nil => show comp _ _ [] m = _; unfold comp; exact if_pos trivial
    | cons y r ih =>
      show comp _ _ (g y :: r.map g) m = _
      unfold comp
      rw [if_pos (show Src.live ⟨s0, none⟩ m from trivial), h y (by simp), Option.bind_some]
      show ((comp _ _ (r.map g) m).map _) = _
      rw [ih fun z hz => h z (by simp [hz])]
      cases q : p y
      · rw [if_neg (by simp), List.filter_cons_of_neg (by rw [q]; simp)]; rfl
      · rw [if_pos rfl, List.filter_cons_of_pos q]; rfl
  exact main _ l h
/-- a comprehension whose elements change the memory: what P says of it stays -/
theorem y_lcM {fi : FI} {ft : FG} {fe : FE} {own : List Nat} {e : Sl} {m m0 : Mem} {α : Type} {l : List α} {g k : α → D} (P : Mem → Prop) (hi : fi e m0 = some (⟨l.map g, none⟩, m)) (hl : l.length ≤ 100000) (hP : P m) (h : ∀ y ∈ l, ∀ mm, P mm → ∃ m', fElt ft fYes fe (wipeE e own) (g y) mm = some (some (k y), m') ∧ P m') : ∃ m', fLc fi ft fYes fe own e m0 = some (l.map k, m') ∧ P m' := by
  unfold fLc
  rw [hi, Option.bind_some, if_pos (by show (l.map g).length ≤ _; rw [List.length_map]; exact hl)]
  have main : ∀ (s0 : List D) (l : List α) (m : Mem), P m → (∀ y ∈ l, ∀ mm, P mm → ∃ m', fElt ft fYes fe (wipeE e own) (g y) mm = some (some (k y), m') ∧ P m') → ∃ m', comp ⟨s0, none⟩ (fElt ft fYes fe (wipeE e own)) (l.map g) m = some (l.map k, m') ∧ P m' := fun s0 l => by
    induction l with
    | nil => intro m hP _; exact ⟨m, by show comp _ _ [] m = _; unfold comp; exact if_pos trivial, hP⟩
    | cons y r ih =>
      intro m hP h
      obtain ⟨m1, h1, h2⟩ := h y (by simp) m hP
      obtain ⟨m2, h3, h4⟩ := ih m1 h2 fun z hz => h z (by simp [hz])
      refine ⟨m2, ?_, h4⟩
      show comp _ _ (g y :: r.map g) m = _
      unfold comp
      rw [if_pos (show Src.live ⟨s0, none⟩ m from trivial), h1, Option.bind_some]
      show ((comp _ _ (r.map g) m1).map _) = _
      rw [h3]; rfl
  exact main _ l m hP h
/-- .. and the values are not told one by one -/
theorem y_lcD {fi : FI} {ft : FG} {fe : FE} {own : List Nat} {e : Sl} {m m0 : Mem} {α : Type} {l : List α} {g : α → D} (P : Mem → Prop) (R : D → Prop) (hi : fi e m0 = some (⟨l.map g, none⟩, m)) (hl : l.length ≤ 100000) (hP : P m) (h : ∀ y ∈ l, ∀ mm, P mm → ∃ d m', fElt ft fYes fe (wipeE e own) (g y) mm = some (some d, m') ∧ R d ∧ P m') : ∃ ds m', fLc fi ft fYes fe own e m0 = some (ds, m') ∧ ds.length = l.length ∧ (∀ d ∈ ds, R d) ∧ P m' := by
  unfold fLc
  rw [hi, Option.bind_some, if_pos (by show (l.map g).length ≤ _; rw [List.length_map]; exact hl)]
  have main : ∀ (s0 : List D) (l : List α) (m : Mem), P m → (∀ y ∈ l, ∀ mm, P mm → ∃ d m', fElt ft fYes fe (wipeE e own) (g y) mm = some (some d, m') ∧ R d ∧ P m') → ∃ ds m', comp ⟨s0, none⟩ (fElt ft fYes fe (wipeE e own)) (l.map g) m = some (ds, m') ∧ ds.length = l.length ∧ (∀ d ∈ ds, R d) ∧ P m' := fun s0 l => by
    induction l with
    | nil =>
      intro m hP _
      refine ⟨[], m, ?_, rfl, ?_, hP⟩
      · show comp _ _ [] m = _; unfold comp; exact if_pos trivial
      · intro d hd; cases hd
    | cons y r ih =>
      intro m hP h
      obtain ⟨d, m1, h1, hR, h2⟩ := h y (by simp) m hP
      obtain ⟨ds, m2, h3, h5, h6, h4⟩ := ih m1 h2 fun z hz => h z (by simp [hz])
      refine ⟨d :: ds, m2, ?_, by rw [List.length_cons, List.length_cons, h5], fun z hz => ?_, h4⟩
      · show comp _ _ (g y :: r.map g) m = _
        unfold comp
        rw [if_pos (show Src.live ⟨s0, none⟩ m from trivial), h1, Option.bind_some]
        show ((comp _ _ (r.map g) m1).map _) = _
        rw [h3]; rfl
      · rcases List.mem_cons.mp hz with q | q
        · rw [q]; exact hR
        · exact h6 z q
  exact main _ l m hP h
/-- a comprehension over a list in memory, the memory the same throughout -/
theorem y_lcL {fi : FI} {ft : FG} {fe : FE} {own : List Nat} {e : Sl} {m m0 : Mem} {α : Type} {l : List α} {g k : α → D} {q : Nat} (hi : fi e m0 = some (⟨l.map g, some q⟩, m)) (hq : m[q]? = some (.lst (l.map g))) (hl : l.length ≤ 100000) (h : ∀ y ∈ l, fElt ft fYes fe (wipeE e own) (g y) m = some (some (k y), m)) : fLc fi ft fYes fe own e m0 = some (l.map k, m) := by
  unfold fLc
  rw [hi, Option.bind_some, if_pos (by show (l.map g).length ≤ _; rw [List.length_map]; exact hl)]
  have main : ∀ (s0 : List D) (hs : m[q]? = some (.lst s0)) (l : List α), (∀ y ∈ l, fElt ft fYes fe (wipeE e own) (g y) m = some (some (k y), m)) → comp ⟨s0, some q⟩ (fElt ft fYes fe (wipeE e own)) (l.map g) m = some (l.map k, m) := fun s0 hs l h => by
    induction l with
    | nil => show comp _ _ [] m = _; unfold comp; exact if_pos (rd_of hs)
    | cons y r ih =>
      show comp _ _ (g y :: r.map g) m = _
      unfold comp
      rw [if_pos (show Src.live ⟨s0, some q⟩ m from rd_of hs), h y (by simp), Option.bind_some]
      show ((comp _ _ (r.map g) m).map _) = _
      rw [ih fun z hz => h z (by simp [hz])]; rfl
  exact main _ hq l h
/-- a for loop over what stands for good, one step after the other: I speaks of those gone through and those ahead -/
theorem y_for {fi : FI} {ft : FG} {g : FS} {e : Sl} {m0 m : Mem} {α : Type} {l : List α} {k : α → D} (hi : fi e m0 = some (⟨l.map k, none⟩, m)) (I : List α → List α → Sl → Mem → Prop) (h0 : I [] l e m) (hb : ∀ a x b e m, l = a ++ x :: b → I a (x :: b) e m → ∃ e1 m1, ((ft (k x) e m).bind fun q => g q.1 q.2) = some (.nx e1 m1) ∧ I (a ++ [x]) b e1 m1) :
    ∃ e1 m1, fsFor fi ft g e m0 = some (.nx e1 m1) ∧ I l [] e1 m1 := by
  unfold fsFor
  rw [hi, Option.bind_some]
  show ∃ e1 m1, turns ⟨l.map k, none⟩ _ (l.map k) e m = _ ∧ _
  have main : ∀ (s0 : List D) (b a : List α) (e : Sl) (m : Mem), l = a ++ b → I a b e m → ∃ e1 m1, turns ⟨s0, none⟩ (fun x e m => (ft x e m).bind fun q => g q.1 q.2) (b.map k) e m = some (.nx e1 m1) ∧ I l [] e1 m1 := fun s0 b => by
    induction b with
    | nil => intro a e m q hI; rw [List.append_nil] at q; subst q; exact ⟨e, m, by show turns _ _ [] _ _ = _; unfold turns; exact if_pos trivial, hI⟩
    | cons x r ih =>
      intro a e m q hI
      obtain ⟨e1, m1, h1, h2⟩ := hb a x r e m q hI
      obtain ⟨e2, m2, h3, h4⟩ := ih (a ++ [x]) e1 m1 (by rw [q]; simp) h2
      refine ⟨e2, m2, ?_, h4⟩
      show turns _ _ (k x :: r.map k) e m = _
      unfold turns
      rw [if_pos (show Src.live ⟨s0, none⟩ m from trivial), h1]
      exact h3
  exact main _ l [] e m rfl h0
/-- .. over a list in memory that stays as it is -/
theorem y_forL {fi : FI} {ft : FG} {g : FS} {e : Sl} {m0 m : Mem} {α : Type} {l : List α} {k : α → D} {q : Nat} (hi : fi e m0 = some (⟨l.map k, some q⟩, m)) (I : List α → List α → Sl → Mem → Prop) (hl : ∀ a b e m, I a b e m → m[q]? = some (.lst (l.map k))) (h0 : I [] l e m) (hb : ∀ a x b e m, l = a ++ x :: b → I a (x :: b) e m → ∃ e1 m1, ((ft (k x) e m).bind fun q => g q.1 q.2) = some (.nx e1 m1) ∧ I (a ++ [x]) b e1 m1) :
    ∃ e1 m1, fsFor fi ft g e m0 = some (.nx e1 m1) ∧ I l [] e1 m1 := by
  unfold fsFor
  rw [hi, Option.bind_some]
  show ∃ e1 m1, turns ⟨l.map k, some q⟩ _ (l.map k) e m = _ ∧ _
  have main : ∀ (b a : List α) (e : Sl) (m : Mem), l = a ++ b → I a b e m → ∃ e1 m1, turns ⟨l.map k, some q⟩ (fun x e m => (ft x e m).bind fun q => g q.1 q.2) (b.map k) e m = some (.nx e1 m1) ∧ I l [] e1 m1 := fun b => by
    induction b with
    | nil => intro a e m w hI; rw [List.append_nil] at w; subst w; exact ⟨e, m, by show turns _ _ [] _ _ = _; unfold turns; exact if_pos (rd_of (hl _ _ _ _ hI)), hI⟩
    | cons x r ih =>
      intro a e m w hI
      obtain ⟨e1, m1, h1, h2⟩ := hb a x r e m w hI
      obtain ⟨e2, m2, h3, h4⟩ := ih (a ++ [x]) e1 m1 (by rw [w]; simp) h2
      refine ⟨e2, m2, ?_, h4⟩
      show turns _ _ (k x :: r.map k) e m = _
      unfold turns
      rw [if_pos (show Src.live ⟨l.map k, some q⟩ m from rd_of (hl _ _ _ _ hI)), h1]
      exact h3
  exact main l [] e m rfl h0
theorem numberD_map {α : Type} (k : α → D) : ∀ (l : List α) (i : Nat), numberD i (l.map k) = (l.zipIdx i).map fun p => .tup [.int (p.2 : Nat), k p.1]
  | [], _ => rfl
  | x :: l, i => by
    show D.tup [.int (i : Nat), k x] :: numberD (i + 1) (l.map k) = _
    rw [numberD_map k l (i + 1)]; rfl
/-- all that was there stands as it was -/
structure Kp (m m' : Mem) : Prop where
  len : m.length ≤ m'.length
  at_ : ∀ j, j < m.length → m'[j]? = m[j]?
theorem Kp.rfl' {m : Mem} : Kp m m := ⟨Nat.le_refl _, fun _ _ => rfl⟩
theorem Kp.trans {m m1 m2 : Mem} (h : Kp m m1) (k : Kp m1 m2) : Kp m m2 := ⟨Nat.le_trans h.1 k.1, fun j hj => (k.2 j (Nat.lt_of_lt_of_le hj h.1)).trans (h.2 j hj)⟩
theorem Kp.app {m t : Mem} : Kp m (m ++ t) := ⟨by simp, fun j hj => List.getElem?_append_left hj⟩
theorem Kp.set {m m1 : Mem} {q : Nat} {c : Cell} (h : Kp m m1) (hq : m.length ≤ q) : Kp m (m1.set q c) := ⟨by rw [List.length_set]; exact h.1, fun j hj => by rw [List.getElem?_set_ne (by omega)]; exact h.2 j hj⟩
theorem Kp.get {m m1 : Mem} {q : Nat} {c : Cell} (h : Kp m m1) (hq : m[q]? = some c) : m1[q]? = some c := by
  rw [h.2 q (List.getElem?_eq_some_iff.mp hq).1]; exact hq
theorem ix_lst {m : Mem} {l : Nat} {i : Int} {xs : List D} {d : D} (h : m[l]? = some (.lst xs)) (h4 : atI xs i = some d) : gIx (.loc l) (.int i) m = some (d, m) := by
  show (rd m l).bind _ = _
  rw [rd_of h, Option.bind_some, h4]; rfl
theorem ix_tup {m : Mem} {i : Int} {xs : List D} {d : D} (h4 : atI xs i = some d) : gIx (.tup xs) (.int i) m = some (d, m) := by
  show (atI xs i).map _ = _
  rw [h4]; rfl
end Mv

set_option Elab.async false
set_option linter.all false
set_option maxRecDepth 100000
/-! # Tables of groups and parts of them, as functions on numbers -/
namespace Mv
open PySem PySem.Spec PyProof.Rows L2
abbrev nL (S : List Nat) : List D := S.map fun x => D.int (x : Nat)
abbrev nD (S : List Nat) : D := .tup (nL S)
/-- a table's lines: the container, its rows strong -/
def linesD (n : Nat) (T : Nat → Nat → Nat) : D := .tup (tab n fun i => mvS n (T i))
structure Grp (n : Nat) (T : Nat → Nat → Nat) : Prop where
  pos : 1 ≤ n
  le : n ≤ 48
  lt : ∀ i j, i < n → j < n → T i j < n
  zl : ∀ i, i < n → T 0 i = i
  zr : ∀ i, i < n → T i 0 = i
  bk : ∀ i, i < n → ∃ j, j < n ∧ T i j = 0
  as : ∀ i j k, i < n → j < n → k < n → T (T i j) k = T i (T j k)
theorem weakAll_ints (ns : List Nat) : D.weakAll (nL ns) = nL ns := by
  induction ns with
  | nil => rfl
  | cons x r ih => show D.int (x : Nat) :: D.weakAll (nL r) = _; rw [ih]; rfl
theorem weakAll_map {α : Type} (l : List α) (f g : α → D) (h : ∀ x ∈ l, (f x).weak = g x) : D.weakAll (l.map f) = l.map g := by
  induction l with
  | nil => rfl
  | cons x r ih =>
    show (f x).weak :: D.weakAll (r.map f) = _
    rw [ih fun y hy => h y (by simp [hy]), h x (by simp)]; rfl
theorem tab_nL (n : Nat) (f : Nat → Nat) : tab n (fun y => D.int (f y : Nat)) = nL ((List.range n).map f) := by
  show _ = ((List.range n).map f).map _
  rw [List.map_map]; rfl
theorem weak_mvS (n : Nat) (f : Nat → Nat) : (mvS n f).weak = mvD n f := by
  show D.tup (D.weakAll (tab n _)) = D.tup _
  rw [tab_nL, weakAll_ints]
theorem weak_mvD (n : Nat) (f : Nat → Nat) : (mvD n f).weak = mvD n f := by
  show D.tup (D.weakAll (tab n _)) = D.tup _
  rw [tab_nL, weakAll_ints]
theorem weak_nD (S : List Nat) : (nD S).weak = nD S := by show D.tup (D.weakAll _) = _; rw [weakAll_ints]
def linesW (n : Nat) (T : Nat → Nat → Nat) : D := .tup (tab n fun i => mvD n (T i))
theorem weak_lines (n : Nat) (T : Nat → Nat → Nat) : (linesD n T).weak = linesW n T := by
  show D.tup (D.weakAll _) = D.tup _
  unfold tab
  rw [weakAll_map _ _ _ fun x _ => weak_mvS n (T x)]
section
variable {n : Nat} {T : Nat → Nat → Nat} {m : Mem} {i j : Nat}
theorem ix_lines (hi : i < n) : gIx (linesD n T) (.int (i : Nat)) m = some (mvS n (T i), m) := ix_tup (tab_at hi)
theorem ix_linesW (hi : i < n) : gIx (linesW n T) (.int (i : Nat)) m = some (mvD n (T i), m) := ix_tup (tab_at hi)
theorem ix_row (hj : j < n) : gIx (mvD n (T i)) (.int (j : Nat)) m = some (.int (T i j : Nat), m) := ix_tup (tab_at hj)
theorem len_linesW : gLen [linesW n T] m = some (.int (n : Nat), m) := by show some (D.int ((tab n _).length : Nat), m) = _; rw [tab_len]
theorem len_row {f : Nat → Nat} : gLen [mvD n f] m = some (.int (n : Nat), m) := by show some (D.int ((tab n _).length : Nat), m) = _; rw [tab_len]
end
theorem asIs_nL (S : List Nat) : asIs (nL S) = some (S.map Int.ofNat) := by
  induction S with
  | nil => rfl
  | cons x r ih => show (asIs (nL r)).map _ = _; rw [ih]; rfl
theorem nL_ints (S : List Nat) : nL S = (S.map Int.ofNat).map D.int := by rw [List.map_map]; rfl
theorem toVs_nL (S : List Nat) : toVs (nL S) = some (S.map fun x => V.int (x : Nat)) := by
  induction S with
  | nil => rfl
  | cons x r ih => show (toVs (nL r)).map _ = _; rw [ih]; rfl
theorem inD_nL (m : Mem) (x : Nat) (S : List Nat) : inD m (.int (x : Nat)) (nD S) = some (decide (x ∈ S)) := by
  show (toVs (nL S)).map _ = _
  rw [toVs_nL]
  show some (inV (V.int (x : Nat)) (S.map fun x => V.int (x : Nat))) = _
  congr 1
  induction S with
  | nil => rfl
  | cons y r ih =>
    show (eqV (V.int (y : Nat)) (V.int (x : Nat)) || inV (V.int (x : Nat)) (r.map fun x => V.int (x : Nat))) = _
    rw [ih]
    have e : eqV (V.int (y : Nat)) (V.int (x : Nat)) = decide (x = y) := by
      show (((y : Nat) : Int) == ((x : Nat) : Int)) = _
      rw [Bool.eq_iff_iff, beq_iff_eq, decide_eq_true_iff]; omega
    rw [e, ← Bool.decide_or]
    exact decide_eq_decide.mpr List.mem_cons.symm
theorem idxOf_ofNat (S : List Nat) : (S.map Int.ofNat).idxOf 0 = S.idxOf 0 := by
  induction S with
  | nil => rfl
  | cons y r ih =>
    rw [List.map_cons, List.idxOf_cons, List.idxOf_cons, ih]
    cases y with
    | zero => rfl
    | succ y => rfl
theorem posI_ofNat : ∀ {S : List Nat}, 0 ∈ S → posI (S.map Int.ofNat) 0 = some (S.idxOf 0)
  | [], h => by cases h
  | y :: r, h => by
    rw [List.map_cons, List.idxOf_cons]
    unfold posI
    cases y with
    | zero => rfl
    | succ y =>
      rw [if_neg (by show ¬ (((y + 1 : Nat) : Int) = 0); omega), posI_ofNat (S := r) (by rcases List.mem_cons.mp h with q | q; cases q; exact q)]
      rfl
theorem gAll_t {α : Type} (l : List α) (m : Mem) : gAll (l.map fun _ => D.bl true) m = some (.bl true, m) := by
  have h : asBs (l.map fun _ => D.bl true) = some (l.map fun _ => true) := by
    induction l with
    | nil => rfl
    | cons x r ih => show (asBs _).map _ = _; rw [ih]; rfl
  have e : (l.map fun _ => true).all id = true := by simp
  unfold gAll; rw [h]
  show some (D.bl ((l.map fun _ => true).all id), m) = _
  rw [e]
theorem gAny_f {α : Type} (l : List α) (m : Mem) : gAny (l.map fun _ => D.bl false) m = some (.bl false, m) := by
  have h : asBs (l.map fun _ => D.bl false) = some (l.map fun _ => false) := by
    induction l with
    | nil => rfl
    | cons x r ih => show (asBs _).map _ = _; rw [ih]; rfl
  have e : (l.map fun _ => false).any id = false := by simp
  unfold gAny; rw [h]
  show some (D.bl ((l.map fun _ => false).any id), m) = _
  rw [e]
theorem cut_1 (xs : List D) : cutD xs (some 1) none = xs.drop 1 := by
  have a : HT.sIx xs.length 0 (some 1) = min 1 xs.length := HT.sIx_nat xs.length 0 1
  have b : HT.sIx xs.length xs.length none = xs.length := HT.sIx_none _ _
  unfold cutD
  rw [a, b]
  cases xs with
  | nil => rfl
  | cons x r =>
    show ((x :: r).drop (min 1 (r.length + 1))).take (r.length + 1 - min 1 (r.length + 1)) = r
    rw [show min 1 (r.length + 1) = 1 by omega]
    show r.take (r.length + 1 - 1) = r
    rw [Nat.add_sub_cancel, List.take_length]
theorem cut_to1 (x : D) (xs : List D) : cutD (x :: xs) none (some 1) = [x] := by
  have a : HT.sIx (x :: xs).length (x :: xs).length (some 1) = min 1 (x :: xs).length := HT.sIx_nat _ _ 1
  have b : HT.sIx (x :: xs).length 0 none = 0 := HT.sIx_none _ _
  unfold cutD
  rw [a, b, show min 1 (x :: xs).length = 1 by show min 1 (xs.length + 1) = 1; omega]; rfl
theorem zipD_maps {α : Type} (k : α → D) : ∀ (l r : List α), zipD (l.map k) (r.map k) = (l.zip r).map fun p => .tup [k p.1, k p.2]
  | [], _ => by cases ‹List α› <;> rfl
  | _ :: _, [] => rfl
  | x :: l, y :: r => by show _ :: zipD (l.map k) (r.map k) = _; rw [zipD_maps k l r]; rfl
/-- rising numbers below n -/
structure Rise (n : Nat) (S : List Nat) : Prop where
  lt : ∀ x ∈ S, x < n
  up : S.Pairwise (· < ·)
theorem up_zip : ∀ {S : List Nat}, S.Pairwise (· < ·) → ∀ p ∈ S.zip (S.drop 1), p.1 < p.2
  | [], _, p, hp => by cases hp
  | [x], _, p, hp => by cases hp
  | x :: y :: r, h, p, hp => by
    have hp : p ∈ (x, y) :: (y :: r).zip ((y :: r).drop 1) := hp
    rcases List.mem_cons.mp hp with q | q
    · rw [q]; exact (List.pairwise_cons.mp h).1 y (by simp)
    · exact up_zip (List.pairwise_cons.mp h).2 p q
theorem Rise.len {n : Nat} {S : List Nat} (h : Rise n S) : S.length ≤ n := Cyc.nodup_len (h.up.imp fun q => Nat.ne_of_lt q) h.lt
/-- those below n of which p holds -/
def sel (n : Nat) (p : Nat → Bool) : List Nat := (List.range n).filter p
theorem sel_rise (n : Nat) (p : Nat → Bool) : Rise n (sel n p) := ⟨fun x hx => List.mem_range.mp (List.mem_filter.mp hx).1, List.Pairwise.filter _ List.pairwise_lt_range⟩
theorem mem_sel {n : Nat} {p : Nat → Bool} {x : Nat} : x ∈ sel n p ↔ x < n ∧ p x = true := by unfold sel; rw [List.mem_filter, List.mem_range]
/-- rising lists with the same members are the same -/
theorem rise_ext : ∀ {S R : List Nat}, S.Pairwise (· < ·) → R.Pairwise (· < ·) → (∀ x, x ∈ S ↔ x ∈ R) → S = R
  | [], [], _, _, _ => rfl
  | [], y :: r, _, _, h => absurd ((h y).mpr (by simp)) (by simp)
  | x :: s, [], _, _, h => absurd ((h x).mp (by simp)) (by simp)
  | x :: s, y :: r, hs, hr, h => by
    obtain ⟨h1, h2⟩ := List.pairwise_cons.mp hs
    obtain ⟨k1, k2⟩ := List.pairwise_cons.mp hr
    have e : x = y := by
      rcases List.mem_cons.mp ((h x).mp (by simp)) with q | q
      · exact q
      · have a := k1 x q
        rcases List.mem_cons.mp ((h y).mpr (by simp)) with w | w
        · exact w.symm
        · have b := h1 y w; omega
    subst e
    rw [rise_ext h2 k2 fun z => ⟨fun hz => ?_, fun hz => ?_⟩]
    · rcases List.mem_cons.mp ((h z).mp (by simp [hz])) with q | q
      · have := h1 z hz; omega
      · exact q
    · rcases List.mem_cons.mp ((h z).mpr (by simp [hz])) with q | q
      · have := k1 z hz; omega
      · exact q
/-- what 0 becomes by those of P, one after the other -/
inductive Cl (T : Nat → Nat → Nat) (P : Nat → Prop) : Nat → Prop
  | zero : Cl T P 0
  | step {x y : Nat} (h : Cl T P x) (hy : P y) : Cl T P (T x y)
open Classical in
noncomputable def clo (n : Nat) (T : Nat → Nat → Nat) (P : Nat → Prop) : List Nat := sel n fun x => decide (Cl T P x)
section
variable {n : Nat} {T : Nat → Nat → Nat} {P : Nat → Prop}
theorem Cl.lt (g : Grp n T) (hP : ∀ y, P y → y < n) {x : Nat} (h : Cl T P x) : x < n := by
  induction h with
  | zero => exact g.pos
  | step h hy ih => exact g.lt _ _ ih (hP _ hy)
theorem Cl.mul (g : Grp n T) (hP : ∀ y, P y → y < n) {x y : Nat} (h : Cl T P x) (k : Cl T P y) : Cl T P (T x y) := by
  induction k with
  | zero => rw [g.zr _ (h.lt g hP)]; exact h
  | step k hy ih => rw [← g.as _ _ _ (h.lt g hP) (k.lt g hP) (hP _ hy)]; exact ih.step hy
theorem Cl.mono {Q : Nat → Prop} (h : ∀ y, P y → Q y) {x : Nat} (k : Cl T P x) : Cl T Q x := by
  induction k with
  | zero => exact .zero
  | step k hy ih => exact ih.step (h _ hy)
theorem mem_clo {x : Nat} : x ∈ clo n T P ↔ x < n ∧ Cl T P x := by
  unfold clo; rw [mem_sel]; exact and_congr_right' (@decide_eq_true_iff _ (Classical.propDecidable _))
theorem clo_rise : Rise n (clo n T P) := sel_rise _ _
theorem clo_cong {Q : Nat → Prop} (h : ∀ y, P y ↔ Q y) : clo n T P = clo n T Q := by rw [show P = Q from funext fun y => propext (h y)]
end
/-- a part that is closed -/
structure Sub (n : Nat) (T : Nat → Nat → Nat) (S : List Nat) : Prop where
  r : Rise n S
  z : 0 ∈ S
  m : ∀ x ∈ S, ∀ y ∈ S, T x y ∈ S
theorem clo_sub {n : Nat} {T : Nat → Nat → Nat} {P : Nat → Prop} (g : Grp n T) (hP : ∀ y, P y → y < n) : Sub n T (clo n T P) :=
  ⟨clo_rise, mem_clo.mpr ⟨g.pos, .zero⟩, fun x hx y hy => by
    have a := (mem_clo.mp hx).2
    have b := (mem_clo.mp hy).2
    exact mem_clo.mpr ⟨g.lt _ _ (a.lt g hP) (b.lt g hP), a.mul g hP b⟩⟩
theorem sub_all {n : Nat} {T : Nat → Nat → Nat} (g : Grp n T) : Sub n T (List.range n) :=
  ⟨⟨fun x hx => List.mem_range.mp hx, List.pairwise_lt_range⟩, List.mem_range.mpr g.pos, fun x hx y hy => List.mem_range.mpr (g.lt _ _ (List.mem_range.mp hx) (List.mem_range.mp hy))⟩
theorem sub_one {n : Nat} {T : Nat → Nat → Nat} (g : Grp n T) : Sub n T [0] :=
  ⟨⟨fun x hx => by rw [List.mem_singleton.mp hx]; exact g.pos, List.pairwise_singleton _ _⟩, by simp, fun x hx y hy => by rw [List.mem_singleton.mp hx, List.mem_singleton.mp hy, g.zl 0 g.pos]; simp⟩
/-! ### backs and commutators -/
def bkF (n : Nat) (T : Nat → Nat → Nat) (i : Nat) : Nat := ((List.range n).map (T i)).idxOf 0
theorem bkF_ok {n : Nat} {T : Nat → Nat → Nat} (g : Grp n T) {i : Nat} (hi : i < n) : bkF n T i < n ∧ 0 ∈ (List.range n).map (T i) := by
  obtain ⟨j, h1, h2⟩ := g.bk i hi
  have hm : 0 ∈ (List.range n).map (T i) := List.mem_map.mpr ⟨j, List.mem_range.mpr h1, h2⟩
  refine ⟨?_, hm⟩
  have := List.idxOf_lt_length_of_mem hm
  rw [List.length_map, List.length_range] at this
  exact this
theorem tIndex_row {n : Nat} {T : Nat → Nat → Nat} (g : Grp n T) {m : Mem} {i : Nat} (hi : i < n) : gTIndex (mvS n (T i)) [.int 0] m = some (.int (bkF n T i : Nat), m) := by
  show (asIs (tab n _)).bind _ = _
  rw [tab_nL, asIs_nL]
  show (if (0 : Int) ∈ ((List.range n).map (T i)).map Int.ofNat then _ else _) = _
  have hm : (0 : Int) ∈ ((List.range n).map (T i)).map Int.ofNat := List.mem_map.mpr ⟨0, (bkF_ok g hi).2, rfl⟩
  rw [if_pos hm, idxOf_ofNat]; rfl
theorem lIndex_row {n : Nat} {T : Nat → Nat → Nat} (g : Grp n T) {m : Mem} {i l : Nat} (hi : i < n) (h : m[l]? = some (.lst (tab n fun y => .int (T i y : Nat)))) : gIndex (.loc l) [.int 0] m = some (.int (bkF n T i : Nat), m) := by
  unfold gIndex
  simp only [h]
  rw [tab_nL, asIs_nL, Option.bind_some, posI_ofNat (bkF_ok g hi).2]; rfl
def tableD (n : Nat) (T : Nat → Nat → Nat) : D := .ins "Table" ["lines"] [linesD n T]
def comF (n : Nat) (T : Nat → Nat → Nat) (x y : Nat) : Nat := T (T (bkF n T x) (bkF n T y)) (T x y)
theorem comF_lt {n : Nat} {T : Nat → Nat → Nat} (g : Grp n T) {x y : Nat} (hx : x < n) (hy : y < n) : comF n T x y < n :=
  g.lt _ _ (g.lt _ _ (bkF_ok g hx).1 (bkF_ok g hy).1) (g.lt _ _ hx hy)
def coms (n : Nat) (T : Nat → Nat → Nat) (A B : List Nat) : List Nat := A.flatMap fun x => B.map fun y => comF n T x y
theorem coms_lt {n : Nat} {T : Nat → Nat → Nat} (g : Grp n T) {A B : List Nat} (hA : ∀ x ∈ A, x < n) (hB : ∀ x ∈ B, x < n) : ∀ z ∈ coms n T A B, z < n := fun z hz => by
  obtain ⟨x, hx, hz⟩ := List.mem_flatMap.mp hz
  obtain ⟨y, hy, rfl⟩ := List.mem_map.mp hz
  exact comF_lt g (hA x hx) (hB y hy)
theorem coms_mono {n : Nat} {T : Nat → Nat → Nat} {A B A' B' : List Nat} (hA : ∀ x ∈ A, x ∈ A') (hB : ∀ x ∈ B, x ∈ B') : ∀ z ∈ coms n T A B, z ∈ coms n T A' B' := fun z hz => by
  obtain ⟨x, hx, hz⟩ := List.mem_flatMap.mp hz
  obtain ⟨y, hy, rfl⟩ := List.mem_map.mp hz
  exact List.mem_flatMap.mpr ⟨x, hA x hx, List.mem_map.mpr ⟨y, hB y hy, rfl⟩⟩
/-- the next of a series -/
noncomputable def nxt (n : Nat) (T : Nat → Nat → Nat) (low : Bool) (S : List Nat) : List Nat := clo n T (· ∈ coms n T S (if low then List.range n else S))
theorem nxt_mono {n : Nat} {T : Nat → Nat → Nat} {low : Bool} {S R : List Nat} (h : ∀ x ∈ S, x ∈ R) : ∀ x ∈ nxt n T low S, x ∈ nxt n T low R := fun x hx => by
  obtain ⟨a, b⟩ := mem_clo.mp hx
  refine mem_clo.mpr ⟨a, b.mono (coms_mono h ?_)⟩
  cases low
  · exact h
  · exact fun _ q => q
noncomputable def ser (n : Nat) (T : Nat → Nat → Nat) (low : Bool) : Nat → List Nat
  | 0 => List.range n
  | k + 1 => nxt n T low (ser n T low k)
theorem ser_rise (n : Nat) (T : Nat → Nat → Nat) (low : Bool) : ∀ k, Rise n (ser n T low k)
  | 0 => ⟨fun x hx => List.mem_range.mp hx, List.pairwise_lt_range⟩
  | _ + 1 => clo_rise
theorem ser_down (n : Nat) (T : Nat → Nat → Nat) (low : Bool) : ∀ k, ∀ x ∈ ser n T low (k + 1), x ∈ ser n T low k
  | 0 => fun x hx => List.mem_range.mpr (clo_rise.lt x hx)
  | k + 1 => nxt_mono (ser_down n T low k)
theorem sub_len {S R : List Nat} (hS : S.Pairwise (· < ·)) (hR : R.Pairwise (· < ·)) (h : ∀ x ∈ S, x ∈ R) : S.length ≤ R.length ∧ (S.length = R.length → S = R) := by
  have a : S.Sublist R := by
    induction R generalizing S with
    | nil => cases S with
      | nil => exact List.Sublist.refl _
      | cons x s => exact absurd (h x (by simp)) (by simp)
    | cons y r ih =>
      cases S with
      | nil => exact List.nil_sublist _
      | cons x s =>
        obtain ⟨h1, h2⟩ := List.pairwise_cons.mp hS
        obtain ⟨k1, k2⟩ := List.pairwise_cons.mp hR
        by_cases e : x = y
        · subst e
          refine (ih h2 k2 fun z hz => ?_).cons₂ _
          rcases List.mem_cons.mp (h z (by simp [hz])) with q | q
          · have := h1 z hz; omega
          · exact q
        · refine (ih hS k2 fun z hz => ?_).cons _
          rcases List.mem_cons.mp (h z hz) with q | q
          · rcases List.mem_cons.mp (h x (by simp)) with w | w
            · exact absurd w e
            · have b := k1 x w
              rcases List.mem_cons.mp hz with u | u
              · omega
              · have := h1 z u; omega
          · exact q
  exact ⟨a.length_le, fun q => a.eq_of_length q⟩
/-- the series falls until it stays -/
theorem ser_fall (n : Nat) (T : Nat → Nat → Nat) (low : Bool) : ∀ k, (∀ j, j < k → ser n T low (j + 1) ≠ ser n T low j) → (ser n T low k).length + k ≤ n
  | 0, _ => by show (List.range n).length + 0 ≤ n; rw [List.length_range]; omega
  | k + 1, h => by
    have a := ser_fall n T low k fun j hj => h j (by omega)
    have b := sub_len (ser_rise n T low (k + 1)).up (ser_rise n T low k).up (ser_down n T low k)
    have c := h k (by omega)
    have d : (ser n T low (k + 1)).length ≠ (ser n T low k).length := fun q => c (b.2 q)
    have := b.1
    omega
/-- where it stays first -/
theorem ser_stop (n : Nat) (T : Nat → Nat → Nat) (low : Bool) : ∃ k, k ≤ n ∧ ser n T low (k + 1) = ser n T low k ∧ ∀ j, j < k → ser n T low (j + 1) ≠ ser n T low j := by
  by_cases h : ∃ k, ser n T low (k + 1) = ser n T low k
  · obtain ⟨k, h1, h2⟩ := Cyc.least h
    refine ⟨k, ?_, h1, h2⟩
    have := ser_fall n T low k h2
    omega
  · have := ser_fall n T low (n + 1) fun j _ q => h ⟨j, q⟩
    omega
end Mv

set_option Elab.async false
set_option linter.all false
set_option maxRecDepth 100000
/-! # What a0 becomes by steps: the loop that finds all -/
namespace Mv
open PySem PySem.Spec PyProof.Rows L2
section
variable {α β : Type} {a0 : α} {st : α → β → α} {xs : List β}
inductive Rc (a0 : α) (st : α → β → α) (xs : List β) : α → Prop
  | zero : Rc a0 st xs a0
  | step {z : α} {x : β} (h : Rc a0 st xs z) (hx : x ∈ xs) : Rc a0 st xs (st z x)
/-- dn are gone through, fs wait -/
structure Spd (a0 : α) (st : α → β → α) (xs : List β) (dn fs : List α) : Prop where
  nd : (dn ++ fs).Nodup
  cl : ∀ z ∈ dn ++ fs, Rc a0 st xs z
  sz : a0 ∈ dn ++ fs
  cd : ∀ z ∈ dn, ∀ x ∈ xs, st z x ∈ dn ++ fs
/-- i is just gone through, as far as a -/
structure SpI (a0 : α) (st : α → β → α) (xs : List β) (dn fs : List α) (i : α) (a : List β) : Prop where
  nd : (dn ++ fs).Nodup
  cl : ∀ z ∈ dn ++ fs, Rc a0 st xs z
  sz : a0 ∈ dn ++ fs
  hi : i ∈ dn
  cd : ∀ z ∈ dn, z ≠ i → ∀ x ∈ xs, st z x ∈ dn ++ fs
  ci : ∀ x ∈ a, st i x ∈ dn ++ fs
theorem Spd.start : Spd a0 st xs [] [a0] := ⟨by simp, fun z hz => by rw [List.mem_singleton.mp hz]; exact .zero, by simp, fun z hz => by cases hz⟩
theorem Spd.pop {dn fs : List α} {i : α} (h : Spd a0 st xs dn (fs ++ [i])) : SpI a0 st xs (dn ++ [i]) fs i [] := by
  have hp : ((dn ++ [i]) ++ fs).Perm (dn ++ (fs ++ [i])) := by
    rw [List.append_assoc]
    exact List.Perm.append_left dn (List.perm_append_comm)
  refine ⟨hp.nodup_iff.mpr h.nd, fun z hz => h.cl z (hp.mem_iff.mp hz), hp.mem_iff.mpr h.sz, by simp, fun z hz hne x hx => hp.mem_iff.mpr (h.cd z ?_ x hx), fun x hx => by cases hx⟩
  rcases List.mem_append.mp hz with q | q
  · exact q
  · exact absurd (List.mem_singleton.mp q) hne
theorem SpI.keep {dn fs : List α} {i : α} {a : List β} {x : β} (h : SpI a0 st xs dn fs i a) (hx : st i x ∈ dn ++ fs) : SpI a0 st xs dn fs i (a ++ [x]) :=
  ⟨h.nd, h.cl, h.sz, h.hi, h.cd, fun y hy => by
    rcases List.mem_append.mp hy with q | q
    · exact h.ci y q
    · rw [List.mem_singleton.mp q]; exact hx⟩
theorem SpI.add {dn fs : List α} {i : α} {a : List β} {x : β} (h : SpI a0 st xs dn fs i a) (hxs : x ∈ xs) (hx : st i x ∉ dn ++ fs) : SpI a0 st xs dn (fs ++ [st i x]) i (a ++ [x]) := by
  have up : ∀ z, z ∈ dn ++ fs → z ∈ dn ++ (fs ++ [st i x]) := fun z hz => by rw [← List.append_assoc]; exact List.mem_append_left _ hz
  refine ⟨?_, fun z hz => ?_, up _ h.sz, h.hi, fun z hz hne y hy => up _ (h.cd z hz hne y hy), fun y hy => ?_⟩
  · rw [← List.append_assoc, List.nodup_append]
    exact ⟨h.nd, by simp, fun u hu v hv e => hx (by rw [List.mem_singleton.mp hv] at e; rw [← e]; exact hu)⟩
  · rw [← List.append_assoc] at hz
    rcases List.mem_append.mp hz with q | q
    · exact h.cl z q
    · rw [List.mem_singleton.mp q]; exact (h.cl i (List.mem_append_left _ h.hi)).step hxs
  · rcases List.mem_append.mp hy with q | q
    · exact up _ (h.ci y q)
    · rw [List.mem_singleton.mp q]; simp
theorem SpI.fin {dn fs : List α} {i : α} (h : SpI a0 st xs dn fs i xs) : Spd a0 st xs dn fs :=
  ⟨h.nd, h.cl, h.sz, fun z hz x hx => by
    by_cases e : z = i
    · rw [e]; exact h.ci x hx
    · exact h.cd z hz e x hx⟩
theorem Spd.all {dn : List α} (h : Spd a0 st xs dn []) : ∀ z, z ∈ dn ↔ Rc a0 st xs z := fun z => by
  have e : dn ++ [] = dn := List.append_nil _
  constructor
  · intro hz; exact h.cl z (by rw [e]; exact hz)
  · intro hz
    induction hz with
    | zero => have := h.sz; rw [e] at this; exact this
    | step hz hx ih => have := h.cd _ ih _ hx; rw [e] at this; exact this
end
theorem Rc_Cl {T : Nat → Nat → Nat} {xs : List Nat} {x : Nat} : Rc 0 T xs x ↔ Cl T (· ∈ xs) x := by
  constructor
  · intro h
    induction h with
    | zero => exact .zero
    | step h hx ih => exact ih.step hx
  · intro h
    induction h with
    | zero => exact .zero
    | step h hx ih => exact ih.step hx
theorem snoc_of {α : Type} : ∀ {l : List α}, l ≠ [] → ∃ r x, l = r ++ [x] := fun {l} h => ⟨l.dropLast, l.getLast h, (List.dropLast_concat_getLast h).symm⟩
theorem int_len {k : Nat} {l : List Int} (h : l.Nodup) (hb : ∀ x ∈ l, 0 ≤ x ∧ x < k) : l.length ≤ k := by
  have a : (l.map Int.toNat).Nodup := by
    rw [List.Nodup, List.pairwise_map]
    refine List.Pairwise.imp_of_mem ?_ h
    intro x y hx hy hne e
    have := hb x hx
    have := hb y hy
    exact hne (by omega)
  have b := Cyc.nodup_len (n := k) a fun x hx => by
    obtain ⟨y, hy, rfl⟩ := List.mem_map.mp hx
    have := hb y hy
    omega
  rw [List.length_map] at b
  exact b
theorem y_sc2 {fi : FI} {ft ft1 : FG} {f1 fe : FE} {vs vs1 : List Nat} {e : Sl} {m : Mem} {α β : Type} {A : List α} {B : List β} {k1 : α → D} {k2 : β → D} {c : α → β → Int} (hi : fi e m = some (⟨A.map k1, none⟩, m))
    (h : ∀ x ∈ A, ∃ e1, ft (k1 x) (wipeE e vs) m = some (e1, m) ∧ f1 e1 m = some (.tup (B.map k2), m) ∧ ∀ y ∈ B, ∃ e2, ft1 (k2 y) (wipeE e1 vs1) m = some (e2, m) ∧ fe e2 m = some (.int (c x y), m))
    (hb : ∀ x ∈ A, ∀ y ∈ B, 0 ≤ c x y ∧ c x y < 63) : fSrtSc2 fi ft f1 ft1 fe vs vs1 e m = some ((srtI (dist (A.flatMap fun x => B.map (c x)))).map D.int, m) := by
  have inn : ∀ (x : α) (e1 : Sl) (B : List β), (∀ y ∈ B, ∃ e2, ft1 (k2 y) (wipeE e1 vs1) m = some (e2, m) ∧ fe e2 m = some (.int (c x y), m)) → sc2In ft1 fe (wipeE e1 vs1) m (B.map k2) = some (B.map (c x)) := fun x e1 B => by
    induction B with
    | nil => intro _; rfl
    | cons y r ih =>
      intro h
      obtain ⟨e2, h1, h2⟩ := h y (by simp)
      show sc2In ft1 fe (wipeE e1 vs1) m (k2 y :: r.map k2) = _
      unfold sc2In
      rw [sameM_of h1, Option.bind_some, sameM_of h2, Option.bind_some]
      show Option.bind (some (c x y)) _ = _
      rw [Option.bind_some, ih fun z hz => h z (by simp [hz])]; rfl
  have out : ∀ A : List α, (∀ x ∈ A, ∃ e1, ft (k1 x) (wipeE e vs) m = some (e1, m) ∧ f1 e1 m = some (.tup (B.map k2), m) ∧ ∀ y ∈ B, ∃ e2, ft1 (k2 y) (wipeE e1 vs1) m = some (e2, m) ∧ fe e2 m = some (.int (c x y), m)) → sc2Out ft f1 ft1 fe vs1 (wipeE e vs) m (A.map k1) = some (A.flatMap fun x => B.map (c x)) := fun A => by
    induction A with
    | nil => intro _; rfl
    | cons x r ih =>
      intro h
      obtain ⟨e1, h1, h2, h3⟩ := h x (by simp)
      show sc2Out ft f1 ft1 fe vs1 (wipeE e vs) m (k1 x :: r.map k1) = _
      unfold sc2Out
      rw [sameM_of h1, Option.bind_some, sameM_of h2, Option.bind_some]
      show Option.bind (some (B.map k2)) _ = _
      rw [Option.bind_some, inn x e1 B h3, Option.bind_some, ih fun z hz => h z (by simp [hz])]
      rw [List.flatMap_cons]; rfl
  have hlen : (dist (A.flatMap fun x => B.map (c x)).reverse).length < 64 := by
    have := int_len (k := 63) (nodup_dist (A.flatMap fun x => B.map (c x)).reverse) fun z hz => by
      have hz := List.mem_reverse.mp (mem_dist.mp hz)
      obtain ⟨x, hx, hz⟩ := List.mem_flatMap.mp hz
      obtain ⟨y, hy, rfl⟩ := List.mem_map.mp hz
      exact hb x hx y hy
    omega
  have key : sc2F fi ft f1 ft1 fe vs vs1 e m = some (A.flatMap fun x => B.map (c x)) := by
    unfold sc2F
    rw [sameM_of hi, Option.bind_some]
    show (if (none : Option Nat) = none then _ else none) = _
    rw [if_pos rfl, out A h, Option.bind_some, if_pos hlen]
  unfold fSrtSc2
  rw [key]; rfl
theorem nL_app (a b : List Nat) : nL (a ++ b) = nL a ++ nL b := List.map_append
theorem coms_len {n : Nat} {T : Nat → Nat → Nat} {A B : List Nat} : (coms n T A B).length = A.length * B.length := by
  unfold coms
  rw [List.length_flatMap]
  induction A with
  | nil => simp
  | cons u r ih => rw [List.map_cons, List.sum_cons, ih, List.length_map, List.length_cons, Nat.succ_mul]; omega
theorem perm_of {α : Type} [DecidableEq α] {a b : List α} (ha : a.Nodup) (hb : b.Nodup) (h : ∀ x, x ∈ a ↔ x ∈ b) : a.Perm b := by
  rw [List.perm_iff_count]
  intro x
  rw [ha.count, hb.count]
  by_cases q : x ∈ a
  · rw [if_pos q, if_pos ((h x).mp q)]
  · rw [if_neg q, if_neg fun z => q ((h x).mpr z)]
/-- sorted: the rising list of the same members -/
theorem srt_eq {S : List Nat} {l : List Int} (hS : S.Pairwise (· < ·)) (hl : l.Nodup) (h : ∀ x : Int, x ∈ l ↔ ∃ y ∈ S, x = (y : Nat)) : srtI l = S.map Int.ofNat := by
  refine (srtI_only (perm_of ?_ hl fun x => ?_) ?_).symm
  · rw [List.Nodup, List.pairwise_map]
    exact hS.imp fun {a b} q e => by have : (a : Int) = b := e; omega
  · rw [h, List.mem_map]
    exact ⟨fun ⟨y, a, b⟩ => ⟨y, a, b.symm⟩, fun ⟨y, a, b⟩ => ⟨y, a, b.symm⟩⟩
  · rw [List.pairwise_map]
    exact hS.imp fun {a b} q => by show (a : Int) ≤ b; omega
theorem lookK_true {κ : Type} [DecidableEq κ] (k : κ) : ∀ ks : List κ, (lookK k ks (ks.map fun _ => D.bl true)).isSome = decide (k ∈ ks)
  | [] => rfl
  | k' :: ks => by
    show (if k' = k then some (D.bl true) else lookK k ks (ks.map fun _ => D.bl true)).isSome = _
    by_cases e : k' = k
    · rw [if_pos e, decide_eq_true (by rw [e]; simp)]; rfl
    · rw [if_neg e, lookK_true k ks]
      refine decide_eq_decide.mpr ⟨fun h => List.mem_cons_of_mem _ h, fun h => ?_⟩
      rcases List.mem_cons.mp h with q | q
      · exact absurd q.symm e
      · exact q
end Mv

set_option Elab.async false
set_option linter.all false
set_option maxRecDepth 100000
/-! # All moves that some moves make, and the table of them -/
namespace Mv
open PySem PySem.Spec PyProof.Rows L2 Cyc
def wd (n : Nat) (f : Nat → Nat) : List Int := (List.range n).map fun y => ((f y : Nat) : Int)
def stp (w : List Int) (g : Nat → Nat) : List Int := w.map fun x => ((g x.toNat : Nat) : Int)
theorem stp_wd (n : Nat) (f g : Nat → Nat) : stp (wd n f) g = wd n fun y => g (f y) := by
  unfold stp wd
  rw [List.map_map]
  exact List.map_congr_left fun y _ => by show ((g (((f y : Nat) : Int)).toNat : Nat) : Int) = _; rw [Int.toNat_natCast]
theorem wd_len (n : Nat) (f : Nat → Nat) : (wd n f).length = n := by unfold wd; rw [List.length_map, List.length_range]
theorem wd_inj {n : Nat} {f g : Nat → Nat} : wd n f = wd n g ↔ ∀ y, y < n → f y = g y := by
  unfold wd
  constructor
  · intro h y hy
    have := congrArg (fun l => l[y]?) h
    simp only [List.getElem?_map, List.getElem?_range hy, Option.map_some, Option.some.injEq] at this
    omega
  · intro h
    exact List.map_congr_left fun y hy => by rw [h y (List.mem_range.mp hy)]
theorem wd_bd {n : Nat} {f : Nat → Nat} (hn : n ≤ 64) (h : Perm n f) : TS.Bd 64 (wd n f) := fun z hz => by
  obtain ⟨y, hy, rfl⟩ := List.mem_map.mp hz
  have := h.lt y (List.mem_range.mp hy)
  omega
theorem wd_nd {n : Nat} {f : Nat → Nat} (h : Perm n f) : (wd n f).Nodup := by
  unfold wd
  rw [List.Nodup, List.pairwise_map]
  refine List.Pairwise.imp_of_mem ?_ (List.nodup_range (n := n))
  intro a b ha hb hab z
  exact hab (h.inj a b (List.mem_range.mp ha) (List.mem_range.mp hb) (by omega))
theorem code_least : ∀ (k a : Nat) (w : List Int), w.Nodup → w.length = k → (∀ x ∈ w, (a : Int) ≤ x ∧ x < 64) → a + k ≤ 64 → TS.code 64 ((List.range' a k).map Int.ofNat) ≤ TS.code 64 w
  | 0, a, w, _, hl, _, _ => by
    have : w = [] := List.eq_nil_of_length_eq_zero hl
    subst this; exact Int.le_refl _
  | k + 1, a, [], _, hl, _, _ => by cases hl
  | k + 1, a, x :: r, hd, hl, hb, ha => by
    obtain ⟨d1, d2⟩ := List.nodup_cons.mp hd
    have hl' : r.length = k := Nat.succ.inj hl
    have hx := hb x (by simp)
    have lr : ((List.range' (a + 1) k).map Int.ofNat).length = k := by rw [List.length_map, List.length_range']
    have bd1 : TS.Bd 64 ((List.range' (a + 1) k).map Int.ofNat) := fun z hz => by
      obtain ⟨y, hy, rfl⟩ := List.mem_map.mp hz
      have := List.mem_range'_1.mp hy
      show 0 ≤ ((y : Nat) : Int) ∧ ((y : Nat) : Int) < 64
      omega
    have bd2 : TS.Bd 64 r := fun z hz => by have := hb z (by simp [hz]); omega
    obtain ⟨p0, p1⟩ := code_bd bd1
    obtain ⟨q0, q1⟩ := code_bd bd2
    rw [lr] at p1
    rw [hl'] at q1
    show (a : Int) * 64 ^ ((List.range' (a + 1) k).map Int.ofNat).length + TS.code 64 ((List.range' (a + 1) k).map Int.ofNat) ≤ x * 64 ^ r.length + TS.code 64 r
    rw [lr, hl']
    by_cases e : x = a
    · subst e
      have := code_least k (a + 1) r d2 hl' (fun z hz => by
        have h1 := hb z (by simp [hz])
        have h2 : z ≠ a := fun q => d1 (by rw [← q]; exact hz)
        omega) (by omega)
      omega
    · have := TS.num2 (P := (64 : Int) ^ k) p0 p1 q0 (show (a : Int) < x by omega)
      omega
theorem id_least {n : Nat} {f : Nat → Nat} (hn : n ≤ 64) (h : Perm n f) : TS.code 64 (wd n id) ≤ TS.code 64 (wd n f) := by
  have e : wd n id = (List.range' 0 n).map Int.ofNat := by unfold wd; rw [List.range_eq_range']; rfl
  rw [e]
  refine code_least n 0 _ (wd_nd h) (wd_len n f) (fun x hx => ?_) (by omega)
  have := wd_bd hn h x hx
  omega
/-- the members: sorted, and just those that the moves gs make -/
structure Mbs (n : Nat) (gs : List (Nat → Nat)) (ms : List (List Int)) : Prop where
  lo : 1 ≤ n
  hi : n ≤ 60
  ps : ∀ g ∈ gs, Perm n g
  nd : ms.Nodup
  me : ∀ w, w ∈ ms ↔ Rc (wd n id) stp gs w
  up : ms.Pairwise fun a b => TS.code 64 a ≤ TS.code 64 b
  le : ms.length ≤ 48
theorem Rc.perm {n : Nat} {gs : List (Nat → Nat)} (h : ∀ g ∈ gs, Perm n g) {w : List Int} (hw : Rc (wd n id) stp gs w) : ∃ f, Perm n f ∧ w = wd n f := by
  induction hw with
  | zero => exact ⟨id, ⟨fun x hx => hx, fun x y _ _ q => q⟩, rfl⟩
  | step hw hg ih =>
    obtain ⟨f, hf, rfl⟩ := ih
    have q := h _ hg
    exact ⟨_, ⟨fun x hx => q.lt _ (hf.lt x hx), fun x y hx hy e => hf.inj x y hx hy (q.inj _ _ (hf.lt x hx) (hf.lt y hy) e)⟩, stp_wd n f _⟩
theorem Rc.prod {n : Nat} {gs : List (Nat → Nat)} {w u : List Int} (hw : Rc (wd n id) stp gs w) (hw2 : ∃ f, Perm n f ∧ w = wd n f) (hgs : ∀ g ∈ gs, Perm n g) (hu : Rc (wd n id) stp gs u) : ∀ h, u = wd n h → Rc (wd n id) stp gs (stp w h) := by
  obtain ⟨f, hf, rfl⟩ := hw2
  induction hu with
  | zero =>
    intro h e
    have : stp (wd n f) h = wd n f := by
      rw [stp_wd]
      exact wd_inj.mpr fun y hy => (wd_inj.mp e (f y) (hf.lt y hy)).symm
    rw [this]; exact hw
  | step hz hg ih =>
    intro h e
    obtain ⟨k, hk, rfl⟩ := hz.perm hgs
    rw [stp_wd] at e
    have := (ih k rfl).step hg
    rw [stp_wd, stp_wd] at this
    rw [stp_wd]
    have e2 : wd n (fun y => h (f y)) = wd n fun y => _ := wd_inj.mpr fun y hy => (wd_inj.mp e (f y) (hf.lt y hy)).symm
    rw [e2]; exact this
section
variable {n : Nat} {gs : List (Nat → Nat)} {ms : List (List Int)}
theorem Mbs.fn (h : Mbs n gs ms) : ∃ F : Nat → Nat → Nat, ∀ i, i < ms.length → Perm n (F i) ∧ ms[i]? = some (wd n (F i)) := by
  have : ∀ i, ∃ f : Nat → Nat, i < ms.length → Perm n f ∧ ms[i]? = some (wd n f) := fun i => by
    by_cases hi : i < ms.length
    · obtain ⟨f, hf, e⟩ := ((h.me _).mp (List.getElem_mem hi)).perm h.ps
      exact ⟨f, fun _ => ⟨hf, by rw [List.getElem?_eq_getElem hi, e]⟩⟩
    · exact ⟨id, fun z => absurd z hi⟩
  obtain ⟨F, hF⟩ := Classical.axiomOfChoice this
  exact ⟨F, hF⟩
def tbl (n : Nat) (ms : List (List Int)) (F : Nat → Nat → Nat) (i j : Nat) : Nat := ms.idxOf (wd n fun y => F j (F i y))
theorem Mbs.grp (h : Mbs n gs ms) {F : Nat → Nat → Nat} (hF : ∀ i, i < ms.length → Perm n (F i) ∧ ms[i]? = some (wd n (F i))) : Grp ms.length (tbl n ms F) ∧ ∀ i j, i < ms.length → j < ms.length → wd n (fun y => F j (F i y)) ∈ ms := by
  have mem : ∀ i, i < ms.length → wd n (F i) ∈ ms := fun i hi => List.mem_of_getElem? (hF i hi).2
  have cl : ∀ i j, i < ms.length → j < ms.length → wd n (fun y => F j (F i y)) ∈ ms := fun i j hi hj => by
    have := ((h.me _).mp (mem i hi)).prod ⟨_, (hF i hi).1, rfl⟩ h.ps ((h.me _).mp (mem j hj)) (F j) rfl
    rw [stp_wd] at this
    exact (h.me _).mpr this
  have lt : ∀ i j, i < ms.length → j < ms.length → tbl n ms F i j < ms.length := fun i j hi hj => List.idxOf_lt_length_of_mem (cl i j hi hj)
  have val : ∀ i j, i < ms.length → j < ms.length → ∀ y, y < n → F (tbl n ms F i j) y = F j (F i y) := fun i j hi hj => by
    have h1 := lt i j hi hj
    have h2 := (hF _ h1).2
    rw [List.getElem?_eq_getElem h1] at h2
    have h3 : ms[tbl n ms F i j] = wd n fun y => F j (F i y) := List.getElem_idxOf h1
    rw [h3] at h2
    exact fun y hy => (wd_inj.mp (Option.some.inj h2) y hy).symm
  have inj : ∀ i j, i < ms.length → j < ms.length → (∀ y, y < n → F i y = F j y) → i = j := fun i j hi hj e => by
    have h1 := (hF i hi).2
    have h2 := (hF j hj).2
    rw [wd_inj.mpr e, ← h2, List.getElem?_eq_getElem hi, List.getElem?_eq_getElem hj] at h1
    have a := List.Nodup.idxOf_getElem h.nd i hi
    have b := List.Nodup.idxOf_getElem h.nd j hj
    rw [Option.some.inj h1] at a
    exact a.symm.trans b
  have idm : wd n id ∈ ms := (h.me _).mpr .zero
  have pos : 0 < ms.length := List.length_pos_of_mem idm
  have zero : ∀ y, y < n → F 0 y = y := by
    obtain ⟨x, r, rfl⟩ : ∃ x r, ms = x :: r := by
      cases ms with
      | nil => cases idm
      | cons x r => exact ⟨x, r, rfl⟩
    have h0 := (hF 0 pos).2
    have e : x = wd n (F 0) := Option.some.inj h0
    have c1 : TS.code 64 x ≤ TS.code 64 (wd n id) := by
      rcases List.mem_cons.mp idm with q | q
      · rw [q]; exact Int.le_refl _
      · exact (List.pairwise_cons.mp h.up).1 _ q
    have hn := h.hi
    have c2 := id_least (by omega) (hF 0 pos).1
    rw [← e] at c2
    have := code_inj (B := 64) (a := x) (b := wd n id) (by rw [e, wd_len, wd_len]) (by rw [e]; exact wd_bd (by omega) (hF 0 pos).1) (wd_bd (by omega) ⟨fun x hx => hx, fun x y _ _ q => q⟩) (by omega)
    rw [e] at this
    exact fun y hy => wd_inj.mp this y hy
  refine ⟨⟨pos, h.le, lt, fun i hi => ?_, fun i hi => ?_, fun i hi => ?_, fun i j k hi hj hk => ?_⟩, cl⟩
  · refine inj _ _ (lt 0 i pos hi) hi fun y hy => ?_
    rw [val 0 i pos hi y hy, zero y hy]
  · refine inj _ _ (lt i 0 hi pos) hi fun y hy => ?_
    rw [val i 0 hi pos y hy, zero _ ((hF i hi).1.lt y hy)]
  · have p : Perm ms.length (tbl n ms F i) := ⟨fun j hj => lt i j hi hj, fun j k hj hk e => by
      refine inj j k hj hk fun y hy => ?_
      obtain ⟨x, hx, rfl⟩ := surj (hF i hi).1 hy
      have a := val i j hi hj x hx
      have b := val i k hi hk x hx
      rw [e] at a
      exact a.symm.trans b⟩
    exact surj p pos
  · refine inj _ _ (lt _ _ (lt i j hi hj) hk) (lt _ _ hi (lt j k hj hk)) fun y hy => ?_
    rw [val _ _ (lt i j hi hj) hk y hy, val _ _ hi (lt j k hj hk) y hy, val i j hi hj y hy, val j k hj hk _ ((hF i hi).1.lt y hy)]
end
/-! ### words as keys -/
def keyW (w : List Int) : List Key := w.map Sum.inl
theorem keyT_tt (w : List Int) : keyT (ttD w) = some (keyW w) := by
  show keyL (w.map D.int) = _
  unfold keyW
  induction w with
  | nil => rfl
  | cons x r ih => show (keyD (D.int x)).bind _ = _; show (keyL (r.map D.int)).map _ = _; rw [ih]; rfl
theorem keyW_inj {a b : List Int} : keyW a = keyW b ↔ a = b := by
  constructor
  · intro h
    have := congrArg (List.map fun k : Key => match k with | .inl i => i | .inr _ => 0) h
    unfold keyW at this
    rw [List.map_map, List.map_map] at this
    have e : ((fun k : Key => match k with | .inl i => i | .inr _ => 0) ∘ Sum.inl) = (id : Int → Int) := funext fun x => rfl
    rw [e, List.map_id, List.map_id] at this
    exact this
  · intro h; rw [h]
theorem mem_keyW {w : List Int} {KL : List (List Int)} : keyW w ∈ KL.map keyW ↔ w ∈ KL := by
  rw [List.mem_map]
  exact ⟨fun ⟨z, a, b⟩ => by rw [← keyW_inj.mp b]; exact a, fun h => ⟨w, h, rfl⟩⟩
theorem weak_tt (w : List Int) : (ttD w).weak = wD w := by
  show D.tup (D.weakAll (w.map D.int)) = D.tup _
  congr 1
  induction w with
  | nil => rfl
  | cons x r ih => show D.int x :: D.weakAll (r.map D.int) = _; rw [ih]; rfl
theorem keyL_w (w : List Int) : keyL (w.map D.int) = some (keyW w) := keyT_tt w
theorem in_dT {mm : Mem} {l : Nat} {w : List Int} {KL : List (List Int)} (h : mm[l]? = some (.dT (KL.map keyW) (KL.map fun _ => D.bl true))) : gIn true (wD w) (.loc l) mm = some (.bl (!decide (w ∈ KL)), mm) := by
  have e : inD mm (wD w) (.loc l) = some (decide (w ∈ KL)) := by
    unfold inD
    simp only [h]
    show (keyL (w.map D.int)).map _ = _
    rw [keyL_w]
    show some ((lookK (keyW w) (KL.map keyW) (KL.map fun _ => D.bl true)).isSome) = _
    have e2 : (KL.map fun _ => D.bl true) = (KL.map keyW).map fun _ => D.bl true := by rw [List.map_map]; rfl
    rw [e2, lookK_true]
    exact congrArg some (decide_eq_decide.mpr mem_keyW)
  unfold gIn
  rw [e]; rfl
theorem look_idx {w : List Int} : ∀ {ms : List (List Int)} (s : Nat), w ∈ ms → lookK (keyW w) (ms.map keyW) ((List.range' s ms.length).map fun i => D.int (i : Nat)) = some (.int ((s + ms.idxOf w : Nat)))
  | [], _, h => by cases h
  | x :: ms, s, h => by
    show (if keyW x = keyW w then some (D.int (s : Nat)) else lookK (keyW w) (ms.map keyW) ((List.range' (s + 1) ms.length).map fun i => D.int (i : Nat))) = _
    by_cases e : x = w
    · rw [if_pos (by rw [e]), e, List.idxOf_cons_self]; rfl
    · have hm : w ∈ ms := by
        rcases List.mem_cons.mp h with q | q
        · exact absurd q.symm e
        · exact q
      rw [if_neg fun z => e (keyW_inj.mp z), look_idx (s + 1) hm, List.idxOf_cons, show (x == w) = false from beq_eq_false_iff_ne.mpr e]
      show some (D.int ((s + 1 + ms.idxOf w : Nat) : Int)) = some (D.int ((s + (ms.idxOf w + 1) : Nat) : Int))
      rw [show s + 1 + ms.idxOf w = s + (ms.idxOf w + 1) by omega]
theorem merge_nd : ∀ (ps : List (List Key × D)) (ks : List (List Key)) (xs : List D), (ks ++ ps.map (·.1)).Nodup → ps.foldl (fun acc kv => putD kv.1 kv.2 acc.1 acc.2) (ks, xs) = (ks ++ ps.map (·.1), xs ++ ps.map (·.2))
  | [], ks, xs, _ => by simp
  | p :: ps, ks, xs, h => by
    have hn : p.1 ∉ ks := fun z => by
      obtain ⟨_, _, c⟩ := List.nodup_append.mp h
      exact c _ z _ (by simp) rfl
    rw [List.foldl_cons]
    show ps.foldl _ (putD p.1 p.2 ks xs) = _
    have : putD p.1 p.2 ks xs = (ks ++ [p.1], xs ++ [p.2]) := if_neg hn
    rw [this, merge_nd ps _ _ (by rw [List.append_assoc]; exact h), List.append_assoc, List.append_assoc]; rfl
theorem pairs_of (l : List (List Int × Nat)) : pairsT (l.map fun p => .tup [ttD p.1, .int (p.2 : Nat)]) = some (l.map fun p => (keyW p.1, D.int (p.2 : Nat))) := by
  induction l with
  | nil => rfl
  | cons p r ih =>
    show (pairT (.tup [ttD p.1, .int (p.2 : Nat)])).bind _ = _
    have : pairT (.tup [ttD p.1, .int (p.2 : Nat)]) = some (keyW p.1, .int (p.2 : Nat)) := by show (keyT (ttD p.1)).map _ = _; rw [keyT_tt]; rfl
    rw [this, Option.bind_some, ih]; rfl
theorem ok_words {n : Nat} {KL : List (List Int)} (hn : 1 ≤ n) (h : ∀ w ∈ KL, w.length = n ∧ TS.Bd 64 w) : okT KL = true := by
  cases KL with
  | nil => rfl
  | cons x r =>
    have hx := h x (by simp)
    refine Bool.and_eq_true_iff.mpr ⟨decide_eq_true (by omega), List.all_eq_true.mpr fun w hw => Bool.and_eq_true_iff.mpr ⟨decide_eq_true ((h w hw).1.trans hx.1.symm), List.all_eq_true.mpr fun z hz => decide_eq_true ((h w hw).2 z hz)⟩⟩
theorem py_tt : ∀ fs : List (List Int), D.pyAll (fs.map ttD) = D.pyAll (fs.map wD)
  | [] => rfl
  | x :: r => by show (ttD x).py :: D.pyAll (r.map ttD) = (wD x).py :: D.pyAll (r.map wD); rw [py_tt r]; rfl
theorem pl_ww : ∀ fs : List (List Int), D.plAll (fs.map wD) = true
  | [] => rfl
  | x :: r => by show ((wD x).pl && D.plAll (r.map wD)) = true; rw [pl_ww r, show (wD x).pl = true from plAll_ints x]; rfl
theorem dep_ww : ∀ fs : List (List Int), D.depAll (fs.map wD) ≤ 1
  | [] => Nat.zero_le _
  | x :: r => by
    show max (D.depAll (x.map D.int) + 1) (D.depAll (r.map wD)) ≤ 1
    rw [depAll_ints]
    have := dep_ww r
    omega
theorem pure_tt : ∀ fs : List (List Int), D.pureAll (fs.map ttD) = true
  | [] => rfl
  | x :: r => by
    show (D.pureAll (x.map D.int) && D.pureAll (r.map ttD)) = true
    rw [pure_tt r, D.plAll_pure _ (plAll_ints x)]; rfl
theorem words_ne {m : Mem} {a b : Nat} {fs : List (List Int)} (ha : m[a]? = some (.lst (fs.map ttD))) (hb : m[b]? = some (.lst [])) : gNeS (.loc a) (.loc b) m = some (.bl (!decide (fs = [])), m) := by
  have rs : ∀ {l : Nat} {u : List (List Int)}, m[l]? = some (.lst (u.map ttD)) → res m (.loc l) = some (.list (D.pyAll (u.map wD))) ∧ SeqAt.shaped (.list (D.pyAll (u.map wD))) = true := fun {l u} hl => by
    constructor
    · show (rd m l).bind _ = _
      rw [rd_of hl, Option.bind_some, D.pyFAll_pure _ _ (pure_tt u), py_tt]; rfl
    · obtain ⟨p, q⟩ := D.plAll_lay _ (pl_ww u)
      have := dep_ww u
      exact Bool.and_eq_true_iff.mpr ⟨by rw [PyData.canLay0]; exact p, decide_eq_true (by rw [PyData.depth, q]; omega)⟩
  have hb' : m[b]? = some (.lst (([] : List (List Int)).map ttD)) := hb
  have e : eqD (.list (D.pyAll (fs.map wD))) (.list (D.pyAll (([] : List (List Int)).map wD))) = some (decide (fs = [])) := by
    unfold eqD
    rw [if_pos ⟨(rs ha).2, (rs hb').2⟩, PyData.eqv]
    congr 1
    refine Bool.eq_iff_iff.mpr ((D.plAll_eqv _ _ (pl_ww fs) (pl_ww [])).trans (Iff.trans ⟨fun h => ?_, fun h => by rw [h]⟩ decide_eq_true_iff.symm))
    exact List.map_eq_nil_iff.mp h
  show gNe (.loc a) (.loc b) m = _
  unfold gNe
  rw [(rs ha).1, (rs hb').1, Option.bind_some, Option.bind_some, e]; rfl
end Mv

set_option Elab.async false
set_option linter.all false
set_option maxRecDepth 100000
set_option maxHeartbeats 4000000
/-! k24: each def's body by the rules; printed by gen.py. -/
namespace k24
open PySem PySem.Spec PyProof.Rows L2 Mv
def fuel : Nat := 100
/-- what the module's names stand for -/
structure Tz (K : Fg) (mg : Str → Option Value) : Prop where
  z_abs : mg "abs" = none
  z_all : mg "all" = none
  z_any : mg "any" = none
  z_bool : mg "bool" = none
  z_dict : mg "dict" = none
  z_divmod : mg "divmod" = none
  z_enumerate : mg "enumerate" = none
  z_int : mg "int" = none
  z_isinstance : mg "isinstance" = none
  z_len : mg "len" = none
  z_list : mg "list" = none
  z_max : mg "max" = none
  z_min : mg "min" = none
  z_range : mg "range" = none
  z_sorted : mg "sorted" = none
  z_tuple : mg "tuple" = none
  z_zip : mg "zip" = none
  c_MOST_ORDER : ∃ t, mg "MOST_ORDER" = some (.int 48 t)
  k_Table : ∃ C, mg "Table" = some (.ref C) ∧ ClsAt K "Table" C
def cenv : CEnv := ⟨[("Table", ["lines"])], [("NoneType", "Table", false), ("bool", "Table", false), ("int", "Table", false), ("str", "Table", false), ("tuple", "Table", false), ("list", "Table", false), ("dict", "Table", false)], [("Table", "Table", true)]⟩
def topS (i : Nat) : Stmt := PySem.Challenge.pw_movegroups_k24_series_of_parts.main.body.getD i (.Pass ⟨0, 0, 0, 0⟩)
/-! ### is_whole -/
abbrev s_is_whole : Stmt := topS 6
abbrev N_is_whole : List Str := ["thing"]
theorem nd_is_whole : (N_is_whole).Nodup := by decide +kernel
theorem sc_is_whole : FnScope N_is_whole ["thing"] (defScope s_is_whole) := ⟨rfl, rfl, rfl, nd_is_whole, rfl, by decide +kernel, by decide +kernel⟩
noncomputable def g_is_whole : FS := (fsRet (fAnd (fCall (gIsiC cenv) (fCons (fVar 0) (fCons (fC (.ty "int")) fNil))) (fNot (fCall (gIsiC cenv) (fCons (fVar 0) (fCons (fC (.ty "bool")) fNil))))))
theorem b_is_whole {P : Program} {w : World} {K : Fg} {mg : Str → Option Value} {base : Heap} (T : Tz K mg) (TC : CEnvOk K cenv) {f : Addr} (cdv : Value) (A : Around) (outer : List Env) (s : Shared) (H : Hp) (EX : XK) (hr : Room 0 (A.deeper (envOfC "is_whole" (defScope s_is_whole) s.heap.objs.size f cdv))) (hG : A.guards = some []) :
    ∃ ts, Ss (cxOf CX0 P w K mg base N_is_whole "is_whole" (defScope s_is_whole) f cdv A outer s H EX).nox (defBody s_is_whole) ts (g_is_whole) := by
  have hu := hr.units
  exact ⟨_, (ss_one (s_ret (e_and (e_cB call_isi (gIsiC_ok TC) T.z_isinstance rfl (a_cons (e_var 0) (a_cons (e_ty T.z_int rfl) a_nil))) (e_one (e_not (e_cB call_isi (gIsiC_ok TC) T.z_isinstance rfl (a_cons (e_var 0) (a_cons (e_ty T.z_bool rfl) a_nil))))))))⟩
/-! ### check_table -/
abbrev s_check_table : Stmt := topS 11
abbrev N_check_table : List Str := ["thing"]
theorem nd_check_table : (N_check_table).Nodup := by decide +kernel
theorem sc_check_table : FnScope N_check_table ["thing"] (defScope s_check_table) := ⟨rfl, rfl, rfl, nd_check_table, rfl, by decide +kernel, by decide +kernel⟩
noncomputable def g_check_table : FS := (fsIf (fNotT (fTru (fCall (gIsiC cenv) (fCons (fVar 0) (fCons (fC (.cls "Table")) fNil))))) fsNever fsNext)
theorem b_check_table {P : Program} {w : World} {K : Fg} {mg : Str → Option Value} {base : Heap} (T : Tz K mg) (TC : CEnvOk K cenv) {f : Addr} (cdv : Value) (A : Around) (outer : List Env) (s : Shared) (H : Hp) (EX : XK) (hr : Room 0 (A.deeper (envOfC "check_table" (defScope s_check_table) s.heap.objs.size f cdv))) (hG : A.guards = some []) :
    ∃ ts, Ss (cxOf CX0 P w K mg base N_check_table "check_table" (defScope s_check_table) f cdv A outer s H EX).nox (defBody s_check_table) ts (g_check_table) := by
  have hu := hr.units
  exact ⟨_, (ss_one (s_if (t_not (t_tru (e_cB call_isi (gIsiC_ok TC) T.z_isinstance rfl (a_cons (e_var 0) (a_cons (e_cls T.k_Table.choose_spec.1 T.k_Table.choose_spec.2) a_nil))))) (ss_one s_never) ss_nil))⟩
/-! ### _unlike_three -/
abbrev s_unlike_three : Stmt := topS 15
abbrev N_unlike_three : List Str := ["lines", "one", "line", "other", "right", "left", "number", "third"]
theorem nd_unlike_three : (N_unlike_three).Nodup := by decide +kernel
theorem sc_unlike_three : FnScope N_unlike_three ["lines"] (defScope s_unlike_three) := ⟨rfl, rfl, rfl, nd_unlike_three, rfl, by decide +kernel, by decide +kernel⟩
noncomputable def lc_unlike_three_1 : FA := fLc (fSeq (fW (fVar 4))) (fName 6) fYes (fOp gIx (fW (fVar 2)) (fVar 6)) [6]
noncomputable def lc_unlike_three_2 : FA := fLc (fRange1 (fCall gLen (fCons (fW (fVar 0)) fNil))) (fName 6) fYes (fOp gEqS (fOp gIx (fW (fVar 5)) (fVar 6)) (fOp gIx (fW (fVar 2)) (fOp gIx (fW (fVar 4)) (fVar 6)))) [6]
noncomputable def lb_unlike_three_1 : FS := (fsSeq (fsAsg (fOp gIx (fVar 0) (fOp gIx (fW (fVar 2)) (fVar 3))) (fName 5)) (fsIf (fTest (fOp gNeS (fW (fVar 5)) (fOn gTupN (lc_unlike_three_1)))) (fsSeq (fsAsg (fMeth gIndex (fPut (lc_unlike_three_2)) (fCons (fC (.bl false)) fNil)) (fName 7)) (fsRet (fTup (fCons (fC (.str "threes")) (fCons (fVar 1) (fCons (fVar 3) (fCons (fVar 7) fNil))))))) fsNext))
noncomputable def lp_unlike_three_1 : FS := fsFor (fEnum (fVar 0)) (fTupG 2 (fsCons (fName 3) (fsCons (fName 4) fsNil))) (lb_unlike_three_1)
noncomputable def lb_unlike_three_2 : FS := (lp_unlike_three_1)
noncomputable def lp_unlike_three_2 : FS := fsFor (fEnum (fVar 0)) (fTupG 2 (fsCons (fName 1) (fsCons (fName 2) fsNil))) (lb_unlike_three_2)
noncomputable def g_unlike_three : FS := (fsSeq (lp_unlike_three_2) (fsRet (fC .non)))
theorem b_unlike_three {P : Program} {w : World} {K : Fg} {mg : Str → Option Value} {base : Heap} (T : Tz K mg) (TC : CEnvOk K cenv) {f : Addr} (cdv : Value) (A : Around) (outer : List Env) (s : Shared) (H : Hp) (EX : XK) (hr : Room 0 (A.deeper (envOfC "_unlike_three" (defScope s_unlike_three) s.heap.objs.size f cdv))) (hG : A.guards = some []) :
    ∃ ts, Ss (cxOf CX0 P w K mg base N_unlike_three "_unlike_three" (defScope s_unlike_three) f cdv A outer s H EX).nox (defBody s_unlike_three) ts (g_unlike_three) := by
  have hu := hr.units
  exact ⟨_, (ss_cons (s_for PassesOwn.never rfl (i_enumT T.z_enumerate (e_var 0)) (g_tup rfl (gs_cons (g_name 1 nd_unlike_three) (gs_cons (g_name 2 nd_unlike_three) gs_nil))) (ss_one (s_for PassesOwn.never rfl (i_enumT T.z_enumerate (e_var 0)) (g_tup rfl (gs_cons (g_name 3 nd_unlike_three) (gs_cons (g_name 4 nd_unlike_three) gs_nil))) (ss_cons (s_set 5 nd_unlike_three (e_ix (e_var 0) (e_ix (E.w (e_var 2)) (e_var 3)))) (ss_one (s_if (t_cmp (cm_neS hu) (E.w (e_var 5)) (e_onT call_tuple_of gTupN_ok T.z_tuple rfl (l_lc rfl nd_unlike_three (i_seq (E.w (e_var 4))) (blkOk_by (own := [("number", 6)]) rfl) (fun _ _ _ _ _ => (g_name 6 nd_unlike_three)) (fun _ _ _ _ _ => ts_nil) (fun _ _ _ _ _ => E.to (e_ix (E.w (e_var 2)) (e_var 6)) (by first | rfl | (dsimp only [blkK]; done) | (dsimp only [blkK]; rfl)))))) (ss_cons (s_set 7 nd_unlike_three (e_index (L.put (l_lc rfl nd_unlike_three (i_range1 T.z_range (e_cB call_len gLen_ok T.z_len rfl (a_cons (E.w (e_var 0)) a_nil))) (blkOk_by (own := [("number", 6)]) rfl) (fun _ _ _ _ _ => (g_name 6 nd_unlike_three)) (fun _ _ _ _ _ => ts_nil) (fun _ _ _ _ _ => E.to (e_cmp (cm_eqS hu) (e_ix (E.w (e_var 5)) (e_var 6)) (e_ix (E.w (e_var 2)) (e_ix (E.w (e_var 4)) (e_var 6)))) (by first | rfl | (dsimp only [blkK]; done) | (dsimp only [blkK]; rfl))))) e_bl)) (ss_one (s_ret (e_tup (a_cons e_str (a_cons (e_var 1) (a_cons (e_var 3) (a_cons (e_var 7) a_nil)))))))) ss_nil)))))) (ss_one (s_ret e_non)))⟩
/-! ### commutated -/
abbrev s_commutated : Stmt := topS 18
abbrev N_commutated : List Str := ["lines", "one", "other"]
theorem nd_commutated : (N_commutated).Nodup := by decide +kernel
theorem sc_commutated : FnScope N_commutated ["lines", "one", "other"] (defScope s_commutated) := ⟨rfl, rfl, rfl, nd_commutated, rfl, by decide +kernel, by decide +kernel⟩
noncomputable def g_commutated : FS := (fsRet (fOp gIx (fW (fOp gIx (fVar 0) (fOp gIx (fW (fOp gIx (fVar 0) (fMetT gTIndex (fOp gIx (fVar 0) (fVar 1)) (fCons (fC (.int 0)) fNil)))) (fMetT gTIndex (fOp gIx (fVar 0) (fVar 2)) (fCons (fC (.int 0)) fNil))))) (fOp gIx (fW (fOp gIx (fVar 0) (fVar 1))) (fVar 2))))
theorem b_commutated {P : Program} {w : World} {K : Fg} {mg : Str → Option Value} {base : Heap} (T : Tz K mg) (TC : CEnvOk K cenv) {f : Addr} (cdv : Value) (A : Around) (outer : List Env) (s : Shared) (H : Hp) (EX : XK) (hr : Room 0 (A.deeper (envOfC "commutated" (defScope s_commutated) s.heap.objs.size f cdv))) (hG : A.guards = some []) :
    ∃ ts, Ss (cxOf CX0 P w K mg base N_commutated "commutated" (defScope s_commutated) f cdv A outer s H EX).nox (defBody s_commutated) ts (g_commutated) := by
  have hu := hr.units
  exact ⟨_, (ss_one (s_ret (e_ix (E.w (e_ix (e_var 0) (e_ix (E.w (e_ix (e_var 0) (e_tindex (e_ix (e_var 0) (e_var 1)) e_int))) (e_tindex (e_ix (e_var 0) (e_var 2)) e_int)))) (e_ix (E.w (e_ix (e_var 0) (e_var 1))) (e_var 2)))))⟩
/-! ### spanned -/
abbrev s_spanned : Stmt := topS 21
abbrev N_spanned : List Str := ["lines", "part", "met", "further", "line", "other", "one"]
theorem nd_spanned : (N_spanned).Nodup := by decide +kernel
theorem sc_spanned : FnScope N_spanned ["lines", "part"] (defScope s_spanned) := ⟨rfl, rfl, rfl, nd_spanned, rfl, by decide +kernel, by decide +kernel⟩
noncomputable def lb_spanned_1 : FS := (fsIf (fNotT (fTru (fOp gIx (fVar 2) (fOp gIx (fW (fVar 4)) (fVar 5))))) (fsSeq (fsAsg (fC (.bl true)) (fSub (fVar 2) (fOp gIx (fW (fVar 4)) (fVar 5)))) (fsDrop (fMeth gAppend (fVar 3) (fCons (fOp gIx (fW (fVar 4)) (fVar 5)) fNil)))) fsNext)
noncomputable def lp_spanned_1 : FS := fsFor (fSeq (fVar 1)) (fName 5) (lb_spanned_1)
noncomputable def wt_spanned_1 : FT := (fTru (fVar 3))
noncomputable def wb_spanned_1 : FS := (fsSeq (fsAsg (fOp gIx (fVar 0) (fMeth gPop (fVar 3) fNil)) (fName 4)) (lp_spanned_1))
noncomputable def lc_spanned_1 : FA := fLc (fRange1 (fCall gLen (fCons (fW (fVar 0)) fNil))) (fName 6) (fTru (fOp gIx (fVar 2) (fVar 6))) (fVar 6) [6]
noncomputable def g_spanned : FS := (fsSeq (fsAsg (fOp gMul (fPut (fLst (fCons (fC (.bl false)) fNil))) (fCall gLen (fCons (fW (fVar 0)) fNil))) (fName 2)) (fsSeq (fsAsg (fC (.bl true)) (fSub (fVar 2) (fC (.int 0)))) (fsSeq (fsAsg (fPut (fLst (fCons (fC (.int 0)) fNil))) (fName 3)) (fsSeq (wh (wt_spanned_1) (wb_spanned_1) fuel) (fsRet (fOn gTupN (lc_spanned_1)))))))
theorem b_spanned {P : Program} {w : World} {K : Fg} {mg : Str → Option Value} {base : Heap} (T : Tz K mg) (TC : CEnvOk K cenv) {f : Addr} (cdv : Value) (A : Around) (outer : List Env) (s : Shared) (H : Hp) (EX : XK) (hr : Room 0 (A.deeper (envOfC "spanned" (defScope s_spanned) s.heap.objs.size f cdv))) (hG : A.guards = some []) :
    ∃ ts, Ss (cxOf CX0 P w K mg base N_spanned "spanned" (defScope s_spanned) f cdv A outer s H EX).nox (defBody s_spanned) ts (g_spanned) := by
  have hu := hr.units
  exact ⟨_, (ss_cons (s_set 2 nd_spanned (e_mul (L.put (l_lst (a_cons e_bl a_nil))) (e_cB call_len gLen_ok T.z_len rfl (a_cons (E.w (e_var 0)) a_nil)))) (ss_cons (s_asg e_bl (g_sub (e_var 2) e_int)) (ss_cons (s_set 3 nd_spanned (L.put (l_lst (a_cons e_int a_nil)))) (ss_cons (s_while fuel PassesOwn.never (t_tru (e_var 3)) (ss_cons (s_set 4 nd_spanned (e_ix (e_var 0) (e_pop (e_var 3)))) (ss_one (s_for PassesOwn.never rfl (i_seq (e_var 1)) (g_name 5 nd_spanned) (ss_one (s_if (t_not (t_tru (e_ix (e_var 2) (e_ix (E.w (e_var 4)) (e_var 5))))) (ss_cons (s_asg e_bl (g_sub (e_var 2) (e_ix (E.w (e_var 4)) (e_var 5)))) (ss_one (s_expr (e_append (e_var 3) (e_ix (E.w (e_var 4)) (e_var 5)))))) ss_nil)))))) (ss_one (s_ret (e_onT call_tuple_of gTupN_ok T.z_tuple rfl (l_lc rfl nd_spanned (i_range1 T.z_range (e_cB call_len gLen_ok T.z_len rfl (a_cons (E.w (e_var 0)) a_nil))) (blkOk_by (own := [("one", 6)]) rfl) (fun _ _ _ _ _ => (g_name 6 nd_spanned)) (fun _ _ _ _ _ => Ts.to (ts_one (t_tru (e_ix (e_var 2) (e_var 6)))) (by first | rfl | (dsimp only [blkK]; done) | (dsimp only [blkK]; rfl))) (fun _ _ _ _ _ => E.to (e_var 6) (by first | rfl | (dsimp only [blkK]; done) | (dsimp only [blkK]; rfl)))))))))))⟩
/-! ### _law_cell -/
abbrev s_law_cell : Stmt := topS 29
abbrev N_law_cell : List Str := ["_law_script", "_law_k", "_law_state", "_law_cell_here"]
theorem nd_law_cell : (N_law_cell).Nodup := by decide +kernel
theorem sc_law_cell : FnScope N_law_cell ["_law_script", "_law_k"] (defScope s_law_cell) := ⟨rfl, rfl, rfl, nd_law_cell, rfl, by decide +kernel, by decide +kernel⟩
noncomputable def lb_law_cell_1 : FS := (fsAsg (fOp gMod (fOp gAdd (fOp gMul (fVar 2) (fC (.int 43013))) (fVar 3)) (fC (.int 2147483423))) (fName 2))
noncomputable def lp_law_cell_1 : FS := fsFor (fSeq (fSl (fVar 0) fNoPart (fPart (fC (.int 3))))) (fName 3) (lb_law_cell_1)
noncomputable def g_law_cell : FS := (fsSeq (fsIf (fTest (fOp gLt (fVar 1) (fCall gLen (fCons (fVar 0) fNil)))) (fsRet (fOp gIx (fVar 0) (fVar 1))) fsNext) (fsSeq (fsAsg (fOp gMod (fOp gMul (fC (.int 50021)) (fOp gAdd (fOp gAdd (fOp gMul (fVar 1) (fVar 1)) (fOp gMul (fC (.int 9)) (fVar 1))) (fC (.int 5)))) (fC (.int 2147483423))) (fName 2)) (fsSeq (lp_law_cell_1) (fsRet (fVar 2)))))
theorem b_law_cell {P : Program} {w : World} {K : Fg} {mg : Str → Option Value} {base : Heap} (T : Tz K mg) (TC : CEnvOk K cenv) {f : Addr} (cdv : Value) (A : Around) (outer : List Env) (s : Shared) (H : Hp) (EX : XK) (hr : Room 0 (A.deeper (envOfC "_law_cell" (defScope s_law_cell) s.heap.objs.size f cdv))) (hG : A.guards = some []) :
    ∃ ts, Ss (cxOf CX0 P w K mg base N_law_cell "_law_cell" (defScope s_law_cell) f cdv A outer s H EX).nox (defBody s_law_cell) ts (g_law_cell) := by
  have hu := hr.units
  exact ⟨_, (ss_cons (s_if (t_cmp cm_lt (e_var 1) (e_cB call_len gLen_ok T.z_len rfl (a_cons (e_var 0) a_nil))) (ss_one (s_ret (e_ix (e_var 0) (e_var 1)))) ss_nil) (ss_cons (s_set 2 nd_law_cell (e_mod (e_mul e_int (e_add (e_add (e_mul (e_var 1) (e_var 1)) (e_mul e_int (e_var 1))) e_int)) e_int)) (ss_cons (s_for PassesOwn.never rfl (i_seq (e_sl (e_var 0) o_none (o_some e_int))) (g_name 3 nd_law_cell) (ss_one (s_set 2 nd_law_cell (e_mod (e_add (e_mul (e_var 2) e_int) (e_var 3)) e_int)))) (ss_one (s_ret (e_var 2))))))⟩
/-! ### _law_pool -/
abbrev s_law_pool : Stmt := topS 30
abbrev N_law_pool : List Str := ["_law_cell_here", "_law_digits"]
theorem nd_law_pool : (N_law_pool).Nodup := by decide +kernel
theorem sc_law_pool : FnScope N_law_pool ["_law_cell_here"] (defScope s_law_pool) := ⟨rfl, rfl, rfl, nd_law_pool, rfl, by decide +kernel, by decide +kernel⟩
noncomputable def g_law_pool : FS := (fsSeq (fsAsg (fC (.int 0)) (fName 1)) (fsSeq (fsIf (fOrT (fTest (fOp gLt (fVar 0) (fC (.int 0)))) (fTest (fOp gGe (fVar 0) (fOp gPow (fC (.int 10)) (fC (.int 18)))))) (fsAsg (fCall gAbs (fCons (fVar 0) fNil)) (fName 1)) fsNext) (fsRet (fPut (fLst (fCons (fOp gMod (fVar 0) (fC (.int 2147483423))) (fCons (fVar 1) (fCons (fC (.int 0)) fNil))))))))
theorem b_law_pool {P : Program} {w : World} {K : Fg} {mg : Str → Option Value} {base : Heap} (T : Tz K mg) (TC : CEnvOk K cenv) {f : Addr} (cdv : Value) (A : Around) (outer : List Env) (s : Shared) (H : Hp) (EX : XK) (hr : Room 0 (A.deeper (envOfC "_law_pool" (defScope s_law_pool) s.heap.objs.size f cdv))) (hG : A.guards = some []) :
    ∃ ts, Ss (cxOf CX0 P w K mg base N_law_pool "_law_pool" (defScope s_law_pool) f cdv A outer s H EX).nox (defBody s_law_pool) ts (g_law_pool) := by
  have hu := hr.units
  exact ⟨_, (ss_cons (s_set 1 nd_law_pool e_int) (ss_cons (s_if (TW.t (w_or (t_cmp cm_lt (e_var 0) e_int) (w_or1 (t_cmp cm_ge (e_var 0) (e_pow e_int e_int))))) (ss_one (s_set 1 nd_law_pool (e_cB call_abs gAbs_ok T.z_abs rfl (a_cons (e_var 0) a_nil)))) ss_nil) (ss_one (s_ret (L.put (l_lst (a_cons (e_mod (e_var 0) e_int) (a_cons (e_var 1) (a_cons e_int a_nil)))))))))⟩
/-! ### _law_take -/
abbrev s_law_take : Stmt := topS 31
abbrev N_law_take : List Str := ["_law_pool_here", "_law_many", "_law_state", "_law_digit"]
theorem nd_law_take : (N_law_take).Nodup := by decide +kernel
theorem sc_law_take : FnScope N_law_take ["_law_pool_here", "_law_many"] (defScope s_law_take) := ⟨rfl, rfl, rfl, nd_law_take, rfl, by decide +kernel, by decide +kernel⟩
noncomputable def g_law_take : FS := (fsSeq (fsAsg (fOp gAdd (fOp gIx (fVar 0) (fC (.int 2))) (fC (.int 1))) (fSub (fVar 0) (fC (.int 2)))) (fsSeq (fsAsg (fOp gIx (fVar 0) (fC (.int 0))) (fName 2)) (fsSeq (fsAsg (fOp gMod (fOp gAdd (fOp gMul (fVar 2) (fOp gAdd (fOp gMod (fVar 2) (fC (.int 45007))) (fC (.int 31019)))) (fOp gMul (fC (.int 70009)) (fOp gIx (fVar 0) (fC (.int 2))))) (fC (.int 2147483423))) (fSub (fVar 0) (fC (.int 0)))) (fsSeq (fsIf (fTest (fOp gGt (fOp gIx (fVar 0) (fC (.int 1))) (fC (.int 0)))) (fsSeq (fsAsg (fCall gDivmod (fCons (fOp gIx (fVar 0) (fC (.int 1))) (fCons (fVar 1) fNil))) (fTupG 2 (fsCons (fSub (fVar 0) (fC (.int 1))) (fsCons (fName 3) fsNil)))) (fsRet (fVar 3))) fsNext) (fsRet (fOp gMod (fOp gFDiv (fOp gIx (fVar 0) (fC (.int 0))) (fC (.int 64))) (fVar 1)))))))
theorem b_law_take {P : Program} {w : World} {K : Fg} {mg : Str → Option Value} {base : Heap} (T : Tz K mg) (TC : CEnvOk K cenv) {f : Addr} (cdv : Value) (A : Around) (outer : List Env) (s : Shared) (H : Hp) (EX : XK) (hr : Room 0 (A.deeper (envOfC "_law_take" (defScope s_law_take) s.heap.objs.size f cdv))) (hG : A.guards = some []) :
    ∃ ts, Ss (cxOf CX0 P w K mg base N_law_take "_law_take" (defScope s_law_take) f cdv A outer s H EX).nox (defBody s_law_take) ts (g_law_take) := by
  have hu := hr.units
  exact ⟨_, (ss_cons (s_asg (e_add (e_ix (e_var 0) e_int) e_int) (g_sub (e_var 0) e_int)) (ss_cons (s_set 2 nd_law_take (e_ix (e_var 0) e_int)) (ss_cons (s_asg (e_mod (e_add (e_mul (e_var 2) (e_add (e_mod (e_var 2) e_int) e_int)) (e_mul e_int (e_ix (e_var 0) e_int))) e_int) (g_sub (e_var 0) e_int)) (ss_cons (s_if (t_cmp cm_gt (e_ix (e_var 0) e_int) e_int) (ss_cons (s_asg (e_cB call_divmodW gDivmod_ok T.z_divmod rfl (a_cons (e_ix (e_var 0) e_int) (a_cons (e_var 1) a_nil))) (g_tup rfl (gs_cons (g_sub (e_var 0) e_int) (gs_cons (g_name 3 nd_law_take) gs_nil)))) (ss_one (s_ret (e_var 3)))) ss_nil) (ss_one (s_ret (e_mod (e_fdiv (e_ix (e_var 0) e_int) e_int) (e_var 1))))))))⟩
/-! ### _law_then -/
abbrev s_law_then : Stmt := topS 32
abbrev N_law_then : List Str := ["_law_one", "_law_other", "_law_goal"]
theorem nd_law_then : (N_law_then).Nodup := by decide +kernel
theorem sc_law_then : FnScope N_law_then ["_law_one", "_law_other"] (defScope s_law_then) := ⟨rfl, rfl, rfl, nd_law_then, rfl, by decide +kernel, by decide +kernel⟩
noncomputable def lc_law_then_1 : FA := fLc (fSeq (fVar 0)) (fName 2) fYes (fOp gIx (fVar 1) (fVar 2)) [2]
noncomputable def g_law_then : FS := (fsRet (fOn gTupNT (lc_law_then_1)))
theorem b_law_then {P : Program} {w : World} {K : Fg} {mg : Str → Option Value} {base : Heap} (T : Tz K mg) (TC : CEnvOk K cenv) {f : Addr} (cdv : Value) (A : Around) (outer : List Env) (s : Shared) (H : Hp) (EX : XK) (hr : Room 0 (A.deeper (envOfC "_law_then" (defScope s_law_then) s.heap.objs.size f cdv))) (hG : A.guards = some []) :
    ∃ ts, Ss (cxOf CX0 P w K mg base N_law_then "_law_then" (defScope s_law_then) f cdv A outer s H EX).nox (defBody s_law_then) ts (g_law_then) := by
  have hu := hr.units
  exact ⟨_, (ss_one (s_ret (e_onT call_tuple_of gTupNT_ok T.z_tuple rfl (l_lc rfl nd_law_then (i_seq (e_var 0)) (blkOk_by (own := [("_law_goal", 2)]) rfl) (fun _ _ _ _ _ => (g_name 2 nd_law_then)) (fun _ _ _ _ _ => ts_nil) (fun _ _ _ _ _ => E.to (e_ix (e_var 1) (e_var 2)) (by first | rfl | (dsimp only [blkK]; done) | (dsimp only [blkK]; rfl)))))))⟩
/-! ### _law_backs -/
abbrev s_law_backs : Stmt := topS 37
abbrev N_law_backs : List Str := ["_law_lines_here", "_law_line"]
theorem nd_law_backs : (N_law_backs).Nodup := by decide +kernel
theorem sc_law_backs : FnScope N_law_backs ["_law_lines_here"] (defScope s_law_backs) := ⟨rfl, rfl, rfl, nd_law_backs, rfl, by decide +kernel, by decide +kernel⟩
noncomputable def lc_law_backs_1 : FA := fLc (fSeq (fVar 0)) (fName 1) fYes (fMeth gIndex (fPut (fLCall gLstOf (fCons (fW (fVar 1)) fNil))) (fCons (fC (.int 0)) fNil)) [1]
noncomputable def g_law_backs : FS := (fsRet (fPut (lc_law_backs_1)))
theorem b_law_backs {P : Program} {w : World} {K : Fg} {mg : Str → Option Value} {base : Heap} (T : Tz K mg) (TC : CEnvOk K cenv) {f : Addr} (cdv : Value) (A : Around) (outer : List Env) (s : Shared) (H : Hp) (EX : XK) (hr : Room 0 (A.deeper (envOfC "_law_backs" (defScope s_law_backs) s.heap.objs.size f cdv))) (hG : A.guards = some []) :
    ∃ ts, Ss (cxOf CX0 P w K mg base N_law_backs "_law_backs" (defScope s_law_backs) f cdv A outer s H EX).nox (defBody s_law_backs) ts (g_law_backs) := by
  have hu := hr.units
  exact ⟨_, (ss_one (s_ret (L.put (l_lc rfl nd_law_backs (i_seq (e_var 0)) (blkOk_by (own := [("_law_line", 1)]) rfl) (fun _ _ _ _ _ => (g_name 1 nd_law_backs)) (fun _ _ _ _ _ => ts_nil) (fun _ _ _ _ _ => E.to (e_index (L.put (l_cT call_list_of gLstOf_ok T.z_list rfl (a_cons (E.w (e_var 1)) a_nil))) e_int) (by first | rfl | (dsimp only [blkK]; done) | (dsimp only [blkK]; rfl)))))))⟩
/-! ### _law_made -/
abbrev s_law_made : Stmt := topS 38
abbrev N_law_made : List Str := ["_law_lines_here", "_law_part", "_law_known", "_law_waiting", "_law_one", "_law_other", "_law_both"]
theorem nd_law_made : (N_law_made).Nodup := by decide +kernel
theorem sc_law_made : FnScope N_law_made ["_law_lines_here", "_law_part"] (defScope s_law_made) := ⟨rfl, rfl, rfl, nd_law_made, rfl, by decide +kernel, by decide +kernel⟩
noncomputable def lb_law_made_1 : FS := (fsSeq (fsAsg (fOp gIx (fW (fOp gIx (fVar 0) (fVar 4))) (fVar 5)) (fName 6)) (fsIf (fTest (fOp (gIn true) (fVar 6) (fVar 2))) (fsSeq (fsAsg (fC (.bl true)) (fSubA (fVar 2) (fVar 6))) (fsDrop (fMeth gAppend (fVar 3) (fCons (fVar 6) fNil)))) fsNext))
noncomputable def lp_law_made_1 : FS := fsFor (fSeq (fVar 1)) (fName 5) (lb_law_made_1)
noncomputable def wt_law_made_1 : FT := (fTest (fOp gNeS (fVar 3) (fPut (fLst fNil))))
noncomputable def wb_law_made_1 : FS := (fsSeq (fsAsg (fMeth gPop (fVar 3) fNil) (fName 4)) (lp_law_made_1))
noncomputable def g_law_made : FS := (fsSeq (fsPar 2 3 (fCons (fDisp (fpCons (fC (.int 0)) (fC (.bl true)) fpNil)) (fCons (fPut (fLst (fCons (fC (.int 0)) fNil))) fNil))) (fsSeq (wh (wt_law_made_1) (wb_law_made_1) fuel) (fsRet (fCall gTupOf (fCons (fCall gSorted (fCons (fVar 2) fNil)) fNil)))))
theorem b_law_made {P : Program} {w : World} {K : Fg} {mg : Str → Option Value} {base : Heap} (T : Tz K mg) (TC : CEnvOk K cenv) {f : Addr} (cdv : Value) (A : Around) (outer : List Env) (s : Shared) (H : Hp) (EX : XK) (hr : Room 0 (A.deeper (envOfC "_law_made" (defScope s_law_made) s.heap.objs.size f cdv))) (hG : A.guards = some []) :
    ∃ ts, Ss (cxOf CX0 P w K mg base N_law_made "_law_made" (defScope s_law_made) f cdv A outer s H EX).nox (defBody s_law_made) ts (g_law_made) := by
  have hu := hr.units
  exact ⟨_, (ss_cons (s_par 2 3 rfl nd_law_made (a_cons (e_disp (ps_cons e_int e_bl ps_nil)) (a_cons (L.put (l_lst (a_cons e_int a_nil))) a_nil))) (ss_cons (s_while fuel PassesOwn.never (t_cmp (cm_neS hu) (e_var 3) (L.put (l_lst a_nil))) (ss_cons (s_set 4 nd_law_made (e_pop (e_var 3))) (ss_one (s_for PassesOwn.never rfl (i_seq (e_var 1)) (g_name 5 nd_law_made) (ss_cons (s_set 6 nd_law_made (e_ix (E.w (e_ix (e_var 0) (e_var 4))) (e_var 5))) (ss_one (s_if (t_cmp (cm_notin (hu_of hr)) (e_var 6) (e_var 2)) (ss_cons (s_asg e_bl (g_subA (hu_of hr) (e_var 2) (e_var 6))) (ss_one (s_expr (e_append (e_var 3) (e_var 6))))) ss_nil))))))) (ss_one (s_ret (e_cT call_tuple_of gTupOf_ok T.z_tuple rfl (a_cons (e_cB (call_sort rfl) gSorted_ok T.z_sorted rfl (a_cons (e_var 2) a_nil)) a_nil))))))⟩
/-! ### _law_is -/
abbrev s_law_is : Stmt := topS 41
abbrev N_law_is : List Str := ["_law_told", "_law_due", "_law_one"]
theorem nd_law_is : (N_law_is).Nodup := by decide +kernel
theorem sc_law_is : FnScope N_law_is ["_law_told", "_law_due"] (defScope s_law_is) := ⟨rfl, rfl, rfl, nd_law_is, rfl, by decide +kernel, by decide +kernel⟩
noncomputable def lc_law_is_1 : FA := fLc (fSeq (fVar 0)) (fName 2) fYes (fCall (gIsiC cenv) (fCons (fVar 2) (fCons (fC (.ty "bool")) fNil))) [2]
noncomputable def g_law_is : FS := (fsSeq (fsIf (fOrT (fNotT (fTru (fCall (gIsiC cenv) (fCons (fVar 0) (fCons (fC (.ty "tuple")) fNil))))) (fTest (fOp gNeS (fVar 0) (fVar 1)))) (fsRet (fC (.bl false))) fsNext) (fsRet (fNot (fOn gAny (lc_law_is_1)))))
theorem b_law_is {P : Program} {w : World} {K : Fg} {mg : Str → Option Value} {base : Heap} (T : Tz K mg) (TC : CEnvOk K cenv) {f : Addr} (cdv : Value) (A : Around) (outer : List Env) (s : Shared) (H : Hp) (EX : XK) (hr : Room 0 (A.deeper (envOfC "_law_is" (defScope s_law_is) s.heap.objs.size f cdv))) (hG : A.guards = some []) :
    ∃ ts, Ss (cxOf CX0 P w K mg base N_law_is "_law_is" (defScope s_law_is) f cdv A outer s H EX).nox (defBody s_law_is) ts (g_law_is) := by
  have hu := hr.units
  exact ⟨_, (ss_cons (s_if (TW.t (w_or (t_not (t_tru (e_cB call_isi (gIsiC_ok TC) T.z_isinstance rfl (a_cons (e_var 0) (a_cons (e_ty T.z_tuple rfl) a_nil))))) (w_or1 (t_cmp (cm_neS hu) (e_var 0) (e_var 1))))) (ss_one (s_ret e_bl)) ss_nil) (ss_one (s_ret (e_not (e_onB (cr_any rfl) gAny_ok T.z_any rfl (l_lc rfl nd_law_is (i_seq (e_var 0)) (blkOk_by (own := [("_law_one", 2)]) rfl) (fun _ _ _ _ _ => (g_name 2 nd_law_is)) (fun _ _ _ _ _ => ts_nil) (fun _ _ _ _ _ => E.to (e_cB call_isi (gIsiC_ok TC) T.z_isinstance rfl (a_cons (e_var 2) (a_cons (e_ty T.z_bool rfl) a_nil))) (by first | rfl | (dsimp only [blkK]; done) | (dsimp only [blkK]; rfl)))))))))⟩
/-! ### is_between -/
abbrev s_is_between : Stmt := topS 7
abbrev N_is_between : List Str := ["thing", "low", "high"]
theorem nd_is_between : (N_is_between).Nodup := by decide +kernel
theorem sc_is_between : FnScope N_is_between ["thing", "low", "high"] (defScope s_is_between) := ⟨rfl, rfl, rfl, nd_is_between, rfl, by decide +kernel, by decide +kernel⟩
noncomputable def g_is_between (Fis_whole : GN) : FS := (fsRet (fAnd (fCall Fis_whole (fCons (fVar 0) fNil)) (fChain gLe gLe (fVar 1) (fVar 0) (fVar 2))))
theorem b_is_between {P : Program} {w : World} {K : Fg} {mg : Str → Option Value} {base : Heap} (T : Tz K mg) (TC : CEnvOk K cenv) {Fis_whole : GN} (k_is_whole : Kn P w K mg base "is_whole" 1 ["thing"] Fis_whole) {f : Addr} (cdv : Value) (A : Around) (outer : List Env) (s : Shared) (H : Hp) (EX : XK) (hr : Room 1 (A.deeper (envOfC "is_between" (defScope s_is_between) s.heap.objs.size f cdv))) (hG : A.guards = some []) :
    ∃ ts, Ss (cxOf CX0 P w K mg base N_is_between "is_between" (defScope s_is_between) f cdv A outer s H EX).nox (defBody s_is_between) ts (g_is_between Fis_whole) := by
  have hu := hr.units
  exact ⟨_, (ss_one (s_ret (e_and (e_callK k_is_whole (hr.mono (by decide)) hG (a_cons (e_var 0) a_nil)) (e_one (e_chain cm_le cm_le (e_var 1) (e_var 0) (e_var 2))))))⟩
/-! ### _commutators -/
abbrev s_commutators : Stmt := topS 27
abbrev N_commutators : List Str := ["lines", "some", "others", "one", "other"]
theorem nd_commutators : (N_commutators).Nodup := by decide +kernel
theorem sc_commutators : FnScope N_commutators ["lines", "some", "others"] (defScope s_commutators) := ⟨rfl, rfl, rfl, nd_commutators, rfl, by decide +kernel, by decide +kernel⟩
noncomputable def sc_commutators_1 (Fspanned : GN) (Fcommutated : GN) : FA := fSrtSc2 (fSeq (fVar 1)) (fName 3) (fVar 2) (fName 4) (fCall Fcommutated (fCons (fVar 0) (fCons (fVar 3) (fCons (fVar 4) fNil)))) [3, 4] [4]
noncomputable def g_commutators (Fspanned : GN) (Fcommutated : GN) : FS := (fsRet (fCall Fspanned (fCons (fVar 0) (fCons (fPut (sc_commutators_1 Fspanned Fcommutated)) fNil))))
theorem b_commutators {P : Program} {w : World} {K : Fg} {mg : Str → Option Value} {base : Heap} (T : Tz K mg) (TC : CEnvOk K cenv) {Fspanned : GN} (k_spanned : Kn P w K mg base "spanned" 1 ["lines", "part"] Fspanned) {Fcommutated : GN} (k_commutated : Kn P w K mg base "commutated" 1 ["lines", "one", "other"] Fcommutated) {f : Addr} (cdv : Value) (A : Around) (outer : List Env) (s : Shared) (H : Hp) (EX : XK) (hr : Room 1 (A.deeper (envOfC "_commutators" (defScope s_commutators) s.heap.objs.size f cdv))) (hG : A.guards = some []) :
    ∃ ts, Ss (cxOf CX0 P w K mg base N_commutators "_commutators" (defScope s_commutators) f cdv A outer s H EX).nox (defBody s_commutators) ts (g_commutators Fspanned Fcommutated) := by
  have hu := hr.units
  exact ⟨_, (ss_one (s_ret (e_callK k_spanned (hr.mono (by decide)) hG (a_cons (e_var 0) (a_cons (L.put (l_srtSc2 (vs1 := [4]) rfl nd_commutators T.z_sorted (i_seq (e_var 1)) (blkOk_by (own := [("one", 3), ("other", 4)]) rfl) (by decide) (fun _ _ _ _ _ => (g_name 3 nd_commutators)) (fun _ _ _ _ _ => E.to (e_var 2) (by first | rfl | (dsimp only [blkK]; done) | (dsimp only [blkK]; rfl))) (fun _ _ _ _ _ => (g_name 4 nd_commutators)) (fun _ _ _ _ _ => E.to (e_callK k_commutated (hr.mono (by decide)) hG (a_cons (e_var 0) (a_cons (e_var 3) (a_cons (e_var 4) a_nil)))) (by first | rfl | (dsimp only [blkK]; done) | (dsimp only [blkK]; rfl))))) a_nil)))))⟩
/-! ### _law_move -/
abbrev s_law_move : Stmt := topS 33
abbrev N_law_move : List Str := ["_law_pool_here", "_law_points", "_law_images", "_law_way", "_law_first", "_law_last", "_law_point", "_law_other"]
theorem nd_law_move : (N_law_move).Nodup := by decide +kernel
theorem sc_law_move : FnScope N_law_move ["_law_pool_here", "_law_points"] (defScope s_law_move) := ⟨rfl, rfl, rfl, nd_law_move, rfl, by decide +kernel, by decide +kernel⟩
noncomputable def lb_law_move_1 (Flaw_take : GN) : FS := (fsSeq (fsAsg (fCall Flaw_take (fCons (fVar 0) (fCons (fOp gAdd (fVar 6) (fC (.int 1))) fNil))) (fName 7)) (fsAsg (fTup (fCons (fOp gIx (fVar 2) (fVar 7)) (fCons (fOp gIx (fVar 2) (fVar 6)) fNil))) (fTupG 2 (fsCons (fSub (fVar 2) (fVar 6)) (fsCons (fSub (fVar 2) (fVar 7)) fsNil)))))
noncomputable def lp_law_move_1 (Flaw_take : GN) : FS := fsFor (fDown (fOp gSub (fVar 1) (fC (.int 1))) (fC (.int 0)) (fUn gNeg (fC (.int 1)))) (fName 6) (lb_law_move_1 Flaw_take)
noncomputable def lc_law_move_1 (Flaw_take : GN) : FA := fLc (fRange1 (fVar 1)) (fName 6) fYes (fOp gIx (fVar 2) (fOp gMod (fOp gAdd (fMeth gIndex (fVar 2) (fCons (fVar 6) fNil)) (fC (.int 1))) (fVar 1))) [6]
noncomputable def g_law_move (Flaw_take : GN) : FS := (fsSeq (fsAsg (fTup (fCons (fPut (fRg1 (fVar 1))) (fCons (fCall Flaw_take (fCons (fVar 0) (fCons (fC (.int 8)) fNil))) fNil))) (fTupG 2 (fsCons (fName 2) (fsCons (fName 3) fsNil)))) (fsSeq (fsIf (fOrT (fTest (fOp gEqS (fVar 3) (fC (.int 0)))) (fTest (fOp gEqS (fVar 1) (fC (.int 1))))) (fsRet (fCall gTupOf (fCons (fVar 2) fNil))) fsNext) (fsSeq (fsIf (fTest (fOp gLt (fVar 3) (fC (.int 3)))) (fsSeq (fsPar 4 5 (fCons (fCall Flaw_take (fCons (fVar 0) (fCons (fVar 1) fNil))) (fCons (fCall Flaw_take (fCons (fVar 0) (fCons (fVar 1) fNil))) fNil))) (fsSeq (fsAsg (fTup (fCons (fOp gIx (fVar 2) (fVar 5)) (fCons (fOp gIx (fVar 2) (fVar 4)) fNil))) (fTupG 2 (fsCons (fSub (fVar 2) (fVar 4)) (fsCons (fSub (fVar 2) (fVar 5)) fsNil)))) (fsRet (fCall gTupOf (fCons (fVar 2) fNil))))) fsNext) (fsSeq (lp_law_move_1 Flaw_take) (fsSeq (fsIf (fTest (fOp gEqS (fVar 3) (fC (.int 3)))) (fsRet (fOn gTupN (lc_law_move_1 Flaw_take))) fsNext) (fsRet (fCall gTupOf (fCons (fVar 2) fNil))))))))
theorem b_law_move {P : Program} {w : World} {K : Fg} {mg : Str → Option Value} {base : Heap} (T : Tz K mg) (TC : CEnvOk K cenv) {Flaw_take : GN} (k_law_take : Kn P w K mg base "_law_take" 1 ["_law_pool_here", "_law_many"] Flaw_take) {f : Addr} (cdv : Value) (A : Around) (outer : List Env) (s : Shared) (H : Hp) (EX : XK) (hr : Room 1 (A.deeper (envOfC "_law_move" (defScope s_law_move) s.heap.objs.size f cdv))) (hG : A.guards = some []) :
    ∃ ts, Ss (cxOf CX0 P w K mg base N_law_move "_law_move" (defScope s_law_move) f cdv A outer s H EX).nox (defBody s_law_move) ts (g_law_move Flaw_take) := by
  have hu := hr.units
  exact ⟨_, (ss_cons (s_asg (e_tup (a_cons (L.put (l_rg1 rfl T.z_list T.z_range (e_var 1))) (a_cons (e_callK k_law_take (hr.mono (by decide)) hG (a_cons (e_var 0) (a_cons e_int a_nil))) a_nil))) (g_tup rfl (gs_cons (g_name 2 nd_law_move) (gs_cons (g_name 3 nd_law_move) gs_nil)))) (ss_cons (s_if (TW.t (w_or (t_cmp (cm_eqS hu) (e_var 3) e_int) (w_or1 (t_cmp (cm_eqS hu) (e_var 1) e_int)))) (ss_one (s_ret (e_cT call_tuple_of gTupOf_ok T.z_tuple rfl (a_cons (e_var 2) a_nil)))) ss_nil) (ss_cons (s_if (t_cmp cm_lt (e_var 3) e_int) (ss_cons (s_par 4 5 rfl nd_law_move (a_cons (e_callK k_law_take (hr.mono (by decide)) hG (a_cons (e_var 0) (a_cons (e_var 1) a_nil))) (a_cons (e_callK k_law_take (hr.mono (by decide)) hG (a_cons (e_var 0) (a_cons (e_var 1) a_nil))) a_nil))) (ss_cons (s_asg (e_tup (a_cons (e_ix (e_var 2) (e_var 5)) (a_cons (e_ix (e_var 2) (e_var 4)) a_nil))) (g_tup rfl (gs_cons (g_sub (e_var 2) (e_var 4)) (gs_cons (g_sub (e_var 2) (e_var 5)) gs_nil)))) (ss_one (s_ret (e_cT call_tuple_of gTupOf_ok T.z_tuple rfl (a_cons (e_var 2) a_nil)))))) ss_nil) (ss_cons (s_for PassesOwn.never rfl (i_down T.z_range (e_sub (e_var 1) e_int) e_int (e_neg e_int)) (g_name 6 nd_law_move) (ss_cons (s_set 7 nd_law_move (e_callK k_law_take (hr.mono (by decide)) hG (a_cons (e_var 0) (a_cons (e_add (e_var 6) e_int) a_nil)))) (ss_one (s_asg (e_tup (a_cons (e_ix (e_var 2) (e_var 7)) (a_cons (e_ix (e_var 2) (e_var 6)) a_nil))) (g_tup rfl (gs_cons (g_sub (e_var 2) (e_var 6)) (gs_cons (g_sub (e_var 2) (e_var 7)) gs_nil))))))) (ss_cons (s_if (t_cmp (cm_eqS hu) (e_var 3) e_int) (ss_one (s_ret (e_onT call_tuple_of gTupN_ok T.z_tuple rfl (l_lc rfl nd_law_move (i_range1 T.z_range (e_var 1)) (blkOk_by (own := [("_law_point", 6)]) rfl) (fun _ _ _ _ _ => (g_name 6 nd_law_move)) (fun _ _ _ _ _ => ts_nil) (fun _ _ _ _ _ => E.to (e_ix (e_var 2) (e_mod (e_add (e_index (e_var 2) (e_var 6)) e_int) (e_var 1))) (by first | rfl | (dsimp only [blkK]; done) | (dsimp only [blkK]; rfl))))))) ss_nil) (ss_one (s_ret (e_cT call_tuple_of gTupOf_ok T.z_tuple rfl (a_cons (e_var 2) a_nil)))))))))⟩
/-! ### _law_members -/
abbrev s_law_members : Stmt := topS 34
abbrev N_law_members : List Str := ["_law_points", "_law_moves", "_law_most", "_law_known", "_law_waiting", "_law_one", "_law_move_here", "_law_two"]
theorem nd_law_members : (N_law_members).Nodup := by decide +kernel
theorem sc_law_members : FnScope N_law_members ["_law_points", "_law_moves", "_law_most"] (defScope s_law_members) := ⟨rfl, rfl, rfl, nd_law_members, rfl, by decide +kernel, by decide +kernel⟩
noncomputable def lb_law_members_1 (Flaw_then : GN) : FS := (fsSeq (fsAsg (fCall Flaw_then (fCons (fW (fVar 5)) (fCons (fVar 6) fNil))) (fName 7)) (fsIf (fTest (fOp (gIn true) (fW (fVar 7)) (fVar 3))) (fsSeq (fsAsg (fC (.bl true)) (fSubT (fVar 3) (fVar 7))) (fsDrop (fMeth gAppend (fVar 4) (fCons (fVar 7) fNil)))) fsNext))
noncomputable def lp_law_members_1 (Flaw_then : GN) : FS := fsFor (fSeq (fVar 1)) (fName 6) (lb_law_members_1 Flaw_then)
noncomputable def wt_law_members_1 (Flaw_then : GN) : FT := (fTest (fOp gNeS (fVar 4) (fPut (fLst fNil))))
noncomputable def wb_law_members_1 (Flaw_then : GN) : FS := (fsSeq (fsAsg (fMeth gPop (fVar 4) fNil) (fName 5)) (fsSeq (lp_law_members_1 Flaw_then) (fsIf (fTest (fOp gGt (fCall gLenD (fCons (fVar 3) fNil)) (fVar 2))) (fsRet (fC .non)) fsNext)))
noncomputable def g_law_members (Flaw_then : GN) : FS := (fsSeq (fsPar 3 4 (fCons (fDispT (fTRg1T (fVar 0)) (fC (.bl true))) (fCons (fPut (fLst (fCons (fTRg1T (fVar 0)) fNil))) fNil))) (fsSeq (wh (wt_law_members_1 Flaw_then) (wb_law_members_1 Flaw_then) fuel) (fsRet (fCall gSortedT (fCons (fVar 3) fNil)))))
theorem b_law_members {P : Program} {w : World} {K : Fg} {mg : Str → Option Value} {base : Heap} (T : Tz K mg) (TC : CEnvOk K cenv) {Flaw_then : GN} (k_law_then : Kn P w K mg base "_law_then" 1 ["_law_one", "_law_other"] Flaw_then) {f : Addr} (cdv : Value) (A : Around) (outer : List Env) (s : Shared) (H : Hp) (EX : XK) (hr : Room 1 (A.deeper (envOfC "_law_members" (defScope s_law_members) s.heap.objs.size f cdv))) (hG : A.guards = some []) :
    ∃ ts, Ss (cxOf CX0 P w K mg base N_law_members "_law_members" (defScope s_law_members) f cdv A outer s H EX).nox (defBody s_law_members) ts (g_law_members Flaw_then) := by
  have hu := hr.units
  exact ⟨_, (ss_cons (s_par 3 4 rfl nd_law_members (a_cons (e_dispT (hu_of hr) (e_trg1T rfl T.z_tuple T.z_range (e_var 0)) e_bl) (a_cons (L.put (l_lst (a_cons (e_trg1T rfl T.z_tuple T.z_range (e_var 0)) a_nil))) a_nil))) (ss_cons (s_while fuel PassesOwn.never (t_cmp (cm_neS hu) (e_var 4) (L.put (l_lst a_nil))) (ss_cons (s_set 5 nd_law_members (e_pop (e_var 4))) (ss_cons (s_for PassesOwn.never rfl (i_seq (e_var 1)) (g_name 6 nd_law_members) (ss_cons (s_set 7 nd_law_members (e_callK k_law_then (hr.mono (by decide)) hG (a_cons (E.w (e_var 5)) (a_cons (e_var 6) a_nil)))) (ss_one (s_if (t_cmp (cm_notin (hu_of hr)) (E.w (e_var 7)) (e_var 3)) (ss_cons (s_asg e_bl (g_subT (hu_of hr) (e_var 3) (e_var 7))) (ss_one (s_expr (e_append (e_var 4) (e_var 7))))) ss_nil)))) (ss_one (s_if (t_cmp cm_gt (e_cB call_lenA gLenD_ok T.z_len rfl (a_cons (e_var 3) a_nil)) (e_var 2)) (ss_one (s_ret e_non)) ss_nil))))) (ss_one (s_ret (e_cB (cr_sortedDT rfl) gSortedT_ok T.z_sorted rfl (a_cons (e_var 3) a_nil))))))⟩
/-! ### _law_lines -/
abbrev s_law_lines : Stmt := topS 35
abbrev N_law_lines : List Str := ["_law_members_here", "_law_ranks", "_law_k", "_law_other", "_law_one"]
theorem nd_law_lines : (N_law_lines).Nodup := by decide +kernel
theorem sc_law_lines : FnScope N_law_lines ["_law_members_here"] (defScope s_law_lines) := ⟨rfl, rfl, rfl, nd_law_lines, rfl, by decide +kernel, by decide +kernel⟩
noncomputable def lc_law_lines_1 (Flaw_then : GN) : FA := fLc (fRange1 (fCall gLen (fCons (fW (fVar 0)) fNil))) (fName 2) fYes (fTup (fCons (fOp gIx (fVar 0) (fVar 2)) (fCons (fVar 2) fNil))) [2]
noncomputable def lc_law_lines_2 (Flaw_then : GN) : FA := fLc (fSeq (fVar 0)) (fName 3) fYes (fOp gIxA (fVar 1) (fW (fCall Flaw_then (fCons (fW (fVar 4)) (fCons (fW (fVar 3)) fNil))))) [3]
noncomputable def lc_law_lines_3 (Flaw_then : GN) : FA := fLc (fSeq (fVar 0)) (fName 4) fYes (fOn gTupNS (lc_law_lines_2 Flaw_then)) [4]
noncomputable def g_law_lines (Flaw_then : GN) : FS := (fsSeq (fsAsg (fOn gDictT (lc_law_lines_1 Flaw_then)) (fName 1)) (fsRet (fOn gTupN (lc_law_lines_3 Flaw_then))))
theorem b_law_lines {P : Program} {w : World} {K : Fg} {mg : Str → Option Value} {base : Heap} (T : Tz K mg) (TC : CEnvOk K cenv) {Flaw_then : GN} (k_law_then : Kn P w K mg base "_law_then" 1 ["_law_one", "_law_other"] Flaw_then) {f : Addr} (cdv : Value) (A : Around) (outer : List Env) (s : Shared) (H : Hp) (EX : XK) (hr : Room 1 (A.deeper (envOfC "_law_lines" (defScope s_law_lines) s.heap.objs.size f cdv))) (hG : A.guards = some []) :
    ∃ ts, Ss (cxOf CX0 P w K mg base N_law_lines "_law_lines" (defScope s_law_lines) f cdv A outer s H EX).nox (defBody s_law_lines) ts (g_law_lines Flaw_then) := by
  have hu := hr.units
  exact ⟨_, (ss_cons (s_set 1 nd_law_lines (e_onT (cr_dictT rfl hu) gDictT_ok T.z_dict rfl (l_lc rfl nd_law_lines (i_range1 T.z_range (e_cB call_len gLen_ok T.z_len rfl (a_cons (E.w (e_var 0)) a_nil))) (blkOk_by (own := [("_law_k", 2)]) rfl) (fun _ _ _ _ _ => (g_name 2 nd_law_lines)) (fun _ _ _ _ _ => ts_nil) (fun _ _ _ _ _ => E.to (e_tup (a_cons (e_ix (e_var 0) (e_var 2)) (a_cons (e_var 2) a_nil))) (by first | rfl | (dsimp only [blkK]; done) | (dsimp only [blkK]; rfl)))))) (ss_one (s_ret (e_onT call_tuple_of gTupN_ok T.z_tuple rfl (l_lc rfl nd_law_lines (i_seq (e_var 0)) (blkOk_by (own := [("_law_one", 4)]) rfl) (fun _ _ _ _ _ => (g_name 4 nd_law_lines)) (fun _ _ _ _ _ => ts_nil) (fun _ _ _ _ _ => E.to (e_onT call_tupS gTupNS_ok T.z_tuple rfl (l_lc rfl nd_law_lines (i_seq (e_var 0)) (blkOk_by (own := [("_law_other", 3)]) rfl) (fun _ _ _ _ _ => (g_name 3 nd_law_lines)) (fun _ _ _ _ _ => ts_nil) (fun _ _ _ _ _ => E.to (e_ixA (hu_of hr) (e_var 1) (E.w (e_callK k_law_then (hr.mono (by decide)) hG (a_cons (E.w (e_var 4)) (a_cons (E.w (e_var 3)) a_nil))))) (by first | rfl | (dsimp only [blkK]; done) | (dsimp only [blkK]; rfl))))) (by first | rfl | (dsimp only [blkK]; done) | (dsimp only [blkK]; rfl))))))))⟩
/-! ### _law_commutators -/
abbrev s_law_commutators : Stmt := topS 39
abbrev N_law_commutators : List Str := ["_law_lines_here", "_law_firsts", "_law_seconds", "_law_backs_here", "_law_got", "_law_one", "_law_other", "_law_first"]
theorem nd_law_commutators : (N_law_commutators).Nodup := by decide +kernel
theorem sc_law_commutators : FnScope N_law_commutators ["_law_lines_here", "_law_firsts", "_law_seconds"] (defScope s_law_commutators) := ⟨rfl, rfl, rfl, nd_law_commutators, rfl, by decide +kernel, by decide +kernel⟩
noncomputable def lb_law_commutators_1 (Flaw_backs : GN) : FS := (fsSeq (fsAsg (fOp gIx (fW (fOp gIx (fVar 0) (fOp gIx (fVar 3) (fVar 5)))) (fOp gIx (fVar 3) (fVar 6))) (fName 7)) (fsDrop (fMeth gAppend (fVar 4) (fCons (fOp gIx (fW (fOp gIx (fVar 0) (fVar 7))) (fOp gIx (fW (fOp gIx (fVar 0) (fVar 5))) (fVar 6))) fNil))))
noncomputable def lp_law_commutators_1 (Flaw_backs : GN) : FS := fsFor (fSeq (fVar 2)) (fName 6) (lb_law_commutators_1 Flaw_backs)
noncomputable def lb_law_commutators_2 (Flaw_backs : GN) : FS := (lp_law_commutators_1 Flaw_backs)
noncomputable def lp_law_commutators_2 (Flaw_backs : GN) : FS := fsFor (fSeq (fVar 1)) (fName 5) (lb_law_commutators_2 Flaw_backs)
noncomputable def g_law_commutators (Flaw_backs : GN) : FS := (fsSeq (fsAsg (fCall Flaw_backs (fCons (fVar 0) fNil)) (fName 3)) (fsSeq (fsAsg (fPut (fLst fNil)) (fName 4)) (fsSeq (lp_law_commutators_2 Flaw_backs) (fsRet (fVar 4)))))
theorem b_law_commutators {P : Program} {w : World} {K : Fg} {mg : Str → Option Value} {base : Heap} (T : Tz K mg) (TC : CEnvOk K cenv) {Flaw_backs : GN} (k_law_backs : Kn P w K mg base "_law_backs" 1 ["_law_lines_here"] Flaw_backs) {f : Addr} (cdv : Value) (A : Around) (outer : List Env) (s : Shared) (H : Hp) (EX : XK) (hr : Room 1 (A.deeper (envOfC "_law_commutators" (defScope s_law_commutators) s.heap.objs.size f cdv))) (hG : A.guards = some []) :
    ∃ ts, Ss (cxOf CX0 P w K mg base N_law_commutators "_law_commutators" (defScope s_law_commutators) f cdv A outer s H EX).nox (defBody s_law_commutators) ts (g_law_commutators Flaw_backs) := by
  have hu := hr.units
  exact ⟨_, (ss_cons (s_set 3 nd_law_commutators (e_callK k_law_backs (hr.mono (by decide)) hG (a_cons (e_var 0) a_nil))) (ss_cons (s_set 4 nd_law_commutators (L.put (l_lst a_nil))) (ss_cons (s_for PassesOwn.never rfl (i_seq (e_var 1)) (g_name 5 nd_law_commutators) (ss_one (s_for PassesOwn.never rfl (i_seq (e_var 2)) (g_name 6 nd_law_commutators) (ss_cons (s_set 7 nd_law_commutators (e_ix (E.w (e_ix (e_var 0) (e_ix (e_var 3) (e_var 5)))) (e_ix (e_var 3) (e_var 6)))) (ss_one (s_expr (e_append (e_var 4) (e_ix (E.w (e_ix (e_var 0) (e_var 7))) (e_ix (E.w (e_ix (e_var 0) (e_var 5))) (e_var 6)))))))))) (ss_one (s_ret (e_var 4))))))⟩
/-! ### _law_are -/
abbrev s_law_are : Stmt := topS 42
abbrev N_law_are : List Str := ["_law_told", "_law_due", "_law_one", "_law_other"]
theorem nd_law_are : (N_law_are).Nodup := by decide +kernel
theorem sc_law_are : FnScope N_law_are ["_law_told", "_law_due"] (defScope s_law_are) := ⟨rfl, rfl, rfl, nd_law_are, rfl, by decide +kernel, by decide +kernel⟩
noncomputable def lc_law_are_1 (Flaw_is : GN) : FA := fLc (fZip (fCons (fVar 0) (fCons (fVar 1) fNil))) (fTupG 2 (fsCons (fName 2) (fsCons (fName 3) fsNil))) fYes (fCall Flaw_is (fCons (fVar 2) (fCons (fVar 3) fNil))) [2, 3]
noncomputable def g_law_are (Flaw_is : GN) : FS := (fsSeq (fsIf (fOrT (fNotT (fTru (fCall (gIsiC cenv) (fCons (fVar 0) (fCons (fC (.ty "tuple")) fNil))))) (fTest (fOp gNeS (fCall gLen (fCons (fVar 0) fNil)) (fCall gLen (fCons (fVar 1) fNil))))) (fsRet (fC (.bl false))) fsNext) (fsRet (fOn gAll (lc_law_are_1 Flaw_is))))
theorem b_law_are {P : Program} {w : World} {K : Fg} {mg : Str → Option Value} {base : Heap} (T : Tz K mg) (TC : CEnvOk K cenv) {Flaw_is : GN} (k_law_is : Kn P w K mg base "_law_is" 1 ["_law_told", "_law_due"] Flaw_is) {f : Addr} (cdv : Value) (A : Around) (outer : List Env) (s : Shared) (H : Hp) (EX : XK) (hr : Room 1 (A.deeper (envOfC "_law_are" (defScope s_law_are) s.heap.objs.size f cdv))) (hG : A.guards = some []) :
    ∃ ts, Ss (cxOf CX0 P w K mg base N_law_are "_law_are" (defScope s_law_are) f cdv A outer s H EX).nox (defBody s_law_are) ts (g_law_are Flaw_is) := by
  have hu := hr.units
  exact ⟨_, (ss_cons (s_if (TW.t (w_or (t_not (t_tru (e_cB call_isi (gIsiC_ok TC) T.z_isinstance rfl (a_cons (e_var 0) (a_cons (e_ty T.z_tuple rfl) a_nil))))) (w_or1 (t_cmp (cm_neS hu) (e_cB call_len gLen_ok T.z_len rfl (a_cons (e_var 0) a_nil)) (e_cB call_len gLen_ok T.z_len rfl (a_cons (e_var 1) a_nil)))))) (ss_one (s_ret e_bl)) ss_nil) (ss_one (s_ret (e_onB (cr_all rfl) gAll_ok T.z_all rfl (l_lc rfl nd_law_are (i_zipT T.z_zip (a_cons (e_var 0) (a_cons (e_var 1) a_nil))) (blkOk_by (own := [("_law_one", 2), ("_law_other", 3)]) rfl) (fun _ _ _ _ _ => G.to (g_tup rfl (gs_cons (g_name 2 nd_law_are) (gs_cons (g_name 3 nd_law_are) gs_nil))) (by first | rfl | (dsimp only [blkK]; done) | (dsimp only [blkK]; rfl))) (fun _ _ _ _ _ => ts_nil) (fun _ _ _ _ _ => E.to (e_callK k_law_is (hr.mono (by decide)) hG (a_cons (e_var 2) (a_cons (e_var 3) a_nil))) (by first | rfl | (dsimp only [blkK]; done) | (dsimp only [blkK]; rfl))))))))⟩
/-! ### is_rising -/
abbrev s_is_rising : Stmt := topS 8
abbrev N_is_rising : List Str := ["thing", "many", "number", "one", "other"]
theorem nd_is_rising : (N_is_rising).Nodup := by decide +kernel
theorem sc_is_rising : FnScope N_is_rising ["thing", "many"] (defScope s_is_rising) := ⟨rfl, rfl, rfl, nd_is_rising, rfl, by decide +kernel, by decide +kernel⟩
noncomputable def lc_is_rising_1 (Fis_between : GN) : FA := fLc (fSeq (fVar 0)) (fName 2) fYes (fCall Fis_between (fCons (fVar 2) (fCons (fC (.int 0)) (fCons (fOp gSub (fVar 1) (fC (.int 1))) fNil)))) [2]
noncomputable def lc_is_rising_2 (Fis_between : GN) : FA := fLc (fZip (fCons (fVar 0) (fCons (fSl (fVar 0) (fPart (fC (.int 1))) fNoPart) fNil))) (fTupG 2 (fsCons (fName 3) (fsCons (fName 4) fsNil))) fYes (fOp gLt (fVar 3) (fVar 4)) [3, 4]
noncomputable def g_is_rising (Fis_between : GN) : FS := (fsSeq (fsIf (fOrT (fNotT (fTru (fCall (gIsiC cenv) (fCons (fVar 0) (fCons (fC (.ty "tuple")) fNil))))) (fNotT (fTru (fOn gAll (lc_is_rising_1 Fis_between))))) (fsRet (fC (.bl false))) fsNext) (fsRet (fOn gAll (lc_is_rising_2 Fis_between))))
theorem b_is_rising {P : Program} {w : World} {K : Fg} {mg : Str → Option Value} {base : Heap} (T : Tz K mg) (TC : CEnvOk K cenv) {Fis_between : GN} (k_is_between : Kn P w K mg base "is_between" 2 ["thing", "low", "high"] Fis_between) {f : Addr} (cdv : Value) (A : Around) (outer : List Env) (s : Shared) (H : Hp) (EX : XK) (hr : Room 2 (A.deeper (envOfC "is_rising" (defScope s_is_rising) s.heap.objs.size f cdv))) (hG : A.guards = some []) :
    ∃ ts, Ss (cxOf CX0 P w K mg base N_is_rising "is_rising" (defScope s_is_rising) f cdv A outer s H EX).nox (defBody s_is_rising) ts (g_is_rising Fis_between) := by
  have hu := hr.units
  exact ⟨_, (ss_cons (s_if (TW.t (w_or (t_not (t_tru (e_cB call_isi (gIsiC_ok TC) T.z_isinstance rfl (a_cons (e_var 0) (a_cons (e_ty T.z_tuple rfl) a_nil))))) (w_or1 (t_not (t_tru (e_onB (cr_all rfl) gAll_ok T.z_all rfl (l_lc rfl nd_is_rising (i_seq (e_var 0)) (blkOk_by (own := [("number", 2)]) rfl) (fun _ _ _ _ _ => (g_name 2 nd_is_rising)) (fun _ _ _ _ _ => ts_nil) (fun _ _ _ _ _ => E.to (e_callK k_is_between (hr.mono (by decide)) hG (a_cons (e_var 2) (a_cons e_int (a_cons (e_sub (e_var 1) e_int) a_nil)))) (by first | rfl | (dsimp only [blkK]; done) | (dsimp only [blkK]; rfl)))))))))) (ss_one (s_ret e_bl)) ss_nil) (ss_one (s_ret (e_onB (cr_all rfl) gAll_ok T.z_all rfl (l_lc rfl nd_is_rising (i_zipT T.z_zip (a_cons (e_var 0) (a_cons (e_sl (e_var 0) (o_some e_int) o_none) a_nil))) (blkOk_by (own := [("one", 3), ("other", 4)]) rfl) (fun _ _ _ _ _ => G.to (g_tup rfl (gs_cons (g_name 3 nd_is_rising) (gs_cons (g_name 4 nd_is_rising) gs_nil))) (by first | rfl | (dsimp only [blkK]; done) | (dsimp only [blkK]; rfl))) (fun _ _ _ _ _ => ts_nil) (fun _ _ _ _ _ => E.to (e_cmp cm_lt (e_var 3) (e_var 4)) (by first | rfl | (dsimp only [blkK]; done) | (dsimp only [blkK]; rfl))))))))⟩
/-! ### _is_line -/
abbrev s_is_line : Stmt := topS 14
abbrev N_is_line : List Str := ["line", "many", "number"]
theorem nd_is_line : (N_is_line).Nodup := by decide +kernel
theorem sc_is_line : FnScope N_is_line ["line", "many"] (defScope s_is_line) := ⟨rfl, rfl, rfl, nd_is_line, rfl, by decide +kernel, by decide +kernel⟩
noncomputable def lc_is_line_1 (Fis_between : GN) : FA := fLc (fSeq (fVar 0)) (fName 2) fYes (fCall Fis_between (fCons (fVar 2) (fCons (fC (.int 0)) (fCons (fOp gSub (fVar 1) (fC (.int 1))) fNil)))) [2]
noncomputable def g_is_line (Fis_between : GN) : FS := (fsSeq (fsIf (fOrT (fNotT (fTru (fCall (gIsiC cenv) (fCons (fVar 0) (fCons (fC (.ty "tuple")) fNil))))) (fTest (fOp gNeS (fCall gLen (fCons (fVar 0) fNil)) (fVar 1)))) (fsRet (fC (.bl false))) fsNext) (fsRet (fOn gAll (lc_is_line_1 Fis_between))))
theorem b_is_line {P : Program} {w : World} {K : Fg} {mg : Str → Option Value} {base : Heap} (T : Tz K mg) (TC : CEnvOk K cenv) {Fis_between : GN} (k_is_between : Kn P w K mg base "is_between" 2 ["thing", "low", "high"] Fis_between) {f : Addr} (cdv : Value) (A : Around) (outer : List Env) (s : Shared) (H : Hp) (EX : XK) (hr : Room 2 (A.deeper (envOfC "_is_line" (defScope s_is_line) s.heap.objs.size f cdv))) (hG : A.guards = some []) :
    ∃ ts, Ss (cxOf CX0 P w K mg base N_is_line "_is_line" (defScope s_is_line) f cdv A outer s H EX).nox (defBody s_is_line) ts (g_is_line Fis_between) := by
  have hu := hr.units
  exact ⟨_, (ss_cons (s_if (TW.t (w_or (t_not (t_tru (e_cB call_isi (gIsiC_ok TC) T.z_isinstance rfl (a_cons (e_var 0) (a_cons (e_ty T.z_tuple rfl) a_nil))))) (w_or1 (t_cmp (cm_neS hu) (e_cB call_len gLen_ok T.z_len rfl (a_cons (e_var 0) a_nil)) (e_var 1))))) (ss_one (s_ret e_bl)) ss_nil) (ss_one (s_ret (e_onB (cr_all rfl) gAll_ok T.z_all rfl (l_lc rfl nd_is_line (i_seq (e_var 0)) (blkOk_by (own := [("number", 2)]) rfl) (fun _ _ _ _ _ => (g_name 2 nd_is_line)) (fun _ _ _ _ _ => ts_nil) (fun _ _ _ _ _ => E.to (e_callK k_is_between (hr.mono (by decide)) hG (a_cons (e_var 2) (a_cons e_int (a_cons (e_sub (e_var 1) e_int) a_nil)))) (by first | rfl | (dsimp only [blkK]; done) | (dsimp only [blkK]; rfl))))))))⟩
/-! ### _series -/
abbrev s_series : Stmt := topS 26
abbrev N_series : List Str := ["lines", "with_all", "found", "further"]
theorem nd_series : (N_series).Nodup := by decide +kernel
theorem sc_series : FnScope N_series ["lines", "with_all"] (defScope s_series) := ⟨rfl, rfl, rfl, nd_series, rfl, by decide +kernel, by decide +kernel⟩
noncomputable def wt_series_1 (Fcommutators : GN) : FT := (fTest (fOp gNeS (fVar 3) (fOp gIx (fVar 2) (fUn gNeg (fC (.int 1))))))
noncomputable def wb_series_1 (Fcommutators : GN) : FS := (fsSeq (fsDrop (fMeth gAppend (fVar 2) (fCons (fVar 3) fNil))) (fsAsg (fCall Fcommutators (fCons (fVar 0) (fCons (fVar 3) (fCons (fIf (fTru (fVar 1)) (fOp gIx (fVar 2) (fC (.int 0))) (fVar 3)) fNil)))) (fName 3)))
noncomputable def g_series (Fcommutators : GN) : FS := (fsSeq (fsAsg (fPut (fLst (fCons (fTRg1 (fCall gLen (fCons (fW (fVar 0)) fNil))) fNil))) (fName 2)) (fsSeq (fsAsg (fCall Fcommutators (fCons (fVar 0) (fCons (fOp gIx (fVar 2) (fC (.int 0))) (fCons (fOp gIx (fVar 2) (fC (.int 0))) fNil)))) (fName 3)) (fsSeq (wh (wt_series_1 Fcommutators) (wb_series_1 Fcommutators) fuel) (fsRet (fCall gTupOf (fCons (fVar 2) fNil))))))
theorem b_series {P : Program} {w : World} {K : Fg} {mg : Str → Option Value} {base : Heap} (T : Tz K mg) (TC : CEnvOk K cenv) {Fcommutators : GN} (k_commutators : Kn P w K mg base "_commutators" 2 ["lines", "some", "others"] Fcommutators) {f : Addr} (cdv : Value) (A : Around) (outer : List Env) (s : Shared) (H : Hp) (EX : XK) (hr : Room 2 (A.deeper (envOfC "_series" (defScope s_series) s.heap.objs.size f cdv))) (hG : A.guards = some []) :
    ∃ ts, Ss (cxOf CX0 P w K mg base N_series "_series" (defScope s_series) f cdv A outer s H EX).nox (defBody s_series) ts (g_series Fcommutators) := by
  have hu := hr.units
  exact ⟨_, (ss_cons (s_set 2 nd_series (L.put (l_lst (a_cons (e_trg1 rfl T.z_tuple T.z_range (e_cB call_len gLen_ok T.z_len rfl (a_cons (E.w (e_var 0)) a_nil))) a_nil)))) (ss_cons (s_set 3 nd_series (e_callK k_commutators (hr.mono (by decide)) hG (a_cons (e_var 0) (a_cons (e_ix (e_var 2) e_int) (a_cons (e_ix (e_var 2) e_int) a_nil))))) (ss_cons (s_while fuel PassesOwn.never (t_cmp (cm_neS hu) (e_var 3) (e_ix (e_var 2) (e_neg e_int))) (ss_cons (s_expr (e_append (e_var 2) (e_var 3))) (ss_one (s_set 3 nd_series (e_callK k_commutators (hr.mono (by decide)) hG (a_cons (e_var 0) (a_cons (e_var 3) (a_cons (e_if (t_tru (e_var 1)) (e_ix (e_var 2) e_int) (e_var 3)) a_nil)))))))) (ss_one (s_ret (e_cT call_tuple_of gTupOf_ok T.z_tuple rfl (a_cons (e_var 2) a_nil)))))))⟩
/-! ### _law_small -/
abbrev s_law_small : Stmt := topS 36
abbrev N_law_small : List Str := ["_law_pool_here", "_law_most", "_law_points", "_law_moves", "_law_k", "_law_members_here"]
theorem nd_law_small : (N_law_small).Nodup := by decide +kernel
theorem sc_law_small : FnScope N_law_small ["_law_pool_here", "_law_most"] (defScope s_law_small) := ⟨rfl, rfl, rfl, nd_law_small, rfl, by decide +kernel, by decide +kernel⟩
noncomputable def lc_law_small_1 (Flaw_take : GN) (Flaw_move : GN) (Flaw_members : GN) : FA := fLc (fRange1 (fCall Flaw_take (fCons (fVar 0) (fCons (fC (.int 4)) fNil)))) (fName 4) fYes (fCall Flaw_move (fCons (fVar 0) (fCons (fVar 2) fNil))) [4]
noncomputable def wt_law_small_1 (Flaw_take : GN) (Flaw_move : GN) (Flaw_members : GN) : FT := (fTest (fUn gIsN (fVar 5)))
noncomputable def wb_law_small_1 (Flaw_take : GN) (Flaw_move : GN) (Flaw_members : GN) : FS := (fsSeq (fsAsg (fSl (fVar 3) (fPart (fC (.int 1))) fNoPart) (fName 3)) (fsAsg (fCall Flaw_members (fCons (fVar 2) (fCons (fVar 3) (fCons (fVar 1) fNil)))) (fName 5)))
noncomputable def g_law_small (Flaw_take : GN) (Flaw_move : GN) (Flaw_members : GN) : FS := (fsSeq (fsAsg (fOp gAdd (fC (.int 1)) (fCall Flaw_take (fCons (fVar 0) (fCons (fC (.int 7)) fNil)))) (fName 2)) (fsSeq (fsAsg (fPut (lc_law_small_1 Flaw_take Flaw_move Flaw_members)) (fName 3)) (fsSeq (fsAsg (fCall Flaw_members (fCons (fVar 2) (fCons (fVar 3) (fCons (fVar 1) fNil)))) (fName 5)) (fsSeq (wh (wt_law_small_1 Flaw_take Flaw_move Flaw_members) (wb_law_small_1 Flaw_take Flaw_move Flaw_members) fuel) (fsRet (fVar 5))))))
theorem b_law_small {P : Program} {w : World} {K : Fg} {mg : Str → Option Value} {base : Heap} (T : Tz K mg) (TC : CEnvOk K cenv) {Flaw_take : GN} (k_law_take : Kn P w K mg base "_law_take" 1 ["_law_pool_here", "_law_many"] Flaw_take) {Flaw_move : GN} (k_law_move : Kn P w K mg base "_law_move" 2 ["_law_pool_here", "_law_points"] Flaw_move) {Flaw_members : GN} (k_law_members : Kn P w K mg base "_law_members" 2 ["_law_points", "_law_moves", "_law_most"] Flaw_members) {f : Addr} (cdv : Value) (A : Around) (outer : List Env) (s : Shared) (H : Hp) (EX : XK) (hr : Room 2 (A.deeper (envOfC "_law_small" (defScope s_law_small) s.heap.objs.size f cdv))) (hG : A.guards = some []) :
    ∃ ts, Ss (cxOf CX0 P w K mg base N_law_small "_law_small" (defScope s_law_small) f cdv A outer s H EX).nox (defBody s_law_small) ts (g_law_small Flaw_take Flaw_move Flaw_members) := by
  have hu := hr.units
  exact ⟨_, (ss_cons (s_set 2 nd_law_small (e_add e_int (e_callK k_law_take (hr.mono (by decide)) hG (a_cons (e_var 0) (a_cons e_int a_nil))))) (ss_cons (s_setLc 3 rfl nd_law_small (i_range1 T.z_range (e_callK k_law_take (hr.mono (by decide)) hG (a_cons (e_var 0) (a_cons e_int a_nil)))) (blkOk_by (own := [("_law_k", 4)]) rfl) (fun _ _ _ _ _ => (g_name 4 nd_law_small)) (fun _ _ _ _ _ => ts_nil) (fun _ _ _ _ _ => E.to (e_callK k_law_move (hr.mono (by decide)) hG (a_cons (e_var 0) (a_cons (e_var 2) a_nil))) (by first | rfl | (dsimp only [blkK]; done) | (dsimp only [blkK]; rfl)))) (ss_cons (s_set 5 nd_law_small (e_callK k_law_members (hr.mono (by decide)) hG (a_cons (e_var 2) (a_cons (e_var 3) (a_cons (e_var 1) a_nil))))) (ss_cons (s_while fuel PassesOwn.never (t_isN (e_var 5)) (ss_cons (s_set 3 nd_law_small (e_sl (e_var 3) (o_some e_int) o_none)) (ss_one (s_set 5 nd_law_small (e_callK k_law_members (hr.mono (by decide)) hG (a_cons (e_var 2) (a_cons (e_var 3) (a_cons (e_var 1) a_nil)))))))) (ss_one (s_ret (e_var 5)))))))⟩
/-! ### _law_series -/
abbrev s_law_series : Stmt := topS 40
abbrev N_law_series : List Str := ["_law_lines_here", "_law_lower", "_law_whole", "_law_got", "_law_other", "_law_following"]
theorem nd_law_series : (N_law_series).Nodup := by decide +kernel
theorem sc_law_series : FnScope N_law_series ["_law_lines_here", "_law_lower"] (defScope s_law_series) := ⟨rfl, rfl, rfl, nd_law_series, rfl, by decide +kernel, by decide +kernel⟩
noncomputable def wt_law_series_1 (Flaw_made : GN) (Flaw_commutators : GN) : FT := (fTru (fC (.bl true)))
noncomputable def wb_law_series_1 (Flaw_made : GN) (Flaw_commutators : GN) : FS := (fsSeq (fsAsg (fIf (fTru (fVar 1)) (fVar 2) (fOp gIx (fVar 3) (fUn gNeg (fC (.int 1))))) (fName 4)) (fsSeq (fsAsg (fCall Flaw_made (fCons (fVar 0) (fCons (fCall Flaw_commutators (fCons (fVar 0) (fCons (fOp gIx (fVar 3) (fUn gNeg (fC (.int 1)))) (fCons (fVar 4) fNil)))) fNil))) (fName 5)) (fsSeq (fsIf (fTest (fOp gEqS (fVar 5) (fOp gIx (fVar 3) (fUn gNeg (fC (.int 1)))))) (fsRet (fCall gTupOf (fCons (fVar 3) fNil))) fsNext) (fsDrop (fMeth gAppend (fVar 3) (fCons (fVar 5) fNil))))))
noncomputable def g_law_series (Flaw_made : GN) (Flaw_commutators : GN) : FS := (fsSeq (fsAsg (fTRg1 (fCall gLen (fCons (fW (fVar 0)) fNil))) (fName 2)) (fsSeq (fsAsg (fPut (fLst (fCons (fVar 2) fNil))) (fName 3)) (wh (wt_law_series_1 Flaw_made Flaw_commutators) (wb_law_series_1 Flaw_made Flaw_commutators) fuel)))
theorem b_law_series {P : Program} {w : World} {K : Fg} {mg : Str → Option Value} {base : Heap} (T : Tz K mg) (TC : CEnvOk K cenv) {Flaw_made : GN} (k_law_made : Kn P w K mg base "_law_made" 1 ["_law_lines_here", "_law_part"] Flaw_made) {Flaw_commutators : GN} (k_law_commutators : Kn P w K mg base "_law_commutators" 2 ["_law_lines_here", "_law_firsts", "_law_seconds"] Flaw_commutators) {f : Addr} (cdv : Value) (A : Around) (outer : List Env) (s : Shared) (H : Hp) (EX : XK) (hr : Room 2 (A.deeper (envOfC "_law_series" (defScope s_law_series) s.heap.objs.size f cdv))) (hG : A.guards = some []) :
    ∃ ts, Ss (cxOf CX0 P w K mg base N_law_series "_law_series" (defScope s_law_series) f cdv A outer s H EX).nox (defBody s_law_series) ts (g_law_series Flaw_made Flaw_commutators) := by
  have hu := hr.units
  exact ⟨_, (ss_cons (s_set 2 nd_law_series (e_trg1 rfl T.z_tuple T.z_range (e_cB call_len gLen_ok T.z_len rfl (a_cons (E.w (e_var 0)) a_nil)))) (ss_cons (s_set 3 nd_law_series (L.put (l_lst (a_cons (e_var 2) a_nil)))) (ss_one (s_while fuel PassesOwn.never (t_tru e_bl) (ss_cons (s_set 4 nd_law_series (e_if (t_tru (e_var 1)) (e_var 2) (e_ix (e_var 3) (e_neg e_int)))) (ss_cons (s_set 5 nd_law_series (e_callK k_law_made (hr.mono (by decide)) hG (a_cons (e_var 0) (a_cons (e_callK k_law_commutators (hr.mono (by decide)) hG (a_cons (e_var 0) (a_cons (e_ix (e_var 3) (e_neg e_int)) (a_cons (e_var 4) a_nil)))) a_nil)))) (ss_cons (s_if (t_cmp (cm_eqS hu) (e_var 5) (e_ix (e_var 3) (e_neg e_int))) (ss_one (s_ret (e_cT call_tuple_of gTupOf_ok T.z_tuple rfl (a_cons (e_var 3) a_nil)))) ss_nil) (ss_one (s_expr (e_append (e_var 3) (e_var 5)))))))))))⟩
/-! ### _has_form -/
abbrev s_has_form : Stmt := topS 13
abbrev N_has_form : List Str := ["lines", "line"]
theorem nd_has_form : (N_has_form).Nodup := by decide +kernel
theorem sc_has_form : FnScope N_has_form ["lines"] (defScope s_has_form) := ⟨rfl, rfl, rfl, nd_has_form, rfl, by decide +kernel, by decide +kernel⟩
noncomputable def lc_has_form_1 (Fis_line : GN) : FA := fLc (fSeq (fVar 0)) (fName 1) fYes (fCall Fis_line (fCons (fW (fVar 1)) (fCons (fCall gLen (fCons (fW (fVar 0)) fNil)) fNil))) [1]
noncomputable def g_has_form (Fis_line : GN) : FS := (fsSeq (fsIf (fOrT (fNotT (fTru (fCall (gIsiC cenv) (fCons (fW (fVar 0)) (fCons (fC (.ty "tuple")) fNil))))) (fNotT (fTest (fChain gLe gLe (fC (.int 1)) (fCall gLen (fCons (fW (fVar 0)) fNil)) (fC (.int 48)))))) (fsRet (fC (.bl false))) fsNext) (fsRet (fOn gAll (lc_has_form_1 Fis_line))))
theorem b_has_form {P : Program} {w : World} {K : Fg} {mg : Str → Option Value} {base : Heap} (T : Tz K mg) (TC : CEnvOk K cenv) {Fis_line : GN} (k_is_line : Kn P w K mg base "_is_line" 3 ["line", "many"] Fis_line) {f : Addr} (cdv : Value) (A : Around) (outer : List Env) (s : Shared) (H : Hp) (EX : XK) (hr : Room 3 (A.deeper (envOfC "_has_form" (defScope s_has_form) s.heap.objs.size f cdv))) (hG : A.guards = some []) :
    ∃ ts, Ss (cxOf CX0 P w K mg base N_has_form "_has_form" (defScope s_has_form) f cdv A outer s H EX).nox (defBody s_has_form) ts (g_has_form Fis_line) := by
  have hu := hr.units
  exact ⟨_, (ss_cons (s_if (TW.t (w_or (t_not (t_tru (e_cB call_isi (gIsiC_ok TC) T.z_isinstance rfl (a_cons (E.w (e_var 0)) (a_cons (e_ty T.z_tuple rfl) a_nil))))) (w_or1 (t_not (t_chain cm_le cm_le e_int (e_cB call_len gLen_ok T.z_len rfl (a_cons (E.w (e_var 0)) a_nil)) (e_gint T.c_MOST_ORDER.choose_spec)))))) (ss_one (s_ret e_bl)) ss_nil) (ss_one (s_ret (e_onB (cr_all rfl) gAll_ok T.z_all rfl (l_lc rfl nd_has_form (i_seq (e_var 0)) (blkOk_by (own := [("line", 1)]) rfl) (fun _ _ _ _ _ => (g_name 1 nd_has_form)) (fun _ _ _ _ _ => ts_nil) (fun _ _ _ _ _ => E.to (e_callK k_is_line (hr.mono (by decide)) hG (a_cons (E.w (e_var 1)) (a_cons (e_cB call_len gLen_ok T.z_len rfl (a_cons (E.w (e_var 0)) a_nil)) a_nil))) (by first | rfl | (dsimp only [blkK]; done) | (dsimp only [blkK]; rfl))))))))⟩
/-! ### _is_part -/
abbrev s_is_part : Stmt := topS 19
abbrev N_is_part : List Str := ["table", "thing"]
theorem nd_is_part : (N_is_part).Nodup := by decide +kernel
theorem sc_is_part : FnScope N_is_part ["table", "thing"] (defScope s_is_part) := ⟨rfl, rfl, rfl, nd_is_part, rfl, by decide +kernel, by decide +kernel⟩
noncomputable def g_is_part (Fis_rising : GN) : FS := (fsRet (fCall Fis_rising (fCons (fVar 1) (fCons (fCall gLen (fCons (fW (fFld cenv "lines" (fVar 0))) fNil)) fNil))))
theorem b_is_part {P : Program} {w : World} {K : Fg} {mg : Str → Option Value} {base : Heap} (T : Tz K mg) (TC : CEnvOk K cenv) {Fis_rising : GN} (k_is_rising : Kn P w K mg base "is_rising" 3 ["thing", "many"] Fis_rising) {f : Addr} (cdv : Value) (A : Around) (outer : List Env) (s : Shared) (H : Hp) (EX : XK) (hr : Room 3 (A.deeper (envOfC "_is_part" (defScope s_is_part) s.heap.objs.size f cdv))) (hG : A.guards = some []) :
    ∃ ts, Ss (cxOf CX0 P w K mg base N_is_part "_is_part" (defScope s_is_part) f cdv A outer s H EX).nox (defBody s_is_part) ts (g_is_part Fis_rising) := by
  have hu := hr.units
  exact ⟨_, (ss_one (s_ret (e_callK k_is_rising (hr.mono (by decide)) hG (a_cons (e_var 1) (a_cons (e_cB call_len gLen_ok T.z_len rfl (a_cons (E.w (e_fld TC (e_var 0))) a_nil)) a_nil)))))⟩
/-! ### derived_series -/
abbrev s_derived_series : Stmt := topS 24
abbrev N_derived_series : List Str := ["table"]
theorem nd_derived_series : (N_derived_series).Nodup := by decide +kernel
theorem sc_derived_series : FnScope N_derived_series ["table"] (defScope s_derived_series) := ⟨rfl, rfl, rfl, nd_derived_series, rfl, by decide +kernel, by decide +kernel⟩
noncomputable def g_derived_series (Fcheck_table : GN) (Fseries : GN) : FS := (fsSeq (fsDrop (fCall Fcheck_table (fCons (fVar 0) fNil))) (fsRet (fCall Fseries (fCons (fFld cenv "lines" (fVar 0)) (fCons (fC (.bl false)) fNil)))))
theorem b_derived_series {P : Program} {w : World} {K : Fg} {mg : Str → Option Value} {base : Heap} (T : Tz K mg) (TC : CEnvOk K cenv) {Fcheck_table : GN} (k_check_table : Kn P w K mg base "check_table" 1 ["thing"] Fcheck_table) {Fseries : GN} (k_series : Kn P w K mg base "_series" 3 ["lines", "with_all"] Fseries) {f : Addr} (cdv : Value) (A : Around) (outer : List Env) (s : Shared) (H : Hp) (EX : XK) (hr : Room 3 (A.deeper (envOfC "derived_series" (defScope s_derived_series) s.heap.objs.size f cdv))) (hG : A.guards = some []) :
    ∃ ts, Ss (cxOf CX0 P w K mg base N_derived_series "derived_series" (defScope s_derived_series) f cdv A outer s H EX).nox (defBody s_derived_series) ts (g_derived_series Fcheck_table Fseries) := by
  have hu := hr.units
  exact ⟨_, (ss_cons (s_expr (e_callK k_check_table (hr.mono (by decide)) hG (a_cons (e_var 0) a_nil))) (ss_one (s_ret (e_callK k_series (hr.mono (by decide)) hG (a_cons (e_fld TC (e_var 0)) (a_cons e_bl a_nil))))))⟩
/-! ### lower_series -/
abbrev s_lower_series : Stmt := topS 25
abbrev N_lower_series : List Str := ["table"]
theorem nd_lower_series : (N_lower_series).Nodup := by decide +kernel
theorem sc_lower_series : FnScope N_lower_series ["table"] (defScope s_lower_series) := ⟨rfl, rfl, rfl, nd_lower_series, rfl, by decide +kernel, by decide +kernel⟩
noncomputable def g_lower_series (Fcheck_table : GN) (Fseries : GN) : FS := (fsSeq (fsDrop (fCall Fcheck_table (fCons (fVar 0) fNil))) (fsRet (fCall Fseries (fCons (fFld cenv "lines" (fVar 0)) (fCons (fC (.bl true)) fNil)))))
theorem b_lower_series {P : Program} {w : World} {K : Fg} {mg : Str → Option Value} {base : Heap} (T : Tz K mg) (TC : CEnvOk K cenv) {Fcheck_table : GN} (k_check_table : Kn P w K mg base "check_table" 1 ["thing"] Fcheck_table) {Fseries : GN} (k_series : Kn P w K mg base "_series" 3 ["lines", "with_all"] Fseries) {f : Addr} (cdv : Value) (A : Around) (outer : List Env) (s : Shared) (H : Hp) (EX : XK) (hr : Room 3 (A.deeper (envOfC "lower_series" (defScope s_lower_series) s.heap.objs.size f cdv))) (hG : A.guards = some []) :
    ∃ ts, Ss (cxOf CX0 P w K mg base N_lower_series "lower_series" (defScope s_lower_series) f cdv A outer s H EX).nox (defBody s_lower_series) ts (g_lower_series Fcheck_table Fseries) := by
  have hu := hr.units
  exact ⟨_, (ss_cons (s_expr (e_callK k_check_table (hr.mono (by decide)) hG (a_cons (e_var 0) a_nil))) (ss_one (s_ret (e_callK k_series (hr.mono (by decide)) hG (a_cons (e_fld TC (e_var 0)) (a_cons e_bl a_nil))))))⟩
/-! ### fault -/
abbrev s_fault : Stmt := topS 12
abbrev N_fault : List Str := ["lines", "one", "line"]
theorem nd_fault : (N_fault).Nodup := by decide +kernel
theorem sc_fault : FnScope N_fault ["lines"] (defScope s_fault) := ⟨rfl, rfl, rfl, nd_fault, rfl, by decide +kernel, by decide +kernel⟩
noncomputable def lb_fault_1 (Fhas_form : GN) (Funlike_three : GN) : FS := (fsIf (fOrT (fTest (fOp gNeS (fOp gIx (fW (fOp gIx (fVar 0) (fC (.int 0)))) (fVar 1)) (fVar 1))) (fTest (fOp gNeS (fOp gIx (fW (fOp gIx (fVar 0) (fVar 1))) (fC (.int 0))) (fVar 1)))) (fsRet (fTup (fCons (fC (.str "neutral")) (fCons (fVar 1) fNil)))) fsNext)
noncomputable def lp_fault_1 (Fhas_form : GN) (Funlike_three : GN) : FS := fsFor (fRange1 (fCall gLen (fCons (fW (fVar 0)) fNil))) (fName 1) (lb_fault_1 Fhas_form Funlike_three)
noncomputable def lb_fault_2 (Fhas_form : GN) (Funlike_three : GN) : FS := (fsIf (fTest (fOp (gIn true) (fC (.int 0)) (fW (fVar 2)))) (fsRet (fTup (fCons (fC (.str "back")) (fCons (fVar 1) fNil)))) fsNext)
noncomputable def lp_fault_2 (Fhas_form : GN) (Funlike_three : GN) : FS := fsFor (fEnum (fVar 0)) (fTupG 2 (fsCons (fName 1) (fsCons (fName 2) fsNil))) (lb_fault_2 Fhas_form Funlike_three)
noncomputable def g_fault (Fhas_form : GN) (Funlike_three : GN) : FS := (fsSeq (fsIf (fNotT (fTru (fCall Fhas_form (fCons (fVar 0) fNil)))) (fsRet (fTup (fCons (fC (.str "form")) fNil))) fsNext) (fsSeq (lp_fault_1 Fhas_form Funlike_three) (fsSeq (lp_fault_2 Fhas_form Funlike_three) (fsRet (fCall Funlike_three (fCons (fVar 0) fNil))))))
theorem b_fault {P : Program} {w : World} {K : Fg} {mg : Str → Option Value} {base : Heap} (T : Tz K mg) (TC : CEnvOk K cenv) {Fhas_form : GN} (k_has_form : Kn P w K mg base "_has_form" 4 ["lines"] Fhas_form) {Funlike_three : GN} (k_unlike_three : Kn P w K mg base "_unlike_three" 1 ["lines"] Funlike_three) {f : Addr} (cdv : Value) (A : Around) (outer : List Env) (s : Shared) (H : Hp) (EX : XK) (hr : Room 4 (A.deeper (envOfC "fault" (defScope s_fault) s.heap.objs.size f cdv))) (hG : A.guards = some []) :
    ∃ ts, Ss (cxOf CX0 P w K mg base N_fault "fault" (defScope s_fault) f cdv A outer s H EX).nox (defBody s_fault) ts (g_fault Fhas_form Funlike_three) := by
  have hu := hr.units
  exact ⟨_, (ss_cons (s_if (t_not (t_tru (e_callK k_has_form (hr.mono (by decide)) hG (a_cons (e_var 0) a_nil)))) (ss_one (s_ret (e_tup (a_cons e_str a_nil)))) ss_nil) (ss_cons (s_for PassesOwn.never rfl (i_range1 T.z_range (e_cB call_len gLen_ok T.z_len rfl (a_cons (E.w (e_var 0)) a_nil))) (g_name 1 nd_fault) (ss_one (s_if (TW.t (w_or (t_cmp (cm_neS hu) (e_ix (E.w (e_ix (e_var 0) e_int)) (e_var 1)) (e_var 1)) (w_or1 (t_cmp (cm_neS hu) (e_ix (E.w (e_ix (e_var 0) (e_var 1))) e_int) (e_var 1))))) (ss_one (s_ret (e_tup (a_cons e_str (a_cons (e_var 1) a_nil))))) ss_nil))) (ss_cons (s_for PassesOwn.never rfl (i_enumT T.z_enumerate (e_var 0)) (g_tup rfl (gs_cons (g_name 1 nd_fault) (gs_cons (g_name 2 nd_fault) gs_nil))) (ss_one (s_if (t_cmp (cm_notin (hu_of hr)) e_int (E.w (e_var 2))) (ss_one (s_ret (e_tup (a_cons e_str (a_cons (e_var 1) a_nil))))) ss_nil))) (ss_one (s_ret (e_callK k_unlike_three (hr.mono (by decide)) hG (a_cons (e_var 0) a_nil)))))))⟩
/-! ### check_sub -/
abbrev s_check_sub : Stmt := topS 17
abbrev N_check_sub : List Str := ["table", "thing", "one", "other"]
theorem nd_check_sub : (N_check_sub).Nodup := by decide +kernel
theorem sc_check_sub : FnScope N_check_sub ["table", "thing"] (defScope s_check_sub) := ⟨rfl, rfl, rfl, nd_check_sub, rfl, by decide +kernel, by decide +kernel⟩
noncomputable def lc_check_sub_1 (Fis_part : GN) : FA := fLc (fSeq (fVar 1)) (fName 3) fYes (fOp (gIn false) (fOp gIx (fW (fOp gIx (fFld cenv "lines" (fVar 0)) (fVar 2))) (fVar 3)) (fVar 1)) [3]
noncomputable def lb_check_sub_1 (Fis_part : GN) : FS := (fsIf (fNotT (fTru (fOn gAll (lc_check_sub_1 Fis_part)))) fsNever fsNext)
noncomputable def lp_check_sub_1 (Fis_part : GN) : FS := fsFor (fSeq (fVar 1)) (fName 2) (lb_check_sub_1 Fis_part)
noncomputable def g_check_sub (Fis_part : GN) : FS := (fsSeq (fsIf (fOrT (fNotT (fTru (fCall Fis_part (fCons (fVar 0) (fCons (fVar 1) fNil))))) (fTest (fOp (gIn true) (fC (.int 0)) (fVar 1)))) fsNever fsNext) (lp_check_sub_1 Fis_part))
theorem b_check_sub {P : Program} {w : World} {K : Fg} {mg : Str → Option Value} {base : Heap} (T : Tz K mg) (TC : CEnvOk K cenv) {Fis_part : GN} (k_is_part : Kn P w K mg base "_is_part" 4 ["table", "thing"] Fis_part) {f : Addr} (cdv : Value) (A : Around) (outer : List Env) (s : Shared) (H : Hp) (EX : XK) (hr : Room 4 (A.deeper (envOfC "check_sub" (defScope s_check_sub) s.heap.objs.size f cdv))) (hG : A.guards = some []) :
    ∃ ts, Ss (cxOf CX0 P w K mg base N_check_sub "check_sub" (defScope s_check_sub) f cdv A outer s H EX).nox (defBody s_check_sub) ts (g_check_sub Fis_part) := by
  have hu := hr.units
  exact ⟨_, (ss_cons (s_if (TW.t (w_or (t_not (t_tru (e_callK k_is_part (hr.mono (by decide)) hG (a_cons (e_var 0) (a_cons (e_var 1) a_nil))))) (w_or1 (t_cmp (cm_notin (hu_of hr)) e_int (e_var 1))))) (ss_one s_never) ss_nil) (ss_one (s_for PassesOwn.never rfl (i_seq (e_var 1)) (g_name 2 nd_check_sub) (ss_one (s_if (t_not (t_tru (e_onB (cr_all rfl) gAll_ok T.z_all rfl (l_lc rfl nd_check_sub (i_seq (e_var 1)) (blkOk_by (own := [("other", 3)]) rfl) (fun _ _ _ _ _ => (g_name 3 nd_check_sub)) (fun _ _ _ _ _ => ts_nil) (fun _ _ _ _ _ => E.to (e_cmp (cm_in (hu_of hr)) (e_ix (E.w (e_ix (e_fld TC (e_var 0)) (e_var 2))) (e_var 3)) (e_var 1)) (by first | rfl | (dsimp only [blkK]; done) | (dsimp only [blkK]; rfl))))))) (ss_one s_never) ss_nil)))))⟩
/-! ### Table.__init__ -/
abbrev s_Table__init : Stmt := inClass (topS 10) 0
abbrev N_Table__init : List Str := ["self", "lines", "why"]
theorem nd_Table__init : (N_Table__init).Nodup := by decide +kernel
theorem sc_Table__init : FnScope N_Table__init ["self", "lines"] (defScope s_Table__init) := ⟨rfl, rfl, rfl, nd_Table__init, rfl, by decide +kernel, by decide +kernel⟩
noncomputable def g_Table__init (Ffault : GN) : FS := (fsSeq (fsAsg (fCall Ffault (fCons (fVar 1) fNil)) (fName 2)) (fsSeq (fsIf (fTest (fUn gNotN (fVar 2))) fsNever fsNext) (fsFld cenv "lines" (fVar 0) (fVar 1))))
theorem b_Table__init {P : Program} {w : World} {K : Fg} {mg : Str → Option Value} {base : Heap} (T : Tz K mg) (TC : CEnvOk K cenv) {Ffault : GN} (k_fault : Kn P w K mg base "fault" 5 ["lines"] Ffault) {f : Addr} (cdv : Value) (A : Around) (outer : List Env) (s : Shared) (H : Hp) (EX : XK) (hr : Room 5 (A.deeper (envOfC "Table.__init__" (defScope s_Table__init) s.heap.objs.size f cdv))) (hG : A.guards = some []) :
    ∃ ts, Ss (cxOf CX0 P w K mg base N_Table__init "Table.__init__" (defScope s_Table__init) f cdv A outer s H EX).nox (defBody s_Table__init) ts (g_Table__init Ffault) := by
  have hu := hr.units
  exact ⟨_, (ss_cons (s_set 2 nd_Table__init (e_callK k_fault (hr.mono (by decide)) hG (a_cons (e_var 1) a_nil))) (ss_cons (s_if (t_notN (e_var 2)) (ss_one s_never) ss_nil) (ss_one (s_fld TC (e_var 0) (e_var 1)))))⟩
/-! ### derived -/
abbrev s_derived : Stmt := topS 23
abbrev N_derived : List Str := ["table", "sub"]
theorem nd_derived : (N_derived).Nodup := by decide +kernel
theorem sc_derived : FnScope N_derived ["table", "sub"] (defScope s_derived) := ⟨rfl, rfl, rfl, nd_derived, rfl, by decide +kernel, by decide +kernel⟩
noncomputable def g_derived (Fcheck_table : GN) (Fcheck_sub : GN) (Fcommutators : GN) : FS := (fsSeq (fsDrop (fCall Fcheck_table (fCons (fVar 0) fNil))) (fsSeq (fsDrop (fCall Fcheck_sub (fCons (fVar 0) (fCons (fVar 1) fNil)))) (fsRet (fCall Fcommutators (fCons (fFld cenv "lines" (fVar 0)) (fCons (fVar 1) (fCons (fVar 1) fNil)))))))
theorem b_derived {P : Program} {w : World} {K : Fg} {mg : Str → Option Value} {base : Heap} (T : Tz K mg) (TC : CEnvOk K cenv) {Fcheck_table : GN} (k_check_table : Kn P w K mg base "check_table" 1 ["thing"] Fcheck_table) {Fcheck_sub : GN} (k_check_sub : Kn P w K mg base "check_sub" 5 ["table", "thing"] Fcheck_sub) {Fcommutators : GN} (k_commutators : Kn P w K mg base "_commutators" 2 ["lines", "some", "others"] Fcommutators) {f : Addr} (cdv : Value) (A : Around) (outer : List Env) (s : Shared) (H : Hp) (EX : XK) (hr : Room 5 (A.deeper (envOfC "derived" (defScope s_derived) s.heap.objs.size f cdv))) (hG : A.guards = some []) :
    ∃ ts, Ss (cxOf CX0 P w K mg base N_derived "derived" (defScope s_derived) f cdv A outer s H EX).nox (defBody s_derived) ts (g_derived Fcheck_table Fcheck_sub Fcommutators) := by
  have hu := hr.units
  exact ⟨_, (ss_cons (s_expr (e_callK k_check_table (hr.mono (by decide)) hG (a_cons (e_var 0) a_nil))) (ss_cons (s_expr (e_callK k_check_sub (hr.mono (by decide)) hG (a_cons (e_var 0) (a_cons (e_var 1) a_nil)))) (ss_one (s_ret (e_callK k_commutators (hr.mono (by decide)) hG (a_cons (e_fld TC (e_var 0)) (a_cons (e_var 1) (a_cons (e_var 1) a_nil))))))))⟩
/-! ### law -/
abbrev s_law : Stmt := topS 43
abbrev N_law : List Str := ["_law_script", "_law_k", "_law_pool_here", "_law_lines_here", "_law_group", "_law_number", "_law_parts", "_law_turn", "_law_some", "_law_again", "_law_part", "_law_due"]
theorem nd_law : (N_law).Nodup := by decide +kernel
theorem sc_law : FnScope N_law ["_law_script"] (defScope s_law) := ⟨rfl, rfl, rfl, nd_law, rfl, by decide +kernel, by decide +kernel⟩
noncomputable def lc_law_1 (Flaw_pool : GN) (Flaw_cell : GN) (Flaw_lines : GN) (Flaw_small : GN) (Flaw_take : GN) (FTable__init : GN) (Flaw_made : GN) (Flaw_commutators : GN) (Flaw_is : GN) (Fderived : GN) (Flaw_are : GN) (Fderived_series : GN) (Flaw_series : GN) (Flower_series : GN) : FA := fLc (fRange1 (fOp gAdd (fC (.int 1)) (fCall Flaw_take (fCons (fVar 2) (fCons (fC (.int 3)) fNil))))) (fName 9) fYes (fCall Flaw_take (fCons (fVar 2) (fCons (fVar 5) fNil))) [9]
noncomputable def lb_law_1 (Flaw_pool : GN) (Flaw_cell : GN) (Flaw_lines : GN) (Flaw_small : GN) (Flaw_take : GN) (FTable__init : GN) (Flaw_made : GN) (Flaw_commutators : GN) (Flaw_is : GN) (Fderived : GN) (Flaw_are : GN) (Fderived_series : GN) (Flaw_series : GN) (Flower_series : GN) : FS := (fsSeq (fsAsg (fPut (lc_law_1 Flaw_pool Flaw_cell Flaw_lines Flaw_small Flaw_take FTable__init Flaw_made Flaw_commutators Flaw_is Fderived Flaw_are Fderived_series Flaw_series Flower_series)) (fName 8)) (fsDrop (fMeth gAppend (fVar 6) (fCons (fCall Flaw_made (fCons (fVar 3) (fCons (fVar 8) fNil))) fNil))))
noncomputable def lp_law_1 (Flaw_pool : GN) (Flaw_cell : GN) (Flaw_lines : GN) (Flaw_small : GN) (Flaw_take : GN) (FTable__init : GN) (Flaw_made : GN) (Flaw_commutators : GN) (Flaw_is : GN) (Fderived : GN) (Flaw_are : GN) (Fderived_series : GN) (Flaw_series : GN) (Flower_series : GN) : FS := fsFor (fRange1 (fC (.int 2))) (fName 7) (lb_law_1 Flaw_pool Flaw_cell Flaw_lines Flaw_small Flaw_take FTable__init Flaw_made Flaw_commutators Flaw_is Fderived Flaw_are Fderived_series Flaw_series Flower_series)
noncomputable def lb_law_2 (Flaw_pool : GN) (Flaw_cell : GN) (Flaw_lines : GN) (Flaw_small : GN) (Flaw_take : GN) (FTable__init : GN) (Flaw_made : GN) (Flaw_commutators : GN) (Flaw_is : GN) (Fderived : GN) (Flaw_are : GN) (Fderived_series : GN) (Flaw_series : GN) (Flower_series : GN) : FS := (fsSeq (fsAsg (fCall Flaw_made (fCons (fVar 3) (fCons (fCall Flaw_commutators (fCons (fVar 3) (fCons (fVar 10) (fCons (fVar 10) fNil)))) fNil))) (fName 11)) (fsIf (fOrT (fNotT (fTru (fCall Flaw_is (fCons (fCall Fderived (fCons (fVar 4) (fCons (fVar 10) fNil))) (fCons (fVar 11) fNil))))) (fNotT (fTru (fCall Flaw_is (fCons (fCall Fderived (fOrd 2 [0, 1] (fCons (fVar 4) (fCons (fVar 10) fNil)))) (fCons (fVar 11) fNil)))))) (fsRet (fC (.bl false))) fsNext))
noncomputable def lp_law_2 (Flaw_pool : GN) (Flaw_cell : GN) (Flaw_lines : GN) (Flaw_small : GN) (Flaw_take : GN) (FTable__init : GN) (Flaw_made : GN) (Flaw_commutators : GN) (Flaw_is : GN) (Fderived : GN) (Flaw_are : GN) (Fderived_series : GN) (Flaw_series : GN) (Flower_series : GN) : FS := fsFor (fSeq (fOp gAdd (fVar 6) (fSl (fVar 6) fNoPart (fPart (fC (.int 1)))))) (fName 10) (lb_law_2 Flaw_pool Flaw_cell Flaw_lines Flaw_small Flaw_take FTable__init Flaw_made Flaw_commutators Flaw_is Fderived Flaw_are Fderived_series Flaw_series Flower_series)
noncomputable def lb_law_3 (Flaw_pool : GN) (Flaw_cell : GN) (Flaw_lines : GN) (Flaw_small : GN) (Flaw_take : GN) (FTable__init : GN) (Flaw_made : GN) (Flaw_commutators : GN) (Flaw_is : GN) (Fderived : GN) (Flaw_are : GN) (Fderived_series : GN) (Flaw_series : GN) (Flower_series : GN) : FS := (fsSeq (fsAsg (fCall Flaw_pool (fCons (fCall Flaw_cell (fCons (fVar 0) (fCons (fVar 1) fNil))) fNil)) (fName 2)) (fsSeq (fsAsg (fCall Flaw_lines (fCons (fCall Flaw_small (fCons (fVar 2) (fCons (fIxN (fLst (fCons (fC (.int 24)) (fCons (fC (.int 24)) (fCons (fC (.int 24)) (fCons (fC (.int 48)) fNil))))) (fCall Flaw_take (fCons (fVar 2) (fCons (fC (.int 4)) fNil)))) fNil))) fNil)) (fName 3)) (fsSeq (fsAsg (fTup (fCons (fMake "Table" FTable__init (fCons (fVar 3) fNil)) (fCons (fCall gLen (fCons (fW (fVar 3)) fNil)) fNil))) (fTupG 2 (fsCons (fName 4) (fsCons (fName 5) fsNil)))) (fsSeq (fsAsg (fPut (fLst (fCons (fTup (fCons (fC (.int 0)) fNil)) (fCons (fTRg1 (fVar 5)) fNil)))) (fName 6)) (fsSeq (lp_law_1 Flaw_pool Flaw_cell Flaw_lines Flaw_small Flaw_take FTable__init Flaw_made Flaw_commutators Flaw_is Fderived Flaw_are Fderived_series Flaw_series Flower_series) (fsSeq (lp_law_2 Flaw_pool Flaw_cell Flaw_lines Flaw_small Flaw_take FTable__init Flaw_made Flaw_commutators Flaw_is Fderived Flaw_are Fderived_series Flaw_series Flower_series) (fsSeq (fsIf (fNotT (fTru (fCall Flaw_are (fCons (fCall Fderived_series (fCons (fVar 4) fNil)) (fCons (fCall Flaw_series (fCons (fVar 3) (fCons (fC (.bl false)) fNil))) fNil))))) (fsRet (fC (.bl false))) fsNext) (fsSeq (fsIf (fOrT (fNotT (fTru (fCall Flaw_are (fCons (fCall Flower_series (fCons (fVar 4) fNil)) (fCons (fCall Flaw_series (fCons (fVar 3) (fCons (fC (.bl true)) fNil))) fNil))))) (fTest (fOp gNeS (fW (fFld cenv "lines" (fVar 4))) (fW (fVar 3))))) (fsRet (fC (.bl false))) fsNext) (fsIf (fOrT (fTest (fOp gNeS (fCall Flower_series (fOrd 1 [0] (fCons (fVar 4) fNil))) (fCall Flower_series (fCons (fVar 4) fNil)))) (fTest (fOp gNeS (fCall Fderived_series (fOrd 1 [0] (fCons (fVar 4) fNil))) (fCall Fderived_series (fCons (fVar 4) fNil))))) (fsRet (fC (.bl false))) fsNext)))))))))
noncomputable def lp_law_3 (Flaw_pool : GN) (Flaw_cell : GN) (Flaw_lines : GN) (Flaw_small : GN) (Flaw_take : GN) (FTable__init : GN) (Flaw_made : GN) (Flaw_commutators : GN) (Flaw_is : GN) (Fderived : GN) (Flaw_are : GN) (Fderived_series : GN) (Flaw_series : GN) (Flower_series : GN) : FS := fsFor (fRange1 (fCall gMax2 (fCons (fC (.int 2)) (fCons (fCall gMin2 (fCons (fCall gLen (fCons (fVar 0) fNil)) (fCons (fC (.int 8)) fNil))) fNil)))) (fName 1) (lb_law_3 Flaw_pool Flaw_cell Flaw_lines Flaw_small Flaw_take FTable__init Flaw_made Flaw_commutators Flaw_is Fderived Flaw_are Fderived_series Flaw_series Flower_series)
noncomputable def g_law (Flaw_pool : GN) (Flaw_cell : GN) (Flaw_lines : GN) (Flaw_small : GN) (Flaw_take : GN) (FTable__init : GN) (Flaw_made : GN) (Flaw_commutators : GN) (Flaw_is : GN) (Fderived : GN) (Flaw_are : GN) (Fderived_series : GN) (Flaw_series : GN) (Flower_series : GN) : FS := (fsSeq (lp_law_3 Flaw_pool Flaw_cell Flaw_lines Flaw_small Flaw_take FTable__init Flaw_made Flaw_commutators Flaw_is Fderived Flaw_are Fderived_series Flaw_series Flower_series) (fsRet (fC (.bl true))))
theorem b_law {P : Program} {w : World} {K : Fg} {mg : Str → Option Value} {base : Heap} (T : Tz K mg) (TC : CEnvOk K cenv) {Flaw_pool : GN} (k_law_pool : Kn P w K mg base "_law_pool" 1 ["_law_cell_here"] Flaw_pool) {Flaw_cell : GN} (k_law_cell : Kn P w K mg base "_law_cell" 1 ["_law_script", "_law_k"] Flaw_cell) {Flaw_lines : GN} (k_law_lines : Kn P w K mg base "_law_lines" 2 ["_law_members_here"] Flaw_lines) {Flaw_small : GN} (k_law_small : Kn P w K mg base "_law_small" 3 ["_law_pool_here", "_law_most"] Flaw_small) {Flaw_take : GN} (k_law_take : Kn P w K mg base "_law_take" 1 ["_law_pool_here", "_law_many"] Flaw_take) {FTable__init : GN} (k_Table__init : KnC P w K mg base "Table" 6 ["self", "lines"] FTable__init) {Flaw_made : GN} (k_law_made : Kn P w K mg base "_law_made" 1 ["_law_lines_here", "_law_part"] Flaw_made) {Flaw_commutators : GN} (k_law_commutators : Kn P w K mg base "_law_commutators" 2 ["_law_lines_here", "_law_firsts", "_law_seconds"] Flaw_commutators) {Flaw_is : GN} (k_law_is : Kn P w K mg base "_law_is" 1 ["_law_told", "_law_due"] Flaw_is) {Fderived : GN} (k_derived : Kn P w K mg base "derived" 6 ["table", "sub"] Fderived) {Flaw_are : GN} (k_law_are : Kn P w K mg base "_law_are" 2 ["_law_told", "_law_due"] Flaw_are) {Fderived_series : GN} (k_derived_series : Kn P w K mg base "derived_series" 4 ["table"] Fderived_series) {Flaw_series : GN} (k_law_series : Kn P w K mg base "_law_series" 3 ["_law_lines_here", "_law_lower"] Flaw_series) {Flower_series : GN} (k_lower_series : Kn P w K mg base "lower_series" 4 ["table"] Flower_series) (kn_derived_01 : KnN P w K mg base "derived" 6 ["table", "sub"] ["table", "sub"] [0, 1] Fderived) (kn_lower_series_0 : KnN P w K mg base "lower_series" 4 ["table"] ["table"] [0] Flower_series) (kn_derived_series_0 : KnN P w K mg base "derived_series" 4 ["table"] ["table"] [0] Fderived_series) {f : Addr} (cdv : Value) (A : Around) (outer : List Env) (s : Shared) (H : Hp) (EX : XK) (hr : Room 7 (A.deeper (envOfC "law" (defScope s_law) s.heap.objs.size f cdv))) (hG : A.guards = some []) :
    ∃ ts, Ss (cxOf CX0 P w K mg base N_law "law" (defScope s_law) f cdv A outer s H EX).nox (defBody s_law) ts (g_law Flaw_pool Flaw_cell Flaw_lines Flaw_small Flaw_take FTable__init Flaw_made Flaw_commutators Flaw_is Fderived Flaw_are Fderived_series Flaw_series Flower_series) := by
  have hu := hr.units
  exact ⟨_, (ss_cons (s_for PassesOwn.never rfl (i_range1 T.z_range (e_cB (call_max2 rfl) gMax2_ok T.z_max rfl (a_cons e_int (a_cons (e_cB (call_min2 rfl) gMin2_ok T.z_min rfl (a_cons (e_cB call_len gLen_ok T.z_len rfl (a_cons (e_var 0) a_nil)) (a_cons e_int a_nil))) a_nil)))) (g_name 1 nd_law) (ss_cons (s_set 2 nd_law (e_callK k_law_pool (hr.mono (by decide)) hG (a_cons (e_callK k_law_cell (hr.mono (by decide)) hG (a_cons (e_var 0) (a_cons (e_var 1) a_nil))) a_nil))) (ss_cons (s_set 3 nd_law (e_callK k_law_lines (hr.mono (by decide)) hG (a_cons (e_callK k_law_small (hr.mono (by decide)) hG (a_cons (e_var 2) (a_cons (e_ixN (l_lst (a_cons e_int (a_cons e_int (a_cons e_int (a_cons e_int a_nil))))) (e_callK k_law_take (hr.mono (by decide)) hG (a_cons (e_var 2) (a_cons e_int a_nil)))) a_nil))) a_nil))) (ss_cons (s_asg (e_tup (a_cons (e_make k_Table__init (hr.mono (by decide)) hG (a_cons (e_var 3) a_nil)) (a_cons (e_cB call_len gLen_ok T.z_len rfl (a_cons (E.w (e_var 3)) a_nil)) a_nil))) (g_tup rfl (gs_cons (g_name 4 nd_law) (gs_cons (g_name 5 nd_law) gs_nil)))) (ss_cons (s_set 6 nd_law (L.put (l_lst (a_cons (e_tup (a_cons e_int a_nil)) (a_cons (e_trg1 rfl T.z_tuple T.z_range (e_var 5)) a_nil))))) (ss_cons (s_for PassesOwn.never rfl (i_range1 T.z_range e_int) (g_name 7 nd_law) (ss_cons (s_setLc 8 rfl nd_law (i_range1 T.z_range (e_add e_int (e_callK k_law_take (hr.mono (by decide)) hG (a_cons (e_var 2) (a_cons e_int a_nil))))) (blkOk_by (own := [("_law_again", 9)]) rfl) (fun _ _ _ _ _ => (g_name 9 nd_law)) (fun _ _ _ _ _ => ts_nil) (fun _ _ _ _ _ => E.to (e_callK k_law_take (hr.mono (by decide)) hG (a_cons (e_var 2) (a_cons (e_var 5) a_nil))) (by first | rfl | (dsimp only [blkK]; done) | (dsimp only [blkK]; rfl)))) (ss_one (s_expr (e_append (e_var 6) (e_callK k_law_made (hr.mono (by decide)) hG (a_cons (e_var 3) (a_cons (e_var 8) a_nil)))))))) (ss_cons (s_for PassesOwn.never rfl (i_seq (e_add (e_var 6) (e_sl (e_var 6) o_none (o_some e_int)))) (g_name 10 nd_law) (ss_cons (s_set 11 nd_law (e_callK k_law_made (hr.mono (by decide)) hG (a_cons (e_var 3) (a_cons (e_callK k_law_commutators (hr.mono (by decide)) hG (a_cons (e_var 3) (a_cons (e_var 10) (a_cons (e_var 10) a_nil)))) a_nil)))) (ss_one (s_if (TW.t (w_or (t_not (t_tru (e_callK k_law_is (hr.mono (by decide)) hG (a_cons (e_callK k_derived (hr.mono (by decide)) hG (a_cons (e_var 4) (a_cons (e_var 10) a_nil))) (a_cons (e_var 11) a_nil))))) (w_or1 (t_not (t_tru (e_callK k_law_is (hr.mono (by decide)) hG (a_cons (e_named kn_derived_01 (hr.mono (by decide)) hG (ak_cons (e_var 4) (ak_cons (e_var 10) ak_nil))) (a_cons (e_var 11) a_nil)))))))) (ss_one (s_ret e_bl)) ss_nil)))) (ss_cons (s_if (t_not (t_tru (e_callK k_law_are (hr.mono (by decide)) hG (a_cons (e_callK k_derived_series (hr.mono (by decide)) hG (a_cons (e_var 4) a_nil)) (a_cons (e_callK k_law_series (hr.mono (by decide)) hG (a_cons (e_var 3) (a_cons e_bl a_nil))) a_nil))))) (ss_one (s_ret e_bl)) ss_nil) (ss_cons (s_if (TW.t (w_or (t_not (t_tru (e_callK k_law_are (hr.mono (by decide)) hG (a_cons (e_callK k_lower_series (hr.mono (by decide)) hG (a_cons (e_var 4) a_nil)) (a_cons (e_callK k_law_series (hr.mono (by decide)) hG (a_cons (e_var 3) (a_cons e_bl a_nil))) a_nil))))) (w_or1 (t_cmp (cm_neS hu) (E.w (e_fld TC (e_var 4))) (E.w (e_var 3)))))) (ss_one (s_ret e_bl)) ss_nil) (ss_one (s_if (TW.t (w_or (t_cmp (cm_neS hu) (e_named kn_lower_series_0 (hr.mono (by decide)) hG (ak_cons (e_var 4) ak_nil)) (e_callK k_lower_series (hr.mono (by decide)) hG (a_cons (e_var 4) a_nil))) (w_or1 (t_cmp (cm_neS hu) (e_named kn_derived_series_0 (hr.mono (by decide)) hG (ak_cons (e_var 4) ak_nil)) (e_callK k_derived_series (hr.mono (by decide)) hG (a_cons (e_var 4) a_nil)))))) (ss_one (s_ret e_bl)) ss_nil))))))))))) (ss_one (s_ret e_bl)))⟩
end k24

set_option Elab.async false
set_option linter.all false
set_option maxRecDepth 100000
set_option maxHeartbeats 1000000
namespace k24
open PySem PySem.Spec PyProof.Rows L2 Mv Cyc
/-! ### things: what isinstance is asked of -/
def typed (m : Mem) : D → Bool
  | .loc l => match m[l]? with
    | some (.lst _) => true
    | some (.dK _ _) => true
    | some (.dT _ _) => true
    | _ => false
  | .ty _ => false
  | .kl _ => false
  | .cls _ => false
  | .ins _ _ _ => false
  | .stp _ => false
  | .ttp _ => false
  | _ => true
def isInt : D → Bool
  | .int _ => true
  | _ => false
theorem isi_int {m : Mem} {d : D} (h : typed m d = true) : gIsiC cenv [d, .ty "int"] m = some (.bl (match d with | .int _ => true | .bl _ => true | _ => false), m) := by
  unfold gIsiC
  cases d with
  | ty n => cases h
  | kl n => cases h
  | cls n => cases h
  | ins n ks xs => cases h
  | stp xs => cases h
  | ttp xs => cases h
  | loc l =>
    have h' : (match m[l]? with | some (.lst _) => true | some (.dK _ _) => true | some (.dT _ _) => true | _ => false) = true := h
    show (Option.bind (match m[l]? with | some (.lst _) => some "list" | some (.dK _ _) => some "dict" | some (.dT _ _) => some "dict" | _ => none) _) = _
    split at h'
    · rfl
    · rfl
    · rfl
    · cases h'
  | _ => rfl
theorem isi_bool {m : Mem} {d : D} (h : typed m d = true) : gIsiC cenv [d, .ty "bool"] m = some (.bl (match d with | .bl _ => true | _ => false), m) := by
  unfold gIsiC
  cases d with
  | ty n => cases h
  | kl n => cases h
  | cls n => cases h
  | ins n ks xs => cases h
  | stp xs => cases h
  | ttp xs => cases h
  | loc l =>
    have h' : (match m[l]? with | some (.lst _) => true | some (.dK _ _) => true | some (.dT _ _) => true | _ => false) = true := h
    show (Option.bind (match m[l]? with | some (.lst _) => some "list" | some (.dK _ _) => some "dict" | some (.dT _ _) => some "dict" | _ => none) _) = _
    split at h'
    · rfl
    · rfl
    · rfl
    · cases h'
  | _ => rfl
theorem isi_tuple {m : Mem} {d : D} (h : typed m d = true) : gIsiC cenv [d, .ty "tuple"] m = some (.bl (match d with | .tup _ => true | _ => false), m) := by
  unfold gIsiC
  cases d with
  | ty n => cases h
  | kl n => cases h
  | cls n => cases h
  | ins n ks xs => cases h
  | stp xs => cases h
  | ttp xs => cases h
  | loc l =>
    have h' : (match m[l]? with | some (.lst _) => true | some (.dK _ _) => true | some (.dT _ _) => true | _ => false) = true := h
    show (Option.bind (match m[l]? with | some (.lst _) => some "list" | some (.dK _ _) => some "dict" | some (.dT _ _) => some "dict" | _ => none) _) = _
    split at h'
    · rfl
    · rfl
    · rfl
    · cases h'
  | _ => rfl
noncomputable def F_is_whole : GN := Fof N_is_whole 1 g_is_whole
theorem is_whole_ev {m : Mem} {d : D} (h : typed m d = true) : F_is_whole [d] m = some (.bl (isInt d), m) := by
  refine Fof_pure (t := []) (o := .rt (.bl (isInt d)) m) rfl ?_ (by rw [List.append_nil]; rfl) rfl (Kept.ext m [])
  have e : startE N_is_whole [d] = [some d] := rfl
  rw [e]
  unfold g_is_whole
  simp only [fsSeq, fsRet, fsRetN, fsIf, fsAsg, fsDrop, fsPar, fVar, fC, fCons, fNil, fCall, fOp, fUn, fOn, fTest, fTru, fNotT, fAndT, fOrT, fAnd, fOr, fNot, fIf, fChain, fName, fTupG, fsCons, fsNil, fPut, fLst, fTup, asB, asI, Option.bind_some, Option.map_some, Option.bind_none, Option.map_none, Option.join_some, List.getElem?_cons_zero, List.getElem?_cons_succ, fsNever, fsNext, fSeq, seqOf, fYes, fLCall, fPart, fNoPart, fSl, List.length_cons, List.length_nil, fIxN, fRange1, fRange2, fEnum, fDown, fLenSet, fRev, fTRg1, fRg1, isi_int h, isi_bool h]
  cases d <;> first | rfl | (simp [tru, isInt])
noncomputable def F_is_between : GN := Fof N_is_between 3 (g_is_between F_is_whole)
def inR (lo hi : Int) : D → Bool
  | .int i => decide (lo ≤ i) && decide (i ≤ hi)
  | _ => false
theorem is_between_ev {m : Mem} {d : D} {lo hi : Int} (h : typed m d = true) : F_is_between [d, .int lo, .int hi] m = some (.bl (inR lo hi d), m) := by
  refine Fof_pure (t := []) (o := .rt (.bl (inR lo hi d)) m) rfl ?_ (by rw [List.append_nil]; rfl) rfl (Kept.ext m [])
  have e : startE N_is_between [d, .int lo, .int hi] = [some d, some (.int lo), some (.int hi)] := rfl
  rw [e]
  unfold g_is_between
  simp only [fsSeq, fsRet, fsRetN, fsIf, fsAsg, fsDrop, fsPar, fVar, fC, fCons, fNil, fCall, fOp, fUn, fOn, fTest, fTru, fNotT, fAndT, fOrT, fAnd, fOr, fNot, fIf, fChain, fName, fTupG, fsCons, fsNil, fPut, fLst, fTup, asB, asI, Option.bind_some, Option.map_some, Option.bind_none, Option.map_none, Option.join_some, List.getElem?_cons_zero, List.getElem?_cons_succ, fsNever, fsNext, fSeq, seqOf, fYes, fLCall, fPart, fNoPart, fSl, List.length_cons, List.length_nil, fIxN, fRange1, fRange2, fEnum, fDown, fLenSet, fRev, fTRg1, fRg1, is_whole_ev h]
  cases d <;> first | rfl | skip
  rename_i i
  simp only [isInt, tru, gLe, gInt0, inR, Option.bind_some, Option.map_some]
  by_cases h1 : lo ≤ i
  · simp [h1]
  · simp [h1]

/-! ### is_move -/
theorem inR_int {lo hi i : Int} : inR lo hi (.int i) = true ↔ lo ≤ i ∧ i ≤ hi := by
  show (decide (lo ≤ i) && decide (i ≤ hi)) = true ↔ _
  rw [Bool.and_eq_true, decide_eq_true_eq, decide_eq_true_eq]
theorem inR_ints {hi : Int} : ∀ {xs : List D}, xs.all (inR 0 hi) = true → ∃ ns : List Int, xs = ns.map D.int ∧ ∀ n ∈ ns, 0 ≤ n ∧ n ≤ hi
  | [], _ => ⟨[], rfl, by simp⟩
  | x :: xs, h => by
    rw [List.all_cons, Bool.and_eq_true] at h
    obtain ⟨ns, h1, h2⟩ := inR_ints h.2
    cases x with
    | int i =>
      have q := inR_int.mp h.1
      refine ⟨i :: ns, by rw [h1]; rfl, fun n hn => ?_⟩
      rcases List.mem_cons.mp hn with e | hn
      · subst e; exact q
      · exact h2 n hn
    | _ => have q : false = true := h.1; cases q
def intsOf (xs : List D) : List Int := xs.filterMap asI
theorem intsOf_map (ns : List Int) : intsOf (ns.map D.int) = ns := by
  unfold intsOf
  induction ns with
  | nil => rfl
  | cons n ns ih => rw [List.map_cons, List.filterMap_cons]; show n :: _ = _; rw [ih]
def mvL (xs : List D) : Bool := decide (1 ≤ xs.length ∧ xs.length ≤ 60) && xs.all (inR 0 ((xs.length : Int) - 1)) && decide (intsOf xs).Nodup
def mvB : D → Bool
  | .tup xs => mvL xs
  | _ => false
theorem eqv_int (a b : Int) : eqD (.int a) (.int b) = some (decide (a = b)) := by
  unfold eqD
  rw [if_pos ⟨rfl, rfl⟩]
  congr 1
theorem gEq_int {m : Mem} (a b : Int) : gEqS (.int a) (.int b) m = some (.bl (decide (a = b)), m) := by
  have e : gEqS (.int a) (.int b) m = (res m (.int a)).bind fun p => (res m (.int b)).bind fun q => (eqD p q).map fun b => (D.bl b, m) := rfl
  have ea : ∀ a : Int, (D.int a).py = PyData.int a := fun a => by rw [D.py]
  rw [e, res_pure (m := m) (d := .int a) (by rw [D.pure]), res_pure (m := m) (d := .int b) (by rw [D.pure]), ea, ea, Option.bind_some, Option.bind_some, eqv_int]
  rfl
theorem all_bl (xs : List D) (f : D → Bool) (m : Mem) : gAll (xs.map fun x => .bl (f x)) m = some (.bl (xs.all f), m) := by
  unfold gAll
  have e : (xs.map fun x => D.bl (f x)) = (xs.map f).map D.bl := by rw [List.map_map]; rfl
  rw [e, asBs_map]
  show some (D.bl ((xs.map f).all id), m) = _
  rw [List.all_map]; rfl
theorem typed_tab {m : Mem} {n : Nat} {g : Nat → Int} : ∀ x ∈ tab n (fun y => D.int (g y)), typed m x = true := fun x hx => by
  obtain ⟨y, _, rfl⟩ := List.mem_map.mp hx
  rfl
theorem tab_ints (n : Nat) (g : Nat → Int) : tab n (fun y => D.int (g y)) = ((List.range n).map g).map D.int := by
  unfold tab; rw [List.map_map]; rfl
theorem gNe_int {m : Mem} (a b : Int) : gNeS (.int a) (.int b) m = some (.bl (!decide (a = b)), m) := by
  have e : gNeS (.int a) (.int b) m = (res m (.int a)).bind fun p => (res m (.int b)).bind fun q => (eqD p q).map fun b => (D.bl (!b), m) := rfl
  have ea : ∀ a : Int, (D.int a).py = PyData.int a := fun a => by rw [D.py]
  rw [e, res_pure (m := m) (d := .int a) (by rw [D.pure]), res_pure (m := m) (d := .int b) (by rw [D.pure]), ea, ea, Option.bind_some, Option.bind_some, eqv_int]
  rfl
theorem fm_tab {n : Nat} {g : Nat → D} {h : D → Option D} {k : Nat → D} (q : ∀ y, y < n → h (g y) = some (k y)) : (tab n g).filterMap h = tab n k := by
  unfold tab
  rw [List.filterMap_map]
  have : ∀ l : List Nat, (∀ y ∈ l, y < n) → l.filterMap (h ∘ g) = l.map k := by
    intro l
    induction l with
    | nil => intro _; rfl
    | cons y l ih =>
      intro hl
      rw [List.filterMap_cons, List.map_cons]
      have e1 : (h ∘ g) y = some (k y) := q y (hl y (by simp))
      rw [e1, ih fun z hz => hl z (by simp [hz])]
  exact this _ fun y hy => List.mem_range.mp hy
theorem tupOf_ev {m : Mem} {l : Nat} {xs : List D} (h : rd m l = some xs) : gTupOf [.loc l] m = some (.tup xs, m) := by
  show (rd m l).map _ = _
  rw [h]; rfl
/-! ### undo -/
theorem rd_last {m : Mem} {xs : List D} : rd (m ++ [.lst xs]) m.length = some xs := rd_off (m := m) (L := [.lst xs]) (i := 0) rfl
end k24

set_option Elab.async false
set_option linter.all false
set_option maxRecDepth 100000
set_option maxHeartbeats 1000000
namespace k24
open PySem PySem.Spec PyProof.Rows L2 Mv Cyc
noncomputable def Fof0 (N : List Str) (n : Nat) (g : FS) : GN := fun ds m => if ds.length = n then (g (startE N ds) m).bind Out.ret else none
theorem keeps_Fof0 (N : List Str) (n : Nat) (g : FS) : Keeps N g (Fof0 N n g) := fun ds m d m' h => by
  unfold Fof0 at h
  obtain ⟨_, h⟩ := iteE h
  obtain ⟨o, h1, h2⟩ := bindE h
  exact ⟨o, d, m', h1, h2, .same⟩
theorem many_Fof0 {N : List Str} {n : Nat} {g : FS} : ∀ ds m z, Fof0 N n g ds m = some z → ds.length = n := fun ds m z h => by
  unfold Fof0 at h
  exact (iteE h).1
theorem Fof0_of {N : List Str} {n : Nat} {g : FS} {ds : List D} {m m' : Mem} {o : Out} {d : D} (hn : ds.length = n) (h : g (startE N ds) m = some o) (ho : o.ret = some (d, m')) : Fof0 N n g ds m = some (d, m') := by
  unfold Fof0
  rw [if_pos hn, h]
  exact ho
def PoolAt (l : Nat) (m : Mem) : Prop := ∃ a b c : Int, m[l]? = some (.lst [.int a, .int b, .int c]) ∧ 0 ≤ a ∧ a < 2147483423 ∧ 0 ≤ b
/-- but for the pool all stays -/
def Still (l : Nat) (m m' : Mem) : Prop := m'.length = m.length ∧ ∀ j, j ≠ l → m'[j]? = m[j]?
theorem Still.refl {l : Nat} {m : Mem} : Still l m m := ⟨rfl, fun _ _ => rfl⟩
theorem Still.trans {l : Nat} {m m1 m2 : Mem} (h : Still l m m1) (k : Still l m1 m2) : Still l m m2 := ⟨k.1.trans h.1, fun j hj => (k.2 j hj).trans (h.2 j hj)⟩
theorem still_set {l : Nat} {m : Mem} {c : Cell} : Still l m (m.set l c) := ⟨by simp, fun j hj => List.getElem?_set_ne (Ne.symm hj)⟩
theorem get_set {l : Nat} {m : Mem} {c c0 : Cell} (h : m[l]? = some c0) : (m.set l c)[l]? = some c := List.getElem?_set_self (List.getElem?_eq_some_iff.mp h).1
noncomputable def F_law_take : GN := Fof0 N_law_take 2 g_law_take
theorem ix0 {m : Mem} {l : Nat} {a b c : D} (h : m[l]? = some (.lst [a, b, c])) : gIx (.loc l) (.int 0) m = some (a, m) := by
  show (rd m l).bind _ = _
  rw [rd_of h]; rfl
theorem ix1 {m : Mem} {l : Nat} {a b c : D} (h : m[l]? = some (.lst [a, b, c])) : gIx (.loc l) (.int 1) m = some (b, m) := by
  show (rd m l).bind _ = _
  rw [rd_of h]; rfl
theorem ix2 {m : Mem} {l : Nat} {a b c : D} (h : m[l]? = some (.lst [a, b, c])) : gIx (.loc l) (.int 2) m = some (c, m) := by
  show (rd m l).bind _ = _
  rw [rd_of h]; rfl
theorem take_ev {m : Mem} {l : Nat} {k : Int} (hp : PoolAt l m) (hk : 1 ≤ k) (hk2 : k < 1073741824) : ∃ v m', F_law_take [.loc l, .int k] m = some (.int v, m') ∧ 0 ≤ v ∧ v < k ∧ PoolAt l m' ∧ Still l m m' := by
  obtain ⟨a, b, c, h0, a0, a1, b0⟩ := hp
  have h1 : (m.set l (.lst [.int a, .int b, .int (c + 1)]))[l]? = some (.lst [.int a, .int b, .int (c + 1)]) := get_set h0
  have hx1 := Int.emod_nonneg (a * (a % 45007 + 31019) + 70009 * (c + 1)) (b := 2147483423) (by decide)
  have hx2 := Int.emod_lt_of_pos (a * (a % 45007 + 31019) + 70009 * (c + 1)) (b := 2147483423) (by decide)
  have h2 : ((m.set l (.lst [.int a, .int b, .int (c + 1)])).set l (.lst [.int ((a * (a % 45007 + 31019) + 70009 * (c + 1)) % 2147483423), .int b, .int (c + 1)]))[l]? = some (.lst [.int ((a * (a % 45007 + 31019) + 70009 * (c + 1)) % 2147483423), .int b, .int (c + 1)]) := get_set h1
  have hm : (-(2 ^ 64) < a ∧ a < 2 ^ 64) := by omega
  have hc1 : (-(2 ^ 64) < (70009 : Int) ∧ (70009 : Int) < 2 ^ 64) := by omega
  have e : startE N_law_take [.loc l, .int k] = [some (.loc l), some (.int k), none, none] := rfl
  have s1 : ∀ ee, fSub (fVar 0) (fC (.int 2)) (.int (c + 1)) (some (.loc l) :: ee) m = some (some (.loc l) :: ee, m.set l (.lst [.int a, .int b, .int (c + 1)])) := fun ee => fSub_ev (k := 2) (j := 2) rfl rfl h0 rfl
  have s2 : ∀ ee (v : D), fSub (fVar 0) (fC (.int 0)) v (some (.loc l) :: ee) (m.set l (.lst [.int a, .int b, .int (c + 1)])) = some (some (.loc l) :: ee, (m.set l (.lst [.int a, .int b, .int (c + 1)])).set l (.lst [v, .int b, .int (c + 1)])) := fun ee v => fSub_ev (k := 0) (j := 0) rfl rfl h1 rfl
  have hmod1 : (0 : Int) < 45007 := by decide
  have hmod2 : (0 : Int) < 2147483423 := by decide
  generalize hX : (a * (a % 45007 + 31019) + 70009 * (c + 1)) % 2147483423 = X at hx1 hx2 h2
  by_cases hb : 0 < b
  · have s3 : ∀ ee (v : D), fSub (fVar 0) (fC (.int 1)) v (some (.loc l) :: ee) ((m.set l (.lst [.int a, .int b, .int (c + 1)])).set l (.lst [.int X, .int b, .int (c + 1)])) = some (some (.loc l) :: ee, ((m.set l (.lst [.int a, .int b, .int (c + 1)])).set l (.lst [.int X, .int b, .int (c + 1)])).set l (.lst [.int X, v, .int (c + 1)])) := fun ee v => fSub_ev (k := 1) (j := 1) rfl rfl h2 rfl
    have hkk : 0 < k ∧ k < 1073741824 := ⟨by omega, hk2⟩
    refine ⟨b % k, ((m.set l (.lst [.int a, .int b, .int (c + 1)])).set l (.lst [.int X, .int b, .int (c + 1)])).set l (.lst [.int X, .int (b / k), .int (c + 1)]), Fof0_of (o := .rt (.int (b % k)) (((m.set l (.lst [.int a, .int b, .int (c + 1)])).set l (.lst [.int X, .int b, .int (c + 1)])).set l (.lst [.int X, .int (b / k), .int (c + 1)]))) rfl ?_ rfl, Int.emod_nonneg _ (by omega), Int.emod_lt_of_pos _ (by omega), ⟨X, b / k, c + 1, get_set h2, hx1, hx2, Int.ediv_nonneg b0 (by omega)⟩, (still_set.trans still_set).trans still_set⟩
    rw [e]
    unfold g_law_take
    simp only [fsSeq, fsRet, fsRetN, fsIf, fsAsg, fsDrop, fsPar, fVar, fC, fCons, fNil, fCall, fOp, fUn, fOn, fTest, fTru, fNotT, fAndT, fOrT, fAnd, fOr, fNot, fIf, fChain, fName, fTupG, fsCons, fsNil, fPut, fLst, fTup, asB, asI, Option.bind_some, Option.map_some, Option.bind_none, Option.map_none, Option.join_some, List.getElem?_cons_zero, List.getElem?_cons_succ, fsNever, fsNext, fSeq, seqOf, fYes, fLCall, fPart, fNoPart, fSl, List.length_cons, List.length_nil, fIxN, fRange1, fRange2, fEnum, fDown, fLenSet, fRev, fTRg1, fRg1, ix2 h0, gAdd, s1, List.set_cons_succ, List.set_cons_zero, ix0 h1, gMod, gInt, hmod1, hmod2, decide_true, if_true, gMul, hm, hc1, true_or, and_self, ix2 h1, hX, s2, ix1 h2, gGt, gInt0, hb, gDivmod, hkk, s3]
  · have h64 : (0 : Int) < 64 ∧ (64 : Int) < 1073741824 := by decide
    have hk0 : 0 < k := by omega
    refine ⟨X / 64 % k, (m.set l (.lst [.int a, .int b, .int (c + 1)])).set l (.lst [.int X, .int b, .int (c + 1)]), Fof0_of (o := .rt (.int (X / 64 % k)) ((m.set l (.lst [.int a, .int b, .int (c + 1)])).set l (.lst [.int X, .int b, .int (c + 1)]))) rfl ?_ rfl, Int.emod_nonneg _ (by omega), Int.emod_lt_of_pos _ (by omega), ⟨X, b, c + 1, h2, hx1, hx2, b0⟩, still_set.trans still_set⟩
    rw [e]
    unfold g_law_take
    simp only [fsSeq, fsRet, fsRetN, fsIf, fsAsg, fsDrop, fsPar, fVar, fC, fCons, fNil, fCall, fOp, fUn, fOn, fTest, fTru, fNotT, fAndT, fOrT, fAnd, fOr, fNot, fIf, fChain, fName, fTupG, fsCons, fsNil, fPut, fLst, fTup, asB, asI, Option.bind_some, Option.map_some, Option.bind_none, Option.map_none, Option.join_some, List.getElem?_cons_zero, List.getElem?_cons_succ, fsNever, fsNext, fSeq, seqOf, fYes, fLCall, fPart, fNoPart, fSl, List.length_cons, List.length_nil, fIxN, fRange1, fRange2, fEnum, fDown, fLenSet, fRev, fTRg1, fRg1, ix2 h0, gAdd, s1, List.set_cons_succ, List.set_cons_zero, ix0 h1, gMod, gInt, hmod1, hmod2, decide_true, if_true, gMul, hm, hc1, true_or, and_self, ix2 h1, hX, s2, ix1 h2, gGt, gInt0, hb, decide_false, Bool.false_eq_true, if_false, ix0 h2, gFDiv, h64, hk0]
noncomputable def F_law_pool : GN := Fof0 N_law_pool 1 g_law_pool
theorem pool_ev {m : Mem} {z : Int} : ∃ m', F_law_pool [.int z] m = some (.loc m.length, m') ∧ PoolAt m.length m' := by
  have e : startE N_law_pool [.int z] = [some (.int z), none] := rfl
  have hx1 := Int.emod_nonneg z (b := 2147483423) (by decide)
  have hx2 := Int.emod_lt_of_pos z (b := 2147483423) (by decide)
  have hpw : ∀ mm, gPow (.int 10) (.int 18) mm = some (.int (10 ^ 18), mm) := fun mm => rfl
  have hmod2 : (0 : Int) < 2147483423 := by decide
  by_cases h1 : z < 0
  · refine ⟨m ++ [.lst [.int (z % 2147483423), .int (-z), .int 0]], Fof0_of (o := .rt (.loc m.length) (m ++ [.lst [.int (z % 2147483423), .int (-z), .int 0]])) rfl ?_ rfl, z % 2147483423, -z, 0, get_off m _ 0, hx1, hx2, by omega⟩
    rw [e]
    unfold g_law_pool
    simp only [fsSeq, fsRet, fsRetN, fsIf, fsAsg, fsDrop, fsPar, fVar, fC, fCons, fNil, fCall, fOp, fUn, fOn, fTest, fTru, fNotT, fAndT, fOrT, fAnd, fOr, fNot, fIf, fChain, fName, fTupG, fsCons, fsNil, fPut, fLst, fTup, asB, asI, Option.bind_some, Option.map_some, Option.bind_none, Option.map_none, Option.join_some, List.getElem?_cons_zero, List.getElem?_cons_succ, fsNever, fsNext, fSeq, seqOf, fYes, fLCall, fPart, fNoPart, fSl, List.length_cons, List.length_nil, fIxN, fRange1, fRange2, fEnum, fDown, fLenSet, fRev, fTRg1, fRg1, List.set_cons_succ, List.set_cons_zero, gLt, gInt0, h1, decide_true, if_true, gAbs, gMod, gInt, hmod2, Nat.zero_le, Nat.reduceLeDiff, Nat.reduceAdd]
  · by_cases h2 : z ≥ 10 ^ 18
    · have h2' : (10 : Int) ^ 18 ≤ z := h2
      refine ⟨m ++ [.lst [.int (z % 2147483423), .int z, .int 0]], Fof0_of (o := .rt (.loc m.length) (m ++ [.lst [.int (z % 2147483423), .int z, .int 0]])) rfl ?_ rfl, z % 2147483423, z, 0, get_off m _ 0, hx1, hx2, by omega⟩
      rw [e]
      unfold g_law_pool
      simp only [fsSeq, fsRet, fsRetN, fsIf, fsAsg, fsDrop, fsPar, fVar, fC, fCons, fNil, fCall, fOp, fUn, fOn, fTest, fTru, fNotT, fAndT, fOrT, fAnd, fOr, fNot, fIf, fChain, fName, fTupG, fsCons, fsNil, fPut, fLst, fTup, asB, asI, Option.bind_some, Option.map_some, Option.bind_none, Option.map_none, Option.join_some, List.getElem?_cons_zero, List.getElem?_cons_succ, fsNever, fsNext, fSeq, seqOf, fYes, fLCall, fPart, fNoPart, fSl, List.length_cons, List.length_nil, fIxN, fRange1, fRange2, fEnum, fDown, fLenSet, fRev, fTRg1, fRg1, List.set_cons_succ, List.set_cons_zero, gLt, gGe, gInt0, h1, decide_false, Bool.false_eq_true, if_false, hpw, h2', decide_true, if_true, gAbs, gMod, gInt, hmod2, Nat.zero_le, Nat.reduceLeDiff, Nat.reduceAdd]
    · have h2' : ¬ (10 : Int) ^ 18 ≤ z := h2
      refine ⟨m ++ [.lst [.int (z % 2147483423), .int 0, .int 0]], Fof0_of (o := .rt (.loc m.length) (m ++ [.lst [.int (z % 2147483423), .int 0, .int 0]])) rfl ?_ rfl, z % 2147483423, 0, 0, get_off m _ 0, hx1, hx2, by omega⟩
      rw [e]
      unfold g_law_pool
      simp only [fsSeq, fsRet, fsRetN, fsIf, fsAsg, fsDrop, fsPar, fVar, fC, fCons, fNil, fCall, fOp, fUn, fOn, fTest, fTru, fNotT, fAndT, fOrT, fAnd, fOr, fNot, fIf, fChain, fName, fTupG, fsCons, fsNil, fPut, fLst, fTup, asB, asI, Option.bind_some, Option.map_some, Option.bind_none, Option.map_none, Option.join_some, List.getElem?_cons_zero, List.getElem?_cons_succ, fsNever, fsNext, fSeq, seqOf, fYes, fLCall, fPart, fNoPart, fSl, List.length_cons, List.length_nil, fIxN, fRange1, fRange2, fEnum, fDown, fLenSet, fRev, fTRg1, fRg1, List.set_cons_succ, List.set_cons_zero, gLt, gGe, gInt0, h1, decide_false, Bool.false_eq_true, if_false, hpw, h2', decide_true, if_true, gMod, gInt, hmod2, Nat.zero_le, Nat.reduceLeDiff, Nat.reduceAdd]
end k24

set_option Elab.async false
set_option linter.all false
set_option maxRecDepth 100000
set_option maxHeartbeats 1000000
namespace k24
open PySem PySem.Spec PyProof.Rows L2 Mv Cyc
theorem gMod_ex (x c : Int) (h : 0 < c) : ∃ r, ∀ mm, gMod (.int x) (.int c) mm = some (.int r, mm) := ⟨x % c, fun mm => by
  show (if decide (0 < c) = true then some (D.int (x % c), mm) else none) = _
  rw [if_pos (decide_eq_true h)]⟩
theorem gMul_ex (x c : Int) (h : -(2 ^ 64) < x ∧ x < 2 ^ 64) : ∃ r, ∀ mm, gMul (.int x) (.int c) mm = some (.int r, mm) := ⟨x * c, fun mm => if_pos (.inl h)⟩
theorem gAdd_ex (x c : Int) : ∃ r, ∀ mm, gAdd (.int x) (.int c) mm = some (.int r, mm) := ⟨x + c, fun mm => rfl⟩
theorem seq_ev {f g : FS} {e e1 : Sl} {m m1 : Mem} {o : Option Out} (h : f e m = some (.nx e1 m1)) (h2 : g e1 m1 = o) : fsSeq f g e m = o := by
  unfold fsSeq
  rw [h]
  exact h2
theorem op_ev {g : G2} {fa fb : FE} {e : Sl} {m m1 m2 : Mem} {a b : D} {o : Option (D × Mem)} (h : fa e m = some (a, m1)) (h2 : fb e m1 = some (b, m2)) (h3 : g a b m2 = o) : fOp g fa fb e m = o := by
  unfold fOp
  rw [h, Option.bind_some, h2, Option.bind_some]
  exact h3
theorem asg_ev {f : FE} {e : Sl} {m m1 : Mem} {i : Nat} {d : D} (h : f e m = some (d, m1)) : fsAsg f (fName i) e m = some (.nx (e.set i (some d)) m1) := by
  unfold fsAsg fName
  rw [h]; rfl
noncomputable def F_law_cell : GN := Fof0 N_law_cell 2 g_law_cell
theorem cell_ev {m : Mem} {ns : List Int} {k : Nat} (hk : k ≤ 100) : ∃ z m', F_law_cell [.kl (ns.map D.int), .int (k : Nat)] m = some (.int z, m') := by
  have e : startE N_law_cell [.kl (ns.map D.int), .int (k : Nat)] = [some (.kl (ns.map D.int)), some (.int (k : Nat)), none, none] := rfl
  have hl : ∀ mm, gLen [.kl (ns.map D.int)] mm = some (.int (ns.length : Nat), mm) := fun mm => by show some (D.int ((ns.map D.int).length : Nat), mm) = _; rw [List.length_map]
  by_cases h1 : k < ns.length
  · have h1' : ((k : Nat) : Int) < (ns.length : Nat) := by omega
    have hix : gIx (.kl (ns.map D.int)) (.int (k : Nat)) m = some (.int ns[k], m) := by
      have q : (ns.map D.int)[k]? = some (.int ns[k]) := by rw [List.getElem?_map, List.getElem?_eq_getElem h1]; rfl
      show (atI _ _).map _ = _
      rw [atI_nat q]; rfl
    refine ⟨ns[k], m, Fof0_of (o := .rt (.int ns[k]) m) rfl ?_ rfl⟩
    rw [e]
    unfold g_law_cell
    simp only [fsSeq, fsRet, fsRetN, fsIf, fsAsg, fsDrop, fsPar, fVar, fC, fCons, fNil, fCall, fOp, fUn, fOn, fTest, fTru, fNotT, fAndT, fOrT, fAnd, fOr, fNot, fIf, fChain, fName, fTupG, fsCons, fsNil, fPut, fLst, fTup, asB, asI, Option.bind_some, Option.map_some, Option.bind_none, Option.map_none, Option.join_some, List.getElem?_cons_zero, List.getElem?_cons_succ, fsNever, fsNext, fSeq, seqOf, fYes, fLCall, fPart, fNoPart, fSl, List.length_cons, List.length_nil, fIxN, fRange1, fRange2, fEnum, fDown, fLenSet, fRev, fTRg1, fRg1, hl, gLt, gInt0, h1', decide_true, if_true, hix]
  · have h1' : ¬ ((k : Nat) : Int) < (ns.length : Nat) := by omega
    have hc : ∀ x : Int, Mv.cutD (ns.map D.int) none (some 3) = ((ns.map D.int).take 3) := fun _ => by
      unfold Mv.cutD
      rw [show HT.sIx (ns.map D.int).length (ns.map D.int).length (some 3) = min 3 (ns.map D.int).length from HT.sIx_nat (ns.map D.int).length _ 3, HT.sIx_none]
      rw [List.drop_zero, Nat.sub_zero]
      refine List.ext_getElem? fun i => ?_
      rw [List.getElem?_take, List.getElem?_take]
      by_cases q : i < (ns.map D.int).length
      · by_cases q2 : i < 3
        · rw [if_pos (by omega), if_pos q2]
        · rw [if_neg (by omega), if_neg q2]
      · rw [List.getElem?_eq_none (by omega)]; simp
    have hmod2 : (0 : Int) < 2147483423 := by decide
    obtain ⟨w1, hw1⟩ := gMul_ex (k : Nat) (k : Nat) (by omega)
    obtain ⟨w2, hw2⟩ := gMul_ex 9 (k : Nat) (by omega)
    obtain ⟨w3, hw3⟩ := gAdd_ex w1 w2
    obtain ⟨w4, hw4⟩ := gAdd_ex w3 5
    obtain ⟨w5, hw5⟩ := gMul_ex 50021 w4 (by omega)
    obtain ⟨z0, hz0⟩ := gMod_ex w5 2147483423 (by decide)
    have h := for_evL (fi := fSeq (fSl (fVar 0) fNoPart (fPart (fC (.int 3))))) (ft := fName 3) (g := lb_law_cell_1) (e := [some (.kl (ns.map D.int)), some (.int (k : Nat)), some (.int z0), none])
      (m0 := m) (m := m ++ [.lst (Mv.cutD (ns.map D.int) none (some 3))]) (s := ⟨Mv.cutD (ns.map D.int) none (some 3), some m.length⟩) ?_
      (fun xs e mm => (∀ x ∈ xs, ∃ i : Int, x = .int i) ∧ mm = m ++ [.lst (Mv.cutD (ns.map D.int) none (some 3))] ∧ ∃ (z : Int) (b : Option D), e = [some (.kl (ns.map D.int)), some (.int (k : Nat)), some (.int z), b])
      (fun o => ∃ (z : Int) (b : Option D), o = .nx [some (.kl (ns.map D.int)), some (.int (k : Nat)), some (.int z), b] (m ++ [.lst (Mv.cutD (ns.map D.int) none (some 3))]))
      ?_ ⟨fun x hx => ?_, rfl, _, _, rfl⟩ ?_ ?_
    · obtain ⟨o, h2, z, b, rfl⟩ := h
      have h3 : lp_law_cell_1 _ m = _ := h2
      refine ⟨z, m ++ [.lst (Mv.cutD (ns.map D.int) none (some 3))], Fof0_of (o := .rt (.int z) (m ++ [.lst (Mv.cutD (ns.map D.int) none (some 3))])) rfl ?_ rfl⟩
      rw [e]
      unfold g_law_cell
      refine seq_ev (e1 := [some (.kl (ns.map D.int)), some (.int (k : Nat)), none, none]) (m1 := m) ?_ (seq_ev (e1 := [some (.kl (ns.map D.int)), some (.int (k : Nat)), some (.int z0), none]) (m1 := m) ?_ (seq_ev h3 rfl))
      · have hlt : ∀ mm, gLt (.int (k : Nat)) (.int (ns.length : Nat)) mm = some (.bl false, mm) := fun mm => by show some (D.bl (decide (((k : Nat) : Int) < (ns.length : Nat))), mm) = _; rw [decide_eq_false h1']
        simp only [fsSeq, fsRet, fsRetN, fsIf, fsAsg, fsDrop, fsPar, fVar, fC, fCons, fNil, fCall, fOp, fUn, fOn, fTest, fTru, fNotT, fAndT, fOrT, fAnd, fOr, fNot, fIf, fChain, fName, fTupG, fsCons, fsNil, fPut, fLst, fTup, asB, asI, Option.bind_some, Option.map_some, Option.bind_none, Option.map_none, Option.join_some, List.getElem?_cons_zero, List.getElem?_cons_succ, fsNever, fsNext, fSeq, seqOf, fYes, fLCall, fPart, fNoPart, fSl, List.length_cons, List.length_nil, fIxN, fRange1, fRange2, fEnum, fDown, fLenSet, fRev, fTRg1, fRg1, hl, hlt, Bool.false_eq_true, if_false]
      · have q1 : fOp gMul (fVar 1) (fVar 1) [some (.kl (ns.map D.int)), some (.int (k : Nat)), none, none] m = some (.int w1, m) := op_ev (g := gMul) rfl rfl (hw1 m)
        have q2 : fOp gMul (fC (.int 9)) (fVar 1) [some (.kl (ns.map D.int)), some (.int (k : Nat)), none, none] m = some (.int w2, m) := op_ev (g := gMul) rfl rfl (hw2 m)
        have q3 := op_ev (g := gAdd) q1 q2 (hw3 m)
        have q4 := op_ev (g := gAdd) (fb := fC (.int 5)) q3 rfl (hw4 m)
        have q5 := op_ev (g := gMul) (fa := fC (.int 50021)) rfl q4 (hw5 m)
        have q6 := op_ev (g := gMod) (fb := fC (.int 2147483423)) q5 rfl (hz0 m)
        exact asg_ev q6
    · have hs : gSl (.kl (ns.map D.int)) none (some 3) m = some (.loc m.length, m ++ [.lst (Mv.cutD (ns.map D.int) none (some 3))]) := rfl
      simp only [fsSeq, fsRet, fsRetN, fsIf, fsAsg, fsDrop, fsPar, fVar, fC, fCons, fNil, fCall, fOp, fUn, fOn, fTest, fTru, fNotT, fAndT, fOrT, fAnd, fOr, fNot, fIf, fChain, fName, fTupG, fsCons, fsNil, fPut, fLst, fTup, asB, asI, Option.bind_some, Option.map_some, Option.bind_none, Option.map_none, Option.join_some, List.getElem?_cons_zero, List.getElem?_cons_succ, fsNever, fsNext, fSeq, seqOf, fYes, fLCall, fPart, fNoPart, fSl, List.length_cons, List.length_nil, fIxN, fRange1, fRange2, fEnum, fDown, fLenSet, fRev, fTRg1, fRg1, hs]
      rw [rd_last]; rfl
    · rintro xs e mm ⟨_, rfl, z, b, rfl⟩
      exact rd_last
    · have hx' : x ∈ Mv.cutD (ns.map D.int) none (some 3) := hx
      rw [hc 0] at hx'
      obtain ⟨i, _, rfl⟩ := List.mem_map.mp (List.mem_of_mem_take hx')
      exact ⟨i, rfl⟩
    · rintro x xs e mm ⟨hx, rfl, z, b, rfl⟩
      obtain ⟨i, rfl⟩ := hx x (by simp)
      obtain ⟨u1, hu1⟩ : ∃ r, ∀ mm, gMul (.int z) (.int 43013) mm = some (.int r, mm) := ⟨z * 43013, fun mm => if_pos (.inr (by omega))⟩
      obtain ⟨u2, hu2⟩ := gAdd_ex u1 i
      obtain ⟨r, hr⟩ := gMod_ex u2 2147483423 (by decide)
      refine ⟨.nx [some (.kl (ns.map D.int)), some (.int (k : Nat)), some (.int r), some (.int i)] (m ++ [.lst (Mv.cutD (ns.map D.int) none (some 3))]), ?_, fun y hy => hx y (by simp [hy]), rfl, _, _, rfl⟩
      unfold lb_law_cell_1
      simp only [fsSeq, fsRet, fsRetN, fsIf, fsAsg, fsDrop, fsPar, fVar, fC, fCons, fNil, fCall, fOp, fUn, fOn, fTest, fTru, fNotT, fAndT, fOrT, fAnd, fOr, fNot, fIf, fChain, fName, fTupG, fsCons, fsNil, fPut, fLst, fTup, asB, asI, Option.bind_some, Option.map_some, Option.bind_none, Option.map_none, Option.join_some, List.getElem?_cons_zero, List.getElem?_cons_succ, fsNever, fsNext, fSeq, seqOf, fYes, fLCall, fPart, fNoPart, fSl, List.length_cons, List.length_nil, fIxN, fRange1, fRange2, fEnum, fDown, fLenSet, fRev, fTRg1, fRg1, List.set_cons_succ, List.set_cons_zero, hu1, hu2, hr]
    · rintro e mm ⟨_, rfl, z, b, rfl⟩
      exact ⟨z, b, rfl⟩
end k24

set_option Elab.async false
set_option linter.all false
set_option maxRecDepth 100000
set_option maxHeartbeats 1000000
namespace k24
open PySem PySem.Spec PyProof.Rows L2 Mv Cyc
def swp (g : Nat → Nat) (a b z : Nat) : Nat := if z = b then g a else if z = a then g b else g z
theorem swp_perm {n : Nat} {g : Nat → Nat} (h : Perm n g) {a b : Nat} (ha : a < n) (hb : b < n) : Perm n (swp g a b) := by
  have e : ∀ z, swp g a b z = g (if z = b then a else if z = a then b else z) := fun z => by
    unfold swp
    split
    · rfl
    · split <;> rfl
  refine ⟨fun x hx => ?_, fun x y hx hy q => ?_⟩
  · rw [e]
    refine h.lt _ ?_
    split
    · exact ha
    · split
      · exact hb
      · exact hx
  · rw [e, e] at q
    have q2 := h.inj _ _ (by split; exact ha; split; exact hb; exact hx) (by split; exact ha; split; exact hb; exact hy) q
    repeat' split at q2
    all_goals omega
structure St (l q n : Nat) (g : Nat → Nat) (mm : Mem) : Prop where
  pool : PoolAt l mm
  img : mm[q]? = some (.lst (tab n fun y => .int (g y : Nat)))
  p : Perm n g
  ne : l ≠ q
theorem St.still {l q n : Nat} {g : Nat → Nat} {mm m' : Mem} (h : St l q n g mm) (hp : PoolAt l m') (hs : Still l mm m') : St l q n g m' := ⟨hp, by rw [hs.2 q (Ne.symm h.ne)]; exact h.img, h.p, h.ne⟩
theorem St.put {l q n : Nat} {g g' : Nat → Nat} {mm : Mem} (h : St l q n g mm) (hg : Perm n g') : St l q n g' (mm.set q (.lst (tab n fun y => .int (g' y : Nat)))) := by
  obtain ⟨a, b, c, h1, h2⟩ := h.pool
  exact ⟨⟨a, b, c, by rw [List.getElem?_set_ne (Ne.symm h.ne)]; exact h1, h2⟩, List.getElem?_set_self (List.getElem?_eq_some_iff.mp h.img).1, hg, h.ne⟩
theorem St.ix {l q n : Nat} {g : Nat → Nat} {mm : Mem} (h : St l q n g mm) {y : Nat} (hy : y < n) : gIx (.loc q) (.int (y : Nat)) mm = some (.int (g y : Nat), mm) := by
  show (rd mm q).bind _ = _
  rw [rd_of h.img, Option.bind_some, tab_at hy]; rfl
theorem St.tup {l q n : Nat} {g : Nat → Nat} {mm : Mem} (h : St l q n g mm) : gTupOf [.loc q] mm = some (mvD n g, mm) := tupOf_ev (rd_of h.img)
theorem St.sub {l q n : Nat} {g : Nat → Nat} {mm : Mem} (h : St l q n g mm) {fo fi : FE} {e : Sl} {y v : Nat} (h1 : fo e mm = some (.loc q, mm)) (h2 : fi e mm = some (.int (y : Nat), mm)) (hy : y < n) :
    fSub fo fi (.int (v : Nat)) e mm = some (e, mm.set q (.lst (tab n fun z => .int ((if z = y then v else g z : Nat) : Int)))) := by
  rw [fSub_ev h1 h2 h.img (tab_ix hy), tab_set]
  have e5 : (tab n fun z => if z = y then D.int (v : Nat) else D.int (g z : Nat)) = tab n fun z => .int ((if z = y then v else g z : Nat) : Int) := tab_congr fun z _ => by split <;> rfl
  rw [e5]
theorem swap_ev {l q n : Nat} {g : Nat → Nat} {mm : Mem} (h : St l q n g mm) {e : Sl} {i j a b : Nat} (he : e[2]? = some (some (.loc q))) (hi : e[i]? = some (some (.int (a : Nat)))) (hj : e[j]? = some (some (.int (b : Nat)))) (ha : a < n) (hb : b < n) :
    ∃ m', (fsAsg (fTup (fCons (fOp gIx (fVar 2) (fVar j)) (fCons (fOp gIx (fVar 2) (fVar i)) fNil))) (fTupG 2 (fsCons (fSub (fVar 2) (fVar i)) (fsCons (fSub (fVar 2) (fVar j)) fsNil)))) e mm = some (.nx e m') ∧ St l q n (swp g a b) m' := by
  have h2 : St l q n (swp g a b) ((mm.set q (.lst (tab n fun z => .int ((if z = a then g b else g z : Nat) : Int)))).set q (.lst (tab n fun z => .int (swp g a b z : Nat)))) := by
    rw [List.set_set]
    exact h.put (swp_perm h.p ha hb)
  refine ⟨_, ?_, h2⟩
  have s1 := h.sub (fo := fVar 2) (fi := fVar i) (e := e) (v := g b) (v_var he) (v_var hi) ha
  have hget : (mm.set q (.lst (tab n fun z => .int ((if z = a then g b else g z : Nat) : Int))))[q]? = some (.lst (tab n fun z => .int ((if z = a then g b else g z : Nat) : Int))) := List.getElem?_set_self (List.getElem?_eq_some_iff.mp h.img).1
  have s2 := fSub_ev (fo := fVar 2) (fi := fVar j) (e := e) (d := .int (g a : Nat)) (v_var he) (v_var hj) hget (tab_ix hb)
  rw [tab_set] at s2
  have e5 : (tab n fun z => if z = b then D.int (g a : Nat) else D.int ((if z = a then g b else g z : Nat) : Int)) = tab n fun z => .int (swp g a b z : Nat) := tab_congr fun z _ => by
    unfold swp
    split <;> rfl
  rw [e5] at s2
  have i1 : fOp gIx (fVar 2) (fVar j) e mm = some (.int (g b : Nat), mm) := op_ev (v_var he) (v_var hj) (h.ix hb)
  have i2 : fOp gIx (fVar 2) (fVar i) e mm = some (.int (g a : Nat), mm) := op_ev (v_var he) (v_var hi) (h.ix ha)
  unfold fsAsg fTup fCons fNil
  rw [i1, Option.bind_some]
  simp only [i2, Option.bind_some, List.length_cons, List.length_nil, Nat.reduceAdd, Nat.reduceLeDiff, if_true, fTupG, fsCons, fsNil, s1, s2, Option.map_some]
theorem posI_some {l : List Int} {x : Int} : x ∈ l → ∃ j, posI l x = some j := by
  induction l with
  | nil => intro h; cases h
  | cons y r ih =>
    intro h
    unfold posI
    by_cases e : y = x
    · exact ⟨0, if_pos e⟩
    · rw [if_neg e]
      rcases List.mem_cons.mp h with q | q
      · exact absurd q.symm e
      · obtain ⟨j, hj⟩ := ih q
        exact ⟨j + 1, by rw [hj]; rfl⟩
def idx (n : Nat) (g : Nat → Nat) (y : Nat) : Nat := (posI ((List.range n).map fun z => ((g z : Nat) : Int)) (y : Nat)).getD 0
theorem idx_ok {n : Nat} {g : Nat → Nat} (h : Perm n g) {y : Nat} (hy : y < n) : posI ((List.range n).map fun z => ((g z : Nat) : Int)) (y : Nat) = some (idx n g y) ∧ idx n g y < n ∧ g (idx n g y) = y := by
  obtain ⟨x, hx, e⟩ := surj h hy
  have hm : ((y : Nat) : Int) ∈ (List.range n).map fun z => ((g z : Nat) : Int) := List.mem_map.mpr ⟨x, List.mem_range.mpr hx, by rw [e]⟩
  obtain ⟨j, hj⟩ := posI_some hm
  have e2 : idx n g y = j := by unfold idx; rw [hj]; rfl
  rw [e2]
  obtain ⟨q1, _⟩ := posI_ok hj
  rw [List.getElem?_map] at q1
  obtain ⟨z, q2, q3⟩ := mapE q1
  have hjn : j < n := by
    have := (List.getElem?_eq_some_iff.mp q2).1
    simpa using this
  rw [List.getElem?_range hjn] at q2
  cases q2
  exact ⟨hj, hjn, by omega⟩
theorem succ_mod_inj {n a b : Nat} (ha : a < n) (hb : b < n) (h : (a + 1) % n = (b + 1) % n) : a = b := by
  by_cases h1 : a + 1 < n
  · rw [Nat.mod_eq_of_lt h1] at h
    by_cases h2 : b + 1 < n
    · rw [Nat.mod_eq_of_lt h2] at h; omega
    · have : b + 1 = n := by omega
      rw [this, Nat.mod_self] at h; omega
  · have e1 : a + 1 = n := by omega
    rw [e1, Nat.mod_self] at h
    by_cases h2 : b + 1 < n
    · rw [Nat.mod_eq_of_lt h2] at h; omega
    · omega
theorem round_perm {n : Nat} {g : Nat → Nat} (hn : 0 < n) (h : Perm n g) : Perm n fun y => g ((idx n g y + 1) % n) := by
  refine ⟨fun x hx => h.lt _ (Nat.mod_lt _ hn), fun x y hx hy e => ?_⟩
  obtain ⟨_, x1, x2⟩ := idx_ok h hx
  obtain ⟨_, y1, y2⟩ := idx_ok h hy
  have e2 := succ_mod_inj x1 y1 (h.inj _ _ (Nat.mod_lt _ hn) (Nat.mod_lt _ hn) e)
  rw [← x2, ← y2, e2]
theorem gMod_natW {m : Mem} {a b : Nat} (h : 0 < b) : gMod (.int (a : Nat)) (.int (b : Nat)) m = some (.int ((a % b : Nat) : Int), m) := by
  unfold gMod gInt
  have : (0 : Int) < (b : Nat) := by omega
  simp only [this, decide_true, if_true, Int.natCast_emod]
noncomputable def F_law_move : GN := Fof0 N_law_move 2 (g_law_move F_law_take)
abbrev vE (l n q : Nat) (w : Int) (a b c d : Option D) : Sl := [some (.loc l), some (.int (n : Nat)), some (.loc q), some (.int w), a, b, c, d]
theorem lp_move_ev {l q n : Nat} {g : Nat → Nat} {mm : Mem} {w : Int} (h1 : 1 ≤ n ∧ n ≤ 60) (h : St l q n g mm) : ∃ g' m' c d, lp_law_move_1 F_law_take (vE l n q w none none none none) mm = some (.nx (vE l n q w none none c d) m') ∧ St l q n g' m' := by
  have hj : (-100000 : Int) ≤ (n : Int) - 1 ∧ ((n : Int) - 1) ≤ 100000 ∧ (-100000 : Int) ≤ 0 ∧ (0 : Int) ≤ 100000 := by omega
  have hz := for_evL (fi := fDown (fOp Mv.gSub (fVar 1) (fC (.int 1))) (fC (.int 0)) (fUn gNeg (fC (.int 1)))) (ft := fName 6) (g := lb_law_move_1 F_law_take) (e := vE l n q w none none none none)
    (m0 := mm) (m := mm) (s := ⟨downD ((n : Int) - 1) (((n : Int) - 1) - 0).toNat, none⟩) ?_
    (fun xs e mm => (∀ x ∈ xs, ∃ p : Nat, 1 ≤ p ∧ p < n ∧ x = .int (p : Nat)) ∧ ∃ g c d, e = vE l n q w none none c d ∧ St l q n g mm)
    (fun o => ∃ g' m' c d, o = .nx (vE l n q w none none c d) m' ∧ St l q n g' m')
    (fun _ _ _ _ => trivial) ⟨fun x hx => ?_, g, none, none, rfl, h⟩ ?_ ?_
  · obtain ⟨o, h2, g', m', c, d, rfl, h3⟩ := hz
    exact ⟨g', m', c, d, h2, h3⟩
  · simp only [fsSeq, fsRet, fsRetN, fsIf, fsAsg, fsDrop, fsPar, fVar, fC, fCons, fNil, fCall, fOp, fUn, fOn, fTest, fTru, fNotT, fAndT, fOrT, fAnd, fOr, fNot, fIf, fChain, fName, fTupG, fsCons, fsNil, fPut, fLst, fTup, asB, asI, Option.bind_some, Option.map_some, Option.bind_none, Option.map_none, Option.join_some, List.getElem?_cons_zero, List.getElem?_cons_succ, fsNever, fsNext, fSeq, seqOf, fYes, fLCall, fPart, fNoPart, fSl, List.length_cons, List.length_nil, fIxN, fRange1, fRange2, fEnum, fDown, fLenSet, fRev, fTRg1, fRg1, vE, Mv.gSub, gInt0, gNeg, hj, and_self, if_true]
  · obtain ⟨k, hk, rfl⟩ := List.mem_map.mp hx
    have hk := List.mem_range.mp hk
    refine ⟨n - 1 - k, by omega, by omega, ?_⟩
    congr 1
    omega
  · rintro x xs e mm ⟨hx, g, c, d, rfl, hs⟩
    obtain ⟨p, p1, p2, rfl⟩ := hx x (by simp)
    obtain ⟨v, m1, t1, t2, t3, t4, t5⟩ := take_ev (k := (p : Int) + 1) hs.pool (by omega) (by omega)
    have hs1 := hs.still t4 t5
    obtain ⟨u, rfl⟩ : ∃ u : Nat, v = (u : Nat) := ⟨v.toNat, by omega⟩
    obtain ⟨m2, s1, s2⟩ := swap_ev (i := 6) (j := 7) (e := vE l n q w none none (some (.int (p : Nat))) (some (.int (u : Nat)))) hs1 rfl rfl rfl p2 (show u < n by omega)
    refine ⟨.nx (vE l n q w none none (some (.int (p : Nat))) (some (.int (u : Nat)))) m2, ?_, fun y hy => hx y (by simp [hy]), _, _, _, rfl, s2⟩
    show lb_law_move_1 F_law_take (vE l n q w none none (some (.int (p : Nat))) d) mm = _
    unfold lb_law_move_1
    refine seq_ev (e1 := vE l n q w none none (some (.int (p : Nat))) (some (.int (u : Nat)))) (m1 := m1) ?_ s1
    have ha : ∀ mm, gAdd (.int (p : Nat)) (.int 1) mm = some (.int ((p : Nat) + 1), mm) := fun _ => rfl
    simp only [fsSeq, fsRet, fsRetN, fsIf, fsAsg, fsDrop, fsPar, fVar, fC, fCons, fNil, fCall, fOp, fUn, fOn, fTest, fTru, fNotT, fAndT, fOrT, fAnd, fOr, fNot, fIf, fChain, fName, fTupG, fsCons, fsNil, fPut, fLst, fTup, asB, asI, Option.bind_some, Option.map_some, Option.bind_none, Option.map_none, Option.join_some, List.getElem?_cons_zero, List.getElem?_cons_succ, fsNever, fsNext, fSeq, seqOf, fYes, fLCall, fPart, fNoPart, fSl, List.length_cons, List.length_nil, fIxN, fRange1, fRange2, fEnum, fDown, fLenSet, fRev, fTRg1, fRg1, vE, ha, t1, List.set_cons_succ, List.set_cons_zero]
  · rintro e mm ⟨_, g, c, d, rfl, hs⟩
    exact ⟨g, mm, c, d, rfl, hs⟩
theorem lc_move_ev {l q n : Nat} {g : Nat → Nat} {mm : Mem} {w : Int} {a b c d : Option D} (h1 : 1 ≤ n ∧ n ≤ 60) (h : St l q n g mm) : lc_law_move_1 F_law_take (vE l n q w a b c d) mm = some (tab n fun y => .int ((g ((idx n g y + 1) % n) : Nat) : Int), mm) := by
  have hj : (-100000 : Int) ≤ (n : Nat) ∧ ((n : Nat) : Int) ≤ 100000 := by omega
  unfold lc_law_move_1
  rw [lc_ev (xs := tab n fun y => .int (y : Nat)) (by simp only [fsSeq, fsRet, fsRetN, fsIf, fsAsg, fsDrop, fsPar, fVar, fC, fCons, fNil, fCall, fOp, fUn, fOn, fTest, fTru, fNotT, fAndT, fOrT, fAnd, fOr, fNot, fIf, fChain, fName, fTupG, fsCons, fsNil, fPut, fLst, fTup, asB, asI, Option.bind_some, Option.map_some, Option.bind_none, Option.map_none, Option.join_some, List.getElem?_cons_zero, List.getElem?_cons_succ, fsNever, fsNext, fSeq, seqOf, fYes, fLCall, fPart, fNoPart, fSl, List.length_cons, List.length_nil, fIxN, fRange1, fRange2, fEnum, fDown, fLenSet, fRev, fTRg1, fRg1, vE, hj, and_self, if_true, Int.toNat_natCast, tab_range]) (by rw [tab_len]; omega) (fun x => match x with | .int i => some (.int ((g ((idx n g i.toNat + 1) % n) : Nat) : Int)) | _ => none) fun y hy => ?_]
  · rw [fm_tab (k := fun y => .int ((g ((idx n g y + 1) % n) : Nat) : Int)) fun y hy => by simp only [Int.toNat_natCast]]
  · obtain ⟨z, hz, rfl⟩ := List.mem_map.mp hy
    have hz := List.mem_range.mp hz
    have e : wipeE (vE l n q w a b c d) [6] = vE l n q w a b none d := rfl
    obtain ⟨i1, i2, i3⟩ := idx_ok h.p hz
    have hix : fMeth gIndex (fVar 2) (fCons (fVar 6) fNil) (vE l n q w a b (some (.int (z : Nat))) d) mm = some (.int ((idx n g z : Nat) : Int), mm) := by
      unfold fMeth
      rw [v_var (i := 2) (d := .loc q) rfl, Option.bind_some]
      simp only [h.img, Option.bind_some, fCons, fNil]
      rw [v_var (i := 6) (d := .int (z : Nat)) rfl, Option.bind_some, Option.bind_some]
      unfold gIndex
      simp only [h.img, tab_ints, asIs_map, Option.bind_some, i1, Option.map_some]
    have hmod : gMod (.int ((idx n g z : Nat) + 1)) (.int (n : Nat)) mm = some (.int (((idx n g z + 1) % n : Nat) : Int), mm) := gMod_natW (a := idx n g z + 1) (by omega)
    have hx := h.ix (y := (idx n g z + 1) % n) (Nat.mod_lt _ (by omega))
    have hadd : gAdd (.int ((idx n g z : Nat) : Int)) (.int 1) mm = some (.int ((idx n g z : Nat) + 1), mm) := rfl
    rw [e]
    unfold fElt
    have q1 : fOp gIx (fVar 2) (fOp gMod (fOp gAdd (fMeth gIndex (fVar 2) (fCons (fVar 6) fNil)) (fC (.int 1))) (fVar 1)) (vE l n q w a b (some (.int (z : Nat))) d) mm = some (.int ((g ((idx n g z + 1) % n) : Nat) : Int), mm) :=
      op_ev (v_var rfl) (op_ev (op_ev hix v_c hadd) (v_var rfl) hmod) hx
    simp only [fName, Option.bind_some, fYes, if_true, vE, List.set_cons_succ, List.set_cons_zero]
    simp only [vE] at q1
    rw [q1, Option.map_some, Int.toNat_natCast]
theorem seq_rt {f g : FS} {e : Sl} {m m1 : Mem} {d : D} (h : f e m = some (.rt d m1)) : fsSeq f g e m = some (.rt d m1) := by
  unfold fsSeq
  rw [h]; rfl
theorem ret_tup {l q n : Nat} {g : Nat → Nat} {mm : Mem} {e : Sl} (h : St l q n g mm) (he : e[2]? = some (some (.loc q))) : fsRet (fCall gTupOf (fCons (fVar 2) fNil)) e mm = some (.rt (mvD n g) mm) := by
  unfold fsRet fCall fCons fNil
  rw [v_var he]
  simp only [Option.bind_some, h.tup, Option.map_some]
theorem move_ev {m : Mem} {l n : Nat} (h1 : 1 ≤ n ∧ n ≤ 60) (hp : PoolAt l m) : ∃ f m', F_law_move [.loc l, .int (n : Nat)] m = some (mvD n f, m') ∧ IsM n f ∧ PoolAt l m' := by
  have hl : l < m.length := by
    obtain ⟨a, b, c, q, _⟩ := hp
    exact (List.getElem?_eq_some_iff.mp q).1
  have e : startE N_law_move [.loc l, .int (n : Nat)] = [some (.loc l), some (.int (n : Nat)), none, none, none, none, none, none] := rfl
  have hp0 : PoolAt l (m ++ [.lst (tab n fun y => .int (y : Nat))]) := by
    obtain ⟨a, b, c, q, q2⟩ := hp
    exact ⟨a, b, c, by rw [List.getElem?_append_left hl]; exact q, q2⟩
  obtain ⟨w, m1, t1, t2, t3, t4, t5⟩ := take_ev (k := 8) hp0 (by decide) (by decide)
  have hs : St l m.length n id m1 := by
    have h0 : St l m.length n id (m ++ [.lst (tab n fun y => .int (y : Nat))]) := ⟨hp0, get_off m _ 0, ⟨fun x hx => hx, fun x y _ _ q => q⟩, by omega⟩
    exact h0.still t4 t5
  have hz : (0 : Int) ≤ n ∧ (n : Int) ≤ 100000 := by omega
  have hA : fsAsg (fTup (fCons (fPut (fRg1 (fVar 1))) (fCons (fCall F_law_take (fCons (fVar 0) (fCons (fC (.int 8)) fNil))) fNil))) (fTupG 2 (fsCons (fName 2) (fsCons (fName 3) fsNil))) [some (.loc l), some (.int (n : Nat)), none, none, none, none, none, none] m = some (.nx (vE l n m.length w none none none none) m1) := by
    simp only [fsSeq, fsRet, fsRetN, fsIf, fsAsg, fsDrop, fsPar, fVar, fC, fCons, fNil, fCall, fOp, fUn, fOn, fTest, fTru, fNotT, fAndT, fOrT, fAnd, fOr, fNot, fIf, fChain, fName, fTupG, fsCons, fsNil, fPut, fLst, fTup, asB, asI, Option.bind_some, Option.map_some, Option.bind_none, Option.map_none, Option.join_some, List.getElem?_cons_zero, List.getElem?_cons_succ, fsNever, fsNext, fSeq, seqOf, fYes, fLCall, fPart, fNoPart, fSl, List.length_cons, List.length_nil, fIxN, fRange1, fRange2, fEnum, fDown, fLenSet, fRev, fTRg1, fRg1, hz, and_self, if_true, Int.toNat_natCast, tab_range, t1, Nat.reduceAdd, Nat.reduceLeDiff, List.set_cons_succ, List.set_cons_zero]
  by_cases c1 : w = 0 ∨ (n : Int) = 1
  · refine ⟨id, m1, Fof0_of (o := .rt (mvD n id) m1) rfl ?_ rfl, ⟨h1.1, h1.2, hs.p⟩, hs.pool⟩
    rw [e]
    unfold g_law_move
    refine seq_ev hA (seq_rt ?_)
    have hr := ret_tup (e := vE l n m.length w none none none none) hs rfl
    by_cases c0 : w = 0
    · unfold fsIf
      simp only [fOrT, fTest, fOp, fVar, fC, vE, List.getElem?_cons_zero, List.getElem?_cons_succ, Option.join_some, Option.map_some, Option.bind_some, gEq_int, c0, decide_true, asB, if_true]
      simp only [vE, c0] at hr
      exact hr
    · have c2 : (n : Int) = 1 := c1.resolve_left c0
      unfold fsIf
      simp only [fOrT, fTest, fOp, fVar, fC, vE, List.getElem?_cons_zero, List.getElem?_cons_succ, Option.join_some, Option.map_some, Option.bind_some, gEq_int, c0, decide_false, asB, Bool.false_eq_true, if_false, decide_eq_true c2, if_true]
      exact hr
  · have c0 : ¬ w = 0 := fun z => c1 (.inl z)
    have c2 : ¬ (n : Int) = 1 := fun z => c1 (.inr z)
    have hB : fsIf (fOrT (fTest (fOp gEqS (fVar 3) (fC (.int 0)))) (fTest (fOp gEqS (fVar 1) (fC (.int 1))))) (fsRet (fCall gTupOf (fCons (fVar 2) fNil))) fsNext (vE l n m.length w none none none none) m1 = some (.nx (vE l n m.length w none none none none) m1) := by
      simp only [fsSeq, fsRet, fsRetN, fsIf, fsAsg, fsDrop, fsPar, fVar, fC, fCons, fNil, fCall, fOp, fUn, fOn, fTest, fTru, fNotT, fAndT, fOrT, fAnd, fOr, fNot, fIf, fChain, fName, fTupG, fsCons, fsNil, fPut, fLst, fTup, asB, asI, Option.bind_some, Option.map_some, Option.bind_none, Option.map_none, Option.join_some, List.getElem?_cons_zero, List.getElem?_cons_succ, fsNever, fsNext, fSeq, seqOf, fYes, fLCall, fPart, fNoPart, fSl, List.length_cons, List.length_nil, fIxN, fRange1, fRange2, fEnum, fDown, fLenSet, fRev, fTRg1, fRg1, vE, gEq_int, c0, c2, decide_false, Bool.false_eq_true, if_false]
    by_cases c3 : w < 3
    · obtain ⟨v1, m2, u1, u2, u3, u4, u5⟩ := take_ev (k := (n : Nat)) hs.pool (by omega) (by omega)
      have hs2 := hs.still u4 u5
      obtain ⟨v2, m3, x1, x2, x3, x4, x5⟩ := take_ev (k := (n : Nat)) hs2.pool (by omega) (by omega)
      have hs3 := hs2.still x4 x5
      obtain ⟨a, rfl⟩ : ∃ u : Nat, v1 = (u : Nat) := ⟨v1.toNat, by omega⟩
      obtain ⟨b, rfl⟩ : ∃ u : Nat, v2 = (u : Nat) := ⟨v2.toNat, by omega⟩
      obtain ⟨m4, y1, y2⟩ := swap_ev (i := 4) (j := 5) (e := vE l n m.length w (some (.int (a : Nat))) (some (.int (b : Nat))) none none) hs3 rfl rfl rfl (show a < n by omega) (show b < n by omega)
      refine ⟨swp id a b, m4, Fof0_of (o := .rt (mvD n (swp id a b)) m4) rfl ?_ rfl, ⟨h1.1, h1.2, y2.p⟩, y2.pool⟩
      rw [e]
      unfold g_law_move
      refine seq_ev hA (seq_ev hB (seq_rt ?_))
      unfold fsIf
      have ht : fTest (fOp gLt (fVar 3) (fC (.int 3))) (vE l n m.length w none none none none) m1 = some (true, m1) := by
        simp only [fsSeq, fsRet, fsRetN, fsIf, fsAsg, fsDrop, fsPar, fVar, fC, fCons, fNil, fCall, fOp, fUn, fOn, fTest, fTru, fNotT, fAndT, fOrT, fAnd, fOr, fNot, fIf, fChain, fName, fTupG, fsCons, fsNil, fPut, fLst, fTup, asB, asI, Option.bind_some, Option.map_some, Option.bind_none, Option.map_none, Option.join_some, List.getElem?_cons_zero, List.getElem?_cons_succ, fsNever, fsNext, fSeq, seqOf, fYes, fLCall, fPart, fNoPart, fSl, List.length_cons, List.length_nil, fIxN, fRange1, fRange2, fEnum, fDown, fLenSet, fRev, fTRg1, fRg1, vE, gLt, gInt0, c3, decide_true]
      rw [ht, Option.bind_some, if_pos rfl]
      refine seq_ev (e1 := vE l n m.length w (some (.int (a : Nat))) (some (.int (b : Nat))) none none) (m1 := m3) ?_ (seq_ev y1 (ret_tup y2 rfl))
      simp only [fsSeq, fsRet, fsRetN, fsIf, fsAsg, fsDrop, fsPar, fVar, fC, fCons, fNil, fCall, fOp, fUn, fOn, fTest, fTru, fNotT, fAndT, fOrT, fAnd, fOr, fNot, fIf, fChain, fName, fTupG, fsCons, fsNil, fPut, fLst, fTup, asB, asI, Option.bind_some, Option.map_some, Option.bind_none, Option.map_none, Option.join_some, List.getElem?_cons_zero, List.getElem?_cons_succ, fsNever, fsNext, fSeq, seqOf, fYes, fLCall, fPart, fNoPart, fSl, List.length_cons, List.length_nil, fIxN, fRange1, fRange2, fEnum, fDown, fLenSet, fRev, fTRg1, fRg1, vE, u1, x1, List.set_cons_succ, List.set_cons_zero]
    · have hC : ∀ X, fsIf (fTest (fOp gLt (fVar 3) (fC (.int 3)))) X fsNext (vE l n m.length w none none none none) m1 = some (.nx (vE l n m.length w none none none none) m1) := fun X => by
        have ht : fTest (fOp gLt (fVar 3) (fC (.int 3))) (vE l n m.length w none none none none) m1 = some (false, m1) := by
          simp only [fsSeq, fsRet, fsRetN, fsIf, fsAsg, fsDrop, fsPar, fVar, fC, fCons, fNil, fCall, fOp, fUn, fOn, fTest, fTru, fNotT, fAndT, fOrT, fAnd, fOr, fNot, fIf, fChain, fName, fTupG, fsCons, fsNil, fPut, fLst, fTup, asB, asI, Option.bind_some, Option.map_some, Option.bind_none, Option.map_none, Option.join_some, List.getElem?_cons_zero, List.getElem?_cons_succ, fsNever, fsNext, fSeq, seqOf, fYes, fLCall, fPart, fNoPart, fSl, List.length_cons, List.length_nil, fIxN, fRange1, fRange2, fEnum, fDown, fLenSet, fRev, fTRg1, fRg1, vE, gLt, gInt0, c3, decide_false]
        unfold fsIf
        rw [ht]; rfl
      obtain ⟨g', m2, c, d, z1, z2⟩ := lp_move_ev (w := w) h1 hs
      by_cases c4 : w = 3
      · refine ⟨_, m2, Fof0_of (o := .rt (mvD n fun y => g' ((idx n g' y + 1) % n)) m2) rfl ?_ rfl, ⟨h1.1, h1.2, round_perm (by omega) z2.p⟩, z2.pool⟩
        rw [e]
        unfold g_law_move
        refine seq_ev hA (seq_ev hB (seq_ev (hC _) (seq_ev z1 (seq_rt ?_))))
        have ht : fTest (fOp gEqS (fVar 3) (fC (.int 3))) (vE l n m.length w none none c d) m2 = some (true, m2) := by
          simp only [fsSeq, fsRet, fsRetN, fsIf, fsAsg, fsDrop, fsPar, fVar, fC, fCons, fNil, fCall, fOp, fUn, fOn, fTest, fTru, fNotT, fAndT, fOrT, fAnd, fOr, fNot, fIf, fChain, fName, fTupG, fsCons, fsNil, fPut, fLst, fTup, asB, asI, Option.bind_some, Option.map_some, Option.bind_none, Option.map_none, Option.join_some, List.getElem?_cons_zero, List.getElem?_cons_succ, fsNever, fsNext, fSeq, seqOf, fYes, fLCall, fPart, fNoPart, fSl, List.length_cons, List.length_nil, fIxN, fRange1, fRange2, fEnum, fDown, fLenSet, fRev, fTRg1, fRg1, vE, gEq_int, c4, decide_true]
        unfold fsIf
        rw [ht, Option.bind_some, if_pos rfl]
        have hl := lc_move_ev (w := w) (a := none) (b := none) (c := c) (d := d) h1 z2
        unfold fsRet fOn
        rw [hl]; rfl
      · refine ⟨g', m2, Fof0_of (o := .rt (mvD n g') m2) rfl ?_ rfl, ⟨h1.1, h1.2, z2.p⟩, z2.pool⟩
        rw [e]
        unfold g_law_move
        refine seq_ev hA (seq_ev hB (seq_ev (hC _) (seq_ev z1 (seq_ev (e1 := vE l n m.length w none none c d) (m1 := m2) ?_ (ret_tup z2 rfl)))))
        have ht : fTest (fOp gEqS (fVar 3) (fC (.int 3))) (vE l n m.length w none none c d) m2 = some (false, m2) := by
          simp only [fsSeq, fsRet, fsRetN, fsIf, fsAsg, fsDrop, fsPar, fVar, fC, fCons, fNil, fCall, fOp, fUn, fOn, fTest, fTru, fNotT, fAndT, fOrT, fAnd, fOr, fNot, fIf, fChain, fName, fTupG, fsCons, fsNil, fPut, fLst, fTup, asB, asI, Option.bind_some, Option.map_some, Option.bind_none, Option.map_none, Option.join_some, List.getElem?_cons_zero, List.getElem?_cons_succ, fsNever, fsNext, fSeq, seqOf, fYes, fLCall, fPart, fNoPart, fSl, List.length_cons, List.length_nil, fIxN, fRange1, fRange2, fEnum, fDown, fLenSet, fRev, fTRg1, fRg1, vE, gEq_int, c4, decide_false]
        unfold fsIf
        rw [ht]; rfl
end k24

set_option Elab.async false
set_option linter.all false
set_option maxRecDepth 100000
set_option maxHeartbeats 400000
namespace k24
open PySem PySem.Spec PyProof.Rows L2 Mv Cyc
theorem btw {m : Mem} {x n : Nat} (h : x < n) : F_is_between [.int (x : Nat), .int 0, .int ((n : Nat) - 1)] m = some (.bl true, m) := by
  rw [is_between_ev rfl, inR_int.mpr (by omega)]
theorem isT {m : Mem} {xs : List D} : gIsiC cenv [.tup xs, .ty "tuple"] m = some (.bl true, m) := isi_tuple rfl
/-! ### is_rising -/
noncomputable def F_is_rising : GN := Fof0 N_is_rising 2 (g_is_rising F_is_between)
theorem is_rising_ev {m : Mem} {n : Nat} {S : List Nat} (hn : n ≤ 48) (h : Rise n S) : F_is_rising [nD S, .int (n : Nat)] m = some (.bl true, m) := by
  have hl := h.len
  refine Fof0_of (o := .rt (.bl true) m) rfl ?_ rfl
  show g_is_rising F_is_between [some (nD S), some (.int (n : Nat)), none, none, none] m = _
  unfold g_is_rising
  have c1 : lc_is_rising_1 F_is_between [some (nD S), some (.int (n : Nat)), none, none, none] m = some (S.map fun _ => .bl true, m) :=
    y_lc (l := S) (g := fun x => .int (x : Nat)) (y_seqT (y_var rfl)) (by omega) fun x hx => y_elt rfl (y_call (y_cons (y_var rfl) (y_cons y_c (y_cons (y_op (y_var rfl) y_c rfl) y_nil))) (btw (h.lt x hx)))
  refine y_seq (y_no (y_orN (y_notT (y_tru (y_call (y_cons (y_var rfl) (y_cons y_c y_nil)) isT) rfl)) (y_notT (y_tru (y_on c1 (gAll_t _ _)) rfl))) y_next) ?_
  have c2 : lc_is_rising_2 F_is_between [some (nD S), some (.int (n : Nat)), none, none, none] m = some ((S.zip (S.drop 1)).map fun _ => .bl true, m) := by
    refine y_lc (l := S.zip (S.drop 1)) (g := fun p => .tup [.int (p.1 : Nat), .int (p.2 : Nat)]) (m := m) ?_ (by rw [List.length_zip]; omega) fun p hp => y_elt rfl (y_op (y_var rfl) (y_var rfl) (?_ : _ = some (D.bl true, m)))
    · unfold fZip
      have e1 : fCons (fVar 0) (fCons (fSl (fVar 0) (fPart (fC (.int 1))) fNoPart) fNil) [some (nD S), some (.int (n : Nat)), none, none, none] m = some ([nD S, .tup (cutD (nL S) (some 1) none)], m) := rfl
      rw [e1, cut_1, ← List.map_drop]
      show some (_, m) = _
      rw [zipD_maps]
    · have := up_zip h.up p hp
      show some (D.bl (decide ((p.1 : Int) < (p.2 : Nat))), m) = _
      rw [decide_eq_true (by omega)]
  exact y_ret (y_on c2 (gAll_t _ _))
/-! ### forms -/
noncomputable def F_is_line : GN := Fof0 N_is_line 2 (g_is_line F_is_between)
theorem is_line_ev {m : Mem} {n : Nat} {f : Nat → Nat} (hn : n ≤ 48) (h : ∀ y, y < n → f y < n) : F_is_line [mvD n f, .int (n : Nat)] m = some (.bl true, m) := by
  refine Fof0_of (o := .rt (.bl true) m) rfl ?_ rfl
  show g_is_line F_is_between [some (mvD n f), some (.int (n : Nat)), none] m = _
  unfold g_is_line
  have ne : gNeS (.int (n : Nat)) (.int (n : Nat)) m = some (.bl false, m) := by rw [gNe_int, decide_eq_true rfl]; rfl
  refine y_seq (y_no (y_orN (y_notT (y_tru (y_call (y_cons (y_var rfl) (y_cons y_c y_nil)) isT) rfl)) (y_test (y_op (y_call (y_cons (y_var rfl) y_nil) len_row) (y_var rfl) ne))) y_next) ?_
  refine y_ret (y_on (y_lc (l := List.range n) (g := fun y => .int (f y : Nat)) (y_seqT (y_var rfl)) (by rw [List.length_range]; omega) fun y hy => y_elt rfl (y_call (y_cons (y_var rfl) (y_cons y_c (y_cons (y_op (y_var rfl) y_c rfl) y_nil))) (btw (h y (List.mem_range.mp hy))))) (gAll_t _ _))
noncomputable def F_has_form : GN := Fof0 N_has_form 1 (g_has_form F_is_line)
section
variable {m : Mem} {n : Nat} {T : Nat → Nat → Nat}
theorem has_form_ev (g : Grp n T) : F_has_form [linesD n T] m = some (.bl true, m) := by
  refine Fof0_of (o := .rt (.bl true) m) rfl ?_ rfl
  show g_has_form F_is_line [some (linesD n T), none] m = _
  unfold g_has_form
  have h1 := g.pos
  have h2 := g.le
  have l1 : gLe (.int 1) (.int (n : Nat)) m = some (.bl true, m) := by show some (D.bl (decide _), m) = _; rw [decide_eq_true (by omega)]
  have l2 : gLe (.int (n : Nat)) (.int 48) m = some (.bl true, m) := by show some (D.bl (decide _), m) = _; rw [decide_eq_true (by omega)]
  refine y_seq (y_no (y_orN (y_notT (y_tru (y_call (y_cons (y_w (y_var rfl) (weak_lines n T)) (y_cons y_c y_nil)) isT) rfl)) (y_notT (y_test (y_chainY y_c (y_call (y_cons (y_w (y_var rfl) (weak_lines n T)) y_nil) len_linesW) l1 y_c l2)))) y_next) ?_
  refine y_ret (y_on (y_lc (l := List.range n) (g := fun i => mvS n (T i)) (y_seqT (y_var rfl)) (by rw [List.length_range]; omega) fun i hi => y_elt rfl (y_call (y_cons (y_w (y_var rfl) (weak_mvS n (T i))) (y_cons (y_call (y_cons (y_w (y_var rfl) (weak_lines n T)) y_nil) len_linesW) y_nil)) (is_line_ev h2 fun j hj => g.lt i j (List.mem_range.mp hi) hj))) (gAll_t _ _))
/-! ### threes -/
noncomputable def F_unlike_three : GN := Fof0 N_unlike_three 1 g_unlike_three
theorem mv_ne {m : Mem} {a b : Nat → Nat} (hn : n ≤ 48) (h : ∀ y, y < n → a y = b y) : gNeS (mvD n a) (mvD n b) m = some (.bl false, m) := by
  have e : mvD n a = mvD n b := by unfold mvD; rw [tab_congr fun y hy => by rw [h y hy]]
  have e2 : mvD n b = wD (((List.range n).map b).map Int.ofNat) := by
    unfold mvD wD
    rw [tab_nL, nL_ints]
  rw [e, e2]
  exact (plEq_same (a := wD _) (show D.plAll _ = true from plAll_ints _) (by show D.depAll _ + 1 ≤ 60; rw [depAll_ints]; omega) m).2
theorem unlike_three_ev (g : Grp n T) : F_unlike_three [linesD n T] m = some (.non, m) := by
  have h2 := g.le
  refine Fof0_of (o := .rt .non m) rfl ?_ rfl
  show g_unlike_three [some (linesD n T), none, none, none, none, none, none, none] m = _
  unfold g_unlike_three
  have hz := y_for (fi := fEnum (fVar 0)) (ft := fTupG 2 (fsCons (fName 1) (fsCons (fName 2) fsNil))) (g := lb_unlike_three_2) (e := [some (linesD n T), none, none, none, none, none, none, none]) (m0 := m) (m := m)
    (l := (List.range n).zipIdx 0) (k := fun p => .tup [.int (p.2 : Nat), mvS n (T p.1)]) (by rw [← numberD_map (fun i => mvS n (T i))]; rfl)
    (fun _ _ e mm => mm = m ∧ ∃ a b c d f h k, e = [some (linesD n T), a, b, c, d, f, h, k]) ⟨rfl, _, _, _, _, _, _, _, rfl⟩ ?_
  · obtain ⟨e1, m1, q, rfl, _, _, _, _, _, _, _, rfl⟩ := hz
    exact y_seq q (y_ret y_c)
  · rintro a ⟨i, i'⟩ b e mm hl ⟨rfl, x1, x2, x3, x4, x5, x6, x7, rfl⟩
    obtain ⟨hi, hii⟩ : i < n ∧ i' = i := by
      have hm : (i, i') ∈ (List.range n).zipIdx 0 := by rw [hl]; simp
      obtain ⟨z1, z2, z3⟩ := List.mem_zipIdx hm
      rw [List.length_range] at z2
      rw [List.getElem_range] at z3
      omega
    subst hii
    show ∃ e1 m1, lb_unlike_three_2 [some (linesD n T), some (.int (i' : Nat)), some (mvS n (T i')), x3, x4, x5, x6, x7] mm = _ ∧ _
    have hz2 := y_for (fi := fEnum (fVar 0)) (ft := fTupG 2 (fsCons (fName 3) (fsCons (fName 4) fsNil))) (g := lb_unlike_three_1) (e := [some (linesD n T), some (.int (i' : Nat)), some (mvS n (T i')), x3, x4, x5, x6, x7]) (m0 := mm) (m := mm)
      (l := (List.range n).zipIdx 0) (k := fun p => .tup [.int (p.2 : Nat), mvS n (T p.1)]) (by rw [← numberD_map (fun i => mvS n (T i))]; rfl)
      (fun _ _ e mx => mx = mm ∧ ∃ c d f h k, e = [some (linesD n T), some (.int (i' : Nat)), some (mvS n (T i')), c, d, f, h, k]) ⟨rfl, _, _, _, _, _, rfl⟩ ?_
    · obtain ⟨e2, m2, q2, rfl, c, d, f, h, k, rfl⟩ := hz2
      exact ⟨_, _, q2, rfl, _, _, _, _, _, _, _, rfl⟩
    · rintro a2 ⟨j, j'⟩ b2 e mx hl2 ⟨rfl, c, d, f, h, k, rfl⟩
      obtain ⟨hj, hjj⟩ : j < n ∧ j' = j := by
        have hm : (j, j') ∈ (List.range n).zipIdx 0 := by rw [hl2]; simp
        obtain ⟨z1, z2, z3⟩ := List.mem_zipIdx hm
        rw [List.length_range] at z2
        rw [List.getElem_range] at z3
        omega
      subst hjj
      show ∃ e1 m1, lb_unlike_three_1 [some (linesD n T), some (.int (i' : Nat)), some (mvS n (T i')), some (.int (j' : Nat)), some (mvS n (T j')), f, h, k] mx = _ ∧ _
      unfold lb_unlike_three_1
      have A : fsAsg (fOp gIx (fVar 0) (fOp gIx (fW (fVar 2)) (fVar 3))) (fName 5) [some (linesD n T), some (.int (i' : Nat)), some (mvS n (T i')), some (.int (j' : Nat)), some (mvS n (T j')), f, h, k] mx = some (.nx [some (linesD n T), some (.int (i' : Nat)), some (mvS n (T i')), some (.int (j' : Nat)), some (mvS n (T j')), some (mvS n (T (T i' j'))), h, k] mx) :=
        y_asg (y_op (y_var rfl) (y_op (y_w (y_var rfl) (weak_mvS n (T i'))) (y_var rfl) (ix_row hj)) (ix_lines (g.lt _ _ hi hj))) rfl
      have C : lc_unlike_three_1 [some (linesD n T), some (.int (i' : Nat)), some (mvS n (T i')), some (.int (j' : Nat)), some (mvS n (T j')), some (mvS n (T (T i' j'))), h, k] mx = some ((List.range n).map fun y => .int (T i' (T j' y) : Nat), mx) :=
        y_lc (l := List.range n) (g := fun y => .int (T j' y : Nat)) (y_seqT (y_w (y_var rfl) (weak_mvS n (T j')))) (by rw [List.length_range]; omega) fun y hy => y_elt rfl (y_op (y_w (y_var rfl) (weak_mvS n (T i'))) (y_var rfl) (ix_row (g.lt _ _ hj (List.mem_range.mp hy))))
      have N : fTest (fOp gNeS (fW (fVar 5)) (fOn gTupN lc_unlike_three_1)) [some (linesD n T), some (.int (i' : Nat)), some (mvS n (T i')), some (.int (j' : Nat)), some (mvS n (T j')), some (mvS n (T (T i' j'))), h, k] mx = some (false, mx) :=
        y_test (y_op (y_w (y_var rfl) (weak_mvS n (T (T i' j')))) (y_on C rfl) (mv_ne (a := T (T i' j')) (b := fun y => T i' (T j' y)) h2 fun y hy => g.as _ _ _ hi hj hy))
      exact ⟨_, _, y_seq A (y_no N y_next), rfl, _, _, _, _, _, rfl⟩
end
end k24

set_option Elab.async false
set_option linter.all false
set_option maxRecDepth 100000
set_option maxHeartbeats 400000
namespace k24
open PySem PySem.Spec PyProof.Rows L2 Mv Cyc
section
variable {m : Mem} {n : Nat} {T : Nat → Nat → Nat}
/-! ### fault -/
noncomputable def F_fault : GN := Fof0 N_fault 1 (g_fault F_has_form F_unlike_three)
theorem in_row {f : Nat → Nat} {x : Nat} : ∃ b : Bool, inD m (.int (x : Nat)) (mvD n f) = some b ∧ (b = true ↔ ∃ y, y < n ∧ f y = x) := by
  refine ⟨_, by show inD m (.int (x : Nat)) (.tup (tab n _)) = _; rw [tab_nL]; exact inD_nL m x _, ?_⟩
  rw [decide_eq_true_iff, List.mem_map]
  exact ⟨fun ⟨y, a, b⟩ => ⟨y, List.mem_range.mp a, b⟩, fun ⟨y, a, b⟩ => ⟨y, List.mem_range.mpr a, b⟩⟩
theorem fault_ev (g : Grp n T) : F_fault [linesD n T] m = some (.non, m) := by
  have h2 := g.le
  refine Fof0_of (o := .rt .non m) rfl ?_ rfl
  show g_fault F_has_form F_unlike_three [some (linesD n T), none, none] m = _
  unfold g_fault
  refine y_seq (y_no (y_notT (y_tru (y_call (y_cons (y_var rfl) y_nil) (has_form_ev g)) rfl)) y_next) ?_
  have hz := y_for (fi := fRange1 (fCall gLen (fCons (fW (fVar 0)) fNil))) (ft := fName 1) (g := lb_fault_1 F_has_form F_unlike_three) (e := [some (linesD n T), none, none]) (m0 := m) (m := m)
    (l := List.range n) (k := fun y => .int (y : Nat)) (y_rg1 (y_call (y_cons (y_w (y_var rfl) (weak_lines n T)) y_nil) len_linesW) (by omega))
    (fun _ _ e mm => mm = m ∧ ∃ a, e = [some (linesD n T), a, none]) ⟨rfl, _, rfl⟩ ?_
  · obtain ⟨e1, m1, q, rfl, a, rfl⟩ := hz
    refine y_seq q ?_
    have hz2 := y_for (fi := fEnum (fVar 0)) (ft := fTupG 2 (fsCons (fName 1) (fsCons (fName 2) fsNil))) (g := lb_fault_2 F_has_form F_unlike_three) (e := [some (linesD n T), a, none]) (m0 := m1) (m := m1)
      (l := (List.range n).zipIdx 0) (k := fun p => .tup [.int (p.2 : Nat), mvS n (T p.1)]) (by rw [← numberD_map (fun i => mvS n (T i))]; rfl)
      (fun _ _ e mm => mm = m1 ∧ ∃ a b, e = [some (linesD n T), a, b]) ⟨rfl, _, _, rfl⟩ ?_
    · obtain ⟨e1, m2, q2, rfl, a, b, rfl⟩ := hz2
      exact y_seq q2 (y_ret (y_call (y_cons (y_var rfl) y_nil) (unlike_three_ev g)))
    · rintro a ⟨i, i'⟩ b e mm hl ⟨rfl, x1, x2, rfl⟩
      have hi : i < n := by
        have hm : (i, i') ∈ (List.range n).zipIdx 0 := by rw [hl]; simp
        obtain ⟨z1, z2, z3⟩ := List.mem_zipIdx hm
        rw [List.length_range] at z2
        rw [List.getElem_range] at z3
        omega
      obtain ⟨b, hb, hb2⟩ := in_row (m := mm) (n := n) (f := T i) (x := 0)
      have : b = true := hb2.mpr (g.bk i hi)
      subst this
      refine ⟨_, _, (y_no (y_test (y_op y_c (y_w (y_var rfl) (weak_mvS n (T i))) (?_ : _ = some (D.bl false, mm)))) y_next : lb_fault_2 F_has_form F_unlike_three [some (linesD n T), some (.int (i' : Nat)), some (mvS n (T i))] mm = _), rfl, _, _, rfl⟩
      show (inD mm (.int ((0 : Nat) : Int)) (mvD n (T i))).map _ = _
      rw [hb]; rfl
  · rintro a i b e mm hl ⟨rfl, x1, rfl⟩
    have hi : i < n := List.mem_range.mp (by rw [hl]; simp)
    have ne : ∀ z : Nat, z = i → gNeS (.int (z : Nat)) (.int (i : Nat)) mm = some (.bl false, mm) := fun z hz => by rw [gNe_int, decide_eq_true (by omega)]; rfl
    refine ⟨_, _, (y_no (y_orN (y_test (y_op (y_op (y_w (y_op (y_var rfl) y_c (ix_lines g.pos)) (weak_mvS n (T 0))) (y_var rfl) (ix_row hi)) (y_var rfl) (ne _ (g.zl i hi)))) (y_test (y_op (y_op (y_w (y_op (y_var rfl) (y_var rfl) (ix_lines hi)) (weak_mvS n (T i))) y_c (ix_row (j := 0) g.pos)) (y_var rfl) (ne _ (g.zr i hi))))) y_next : lb_fault_1 F_has_form F_unlike_three [some (linesD n T), some (.int (i : Nat)), none] mm = _), rfl, _, rfl⟩
/-! ### a table made; parts of it held against it -/
noncomputable def F_Table__init : GN := Fof0 N_Table__init 2 (g_Table__init F_fault)
theorem make_ev (g : Grp n T) {fa : FA} {e : Sl} {m1 : Mem} (h : fa e m = some ([linesD n T], m1)) : fMake "Table" F_Table__init fa e m = some (tableD n T, m1) := by
  have h0 : (m1 ++ [Cell.ob "Table" [] []])[m1.length]? = some (.ob "Table" [] []) := get_off m1 [_] 0
  have hset : (m1 ++ [Cell.ob "Table" [] []]).set m1.length (.ob "Table" ["lines"] [linesD n T]) = m1 ++ [.ob "Table" ["lines"] [linesD n T]] := by
    exact set_off (m := m1) (L := [Cell.ob "Table" [] []]) (i := 0) (c := .ob "Table" ["lines"] [linesD n T])
  have hF : F_Table__init [.loc m1.length, linesD n T] (m1 ++ [.ob "Table" [] []]) = some (.non, m1 ++ [.ob "Table" ["lines"] [linesD n T]]) := by
    refine Fof0_of (o := .nx [some (.loc m1.length), some (linesD n T), some .non] (m1 ++ [.ob "Table" ["lines"] [linesD n T]])) rfl ?_ rfl
    show g_Table__init F_fault [some (.loc m1.length), some (linesD n T), none] _ = _
    unfold g_Table__init
    refine y_seq (y_asg (y_call (y_cons (y_var rfl) y_nil) (fault_ev g)) rfl) ?_
    refine y_seq (y_no (y_test (y_un (y_var rfl) rfl)) y_next) ?_
    unfold fsFld
    rw [y_var (i := 1) rfl, Option.bind_some, y_var (i := 0) rfl, Option.bind_some]
    simp only [h0]
    rw [if_pos ⟨by decide +kernel, by decide⟩]
    rw [← hset]; rfl
  unfold fMake
  rw [h, Option.bind_some]
  dsimp only
  rw [hF, Option.bind_some]
  dsimp only
  show made m1 (m1 ++ [.ob "Table" ["lines"] [linesD n T]]) = _
  have h1 : (m1 ++ [Cell.ob "Table" ["lines"] [linesD n T]])[m1.length]? = some (.ob "Table" ["lines"] [linesD n T]) := get_off m1 [_] 0
  have e : (m1 ++ [Cell.ob "Table" ["lines"] [linesD n T]]).take m1.length = m1 := by simp
  have lowN : ∀ S : List Nat, D.lowAll 0 (nL S) = true := fun S => by
    induction S with
    | nil => rfl
    | cons x r ih => show (true && D.lowAll 0 (nL r)) = true; rw [ih]; rfl
  have low : D.lowAll 0 [linesD n T] = true := by
    show (D.lowAll 0 (tab n fun i => mvS n (T i)) && true) = true
    rw [Bool.and_true]
    unfold tab
    induction List.range n with
    | nil => rfl
    | cons x r ih =>
      show (D.lowAll 0 (tab n fun y => .int (T x y : Nat)) && D.lowAll 0 (r.map _)) = true
      rw [ih, tab_nL, lowN]; rfl
  have kept : Kept m1 (m1 ++ [Cell.ob "Table" ["lines"] [linesD n T]]) m1 := ⟨rfl, fun l c q => ⟨by rw [List.getElem?_append_left (List.getElem?_eq_some_iff.mp q).1]; exact q, .inr q⟩⟩
  unfold made
  simp only [h1]
  rw [e, if_pos ⟨low, kept⟩]; rfl
noncomputable def F_check_table : GN := Fof0 N_check_table 1 g_check_table
theorem check_table_ev : F_check_table [tableD n T] m = some (.non, m) := by
  refine Fof0_of (o := .nx [some (tableD n T)] m) rfl ?_ rfl
  show g_check_table [some (tableD n T)] m = _
  unfold g_check_table
  have hi : gIsiC cenv [tableD n T, .cls "Table"] m = some (.bl true, m) := rfl
  exact y_no (y_notT (y_tru (y_call (y_cons (y_var rfl) (y_cons y_c y_nil)) hi) rfl)) y_next
theorem fld_ev {fa : FE} {e : Sl} {m1 : Mem} (h : fa e m = some (tableD n T, m1)) : fFld cenv "lines" fa e m = some (linesD n T, m1) := y_fld h (by decide +kernel) rfl
noncomputable def F_is_part : GN := Fof0 N_is_part 2 (g_is_part F_is_rising)
theorem is_part_ev {S : List Nat} (g : Grp n T) (h : Rise n S) : F_is_part [tableD n T, nD S] m = some (.bl true, m) := by
  refine Fof0_of (o := .rt (.bl true) m) rfl ?_ rfl
  show g_is_part F_is_rising [some (tableD n T), some (nD S)] m = _
  unfold g_is_part
  exact y_ret (y_call (y_cons (y_var rfl) (y_cons (y_call (y_cons (y_w (fld_ev (y_var rfl)) (weak_lines n T)) y_nil) len_linesW) y_nil)) (is_rising_ev g.le h))
noncomputable def F_check_sub : GN := Fof0 N_check_sub 2 (g_check_sub F_is_part)
theorem check_sub_ev {S : List Nat} (g : Grp n T) (h : Sub n T S) : F_check_sub [tableD n T, nD S] m = some (.non, m) := by
  have hin : ∀ (b : Bool) (x : Nat), x ∈ S → gIn b (.int (x : Nat)) (nD S) m = some (.bl (!b), m) := fun b x hx => by
    show (inD m (.int (x : Nat)) (nD S)).map _ = _
    rw [inD_nL, decide_eq_true hx]
    cases b <;> rfl
  have key : ∃ a b, g_check_sub F_is_part [some (tableD n T), some (nD S), none, none] m = some (.nx [some (tableD n T), some (nD S), a, b] m) := by
    unfold g_check_sub
    have hz := y_for (fi := fSeq (fVar 1)) (ft := fName 2) (g := lb_check_sub_1 F_is_part) (e := [some (tableD n T), some (nD S), none, none]) (m0 := m) (m := m) (l := S) (k := fun y => .int (y : Nat)) (y_seqT (y_var rfl))
      (fun _ _ e mm => mm = m ∧ ∃ a b, e = [some (tableD n T), some (nD S), a, b]) ⟨rfl, _, _, rfl⟩ ?_
    · obtain ⟨e1, m1, q, rfl, a, b, rfl⟩ := hz
      refine ⟨a, b, y_seq (y_no (y_orN (y_notT (y_tru (y_call (y_cons (y_var rfl) (y_cons (y_var rfl) y_nil)) (is_part_ev g h.r)) rfl)) (y_test (y_op y_c (y_var rfl) (hin true 0 h.z)))) y_next) q⟩
    · rintro a x b e mm hl ⟨rfl, a1, b1, rfl⟩
      have hx : x ∈ S := by rw [hl]; simp
      have hxn := h.r.lt x hx
      have C : lc_check_sub_1 F_is_part [some (tableD n T), some (nD S), some (.int (x : Nat)), b1] mm = some (S.map fun _ => .bl true, mm) :=
        y_lc (l := S) (g := fun y => .int (y : Nat)) (y_seqT (y_var rfl)) (by have := h.r.len; have := g.le; omega) fun y hy => y_elt rfl (y_op (y_op (y_w (y_op (fld_ev (y_var rfl)) (y_var rfl) (ix_lines hxn)) (weak_mvS n (T x))) (y_var rfl) (ix_row (h.r.lt y hy))) (y_var rfl) (hin false _ (h.m x hx y hy)))
      exact ⟨_, _, (y_no (y_notT (y_tru (y_on C (gAll_t _ _)) rfl)) y_next : lb_check_sub_1 F_is_part [some (tableD n T), some (nD S), some (.int (x : Nat)), b1] mm = _), rfl, _, _, rfl⟩
  obtain ⟨a, b, key⟩ := key
  exact Fof0_of (o := .nx [some (tableD n T), some (nD S), a, b] m) rfl key rfl
/-! ### commutators -/
noncomputable def F_commutated : GN := Fof0 N_commutated 3 g_commutated
theorem commutated_ev (g : Grp n T) {x y : Nat} (hx : x < n) (hy : y < n) : F_commutated [linesD n T, .int (x : Nat), .int (y : Nat)] m = some (.int (comF n T x y : Nat), m) := by
  refine Fof0_of (o := .rt (.int (comF n T x y : Nat)) m) rfl ?_ rfl
  show g_commutated [some (linesD n T), some (.int (x : Nat)), some (.int (y : Nat))] m = _
  unfold g_commutated
  have bx := (bkF_ok g hx).1
  have by' := (bkF_ok g hy).1
  have ix : ∀ {i : Nat}, i < n → ∀ {f : FE} {e : Sl}, e[0]? = some (some (linesD n T)) → f e m = some (.int (i : Nat), m) → fOp gIx (fVar 0) f e m = some (mvS n (T i), m) := fun hi _ _ he h => y_op (y_var he) h (ix_lines hi)
  have rw' : ∀ {i j : Nat}, j < n → ∀ {fa f : FE} {e : Sl}, fa e m = some (mvS n (T i), m) → f e m = some (.int (j : Nat), m) → fOp gIx (fW fa) f e m = some (.int (T i j : Nat), m) := fun hj _ _ _ ha h => y_op (y_w ha (weak_mvS n _)) h (ix_row hj)
  have bk : ∀ {i : Nat}, i < n → ∀ {f : FE} {e : Sl}, f e m = some (mvS n (T i), m) → fMetT gTIndex f (fCons (fC (.int 0)) fNil) e m = some (.int (bkF n T i : Nat), m) := fun hi _ _ h => y_metT h (y_cons y_c y_nil) (tIndex_row g hi)
  exact y_ret (rw' (g.lt _ _ hx hy) (ix (g.lt _ _ bx by') rfl (rw' by' (ix bx rfl (bk hx (ix hx rfl (y_var rfl)))) (bk hy (ix hy rfl (y_var rfl))))) (rw' hy (ix hx rfl (y_var rfl)) (y_var rfl)))
end
end k24

set_option Elab.async false
set_option linter.all false
set_option maxRecDepth 100000
set_option maxHeartbeats 400000
namespace k24
open PySem PySem.Spec PyProof.Rows L2 Mv Cyc
/-! ### then -/
noncomputable def F_law_then : GN := Fof0 N_law_then 2 g_law_then
def mvT (n : Nat) (f : Nat → Nat) : D := .ttp (tab n fun y => .int (f y : Nat))
theorem weak_mvT (n : Nat) (f : Nat → Nat) : (mvT n f).weak = mvD n f := by
  show D.tup (D.weakAll (tab n _)) = D.tup _
  rw [tab_nL, weakAll_ints]
theorem law_then_ev {m : Mem} {n : Nat} {f g : Nat → Nat} (hn : n ≤ 60) (hf : ∀ y, y < n → f y < n) : F_law_then [mvD n f, mvD n g] m = some (mvT n fun y => g (f y), m) := by
  refine Fof0_of (o := .rt (mvT n fun y => g (f y)) m) rfl ?_ rfl
  show g_law_then [some (mvD n f), some (mvD n g), none] m = _
  unfold g_law_then
  exact y_ret (y_on (y_lc (l := List.range n) (g := fun y => .int (f y : Nat)) (k := fun y => .int (g (f y) : Nat)) (y_seqT (y_var rfl)) (by rw [List.length_range]; omega) fun y hy => y_elt rfl (y_op (y_var rfl) (y_var rfl) (ix_tup (tab_at (hf y (List.mem_range.mp hy)))))) rfl)
section
variable {m : Mem} {n : Nat} {T : Nat → Nat → Nat}
/-! ### the law's commutators -/
noncomputable def F_law_backs : GN := Fof0 N_law_backs 1 g_law_backs
theorem law_backs_ev (g : Grp n T) : ∃ l m', F_law_backs [linesD n T] m = some (.loc l, m') ∧ m'[l]? = some (.lst (tab n fun i => .int (bkF n T i : Nat))) ∧ Kp m m' ∧ m.length ≤ l := by
  have h2 := g.le
  obtain ⟨m1, h, hk⟩ := y_lcM (fi := fSeq (fVar 0)) (ft := fName 1) (fe := fMeth gIndex (fPut (fLCall gLstOf (fCons (fW (fVar 1)) fNil))) (fCons (fC (.int 0)) fNil)) (own := [1]) (e := [some (linesD n T), none]) (m0 := m) (m := m) (l := List.range n) (g := fun i => mvS n (T i)) (k := fun i => .int (bkF n T i : Nat)) (fun mm => Kp m mm) (y_seqT (y_var rfl)) (by rw [List.length_range]; omega) Kp.rfl' fun i hi mm hk => by
    have hl : (mm ++ [Cell.lst (tab n fun y => .int (T i y : Nat))])[mm.length]? = some (.lst (tab n fun y => .int (T i y : Nat))) := get_off mm [_] 0
    exact ⟨_, y_elt rfl (y_meth (c := .lst []) (y_put (y_lcall (y_cons (y_w (y_var rfl) (weak_mvS n (T i))) y_nil) rfl)) ⟨_, hl⟩ (y_cons y_c y_nil) (lIndex_row g (List.mem_range.mp hi) hl)), hk.trans Kp.app⟩
  refine ⟨m1.length, m1 ++ [.lst (tab n fun i => .int (bkF n T i : Nat))], Fof0_of (o := .rt (.loc m1.length) (m1 ++ [.lst (tab n fun i => .int (bkF n T i : Nat))])) rfl ?_ rfl, get_off m1 [_] 0, hk.trans Kp.app, hk.1⟩
  show g_law_backs [some (linesD n T), none] m = _
  unfold g_law_backs
  exact y_ret (y_put h)
noncomputable def F_law_commutators : GN := Fof0 N_law_commutators 3 (g_law_commutators F_law_backs)
theorem law_commutators_ev (g : Grp n T) {A B : List Nat} (hA : Rise n A) (hB : Rise n B) : ∃ l m', F_law_commutators [linesD n T, nD A, nD B] m = some (.loc l, m') ∧ m'[l]? = some (.lst (nL (coms n T A B))) ∧ Kp m m' ∧ m.length ≤ l := by
  have h2 := g.le
  obtain ⟨lb, m1, b1, b2, b3, b4⟩ := law_backs_ev (m := m) g
  have hlb := (List.getElem?_eq_some_iff.mp b2).1
  let E : Option D → Option D → Option D → Sl := fun a b c => [some (linesD n T), some (nD A), some (nD B), some (.loc lb), some (.loc m1.length), a, b, c]
  have hz := y_for (fi := fSeq (fVar 1)) (ft := fName 5) (g := lb_law_commutators_2 F_law_backs) (e := E none none none) (m0 := m1 ++ [.lst []]) (m := m1 ++ [.lst []]) (l := A) (k := fun x => .int (x : Nat)) (y_seqT (y_var rfl))
    (fun a _ e mm => (∃ x y z, e = E x y z) ∧ Kp m1 mm ∧ mm[m1.length]? = some (.lst (nL (coms n T a B)))) ⟨⟨_, _, _, rfl⟩, Kp.app, get_off m1 [_] 0⟩ ?_
  · obtain ⟨e1, m2, q, ⟨x, y, z, rfl⟩, k2, hl⟩ := hz
    refine ⟨m1.length, m2, Fof0_of (o := .rt (.loc m1.length) m2) rfl ?_ rfl, hl, b3.trans k2, b3.1⟩
    show g_law_commutators F_law_backs [some (linesD n T), some (nD A), some (nD B), none, none, none, none, none] m = _
    unfold g_law_commutators
    exact y_seq (y_asg (y_call (y_cons (y_var rfl) y_nil) b1) rfl) (y_seq (y_asg (y_put (y_lst y_nil)) rfl) (y_seq q (y_ret (y_var rfl))))
  · rintro a x b e mm hAl ⟨⟨x1, y1, z1, rfl⟩, k2, hl⟩
    have hx : x < n := hA.lt x (by rw [hAl]; simp)
    have hz2 := y_for (fi := fSeq (fVar 2)) (ft := fName 6) (g := lb_law_commutators_1 F_law_backs) (e := E (some (.int (x : Nat))) y1 z1) (m0 := mm) (m := mm) (l := B) (k := fun x => .int (x : Nat)) (y_seqT (y_var rfl))
      (fun a2 _ e mx => (∃ y z, e = E (some (.int (x : Nat))) y z) ∧ Kp m1 mx ∧ mx[m1.length]? = some (.lst (nL (coms n T a B ++ a2.map fun y => comF n T x y)))) ⟨⟨_, _, rfl⟩, k2, by rw [List.map_nil, List.append_nil]; exact hl⟩ ?_
    · obtain ⟨e1, m2, q, ⟨y, z, rfl⟩, k3, hl3⟩ := hz2
      refine ⟨_, _, q, ⟨_, _, _, rfl⟩, k3, ?_⟩
      rw [hl3]
      unfold coms
      rw [List.flatMap_append, List.flatMap_cons, List.flatMap_nil, List.append_nil]
    · rintro a2 y r2 e mx hBl ⟨⟨y2, z2, rfl⟩, k3, hl3⟩
      have hy : y < n := hB.lt y (by rw [hBl]; simp)
      have bx := (bkF_ok g hx).1
      have by' := (bkF_ok g hy).1
      have hb : mx[lb]? = some (.lst (tab n fun i => .int (bkF n T i : Nat))) := k3.get b2
      have row : ∀ {i j : Nat}, i < n → j < n → ∀ {fa f : FE} {e : Sl}, e[0]? = some (some (linesD n T)) → fa e mx = some (.int (i : Nat), mx) → f e mx = some (.int (j : Nat), mx) → fOp gIx (fW (fOp gIx (fVar 0) fa)) f e mx = some (.int (T i j : Nat), mx) := fun hi hj _ _ _ he ha h => y_op (y_w (y_op (y_var he) ha (ix_lines hi)) (weak_mvS n _)) h (ix_row hj)
      have bk : ∀ {i : Nat}, i < n → ∀ {f : FE} {e : Sl}, e[3]? = some (some (.loc lb)) → f e mx = some (.int (i : Nat), mx) → fOp gIx (fVar 3) f e mx = some (.int (bkF n T i : Nat), mx) := fun hi _ _ he h => y_op (y_var he) h (ix_lst hb (tab_at hi))
      have len : (nL (coms n T a B ++ a2.map fun y => comF n T x y)).length < 100000 := by
        have la : a.length ≤ n := by have := hA.len; rw [hAl, List.length_append] at this; omega
        have lb : B.length ≤ n := hB.len
        have l2 : a2.length ≤ n := by have := lb; rw [hBl, List.length_append] at this; omega
        rw [List.length_map, List.length_append, List.length_map, coms_len]
        have : a.length * B.length ≤ 48 * 48 := Nat.mul_le_mul (by omega) (by omega)
        omega
      refine ⟨E (some (.int (x : Nat))) (some (.int (y : Nat))) (some (.int (T (bkF n T x) (bkF n T y) : Nat))), mx.set m1.length (.lst (nL (coms n T a B ++ a2.map fun y => comF n T x y) ++ [.int (comF n T x y : Nat)])), ?_, ⟨_, _, rfl⟩, k3.set (Nat.le_refl _), ?_⟩
      · show lb_law_commutators_1 F_law_backs (E (some (.int (x : Nat))) (some (.int (y : Nat))) z2) mx = _
        unfold lb_law_commutators_1
        refine y_seq (y_asg (row bx by' rfl (bk hx rfl (y_var rfl)) (bk hy rfl (y_var rfl))) rfl) ?_
        refine y_drop (d := .non) (y_meth (c := .lst []) (y_var rfl) ⟨_, hl3⟩ (y_cons (row (g.lt _ _ bx by') (g.lt _ _ hx hy) rfl (y_var rfl) (row hx hy rfl (y_var rfl) (y_var rfl))) y_nil) ?_)
        unfold gAppend
        simp only [hl3]
        rw [if_pos len]; rfl
      · rw [List.getElem?_set_self (List.getElem?_eq_some_iff.mp hl3).1, List.map_append (l₁ := a2), ← List.append_assoc, nL_app _ (List.map _ [y])]; rfl
end
end k24

set_option Elab.async false
set_option linter.all false
set_option maxRecDepth 100000
set_option maxHeartbeats 400000
namespace k24
open PySem PySem.Spec PyProof.Rows L2 Mv Cyc
section
variable {m : Mem} {n : Nat} {T : Nat → Nat → Nat}
theorem y_pop {mm : Mem} {l : Nat} {xs : List D} {d : D} {fo : FE} {e : Sl} (h1 : fo e mm = some (.loc l, mm)) (h : mm[l]? = some (.lst (xs ++ [d]))) : fMeth gPop fo fNil e mm = some (d, mm.set l (.lst xs)) := by
  refine y_meth (c := .lst []) h1 ⟨_, h⟩ y_nil ?_
  unfold gPop
  simp only [h]
  have e1 : (xs ++ [d])[(xs ++ [d]).length - 1]? = some d := by simp
  have e2 : (xs ++ [d]).dropLast = xs := List.dropLast_concat
  rw [e1, e2]; rfl
theorem y_app {mm mm' : Mem} {l : Nat} {xs xs0 : List D} {d : D} {fo fa : FE} {e : Sl} (h1 : fo e mm = some (.loc l, mm)) (h0 : mm[l]? = some (.lst xs0)) (h2 : fa e mm = some (d, mm')) (h : mm'[l]? = some (.lst xs)) (hl : xs.length < 100000) : fMeth gAppend fo (fCons fa fNil) e mm = some (.non, mm'.set l (.lst (xs ++ [d]))) := by
  refine y_meth (c := .lst []) h1 ⟨_, h0⟩ (y_cons h2 y_nil) ?_
  unfold gAppend
  simp only [h]
  rw [if_pos hl]
/-! ### spanned -/
noncomputable def F_spanned : GN := Fof0 N_spanned 2 g_spanned
abbrev sE (n : Nat) (T : Nat → Nat → Nat) (q k : Nat) (a b c : Option D) : Sl := [some (linesD n T), some (.loc q), some (.loc (k + 1)), some (.loc (k + 2)), a, b, c]
structure SpM (n : Nat) (q : Nat) (xs : List Nat) (m mm : Mem) (dn fs : List Nat) : Prop where
  kp : Kp m mm
  met : mm[m.length + 1]? = some (.lst (tab n fun i => .bl (decide (i ∈ dn ++ fs))))
  fur : mm[m.length + 2]? = some (.lst (nL fs))
theorem SpM.put {q : Nat} {xs : List Nat} {mm : Mem} {dn fs dn' fs' : List Nat} (h : SpM n q xs m mm dn fs) {y : Nat} (hy : ∀ i, i ∈ dn' ++ fs' ↔ i = y ∨ i ∈ dn ++ fs) : SpM n q xs m ((mm.set (m.length + 1) (.lst ((tab n fun i => .bl (decide (i ∈ dn ++ fs))).set y (.bl true)))).set (m.length + 2) (.lst (nL fs'))) dn' fs' := by
  refine ⟨(h.kp.set (by omega)).set (by omega), ?_, ?_⟩
  · rw [List.getElem?_set_ne (by omega), List.getElem?_set_self (List.getElem?_eq_some_iff.mp h.met).1, tab_set]
    rw [tab_congr (h := fun i => .bl (decide (i ∈ dn' ++ fs'))) fun i _ => ?_]
    split
    · rename_i e; rw [decide_eq_true ((hy i).mpr (.inl e))]
    · rename_i e; exact congrArg D.bl (decide_eq_decide.mpr ⟨fun z => (hy i).mpr (.inr z), fun z => ((hy i).mp z).resolve_left e⟩)
  · exact List.getElem?_set_self (by rw [List.length_set]; exact (List.getElem?_eq_some_iff.mp h.fur).1)
theorem lb_spanned_ev {q : Nat} {xs : List Nat} {mm : Mem} {dn fs : List Nat} {i x : Nat} {a : List Nat} {c : Option D} (g : Grp n T) (h : SpM n q xs m mm dn fs) (s : SpI 0 T xs dn fs i a) (hi : i < n) (hx : x ∈ xs) (hxn : x < n) (hb : ∀ z ∈ dn ++ fs, z < n) :
    ∃ fs' m', lb_spanned_1 (sE n T q m.length (some (mvS n (T i))) (some (.int (x : Nat))) c) mm = some (.nx (sE n T q m.length (some (mvS n (T i))) (some (.int (x : Nat))) c) m') ∧ SpM n q xs m m' dn fs' ∧ SpI 0 T xs dn fs' i (a ++ [x]) ∧ ∀ z ∈ dn ++ fs', z < n := by
  have hy := g.lt _ _ hi hxn
  have row : ∀ mx, fOp gIx (fW (fVar 4)) (fVar 5) (sE n T q m.length (some (mvS n (T i))) (some (.int (x : Nat))) c) mx = some (.int (T i x : Nat), mx) := fun mx => y_op (y_w (y_var rfl) (weak_mvS n _)) (y_var rfl) (ix_row hxn)
  have tst : fNotT (fTru (fOp gIx (fVar 2) (fOp gIx (fW (fVar 4)) (fVar 5)))) (sE n T q m.length (some (mvS n (T i))) (some (.int (x : Nat))) c) mm = some (!decide (T i x ∈ dn ++ fs), mm) :=
    y_notT (y_tru (y_op (y_var rfl) (row mm) (ix_lst h.met (tab_at hy))) rfl)
  unfold lb_spanned_1
  by_cases q1 : T i x ∈ dn ++ fs
  · rw [decide_eq_true q1] at tst
    exact ⟨fs, mm, y_no tst y_next, h, s.keep q1, hb⟩
  · rw [decide_eq_false q1] at tst
    have hlen : fs.length ≤ n := by
      have := nodup_len (n := n) s.nd hb
      rw [List.length_append] at this; omega
    refine ⟨fs ++ [T i x], _, y_yes tst (y_seq (y_asgG y_c (fSub_ev (y_var rfl) (row mm) h.met (tab_ix hy))) (y_drop (d := .non) (y_app (xs := nL fs) (xs0 := nL fs) (y_var rfl) ?_ (row _) ?_ (by rw [List.length_map]; have := g.le; omega)))), ?_, s.add hx q1, ?_⟩
    · rw [List.getElem?_set_ne (by omega)]; exact h.fur
    · rw [List.getElem?_set_ne (by omega)]; exact h.fur
    · have e1 : nL fs ++ [D.int (T i x : Nat)] = nL (fs ++ [T i x]) := (nL_app fs [T i x]).symm
      rw [e1]
      refine h.put (y := T i x) fun z => ?_
      simp only [List.mem_append, List.mem_singleton]
      constructor
      · rintro (h | h | h) <;> simp [h]
      · rintro (h | h | h) <;> simp [h]
    · intro z hz
      rw [← List.append_assoc] at hz
      rcases List.mem_append.mp hz with w | w
      · exact hb z w
      · rw [List.mem_singleton.mp w]; exact hy
theorem spanned_ev {q : Nat} {xs : List Nat} (g : Grp n T) (hq : m[q]? = some (.lst (nL xs))) (hx : ∀ x ∈ xs, x < n) : ∃ m', F_spanned [linesD n T, .loc q] m = some (nD (clo n T (· ∈ xs)), m') ∧ Kp m m' := by
  have h1 := g.pos
  have h2 := g.le
  let m1 : Mem := m ++ [.lst [.bl false]]
  let m2 : Mem := m1 ++ [.lst (tab n fun _ => .bl false)]
  let m3 : Mem := m2.set (m.length + 1) (.lst ((tab n fun _ => .bl false).set 0 (.bl true)))
  let m4 : Mem := m3 ++ [.lst (nL [0])]
  have g2 : m2[m.length + 1]? = some (.lst (tab n fun _ => .bl false)) := by
    have : m2 = m ++ [.lst [.bl false], .lst (tab n fun _ => .bl false)] := by show (m ++ _) ++ _ = _; rw [List.append_assoc]; rfl
    rw [this]; exact get_off m _ 1
  have l3 : m3.length = m.length + 2 := by show (List.set _ _ _).length = _; rw [List.length_set]; simp [m2, m1]
  have M0 : SpM n q xs m m4 [] [0] := by
    refine ⟨((Kp.app.trans Kp.app).set (by omega)).trans Kp.app, ?_, by rw [← l3]; exact get_off m3 [_] 0⟩
    rw [List.getElem?_append_left (by rw [l3]; omega), List.getElem?_set_self (List.getElem?_eq_some_iff.mp g2).1, tab_set]
    rw [tab_congr fun i _ => ?_]
    by_cases e : i = 0
    · subst e; rfl
    · rw [if_neg e, decide_eq_false (by simpa using e)]
  have hw := wh_ev0 (t := wt_spanned_1) (g := wb_spanned_1) (fun k e mm => ∃ dn fs a b, e = sE n T q m.length a b none ∧ SpM n q xs m mm dn fs ∧ Spd 0 T xs dn fs ∧ (∀ z ∈ dn ++ fs, z < n) ∧ k = n - dn.length)
    (fun o => ∃ dn a b m', o = .nx (sE n T q m.length a b none) m' ∧ SpM n q xs m m' dn [] ∧ Spd 0 T xs dn []) ?_ fuel n (sE n T q m.length none none none) m4 (by show n < 100; omega) ⟨[], [0], none, none, rfl, M0, Spd.start, fun z hz => by rw [List.mem_singleton.mp hz]; exact h1, by simp⟩
  · obtain ⟨o, q1, dn, a, b, m', rfl, hM, hS⟩ := hw
    have hall := hS.all
    have lc : lc_spanned_1 (sE n T q m.length a b none) m' = some (nL ((List.range n).filter fun i => decide (i ∈ dn ++ [])), m') :=
      y_lcC (l := List.range n) (g := fun i => .int (i : Nat)) (y_rg1 (y_call (y_cons (y_w (y_var rfl) (weak_lines n T)) y_nil) len_linesW) (by omega)) (by rw [List.length_range]; omega) fun i hi => y_eltC rfl (y_tru (y_op (y_var rfl) (y_var rfl) (ix_lst hM.met (tab_at (List.mem_range.mp hi)))) rfl) (y_var rfl)
    have e : ((List.range n).filter fun i => decide (i ∈ dn ++ [])) = clo n T (· ∈ xs) := rise_ext (sel_rise n _).up clo_rise.up fun x => by
      rw [mem_clo, show ((List.range n).filter fun i => decide (i ∈ dn ++ [])) = sel n (fun i => decide (i ∈ dn ++ [])) from rfl, mem_sel, decide_eq_true_iff, List.append_nil, hall, Rc_Cl]
    rw [e] at lc
    refine ⟨m', Fof0_of (o := .rt (nD (clo n T (· ∈ xs))) m') rfl ?_ rfl, hM.kp⟩
    show g_spanned [some (linesD n T), some (.loc q), none, none, none, none, none] m = _
    unfold g_spanned
    refine y_seq (e1 := [some (linesD n T), some (.loc q), some (.loc (m.length + 1)), none, none, none, none]) (m1 := m2) (y_asg (d := .loc (m.length + 1)) (y_op (y_put (y_lst (y_cons y_c y_nil))) (y_call (y_cons (y_w (y_var rfl) (weak_lines n T)) y_nil) len_linesW) ?_) rfl) ?_
    · have e0 : (m ++ [Cell.lst [D.bl false]])[m.length]? = some (.lst [D.bl false]) := get_off m [_] 0
      unfold gMul
      simp only [e0]
      rw [if_pos ⟨by omega, by omega, by simp; omega⟩, Int.toNat_natCast, tab_rep, List.length_append]; rfl
    · refine y_seq (e1 := [some (linesD n T), some (.loc q), some (.loc (m.length + 1)), none, none, none, none]) (m1 := m3) (y_asgG y_c (fSub_ev (k := 0) (j := 0) (y_var rfl) y_c g2 (tab_ix (y := 0) h1))) ?_
      refine y_seq (e1 := sE n T q m.length none none none) (m1 := m4) (y_asg (d := .loc (m.length + 2)) (by rw [← l3]; exact y_put (y_lst (y_cons y_c y_nil))) rfl) ?_
      exact y_seq q1 (y_ret (y_on lc rfl))
  · rintro k e mm ⟨dn, fs, a, b, rfl, hM, hS, hb, rfl⟩
    have tst : wt_spanned_1 (sE n T q m.length a b none) mm = some (!(nL fs).isEmpty, mm) := y_tru (y_var rfl) (by show (rd mm _).map _ = _; rw [rd_of hM.fur]; rfl)
    by_cases c : fs = []
    · subst c
      exact .inl ⟨tst, dn, a, b, mm, rfl, hM, hS⟩
    · obtain ⟨r, i, rfl⟩ := snoc_of c
      have e0 : (!(nL (r ++ [i])).isEmpty) = true := by rw [nL_app]; cases r <;> rfl
      rw [e0] at tst
      have hi : i < n := hb i (by simp)
      have sI := hS.pop
      have hb' : ∀ z ∈ (dn ++ [i]) ++ r, z < n := fun z hz => by
        refine hb z ?_
        simp only [List.mem_append, List.mem_singleton] at hz ⊢
        rcases hz with (h | h) | h <;> simp [h]
      have hdl : dn.length < n := by
        have := nodup_len (n := n) sI.nd hb'
        rw [List.length_append, List.length_append, List.length_singleton] at this; omega
      have fur : mm[m.length + 2]? = some (.lst (nL r ++ [.int (i : Nat)])) := by rw [hM.fur, nL_app]; rfl
      let mp : Mem := mm.set (m.length + 2) (.lst (nL r))
      have hMp : SpM n q xs m mp (dn ++ [i]) r := ⟨hM.kp.set (by omega), by
        rw [List.getElem?_set_ne (by omega), hM.met]
        rw [tab_congr (h := fun z => .bl (decide (z ∈ (dn ++ [i]) ++ r))) fun z _ => ?_]
        refine congrArg D.bl (decide_eq_decide.mpr ?_)
        simp only [List.mem_append, List.mem_singleton]
        constructor
        · rintro (h | h | h) <;> simp [h]
        · rintro ((h | h) | h) <;> simp [h], List.getElem?_set_self (List.getElem?_eq_some_iff.mp hM.fur).1⟩
      have hf := y_forL (fi := fSeq (fVar 1)) (ft := fName 5) (g := lb_spanned_1) (e := sE n T q m.length (some (mvS n (T i))) b none) (m0 := mp) (m := mp) (l := xs) (k := fun x => .int (x : Nat)) (q := q) (y_seqL (y_var rfl) (hMp.kp.get hq))
        (fun a _ e mx => ∃ fs b, e = sE n T q m.length (some (mvS n (T i))) b none ∧ SpM n q xs m mx (dn ++ [i]) fs ∧ SpI 0 T xs (dn ++ [i]) fs i a ∧ ∀ z ∈ (dn ++ [i]) ++ fs, z < n) (fun _ _ _ _ ⟨_, _, _, h, _, _⟩ => h.kp.get hq) ⟨r, b, rfl, hMp, sI, hb'⟩ ?_
      · obtain ⟨e1, m5, q5, fs5, b5, rfl, hM5, hI5, hb5⟩ := hf
        refine .inr ⟨tst, by omega, .nx (sE n T q m.length (some (mvS n (T i))) b5 none) m5, ?_, dn ++ [i], fs5, _, b5, rfl, hM5, hI5.fin, hb5, by rw [List.length_append, List.length_singleton]; omega⟩
        unfold wb_spanned_1
        exact y_seq (y_asg (y_op (y_var rfl) (y_pop (y_var rfl) fur) (ix_lines hi)) rfl) q5
      · rintro a x b e mx hl ⟨fs, b', rfl, hM', hI', hb''⟩
        have hxx : x ∈ xs := by rw [hl]; simp
        obtain ⟨fs', m', k1, k2, k3, k4⟩ := lb_spanned_ev g hM' hI' hi hxx (hx x hxx) hb'' (c := none)
        exact ⟨_, m', k1, fs', _, rfl, k2, k3, k4⟩
end
end k24

set_option Elab.async false
set_option linter.all false
set_option maxRecDepth 100000
set_option maxHeartbeats 400000
namespace k24
open PySem PySem.Spec PyProof.Rows L2 Mv Cyc
theorem loc_ne {m : Mem} {a b : Nat} {v w : List Int} (ha : m[a]? = some (.lst (v.map D.int))) (hb : m[b]? = some (.lst (w.map D.int))) : gNeS (.loc a) (.loc b) m = some (.bl (!decide (v = w)), m) := by
  have rs : ∀ {l : Nat} {u : List Int}, m[l]? = some (.lst (u.map D.int)) → res m (.loc l) = some (.list (D.pyAll (u.map D.int))) ∧ SeqAt.shaped (.list (D.pyAll (u.map D.int))) = true := fun {l u} hl => by
    constructor
    · show (rd m l).bind _ = _
      rw [rd_of hl, Option.bind_some, D.pyFAll_pure _ _ (D.plAll_pure _ (plAll_ints u))]; rfl
    · obtain ⟨p, q⟩ := D.plAll_lay _ (plAll_ints u)
      rw [depAll_ints] at q
      exact Bool.and_eq_true_iff.mpr ⟨by rw [PyData.canLay0]; exact p, decide_eq_true (by rw [PyData.depth, q]; omega)⟩
  have e : eqD (.list (D.pyAll (v.map D.int))) (.list (D.pyAll (w.map D.int))) = some (decide (v = w)) := by
    unfold eqD
    rw [if_pos ⟨(rs ha).2, (rs hb).2⟩, PyData.eqv]
    congr 1
    refine Bool.eq_iff_iff.mpr ((D.plAll_eqv _ _ (plAll_ints v) (plAll_ints w)).trans (Iff.trans ⟨fun h => ?_, fun h => by rw [h]⟩ decide_eq_true_iff.symm))
    exact wD_inj.mp (by unfold wD; rw [h])
  show gNe (.loc a) (.loc b) m = _
  unfold gNe
  rw [(rs ha).1, (rs hb).1, Option.bind_some, Option.bind_some, e]; rfl
section
variable {m : Mem} {n : Nat} {T : Nat → Nat → Nat}
theorem wait_ne {mm : Mem} {l : Nat} {fs : List Nat} {e : Sl} {f : FE} (hf : f e mm = some (.loc l, mm)) (h : mm[l]? = some (.lst (nL fs))) : fTest (fOp gNeS f (fPut (fLst fNil))) e mm = some (!decide (fs = []), mm ++ [.lst []]) := by
  have hl := (List.getElem?_eq_some_iff.mp h).1
  have h1 : (mm ++ [Cell.lst []])[l]? = some (.lst ((fs.map Int.ofNat).map D.int)) := by rw [List.getElem?_append_left hl, h, nL_ints]
  have h2 : (mm ++ [Cell.lst []])[mm.length]? = some (.lst (([] : List Int).map D.int)) := get_off mm [_] 0
  have e1 : decide (fs.map Int.ofNat = []) = decide (fs = []) := decide_eq_decide.mpr List.map_eq_nil_iff
  refine y_test (y_op hf (y_put (y_lst y_nil)) ?_)
  rw [loc_ne h1 h2, e1]
/-! ### the law's own closure -/
noncomputable def F_law_made : GN := Fof0 N_law_made 2 g_law_made
abbrev keyI (KL : List Nat) : Cell := .dK (KL.map fun z => (Sum.inl (z : Nat) : Key)) (KL.map fun _ => D.bl true)
abbrev mE (n : Nat) (T : Nat → Nat → Nat) (q k : Nat) (a b c : Option D) : Sl := [some (linesD n T), some (.loc q), some (.loc k), some (.loc (k + 1)), a, b, c]
structure MdM (m mm : Mem) (KL dn fs : List Nat) : Prop where
  kp : Kp m mm
  kn : mm[m.length]? = some (keyI KL)
  nd : KL.Nodup
  me : ∀ z, z ∈ KL ↔ z ∈ dn ++ fs
  wt : mm[m.length + 1]? = some (.lst (nL fs))
theorem MdM.app {mm : Mem} {KL dn fs : List Nat} {c : Cell} (h : MdM m mm KL dn fs) : MdM m (mm ++ [c]) KL dn fs :=
  ⟨h.kp.trans Kp.app, by rw [List.getElem?_append_left (List.getElem?_eq_some_iff.mp h.kn).1]; exact h.kn, h.nd, h.me, by rw [List.getElem?_append_left (List.getElem?_eq_some_iff.mp h.wt).1]; exact h.wt⟩
theorem inl_mem {y : Nat} {KL : List Nat} : ((Sum.inl (y : Nat) : Key) ∈ KL.map fun z => (Sum.inl (z : Nat) : Key)) ↔ y ∈ KL := by
  rw [List.mem_map]
  exact ⟨fun ⟨z, a, b⟩ => by injection b with b; have : z = y := by omega
                             rw [← this]; exact a, fun h => ⟨y, h, rfl⟩⟩
theorem known_in {mm : Mem} {l y : Nat} {KL : List Nat} (h : mm[l]? = some (keyI KL)) : gIn true (.int (y : Nat)) (.loc l) mm = some (.bl (!decide (y ∈ KL)), mm) := by
  have e : inD mm (.int (y : Nat)) (.loc l) = some (decide (y ∈ KL)) := by
    unfold inD
    simp only [h]
    show some ((lookK (Sum.inl (y : Nat) : Key) (KL.map fun z => (Sum.inl (z : Nat) : Key)) (KL.map fun _ => D.bl true)).isSome) = _
    have e2 : (KL.map fun _ => D.bl true) = (KL.map fun z => (Sum.inl (z : Nat) : Key)).map fun _ => D.bl true := by rw [List.map_map]; rfl
    rw [e2, lookK_true]
    exact congrArg some (decide_eq_decide.mpr inl_mem)
  unfold gIn
  rw [e]; rfl
theorem lb_made_ev {q : Nat} {xs : List Nat} {mm : Mem} {KL dn fs : List Nat} {i x : Nat} {a : List Nat} {b c : Option D} (g : Grp n T) (h : MdM m mm KL dn fs) (s : SpI 0 T xs dn fs i a) (hi : i < n) (hx : x ∈ xs) (hxn : x < n) (hb : ∀ z ∈ dn ++ fs, z < n) :
    ∃ KL' fs' c' m', lb_law_made_1 (mE n T q m.length (some (.int (i : Nat))) (some (.int (x : Nat))) c) mm = some (.nx (mE n T q m.length (some (.int (i : Nat))) (some (.int (x : Nat))) c') m') ∧ MdM m m' KL' dn fs' ∧ SpI 0 T xs dn fs' i (a ++ [x]) ∧ ∀ z ∈ dn ++ fs', z < n := by
  have hy := g.lt _ _ hi hxn
  have h2 := g.le
  have hlen : (dn ++ fs).length ≤ n := nodup_len (n := n) s.nd hb
  have hKL : KL.length ≤ n := nodup_len (n := n) h.nd fun z hz => hb z ((h.me z).mp hz)
  have A : fsAsg (fOp gIx (fW (fOp gIx (fVar 0) (fVar 4))) (fVar 5)) (fName 6) (mE n T q m.length (some (.int (i : Nat))) (some (.int (x : Nat))) c) mm = some (.nx (mE n T q m.length (some (.int (i : Nat))) (some (.int (x : Nat))) (some (.int (T i x : Nat)))) mm) :=
    y_asg (y_op (y_w (y_op (y_var rfl) (y_var rfl) (ix_lines hi)) (weak_mvS n _)) (y_var rfl) (ix_row hxn)) rfl
  have tst : fTest (fOp (gIn true) (fVar 6) (fVar 2)) (mE n T q m.length (some (.int (i : Nat))) (some (.int (x : Nat))) (some (.int (T i x : Nat)))) mm = some (!decide (T i x ∈ KL), mm) :=
    y_test (y_op (y_var rfl) (y_var rfl) (known_in h.kn))
  unfold lb_law_made_1
  by_cases q1 : T i x ∈ KL
  · rw [decide_eq_true q1] at tst
    exact ⟨KL, fs, _, mm, y_seq A (y_no tst y_next), h, s.keep ((h.me _).mp q1), hb⟩
  · rw [decide_eq_false q1] at tst
    rw [List.length_append] at hlen
    have pk : fSubA (fVar 2) (fVar 6) (.bl true) (mE n T q m.length (some (.int (i : Nat))) (some (.int (x : Nat))) (some (.int (T i x : Nat)))) mm = some (mE n T q m.length (some (.int (i : Nat))) (some (.int (x : Nat))) (some (.int (T i x : Nat))), mm.set m.length (keyI (KL ++ [T i x]))) := by
      unfold fSubA
      rw [y_var (i := 2) rfl, Option.bind_some, y_var (i := 6) rfl, Option.bind_some]
      simp only [h.kn]
      show (if (KL.map fun _ => D.bl true).length < 100000 then some (_, mm.set _ (.dK (putD (Sum.inl (T i x : Nat) : Key) (.bl true) (KL.map fun z => (Sum.inl (z : Nat) : Key)) (KL.map fun _ => D.bl true)).1 (putD (Sum.inl (T i x : Nat) : Key) (.bl true) (KL.map fun z => (Sum.inl (z : Nat) : Key)) (KL.map fun _ => D.bl true)).2)) else none) = _
      rw [if_pos (by rw [List.length_map]; omega)]
      unfold putD
      rw [if_neg fun z => q1 (inl_mem.mp z)]
      show some (_, mm.set _ (.dK _ _)) = some (_, mm.set _ (.dK _ _))
      rw [List.map_append, List.map_append]; rfl
    refine ⟨KL ++ [T i x], fs ++ [T i x], _, _, y_seq A (y_yes tst (y_seq (y_asgG y_c pk) (y_drop (d := .non) (y_app (xs := nL fs) (xs0 := nL fs) (y_var rfl) ?_ (y_var rfl) ?_ (by rw [List.length_map]; omega))))), ⟨(h.kp.set (Nat.le_refl _)).set (by omega), ?_, ?_, fun z => ?_, ?_⟩, s.add hx fun z => q1 ((h.me _).mpr z), fun z hz => ?_⟩
    · rw [List.getElem?_set_ne (by omega)]; exact h.wt
    · rw [List.getElem?_set_ne (by omega)]; exact h.wt
    · rw [List.getElem?_set_ne (by omega)]; exact List.getElem?_set_self (List.getElem?_eq_some_iff.mp h.kn).1
    · rw [List.nodup_append]
      exact ⟨h.nd, by simp, fun u hu v hv e => q1 (by rw [List.mem_singleton.mp hv] at e; rw [← e]; exact hu)⟩
    · rw [List.mem_append, h.me, ← List.append_assoc, List.mem_append (s := dn ++ fs)]
    · have e1 : nL fs ++ [D.int (T i x : Nat)] = nL (fs ++ [T i x]) := (nL_app fs [T i x]).symm
      rw [e1]
      exact List.getElem?_set_self (by rw [List.length_set]; exact (List.getElem?_eq_some_iff.mp h.wt).1)
    · rw [← List.append_assoc] at hz
      rcases List.mem_append.mp hz with w | w
      · exact hb z w
      · rw [List.mem_singleton.mp w]; exact hy
theorem law_made_ev {q : Nat} {xs : List Nat} (g : Grp n T) (hq : m[q]? = some (.lst (nL xs))) (hx : ∀ x ∈ xs, x < n) : ∃ m', F_law_made [linesD n T, .loc q] m = some (nD (clo n T (· ∈ xs)), m') ∧ Kp m m' := by
  have h1 := g.pos
  have h2 := g.le
  let m4 : Mem := (m ++ [keyI [0]]) ++ [.lst (nL [0])]
  have e4 : m4 = m ++ [keyI [0], .lst (nL [0])] := by show (m ++ _) ++ _ = _; rw [List.append_assoc]; rfl
  have M0 : MdM m m4 [0] [] [0] := ⟨Kp.app.trans Kp.app, by rw [e4]; exact get_off m _ 0, by simp, fun z => Iff.rfl, by rw [e4]; exact get_off m _ 1⟩
  have hw := wh_ev (t := wt_law_made_1) (g := wb_law_made_1) (fun k e mm => ∃ KL dn fs a b c, e = mE n T q m.length a b c ∧ MdM m mm KL dn fs ∧ Spd 0 T xs dn fs ∧ (∀ z ∈ dn ++ fs, z < n) ∧ k = n - dn.length)
    (fun o => ∃ KL dn a b c m', o = .nx (mE n T q m.length a b c) m' ∧ MdM m m' KL dn [] ∧ Spd 0 T xs dn []) ?_ fuel n (mE n T q m.length none none none) m4 (by show n < 100; omega) ⟨[0], [], [0], none, none, none, rfl, M0, Spd.start, fun z hz => by rw [List.mem_singleton.mp hz]; exact h1, by simp⟩
  · obtain ⟨o, q1, KL, dn, a, b, c, m', rfl, hM, hS⟩ := hw
    have hall := hS.all
    have mem : ∀ z, z ∈ KL ↔ z ∈ clo n T (· ∈ xs) := fun z => by
      rw [hM.me, List.append_nil, hall, Rc_Cl, mem_clo]
      exact ⟨fun h => ⟨h.lt g hx, h⟩, fun h => h.2⟩
    have hKL : KL.length ≤ n := nodup_len (n := n) hM.nd fun z hz => clo_rise.lt z ((mem z).mp hz)
    have srt : srtI (KL.map Int.ofNat) = (clo n T (· ∈ xs)).map Int.ofNat := srt_eq clo_rise.up (by
        rw [List.Nodup, List.pairwise_map]
        exact hM.nd.imp fun {a b} w e => w (by have : (a : Int) = b := e; omega)) fun x => by
      rw [List.mem_map]
      exact ⟨fun ⟨y, a, b⟩ => ⟨y, (mem y).mp a, b.symm⟩, fun ⟨y, a, b⟩ => ⟨y, (mem y).mpr a, b.symm⟩⟩
    have hs : gSorted [.loc m.length] m' = some (.loc m'.length, m' ++ [.lst (nL (clo n T (· ∈ xs)))]) := by
      unfold gSorted
      simp only [hM.kn]
      have ek : (KL.map fun z => (Sum.inl (z : Nat) : Key)) = (KL.map Int.ofNat).map Sum.inl := by rw [List.map_map]; rfl
      rw [ek, keysI_map, Option.bind_some, if_pos (by rw [List.length_map]; omega), srt, nL_ints]
    have ht : gTupOf [.loc m'.length] (m' ++ [.lst (nL (clo n T (· ∈ xs)))]) = some (nD (clo n T (· ∈ xs)), m' ++ [.lst (nL (clo n T (· ∈ xs)))]) := tupOf_ev rd_last
    refine ⟨m' ++ [.lst (nL (clo n T (· ∈ xs)))], Fof0_of (o := .rt (nD (clo n T (· ∈ xs))) (m' ++ [.lst (nL (clo n T (· ∈ xs)))])) rfl ?_ rfl, hM.kp.trans Kp.app⟩
    show g_law_made [some (linesD n T), some (.loc q), none, none, none, none, none] m = _
    unfold g_law_made
    have hd : fDisp (fpCons (fC (.int 0)) (fC (.bl true)) fpNil) [some (linesD n T), some (.loc q), none, none, none, none, none] m = some (.loc m.length, m ++ [keyI [0]]) := rfl
    have l1 : (m ++ [keyI [0]]).length = m.length + 1 := by simp
    refine y_seq (e1 := mE n T q m.length none none none) (m1 := m4) (y_par (y_cons hd (y_cons (y_put (y_lst (y_cons y_c y_nil))) y_nil)) (by rw [l1]; rfl)) ?_
    exact y_seq q1 (y_ret (y_call (y_cons (y_call (y_cons (y_var rfl) y_nil) hs) y_nil) ht))
  · rintro k e mm ⟨KL, dn, fs, a, b, c, rfl, hM, hS, hb, rfl⟩
    have tst : wt_law_made_1 (mE n T q m.length a b c) mm = some (!decide (fs = []), mm ++ [.lst []]) := wait_ne (y_var rfl) hM.wt
    by_cases ce : fs = []
    · subst ce
      exact .inl ⟨_, tst, KL, dn, a, b, c, _, rfl, hM.app, hS⟩
    · rw [decide_eq_false ce] at tst
      obtain ⟨r, i, rfl⟩ := snoc_of ce
      have hi : i < n := hb i (by simp)
      have sI := hS.pop
      have hb' : ∀ z ∈ (dn ++ [i]) ++ r, z < n := fun z hz => by
        refine hb z ?_
        simp only [List.mem_append, List.mem_singleton] at hz ⊢
        rcases hz with (h | h) | h <;> simp [h]
      have hdl : dn.length < n := by
        have := nodup_len (n := n) sI.nd hb'
        rw [List.length_append, List.length_append, List.length_singleton] at this; omega
      have hM1 : MdM m (mm ++ [.lst []]) KL dn (r ++ [i]) := hM.app
      have wt : (mm ++ [Cell.lst []])[m.length + 1]? = some (.lst (nL r ++ [.int (i : Nat)])) := by rw [hM1.wt, nL_app]; rfl
      let mp : Mem := (mm ++ [Cell.lst []]).set (m.length + 1) (.lst (nL r))
      have hMp : MdM m mp KL (dn ++ [i]) r := ⟨hM1.kp.set (by omega), by rw [List.getElem?_set_ne (by omega)]; exact hM1.kn, hM1.nd, fun z => by
        rw [hM1.me]
        simp only [List.mem_append, List.mem_singleton]
        constructor
        · rintro (h | h | h) <;> simp [h]
        · rintro ((h | h) | h) <;> simp [h], List.getElem?_set_self (List.getElem?_eq_some_iff.mp hM1.wt).1⟩
      have hf := y_forL (fi := fSeq (fVar 1)) (ft := fName 5) (g := lb_law_made_1) (e := mE n T q m.length (some (.int (i : Nat))) b c) (m0 := mp) (m := mp) (l := xs) (k := fun x => .int (x : Nat)) (q := q) (y_seqL (y_var rfl) (hMp.kp.get hq))
        (fun a _ e mx => ∃ KL fs b c, e = mE n T q m.length (some (.int (i : Nat))) b c ∧ MdM m mx KL (dn ++ [i]) fs ∧ SpI 0 T xs (dn ++ [i]) fs i a ∧ ∀ z ∈ (dn ++ [i]) ++ fs, z < n) (fun _ _ _ _ ⟨_, _, _, _, _, h, _, _⟩ => h.kp.get hq) ⟨KL, r, b, c, rfl, hMp, sI, hb'⟩ ?_
      · obtain ⟨e1, m5, q5, KL5, fs5, b5, c5, rfl, hM5, hI5, hb5⟩ := hf
        refine .inr ⟨_, tst, by omega, .nx (mE n T q m.length (some (.int (i : Nat))) b5 c5) m5, ?_, KL5, dn ++ [i], fs5, _, b5, c5, rfl, hM5, hI5.fin, hb5, by rw [List.length_append, List.length_singleton]; omega⟩
        unfold wb_law_made_1
        exact y_seq (y_asg (y_pop (y_var rfl) wt) rfl) q5
      · rintro a x b0 e mx hl ⟨KL, fs, b', c', rfl, hM', hI', hb''⟩
        have hxx : x ∈ xs := by rw [hl]; simp
        obtain ⟨KL', fs', c2, m', k1, k2, k3, k4⟩ := lb_made_ev g hM' hI' hi hxx (hx x hxx) hb'' (c := c') (b := none)
        exact ⟨_, m', k1, KL', fs', _, _, rfl, k2, k3, k4⟩
/-! ### commutators' closure -/
noncomputable def F_commutators : GN := Fof0 N_commutators 3 (g_commutators F_spanned F_commutated)
theorem commutators_ev (g : Grp n T) {A B : List Nat} (hA : Rise n A) (hB : Rise n B) : ∃ m', F_commutators [linesD n T, nD A, nD B] m = some (nD (clo n T (· ∈ coms n T A B)), m') ∧ Kp m m' := by
  have h2 := g.le
  have hsc : sc_commutators_1 F_spanned F_commutated [some (linesD n T), some (nD A), some (nD B), none, none] m = some ((srtI (dist (A.flatMap fun x => B.map fun y => ((comF n T x y : Nat) : Int)))).map D.int, m) :=
    y_sc2 (A := A) (B := B) (k1 := fun x => .int (x : Nat)) (k2 := fun x => .int (x : Nat)) (c := fun x y => ((comF n T x y : Nat) : Int)) (y_seqT (y_var rfl))
      (fun x hx => ⟨_, rfl, rfl, fun y hy => ⟨_, rfl, y_call (y_cons (y_var rfl) (y_cons (y_var rfl) (y_cons (y_var rfl) y_nil))) (commutated_ev g (hA.lt x hx) (hB.lt y hy))⟩⟩)
      fun x hx y hy => by have := comF_lt g (hA.lt x hx) (hB.lt y hy); omega
  let R : List Int := srtI (dist (A.flatMap fun x => B.map fun y => ((comF n T x y : Nat) : Int)))
  have memR : ∀ z : Int, z ∈ R ↔ ∃ w ∈ coms n T A B, z = (w : Nat) := fun z => by
    rw [(srtI_perm _).mem_iff, mem_dist]
    unfold coms
    simp only [List.mem_flatMap, List.mem_map]
    exact ⟨fun ⟨x, hx, y, hy, e⟩ => ⟨_, ⟨x, hx, y, hy, rfl⟩, e.symm⟩, fun ⟨w, ⟨x, hx, y, hy, e⟩, e2⟩ => ⟨x, hx, y, hy, by rw [e2, ← e]⟩⟩
  let ys : List Nat := R.map Int.toNat
  have eR : R.map D.int = nL ys := by
    show R.map D.int = (R.map Int.toNat).map _
    rw [List.map_map]
    refine List.map_congr_left fun z hz => ?_
    obtain ⟨w, _, e⟩ := (memR z).mp hz
    show D.int z = D.int (z.toNat : Nat)
    rw [e, Int.toNat_natCast]
  have memY : ∀ w, w ∈ ys ↔ w ∈ coms n T A B := fun w => by
    show w ∈ R.map Int.toNat ↔ _
    rw [List.mem_map]
    constructor
    · rintro ⟨z, hz, e⟩
      obtain ⟨u, hu, e2⟩ := (memR z).mp hz
      rw [e2, Int.toNat_natCast] at e
      rw [← e]; exact hu
    · intro hw
      exact ⟨(w : Nat), (memR _).mpr ⟨w, hw, rfl⟩, Int.toNat_natCast w⟩
  have hlst : (m ++ [Cell.lst (nL ys)])[m.length]? = some (.lst (nL ys)) := get_off m [_] 0
  obtain ⟨m', h1, h3⟩ := spanned_ev g hlst fun x hx => coms_lt g hA.lt hB.lt x ((memY x).mp hx)
  rw [clo_cong memY] at h1
  refine ⟨m', Fof0_of (o := .rt (nD (clo n T (· ∈ coms n T A B))) m') rfl ?_ rfl, Kp.app.trans h3⟩
  show g_commutators F_spanned F_commutated [some (linesD n T), some (nD A), some (nD B), none, none] m = _
  unfold g_commutators
  have hsc' : sc_commutators_1 F_spanned F_commutated [some (linesD n T), some (nD A), some (nD B), none, none] m = some (nL ys, m) := by rw [hsc, ← eR]
  exact y_ret (y_call (y_cons (y_var rfl) (y_cons (y_put hsc') y_nil)) h1)
end
end k24

set_option Elab.async false
set_option linter.all false
set_option maxRecDepth 100000
set_option maxHeartbeats 400000
namespace k24
open PySem PySem.Spec PyProof.Rows L2 Mv Cyc
theorem nD_wD (S : List Nat) : nD S = wD (S.map Int.ofNat) := by unfold wD; rw [← nL_ints]
theorem nD_inj {a b : List Nat} : nD a = nD b ↔ a = b := by
  rw [nD_wD, nD_wD, wD_inj]
  exact ⟨fun h => by have := congrArg (List.map Int.toNat) h
                     rw [List.map_map, List.map_map] at this
                     have e : (Int.toNat ∘ Int.ofNat) = id := funext fun x => rfl
                     rw [e, List.map_id, List.map_id] at this; exact this, fun h => by rw [h]⟩
theorem nD_pl (S : List Nat) : (nD S).pl = true := by rw [nD_wD]; exact plAll_ints _
theorem nD_dep (S : List Nat) : (nD S).dep = 1 := by rw [nD_wD]; show D.depAll _ + 1 = 1; rw [depAll_ints]
theorem nD_cmp (a b : List Nat) (m : Mem) : gEqS (nD a) (nD b) m = some (.bl (decide (a = b)), m) ∧ gNeS (nD a) (nD b) m = some (.bl (!decide (a = b)), m) := by
  by_cases e : a = b
  · subst e
    rw [decide_eq_true rfl]
    exact plEq_same (nD_pl a) (by rw [nD_dep]; decide) m
  · rw [decide_eq_false e]
    exact plEq_ne (nD_pl a) (nD_pl b) (by rw [nD_dep]; decide) (by rw [nD_dep]; decide) (fun h => e (nD_inj.mp h)) m
theorem tab_last (k : Nat) (f : Nat → D) : atI (tab (k + 1) f) (-1) = some (f k) := by
  have e : tab (k + 1) f = tab k f ++ [f k] := by unfold tab; rw [List.range_succ, List.map_append]; rfl
  rw [e]; exact atI_last _ _
theorem tab_snoc (k : Nat) (f : Nat → D) : tab k f ++ [f k] = tab (k + 1) f := by unfold tab; rw [List.range_succ, List.map_append]; rfl
section
variable {m : Mem} {n : Nat} {T : Nat → Nat → Nat}
noncomputable def stopAt (n : Nat) (T : Nat → Nat → Nat) (low : Bool) : Nat := Classical.choose (ser_stop n T low)
theorem stop_ok (n : Nat) (T : Nat → Nat → Nat) (low : Bool) : stopAt n T low ≤ n ∧ ser n T low (stopAt n T low + 1) = ser n T low (stopAt n T low) ∧ ∀ j, j < stopAt n T low → ser n T low (j + 1) ≠ ser n T low j := Classical.choose_spec (ser_stop n T low)
noncomputable def serL (n : Nat) (T : Nat → Nat → Nat) (low : Bool) (k : Nat) : List D := tab k fun i => nD (ser n T low i)
noncomputable def serD (n : Nat) (T : Nat → Nat → Nat) (low : Bool) : D := .tup (serL n T low (stopAt n T low + 1))
/-! ### the series -/
noncomputable def F_series : GN := Fof0 N_series 2 (g_series F_commutators)
theorem nxt_first (low : Bool) : clo n T (· ∈ coms n T (List.range n) (List.range n)) = ser n T low 1 := by cases low <;> rfl
theorem series_ev (g : Grp n T) (low : Bool) : ∃ m', F_series [linesD n T, .bl low] m = some (serD n T low, m') ∧ Kp m m' := by
  have h2 := g.le
  obtain ⟨s1, s2, s3⟩ := stop_ok n T low
  let E : Nat → Sl := fun j => [some (linesD n T), some (.bl low), some (.loc m.length), some (nD (ser n T low (j + 1)))]
  have hr0 : Rise n (List.range n) := ser_rise n T low 0
  obtain ⟨m1, c1, k1⟩ := commutators_ev (m := m ++ [.lst (serL n T low 1)]) g hr0 hr0
  rw [nxt_first low] at c1
  have hl0 : (m ++ [Cell.lst (serL n T low 1)])[m.length]? = some (.lst (serL n T low 1)) := get_off m [_] 0
  have hw := wh_ev0 (t := wt_series_1 F_commutators) (g := wb_series_1 F_commutators) (fun k e mm => ∃ j, e = E j ∧ Kp m mm ∧ mm[m.length]? = some (.lst (serL n T low (j + 1))) ∧ j ≤ stopAt n T low ∧ k = stopAt n T low - j)
    (fun o => ∃ m', o = .nx (E (stopAt n T low)) m' ∧ Kp m m' ∧ m'[m.length]? = some (.lst (serL n T low (stopAt n T low + 1)))) ?_ fuel (stopAt n T low) (E 0) m1 (by show _ < 100; omega) ⟨0, rfl, Kp.app.trans k1, k1.get hl0, Nat.zero_le _, rfl⟩
  · obtain ⟨o, q, m', rfl, k2, hl⟩ := hw
    refine ⟨m', Fof0_of (o := .rt (serD n T low) m') rfl ?_ rfl, k2⟩
    show g_series F_commutators [some (linesD n T), some (.bl low), none, none] m = _
    unfold g_series
    refine y_seq (y_asg (y_put (y_lst (y_cons (y_tRg1 (y_call (y_cons (y_w (y_var rfl) (weak_lines n T)) y_nil) len_linesW) (by omega)) y_nil))) rfl) ?_
    have i0 : ∀ {e : Sl}, e[2]? = some (some (.loc m.length)) → fOp gIx (fVar 2) (fC (.int 0)) e (m ++ [.lst (serL n T low 1)]) = some (nD (List.range n), m ++ [.lst (serL n T low 1)]) := fun he => y_op (y_var he) y_c (ix_lst hl0 rfl)
    refine y_seq (e1 := E 0) (m1 := m1) (y_asg (y_call (y_cons (y_var rfl) (y_cons (i0 rfl) (y_cons (i0 rfl) y_nil))) c1) rfl) ?_
    exact y_seq q (y_ret (y_call (y_cons (y_var rfl) y_nil) (tupOf_ev (rd_of hl))))
  · rintro k e mm ⟨j, rfl, kk, hl, hj, rfl⟩
    have tst : wt_series_1 F_commutators (E j) mm = some (!decide (ser n T low (j + 1) = ser n T low j), mm) :=
      y_test (y_op (y_var rfl) (y_op (y_var rfl) (y_un (a := .int 1) y_c rfl) (ix_lst hl (tab_last j _))) (nD_cmp _ _ _).2)
    by_cases c : ser n T low (j + 1) = ser n T low j
    · rw [decide_eq_true c] at tst
      have : j = stopAt n T low := by
        by_cases h : j < stopAt n T low
        · exact absurd c (s3 j h)
        · omega
      subst this
      exact .inl ⟨tst, mm, rfl, kk, hl⟩
    · rw [decide_eq_false c] at tst
      have hjs : j < stopAt n T low := by
        by_cases h : j = stopAt n T low
        · rw [h] at c; exact absurd s2 c
        · omega
      let mp : Mem := mm.set m.length (.lst (serL n T low (j + 2)))
      have hmp : mp[m.length]? = some (.lst (serL n T low (j + 2))) := List.getElem?_set_self (List.getElem?_eq_some_iff.mp hl).1
      have happ : fMeth gAppend (fVar 2) (fCons (fVar 3) fNil) (E j) mm = some (.non, mp) := by
        have := y_app (fo := fVar 2) (fa := fVar 3) (e := E j) (y_var rfl) hl (y_var rfl) hl (by show (tab _ _).length < _; rw [tab_len]; omega)
        rw [this]
        show some (D.non, mm.set _ (.lst (tab (j + 1) (fun i => nD (ser n T low i)) ++ [nD (ser n T low (j + 1))]))) = _
        rw [tab_snoc (j + 1) fun i => nD (ser n T low i)]; rfl
      obtain ⟨m5, c5, k5⟩ := commutators_ev (m := mp) g (ser_rise n T low (j + 1)) (B := if low then List.range n else ser n T low (j + 1)) (by cases low; exact ser_rise n T false (j + 1); exact hr0)
      have arg : fIf (fTru (fVar 1)) (fOp gIx (fVar 2) (fC (.int 0))) (fVar 3) (E j) mp = some (nD (if low then List.range n else ser n T low (j + 1)), mp) := by
        cases low
        · exact y_if0 (y_tru (y_var rfl) rfl) (y_var rfl)
        · exact y_if1 (y_tru (y_var rfl) rfl) (y_op (y_var rfl) y_c (ix_lst hmp (tab_at (y := 0) (show 0 < j + 2 by omega))))
      refine .inr ⟨tst, by omega, .nx (E (j + 1)) m5, ?_, j + 1, rfl, (kk.set (Nat.le_refl _)).trans k5, k5.get hmp, hjs, by omega⟩
      unfold wb_series_1
      exact y_seq (y_drop happ) (y_asg (y_call (y_cons (y_var rfl) (y_cons (y_var rfl) (y_cons arg y_nil))) c5) rfl)
noncomputable def F_derived_series : GN := Fof0 N_derived_series 1 (g_derived_series F_check_table F_series)
theorem derived_series_ev (g : Grp n T) : ∃ m', F_derived_series [tableD n T] m = some (serD n T false, m') ∧ Kp m m' := by
  obtain ⟨m', h, k⟩ := series_ev (m := m) g false
  refine ⟨m', Fof0_of (o := .rt (serD n T false) m') rfl ?_ rfl, k⟩
  show g_derived_series F_check_table F_series [some (tableD n T)] m = _
  unfold g_derived_series
  exact y_seq (y_drop (y_call (y_cons (y_var rfl) y_nil) check_table_ev)) (y_ret (y_call (y_cons (fld_ev (y_var rfl)) (y_cons y_c y_nil)) h))
noncomputable def F_lower_series : GN := Fof0 N_lower_series 1 (g_lower_series F_check_table F_series)
theorem lower_series_ev (g : Grp n T) : ∃ m', F_lower_series [tableD n T] m = some (serD n T true, m') ∧ Kp m m' := by
  obtain ⟨m', h, k⟩ := series_ev (m := m) g true
  refine ⟨m', Fof0_of (o := .rt (serD n T true) m') rfl ?_ rfl, k⟩
  show g_lower_series F_check_table F_series [some (tableD n T)] m = _
  unfold g_lower_series
  exact y_seq (y_drop (y_call (y_cons (y_var rfl) y_nil) check_table_ev)) (y_ret (y_call (y_cons (fld_ev (y_var rfl)) (y_cons y_c y_nil)) h))
noncomputable def F_derived : GN := Fof0 N_derived 2 (g_derived F_check_table F_check_sub F_commutators)
theorem derived_ev (g : Grp n T) {S : List Nat} (h : Sub n T S) : ∃ m', F_derived [tableD n T, nD S] m = some (nD (clo n T (· ∈ coms n T S S)), m') ∧ Kp m m' := by
  obtain ⟨m', c, k⟩ := commutators_ev (m := m) g h.r h.r
  refine ⟨m', Fof0_of (o := .rt (nD (clo n T (· ∈ coms n T S S))) m') rfl ?_ rfl, k⟩
  show g_derived F_check_table F_check_sub F_commutators [some (tableD n T), some (nD S)] m = _
  unfold g_derived
  exact y_seq (y_drop (y_call (y_cons (y_var rfl) y_nil) check_table_ev)) (y_seq (y_drop (y_call (y_cons (y_var rfl) (y_cons (y_var rfl) y_nil)) (check_sub_ev g h))) (y_ret (y_call (y_cons (fld_ev (y_var rfl)) (y_cons (y_var rfl) (y_cons (y_var rfl) y_nil))) c)))
/-! ### the law's own series -/
noncomputable def F_law_series : GN := Fof0 N_law_series 2 (g_law_series F_law_made F_law_commutators)
theorem law_next_ev (g : Grp n T) {A B : List Nat} (hA : Rise n A) (hB : Rise n B) {fa fb : FE} {e : Sl} (he : e[0]? = some (some (linesD n T))) (ha : fa e m = some (nD A, m)) (hb : fb e m = some (nD B, m)) :
    ∃ m', fCall F_law_made (fCons (fVar 0) (fCons (fCall F_law_commutators (fCons (fVar 0) (fCons fa (fCons fb fNil)))) fNil)) e m = some (nD (clo n T (· ∈ coms n T A B)), m') ∧ Kp m m' := by
  obtain ⟨l, m1, a1, a2, a3, a4⟩ := law_commutators_ev (m := m) g hA hB
  obtain ⟨m2, b1, b2⟩ := law_made_ev g a2 (coms_lt g hA.lt hB.lt)
  exact ⟨m2, y_call (y_cons (y_var he) (y_cons (y_call (y_cons (y_var he) (y_cons ha (y_cons hb y_nil))) a1) y_nil)) b1, a3.trans b2⟩
theorem law_series_ev (g : Grp n T) (low : Bool) : ∃ m', F_law_series [linesD n T, .bl low] m = some (serD n T low, m') ∧ Kp m m' := by
  have h2 := g.le
  obtain ⟨s1, s2, s3⟩ := stop_ok n T low
  let E : Option D → Option D → Sl := fun a b => [some (linesD n T), some (.bl low), some (nD (List.range n)), some (.loc m.length), a, b]
  have hr0 : Rise n (List.range n) := ser_rise n T low 0
  have hw := wh_ev0 (t := wt_law_series_1 F_law_made F_law_commutators) (g := wb_law_series_1 F_law_made F_law_commutators) (fun k e mm => ∃ j a b, e = E a b ∧ Kp m mm ∧ mm[m.length]? = some (.lst (serL n T low (j + 1))) ∧ j ≤ stopAt n T low ∧ k = stopAt n T low - j + 1)
    (fun o => ∃ m', o = .rt (serD n T low) m' ∧ Kp m m') ?_ fuel (stopAt n T low + 1) (E none none) (m ++ [.lst (serL n T low 1)]) (by show _ < 100; omega) ⟨0, none, none, rfl, Kp.app, get_off m [_] 0, Nat.zero_le _, rfl⟩
  · obtain ⟨o, q, m', rfl, k2⟩ := hw
    refine ⟨m', Fof0_of (o := .rt (serD n T low) m') rfl ?_ rfl, k2⟩
    show g_law_series F_law_made F_law_commutators [some (linesD n T), some (.bl low), none, none, none, none] m = _
    unfold g_law_series
    exact y_seq (y_asg (y_tRg1 (y_call (y_cons (y_w (y_var rfl) (weak_lines n T)) y_nil) len_linesW) (by omega)) rfl) (y_seq (y_asg (y_put (y_lst (y_cons (y_var rfl) y_nil))) rfl) q)
  · rintro k e mm ⟨j, a, b, rfl, kk, hl, hj, rfl⟩
    have tst : wt_law_series_1 F_law_made F_law_commutators (E a b) mm = some (true, mm) := y_tru y_c rfl
    have last : ∀ {e : Sl} {mx : Mem}, e[3]? = some (some (.loc m.length)) → mx[m.length]? = some (.lst (serL n T low (j + 1))) → fOp gIx (fVar 3) (fUn gNeg (fC (.int 1))) e mx = some (nD (ser n T low j), mx) := fun he h => y_op (y_var he) (y_un (a := .int 1) y_c rfl) (ix_lst h (tab_last j _))
    let B : List Nat := if low then List.range n else ser n T low j
    have hB : Rise n B := by show Rise n (if low then List.range n else ser n T low j); cases low; exact ser_rise n T false j; exact hr0
    have arg : fIf (fTru (fVar 1)) (fVar 2) (fOp gIx (fVar 3) (fUn gNeg (fC (.int 1)))) (E a b) mm = some (nD B, mm) := by
      cases low
      · exact y_if0 (y_tru (y_var rfl) rfl) (last rfl hl)
      · exact y_if1 (y_tru (y_var rfl) rfl) (y_var rfl)
    obtain ⟨m5, c5, k5⟩ := law_next_ev (m := mm) g (ser_rise n T low j) hB (fa := fOp gIx (fVar 3) (fUn gNeg (fC (.int 1)))) (fb := fVar 4) (e := E (some (nD B)) b) rfl (last rfl hl) (y_var rfl)
    have c5 : fCall F_law_made (fCons (fVar 0) (fCons (fCall F_law_commutators (fCons (fVar 0) (fCons (fOp gIx (fVar 3) (fUn gNeg (fC (.int 1)))) (fCons (fVar 4) fNil)))) fNil)) (E (some (nD B)) b) mm = some (nD (ser n T low (j + 1)), m5) := c5
    have hl5 := k5.get hl
    have A1 : fsAsg (fIf (fTru (fVar 1)) (fVar 2) (fOp gIx (fVar 3) (fUn gNeg (fC (.int 1))))) (fName 4) (E a b) mm = some (.nx (E (some (nD B)) b) mm) := y_asg arg rfl
    have A2 : fsAsg (fCall F_law_made (fCons (fVar 0) (fCons (fCall F_law_commutators (fCons (fVar 0) (fCons (fOp gIx (fVar 3) (fUn gNeg (fC (.int 1)))) (fCons (fVar 4) fNil)))) fNil))) (fName 5) (E (some (nD B)) b) mm = some (.nx (E (some (nD B)) (some (nD (ser n T low (j + 1))))) m5) := y_asg c5 rfl
    have t2 : fTest (fOp gEqS (fVar 5) (fOp gIx (fVar 3) (fUn gNeg (fC (.int 1))))) (E (some (nD B)) (some (nD (ser n T low (j + 1))))) m5 = some (decide (ser n T low (j + 1) = ser n T low j), m5) := y_test (y_op (y_var rfl) (last rfl hl5) (nD_cmp _ _ _).1)
    by_cases c : ser n T low (j + 1) = ser n T low j
    · rw [decide_eq_true c] at t2
      have : j = stopAt n T low := by
        by_cases h : j < stopAt n T low
        · exact absurd c (s3 j h)
        · omega
      subst this
      refine .inr ⟨tst, by omega, .rt (serD n T low) m5, ?_, m5, rfl, kk.trans k5⟩
      unfold wb_law_series_1
      exact y_seq A1 (y_seq A2 (y_seqR (y_yes t2 (y_ret (y_call (y_cons (y_var rfl) y_nil) (tupOf_ev (rd_of hl5)))))))
    · rw [decide_eq_false c] at t2
      have hjs : j < stopAt n T low := by
        by_cases h : j = stopAt n T low
        · rw [h] at c; exact absurd s2 c
        · omega
      let mp : Mem := m5.set m.length (.lst (serL n T low (j + 2)))
      have hmp : mp[m.length]? = some (.lst (serL n T low (j + 2))) := List.getElem?_set_self (List.getElem?_eq_some_iff.mp hl5).1
      have happ : fMeth gAppend (fVar 3) (fCons (fVar 5) fNil) (E (some (nD B)) (some (nD (ser n T low (j + 1))))) m5 = some (.non, mp) := by
        have := y_app (fo := fVar 3) (fa := fVar 5) (e := E (some (nD B)) (some (nD (ser n T low (j + 1))))) (y_var rfl) hl5 (y_var rfl) hl5 (by show (tab _ _).length < _; rw [tab_len]; omega)
        rw [this]
        show some (D.non, m5.set _ (.lst (tab (j + 1) (fun i => nD (ser n T low i)) ++ [nD (ser n T low (j + 1))]))) = _
        rw [tab_snoc (j + 1) fun i => nD (ser n T low i)]; rfl
      refine .inr ⟨tst, by omega, .nx (E (some (nD B)) (some (nD (ser n T low (j + 1))))) mp, ?_, j + 1, _, _, rfl, (kk.trans k5).set (Nat.le_refl _), hmp, hjs, by omega⟩
      unfold wb_law_series_1
      exact y_seq A1 (y_seq A2 (y_seq (y_no t2 y_next) (y_drop happ)))
/-! ### told as due -/
noncomputable def F_law_is : GN := Fof0 N_law_is 2 g_law_is
theorem law_is_ev {S : List Nat} (hS : S.length ≤ 1000) : F_law_is [nD S, nD S] m = some (.bl true, m) := by
  refine Fof0_of (o := .rt (.bl true) m) rfl ?_ rfl
  show g_law_is [some (nD S), some (nD S), none] m = _
  unfold g_law_is
  have ne : gNeS (nD S) (nD S) m = some (.bl false, m) := by rw [(nD_cmp S S m).2, decide_eq_true rfl]; rfl
  refine y_seq (y_no (y_orN (y_notT (y_tru (y_call (y_cons (y_var rfl) (y_cons y_c y_nil)) isT) rfl)) (y_test (y_op (y_var rfl) (y_var rfl) ne))) y_next) ?_
  have C : lc_law_is_1 [some (nD S), some (nD S), none] m = some (S.map fun _ => .bl false, m) :=
    y_lc (l := S) (g := fun x => .int (x : Nat)) (y_seqT (y_var rfl)) (by omega) fun x hx => y_elt rfl (y_call (y_cons (y_var rfl) (y_cons y_c y_nil)) (isi_bool rfl))
  exact y_ret (y_not (y_on C (gAny_f _ _)) rfl)
theorem zip_self {α : Type} (k : α → D) : ∀ l : List α, zipD (l.map k) (l.map k) = l.map fun x => .tup [k x, k x]
  | [] => rfl
  | x :: r => by show _ :: zipD (r.map k) (r.map k) = _; rw [zip_self k r]; rfl
noncomputable def F_law_are : GN := Fof0 N_law_are 2 (g_law_are F_law_is)
theorem law_are_ev (hn : n ≤ 48) (low : Bool) : F_law_are [serD n T low, serD n T low] m = some (.bl true, m) := by
  refine Fof0_of (o := .rt (.bl true) m) rfl ?_ rfl
  show g_law_are F_law_is [some (serD n T low), some (serD n T low), none, none] m = _
  unfold g_law_are
  have s1 := (stop_ok n T low).1
  have l1 : gLen [serD n T low] m = some (.int (stopAt n T low + 1 : Nat), m) := by show some (D.int ((tab _ _).length : Nat), m) = _; rw [tab_len]
  have ne : gNeS (.int (stopAt n T low + 1 : Nat)) (.int (stopAt n T low + 1 : Nat)) m = some (.bl false, m) := by rw [gNe_int, decide_eq_true rfl]; rfl
  refine y_seq (y_no (y_orN (y_notT (y_tru (y_call (y_cons (y_var rfl) (y_cons y_c y_nil)) isT) rfl)) (y_test (y_op (y_call (y_cons (y_var rfl) y_nil) l1) (y_call (y_cons (y_var rfl) y_nil) l1) ne))) y_next) ?_
  have C : lc_law_are_1 F_law_is [some (serD n T low), some (serD n T low), none, none] m = some ((List.range (stopAt n T low + 1)).map fun _ => .bl true, m) := by
    refine y_lc (l := List.range (stopAt n T low + 1)) (g := fun i => .tup [nD (ser n T low i), nD (ser n T low i)]) (m := m) ?_ (by rw [List.length_range]; omega) fun i hi => y_elt rfl (y_call (y_cons (y_var rfl) (y_cons (y_var rfl) y_nil)) (law_is_ev (by have := (ser_rise n T low i).len; omega)))
    unfold fZip
    have e1 : fCons (fVar 0) (fCons (fVar 1) fNil) [some (serD n T low), some (serD n T low), none, none] m = some ([serD n T low, serD n T low], m) := rfl
    rw [e1]
    show some ((⟨zipD (List.map _ _) (List.map _ _), none⟩ : Src), m) = _
    rw [zip_self]
  exact y_ret (y_on C (gAll_t _ _))
end
end k24

set_option Elab.async false
set_option linter.all false
set_option maxRecDepth 100000
set_option maxHeartbeats 400000
namespace k24
open PySem PySem.Spec PyProof.Rows L2 Mv Cyc
theorem tt_wd (n : Nat) (f : Nat → Nat) : ttD (wd n f) = mvT n f := by
  show D.ttp ((wd n f).map D.int) = D.ttp (tab n _)
  unfold wd tab
  rw [List.map_map]; rfl
theorem wD_wd (n : Nat) (f : Nat → Nat) : wD (wd n f) = mvD n f := by
  show D.tup ((wd n f).map D.int) = D.tup (tab n _)
  unfold wd tab
  rw [List.map_map]; rfl
/-! ### members -/
noncomputable def F_law_members : GN := Fof0 N_law_members 3 (g_law_members F_law_then)
abbrev memC (KL : List (List Int)) : Cell := .dT (KL.map keyW) (KL.map fun _ => D.bl true)
abbrev bE (n q mo k : Nat) (a b c : Option D) : Sl := [some (.int (n : Nat)), some (.loc q), some (.int (mo : Nat)), some (.loc k), some (.loc (k + 1)), a, b, c]
structure MbM (m mm : Mem) (KL dn fs : List (List Int)) : Prop where
  kp : Kp m mm
  kn : mm[m.length]? = some (memC KL)
  nd : KL.Nodup
  me : ∀ z, z ∈ KL ↔ z ∈ dn ++ fs
  wt : mm[m.length + 1]? = some (.lst (fs.map ttD))
section
variable {m : Mem} {n : Nat} {gs : List (Nat → Nat)}
theorem MbM.app {mm : Mem} {KL dn fs : List (List Int)} {c : Cell} (h : MbM m mm KL dn fs) : MbM m (mm ++ [c]) KL dn fs :=
  ⟨h.kp.trans Kp.app, by rw [List.getElem?_append_left (List.getElem?_eq_some_iff.mp h.kn).1]; exact h.kn, h.nd, h.me, by rw [List.getElem?_append_left (List.getElem?_eq_some_iff.mp h.wt).1]; exact h.wt⟩
theorem wait_ne2 {mm : Mem} {l : Nat} {fs : List (List Int)} {e : Sl} {f : FE} (hf : f e mm = some (.loc l, mm)) (h : mm[l]? = some (.lst (fs.map ttD))) : fTest (fOp gNeS f (fPut (fLst fNil))) e mm = some (!decide (fs = []), mm ++ [.lst []]) := by
  have hl := (List.getElem?_eq_some_iff.mp h).1
  refine y_test (y_op hf (y_put (y_lst y_nil)) ?_)
  exact words_ne (by rw [List.getElem?_append_left hl]; exact h) (get_off mm [_] 0)
theorem lb_members_ev {q mo : Nat} {mm : Mem} {KL dn fs : List (List Int)} {i : List Int} {g : Nat → Nat} {a : List (Nat → Nat)} {c : Option D} (hn : 1 ≤ n ∧ n ≤ 60) (ps : ∀ g ∈ gs, Perm n g) (h : MbM m mm KL dn fs) (s : SpI (wd n id) stp gs dn fs i a) (hg : g ∈ gs) (hK : KL.length ≤ 1000) :
    ∃ KL' fs' c' m', lb_law_members_1 F_law_then (bE n q mo m.length (some (ttD i)) (some (mvD n g)) c) mm = some (.nx (bE n q mo m.length (some (ttD i)) (some (mvD n g)) c') m') ∧ MbM m m' KL' dn fs' ∧ SpI (wd n id) stp gs dn fs' i (a ++ [g]) ∧ KL'.length ≤ KL.length + 1 := by
  obtain ⟨f, hf, hif⟩ := (s.cl i (List.mem_append_left _ s.hi)).perm ps
  have A : fsAsg (fCall F_law_then (fCons (fW (fVar 5)) (fCons (fVar 6) fNil))) (fName 7) (bE n q mo m.length (some (ttD i)) (some (mvD n g)) c) mm = some (.nx (bE n q mo m.length (some (ttD i)) (some (mvD n g)) (some (ttD (stp i g)))) mm) := by
    refine y_asg (y_call (y_cons (y_w (y_var rfl) (weak_tt i)) (y_cons (y_var rfl) y_nil)) ?_) rfl
    rw [hif, wD_wd, law_then_ev hn.2 hf.lt, stp_wd, tt_wd]
  have tst : fTest (fOp (gIn true) (fW (fVar 7)) (fVar 3)) (bE n q mo m.length (some (ttD i)) (some (mvD n g)) (some (ttD (stp i g)))) mm = some (!decide (stp i g ∈ KL), mm) :=
    y_test (y_op (y_w (y_var rfl) (weak_tt _)) (y_var rfl) (in_dT h.kn))
  unfold lb_law_members_1
  by_cases q1 : stp i g ∈ KL
  · rw [decide_eq_true q1] at tst
    exact ⟨KL, fs, _, mm, y_seq A (y_no tst y_next), h, s.keep ((h.me _).mp q1), by omega⟩
  · rw [decide_eq_false q1] at tst
    have hfs : fs.length ≤ 1000 := by
      have e : (dn ++ fs).length = KL.length := (perm_of s.nd h.nd fun z => (h.me z).symm).length_eq
      rw [List.length_append] at e; omega
    have pk : fSubT (fVar 3) (fVar 7) (.bl true) (bE n q mo m.length (some (ttD i)) (some (mvD n g)) (some (ttD (stp i g)))) mm = some (bE n q mo m.length (some (ttD i)) (some (mvD n g)) (some (ttD (stp i g))), mm.set m.length (memC (KL ++ [stp i g]))) := by
      unfold fSubT
      rw [y_var (i := 3) rfl, Option.bind_some, y_var (i := 7) rfl, Option.bind_some]
      simp only [h.kn, keyT_tt, Option.bind_some]
      rw [if_pos (by rw [List.length_map]; omega)]
      unfold putD
      rw [if_neg fun z => q1 (mem_keyW.mp z)]
      show some (_, mm.set _ (.dT _ _)) = some (_, mm.set _ (.dT _ _))
      rw [List.map_append, List.map_append]; rfl
    refine ⟨KL ++ [stp i g], fs ++ [stp i g], _, _, y_seq A (y_yes tst (y_seq (y_asgG y_c pk) (y_drop (d := .non) (y_app (xs := fs.map ttD) (xs0 := fs.map ttD) (y_var rfl) ?_ (y_var rfl) ?_ (by rw [List.length_map]; omega))))), ⟨(h.kp.set (Nat.le_refl _)).set (by omega), ?_, ?_, fun z => ?_, ?_⟩, s.add hg fun z => q1 ((h.me _).mpr z), by rw [List.length_append, List.length_singleton]; exact Nat.le_refl _⟩
    · rw [List.getElem?_set_ne (by omega)]; exact h.wt
    · rw [List.getElem?_set_ne (by omega)]; exact h.wt
    · rw [List.getElem?_set_ne (by omega)]; exact List.getElem?_set_self (List.getElem?_eq_some_iff.mp h.kn).1
    · rw [List.nodup_append]
      exact ⟨h.nd, by simp, fun u hu v hv e => q1 (by rw [List.mem_singleton.mp hv] at e; rw [← e]; exact hu)⟩
    · rw [List.mem_append, h.me, ← List.append_assoc, List.mem_append (s := dn ++ fs)]
    · have e1 : fs.map ttD ++ [ttD (stp i g)] = (fs ++ [stp i g]).map ttD := (List.map_append (l₂ := [stp i g])).symm
      rw [e1]
      exact List.getElem?_set_self (by rw [List.length_set]; exact (List.getElem?_eq_some_iff.mp h.wt).1)
theorem law_members_ev {q mo : Nat} (hn : 1 ≤ n ∧ n ≤ 60) (hq : m[q]? = some (.lst (gs.map fun g => mvD n g))) (ps : ∀ g ∈ gs, Perm n g) (hg : gs.length ≤ 3) (hmo : 1 ≤ mo ∧ mo ≤ 48) :
    ∃ m', Kp m m' ∧ ((gs ≠ [] ∧ F_law_members [.int (n : Nat), .loc q, .int (mo : Nat)] m = some (.non, m')) ∨ ∃ l ms, F_law_members [.int (n : Nat), .loc q, .int (mo : Nat)] m = some (.loc l, m') ∧ m'[l]? = some (.lst (ms.map ttD)) ∧ Mbs n gs ms) := by
  have e0 : ttD (wd n id) = .ttp (tab n fun y => .int (y : Nat)) := tt_wd n id
  let m4 : Mem := (m ++ [memC [wd n id]]) ++ [.lst ([wd n id].map ttD)]
  have e4 : m4 = m ++ [memC [wd n id], .lst ([wd n id].map ttD)] := by show (m ++ _) ++ _ = _; rw [List.append_assoc]; rfl
  have M0 : MbM m m4 [wd n id] [] [wd n id] := ⟨Kp.app.trans Kp.app, by rw [e4]; exact get_off m _ 0, by simp, fun z => Iff.rfl, by rw [e4]; exact get_off m _ 1⟩
  have hw := wh_ev (t := wt_law_members_1 F_law_then) (g := wb_law_members_1 F_law_then) (fun k e mm => ∃ KL dn fs a b c, e = bE n q mo m.length a b c ∧ MbM m mm KL dn fs ∧ Spd (wd n id) stp gs dn fs ∧ KL.length ≤ mo ∧ k = 60 - dn.length)
    (fun o => (gs ≠ [] ∧ ∃ m', o = .rt .non m' ∧ Kp m m') ∨ ∃ KL dn a b c m', o = .nx (bE n q mo m.length a b c) m' ∧ MbM m m' KL dn [] ∧ Spd (wd n id) stp gs dn [] ∧ KL.length ≤ mo) ?_ fuel 60 (bE n q mo m.length none none none) m4 (by show 60 < 100; omega) ⟨[wd n id], [], [wd n id], none, none, none, rfl, M0, Spd.start, by show 1 ≤ mo; omega, by simp⟩
  · have pre : ∀ o, wh (wt_law_members_1 F_law_then) (wb_law_members_1 F_law_then) fuel (bE n q mo m.length none none none) m4 = some o → g_law_members F_law_then (startE N_law_members [.int (n : Nat), .loc q, .int (mo : Nat)]) m = (match o with
        | .nx e1 m1 => fsRet (fCall gSortedT (fCons (fVar 3) fNil)) e1 m1
        | o => some o) := fun o ho => by
      show g_law_members F_law_then [some (.int (n : Nat)), some (.loc q), some (.int (mo : Nat)), none, none, none, none, none] m = _
      unfold g_law_members
      have l1 : (m ++ [memC [wd n id]]).length = m.length + 1 := by simp
      have hr : ∀ mm, fTRg1T (fVar 0) [some (.int (n : Nat)), some (.loc q), some (.int (mo : Nat)), none, none, none, none, none] mm = some (ttD (wd n id), mm) := fun mm => by rw [e0]; exact y_tRg1T (y_var rfl) (by omega)
      have hd : fDispT (fTRg1T (fVar 0)) (fC (.bl true)) [some (.int (n : Nat)), some (.loc q), some (.int (mo : Nat)), none, none, none, none, none] m = some (.loc m.length, m ++ [memC [wd n id]]) := by
        unfold fDispT
        rw [hr, Option.bind_some, keyT_tt]; rfl
      refine y_seq (e1 := bE n q mo m.length none none none) (m1 := m4) (y_par (y_cons hd (y_cons (y_put (y_lst (y_cons (hr _) y_nil))) y_nil)) (by rw [l1]; rfl)) ?_
      unfold fsSeq
      rw [ho]
      cases o <;> rfl
    obtain ⟨o, q1, hw⟩ := hw
    have pre := pre o q1
    rcases hw with ⟨hgs, m', rfl, k'⟩ | ⟨KL, dn, a, b, c, m', rfl, hM, hS, hKL⟩
    · exact ⟨m', k', .inl ⟨hgs, Fof0_of (o := .rt .non m') rfl pre rfl⟩⟩
    · have hall := hS.all
      have mem : ∀ w, w ∈ KL ↔ Rc (wd n id) stp gs w := fun w => by rw [hM.me, List.append_nil]; exact hall w
      have wds : ∀ w ∈ KL, w.length = n ∧ TS.Bd 64 w := fun w hw => by
        obtain ⟨f, hf, rfl⟩ := ((mem w).mp hw).perm ps
        exact ⟨wd_len n f, wd_bd (by omega) hf⟩
      have hs : gSortedT [.loc m.length] m' = some (.loc m'.length, m' ++ [.lst ((srtT KL).map ttD)]) := by
        unfold gSortedT
        simp only [hM.kn]
        rw [show KL.map keyW = KL.map (fun n => n.map Sum.inl) from rfl, keysT_map, Option.bind_some, if_pos ⟨by omega, ok_words hn.1 wds⟩]
      have hM' : Mbs n gs (srtT KL) := ⟨hn.1, hn.2, ps, (srtT_perm KL).nodup_iff.mpr hM.nd, fun w => (srtT_perm KL).mem_iff.trans (mem w), srtT_up KL, by rw [(srtT_perm KL).length_eq]; omega⟩
      exact ⟨m' ++ [.lst ((srtT KL).map ttD)], hM.kp.trans Kp.app, .inr ⟨m'.length, srtT KL, Fof0_of (o := .rt (.loc m'.length) (m' ++ [.lst ((srtT KL).map ttD)])) rfl (pre.trans (y_ret (y_call (y_cons (y_var rfl) y_nil) hs))) rfl, get_off m' [_] 0, hM'⟩⟩
  · rintro k e mm ⟨KL, dn, fs, a, b, c, rfl, hM, hS, hK, rfl⟩
    have tst : wt_law_members_1 F_law_then (bE n q mo m.length a b c) mm = some (!decide (fs = []), mm ++ [.lst []]) := wait_ne2 (y_var rfl) hM.wt
    by_cases ce : fs = []
    · subst ce
      exact .inl ⟨_, tst, .inr ⟨KL, dn, a, b, c, _, rfl, hM.app, hS, hK⟩⟩
    · rw [decide_eq_false ce] at tst
      obtain ⟨r, i, rfl⟩ := snoc_of ce
      have sI := hS.pop
      have hM1 : MbM m (mm ++ [.lst []]) KL dn (r ++ [i]) := hM.app
      have hlen : (dn ++ (r ++ [i])).length = KL.length := (perm_of hS.nd hM.nd fun z => (hM.me z).symm).length_eq
      rw [List.length_append, List.length_append, List.length_singleton] at hlen
      have wt : (mm ++ [Cell.lst []])[m.length + 1]? = some (.lst (r.map ttD ++ [ttD i])) := by rw [hM1.wt, List.map_append]; rfl
      let mp : Mem := (mm ++ [Cell.lst []]).set (m.length + 1) (.lst (r.map ttD))
      have hMp : MbM m mp KL (dn ++ [i]) r := ⟨hM1.kp.set (by omega), by rw [List.getElem?_set_ne (by omega)]; exact hM1.kn, hM1.nd, fun z => by
        rw [hM1.me]
        simp only [List.mem_append, List.mem_singleton]
        constructor
        · rintro (h | h | h) <;> simp [h]
        · rintro ((h | h) | h) <;> simp [h], List.getElem?_set_self (List.getElem?_eq_some_iff.mp hM1.wt).1⟩
      have hf := y_forL (fi := fSeq (fVar 1)) (ft := fName 6) (g := lb_law_members_1 F_law_then) (e := bE n q mo m.length (some (ttD i)) b c) (m0 := mp) (m := mp) (l := gs) (k := fun g => mvD n g) (q := q) (y_seqL (y_var rfl) (hMp.kp.get hq))
        (fun a _ e mx => ∃ KL fs b c, e = bE n q mo m.length (some (ttD i)) b c ∧ MbM m mx KL (dn ++ [i]) fs ∧ SpI (wd n id) stp gs (dn ++ [i]) fs i a ∧ KL.length ≤ mo + a.length) (fun _ _ _ _ ⟨_, _, _, _, _, h, _, _⟩ => h.kp.get hq) ⟨KL, r, b, c, rfl, hMp, sI, hK⟩ ?_
      · obtain ⟨e1, m5, q5, KL5, fs5, b5, c5, rfl, hM5, hI5, hK5⟩ := hf
        have hlenD : gLenD [.loc m.length] m5 = some (.int (KL5.length : Nat), m5) := by
          have : manyK m5 m.length = some KL5.length := by
            unfold manyK
            simp only [hM5.kn]
            rw [List.length_map]
          unfold gLenD
          simp only [this]
        have t2 : fTest (fOp gGt (fCall gLenD (fCons (fVar 3) fNil)) (fVar 2)) (bE n q mo m.length (some (ttD i)) b5 c5) m5 = some (decide ((mo : Int) < (KL5.length : Nat)), m5) := y_test (y_op (y_call (y_cons (y_var rfl) y_nil) hlenD) (y_var rfl) rfl)
        have pop : fsAsg (fMeth gPop (fVar 4) fNil) (fName 5) (bE n q mo m.length a b c) (mm ++ [.lst []]) = some (.nx (bE n q mo m.length (some (ttD i)) b c) mp) := y_asg (y_pop (y_var rfl) wt) rfl
        by_cases cm : KL5.length ≤ mo
        · rw [decide_eq_false (by omega)] at t2
          refine .inr ⟨_, tst, by omega, .nx (bE n q mo m.length (some (ttD i)) b5 c5) m5, ?_, KL5, dn ++ [i], fs5, _, b5, c5, rfl, hM5, hI5.fin, cm, by rw [List.length_append, List.length_singleton]; omega⟩
          unfold wb_law_members_1
          exact y_seq pop (y_seq q5 (y_no t2 y_next))
        · rw [decide_eq_true (by omega)] at t2
          refine .inr ⟨_, tst, by omega, .rt .non m5, ?_, .inl ⟨fun z => cm (by rw [z] at hK5; exact hK5), m5, rfl, hM5.kp⟩⟩
          unfold wb_law_members_1
          exact y_seq pop (y_seq q5 (y_yes t2 (y_ret y_c)))
      · rintro a x b0 e mx hl ⟨KL, fs, b', c', rfl, hM', hI', hK'⟩
        have hxx : x ∈ gs := by rw [hl]; simp
        have hal : a.length ≤ 3 := by rw [hl, List.length_append] at hg; omega
        obtain ⟨KL', fs', c2, m', k1, k2, k3, k4⟩ := lb_members_ev (q := q) (mo := mo) hn ps hM' hI' hxx (by omega) (c := c')
        exact ⟨_, m', k1, KL', fs', _, _, rfl, k2, k3, by rw [List.length_append, List.length_singleton]; omega⟩
end
end k24

set_option Elab.async false
set_option linter.all false
set_option maxRecDepth 100000
set_option maxHeartbeats 400000
namespace k24
open PySem PySem.Spec PyProof.Rows L2 Mv Cyc
section
variable {m : Mem} {n : Nat} {gs : List (Nat → Nat)} {ms : List (List Int)}
/-! ### lines -/
noncomputable def F_law_lines : GN := Fof0 N_law_lines 1 (g_law_lines F_law_then)
theorem law_lines_ev {l : Nat} (h : Mbs n gs ms) {F : Nat → Nat → Nat} (hF : ∀ i, i < ms.length → Perm n (F i) ∧ ms[i]? = some (wd n (F i))) (hl : m[l]? = some (.lst (ms.map ttD))) : ∃ m', F_law_lines [.loc l] m = some (linesD ms.length (tbl n ms F), m') ∧ Kp m m' := by
  have hle := h.le
  have hhi := h.hi
  obtain ⟨G, cl⟩ := h.grp hF
  have len : gLen [.loc l] m = some (.int (ms.length : Nat), m) := by show (rd m l).map _ = _; rw [rd_of hl]; show some (D.int ((ms.map ttD).length : Nat), m) = _; rw [List.length_map]
  have eF : ms = (List.range ms.length).map fun i => wd n (F i) := by
    refine List.ext_getElem? fun i => ?_
    by_cases hi : i < ms.length
    · rw [(hF i hi).2, List.getElem?_map, List.getElem?_range hi]; rfl
    · rw [List.getElem?_eq_none (by omega), List.getElem?_eq_none (by rw [List.length_map, List.length_range]; omega)]
  have hl' : m[l]? = some (.lst ((List.range ms.length).map fun i => ttD (wd n (F i)))) := by
    rw [hl]
    conv => lhs; rw [eF]
    rw [List.map_map]; rfl
  -- the ranks
  have c1 : lc_law_lines_1 F_law_then [some (.loc l), none, none, none, none] m = some ((List.range ms.length).map fun i => .tup [ttD (wd n (F i)), .int (i : Nat)], m) :=
    y_lc (l := List.range ms.length) (g := fun i => .int (i : Nat)) (y_rg1 (y_call (y_cons (y_w (y_var rfl) rfl) y_nil) len) (by omega)) (by rw [List.length_range]; omega) fun i hi => y_elt rfl (y_tup (y_cons (y_op (y_var rfl) (y_var rfl) (ix_lst hl' (tab_at (g := fun i => ttD (wd n (F i))) (List.mem_range.mp hi)))) (y_cons (y_var rfl) y_nil)))
  let P : List (List Int × Nat) := (List.range ms.length).map fun i => (wd n (F i), i)
  have eP : ((List.range ms.length).map fun i => D.tup [ttD (wd n (F i)), .int (i : Nat)]) = P.map fun p => .tup [ttD p.1, .int (p.2 : Nat)] := by
    show _ = ((List.range ms.length).map _).map _
    rw [List.map_map]; rfl
  have k1 : P.map (fun p => keyW p.1) = ms.map keyW := by
    show ((List.range ms.length).map _).map _ = _
    conv => rhs; rw [eF]
    rw [List.map_map, List.map_map]; rfl
  have k2 : P.map (fun p => D.int (p.2 : Nat)) = (List.range' 0 ms.length).map fun i => D.int (i : Nat) := by
    show ((List.range ms.length).map _).map _ = _
    rw [List.map_map, List.range_eq_range']; rfl
  let m1 : Mem := m ++ [.dT (ms.map keyW) ((List.range' 0 ms.length).map fun i => D.int (i : Nat))]
  have hd : gDictT ((List.range ms.length).map fun i => D.tup [ttD (wd n (F i)), .int (i : Nat)]) m = some (.loc m.length, m1) := by
    unfold gDictT
    rw [eP, Mv.pairs_of]
    have e1 : (P.map fun p => (keyW p.1, D.int (p.2 : Nat))).map (·.1) = ms.map keyW := by rw [List.map_map, ← k1]; rfl
    have e2 : (P.map fun p => (keyW p.1, D.int (p.2 : Nat))).map (·.2) = (List.range' 0 ms.length).map fun i => D.int (i : Nat) := by rw [List.map_map, ← k2]; rfl
    have nd : ((P.map fun p => (keyW p.1, D.int (p.2 : Nat))).map (·.1)).Nodup := by
      rw [e1, List.Nodup, List.pairwise_map]
      exact h.nd.imp fun {a b} w z => w (keyW_inj.mp z)
    have := merge_nd (P.map fun p => (keyW p.1, D.int (p.2 : Nat))) [] [] (by rw [List.nil_append]; exact nd)
    rw [e1, e2, List.nil_append, List.nil_append] at this
    show some (D.loc m.length, m ++ [Cell.dT (mergeTD _).1 (mergeTD _).2]) = _
    unfold mergeTD
    rw [this]
  have hm1 : m1[l]? = some (.lst ((List.range ms.length).map fun i => ttD (wd n (F i)))) := Kp.app.get hl'
  have hr : m1[m.length]? = some (.dT (ms.map keyW) ((List.range' 0 ms.length).map fun i => D.int (i : Nat))) := get_off m [_] 0
  have rank : ∀ {i j : Nat}, i < ms.length → j < ms.length → gIxA (.loc m.length) (wD (wd n fun y => F j (F i y))) m1 = some (.int (tbl n ms F i j : Nat), m1) := fun {i j} hi hj => by
    have isd : isDict m1 (.loc m.length) = true := by unfold isDict; simp only [hr]
    have ixd : ixD m1 (.loc m.length) (wD (wd n fun y => F j (F i y))) = some (.int (tbl n ms F i j : Nat)) := by
      unfold ixD
      simp only [hr]
      show (keyL ((wd n fun y => F j (F i y)).map D.int)).bind _ = _
      rw [keyL_w, Option.bind_some, look_idx 0 (cl i j hi hj), Nat.zero_add]; rfl
    unfold gIxA
    rw [if_pos isd, ixd]; rfl
  have c2 : ∀ i, i < ms.length → lc_law_lines_2 F_law_then [some (.loc l), some (.loc m.length), none, none, some (ttD (wd n (F i)))] m1 = some ((List.range ms.length).map fun j => .int (tbl n ms F i j : Nat), m1) := fun i hi =>
    y_lcL (l := List.range ms.length) (g := fun i => ttD (wd n (F i))) (y_seqL (y_var rfl) hm1) hm1 (by rw [List.length_range]; omega) fun j hj => y_elt rfl (y_op (y_var rfl) (y_w (y_call (y_cons (y_w (y_var rfl) (weak_tt _)) (y_cons (y_w (y_var rfl) (weak_tt _)) y_nil)) (by rw [wD_wd, wD_wd]; exact law_then_ev hhi (hF i hi).1.lt)) (by rw [← tt_wd, weak_tt])) (rank hi (List.mem_range.mp hj)))
  have c3 : lc_law_lines_3 F_law_then [some (.loc l), some (.loc m.length), none, none, none] m1 = some ((List.range ms.length).map fun i => mvS ms.length (tbl n ms F i), m1) :=
    y_lcL (l := List.range ms.length) (g := fun i => ttD (wd n (F i))) (y_seqL (y_var rfl) hm1) hm1 (by rw [List.length_range]; omega) fun i hi => y_elt rfl (y_on (c2 i (List.mem_range.mp hi)) rfl)
  refine ⟨m1, Fof0_of (o := .rt (linesD ms.length (tbl n ms F)) m1) rfl ?_ rfl, Kp.app⟩
  show g_law_lines F_law_then [some (.loc l), none, none, none, none] m = _
  unfold g_law_lines
  exact y_seq (y_asg (y_on c1 hd) rfl) (y_ret (y_on c3 rfl))
/-! ### a group drawn -/
theorem mvs_of : ∀ ds : List D, (∀ d ∈ ds, ∃ f, IsM n f ∧ d = mvD n f) → ∃ gs : List (Nat → Nat), ds = gs.map (fun g => mvD n g) ∧ ∀ g ∈ gs, Perm n g
  | [], _ => ⟨[], rfl, fun g hg => by cases hg⟩
  | d :: ds, h => by
    obtain ⟨f, hf, e⟩ := h d (by simp)
    obtain ⟨gs, e2, h2⟩ := mvs_of ds fun x hx => h x (by simp [hx])
    refine ⟨f :: gs, by rw [e, e2]; rfl, fun g hg => ?_⟩
    rcases List.mem_cons.mp hg with q | q
    · rw [q]; exact hf.p
    · exact h2 g q
theorem PoolAt.kp {l : Nat} {m m' : Mem} (h : PoolAt l m) (k : Kp m m') : PoolAt l m' := by
  obtain ⟨a, b, c, q, q2⟩ := h
  exact ⟨a, b, c, k.get q, q2⟩
noncomputable def F_law_small : GN := Fof0 N_law_small 2 (g_law_small F_law_take F_law_move F_law_members)
theorem law_small_ev {l mo : Nat} (hp : PoolAt l m) (hmo : 1 ≤ mo ∧ mo ≤ 48) : ∃ q n gs ms m', F_law_small [.loc l, .int (mo : Nat)] m = some (.loc q, m') ∧ m'[q]? = some (.lst (ms.map ttD)) ∧ Mbs n gs ms ∧ PoolAt l m' := by
  obtain ⟨v, m1, a1, a2, a3, a4, a5⟩ := take_ev (k := 7) hp (by decide) (by decide)
  obtain ⟨u, rfl⟩ : ∃ u : Nat, v = (u : Nat) := ⟨v.toNat, by omega⟩
  have hn : 1 ≤ 1 + u ∧ 1 + u ≤ 60 := by omega
  obtain ⟨v2, m2, b1, b2, b3, b4, b5⟩ := take_ev (k := 4) a4 (by decide) (by decide)
  obtain ⟨w, rfl⟩ : ∃ u : Nat, v2 = (u : Nat) := ⟨v2.toNat, by omega⟩
  have eN : (1 + ((u : Nat) : Int)) = ((1 + u : Nat) : Int) := by omega
  let E0 : Sl := [some (.loc l), some (.int (mo : Nat)), some (.int (1 + u : Nat)), none, none, none]
  obtain ⟨ds, m3, d1, d2, d3, d4⟩ := y_lcD (fi := fRange1 (fCall F_law_take (fCons (fVar 0) (fCons (fC (.int 4)) fNil)))) (ft := fName 4) (fe := fCall F_law_move (fCons (fVar 0) (fCons (fVar 2) fNil))) (own := [4]) (e := E0) (m0 := m1) (m := m2) (l := List.range w) (g := fun y => .int (y : Nat)) (PoolAt l) (fun d => ∃ f, IsM (1 + u) f ∧ d = mvD (1 + u) f)
    (y_rg1 (y_call (y_cons (y_var rfl) (y_cons y_c y_nil)) b1) (by omega)) (by rw [List.length_range]; omega) b4 fun y hy mm hp => by
      obtain ⟨f, m', f1, f2, f3⟩ := move_ev hn hp
      exact ⟨_, m', y_elt rfl (y_call (y_cons (y_var rfl) (y_cons (y_var rfl) y_nil)) f1), ⟨f, f2, rfl⟩, f3⟩
  rw [List.length_range] at d2
  obtain ⟨gs, rfl, hgs⟩ := mvs_of ds d3
  rw [List.length_map] at d2
  -- members, told or not
  let m4 : Mem := m3 ++ [.lst (gs.map fun g => mvD (1 + u) g)]
  obtain ⟨m5, k5, r5⟩ := law_members_ev (m := m4) (q := m3.length) (mo := mo) hn (get_off m3 [_] 0) hgs (by omega) hmo
  let E : Nat → D → Sl := fun q d => [some (.loc l), some (.int (mo : Nat)), some (.int (1 + u : Nat)), some (.loc q), none, some d]
  obtain ⟨d5, h5, hI5⟩ : ∃ d, F_law_members [.int (1 + u : Nat), .loc m3.length, .int (mo : Nat)] m4 = some (d, m5) ∧ ((gs ≠ [] ∧ d = .non) ∨ ∃ l ms, d = .loc l ∧ m5[l]? = some (.lst (ms.map ttD)) ∧ Mbs (1 + u) gs ms) := by
    rcases r5 with ⟨x, y⟩ | ⟨l', ms, x, y, z⟩
    · exact ⟨_, y, .inl ⟨x, rfl⟩⟩
    · exact ⟨_, x, .inr ⟨l', ms, rfl, y, z⟩⟩
  have hw := wh_ev0 (t := wt_law_small_1 F_law_take F_law_move F_law_members) (g := wb_law_small_1 F_law_take F_law_move F_law_members) (fun k e mm => ∃ gs q d, e = E q d ∧ PoolAt l mm ∧ mm[q]? = some (.lst (gs.map fun g => mvD (1 + u) g)) ∧ (∀ g ∈ gs, Perm (1 + u) g) ∧ gs.length ≤ 3 ∧ k = gs.length ∧ ((gs ≠ [] ∧ d = .non) ∨ ∃ l ms, d = .loc l ∧ mm[l]? = some (.lst (ms.map ttD)) ∧ Mbs (1 + u) gs ms))
    (fun o => ∃ gs q l2 ms m', o = .nx (E q (.loc l2)) m' ∧ PoolAt l m' ∧ m'[l2]? = some (.lst (ms.map ttD)) ∧ Mbs (1 + u) gs ms) ?_ fuel gs.length (E m3.length d5) m5 (by show _ < 100; omega) ⟨gs, m3.length, d5, rfl, (d4.kp Kp.app).kp k5, k5.get (get_off m3 [_] 0), hgs, by omega, rfl, hI5⟩
  · obtain ⟨o, q1, gs', q, l2, ms, m', rfl, p1, p2, p3⟩ := hw
    refine ⟨l2, 1 + u, gs', ms, m', Fof0_of (o := .rt (.loc l2) m') rfl ?_ rfl, p2, p3, p1⟩
    show g_law_small F_law_take F_law_move F_law_members [some (.loc l), some (.int (mo : Nat)), none, none, none, none] m = _
    unfold g_law_small
    refine y_seq (e1 := E0) (m1 := m1) (y_asg (d := .int (1 + u : Nat)) (y_op y_c (y_call (y_cons (y_var rfl) (y_cons y_c y_nil)) a1) (by show some (D.int (1 + (u : Nat)), m1) = _; rw [eN])) rfl) ?_
    refine y_seq (e1 := [some (.loc l), some (.int (mo : Nat)), some (.int (1 + u : Nat)), some (.loc m3.length), none, none]) (m1 := m4) (y_asg (y_put d1) rfl) ?_
    refine y_seq (e1 := E m3.length d5) (m1 := m5) (y_asg (y_call (y_cons (y_var rfl) (y_cons (y_var rfl) (y_cons (y_var rfl) y_nil))) h5) rfl) ?_
    exact y_seq q1 (y_ret (y_var rfl))
  · rintro k e mm ⟨gs, q, d, rfl, p1, p2, p3, p4, rfl, p5⟩
    have tst : wt_law_small_1 F_law_take F_law_move F_law_members (E q d) mm = some (d.isNon, mm) := y_test (y_un (y_var rfl) rfl)
    rcases p5 with ⟨hne, rfl⟩ | ⟨l2, ms, rfl, r1, r2⟩
    · have hl : 0 < gs.length := List.length_pos_iff.mpr hne
      let mp : Mem := mm ++ [.lst ((gs.drop 1).map fun g => mvD (1 + u) g)]
      have cut : fSl (fVar 3) (fPart (fC (.int 1))) fNoPart (E q .non) mm = some (.loc mm.length, mp) := by
        unfold fSl
        rw [y_var (i := 3) rfl, Option.bind_some]
        show (rd mm q).map (fun xs => (D.loc mm.length, mm ++ [Cell.lst (cutD xs (some 1) none)])) = _
        rw [rd_of p2]
        show some (D.loc mm.length, mm ++ [Cell.lst (cutD _ (some 1) none)]) = _
        rw [cut_1, ← List.map_drop]
      obtain ⟨m5, k5, r5⟩ := law_members_ev (m := mp) (q := mm.length) (mo := mo) (gs := gs.drop 1) hn (get_off mm [_] 0) (fun g hg => p3 g (List.mem_of_mem_drop hg)) (by rw [List.length_drop]; omega) hmo
      obtain ⟨d5, h5, hI5⟩ : ∃ d, F_law_members [.int (1 + u : Nat), .loc mm.length, .int (mo : Nat)] mp = some (d, m5) ∧ ((gs.drop 1 ≠ [] ∧ d = .non) ∨ ∃ l ms, d = .loc l ∧ m5[l]? = some (.lst (ms.map ttD)) ∧ Mbs (1 + u) (gs.drop 1) ms) := by
        rcases r5 with ⟨x, y⟩ | ⟨l', ms, x, y, z⟩
        · exact ⟨_, y, .inl ⟨x, rfl⟩⟩
        · exact ⟨_, x, .inr ⟨l', ms, rfl, y, z⟩⟩
      refine .inr ⟨tst, hl, .nx (E mm.length d5) m5, ?_, gs.drop 1, mm.length, d5, rfl, (p1.kp Kp.app).kp k5, k5.get (get_off mm [_] 0), fun g hg => p3 g (List.mem_of_mem_drop hg), by rw [List.length_drop]; omega, by rw [List.length_drop], hI5⟩
      unfold wb_law_small_1
      exact y_seq (y_asg cut rfl) (y_asg (y_call (y_cons (y_var rfl) (y_cons (y_var rfl) (y_cons (y_var rfl) y_nil))) h5) rfl)
    · exact .inl ⟨tst, gs, q, l2, ms, mm, rfl, p1, r1, r2⟩
end
end k24

set_option Elab.async false
set_option linter.all false
set_option maxRecDepth 100000
set_option maxHeartbeats 600000
namespace k24
open PySem PySem.Spec PyProof.Rows L2 Mv Cyc
section
variable {m : Mem} {n : Nat} {T : Nat → Nat → Nat}
theorem law_next_at (g : Grp n T) {A B : List Nat} (hA : Rise n A) (hB : Rise n B) {i : Nat} {fa fb : FE} {e : Sl} (he : e[i]? = some (some (linesD n T))) (ha : fa e m = some (nD A, m)) (hb : fb e m = some (nD B, m)) :
    ∃ m', fCall F_law_made (fCons (fVar i) (fCons (fCall F_law_commutators (fCons (fVar i) (fCons fa (fCons fb fNil)))) fNil)) e m = some (nD (clo n T (· ∈ coms n T A B)), m') ∧ Kp m m' := by
  obtain ⟨l, m1, a1, a2, a3, a4⟩ := law_commutators_ev (m := m) g hA hB
  obtain ⟨m2, b1, b2⟩ := law_made_ev g a2 (coms_lt g hA.lt hB.lt)
  exact ⟨m2, y_call (y_cons (y_var he) (y_cons (y_call (y_cons (y_var he) (y_cons ha (y_cons hb y_nil))) a1) y_nil)) b1, a3.trans b2⟩
theorem plAll_map {α : Type} (l : List α) (f : α → D) (h : ∀ x ∈ l, (f x).pl = true) : D.plAll (l.map f) = true := by
  induction l with
  | nil => rfl
  | cons x r ih => show ((f x).pl && D.plAll (r.map f)) = true; rw [h x (by simp), ih fun y hy => h y (by simp [hy])]; rfl
theorem depAll_map {α : Type} (l : List α) (f : α → D) (k : Nat) (h : ∀ x ∈ l, (f x).dep ≤ k) : D.depAll (l.map f) ≤ k := by
  induction l with
  | nil => exact Nat.zero_le _
  | cons x r ih =>
    show max (f x).dep (D.depAll (r.map f)) ≤ k
    have := h x (by simp)
    have := ih fun y hy => h y (by simp [hy])
    omega
theorem tup_same {α : Type} (l : List α) (f : α → List Nat) (m : Mem) : gNeS (.tup (l.map fun x => nD (f x))) (.tup (l.map fun x => nD (f x))) m = some (.bl false, m) :=
  (plEq_same (a := .tup (l.map fun x => nD (f x))) (plAll_map l _ fun x _ => nD_pl _) (by
    have := depAll_map l (fun x => nD (f x)) 1 fun x _ => Nat.le_of_eq (nD_dep _)
    show D.depAll _ + 1 ≤ 60
    omega) m).2
theorem ser_same (low : Bool) : gNeS (serD n T low) (serD n T low) m = some (.bl false, m) := tup_same (List.range (stopAt n T low + 1)) (fun i => ser n T low i) m
theorem lines_same : gNeS (linesW n T) (linesW n T) m = some (.bl false, m) := by
  have e : linesW n T = .tup ((List.range n).map fun i => nD ((List.range n).map (T i))) := by
    unfold linesW
    show D.tup (tab n _) = D.tup (tab n _)
    congr 1
    exact tab_congr fun i _ => by show D.tup (tab n _) = D.tup _; rw [tab_nL]
  rw [e]; exact tup_same _ _ m
theorem PoolAt.set' {l q : Nat} {m : Mem} {c : Cell} (h : PoolAt l m) (n : l ≠ q) : PoolAt l (m.set q c) := by
  obtain ⟨a, b, d, z, z2⟩ := h
  exact ⟨a, b, d, by rw [List.getElem?_set_ne (Ne.symm n)]; exact z, z2⟩
theorem nums_of : ∀ ds : List D, (∀ d ∈ ds, ∃ x : Nat, x < n ∧ d = .int (x : Nat)) → ∃ xs : List Nat, ds = nL xs ∧ ∀ x ∈ xs, x < n
  | [], _ => ⟨[], rfl, fun g hg => by cases hg⟩
  | d :: ds, h => by
    obtain ⟨x, hx, e⟩ := h d (by simp)
    obtain ⟨xs, e2, h2⟩ := nums_of ds fun y hy => h y (by simp [hy])
    refine ⟨x :: xs, by rw [e, e2]; rfl, fun z hz => ?_⟩
    rcases List.mem_cons.mp hz with q | q
    · rw [q]; exact hx
    · exact h2 z q
end
noncomputable def F_law : GN := Fof0 N_law 1 (g_law F_law_pool F_law_cell F_law_lines F_law_small F_law_take F_Table__init F_law_made F_law_commutators F_law_is F_derived F_law_are F_derived_series F_law_series F_lower_series)
abbrev lE (ns : List Int) (k : Nat) (a : Nat → Option D) : Sl := [some (.kl (ns.map D.int)), some (.int (k : Nat)), a 2, a 3, a 4, a 5, a 6, a 7, a 8, a 9, a 10, a 11]
section
variable {ns : List Int} {n : Nat} {T : Nat → Nat → Nat}
abbrev pE (ns : List Int) (k l n P : Nat) (T : Nat → Nat → Nat) (a b c d e : Option D) : Sl := [some (.kl (ns.map D.int)), some (.int (k : Nat)), some (.loc l), some (linesD n T), some (tableD n T), some (.int (n : Nat)), some (.loc P), a, b, c, d, e]
/-- the parts drawn -/
theorem lp_law_1_ev (g : Grp n T) {k l P : Nat} {m : Mem} {a b c d e : Option D} (hp : PoolAt l m) (hP : m[P]? = some (.lst ([[0], List.range n].map fun S => nD S))) (hlP : l ≠ P) :
    ∃ a2 b2 Ss m', lp_law_1 F_law_pool F_law_cell F_law_lines F_law_small F_law_take F_Table__init F_law_made F_law_commutators F_law_is F_derived F_law_are F_derived_series F_law_series F_lower_series (pE ns k l n P T a b c d e) m = some (.nx (pE ns k l n P T a2 b2 c d e) m') ∧ m'[P]? = some (.lst (Ss.map fun S => nD S)) ∧ (∀ S ∈ Ss, Sub n T S) ∧ Ss.length ≤ 4 ∧ ∃ S0 r, Ss = S0 :: r := by
  have h1 := g.pos
  have h2 := g.le
  have hz := y_for (fi := fRange1 (fC (.int 2))) (ft := fName 7) (g := lb_law_1 F_law_pool F_law_cell F_law_lines F_law_small F_law_take F_Table__init F_law_made F_law_commutators F_law_is F_derived F_law_are F_derived_series F_law_series F_lower_series) (e := pE ns k l n P T a b c d e) (m0 := m) (m := m) (l := List.range 2) (k := fun y => .int (y : Nat)) (y_rg1 (n := 2) y_c (by decide))
    (fun q _ e' mm => (∃ a b, e' = pE ns k l n P T a b c d e) ∧ PoolAt l mm ∧ ∃ Ss : List (List Nat), mm[P]? = some (.lst (Ss.map fun S => nD S)) ∧ (∀ S ∈ Ss, Sub n T S) ∧ Ss.length = 2 + q.length ∧ ∃ S0 r, Ss = S0 :: r) ⟨⟨_, _, rfl⟩, hp, [[0], List.range n], hP, fun S hS => ?_, rfl, _, _, rfl⟩ ?_
  · obtain ⟨e1, m1, q, ⟨a', b', rfl⟩, _, Ss, s1, s2, s3, s4⟩ := hz
    exact ⟨a', b', Ss, m1, q, s1, s2, by rw [s3]; decide, s4⟩
  · rcases List.mem_cons.mp hS with q | q
    · rw [q]; exact sub_one g
    · rw [List.mem_singleton.mp q]; exact sub_all g
  · rintro q0 x r e' mm hl ⟨⟨a', b', rfl⟩, hp', Ss, s1, s2, s3, S0, r0, s4⟩
    have hq0 : q0.length ≤ 1 := by
      have := congrArg List.length hl
      rw [List.length_range, List.length_append, List.length_cons] at this; omega
    obtain ⟨v, m1, t1, t2, t3, t4, t5⟩ := take_ev (k := 3) hp' (by decide) (by decide)
    obtain ⟨u, rfl⟩ : ∃ u : Nat, v = (u : Nat) := ⟨v.toNat, by omega⟩
    have eN : (1 + ((u : Nat) : Int)) = ((1 + u : Nat) : Int) := by omega
    have hs1 : m1[P]? = some (.lst (Ss.map fun S => nD S)) := by rw [t5.2 P (Ne.symm hlP)]; exact s1
    obtain ⟨ds, m2, d1, d2, d3, d4, d5⟩ := y_lcD (fi := fRange1 (fOp gAdd (fC (.int 1)) (fCall F_law_take (fCons (fVar 2) (fCons (fC (.int 3)) fNil))))) (ft := fName 9) (fe := fCall F_law_take (fCons (fVar 2) (fCons (fVar 5) fNil))) (own := [9]) (e := pE ns k l n P T (some (.int (x : Nat))) b' c d e) (m0 := mm) (m := m1) (l := List.range (1 + u)) (g := fun y => .int (y : Nat)) (fun mx => PoolAt l mx ∧ mx[P]? = some (.lst (Ss.map fun S => nD S))) (fun d => ∃ x : Nat, x < n ∧ d = .int (x : Nat))
      (y_rg1 (y_op y_c (y_call (y_cons (y_var rfl) (y_cons y_c y_nil)) t1) (by show some (D.int (1 + (u : Nat)), m1) = _; rw [eN])) (by omega)) (by rw [List.length_range]; omega) ⟨t4, hs1⟩ fun y hy mx ⟨hpx, hsx⟩ => by
        obtain ⟨w, m', w1, w2, w3, w4, w5⟩ := take_ev (k := (n : Nat)) hpx (by omega) (by omega)
        obtain ⟨z, rfl⟩ : ∃ z : Nat, w = (z : Nat) := ⟨w.toNat, by omega⟩
        exact ⟨_, m', y_elt rfl (y_call (y_cons (y_var rfl) (y_cons (y_var rfl) y_nil)) w1), ⟨z, by omega, rfl⟩, w4, by rw [w5.2 P (Ne.symm hlP)]; exact hsx⟩
    obtain ⟨xs, rfl, hxs⟩ := nums_of ds d3
    have d1' : lc_law_1 F_law_pool F_law_cell F_law_lines F_law_small F_law_take F_Table__init F_law_made F_law_commutators F_law_is F_derived F_law_are F_derived_series F_law_series F_lower_series (pE ns k l n P T (some (.int (x : Nat))) b' c d e) mm = some (nL xs, m2) := d1
    obtain ⟨m4, f1, f2⟩ := law_made_ev (m := m2 ++ [.lst (nL xs)]) (q := m2.length) g (get_off m2 [_] 0) hxs
    have k4 : Kp m2 m4 := Kp.app.trans f2
    have hs4 := k4.get d5
    let m5 : Mem := m4.set P (.lst (Ss.map (fun S => nD S) ++ [nD (clo n T (· ∈ xs))]))
    refine ⟨pE ns k l n P T (some (.int (x : Nat))) (some (.loc m2.length)) c d e, m5, ?_, ⟨_, _, rfl⟩, ?_, Ss ++ [clo n T (· ∈ xs)], ?_, fun S hS => ?_, by rw [List.length_append, List.length_append, s3]; rfl, S0, r0 ++ [clo n T (· ∈ xs)], by rw [s4]; rfl⟩
    · show lb_law_1 F_law_pool F_law_cell F_law_lines F_law_small F_law_take F_Table__init F_law_made F_law_commutators F_law_is F_derived F_law_are F_derived_series F_law_series F_lower_series (pE ns k l n P T (some (.int (x : Nat))) b' c d e) mm = _
      unfold lb_law_1
      refine y_seq (e1 := pE ns k l n P T (some (.int (x : Nat))) (some (.loc m2.length)) c d e) (m1 := m2 ++ [.lst (nL xs)]) (y_asg (y_put d1') rfl) ?_
      exact y_drop (d := .non) (y_app (xs := Ss.map fun S => nD S) (xs0 := Ss.map fun S => nD S) (y_var rfl) (by rw [List.getElem?_append_left (List.getElem?_eq_some_iff.mp d5).1]; exact d5) (y_call (y_cons (y_var rfl) (y_cons (y_var rfl) y_nil)) f1) hs4 (by rw [List.length_map, s3]; omega))
    · exact PoolAt.set' (d4.kp k4) hlP
    · show (m4.set P _)[P]? = _
      rw [List.getElem?_set_self (List.getElem?_eq_some_iff.mp hs4).1, List.map_append]; rfl
    · rcases List.mem_append.mp hS with w | w
      · exact s2 S w
      · rw [List.mem_singleton.mp w]; exact clo_sub g hxs
end
end k24

set_option Elab.async false
set_option linter.all false
set_option maxRecDepth 100000
set_option maxHeartbeats 600000
namespace k24
open PySem PySem.Spec PyProof.Rows L2 Mv Cyc
section
variable {ns : List Int} {n : Nat} {T : Nat → Nat → Nat} {m : Mem}
theorem y_ord {c : Nat} {o : List Nat} {fa : FA} {e : Sl} {m1 : Mem} {ds ds' : List D} (h : fa e m = some (ds, m1)) (hl : ds.length = c) (hp : permL o ds = ds') : fOrd c o fa e m = some (ds', m1) := by
  unfold fOrd
  rw [h, Option.bind_some, if_pos hl, hp]
/-- each part's derived part -/
theorem lp_law_2_ev (g : Grp n T) {k l P : Nat} {a b c d e : Option D} {Ss r : List (List Nat)} {S0 : List Nat} (hP : m[P]? = some (.lst (Ss.map fun S => nD S))) (hS : ∀ S ∈ Ss, Sub n T S) (hlen : Ss.length ≤ 4) (h0 : Ss = S0 :: r) :
    ∃ d2 e2 m', lp_law_2 F_law_pool F_law_cell F_law_lines F_law_small F_law_take F_Table__init F_law_made F_law_commutators F_law_is F_derived F_law_are F_derived_series F_law_series F_lower_series (pE ns k l n P T a b c d e) m = some (.nx (pE ns k l n P T a b c d2 e2) m') := by
  have hPl := (List.getElem?_eq_some_iff.mp hP).1
  let L : List (List Nat) := Ss ++ [S0]
  have hL : ∀ S ∈ L, Sub n T S := fun S hs => by
    rcases List.mem_append.mp hs with q | q
    · exact hS S q
    · rw [List.mem_singleton.mp q]; exact hS S0 (by rw [h0]; simp)
  let m1 : Mem := m ++ [.lst ([S0].map fun S => nD S)]
  let m2 : Mem := m1 ++ [.lst (L.map fun S => nD S)]
  have cut : ∀ {e : Sl}, e[6]? = some (some (.loc P)) → fSl (fVar 6) fNoPart (fPart (fC (.int 1))) e m = some (.loc m.length, m1) := fun he => by
    unfold fSl
    rw [y_var (i := 6) he, Option.bind_some]
    show (rd m P).map (fun xs => (D.loc m.length, m ++ [Cell.lst (cutD xs none (some 1))])) = _
    rw [rd_of hP, h0]
    show some (D.loc m.length, m ++ [Cell.lst (cutD (nD S0 :: r.map fun S => nD S) none (some 1))]) = _
    rw [cut_to1]; rfl
  have l1 : m1.length = m.length + 1 := by simp [m1]
  have add : gAdd (.loc P) (.loc m.length) m1 = some (.loc m1.length, m2) := by
    have x1 : m1[P]? = some (.lst (Ss.map fun S => nD S)) := by show (m ++ _)[P]? = _; rw [List.getElem?_append_left hPl]; exact hP
    have x2 : m1[m.length]? = some (.lst ([S0].map fun S => nD S)) := get_off m [_] 0
    unfold gAdd
    simp only [x1, x2]
    rw [if_pos (by rw [List.length_map, List.length_map, List.length_singleton]; omega), ← List.map_append]
  have hm2 : m2[m1.length]? = some (.lst (L.map fun S => nD S)) := get_off m1 [_] 0
  have hz := y_forL (fi := fSeq (fOp gAdd (fVar 6) (fSl (fVar 6) fNoPart (fPart (fC (.int 1)))))) (ft := fName 10) (g := lb_law_2 F_law_pool F_law_cell F_law_lines F_law_small F_law_take F_Table__init F_law_made F_law_commutators F_law_is F_derived F_law_are F_derived_series F_law_series F_lower_series) (e := pE ns k l n P T a b c d e) (m0 := m) (m := m2) (l := L) (k := fun S => nD S) (q := m1.length)
    (y_seqL (y_op (y_var rfl) (cut rfl) add) hm2) (fun _ _ e' mm => (∃ d e, e' = pE ns k l n P T a b c d e) ∧ mm[m1.length]? = some (.lst (L.map fun S => nD S))) (fun _ _ _ _ h => h.2) ⟨⟨_, _, rfl⟩, hm2⟩ ?_
  · obtain ⟨e1, m3, q, ⟨d', e', rfl⟩, _⟩ := hz
    exact ⟨d', e', m3, q⟩
  · rintro q0 S r0 e' mm hl ⟨⟨d', e', rfl⟩, hm⟩
    have hSS : Sub n T S := hL S (by rw [hl]; simp)
    obtain ⟨m3, a1, a2⟩ := law_next_at (m := mm) g hSS.r hSS.r (i := 3) (fa := fVar 10) (fb := fVar 10) (e := pE ns k l n P T a b c (some (nD S)) e') rfl (y_var rfl) (y_var rfl)
    let E : Sl := pE ns k l n P T a b c (some (nD S)) (some (nD (clo n T (· ∈ coms n T S S))))
    have dlen : (clo n T (· ∈ coms n T S S)).length ≤ 1000 := by have := (clo_rise (n := n) (T := T) (P := (· ∈ coms n T S S))).len; have := g.le; omega
    obtain ⟨m4, b1, b2⟩ := derived_ev (m := m3) g hSS
    obtain ⟨m5, c1, c2⟩ := derived_ev (m := m4) g hSS
    have t1 : fNotT (fTru (fCall F_law_is (fCons (fCall F_derived (fCons (fVar 4) (fCons (fVar 10) fNil))) (fCons (fVar 11) fNil)))) E m3 = some (false, m4) :=
      y_notT (y_tru (y_call (y_cons (y_call (y_cons (y_var rfl) (y_cons (y_var rfl) y_nil)) b1) (y_cons (y_var rfl) y_nil)) (law_is_ev dlen)) rfl)
    have t2 : fNotT (fTru (fCall F_law_is (fCons (fCall F_derived (fOrd 2 [0, 1] (fCons (fVar 4) (fCons (fVar 10) fNil)))) (fCons (fVar 11) fNil)))) E m4 = some (false, m5) :=
      y_notT (y_tru (y_call (y_cons (y_call (y_ord (y_cons (y_var rfl) (y_cons (y_var rfl) y_nil)) rfl rfl) c1) (y_cons (y_var rfl) y_nil)) (law_is_ev dlen)) rfl)
    refine ⟨E, m5, ?_, ⟨_, _, rfl⟩, c2.get (b2.get (a2.get hm))⟩
    show lb_law_2 F_law_pool F_law_cell F_law_lines F_law_small F_law_take F_Table__init F_law_made F_law_commutators F_law_is F_derived F_law_are F_derived_series F_law_series F_lower_series (pE ns k l n P T a b c (some (nD S)) e') mm = _
    unfold lb_law_2
    exact y_seq (y_asg a1 rfl) (y_no (y_orN t1 t2) y_next)
theorem lb_law_3_ev {k : Nat} (hk : k ≤ 100) (a : Nat → Option D) : ∃ a' m', lb_law_3 F_law_pool F_law_cell F_law_lines F_law_small F_law_take F_Table__init F_law_made F_law_commutators F_law_is F_derived F_law_are F_derived_series F_law_series F_lower_series (lE ns k a) m = some (.nx (lE ns k a') m') := by
  obtain ⟨z, m1, c1⟩ := cell_ev (m := m) (ns := ns) hk
  obtain ⟨m2, p1, p2⟩ := pool_ev (m := m1) (z := z)
  obtain ⟨v, m3, t1, t2, t3, t4, t5⟩ := take_ev (k := 4) p2 (by decide) (by decide)
  obtain ⟨mo, hmo, hat⟩ : ∃ mo : Nat, (1 ≤ mo ∧ mo ≤ 48) ∧ atI [D.int 24, .int 24, .int 24, .int 48] v = some (.int (mo : Nat)) := by
    have : v = 0 ∨ v = 1 ∨ v = 2 ∨ v = 3 := by omega
    rcases this with rfl | rfl | rfl | rfl
    · exact ⟨24, by decide, rfl⟩
    · exact ⟨24, by decide, rfl⟩
    · exact ⟨24, by decide, rfl⟩
    · exact ⟨48, by decide, rfl⟩
  obtain ⟨q, np, gs, ms, m4, s1, s2, s3, s4⟩ := law_small_ev (mo := mo) t4 hmo
  obtain ⟨F, hF⟩ := s3.fn
  obtain ⟨m5, l1, l2⟩ := law_lines_ev s3 hF s2
  obtain ⟨G, _⟩ := s3.grp hF
  have hp5 : PoolAt m1.length m5 := s4.kp l2
  let n := ms.length
  let T := tbl np ms F
  let m6 : Mem := m5 ++ [.lst ([[0], List.range n].map fun S => nD S)]
  have hlP : m1.length ≠ m5.length := by
    obtain ⟨_, _, _, q, _⟩ := hp5
    have := (List.getElem?_eq_some_iff.mp q).1
    omega
  obtain ⟨a7, b7, Ss, m7, f1, f2, f3, f4, S0, r, f5⟩ := lp_law_1_ev (ns := ns) (k := k) (m := m6) (a := a 7) (b := a 8) (c := a 9) (d := a 10) (e := a 11) G (hp5.kp Kp.app) (P := m5.length) (get_off m5 [_] 0) hlP
  obtain ⟨d8, e8, m8, h1⟩ := lp_law_2_ev (ns := ns) (k := k) (l := m1.length) (a := a7) (b := b7) (c := a 9) (d := a 10) (e := a 11) G f2 f3 f4 f5
  let E : Sl := pE ns k m1.length n m5.length T a7 b7 (a 9) d8 e8
  have hn := G.le
  -- the series
  obtain ⟨m9, i1, _⟩ := derived_series_ev (m := m8) G
  obtain ⟨m10, i2, _⟩ := law_series_ev (m := m9) G false
  obtain ⟨m11, i3, _⟩ := lower_series_ev (m := m10) G
  obtain ⟨m12, i4, _⟩ := law_series_ev (m := m11) G true
  obtain ⟨m13, i5, _⟩ := lower_series_ev (m := m12) G
  obtain ⟨m14, i6, _⟩ := lower_series_ev (m := m13) G
  obtain ⟨m15, i7, _⟩ := derived_series_ev (m := m14) G
  obtain ⟨m16, i8, _⟩ := derived_series_ev (m := m15) G
  have T1 : fNotT (fTru (fCall F_law_are (fCons (fCall F_derived_series (fCons (fVar 4) fNil)) (fCons (fCall F_law_series (fCons (fVar 3) (fCons (fC (.bl false)) fNil))) fNil)))) E m8 = some (false, m10) :=
    y_notT (y_tru (y_call (y_cons (y_call (y_cons (y_var rfl) y_nil) i1) (y_cons (y_call (y_cons (y_var rfl) (y_cons y_c y_nil)) i2) y_nil)) (law_are_ev hn false)) rfl)
  have T2 : fNotT (fTru (fCall F_law_are (fCons (fCall F_lower_series (fCons (fVar 4) fNil)) (fCons (fCall F_law_series (fCons (fVar 3) (fCons (fC (.bl true)) fNil))) fNil)))) E m10 = some (false, m12) :=
    y_notT (y_tru (y_call (y_cons (y_call (y_cons (y_var rfl) y_nil) i3) (y_cons (y_call (y_cons (y_var rfl) (y_cons y_c y_nil)) i4) y_nil)) (law_are_ev hn true)) rfl)
  have T3 : fTest (fOp gNeS (fW (fFld cenv "lines" (fVar 4))) (fW (fVar 3))) E m12 = some (false, m12) :=
    y_test (y_op (y_w (fld_ev (y_var rfl)) (weak_lines n T)) (y_w (y_var rfl) (weak_lines n T)) lines_same)
  have T4 : fTest (fOp gNeS (fCall F_lower_series (fOrd 1 [0] (fCons (fVar 4) fNil))) (fCall F_lower_series (fCons (fVar 4) fNil))) E m12 = some (false, m14) :=
    y_test (y_op (y_call (y_ord (y_cons (y_var rfl) y_nil) rfl rfl) i5) (y_call (y_cons (y_var rfl) y_nil) i6) (ser_same true))
  have T5 : fTest (fOp gNeS (fCall F_derived_series (fOrd 1 [0] (fCons (fVar 4) fNil))) (fCall F_derived_series (fCons (fVar 4) fNil))) E m14 = some (false, m16) :=
    y_test (y_op (y_call (y_ord (y_cons (y_var rfl) y_nil) rfl rfl) i7) (y_call (y_cons (y_var rfl) y_nil) i8) (ser_same false))
  refine ⟨fun i => match i with
    | 2 => some (.loc m1.length) | 3 => some (linesD n T) | 4 => some (tableD n T) | 5 => some (.int (n : Nat)) | 6 => some (.loc m5.length) | 7 => a7 | 8 => b7 | 9 => a 9 | 10 => d8 | 11 => e8 | _ => none, m16, ?_⟩
  unfold lb_law_3
  refine y_seq (e1 := [some (.kl (ns.map D.int)), some (.int (k : Nat)), some (.loc m1.length), a 3, a 4, a 5, a 6, a 7, a 8, a 9, a 10, a 11]) (m1 := m2) (y_asg (y_call (y_cons (y_call (y_cons (y_var rfl) (y_cons (y_var rfl) y_nil)) c1) y_nil) p1) rfl) ?_
  refine y_seq (e1 := [some (.kl (ns.map D.int)), some (.int (k : Nat)), some (.loc m1.length), some (linesD n T), a 4, a 5, a 6, a 7, a 8, a 9, a 10, a 11]) (m1 := m5) (y_asg (y_call (y_cons (y_call (y_cons (y_var rfl) (y_cons ?_ y_nil)) s1) y_nil) l1) rfl) ?_
  · unfold fIxN
    rw [y_lst (y_cons y_c (y_cons y_c (y_cons y_c (y_cons y_c y_nil)))), Option.bind_some, y_call (y_cons (y_var rfl) (y_cons y_c y_nil)) t1, Option.bind_some]
    show (atI [D.int 24, .int 24, .int 24, .int 48] v).map _ = _
    rw [hat]; rfl
  refine y_seq (e1 := [some (.kl (ns.map D.int)), some (.int (k : Nat)), some (.loc m1.length), some (linesD n T), some (tableD n T), some (.int (n : Nat)), a 6, a 7, a 8, a 9, a 10, a 11]) (m1 := m5) (y_asgG (y_tup (y_cons (make_ev G (y_cons (y_var rfl) y_nil)) (y_cons (y_call (y_cons (y_w (y_var rfl) (weak_lines n T)) y_nil) len_linesW) y_nil))) rfl) ?_
  refine y_seq (e1 := pE ns k m1.length n m5.length T (a 7) (a 8) (a 9) (a 10) (a 11)) (m1 := m6) (y_asg (y_put (y_lst (y_cons (y_tup (y_cons y_c y_nil)) (y_cons (y_tRg1 (y_var rfl) (by show ms.length ≤ 100000; omega)) y_nil)))) rfl) ?_
  refine y_seq f1 ?_
  refine y_seq h1 ?_
  refine y_seq (y_no T1 y_next) ?_
  refine y_seq (y_no (y_orN T2 T3) y_next) ?_
  exact y_no (y_orN T4 T5) y_next
end
theorem law_ev (ns : List Int) : ∃ m', F_law [.kl (ns.map D.int)] [] = some (.bl true, m') := by
  have hl : ∀ mm, gLen [.kl (ns.map D.int)] mm = some (.int (ns.length : Nat), mm) := fun mm => by show some (D.int ((ns.map D.int).length : Nat), mm) = _; rw [List.length_map]
  obtain ⟨c, hc, hcx⟩ : ∃ c : Nat, c ≤ 60 ∧ ∀ (e : Sl) (mm : Mem), e[0]? = some (some (.kl (ns.map D.int))) → fCall gMax2 (fCons (fC (.int 2)) (fCons (fCall gMin2 (fCons (fCall gLen (fCons (fVar 0) fNil)) (fCons (fC (.int 8)) fNil))) fNil)) e mm = some (.int (c : Nat), mm) := by
    obtain ⟨a, ha, hax⟩ : ∃ a : Int, (0 ≤ a ∧ a ≤ 8) ∧ ∀ mm, gMin2 [.int (ns.length : Nat), .int 8] mm = some (.int a, mm) := by
      by_cases q : (8 : Int) < (ns.length : Nat)
      · exact ⟨8, by decide, fun mm => by show some (D.int (if (8 : Int) < (ns.length : Nat) then 8 else (ns.length : Nat)), mm) = _; rw [if_pos q]⟩
      · exact ⟨(ns.length : Nat), by omega, fun mm => by show some (D.int (if (8 : Int) < (ns.length : Nat) then 8 else (ns.length : Nat)), mm) = _; rw [if_neg q]⟩
    obtain ⟨b, hb, hbx⟩ : ∃ b : Int, (0 ≤ b ∧ b ≤ 8) ∧ ∀ mm, gMax2 [.int 2, .int a] mm = some (.int b, mm) := by
      by_cases q : a > 2
      · exact ⟨a, by omega, fun mm => by show some (D.int (if a > 2 then a else 2), mm) = _; rw [if_pos q]⟩
      · exact ⟨2, by decide, fun mm => by show some (D.int (if a > 2 then a else 2), mm) = _; rw [if_neg q]⟩
    obtain ⟨u, rfl⟩ : ∃ u : Nat, b = (u : Nat) := ⟨b.toNat, by omega⟩
    exact ⟨u, by omega, fun e mm he => y_call (y_cons y_c (y_cons (y_call (y_cons (y_call (y_cons (y_var he) y_nil) (hl mm)) (y_cons y_c y_nil)) (hax mm)) y_nil)) (hbx mm)⟩
  let e0 : Sl := [some (.kl (ns.map D.int)), none, none, none, none, none, none, none, none, none, none, none]
  have hz := y_for (fi := fRange1 (fCall gMax2 (fCons (fC (.int 2)) (fCons (fCall gMin2 (fCons (fCall gLen (fCons (fVar 0) fNil)) (fCons (fC (.int 8)) fNil))) fNil)))) (ft := fName 1) (g := lb_law_3 F_law_pool F_law_cell F_law_lines F_law_small F_law_take F_Table__init F_law_made F_law_commutators F_law_is F_derived F_law_are F_derived_series F_law_series F_lower_series) (e := e0) (m0 := []) (m := []) (l := List.range c) (k := fun y => .int (y : Nat)) (y_rg1 (hcx e0 [] rfl) (by omega))
    (fun _ _ e _ => ∃ k a, e = [some (.kl (ns.map D.int)), k, a 2, a 3, a 4, a 5, a 6, a 7, a 8, a 9, a 10, a 11]) ⟨none, fun _ => none, rfl⟩ ?_
  · obtain ⟨e1, m1, q, _⟩ := hz
    refine ⟨m1, Fof0_of (o := .rt (.bl true) m1) rfl ?_ rfl⟩
    show g_law F_law_pool F_law_cell F_law_lines F_law_small F_law_take F_Table__init F_law_made F_law_commutators F_law_is F_derived F_law_are F_derived_series F_law_series F_lower_series e0 [] = _
    unfold g_law
    exact y_seq q (y_ret y_c)
  · rintro q0 i r e mm hq ⟨k, a, rfl⟩
    have hi : i < c := List.mem_range.mp (by rw [hq]; simp)
    obtain ⟨a', m', h⟩ := lb_law_3_ev (ns := ns) (m := mm) (k := i) (by omega) a
    exact ⟨_, m', h, _, a', rfl⟩
end k24

set_option Elab.async false
set_option linter.all false
set_option maxRecDepth 100000
set_option maxHeartbeats 4000000
/-! what the top has written; the end -/
namespace k24
open PySem PySem.Spec PyProof.Rows L2 Mv
theorem all_mk {l : PySem.W.OpenLaw} {w : World} {K : Fg} {h : Heap} {mg : Str → Option Value} {fa : Addr} (X : K.In h) (G : h.Ns mainGlobals mg) (hfa : mg "law" = some (.ref fa))
    {C_Table : Addr}
    {f0 : Addr} {od0 an0 : Option Addr} {sl0 : Array (Option Value)} {oc0 kV0 dc0 pm0 cd0 ct0 : Value}
    {f1 : Addr} {od1 an1 : Option Addr} {sl1 : Array (Option Value)} {oc1 kV1 dc1 pm1 cd1 ct1 : Value}
    {f2 : Addr} {od2 an2 : Option Addr} {sl2 : Array (Option Value)} {oc2 kV2 dc2 pm2 cd2 ct2 : Value}
    {f3 : Addr} {od3 an3 : Option Addr} {sl3 : Array (Option Value)} {oc3 kV3 dc3 pm3 cd3 ct3 : Value}
    {f4 : Addr} {od4 an4 : Option Addr} {sl4 : Array (Option Value)} {oc4 kV4 dc4 pm4 cd4 ct4 : Value}
    {f5 : Addr} {od5 an5 : Option Addr} {sl5 : Array (Option Value)} {oc5 kV5 dc5 pm5 cd5 ct5 : Value}
    {f6 : Addr} {od6 an6 : Option Addr} {sl6 : Array (Option Value)} {oc6 kV6 dc6 pm6 cd6 ct6 : Value}
    {f7 : Addr} {od7 an7 : Option Addr} {sl7 : Array (Option Value)} {oc7 kV7 dc7 pm7 cd7 ct7 : Value}
    {f8 : Addr} {od8 an8 : Option Addr} {sl8 : Array (Option Value)} {oc8 kV8 dc8 pm8 cd8 ct8 : Value}
    {f9 : Addr} {od9 an9 : Option Addr} {sl9 : Array (Option Value)} {oc9 kV9 dc9 pm9 cd9 ct9 : Value}
    {f10 : Addr} {od10 an10 : Option Addr} {sl10 : Array (Option Value)} {oc10 kV10 dc10 pm10 cd10 ct10 : Value}
    {f11 : Addr} {od11 an11 : Option Addr} {sl11 : Array (Option Value)} {oc11 kV11 dc11 pm11 cd11 ct11 : Value}
    {f12 : Addr} {od12 an12 : Option Addr} {sl12 : Array (Option Value)} {oc12 kV12 dc12 pm12 cd12 ct12 : Value}
    {f13 : Addr} {od13 an13 : Option Addr} {sl13 : Array (Option Value)} {oc13 kV13 dc13 pm13 cd13 ct13 : Value}
    {f14 : Addr} {od14 an14 : Option Addr} {sl14 : Array (Option Value)} {oc14 kV14 dc14 pm14 cd14 ct14 : Value}
    {f15 : Addr} {od15 an15 : Option Addr} {sl15 : Array (Option Value)} {oc15 kV15 dc15 pm15 cd15 ct15 : Value}
    {f16 : Addr} {od16 an16 : Option Addr} {sl16 : Array (Option Value)} {oc16 kV16 dc16 pm16 cd16 ct16 : Value}
    {f17 : Addr} {od17 an17 : Option Addr} {sl17 : Array (Option Value)} {oc17 kV17 dc17 pm17 cd17 ct17 : Value}
    {f18 : Addr} {od18 an18 : Option Addr} {sl18 : Array (Option Value)} {oc18 kV18 dc18 pm18 cd18 ct18 : Value}
    {f19 : Addr} {od19 an19 : Option Addr} {sl19 : Array (Option Value)} {oc19 kV19 dc19 pm19 cd19 ct19 : Value}
    {f20 : Addr} {od20 an20 : Option Addr} {sl20 : Array (Option Value)} {oc20 kV20 dc20 pm20 cd20 ct20 : Value}
    {f21 : Addr} {od21 an21 : Option Addr} {sl21 : Array (Option Value)} {oc21 kV21 dc21 pm21 cd21 ct21 : Value}
    {f22 : Addr} {od22 an22 : Option Addr} {sl22 : Array (Option Value)} {oc22 kV22 dc22 pm22 cd22 ct22 : Value}
    {f23 : Addr} {od23 an23 : Option Addr} {sl23 : Array (Option Value)} {oc23 kV23 dc23 pm23 cd23 ct23 : Value}
    {f24 : Addr} {od24 an24 : Option Addr} {sl24 : Array (Option Value)} {oc24 kV24 dc24 pm24 cd24 ct24 : Value}
    {f25 : Addr} {od25 an25 : Option Addr} {sl25 : Array (Option Value)} {oc25 kV25 dc25 pm25 cd25 ct25 : Value}
    {f26 : Addr} {od26 an26 : Option Addr} {sl26 : Array (Option Value)} {oc26 kV26 dc26 pm26 cd26 ct26 : Value}
    {f27 : Addr} {od27 an27 : Option Addr} {sl27 : Array (Option Value)} {oc27 kV27 dc27 pm27 cd27 ct27 : Value}
    {f28 : Addr} {od28 an28 : Option Addr} {sl28 : Array (Option Value)} {oc28 kV28 dc28 pm28 cd28 ct28 : Value}
    {f29 : Addr} {od29 an29 : Option Addr} {sl29 : Array (Option Value)} {oc29 kV29 dc29 pm29 cd29 ct29 : Value}
    {f30 : Addr} {od30 an30 : Option Addr} {sl30 : Array (Option Value)} {oc30 kV30 dc30 pm30 cd30 ct30 : Value}
    {f31 : Addr} {od31 an31 : Option Addr} {sl31 : Array (Option Value)} {oc31 kV31 dc31 pm31 cd31 ct31 : Value}
    {f32 : Addr} {od32 an32 : Option Addr} {sl32 : Array (Option Value)} {oc32 kV32 dc32 pm32 cd32 ct32 : Value}
    {tk_MOST_ORDER : Tok}
    (a_Table : PySem.W.nsIn K mainGlobals "Table" = some (some (.ref C_Table)))
    (pg_Table : PySem.W.plainGet K C_Table Str.empty = true) (hd_Table : PySem.W.hasDictIn K C_Table = true) (po_Table : PySem.W.plainOver K C_Table = true) (sa_Table : PySem.W.findIn K (.ref C_Table) "__setattr__" = some (some (.builtin "object.__setattr__"))) (mk_Table : PySem.W.makesIn K C_Table = true) (kc_Table : PySem.W.keepIn K (.ref C_Table) = true)
    (ha_Table : PySem.W.findIn K (.ref C_Table) "__class__" = some (some (.builtin "object.__class__"))) (hm_Table : PySem.W.mroIn K C_Table (.type "object") = some true) (me_Table : PySem.W.kitOne K (.ref C_Table) (.ref C_Table) = some true)
    (na_Table_lines : PySem.W.findIn K (.ref C_Table) "lines" = some none)
    (kt_Table_NoneType : PySem.W.kitOne K (.type "NoneType") (.ref C_Table) = some false)
    (kt_Table_bool : PySem.W.kitOne K (.type "bool") (.ref C_Table) = some false)
    (kt_Table_int : PySem.W.kitOne K (.type "int") (.ref C_Table) = some false)
    (kt_Table_str : PySem.W.kitOne K (.type "str") (.ref C_Table) = some false)
    (kt_Table_tuple : PySem.W.kitOne K (.type "tuple") (.ref C_Table) = some false)
    (kt_Table_list : PySem.W.kitOne K (.type "list") (.ref C_Table) = some false)
    (kt_Table_dict : PySem.W.kitOne K (.type "dict") (.ref C_Table) = some false)
    (gs_get : PySem.W.specialIn K (.builtin "object.__class__") "__get__" = some (some (.builtin "getset_descriptor.__get__"))) (gs_tk : PySem.W.takesIn K (.builtin "object.__class__") = some true)
    (a0 : PySem.W.nsIn K mainGlobals "is_whole" = some (some (.ref f0)))
    (l0 : K.lookup f0 = some ⟨oc0, od0, .func (PySem.W.fnOf "is_whole" "is_whole" (defArgs s_is_whole) (defBody s_is_whole) (defScope s_is_whole) .none kV0 dc0 pm0 an0 cd0 ct0), sl0⟩) (c0 : PySem.W.codeIn K cd0 "is_whole" = true) (k0 : PySem.W.keepIn K (.ref f0) = true)
    (a1 : PySem.W.nsIn K mainGlobals "check_table" = some (some (.ref f1)))
    (l1 : K.lookup f1 = some ⟨oc1, od1, .func (PySem.W.fnOf "check_table" "check_table" (defArgs s_check_table) (defBody s_check_table) (defScope s_check_table) .none kV1 dc1 pm1 an1 cd1 ct1), sl1⟩) (c1 : PySem.W.codeIn K cd1 "check_table" = true) (k1 : PySem.W.keepIn K (.ref f1) = true)
    (a2 : PySem.W.nsIn K mainGlobals "_unlike_three" = some (some (.ref f2)))
    (l2 : K.lookup f2 = some ⟨oc2, od2, .func (PySem.W.fnOf "_unlike_three" "_unlike_three" (defArgs s_unlike_three) (defBody s_unlike_three) (defScope s_unlike_three) .none kV2 dc2 pm2 an2 cd2 ct2), sl2⟩) (c2 : PySem.W.codeIn K cd2 "_unlike_three" = true) (k2 : PySem.W.keepIn K (.ref f2) = true)
    (a3 : PySem.W.nsIn K mainGlobals "commutated" = some (some (.ref f3)))
    (l3 : K.lookup f3 = some ⟨oc3, od3, .func (PySem.W.fnOf "commutated" "commutated" (defArgs s_commutated) (defBody s_commutated) (defScope s_commutated) .none kV3 dc3 pm3 an3 cd3 ct3), sl3⟩) (c3 : PySem.W.codeIn K cd3 "commutated" = true) (k3 : PySem.W.keepIn K (.ref f3) = true)
    (a4 : PySem.W.nsIn K mainGlobals "spanned" = some (some (.ref f4)))
    (l4 : K.lookup f4 = some ⟨oc4, od4, .func (PySem.W.fnOf "spanned" "spanned" (defArgs s_spanned) (defBody s_spanned) (defScope s_spanned) .none kV4 dc4 pm4 an4 cd4 ct4), sl4⟩) (c4 : PySem.W.codeIn K cd4 "spanned" = true) (k4 : PySem.W.keepIn K (.ref f4) = true)
    (a5 : PySem.W.nsIn K mainGlobals "_law_cell" = some (some (.ref f5)))
    (l5 : K.lookup f5 = some ⟨oc5, od5, .func (PySem.W.fnOf "_law_cell" "_law_cell" (defArgs s_law_cell) (defBody s_law_cell) (defScope s_law_cell) .none kV5 dc5 pm5 an5 cd5 ct5), sl5⟩) (c5 : PySem.W.codeIn K cd5 "_law_cell" = true) (k5 : PySem.W.keepIn K (.ref f5) = true)
    (a6 : PySem.W.nsIn K mainGlobals "_law_pool" = some (some (.ref f6)))
    (l6 : K.lookup f6 = some ⟨oc6, od6, .func (PySem.W.fnOf "_law_pool" "_law_pool" (defArgs s_law_pool) (defBody s_law_pool) (defScope s_law_pool) .none kV6 dc6 pm6 an6 cd6 ct6), sl6⟩) (c6 : PySem.W.codeIn K cd6 "_law_pool" = true) (k6 : PySem.W.keepIn K (.ref f6) = true)
    (a7 : PySem.W.nsIn K mainGlobals "_law_take" = some (some (.ref f7)))
    (l7 : K.lookup f7 = some ⟨oc7, od7, .func (PySem.W.fnOf "_law_take" "_law_take" (defArgs s_law_take) (defBody s_law_take) (defScope s_law_take) .none kV7 dc7 pm7 an7 cd7 ct7), sl7⟩) (c7 : PySem.W.codeIn K cd7 "_law_take" = true) (k7 : PySem.W.keepIn K (.ref f7) = true)
    (a8 : PySem.W.nsIn K mainGlobals "_law_then" = some (some (.ref f8)))
    (l8 : K.lookup f8 = some ⟨oc8, od8, .func (PySem.W.fnOf "_law_then" "_law_then" (defArgs s_law_then) (defBody s_law_then) (defScope s_law_then) .none kV8 dc8 pm8 an8 cd8 ct8), sl8⟩) (c8 : PySem.W.codeIn K cd8 "_law_then" = true) (k8 : PySem.W.keepIn K (.ref f8) = true)
    (a9 : PySem.W.nsIn K mainGlobals "_law_backs" = some (some (.ref f9)))
    (l9 : K.lookup f9 = some ⟨oc9, od9, .func (PySem.W.fnOf "_law_backs" "_law_backs" (defArgs s_law_backs) (defBody s_law_backs) (defScope s_law_backs) .none kV9 dc9 pm9 an9 cd9 ct9), sl9⟩) (c9 : PySem.W.codeIn K cd9 "_law_backs" = true) (k9 : PySem.W.keepIn K (.ref f9) = true)
    (a10 : PySem.W.nsIn K mainGlobals "_law_made" = some (some (.ref f10)))
    (l10 : K.lookup f10 = some ⟨oc10, od10, .func (PySem.W.fnOf "_law_made" "_law_made" (defArgs s_law_made) (defBody s_law_made) (defScope s_law_made) .none kV10 dc10 pm10 an10 cd10 ct10), sl10⟩) (c10 : PySem.W.codeIn K cd10 "_law_made" = true) (k10 : PySem.W.keepIn K (.ref f10) = true)
    (a11 : PySem.W.nsIn K mainGlobals "_law_is" = some (some (.ref f11)))
    (l11 : K.lookup f11 = some ⟨oc11, od11, .func (PySem.W.fnOf "_law_is" "_law_is" (defArgs s_law_is) (defBody s_law_is) (defScope s_law_is) .none kV11 dc11 pm11 an11 cd11 ct11), sl11⟩) (c11 : PySem.W.codeIn K cd11 "_law_is" = true) (k11 : PySem.W.keepIn K (.ref f11) = true)
    (a12 : PySem.W.nsIn K mainGlobals "is_between" = some (some (.ref f12)))
    (l12 : K.lookup f12 = some ⟨oc12, od12, .func (PySem.W.fnOf "is_between" "is_between" (defArgs s_is_between) (defBody s_is_between) (defScope s_is_between) .none kV12 dc12 pm12 an12 cd12 ct12), sl12⟩) (c12 : PySem.W.codeIn K cd12 "is_between" = true) (k12 : PySem.W.keepIn K (.ref f12) = true)
    (a13 : PySem.W.nsIn K mainGlobals "_commutators" = some (some (.ref f13)))
    (l13 : K.lookup f13 = some ⟨oc13, od13, .func (PySem.W.fnOf "_commutators" "_commutators" (defArgs s_commutators) (defBody s_commutators) (defScope s_commutators) .none kV13 dc13 pm13 an13 cd13 ct13), sl13⟩) (c13 : PySem.W.codeIn K cd13 "_commutators" = true) (k13 : PySem.W.keepIn K (.ref f13) = true)
    (a14 : PySem.W.nsIn K mainGlobals "_law_move" = some (some (.ref f14)))
    (l14 : K.lookup f14 = some ⟨oc14, od14, .func (PySem.W.fnOf "_law_move" "_law_move" (defArgs s_law_move) (defBody s_law_move) (defScope s_law_move) .none kV14 dc14 pm14 an14 cd14 ct14), sl14⟩) (c14 : PySem.W.codeIn K cd14 "_law_move" = true) (k14 : PySem.W.keepIn K (.ref f14) = true)
    (a15 : PySem.W.nsIn K mainGlobals "_law_members" = some (some (.ref f15)))
    (l15 : K.lookup f15 = some ⟨oc15, od15, .func (PySem.W.fnOf "_law_members" "_law_members" (defArgs s_law_members) (defBody s_law_members) (defScope s_law_members) .none kV15 dc15 pm15 an15 cd15 ct15), sl15⟩) (c15 : PySem.W.codeIn K cd15 "_law_members" = true) (k15 : PySem.W.keepIn K (.ref f15) = true)
    (a16 : PySem.W.nsIn K mainGlobals "_law_lines" = some (some (.ref f16)))
    (l16 : K.lookup f16 = some ⟨oc16, od16, .func (PySem.W.fnOf "_law_lines" "_law_lines" (defArgs s_law_lines) (defBody s_law_lines) (defScope s_law_lines) .none kV16 dc16 pm16 an16 cd16 ct16), sl16⟩) (c16 : PySem.W.codeIn K cd16 "_law_lines" = true) (k16 : PySem.W.keepIn K (.ref f16) = true)
    (a17 : PySem.W.nsIn K mainGlobals "_law_commutators" = some (some (.ref f17)))
    (l17 : K.lookup f17 = some ⟨oc17, od17, .func (PySem.W.fnOf "_law_commutators" "_law_commutators" (defArgs s_law_commutators) (defBody s_law_commutators) (defScope s_law_commutators) .none kV17 dc17 pm17 an17 cd17 ct17), sl17⟩) (c17 : PySem.W.codeIn K cd17 "_law_commutators" = true) (k17 : PySem.W.keepIn K (.ref f17) = true)
    (a18 : PySem.W.nsIn K mainGlobals "_law_are" = some (some (.ref f18)))
    (l18 : K.lookup f18 = some ⟨oc18, od18, .func (PySem.W.fnOf "_law_are" "_law_are" (defArgs s_law_are) (defBody s_law_are) (defScope s_law_are) .none kV18 dc18 pm18 an18 cd18 ct18), sl18⟩) (c18 : PySem.W.codeIn K cd18 "_law_are" = true) (k18 : PySem.W.keepIn K (.ref f18) = true)
    (a19 : PySem.W.nsIn K mainGlobals "is_rising" = some (some (.ref f19)))
    (l19 : K.lookup f19 = some ⟨oc19, od19, .func (PySem.W.fnOf "is_rising" "is_rising" (defArgs s_is_rising) (defBody s_is_rising) (defScope s_is_rising) .none kV19 dc19 pm19 an19 cd19 ct19), sl19⟩) (c19 : PySem.W.codeIn K cd19 "is_rising" = true) (k19 : PySem.W.keepIn K (.ref f19) = true)
    (a20 : PySem.W.nsIn K mainGlobals "_is_line" = some (some (.ref f20)))
    (l20 : K.lookup f20 = some ⟨oc20, od20, .func (PySem.W.fnOf "_is_line" "_is_line" (defArgs s_is_line) (defBody s_is_line) (defScope s_is_line) .none kV20 dc20 pm20 an20 cd20 ct20), sl20⟩) (c20 : PySem.W.codeIn K cd20 "_is_line" = true) (k20 : PySem.W.keepIn K (.ref f20) = true)
    (a21 : PySem.W.nsIn K mainGlobals "_series" = some (some (.ref f21)))
    (l21 : K.lookup f21 = some ⟨oc21, od21, .func (PySem.W.fnOf "_series" "_series" (defArgs s_series) (defBody s_series) (defScope s_series) .none kV21 dc21 pm21 an21 cd21 ct21), sl21⟩) (c21 : PySem.W.codeIn K cd21 "_series" = true) (k21 : PySem.W.keepIn K (.ref f21) = true)
    (a22 : PySem.W.nsIn K mainGlobals "_law_small" = some (some (.ref f22)))
    (l22 : K.lookup f22 = some ⟨oc22, od22, .func (PySem.W.fnOf "_law_small" "_law_small" (defArgs s_law_small) (defBody s_law_small) (defScope s_law_small) .none kV22 dc22 pm22 an22 cd22 ct22), sl22⟩) (c22 : PySem.W.codeIn K cd22 "_law_small" = true) (k22 : PySem.W.keepIn K (.ref f22) = true)
    (a23 : PySem.W.nsIn K mainGlobals "_law_series" = some (some (.ref f23)))
    (l23 : K.lookup f23 = some ⟨oc23, od23, .func (PySem.W.fnOf "_law_series" "_law_series" (defArgs s_law_series) (defBody s_law_series) (defScope s_law_series) .none kV23 dc23 pm23 an23 cd23 ct23), sl23⟩) (c23 : PySem.W.codeIn K cd23 "_law_series" = true) (k23 : PySem.W.keepIn K (.ref f23) = true)
    (a24 : PySem.W.nsIn K mainGlobals "_has_form" = some (some (.ref f24)))
    (l24 : K.lookup f24 = some ⟨oc24, od24, .func (PySem.W.fnOf "_has_form" "_has_form" (defArgs s_has_form) (defBody s_has_form) (defScope s_has_form) .none kV24 dc24 pm24 an24 cd24 ct24), sl24⟩) (c24 : PySem.W.codeIn K cd24 "_has_form" = true) (k24 : PySem.W.keepIn K (.ref f24) = true)
    (a25 : PySem.W.nsIn K mainGlobals "_is_part" = some (some (.ref f25)))
    (l25 : K.lookup f25 = some ⟨oc25, od25, .func (PySem.W.fnOf "_is_part" "_is_part" (defArgs s_is_part) (defBody s_is_part) (defScope s_is_part) .none kV25 dc25 pm25 an25 cd25 ct25), sl25⟩) (c25 : PySem.W.codeIn K cd25 "_is_part" = true) (k25 : PySem.W.keepIn K (.ref f25) = true)
    (a26 : PySem.W.nsIn K mainGlobals "derived_series" = some (some (.ref f26)))
    (l26 : K.lookup f26 = some ⟨oc26, od26, .func (PySem.W.fnOf "derived_series" "derived_series" (defArgs s_derived_series) (defBody s_derived_series) (defScope s_derived_series) .none kV26 dc26 pm26 an26 cd26 ct26), sl26⟩) (c26 : PySem.W.codeIn K cd26 "derived_series" = true) (k26 : PySem.W.keepIn K (.ref f26) = true)
    (a27 : PySem.W.nsIn K mainGlobals "lower_series" = some (some (.ref f27)))
    (l27 : K.lookup f27 = some ⟨oc27, od27, .func (PySem.W.fnOf "lower_series" "lower_series" (defArgs s_lower_series) (defBody s_lower_series) (defScope s_lower_series) .none kV27 dc27 pm27 an27 cd27 ct27), sl27⟩) (c27 : PySem.W.codeIn K cd27 "lower_series" = true) (k27 : PySem.W.keepIn K (.ref f27) = true)
    (a28 : PySem.W.nsIn K mainGlobals "fault" = some (some (.ref f28)))
    (l28 : K.lookup f28 = some ⟨oc28, od28, .func (PySem.W.fnOf "fault" "fault" (defArgs s_fault) (defBody s_fault) (defScope s_fault) .none kV28 dc28 pm28 an28 cd28 ct28), sl28⟩) (c28 : PySem.W.codeIn K cd28 "fault" = true) (k28 : PySem.W.keepIn K (.ref f28) = true)
    (a29 : PySem.W.nsIn K mainGlobals "check_sub" = some (some (.ref f29)))
    (l29 : K.lookup f29 = some ⟨oc29, od29, .func (PySem.W.fnOf "check_sub" "check_sub" (defArgs s_check_sub) (defBody s_check_sub) (defScope s_check_sub) .none kV29 dc29 pm29 an29 cd29 ct29), sl29⟩) (c29 : PySem.W.codeIn K cd29 "check_sub" = true) (k29 : PySem.W.keepIn K (.ref f29) = true)
    (a30 : PySem.W.findIn K (.ref C_Table) "__init__" = some (some (.ref f30))) (i30 : PySem.W.isFn K (.ref f30) = true)
    (l30 : K.lookup f30 = some ⟨oc30, od30, .func (PySem.W.fnOf "__init__" "Table.__init__" (defArgs s_Table__init) (defBody s_Table__init) (defScope s_Table__init) .none kV30 dc30 pm30 an30 cd30 ct30), sl30⟩) (c30 : PySem.W.codeIn K cd30 "Table.__init__" = true) (k30 : PySem.W.keepIn K (.ref f30) = true)
    (a31 : PySem.W.nsIn K mainGlobals "derived" = some (some (.ref f31)))
    (l31 : K.lookup f31 = some ⟨oc31, od31, .func (PySem.W.fnOf "derived" "derived" (defArgs s_derived) (defBody s_derived) (defScope s_derived) .none kV31 dc31 pm31 an31 cd31 ct31), sl31⟩) (c31 : PySem.W.codeIn K cd31 "derived" = true) (k31 : PySem.W.keepIn K (.ref f31) = true)
    (a32 : PySem.W.nsIn K mainGlobals "law" = some (some (.ref f32)))
    (l32 : K.lookup f32 = some ⟨oc32, od32, .func (PySem.W.fnOf "law" "law" (defArgs s_law) (defBody s_law) (defScope s_law) .none kV32 dc32 pm32 an32 cd32 ct32), sl32⟩) (c32 : PySem.W.codeIn K cd32 "law" = true) (k32 : PySem.W.keepIn K (.ref f32) = true)
    (z_abs : PySem.W.nsIn K mainGlobals "abs" = some none)
    (z_all : PySem.W.nsIn K mainGlobals "all" = some none)
    (z_any : PySem.W.nsIn K mainGlobals "any" = some none)
    (z_bool : PySem.W.nsIn K mainGlobals "bool" = some none)
    (z_dict : PySem.W.nsIn K mainGlobals "dict" = some none)
    (z_divmod : PySem.W.nsIn K mainGlobals "divmod" = some none)
    (z_enumerate : PySem.W.nsIn K mainGlobals "enumerate" = some none)
    (z_int : PySem.W.nsIn K mainGlobals "int" = some none)
    (z_isinstance : PySem.W.nsIn K mainGlobals "isinstance" = some none)
    (z_len : PySem.W.nsIn K mainGlobals "len" = some none)
    (z_list : PySem.W.nsIn K mainGlobals "list" = some none)
    (z_max : PySem.W.nsIn K mainGlobals "max" = some none)
    (z_min : PySem.W.nsIn K mainGlobals "min" = some none)
    (z_range : PySem.W.nsIn K mainGlobals "range" = some none)
    (z_sorted : PySem.W.nsIn K mainGlobals "sorted" = some none)
    (z_tuple : PySem.W.nsIn K mainGlobals "tuple" = some none)
    (z_zip : PySem.W.nsIn K mainGlobals "zip" = some none)
    (q_MOST_ORDER : PySem.W.nsIn K mainGlobals "MOST_ORDER" = some (some (.int 48 tk_MOST_ORDER))) :
    ∃ fd : FuncData, (∀ (s : Shared) (u : Value), BindsTo s fd ⟨[u], []⟩ [("_law_script", u)]) ∧ ∀ base : Heap, K.In base → base.Ns mainGlobals mg → FnG l.prog w K mg base CX0 8 fa fd ["_law_script"] (spG K F_law) := by
  have e := hfa.symm.trans (PySem.W.mg_of X G a32)
  cases e
  have T : Tz K mg := ⟨PySem.W.mg_none_of X G z_abs, PySem.W.mg_none_of X G z_all, PySem.W.mg_none_of X G z_any, PySem.W.mg_none_of X G z_bool, PySem.W.mg_none_of X G z_dict, PySem.W.mg_none_of X G z_divmod, PySem.W.mg_none_of X G z_enumerate, PySem.W.mg_none_of X G z_int, PySem.W.mg_none_of X G z_isinstance, PySem.W.mg_none_of X G z_len, PySem.W.mg_none_of X G z_list, PySem.W.mg_none_of X G z_max, PySem.W.mg_none_of X G z_min, PySem.W.mg_none_of X G z_range, PySem.W.mg_none_of X G z_sorted, PySem.W.mg_none_of X G z_tuple, PySem.W.mg_none_of X G z_zip, ⟨tk_MOST_ORDER, PySem.W.mg_of X G q_MOST_ORDER⟩, ⟨C_Table, PySem.W.mg_of X G a_Table, a_Table⟩⟩
  have TC : CEnvOk K cenv := by
    refine ⟨fun p hp C hC => ?_, fun p hp C hC => ?_, fun p hp C' C hC' hC => ?_⟩
    · simp only [cenv, List.mem_cons, List.not_mem_nil, or_false] at hp
      rcases hp with rfl
      · have e := ClsAt.inj hC a_Table
        subst e
        refine ⟨⟨⟨pg_Table, hd_Table, po_Table, sa_Table⟩, ha_Table, gs_get, gs_tk, hm_Table, me_Table⟩, fun x hx => ?_⟩
        simp only [List.mem_cons, List.not_mem_nil, or_false] at hx
        rcases hx with rfl
        · exact na_Table_lines
    · simp only [cenv, List.mem_cons, List.not_mem_nil, or_false] at hp
      rcases hp with rfl | rfl | rfl | rfl | rfl | rfl | rfl
      · have e := ClsAt.inj hC a_Table
        subst e; exact kt_Table_NoneType
      · have e := ClsAt.inj hC a_Table
        subst e; exact kt_Table_bool
      · have e := ClsAt.inj hC a_Table
        subst e; exact kt_Table_int
      · have e := ClsAt.inj hC a_Table
        subst e; exact kt_Table_str
      · have e := ClsAt.inj hC a_Table
        subst e; exact kt_Table_tuple
      · have e := ClsAt.inj hC a_Table
        subst e; exact kt_Table_list
      · have e := ClsAt.inj hC a_Table
        subst e; exact kt_Table_dict
    · simp only [cenv, List.mem_cons, List.not_mem_nil, or_false] at hp
      rcases hp with rfl
      · have e := ClsAt.inj hC' a_Table
        subst e
        have e := ClsAt.inj hC a_Table
        subst e
        exact me_Table
  have F0 := fun_mk (st := s_is_whole) l0 c0 k0
  have b0 := F0.binds (ps := ["thing"]) fun _ _ _ _ _ _ us hl => match us, hl with | [_], _ => rfl
  have F1 := fun_mk (st := s_check_table) l1 c1 k1
  have b1 := F1.binds (ps := ["thing"]) fun _ _ _ _ _ _ us hl => match us, hl with | [_], _ => rfl
  have F2 := fun_mk (st := s_unlike_three) l2 c2 k2
  have b2 := F2.binds (ps := ["lines"]) fun _ _ _ _ _ _ us hl => match us, hl with | [_], _ => rfl
  have F3 := fun_mk (st := s_commutated) l3 c3 k3
  have b3 := F3.binds (ps := ["lines", "one", "other"]) fun _ _ _ _ _ _ us hl => match us, hl with | [_, _, _], _ => rfl
  have F4 := fun_mk (st := s_spanned) l4 c4 k4
  have b4 := F4.binds (ps := ["lines", "part"]) fun _ _ _ _ _ _ us hl => match us, hl with | [_, _], _ => rfl
  have F5 := fun_mk (st := s_law_cell) l5 c5 k5
  have b5 := F5.binds (ps := ["_law_script", "_law_k"]) fun _ _ _ _ _ _ us hl => match us, hl with | [_, _], _ => rfl
  have F6 := fun_mk (st := s_law_pool) l6 c6 k6
  have b6 := F6.binds (ps := ["_law_cell_here"]) fun _ _ _ _ _ _ us hl => match us, hl with | [_], _ => rfl
  have F7 := fun_mk (st := s_law_take) l7 c7 k7
  have b7 := F7.binds (ps := ["_law_pool_here", "_law_many"]) fun _ _ _ _ _ _ us hl => match us, hl with | [_, _], _ => rfl
  have F8 := fun_mk (st := s_law_then) l8 c8 k8
  have b8 := F8.binds (ps := ["_law_one", "_law_other"]) fun _ _ _ _ _ _ us hl => match us, hl with | [_, _], _ => rfl
  have F9 := fun_mk (st := s_law_backs) l9 c9 k9
  have b9 := F9.binds (ps := ["_law_lines_here"]) fun _ _ _ _ _ _ us hl => match us, hl with | [_], _ => rfl
  have F10 := fun_mk (st := s_law_made) l10 c10 k10
  have b10 := F10.binds (ps := ["_law_lines_here", "_law_part"]) fun _ _ _ _ _ _ us hl => match us, hl with | [_, _], _ => rfl
  have F11 := fun_mk (st := s_law_is) l11 c11 k11
  have b11 := F11.binds (ps := ["_law_told", "_law_due"]) fun _ _ _ _ _ _ us hl => match us, hl with | [_, _], _ => rfl
  have F12 := fun_mk (st := s_is_between) l12 c12 k12
  have b12 := F12.binds (ps := ["thing", "low", "high"]) fun _ _ _ _ _ _ us hl => match us, hl with | [_, _, _], _ => rfl
  have F13 := fun_mk (st := s_commutators) l13 c13 k13
  have b13 := F13.binds (ps := ["lines", "some", "others"]) fun _ _ _ _ _ _ us hl => match us, hl with | [_, _, _], _ => rfl
  have F14 := fun_mk (st := s_law_move) l14 c14 k14
  have b14 := F14.binds (ps := ["_law_pool_here", "_law_points"]) fun _ _ _ _ _ _ us hl => match us, hl with | [_, _], _ => rfl
  have F15 := fun_mk (st := s_law_members) l15 c15 k15
  have b15 := F15.binds (ps := ["_law_points", "_law_moves", "_law_most"]) fun _ _ _ _ _ _ us hl => match us, hl with | [_, _, _], _ => rfl
  have F16 := fun_mk (st := s_law_lines) l16 c16 k16
  have b16 := F16.binds (ps := ["_law_members_here"]) fun _ _ _ _ _ _ us hl => match us, hl with | [_], _ => rfl
  have F17 := fun_mk (st := s_law_commutators) l17 c17 k17
  have b17 := F17.binds (ps := ["_law_lines_here", "_law_firsts", "_law_seconds"]) fun _ _ _ _ _ _ us hl => match us, hl with | [_, _, _], _ => rfl
  have F18 := fun_mk (st := s_law_are) l18 c18 k18
  have b18 := F18.binds (ps := ["_law_told", "_law_due"]) fun _ _ _ _ _ _ us hl => match us, hl with | [_, _], _ => rfl
  have F19 := fun_mk (st := s_is_rising) l19 c19 k19
  have b19 := F19.binds (ps := ["thing", "many"]) fun _ _ _ _ _ _ us hl => match us, hl with | [_, _], _ => rfl
  have F20 := fun_mk (st := s_is_line) l20 c20 k20
  have b20 := F20.binds (ps := ["line", "many"]) fun _ _ _ _ _ _ us hl => match us, hl with | [_, _], _ => rfl
  have F21 := fun_mk (st := s_series) l21 c21 k21
  have b21 := F21.binds (ps := ["lines", "with_all"]) fun _ _ _ _ _ _ us hl => match us, hl with | [_, _], _ => rfl
  have F22 := fun_mk (st := s_law_small) l22 c22 k22
  have b22 := F22.binds (ps := ["_law_pool_here", "_law_most"]) fun _ _ _ _ _ _ us hl => match us, hl with | [_, _], _ => rfl
  have F23 := fun_mk (st := s_law_series) l23 c23 k23
  have b23 := F23.binds (ps := ["_law_lines_here", "_law_lower"]) fun _ _ _ _ _ _ us hl => match us, hl with | [_, _], _ => rfl
  have F24 := fun_mk (st := s_has_form) l24 c24 k24
  have b24 := F24.binds (ps := ["lines"]) fun _ _ _ _ _ _ us hl => match us, hl with | [_], _ => rfl
  have F25 := fun_mk (st := s_is_part) l25 c25 k25
  have b25 := F25.binds (ps := ["table", "thing"]) fun _ _ _ _ _ _ us hl => match us, hl with | [_, _], _ => rfl
  have F26 := fun_mk (st := s_derived_series) l26 c26 k26
  have b26 := F26.binds (ps := ["table"]) fun _ _ _ _ _ _ us hl => match us, hl with | [_], _ => rfl
  have F27 := fun_mk (st := s_lower_series) l27 c27 k27
  have b27 := F27.binds (ps := ["table"]) fun _ _ _ _ _ _ us hl => match us, hl with | [_], _ => rfl
  have F28 := fun_mk (st := s_fault) l28 c28 k28
  have b28 := F28.binds (ps := ["lines"]) fun _ _ _ _ _ _ us hl => match us, hl with | [_], _ => rfl
  have F29 := fun_mk (st := s_check_sub) l29 c29 k29
  have b29 := F29.binds (ps := ["table", "thing"]) fun _ _ _ _ _ _ us hl => match us, hl with | [_, _], _ => rfl
  have F30 := fun_mk (st := s_Table__init) l30 c30 k30
  have b30 := F30.binds (ps := ["self", "lines"]) fun _ _ _ _ _ _ us hl => match us, hl with | [_, _], _ => rfl
  have F31 := fun_mk (st := s_derived) l31 c31 k31
  have b31 := F31.binds (ps := ["table", "sub"]) fun _ _ _ _ _ _ us hl => match us, hl with | [_, _], _ => rfl
  have F32 := fun_mk (st := s_law) l32 c32 k32
  refine ⟨PySem.W.fnOf "law" "law" (defArgs s_law) (defBody s_law) (defScope s_law) .none kV32 dc32 pm32 an32 cd32 ct32, fun s u => .of_eq rfl, fun base _ _ => ?_⟩
  have n0 : Kn l.prog w K mg base "is_whole" 1 ["thing"] F_is_whole := kn_of F0 (PySem.W.mg_of X G a0) b0 sc_is_whole (fun ds m z q => many_Fof ds m z q) (fun cdv A outer s H EX hr hG => b_is_whole T TC cdv A outer s H EX hr hG) (keeps_Fof _ _ _)
  have n1 : Kn l.prog w K mg base "check_table" 1 ["thing"] F_check_table := kn_of F1 (PySem.W.mg_of X G a1) b1 sc_check_table (fun ds m z q => many_Fof0 ds m z q) (fun cdv A outer s H EX hr hG => b_check_table T TC cdv A outer s H EX hr hG) (keeps_Fof0 _ _ _)
  have n2 : Kn l.prog w K mg base "_unlike_three" 1 ["lines"] F_unlike_three := kn_of F2 (PySem.W.mg_of X G a2) b2 sc_unlike_three (fun ds m z q => many_Fof0 ds m z q) (fun cdv A outer s H EX hr hG => b_unlike_three T TC cdv A outer s H EX hr hG) (keeps_Fof0 _ _ _)
  have n3 : Kn l.prog w K mg base "commutated" 1 ["lines", "one", "other"] F_commutated := kn_of F3 (PySem.W.mg_of X G a3) b3 sc_commutated (fun ds m z q => many_Fof0 ds m z q) (fun cdv A outer s H EX hr hG => b_commutated T TC cdv A outer s H EX hr hG) (keeps_Fof0 _ _ _)
  have n4 : Kn l.prog w K mg base "spanned" 1 ["lines", "part"] F_spanned := kn_of F4 (PySem.W.mg_of X G a4) b4 sc_spanned (fun ds m z q => many_Fof0 ds m z q) (fun cdv A outer s H EX hr hG => b_spanned T TC cdv A outer s H EX hr hG) (keeps_Fof0 _ _ _)
  have n5 : Kn l.prog w K mg base "_law_cell" 1 ["_law_script", "_law_k"] F_law_cell := kn_of F5 (PySem.W.mg_of X G a5) b5 sc_law_cell (fun ds m z q => many_Fof0 ds m z q) (fun cdv A outer s H EX hr hG => b_law_cell T TC cdv A outer s H EX hr hG) (keeps_Fof0 _ _ _)
  have n6 : Kn l.prog w K mg base "_law_pool" 1 ["_law_cell_here"] F_law_pool := kn_of F6 (PySem.W.mg_of X G a6) b6 sc_law_pool (fun ds m z q => many_Fof0 ds m z q) (fun cdv A outer s H EX hr hG => b_law_pool T TC cdv A outer s H EX hr hG) (keeps_Fof0 _ _ _)
  have n7 : Kn l.prog w K mg base "_law_take" 1 ["_law_pool_here", "_law_many"] F_law_take := kn_of F7 (PySem.W.mg_of X G a7) b7 sc_law_take (fun ds m z q => many_Fof0 ds m z q) (fun cdv A outer s H EX hr hG => b_law_take T TC cdv A outer s H EX hr hG) (keeps_Fof0 _ _ _)
  have n8 : Kn l.prog w K mg base "_law_then" 1 ["_law_one", "_law_other"] F_law_then := kn_of F8 (PySem.W.mg_of X G a8) b8 sc_law_then (fun ds m z q => many_Fof0 ds m z q) (fun cdv A outer s H EX hr hG => b_law_then T TC cdv A outer s H EX hr hG) (keeps_Fof0 _ _ _)
  have n9 : Kn l.prog w K mg base "_law_backs" 1 ["_law_lines_here"] F_law_backs := kn_of F9 (PySem.W.mg_of X G a9) b9 sc_law_backs (fun ds m z q => many_Fof0 ds m z q) (fun cdv A outer s H EX hr hG => b_law_backs T TC cdv A outer s H EX hr hG) (keeps_Fof0 _ _ _)
  have n10 : Kn l.prog w K mg base "_law_made" 1 ["_law_lines_here", "_law_part"] F_law_made := kn_of F10 (PySem.W.mg_of X G a10) b10 sc_law_made (fun ds m z q => many_Fof0 ds m z q) (fun cdv A outer s H EX hr hG => b_law_made T TC cdv A outer s H EX hr hG) (keeps_Fof0 _ _ _)
  have n11 : Kn l.prog w K mg base "_law_is" 1 ["_law_told", "_law_due"] F_law_is := kn_of F11 (PySem.W.mg_of X G a11) b11 sc_law_is (fun ds m z q => many_Fof0 ds m z q) (fun cdv A outer s H EX hr hG => b_law_is T TC cdv A outer s H EX hr hG) (keeps_Fof0 _ _ _)
  have n12 : Kn l.prog w K mg base "is_between" 2 ["thing", "low", "high"] F_is_between := kn_of F12 (PySem.W.mg_of X G a12) b12 sc_is_between (fun ds m z q => many_Fof ds m z q) (fun cdv A outer s H EX hr hG => b_is_between T TC n0 cdv A outer s H EX hr hG) (keeps_Fof _ _ _)
  have n13 : Kn l.prog w K mg base "_commutators" 2 ["lines", "some", "others"] F_commutators := kn_of F13 (PySem.W.mg_of X G a13) b13 sc_commutators (fun ds m z q => many_Fof0 ds m z q) (fun cdv A outer s H EX hr hG => b_commutators T TC n4 n3 cdv A outer s H EX hr hG) (keeps_Fof0 _ _ _)
  have n14 : Kn l.prog w K mg base "_law_move" 2 ["_law_pool_here", "_law_points"] F_law_move := kn_of F14 (PySem.W.mg_of X G a14) b14 sc_law_move (fun ds m z q => many_Fof0 ds m z q) (fun cdv A outer s H EX hr hG => b_law_move T TC n7 cdv A outer s H EX hr hG) (keeps_Fof0 _ _ _)
  have n15 : Kn l.prog w K mg base "_law_members" 2 ["_law_points", "_law_moves", "_law_most"] F_law_members := kn_of F15 (PySem.W.mg_of X G a15) b15 sc_law_members (fun ds m z q => many_Fof0 ds m z q) (fun cdv A outer s H EX hr hG => b_law_members T TC n8 cdv A outer s H EX hr hG) (keeps_Fof0 _ _ _)
  have n16 : Kn l.prog w K mg base "_law_lines" 2 ["_law_members_here"] F_law_lines := kn_of F16 (PySem.W.mg_of X G a16) b16 sc_law_lines (fun ds m z q => many_Fof0 ds m z q) (fun cdv A outer s H EX hr hG => b_law_lines T TC n8 cdv A outer s H EX hr hG) (keeps_Fof0 _ _ _)
  have n17 : Kn l.prog w K mg base "_law_commutators" 2 ["_law_lines_here", "_law_firsts", "_law_seconds"] F_law_commutators := kn_of F17 (PySem.W.mg_of X G a17) b17 sc_law_commutators (fun ds m z q => many_Fof0 ds m z q) (fun cdv A outer s H EX hr hG => b_law_commutators T TC n9 cdv A outer s H EX hr hG) (keeps_Fof0 _ _ _)
  have n18 : Kn l.prog w K mg base "_law_are" 2 ["_law_told", "_law_due"] F_law_are := kn_of F18 (PySem.W.mg_of X G a18) b18 sc_law_are (fun ds m z q => many_Fof0 ds m z q) (fun cdv A outer s H EX hr hG => b_law_are T TC n11 cdv A outer s H EX hr hG) (keeps_Fof0 _ _ _)
  have n19 : Kn l.prog w K mg base "is_rising" 3 ["thing", "many"] F_is_rising := kn_of F19 (PySem.W.mg_of X G a19) b19 sc_is_rising (fun ds m z q => many_Fof0 ds m z q) (fun cdv A outer s H EX hr hG => b_is_rising T TC n12 cdv A outer s H EX hr hG) (keeps_Fof0 _ _ _)
  have n20 : Kn l.prog w K mg base "_is_line" 3 ["line", "many"] F_is_line := kn_of F20 (PySem.W.mg_of X G a20) b20 sc_is_line (fun ds m z q => many_Fof0 ds m z q) (fun cdv A outer s H EX hr hG => b_is_line T TC n12 cdv A outer s H EX hr hG) (keeps_Fof0 _ _ _)
  have n21 : Kn l.prog w K mg base "_series" 3 ["lines", "with_all"] F_series := kn_of F21 (PySem.W.mg_of X G a21) b21 sc_series (fun ds m z q => many_Fof0 ds m z q) (fun cdv A outer s H EX hr hG => b_series T TC n13 cdv A outer s H EX hr hG) (keeps_Fof0 _ _ _)
  have n22 : Kn l.prog w K mg base "_law_small" 3 ["_law_pool_here", "_law_most"] F_law_small := kn_of F22 (PySem.W.mg_of X G a22) b22 sc_law_small (fun ds m z q => many_Fof0 ds m z q) (fun cdv A outer s H EX hr hG => b_law_small T TC n7 n14 n15 cdv A outer s H EX hr hG) (keeps_Fof0 _ _ _)
  have n23 : Kn l.prog w K mg base "_law_series" 3 ["_law_lines_here", "_law_lower"] F_law_series := kn_of F23 (PySem.W.mg_of X G a23) b23 sc_law_series (fun ds m z q => many_Fof0 ds m z q) (fun cdv A outer s H EX hr hG => b_law_series T TC n10 n17 cdv A outer s H EX hr hG) (keeps_Fof0 _ _ _)
  have n24 : Kn l.prog w K mg base "_has_form" 4 ["lines"] F_has_form := kn_of F24 (PySem.W.mg_of X G a24) b24 sc_has_form (fun ds m z q => many_Fof0 ds m z q) (fun cdv A outer s H EX hr hG => b_has_form T TC n20 cdv A outer s H EX hr hG) (keeps_Fof0 _ _ _)
  have n25 : Kn l.prog w K mg base "_is_part" 4 ["table", "thing"] F_is_part := kn_of F25 (PySem.W.mg_of X G a25) b25 sc_is_part (fun ds m z q => many_Fof0 ds m z q) (fun cdv A outer s H EX hr hG => b_is_part T TC n19 cdv A outer s H EX hr hG) (keeps_Fof0 _ _ _)
  have nn26_0 : KnN l.prog w K mg base "derived_series" 4 ["table"] ["table"] [0] F_derived_series := ⟨f26, _, fn_ok F26 sc_derived_series (fun ds m z q => many_Fof0 ds m z q) (fun cdv A outer s H EX hr hG => b_derived_series T TC n1 n21 cdv A outer s H EX hr hG) (keeps_Fof0 _ _ _), PySem.W.mg_of X G a26, k26, byName_of F26 fun _ _ _ _ _ _ us hl => match us, hl with | [_], _ => ⟨rfl, rfl⟩⟩
  have n26 : Kn l.prog w K mg base "derived_series" 4 ["table"] F_derived_series := kn_of F26 (PySem.W.mg_of X G a26) b26 sc_derived_series (fun ds m z q => many_Fof0 ds m z q) (fun cdv A outer s H EX hr hG => b_derived_series T TC n1 n21 cdv A outer s H EX hr hG) (keeps_Fof0 _ _ _)
  have nn27_0 : KnN l.prog w K mg base "lower_series" 4 ["table"] ["table"] [0] F_lower_series := ⟨f27, _, fn_ok F27 sc_lower_series (fun ds m z q => many_Fof0 ds m z q) (fun cdv A outer s H EX hr hG => b_lower_series T TC n1 n21 cdv A outer s H EX hr hG) (keeps_Fof0 _ _ _), PySem.W.mg_of X G a27, k27, byName_of F27 fun _ _ _ _ _ _ us hl => match us, hl with | [_], _ => ⟨rfl, rfl⟩⟩
  have n27 : Kn l.prog w K mg base "lower_series" 4 ["table"] F_lower_series := kn_of F27 (PySem.W.mg_of X G a27) b27 sc_lower_series (fun ds m z q => many_Fof0 ds m z q) (fun cdv A outer s H EX hr hG => b_lower_series T TC n1 n21 cdv A outer s H EX hr hG) (keeps_Fof0 _ _ _)
  have n28 : Kn l.prog w K mg base "fault" 5 ["lines"] F_fault := kn_of F28 (PySem.W.mg_of X G a28) b28 sc_fault (fun ds m z q => many_Fof0 ds m z q) (fun cdv A outer s H EX hr hG => b_fault T TC n24 n2 cdv A outer s H EX hr hG) (keeps_Fof0 _ _ _)
  have n29 : Kn l.prog w K mg base "check_sub" 5 ["table", "thing"] F_check_sub := kn_of F29 (PySem.W.mg_of X G a29) b29 sc_check_sub (fun ds m z q => many_Fof0 ds m z q) (fun cdv A outer s H EX hr hG => b_check_sub T TC n25 cdv A outer s H EX hr hG) (keeps_Fof0 _ _ _)
  have n30 : KnC l.prog w K mg base "Table" 6 ["self", "lines"] F_Table__init := ⟨C_Table, f30, _, a_Table, ⟨mk_Table, a30, i30, kc_Table⟩, fn_ok F30 sc_Table__init (fun ds m z q => many_Fof0 ds m z q) (fun cdv A outer s H EX hr hG => b_Table__init T TC n28 cdv A outer s H EX hr hG) (keeps_Fof0 _ _ _), PySem.W.mg_of X G a_Table, b30⟩
  have nn31_01 : KnN l.prog w K mg base "derived" 6 ["table", "sub"] ["table", "sub"] [0, 1] F_derived := ⟨f31, _, fn_ok F31 sc_derived (fun ds m z q => many_Fof0 ds m z q) (fun cdv A outer s H EX hr hG => b_derived T TC n1 n29 n13 cdv A outer s H EX hr hG) (keeps_Fof0 _ _ _), PySem.W.mg_of X G a31, k31, byName_of F31 fun _ _ _ _ _ _ us hl => match us, hl with | [_, _], _ => ⟨rfl, rfl⟩⟩
  have n31 : Kn l.prog w K mg base "derived" 6 ["table", "sub"] F_derived := kn_of F31 (PySem.W.mg_of X G a31) b31 sc_derived (fun ds m z q => many_Fof0 ds m z q) (fun cdv A outer s H EX hr hG => b_derived T TC n1 n29 n13 cdv A outer s H EX hr hG) (keeps_Fof0 _ _ _)
  exact fn_ok (F := F_law) F32 sc_law (fun ds m z q => many_Fof0 ds m z q) (fun cdv A outer s H EX hr hG => b_law T TC n6 n5 n16 n22 n7 n30 n10 n17 n11 n31 n18 n26 n23 n27 nn31_01 nn27_0 nn26_0 cdv A outer s H EX hr hG) (keeps_Fof0 _ _ _)
end k24
open PySem PySem.W PyProof.Rows
set_option maxHeartbeats 0 in
theorem PySem.Challenge.cw_movegroups_k24_series_of_parts_holds : PySem.Challenge.rw_movegroups_k24_series_of_parts.Holds := by
  w_on; o_law; k_head; (case hw => w_witness2)
  k_fill
  refine Mv.walk_ofG (l := PySem.Challenge.rw_movegroups_k24_series_of_parts) (n := 63) (k := 8) (x := "_law_script") (F := k24.F_law) rfl (by decide) rfl ⟨rfl, by decide, by decide⟩ (fun w h Y => PySem.W.kIn_of Y) ?F (fun ns _ => k24.law_ev ns)
  case F =>
    intro w mg fa h KX G hmg
    refine' k24.all_mk KX G hmg ?a_Table ?pg_Table ?hd_Table ?po_Table ?sa_Table ?mk_Table ?kc_Table ?ha_Table ?hm_Table ?me_Table ?na_Table_lines ?kt_Table_NoneType ?kt_Table_bool ?kt_Table_int ?kt_Table_str ?kt_Table_tuple ?kt_Table_list ?kt_Table_dict ?gs_get ?gs_tk ?a0 ?l0 ?c0 ?k0 ?a1 ?l1 ?c1 ?k1 ?a2 ?l2 ?c2 ?k2 ?a3 ?l3 ?c3 ?k3 ?a4 ?l4 ?c4 ?k4 ?a5 ?l5 ?c5 ?k5 ?a6 ?l6 ?c6 ?k6 ?a7 ?l7 ?c7 ?k7 ?a8 ?l8 ?c8 ?k8 ?a9 ?l9 ?c9 ?k9 ?a10 ?l10 ?c10 ?k10 ?a11 ?l11 ?c11 ?k11 ?a12 ?l12 ?c12 ?k12 ?a13 ?l13 ?c13 ?k13 ?a14 ?l14 ?c14 ?k14 ?a15 ?l15 ?c15 ?k15 ?a16 ?l16 ?c16 ?k16 ?a17 ?l17 ?c17 ?k17 ?a18 ?l18 ?c18 ?k18 ?a19 ?l19 ?c19 ?k19 ?a20 ?l20 ?c20 ?k20 ?a21 ?l21 ?c21 ?k21 ?a22 ?l22 ?c22 ?k22 ?a23 ?l23 ?c23 ?k23 ?a24 ?l24 ?c24 ?k24 ?a25 ?l25 ?c25 ?k25 ?a26 ?l26 ?c26 ?k26 ?a27 ?l27 ?c27 ?k27 ?a28 ?l28 ?c28 ?k28 ?a29 ?l29 ?c29 ?k29 ?a30 ?i30 ?l30 ?c30 ?k30 ?a31 ?l31 ?c31 ?k31 ?a32 ?l32 ?c32 ?k32 ?z_abs ?z_all ?z_any ?z_bool ?z_dict ?z_divmod ?z_enumerate ?z_int ?z_isinstance ?z_len ?z_list ?z_max ?z_min ?z_range ?z_sorted ?z_tuple ?z_zip ?q_MOST_ORDER
    (case a_Table => k_is); (case pg_Table => k_is); (case hd_Table => k_is); (case po_Table => k_is); (case sa_Table => k_is); (case mk_Table => k_is); (case kc_Table => k_is); (case ha_Table => k_is); (case hm_Table => k_is); (case me_Table => kit_is); (case na_Table_lines => k_is); (case kt_Table_NoneType => kit_is); (case kt_Table_bool => kit_is); (case kt_Table_int => kit_is); (case kt_Table_str => kit_is); (case kt_Table_tuple => kit_is); (case kt_Table_list => kit_is); (case kt_Table_dict => kit_is); (case gs_get => k_is); (case gs_tk => k_is); (case a0 => k_is); (case l0 => k_is); (case c0 => k_is); (case k0 => k_is); (case a1 => k_is); (case l1 => k_is); (case c1 => k_is); (case k1 => k_is); (case a2 => k_is); (case l2 => k_is); (case c2 => k_is); (case k2 => k_is); (case a3 => k_is); (case l3 => k_is); (case c3 => k_is); (case k3 => k_is); (case a4 => k_is); (case l4 => k_is); (case c4 => k_is); (case k4 => k_is); (case a5 => k_is); (case l5 => k_is); (case c5 => k_is); (case k5 => k_is); (case a6 => k_is); (case l6 => k_is); (case c6 => k_is); (case k6 => k_is); (case a7 => k_is); (case l7 => k_is); (case c7 => k_is); (case k7 => k_is); (case a8 => k_is); (case l8 => k_is); (case c8 => k_is); (case k8 => k_is); (case a9 => k_is); (case l9 => k_is); (case c9 => k_is); (case k9 => k_is); (case a10 => k_is); (case l10 => k_is); (case c10 => k_is); (case k10 => k_is); (case a11 => k_is); (case l11 => k_is); (case c11 => k_is); (case k11 => k_is); (case a12 => k_is); (case l12 => k_is); (case c12 => k_is); (case k12 => k_is); (case a13 => k_is); (case l13 => k_is); (case c13 => k_is); (case k13 => k_is); (case a14 => k_is); (case l14 => k_is); (case c14 => k_is); (case k14 => k_is); (case a15 => k_is); (case l15 => k_is); (case c15 => k_is); (case k15 => k_is); (case a16 => k_is); (case l16 => k_is); (case c16 => k_is); (case k16 => k_is); (case a17 => k_is); (case l17 => k_is); (case c17 => k_is); (case k17 => k_is); (case a18 => k_is); (case l18 => k_is); (case c18 => k_is); (case k18 => k_is); (case a19 => k_is); (case l19 => k_is); (case c19 => k_is); (case k19 => k_is); (case a20 => k_is); (case l20 => k_is); (case c20 => k_is); (case k20 => k_is); (case a21 => k_is); (case l21 => k_is); (case c21 => k_is); (case k21 => k_is); (case a22 => k_is); (case l22 => k_is); (case c22 => k_is); (case k22 => k_is); (case a23 => k_is); (case l23 => k_is); (case c23 => k_is); (case k23 => k_is); (case a24 => k_is); (case l24 => k_is); (case c24 => k_is); (case k24 => k_is); (case a25 => k_is); (case l25 => k_is); (case c25 => k_is); (case k25 => k_is); (case a26 => k_is); (case l26 => k_is); (case c26 => k_is); (case k26 => k_is); (case a27 => k_is); (case l27 => k_is); (case c27 => k_is); (case k27 => k_is); (case a28 => k_is); (case l28 => k_is); (case c28 => k_is); (case k28 => k_is); (case a29 => k_is); (case l29 => k_is); (case c29 => k_is); (case k29 => k_is); (case a30 => k_is); (case i30 => k_is); (case l30 => k_is); (case c30 => k_is); (case k30 => k_is); (case a31 => k_is); (case l31 => k_is); (case c31 => k_is); (case k31 => k_is); (case a32 => k_is); (case l32 => k_is); (case c32 => k_is); (case k32 => k_is); (case z_abs => k_is); (case z_all => k_is); (case z_any => k_is); (case z_bool => k_is); (case z_dict => k_is); (case z_divmod => k_is); (case z_enumerate => k_is); (case z_int => k_is); (case z_isinstance => k_is); (case z_len => k_is); (case z_list => k_is); (case z_max => k_is); (case z_min => k_is); (case z_range => k_is); (case z_sorted => k_is); (case z_tuple => k_is); (case z_zip => k_is); (case q_MOST_ORDER => k_is)

