import PyProof.Rows.All
import HandS.TupSets
import Wide.All
import OpenK.AllK
import Wide.FinOn
import HandS.ForMost
import HandS.ForExc
import HandS.TupAny
import HandS.Conv
import HandS.Strs
import KE.KDictKeyed
import KE.KDictDisplayH
import KE.KDictWalk
import HandS.DictComp
import HandS.TupLen
import HandS.SetIn
import HandS.IsInst
import HandS.Wide
import KE.SortData
import KE.LtData
import PyProof.TupleOfSeq
import HandS.Property
import PyProof.InstNe
import PyProof.FactsAll.object_2
import HandS.OwnEq
import HandS.IterVal
import HandS.Star
import HandS.Words
import KE.GoesEnum
import KE.GoesMore
import HandS.WordsList
import HandS.EndBits
import HandS.Style
import KE.KDictPairs
import KE.KEqDict
import HandS.DictTup
import KE.KDictCopyH
import KE.DataMinMax
import PySem.Challenge.RW_forgetwork_k06_known
set_option Elab.async false
set_option linter.all false
set_option maxRecDepth 100000
namespace MX
open PySem PySem.Spec PyProof.Rows L2
/-! ### the round of 5 x + 1 modulo a power of two -/
def lc : Nat → Nat
  | 0 => 0
  | n + 1 => lc n * 5 + 1
theorem lcgN_lc (m : Nat) : ∀ b, lcgN m b = lc b % (m + 1)
  | 0 => by show 0 = 0 % (m + 1); simp
  | b + 1 => by
    show (lcgN m b * 5 + 1) % (m + 1) = (lc b * 5 + 1) % (m + 1)
    rw [lcgN_lc m b, Nat.add_mod, Nat.mul_mod, Nat.mod_mod, ← Nat.mul_mod, ← Nat.add_mod]
theorem lc_add (a : Nat) : ∀ b, lc (a + b) = 5 ^ b * lc a + lc b
  | 0 => by simp [lc]
  | b + 1 => by
    show lc (a + b) * 5 + 1 = 5 ^ (b + 1) * lc a + (lc b * 5 + 1)
    rw [lc_add a b, Nat.pow_succ, Nat.add_mul]
    have : 5 ^ b * lc a * 5 = 5 ^ b * 5 * lc a := by rw [Nat.mul_assoc, Nat.mul_comm (lc a) 5, ← Nat.mul_assoc]
    omega
theorem five_four : ∀ n : Nat, ∃ q, 5 ^ n = 4 * q + 1
  | 0 => ⟨0, rfl⟩
  | n + 1 => by
    obtain ⟨q, e⟩ := five_four n
    exact ⟨5 * q + 1, by rw [Nat.pow_succ, e]; omega⟩
theorem lc_two : ∀ k : Nat, ∃ c, lc (2 ^ k) = 2 ^ k * (2 * c + 1)
  | 0 => ⟨0, rfl⟩
  | k + 1 => by
    obtain ⟨c, e⟩ := lc_two k
    obtain ⟨q, e5⟩ := five_four (2 ^ k)
    refine ⟨2 * c * q + c + q, ?_⟩
    have e2 : 2 ^ (k + 1) = 2 ^ k + 2 ^ k := by rw [Nat.pow_succ]; omega
    rw [e2, lc_add, e5, e]
    have : (4 * q + 1) * (2 ^ k * (2 * c + 1)) + 2 ^ k * (2 * c + 1) = 2 ^ k * ((4 * q + 2) * (2 * c + 1)) := by
      rw [Nat.mul_left_comm, ← Nat.mul_add]
      congr 1
      rw [Nat.add_mul, Nat.add_mul]
      omega
    rw [this]
    have e3 : (4 * q + 2) * (2 * c + 1) = 2 * (2 * (2 * c * q + c + q) + 1) := by
      have : q * c = c * q := Nat.mul_comm _ _
      have h1 : 2 * c * q = 2 * (c * q) := Nat.mul_assoc _ _ _
      have h2 : (4 * q + 2) * (2 * c + 1) = 8 * (c * q) + 4 * q + 4 * c + 2 := by
        rw [Nat.add_mul, Nat.mul_add, Nat.mul_add]
        have : 4 * q * (2 * c) = 8 * (c * q) := by rw [Nat.mul_mul_mul_comm, Nat.mul_comm q c]
        omega
      omega
    rw [e3, ← Nat.two_mul (2 ^ k), Nat.mul_left_comm]
    exact (Nat.mul_assoc _ _ _).symm
theorem lc_onto : ∀ (k j : Nat), j < 2 ^ k → ∃ b, b < 2 ^ k ∧ lc b % 2 ^ k = j
  | 0, j, h => ⟨0, by decide, by have : j = 0 := by simpa using h
                                 rw [this]; rfl⟩
  | k + 1, j, h => by
    have e2 : 2 ^ (k + 1) = 2 ^ k + 2 ^ k := by rw [Nat.pow_succ]; omega
    have hp : 0 < 2 ^ k := Nat.two_pow_pos k
    obtain ⟨b, hb, e⟩ := lc_onto k (j % 2 ^ k) (Nat.mod_lt _ hp)
    by_cases g : lc b % 2 ^ (k + 1) = j
    · exact ⟨b, by omega, g⟩
    · refine ⟨2 ^ k + b, by omega, ?_⟩
      obtain ⟨c, ec⟩ := lc_two k
      obtain ⟨q, e5⟩ := five_four b
      have e6 : lc (2 ^ k + b) = 2 ^ (k + 1) * (2 * q * (2 * c + 1) + c) + 2 ^ k + lc b := by
        rw [lc_add, ec, e5]
        congr 1
        rw [Nat.mul_left_comm, Nat.pow_succ, Nat.mul_assoc, ← Nat.mul_add_one (2 ^ k)]
        congr 1
        rw [Nat.add_mul]
        have : 4 * q * (2 * c + 1) = 2 * (2 * q * (2 * c + 1)) := by rw [← Nat.mul_assoc, ← Nat.mul_assoc]
        omega
      rw [e6, Nat.add_assoc, Nat.mul_add_mod]
      rw [e2] at g h ⊢
      generalize 2 ^ k = p at *
      have d1 := Nat.div_add_mod (lc b) (p + p)
      have d2 : lc b % (p + p) < p + p := Nat.mod_lt _ (by omega)
      generalize lc b % (p + p) = r at *
      have er : r % p = j % p := by
        rw [← e, ← d1]
        have : (p + p) * (lc b / (p + p)) = p * (2 * (lc b / (p + p))) := by rw [← Nat.two_mul, Nat.mul_comm 2 p, Nat.mul_assoc]
        rw [this, Nat.mul_add_mod]
      have : (p + lc b) % (p + p) = (p + r) % (p + p) := by
        rw [← d1, Nat.add_left_comm, Nat.mul_add_mod]
      rw [this]
      have r1 : r % p = if r < p then r else r - p := by
        split
        · exact Nat.mod_eq_of_lt (by assumption)
        · rw [Nat.mod_eq_sub_mod (by omega), Nat.mod_eq_of_lt (by omega)]
      have j1 : j % p = if j < p then j else j - p := by
        split
        · exact Nat.mod_eq_of_lt (by assumption)
        · rw [Nat.mod_eq_sub_mod (by omega), Nat.mod_eq_of_lt (by omega)]
      rw [r1, j1] at er
      by_cases z : r < p
      · rw [if_pos z] at er
        rw [Nat.mod_eq_of_lt (by omega)]
        split at er <;> omega
      · rw [if_neg z] at er
        have : p + r = (p + p) + (r - p) := by omega
        rw [this, Nat.add_mod_left, Nat.mod_eq_of_lt (by omega)]
        split at er <;> omega
/-- the masks that occur: one less than a power of two -/
def MkP (m : Nat) : Prop := ∃ k, 3 ≤ k ∧ m + 1 = 2 ^ k
section
variable {m : Nat}
theorem MkP.odd (h : MkP m) : m % 2 = 1 := by
  obtain ⟨k, h3, e⟩ := h
  obtain ⟨q, rfl⟩ : ∃ q, k = q + 1 := ⟨k - 1, by omega⟩
  rw [Nat.pow_succ] at e
  omega
theorem step_onto (h : MkP m) {j : Nat} (hj : j ≤ m) : ∃ b, b ≤ m ∧ lcgN m b = j := by
  obtain ⟨k, _, e⟩ := h
  obtain ⟨b, h1, h2⟩ := lc_onto k j (by omega)
  exact ⟨b, by omega, by rw [lcgN_lc, e]; exact h2⟩
theorem step_back (h : MkP m) : ∀ k, lcgN m (m + 1 + k) = lcgN m k := fun q => by
  obtain ⟨k, _, e⟩ := h
  rw [lcgN_lc, lcgN_lc, e, lc_add]
  obtain ⟨c, ec⟩ := lc_two k
  rw [ec, Nat.mul_left_comm, Nat.mul_add_mod]
/-- within a round from i each j comes -/
theorem round_all (h : MkP m) {i j : Nat} (hi : i ≤ m) (hj : j ≤ m) : ∃ k, k ≤ m ∧ lcgI m i k = j := by
  obtain ⟨a, a1, a2⟩ := step_onto h hi
  obtain ⟨b, b1, b2⟩ := step_onto h hj
  rw [← a2]
  by_cases c : a ≤ b
  · exact ⟨b - a, by omega, by rw [lcgN_add, show a + (b - a) = b by omega]; exact b2⟩
  · exact ⟨m + 1 + b - a, by omega, by rw [lcgN_add, show a + (m + 1 + b - a) = m + 1 + b by omega, step_back h]; exact b2⟩
theorem runs_meet (hm : MkP m) (h : Int) {j : Nat} (hj : j ≤ m) : ∃ n, n ≤ m + 12 ∧ runI m (SetTable.bits h) n = j := by
  obtain ⟨k, k1, k2⟩ := round_all hm (runI_le m (SetTable.bits h) 12) hj
  exact ⟨12 + k, by omega, (runI_tail (bits_lt h) k).trans k2⟩
theorem ways_meet (hm : MkP m) (h : Int) {j : Nat} (hj : j ≤ m) : ∃ k, k < 10 * SetTable.turns m ∧ way m h k = j := by
  obtain ⟨n, n1, n2⟩ := runs_meet hm h hj
  obtain ⟨k, k1, k2⟩ := run_nth m (SetTable.bits h) n
  refine ⟨k, by unfold SetTable.turns; omega, ?_⟩
  show (nth m (runAt m (SetTable.bits h % (m + 1)) (SetTable.bits h)) k).j = j
  rw [k2]
  exact n2
theorem way_in (h : Int) (k : Nat) : way m h k ≤ m := by
  have hi : SetTable.bits h % (m + 1) ≤ m := Nat.le_of_lt_succ (Nat.mod_lt _ (Nat.succ_pos _))
  obtain ⟨r1, r2, _⟩ := runEnd_bd hi
  have q := nth_in (m := m) k (runAt m (SetTable.bits h % (m + 1)) (SetTable.bits h)) (show SetTable.bits h % (m + 1) + (SetTable.runEnd m (SetTable.bits h % (m + 1)) - SetTable.bits h % (m + 1)) ≤ m by omega)
  exact Nat.le_trans (Nat.le_add_right _ _) q
end
end MX


set_option Elab.async false
set_option linter.all false
set_option maxRecDepth 100000
namespace MX
open PySem PySem.Spec PyProof.Rows L2
/-! ### a table in which every entry is met before a free slot -/
structure TbQ (t : SetTable) (hs : List Int) : Prop where
  asc : Ris t.place.toList
  nod : t.dummies = #[]
  cnt : t.place.toList.length = hs.length
  msk : MkP t.mask
  bnd : ∀ q ∈ t.place.toList, q ≤ t.mask
  met : ∀ (n : Nat) (v : Int) (q : Nat), hs[n]? = some v → t.place.toList[n]? = some q → ∃ c, way t.mask v c = q ∧ ∀ e, e < c → way t.mask v e ∈ t.place.toList
section
variable {t : SetTable} {hs : List Int} {v : Int}
theorem TbQ.fresh (f mv : Nat) (l : Bool) : TbQ (.fresh f mv l) [] where
  asc := List.Pairwise.nil
  nod := rfl
  cnt := rfl
  msk := ⟨3, Nat.le_refl _, rfl⟩
  bnd := fun q hq => by cases hq
  met := fun n v q h => by cases h
/-- there is a free slot, and a first one on the way -/
theorem TbQ.gap (T : TbQ t hs) (room : hs.length ≤ t.mask) (v : Int) : ∃ K, K < 10 * SetTable.turns t.mask ∧ way t.mask v K ∉ t.place.toList ∧ ∀ c, c < K → way t.mask v c ∈ t.place.toList := by
  obtain ⟨q, q1, q2⟩ := st_missing t.place.toList (t.mask + 1) (by have := T.cnt; omega)
  obtain ⟨c, c1, c2⟩ := ways_meet T.msk v (show q ≤ t.mask by omega)
  obtain ⟨K, k1, k2, k3⟩ := st_least (p := fun c => way t.mask v c ∉ t.place.toList) c (fun z => q2 (by rw [← c2]; exact z))
  exact ⟨K, by omega, k2, fun e he => Classical.byContradiction fun z => k3 e he z⟩
theorem TbQ.pre (T : TbQ t hs) {K n q : Nat} (free : way t.mask v K ∉ t.place.toList) (hn : hs[n]? = some v) (hq : t.place.toList[n]? = some q) : ∃ c, c < K ∧ way t.mask v c = q := by
  obtain ⟨c, c1, c2⟩ := T.met n v q hn hq
  refine ⟨c, ?_, c1⟩
  rcases Nat.lt_or_ge c K with z | z
  · exact z
  · exfalso
    rcases Nat.eq_or_lt_of_le z with y | y
    · exact free (by rw [y, c1]; exact List.mem_of_getElem? hq)
    · exact free (c2 K y)
theorem ins_lift {l : List Nat} {p j q : Nat} (h : q ∈ l) : q ∈ l.take p ++ j :: l.drop p := mem_ins.mpr (Or.inr h)
/-- one more entry, at the first free slot of its way -/
theorem TbQ.ins (T : TbQ t hs) {K : Nat} (free : way t.mask v K ∉ t.place.toList) (full : ∀ c, c < K → way t.mask v c ∈ t.place.toList) :
    ∃ (u : SetTable) (p : Nat), t.put (way t.mask v K) = (u, p) ∧ p ≤ hs.length ∧ TbQ u (hs.take p ++ v :: hs.drop p) ∧ u.mask = t.mask ∧ u.led = t.led ∧ u.plain = t.plain ∧ u.fill = hs.length + 1 := by
  generalize hj : way t.mask v K = j at free
  obtain ⟨a1, _, _⟩ := below_cut T.asc j
  have pl : SetTable.below t.place j ≤ t.place.toList.length := by rw [Array.length_toList]; exact a1
  have ph : SetTable.below t.place j ≤ hs.length := by rw [← T.cnt]; exact pl
  have place := put_place t j
  have dm := put_dm T.nod j
  have nt : t.place[SetTable.below t.place j]? ≠ some j := fun z => free (List.mem_of_getElem? (by rw [Array.getElem?_toList]; exact z))
  have asc' := ris_insert T.asc nt
  generalize hp : SetTable.below t.place j = p at pl ph place asc'
  have len : (t.put j).1.place.toList.length = hs.length + 1 := by rw [place, len_ins _ pl, T.cnt]
  refine ⟨(t.put j).1, p, by rw [← hp]; rfl, ph, ⟨?_, dm, ?_, T.msk, ?_, ?_⟩, rfl, rfl, rfl, ?_⟩
  · have e : (t.put j).1.place = SetTable.insertAt t.place p j := by rw [← hp]; rfl
    rw [e]; exact asc'
  · rw [len, len_ins _ ph]
  · intro q hq
    rw [place] at hq
    rcases mem_ins.mp hq with z | z
    · rw [z, ← hj]; exact way_in v K
    · exact T.bnd q z
  · intro n v' q h1 h2
    show ∃ c, way t.mask v' c = q ∧ ∀ e, e < c → way t.mask v' e ∈ (t.put j).1.place.toList
    rw [place] at h2 ⊢
    rw [tins_get _ ph] at h1
    rw [tins_get _ pl] at h2
    have old : ∀ n', hs[n']? = some v' → t.place.toList[n']? = some q → ∃ c, way t.mask v' c = q ∧ ∀ e, e < c → way t.mask v' e ∈ t.place.toList.take p ++ j :: t.place.toList.drop p := fun n' g1 g2 => by
      obtain ⟨c, c1, c2⟩ := T.met n' v' q g1 g2
      exact ⟨c, c1, fun e he => ins_lift (c2 e he)⟩
    by_cases y : n < p
    · rw [if_pos y] at h1 h2
      exact old n h1 h2
    · rw [if_neg y] at h1 h2
      by_cases z : n = p
      · rw [if_pos z] at h1 h2
        cases h1
        cases h2
        exact ⟨K, hj, fun e he => ins_lift (full e he)⟩
      · rw [if_neg z] at h1 h2
        exact old (n - 1) h1 h2
  · show (t.put j).1.place.size + (t.put j).1.dummies.size = hs.length + 1
    rw [dm, ← Array.length_toList, len]
    rfl
end
/-! ### laid anew -/
theorem slot_find {m : Nat} (hm : MkP m) (owner : Array (Option Nat)) (v : Int) {j : Nat} (hj : j ≤ m) (hf : oAt owner j = none) :
    ∃ K, SetTable.layClean.free m owner (SetTable.turns m) (SetTable.bits v % (m + 1)) (SetTable.bits v) = some (way m v K) ∧ oAt owner (way m v K) = none ∧ ∀ c, c < K → oAt owner (way m v c) ≠ none := by
  obtain ⟨n, n1, n2⟩ := runs_meet hm v hj
  have at_ : way m v (off m (SetTable.bits v % (m + 1)) (SetTable.bits v) n) = j := by
    show (nth m (runAt m _ _) (off m _ _ n)).j = j
    rw [nth_off, itL_run]; exact n2
  obtain ⟨K, k1, k2, k3⟩ := st_least (p := fun c => oAt owner (way m v c) = none) _ (show oAt owner (way m v (off m (SetTable.bits v % (m + 1)) (SetTable.bits v) n)) = none by rw [at_]; exact hf)
  refine ⟨K, free_spec m owner (SetTable.turns m) n _ _ K (by unfold SetTable.turns; omega) k1 (fun c hc => ?_) (Option.isNone_iff_eq_none.mpr k2), k2, k3⟩
  cases z : oAt owner (nth m (runAt m (SetTable.bits v % (m + 1)) (SetTable.bits v)) c).j with
  | none => exact (k3 c hc z).elim
  | some _ => rfl
/-- who sits where, when the first hashes are laid -/
structure Sit (m : Nat) (gone : List Int) (owner : Array (Option Nat)) : Prop where
  size : owner.size = m + 1
  who : ∀ (j k : Nat), j ≤ m → oAt owner j = some k → ∃ v K, gone[k]? = some v ∧ way m v K = j ∧ ∀ c, c < K → oAt owner (way m v c) ≠ none
  has : ∀ k, k < gone.length → ∃ j, j ≤ m ∧ oAt owner j = some k
  few : ∃ L : List Nat, L.length = gone.length ∧ ∀ j, j ≤ m → oAt owner j ≠ none → j ∈ L
theorem Sit.zero (m : Nat) : Sit m [] (Array.replicate (m + 1) Option.none) :=
  ⟨by simp, fun j k hj e => absurd (e.symm.trans (oAt_init hj)) (by simp), fun k hk => absurd hk (Nat.not_lt_zero k), [], rfl, fun j hj e => (e (oAt_init hj)).elim⟩
theorem Sit.one {m : Nat} (hm : MkP m) {gone : List Int} {owner : Array (Option Nat)} (S : Sit m gone owner) (room : gone.length ≤ m) (v : Int) :
    ∃ j, SetTable.layClean.free m owner (SetTable.turns m) (SetTable.bits v % (m + 1)) (SetTable.bits v) = some j ∧ Sit m (gone ++ [v]) (owner.setIfInBounds j (some gone.length)) := by
  obtain ⟨L, l1, l2⟩ := S.few
  obtain ⟨q, q1, q2⟩ := st_missing L (m + 1) (by omega)
  have qf : oAt owner q = none := Classical.byContradiction fun z => q2 (l2 q (by omega) z)
  obtain ⟨K, e1, e2, e3⟩ := slot_find hm owner v (show q ≤ m by omega) qf
  have jm : way m v K ≤ m := way_in v K
  generalize hj : way m v K = j at e1 e2 jm
  have self := oAt_set_self (some gone.length) (show j < owner.size by rw [S.size]; omega)
  have up : ∀ {i : Nat}, oAt owner i ≠ none → oAt (owner.setIfInBounds j (some gone.length)) i ≠ none := fun {i} hi => by
    by_cases c : i = j
    · rw [c, self]; simp
    · rw [oAt_set_ne _ c]; exact hi
  refine ⟨j, e1, ⟨by rw [Array.size_setIfInBounds, S.size], ?_, ?_, j :: L, by simp [l1], ?_⟩⟩
  · intro i k hi e
    by_cases c : i = j
    · rw [c, self] at e
      cases e
      exact ⟨v, K, by simp, hj.trans c.symm, fun d hd => up (e3 d hd)⟩
    · rw [oAt_set_ne _ c] at e
      obtain ⟨v', K', g1, g2, g3⟩ := S.who i k hi e
      exact ⟨v', K', (List.getElem?_append_left (List.getElem?_eq_some_iff.mp g1).1).trans g1, g2, fun d hd => up (g3 d hd)⟩
  · intro k hk
    rcases Nat.lt_or_ge k gone.length with c | c
    · obtain ⟨i, i1, i2⟩ := S.has k c
      exact ⟨i, i1, by rw [oAt_set_ne _ fun z => by rw [z, e2] at i2; cases i2]; exact i2⟩
    · have : k = gone.length := by rw [List.length_append, List.length_singleton] at hk; omega
      rw [this]
      exact ⟨j, jm, self⟩
  · intro i hi e
    by_cases c : i = j
    · rw [c]; exact List.mem_cons_self
    · exact List.mem_cons_of_mem j (l2 i hi (by rwa [oAt_set_ne _ c] at e))
theorem Sit.all {m : Nat} (hm : MkP m) : ∀ (todo gone : List Int) (owner : Array (Option Nat)), Sit m gone owner → gone.length + todo.length ≤ m + 1 →
    ∃ o2, todo.foldl (stepF m) (some (owner, gone.length)) = some (o2, gone.length + todo.length) ∧ Sit m (gone ++ todo) o2
  | [], gone, owner, S, _ => ⟨owner, rfl, by rw [List.append_nil]; exact S⟩
  | v :: todo, gone, owner, S, room => by
    rw [List.length_cons] at room
    obtain ⟨j, e, S2⟩ := S.one hm (by omega) v
    have l2 : (gone ++ [v]).length = gone.length + 1 := by simp
    obtain ⟨o2, f1, f2⟩ := Sit.all hm todo (gone ++ [v]) _ S2 (by omega)
    refine ⟨o2, ?_, by rw [List.append_assoc] at f2; exact f2⟩
    rw [List.foldl_cons, stepF_some e, ← l2, f1, l2, List.length_cons]
    congr 2
    omega
theorem Sit.laid {m : Nat} (hm : MkP m) {hs : Array Int} (room : hs.size ≤ m) : ∃ owner, SetTable.layClean m hs = some owner ∧ Sit m hs.toList owner := by
  obtain ⟨o2, f1, f2⟩ := Sit.all hm hs.toList [] _ (Sit.zero m) (by rw [Array.length_toList]; show 0 + hs.size ≤ _; omega)
  exact ⟨o2, by rw [layClean_eq, show hs.toList.foldl (stepF m) (some (Array.replicate (m + 1) Option.none, 0)) = _ from f1]; rfl, f2⟩
/-- the new table and the order in which the entries stand in it -/
theorem relaid_Q (t : SetTable) {hs : Array Int} {n m : Nat} (hw : SetTable.sizeAbove n - 1 = m) (hm : MkP m) (room : hs.size ≤ m) :
    ∃ u order, t.relaid hs n = some (u, order) ∧ order.toList.Perm (List.range hs.size) ∧ TbQ u (order.toList.map fun i => hs.getD i 0) ∧ u.mask = m ∧ u.led = t.led ∧ u.plain = t.plain := by
  obtain ⟨owner, e, S⟩ := Sit.laid hm room
  have hr := relaid_eq t hs n
  rw [hw, e] at hr
  have live : ∀ {j k : Nat}, (j, k) ∈ liveOf m owner ↔ j ≤ m ∧ oAt owner j = some k := mem_live S.size
  obtain ⟨r1, r2⟩ := ris_live (fun j => owner.getD j none) (List.range (m + 1)) (by
    unfold Ris
    first | exact List.pairwise_lt_range | exact List.pairwise_lt_range _)
  have r1 : Ris ((liveOf m owner).map (·.1)) := r1
  have r2 : ∀ q ∈ (liveOf m owner).map (·.1), q ∈ List.range (m + 1) := r2
  have len : (liveOf m owner).length = hs.size := by
    obtain ⟨L, l1, l2⟩ := S.few
    have nd : ((liveOf m owner).map (·.1)).Nodup := List.Pairwise.imp (fun z => Nat.ne_of_lt z) r1
    have up := nat_nodup_len ((liveOf m owner).map (·.1)) L nd fun q hq => by
      obtain ⟨⟨y, k⟩, hy, rfl⟩ := List.mem_map.mp hq
      obtain ⟨b1, b2⟩ := live.mp hy
      exact l2 y b1 (by rw [b2]; simp)
    have dn := nat_nodup_len (List.range hs.size) ((liveOf m owner).map (·.2)) List.nodup_range fun k hk => by
      obtain ⟨j, b1, b2⟩ := S.has k (List.mem_range.mp hk)
      exact List.mem_map.mpr ⟨(j, k), live.mpr ⟨b1, b2⟩, rfl⟩
    rw [List.length_map, l1] at up
    rw [List.length_map, List.length_range] at dn
    exact Nat.le_antisymm up dn
  have hr : t.relaid hs n = some (tabOf t m owner, ((liveOf m owner).map (·.2)).toArray) := hr
  refine ⟨tabOf t m owner, ((liveOf m owner).map (·.2)).toArray, hr, perm_range hs.size _ (by simp [len]) fun k hk => ?_, ⟨r1, rfl, by simp [tabOf], hm, fun q hq => by have := List.mem_range.mp (r2 q hq); show q ≤ m; omega, fun i v q h1 h2 => ?_⟩, rfl, rfl, rfl⟩
  · obtain ⟨j, b1, b2⟩ := S.has k hk
    exact List.mem_map.mpr ⟨(j, k), live.mpr ⟨b1, b2⟩, rfl⟩
  · have h1 : (((liveOf m owner).map (·.2)).map fun i => hs.getD i 0)[i]? = some v := h1
    have h2 : ((liveOf m owner).map (·.1))[i]? = some q := h2
    rw [List.getElem?_map] at h2
    obtain ⟨⟨y, k⟩, g1, g2⟩ := Option.map_eq_some_iff.mp h2
    obtain rfl : y = q := g2
    rw [List.getElem?_map, List.getElem?_map, g1] at h1
    obtain rfl : hs.getD k 0 = v := Option.some.inj h1
    obtain ⟨b1, b2⟩ := live.mp (List.mem_of_getElem? g1)
    obtain ⟨v', K, a1, a2, a3⟩ := S.who y k b1 b2
    obtain rfl : hs.getD k 0 = v' := by rw [Array.getD_eq_getD_getElem?, ← Array.getElem?_toList, a1]; rfl
    refine ⟨K, a2, fun c hc => ?_⟩
    cases z : oAt owner (way m (hs.getD k 0) c) with
    | none => exact (a3 c hc z).elim
    | some k2 => exact List.mem_map.mpr ⟨(_, k2), live.mpr ⟨way_in _ _, z⟩, rfl⟩
end MX


set_option Elab.async false
set_option linter.all false
set_option maxRecDepth 100000
/-! Tuples whose object is known to have no dict of its own (so that a method of tuple may be called on them). -/
namespace MX
open PySem PySem.Spec PyProof.Rows L2
section
variable {X : Cx} {pins : List (Addr × Obj)} {σ : L2.St} {H : Hp} {s : Shared}
/-- a tuple is new at the heap's end -/
theorem tupZ_new {us : List Value} {xs : List V} (I : L2.Inv X pins σ H s) (r : Vals xs us) (z : xs.length ≤ sizeLine) : ∃ o : Obj, o.dict = none ∧
    L2.Inv X pins σ (upd H s.heap.objs.size (.frz o (.tup xs))) { s with heap := s.heap.push { cls := .type "tuple", data := .seq us.toArray } } := by
  have g := Heap.get?_push_size s.heap (o := ({ cls := .type "tuple", data := .seq us.toArray } : Obj)) rfl
  exact ⟨{ cls := .type "tuple", data := .seq us.toArray }, rfl, I.laid (t' := s.toks) (fun _ _ q => Heap.get?_push_of_some _ q) (Nat.le_refl _) ⟨g, z, us, r, ⟨_, g, rfl, 0, rfl⟩⟩⟩
variable {es : List Expr} {e : Expr} {t : TA} {te : TE} {pos p : Pos}
abbrev newZ (xs : List V) (H : Hp) (Q : VK) : Prop := ∀ p (o : Obj), H p = none → o.dict = none → Q (.ref p) (upd H p (.frz o (.tup xs)))
def tTupZ (t : TA) : TE := fun σ H Q => t σ H fun xs H1 => xs.length ≤ sizeLine ∧ newZ xs H1 Q
theorem pe_tupZ {x1} (h : PA X es t) : PE X (.Tuple es x1 pos) (tTupZ t) := by
  refine ⟨fun pins s σ H Q I hq => wpAny_Tuple_spliced (thn (h.run pos pins s σ H _ I hq) ?_)⟩
  rintro us s1 ⟨xs, H1, I1, r, z, q⟩
  obtain ⟨o, od, I2⟩ := tupZ_new I1 r z
  exact ⟨by rw [← r.length]; exact z, .ref _, _, I2, rfl, q _ o I1.fresh od⟩
/-- tuple(a list) -/
def rTupZ (K : PySem.W.Frag) : List V → Hp → VK → Prop := fun xs H Q => ∃ p ys, xs = [.ref p] ∧ ((SqL K H p ys ∧ newZ ys H Q) ∨ (SqT K H p ys ∧ Q (.ref p) H))
theorem cr_tupZ : CallR X (.type "tuple") (rTupZ X.K) := by
  intro pins s σ H xs us Q I r h
  obtain ⟨p, ys, rfl, h⟩ := h
  obtain ⟨u, rfl, rx⟩ := vals1 r
  cases rx
  rcases h with ⟨hq, q⟩ | ⟨hq, q⟩
  · obtain ⟨its, r2, pl, hz⟩ := I.list hq
    refine call_tuple_list pl.isList (fun h1 kp => ?_) (by have := r2.length; simp only [List.size_toArray]; omega)
    have I1 : L2.Inv X pins σ H { s with heap := h1 } := I.kept (t' := s.toks) kp
    obtain ⟨o, od, I2⟩ := tupZ_new I1 r2 hz
    exact ⟨.ref _, _, I2, rfl, q _ o I1.fresh od⟩
  · obtain ⟨its, _, pl, _⟩ := I.tuple hq
    exact call_tuple_same pl ⟨.ref _, _, I, rfl, q⟩
/-- t + u -/
def rCatZ (K : PySem.W.Frag) : R2 := fun x y H Q => ∃ a b xs ys, x = .ref a ∧ y = .ref b ∧ SqT K H a xs ∧ SqT K H b ys ∧ xs.length + ys.length ≤ sizeLine ∧
  (xs = [] → Q (.ref b) H) ∧ (ys = [] → Q (.ref a) H) ∧ newZ (xs ++ ys) H Q
theorem op_catZ : OpR X (binaryOp .Add) (rCatZ X.K) := by
  intro pins s σ H x y v u Q I rx ry ⟨a, b, xs, ys, ex, ey, ha, hb, hz, q0, q1, q2⟩
  subst ex; subst ey
  cases rx; cases ry
  obtain ⟨its, r1, p1, _⟩ := I.tuple ha
  obtain ⟨jts, r2, p2, _⟩ := I.tuple hb
  by_cases hx : xs = []
  · subst hx; cases r1
    exact cat_tup0 p1 p2 ⟨.ref _, _, I, rfl, q0 rfl⟩
  · have n1 : its ≠ [] := fun z => hx (r1.nil_iff.mp z)
    refine HT.cat_tup p1 p2 n1 (fun z => ⟨.ref _, _, I, rfl, q1 (r2.nil_iff.mp z)⟩) (fun _ => ?_) (by rw [← r1.length, ← r2.length]; exact hz)
    obtain ⟨o, od, I2⟩ := tupZ_new I (r1.append r2) (by rw [List.length_append]; exact hz)
    exact ⟨.ref _, _, I2, rfl, q2 _ o I.fresh od⟩
/-- t[lo:hi] -/
def rSlZ (K : PySem.W.Frag) : V → Option Int → Option Int → Hp → VK → Prop := fun x lo hi H Q => ∃ a xs, x = .ref a ∧ SqT K H a xs ∧ (cutV xs lo hi = xs → Q (.ref a) H) ∧ newZ (cutV xs lo hi) H Q
theorem cut_whole {xs : List V} {lo hi : Option Int} (h : HT.sIx xs.length 0 lo = 0 ∧ HT.sIx xs.length xs.length hi = xs.length) : cutV xs lo hi = xs := by
  unfold cutV; rw [h.1, h.2]; simp
theorem sl_tupZ : SlR X (rSlZ X.K) := by
  intro pins s σ H x v vl vu lo hi sl Q I rx hs pl pu ⟨a, xs, ex, hx, q1, q2⟩
  subst ex; cases rx
  obtain ⟨its, r, ht, hz⟩ := I.tuple hx
  have hl : its.toArray.size = xs.length := by simp [r.length]
  refine ⟨"tuple", _, slot_tuple_getitem.lookup, ht.typeIs, ?_⟩
  by_cases hw : HT.sIx xs.length 0 lo = 0 ∧ HT.sIx xs.length xs.length hi = xs.length
  · exact getItem_tuple_whole ht hs pl pu (hl ▸ hw) ⟨.ref _, _, I, rfl, q1 (cut_whole hw)⟩
  · refine HT.getItem_tuple_cut ht hs pl pu (hl ▸ hw) ?_ (hl ▸ hz)
    rw [hl]
    obtain ⟨o, od, I2⟩ := tupZ_new I ((r.drop (HT.sIx xs.length 0 lo)).take (HT.sIx xs.length xs.length hi - HT.sIx xs.length 0 lo)) (Nat.le_trans (cutV_length xs lo hi) hz)
    exact ⟨.ref _, _, I2, rfl, q2 _ o I.fresh od⟩
/-- tuple(range(..)) -/
def tTupRgZ (te : L2.St → Hp → (Int → Int → Hp → Prop) → Prop) : TE := fun σ H Q => te σ H fun a b H1 => RgOk a b ∧ newZ (rgV a b) H1 Q
theorem pe_tupRgZ {te : L2.St → Hp → (Int → Int → Hp → Prop) → Prop} (hc : X.calm = true) (hg : Gl X "tuple") (hm : X.mg "tuple" = none) (he : PRg X e te) (na : starEach [e] X.env = (false, eval e X.env) :: starEach [] X.env := by rfl) :
    PE X (.Call (.Name "tuple" p) [e] [] pos) (tTupRgZ te) := by
  refine ⟨fun pins s σ H Q I h => Call_ (ld_blt I hg hm boot_tuple (PyProof.Rows.callWith_type1 (args_cons (thn (he pins s σ H _ I h) ?_) na) na))⟩
  rintro x s1 ⟨r, a, b, t, u, v, H1, ex, hr, I1, ⟨b1, b2, b3, b4, b5⟩, q⟩
  subst ex
  refine args_nil (call_tuple_range (n := (b - a).toNat) (I1.ok.hd hc) hr (small_one b1 b2 b3 b4) (rangeSize_nat a b) b5 fun h2 tk acc hk hi => ?_)
  obtain ⟨o, od, I3⟩ := tupZ_new (s := { s1 with heap := h2, toks := tk }) (I1.kept hk) (vals_rg hi) (by rw [rgV_length]; exact Nat.le_trans b5 (by decide))
  rw [Array.toArray_toList] at I3
  exact ⟨.ref _, _, I3, rfl, q _ o ((I1.kept hk : L2.Inv X pins σ H1 { s1 with heap := h2, toks := tk }).fresh) od⟩
/-- t.index(x): flat items, the first place -/
def tupI (te ti : TE) : TE := fun σ H Q => te σ H fun x H1 => ∃ (a : Addr) (o : Obj) (xs : List V), x = V.ref a ∧ H1 a = some (.frz o (.tup xs)) ∧ o.dict = none ∧ tCons ti tNil σ H1 fun ys H2 => ∃ y, ys = [y] ∧ H2 a = some (.frz o (.tup xs)) ∧ flatV y = true ∧ xs.all flatV = true ∧
  ∃ (j : Nat) (z : V), xs[j]? = some z ∧ eqV z y = true ∧ (∀ m z', m < j → xs[m]? = some z' → eqV z' y = false) ∧ Q (.int j) H2
theorem tup_index_run {a : Addr} {o : Obj} {xs : List V} {y : V} {u : Value} {j : Nat} {z : V} {Q : VK} (I : L2.Inv X pins σ H s) (ha : H a = some (.frz o (.tup xs))) (ry : RelV y u) (fy : flatV y = true) (fx : xs.all flatV = true)
    (hz : xs[j]? = some z) (hh : eqV z y = true) (hno : ∀ m z', m < j → xs[m]? = some z' → eqV z' y = false) (q : Q (.int j) H) : wpAny (model X.prog X.w) X.A (call (.builtin "tuple.index") [.ref a, u]) (EP X pins σ Q) X.xe s := by
  obtain ⟨its, r, ⟨⟨cls, dd, dt, sl⟩, ho, hc, n, hd⟩, _⟩ := I.tuple (.inl (.inr ⟨o, ha⟩))
  dsimp only at hc hd
  subst hc hd
  have hl : its.length = xs.length := r.length.symm
  have hall : ∀ (m : Nat) (hm : m < its.toArray.size), ∃ z', xs[m]? = some z' ∧ eqU y its.toArray[m] = eqV z' y := fun m hm => by
    have hm' : m < xs.length := by rw [← hl]; simpa using hm
    obtain ⟨w, hw, rw'⟩ := r.get (i := m) (List.getElem?_eq_getElem hm')
    have e1 : its.toArray[m] = w := by
      have := (List.getElem?_eq_some_iff.mp hw).2
      simpa using this
    exact ⟨_, List.getElem?_eq_getElem hm', by rw [e1]; exact eqU_of rw' (List.all_eq_true.mp fx _ (List.getElem_mem hm'))⟩
  have hj : j < its.toArray.size := by
    have := (List.getElem?_eq_some_iff.mp hz).1
    simp [hl, this]
  refine call_meets PySem.F.slot_tuple_index ⟨_, ho, rfl⟩ PySem.F.entry_tuple_index (PySem.F.args_tuple_index_2 _ _) (TI.tuple_indexAt a its.toArray n dd sl u (eqU y) j hj ?_ fun m hm hmj => ?_)
    ⟨ho, fun v hv => mem_eqAt ry fy r fx v (by simpa using hv), ⟨.int j, H, I.tok _, ⟨_, rfl⟩, q⟩⟩
  · obtain ⟨z', h1, h2⟩ := hall j hj
    rw [hz] at h1; cases h1
    rw [h2]; exact hh
  · obtain ⟨z', h1, h2⟩ := hall m hm
    rw [h2]; exact hno m z' hmj h1
theorem pe_tupI {o i : Expr} {ti : TE} {apos cpos : Pos} (ho : PE X o te) (hi : PE X i ti) (hbase : attributeBase o "index" X.env (eval o X.env) = eval o X.env := by rfl)
    (hfew : ((backTo cpos (starEach [i] X.env)).all (fun x => !x.1) && (backToKw cpos (keywordEach [] X.env)).all (fun x => x.1.isSome)
      && decide ([i].length + ([] : List Keyword).length + (if ([] : List Keyword).isEmpty then 0 else 1) < 30)) = true := by rfl)
    (hline : (apos.endLine == cpos.line) = true := by rfl) (hs : starEach [i] X.env = (false, eval i X.env) :: starEach [] X.env := by rfl) :
    PE X (.Call (.Attribute o "index" apos) [i] [] cpos) (tupI te ti) := by
  refine ⟨fun pins s σ H Q I h => wpAny_Call_method_late hbase hfew hline rfl (thn (ho.run pins s σ H _ I h) ?_)⟩
  rintro v s1 ⟨x, H1, I1, r1, a, ob, xs, ex, ha, od, q1⟩
  subst ex; cases r1
  obtain ⟨e1, _⟩ := I1.hok a _ ha
  obtain ⟨its, r, pl, _⟩ := I1.tuple (.inl (.inr ⟨ob, ha⟩))
  refine ⟨"tuple", "tuple.index", PySem.F.plainAttrs_tuple, PySem.F.slot_tuple_index, PySem.F.type_tuple_index, pl.typeIs, fun b eb => ?_, ?_⟩
  · cases eb; exact ⟨ob, e1, od⟩
  have hA := (pa_cons hi pa_nil hs).run cpos pins s1 σ H1 _ I1 q1
  rw [hs] at hA ⊢
  refine Calls.callWith_builtin rfl (Calls.evalArgs_plain (thn hA ?_))
  rintro us s2 ⟨vs, H2, I2, r2, y, ev, ha2, fy, fx, j, z, hz, hh, hno, q⟩
  subst ev
  obtain ⟨u, rfl, ru⟩ := vals1 r2
  exact tup_index_run I2 ha2 ru fy fx hz hh hno q
end
end MX


set_option Elab.async false
set_option linter.all false
set_option maxRecDepth 100000
namespace MX
open PySem PySem.Spec PyProof.Rows L2
/-- F grows -/
abbrev Le (F F' : Hp) : Prop := ∀ a o, F a = some o → F' a = some o
theorem Le.refl (F : Hp) : Le F F := fun _ _ h => h
theorem Le.trans {F1 F2 F3 : Hp} (a : Le F1 F2) (b : Le F2 F3) : Le F1 F3 := fun x o h => b x o (a x o h)
/-! ### dicts whose keys are tuples in tuples, by what is true of their one object -/
mutual
def h0 : NestedKey → Int
  | .none => reduceHash 0xFCA86420
  | .num i => hashInt i
  | .text _ => 0
  | .tup ks => reduceHash (Builtin.Tuple.tupleHashOf (h0s ks))
def h0s : List NestedKey → List Int
  | [] => []
  | k :: ks => h0 k :: h0s ks
end
mutual
/-- without texts -/
def tf : NestedKey → Bool
  | .none => true
  | .num _ => true
  | .text _ => false
  | .tup ks => tfs ks
def tfs : List NestedKey → Bool
  | [] => true
  | k :: ks => tf k && tfs ks
end
mutual
theorem hash_tf (w : World) : ∀ k : NestedKey, tf k = true → k.hash w = h0 k
  | .none, _ => by unfold NestedKey.hash h0; rfl
  | .num i, _ => by unfold NestedKey.hash h0; rfl
  | .text _, h => by unfold tf at h; cases h
  | .tup ks, h => by
    unfold tf at h
    unfold NestedKey.hash h0
    rw [hash_tfs w ks h]
theorem hash_tfs (w : World) : ∀ ks : List NestedKey, tfs ks = true → NestedKey.hashes w ks = h0s ks
  | [], _ => by unfold NestedKey.hashes h0s; rfl
  | k :: ks, h => by
    unfold tfs at h
    rw [Bool.and_eq_true] at h
    unfold NestedKey.hashes h0s
    rw [hash_tf w k h.1, hash_tfs w ks h.2]
end
abbrev NX := List (NestedKey × Addr × Value)
def entN (x : NestedKey × Addr × Value) : DictEntry := ⟨h0 x.1, .ref x.2.1, x.2.2⟩
def DX (a : Addr) (xs : NX) (ep : Nat) : Heap → Prop := fun h => ∃ o es, h.get? a = some o ∧ o.ExactDict ∧ o.data = .dict es ep ∧ es.toList = xs.map entN
/-- the tuple at b is the key nk wherever G stands -/
def NKV (G : Hp) (b : Addr) (nk : NestedKey) : Prop := tf nk = true ∧ ∀ (P : Program) (w : World) (H : Hp) (h : Heap), Le G H → HOk P w H h → (nestedKind P w).is h nk b
theorem NKV.mono {G G' : Hp} {b : Addr} {nk : NestedKey} (e : Le G G') (h : NKV G b nk) : NKV G' b nk := ⟨h.1, fun P w H h' l ok => h.2 P w H h' (e.trans l) ok⟩
/-- a dict of such keys -/
structure DOk (G H : Hp) (a : Addr) (xs : NX) (ep : Nat) : Prop where
  at_ : H a = some (.ext (DX a xs ep))
  ns : (a == sysModules) = false
  nd : (xs.map (·.1)).Nodup
  sz : xs.length ≤ 1000000
  ks : ∀ x ∈ xs, NKV G x.2.1 x.1
  le : Le G H
theorem DX.obj {P : Program} {w : World} {H : Hp} {h : Heap} {a : Addr} {xs : NX} {ep : Nat} (x : DX a xs ep h) : ObjOk P w H h a (.ext (DX a xs ep)) := by
  refine ⟨x, let ⟨o, _, e, _⟩ := x; ⟨o, e⟩, fun h1 h2 y k => ?_⟩
  obtain ⟨o, es, e, c⟩ := y
  exact ⟨o, es, k o e, c⟩
theorem DOk.dict {P : Program} {w : World} {G H : Hp} {h : Heap} {a : Addr} {xs : NX} {ep : Nat} (d : DOk G H a xs ep) (ok : HOk P w H h) : h.DictOfH (nestedKind P w) a xs := by
  obtain ⟨⟨o, es, e1, e2, e3, e4⟩, _⟩ := (show ObjOk P w H h a (.ext (DX a xs ep)) from ok a _ d.at_)
  refine ⟨o, es, ep, e1, e2, e3, ?_, fun x hx => (d.ks x hx).2 P w H h d.le ok, d.nd⟩
  rw [e4]
  refine List.map_congr_left fun x hx => ?_
  unfold entN entryOfKey
  show DictEntry.mk (h0 x.1) _ _ = DictEntry.mk (x.1.hash w) _ _
  rw [hash_tf w x.1 (d.ks x hx).1]
theorem DX.of {P : Program} {w : World} {h : Heap} {a : Addr} {xs : NX} (d : h.DictOfH (nestedKind P w) a xs) (t : ∀ x ∈ xs, tf x.1 = true) : ∃ ep, DX a xs ep h := by
  obtain ⟨o, es, ep, e1, e2, e3, e4, _⟩ := d
  refine ⟨ep, o, es, e1, e2, e3, ?_⟩
  rw [e4]
  refine List.map_congr_left fun x hx => ?_
  unfold entN entryOfKey
  show DictEntry.mk (x.1.hash w) _ _ = DictEntry.mk (h0 x.1) _ _
  rw [hash_tf w x.1 (t x hx)]
theorem Room.nest {A : Around} {P : Program} {w : World} (hu : A.units + 64 < cLine) : (nestedKind P w).room A.in1 := by
  show A.units + 1 + 8 < cLine
  omega
theorem Room.nest0 {A : Around} {P : Program} {w : World} (hu : A.units + 64 < cLine) : (nestedKind P w).room A := by
  show A.units + 8 < cLine
  omega
/-- what the dict at a holds at y -/
def NGet (H : Hp) (a : Addr) (y : V) (r : Option V) : Prop := ∃ G xs ep b nk, DOk G H a xs ep ∧ y = .ref b ∧ NKV G b nk ∧ RelO r ((atKey xs nk).map (·.2))
section
variable {X : Cx} {pins : List (Addr × Obj)} {σ : L2.St} {H : Hp} {s : Shared} {a : Addr} {y v : V} {u r : Value} {o : Option V} {A : Around} {E : Value → Shared → Prop}
theorem n_getItem {Q : Value → Shared → Prop} (hu : A.units + 64 < cLine) (I : Inv X pins σ H s) (g : NGet H a y (some v)) (ry : RelV y u) (h : ∀ w' s', Inv X pins σ H s' → RelV v w' → Q w' s') :
    wpAny (model X.prog X.w) A (getItem (.ref a) u) Q E s := by
  obtain ⟨G, xs, ep, b, nk, d, ey, kb, l⟩ := g
  subst ey
  cases (show u = Value.ref b from ry)
  obtain ⟨w', hw, rw'⟩ := RelO.some_of (v := v) (o := (atKey xs nk).map (·.2)) l
  obtain ⟨p, hp, hp2⟩ := Option.map_eq_some_iff.mp hw
  refine wpAny_getItem_heap (Room.nest hu) (kb.2 _ _ _ _ d.le I.hok) (d.dict I.hok) hp ?_
  rw [hp2]
  exact h w' _ (I.tok _) rw'
theorem n_in {Q : Value → Shared → Prop} (hu : A.units + 64 < cLine) (I : Inv X pins σ H s) (g : NGet H a y o) (ry : RelV y u) (h : ∀ s', Inv X pins σ H s' → Q (.bool o.isSome) s') :
    wpAny (model X.prog X.w) A (compareOp .In u (.ref a)) Q E s := by
  obtain ⟨G, xs, ep, b, nk, d, ey, kb, l⟩ := g
  subst ey
  cases (show u = Value.ref b from ry)
  refine wpAny_in_heap (Room.nest hu) (kb.2 _ _ _ _ d.le I.hok) d.ns (d.dict I.hok) ?_
  have q := l.isSome_eq
  rw [Option.isSome_map] at q
  rw [← q]
  exact h _ (I.tok _)
theorem n_notIn {Q : Value → Shared → Prop} (hu : A.units + 64 < cLine) (I : Inv X pins σ H s) (g : NGet H a y o) (ry : RelV y u) (h : ∀ s', Inv X pins σ H s' → Q (.bool (!o.isSome)) s') :
    wpAny (model X.prog X.w) A (compareOp .NotIn u (.ref a)) Q E s := by
  obtain ⟨G, xs, ep, b, nk, d, ey, kb, l⟩ := g
  subst ey
  cases (show u = Value.ref b from ry)
  refine wpAny_notIn_heap (Room.nest hu) (kb.2 _ _ _ _ d.le I.hok) d.ns (d.dict I.hok) ?_
  have q := l.isSome_eq
  rw [Option.isSome_map] at q
  rw [← q]
  exact h _ (I.tok _)
theorem n_get2 {dv : V} {Q : Value → Shared → Prop} (hu : A.units + 64 < cLine) (I : Inv X pins σ H s) (g : NGet H a y o) (ry : RelV y u) (rd : RelV dv r) (h : ∀ w' s', Inv X pins σ H s' → RelV (o.getD dv) w' → Q w' s') :
    wpAny (model X.prog X.w) A (call (.builtin "dict.get") [.ref a, u, r]) Q E s := by
  obtain ⟨G, xs, ep, b, nk, d, ey, kb, l⟩ := g
  subst ey
  cases (show u = Value.ref b from ry)
  refine call_meetsIn PySem.F.slot_dict_get (d.dict I.hok).typeIs PySem.F.entry_dict_get (PySem.F.args_dict_get_3 _ _ _) (meetsH_dict_get_default (nestedKind X.prog X.w) a b d.ns r) ⟨Room.nest hu, nk, xs, kb.2 _ _ _ _ d.le I.hok, d.dict I.hok, h _ _ (I.tok _) ?_⟩
  exact l.getD rd
/-- d[y] = v -/
theorem n_setItem {G : Hp} {xs : NX} {ep : Nat} {b : Addr} {nk : NestedKey} {Q : Unit → Shared → Prop} (hu : A.units + 64 < cLine) (I : Inv X pins σ H s) (d : DOk G H a xs ep) (kb : NKV G b nk)
    (h : ∀ ep' s', Inv X pins σ (upd H a (.ext (DX a (storedH xs nk b r) ep'))) s' → Q () s') :
    wpAny (model X.prog X.w) A (setItem (.ref a) (.ref b) r) Q E s := by
  have hz : xs.length ≤ sizeLine := by have := d.sz; rw [sizeLine_eq]; omega
  refine wpAny_setItem_heap (hsz := hz) (Room.nest hu) (kb.2 _ _ _ _ d.le I.hok) (d.dict I.hok) fun h' dd' hs => ?_
  have he : ∃ q, h'.get? a = some q := let ⟨q, _, _, hq, _⟩ := dd'; ⟨q, hq⟩
  have tz : ∀ x ∈ storedH xs nk b r, tf x.1 = true := by
    intro x hx
    unfold storedH at hx
    split at hx
    · obtain ⟨z, hz1, rfl⟩ := List.mem_map.mp hx
      unfold putAt
      split
      · rename_i e
        exact (d.ks z hz1).1
      · exact (d.ks z hz1).1
    · rcases List.mem_append.mp hx with hx | hx
      · exact (d.ks x hx).1
      · rw [List.mem_singleton.mp hx]
        exact kb.1
  obtain ⟨ep', dx⟩ := DX.of dd' tz
  exact h ep' _ (d_write I (by rw [d.at_]; exact True.intro) hs he (DX.obj dx))
theorem n_typeIs {G : Hp} {xs : NX} {ep : Nat} (I : Inv X pins σ H s) (d : DOk G H a xs ep) : s.TypeIs (.ref a) "dict" := (d.dict I.hok).typeIs
theorem n_noDict {G : Hp} {xs : NX} {ep : Nat} (I : Inv X pins σ H s) (d : DOk G H a xs ep) : ∀ b, Value.ref a = .ref b → ∃ ob, s.heap.get? b = some ob ∧ ob.dict = none := fun b q => by
  cases q
  obtain ⟨ob, _, _, h1, h2, _⟩ := d.dict I.hok
  exact ⟨ob, h1, h2.2.1⟩
end
end MX


set_option Elab.async false
set_option linter.all false
set_option maxRecDepth 100000
namespace MX
open PySem PySem.Spec PyProof.Rows L2
/-! ### small questions asked of keys -/
section
variable {P : Program} {w : World}
def NoCls (P : Program) (w : World) (n : Nat) (s : Shared) (v : Value) : Prop := ∀ (A : Around) (E : Value → Shared → Prop) (Q : Bool → Shared → Prop), Q false s → wpAny (model P w) A (ofAClassStatement n v) Q E s
def ByVal (P : Program) (w : World) (n : Nat) (s : Shared) (v : Value) : Prop := ∀ (A : Around) (E : Value → Shared → Prop) (Q : Bool → Shared → Prop), Q true s → wpAny (model P w) A (hashByValue n v) Q E s
theorem NoCls.plain {n : Nat} {s : Shared} {v : Value} (h : ofAClassStatement n v = pure false) : NoCls P w n s v := fun A E Q q => by rw [h]; exact wpAny_pure q
theorem ByVal.plain {n : Nat} {s : Shared} {v : Value} (h : hashByValue n v = pure true) : ByVal P w n s v := fun A E Q q => by rw [h]; exact wpAny_pure q
theorem NoCls.tup {n : Nat} {s : Shared} {a : Addr} {o : Obj} {vs : Array Value} {c : Nat} (ho : s.heap.get? a = some o) (hc : o.cls = .type "tuple") (hd : o.data = .seq vs c) (hq : ∀ v ∈ vs.toList, NoCls P w n s v) : NoCls P w (n + 1) s (.ref a) := fun A E Q q => by
  have hT : s.TypeIs (.ref a) "tuple" := ⟨o, ho, hc⟩
  unfold ofAClassStatement
  refine wpAny_bind (wpAny_typeOf hT ?_)
  dsimp only
  rw [show (("tuple" : String) == "tuple") = true from by decide]
  simp only [if_true]
  try refine wpAny_bind (wpAny_pure ?_)
  simp only [Bool.not_true, Bool.false_eq_true, if_false]
  show wpAny _ _ (seqItems? (.ref a) >>= _) _ _ s
  refine wpAny_bind (wpAny_seqItems ho hd (wpAny_bind ?_))
  show wpAny _ _ (forIn vs _ _) _ _ s
  rw [← Array.forIn_toList]
  refine wpAny_forIn_list _ (fun more r s' => r.1 = none ∧ s' = s ∧ ∀ v ∈ more, NoCls P w n s v) _ ?_ ?_ _ _ ⟨rfl, rfl, hq⟩
  · rintro v more r s' ⟨hr, rfl, hm⟩
    refine wpAny_bind (hm v List.mem_cons_self _ _ _ ?_)
    simp only [Bool.false_eq_true, if_false]
    exact wpAny_pure ⟨rfl, rfl, fun u hu => hm u (List.mem_cons_of_mem v hu)⟩
  · rintro ⟨r1, r2⟩ s' ⟨hr, rfl, _⟩
    obtain rfl : r1 = none := hr
    exact wpAny_pure q
theorem ByVal.tup {n : Nat} {s : Shared} {a : Addr} {o : Obj} {vs : Array Value} {c : Nat} (ho : s.heap.get? a = some o) (hc : o.cls = .type "tuple") (hd : o.data = .seq vs c) (hq : ∀ v ∈ vs.toList, ByVal P w n s v) : ByVal P w (n + 1) s (.ref a) := fun A E Q q => by
  have hT : s.TypeIs (.ref a) "tuple" := ⟨o, ho, hc⟩
  unfold hashByValue
  refine wpAny_bind (wpAny_specialOf hT F.slot_tuple_hash.lookup ?_)
  show wpAny _ _ (seqItems? (.ref a) >>= _) _ _ s
  refine wpAny_bind (wpAny_seqItems ho hd (wpAny_bind ?_))
  show wpAny _ _ (forIn vs _ _) _ _ s
  rw [← Array.forIn_toList]
  refine wpAny_forIn_list _ (fun more r s' => r.1 = none ∧ s' = s ∧ ∀ v ∈ more, ByVal P w n s v) _ ?_ ?_ _ _ ⟨rfl, rfl, hq⟩
  · rintro v more r s' ⟨hr, rfl, hm⟩
    refine wpAny_bind (hm v List.mem_cons_self _ _ _ ?_)
    simp only [Bool.not_true, Bool.false_eq_true, if_false]
    exact wpAny_pure ⟨rfl, rfl, fun u hu => hm u (List.mem_cons_of_mem v hu)⟩
  · rintro ⟨r1, r2⟩ s' ⟨hr, rfl, _⟩
    obtain rfl : r1 = none := hr
    exact wpAny_pure q
mutual
theorem nocls_key : ∀ (k : NestedKey) (v : Value) (n : Nat) (s : Shared), NestedIs s.heap k v → k.depth ≤ n → NoCls P w n s v
  | .none, _, n, s, x, _ => by cases x; exact .plain (by cases n <;> rfl)
  | .num i, _, n, s, x, _ => by cases x <;> exact .plain (by cases n <;> rfl)
  | .text y, _, n, s, x, _ => by cases x; exact .plain (by cases n <;> rfl)
  | .tup ks, _, n, s, x, hn => by
    cases x with
    | tup hg hc hd hk =>
      simp only [NestedKey.depth] at hn
      cases n with
      | zero => omega
      | succ n => exact .tup hg hc hd (nocls_keys ks _ n s hk (by omega))
theorem nocls_keys : ∀ (ks : List NestedKey) (vs : List Value) (n : Nat) (s : Shared), NestedAll s.heap ks vs → NestedKey.depthAll ks ≤ n → ∀ v ∈ vs, NoCls P w n s v
  | [], _, n, s, x, _, v, hv => by cases x; cases hv
  | k :: ks, _, n, s, x, hn, v, hv => by
    cases x with
    | cons x1 x2 =>
      simp only [NestedKey.depthAll] at hn
      rcases List.mem_cons.mp hv with e | hv
      · subst e; exact nocls_key k _ n s x1 (by omega)
      · exact nocls_keys ks _ n s x2 (by omega) v hv
end
mutual
theorem byval_key : ∀ (k : NestedKey) (v : Value) (n : Nat) (s : Shared), NestedIs s.heap k v → tf k = true → k.depth ≤ n → ByVal P w n s v
  | .none, _, n, s, x, _, _ => by cases x; exact .plain (by cases n <;> rfl)
  | .num i, _, n, s, x, _, _ => by cases x <;> exact .plain (by cases n <;> rfl)
  | .text y, _, n, s, x, h, _ => by unfold tf at h; cases h
  | .tup ks, _, n, s, x, h, hn => by
    cases x with
    | tup hg hc hd hk =>
      simp only [NestedKey.depth] at hn
      unfold tf at h
      cases n with
      | zero => omega
      | succ n => exact .tup hg hc hd (byval_keys ks _ n s hk h (by omega))
theorem byval_keys : ∀ (ks : List NestedKey) (vs : List Value) (n : Nat) (s : Shared), NestedAll s.heap ks vs → tfs ks = true → NestedKey.depthAll ks ≤ n → ∀ v ∈ vs, ByVal P w n s v
  | [], _, n, s, x, _, _, v, hv => by cases x; cases hv
  | k :: ks, _, n, s, x, h, hn, v, hv => by
    cases x with
    | cons x1 x2 =>
      simp only [NestedKey.depthAll] at hn
      unfold tfs at h
      rw [Bool.and_eq_true] at h
      rcases List.mem_cons.mp hv with e | hv
      · subst e; exact byval_key k _ n s x1 h.1 (by omega)
      · exact byval_keys ks _ n s x2 h.2 (by omega) v hv
end
abbrev NI (P : Program) (w : World) (h : Heap) (k : NestedKey) (b : Addr) : Prop := (nestedKind P w).is h k b
section
variable {A : Around} {E : Value → Shared → Prop} {s : Shared}
/-- a search among keys shows nothing -/
theorem seen_keys {k : NestedKey} {b : Addr} {Q : Bool → Shared → Prop} (hk : NI P w s.heap k b) {ys : List Value} (hy : ∀ y ∈ ys, ∃ k' c, y = Value.ref c ∧ NI P w s.heap k' c) (q : Q false s) :
    wpAny (model P w) A (searchCouldBeSeen (.ref b) ys) Q E s := by
  unfold searchCouldBeSeen
  refine wpAny_bind (wpAny_forIn_list _ (fun more r s' => r.1 = none ∧ s' = s ∧ ∀ y ∈ more, ∃ k' c, y = Value.ref c ∧ NI P w s.heap k' c) _ ?_ ?_ _ _ ⟨rfl, rfl, hy⟩)
  · rintro v more r s' ⟨hr, rfl, hm⟩
    obtain ⟨k', c, rfl, hc⟩ := hm v List.mem_cons_self
    have later : ∀ y ∈ more, ∃ k' c, y = Value.ref c ∧ NI P w s'.heap k' c := fun u hu => hm u (List.mem_cons_of_mem _ hu)
    dsimp only
    by_cases z : (b == c || (carriedByValue (.ref b) && carriedByValue (.ref c))) = true
    · exact wp_if_pos z (wpAny_pure ⟨rfl, rfl, later⟩)
    · refine wp_if_neg z (wpAny_bind ((nestedKind P w).quiet hk ?_))
      simp only [Bool.not_true, Bool.false_eq_true, if_false]
      refine wpAny_bind ((nestedKind P w).quiet hc ?_)
      simp only [Bool.not_true, Bool.false_eq_true, if_false]
      refine wpAny_bind (nocls_key k _ 8 _ hk.1 hk.2 _ _ _ ?_)
      simp only [Bool.false_eq_true, if_false]
      refine wpAny_bind (nocls_key k' _ 8 _ hc.1 hc.2 _ _ _ ?_)
      simp only [Bool.false_eq_true, if_false]
      exact wpAny_pure ⟨rfl, rfl, later⟩
  · rintro ⟨r1, r2⟩ s' ⟨hr, rfl, _⟩
    obtain rfl : r1 = none := hr
    exact wpAny_pure q
end
end
end MX


set_option Elab.async false
set_option linter.all false
set_option maxRecDepth 100000
namespace MX
open PySem PySem.Spec PyProof.Rows L2
/-! ### the set of keys: its search -/
def MkD (m : Nat) : Prop := m = 7 ∨ m = 31 ∨ m = 127 ∨ m = 511 ∨ m = 2047 ∨ m = 8191
theorem MkD.p {m : Nat} (h : MkD m) : MkP m := by
  rcases h with e | e | e | e | e | e <;> subst e
  · exact ⟨3, by omega, rfl⟩
  · exact ⟨5, by omega, rfl⟩
  · exact ⟨7, by omega, rfl⟩
  · exact ⟨9, by omega, rfl⟩
  · exact ⟨11, by omega, rfl⟩
  · exact ⟨13, by omega, rfl⟩
abbrev KL := List (Addr × NestedKey)
def rowQ (w : World) (p : Addr × NestedKey) : Int × Value := (p.2.hash w, Value.ref p.1)
structure SetQ (P : Program) (w : World) (h : Heap) (a : Addr) (L : KL) (es : Array (Int × Value)) (ep : Nat) (t : SetTable) : Prop where
  ob : ∃ o, h.get? a = some o ∧ o.ExactSet ∧ o.data = .set es ep t
  rows : es.toList = L.map (rowQ w)
  tab : TbQ t (L.map fun p => p.2.hash w)
  nd : (L.map (·.2)).Nodup
  key : ∀ p ∈ L, NI P w h p.2 p.1
  msk : MkD t.mask
  room : L.length * 5 < t.mask * 3
section
variable {P : Program} {w : World} {A : Around} {E : Value → Shared → Prop} {s : Shared} {a : Addr} {L : KL} {es : Array (Int × Value)} {ep : Nat} {t : SetTable}
theorem SetQ.size {h : Heap} (R : SetQ P w h a L es ep t) : es.size = L.length := by
  rw [← Array.length_toList, R.rows, List.length_map]
theorem SetQ.lay {h : Heap} (R : SetQ P w h a L es ep t) : t.fits es.size = true := by
  have h1 := R.tab.cnt
  rw [List.length_map, Array.length_toList] at h1
  have h2 := R.size
  have h3 := R.room
  unfold SetTable.fits SetTable.fill
  rw [R.tab.nod, Bool.and_eq_true, beq_iff_eq, decide_eq_true_eq]
  exact ⟨h1.trans h2.symm, by show t.place.size + 0 ≤ t.mask; omega⟩
theorem SetQ.ent {h : Heap} (R : SetQ P w h a L es ep t) {i : Nat} {p : Addr × NestedKey} (e : L[i]? = some p) : es[i]? = some (p.2.hash w, Value.ref p.1) := by
  rw [← Array.getElem?_toList, R.rows, List.getElem?_map, e]
  rfl
theorem SetQ.way_on {h : Heap} (R : SetQ P w h a L es ep t) : ¬ t.gaveWay = true := by
  unfold SetTable.gaveWay
  rw [R.msk.p.odd]
  decide
abbrev stp (t : SetTable) (v : Int) (c : Nat) : SetTable.Probe := nth t.mask (runAt t.mask (SetTable.bits v % (t.mask + 1)) (SetTable.bits v)) c
theorem stp_dm (t : SetTable) (v : Int) (c : Nat) : (stp t v c).dummy = none := by
  have gen : ∀ (n : Nat) (p : SetTable.Probe), p.dummy = none → (nth t.mask p n).dummy = none := by
    intro n
    induction n with
    | zero => exact fun p h => h
    | succ n ih => exact fun p h => ih _ (by unfold adv; split <;> exact h)
  exact gen c _ rfl
theorem same_self (t : SetTable) : t.sameMemory t.moves t.mask = some true := by unfold SetTable.sameMemory; simp
/-- the search from a place of its way on -/
theorem seekQ (R : SetQ P w s.heap a L es ep t) {x : Addr} {k : NestedKey} (hx : NI P w s.heap k x) (hu : A.units + 8 < cLine) {K : Nat} (hK : K < 10 * SetTable.turns t.mask)
    (free : way t.mask (k.hash w) K ∉ t.place.toList) (full : ∀ c, c < K → way t.mask (k.hash w) c ∈ t.place.toList) {add : Bool} {Q : SetFound → Shared → Prop}
    (yes : k ∈ L.map (·.2) → ∀ r : Option Nat, (add = false → r.isSome = true) → Q (.there r) s) (no : k ∉ L.map (·.2) → Q (.free (way t.mask (k.hash w) K) false) s) :
    ∀ (f c : Nat) (from_ : Option SetTable.Probe), from_.getD (t.probeStart (k.hash w)) = stp t (k.hash w) c → c ≤ K → K < f + c →
      (∀ (i : Nat) p, L[i]? = some p → p.2 = k → ∃ d, c ≤ d ∧ d < K ∧ t.place.toList[i]? = some (way t.mask (k.hash w) d)) → wpAny (model P w) A (setSearchFrom a (.ref x) (k.hash w) add f from_) Q E s := by
  intro f
  induction f with
  | zero => intro c _ _ h1 h2; omega
  | succ f ih =>
    intro c from_ hst hc hf hre
    obtain ⟨o, ho, hex, hd⟩ := R.ob
    generalize hv : k.hash w = v at *
    have turn : ∀ q, nth t.mask (stp t v c) q = stp t v (c + q) := fun q => (nth_add t.mask c _ q).symm
    have spec := go_spec t R.tab.asc R.tab.nod (fun i => (es[i]?.map (·.1)).getD 0) v (10 * SetTable.turns t.mask) (K - c) (stp t v c) (stp_dm t v c) (by omega)
      (fun q hq => by rw [turn]; exact full (c + q) (by omega)) (by rw [turn, Nat.add_sub_cancel' hc]; exact free)
    rw [setSearchFrom_succ]
    refine wpAny_bind (wpAny_setState_of ho hd R.lay ?_)
    dsimp only
    refine wp_if_neg R.way_on ?_
    try refine wpAny_bind (wpAny_pure ?_)
    have probe : t.probe (fun i => (es[i]?.map (·.1)).getD 0) v (from_.getD (t.probeStart v)) = SetTable.probe.go t (fun i => (es[i]?.map (·.1)).getD 0) v (10 * SetTable.turns t.mask) (stp t v c) := by rw [hst]; rfl
    rw [probe]
    have hash_at : ∀ (i : Nat) p, L[i]? = some p → (fun i : Nat => (es[i]?.map (·.1)).getD 0) i = p.2.hash w := fun i p hp => by
      show (es[i]?.map (·.1)).getD 0 = _
      rw [R.ent hp]; rfl
    rcases spec with ⟨q, i, hq, hi, hh, hno, hpr⟩ | ⟨hno, hpr⟩
    · rw [hpr]
      dsimp only
      rw [turn] at hi
      have hil : i < L.length := by
        have h1 := (List.getElem?_eq_some_iff.mp hi).1
        rw [R.tab.cnt, List.length_map] at h1
        exact h1
      obtain ⟨p, hp⟩ : ∃ p, L[i]? = some p := ⟨_, List.getElem?_eq_getElem hil⟩
      have hm : p ∈ L := List.mem_of_getElem? hp
      have main : wpAny (model P w) A (searchRest a (.ref x) v add f es t (nth t.mask (stp t v c) q).j i (nth t.mask (stp t v c) (q + 1))) Q E s := by
        unfold searchRest
        rw [R.ent hp]
        dsimp only
        refine wpAny_bind (wpAny_holding ((nestedKind P w).eqBool hu (R.key p hm) hx ?_))
        refine wpAny_bind (wpAny_setState_of ho hd R.lay ?_)
        dsimp only
        have slot : t.slot (nth t.mask (stp t v c) q).j = .live i := by rw [turn]; exact slot_live R.tab.asc hi
        by_cases hk : p.2 = k
        · have hmem : k ∈ L.map (·.2) := List.mem_map.mpr ⟨p, hm, hk⟩
          cases add with
          | true =>
            refine wp_if_pos (by simp [hk]) ?_
            exact wpAny_pure (yes hmem none fun z => by cases z)
          | false =>
            refine wp_if_neg (by simp) ?_
            try refine wpAny_bind (wpAny_pure ?_)
            rw [same_self]
            dsimp only
            simp only [if_true, slot, R.ent hp]
            refine wpAny_bind (wpAny_isSame_ref_self (wpAny_bind (wpAny_pure ?_)))
            simp only [if_true]
            refine wp_if_pos (by simp [hk]) ?_
            exact wpAny_pure (yes hmem (some i) fun _ => rfl)
        · refine wp_if_neg (by simp [hk]) ?_
          try refine wpAny_bind (wpAny_pure ?_)
          rw [same_self]
          dsimp only
          simp only [if_true, slot, R.ent hp]
          refine wpAny_bind (wpAny_isSame_ref_self (wpAny_bind (wpAny_pure ?_)))
          simp only [if_true]
          refine wp_if_neg (by simp [hk]) ?_
          refine ih (c + (q + 1)) _ (turn (q + 1)) (by omega) (by omega) fun j p0 h0 hk0 => ?_
          obtain ⟨d, d1, d2, d3⟩ := hre j p0 h0 hk0
          refine ⟨d, ?_, d2, d3⟩
          refine Classical.byContradiction fun z => ?_
          by_cases y : d = c + q
          · rw [turn] at slot
            have s0 := slot_live R.tab.asc (show t.place.toList[j]? = some (stp t v (c + q)).j by rw [← y]; exact d3)
            rw [slot] at s0
            injection s0 with s0
            rw [← s0, hp] at h0
            exact hk ((congrArg Prod.snd (Option.some.inj h0)).trans hk0)
          · refine hno (d - c) j (by omega) (by rw [turn, Nat.add_sub_cancel' d1]; exact d3) ?_
            exact (hash_at j p0 h0).trans (by rw [hk0]; exact hv)
      by_cases hl : t.led = true
      · refine wp_if_neg (by simp [hl]) ?_
        try refine wpAny_bind (wpAny_pure ?_)
        exact main
      · refine wp_if_pos (by simp [hl]) ?_
        refine wpAny_bind (seen_keys hx (fun y hy => ?_) ?_)
        · obtain ⟨e, he, rfl⟩ := List.mem_map.mp hy
          have he1 : e ∈ es ∧ e.1 = v := by simpa using he
          have he2 : e ∈ es.toList := by simpa using he1.1
          rw [R.rows] at he2
          obtain ⟨p2, hp2, rfl⟩ := List.mem_map.mp he2
          exact ⟨p2.2, p2.1, rfl, R.key p2 hp2⟩
        · simp only [Bool.false_eq_true, if_false]
          try refine wpAny_bind (wpAny_pure ?_)
          exact main
    · rw [hpr]
      dsimp only
      rw [turn, Nat.add_sub_cancel' hc]
      refine wpAny_pure (no fun hmem => ?_)
      obtain ⟨p, hm, hk⟩ := List.mem_map.mp hmem
      obtain ⟨i, hi⟩ := List.mem_iff_getElem?.mp hm
      obtain ⟨d, d1, d2, d3⟩ := hre i p hi hk
      refine hno (d - c) i (by omega) (by rw [turn, Nat.add_sub_cancel' d1]; exact d3) ?_
      exact (hash_at i p hi).trans (by rw [hk]; exact hv)
theorem searchQ (R : SetQ P w s.heap a L es ep t) {x : Addr} {k : NestedKey} (hx : NI P w s.heap k x) (hu : A.units + 8 < cLine) {add : Bool} {Q : SetFound → Shared → Prop}
    (yes : k ∈ L.map (·.2) → ∀ r : Option Nat, (add = false → r.isSome = true) → Q (.there r) s)
    (no : ∀ K, k ∉ L.map (·.2) → way t.mask (k.hash w) K ∉ t.place.toList → (∀ c, c < K → way t.mask (k.hash w) c ∈ t.place.toList) → Q (.free (way t.mask (k.hash w) K) false) s) :
    wpAny (model P w) A (setSearch a (.ref x) (k.hash w) add) Q E s := by
  have room := R.room
  obtain ⟨K, k1, k2, k3⟩ := R.tab.gap (by rw [List.length_map]; omega) (k.hash w)
  have few : K < 100000 := by
    have : 10 * SetTable.turns t.mask ≤ 82060 := by
      unfold SetTable.turns
      rcases R.msk with e | e | e | e | e | e <;> omega
    omega
  unfold setSearch
  refine seekQ R hx hu k1 k2 k3 yes (fun z => no K z k2 k3) 100000 0 none rfl (Nat.zero_le K) (by omega) fun i p hp hk => ?_
  have hi : (L.map fun p => p.2.hash w)[i]? = some (k.hash w) := by rw [List.getElem?_map, hp, ← hk]; rfl
  have hil : i < t.place.toList.length := by rw [R.tab.cnt]; exact (List.getElem?_eq_some_iff.mp hi).1
  obtain ⟨c, c1, c2⟩ := R.tab.pre k2 hi (List.getElem?_eq_getElem hil)
  exact ⟨c, Nat.zero_le c, c1, by rw [List.getElem?_eq_getElem hil, c2]⟩
end
end MX


set_option Elab.async false
set_option linter.all false
set_option maxRecDepth 100000
namespace MX
open PySem PySem.Spec PyProof.Rows L2
/-! ### the set of keys: adding, asking -/
theorem grow_sizes : SetTable.sizeAbove (SetTable.grown 5) = 32 ∧ SetTable.sizeAbove (SetTable.grown 19) = 128 ∧ SetTable.sizeAbove (SetTable.grown 77) = 512 ∧ SetTable.sizeAbove (SetTable.grown 307) = 2048 ∧ SetTable.sizeAbove (SetTable.grown 1229) = 8192 := by decide +kernel
section
variable {P : Program} {w : World} {A : Around} {E : Value → Shared → Prop} {s : Shared} {a : Addr} {L : KL} {es : Array (Int × Value)} {ep : Nat} {t : SetTable}
/-- a key is no set -/
theorem ni_same {h h' : Heap} {k : NestedKey} {b : Addr} {o : Obj} {es : Array (Int × Value)} {ep : Nat} {t : SetTable} (hb : NI P w h k b) (ho : h.get? a = some o) (hd : o.data = .set es ep t) (hs : Heap.SameBut a h h') : NI P w h' k b :=
  (nestedKind_stays (prog := P) (w := w)).stays (fun c ob vs n hc hv => (hs.2 c fun z => by
    subst z
    rw [ho] at hc
    cases hc
    rw [hd] at hv
    cases hv).trans hc) hb
theorem SetQ.keep {h h' : Heap} (R : SetQ P w h a L es ep t) (k : ∀ b o, h.get? b = some o → h'.get? b = some o) : SetQ P w h' a L es ep t where
  ob := let ⟨o, h1, h2⟩ := R.ob; ⟨o, k a o h1, h2⟩
  rows := R.rows
  tab := R.tab
  nd := R.nd
  key := fun p hp => (nestedKind_stays (prog := P) (w := w)).stays (fun b o vs n hb _ => k b o hb) (R.key p hp)
  msk := R.msk
  room := R.room
theorem mid_perm {α : Type} (l : List α) (p : Nat) (x : α) : (l.take p ++ x :: l.drop p).Perm (x :: l) := by
  have := @List.perm_middle _ x (l.take p) (l.drop p)
  rwa [List.take_append_drop] at this
/-- the entries in a new order -/
theorem order_rowQ {order : Array Nat} (hr : es.toList = L.map (rowQ w)) (hp : order.toList.Perm (List.range L.length)) :
    ∃ L2 : KL, (order.filterMap (es[·]?)).toList = L2.map (rowQ w) ∧ L2.Perm L ∧ (L2.map fun p => p.2.hash w) = order.toList.map fun i => (es.map (·.1)).getD i 0 := by
  have ent : ∀ (i : Nat) (p : Addr × NestedKey), L[i]? = some p → es[i]? = some (rowQ w p) := fun i p h => by
    rw [← Array.getElem?_toList, hr, List.getElem?_map, h]; rfl
  have gen : ∀ l : List Nat, (∀ i ∈ l, i < L.length) → l.filterMap (fun i => es[i]?) = (l.filterMap fun i => L[i]?).map (rowQ w) ∧ ((l.filterMap fun i => L[i]?).map fun p => p.2.hash w) = l.map fun i => (es.map (·.1)).getD i 0 := by
    intro l
    induction l with
    | nil => exact fun _ => ⟨rfl, rfl⟩
    | cons i l ih =>
      intro hl
      obtain ⟨g1, g2⟩ := ih fun j hj => hl j (List.mem_cons_of_mem i hj)
      have hi := List.getElem?_eq_getElem (hl i List.mem_cons_self)
      have he := ent i _ hi
      have hv : (es.map (·.1)).getD i 0 = (L[i]'(hl i List.mem_cons_self)).2.hash w := by
        rw [Array.getD_eq_getD_getElem?, Array.getElem?_map, he]; rfl
      rw [List.filterMap_cons_some he, List.filterMap_cons_some hi, g1, List.map_cons, List.map_cons, List.map_cons, g2, hv]
      exact ⟨rfl, rfl⟩
  obtain ⟨g1, g2⟩ := gen order.toList fun i hi => List.mem_range.mp (hp.mem_iff.mp hi)
  refine ⟨order.toList.filterMap fun i => L[i]?, by rw [Array.toList_filterMap]; exact g1, ?_, g2⟩
  have all : (List.range L.length).filterMap (fun i => L[i]?) = L := by
    refine List.ext_getElem? fun q => ?_
    have gen2 : ∀ l : KL, ∀ b : KL, (List.range' b.length l.length).filterMap (fun i => (b ++ l)[i]?) = l := by
      intro l
      induction l with
      | nil => intro b; rfl
      | cons x l ih =>
        intro b
        rw [List.length_cons, List.range'_succ, List.filterMap_cons_some (b := x) (by rw [List.getElem?_append_right (Nat.le_refl _), Nat.sub_self]; rfl)]
        have := ih (b ++ [x])
        rw [List.append_assoc, List.length_append, List.length_singleton] at this
        exact congrArg (x :: ·) this
    have := gen2 L []
    rw [List.range_eq_range']
    exact congrArg (·[q]?) this
  have := hp.filterMap fun i => L[i]?
  rw [all] at this
  exact this
theorem relayQ {o : Obj} (ho : s.heap.get? a = some o) (hex : o.ExactSet) (hd : o.data = .set es ep t) (hr : es.toList = L.map (rowQ w)) (T : TbQ t (L.map fun p => p.2.hash w)) (room : L.length ≤ t.mask)
    (nd : (L.map (·.2)).Nodup) (key : ∀ p ∈ L, NI P w s.heap p.2 p.1) {n m : Nat} (hw : SetTable.sizeAbove n - 1 = m) (hm : MkD m) (hz : SetTable.sizeAbove n ≤ 8192) (room2 : L.length * 5 < m * 3) {Q : Unit → Shared → Prop}
    (q : ∀ h' L' es' ep' t', Heap.SameBut a s.heap h' → SetQ P w h' a L' es' ep' t' → L'.Perm L → Q () { s with heap := h' }) : wpAny (model P w) A (setRelay a n) Q E s := by
  have len : es.size = L.length := by rw [← Array.length_toList, hr, List.length_map]
  have lay : t.fits es.size = true := by
    have h1 := T.cnt
    rw [List.length_map, Array.length_toList] at h1
    unfold SetTable.fits SetTable.fill
    rw [T.nod, Bool.and_eq_true, beq_iff_eq, decide_eq_true_eq]
    exact ⟨h1.trans len.symm, by show t.place.size + 0 ≤ t.mask; omega⟩
  obtain ⟨u, order, e, pm, U, um, ul, up⟩ := relaid_Q t (hs := es.map (·.1)) hw hm.p (by rw [Array.size_map, len]; omega)
  rw [Array.size_map, len] at pm
  obtain ⟨L2, r1, r2, r3⟩ := order_rowQ hr pm
  rw [← r3] at U
  have len2 : (order.filterMap (es[·]?)).size = es.size := by rw [← Array.length_toList, r1, List.length_map, r2.length_eq, len]
  rw [setRelay_eq]
  refine wpAny_bind (wpAny_setState_of ho hd lay ?_)
  dsimp only
  refine wp_if_neg (by rw [sizeLine_eq]; omega) ?_
  try refine wpAny_bind (wpAny_pure ?_)
  rw [e]
  dsimp only
  refine wpAny_bind (wp_if_neg (by rw [len2]; simp) ?_)
  try refine wpAny_bind (wpAny_pure ?_)
  refine wpAny_pure ?_
  dsimp only
  refine wpAny_storeSet_of ho hd ?_ (by rw [len2, len, sizeLine_eq]; rcases hm with z | z | z | z | z | z <;> omega)
  have sb := Heap.SameBut.update s.heap a (Obj.putSet (order.filterMap (es[·]?)) u)
  exact q _ L2 _ (ep + 1) u sb ⟨⟨_, store_at ho hd, ⟨hex.1, hex.2.1, hex.2.2⟩, rfl⟩, r1, U, (r2.map (·.2)).nodup_iff.mpr nd, fun p hp => ni_same (key p (r2.mem_iff.mp hp)) ho hd sb, by rw [um]; exact hm, by rw [r2.length_eq, um]; exact room2⟩ r2
theorem addQ (R : SetQ P w s.heap a L es ep t) {x : Addr} {k : NestedKey} (hx : NI P w s.heap k x) (tx : tf k = true) (hu : A.units + 8 < cLine) (few : L.length + 1 ≤ 4000) {Q : Bool → Shared → Prop}
    (q : ∀ b h' L' es' ep' t', Heap.SameBut a s.heap h' → SetQ P w h' a L' es' ep' t' → (k ∈ L.map (·.2) → L' = L) → (k ∉ L.map (·.2) → L'.Perm ((x, k) :: L)) → Q b { s with heap := h' }) :
    wpAny (model P w) A (setAddHashed a (.ref x) (k.hash w)) Q E s := by
  obtain ⟨o, ho, hex, hd⟩ := R.ob
  have len := R.size
  have room := R.room
  unfold setAddHashed
  refine wpAny_holding ?_
  rw [show (100000 : Nat) = 99999 + 1 from rfl, setAddHashedIn_succ]
  refine wpAny_bind (wpAny_setState_of ho hd R.lay ?_)
  dsimp only
  refine wp_if_neg (by simp [byScan, Value.scannable]) ?_
  try refine wpAny_bind (wpAny_pure ?_)
  refine wpAny_bind (searchQ R hx hu (fun hm r _ => ?_) fun K hm free full => ?_)
  · exact wpAny_pure (q false s.heap L es ep t (Heap.SameBut.refl a s.heap) R (fun _ => rfl) fun z => (z hm).elim)
  · dsimp only
    refine wpAny_bind (wpAny_setState_of ho hd R.lay ?_)
    dsimp only
    obtain ⟨u, p, e, pl, U, um, ul, up, uf⟩ := R.tab.ins free full
    rw [e]
    dsimp only
    rw [List.length_map] at pl uf
    have rows : (SetTable.insertAt es p (k.hash w, Value.ref x)).toList = (L.take p ++ (x, k) :: L.drop p).map (rowQ w) := by
      rw [SetTable.toList_insertAt, R.rows, List.map_append, List.map_cons, List.map_take, List.map_drop]; rfl
    have hsh : (L.take p ++ (x, k) :: L.drop p).map (fun p => p.2.hash w) = (L.map fun p => p.2.hash w).take p ++ k.hash w :: (L.map fun p => p.2.hash w).drop p := by
      rw [List.map_append, List.map_cons, List.map_take, List.map_drop]
    rw [← hsh] at U
    have pm := mid_perm L p (x, k)
    have nd1 : ((L.take p ++ (x, k) :: L.drop p).map (·.2)).Nodup := (pm.map (·.2)).nodup_iff.mpr (List.nodup_cons.mpr ⟨hm, R.nd⟩)
    have len1 := pm.length_eq
    rw [List.length_cons] at len1
    generalize SetTable.insertAt es p (k.hash w, Value.ref x) = es1 at rows ⊢
    generalize L.take p ++ (x, k) :: L.drop p = L1 at pm len1 U nd1 rows
    have esz : es1.size = L.length + 1 := by rw [← Array.length_toList, rows, List.length_map, len1]
    -- whether the table stays plain is of no matter
    have rest : ∀ u1 : SetTable, u1.place = u.place → u1.dummies = u.dummies → u1.mask = u.mask → wpAny (model P w) A (do
        storeSet a es1 u1
        if !false && u1.tooFull then setRelay a (SetTable.grown (es.size + 1))
        return true) Q E s := by
      intro u1 v1 v2 v3
      have U1 : TbQ u1 (L1.map fun p => p.2.hash w) := ⟨by rw [v1]; exact U.asc, by rw [v2]; exact U.nod, by rw [v1]; exact U.cnt, by rw [v3]; exact U.msk, by rw [v1, v3]; exact U.bnd, by rw [v1, v3]; exact U.met⟩
      refine wpAny_bind (wpAny_storeSet_of ho hd ?_ (by rw [esz, sizeLine_eq]; omega))
      have sb := Heap.SameBut.update s.heap a (Obj.putSet es1 u1)
      have ho1 := store_at (es' := es1) (t' := u1) ho hd
      generalize s.heap.update a (Obj.putSet es1 u1) = h1 at sb ho1 ⊢
      have key1 : ∀ p ∈ L1, NI P w h1 p.2 p.1 := fun p hp => by
        rcases List.mem_cons.mp (pm.mem_iff.mp hp) with z | z
        · rw [z]; exact ni_same hx ho hd sb
        · exact ni_same (R.key p z) ho hd sb
      have fill : u1.fill = L.length + 1 := by
        unfold SetTable.fill at uf ⊢
        rw [v1, v2]; exact uf
      by_cases full : u1.tooFull = true
      · have f5 : (L.length + 1) * 5 ≥ t.mask * 3 := by
          have z := full
          unfold SetTable.tooFull at z
          rw [decide_eq_true_eq, fill, v3, um] at z
          exact z
        rw [len]
        have go : ∀ m, SetTable.sizeAbove (SetTable.grown (L.length + 1)) - 1 = m → MkD m → SetTable.sizeAbove (SetTable.grown (L.length + 1)) ≤ 8192 → (L.length + 1) * 5 < m * 3 →
            wpAny (model P w) A (do
              setRelay a (SetTable.grown (L.length + 1))
              return true) Q E { s with heap := h1 } := fun m g1 g2 g3 g4 => by
          refine wpAny_bind (relayQ (s := { s with heap := h1 }) ho1 ⟨hex.1, hex.2.1, hex.2.2⟩ rfl rows U1 ?_ nd1 key1 g1 g2 g3 (by rw [len1]; exact g4) ?_)
          · rw [len1, v3, um]
            rcases R.msk with z | z | z | z | z | z <;> omega
          · intro h2 L2 es2 ep2 t2 sb2 R2 pm2
            exact wpAny_pure (q true h2 L2 es2 ep2 t2 (sb.trans sb2) R2 (fun z => (hm z).elim) fun _ => pm2.trans pm)
        have fin : wpAny (model P w) A (do
              setRelay a (SetTable.grown (L.length + 1))
              return true) Q E { s with heap := h1 } := by
          obtain ⟨g1, g2, g3, g4, g5⟩ := grow_sizes
          rcases R.msk with z | z | z | z | z | z
          · rw [show L.length = 4 by omega] at go ⊢
            exact go 31 (by rw [g1]) (.inr (.inl rfl)) (by rw [g1]; decide) (by decide)
          · rw [show L.length = 18 by omega] at go ⊢
            exact go 127 (by rw [g2]) (.inr (.inr (.inl rfl))) (by rw [g2]; decide) (by decide)
          · rw [show L.length = 76 by omega] at go ⊢
            exact go 511 (by rw [g3]) (.inr (.inr (.inr (.inl rfl)))) (by rw [g3]; decide) (by decide)
          · rw [show L.length = 306 by omega] at go ⊢
            exact go 2047 (by rw [g4]) (.inr (.inr (.inr (.inr (.inl rfl))))) (by rw [g4]; decide) (by decide)
          · rw [show L.length = 1228 by omega] at go ⊢
            exact go 8191 (by rw [g5]) (.inr (.inr (.inr (.inr (.inr rfl))))) (by rw [g5]; decide) (by decide)
          · omega
        first
          | exact wp_if_pos (by simp [full]) fin
          | (refine wpAny_bind ?_; refine wp_if_pos (by simp [full]) ?_; exact fin)
      · have nf : (L.length + 1) * 5 < t.mask * 3 := by
          have z := full
          unfold SetTable.tooFull at z
          rw [decide_eq_true_eq, fill, v3, um] at z
          omega
        have fin : wpAny (model P w) A (pure true) Q E { s with heap := h1 } :=
          wpAny_pure (q true h1 L1 es1 (ep + 1) u1 sb ⟨⟨_, ho1, ⟨hex.1, hex.2.1, hex.2.2⟩, rfl⟩, rows, U1, nd1, key1, by rw [v3, um]; exact R.msk, by rw [len1, v3, um]; exact nf⟩ (fun z => (hm z).elim) fun _ => pm)
        first
          | exact wp_if_neg (by simp [full]) fin
          | (refine wp_if_neg (by simp [full]) ?_; exact wpAny_bind (wpAny_pure fin))
          | (refine wpAny_bind ?_; refine wp_if_neg (by simp [full]) ?_; exact wpAny_pure fin)
    by_cases pln : u.plain = true
    · first
        | (refine wpAny_bind ?_; refine wp_if_pos pln ?_; refine byval_key k _ 8 _ hx.1 tx hx.2 _ _ _ ?_)
        | refine wp_if_pos pln (wpAny_bind (byval_key k _ 8 _ hx.1 tx hx.2 _ _ _ ?_))
      simp only [if_true]
      exact rest u rfl rfl rfl
    · first
        | (refine wpAny_bind ?_; refine wp_if_neg pln ?_; refine wpAny_pure ?_)
        | refine wp_if_neg pln (wpAny_bind (wpAny_pure ?_))
      simp only [if_true]
      exact rest u rfl rfl rfl
end
end MX


set_option Elab.async false
set_option linter.all false
set_option maxRecDepth 100000
namespace MX
open PySem PySem.Spec PyProof.Rows L2
def tNGet (td ty : TE) : TE := fun σ H Q => td σ H fun x H1 => ty σ H1 fun y H2 => ∃ a v, x = .ref a ∧ NGet H2 a y (some v) ∧ Q v H2
def tNIn (neg : Bool) (ty td : TE) : TE := fun σ H Q => ty σ H fun y H1 => td σ H1 fun x H2 => ∃ a o, x = .ref a ∧ NGet H2 a y o ∧ Q (.bl (if neg then !o.isSome else o.isSome)) H2
def sNPut (td ty tv : TE) : TS := fun D σ H => tv σ H fun v H1 => td σ H1 fun x H2 => ty σ H2 fun y H3 => ∃ G a xs ep b nk, x = .ref a ∧ y = .ref b ∧ DOk G H3 a xs ep ∧ NKV G b nk ∧ ∀ r ep', RelV v r → D.nx σ (upd H3 a (.ext (DX a (storedH xs nk b r) ep')))
def tNGet2 (td ty tx : TE) : TE := fun σ H Q => td σ H fun x H1 => ∃ G a xs ep, x = .ref a ∧ DOk G H1 a xs ep ∧ ty σ H1 fun y H2 => tx σ H2 fun z H3 => ∃ o, NGet H3 a y o ∧ Q (o.getD z) H3
def tNNew : TE := fun _ H Q => ∀ p, H p = none → (p == sysModules) = false → Q (.ref p) (upd H p (.ext (DX p [] 0)))
section
variable {X : Cx} {pins : List (Addr × Obj)} {σ : L2.St} {H : Hp} {s : Shared} {a : Addr} {y : V} {o' : Option V}
theorem NGet.typeIs (I : Inv X pins σ H s) (g : NGet H a y o') : s.TypeIs (.ref a) "dict" := let ⟨_, _, _, _, _, d, _⟩ := g; n_typeIs I d
end
section
variable {X : Cx} {o i e f value : Expr} {pos pos' apos cpos : Pos} {td ty tv tx : TE}
theorem pe_nget (hu : X.A.units + 64 < cLine) (ho : PE X o td) (hi : PE X i ty) (hs : NoSl i) : PE X (.Subscript o i pos) (tNGet td ty) := by
  refine ⟨fun pins s σ H Q I h => ?_⟩
  refine subD_of PySem.F.slot_dict_getitem.lookup hs (thn (ho.run pins s σ H _ I h) fun u s1 ⟨x, H1, I1, rx, q1⟩ => thn (hi.run pins s1 σ H1 _ I1 q1) fun iv s2 ⟨y, H2, I2, ry, a, v, ex, g, q2⟩ => ?_)
  subst ex
  obtain rfl : u = Value.ref a := rx
  exact ⟨NGet.typeIs I2 g, n_getItem hu I2 g ry fun w' s3 I3 rw' => ⟨v, H2, I3, rw', q2⟩⟩
theorem pc_nin (hu : X.A.units + 64 < cLine) (hi : PE X i ty) (ho : PE X o td) : PC X .In i o (tNIn false ty td) := by
  refine ⟨fun pins s σ H Q I h => ?_⟩
  refine thn (hi.run pins s σ H _ I h) fun iv s1 ⟨y, H1, I1, ry, q1⟩ => thn (ho.run pins s1 σ H1 _ I1 q1) fun u s2 ⟨x, H2, I2, rx, a, ov, ex, g, q2⟩ => ?_
  subst ex
  obtain rfl : u = Value.ref a := rx
  exact n_in hu I2 g ry fun s3 I3 => ⟨.bl ov.isSome, H2, I3, rfl, q2⟩
theorem pc_nnotin (hu : X.A.units + 64 < cLine) (hi : PE X i ty) (ho : PE X o td) : PC X .NotIn i o (tNIn true ty td) := by
  refine ⟨fun pins s σ H Q I h => ?_⟩
  refine thn (hi.run pins s σ H _ I h) fun iv s1 ⟨y, H1, I1, ry, q1⟩ => thn (ho.run pins s1 σ H1 _ I1 q1) fun u s2 ⟨x, H2, I2, rx, a, ov, ex, g, q2⟩ => ?_
  subst ex
  obtain rfl : u = Value.ref a := rx
  exact n_notIn hu I2 g ry fun s3 I3 => ⟨.bl (!ov.isSome), H2, I3, rfl, q2⟩
theorem ps_nput (hu : X.A.units + 64 < cLine) (ho : PE X o td) (hi : PE X i ty) (hv : PE X value tv) (hs : swapsWith value (some (.Subscript o i pos')) pos.line X.env = pure false) :
    PS X (.Assign [.Subscript o i pos'] value pos) (sNPut td ty tv) := by
  refine ⟨fun pins s σ H D I h => ?_⟩
  refine wpAny_Assign_Subscript (thn (hv.run pins s σ H _ I h) fun r s1 ⟨v, H1, I1, rv, q1⟩ => thn (ho.run pins s1 σ H1 _ I1 q1) fun u s2 ⟨x, H2, I2, rx, q2⟩ => thn (hi.run pins s2 σ H2 _ I2 q2) fun iv s3 ⟨y, H3, I3, ry, G, a, xs, ep, b, nk, ex, ey, d, kb, q3⟩ => ?_) hs
  subst ex ey
  obtain rfl : u = Value.ref a := rx
  obtain rfl : iv = Value.ref b := ry
  exact n_setItem hu I3 d kb fun ep' s4 I4 => ⟨σ, _, I4, q3 r ep' rv⟩
theorem pe_nget2 (hu : X.A.units + 64 < cLine) (ho : PE X o td) (he : PE X e ty) (hf : PE X f tx) (m : M2 X o "get" apos e f cpos) : PE X (.Call (.Attribute o "get" apos) [e, f] [] cpos) (tNGet2 td ty tx) := by
  refine ⟨fun pins s σ H Q I h => ?_⟩
  refine wpAny_Call_method m.base m.few m.line PySem.F.plainAttrs_dict PySem.F.slot_dict_get PySem.F.type_dict_get (thn (ho.run pins s σ H _ I h) fun u s1 ⟨x, H1, I1, rx, G, a, xs, ep, ex, d, q1⟩ => ?_)
  subst ex
  obtain rfl : u = Value.ref a := rx
  refine ⟨n_typeIs I1 d, n_noDict I1 d, ?_⟩
  rw [m.trees]
  refine Calls.callWith_builtin rfl (Calls.evalArgs_plain (Calls.spliced_cons (thn (he.run pins s1 σ H1 _ I1 q1) fun iv s2 ⟨y, H2, I2, ry, q2⟩ =>
    Calls.spliced_cons (thn (hf.run pins s2 σ H2 _ I2 q2) fun fv s3 ⟨z, H3, I3, rz, ov, g, q3⟩ => Calls.spliced_nil ?_))))
  exact n_get2 hu I3 g ry rz fun w' s4 I4 rw' => ⟨_, H3, I4, rw', q3⟩
theorem DX.empty (h : Heap) : DX h.objs.size [] 0 (h.push { cls := .type "dict", data := .dict #[] }) := ⟨_, #[], Heap.get?_push_size _ rfl, ⟨rfl, rfl, rfl⟩, rfl, rfl⟩
theorem pe_nnew : PE X (.Dict [] [] pos) tNNew := ⟨fun pins s σ H Q I h =>
  wpAny_Dict_empty ⟨.ref s.heap.objs.size, _, I.laid (a := s.heap.objs.size) (o := .ext (DX s.heap.objs.size [] 0)) (t' := s.toks) (fun _ _ q => Heap.get?_push_of_some _ q) (Nat.le_refl _) (DX.obj (DX.empty s.heap)), rfl,
    h _ (I.hok.fresh (Nat.le_refl _)) (beq_eq_false_iff_ne.mpr (Ne.symm (Nat.ne_of_lt I.big)))⟩⟩
end
/-! ### len -/
def rLenN : List V → Hp → VK → Prop := fun xs H Q => ∃ G p ys ep, xs = [.ref p] ∧ DOk G H p ys ep ∧ Q (.int ((ys.length : Nat) : Int)) H
theorem call_lenN {X : Cx} : CallR X (.builtin "len") rLenN := by
  intro pins s σ H xs us Q I r h
  obtain ⟨G, p, ys, ep, rfl, d, q⟩ := h
  obtain ⟨u, rfl, rx⟩ := vals1 r
  obtain rfl : u = .ref p := rx
  have hz := d.sz
  exact call_len_dictH d.ns (d.dict I.hok) (by omega) ⟨.int ((ys.length : Nat) : Int), H, I.tok _, ⟨_, rfl⟩, q⟩
end MX


set_option Elab.async false
set_option linter.all false
set_option maxRecDepth 100000
namespace MX
open PySem PySem.Spec PyProof.Rows L2
/-! ### a set of keys, by what is true of its one object -/
def row0 (p : Addr × NestedKey) : Int × Value := (h0 p.2, Value.ref p.1)
def SX (a : Addr) (L : KL) : Heap → Prop := fun h => ∃ o es ep t, h.get? a = some o ∧ o.ExactSet ∧ o.data = .set es ep t ∧ es.toList = L.map row0 ∧ TbQ t (L.map fun p => h0 p.2) ∧ MkD t.mask ∧ L.length * 5 < t.mask * 3
structure SOk (G H : Hp) (a : Addr) (L : KL) : Prop where
  at_ : H a = some (.ext (SX a L))
  nd : (L.map (·.2)).Nodup
  ks : ∀ p ∈ L, NKV G p.1 p.2
  le : Le G H
section
variable {P : Program} {w : World} {G H : Hp} {h : Heap} {a : Addr} {L : KL}
theorem SX.obj (x : SX a L h) : ObjOk P w H h a (.ext (SX a L)) := by
  refine ⟨x, ?_, fun h1 h2 y k => ?_⟩
  · obtain ⟨o, _, _, _, e, _⟩ := x
    exact ⟨o, e⟩
  · obtain ⟨o, es, ep, t, e, r⟩ := y
    exact ⟨o, es, ep, t, k o e, r⟩
theorem hashes_0 : ∀ {L : KL}, (∀ p ∈ L, tf p.2 = true) → L.map (rowQ w) = L.map row0 ∧ (L.map fun p => p.2.hash w) = L.map fun p => h0 p.2
  | [], _ => ⟨rfl, rfl⟩
  | p :: L, t => by
    obtain ⟨g1, g2⟩ := hashes_0 (L := L) fun q hq => t q (List.mem_cons_of_mem p hq)
    have e := hash_tf w p.2 (t p List.mem_cons_self)
    have er : rowQ w p = row0 p := by unfold rowQ row0; rw [e]
    simp only [List.map_cons, g1, g2, e, er, and_self]
theorem SOk.set (d : SOk G H a L) (ok : HOk P w H h) : ∃ es ep t, SetQ P w h a L es ep t := by
  obtain ⟨⟨o, es, ep, t, e1, e2, e3, e4, e5, e6, e7⟩, _⟩ := (show ObjOk P w H h a (.ext (SX a L)) from ok a _ d.at_)
  obtain ⟨g1, g2⟩ := hashes_0 (w := w) fun p hp => (d.ks p hp).1
  exact ⟨es, ep, t, ⟨o, e1, e2, e3⟩, by rw [g1]; exact e4, by rw [g2]; exact e5, d.nd, fun p hp => (d.ks p hp).2 _ _ _ _ d.le ok, e6, e7⟩
theorem SX.of {es : Array (Int × Value)} {ep : Nat} {t : SetTable} (R : SetQ P w h a L es ep t) (ht : ∀ p ∈ L, tf p.2 = true) : SX a L h := by
  obtain ⟨o, e1, e2, e3⟩ := R.ob
  obtain ⟨g1, g2⟩ := hashes_0 (w := w) ht
  exact ⟨o, es, ep, t, e1, e2, e3, by rw [← g1]; exact R.rows, by rw [← g2]; exact R.tab, R.msk, R.room⟩
end
section
variable {X : Cx} {pins : List (Addr × Obj)} {σ : L2.St} {H : Hp} {s : Shared} {a b : Addr} {L : KL} {nk : NestedKey} {A : Around} {E : Value → Shared → Prop}
theorem SetQ.isSet {P : Program} {w : World} {es : Array (Int × Value)} {ep : Nat} {t : SetTable} (R : SetQ P w s.heap a L es ep t) : s.TypeIs (.ref a) "set" ∧ ∀ c, Value.ref a = .ref c → ∃ ob, s.heap.get? c = some ob ∧ ob.dict = none := by
  obtain ⟨o, e1, e2, _⟩ := R.ob
  exact ⟨⟨o, e1, e2.1⟩, fun c q => by cases q; exact ⟨o, e1, e2.2.1⟩⟩
theorem findQ {P : Program} {w : World} {es : Array (Int × Value)} {ep : Nat} {t : SetTable} (R : SetQ P w s.heap a L es ep t) (hx : NI P w s.heap nk b) (hu : A.units + 8 < cLine) {Q : Option Nat → Shared → Prop} (q : ∀ r, r.isSome = decide (nk ∈ L.map (·.2)) → Q r s) :
    wpAny (model P w) A (setFind a (.ref b) (nk.hash w)) Q E s := by
  obtain ⟨o, ho, hex, hd⟩ := R.ob
  show wpAny _ _ (setFindIn a (.ref b) (nk.hash w) (99999 + 1)) _ _ _
  unfold setFindIn
  refine wpAny_bind (wpAny_setState_of ho hd R.lay ?_)
  refine wp_if_neg (by simp [byScan, Value.scannable]) ?_
  try refine wpAny_bind (wpAny_pure ?_)
  refine wpAny_bind (searchQ R hx hu (fun hm r hr => ?_) fun K hm _ _ => ?_)
  · exact wpAny_pure (q r (by rw [decide_eq_true hm]; exact hr rfl))
  · exact wpAny_pure (q none (by rw [decide_eq_false hm]; rfl))
theorem k_contains {G : Hp} (hu : A.units + 64 < cLine) (I : Inv X pins σ H s) (d : SOk G H a L) (kb : NKV G b nk) {Q : Bool → Shared → Prop} (q : ∀ s', Inv X pins σ H s' → Q (decide (nk ∈ L.map (·.2))) s') :
    wpAny (model X.prog X.w) A (contains (.ref a) (.ref b)) Q E s := by
  obtain ⟨es, ep, t, R⟩ := d.set I.hok
  have hT := R.isSet.1
  have hk := kb.2 _ _ _ _ d.le I.hok
  have u1 : A.in1.units + 8 < cLine := by show A.units + 1 + 8 < cLine; omega
  unfold contains
  try with_reducible refine wpAny_holding ?_
  refine wpAny_bind (wpAny_specialOf hT F.slot_set_contains.lookup ?_)
  refine wp_if_neg (show ¬ ((some (Value.builtin "set.__contains__") == some Value.none) = true) by rw [beq_builtin_none]; exact Bool.false_ne_true) ?_
  refine wpAny_bind (wpAny_callSpecialUnlessNone?_slot (name := Str.ofString "__contains__") hT F.slot_set_contains ?_)
  refine wpAny_call_entry F.slot_set_contains hT entry_set_contains ?_ (F.args_set_contains_2 _ _)
  unfold Builtin.«frozenset.__contains__» Builtin.Frozenset.oneOther Builtin.Frozenset.addrOf Builtin.Frozenset.withSetAsKey setContains
  simp only [List.isEmpty_nil, bind_assoc]
  repeat (refine wpAny_bind (wpAny_pure ?_); try dsimp only)
  refine wpAny_bind (wpAny_tryCatch (wpAny_holding ?_))
  refine wpAny_bind ((nestedKind X.prog X.w).pyHash u1 hk ?_)
  refine wpAny_bind (findQ (s := { s with toks := s.toks + nk.draws }) R hk u1 fun r hr => ?_)
  refine wpAny_pure ?_
  show wpAny _ _ (ret (Value.bool r.isSome)) _ _ _
  rw [hr]
  exact wpAny_pure ⟨_, rfl, wpAny_truthy_bool (q _ (I.tok _))⟩
theorem k_add {G : Hp} (hu : A.units + 64 < cLine) (I : Inv X pins σ H s) (d : SOk G H a L) (kb : NKV G b nk) (few : L.length + 1 ≤ 4000) {Q : Value → Shared → Prop}
    (q : ∀ L' s', (nk ∈ L.map (·.2) → L' = L) → (nk ∉ L.map (·.2) → L'.Perm ((b, nk) :: L)) → Inv X pins σ (upd H a (.ext (SX a L'))) s' → Q .none s') :
    wpAny (model X.prog X.w) A (call (.builtin "set.add") [.ref a, .ref b]) Q E s := by
  obtain ⟨es, ep, t, R⟩ := d.set I.hok
  have hk := kb.2 _ _ _ _ d.le I.hok
  have u1 : A.in1.units + 8 < cLine := by show A.units + 1 + 8 < cLine; omega
  refine wpAny_call_entry F.slot_set_add R.isSet.1 F.entry_set_add ?_ (F.args_set_add_2 _ _)
  unfold Builtin.«set.add» Builtin.Frozenset.oneOther Builtin.Frozenset.addrOf setAdd
  simp only [List.isEmpty_nil, bind_assoc]
  repeat (refine wpAny_bind (wpAny_pure ?_); try dsimp only)
  refine wpAny_bind (wpAny_holding ?_)
  refine wpAny_bind ((nestedKind X.prog X.w).pyHash u1 hk ?_)
  refine addQ (s := { s with toks := s.toks + nk.draws }) R hk kb.1 u1 few fun _ h' L' es' ep' t' sb R' g1 g2 => ?_
  show wpAny _ _ (ret Value.none) _ _ _
  have tfs : ∀ p ∈ L', tf p.2 = true := fun p hp => by
    by_cases m : nk ∈ L.map (·.2)
    · rw [g1 m] at hp; exact (d.ks p hp).1
    · rcases List.mem_cons.mp ((g2 m).mem_iff.mp hp) with z | z
      · rw [z]; exact kb.1
      · exact (d.ks p z).1
  have he : ∃ u, h'.get? a = some u := let ⟨o, e, _⟩ := R'.ob; ⟨o, e⟩
  exact wpAny_pure ⟨_, rfl, q L' _ g1 g2 (d_write (I.tok _) (by rw [d.at_]; exact True.intro) sb he (SX.obj (SX.of R' tfs)))⟩
end
/-! x in s, x not in s, len(s), s.add(x), {x} -/
def rKIn (neg : Bool) : R2 := fun y x H Q => ∃ G a L b nk, x = .ref a ∧ y = .ref b ∧ SOk G H a L ∧ NKV G b nk ∧ Q (.bl (if neg then !decide (nk ∈ L.map (·.2)) else decide (nk ∈ L.map (·.2)))) H
theorem op_kin {X : Cx} (hu : X.A.units + 64 < cLine) : OpR X (compareOp .In) (rKIn false) := by
  intro pins s σ H y x v u Q I ry rx h
  obtain ⟨G, a, L, b, nk, rfl, rfl, d, kb, q⟩ := h
  cases ry; cases rx
  show wpAny _ _ (do return Value.bool (← contains (.ref a) (.ref b))) _ _ s
  exact wpAny_bind (k_contains hu I d kb fun s' I' => wpAny_pure ⟨.bl (decide (nk ∈ L.map fun p : Addr × NestedKey => p.2)), H, I', rfl, q⟩)
theorem op_knotin {X : Cx} (hu : X.A.units + 64 < cLine) : OpR X (compareOp .NotIn) (rKIn true) := by
  intro pins s σ H y x v u Q I ry rx h
  obtain ⟨G, a, L, b, nk, rfl, rfl, d, kb, q⟩ := h
  cases ry; cases rx
  show wpAny _ _ (do return Value.bool (!(← contains (.ref a) (.ref b)))) _ _ s
  exact wpAny_bind (k_contains hu I d kb fun s' I' => wpAny_pure ⟨.bl (!decide (nk ∈ L.map fun p : Addr × NestedKey => p.2)), H, I', rfl, q⟩)
def rLenK : List V → Hp → VK → Prop := fun xs H Q => ∃ G a L, xs = [.ref a] ∧ SOk G H a L ∧ L.length ≤ 4000 ∧ Q (.int ((L.length : Nat) : Int)) H
theorem call_lenK {X : Cx} : CallR X (.builtin "len") rLenK := by
  intro pins s σ H xs us Q I r h
  obtain ⟨G, a, L, rfl, d, few, q⟩ := h
  obtain ⟨u, rfl, rx⟩ := vals1 r
  obtain rfl : u = .ref a := rx
  obtain ⟨es, ep, t, R⟩ := d.set I.hok
  obtain ⟨o, e1, e2, e3⟩ := R.ob
  have z := R.size
  exact call_len_set e1 e2 e3 R.lay (by omega) ⟨.int ((L.length : Nat) : Int), H, I.tok _, ⟨s.toks + 1, by rw [z]⟩, q⟩
def tKAdd (td ty : TE) : TE := fun σ H Q => td σ H fun x H1 => ∃ G a L, x = .ref a ∧ SOk G H1 a L ∧ ty σ H1 fun y H2 => ∃ G2 L2 b nk, SOk G2 H2 a L2 ∧ y = .ref b ∧ NKV G2 b nk ∧ L2.length + 1 ≤ 4000 ∧
  ∀ L', (nk ∈ L2.map (·.2) → L' = L2) → (nk ∉ L2.map (·.2) → L'.Perm ((b, nk) :: L2)) → Q .non (upd H2 a (.ext (SX a L')))
theorem pe_kadd {X : Cx} {o e : Expr} {apos cpos : Pos} {td ty : TE} (hu : X.A.units + 64 < cLine) (ho : PE X o td) (he : PE X e ty) (m : M1 X o "add" apos e cpos) : PE X (.Call (.Attribute o "add" apos) [e] [] cpos) (tKAdd td ty) := by
  refine ⟨fun pins s σ H Q I h => ?_⟩
  refine wpAny_Call_method m.base m.few m.line F.plainAttrs_set F.slot_set_add F.type_set_add (thn (ho.run pins s σ H _ I h) fun u s1 ⟨x, H1, I1, rx, G, a, L, ex, d, q1⟩ => ?_)
  subst ex
  obtain rfl : u = Value.ref a := rx
  obtain ⟨es, ep, t, R⟩ := d.set I1.hok
  refine ⟨R.isSet.1, R.isSet.2, ?_⟩
  rw [m.trees]
  refine Calls.callWith_builtin rfl (Calls.evalArgs_plain (Calls.spliced_cons (thn (he.run pins s1 σ H1 _ I1 q1) fun iv s2 ⟨y, H2, I2, ry, G2, L2, b, nk, d2, ey, kb, few, q2⟩ => Calls.spliced_nil ?_)))
  subst ey
  obtain rfl : iv = Value.ref b := ry
  exact k_add hu I2 d2 kb few fun L' s3 g1 g2 I3 => ⟨.non, _, I3, rfl, q2 L' g1 g2⟩
def tKSet (ty : TE) : TE := fun σ H Q => ∀ p, H p = none → ty σ (upd H p (.ext (SX p []))) fun y H1 => ∃ G b nk, y = .ref b ∧ SOk G H1 p [] ∧ NKV G b nk ∧ ∀ L', L' = [(b, nk)] → Q (.ref p) (upd H1 p (.ext (SX p L')))
theorem SX.empty (h : Heap) (led : Bool) : SX h.objs.size [] (h.push { cls := .type "set", dict := none, data := .set #[] 0 (.fresh 0 0 led) }) :=
  ⟨_, #[], 0, .fresh 0 0 led, Heap.get?_push_size _ rfl, ⟨rfl, rfl, rfl⟩, rfl, rfl, TbQ.fresh _ _ _, .inl rfl, show 0 * 5 < 7 * 3 by decide⟩
theorem pe_kset {X : Cx} {e : Expr} {pos : Pos} {ty : TE} (hu : X.A.units + 64 < cLine) (hcd : PySem.W.kdsCode X.K X.env.code = true) (hp : PySem.W.kdsPlain e = true) (he : PE X e ty) : PE X (.Set [e] 0 pos) (tKSet ty) := by
  refine ⟨fun pins s σ H Q I h => ?_⟩
  rw [arm_eval_Set]
  refine wpAny_bind (wpAny_standAt (wpAny_bind (PySem.W.kds_main I.kIn hcd fun b => ?_)))
  rw [PySem.W.kds_star [e] (by rw [List.all_cons, hp]; rfl), List.map_map]
  refine PySem.W.kds_core (ts := (evalEach [e] X.env).map fun t => do let v ← t; standAt pos; pure v) rfl rfl (show 1 ≤ 30 by decide) (by rw [List.map_map]; try rfl) fun led => PySem.W.kds_all pos [e] _ _ ?_
  have I1 : Inv X pins σ (upd H s.heap.objs.size (.ext (SX s.heap.objs.size []))) { s with heap := s.heap.push { cls := .type "set", dict := none, data := .set #[] 0 (.fresh 0 0 led) } } :=
    I.laid (a := s.heap.objs.size) (t' := s.toks) (fun _ _ q => Heap.get?_push_of_some _ q) (Nat.le_refl _) (SX.obj (SX.empty s.heap led))
  show wpAny _ _ (eval e X.env) _ _ _
  refine thn (he.run pins _ σ _ _ I1 (h _ (I.hok.fresh (Nat.le_refl _)))) fun v s2 ⟨y, H2, I2, ry, G, b, nk, ey, d, kb, q⟩ => ?_
  subst ey
  obtain rfl : v = Value.ref b := ry
  obtain ⟨es, ep, t, R⟩ := d.set I2.hok
  have hk := kb.2 _ _ _ _ d.le I2.hok
  have u1 : X.A.units + 8 < cLine := by omega
  refine PySem.W.kds_fill_cons ?_
  unfold setAdd
  refine wpAny_holding (wpAny_bind ((nestedKind X.prog X.w).pyHash u1 hk ?_))
  refine addQ (s := { s2 with toks := s2.toks + nk.draws }) R hk kb.1 u1 (by decide) fun _ h' L' es' ep' t' sb R' g1 g2 => PySem.W.kds_fill_nil rfl ?_
  have eL : L' = [(b, nk)] := List.perm_singleton.mp (g2 (by simp))
  subst eL
  have ho : ∃ u, h'.get? s.heap.objs.size = some u := let ⟨o, e, _⟩ := R'.ob; ⟨o, e⟩
  exact ⟨.ref s.heap.objs.size, _, d_write (I2.tok _) (by rw [d.at_]; exact True.intro) sb ho (SX.obj (SX.of R' fun p hp => by rw [List.mem_singleton.mp hp]; exact kb.1)), rfl, q _ rfl⟩
end MX


set_option Elab.async false
set_option linter.all false
set_option maxRecDepth 100000
/-! MX: values without addresses (D), what a V stands for (R), and readings that go by functions over D. -/
namespace MX
open PySem PySem.Spec PyProof.Rows L2

inductive D where
  | non | bl (b : Bool) | int (i : Int) | str (x : Str) | lst (xs : List D) | tup (xs : List D) | cell (i : Nat) | obj (c : Nat) (fs : List D) | ty (n : String) | cls (k : Nat) | ro (xs : List D) | dct (ks vs : List D) | mdc (ks vs : List D) | mse (ks : List D)

/-- the program's own classes: addresses, field names; its exception classes -/
structure Cs where
  K : PySem.W.Frag
  cl : Nat → Addr
  fn : Nat → List Str
  xc : Nat → Addr
  xf : Nat → List Str

/-- a tuple without a dict of its own -/
def TupK (K : PySem.W.Frag) (F : Hp) (a : Addr) (xs : List V) : Prop := ∃ o : Obj, F a = some (.frz o (.tup xs)) ∧ o.dict = none
/-! keys of dicts -/
mutual
def nkOf : D → Option NestedKey
  | .int i => some (.num i)
  | .non => some .none
  | .tup ds => match nksOf ds with
    | some ks => some (.tup ks)
    | none => none
  | _ => none
def nksOf : List D → Option (List NestedKey)
  | [] => some []
  | d :: ds => match nkOf d with
    | some k => match nksOf ds with
      | some ks => some (k :: ks)
      | none => none
    | none => none
end
/-- a dict's entries, as such -/
structure XF (a : Addr) (xs : NX) : Prop where
  ns : (a == sysModules) = false
  nd : (xs.map (·.1)).Nodup
  sz : xs.length ≤ 1000000
  dp : ∀ x ∈ xs, x.1.depth ≤ 8 ∧ ∃ ks, x.1 = .tup ks
mutual
def R (c : Cs) (F : Hp) (θ : List Addr) : V → D → Prop
  | v, .non => v = .non
  | v, .bl b => v = .bl b
  | v, .int i => v = .int i
  | v, .str x => v = .str x
  | v, .lst ds => ∃ a xs, v = .ref a ∧ F a = some (.lst xs) ∧ RA c F θ xs ds
  | v, .ro ds => ∃ a xs, v = .ref a ∧ SqL c.K F a xs ∧ RA c F θ xs ds
  | v, .tup ds => ∃ a xs, v = .ref a ∧ TupK c.K F a xs ∧ RA c F θ xs ds
  | v, .cell i => ∃ a, v = .ref a ∧ θ[i]? = some a
  | v, .obj k ds => ∃ a dx fs, v = .ref a ∧ F a = some (.ins (c.cl k) dx fs) ∧ fs.map (·.1) = c.fn k ∧ RA c F θ (fs.map (·.2)) ds
  | v, .ty n => v = .ty n
  | v, .cls k => v = .ref (c.cl k)
  | v, .dct ks vs => ∃ a xs ep us, v = .ref a ∧ F a = some (.ext (DX a xs ep)) ∧ XF a xs ∧ nksOf ks = some (xs.map (·.1)) ∧ RA c F θ (xs.map fun x => V.ref x.2.1) ks ∧ Vals us (xs.map fun x => x.2.2) ∧ RA c F θ us vs
  | _, .mdc _ _ => False
  | _, .mse _ => False
def RA (c : Cs) (F : Hp) (θ : List Addr) : List V → List D → Prop
  | vs, [] => vs = []
  | vs, d :: ds => ∃ v r, vs = v :: r ∧ R c F θ v d ∧ RA c F θ r ds
end

section
variable {c : Cs} {F F' H H' : Hp} {θ θ' : List Addr}
theorem RA.nil : RA c F θ [] [] := by unfold RA; rfl
theorem RA.cons {v : V} {d : D} {vs : List V} {ds : List D} (h : R c F θ v d) (t : RA c F θ vs ds) : RA c F θ (v :: vs) (d :: ds) := by
  unfold RA; exact ⟨v, vs, rfl, h, t⟩
theorem RA.nil_inv {vs : List V} (h : RA c F θ vs []) : vs = [] := by unfold RA at h; exact h
theorem RA.cons_inv {vs : List V} {d : D} {ds : List D} (h : RA c F θ vs (d :: ds)) : ∃ v r, vs = v :: r ∧ R c F θ v d ∧ RA c F θ r ds := by unfold RA at h; exact h
theorem RA.length : ∀ {ds : List D} {vs : List V}, RA c F θ vs ds → vs.length = ds.length
  | [], _, h => by rw [h.nil_inv]; rfl
  | d :: ds, _, h => by
    obtain ⟨v, r, rfl, _, t⟩ := h.cons_inv
    simp [RA.length t]
theorem RA.get : ∀ {ds : List D} {vs : List V} {i : Nat} {v : V} {d : D}, RA c F θ vs ds → vs[i]? = some v → ds[i]? = some d → R c F θ v d
  | [], _, i, _, _, h, _, e => by simp at e
  | d :: ds, _, 0, _, _, h, e1, e2 => by
    obtain ⟨v, r, rfl, q, t⟩ := h.cons_inv
    simp at e1 e2; subst e1; subst e2; exact q
  | d :: ds, _, i + 1, _, _, h, e1, e2 => by
    obtain ⟨v, r, rfl, q, t⟩ := h.cons_inv
    exact RA.get t (by simpa using e1) (by simpa using e2)
theorem RA.get' {ds : List D} {vs : List V} {i : Nat} {d : D} (h : RA c F θ vs ds) (e : ds[i]? = some d) : ∃ v, vs[i]? = some v ∧ R c F θ v d := by
  have hl := h.length
  have hi : i < ds.length := by
    rcases Nat.lt_or_ge i ds.length with q | q
    · exact q
    · rw [List.getElem?_eq_none q] at e; cases e
  exact ⟨vs[i]'(by omega), List.getElem?_eq_getElem (by omega), h.get (List.getElem?_eq_getElem (by omega)) e⟩
theorem RA.append : ∀ {ds es : List D} {vs us : List V}, RA c F θ vs ds → RA c F θ us es → RA c F θ (vs ++ us) (ds ++ es)
  | [], _, _, _, h, k => by rw [h.nil_inv]; exact k
  | d :: ds, _, _, _, h, k => by
    obtain ⟨v, r, rfl, q, t⟩ := h.cons_inv
    exact RA.cons q (RA.append t k)
theorem RA.take : ∀ (n : Nat) {ds : List D} {vs : List V}, RA c F θ vs ds → RA c F θ (vs.take n) (ds.take n)
  | 0, _, _, _ => by simp; exact RA.nil
  | _ + 1, [], _, h => by rw [h.nil_inv]; simp; exact RA.nil
  | n + 1, d :: ds, _, h => by
    obtain ⟨v, r, rfl, q, t⟩ := h.cons_inv
    simpa using RA.cons q (RA.take n t)
theorem RA.drop : ∀ (n : Nat) {ds : List D} {vs : List V}, RA c F θ vs ds → RA c F θ (vs.drop n) (ds.drop n)
  | 0, _, _, h => by simpa using h
  | _ + 1, [], _, h => by rw [h.nil_inv]; simp; exact RA.nil
  | n + 1, d :: ds, _, h => by
    obtain ⟨v, r, rfl, q, t⟩ := h.cons_inv
    simpa using RA.drop n t
theorem RA.ints : ∀ {ns : List Int} {vs : List V}, RA c F θ vs (ns.map D.int) → vs = ns.map V.int
  | [], _, h => h.nil_inv
  | n :: ns, _, h => by
    obtain ⟨v, r, rfl, q, t⟩ := RA.cons_inv h
    unfold R at q
    rw [q, RA.ints t]; rfl
theorem RA.of_ints : ∀ {ns : List Int}, RA c F θ (ns.map V.int) (ns.map D.int)
  | [] => RA.nil
  | n :: ns => RA.cons (by unfold R; rfl) RA.of_ints
theorem RA.bls : ∀ {ns : List Bool} {vs : List V}, RA c F θ vs (ns.map D.bl) → vs = ns.map V.bl
  | [], _, h => h.nil_inv
  | n :: ns, _, h => by
    obtain ⟨v, r, rfl, q, t⟩ := RA.cons_inv h
    unfold R at q
    rw [q, RA.bls t]; rfl

theorem Le.new {p : Addr} {o : HO} (h : F p = none) : Le F (upd F p o) := fun a u e => by
  rw [upd_ne (ne_of_none e h)]; exact e
theorem Le.both {p : Addr} {o : HO} (h : Le F H) : Le (upd F p o) (upd H p o) := fun a u e => by
  by_cases q : a = p
  · subst q; rw [upd_same] at e ⊢; exact e
  · rw [upd_ne q] at e ⊢; exact h a u e
theorem Le.updR {p : Addr} {o : HO} (h : Le F H) (n : F p = none) : Le F (upd H p o) := fun a u e => by
  rw [upd_ne (ne_of_none e n)]; exact h a u e
theorem Le.rd {a : Addr} {u : HO} (e : Le F F') (h : Rd F a u) : Rd F' a u := by
  rcases h with h | ⟨o, h⟩
  · exact .inl (e a _ h)
  · exact .inr ⟨o, e a _ h⟩
theorem Le.l {K : PySem.W.Frag} {a : Addr} {xs : List V} (e : Le F F') (h : SqL K F a xs) : SqL K F' a xs := by
  rcases h with h | h
  · exact .inl (e.rd h)
  · exact .inr h
theorem Le.t {K : PySem.W.Frag} {a : Addr} {xs : List V} (e : Le F F') (h : SqT K F a xs) : SqT K F' a xs := by
  rcases h with h | h
  · exact .inl (e.rd h)
  · exact .inr h
theorem TupK.t {K : PySem.W.Frag} {a : Addr} {xs : List V} (h : TupK K F a xs) : SqT K F a xs := .inl (.inr ⟨h.choose, h.choose_spec.1⟩)
theorem TupK.mono {K : PySem.W.Frag} {a : Addr} {xs : List V} (e : Le F F') (h : TupK K F a xs) : TupK K F' a xs := by
  obtain ⟨o, h, d⟩ := h
  exact ⟨o, e _ _ h, d⟩
abbrev Pre (θ θ' : List Addr) : Prop := ∃ l, θ' = θ ++ l
theorem Pre.refl (θ : List Addr) : Pre θ θ := ⟨[], by simp⟩
theorem Pre.trans {a b d : List Addr} (h : Pre a b) (k : Pre b d) : Pre a d := by
  obtain ⟨l, rfl⟩ := h; obtain ⟨m, rfl⟩ := k; exact ⟨l ++ m, by simp⟩
theorem Pre.get {i : Nat} {a : Addr} (h : Pre θ θ') (e : θ[i]? = some a) : θ'[i]? = some a := by
  obtain ⟨l, rfl⟩ := h
  have hi : i < θ.length := by
    rcases Nat.lt_or_ge i θ.length with q | q
    · exact q
    · rw [List.getElem?_eq_none q] at e; cases e
  rw [List.getElem?_append_left hi]; exact e
theorem Pre.mem {a : Addr} (h : Pre θ θ') (e : a ∈ θ) : a ∈ θ' := by
  obtain ⟨l, rfl⟩ := h; exact List.mem_append_left _ e
mutual
theorem R.mono (e : Le F F') (p : Pre θ θ') : ∀ (d : D) {v : V}, R c F θ v d → R c F' θ' v d
  | .non, v, h => by unfold R at h ⊢; exact h
  | .bl _, v, h => by unfold R at h ⊢; exact h
  | .int _, v, h => by unfold R at h ⊢; exact h
  | .str _, v, h => by unfold R at h ⊢; exact h
  | .lst ds, v, h => by
    unfold R at h ⊢
    obtain ⟨a, xs, r, s, t⟩ := h
    exact ⟨a, xs, r, e a _ s, RA.mono e p ds t⟩
  | .ro ds, v, h => by
    unfold R at h ⊢
    obtain ⟨a, xs, r, s, t⟩ := h
    exact ⟨a, xs, r, e.l s, RA.mono e p ds t⟩
  | .tup ds, v, h => by
    unfold R at h ⊢
    obtain ⟨a, xs, r, s, t⟩ := h
    exact ⟨a, xs, r, s.mono e, RA.mono e p ds t⟩
  | .cell i, v, h => by
    unfold R at h ⊢
    obtain ⟨a, r, s⟩ := h
    exact ⟨a, r, p.get s⟩
  | .obj k ds, v, h => by
    unfold R at h ⊢
    obtain ⟨a, dx, fs, r, s, n, t⟩ := h
    exact ⟨a, dx, fs, r, e a _ s, n, RA.mono e p ds t⟩
  | .ty _, v, h => by unfold R at h ⊢; exact h
  | .cls _, v, h => by unfold R at h ⊢; exact h
  | .dct ks vs, v, h => by
    unfold R at h ⊢
    obtain ⟨a, xs, ep, us, e1, e2, e3, e4, e5, e6, e7⟩ := h
    exact ⟨a, xs, ep, us, e1, e a _ e2, e3, e4, RA.mono e p ks e5, e6, RA.mono e p vs e7⟩
  | .mdc _ _, v, h => by unfold R at h; exact h.elim
  | .mse _, v, h => by unfold R at h; exact h.elim
theorem RA.mono (e : Le F F') (p : Pre θ θ') : ∀ (ds : List D) {vs : List V}, RA c F θ vs ds → RA c F' θ' vs ds
  | [], vs, h => by rw [h.nil_inv]; exact RA.nil
  | d :: ds, vs, h => by
    obtain ⟨v, r, rfl, q, t⟩ := h.cons_inv
    exact RA.cons (R.mono e p d q) (RA.mono e p ds t)
end

/-- from a state (F, θ, H) to a later one: what is frozen stays, cells may change, all else that is tracked stays -/
structure Ext (F : Hp) (θ : List Addr) (H F' : Hp) (θ' : List Addr) (H' : Hp) : Prop where
  fr : Le F F'
  th : Pre θ θ'
  kp : ∀ a o, H a = some o → a ∉ θ → H' a = some o
  nc : ∀ a, a ∈ θ' → a ∉ θ → H a = none
  nf : ∀ a, F a = none → H a ≠ none → F' a = none
  al : ∀ a, H a ≠ none → H' a ≠ none
theorem Ext.refl (F : Hp) (θ : List Addr) (H : Hp) : Ext F θ H F θ H := ⟨Le.refl F, Pre.refl θ, fun _ _ h _ => h, fun _ h k => absurd h k, fun _ h _ => h, fun _ h => h⟩
theorem Ext.trans {F1 F2 F3 H1 H2 H3 : Hp} {θ1 θ2 θ3 : List Addr} (x : Ext F1 θ1 H1 F2 θ2 H2) (y : Ext F2 θ2 H2 F3 θ3 H3) : Ext F1 θ1 H1 F3 θ3 H3 where
  fr := x.fr.trans y.fr
  th := x.th.trans y.th
  kp := fun a o h n => y.kp a o (x.kp a o h n) fun m => by
    have := x.nc a m n
    rw [h] at this; cases this
  nc := fun a m n => by
    by_cases q : a ∈ θ2
    · exact x.nc a q n
    · have h2 := y.nc a m q
      cases e : H1 a with
      | none => rfl
      | some o => have := x.kp a o e n; rw [h2] at this; cases this
  nf := fun a h n => y.nf a (x.nf a h n) (x.al a n)
  al := fun a n => y.al a (x.al a n)
/-- a new frozen object -/
theorem Ext.new {p : Addr} {o : HO} (h : H p = none) (hF : F p = none) (ht : p ∉ θ) : Ext F θ H (upd F p o) θ (upd H p o) where
  fr := Le.new hF
  th := Pre.refl θ
  kp := fun a u e _ => by rw [upd_ne (ne_of_none e h)]; exact e
  nc := fun a m n => absurd m n
  nf := fun a e n => by
    by_cases q : a = p
    · subst q; exact absurd h n
    · rw [upd_ne q]; exact e
  al := fun a n => by
    by_cases q : a = p
    · subst q; exact absurd h n
    · rw [upd_ne q]; exact n
/-- a new object that is not frozen -/
theorem Ext.newH {p : Addr} {o : HO} (h : H p = none) : Ext F θ H F θ (upd H p o) where
  fr := Le.refl F
  th := Pre.refl θ
  kp := fun a u e _ => by rw [upd_ne (ne_of_none e h)]; exact e
  nc := fun a m n => absurd m n
  nf := fun a e n => e
  al := fun a n => by
    by_cases q : a = p
    · subst q; exact absurd h n
    · rw [upd_ne q]; exact n

/-! ### the store: cells -/
abbrev Sto := List (List D)
/-- a cell's content is a list's -/
def isL : List D → Bool
  | [.mdc _ _] => false
  | [.mse _] => false
  | _ => true
def DcR (c : Cs) (F : Hp) (θ : List Addr) (a : Addr) (o : HO) (ks vs : List D) : Prop := ∃ xs ep us, o = .ext (DX a xs ep) ∧ XF a xs ∧ nksOf ks = some (xs.map (·.1)) ∧ RA c F θ (xs.map fun x => V.ref x.2.1) ks ∧ Vals us (xs.map fun x => x.2.2) ∧ RA c F θ us vs
/-- a set's: its entries in some order are the keys -/
def SeR (c : Cs) (F : Hp) (θ : List Addr) (a : Addr) (o : HO) (ks : List D) : Prop := ∃ L L' : KL, o = .ext (SX a L) ∧ L.Perm L' ∧ nksOf ks = some (L'.map (·.2)) ∧ RA c F θ (L'.map fun p => V.ref p.1) ks ∧ (L'.map (·.2)).Nodup ∧ (∀ p ∈ L', p.2.depth ≤ 8 ∧ ∃ kk, p.2 = .tup kk)
def CelR (c : Cs) (F : Hp) (θ : List Addr) (a : Addr) (o : HO) (ds : List D) : Prop := (∃ xs, o = .lst xs ∧ RA c F θ xs ds) ∨ (∃ ks vs, ds = [.mdc ks vs] ∧ DcR c F θ a o ks vs) ∨ ∃ ks, ds = [.mse ks] ∧ SeR c F θ a o ks
theorem CelR.mono {a : Addr} {o : HO} {ds : List D} (e : Le F F') (p : Pre θ θ') (h : CelR c F θ a o ds) : CelR c F' θ' a o ds := by
  rcases h with ⟨xs, h1, h2⟩ | ⟨ks, vs, h1, xs, ep, us, e1, e2, e3, e4, e5, e6⟩ | ⟨ks, h1, L, L', e1, e2, e3, e4, e5⟩
  · exact .inl ⟨xs, h1, RA.mono e p ds h2⟩
  · exact .inr (.inl ⟨ks, vs, h1, xs, ep, us, e1, e2, e3, RA.mono e p ks e4, e5, RA.mono e p vs e6⟩)
  · exact .inr (.inr ⟨ks, h1, L, L', e1, e2, e3, RA.mono e p ks e4, e5⟩)
theorem CelR.lst {a : Addr} {o : HO} {ds : List D} (h : CelR c F θ a o ds) (l : isL ds = true) : ∃ xs, o = .lst xs ∧ RA c F θ xs ds := by
  rcases h with h | ⟨ks, vs, rfl, _⟩ | ⟨ks, rfl, _⟩
  · exact h
  · cases l
  · cases l
structure WOk (c : Cs) (s : Sto) (F : Hp) (θ : List Addr) (H : Hp) : Prop where
  sub : Le F H
  fc : ∀ a, a ∈ θ → F a = none ∧ H a ≠ none
  nd : θ.Nodup
  len : θ.length = s.length
  cel : ∀ (i : Nat) (a : Addr) (ds : List D), θ[i]? = some a → s[i]? = some ds → ∃ o, H a = some o ∧ CelR c F θ a o ds
theorem WOk.free {s : Sto} {p : Addr} (w : WOk c s F θ H) (h : H p = none) : F p = none ∧ p ∉ θ := by
  refine ⟨?_, fun m => (w.fc p m).2 h⟩
  cases e : F p with
  | none => rfl
  | some o => have := w.sub p o e; rw [h] at this; cases this
theorem WOk.new {s : Sto} {p : Addr} {o : HO} (w : WOk c s F θ H) (h : H p = none) : WOk c s (upd F p o) θ (upd H p o) where
  sub := w.sub.both
  fc := fun a m => by
    have q : a ≠ p := fun e => (w.free h).2 (e ▸ m)
    rw [upd_ne q, upd_ne q]; exact w.fc a m
  nd := w.nd
  len := w.len
  cel := fun i a ds h1 h2 => by
    obtain ⟨xs, e, r⟩ := w.cel i a ds h1 h2
    exact ⟨xs, by rw [upd_ne (ne_of_none e h)]; exact e, r.mono (Le.new (w.free h).1) (Pre.refl θ)⟩
theorem WOk.newH {s : Sto} {p : Addr} {o : HO} (w : WOk c s F θ H) (h : H p = none) : WOk c s F θ (upd H p o) where
  sub := w.sub.updR (w.free h).1
  fc := fun a m => by
    have q : a ≠ p := fun e => (w.free h).2 (e ▸ m)
    rw [upd_ne q]; exact w.fc a m
  nd := w.nd
  len := w.len
  cel := fun i a ds h1 h2 => by
    obtain ⟨xs, e, r⟩ := w.cel i a ds h1 h2
    exact ⟨xs, by rw [upd_ne (ne_of_none e h)]; exact e, r⟩
/-- an object that is neither frozen nor a cell is frozen now -/
theorem WOk.freeze {s : Sto} {p : Addr} {o : HO} (w : WOk c s F θ H) (h : H p = some o) (hF : F p = none) (ht : p ∉ θ) : WOk c s (upd F p o) θ H where
  sub := fun a u e => by
    by_cases q : a = p
    · subst q; rw [upd_same] at e; cases e; exact h
    · rw [upd_ne q] at e; exact w.sub a u e
  fc := fun a m => by
    have q : a ≠ p := fun e => ht (e ▸ m)
    rw [upd_ne q]; exact w.fc a m
  nd := w.nd
  len := w.len
  cel := fun i a ds h1 h2 => by
    obtain ⟨xs, e, r⟩ := w.cel i a ds h1 h2
    exact ⟨xs, e, r.mono (Le.new hF) (Pre.refl θ)⟩
/-- .. becomes a new cell -/
theorem WOk.cellNew {s : Sto} {p : Addr} {xs : List V} {ds : List D} (w : WOk c s F θ H) (h : H p = some (.lst xs)) (r : RA c F θ xs ds) (hF : F p = none) (ht : p ∉ θ) : WOk c (s ++ [ds]) F (θ ++ [p]) H where
  sub := w.sub
  fc := fun a m => by
    rcases List.mem_append.mp m with m | m
    · exact w.fc a m
    · have e : a = p := by simpa using m
      subst e; exact ⟨hF, by rw [h]; simp⟩
  nd := by
    rw [List.nodup_append]
    refine ⟨w.nd, by simp, fun a ha b hb e => ht ?_⟩
    have z : b = p := by simpa using hb
    rw [← z, ← e]; exact ha
  len := by simp [w.len]
  cel := fun i a es h1 h2 => by
    rcases Nat.lt_or_ge i θ.length with q | q
    · rw [List.getElem?_append_left q] at h1
      rw [List.getElem?_append_left (by rw [← w.len]; exact q)] at h2
      obtain ⟨ys, e, r'⟩ := w.cel i a es h1 h2
      exact ⟨ys, e, r'.mono (Le.refl F) ⟨[p], rfl⟩⟩
    · rw [List.getElem?_append_right q] at h1
      rw [List.getElem?_append_right (by rw [← w.len]; exact q)] at h2
      have hl := w.len
      cases e : i - θ.length with
      | zero =>
        rw [e] at h1
        rw [← hl, e] at h2
        simp at h1 h2
        subst h1; subst h2
        exact ⟨_, h, .inl ⟨xs, rfl, RA.mono (Le.refl F) ⟨[p], rfl⟩ ds r⟩⟩
      | succ n => rw [e] at h1; simp at h1
theorem nd_ix : ∀ {l : List Addr} {i j : Nat} {a : Addr}, l.Nodup → l[i]? = some a → l[j]? = some a → i = j
  | [], i, j, a, _, h, _ => by simp at h
  | x :: l, 0, 0, a, _, _, _ => rfl
  | x :: l, 0, j + 1, a, n, h, k => by
    simp at h k
    subst h
    exact absurd (List.mem_of_getElem? k) (List.nodup_cons.mp n).1
  | x :: l, i + 1, 0, a, n, h, k => by
    simp at h k
    subst k
    exact absurd (List.mem_of_getElem? h) (List.nodup_cons.mp n).1
  | x :: l, i + 1, j + 1, a, n, h, k => by
    simp at h k
    rw [nd_ix (List.nodup_cons.mp n).2 h k]
/-- a cell is written -/
theorem WOk.cellSet {s : Sto} {p : Addr} {i : Nat} {ys : List V} {es : List D} (w : WOk c s F θ H) (hi : θ[i]? = some p) (r : RA c F θ ys es) : WOk c (s.set i es) F θ (upd H p (.lst ys)) := by
  have hm : p ∈ θ := List.mem_of_getElem? hi
  refine ⟨w.sub.updR (w.fc p hm).1, fun a m => ?_, w.nd, by simp [w.len], fun j a fs h1 h2 => ?_⟩
  · by_cases q : a = p
    · subst q; rw [upd_same]; exact ⟨(w.fc a m).1, by simp⟩
    · rw [upd_ne q]; exact w.fc a m
  · by_cases q : j = i
    · subst q
      rw [hi] at h1; cases h1
      have hj : j < s.length := by
        rw [← w.len]
        rcases Nat.lt_or_ge j θ.length with z | z
        · exact z
        · rw [List.getElem?_eq_none z] at hi; cases hi
      rw [List.getElem?_set_self hj] at h2
      cases h2
      exact ⟨_, upd_same, .inl ⟨ys, rfl, r⟩⟩
    · rw [List.getElem?_set_ne (fun e => q e.symm)] at h2
      obtain ⟨xs, e, r'⟩ := w.cel j a fs h1 h2
      have na : a ≠ p := fun z => by
        subst z
        exact q (nd_ix w.nd h1 hi)
      exact ⟨xs, by rw [upd_ne na]; exact e, r'⟩
theorem Ext.cellSet {p : Addr} {o : HO} (hp : p ∈ θ) : Ext F θ H F θ (upd H p o) where
  fr := Le.refl F
  th := Pre.refl θ
  kp := fun a u e n => by
    have z : a ≠ p := fun z => n (by rw [z]; exact hp)
    rw [upd_ne z]; exact e
  nc := fun a m n => absurd m n
  nf := fun a e n => e
  al := fun a n => by
    by_cases q : a = p
    · subst q; rw [upd_same]; simp
    · rw [upd_ne q]; exact n

/-! ### slots -/
/-- the entry of a def: the heap there, and self, where it is an __init__ -/
structure En where
  h : Hp
  me : Addr
instance : CoeFun En (fun _ => Addr → Option HO) := ⟨En.h⟩
instance : Coe En Hp := ⟨En.h⟩
inductive Sl where
  | none | val (d : D) | own (xs : List D) | oobj (k : Nat) (fs : List (Str × D))
def SlotOk (c : Cs) (H0 : En) (F : Hp) (θ : List Addr) (H : Hp) : Option V → Sl → Prop
  | _, .none => True
  | o, .val d => ∃ v, o = some v ∧ R c F θ v d
  | o, .own ds => ∃ l xs, o = some (.ref l) ∧ H0 l = none ∧ F l = none ∧ l ∉ θ ∧ H l = some (.lst xs) ∧ RA c F θ xs ds
  | o, .oobj k fs => ∃ x dx fv, o = some (.ref x) ∧ x = H0.me ∧ H0 x = none ∧ F x = none ∧ x ∉ θ ∧ H x = some (.ins (c.cl k) dx fv) ∧ fv.map (·.1) = fs.map (·.1) ∧ RA c F θ (fv.map (·.2)) (fs.map (·.2))
structure EnvOk (c : Cs) (H0 : En) (F : Hp) (θ : List Addr) (H : Hp) (σ : List (Option V)) (ρ : List Sl) : Prop where
  len : σ.length = ρ.length
  at_ : ∀ (i : Nat) (o : Option V) (x : Sl), σ[i]? = some o → ρ[i]? = some x → SlotOk c H0 F θ H o x
  apart : ∀ (i j : Nat) (l : Addr) (xs ys : List D), i ≠ j → σ[i]? = some (some (.ref l)) → ρ[i]? = some (.own xs) → ρ[j]? = some (.own ys) → σ[j]? ≠ some (some (.ref l))
theorem SlotOk.ext {H0 : En} {o : Option V} {x : Sl} (h : SlotOk c H0 F θ H o x) (e : Ext F θ H F' θ' H') : SlotOk c H0 F' θ' H' o x := by
  cases x with
  | none => trivial
  | val d => obtain ⟨v, r, q⟩ := h; exact ⟨v, r, R.mono e.fr e.th d q⟩
  | own ds =>
    obtain ⟨l, xs, r, h0, hF, ht, hH, q⟩ := h
    refine ⟨l, xs, r, h0, e.nf l hF (by rw [hH]; simp), fun m => ?_, e.kp l _ hH ht, RA.mono e.fr e.th ds q⟩
    have z := e.nc l m ht
    rw [hH] at z
    cases z
  | oobj k fs =>
    obtain ⟨l, dx, xs, r, hm, h0, hF, ht, hH, hn, q⟩ := h
    refine ⟨l, dx, xs, r, hm, h0, e.nf l hF (by rw [hH]; simp), fun m => ?_, e.kp l _ hH ht, hn, RA.mono e.fr e.th _ q⟩
    have z := e.nc l m ht
    rw [hH] at z
    cases z
theorem EnvOk.ext {H0 : En} {σ : List (Option V)} {ρ : List Sl} (h : EnvOk c H0 F θ H σ ρ) (e : Ext F θ H F' θ' H') : EnvOk c H0 F' θ' H' σ ρ :=
  ⟨h.len, fun i o x h1 h2 => (h.at_ i o x h1 h2).ext e, h.apart⟩
theorem get_lt {α : Type} {l : List α} {i : Nat} {a : α} (h : l[i]? = some a) : i < l.length := by
  rcases Nat.lt_or_ge i l.length with z | z
  · exact z
  · rw [List.getElem?_eq_none z] at h; cases h
theorem EnvOk.get {H0 : En} {σ : List (Option V)} {ρ : List Sl} {i : Nat} {x : Sl} (h : EnvOk c H0 F θ H σ ρ) (e : ρ[i]? = some x) : ∃ o, σ[i]? = some o ∧ SlotOk c H0 F θ H o x := by
  have := get_lt e
  have hi : i < σ.length := by rw [h.len]; exact this
  exact ⟨σ[i], List.getElem?_eq_getElem hi, h.at_ i _ x (List.getElem?_eq_getElem hi) e⟩
theorem EnvOk.set {H0 : En} {σ : List (Option V)} {ρ : List Sl} {i : Nat} {o : Option V} {x : Sl} (h : EnvOk c H0 F θ H σ ρ) (q : SlotOk c H0 F θ H o x)
    (ap : ∀ l xs, o = some (.ref l) → x = .own xs → ∀ j ys, j ≠ i → ρ[j]? = some (.own ys) → σ[j]? ≠ some (some (.ref l))) : EnvOk c H0 F θ H (σ.set i o) (ρ.set i x) := by
  refine ⟨by simp [h.len], fun j o' x' h1 h2 => ?_, fun j k l xs ys n h1 h2 h3 h4 => ?_⟩
  · by_cases e : i = j
    · subst e
      have hj : i < σ.length := by have := get_lt h1; simpa using this
      rw [List.getElem?_set_self hj] at h1
      rw [List.getElem?_set_self (by rw [← h.len]; exact hj)] at h2
      cases h1; cases h2; exact q
    · rw [List.getElem?_set_ne e] at h1 h2
      exact h.at_ j o' x' h1 h2
  · by_cases e : i = j
    · subst e
      have hj : i < σ.length := by have := get_lt h1; simpa using this
      rw [List.getElem?_set_self hj] at h1
      rw [List.getElem?_set_self (by rw [← h.len]; exact hj)] at h2
      rw [List.getElem?_set_ne n] at h3 h4
      exact ap l xs (Option.some.inj h1) (Option.some.inj h2) k ys (fun z => n z.symm) h3 h4
    · rw [List.getElem?_set_ne e] at h1 h2
      by_cases e2 : i = k
      · subst e2
        have hj : i < σ.length := by have := get_lt h4; simpa using this
        rw [List.getElem?_set_self hj] at h4
        rw [List.getElem?_set_self (by rw [← h.len]; exact hj)] at h3
        exact ap l ys (Option.some.inj h4) (Option.some.inj h3) j xs (fun z => e z.symm) h2 h1
      · rw [List.getElem?_set_ne e2] at h3 h4
        exact h.apart j k l xs ys n h1 h2 h3 h4
theorem EnvOk.setVal {H0 : En} {σ : List (Option V)} {ρ : List Sl} {i : Nat} {v : V} {d : D} (h : EnvOk c H0 F θ H σ ρ) (q : R c F θ v d) : EnvOk c H0 F θ H (σ.set i (some v)) (ρ.set i (.val d)) :=
  h.set ⟨v, rfl, q⟩ fun _ _ _ e => by cases e
theorem EnvOk.setNone {H0 : En} {σ : List (Option V)} {ρ : List Sl} {i : Nat} {o : Option V} (h : EnvOk c H0 F θ H σ ρ) : EnvOk c H0 F θ H (σ.set i o) (ρ.set i .none) :=
  h.set trivial fun _ _ _ e => by cases e
/-- a new list of one's own -/
theorem EnvOk.setOwn {H0 : En} {σ : List (Option V)} {ρ : List Sl} {i : Nat} {l : Addr} {xs : List V} {ds : List D} (h : EnvOk c H0 F θ H σ ρ) (h0 : H0 l = none) (hF : F l = none) (ht : l ∉ θ) (hH : H l = some (.lst xs)) (r : RA c F θ xs ds)
    (nw : ∀ j ys, j ≠ i → ρ[j]? = some (.own ys) → σ[j]? ≠ some (some (.ref l))) : EnvOk c H0 F θ H (σ.set i (some (.ref l))) (ρ.set i (.own ds)) :=
  h.set ⟨l, xs, rfl, h0, hF, ht, hH, r⟩ fun l' _ e _ j ys n h3 => by
    cases e
    exact nw j ys n h3
end
end MX


set_option Elab.async false
set_option linter.all false
set_option maxRecDepth 100000
namespace MX
open PySem PySem.Spec PyProof.Rows L2

/-! ### answers -/
inductive Res (α : Type) where
  | ok (a : α) (s : Sto) | exc (k : Nat) (fs : List D) (s : Sto) | bad
def Res.bind {α β : Type} (r : Res α) (f : α → Sto → Res β) : Res β := match r with
  | .ok a s => f a s
  | .exc k fs s => .exc k fs s
  | .bad => .bad
def Res.ofO {α : Type} (o : Option α) (s : Sto) : Res α := match o with
  | some a => .ok a s
  | none => .bad
/-- an exception's own dict -/
def XRep (c : Cs) (F : Hp) (θ : List Addr) (dx : Option Addr) (k : Nat) (fs : List D) : Prop :=
  fs = [] ∨ ∃ d vs, dx = some d ∧ F d = some (.xd ((c.xf k).zip vs)) ∧ vs.length = (c.xf k).length ∧ RA c F θ vs fs
/-- what a V (a list of V, a Bool ..) stands for: by the heap at the start, then F θ H -/
structure Rel (c : Cs) (β α : Type) where
  on : Hp → Hp → List Addr → Hp → β → α → Prop
  anti : ∀ (H1 H2 : Hp), (∀ a, H1 a ≠ none → H2 a ≠ none) → ∀ F θ H v a, on H2 F θ H v a → on H1 F θ H v a
section
variable (c : Cs)
def rV : Rel c V D := ⟨fun _ F θ _ v d => R c F θ v d, fun _ _ _ _ _ _ _ _ h => h⟩
def rA : Rel c (List V) (List D) := ⟨fun _ F θ _ v d => RA c F θ v d, fun _ _ _ _ _ _ _ _ h => h⟩
def rB : Rel c Bool Bool := ⟨fun _ _ _ _ b d => b = d, fun _ _ _ _ _ _ _ _ h => h⟩
/-- a list that is read -/
def rL : Rel c V (List D) := ⟨fun _ F θ H v ds => ∃ a xs, v = .ref a ∧ SqL c.K H a xs ∧ a ∉ θ ∧ RA c F θ xs ds, fun _ _ _ _ _ _ _ _ h => h⟩
/-- a new list that nothing else holds -/
def rF : Rel c V (List D) := ⟨fun Hi F θ H v ds => ∃ p xs, v = .ref p ∧ Hi p = none ∧ F p = none ∧ p ∉ θ ∧ H p = some (.lst xs) ∧ RA c F θ xs ds, fun H1 H2 al _ _ _ _ _ ⟨p, xs, e, n, r⟩ => ⟨p, xs, e, by
  cases q : H1 p with
  | none => rfl
  | some o => exact absurd n (al p (by rw [q]; simp)), r⟩⟩
def rO : Rel c (Option Int) (Option Int) := ⟨fun _ _ _ _ b d => b = d, fun _ _ _ _ _ _ _ _ h => h⟩
end
def Post {α β : Type} (c : Cs) (E : XK) (rel : Rel c β α) (r : Res α) (F : Hp) (θ : List Addr) (H : Hp) (Q : β → Hp → Prop) : Prop := match r with
  | .ok a s' => ∀ v F' θ' H', Ext F θ H F' θ' H' → WOk c s' F' θ' H' → rel.on H F' θ' H' v a → Q v H'
  | .exc k fs s' => ∀ F' θ' H' dx, Ext F θ H F' θ' H' → WOk c s' F' θ' H' → XRep c F' θ' dx k fs → E (.ref (c.xc k)) dx H'
  | .bad => False
theorem Post.shift {α β : Type} {c : Cs} {E : XK} {rel : Rel c β α} {r : Res α} {F F' : Hp} {θ θ' : List Addr} {H H' : Hp} {Q : β → Hp → Prop} (h : Post c E rel r F θ H Q) (e : Ext F θ H F' θ' H') : Post c E rel r F' θ' H' Q := by
  cases r with
  | ok a s' => exact fun v F2 θ2 H2 x w q => h v F2 θ2 H2 (e.trans x) w (rel.anti H H' e.al _ _ _ _ _ q)
  | exc k fs s' => exact fun F2 θ2 H2 dx x w q => h F2 θ2 H2 dx (e.trans x) w q
  | bad => exact h
abbrev Fn (α : Type) := List Sl → Sto → Res α
abbrev TX (β : Type) := L2.St → Hp → (β → Hp → Prop) → Prop
/-- the reading t goes by the function e -/
def Den {α β : Type} (c : Cs) (E : XK) (rel : Rel c β α) (t : TX β) (e : Fn α) : Prop := ∀ (H0 : En) (σ : L2.St) (ρ : List Sl) (s : Sto) (F : Hp) (θ : List Addr) (H : Hp) (Q : β → Hp → Prop),
  EnvOk c H0 F θ H σ ρ → WOk c s F θ H → Post c E rel (e ρ s) F θ H Q → t σ H Q
abbrev DenE (c : Cs) (E : XK) (t : TE) (e : Fn D) : Prop := Den c E (rV c) t e
abbrev DenT (c : Cs) (E : XK) (t : TT) (e : Fn Bool) : Prop := Den c E (rB c) t e
abbrev DenA (c : Cs) (E : XK) (t : TA) (e : Fn (List D)) : Prop := Den c E (rA c) t e
abbrev DenL (c : Cs) (E : XK) (t : TE) (e : Fn (List D)) : Prop := Den c E (rL c) t e
abbrev DenF (c : Cs) (E : XK) (t : TE) (e : Fn (List D)) : Prop := Den c E (rF c) t e
abbrev DenO (c : Cs) (E : XK) (t : TO) (e : Fn (Option Int)) : Prop := Den c E (rO c) t e

section
variable {c : Cs} {E : XK}
theorem den_bind {α β γ δ : Type} {r1 : Rel c β α} {r2 : Rel c δ γ} {ta : TX β} {ea : Fn α} {f : List Sl → α → Sto → Res γ} {K : L2.St → β → Hp → (δ → Hp → Prop) → Prop} (ha : Den c E r1 ta ea)
    (hk : ∀ (H0 : En) (σ : L2.St) (ρ : List Sl) (s : Sto) (F : Hp) (θ : List Addr) (H Hi : Hp) (v : β) (a : α) (Q : δ → Hp → Prop), EnvOk c H0 F θ H σ ρ → WOk c s F θ H → r1.on Hi F θ H v a → Post c E r2 (f ρ a s) F θ H Q → K σ v H Q) :
    Den c E r2 (fun σ H Q => ta σ H fun v H1 => K σ v H1 Q) (fun ρ s => (ea ρ s).bind (f ρ)) := by
  intro H0 σ ρ s F θ H Q he hw hp
  refine ha H0 σ ρ s F θ H _ he hw ?_
  cases e : ea ρ s with
  | ok a s' =>
    have hp' : Post c E r2 (f ρ a s') F θ H Q := by
      have h := hp
      simp only [e] at h
      exact h
    exact fun v F' θ' H' x w q => hk H0 σ ρ s' F' θ' H' H v a Q (he.ext x) w q (hp'.shift x)
  | exc k fs s' =>
    have h := hp
    simp only [e] at h
    exact h
  | bad =>
    have h := hp
    simp only [e] at h
    exact h
/-- a later value for an earlier one -/
theorem Post.res {α β γ : Type} {r1 : Rel c β α} {r2 : Rel c β γ} {r : Res α} {g : α → γ} {F θ H} {Q : β → Hp → Prop} (h : Post c E r2 (r.bind fun a s => .ok (g a) s) F θ H Q)
    (k : ∀ F' θ' H' v a, r1.on H F' θ' H' v a → r2.on H F' θ' H' v (g a)) : Post c E r1 r F θ H Q := by
  cases r with
  | ok a s' => exact fun v F' θ' H' x w q => h v F' θ' H' x w (k _ _ _ _ _ q)
  | exc k fs s' => exact h
  | bad => exact h
theorem den_map {α β γ : Type} {r1 : Rel c β α} {r2 : Rel c β γ} {t : TX β} {e : Fn α} {g : α → γ} (h : Den c E r1 t e) (k : ∀ H F' θ' H' v a, r1.on H F' θ' H' v a → r2.on H F' θ' H' v (g a)) :
    Den c E r2 t (fun ρ s => (e ρ s).bind fun a s => .ok (g a) s) := fun H0 σ ρ s F θ H Q he hw hp => h H0 σ ρ s F θ H Q he hw (Post.res hp (k H))

/-! ### what a rule on values gives -/
/-- without a change of the store -/
def Gives (c : Cs) (res : Option D) (s : Sto) (F : Hp) (θ : List Addr) (H : Hp) (r : VK → Prop) : Prop :=
  ∀ (Q : VK) (d : D), res = some d → (∀ v F' H', Ext F θ H F' θ H' → WOk c s F' θ H' → R c F' θ v d → Q v H') → r Q
theorem Gives.post {res : Option D} {s : Sto} {F : Hp} {θ : List Addr} {H : Hp} {r : VK → Prop} (h : Gives c res s F θ H r) {Q : VK} (hp : Post c E (rV c) (Res.ofO res s) F θ H Q) : r Q := by
  cases e : res with
  | none => rw [e] at hp; exact hp.elim
  | some d =>
    rw [e] at hp
    exact h Q d e fun v F' H' x w q => hp v F' θ H' x w q
abbrev F2 := D → D → Sto → Option D
def OpD (c : Cs) (r : R2) (f : F2) : Prop := ∀ (s : Sto) (F : Hp) (θ : List Addr) (H : Hp) (x y : V) (a b : D), WOk c s F θ H → R c F θ x a → R c F θ y b → Gives c (f a b s) s F θ H (r x y H)
def CallD (c : Cs) (r : List V → Hp → VK → Prop) (f : List D → Sto → Option D) : Prop := ∀ (s : Sto) (F : Hp) (θ : List Addr) (H : Hp) (xs : List V) (as : List D), WOk c s F θ H → RA c F θ xs as → Gives c (f as s) s F θ H (r xs H)
def UnD (c : Cs) (r : V → Hp → VK → Prop) (f : D → Sto → Option D) : Prop := ∀ (s : Sto) (F : Hp) (θ : List Addr) (H : Hp) (x : V) (a : D), WOk c s F θ H → R c F θ x a → Gives c (f a s) s F θ H (r x H)

/-! ### names, constants -/
def dVar (i : Nat) : Fn D := fun ρ s => match ρ[i]? with
  | some (.val d) => .ok d s
  | _ => .bad
theorem den_var {i : Nat} : DenE c E (tVar i) (dVar i) := by
  intro H0 σ ρ s F θ H Q he hw hp
  unfold dVar at hp
  cases e : ρ[i]? with
  | none => simp only [e] at hp; exact hp.elim
  | some x =>
    cases x with
    | none => simp only [e] at hp; exact hp.elim
    | own _ => simp only [e] at hp; exact hp.elim
    | oobj _ _ => simp only [e] at hp; exact hp.elim
    | val d =>
      simp only [e] at hp
      obtain ⟨o, h1, v, rfl, r⟩ := he.get e
      exact ⟨v, h1, hp v F θ H (Ext.refl _ _ _) hw r⟩
def dC (d : D) : Fn D := fun _ s => .ok d s
theorem den_c {v : V} {d : D} (h : ∀ F θ, R c F θ v d) : DenE c E (tC v) (dC d) := fun H0 σ ρ s F θ H Q he hw hp => hp v F θ H (Ext.refl _ _ _) hw (h F θ)
theorem den_int {i : Int} : DenE c E (tC (.int i)) (dC (.int i)) := den_c fun _ _ => by unfold R; rfl
theorem den_bl {b : Bool} : DenE c E (tC (.bl b)) (dC (.bl b)) := den_c fun _ _ => by unfold R; rfl
theorem den_non : DenE c E (tC .non) (dC .non) := den_c fun _ _ => by unfold R; rfl
theorem den_str {x : Str} : DenE c E (tC (.str x)) (dC (.str x)) := den_c fun _ _ => by unfold R; rfl
theorem den_ty {n : String} : DenE c E (tC (.ty n)) (dC (.ty n)) := den_c fun _ _ => by unfold R; rfl
theorem den_cls {k : Nat} : DenE c E (tC (.ref (c.cl k))) (dC (.cls k)) := den_c fun _ _ => by unfold R; rfl

/-! ### operators, arguments -/
def dBin (f : F2) (ea eb : Fn D) : Fn D := fun ρ s => (ea ρ s).bind fun a s => (eb ρ s).bind fun b s => Res.ofO (f a b s) s
theorem den_bin {r : R2} {f : F2} {ta tb : TE} {ea eb : Fn D} (hr : OpD c r f) (ha : DenE c E ta ea) (hb : DenE c E tb eb) : DenE c E (tOp r ta tb) (dBin f ea eb) := by
  refine den_bind (K := fun σ x H Q => tb σ H fun y H2 => r x y H2 Q) ha fun H0 σ ρ s F θ H Hi x a Q he hw q hp => ?_
  refine hb H0 σ ρ s F θ H _ he hw ?_
  cases e : eb ρ s with
  | ok b s' =>
    rw [e] at hp
    exact fun y F' θ' H' ex w q2 => (hr s' F' θ' H' x y a b w (R.mono ex.fr ex.th a q) q2).post (hp.shift ex)
  | exc k fs s' => rw [e] at hp; exact hp
  | bad => rw [e] at hp; exact hp
def dUn (f : D → Sto → Option D) (ea : Fn D) : Fn D := fun ρ s => (ea ρ s).bind fun a s => Res.ofO (f a s) s
theorem den_un {r : V → Hp → VK → Prop} {f : D → Sto → Option D} {ta : TE} {ea : Fn D} (hr : UnD c r f) (ha : DenE c E ta ea) : DenE c E (tUn r ta) (dUn f ea) :=
  den_bind (K := fun σ x H Q => r x H Q) ha fun H0 σ ρ s F θ H Hi x a Q he hw q hp => (hr s F θ H x a hw q).post hp
def dNil : Fn (List D) := fun _ s => .ok [] s
theorem den_nil : DenA c E tNil dNil := fun H0 σ ρ s F θ H Q he hw hp => hp [] F θ H (Ext.refl _ _ _) hw (RA.nil (c := c) (F := F) (θ := θ))
def dCons (ea : Fn D) (er : Fn (List D)) : Fn (List D) := fun ρ s => (ea ρ s).bind fun a s => (er ρ s).bind fun r s => .ok (a :: r) s
theorem den_cons {ta : TE} {tr : TA} {ea : Fn D} {er : Fn (List D)} (ha : DenE c E ta ea) (hr : DenA c E tr er) : DenA c E (tCons ta tr) (dCons ea er) := by
  refine den_bind (K := fun σ x H Q => tr σ H fun xs H2 => Q (x :: xs) H2) ha fun H0 σ ρ s F θ H Hi x a Q he hw q hp => ?_
  refine hr H0 σ ρ s F θ H _ he hw ?_
  cases e : er ρ s with
  | ok b s' =>
    rw [e] at hp
    exact fun y F' θ' H' ex w q2 => hp (x :: y) F' θ' H' ex w (RA.cons (R.mono ex.fr ex.th a q) q2)
  | exc k fs s' => rw [e] at hp; exact hp
  | bad => rw [e] at hp; exact hp
def dCB (f : List D → Sto → Option D) (ea : Fn (List D)) : Fn D := fun ρ s => (ea ρ s).bind fun a s => Res.ofO (f a s) s
theorem den_cb {r : List V → Hp → VK → Prop} {f : List D → Sto → Option D} {ta : TA} {ea : Fn (List D)} (hr : CallD c r f) (ha : DenA c E ta ea) : DenE c E (tCB r ta) (dCB f ea) :=
  den_bind (K := fun σ x H Q => r x H Q) ha fun H0 σ ρ s F θ H Hi x a Q he hw q hp => (hr s F θ H x a hw q).post hp

/-! ### displays -/
def small (n : Nat) : Bool := decide (n ≤ 1000000)
theorem small_of {n : Nat} (h : small n = true) : n ≤ sizeLine := Nat.le_trans (of_decide_eq_true h) (by decide)
theorem small_lt {n : Nat} (h : small n = true) : n < sizeLine := Nat.lt_of_le_of_lt (of_decide_eq_true h) (by decide)
def dTup (ea : Fn (List D)) : Fn D := fun ρ s => (ea ρ s).bind fun a s => if small a.length then .ok (.tup a) s else .bad
theorem r_tup {F : Hp} {θ : List Addr} {H : Hp} {p : Addr} {o : Obj} {xs : List V} {ds : List D} (n : F p = none) (od : o.dict = none) (r : RA c F θ xs ds) : R c (upd F p (.frz o (.tup xs))) θ (.ref p) (.tup ds) := by
  unfold R; exact ⟨p, xs, rfl, ⟨o, upd_same, od⟩, RA.mono (Le.new n) (Pre.refl θ) ds r⟩
theorem r_lst {F : Hp} {θ : List Addr} {H : Hp} {p : Addr} {xs : List V} {ds : List D} (n : F p = none) (r : RA c F θ xs ds) : R c (upd F p (.lst xs)) θ (.ref p) (.lst ds) := by
  unfold R; exact ⟨p, xs, rfl, upd_same, RA.mono (Le.new n) (Pre.refl θ) ds r⟩
theorem den_tup {ta : TA} {ea : Fn (List D)} (ha : DenA c E ta ea) : DenE c E (tTupZ ta) (dTup ea) := by
  refine den_bind (K := fun σ xs H1 Q => xs.length ≤ sizeLine ∧ newZ xs H1 Q) ha fun H0 σ ρ s F θ H Hi xs ds Q he hw q hp => ?_
  cases z : small ds.length with
  | false => simp only [z] at hp; exact hp.elim
  | true =>
    simp only [z, if_true] at hp
    exact ⟨by rw [RA.length q]; exact small_of z, fun p o hn od => hp _ _ _ _ (Ext.new hn (hw.free hn).1 (hw.free hn).2) (hw.new hn) (r_tup (H := H) (hw.free hn).1 od q)⟩
def dLst (ea : Fn (List D)) : Fn (List D) := fun ρ s => (ea ρ s).bind fun a s => if small a.length then .ok a s else .bad
theorem fresh_rf {s : Sto} {F : Hp} {θ : List Addr} {H : Hp} {p : Addr} {xs : List V} {ds : List D} (hw : WOk c s F θ H) (hn : H p = none) (r : RA c F θ xs ds) : (rF c).on H F θ (upd H p (.lst xs)) (V.ref p) ds :=
  ⟨p, xs, rfl, hn, (hw.free hn).1, (hw.free hn).2, upd_same, r⟩
theorem den_lst {ta : TA} {ea : Fn (List D)} (ha : DenA c E ta ea) : DenF c E (tLst ta) (dLst ea) := by
  refine den_bind (K := fun σ xs H1 Q => xs.length ≤ sizeLine ∧ ∀ p, H1 p = none → Q (V.ref p) (upd H1 p (.lst xs))) ha fun H0 σ ρ s F θ H Hi xs ds Q he hw q hp => ?_
  cases z : small ds.length with
  | false => simp only [z] at hp; exact hp.elim
  | true =>
    simp only [z, if_true] at hp
    exact ⟨by rw [RA.length q]; exact small_of z, fun p hn => hp _ _ _ _ (Ext.newH hn) (hw.newH hn) (fresh_rf hw hn q)⟩

/-! ### a new list as a value, as a cell; what is read -/
theorem Ext.freeze {F : Hp} {θ : List Addr} {Hi F' θ' H' : _} {p : Addr} {o : HO} (x : Ext F θ Hi F' θ' H') (n : Hi p = none) (nF : F' p = none) : Ext F θ Hi (upd F' p o) θ' H' where
  fr := x.fr.trans (Le.new nF)
  th := x.th
  kp := x.kp
  nc := x.nc
  nf := fun a e z => by
    by_cases q : a = p
    · subst q; exact absurd n z
    · rw [upd_ne q]; exact x.nf a e z
  al := x.al
theorem Ext.cellNew {F : Hp} {θ : List Addr} {Hi F' H' : Hp} {θ' : List Addr} {p : Addr} (x : Ext F θ Hi F' θ' H') (n : Hi p = none) : Ext F θ Hi F' (θ' ++ [p]) H' where
  fr := x.fr
  th := x.th.trans ⟨[p], rfl⟩
  kp := x.kp
  nc := fun a m z => by
    rcases List.mem_append.mp m with m | m
    · exact x.nc a m z
    · have e : a = p := by simpa using m
      rw [e]; exact n
  nf := x.nf
  al := x.al
def dOfL (e : Fn (List D)) : Fn D := fun ρ s => (e ρ s).bind fun a s => .ok (.lst a) s
theorem den_ofL {t : TE} {e : Fn (List D)} (h : DenF c E t e) : DenE c E t (dOfL e) := by
  intro H0 σ ρ s F θ H Q he hw hp
  refine h H0 σ ρ s F θ H Q he hw ?_
  unfold dOfL at hp
  cases q : e ρ s with
  | bad => rw [q] at hp; exact hp
  | exc k fs s' => rw [q] at hp; exact hp
  | ok ds s' =>
    rw [q] at hp
    rintro v F' θ' H' x w ⟨p, xs, rfl, hn, hF, ht, hH, r⟩
    refine hp _ (upd F' p (.lst xs)) θ' H' (x.freeze hn hF) (w.freeze hH hF ht) ?_
    exact r_lst (H := H) hF r
def dCell (e : Fn (List D)) : Fn D := fun ρ s => (e ρ s).bind fun a s => .ok (.cell s.length) (s ++ [a])
theorem den_cell {t : TE} {e : Fn (List D)} (h : DenF c E t e) : DenE c E t (dCell e) := by
  intro H0 σ ρ s F θ H Q he hw hp
  refine h H0 σ ρ s F θ H Q he hw ?_
  unfold dCell at hp
  cases q : e ρ s with
  | bad => rw [q] at hp; exact hp
  | exc k fs s' => rw [q] at hp; exact hp
  | ok ds s' =>
    rw [q] at hp
    rintro v F' θ' H' x w ⟨p, xs, rfl, hn, hF, ht, hH, r⟩
    refine hp _ F' (θ' ++ [p]) H' (x.cellNew hn) (w.cellNew hH r hF ht) ?_
    show R c F' (θ' ++ [p]) (.ref p) (.cell s'.length)
    unfold R
    exact ⟨p, rfl, by rw [← w.len, List.getElem?_append_right (Nat.le_refl _)]; simp⟩
/-- a name of a list of one's own, read on the spot -/
def dOwn (i : Nat) : Fn (List D) := fun ρ s => match ρ[i]? with
  | some (.own ds) => .ok ds s
  | _ => .bad
theorem den_own {i : Nat} : DenL c E (tVar i) (dOwn i) := by
  intro H0 σ ρ s F θ H Q he hw hp
  unfold dOwn at hp
  cases e : ρ[i]? with
  | none => simp only [e] at hp; exact hp.elim
  | some x =>
    cases x with
    | none => simp only [e] at hp; exact hp.elim
    | val _ => simp only [e] at hp; exact hp.elim
    | oobj _ _ => simp only [e] at hp; exact hp.elim
    | own d =>
      simp only [e] at hp
      obtain ⟨o, h1, l, xs, rfl, h0, hF, ht, hH, r⟩ := he.get e
      exact ⟨_, h1, hp _ F θ H (Ext.refl _ _ _) hw ⟨l, xs, rfl, SqL.of hH, ht, r⟩⟩
theorem rF_L {Hi F : Hp} {θ : List Addr} {H : Hp} {v : V} {ds : List D} (h : (rF c).on Hi F θ H v ds) : (rL c).on Hi F θ H v ds := by
  obtain ⟨p, xs, e, hn, hF, ht, hH, r⟩ := h
  exact ⟨p, xs, e, SqL.of hH, ht, r⟩
theorem den_FL {t : TE} {e : Fn (List D)} (h : DenF c E t e) : DenL c E t e := by
  intro H0 σ ρ s F θ H Q he hw hp
  refine h H0 σ ρ s F θ H Q he hw ?_
  cases q : e ρ s with
  | bad => rw [q] at hp; exact hp
  | exc k fs s' => rw [q] at hp; exact hp
  | ok ds s' =>
    rw [q] at hp
    exact fun v F' θ' H' x w r => hp v F' θ' H' x w (rF_L r)
end
end MX


set_option Elab.async false
set_option linter.all false
set_option maxRecDepth 100000
namespace MX
open PySem PySem.Spec PyProof.Rows L2

/-! ### rules that go by the kinds of values -/
section
variable {X : Cx}
theorem OpR.or {f : Value → Value → Sem Value} {r r' : R2} (h : OpR X f r) (h' : OpR X f r') : OpR X f (fun x y H Q => r x y H Q ∨ r' x y H Q) := by
  intro pins s σ H x y v u Q I rx ry q
  rcases q with q | q
  · exact h pins s σ H x y v u Q I rx ry q
  · exact h' pins s σ H x y v u Q I rx ry q
def rCatS : R2 := fun x y H Q => ∃ i j, x = .str i ∧ y = .str j ∧ i.length + j.length ≤ sizeLine ∧ Q (.str (i ++ j)) H
def rAddG (K : PySem.W.Frag) : R2 := fun x y H Q => rI0 (fun i j => .int (i + j)) x y H Q ∨ (rCatS x y H Q ∨ (rCat x y H Q ∨ rCatZ K x y H Q))
theorem op_addG : OpR X (binaryOp .Add) (rAddG X.K) := OpR.or op_add (OpR.or op_add_str (OpR.or op_cat op_catZ))
/-- * of ints of any size that a script has -/
def CMulX (i j : Int) : Prop := i.natAbs.log2 + j.natAbs.log2 < 100000000
theorem CMulX.ok {i j : Int} (h : CMulX i j) : IntMulOk i j := by
  have b : ∀ x : Int, Builtin.Int.intBits x ≤ x.natAbs.log2 + 1 := fun x => by
    unfold Builtin.Int.intBits
    split <;> omega
  have h1 := b i
  have h2 := b j
  have h3 : i.natAbs.log2 + j.natAbs.log2 < 100000000 := h
  have e : bitsLine = 134217728 := by decide
  unfold IntMulOk
  intro z
  rw [Bool.and_eq_true] at z
  have z2 := z.2
  unfold Builtin.Int.intTooBig at z2
  have z3 := of_decide_eq_true z2
  rw [e] at z3
  omega
theorem op_mulX : OpR X (binaryOp .Mult) (rI CMulX fun i j => .int (i * j)) := opI fun _ _ _ _ _ _ _ hc q => mul_int q hc.ok
end

/-! ### values as plain data -/
mutual
def toP0 : D → Option PyData
  | .non => some .none
  | .bl b => some (.bool b)
  | .int i => some (.int i)
  | .str x => some (.str x)
  | .lst ds => match toPs ds with
    | some ps => some (.list ps)
    | none => none
  | .ro ds => match toPs ds with
    | some ps => some (.list ps)
    | none => none
  | .tup ds => match toPs ds with
    | some ps => some (.tuple ps)
    | none => none
  | .cell _ => none
  | .obj _ _ => none
  | .ty _ => none
  | .cls _ => none
  | .dct _ _ => none
  | .mdc _ _ => none
  | .mse _ => none
def toPs : List D → Option (List PyData)
  | [] => some []
  | d :: ds => match toP0 d with
    | some p => match toPs ds with
      | some ps => some (p :: ps)
      | none => none
    | none => none
end
def toP (s : Sto) (d : D) : Option PyData := match d with
  | .cell i => match s[i]? with
    | some ds => match toPs ds with
      | some ps => some (.list ps)
      | none => none
    | none => none
  | d => toP0 d
section
variable {c : Cs} {F H : Hp} {θ : List Addr} {s : Sto}
theorem sq_sub {K : PySem.W.Frag} {a : Addr} {xs : List V} (e : Le F H) (h : SqL K F a xs) : SqL K H a xs := Le.l e h
mutual
theorem dp0 (e : Le F H) : ∀ (d : D) (v : V) (p : PyData), R c F θ v d → toP0 d = some p → Dp c.K H v p
  | .non, v, p, h, q => by unfold R at h; unfold toP0 at q; cases q; rw [h]; exact .non
  | .bl b, v, p, h, q => by unfold R at h; unfold toP0 at q; cases q; rw [h]; exact .bl b
  | .int i, v, p, h, q => by unfold R at h; unfold toP0 at q; cases q; rw [h]; exact .int i
  | .str x, v, p, h, q => by unfold R at h; unfold toP0 at q; cases q; rw [h]; exact .str x
  | .lst ds, v, p, h, q => by
    unfold R at h; unfold toP0 at q
    obtain ⟨a, xs, rfl, ha, r⟩ := h
    cases z : toPs ds with
    | none => rw [z] at q; cases q
    | some ps => rw [z] at q; cases q; exact .lst (SqL.of (e a _ ha)) (dps e ds xs ps r z)
  | .ro ds, v, p, h, q => by
    unfold R at h; unfold toP0 at q
    obtain ⟨a, xs, rfl, ha, r⟩ := h
    cases z : toPs ds with
    | none => rw [z] at q; cases q
    | some ps => rw [z] at q; cases q; exact .lst (Le.l e ha) (dps e ds xs ps r z)
  | .tup ds, v, p, h, q => by
    unfold R at h; unfold toP0 at q
    obtain ⟨a, xs, rfl, ha, r⟩ := h
    cases z : toPs ds with
    | none => rw [z] at q; cases q
    | some ps => rw [z] at q; cases q; exact .tup (Le.t e ha.t) (dps e ds xs ps r z)
  | .cell _, _, _, _, q => by unfold toP0 at q; cases q
  | .obj _ _, _, _, _, q => by unfold toP0 at q; cases q
  | .ty _, _, _, _, q => by unfold toP0 at q; cases q
  | .cls _, _, _, _, q => by unfold toP0 at q; cases q
  | .dct _ _, _, _, _, q => by unfold toP0 at q; cases q
  | .mdc _ _, _, _, _, q => by unfold toP0 at q; cases q
  | .mse _, _, _, _, q => by unfold toP0 at q; cases q
theorem dps (e : Le F H) : ∀ (ds : List D) (vs : List V) (ps : List PyData), RA c F θ vs ds → toPs ds = some ps → DpAll c.K H vs ps
  | [], vs, ps, h, q => by unfold toPs at q; cases q; rw [h.nil_inv]; exact .nil
  | d :: ds, vs, ps, h, q => by
    obtain ⟨v, r, rfl, h1, h2⟩ := h.cons_inv
    unfold toPs at q
    cases z : toP0 d with
    | none => rw [z] at q; cases q
    | some p =>
      rw [z] at q
      cases z2 : toPs ds with
      | none => rw [z2] at q; cases q
      | some ps' => rw [z2] at q; cases q; exact .cons (dp0 e d v p h1 z) (dps e ds r ps' h2 z2)
end
theorem isL_toPs {ds : List D} {ps : List PyData} (h : toPs ds = some ps) : isL ds = true := by
  unfold isL
  split
  · unfold toPs toP0 at h
    cases h
  · unfold toPs toP0 at h
    cases h
  · rfl
theorem dp (w : WOk c s F θ H) {d : D} {v : V} {p : PyData} (h : R c F θ v d) (q : toP s d = some p) : Dp c.K H v p := by
  cases d with
  | cell i =>
    unfold R at h
    obtain ⟨a, rfl, ha⟩ := h
    unfold toP at q
    dsimp only at q
    cases z : s[i]? with
    | none => rw [z] at q; cases q
    | some ds =>
      rw [z] at q
      dsimp only at q
      cases z2 : toPs ds with
      | none => rw [z2] at q; cases q
      | some ps =>
        rw [z2] at q; cases q
        obtain ⟨_, e, r⟩ := w.cel i a ds ha z
        obtain ⟨xs, rfl, r2⟩ := r.lst (isL_toPs z2)
        exact .lst (SqL.of e) (dps w.sub ds xs ps r2 z2)
  | _ => exact dp0 w.sub _ v p h q
end

/-! ### what operators do with D -/
def fAdd : F2
  | .int i, .int j, _ => some (.int (i + j))
  | .str x, .str y, _ => if small (x.length + y.length) then some (.str (x ++ y)) else none
  | .lst xs, .lst ys, _ => if small (xs.length + ys.length) then some (.lst (xs ++ ys)) else none
  | .tup xs, .tup ys, _ => if small (xs.length + ys.length) then some (.tup (xs ++ ys)) else none
  | _, _, _ => none
def fI (g : Int → Int → Option D) : F2
  | .int i, .int j, _ => g i j
  | _, _, _ => none
def fSub : F2 := fI fun i j => some (.int (i - j))
def fMul : F2 := fI fun i j => if i.natAbs.log2 + j.natAbs.log2 < 100000000 then some (.int (i * j)) else none
def fDiv : F2 := fI fun i j => if j ≠ 0 ∧ j.natAbs < 1073741824 then some (.int (i.fdiv j)) else none
def fMod : F2 := fI fun i j => if j ≠ 0 then some (.int (i.fmod j)) else none
def fPow : F2 := fI fun i j => if 0 ≤ j ∧ j ≤ 1000000 ∧ i.natAbs < 2 ^ 64 then some (.int (i ^ j.toNat)) else none
def fLt : F2 := fI fun i j => some (.bl (decide (i < j)))
def fLe : F2 := fI fun i j => some (.bl (decide (i ≤ j)))
def fGt : F2 := fI fun i j => some (.bl (decide (j < i)))
def fGe : F2 := fI fun i j => some (.bl (decide (j ≤ i)))
def isNon : D → Bool
  | .non => true
  | _ => false
def fIs : F2 := fun a b _ => if isNon b then some (.bl (isNon a)) else none
def fIsNot : F2 := fun a b _ => if isNon b then some (.bl (!isNon a)) else none
def eqP (s : Sto) (a b : D) : Option Bool := match a, b with
  | .int i, .int j => some (decide (i = j))
  | a, b => match toP s a, toP s b with
    | some p, some q => if SeqAt.shaped p && SeqAt.shaped q then some (PyData.eqv p q) else none
    | _, _ => none
def fEq : F2 := fun a b s => match eqP s a b with
  | some k => some (.bl k)
  | none => none
def fNe : F2 := fun a b s => match eqP s a b with
  | some k => some (.bl (!k))
  | none => none
section
variable {c : Cs}
theorem give {s : Sto} {F : Hp} {θ : List Addr} {H : Hp} {v : V} {d : D} {Q : VK} (w : WOk c s F θ H) (q : R c F θ v d) (h : ∀ v F' H', Ext F θ H F' θ H' → WOk c s F' θ H' → R c F' θ v d → Q v H') : Q v H :=
  h v F H (Ext.refl _ _ _) w q
theorem give_new {s : Sto} {F : Hp} {θ : List Addr} {H : Hp} {p : Addr} {o : HO} {d : D} {Q : VK} (w : WOk c s F θ H) (n : H p = none) (q : R c (upd F p o) θ (.ref p) d) (h : ∀ v F' H', Ext F θ H F' θ H' → WOk c s F' θ H' → R c F' θ v d → Q v H') : Q (.ref p) (upd H p o) :=
  h _ _ _ (Ext.new n (w.free n).1 (w.free n).2) (w.new n) q
theorem r_int {F : Hp} {θ : List Addr} {i : Int} : R c F θ (.int i) (.int i) := by unfold R; rfl
theorem r_bl {F : Hp} {θ : List Addr} {i : Bool} : R c F θ (.bl i) (.bl i) := by unfold R; rfl
theorem r_str {F : Hp} {θ : List Addr} {i : Str} : R c F θ (.str i) (.str i) := by unfold R; rfl
theorem r_non {F : Hp} {θ : List Addr} : R c F θ .non .non := by unfold R; rfl
theorem r_int_inv {F : Hp} {θ : List Addr} {v : V} {i : Int} (h : R c F θ v (.int i)) : v = .int i := by unfold R at h; exact h
theorem r_bl_inv {F : Hp} {θ : List Addr} {v : V} {i : Bool} (h : R c F θ v (.bl i)) : v = .bl i := by unfold R at h; exact h
theorem r_str_inv {F : Hp} {θ : List Addr} {v : V} {i : Str} (h : R c F θ v (.str i)) : v = .str i := by unfold R at h; exact h
theorem r_non_inv {F : Hp} {θ : List Addr} {v : V} (h : R c F θ v .non) : v = .non := by unfold R at h; exact h
theorem r_lst_inv {F : Hp} {θ : List Addr} {v : V} {ds : List D} (h : R c F θ v (.lst ds)) : ∃ a xs, v = .ref a ∧ F a = some (.lst xs) ∧ RA c F θ xs ds := by unfold R at h; exact h
theorem r_ro_inv {F : Hp} {θ : List Addr} {v : V} {ds : List D} (h : R c F θ v (.ro ds)) : ∃ a xs, v = .ref a ∧ SqL c.K F a xs ∧ RA c F θ xs ds := by unfold R at h; exact h
theorem r_tup_inv {F : Hp} {θ : List Addr} {v : V} {ds : List D} (h : R c F θ v (.tup ds)) : ∃ a xs, v = .ref a ∧ TupK c.K F a xs ∧ RA c F θ xs ds := by unfold R at h; exact h
theorem r_cell_inv {F : Hp} {θ : List Addr} {v : V} {i : Nat} (h : R c F θ v (.cell i)) : ∃ a, v = .ref a ∧ θ[i]? = some a := by unfold R at h; exact h
theorem r_obj_inv {F : Hp} {θ : List Addr} {v : V} {k : Nat} {ds : List D} (h : R c F θ v (.obj k ds)) : ∃ a dx fs, v = .ref a ∧ F a = some (.ins (c.cl k) dx fs) ∧ fs.map (·.1) = c.fn k ∧ RA c F θ (fs.map (·.2)) ds := by unfold R at h; exact h
theorem fI_inv {g : Int → Int → Option D} {a b : D} {s : Sto} {d : D} (h : fI g a b s = some d) : ∃ i j, a = .int i ∧ b = .int j ∧ g i j = some d := by
  unfold fI at h
  split at h
  · exact ⟨_, _, rfl, rfl, h⟩
  · cases h
theorem od_I0 {g : Int → Int → V} {g' : Int → Int → Option D} (hg : ∀ i j d, g' i j = some d → ∀ F θ, R c F θ (g i j) d) : OpD c (rI0 g) (fI g') := by
  intro s F θ H x y a b w hx hy Q d e h
  obtain ⟨i, j, rfl, rfl, e2⟩ := fI_inv e
  exact ⟨i, j, r_int_inv hx, r_int_inv hy, give w (hg i j d e2 F θ) h⟩
theorem od_I {C : Int → Int → Prop} {g : Int → Int → V} {g' : Int → Int → Option D} (hg : ∀ i j d, g' i j = some d → C i j ∧ ∀ F θ, R c F θ (g i j) d) : OpD c (rI C g) (fI g') := by
  intro s F θ H x y a b w hx hy Q d e h
  obtain ⟨i, j, rfl, rfl, e2⟩ := fI_inv e
  exact ⟨i, j, r_int_inv hx, r_int_inv hy, (hg i j d e2).1, give w ((hg i j d e2).2 F θ) h⟩
theorem od_sub : OpD c (rI0 fun i j => .int (i - j)) fSub := od_I0 fun i j d e F θ => by cases e; exact r_int
theorem od_lt : OpD c (rI0 fun i j => .bl (decide (i < j))) fLt := od_I0 fun i j d e F θ => by cases e; exact r_bl
theorem od_le : OpD c (rI0 fun i j => .bl (decide (i ≤ j))) fLe := od_I0 fun i j d e F θ => by cases e; exact r_bl
theorem od_gt : OpD c (rI0 fun i j => .bl (decide (j < i))) fGt := od_I0 fun i j d e F θ => by cases e; exact r_bl
theorem od_ge : OpD c (rI0 fun i j => .bl (decide (j ≤ i))) fGe := od_I0 fun i j d e F θ => by cases e; exact r_bl
theorem od_mul : OpD c (rI CMulX fun i j => .int (i * j)) fMul := od_I fun i j d e => by
  split at e
  · rename_i h; cases e; exact ⟨h, fun F θ => r_int⟩
  · cases e
theorem od_div : OpD c (rI CDivN fun i j => .int (i.fdiv j)) fDiv := od_I fun i j d e => by
  split at e
  · rename_i h; cases e; exact ⟨h, fun F θ => r_int⟩
  · cases e
theorem od_mod : OpD c (rI (fun _ j => j ≠ 0) fun i j => .int (i.fmod j)) fMod := od_I fun i j d e => by
  split at e
  · rename_i h; cases e; exact ⟨h, fun F θ => r_int⟩
  · cases e
theorem od_pow : OpD c (rI CPow fun i j => .int (i ^ j.toNat)) fPow := od_I fun i j d e => by
  split at e
  · rename_i h; cases e; exact ⟨h, fun F θ => r_int⟩
  · cases e
theorem od_add : OpD c (rAddG c.K) fAdd := by
  intro s F θ H x y a b w hx hy Q d e h
  unfold fAdd at e
  split at e
  · cases e
    exact .inl ⟨_, _, r_int_inv hx, r_int_inv hy, give w r_int h⟩
  · split at e
    · rename_i z
      cases e
      exact .inr (.inl ⟨_, _, r_str_inv hx, r_str_inv hy, small_of z, give w r_str h⟩)
    · cases e
  · split at e
    · rename_i z
      cases e
      obtain ⟨a1, xs1, rfl, h1, r1⟩ := r_lst_inv hx
      obtain ⟨a2, xs2, rfl, h2, r2⟩ := r_lst_inv hy
      refine .inr (.inr (.inl ⟨a1, a2, xs1, xs2, rfl, rfl, w.sub _ _ h1, w.sub _ _ h2, by rw [r1.length, r2.length]; exact small_of z, fun p n => ?_⟩))
      exact give_new w n (r_lst (H := H) (w.free n).1 (r1.append r2)) h
    · cases e
  · split at e
    · rename_i z
      cases e
      obtain ⟨a1, xs1, rfl, h1, r1⟩ := r_tup_inv hx
      obtain ⟨a2, xs2, rfl, h2, r2⟩ := r_tup_inv hy
      have rr := r1.append r2
      refine .inr (.inr (.inr ⟨a1, a2, xs1, xs2, rfl, rfl, w.sub.t h1.t, w.sub.t h2.t, by rw [r1.length, r2.length]; exact small_of z, fun e0 => ?_, fun e0 => ?_, fun p o n od => ?_⟩))
      · subst e0
        refine give w ?_ h
        unfold R
        exact ⟨a2, xs2, rfl, h2, by simpa using rr⟩
      · subst e0
        refine give w ?_ h
        unfold R
        exact ⟨a1, xs1, rfl, h1, by simpa using rr⟩
      · exact give_new w n (r_tup (H := H) (w.free n).1 od rr) h
    · cases e
  · cases e
theorem isNon_v {F : Hp} {θ : List Addr} {v : V} {d : D} (h : R c F θ v d) : decide (v = .non) = isNon d := by
  cases d with
  | non => rw [r_non_inv h]; rfl
  | bl _ => rw [r_bl_inv h]; rfl
  | int _ => rw [r_int_inv h]; rfl
  | str _ => rw [r_str_inv h]; rfl
  | lst _ => obtain ⟨a, xs, rfl, _⟩ := r_lst_inv h; rfl
  | tup _ => obtain ⟨a, xs, rfl, _⟩ := r_tup_inv h; rfl
  | ro _ => obtain ⟨a, xs, rfl, _⟩ := r_ro_inv h; rfl
  | cell _ => obtain ⟨a, rfl, _⟩ := r_cell_inv h; rfl
  | obj _ _ => obtain ⟨a, dx, fs, rfl, _⟩ := r_obj_inv h; rfl
  | ty _ => unfold R at h; rw [h]; rfl
  | cls _ => unfold R at h; rw [h]; rfl
  | dct _ _ => unfold R at h; obtain ⟨a, _, _, _, rfl, _⟩ := h; rfl
  | mdc _ _ => unfold R at h; exact h.elim
  | mse _ => unfold R at h; exact h.elim
theorem isNon_eq {d : D} (h : isNon d = true) : d = .non := by cases d <;> first | rfl | exact (Bool.false_ne_true h).elim
theorem od_is : OpD c (fun x y H Q => y = .non ∧ Q (.bl (decide (x = .non))) H) fIs := by
  intro s F θ H x y a b w hx hy Q d e h
  unfold fIs at e
  split at e
  · rename_i z
    have := isNon_eq z
    subst this
    cases e
    exact ⟨r_non_inv hy, by rw [isNon_v hx]; exact give w r_bl h⟩
  · cases e
theorem od_isnot : OpD c (fun x y H Q => y = .non ∧ Q (.bl (!decide (x = .non))) H) fIsNot := by
  intro s F θ H x y a b w hx hy Q d e h
  unfold fIsNot at e
  split at e
  · rename_i z
    have := isNon_eq z
    subst this
    cases e
    exact ⟨r_non_inv hy, by rw [isNon_v hx]; exact give w r_bl h⟩
  · cases e
theorem eqP_dp {s : Sto} {F : Hp} {θ : List Addr} {H : Hp} {x y : V} {a b : D} {k : Bool} (w : WOk c s F θ H) (hx : R c F θ x a) (hy : R c F θ y b) (e : eqP s a b = some k) :
    ∃ d e, Dp c.K H x d ∧ Dp c.K H y e ∧ SeqAt.shaped d = true ∧ SeqAt.shaped e = true ∧ PyData.eqv d e = k := by
  unfold eqP at e
  split at e
  · cases e
    rename_i i j
    refine ⟨.int i, .int j, by rw [r_int_inv hx]; exact .int _, by rw [r_int_inv hy]; exact .int _, rfl, rfl, ?_⟩
    unfold PyData.eqv
    by_cases z : i = j
    · subst z; simp
    · simp [z]
  · split at e
    · rename_i p q e1 e2
      split at e
      · rename_i z
        cases e
        rw [Bool.and_eq_true] at z
        exact ⟨p, q, dp w hx e1, dp w hy e2, z.1, z.2, rfl⟩
      · cases e
    · cases e
theorem od_eq : OpD c (rEqD c.K) fEq := by
  intro s F θ H x y a b w hx hy Q d e h
  unfold fEq at e
  split at e
  · rename_i k z
    cases e
    obtain ⟨p, q, h1, h2, h3, h4, h5⟩ := eqP_dp w hx hy z
    exact ⟨p, q, h1, h2, h3, h4, by rw [h5]; exact give w r_bl h⟩
  · cases e
theorem od_ne : OpD c (rNeD c.K) fNe := by
  intro s F θ H x y a b w hx hy Q d e h
  unfold fNe at e
  split at e
  · rename_i k z
    cases e
    obtain ⟨p, q, h1, h2, h3, h4, h5⟩ := eqP_dp w hx hy z
    exact ⟨p, q, h1, h2, h3, h4, by rw [h5]; exact give w r_bl h⟩
  · cases e
end
end MX


set_option Elab.async false
set_option linter.all false
set_option maxRecDepth 100000
namespace MX
open PySem PySem.Spec PyProof.Rows L2

/-! ### sequences -/
/-- a cell that is a list -/
def gl (s : Sto) (i : Nat) : Option (List D) := match s[i]? with
  | some ds => if isL ds = true then some ds else none
  | none => none
theorem gl_of {s : Sto} {i : Nat} {ds : List D} (h : gl s i = some ds) : s[i]? = some ds ∧ isL ds = true := by
  unfold gl at h
  cases z : s[i]? with
  | none => rw [z] at h; cases h
  | some es =>
    rw [z] at h
    dsimp only at h
    split at h
    · rename_i l
      cases h
      exact ⟨rfl, l⟩
    · cases h
theorem gl_mk {s : Sto} {i : Nat} {ds : List D} (h : s[i]? = some ds) (l : isL ds = true) : gl s i = some ds := by
  unfold gl
  rw [h]
  show (if isL ds = true then some ds else none) = _
  rw [if_pos l]
def seqD (s : Sto) : D → Option (List D)
  | .lst ds => some ds
  | .ro ds => some ds
  | .tup ds => some ds
  | .cell i => gl s i
  | _ => none
def listD (s : Sto) : D → Option (List D)
  | .lst ds => some ds
  | .ro ds => some ds
  | .cell i => gl s i
  | _ => none
section
variable {c : Cs} {F H : Hp} {θ : List Addr} {s : Sto}
theorem list_of (w : WOk c s F θ H) {v : V} {d : D} {ds : List D} (h : R c F θ v d) (e : listD s d = some ds) : ∃ a xs, v = .ref a ∧ SqL c.K H a xs ∧ RA c F θ xs ds := by
  cases d with
  | lst es => cases e; obtain ⟨a, xs, r, ha, q⟩ := r_lst_inv h; exact ⟨a, xs, r, SqL.of (w.sub _ _ ha), q⟩
  | ro es => cases e; obtain ⟨a, xs, r, ha, q⟩ := r_ro_inv h; exact ⟨a, xs, r, w.sub.l ha, q⟩
  | cell i =>
    obtain ⟨a, r, ha⟩ := r_cell_inv h
    obtain ⟨e, el⟩ := gl_of e
    obtain ⟨_, e1, q0⟩ := w.cel i a ds ha e
    obtain ⟨xs, rfl, q⟩ := q0.lst el
    exact ⟨a, xs, r, SqL.of e1, q⟩
  | _ => cases e
theorem seq_of (w : WOk c s F θ H) {v : V} {d : D} {ds : List D} (h : R c F θ v d) (e : seqD s d = some ds) : ∃ a xs, v = .ref a ∧ (SqL c.K H a xs ∨ SqT c.K H a xs) ∧ RA c F θ xs ds := by
  cases d with
  | tup es => cases e; obtain ⟨a, xs, r, ha, q⟩ := r_tup_inv h; exact ⟨a, xs, r, .inr (w.sub.t ha.t), q⟩
  | lst es => obtain ⟨a, xs, r, q, t⟩ := list_of w (ds := ds) h e; exact ⟨a, xs, r, .inl q, t⟩
  | ro es => obtain ⟨a, xs, r, q, t⟩ := list_of w (ds := ds) h e; exact ⟨a, xs, r, .inl q, t⟩
  | cell i => obtain ⟨a, xs, r, q, t⟩ := list_of w (ds := ds) h e; exact ⟨a, xs, r, .inl q, t⟩
  | _ => cases e
end

/-! ### in -/
def flatD : D → Bool
  | .non => true
  | .bl _ => true
  | .int _ => true
  | .str _ => true
  | _ => false
def eqF : D → D → Bool
  | .int a, .int b => decide (a = b)
  | .non, .non => true
  | .bl a, .bl b => a == b
  | .bl a, .int b => (if a then 1 else 0) == b
  | .int a, .bl b => a == (if b then 1 else 0)
  | .str a, .str b => a == b
  | _, _ => false
def fInN (neg : Bool) : F2 := fun a b s => match seqD s b with
  | some ds => if flatD a && ds.all flatD then some (.bl (if neg then !(ds.any fun y => eqF y a) else ds.any fun y => eqF y a)) else none
  | none => none
section
variable {c : Cs} {F H : Hp} {θ : List Addr} {s : Sto}
theorem flat_v {v : V} {d : D} (h : R c F θ v d) (f : flatD d = true) : flatV v = true := by
  cases d with
  | non => rw [r_non_inv h]; rfl
  | bl _ => rw [r_bl_inv h]; rfl
  | int _ => rw [r_int_inv h]; rfl
  | str _ => rw [r_str_inv h]; rfl
  | _ => exact (Bool.false_ne_true f).elim
theorem eq_flat {x y : V} {a b : D} (hx : R c F θ x a) (hy : R c F θ y b) (fa : flatD a = true) (fb : flatD b = true) : eqV y x = eqF b a := by
  cases a with
  | non =>
    rw [r_non_inv hx]
    cases b with
    | non => rw [r_non_inv hy]; rfl
    | bl _ => rw [r_bl_inv hy]; rfl
    | int _ => rw [r_int_inv hy]; rfl
    | str _ => rw [r_str_inv hy]; rfl
    | _ => exact (Bool.false_ne_true fb).elim
  | bl _ =>
    rw [r_bl_inv hx]
    cases b with
    | non => rw [r_non_inv hy]; rfl
    | bl _ => rw [r_bl_inv hy]; rfl
    | int _ => rw [r_int_inv hy]; rfl
    | str _ => rw [r_str_inv hy]; rfl
    | _ => exact (Bool.false_ne_true fb).elim
  | int i =>
    rw [r_int_inv hx]
    cases b with
    | non => rw [r_non_inv hy]; rfl
    | bl _ => rw [r_bl_inv hy]; rfl
    | int j =>
      rw [r_int_inv hy]
      show (j == i) = decide (j = i)
      by_cases z : j = i
      · subst z; simp
      · simp [z]
    | str _ => rw [r_str_inv hy]; rfl
    | _ => exact (Bool.false_ne_true fb).elim
  | str _ =>
    rw [r_str_inv hx]
    cases b with
    | non => rw [r_non_inv hy]; rfl
    | bl _ => rw [r_bl_inv hy]; rfl
    | int _ => rw [r_int_inv hy]; rfl
    | str _ => rw [r_str_inv hy]; rfl
    | _ => exact (Bool.false_ne_true fb).elim
  | _ => exact (Bool.false_ne_true fa).elim
theorem all_flat : ∀ {ds : List D} {xs : List V}, RA c F θ xs ds → ds.all flatD = true → xs.all flatV = true
  | [], _, h, _ => by rw [h.nil_inv]; rfl
  | d :: ds, _, h, f => by
    obtain ⟨v, r, rfl, h1, h2⟩ := h.cons_inv
    rw [List.all_cons, Bool.and_eq_true] at f
    rw [List.all_cons, flat_v h1 f.1, all_flat h2 f.2]; rfl
theorem any_flat {x : V} {a : D} (hx : R c F θ x a) (fa : flatD a = true) : ∀ {ds : List D} {xs : List V}, RA c F θ xs ds → ds.all flatD = true → inV x xs = ds.any fun y => eqF y a
  | [], _, h, _ => by rw [h.nil_inv]; rfl
  | d :: ds, _, h, f => by
    obtain ⟨v, r, rfl, h1, h2⟩ := h.cons_inv
    rw [List.all_cons, Bool.and_eq_true] at f
    have := any_flat hx fa h2 f.2
    unfold inV at this ⊢
    rw [List.any_cons, List.any_cons, this, eq_flat hx h1 fa f.1]
theorem od_in {neg : Bool} : OpD c (rIn c.K neg) (fInN neg) := by
  intro s F θ H x y a b w hx hy Q d e h
  unfold fInN at e
  split at e
  · rename_i ds z
    split at e
    · rename_i f
      cases e
      rw [Bool.and_eq_true] at f
      obtain ⟨p, xs, rfl, hs, r⟩ := seq_of w hy z
      refine ⟨p, xs, rfl, hs, flat_v hx f.1, all_flat r f.2, ?_⟩
      rw [any_flat hx f.1 r f.2]
      exact give w r_bl h
    · cases e
  · cases e
end
def fIn : F2 := fInN false
def fNotIn : F2 := fInN true

/-! ### items, slices -/
def fIx : F2 := fun a b s => match b with
  | .int i => match a with
    | .str z => if small z.length then (atI z.cps.toList i).map fun k => D.str ⟨#[k]⟩ else none
    | a => match seqD s a with
      | some ds => atI ds i
      | none => none
  | _ => none
theorem atI_len {α β : Type} {xs : List α} {ds : List β} {i : Int} {d : β} (hl : xs.length = ds.length) (h : atI ds i = some d) : ∃ (j : Nat) (x : α), atI xs i = some x ∧ xs[j]? = some x ∧ ds[j]? = some d := by
  unfold atI at h ⊢
  rw [hl]
  cases e : ixN ds.length i with
  | none => rw [e] at h; cases h
  | some j =>
    rw [e] at h
    have h' : ds[j]? = some d := h
    have := get_lt h'
    refine ⟨j, xs[j]'(by omega), ?_, ?_, h'⟩
    · show xs[j]? = _
      exact List.getElem?_eq_getElem (by omega)
    · exact List.getElem?_eq_getElem (by omega)
def cutD (xs : List D) (lo hi : Option Int) : List D := (xs.drop (HT.sIx xs.length 0 lo)).take (HT.sIx xs.length xs.length hi - HT.sIx xs.length 0 lo)
def rSlG (K : PySem.W.Frag) : V → Option Int → Option Int → Hp → VK → Prop := fun x lo hi H Q => rSlL K x lo hi H Q ∨ rSlZ K x lo hi H Q
theorem sl_G {X : Cx} : SlR X (rSlG X.K) := SlR.or sl_list sl_tupZ
def fSl (s : Sto) (a : D) (lo hi : Option Int) : Option D := match a with
  | .tup ds => some (.tup (cutD ds lo hi))
  | a => match listD s a with
    | some ds => some (.lst (cutD ds lo hi))
    | none => none
def dNoPart : Fn (Option Int) := fun _ s => .ok none s
def dPart (e : Fn D) : Fn (Option Int) := fun ρ s => (e ρ s).bind fun a s => match a with
  | .int i => .ok (some i) s
  | _ => .bad
def dSl (ea : Fn D) (el eh : Fn (Option Int)) : Fn D := fun ρ s => (ea ρ s).bind fun a s => (el ρ s).bind fun l s => (eh ρ s).bind fun h s => Res.ofO (fSl s a l h) s
section
variable {c : Cs} {E : XK}
theorem od_ix : OpD c (rIx c.K) fIx := by
  intro s F θ H x y a b w hx hy Q d e h
  unfold fIx at e
  split at e
  · rename_i i
    have hy := r_int_inv hy
    subst hy
    split at e
    · rename_i z
      split at e
      · rename_i hz
        cases q : atI z.cps.toList i with
        | none => rw [q] at e; cases e
        | some k =>
          rw [q] at e; cases e
          exact .inr (.inr ⟨z, i, k, r_str_inv hx, rfl, small_of hz, q, give w r_str h⟩)
      · cases e
    · split at e
      · rename_i ds z
        obtain ⟨p, xs, rfl, hs, r⟩ := seq_of w hx z
        obtain ⟨j, v, h1, h2, h3⟩ := atI_len (r.length) e
        have hv := give w (r.get h2 h3) h
        rcases hs with hs | hs
        · exact .inl ⟨p, xs, i, v, rfl, rfl, hs, h1, hv⟩
        · exact .inr (.inl ⟨p, xs, i, v, rfl, rfl, hs, h1, hv⟩)
      · cases e
  · cases e
theorem ra_cut {F : Hp} {θ : List Addr} {xs : List V} {ds : List D} {lo hi : Option Int} (r : RA c F θ xs ds) : RA c F θ (cutV xs lo hi) (cutD ds lo hi) := by
  unfold cutV cutD
  rw [r.length]
  exact RA.take _ (RA.drop _ r)
theorem sl_gives {s : Sto} {F : Hp} {θ : List Addr} {H : Hp} {x : V} {a : D} {lo hi : Option Int} (w : WOk c s F θ H) (hx : R c F θ x a) : Gives c (fSl s a lo hi) s F θ H (rSlG c.K x lo hi H) := by
  intro Q d e h
  unfold fSl at e
  split at e
  · cases e
    obtain ⟨p, xs, rfl, ha, r⟩ := r_tup_inv hx
    refine .inr ⟨p, xs, rfl, w.sub.t ha.t, fun z => ?_, fun q o n od => ?_⟩
    · refine give w ?_ h
      unfold R
      refine ⟨p, xs, rfl, ha, ?_⟩
      have rc := ra_cut (lo := lo) (hi := hi) r
      rw [z] at rc
      exact rc
    · exact give_new w n (r_tup (H := H) (w.free n).1 od (ra_cut r)) h
  · split at e
    · rename_i ds z
      cases e
      obtain ⟨p, xs, rfl, hs, r⟩ := list_of w hx z
      exact .inl ⟨p, xs, rfl, hs, fun q n => give_new w n (r_lst (H := H) (w.free n).1 (ra_cut r)) h⟩
    · cases e
theorem den_noPart : DenO c E tNoPart dNoPart := fun H0 σ ρ s F θ H Q he hw hp => hp none F θ H (Ext.refl _ _ _) hw rfl
theorem den_part {te : TE} {e : Fn D} (h : DenE c E te e) : DenO c E (tPart te) (dPart e) := by
  refine den_bind (r2 := rO c) (K := fun σ x H1 Q => ∃ i, x = .int i ∧ Q (some i) H1) h fun H0 σ ρ s F θ H Hi x a Q he hw q hp => ?_
  cases a with
  | int i => exact ⟨i, r_int_inv (c := c) (F := F) (θ := θ) q, hp (some i) F θ H (Ext.refl _ _ _) hw rfl⟩
  | _ => exact hp.elim
theorem den_sl {te : TE} {tl th : TO} {ea : Fn D} {el eh : Fn (Option Int)} (ha : DenE c E te ea) (hl : DenO c E tl el) (hh : DenO c E th eh) : DenE c E (tSl (rSlG c.K) te tl th) (dSl ea el eh) := by
  refine den_bind (K := fun σ x H Q => tl σ H fun l H2 => th σ H2 fun u H3 => rSlG c.K x l u H3 Q) ha fun H0 σ ρ s F θ H Hi x a Q he hw q hp => ?_
  refine hl H0 σ ρ s F θ H _ he hw ?_
  cases e : el ρ s with
  | exc k fs s' => rw [e] at hp; exact hp
  | bad => rw [e] at hp; exact hp
  | ok l s' =>
    rw [e] at hp
    intro l' F' θ' H' ex w q2
    have q2 : l' = l := q2
    subst q2
    have hp2 := hp.shift ex
    refine hh H0 σ ρ s' F' θ' H' _ (he.ext ex) w ?_
    have hp3 : Post c E (rV c) ((eh ρ s').bind fun h s => Res.ofO (fSl s a l' h) s) F' θ' H' Q := hp2
    cases e2 : eh ρ s' with
    | exc k fs s'' => rw [e2] at hp3; exact hp3
    | bad => rw [e2] at hp3; exact hp3
    | ok u s'' =>
      rw [e2] at hp3
      intro u' F2 θ2 H2 ex2 w2 q3
      have q3 : u' = u := q3
      subst q3
      exact (sl_gives w2 (R.mono (ex.trans ex2).fr (ex.trans ex2).th a q)).post (hp3.shift ex2)
end

/-! ### built-ins -/
def intsD : List D → Option (List Int)
  | [] => some []
  | .int i :: r => match intsD r with
    | some ns => some (i :: ns)
    | none => none
  | _ :: _ => none
theorem intsD_eq : ∀ {ds : List D} {ns : List Int}, intsD ds = some ns → ds = ns.map D.int
  | [], ns, h => by unfold intsD at h; cases h; rfl
  | d :: ds, ns, h => by
    unfold intsD at h
    split at h
    · contradiction
    · rename_i i r heq
      cases heq
      split at h
      · rename_i ms z
        cases h
        rw [List.map_cons, ← intsD_eq z]
      · cases h
    · cases h
theorem intsD_map : ∀ (ns : List Int), intsD (ns.map D.int) = some ns
  | [] => rfl
  | n :: ns => by
    rw [List.map_cons]
    unfold intsD
    rw [intsD_map ns]
def blsD : List D → Option (List Bool)
  | [] => some []
  | .bl i :: r => match blsD r with
    | some ns => some (i :: ns)
    | none => none
  | _ :: _ => none
theorem blsD_eq : ∀ {ds : List D} {ns : List Bool}, blsD ds = some ns → ds = ns.map D.bl
  | [], ns, h => by unfold blsD at h; cases h; rfl
  | d :: ds, ns, h => by
    unfold blsD at h
    split at h
    · contradiction
    · rename_i i r heq
      cases heq
      split at h
      · rename_i ms z
        cases h
        rw [List.map_cons, ← blsD_eq z]
      · cases h
    · cases h
theorem blsD_map : ∀ (ns : List Bool), blsD (ns.map D.bl) = some ns
  | [] => rfl
  | n :: ns => by
    rw [List.map_cons]
    unfold blsD
    rw [blsD_map ns]
def minI : Int → List Int → Int
  | m, [] => m
  | m, n :: r => minI (if n < m then n else m) r
def maxI : Int → List Int → Int
  | m, [] => m
  | m, n :: r => maxI (if m < n then n else m) r
theorem minI_spec : ∀ (ns : List Int) (m : Int), (minI m ns = m ∨ minI m ns ∈ ns) ∧ minI m ns ≤ m ∧ ∀ y, y ∈ ns → minI m ns ≤ y
  | [], m => ⟨.inl rfl, Int.le_refl m, fun y h => by cases h⟩
  | n :: r, m => by
    have e : minI m (n :: r) = minI (if n < m then n else m) r := rfl
    rw [e]
    by_cases hh : n < m
    · rw [if_pos hh]
      obtain ⟨h1, h2, h3⟩ := minI_spec r n
      refine ⟨.inr ?_, by omega, fun y hy => ?_⟩
      · rcases h1 with h | h
        · rw [h]; exact List.mem_cons_self
        · exact List.mem_cons_of_mem _ h
      · rcases List.mem_cons.mp hy with rfl | hy
        · exact h2
        · exact h3 y hy
    · rw [if_neg hh]
      obtain ⟨h1, h2, h3⟩ := minI_spec r m
      refine ⟨?_, h2, fun y hy => ?_⟩
      · rcases h1 with h | h
        · exact .inl h
        · exact .inr (List.mem_cons_of_mem _ h)
      · rcases List.mem_cons.mp hy with rfl | hy
        · omega
        · exact h3 y hy
theorem maxI_spec : ∀ (ns : List Int) (m : Int), (maxI m ns = m ∨ maxI m ns ∈ ns) ∧ m ≤ maxI m ns ∧ ∀ y, y ∈ ns → y ≤ maxI m ns
  | [], m => ⟨.inl rfl, Int.le_refl m, fun y h => by cases h⟩
  | n :: r, m => by
    have e : maxI m (n :: r) = maxI (if m < n then n else m) r := rfl
    rw [e]
    by_cases hh : m < n
    · rw [if_pos hh]
      obtain ⟨h1, h2, h3⟩ := maxI_spec r n
      refine ⟨.inr ?_, by omega, fun y hy => ?_⟩
      · rcases h1 with h | h
        · rw [h]; exact List.mem_cons_self
        · exact List.mem_cons_of_mem _ h
      · rcases List.mem_cons.mp hy with rfl | hy
        · exact h2
        · exact h3 y hy
    · rw [if_neg hh]
      obtain ⟨h1, h2, h3⟩ := maxI_spec r m
      refine ⟨?_, h2, fun y hy => ?_⟩
      · rcases h1 with h | h
        · exact .inl h
        · exact .inr (List.mem_cons_of_mem _ h)
      · rcases List.mem_cons.mp hy with rfl | hy
        · omega
        · exact h3 y hy
abbrev FC := List D → Sto → Option D
def f1 (g : Sto → D → Option D) : FC
  | [d], s => g s d
  | _, _ => none
def fLen : FC := f1 fun s d => match d with
  | .str z => if small z.length then some (.int z.length) else none
  | d => (seqD s d).map fun ds => .int ds.length
def fAbs : FC := f1 fun s d => match d with
  | .int i => some (.int (if i < 0 then -i else i))
  | _ => none
def fInt : FC := f1 fun s d => match d with
  | .int i => some (.int i)
  | _ => none
def fSum : FC := f1 fun s d => match listD s d with
  | some ds => match intsD ds with
    | some ns => some (.int ns.sum)
    | none => none
  | none => none
def fMin : FC := fun ds s => match ds with
  | [d] => match listD s d with
    | some ds => match intsD ds with
      | some (n :: ns) => some (.int (minI n ns))
      | _ => none
    | none => none
  | [.int i, .int j] => some (.int (if j < i then j else i))
  | _ => none
def fMax : FC := fun ds s => match ds with
  | [d] => match listD s d with
    | some ds => match intsD ds with
      | some (n :: ns) => some (.int (maxI n ns))
      | _ => none
    | none => none
  | [.int i, .int j] => some (.int (if j > i then j else i))
  | _ => none
def fAll : FC := f1 fun s d => match listD s d with
  | some ds => match blsD ds with
    | some ns => some (.bl (ns.all id))
    | none => none
  | none => none
def fAny : FC := f1 fun s d => match listD s d with
  | some ds => match blsD ds with
    | some ns => some (.bl (ns.any id))
    | none => none
  | none => none
def fTuple : FC := f1 fun s d => match d with
  | .tup ds => some (.tup ds)
  | d => (listD s d).map .tup
section
variable {c : Cs}
theorem f1_inv {g : Sto → D → Option D} {as : List D} {s : Sto} {d : D} (h : f1 g as s = some d) : ∃ a, as = [a] ∧ g s a = some d := by
  unfold f1 at h
  split at h
  · exact ⟨_, rfl, h⟩
  · cases h
theorem ra1 {F : Hp} {θ : List Addr} {xs : List V} {a : D} (h : RA c F θ xs [a]) : ∃ x, xs = [x] ∧ R c F θ x a := by
  obtain ⟨v, r, rfl, h1, h2⟩ := h.cons_inv
  rw [h2.nil_inv]
  exact ⟨v, rfl, h1⟩
theorem ra2 {F : Hp} {θ : List Addr} {xs : List V} {a b : D} (h : RA c F θ xs [a, b]) : ∃ x y, xs = [x, y] ∧ R c F θ x a ∧ R c F θ y b := by
  obtain ⟨v, r, rfl, h1, h2⟩ := h.cons_inv
  obtain ⟨y, rfl, h3⟩ := ra1 h2
  exact ⟨v, y, rfl, h1, h3⟩
theorem cd_f1 {r : List V → Hp → VK → Prop} {g : Sto → D → Option D} (h : ∀ (s : Sto) (F : Hp) (θ : List Addr) (H : Hp) (x : V) (a : D), WOk c s F θ H → R c F θ x a → Gives c (g s a) s F θ H (r [x] H)) : CallD c r (f1 g) := by
  intro s F θ H xs as w r Q d e hq
  obtain ⟨a, rfl, e2⟩ := f1_inv e
  obtain ⟨x, rfl, hx⟩ := ra1 r
  exact h s F θ H x a w hx Q d e2 hq
def rLen2 (K : PySem.W.Frag) : List V → Hp → VK → Prop := fun xs H Q => (∃ z, xs = [.str z] ∧ z.length ≤ sizeLine ∧ Q (.int z.length) H) ∨ ∃ p ys, xs = [.ref p] ∧ (SqL K H p ys ∨ SqT K H p ys) ∧ Q (.int ys.length) H
theorem cr_len2 {X : Cx} : CallR X (.builtin "len") (rLen2 X.K) := CallR.or call_len_str call_len_seq
theorem cd_len : CallD c (rLen2 c.K) fLen := cd_f1 fun s F θ H x a w hx Q d e h => by
  split at e
  · rename_i z
    split at e
    · rename_i hz
      cases e
      exact .inl ⟨z, by rw [r_str_inv hx], small_of hz, give w r_int h⟩
    · cases e
  · cases q : seqD s a with
    | none => rw [q] at e; cases e
    | some ds =>
      rw [q] at e; cases e
      obtain ⟨p, xs, rfl, hs, r⟩ := seq_of w hx q
      exact .inr ⟨p, xs, rfl, hs, by rw [r.length]; exact give w r_int h⟩
def rAbs : List V → Hp → VK → Prop := fun xs H Q => ∃ i, xs = [.int i] ∧ Q (.int (if i < 0 then -i else i)) H
theorem cd_abs : CallD c rAbs fAbs := cd_f1 fun s F θ H x a w hx Q d e h => by
  split at e
  · cases e
    exact ⟨_, by rw [r_int_inv hx], give w r_int h⟩
  · cases e
def rInt1 : List V → Hp → VK → Prop := fun xs H Q => (∃ i, xs = [.int i] ∧ Q (.int i) H) ∨ ∃ k, xs = [.bl k] ∧ Q (.int (if k then 1 else 0)) H
theorem cd_int : CallD c rInt1 fInt := cd_f1 fun s F θ H x a w hx Q d e h => by
  split at e
  · cases e
    exact .inl ⟨_, by rw [r_int_inv hx], give w r_int h⟩
  · cases e
theorem cd_sum : CallD c (rSum c.K) fSum := cd_f1 fun s F θ H x a w hx Q d e h => by
  split at e
  · rename_i ds z
    split at e
    · rename_i ns z2
      cases e
      obtain ⟨p, xs, rfl, hs, r⟩ := list_of w hx z
      rw [intsD_eq z2] at r
      rw [r.ints] at hs
      exact ⟨p, ns, rfl, hs, give w r_int h⟩
    · cases e
  · cases e
def rMax3 (K : PySem.W.Frag) : List V → Hp → VK → Prop := fun xs H Q => rMax K xs H Q ∨ ∃ i j, xs = [.int i, .int j] ∧ Q (.int (if j > i then j else i)) H
def rMin3 (K : PySem.W.Frag) : List V → Hp → VK → Prop := fun xs H Q => rMin K xs H Q ∨ ∃ i j, xs = [.int i, .int j] ∧ Q (.int (if j < i then j else i)) H
theorem cr_max3 {X : Cx} (hc : X.calm = true) : CallR X (.builtin "max") (rMax3 X.K) := CallR.or (cr_max hc) (call_max2 hc)
theorem cr_min3 {X : Cx} (hc : X.calm = true) : CallR X (.builtin "min") (rMin3 X.K) := CallR.or (cr_min hc) (call_min2 hc)
theorem cd_max : CallD c (rMax3 c.K) fMax := by
  intro s F θ H xs as w r Q d e h
  unfold fMax at e
  split at e
  · obtain ⟨x, rfl, hx⟩ := ra1 r
    split at e
    · rename_i ds z
      split at e
      · rename_i n ns z2
        cases e
        obtain ⟨p, ys, rfl, hs, r⟩ := list_of w hx z
        rw [intsD_eq z2] at r
        rw [r.ints] at hs
        refine .inl ⟨p, n :: ns, rfl, hs, by simp, fun m hm hle => ?_⟩
        obtain ⟨h1, h2, h3⟩ := maxI_spec ns n
        have e1 : m = maxI n ns := by
          have a1 : maxI n ns ≤ m := by
            rcases h1 with q | q
            · rw [q]; exact hle n List.mem_cons_self
            · exact hle _ (List.mem_cons_of_mem _ q)
          have a2 : m ≤ maxI n ns := by
            rcases List.mem_cons.mp hm with q | q
            · rw [q]; exact h2
            · exact h3 m q
          omega
        rw [e1]
        exact give w r_int h
      · cases e
    · cases e
  · cases e
    obtain ⟨x, y, rfl, hx, hy⟩ := ra2 r
    exact .inr ⟨_, _, by rw [r_int_inv hx, r_int_inv hy], give w r_int h⟩
  · cases e
theorem cd_min : CallD c (rMin3 c.K) fMin := by
  intro s F θ H xs as w r Q d e h
  unfold fMin at e
  split at e
  · obtain ⟨x, rfl, hx⟩ := ra1 r
    split at e
    · rename_i ds z
      split at e
      · rename_i n ns z2
        cases e
        obtain ⟨p, ys, rfl, hs, r⟩ := list_of w hx z
        rw [intsD_eq z2] at r
        rw [r.ints] at hs
        refine .inl ⟨p, n :: ns, rfl, hs, by simp, fun m hm hle => ?_⟩
        obtain ⟨h1, h2, h3⟩ := minI_spec ns n
        have e1 : m = minI n ns := by
          have a1 : m ≤ minI n ns := by
            rcases h1 with q | q
            · rw [q]; exact hle n List.mem_cons_self
            · exact hle _ (List.mem_cons_of_mem _ q)
          have a2 : minI n ns ≤ m := by
            rcases List.mem_cons.mp hm with q | q
            · rw [q]; exact h2
            · exact h3 m q
          omega
        rw [e1]
        exact give w r_int h
      · cases e
    · cases e
  · cases e
    obtain ⟨x, y, rfl, hx, hy⟩ := ra2 r
    exact .inr ⟨_, _, by rw [r_int_inv hx, r_int_inv hy], give w r_int h⟩
  · cases e
theorem cd_all : CallD c (rAll c.K) fAll := cd_f1 fun s F θ H x a w hx Q d e h => by
  split at e
  · rename_i ds z
    split at e
    · rename_i ns z2
      cases e
      obtain ⟨p, xs, rfl, hs, r⟩ := list_of w hx z
      rw [blsD_eq z2] at r
      rw [r.bls] at hs
      exact ⟨p, ns, rfl, hs, give w r_bl h⟩
    · cases e
  · cases e
theorem cd_any : CallD c (rAny c.K) fAny := cd_f1 fun s F θ H x a w hx Q d e h => by
  split at e
  · rename_i ds z
    split at e
    · rename_i ns z2
      cases e
      obtain ⟨p, xs, rfl, hs, r⟩ := list_of w hx z
      rw [blsD_eq z2] at r
      rw [r.bls] at hs
      exact ⟨p, ns, rfl, hs, give w r_bl h⟩
    · cases e
  · cases e
def rListOf (K : PySem.W.Frag) : List V → Hp → VK → Prop := fun xs H Q => ∃ p ys, xs = [.ref p] ∧ (SqL K H p ys ∨ SqT K H p ys) ∧ ∀ l, H l = none → Q (.ref l) (upd H l (.lst ys))
theorem cd_tuple : CallD c (rTupZ c.K) fTuple := cd_f1 fun s F θ H x a w hx Q d e h => by
  split at e
  · cases e
    obtain ⟨p, xs, rfl, hs, r⟩ := r_tup_inv hx
    exact ⟨p, xs, rfl, .inr ⟨w.sub.t hs.t, give w (by unfold R; exact ⟨p, xs, rfl, hs, r⟩) h⟩⟩
  · cases q : listD s a with
    | none => rw [q] at e; cases e
    | some ds =>
      rw [q] at e; cases e
      obtain ⟨p, xs, rfl, hs, r⟩ := list_of w hx q
      exact ⟨p, xs, rfl, .inl ⟨hs, fun l o n od => give_new w n (r_tup (H := H) (w.free n).1 od r) h⟩⟩
end
end MX


set_option Elab.async false
set_option linter.all false
set_option maxRecDepth 100000
namespace MX
open PySem PySem.Spec PyProof.Rows L2
section
variable {c : Cs} {E : XK}

theorem on_bl {Hi F : Hp} {θ : List Addr} {H : Hp} {b : Bool} : (rV c).on Hi F θ H (V.bl b) (D.bl b) := r_bl (c := c) (F := F) (θ := θ)
/-! ### tests -/
def eBl (e : Fn D) : Fn Bool := fun ρ s => (e ρ s).bind fun d s => match d with
  | .bl b => .ok b s
  | _ => .bad
theorem den_test {t : TE} {e : Fn D} (h : DenE c E t e) : DenT c E (tTest t) (eBl e) := by
  refine den_bind (r2 := rB c) (K := fun σ x H' Q => ∃ k, x = V.bl k ∧ Q k H') h fun H0 σ ρ s F θ H Hi x a Q he hw q hp => ?_
  cases a with
  | bl b => exact ⟨b, r_bl_inv (c := c) (F := F) (θ := θ) q, hp b F θ H (Ext.refl _ _ _) hw rfl⟩
  | _ => exact hp.elim
theorem den_tB {t : TE} {e : Fn D} (h : DenE c E t e) : DenT c E (tB t) (eBl e) := by
  refine den_bind (r2 := rB c) (K := fun σ x H' Q => ∃ k, x = V.bl k ∧ Q k H') h fun H0 σ ρ s F θ H Hi x a Q he hw q hp => ?_
  cases a with
  | bl b => exact ⟨b, r_bl_inv (c := c) (F := F) (θ := θ) q, hp b F θ H (Ext.refl _ _ _) hw rfl⟩
  | _ => exact hp.elim
def truD (s : Sto) : D → Option Bool
  | .non => some false
  | .bl b => some b
  | .int i => some (i != 0)
  | .str y => if small y.length then some ((y.length : Int) != 0) else none
  | d => match seqD s d with
    | some ds => some (!ds.isEmpty)
    | none => none
def eTru (e : Fn D) : Fn Bool := fun ρ s => (e ρ s).bind fun d s => Res.ofO (truD s d) s
theorem emp_of {F : Hp} {θ : List Addr} {xs : List V} {ds : List D} (r : RA c F θ xs ds) : ds.isEmpty = xs.isEmpty := by
  have := r.length
  cases xs <;> cases ds <;> simp at this ⊢
theorem tru_of {s : Sto} {F : Hp} {θ : List Addr} {H : Hp} {x : V} {d : D} {k : Bool} (w : WOk c s F θ H) (h : R c F θ x d) (e : truD s d = some k) : TruV c.K x H k := by
  have gen : ∀ ds, seqD s d = some ds → k = !ds.isEmpty → TruV c.K x H k := by
    intro ds e1 e2
    obtain ⟨a, xs, rfl, hs, r⟩ := seq_of w h e1
    rcases hs with hs | hs
    · exact .inl ⟨xs, hs, by rw [e2, emp_of r]⟩
    · exact .inr (.inl ⟨xs, hs, by rw [e2, emp_of r]⟩)
  unfold truD at e
  split at e
  · cases e; rw [r_non_inv h]; rfl
  · cases e; rw [r_bl_inv h]; rfl
  · cases e; rw [r_int_inv h]; rfl
  · split at e
    · rename_i z; cases e; rw [r_str_inv h]; exact ⟨small_of z, rfl⟩
    · cases e
  · split at e
    · rename_i ds z; cases e; exact gen ds z rfl
    · cases e
theorem den_truth {t : TE} {e : Fn D} (h : DenE c E t e) : DenT c E (fun σ H Q => t σ H fun x H' => ∃ k, TruV c.K x H' k ∧ Q k H') (eTru e) := by
  refine den_bind (r2 := rB c) (K := fun σ x H' Q => ∃ k, TruV c.K x H' k ∧ Q k H') h fun H0 σ ρ s F θ H Hi x a Q he hw q hp => ?_
  cases z : truD s a with
  | none => rw [z] at hp; exact hp.elim
  | some k => rw [z] at hp; exact ⟨k, tru_of hw q z, hp k F θ H (Ext.refl _ _ _) hw rfl⟩
def eAnd (a b : Fn Bool) : Fn Bool := fun ρ s => (a ρ s).bind fun k s => if k = true then b ρ s else .ok false s
def eOr (a b : Fn Bool) : Fn Bool := fun ρ s => (a ρ s).bind fun k s => if k = true then .ok true s else b ρ s
def eNot (a : Fn Bool) : Fn Bool := fun ρ s => (a ρ s).bind fun k s => .ok (!k) s
theorem den_and {t u : TT} {a b : Fn Bool} (h : DenT c E t a) (k : DenT c E u b) : DenT c E (tAnd t u) (eAnd a b) := by
  refine den_bind (r2 := rB c) (K := fun σ x H' Q => if x = true then u σ H' Q else Q false H') h fun H0 σ ρ s F θ H Hi x a Q he hw q hp => ?_
  have q : x = a := q
  subst q
  cases x with
  | true => exact k H0 σ ρ s F θ H Q he hw hp
  | false => exact hp false F θ H (Ext.refl _ _ _) hw rfl
theorem den_or {t u : TT} {a b : Fn Bool} (h : DenT c E t a) (k : DenT c E u b) : DenT c E (tOr t u) (eOr a b) := by
  refine den_bind (r2 := rB c) (K := fun σ x H' Q => if x = true then Q true H' else u σ H' Q) h fun H0 σ ρ s F θ H Hi x a Q he hw q hp => ?_
  have q : x = a := q
  subst q
  cases x with
  | false => exact k H0 σ ρ s F θ H Q he hw hp
  | true => exact hp true F θ H (Ext.refl _ _ _) hw rfl
theorem den_not {t : TT} {a : Fn Bool} (h : DenT c E t a) : DenT c E (tNot t) (eNot a) := by
  refine den_bind (r2 := rB c) (K := fun σ x H' Q => Q (!x) H') h fun H0 σ ρ s F θ H Hi x a Q he hw q hp => ?_
  have q : x = a := q
  subst q
  exact hp _ F θ H (Ext.refl _ _ _) hw rfl
def dAnd (a b : Fn D) : Fn D := fun ρ s => (a ρ s).bind fun d s => match d with
  | .bl k => if k = true then b ρ s else .ok (.bl false) s
  | _ => .bad
def dOr (a b : Fn D) : Fn D := fun ρ s => (a ρ s).bind fun d s => match d with
  | .bl k => if k = true then .ok (.bl true) s else b ρ s
  | _ => .bad
def dNot (a : Fn D) : Fn D := fun ρ s => (a ρ s).bind fun d s => match d with
  | .bl k => .ok (.bl (!k)) s
  | _ => .bad
theorem den_andV {t u : TE} {a b : Fn D} (h : DenE c E t a) (k : DenE c E u b) : DenE c E (tAndV t u) (dAnd a b) := by
  refine den_bind (r2 := rV c) (K := fun σ x H' Q => ∃ c, x = V.bl c ∧ if c = true then u σ H' Q else Q (V.bl false) H') h fun H0 σ ρ s F θ H Hi x a Q he hw q hp => ?_
  cases a with
  | bl z =>
    refine ⟨z, r_bl_inv (c := c) (F := F) (θ := θ) q, ?_⟩
    cases z with
    | true => exact k H0 σ ρ s F θ H Q he hw hp
    | false => exact hp (.bl false) F θ H (Ext.refl _ _ _) hw on_bl
  | _ => exact hp.elim
theorem den_orV {t u : TE} {a b : Fn D} (h : DenE c E t a) (k : DenE c E u b) : DenE c E (tOrV t u) (dOr a b) := by
  refine den_bind (r2 := rV c) (K := fun σ x H' Q => ∃ c, x = V.bl c ∧ if c = true then Q (V.bl true) H' else u σ H' Q) h fun H0 σ ρ s F θ H Hi x a Q he hw q hp => ?_
  cases a with
  | bl z =>
    refine ⟨z, r_bl_inv (c := c) (F := F) (θ := θ) q, ?_⟩
    cases z with
    | false => exact k H0 σ ρ s F θ H Q he hw hp
    | true => exact hp (.bl true) F θ H (Ext.refl _ _ _) hw on_bl
  | _ => exact hp.elim
theorem den_notV {t : TE} {a : Fn D} (h : DenE c E t a) : DenE c E (tNotV t) (dNot a) := by
  refine den_bind (r2 := rV c) (K := fun σ x H' Q => ∃ c, x = V.bl c ∧ Q (V.bl (!c)) H') h fun H0 σ ρ s F θ H Hi x a Q he hw q hp => ?_
  cases a with
  | bl z => exact ⟨z, r_bl_inv (c := c) (F := F) (θ := θ) q, hp _ F θ H (Ext.refl _ _ _) hw on_bl⟩
  | _ => exact hp.elim
def dIf (t : Fn Bool) (a b : Fn D) : Fn D := fun ρ s => (t ρ s).bind fun k s => if k = true then a ρ s else b ρ s
theorem den_if {t : TT} {ta tb : TE} {e : Fn Bool} {a b : Fn D} (h : DenT c E t e) (h1 : DenE c E ta a) (h2 : DenE c E tb b) : DenE c E (tIf t ta tb) (dIf e a b) := by
  refine den_bind (r2 := rV c) (K := fun σ x H' Q => if x = true then ta σ H' Q else tb σ H' Q) h fun H0 σ ρ s F θ H Hi x a Q he hw q hp => ?_
  have q : x = a := q
  subst q
  cases x with
  | true => exact h1 H0 σ ρ s F θ H Q he hw hp
  | false => exact h2 H0 σ ρ s F θ H Q he hw hp
/-- a op b op' c -/
def dChain (f g : F2) (ea eb ec : Fn D) : Fn D := fun ρ s => (ea ρ s).bind fun a s => (eb ρ s).bind fun b s => match f a b s with
  | some (.bl k) => if k = true then (ec ρ s).bind fun d s => Res.ofO (g b d s) s else .ok (.bl false) s
  | _ => .bad
theorem den_chain {r r' : R2} {f g : F2} {ta tb tc : TE} {ea eb ec : Fn D} (hr : OpD c r f) (hr' : OpD c r' g) (ha : DenE c E ta ea) (hb : DenE c E tb eb) (hc : DenE c E tc ec) : DenE c E (tChain r r' ta tb tc) (dChain f g ea eb ec) := by
  refine den_bind (K := fun σ x H Q => tb σ H fun y H2 => r x y H2 fun z H3 => ∃ k, z = V.bl k ∧ (if k = true then tc σ H3 fun w' H4 => r' y w' H4 Q else Q (V.bl false) H3)) ha fun H0 σ ρ s F θ H Hi x a Q he hw q hp => ?_
  refine hb H0 σ ρ s F θ H _ he hw ?_
  cases e : eb ρ s with
  | exc k fs s' => rw [e] at hp; exact hp
  | bad => rw [e] at hp; exact hp
  | ok b s' =>
    rw [e] at hp
    have hp : Post c E (rV c) (match f a b s' with
      | some (.bl k) => if k = true then (ec ρ s').bind fun d s => Res.ofO (g b d s) s else .ok (.bl false) s'
      | _ => .bad) F θ H Q := hp
    intro y F' θ' H' ex w q2
    have hp2 := hp.shift ex
    cases e2 : f a b s' with
    | none => rw [e2] at hp2; exact hp2.elim
    | some d =>
      rw [e2] at hp2
      cases d with
      | bl k =>
        refine hr s' F' θ' H' x y a b w (R.mono ex.fr ex.th a q) q2 _ (.bl k) e2 fun v F3 H3 ex3 w3 q3 => ?_
        refine ⟨k, r_bl_inv (c := c) (F := F3) (θ := θ') q3, ?_⟩
        have hp3 := hp2.shift ex3
        cases k with
        | false => exact hp3 (.bl false) F3 θ' H3 (Ext.refl _ _ _) w3 on_bl
        | true =>
          show tc σ H3 _
          refine hc H0 σ ρ s' F3 θ' H3 _ ((he.ext ex).ext ex3) w3 ?_
          have hp3 : Post c E (rV c) ((ec ρ s').bind fun d s => Res.ofO (g b d s) s) F3 θ' H3 Q := hp3
          cases e4 : ec ρ s' with
          | exc k fs s' => rw [e4] at hp3; exact hp3
          | bad => rw [e4] at hp3; exact hp3
          | ok d s4 =>
            rw [e4] at hp3
            intro z F4 θ4 H4 ex4 w4 q4
            exact (hr' s4 F4 θ4 H4 y z b d w4 (R.mono (ex3.trans ex4).fr (ex3.trans ex4).th b q2) q4).post (hp3.shift ex4)
      | _ => exact hp2.elim

/-! ### a star among the arguments -/
def dStar (ea : Fn D) (er : Fn (List D)) : Fn (List D) := fun ρ s => (ea ρ s).bind fun a s => match a with
  | .lst xs => (er ρ s).bind fun r s => .ok (xs ++ r) s
  | .tup xs => (er ρ s).bind fun r s => .ok (xs ++ r) s
  | _ => .bad
end

/-! ### calls of the program's own defs -/
abbrev Mf := List D → Sto → Res D
def spF (c : Cs) (m : Mf) (n : Nat) : Sp := fun vs H Q E => vs.length = n ∧ ∃ F θ s ds, WOk c s F θ H ∧ RA c F θ vs ds ∧ Post c E (rV c) (m ds s) F θ H Q
section
variable {c : Cs} {E : XK}
def dCall (m : Mf) (n : Nat) (ea : Fn (List D)) : Fn D := fun ρ s => (ea ρ s).bind fun a s => if a.length = n then m a s else .bad
theorem den_call {m : Mf} {n : Nat} {ta : TA} {ea : Fn (List D)} (ha : DenA c E ta ea) : DenE c E (tCall (spF c m n) [] E ta) (dCall m n ea) := by
  refine den_bind (r2 := rV c) (K := fun σ vs H1 Q => spF c m n (vs ++ []) H1 Q E) ha fun H0 σ ρ s F θ H Hi x a Q he hw q hp => ?_
  by_cases z : a.length = n
  · rw [if_pos z] at hp
    rw [List.append_nil]
    exact ⟨by rw [RA.length q]; exact z, F, θ, s, a, hw, q, hp⟩
  · rw [if_neg z] at hp; exact hp.elim
mutual
def noC : D → Bool
  | .cell _ => false
  | .lst ds => noCs ds
  | .ro ds => noCs ds
  | .tup ds => noCs ds
  | .obj _ ds => noCs ds
  | .dct ks vs => noCs ks && noCs vs
  | _ => true
def noCs : List D → Bool
  | [] => true
  | d :: ds => noC d && noCs ds
end
mutual
theorem r_noC {F : Hp} {θ : List Addr} : ∀ (d : D) {v : V}, noC d = true → R c F θ v d → R c F [] v d
  | .non, v, _, h => by unfold R at h ⊢; exact h
  | .bl _, v, _, h => by unfold R at h ⊢; exact h
  | .int _, v, _, h => by unfold R at h ⊢; exact h
  | .str _, v, _, h => by unfold R at h ⊢; exact h
  | .ty _, v, _, h => by unfold R at h ⊢; exact h
  | .cls _, v, _, h => by unfold R at h ⊢; exact h
  | .cell _, v, z, h => by unfold noC at z; exact (Bool.false_ne_true z).elim
  | .lst ds, v, z, h => by
    unfold noC at z
    unfold R at h ⊢
    obtain ⟨a, xs, r, s, t⟩ := h
    exact ⟨a, xs, r, s, ra_noC ds z t⟩
  | .ro ds, v, z, h => by
    unfold noC at z
    unfold R at h ⊢
    obtain ⟨a, xs, r, s, t⟩ := h
    exact ⟨a, xs, r, s, ra_noC ds z t⟩
  | .tup ds, v, z, h => by
    unfold noC at z
    unfold R at h ⊢
    obtain ⟨a, xs, r, s, t⟩ := h
    exact ⟨a, xs, r, s, ra_noC ds z t⟩
  | .obj k ds, v, z, h => by
    unfold noC at z
    unfold R at h ⊢
    obtain ⟨a, dx, fs, r, s, n, t⟩ := h
    exact ⟨a, dx, fs, r, s, n, ra_noC ds z t⟩
  | .dct ks vs, v, z, h => by
    unfold noC at z
    rw [Bool.and_eq_true] at z
    unfold R at h ⊢
    obtain ⟨a, xs, ep, us, e1, e2, e3, e4, e5, e6, e7⟩ := h
    exact ⟨a, xs, ep, us, e1, e2, e3, e4, ra_noC ks z.1 e5, e6, ra_noC vs z.2 e7⟩
  | .mdc _ _, v, _, h => by unfold R at h; exact h.elim
  | .mse _, v, _, h => by unfold R at h; exact h.elim
theorem ra_noC {F : Hp} {θ : List Addr} : ∀ (ds : List D) {vs : List V}, noCs ds = true → RA c F θ vs ds → RA c F [] vs ds
  | [], vs, _, h => by rw [h.nil_inv]; exact RA.nil
  | d :: ds, vs, z, h => by
    unfold noCs at z
    rw [Bool.and_eq_true] at z
    obtain ⟨v, r, rfl, q, t⟩ := h.cons_inv
    exact RA.cons (r_noC d z.1 q) (ra_noC ds z.2 t)
end
/-- a call that touches no cell: worked out over the empty store -/
def pur (m : Mf) (ds : List D) (s : Sto) : Res D := if noCs ds = true then (match m ds [] with
  | .ok d [] => .ok d s
  | .exc k fs [] => .exc k fs s
  | _ => .bad) else .bad
theorem wok_nil {s : Sto} {F : Hp} {θ : List Addr} {H : Hp} (w : WOk c s F θ H) : WOk c [] F [] H := by
  refine ⟨w.sub, fun a m => ?_, List.nodup_nil, rfl, fun i a ds h _ => ?_⟩
  · cases m
  · simp at h
theorem wok_back {s : Sto} {F F' : Hp} {θ : List Addr} {H H' : Hp} (w : WOk c s F θ H) (x : Ext F [] H F' [] H') (w' : WOk c [] F' [] H') : Ext F θ H F' θ H' ∧ WOk c s F' θ H' := by
  refine ⟨⟨x.fr, Pre.refl θ, fun a o h _ => x.kp a o h (by simp), fun a m n => absurd m n, x.nf, x.al⟩, ⟨w'.sub, fun a m => ⟨x.nf a (w.fc a m).1 (w.fc a m).2, x.al a (w.fc a m).2⟩, w.nd, w.len, fun i a ds h1 h2 => ?_⟩⟩
  obtain ⟨xs, e, r⟩ := w.cel i a ds h1 h2
  exact ⟨xs, x.kp a _ e (by simp), r.mono x.fr (Pre.refl θ)⟩
theorem th_nil {F' : Hp} {θ' : List Addr} {H' : Hp} (w : WOk c [] F' θ' H') : θ' = [] := by
  have := w.len
  exact List.length_eq_zero_iff.mp (by simpa using this)
theorem post_pur {m : Mf} {s : Sto} {ds : List D} {F : Hp} {θ : List Addr} {H : Hp} {Q : VK} (w : WOk c s F θ H) (z : noCs ds = true) (hp : Post c E (rV c) (pur m ds s) F θ H Q) : Post c E (rV c) (m ds []) F [] H Q := by
  unfold pur at hp
  rw [if_pos z] at hp
  cases e : m ds [] with
  | bad => rw [e] at hp; exact hp
  | ok d s' =>
    rw [e] at hp
    cases s' with
    | cons _ _ => exact hp.elim
    | nil =>
      intro v F' θ' H' x w' q
      have t := th_nil w'
      subst t
      obtain ⟨x2, w2⟩ := wok_back w x w'
      exact hp v F' θ H' x2 w2 (R.mono (Le.refl F') ⟨θ, rfl⟩ d q)
  | exc k fs s' =>
    rw [e] at hp
    cases s' with
    | cons _ _ => exact hp.elim
    | nil =>
      intro F' θ' H' dx x w' q
      have t := th_nil w'
      subst t
      obtain ⟨x2, w2⟩ := wok_back w x w'
      refine hp F' θ H' dx x2 w2 ?_
      rcases q with q | ⟨d, vs, h1, h2, h3, h4⟩
      · exact .inl q
      · exact .inr ⟨d, vs, h1, h2, h3, RA.mono (Le.refl F') ⟨θ, rfl⟩ fs h4⟩
theorem den_callP {m : Mf} {n : Nat} {ta : TA} {ea : Fn (List D)} (ha : DenA c E ta ea) : DenE c E (tCall (spF c m n) [] E ta) (dCall (pur m) n ea) := by
  refine den_bind (r2 := rV c) (K := fun σ vs H1 Q => spF c m n (vs ++ []) H1 Q E) ha fun H0 σ ρ s F θ H Hi x a Q he hw q hp => ?_
  by_cases z : a.length = n
  · rw [if_pos z] at hp
    rw [List.append_nil]
    by_cases z2 : noCs a = true
    · exact ⟨by rw [RA.length q]; exact z, F, [], [], a, wok_nil hw, ra_noC a z2 q, post_pur hw z2 hp⟩
    · unfold pur at hp
      rw [if_neg z2] at hp
      exact hp.elim
  · rw [if_neg z] at hp; exact hp.elim
end
end MX


set_option Elab.async false
set_option linter.all false
set_option maxRecDepth 100000
namespace MX
open PySem PySem.Spec PyProof.Rows L2

/-! ### targets -/
inductive Pt where
  | nm (i : Nat) | tup (p : Pt) | nil | cons (p q : Pt)
def Pt.len : Pt → Nat
  | .cons _ q => q.len + 1
  | _ => 0
mutual
def gP (K : PySem.W.Frag) : Pt → TG
  | .nm i => gName i
  | .tup p => gTup K p.len (gPs K p)
  | _ => fun _ _ _ _ => False
def gPs (K : PySem.W.Frag) : Pt → TGs
  | .nil => gNil
  | .cons p q => gCons (gP K p) (gPs K q)
  | _ => fun _ _ _ _ => False
end
mutual
def setP : Pt → List Sl → D → Option (List Sl)
  | .nm i, ρ, d => some (ρ.set i (.val d))
  | .tup p, ρ, d => match d with
    | .tup ds => if ds.length = p.len then setPs p ρ ds else none
    | _ => none
  | _, _, _ => none
def setPs : Pt → List Sl → List D → Option (List Sl)
  | .nil, ρ, [] => some ρ
  | .cons p q, ρ, d :: ds => match setP p ρ d with
    | some ρ1 => setPs q ρ1 ds
    | none => none
  | _, _, _ => none
end
def Pt.slots : Pt → List Nat
  | .nm i => [i]
  | .tup p => p.slots
  | .nil => []
  | .cons p q => p.slots ++ q.slots
/-- σ' is σ but for the slots of the target -/
def But (is : List Nat) (σ σ' : L2.St) : Prop := ∀ vs : List Nat, (∀ i ∈ is, i ∈ vs) → wipe σ' vs = wipe σ vs
theorem wipe_get {σ : L2.St} {i : Nat} : ∀ {vs : List Nat}, (wipe σ vs)[i]? = if i ∈ vs then (if i < σ.length then some none else none) else σ[i]?
  | [] => by simp [wipe]
  | v :: vs => by
    unfold wipe
    by_cases e : v = i
    · subst e
      simp [List.getElem?_set, wipe_length]
    · rw [List.getElem?_set_ne e, wipe_get]
      have : (i ∈ v :: vs) ↔ i ∈ vs := by
        constructor
        · intro h
          rcases List.mem_cons.mp h with h | h
          · exact absurd h.symm e
          · exact h
        · exact List.mem_cons_of_mem _
      simp only [this]
theorem wipe_set {σ : L2.St} {i : Nat} {o : Option V} {vs : List Nat} (h : i ∈ vs) : wipe (σ.set i o) vs = wipe σ vs := by
  apply List.ext_getElem?
  intro j
  rw [wipe_get, wipe_get, List.length_set]
  by_cases e : j ∈ vs
  · simp [e]
  · simp only [e, if_false]
    have : i ≠ j := fun z => e (z ▸ h)
    rw [List.getElem?_set_ne this]
section
variable {c : Cs} {E : XK} {H0 : En} {F : Hp} {θ : List Addr} {H : Hp}
mutual
theorem gP_ok {s : Sto} (hw : WOk c s F θ H) : ∀ (p : Pt) (σ : L2.St) (ρ ρ' : List Sl) (v : V) (d : D) (Q : L2.St → Hp → Prop), EnvOk c H0 F θ H σ ρ → R c F θ v d → setP p ρ d = some ρ' →
    (∀ σ', EnvOk c H0 F θ H σ' ρ' → But p.slots σ σ' → Q σ' H) → gP c.K p v σ H Q
  | .nm i, σ, ρ, ρ', v, d, Q, he, r, e, k => by
    unfold setP at e
    cases e
    exact k _ (he.setVal r) fun vs h => wipe_set (h i (by simp [Pt.slots]))
  | .tup p, σ, ρ, ρ', v, d, Q, he, r, e, k => by
    unfold setP at e
    split at e
    · rename_i ds
      split at e
      · rename_i hl
        obtain ⟨a, xs, rfl, ha, q⟩ := r_tup_inv r
        exact ⟨a, xs, rfl, hw.sub.t ha.t, by rw [q.length]; exact hl, gPs_ok hw p σ ρ ρ' xs ds Q he q e k⟩
      · cases e
    · cases e
  | .nil, σ, ρ, ρ', v, d, Q, he, r, e, k => by unfold setP at e; cases e
  | .cons _ _, σ, ρ, ρ', v, d, Q, he, r, e, k => by unfold setP at e; cases e
theorem gPs_ok {s : Sto} (hw : WOk c s F θ H) : ∀ (p : Pt) (σ : L2.St) (ρ ρ' : List Sl) (vs : List V) (ds : List D) (Q : L2.St → Hp → Prop), EnvOk c H0 F θ H σ ρ → RA c F θ vs ds → setPs p ρ ds = some ρ' →
    (∀ σ', EnvOk c H0 F θ H σ' ρ' → But p.slots σ σ' → Q σ' H) → gPs c.K p vs σ H Q
  | .nil, σ, ρ, ρ', vs, [], Q, he, r, e, k => by
    unfold setPs at e
    cases e
    exact ⟨r.nil_inv, k σ he fun _ _ => rfl⟩
  | .nil, σ, ρ, ρ', vs, _ :: _, Q, he, r, e, k => by unfold setPs at e; cases e
  | .cons p q, σ, ρ, ρ', vs, [], Q, he, r, e, k => by unfold setPs at e; cases e
  | .cons p q, σ, ρ, ρ', vs, d :: ds, Q, he, r, e, k => by
    unfold setPs at e
    cases z : setP p ρ d with
    | none => rw [z] at e; cases e
    | some ρ1 =>
      rw [z] at e
      obtain ⟨v, r', rfl, r1, r2⟩ := r.cons_inv
      refine ⟨v, r', rfl, gP_ok hw p σ ρ ρ1 v d _ he r1 z fun σ1 he1 b1 => ?_⟩
      refine gPs_ok hw q σ1 ρ1 ρ' r' ds Q he1 r2 e fun σ2 he2 b2 => k σ2 he2 fun ws h => ?_
      rw [b2 ws fun i hi => h i (by simp [Pt.slots, hi]), b1 ws fun i hi => h i (by simp [Pt.slots, hi])]
  | .nm _, σ, ρ, ρ', vs, ds, Q, he, r, e, k => by unfold setPs at e; cases e
  | .tup _, σ, ρ, ρ', vs, ds, Q, he, r, e, k => by unfold setPs at e; cases e
end

/-! ### what is walked -/
/-- J yields the items of ds, in any later state -/
def IterX (c : Cs) (J : It) (ds : List D) (F : Hp) (θ : List Addr) (H : Hp) : Prop := ∀ (F2 : Hp) (θ2 : List Addr) (H2 : Hp), Ext F θ H F2 θ2 H2 → Le F2 H2 →
  (∀ (i : Nat) (d : D), ds[i]? = some d → J.go i H2 ∧ ∀ x H3, J.yld i H2 x H3 → H3 = H2 ∧ R c F2 θ2 x d) ∧ ∀ i, ds.length ≤ i → J.stop i H2
/-- .. in any state in which what is frozen stands -/
def IterS (c : Cs) (J : It) (ds : List D) (F : Hp) (θ : List Addr) : Prop := ∀ (F2 : Hp) (θ2 : List Addr) (H2 : Hp), Le F F2 → Pre θ θ2 → Le F2 H2 →
  (∀ (i : Nat) (d : D), ds[i]? = some d → J.go i H2 ∧ ∀ x H3, J.yld i H2 x H3 → H3 = H2 ∧ R c F2 θ2 x d) ∧ ∀ i, ds.length ≤ i → J.stop i H2
theorem IterS.x {J : It} {ds : List D} (h : IterS c J ds F θ) : IterX c J ds F θ H := fun F2 θ2 H2 x s => h F2 θ2 H2 x.fr x.th s
def rIX (c : Cs) : Rel c It (List D) := ⟨fun _ F θ H J ds => IterX c J ds F θ H, fun _ _ _ _ _ _ _ _ h => h⟩
def rIS (c : Cs) : Rel c It (List D) := ⟨fun _ F θ _ J ds => IterS c J ds F θ, fun _ _ _ _ _ _ _ _ h => h⟩
abbrev SrcX (c : Cs) (E : XK) (wi : TI) (e : Fn (List D)) : Prop := Den c E (rIX c) wi e
abbrev SrcS (c : Cs) (E : XK) (wi : TI) (e : Fn (List D)) : Prop := Den c E (rIS c) wi e
theorem SrcS.x {wi : TI} {e : Fn (List D)} (h : SrcS c E wi e) : SrcX c E wi e := by
  intro H0 σ ρ s F θ H Q he hw hp
  refine h H0 σ ρ s F θ H Q he hw ?_
  cases q : e ρ s with
  | bad => rw [q] at hp; exact hp
  | exc k fs s' => rw [q] at hp; exact hp
  | ok ds s' =>
    rw [q] at hp
    exact fun J F' θ' H' x w r => hp J F' θ' H' x w (IterS.x r)
/-- a list or a tuple, whichever it is -/
def iSeq (K : PySem.W.Frag) (te : TE) : TI := fun σ H R => te σ H fun x H1 => (∃ a, x = .ref a ∧ (∃ xs, SqL K H1 a xs) ∧ R (Itl K a) H1) ∨ ∃ a, x = .ref a ∧ (∃ xs, SqT K H1 a xs) ∧ R (Itt K a) H1
theorem itl_of {a : Addr} {xs : List V} {ds : List D} (hs : ∀ (F2 H2 : Hp), Le F F2 → Le F2 H2 → SqL c.K H2 a xs) (r : RA c F θ xs ds) : IterS c (Itl c.K a) ds F θ := by
  intro F2 θ2 H2 x p s
  have hq := hs F2 H2 x s
  have r2 := RA.mono x p ds r
  have u : ∀ ys, SqL c.K H2 a ys → True := fun _ _ => trivial
  refine ⟨fun i d h => ?_, fun i h => ⟨xs, hq, by rw [r.length]; exact h⟩⟩
  obtain ⟨v, hv, hr⟩ := r2.get' h
  exact ⟨⟨xs, v, hq, hv⟩, fun y H3 ⟨e, k⟩ => ⟨e, by
    have := k xs hq
    rw [hv] at this
    cases this
    exact hr⟩⟩
theorem itt_of {a : Addr} {xs : List V} {ds : List D} (hs : SqT c.K F a xs) (r : RA c F θ xs ds) : IterS c (Itt c.K a) ds F θ := by
  intro F2 θ2 H2 x p s
  have hq := s.t (x.t hs)
  have r2 := RA.mono x p ds r
  refine ⟨fun i d h => ?_, fun i h => ⟨xs, hq, by rw [r.length]; exact h⟩⟩
  obtain ⟨v, hv, hr⟩ := r2.get' h
  exact ⟨⟨xs, v, hq, hv⟩, fun y H3 ⟨e, k⟩ => ⟨e, by
    have := k xs hq
    rw [hv] at this
    cases this
    exact hr⟩⟩
/-- a frozen list, a tuple -/
def frzD : D → Option (List D)
  | .lst ds => some ds
  | .ro ds => some ds
  | .tup ds => some ds
  | _ => none
def wSeq (e : Fn D) : Fn (List D) := fun ρ s => (e ρ s).bind fun d s => Res.ofO (frzD d) s
theorem src_seq {te : TE} {e : Fn D} (h : DenE c E te e) : SrcS c E (iSeq c.K te) (wSeq e) := by
  refine den_bind (r2 := rIS c) (K := fun σ x H1 Q => (∃ a, x = V.ref a ∧ (∃ xs, SqL c.K H1 a xs) ∧ Q (Itl c.K a) H1) ∨ ∃ a, x = V.ref a ∧ (∃ xs, SqT c.K H1 a xs) ∧ Q (Itt c.K a) H1) h fun H0 σ ρ s F θ H Hi x a Q he hw q hp => ?_
  have q : R c F θ x a := q
  cases a with
  | lst ds =>
    obtain ⟨p, xs, rfl, ha, r⟩ := r_lst_inv q
    exact .inl ⟨p, rfl, ⟨xs, SqL.of (hw.sub _ _ ha)⟩, hp _ F θ H (Ext.refl _ _ _) hw (itl_of (fun F2 H2 x s => SqL.of (s _ _ (x _ _ ha))) r)⟩
  | ro ds =>
    obtain ⟨p, xs, rfl, ha, r⟩ := r_ro_inv q
    exact .inl ⟨p, rfl, ⟨xs, hw.sub.l ha⟩, hp _ F θ H (Ext.refl _ _ _) hw (itl_of (fun F2 H2 x s => s.l (x.l ha)) r)⟩
  | tup ds =>
    obtain ⟨p, xs, rfl, ha, r⟩ := r_tup_inv q
    exact .inr ⟨p, rfl, ⟨xs, hw.sub.t ha.t⟩, hp _ F θ H (Ext.refl _ _ _) hw (itt_of ha.t r)⟩
  | _ => exact hp.elim
/-- a list that stands in this state and stays where nothing but cells changes (one's own list): in comprehensions -/
theorem srcX_L {te : TE} {e : Fn (List D)} (h : DenL c E te e) : SrcX c E (iSeq c.K te) e := by
  intro H0 σ ρ s F θ H Q he hw hp
  refine h H0 σ ρ s F θ H _ he hw ?_
  cases q : e ρ s with
  | bad => rw [q] at hp; exact hp
  | exc k fs s' => rw [q] at hp; exact hp
  | ok ds s' =>
    rw [q] at hp
    rintro v F' θ' H' x w ⟨a, xs, rfl, hs, ht, r⟩
    refine .inl ⟨a, rfl, ⟨xs, hs⟩, hp _ F' θ' H' x w ?_⟩
    intro F2 θ2 H2 x2 s2
    have hq : SqL c.K H2 a xs := by
      rcases hs with (hs | ⟨o, hs⟩) | hs
      · exact .inl (.inl (x2.kp a _ hs ht))
      · exact .inl (.inr ⟨o, x2.kp a _ hs ht⟩)
      · exact .inr hs
    have r2 := RA.mono x2.fr x2.th ds r
    refine ⟨fun i d h => ?_, fun i h => ⟨xs, hq, by rw [r.length]; exact h⟩⟩
    obtain ⟨v, hv, hr⟩ := r2.get' h
    exact ⟨⟨xs, v, hq, hv⟩, fun y H3 ⟨e, k⟩ => ⟨e, by
      have := k xs hq
      rw [hv] at this
      cases this
      exact hr⟩⟩
def rangeD (lo : Int) (n : Nat) : List D := (List.range n).map fun (i : Nat) => D.int (lo + (i : Int))
theorem itr_of {lo : Int} {n : Nat} : IterS c (Itr lo n) (rangeD lo n) F θ := by
  intro F2 θ2 H2 x p s
  refine ⟨fun i d h => ?_, fun i h => ?_⟩
  · have hi : i < n := by have := get_lt h; simpa [rangeD] using this
    have e : d = .int (lo + (i : Int)) := by
      unfold rangeD at h
      rw [List.getElem?_map, List.getElem?_range hi] at h
      exact (Option.some.inj h).symm
    subst e
    exact ⟨hi, fun y H3 ⟨e1, e2⟩ => ⟨e1, by rw [e2]; exact r_int⟩⟩
  · have : n ≤ i := by simpa [rangeD] using h
    exact this
def inB (j : Int) : Bool := decide (-1000000 ≤ j ∧ j ≤ 1000000)
def wRng1 (e : Fn (List D)) : Fn (List D) := fun ρ s => (e ρ s).bind fun ds s => match ds with
  | [.int j] => if inB j then .ok (rangeD 0 j.toNat) s else .bad
  | _ => .bad
def wRng2 (e : Fn (List D)) : Fn (List D) := fun ρ s => (e ρ s).bind fun ds s => match ds with
  | [.int i, .int j] => if inB i && inB j then .ok (rangeD i (j - i).toNat) s else .bad
  | _ => .bad
theorem src_rng1 {ta : TA} {e : Fn (List D)} (h : DenA c E ta e) : SrcS c E (iRng1 ta) (wRng1 e) := by
  refine den_bind (r2 := rIS c) (K := fun σ vs H1 Q => ∃ j : Int, vs = [V.int j] ∧ -(2 ^ 62) ≤ j ∧ j < 2 ^ 62 ∧ Q (Itr 0 j.toNat) H1) h fun H0 σ ρ s F θ H Hi x a Q he hw q hp => ?_
  change RA c F θ x a at q
  split at hp
  · rename_i j
    split at hp
    · rename_i hb
      obtain ⟨v, rfl, hv⟩ := ra1 q
      have hb := of_decide_eq_true hb
      exact ⟨j, by rw [r_int_inv hv], by omega, by omega, hp _ F θ H (Ext.refl _ _ _) hw itr_of⟩
    · exact hp.elim
  · exact hp.elim
theorem src_rng2 {ta : TA} {e : Fn (List D)} (h : DenA c E ta e) : SrcS c E (iRng2 ta) (wRng2 e) := by
  refine den_bind (r2 := rIS c) (K := fun σ vs H1 Q => ∃ i j : Int, vs = [V.int i, V.int j] ∧ (-(2 ^ 62) ≤ i ∧ i < 2 ^ 62 ∧ -(2 ^ 62) ≤ j ∧ j < 2 ^ 62) ∧ Q (Itr i (j - i).toNat) H1) h fun H0 σ ρ s F θ H Hi x a Q he hw q hp => ?_
  change RA c F θ x a at q
  split at hp
  · rename_i i j
    split at hp
    · rename_i hb
      obtain ⟨v, u, rfl, hv, hu⟩ := ra2 q
      rw [Bool.and_eq_true] at hb
      have h1 := of_decide_eq_true hb.1
      have h2 := of_decide_eq_true hb.2
      exact ⟨i, j, by rw [r_int_inv hv, r_int_inv hu], ⟨by omega, by omega, by omega, by omega⟩, hp _ F θ H (Ext.refl _ _ _) hw itr_of⟩
    · exact hp.elim
  · exact hp.elim

/-! ### comprehensions -/
def wipeR (ρ : List Sl) : List Nat → List Sl
  | [] => ρ
  | v :: vs => (wipeR ρ vs).set v .none
theorem EnvOk.wipe {σ : L2.St} {ρ : List Sl} (h : EnvOk c H0 F θ H σ ρ) : ∀ vs : List Nat, EnvOk c H0 F θ H (L2.wipe σ vs) (wipeR ρ vs)
  | [] => h
  | v :: vs => (EnvOk.wipe h vs).setNone
def noX {α : Type} : Res α → Res α
  | .ok a s => .ok a s
  | _ => .bad
def compL (p : Pt) (t : Fn Bool) (e : Fn D) (ρ : List Sl) : List D → Sto → Res (List D)
  | [], s => .ok [] s
  | d :: ds, s => match setP p ρ d with
    | some ρ1 => (noX (t ρ1 s)).bind fun k s => if k = true then (noX (e ρ1 s)).bind fun y s => (compL p t e ρ ds s).bind fun r s => .ok (y :: r) s else compL p t e ρ ds s
    | none => .bad
def dComp (w : Fn (List D)) (p : Pt) (t : Fn Bool) (e : Fn D) (vs : List Nat) : Fn (List D) := fun ρ s => (w ρ s).bind fun ds s => if small ds.length then compL p t e (wipeR ρ vs) ds s else .bad
abbrev EX0 : XK := fun _ _ _ => False
theorem noX_post {α β : Type} {rel : Rel c β α} {r : Res α} {Q : β → Hp → Prop} (h : Post c EX0 rel (noX r) F θ H Q) : Post c EX0 rel r F θ H Q := by
  cases r with
  | ok a s => exact h
  | exc k fs s => exact h.elim
  | bad => exact h.elim
theorem den_comp {wi : TI} {w : Fn (List MX.D)} {p : Pt} {tt : TT} {t : Fn Bool} {te : TE} {e : Fn MX.D} {vs : List Nat} (hs : SrcX c E wi w) (ht : DenT c EX0 tt t) (he : DenE c EX0 te e) (hv : p.slots.all fun i => vs.contains i) :
    DenF c E (tLc wi (gP c.K p) tt te vs) (dComp w p t e vs) := by
  refine den_bind (r2 := rF c) (K := fun σ J H1 Q => ∀ D, H1 D = none → ∃ W : Nat → Nat → Hp → Prop, (∃ m, W 0 m (upd H1 D (.lst []))) ∧ ∀ i m H, W i m H →
    (J.stop i H ∧ Q (V.ref D) H) ∨ (J.go i H ∧ ∃ Nx : Hp → Prop, (∀ H', Nx H' → ∃ m', m' < m ∧ W (i + 1) m' H') ∧ ∀ x H', J.yld i H x H' → gP c.K p x (L2.wipe σ vs) H' fun σ2 H2 => L2.wipe σ2 vs = L2.wipe σ vs ∧ tt σ2 H2 fun b H3 =>
      if b = true then te σ2 H3 fun y H4 => ∃ acc, H4 D = some (.lst acc) ∧ acc.length < sizeLine ∧ Nx (upd H4 D (.lst (acc ++ [y]))) else Nx H3)) hs fun H0 σ ρ s F θ H Hi J ds Q hE hw hit hp => ?_
  intro Da hn
  have hit : IterX c J ds F θ H := hit
  cases hz : small ds.length with
  | false => simp only [hz] at hp; exact hp.elim
  | true =>
    simp only [hz, if_true] at hp
    have hslots : ∀ i ∈ p.slots, i ∈ vs := fun i hi => by
      have := List.all_eq_true.mp hv i hi
      simpa using this
    -- the invariant
    let Inv : Nat → Hp → Prop := fun i H1 => ∃ (F1 : Hp) (θ1 : List Addr) (s1 : Sto) (acc : List V) (ad : List MX.D), Ext F θ H F1 θ1 H1 ∧ WOk c s1 F1 θ1 H1 ∧ F1 Da = none ∧ Da ∉ θ1 ∧ H1 Da = some (.lst acc) ∧ RA c F1 θ1 acc ad ∧ acc.length ≤ i ∧ i ≤ ds.length ∧
      Post c E (rF c) ((compL p t e (wipeR ρ vs) (ds.drop i) s1).bind fun r s => .ok (ad ++ r) s) F θ H Q
    have upOwn : ∀ {F1 : Hp} {θ1 : List Addr} {s1 : Sto} {H1 : Hp} {o : HO}, Ext F θ H F1 θ1 H1 → WOk c s1 F1 θ1 H1 → F1 Da = none → Da ∉ θ1 → H1 Da ≠ none → Ext F θ H F1 θ1 (upd H1 Da o) ∧ WOk c s1 F1 θ1 (upd H1 Da o) := by
      intro F1 θ1 s1 H1 o x w1 nF nt nH
      refine ⟨⟨x.fr, x.th, fun a u h n => ?_, x.nc, x.nf, fun a n => ?_⟩, ⟨w1.sub.updR nF, fun a m => ?_, w1.nd, w1.len, fun i a es h1 h2 => ?_⟩⟩
      · rw [upd_ne (ne_of_none h hn)]; exact x.kp a u h n
      · by_cases q : a = Da
        · subst q; rw [upd_same]; simp
        · rw [upd_ne q]; exact x.al a n
      · have q : a ≠ Da := fun z => nt (z ▸ m)
        rw [upd_ne q]; exact w1.fc a m
      · obtain ⟨xs, h3, h4⟩ := w1.cel i a es h1 h2
        have q : a ≠ Da := fun z => nt (z ▸ List.mem_of_getElem? h1)
        exact ⟨xs, by rw [upd_ne q]; exact h3, h4⟩
    refine ⟨fun i m H1 => m = ds.length - i ∧ Inv i H1, ⟨ds.length, by simp, ?_⟩, ?_⟩
    · refine ⟨F, θ, s, [], [], Ext.newH hn, hw.newH hn, (hw.free hn).1, (hw.free hn).2, upd_same, RA.nil, by simp, by simp, ?_⟩
      rw [List.drop_zero]
      cases z : compL p t e (wipeR ρ vs) ds s with
      | ok a s2 => rw [z] at hp; exact hp
      | exc k fs s2 => rw [z] at hp; exact hp
      | bad => rw [z] at hp; exact hp
    · rintro i m H1 ⟨rfl, F1, θ1, s1, acc, ad, x1, w1, nF, nt, hD, ra, hal, hil, hp1⟩
      obtain ⟨hgo, hstop⟩ := hit F1 θ1 H1 x1 w1.sub
      by_cases hlt : i < ds.length
      · obtain ⟨d, hd⟩ : ∃ d, ds[i]? = some d := ⟨ds[i], List.getElem?_eq_getElem hlt⟩
        obtain ⟨g1, g2⟩ := hgo i d hd
        refine .inr ⟨g1, Inv (i + 1), fun H' h' => ⟨ds.length - (i + 1), by omega, rfl, h'⟩, fun x H' y => ?_⟩
        obtain ⟨rfl, rx⟩ := g2 x H' y
        have hdr : ds.drop i = d :: ds.drop (i + 1) := by
          rw [List.drop_eq_getElem_cons hlt]
          rw [List.getElem?_eq_getElem hlt] at hd
          rw [Option.some.inj hd]
        rw [hdr] at hp1
        unfold compL at hp1
        cases z : setP p (wipeR ρ vs) d with
        | none => rw [z] at hp1; exact hp1.elim
        | some ρ1 =>
          rw [z] at hp1
          dsimp only at hp1
          have hE1 := EnvOk.wipe (hE.ext x1) vs
          refine gP_ok w1 p _ _ ρ1 x d _ hE1 rx z fun σ2 hE2 hb => ⟨?_, ?_⟩
          · rw [hb vs hslots]
            apply List.ext_getElem?
            intro j
            rw [wipe_get, wipe_length]
            by_cases q : j ∈ vs
            · simp [q, wipe_get]
            · simp [q]
          · refine ht H0 σ2 ρ1 s1 F1 θ1 H' _ hE2 w1 ?_
            cases zt : t ρ1 s1 with
            | bad => rw [zt] at hp1; exact hp1.elim
            | exc k fs s2 => rw [zt] at hp1; exact hp1.elim
            | ok k s2 =>
              rw [zt] at hp1
              intro b F3 θ3 H3 x3 w3 hbk
              have hbk : b = k := hbk
              subst hbk
              have nH1 : H' Da ≠ none := by rw [hD]; simp
              have nF3 : F3 Da = none := x3.nf Da nF nH1
              have nt3 : Da ∉ θ3 := fun mm => nH1 (x3.nc Da mm nt)
              have hD3 : H3 Da = some (.lst acc) := x3.kp Da _ hD nt
              cases b with
              | false =>
                refine ⟨F3, θ3, s2, acc, ad, x1.trans x3, w3, nF3, nt3, hD3, RA.mono x3.fr x3.th ad ra, by omega, by omega, ?_⟩
                exact hp1
              | true =>
                show te σ2 H3 _
                refine he H0 σ2 ρ1 s2 F3 θ3 H3 _ (hE2.ext x3) w3 ?_
                have hp2 : Post c E (rF c) (((noX (e ρ1 s2)).bind fun y s => (compL p t e (wipeR ρ vs) (ds.drop (i + 1)) s).bind fun r s => .ok (y :: r) s).bind fun r s => .ok (ad ++ r) s) F θ H Q := hp1
                cases ze : e ρ1 s2 with
                | bad => rw [ze] at hp2; exact hp2.elim
                | exc k fs s3 => rw [ze] at hp2; exact hp2.elim
                | ok yd s3 =>
                  rw [ze] at hp2
                  intro yv F4 θ4 H4 x4 w4 ry
                  have nH3 : H3 Da ≠ none := by rw [hD3]; simp
                  have nF4 : F4 Da = none := x4.nf Da nF3 nH3
                  have nt4 : Da ∉ θ4 := fun mm => nH3 (x4.nc Da mm nt3)
                  have hD4 : H4 Da = some (.lst acc) := x4.kp Da _ hD3 nt3
                  have hsz := of_decide_eq_true hz
                  have hsl : (1000000 : Nat) < sizeLine := by decide
                  refine ⟨acc, hD4, by omega, ?_⟩
                  obtain ⟨xu, wu⟩ := upOwn (o := .lst (acc ++ [yv])) ((x1.trans x3).trans x4) w4 nF4 nt4 (by rw [hD4]; simp)
                  refine ⟨F4, θ4, s3, acc ++ [yv], ad ++ [yd], xu, wu, nF4, nt4, upd_same, (RA.mono (x3.trans x4).fr (x3.trans x4).th ad ra).append (RA.cons ry RA.nil), by rw [List.length_append]; simp; omega, by omega, ?_⟩
                  have hp3 : Post c E (rF c) (((compL p t e (wipeR ρ vs) (ds.drop (i + 1)) s3).bind fun r s => .ok (yd :: r) s).bind fun r s => .ok (ad ++ r) s) F θ H Q := hp2
                  cases zr : compL p t e (wipeR ρ vs) (ds.drop (i + 1)) s3 with
                  | bad => rw [zr] at hp3; exact hp3
                  | exc k fs s4 => rw [zr] at hp3; exact hp3
                  | ok r s4 =>
                    rw [zr] at hp3
                    have e1 : ad ++ [yd] ++ r = ad ++ (yd :: r) := by simp
                    show Post c E (rF c) (.ok (ad ++ [yd] ++ r) s4) F θ H Q
                    rw [e1]
                    exact hp3
      · have ei : i = ds.length := by omega
        refine .inl ⟨hstop i (by omega), ?_⟩
        have e0 : ds.drop i = [] := List.drop_eq_nil_of_le (by omega)
        rw [e0] at hp1
        have hp2 : Post c E (rF c) (.ok (ad ++ []) s1) F θ H Q := hp1
        rw [List.append_nil] at hp2
        exact hp2 (V.ref Da) F1 θ1 H1 x1 w1 ⟨Da, acc, rfl, hn, nF, nt, hD, ra⟩
end
end MX


set_option Elab.async false
set_option linter.all false
set_option maxRecDepth 100000
namespace MX
open PySem PySem.Spec PyProof.Rows L2

/-! ### statements -/
inductive Fl where
  | next (ρ : List Sl) (s : Sto) | ret (d : D) (s : Sto) | brk (ρ : List Sl) (s : Sto) | cont (ρ : List Sl) (s : Sto) | exc (k : Nat) (fs : List D) (s : Sto) | bad
abbrev Sf := List Sl → Sto → Fl
def PostS (c : Cs) (E : XK) (x : Fl) (H0 : En) (F0 : Hp) (θ0 : List Addr) (Dn : Ends) : Prop := match x with
  | .next ρ s => ∀ σ F θ H, Ext F0 θ0 H0 F θ H → WOk c s F θ H → EnvOk c H0 F θ H σ ρ → Dn.nx σ H
  | .brk ρ s => ∀ σ F θ H, Ext F0 θ0 H0 F θ H → WOk c s F θ H → EnvOk c H0 F θ H σ ρ → Dn.bk σ H
  | .cont ρ s => ∀ σ F θ H, Ext F0 θ0 H0 F θ H → WOk c s F θ H → EnvOk c H0 F θ H σ ρ → Dn.ct σ H
  | .ret d s => ∀ v F θ H, Ext F0 θ0 H0 F θ H → WOk c s F θ H → R c F θ v d → Dn.rt v H
  | .exc k fs s => ∀ F θ H dx, Ext F0 θ0 H0 F θ H → WOk c s F θ H → XRep c F θ dx k fs → E (.ref (c.xc k)) dx H
  | .bad => False
def DenS (c : Cs) (E : XK) (t : TS) (x : Sf) : Prop := ∀ (H0 : En) (F0 : Hp) (θ0 : List Addr) (σ : L2.St) (ρ : List Sl) (s : Sto) (F : Hp) (θ : List Addr) (H : Hp) (Dn : Ends),
  Ext F0 θ0 H0 F θ H → WOk c s F θ H → EnvOk c H0 F θ H σ ρ → PostS c E (x ρ s) H0 F0 θ0 Dn → t Dn σ H
section
variable {c : Cs} {E : XK}
def sNext : Sf := fun ρ s => .next ρ s
theorem dn_next : DenS c E tNext sNext := fun H0 F0 θ0 σ ρ s F θ H Dn x w e h => h σ F θ H x w e
def sSeq (a b : Sf) : Sf := fun ρ s => match a ρ s with
  | .next ρ s => b ρ s
  | o => o
theorem dn_seq {t u : TS} {a b : Sf} (h : DenS c E t a) (k : DenS c E u b) : DenS c E (tSeq t u) (sSeq a b) := by
  intro H0 F0 θ0 σ ρ s F θ H Dn x w e hp
  refine h H0 F0 θ0 σ ρ s F θ H _ x w e ?_
  unfold sSeq at hp
  cases z : a ρ s with
  | next ρ' s' =>
    rw [z] at hp
    exact fun σ' F' θ' H' x' w' e' => k H0 F0 θ0 σ' ρ' s' F' θ' H' Dn x' w' e' hp
  | ret d s' => rw [z] at hp; exact hp
  | brk ρ' s' => rw [z] at hp; exact hp
  | cont ρ' s' => rw [z] at hp; exact hp
  | exc k fs s' => rw [z] at hp; exact hp
  | bad => rw [z] at hp; exact hp.elim
def sBrk : Sf := fun ρ s => .brk ρ s
def sCont : Sf := fun ρ s => .cont ρ s
def sBad : Sf := fun _ _ => .bad
theorem dn_brk : DenS c E tBreak sBrk := fun H0 F0 θ0 σ ρ s F θ H Dn x w e h => h σ F θ H x w e
theorem dn_cont : DenS c E tCont sCont := fun H0 F0 θ0 σ ρ s F θ H Dn x w e h => h σ F θ H x w e
theorem dn_never : DenS c E tNever sBad := fun H0 F0 θ0 σ ρ s F θ H Dn x w e h => h
/-- a statement that begins with an expression -/
def sBind {α : Type} (e : Fn α) (k : List Sl → α → Sto → Fl) : Sf := fun ρ s => match e ρ s with
  | .ok a s => k ρ a s
  | .exc k fs s => .exc k fs s
  | .bad => .bad
theorem dn_bind {α β : Type} {rel : Rel c β α} {ta : TX β} {e : Fn α} {k : List Sl → α → Sto → Fl} {K : Ends → L2.St → β → Hp → Prop} (ha : Den c E rel ta e)
    (hk : ∀ (H0 : En) (F0 : Hp) (θ0 : List Addr) (σ : L2.St) (ρ : List Sl) (s : Sto) (F : Hp) (θ : List Addr) (H Hi : Hp) (v : β) (a : α) (Dn : Ends) (s0 : Sto) (F1 : Hp) (θ1 : List Addr), Ext F0 θ0 H0 F1 θ1 Hi → EnvOk c H0 F1 θ1 Hi σ ρ → Ext F1 θ1 Hi F θ H → WOk c s F θ H → rel.on Hi F θ H v a → PostS c E (k ρ a s) H0 F0 θ0 Dn → K Dn σ v H) :
    DenS c E (fun Dn σ H => ta σ H fun v H1 => K Dn σ v H1) (sBind e k) := by
  intro H0 F0 θ0 σ ρ s F θ H Dn x w he hp
  refine ha H0 σ ρ s F θ H _ he w ?_
  unfold sBind at hp
  cases z : e ρ s with
  | ok a s' =>
    rw [z] at hp
    exact fun v F' θ' H' x' w' r => hk H0 F0 θ0 σ ρ s' F' θ' H' H v a Dn s F θ x he x' w' r hp
  | exc k fs s' =>
    rw [z] at hp
    exact fun F' θ' H' dx x' w' r => hp F' θ' H' dx (x.trans x') w' r
  | bad => rw [z] at hp; exact hp.elim
def sAsg (i : Nat) (e : Fn D) : Sf := sBind e fun ρ d s => .next (ρ.set i (.val d)) s
theorem dn_asg {i : Nat} {t : TE} {e : Fn D} (h : DenE c E t e) : DenS c E (tAsg t (gName i)) (sAsg i e) := by
  refine dn_bind (K := fun Dn σ v H => Dn.nx (σ.set i (some v)) H) h fun H0 F0 θ0 σ ρ s F θ H Hi v d Dn s0 F1 θ1 x0 he x w r hp => ?_
  exact hp _ F θ H (x0.trans x) w ((he.ext x).setVal r)
def sAsgP (p : Pt) (e : Fn D) : Sf := sBind e fun ρ d s => match setP p ρ d with
  | some ρ => .next ρ s
  | none => .bad
theorem dn_asgP {p : Pt} {t : TE} {e : Fn D} (h : DenE c E t e) : DenS c E (tAsg t (gP c.K p)) (sAsgP p e) := by
  refine dn_bind (K := fun Dn σ v H => gP c.K p v σ H Dn.nx) h fun H0 F0 θ0 σ ρ s F θ H Hi v d Dn s0 F1 θ1 x0 he x w r hp => ?_
  cases z : setP p ρ d with
  | none => rw [z] at hp; exact hp.elim
  | some ρ' =>
    rw [z] at hp
    exact gP_ok w p σ ρ ρ' v d _ (he.ext x) r z fun σ' he' _ => hp σ' F θ H (x0.trans x) w he'
theorem own_new {H0 : En} {F1 Hi F H : Hp} {θ1 θ : List Addr} {F0 : Hp} {θ0 : List Addr} {σ : L2.St} {ρ : List Sl} {i : Nat} {v : V} {ds : List D} (x0 : Ext F0 θ0 H0 F1 θ1 Hi) (he : EnvOk c H0 F1 θ1 Hi σ ρ) (x : Ext F1 θ1 Hi F θ H) (r : (rF c).on Hi F θ H v ds) :
    EnvOk c H0 F θ H (σ.set i (some v)) (ρ.set i (.own ds)) := by
  obtain ⟨p, xs, rfl, hn, hF, ht, hH, q⟩ := r
  refine (he.ext x).setOwn ?_ hF ht hH q fun j ys hj e1 e2 => ?_
  · cases z : H0 p with
    | none => rfl
    | some o => exact absurd hn (x0.al p (by rw [z]; simp))
  · obtain ⟨l, zs, e3, _, _, _, e4, _⟩ := he.at_ j _ _ e2 e1
    cases e3
    rw [hn] at e4; cases e4
def sOwn (i : Nat) (e : Fn (List D)) : Sf := sBind e fun ρ ds s => .next (ρ.set i (.own ds)) s
theorem dn_own {i : Nat} {t : TE} {e : Fn (List D)} (h : DenF c E t e) : DenS c E (tAsg t (gName i)) (sOwn i e) := by
  refine dn_bind (K := fun Dn σ v H => Dn.nx (σ.set i (some v)) H) h fun H0 F0 θ0 σ ρ s F θ H Hi v ds Dn s0 F1 θ1 x0 he x w r hp => ?_
  exact hp _ F θ H (x0.trans x) w (own_new x0 he x r)
def sDrop (e : Fn D) : Sf := sBind e fun ρ _ s => .next ρ s
theorem dn_drop {t : TE} {e : Fn D} (h : DenE c E t e) : DenS c E (tDrop t) (sDrop e) := by
  refine dn_bind (K := fun Dn σ v H => Dn.nx σ H) h fun H0 F0 θ0 σ ρ s F θ H Hi v ds Dn s0 F1 θ1 x0 he x w r hp => ?_
  exact hp σ F θ H (x0.trans x) w (he.ext x)
def sRet (e : Fn D) : Sf := sBind e fun _ d s => .ret d s
theorem dn_ret {t : TE} {e : Fn D} (h : DenE c E t e) : DenS c E (tRet t) (sRet e) := by
  refine dn_bind (K := fun Dn σ v H => Dn.rt v H) h fun H0 F0 θ0 σ ρ s F θ H Hi v ds Dn s0 F1 θ1 x0 he x w r hp => ?_
  exact hp v F θ H (x0.trans x) w r
def sRetN : Sf := fun _ s => .ret .non s
theorem dn_retN : DenS c E tRetN sRetN := fun H0 F0 θ0 σ ρ s F θ H Dn x w e h => h .non F θ H x w r_non
/-- return xs, xs one's own list: it is frozen -/
def sRetOwn (i : Nat) : Sf := fun ρ s => match ρ[i]? with
  | some (.own ds) => .ret (.lst ds) s
  | _ => .bad
theorem dn_retOwn {i : Nat} : DenS c E (tRet (tVar i)) (sRetOwn i) := by
  intro H0 F0 θ0 σ ρ s F θ H Dn x w he hp
  unfold sRetOwn at hp
  cases e : ρ[i]? with
  | none => simp only [e] at hp; exact hp.elim
  | some y =>
    cases y with
    | none => simp only [e] at hp; exact hp.elim
    | val _ => simp only [e] at hp; exact hp.elim
    | oobj _ _ => simp only [e] at hp; exact hp.elim
    | own ds =>
      simp only [e] at hp
      obtain ⟨o, h1, l, xs, rfl, h0, hF, ht, hH, r⟩ := he.get e
      refine ⟨.ref l, h1, ?_⟩
      exact hp (.ref l) (upd F l (.lst xs)) θ H (x.freeze h0 hF) (w.freeze hH hF ht) (r_lst (H := H) hF r)
def sIf (t : Fn Bool) (a b : Sf) : Sf := sBind t fun ρ k s => if k = true then a ρ s else b ρ s
theorem dn_if {tt : TT} {t u : TS} {e : Fn Bool} {a b : Sf} (h : DenT c E tt e) (ha : DenS c E t a) (hb : DenS c E u b) : DenS c E (tIfS tt t u) (sIf e a b) := by
  refine dn_bind (K := fun Dn σ v H => if v = true then t Dn σ H else u Dn σ H) h fun H0 F0 θ0 σ ρ s F θ H Hi v k Dn s0 F1 θ1 x0 he x w r hp => ?_
  have r : v = k := r
  subst r
  cases v with
  | true => exact ha H0 F0 θ0 σ ρ s F θ H Dn (x0.trans x) w (he.ext x) hp
  | false => exact hb H0 F0 θ0 σ ρ s F θ H Dn (x0.trans x) w (he.ext x) hp
/-- a list of one's own changes -/
theorem own_upd {H0 : En} {F0 F H : Hp} {θ0 θ : List Addr} {s : Sto} {σ : L2.St} {ρ : List Sl} {i : Nat} {l : Addr} {ds es : List D} {ys : List V} (x : Ext F0 θ0 H0 F θ H) (w : WOk c s F θ H) (he : EnvOk c H0 F θ H σ ρ) (hρ : ρ[i]? = some (.own ds)) (hσ : σ[i]? = some (some (.ref l))) (r : RA c F θ ys es) :
    Ext F0 θ0 H0 F θ (upd H l (.lst ys)) ∧ WOk c s F θ (upd H l (.lst ys)) ∧ EnvOk c H0 F θ (upd H l (.lst ys)) σ (ρ.set i (.own es)) := by
  obtain ⟨l', xs, e1, h0, hF, ht, hH, q⟩ := he.at_ i _ _ hσ hρ
  cases e1
  refine ⟨⟨x.fr, x.th, fun a u h n => ?_, x.nc, x.nf, fun a n => ?_⟩, ⟨w.sub.updR hF, fun a m => ?_, w.nd, w.len, fun i a es h1 h2 => ?_⟩, ⟨?_, fun j o y h1 h2 => ?_, fun j k m zs us n h1 h2 h3 h4 => ?_⟩⟩
  · rw [upd_ne (ne_of_none h h0)]; exact x.kp a u h n
  · by_cases z : a = l
    · subst z; rw [upd_same]; simp
    · rw [upd_ne z]; exact x.al a n
  · have z : a ≠ l := fun z => ht (z ▸ m)
    rw [upd_ne z]; exact w.fc a m
  · obtain ⟨zs, h3, h4⟩ := w.cel i a es h1 h2
    have z : a ≠ l := fun z => ht (z ▸ List.mem_of_getElem? h1)
    exact ⟨zs, by rw [upd_ne z]; exact h3, h4⟩
  · rw [List.length_set]; exact he.len
  · by_cases z : i = j
    · subst z
      rw [hσ] at h1; cases h1
      rw [List.getElem?_set_self (get_lt hρ)] at h2
      cases h2
      exact ⟨l, ys, rfl, h0, hF, ht, upd_same, r⟩
    · rw [List.getElem?_set_ne z] at h2
      have q2 := he.at_ j o y h1 h2
      cases y with
      | none => trivial
      | val d => exact q2
      | own fs =>
        obtain ⟨l2, zs, e2, g0, gF, gt, gH, gr⟩ := q2
        subst e2
        have nl : l2 ≠ l := fun z2 => by
          subst z2
          exact he.apart i j l2 ds fs z hσ hρ h2 h1
        exact ⟨l2, zs, rfl, g0, gF, gt, by rw [upd_ne nl]; exact gH, gr⟩
      | oobj k fs =>
        obtain ⟨l2, dx, zs, e2, gm, g0, gF, gt, gH, gn, gr⟩ := q2
        have nl : l2 ≠ l := ne_of gH hH (by intro z; cases z)
        exact ⟨l2, dx, zs, e2, gm, g0, gF, gt, by rw [upd_ne nl]; exact gH, gn, gr⟩
  · have up : ∀ (j : Nat) (zs : List D), (ρ.set i (.own es))[j]? = some (.own zs) → ∃ zs', ρ[j]? = some (.own zs') := by
      intro j zs h
      by_cases z : i = j
      · subst z; exact ⟨ds, hρ⟩
      · rw [List.getElem?_set_ne z] at h; exact ⟨zs, h⟩
    obtain ⟨z1, g1⟩ := up j zs h2
    obtain ⟨z2, g2⟩ := up k us h3
    exact he.apart j k m z1 z2 n h1 g1 g2 h4
/-- xs.append(e), xs one's own -/
def sApp (i : Nat) (e : Fn D) : Sf := fun ρ s => match ρ[i]? with
  | some (.own ds) => match e ρ s with
    | .ok d s => if small ds.length then .next (ρ.set i (.own (ds ++ [d]))) s else .bad
    | .exc k fs s => .exc k fs s
    | .bad => .bad
  | _ => .bad
theorem dn_app {i : Nat} {t : TE} {e : Fn D} (h : DenE c E t e) : DenS c E (tDrop (tBM c.K "list" rAppend (tVar i) (tCons t tNil))) (sApp i e) := by
  intro H0 F0 θ0 σ ρ s F θ H Dn x w he hp
  unfold sApp at hp
  cases e2 : ρ[i]? with
  | none => simp only [e2] at hp; exact hp.elim
  | some y =>
    cases y with
    | none => simp only [e2] at hp; exact hp.elim
    | val _ => simp only [e2] at hp; exact hp.elim
    | oobj _ _ => simp only [e2] at hp; exact hp.elim
    | own ds =>
      simp only [e2] at hp
      obtain ⟨o, h1, l, xs, rfl, h0, hF, ht, hH, r⟩ := he.get e2
      refine ⟨.ref l, h1, .inl ⟨rfl, xs, SqL.of hH⟩, ?_⟩
      refine h H0 σ ρ s F θ H _ he w ?_
      cases z : e ρ s with
      | bad => rw [z] at hp; exact hp.elim
      | exc k fs s' => rw [z] at hp; exact fun F' θ' H' dx x' w' r => hp F' θ' H' dx (x.trans x') w' r
      | ok d s' =>
        rw [z] at hp
        dsimp only at hp
        split at hp
        · rename_i hz
          intro v F' θ' H' x' w' rv
          have hH' := x'.kp l _ hH ht
          refine ⟨l, xs, v, rfl, rfl, hH', by rw [r.length]; exact small_lt hz, ?_⟩
          obtain ⟨a1, a2, a3⟩ := own_upd (x.trans x') w' (he.ext x') e2 h1 ((RA.mono x'.fr x'.th ds r).append (RA.cons rv RA.nil))
          exact hp _ F' θ' _ a1 a2 a3
        · exact hp.elim
/-- xs.append(e), xs a cell -/
def sAppC (ea e : Fn D) : Sf := sBind ea fun ρ a s => match a with
  | .cell k => match gl s k with
    | some _ => (match e ρ s with
      | .ok d s => (match gl s k with
        | some ds => if small ds.length then .next ρ (s.set k (ds ++ [d])) else .bad
        | none => .bad)
      | .exc k fs s => .exc k fs s
      | .bad => .bad)
    | none => .bad
  | _ => .bad
theorem th_get {s : Sto} {F : Hp} {θ : List Addr} {H : Hp} (w : WOk c s F θ H) {k : Nat} {a : Addr} (h : θ[k]? = some a) : ∃ ds, s[k]? = some ds := by
  have h1 := get_lt h
  rw [w.len] at h1
  exact ⟨s[k], List.getElem?_eq_getElem h1⟩
theorem dn_appC {ta t : TE} {ea e : Fn D} (ha : DenE c E ta ea) (h : DenE c E t e) : DenS c E (tDrop (tBM c.K "list" rAppend ta (tCons t tNil))) (sAppC ea e) := by
  refine dn_bind (K := fun Dn σ x H => tyV c.K "list" x H ∧ tCons t tNil σ H fun xs H2 => rAppend x xs H2 fun _ H3 => Dn.nx σ H3) ha fun H0 F0 θ0 σ ρ s F θ H Hi v d Dn s0 F1 θ1 x0 he x w r hp => ?_
  cases d with
  | cell k =>
    obtain ⟨a, rfl, hk⟩ := r_cell_inv (c := c) (F := F) (θ := θ) r
    dsimp only at hp
    cases zg : gl s k with
    | none => rw [zg] at hp; exact hp.elim
    | some ds0 =>
    rw [zg] at hp
    obtain ⟨hs0, hl0⟩ := gl_of zg
    obtain ⟨_, hx0, q0⟩ := w.cel k a ds0 hk hs0
    obtain ⟨xs0, rfl, _⟩ := q0.lst hl0
    refine ⟨.inl ⟨rfl, xs0, SqL.of hx0⟩, ?_⟩
    refine h H0 σ ρ s F θ H _ (he.ext x) w ?_
    dsimp only at hp
    cases z : e ρ s with
    | bad => rw [z] at hp; exact hp.elim
    | exc k fs s' => rw [z] at hp; exact fun F' θ' H' dx x' w' r => hp F' θ' H' dx ((x0.trans x).trans x') w' r
    | ok d s' =>
      rw [z] at hp
      intro v F' θ' H' x' w' rv
      have hk' := x'.th.get hk
      dsimp only at hp
      cases zg2 : gl s' k with
      | none => rw [zg2] at hp; exact hp.elim
      | some ds =>
      rw [zg2] at hp
      obtain ⟨hs, hl⟩ := gl_of zg2
      obtain ⟨_, hx, q1⟩ := w'.cel k a ds hk' hs
      obtain ⟨xs, rfl, rx⟩ := q1.lst hl
      dsimp only at hp
      split at hp
      · rename_i hz
        refine ⟨a, xs, v, rfl, rfl, hx, by rw [rx.length]; exact small_lt hz, ?_⟩
        have hm : a ∈ θ' := List.mem_of_getElem? hk'
        have xc : Ext F' θ' H' F' θ' (upd H' a (.lst (xs ++ [v]))) := Ext.cellSet hm
        exact hp σ F' θ' _ (((x0.trans x).trans x').trans xc) (w'.cellSet hk' (rx.append (RA.cons rv RA.nil))) (((he.ext x).ext x').ext xc)
      · exact hp.elim
  | _ => exact hp.elim
/-- xs.pop(e), xs a cell -/
def dPopAt (ea ei : Fn D) : Fn D := fun ρ s => (ea ρ s).bind fun a s => match a with
  | .cell k => match gl s k with
    | some _ => (ei ρ s).bind fun j s => (match j with
      | .int j => (match gl s k with
        | some ds => if inB j then (match seqIndex? j ds.length with
          | some n => (match ds[n]? with
            | some d => .ok d (s.set k (ds.eraseIdx n))
            | none => .bad)
          | none => .bad)
          else .bad
        | none => .bad)
      | _ => .bad)
    | none => .bad
  | _ => .bad
theorem RA.erase {F : Hp} {θ : List Addr} : ∀ (n : Nat) {ds : List D} {vs : List V}, RA c F θ vs ds → RA c F θ (vs.eraseIdx n) (ds.eraseIdx n)
  | _, [], _, h => by rw [h.nil_inv]; simp; exact RA.nil
  | 0, d :: ds, _, h => by
    obtain ⟨v, r, rfl, q, t⟩ := h.cons_inv
    simpa using t
  | n + 1, d :: ds, _, h => by
    obtain ⟨v, r, rfl, q, t⟩ := h.cons_inv
    simpa using RA.cons q (RA.erase n t)
theorem den_popAt {ta ti : TE} {ea ei : Fn D} (ha : DenE c E ta ea) (hi : DenE c E ti ei) : DenE c E (tBM c.K "list" rPopAt ta (tCons ti tNil)) (dPopAt ea ei) := by
  refine den_bind (r2 := rV c) (K := fun σ x H Q => tyV c.K "list" x H ∧ tCons ti tNil σ H fun xs H2 => rPopAt x xs H2 Q) ha fun H0 σ ρ s F θ H Hi x a Q he hw q hp => ?_
  cases a with
  | cell k =>
    obtain ⟨p, rfl, hk⟩ := r_cell_inv (c := c) (F := F) (θ := θ) q
    dsimp only at hp
    cases zg : gl s k with
    | none => rw [zg] at hp; exact hp.elim
    | some ds0 =>
    rw [zg] at hp
    obtain ⟨hs0, hl0⟩ := gl_of zg
    obtain ⟨_, hx0, q0⟩ := hw.cel k p ds0 hk hs0
    obtain ⟨xs0, rfl, _⟩ := q0.lst hl0
    refine ⟨.inl ⟨rfl, xs0, SqL.of hx0⟩, ?_⟩
    refine hi H0 σ ρ s F θ H _ he hw ?_
    dsimp only at hp
    cases z : ei ρ s with
    | bad => rw [z] at hp; exact hp.elim
    | exc k fs s' => rw [z] at hp; exact hp
    | ok d s' =>
      rw [z] at hp
      intro v F' θ' H' x' w' rv
      cases d with
      | int j =>
        have hk' := x'.th.get hk
        dsimp only [Res.bind] at hp
        cases zg2 : gl s' k with
        | none => rw [zg2] at hp; exact hp.elim
        | some ds =>
        rw [zg2] at hp
        obtain ⟨hs, hl⟩ := gl_of zg2
        obtain ⟨_, hx, q1⟩ := w'.cel k p ds hk' hs
        obtain ⟨xs, rfl, rx⟩ := q1.lst hl
        dsimp only at hp
        split at hp
        · rename_i hb
          have hb := of_decide_eq_true hb
          split at hp
          · rename_i n hn
            split at hp
            · rename_i dd hd
              obtain ⟨y, hy, ry⟩ := rx.get' hd
              refine ⟨p, xs, j, n, y, rfl, by rw [r_int_inv (c := c) (F := F') (θ := θ') rv], hx, by omega, by omega, by rw [rx.length]; exact hn, hy, ?_⟩
              have hm : p ∈ θ' := List.mem_of_getElem? hk'
              have xc : Ext F' θ' H' F' θ' (upd H' p (.lst (xs.eraseIdx n))) := Ext.cellSet hm
              exact hp y F' θ' _ (x'.trans xc) (w'.cellSet hk' (RA.erase n rx)) ry
            · exact hp.elim
          · exact hp.elim
        · exact hp.elim
      | _ => exact hp.elim
  | _ => exact hp.elim

/-! ### two at once -/
/-- a, b = x, y -/
def sPar (i j : Nat) (ea eb : Fn D) : Sf := sBind ea fun ρ a s => match eb ρ s with
  | .ok b s => .next ((ρ.set i (.val a)).set j (.val b)) s
  | .exc k fs s => .exc k fs s
  | .bad => .bad
theorem dn_par {i j : Nat} {ta tb : TE} {ea eb : Fn D} (ha : DenE c E ta ea) (hb : DenE c E tb eb) : DenS c E (tPar i j (tCons ta (tCons tb tNil))) (sPar i j ea eb) := by
  refine dn_bind (K := fun Dn σ x H => tb σ H fun y H2 => ∃ v w, [x, y] = [v, w] ∧ Dn.nx ((σ.set i (some v)).set j (some w)) H2) ha fun H0 F0 θ0 σ ρ s F θ H Hi v a Dn s0 F1 θ1 x0 he x w r hp => ?_
  refine hb H0 σ ρ s F θ H _ (he.ext x) w ?_
  cases z : eb ρ s with
  | bad => rw [z] at hp; exact hp.elim
  | exc k fs s' => rw [z] at hp; exact fun F' θ' H' dx x' w' r => hp F' θ' H' dx ((x0.trans x).trans x') w' r
  | ok b s' =>
    rw [z] at hp
    intro u F' θ' H' x' w' ru
    exact ⟨v, u, rfl, hp _ F' θ' H' ((x0.trans x).trans x') w' ((((he.ext x).ext x').setVal (R.mono x'.fr x'.th a r)).setVal ru)⟩
/-- a, xs = x, [..] -/
def sParO (i j : Nat) (ea : Fn D) (eb : Fn (List D)) : Sf := sBind ea fun ρ a s => match eb ρ s with
  | .ok b s => .next ((ρ.set i (.val a)).set j (.own b)) s
  | .exc k fs s => .exc k fs s
  | .bad => .bad
theorem dn_parO {i j : Nat} {ta tb : TE} {ea : Fn D} {eb : Fn (List D)} (ha : DenE c E ta ea) (hb : DenF c E tb eb) : DenS c E (tPar i j (tCons ta (tCons tb tNil))) (sParO i j ea eb) := by
  refine dn_bind (K := fun Dn σ x H => tb σ H fun y H2 => ∃ v w, [x, y] = [v, w] ∧ Dn.nx ((σ.set i (some v)).set j (some w)) H2) ha fun H0 F0 θ0 σ ρ s F θ H Hi v a Dn s0 F1 θ1 x0 he x w r hp => ?_
  refine hb H0 σ ρ s F θ H _ (he.ext x) w ?_
  cases z : eb ρ s with
  | bad => rw [z] at hp; exact hp.elim
  | exc k fs s' => rw [z] at hp; exact fun F' θ' H' dx x' w' r => hp F' θ' H' dx ((x0.trans x).trans x') w' r
  | ok b s' =>
    rw [z] at hp
    intro u F' θ' H' x' w' ru
    refine ⟨v, u, rfl, hp _ F' θ' H' ((x0.trans x).trans x') w' ?_⟩
    have he2 : EnvOk c H0 F θ H (σ.set i (some v)) (ρ.set i (.val a)) := (he.ext x).setVal r
    exact own_new (x0.trans x) he2 x' ru

/-! ### for -/
theorem Ext.rebase {F0 F H0 H : Hp} {θ0 θ : List Addr} (x : Ext F0 θ0 H0 F θ H) : Ext F θ H0 F θ H where
  fr := Le.refl F
  th := Pre.refl θ
  kp := fun a o h n => x.kp a o h fun m => n (x.th.mem m)
  nc := fun a m n => absurd m n
  nf := fun a h _ => h
  al := x.al
theorem Ext.comp {F0 F H0 H F' H' : Hp} {θ0 θ θ' : List Addr} (x : Ext F0 θ0 H0 F θ H) (y : Ext F θ H0 F' θ' H') : Ext F0 θ0 H0 F' θ' H' where
  fr := x.fr.trans y.fr
  th := x.th.trans y.th
  kp := fun a o h n => y.kp a o h fun m => by
    have z := x.nc a m n
    rw [h] at z; cases z
  nc := fun a m n => by
    by_cases q : a ∈ θ
    · exact x.nc a q n
    · exact y.nc a m q
  nf := fun a h n => y.nf a (x.nf a h n) n
  al := y.al
def forL (p : Pt) (b : Sf) : List D → List Sl → Sto → Fl
  | [], ρ, s => .next ρ s
  | d :: ds, ρ, s => match setP p ρ d with
    | some ρ1 => match b ρ1 s with
      | .next ρ2 s2 => forL p b ds ρ2 s2
      | .cont ρ2 s2 => forL p b ds ρ2 s2
      | .brk ρ2 s2 => .next ρ2 s2
      | o => o
    | none => .bad
def sFor (w : Fn (List D)) (p : Pt) (b : Sf) : Sf := sBind w fun ρ ds s => forL p b ds ρ s
theorem dn_for {wi : TI} {w : Fn (List D)} {p : Pt} {tb : TS} {b : Sf} (hs : SrcS c E wi w) (hb : DenS c E tb b) : DenS c E (tFor wi (gP c.K p) tb) (sFor w p b) := by
  refine dn_bind (K := fun Dn σ J H1 => ∃ W : Nat → Nat → L2.St → Hp → Prop, (∃ m, W 0 m σ H1) ∧ ∀ i m σ H, W i m σ H →
    (J.stop i H ∧ Dn.nx σ H) ∨ (J.go i H ∧ ∃ N : L2.St → Hp → Prop, (∀ σ' H', N σ' H' → ∃ m', m' < m ∧ W (i + 1) m' σ' H') ∧ ∀ x H', J.yld i H x H' → gP c.K p x σ H' fun σ2 H2 => tb { Dn with nx := N, ct := N, bk := Dn.nx } σ2 H2)) hs fun H0 F0 θ0 σ ρ s F θ H Hi J ds Dn s0 F1 θ1 x0 he0 x w hit hp => ?_
  have hit : IterS c J ds F θ := hit
  let Inv : Nat → L2.St → Hp → Prop := fun i σ1 H1 => ∃ (F2 : Hp) (θ2 : List Addr) (s1 : Sto) (ρ1 : List Sl), Ext F0 θ0 H0 F2 θ2 H1 ∧ Le F F2 ∧ Pre θ θ2 ∧ WOk c s1 F2 θ2 H1 ∧ EnvOk c H0 F2 θ2 H1 σ1 ρ1 ∧ i ≤ ds.length ∧ PostS c E (forL p b (ds.drop i) ρ1 s1) H0 F0 θ0 Dn
  refine ⟨fun i m σ1 H1 => m = ds.length - i ∧ Inv i σ1 H1, ⟨ds.length, by simp, ⟨F, θ, s, ρ, x0.trans x, Le.refl F, Pre.refl θ, w, he0.ext x, Nat.zero_le _, by rw [List.drop_zero]; exact hp⟩⟩, ?_⟩
  rintro i m σ1 H1 ⟨rfl, F2, θ2, s1, ρ1, x1, l1, p1, w1, he1, hi, hp1⟩
  obtain ⟨hgo, hstop⟩ := hit F2 θ2 H1 l1 p1 w1.sub
  by_cases hlt : i < ds.length
  · obtain ⟨d, hd⟩ : ∃ d, ds[i]? = some d := ⟨ds[i], List.getElem?_eq_getElem hlt⟩
    obtain ⟨g1, g2⟩ := hgo i d hd
    refine .inr ⟨g1, Inv (i + 1), fun σ' H' h' => ⟨ds.length - (i + 1), by omega, rfl, h'⟩, fun y H' hy => ?_⟩
    obtain ⟨rfl, ry⟩ := g2 y H' hy
    have hdr : ds.drop i = d :: ds.drop (i + 1) := by
      rw [List.drop_eq_getElem_cons hlt]
      rw [List.getElem?_eq_getElem hlt] at hd
      rw [Option.some.inj hd]
    rw [hdr] at hp1
    unfold forL at hp1
    cases z : setP p ρ1 d with
    | none => rw [z] at hp1; exact hp1.elim
    | some ρ2 =>
      rw [z] at hp1
      dsimp only at hp1
      refine gP_ok w1 p σ1 ρ1 ρ2 y d _ he1 ry z fun σ2 he2 _ => ?_
      refine hb H0 F2 θ2 σ2 ρ2 s1 F2 θ2 H' _ x1.rebase w1 he2 ?_
      cases zb : b ρ2 s1 with
      | next ρ3 s3 =>
        rw [zb] at hp1
        exact fun σ3 F3 θ3 H3 x3 w3 he3 => ⟨F3, θ3, s3, ρ3, x1.comp x3, l1.trans x3.fr, p1.trans x3.th, w3, he3, hlt, hp1⟩
      | cont ρ3 s3 =>
        rw [zb] at hp1
        exact fun σ3 F3 θ3 H3 x3 w3 he3 => ⟨F3, θ3, s3, ρ3, x1.comp x3, l1.trans x3.fr, p1.trans x3.th, w3, he3, hlt, hp1⟩
      | brk ρ3 s3 =>
        rw [zb] at hp1
        exact fun σ3 F3 θ3 H3 x3 w3 he3 => hp1 σ3 F3 θ3 H3 (x1.comp x3) w3 he3
      | ret d s3 =>
        rw [zb] at hp1
        exact fun v F3 θ3 H3 x3 w3 r3 => hp1 v F3 θ3 H3 (x1.comp x3) w3 r3
      | exc k fs s3 =>
        rw [zb] at hp1
        exact fun F3 θ3 H3 dx x3 w3 r3 => hp1 F3 θ3 H3 dx (x1.comp x3) w3 r3
      | bad => rw [zb] at hp1; exact hp1.elim
  · refine .inl ⟨hstop i (by omega), ?_⟩
    have e0 : ds.drop i = [] := List.drop_eq_nil_of_le (by omega)
    rw [e0] at hp1
    exact hp1 σ1 F2 θ2 H1 x1 w1 he1

/-! ### a def -/
def startR (n : Nat) (ds : List D) : List Sl := ds.map Sl.val ++ List.replicate (n - ds.length) Sl.none
def fnD (n : Nat) (x : Sf) : Mf := fun ds s => match x (startR n ds) s with
  | .ret d s => .ok d s
  | .next _ s => .ok .non s
  | .exc k fs s => .exc k fs s
  | _ => .bad
theorem start_ok {N : List Str} {F : Hp} {θ : List Addr} {H : Hp} {vs : List V} {ds : List D} (r : RA c F θ vs ds) : EnvOk c ⟨H, 0⟩ F θ H (L2.start N vs) (startR N.length ds) := by
  have hl := r.length
  refine ⟨?_, fun i o x h1 h2 => ?_, fun i j l xs ys n h1 h2 h3 => ?_⟩
  · unfold L2.start startR; simp [hl]
  · unfold L2.start at h1
    unfold startR at h2
    by_cases hi : i < vs.length
    · rw [List.getElem?_append_left (by simpa using hi), List.getElem?_map] at h1
      rw [List.getElem?_append_left (by simpa [← hl] using hi), List.getElem?_map] at h2
      cases e1 : vs[i]? with
      | none => rw [e1] at h1; cases h1
      | some v =>
        cases e2 : ds[i]? with
        | none => rw [e2] at h2; cases h2
        | some d =>
          rw [e1] at h1; rw [e2] at h2
          cases h1; cases h2
          exact ⟨v, rfl, r.get e1 e2⟩
    · rw [List.getElem?_append_right (by simp [← hl]; omega), List.getElem?_replicate] at h2
      split at h2
      · cases h2; trivial
      · cases h2
  · unfold startR at h2
    by_cases hi : i < ds.length
    · rw [List.getElem?_append_left (by simpa using hi), List.getElem?_map] at h2
      cases e2 : ds[i]? with
      | none => rw [e2] at h2; cases h2
      | some d => rw [e2] at h2; cases h2
    · rw [List.getElem?_append_right (by simp; omega), List.getElem?_replicate] at h2
      split at h2 <;> cases h2
/-- the body's reading, from the body's function -/
theorem body_ok {N : List Str} {n : Nat} {t : TS} {x : Sf} {vs : List V} {H : Hp} {Q : VK} {E : XK} (ht : DenS c E t x) (h : spF c (fnD N.length x) n vs H Q E) : t { nx := fun _ H' => Q .non H', rt := Q } (L2.start N vs) H := by
  obtain ⟨_, F, θ, s, ds, w, r, hp⟩ := h
  refine ht ⟨H, 0⟩ F θ (L2.start N vs) (startR N.length ds) s F θ H _ (Ext.refl _ _ _) w (start_ok r) ?_
  unfold fnD at hp
  cases z : x (startR N.length ds) s with
  | next ρ s' => rw [z] at hp; exact fun σ' F' θ' H' x' w' _ => hp .non F' θ' H' x' w' (r_non (c := c) (F := F') (θ := θ'))
  | ret d s' => rw [z] at hp; exact fun v F' θ' H' x' w' r' => hp v F' θ' H' x' w' r'
  | exc k fs s' => rw [z] at hp; exact fun F' θ' H' dx x' w' r' => hp F' θ' H' dx x' w' r'
  | brk ρ s' => rw [z] at hp; exact hp.elim
  | cont ρ s' => rw [z] at hp; exact hp.elim
  | bad => rw [z] at hp; exact hp.elim
end
end MX


set_option Elab.async false
set_option linter.all false
set_option maxRecDepth 100000
namespace MX
open PySem PySem.W PySem.Calls PyProof.Rows PySem.SeqAt
/-! sorting tuples of which the first is empty -/
section
variable {prog : Program} {w : World} {A : Around} {E : Value → Shared → Prop} {s : Shared}
theorem call_ltT {Q : Value → Shared → Prop} {l b : Addr} {items items2 : Array Value} {e r : Nat → Bool} (hl : s.heap.IsTuple l items) (hb : s.heap.IsTuple b items2)
    (he : ∀ j (h1 : j < items.size) (h2 : j < items2.size), EqAt A.in1 s items[j] items2[j] (e j)) (hr : ∀ j (h1 : j < items.size) (h2 : j < items2.size), e j = false → RcLt A.in1 s items[j] items2[j] (r j))
    (h : Q (.bool (firstLt e r (decide (items.size < items2.size)) (List.range (min items.size items2.size)))) s) : wpAny (model prog w) A (call (.builtin "tuple.__lt__") [.ref l, .ref b]) Q E s := by
  obtain ⟨⟨c1, d1, k1, t1⟩, o1, hc, n, hd⟩ := id hl
  obtain ⟨⟨c2, d2, k2, t2⟩, o2, hc2, n2, hd2⟩ := id hb
  simp only at hc hd hc2 hd2
  subst hc hd hc2 hd2
  exact call_meets PySem.F.slot_tuple_lt ⟨_, o1, rfl⟩ PySem.F.entry_tuple_lt (PySem.F.args_tuple_lt_2 _ _) (tuple_ltAt l b items items2 n n2 d1 d2 t1 t2 e r) ⟨o1, o2, he, hr, h⟩
theorem oneLt_T {xs ys : List PyData} {a b : Value} {as bs : List Addr} {Q : Bool → Shared → Prop} (ra : Reads s.heap a (.tuple xs) as) (rb : Reads s.heap b (.tuple ys) bs) (hal : alikeAll xs ys = true)
    (hu : A.units + min (PyData.tuple xs).depth (PyData.tuple ys).depth < cLine) (hq : Q (dataLt (.tuple xs) (.tuple ys)) s) : wpAny (model prog w) A (oneLt' true a b) Q E s := by
  cases ra with
  | @tuple l o vs n _ _ h1 h2 h3 h4 =>
    cases rb with
    | @tuple l' o' vs' n' _ _ k1 k2 k3 k4 =>
      have n1 : vs.size = xs.length := by simpa using SeqAt.ReadsAll.length _ _ _ h4
      have n2 : vs'.size = ys.length := by simpa using SeqAt.ReadsAll.length _ _ _ k4
      rw [dataLt_tuple, ← firstLt_toks xs ys hal, ← n1, ← n2] at hq
      rw [oneLt'_eq]
      simp only [if_true]
      refine wpAny_bind (wpAny_cRoomFor (room_here hu) ?_)
      refine wpAny_bind (wpAny_callSpecialIfBound?_slot (T := "tuple") ⟨_, h1, h2⟩ PySem.F.slot_tuple_lt (call_ltT (e := pairEq xs ys) (r := fun j => dataLt (xs.getD j .none) (ys.getD j .none)) ⟨_, h1, h2, _, h3⟩ ⟨_, k1, k2, _, k3⟩ (fun j j1 j2 => ?_) (fun j j1 j2 hj => ?_) ?_))
      · have q := eqAt_alikeAll xs ys A.in1 s vs.toList vs'.toList _ _ h4 k4 hal (room_in hu) j (by simpa using j1) (by simpa using j2)
        simpa using q
      · have q := rcLt_alikeAll xs ys A.in1 s vs.toList vs'.toList _ _ h4 k4 hal (room_in hu) j (by simpa using j1) (by simpa using j2) hj
        simpa using q
      · exact wpAny_truthy_bool hq
end
section
variable {M : Model} {A : Around} {E : Value → Shared → Prop} {s : Shared}
theorem first_T {v : Value} {xs : List PyData} {as : List Addr} {Q : Option Value → Shared → Prop} (r : Reads s.heap v (.tuple xs) as) (h : ∀ o, (xs = [] → o = none) → Q o s) : wpAny M A (firstOfTuple' v) Q E s := by
  rw [kas_first_eq]
  cases r with
  | @tuple a o vs n _ _ ho hc hd hr =>
    refine wpAny_bind (Looks.here (show Looks M s.heap (typeOf (.ref a)) o.cls from (Looks.ld ho).andThen .now) ?_)
    rw [hc, if_neg (by first | decide | simp)]
    refine wpAny_bind (listItems_at ho hd (wpAny_pure (h _ fun e => ?_)))
    subst e
    have n1 : vs.size = 0 := by simpa using SeqAt.ReadsAll.length _ _ _ hr
    exact Array.getElem?_eq_none (by omega)
theorem firsts_T : ∀ {vs : List Value} {ds : List PyData} {Q : List (Option Value) → Shared → Prop}, EachIs (fun v d => ∃ as, Reads s.heap v d as) vs ds → (∀ d ∈ ds, ∃ xs, d = .tuple xs) → (∀ fs, Q fs s) → wpAny M A (vs.mapM firstOfTuple') Q E s
  | _, _, Q, .nil, _, h => by rw [List.mapM_nil]; exact wpAny_pure (h _)
  | _, _, Q, .cons (b := d) ⟨as, r⟩ t, ht, h => by
    obtain ⟨xs, rfl⟩ := ht d List.mem_cons_self
    rw [List.mapM_cons]
    exact wpAny_bind (first_T r fun o _ => wpAny_bind (firsts_T t (fun d hd => ht d (List.mem_cons_of_mem _ hd)) fun fs => wpAny_pure (h _)))
theorem kind_T {v0 : Value} {vs : List Value} {ds : List PyData} {as0 : List Addr} {Q : SortKind → Shared → Prop} (r0 : Reads s.heap v0 (.tuple []) as0) (e : EachIs (fun v d => ∃ as, Reads s.heap v d as) vs ds) (ht : ∀ d ∈ ds, ∃ xs, d = .tuple xs) (h : Q oneType' s) :
    wpAny M A (keyKind' (v0 :: vs).toArray) Q E s := by
  have lk : ∀ v ∈ v0 :: vs, Looks M s.heap (typeOf v) (.type "tuple") := fun v hv => by
    rcases List.mem_cons.mp hv with rfl | hv
    · exact looks_reads r0
    · obtain ⟨d, hd, as, r⟩ := e.left v hv
      obtain ⟨xs, rfl⟩ := ht d hd
      exact looks_reads r
  rw [keyKind'_eq, List.mapM_toArray, map_eq_pure_bind, List.mapM_cons]
  refine wpAny_bind (wpAny_bind (wpAny_bind (first_T r0 fun o ho => wpAny_bind (firsts_T e ht fun fs => wpAny_pure (wpAny_pure ?_)))))
  have := ho rfl
  subst this
  rw [if_neg (by simp), if_neg (by simp)]
  rw [oneTypeOnly'_eq, List.mapM_toArray, map_eq_pure_bind]
  refine wpAny_bind (wpAny_bind (wpAny_bind (kas_mapM (r := Value.type "tuple") _ (fun v hv Q' hq => (lk v hv).here hq) (wpAny_pure ?_))))
  have hall : ((List.map (fun _ => Value.type "tuple") (v0 :: vs)).toArray.all fun x => x == Value.type "tuple") = true := by
    simp only [List.all_toArray, List.all_map, List.all_eq_true]
    intro _ _
    rfl
  have h0 : (List.map (fun _ => Value.type "tuple") (v0 :: vs)).toArray[0]? = some (Value.type "tuple") := by simp
  rw [h0]
  simp only [hall, if_true]
  exact wpAny_pure (wpAny_pure h)
end
/-- tuples, the first of them empty -/
def FirstNil (ds : List PyData) : Prop := (∃ r, ds = .tuple [] :: r) ∧ ∀ d ∈ ds, ∃ xs, d = .tuple xs
theorem sortsAtT {prog : Program} {w : World} {A : Around} {s : Shared} {vs : List Value} {ds : List PyData} (e : EachIs (fun v d => ∃ as, Reads s.heap v d as) vs ds) (hal : AllAlike ds) (hk : FirstNil ds) (hu : ∀ d, d ∈ ds → A.units + d.depth < cLine) : SortsAt prog w A s (dataKind s.heap ds) vs := by
  refine ⟨fun v hv => ?_, oneType', ?_, fun h2 E Q hq => ?_⟩
  · obtain ⟨d, hd, as, r⟩ := e.left v hv
    exact ⟨_, dataKind_some hal hd r⟩
  · intro E x y a b Q ha hb hq
    obtain ⟨d, as, hd, ra, rfl⟩ := dataKind_inv ha
    obtain ⟨d', as', hd', rb, rfl⟩ := dataKind_inv hb
    obtain ⟨xs, rfl⟩ := hk.2 d hd
    obtain ⟨ys, rfl⟩ := hk.2 d' hd'
    rw [keyLt'_oneType]
    refine oneLt_T ra rb (by simpa [alike] using hal _ hd _ hd') ?_ hq
    have := hu _ hd
    have m := Nat.min_le_left (PyData.tuple xs).depth (PyData.tuple ys).depth
    omega
  · obtain ⟨⟨r, rfl⟩, ht⟩ := hk
    cases e with
    | cons h t =>
      obtain ⟨as, r0⟩ := h
      exact kind_T r0 t (fun d hd => ht d (List.mem_cons_of_mem _ hd)) hq
end MX


set_option Elab.async false
set_option linter.all false
set_option maxRecDepth 100000
namespace MX
open PySem PySem.W PySem.Calls PyProof.Rows

section
variable {prog : Program} {w : World} {A : Around} {E : Value → Shared → Prop} {s : Shared} {β : Type} {Rr : Value → β → Prop} {enc : β → PyData} {vs : List Value} {bs : List β}
/-- sorted(xs), xs a list or a tuple -/
theorem sorted_seq {l : Addr} {Q : Value → Shared → Prop} {T : String} {o : Obj} {items : Array Value} {n : Nat} (hT : T = "list" ∨ T = "tuple") (ho : s.heap.get? l = some o) (hc : o.cls = .type T) (hd : o.data = .seq items n)
    (hv : items.toList = vs) (e : EachIs Rr vs bs) (er : EachIs (fun v b => ∃ as, Reads s.heap v (enc b) as) vs bs) (hal : AllAlike (bs.map enc)) (hk : Sortable (bs.map enc) ∨ FirstNil (bs.map enc)) (hL : bs.length ≤ sizeLine)
    (hu : ∀ b, b ∈ bs → A.units + 2 + (enc b).depth < cLine)
    (h : ∀ (h1 h' : Heap) (c : Nat) (out : List Value), (∀ b o, s.heap.get? b = some o → h1.get? b = some o) → (∀ b o, h1.get? b = some o → h'.get? b = some o) → h'.get? h1.objs.size = some (seqObj "list" out.toArray c) → out.length = bs.length → EachIs Rr out (bs.mergeSort (dataLe false enc)) → Q (.ref h1.objs.size) { s with heap := h' }) :
    wpAny (model prog w) A (call (.builtin "sorted") [.ref l] []) Q E s := by
  have hL' : items.size ≤ sizeLine := by
    have q : items.toList.length = bs.length := by rw [hv]; exact e.length
    have q2 : items.size = bs.length := by simpa using q
    rw [q2]; exact hL
  refine call_function_entry_kw kind_sorted plain_sorted entry_sorted (args_sorted1 _) ?_
  unfold Builtin.«sorted»
  refine wpAny_bind (m := checkCount "sorted" 1 1 _) (wpAny_pure ?_)
  refine wpAny_bind (wpAny_collect_seq l hT ho hc hd (fun h1 k1 => ?_) hL')
  rw [hv]
  have hLv : vs.length ≤ sizeLine := by rw [e.length]; exact hL
  refine wpAny_bind (wpAny_newList ?_ hLv)
  have hat : (h1.push (seqObj "list" vs.toArray 0)).get? h1.objs.size = some (seqObj "list" vs.toArray 0) := Heap.get?_push_size _ rfl
  refine wpAny_bind (wpAny_holding (wpAny_call_entry_kw slot_list_sort ⟨_, hat, rfl⟩ entry_list_sort ?body (args_list_sort _)))
  case body =>
    have keep1 : ∀ b o, s.heap.get? b = some o → (h1.push (seqObj "list" vs.toArray 0)).get? b = some o := fun b o q => Heap.get?_push_of_some _ (k1 b o q)
    have hne : ∀ b o, s.heap.get? b = some o → b ≠ h1.objs.size := fun b o q => Nat.ne_of_lt (Heap.lt_size (k1 b o q))
    have keep2 : ∀ b o, s.heap.get? b = some o → (sortingHeap (h1.push (seqObj "list" vs.toArray 0)) h1.objs.size vs).get? b = some o := fun b o q => sortingHeap_old (hne b o q) (keep1 b o q)
    have er' : EachIs (fun v b => ∃ as, Reads (sortingHeap (h1.push (seqObj "list" vs.toArray 0)) h1.objs.size vs) v (enc b) as) vs bs := er.mono fun _ _ ⟨as, r⟩ => ⟨as, PyProof.Rows.Reads.keeps (fun b o q => keep2 b o q) r⟩
    have S : SortsAt prog w A.in1.in1 { s with heap := sortingHeap (h1.push (seqObj "list" vs.toArray 0)) h1.objs.size vs } (dataKind (sortingHeap (h1.push (seqObj "list" vs.toArray 0)) h1.objs.size vs) (bs.map enc)) vs :=
      hk.elim (fun hk => SortsAt.data (s := { s with heap := sortingHeap (h1.push (seqObj "list" vs.toArray 0)) h1.objs.size vs }) (each_map (R := fun v d => ∃ as, Reads (sortingHeap (h1.push (seqObj "list" vs.toArray 0)) h1.objs.size vs) v d as) enc er') hal hk (bound_map (A := A.in1.in1) hu)) fun hk => sortsAtT (s := { s with heap := sortingHeap (h1.push (seqObj "list" vs.toArray 0)) h1.objs.size vs }) (each_map (R := fun v d => ∃ as, Reads (sortingHeap (h1.push (seqObj "list" vs.toArray 0)) h1.objs.size vs) v d as) enc er') hal hk (bound_map (A := A.in1.in1) hu)
    show wpAny (model prog w) A.in1.in1 (Builtin.«list.sort» ⟨[.ref h1.objs.size], []⟩) _ _ _
    have hbs : h1.objs.size < (h1.push (seqObj "list" vs.toArray 0)).objs.size := by rw [size_push']; exact Nat.lt_succ_self _
    refine wpAny_mono (list_sort_vals (s := { s with heap := h1.push (seqObj "list" vs.toArray 0) }) (P := fun f s' => f = .done (.ret .none) ∧ Q (.ref h1.objs.size) s') hat S hLv ⟨rfl, ?_⟩) (fun f s' hf => ?_) fun _ _ e => e
    · obtain ⟨c, hc'⟩ := sortedHeap_at (n := 0) (h := h1.push (seqObj "list" vs.toArray 0)) (a := h1.objs.size) (vs := vs) (out := (sortVals (dataKind (sortingHeap (h1.push (seqObj "list" vs.toArray 0)) h1.objs.size vs) (bs.map enc)) false vs vs).toArray) hat
      refine h h1 _ c _ k1 (fun b o q => ?_) hc' (by rw [sortVals_length false rfl]; exact e.length) (sortVals_data false e er' hal)
      have hb : b < h1.objs.size := Heap.lt_size q
      exact (sortedHeap_old (Nat.ne_of_lt hb) (by rw [size_push']; exact Nat.lt_succ_of_lt hb)).trans (Heap.get?_push_of_some _ q)
    · obtain ⟨rfl, hq⟩ := hf
      exact ⟨_, rfl, wpAny_pure ⟨_, rfl, hq⟩⟩
end
end MX
namespace MX
open PySem PySem.Spec PyProof.Rows L2
def rSortD (K : PySem.W.Frag) : List V → Hp → VK → Prop := fun vs H Q => ∃ a xs ps, vs = [V.ref a] ∧ (SqL K H a xs ∨ SqT K H a xs) ∧ DpAll K H xs ps ∧ PySem.W.AllAlike ps ∧ (PySem.W.Sortable ps ∨ FirstNil ps) ∧ (∀ p, p ∈ ps → p.depth ≤ 60) ∧
  ∀ q, H q = none → Q (.ref q) (upd H q (.lst (((xs.zip ps).mergeSort (PySem.W.dataLe false (fun b => b.2))).map (fun b => b.1))))
theorem dpAll_len {K : PySem.W.Frag} {H : Hp} : ∀ {ps : List PyData} {xs : List V}, DpAll K H xs ps → xs.length = ps.length
  | [], _, h => by cases h; rfl
  | _ :: _, _, h => by cases h with | cons _ t => simp [dpAll_len t]
theorem zip_snd {α β : Type} : ∀ {xs : List α} {ps : List β}, xs.length = ps.length → (xs.zip ps).map (fun b => b.2) = ps
  | [], [], _ => rfl
  | x :: xs, p :: ps, h => by simp at h; simp [zip_snd h]
theorem zip_fst {α β : Type} : ∀ {xs : List α} {ps : List β}, xs.length = ps.length → (xs.zip ps).map (fun b => b.1) = xs
  | [], [], _ => rfl
  | x :: xs, p :: ps, h => by simp at h; simp [zip_fst h]
theorem each_zip {X : Cx} {pins : List (Addr × Obj)} {σ : L2.St} {H : Hp} {s : Shared} (I : L2.Inv X pins σ H s) : ∀ {ps : List PyData} {xs : List V} {us : List Value}, DpAll X.K H xs ps → Vals xs us →
    PySem.W.EachIs (fun u (b : V × PyData) => RelV b.1 u) us (xs.zip ps) ∧ PySem.W.EachIs (fun u (b : V × PyData) => ∃ as, Reads s.heap u b.2 as) us (xs.zip ps)
  | [], _, _, h, r => by cases h; cases r; exact ⟨.nil, .nil⟩
  | p :: ps, _, _, h, r => by
    cases h with
    | cons h1 h2 =>
      cases r with
      | cons r1 r2 =>
        obtain ⟨a, b⟩ := each_zip I h2 r2
        exact ⟨.cons r1 a, .cons (Dp.reads I p _ _ h1 r1) b⟩
theorem vals_each : ∀ {us : List Value} {bs : List (V × PyData)}, PySem.W.EachIs (fun u (b : V × PyData) => RelV b.1 u) us bs → Vals (bs.map fun b => b.1) us
  | _, _, .nil => .nil
  | _, _, .cons h t => .cons h (vals_each t)
theorem cr_sortedD {X : Cx} (hu : X.A.units + 64 < cLine) : CallR X (.builtin "sorted") (rSortD X.K) := by
  intro pins s σ H vs us Q I r h
  obtain ⟨a, xs, ps, rfl, hs, hd, hal, hk, hdep, q⟩ := h
  obtain ⟨u, rfl, ru⟩ := vals1 r
  cases ru
  have hl := dpAll_len hd
  have go : ∀ (T : String) (o : Obj) (its : List Value) (n : Nat), (T = "list" ∨ T = "tuple") → s.heap.get? a = some o → o.cls = .type T → o.data = .seq its.toArray n → Vals xs its → xs.length ≤ sizeLine →
      wpAny (model X.prog X.w) X.A (call (.builtin "sorted") [.ref a] []) (EP X pins σ Q) X.xe s := by
    intro T o its n hT ho hc hdt rv hz
    obtain ⟨e1, e2⟩ := each_zip I hd rv
    refine sorted_seq (enc := fun b : V × PyData => b.2) (vs := its) (bs := xs.zip ps) hT ho hc hdt (by simp) e1 e2 (by rw [zip_snd hl]; exact hal) (by rw [zip_snd hl]; exact hk) (by rw [List.length_zip, ← hl, Nat.min_self]; exact hz) (fun b hb => ?_) fun h1 h' c out k1 k2 hat hlen he => ?_
    · have := hdep b.2 (by rw [← zip_snd hl]; exact List.mem_map_of_mem hb)
      omega
    · have I1 : L2.Inv X pins σ H { s with heap := h1 } := I.kept (t' := s.toks) k1
      have I2 : L2.Inv X pins σ (upd H h1.objs.size (.lst (((xs.zip ps).mergeSort (PySem.W.dataLe false (fun b => b.2))).map (fun b => b.1)))) { s with heap := h' } :=
        I1.laid (t' := s.toks) k2 (Nat.le_refl _) ⟨by rw [List.length_map, List.length_mergeSort, List.length_zip, ← hl, Nat.min_self]; exact hz, out, c, vals_each he, hat⟩
      exact ⟨.ref h1.objs.size, _, I2, rfl, q _ (I1.hok.fresh (Nat.le_refl _))⟩
  rcases hs with hs | hs
  · obtain ⟨its, rv, ⟨o, n, ho, hc, _, hdt⟩, hz⟩ := I.list hs
    exact go "list" o its n (.inl rfl) ho hc hdt rv hz
  · obtain ⟨its, rv, ⟨o, ho, hc, n, hdt⟩, hz⟩ := I.tuple hs
    exact go "tuple" o its n (.inr rfl) ho hc hdt rv hz

/-! sorted over D -/
def sortOk (ps : List PyData) : Bool := (ps.all fun d => ps.all fun e => PySem.W.alike d e) && ((ps.all fun d => match d with
  | .tuple (_ :: _) => true
  | _ => false) || (ps.all fun d => match d with
  | .none => false
  | .tuple _ => false
  | _ => true)) && ps.all fun d => decide (d.depth ≤ 60)
/-- sorting by putting in, for the kernel's sake -/
def ins {α : Type} (le : α → α → Bool) (a : α) : List α → List α
  | [] => [a]
  | b :: r => if le a b = true then a :: b :: r else b :: ins le a r
def isort {α : Type} (le : α → α → Bool) : List α → List α
  | [] => []
  | a :: l => ins le a (isort le l)
theorem ins_at {α : Type} {le : α → α → Bool} {a : α} : ∀ {l1 l2 : List α}, (∀ b ∈ l1, le a b = false) → (∀ b, l2.head? = some b → le a b = true) → ins le a (l1 ++ l2) = l1 ++ a :: l2
  | [], [], _, _ => rfl
  | [], b :: r, _, h => by
    show (if le a b = true then _ else _) = _
    rw [if_pos (h b rfl)]; rfl
  | b :: l1, l2, h, h2 => by
    have ih := ins_at (a := a) (l1 := l1) (l2 := l2) (fun c m => h c (List.mem_cons_of_mem _ m)) h2
    show (if le a b = true then _ else b :: ins le a (l1 ++ l2)) = _
    rw [if_neg (by rw [h b List.mem_cons_self]; simp), ih]; rfl
theorem isort_eq {α : Type} {le : α → α → Bool} (tr : ∀ a b c, le a b = true → le b c = true → le a c = true) (to : ∀ a b, (le a b || le b a) = true) : ∀ l : List α, l.mergeSort le = isort le l
  | [] => by simp [isort]
  | a :: l => by
    obtain ⟨l1, l2, h1, h2, h3⟩ := List.mergeSort_cons tr to a l
    have hs := List.pairwise_mergeSort tr to (a :: l)
    rw [h1] at hs
    have hd : ∀ b, l2.head? = some b → le a b = true := fun b hb => (List.pairwise_cons.mp (List.pairwise_append.mp hs).2.1).1 b (List.mem_of_head? hb)
    show (a :: l).mergeSort le = ins le a (isort le l)
    rw [← isort_eq tr to l, h2, ins_at (fun b hb => by have := h3 b hb; simpa using this) hd, h1]
/-- .. or tuples of which the first is empty -/
def sortOkZ (ps : List PyData) : Bool := sortOk ps || ((ps.all fun d => ps.all fun e => PySem.W.alike d e) && (match ps with
  | .tuple [] :: _ => true
  | _ => false) && (ps.all fun d => match d with
  | .tuple _ => true
  | _ => false) && ps.all fun d => decide (d.depth ≤ 60))
theorem sortOkZ_l {ps : List PyData} (h : sortOk ps = true) : sortOkZ ps = true := by unfold sortOkZ; rw [h]; rfl
def sortM (ds : List D) : Option (List D) := match toPs ds with
  | some ps => if sortOkZ ps then some (((ds.zip ps).mergeSort (PySem.W.dataLe false (fun b => b.2))).map (fun b => b.1)) else none
  | none => none
def sortD (ds : List D) : Option (List D) := match toPs ds with
  | some ps => if sortOkZ ps then some ((isort (PySem.W.dataLe false (fun b => b.2)) (ds.zip ps)).map (fun b => b.1)) else none
  | none => none
theorem sortD_M (ds : List D) : sortD ds = sortM ds := by
  unfold sortD sortM
  have T : PySem.W.TotalLe (PySem.W.dataLe false fun b : D × PyData => b.2) := PySem.W.sortLe_total (PyProof.Rows.listOrd PyProof.Rows.itemOrd) false fun b : D × PyData => PySem.W.keyToks b.2
  cases toPs ds with
  | none => rfl
  | some ps =>
    dsimp only
    rw [isort_eq T.trans (fun a b => by rw [Bool.or_eq_true]; exact T.total a b)]
theorem sortOk_of {ps : List PyData} (h : sortOk ps = true) : PySem.W.AllAlike ps ∧ PySem.W.Sortable ps ∧ ∀ p, p ∈ ps → p.depth ≤ 60 := by
  unfold sortOk at h
  rw [Bool.and_eq_true, Bool.and_eq_true, Bool.or_eq_true] at h
  obtain ⟨⟨h1, h2⟩, h3⟩ := h
  refine ⟨fun d hd e he => List.all_eq_true.mp (List.all_eq_true.mp h1 d hd) e he, ?_, fun p hp => of_decide_eq_true (List.all_eq_true.mp h3 p hp)⟩
  rcases h2 with h2 | h2
  · refine .inl fun d hd => ?_
    have := List.all_eq_true.mp h2 d hd
    split at this
    · exact ⟨_, _, rfl⟩
    · cases this
  · refine .inr fun d hd => ?_
    have := List.all_eq_true.mp h2 d hd
    split at this
    · cases this
    · cases this
    · rename_i n1 n2
      exact ⟨fun e => n1 e, fun xs e => n2 xs e⟩
theorem sortOkZ_of {ps : List PyData} (h : sortOkZ ps = true) : PySem.W.AllAlike ps ∧ (PySem.W.Sortable ps ∨ FirstNil ps) ∧ ∀ p, p ∈ ps → p.depth ≤ 60 := by
  unfold sortOkZ at h
  rw [Bool.or_eq_true] at h
  rcases h with h | h
  · obtain ⟨h1, h2, h3⟩ := sortOk_of h
    exact ⟨h1, .inl h2, h3⟩
  · rw [Bool.and_eq_true, Bool.and_eq_true, Bool.and_eq_true] at h
    obtain ⟨⟨⟨h1, h2⟩, h3⟩, h4⟩ := h
    refine ⟨fun d hd e he => List.all_eq_true.mp (List.all_eq_true.mp h1 d hd) e he, .inr ⟨?_, fun d hd => ?_⟩, fun p hp => of_decide_eq_true (List.all_eq_true.mp h4 p hp)⟩
    · split at h2
      · exact ⟨_, rfl⟩
      · cases h2
    · have := List.all_eq_true.mp h3 d hd
      split at this
      · exact ⟨_, rfl⟩
      · cases this
theorem toPs_len : ∀ {ds : List D} {ps : List PyData}, toPs ds = some ps → ds.length = ps.length
  | [], ps, h => by unfold toPs at h; cases h; rfl
  | d :: ds, ps, h => by
    unfold toPs at h
    cases z : toP0 d with
    | none => rw [z] at h; cases h
    | some p =>
      rw [z] at h
      cases z2 : toPs ds with
      | none => rw [z2] at h; cases h
      | some ps' => rw [z2] at h; cases h; simp [toPs_len z2]
theorem ra_sort {c : Cs} {F : Hp} {θ : List Addr} {xs : List V} {ds : List D} {ps : List PyData} (r : RA c F θ xs ds) (hl : ds.length = ps.length) :
    RA c F θ (((xs.zip ps).mergeSort (PySem.W.dataLe false (fun b => b.2))).map (fun b => b.1)) (((ds.zip ps).mergeSort (PySem.W.dataLe false (fun b => b.2))).map (fun b => b.1)) := by
  have hx := r.length
  -- triples
  have e1 : (xs.zip (ds.zip ps)).map (fun t => (t.1, t.2.2)) = xs.zip ps := by
    clear r
    induction xs generalizing ds ps with
    | nil => rfl
    | cons x xs ih =>
      cases ds with
      | nil => simp at hx
      | cons d ds =>
        cases ps with
        | nil => simp at hl
        | cons p ps => simp at hx hl ⊢; exact ih hl hx
  have e2 : (xs.zip (ds.zip ps)).map (fun t => t.2) = ds.zip ps := zip_snd (by rw [List.length_zip, hx, ← hl, Nat.min_self])
  have s1 := List.map_mergeSort (r := PySem.W.dataLe false (fun t : V × D × PyData => t.2.2)) (s := PySem.W.dataLe false (fun b : V × PyData => b.2)) (f := fun t : V × D × PyData => (t.1, t.2.2)) (l := xs.zip (ds.zip ps)) (fun a _ b _ => rfl)
  have s2 := List.map_mergeSort (r := PySem.W.dataLe false (fun t : V × D × PyData => t.2.2)) (s := PySem.W.dataLe false (fun b : D × PyData => b.2)) (f := fun t : V × D × PyData => t.2) (l := xs.zip (ds.zip ps)) (fun a _ b _ => rfl)
  rw [e1] at s1
  rw [e2] at s2
  rw [← s1, ← s2, List.map_map, List.map_map]
  have key : ∀ (l : List (V × D × PyData)), (∀ t ∈ l, R c F θ t.1 t.2.1) → RA c F θ (l.map ((fun b => b.1) ∘ fun t : V × D × PyData => (t.1, t.2.2))) (l.map ((fun b => b.1) ∘ fun t : V × D × PyData => t.2)) := by
    intro l
    induction l with
    | nil => intro _; exact RA.nil
    | cons t l ih => intro h; exact RA.cons (h t List.mem_cons_self) (ih fun u hu => h u (List.mem_cons_of_mem _ hu))
  refine key _ fun t ht => ?_
  have ht2 := List.mem_mergeSort.mp ht
  obtain ⟨i, hi⟩ := List.mem_iff_getElem?.mp ht2
  rw [List.getElem?_zip_eq_some] at hi
  obtain ⟨g1, g2⟩ := hi
  rw [List.getElem?_zip_eq_some] at g2
  exact r.get g1 g2.1
section
variable {c : Cs} {E : XK}
def dSortF (e : Fn D) : Fn (List D) := fun ρ s => (e ρ s).bind fun d s => match seqD s d with
  | some ds => Res.ofO (sortD ds) s
  | none => .bad
theorem den_sort {t : TE} {e : Fn D} (h : DenE c E t e) : DenF c E (tCB (rSortD c.K) (tCons t tNil)) (dSortF e) := by
  refine den_bind (r2 := rF c) (K := fun σ x H Q => rSortD c.K [x] H Q) h fun H0 σ ρ s F θ H Hi x a Q he hw q hp => ?_
  cases z : seqD s a with
  | none => rw [z] at hp; exact hp.elim
  | some ds =>
    rw [z] at hp
    dsimp only at hp
    cases z2 : sortD ds with
    | none => rw [z2] at hp; exact hp.elim
    | some es =>
      rw [z2] at hp
      rw [sortD_M] at z2; unfold sortM at z2
      cases z3 : toPs ds with
      | none => rw [z3] at z2; cases z2
      | some ps =>
        rw [z3] at z2
        dsimp only at z2
        split at z2
        · rename_i ok
          cases z2
          obtain ⟨p, xs, rfl, hs, r⟩ := seq_of hw q z
          obtain ⟨k1, k2, k3⟩ := sortOkZ_of ok
          exact ⟨p, xs, ps, rfl, hs, dps hw.sub ds xs ps r z3, k1, k2, k3, fun q hn => hp _ F θ _ (Ext.newH hn) (hw.newH hn) (fresh_rf hw hn (ra_sort r (toPs_len z3)))⟩
        · cases z2
/-- sorted(xs), xs one's own -/
theorem den_sortL {t : TE} {e : Fn (List D)} (h : DenL c E t e) : DenF c E (tCB (rSortD c.K) (tCons t tNil)) (fun ρ s => (e ρ s).bind fun ds s => Res.ofO (sortD ds) s) := by
  refine den_bind (r2 := rF c) (K := fun σ x H Q => rSortD c.K [x] H Q) h fun H0 σ ρ s F θ H Hi x ds Q he hw q hp => ?_
  cases z2 : sortD ds with
  | none => rw [z2] at hp; exact hp.elim
  | some es =>
    rw [z2] at hp
    rw [sortD_M] at z2; unfold sortM at z2
    cases z3 : toPs ds with
    | none => rw [z3] at z2; cases z2
    | some ps =>
      rw [z3] at z2
      dsimp only at z2
      split at z2
      · rename_i ok
        cases z2
        obtain ⟨p, xs, rfl, hs, ht, r⟩ := q
        obtain ⟨k1, k2, k3⟩ := sortOkZ_of ok
        exact ⟨p, xs, ps, rfl, .inl hs, dps hw.sub ds xs ps r z3, k1, k2, k3, fun q hn => hp _ F θ _ (Ext.newH hn) (hw.newH hn) (fresh_rf hw hn (ra_sort r (toPs_len z3)))⟩
      · cases z2

/-! list(..), tuple(..), len(..) -/
def dListF (e : Fn D) : Fn (List D) := fun ρ s => (e ρ s).bind fun d s => Res.ofO (seqD s d) s
theorem den_list {t : TE} {e : Fn D} (h : DenE c E t e) : DenF c E (tCB (rListOf c.K) (tCons t tNil)) (dListF e) := by
  refine den_bind (r2 := rF c) (K := fun σ x H Q => rListOf c.K [x] H Q) h fun H0 σ ρ s F θ H Hi x a Q he hw q hp => ?_
  cases z : seqD s a with
  | none => rw [z] at hp; exact hp.elim
  | some ds =>
    rw [z] at hp
    obtain ⟨p, xs, rfl, hs, r⟩ := seq_of hw q z
    exact ⟨p, xs, rfl, hs, fun l hn => hp _ F θ _ (Ext.newH hn) (hw.newH hn) (fresh_rf hw hn r)⟩
theorem den_listL {t : TE} {e : Fn (List D)} (h : DenL c E t e) : DenF c E (tCB (rListOf c.K) (tCons t tNil)) e := by
  intro H0 σ ρ s F θ H Q he hw hp
  refine h H0 σ ρ s F θ H _ he hw ?_
  cases q : e ρ s with
  | bad => rw [q] at hp; exact hp
  | exc k fs s' => rw [q] at hp; exact hp
  | ok ds s' =>
    rw [q] at hp
    rintro v F' θ' H' x w ⟨a, xs, rfl, hs, ht, r⟩
    exact ⟨a, xs, rfl, .inl hs, fun l hn => hp _ F' θ' _ (x.trans (Ext.newH hn)) (w.newH hn) ((rF c).anti H H' x.al _ _ _ _ _ (fresh_rf w hn r))⟩
def dTupL (e : Fn (List D)) : Fn D := fun ρ s => (e ρ s).bind fun ds s => .ok (.tup ds) s
theorem den_tupL {t : TE} {e : Fn (List D)} (h : DenL c E t e) : DenE c E (tCB (rTupZ c.K) (tCons t tNil)) (dTupL e) := by
  refine den_bind (r2 := rV c) (K := fun σ x H Q => rTupZ c.K [x] H Q) h fun H0 σ ρ s F θ H Hi x ds Q he hw q hp => ?_
  obtain ⟨a, xs, rfl, hs, ht, r⟩ := q
  exact ⟨a, xs, rfl, .inl ⟨hs, fun l o hn od => hp _ _ θ _ (Ext.new hn (hw.free hn).1 (hw.free hn).2) (hw.new hn) (r_tup (H := H) (hw.free hn).1 od r)⟩⟩
def dLenL (e : Fn (List D)) : Fn D := fun ρ s => (e ρ s).bind fun ds s => .ok (.int ds.length) s
theorem den_lenL {t : TE} {e : Fn (List D)} (h : DenL c E t e) : DenE c E (tCB (rLen2 c.K) (tCons t tNil)) (dLenL e) := by
  refine den_bind (r2 := rV c) (K := fun σ x H Q => rLen2 c.K [x] H Q) h fun H0 σ ρ s F θ H Hi x ds Q he hw q hp => ?_
  obtain ⟨a, xs, rfl, hs, ht, r⟩ := q
  exact .inr ⟨a, xs, rfl, .inl hs, by rw [r.length]; exact hp _ F θ H (Ext.refl _ _ _) hw (r_int (c := c) (F := F) (θ := θ))⟩
/-- list(range(..)), tuple(range(..)) -/
def rgP (c : Cs) : Rel c (Int × Int) (Int × Int) := ⟨fun _ _ _ _ a b => a = b, fun _ _ _ _ _ _ _ _ h => h⟩
def dRg1 (e : Fn D) : Fn (Int × Int) := fun ρ s => (e ρ s).bind fun d s => match d with
  | .int n => .ok (0, n) s
  | _ => .bad
def dRg2 (e g : Fn D) : Fn (Int × Int) := fun ρ s => (e ρ s).bind fun d s => (g ρ s).bind fun f s => match d, f with
  | .int m, .int n => .ok (m, n) s
  | _, _ => .bad
abbrev DenR (c : Cs) (E : XK) (t : L2.St → Hp → (Int → Int → Hp → Prop) → Prop) (e : Fn (Int × Int)) : Prop := Den c E (rgP c) (fun σ H Q => t σ H fun a b H1 => Q (a, b) H1) e
theorem den_rg1 {t : TE} {e : Fn D} (h : DenE c E t e) : DenR c E (tRg1 t) (dRg1 e) := by
  refine den_bind (r2 := rgP c) (K := fun σ x H Q => ∃ n, x = V.int n ∧ Q (0, n) H) h fun H0 σ ρ s F θ H Hi x a Q he hw q hp => ?_
  cases a with
  | int n => exact ⟨n, r_int_inv (c := c) (F := F) (θ := θ) q, hp _ F θ H (Ext.refl _ _ _) hw rfl⟩
  | _ => exact hp.elim
theorem den_rg2 {t u : TE} {e g : Fn D} (h : DenE c E t e) (k : DenE c E u g) : DenR c E (tRg2 t u) (dRg2 e g) := by
  refine den_bind (r2 := rgP c) (K := fun σ x H Q => u σ H fun y H2 => ∃ i j, x = V.int i ∧ y = V.int j ∧ Q (i, j) H2) h fun H0 σ ρ s F θ H Hi x a Q he hw q hp => ?_
  refine k H0 σ ρ s F θ H _ he hw ?_
  cases z : g ρ s with
  | bad => rw [z] at hp; exact hp
  | exc k fs s' => rw [z] at hp; exact hp
  | ok b s' =>
    rw [z] at hp
    intro y F' θ' H' x' w' ry
    dsimp only [Res.bind] at hp
    split at hp
    · exact ⟨_, _, r_int_inv (c := c) (F := F) (θ := θ) q, r_int_inv (c := c) (F := F') (θ := θ') ry, hp _ F' θ' H' x' w' rfl⟩
    · exact hp.elim
def rgOk (a b : Int) : Bool := inB a && inB b
def dListRg (e : Fn (Int × Int)) : Fn (List D) := fun ρ s => (e ρ s).bind fun p s => if rgOk p.1 p.2 then .ok (rangeD p.1 (p.2 - p.1).toNat) s else .bad
def dTupRg (e : Fn (Int × Int)) : Fn D := fun ρ s => (e ρ s).bind fun p s => if rgOk p.1 p.2 then .ok (.tup (rangeD p.1 (p.2 - p.1).toNat)) s else .bad
theorem rgOk_of {a b : Int} (h : rgOk a b = true) : RgOk a b := by
  unfold rgOk at h
  rw [Bool.and_eq_true] at h
  have h1 := of_decide_eq_true h.1
  have h2 := of_decide_eq_true h.2
  exact ⟨by omega, by omega, by omega, by omega, by omega⟩
theorem ra_rg {F : Hp} {θ : List Addr} {a : Int} {n : Nat} : RA c F θ ((List.range n).map fun i => V.int (a + (i : Nat))) (rangeD a n) := by
  unfold rangeD
  have e1 : ((List.range n).map fun i => V.int (a + (i : Nat))) = ((List.range n).map fun (i : Nat) => a + (i : Int)).map V.int := by rw [List.map_map]; rfl
  have e2 : ((List.range n).map fun (i : Nat) => D.int (a + (i : Int))) = ((List.range n).map fun (i : Nat) => a + (i : Int)).map D.int := by rw [List.map_map]; rfl
  rw [e1, e2]
  exact RA.of_ints
theorem den_listRg {t : L2.St → Hp → (Int → Int → Hp → Prop) → Prop} {e : Fn (Int × Int)} (h : DenR c E t e) : DenF c E (tLstRg t) (dListRg e) := by
  refine den_bind (r2 := rF c) (K := fun σ p H1 Q => RgOk p.1 p.2 ∧ ∀ q, H1 q = none → Q (V.ref q) (upd H1 q (.lst (rgV p.1 p.2)))) h fun H0 σ ρ s F θ H Hi x a Q he hw q hp => ?_
  have q : x = a := q
  subst q
  split at hp
  · rename_i z
    exact ⟨rgOk_of z, fun l hn => hp _ F θ _ (Ext.newH hn) (hw.newH hn) (fresh_rf hw hn ra_rg)⟩
  · exact hp.elim
theorem den_tupRg {t : L2.St → Hp → (Int → Int → Hp → Prop) → Prop} {e : Fn (Int × Int)} (h : DenR c E t e) : DenE c E (tTupRgZ t) (dTupRg e) := by
  refine den_bind (r2 := rV c) (K := fun σ p H1 Q => RgOk p.1 p.2 ∧ newZ (rgV p.1 p.2) H1 Q) h fun H0 σ ρ s F θ H Hi x a Q he hw q hp => ?_
  have q : x = a := q
  subst q
  split at hp
  · rename_i z
    exact ⟨rgOk_of z, fun l o hn od => hp _ _ θ _ (Ext.new hn (hw.free hn).1 (hw.free hn).2) (hw.new hn) (r_tup (H := H) (hw.free hn).1 od ra_rg)⟩
  · exact hp.elim
/-- xs + ys, a new list: xs, ys lists or cells -/
def dCatF (ea eb : Fn D) : Fn (List D) := fun ρ s => (ea ρ s).bind fun a s => (eb ρ s).bind fun b s => match a, b with
  | .cell k, .lst ys => match gl s k with
    | some xs => if small (xs.length + ys.length) then .ok (xs ++ ys) s else .bad
    | none => .bad
  | .lst xs, .lst ys => if small (xs.length + ys.length) then .ok (xs ++ ys) s else .bad
  | _, _ => .bad
theorem den_catF {ta tb : TE} {ea eb : Fn D} (ha : DenE c E ta ea) (hb : DenE c E tb eb) : DenF c E (tOp (rAddG c.K) ta tb) (dCatF ea eb) := by
  refine den_bind (r2 := rF c) (K := fun σ x H Q => tb σ H fun y H2 => rAddG c.K x y H2 Q) ha fun H0 σ ρ s F θ H Hi x a Q he hw q hp => ?_
  refine hb H0 σ ρ s F θ H _ he hw ?_
  cases z : eb ρ s with
  | bad => rw [z] at hp; exact hp
  | exc k fs s' => rw [z] at hp; exact hp
  | ok b s' =>
    rw [z] at hp
    intro y F' θ' H' x' w' ry
    dsimp only [Res.bind] at hp
    have q' : R c F' θ' x a := R.mono x'.fr x'.th a q
    have ry : R c F' θ' y b := ry
    cases a with
    | cell k =>
      cases b with
      | lst ys =>
        dsimp only at hp
        split at hp
        · rename_i xs hs
          split at hp
          · rename_i hz
            obtain ⟨p, rfl, hk⟩ := r_cell_inv q'
            obtain ⟨hs, hl⟩ := gl_of hs
            obtain ⟨_, hv, q1⟩ := w'.cel k p xs hk hs
            obtain ⟨vs, rfl, rx⟩ := q1.lst hl
            obtain ⟨p2, us, rfl, h2, r2⟩ := r_lst_inv ry
            refine .inr (.inr (.inl ⟨p, p2, vs, us, rfl, rfl, hv, w'.sub _ _ h2, by rw [rx.length, r2.length]; exact small_of hz, fun l hn => ?_⟩))
            exact hp _ F' θ' _ (x'.trans (Ext.newH hn)) (w'.newH hn) ((rF c).anti H H' x'.al _ _ _ _ _ (fresh_rf w' hn (rx.append r2)))
          · exact hp.elim
        · exact hp.elim
      | _ => exact hp.elim
    | lst xs =>
      cases b with
      | lst ys =>
        dsimp only at hp
        split at hp
        · rename_i hz
          obtain ⟨p, vs, rfl, hv, rx⟩ := r_lst_inv q'
          obtain ⟨p2, us, rfl, h2, r2⟩ := r_lst_inv ry
          refine .inr (.inr (.inl ⟨p, p2, vs, us, rfl, rfl, w'.sub _ _ hv, w'.sub _ _ h2, by rw [rx.length, r2.length]; exact small_of hz, fun l hn => ?_⟩))
          exact hp _ F' θ' _ (x'.trans (Ext.newH hn)) (w'.newH hn) ((rF c).anti H H' x'.al _ _ _ _ _ (fresh_rf w' hn (rx.append r2)))
        · exact hp.elim
      | _ => exact hp.elim
    | _ => exact hp.elim
/-- t.index(x), t a tuple of flat items -/
def firstIx (a : D) : List D → Nat → Option Nat
  | [], _ => none
  | d :: ds, n => if eqF d a then some n else firstIx a ds (n + 1)
theorem firstIx_spec {a : D} : ∀ {ds : List D} {n j : Nat}, firstIx a ds n = some j → n ≤ j ∧ (∃ d, ds[j - n]? = some d ∧ eqF d a = true) ∧ ∀ m d, m < j - n → ds[m]? = some d → eqF d a = false
  | [], n, j, h => by cases h
  | d :: ds, n, j, h => by
    unfold firstIx at h
    split at h
    · rename_i z
      cases h
      exact ⟨Nat.le_refl _, ⟨d, by simp, z⟩, fun m d' hm => by omega⟩
    · rename_i z
      obtain ⟨h1, ⟨d', h2, h3⟩, h4⟩ := firstIx_spec h
      have e : j - n = (j - (n + 1)) + 1 := by omega
      refine ⟨by omega, ⟨d', by rw [e]; simpa using h2, h3⟩, fun m d2 hm hd => ?_⟩
      cases m with
      | zero => simp at hd; subst hd; simpa using z
      | succ m => exact h4 m d2 (by omega) (by simpa using hd)
def dTupIx (ea ei : Fn D) : Fn D := fun ρ s => (ea ρ s).bind fun a s => match a with
  | .tup ds => (ei ρ s).bind fun x s => if flatD x && ds.all flatD then match firstIx x ds 0 with
    | some j => .ok (.int (j : Nat)) s
    | none => .bad
    else .bad
  | _ => .bad
theorem den_tupIx {te ti : TE} {ea ei : Fn D} (ha : DenE c E te ea) (hi : DenE c E ti ei) : DenE c E (tupI te ti) (dTupIx ea ei) := by
  refine den_bind (r2 := rV c) (K := fun σ x H1 Q => ∃ (a : Addr) (o : Obj) (xs : List V), x = V.ref a ∧ H1 a = some (.frz o (.tup xs)) ∧ o.dict = none ∧ tCons ti tNil σ H1 fun ys H2 => ∃ y, ys = [y] ∧ H2 a = some (.frz o (.tup xs)) ∧ flatV y = true ∧ xs.all flatV = true ∧
    ∃ (j : Nat) (z : V), xs[j]? = some z ∧ eqV z y = true ∧ (∀ m z', m < j → xs[m]? = some z' → eqV z' y = false) ∧ Q (V.int j) H2) ha fun H0 σ ρ s F θ H Hi x a Q he hw q hp => ?_
  cases a with
  | tup ds =>
    obtain ⟨p, xs, rfl, hk, r⟩ := r_tup_inv (c := c) (F := F) (θ := θ) q
    obtain ⟨o, ho, od⟩ := hk
    · refine ⟨p, o, xs, rfl, hw.sub _ _ ho, od, ?_⟩
      refine hi H0 σ ρ s F θ H _ he hw ?_
      cases z : ei ρ s with
      | bad => rw [z] at hp; exact hp
      | exc k fs s' => rw [z] at hp; exact hp
      | ok i s' =>
        rw [z] at hp
        intro y F' θ' H' x' w' ry
        have ry : R c F' θ' y i := ry
        have r' := RA.mono x'.fr x'.th ds r
        dsimp only [Res.bind] at hp
        split at hp
        · rename_i hf
          rw [Bool.and_eq_true] at hf
          split at hp
          · rename_i j hj
            obtain ⟨_, ⟨d, h2, h3⟩, h4⟩ := firstIx_spec hj
            obtain ⟨v, hv, rv⟩ := r'.get' h2
            refine ⟨y, rfl, w'.sub _ _ (x'.fr _ _ ho), flat_v ry hf.1, all_flat r' hf.2, j, v, hv, ?_, fun m z' hm hz => ?_, hp _ F' θ' H' x' w' (r_int (c := c) (F := F') (θ := θ'))⟩
            · rw [eq_flat ry rv hf.1 (List.all_eq_true.mp hf.2 _ (List.mem_of_getElem? h2))]; exact h3
            · have hl := r'.length
              have hm' : m < ds.length := by have := get_lt hz; omega
              have hd := List.getElem?_eq_getElem hm'
              rw [eq_flat ry (r'.get hz hd) hf.1 (List.all_eq_true.mp hf.2 _ (List.mem_of_getElem? hd))]
              exact h4 m _ (by simpa using hm) hd
          · exact hp.elim
        · exact hp.elim
  | _ => exact hp.elim
end
end MX


set_option Elab.async false
set_option linter.all false
set_option maxRecDepth 100000
namespace MX
open PySem PySem.Spec PyProof.Rows L2
section
variable {c : Cs} {E : XK}

/-! ### instances that stand still -/
theorem zip_lookup {names : List Str} {fs : List (Str × V)} {j : Nat} {f : Str} {v : V} : ∀ {fs : List (Str × V)} {names : List Str} {j : Nat}, fs.map (·.1) = names → names.Nodup → names[j]? = some f → (fs.map (·.2))[j]? = some v → fs.lookup f = some v
  | [], _, _, h, _, h2, _ => by rw [← h] at h2; simp at h2
  | (g, x) :: r, _, 0, h, _, h2, h3 => by
    subst h
    simp at h2 h3
    subst h2; subst h3
    simp [List.lookup]
  | (g, x) :: r, _, j + 1, h, nd, h2, h3 => by
    subst h
    simp only [List.map_cons, List.nodup_cons] at nd
    simp only [List.map_cons, List.getElem?_cons_succ] at h2 h3
    have ne : f ≠ g := fun e => nd.1 (by rw [← e]; exact List.mem_of_getElem? h2)
    have hb : (f == g) = false := beq_eq_false_iff_ne.mpr ne
    rw [List.lookup, hb]
    exact zip_lookup (names := []) (fs := []) (j := 0) rfl nd.2 h2 h3
def dFld (k j : Nat) (e : Fn D) : Fn D := fun ρ s => (e ρ s).bind fun d s => match d with
  | .obj k' ds => if k' = k then Res.ofO ds[j]? s else .bad
  | _ => .bad
theorem den_fld {k j : Nat} {f : Str} {t : TE} {e : Fn D} (cl : Cls c.K (c.cl k)) (na : NoAttr c.K (c.cl k) f) (nd : (c.fn k).Nodup) (hj : (c.fn k)[j]? = some f) (h : DenE c E t e) : DenE c E (tFld c.K t f) (dFld k j e) := by
  refine den_bind (r2 := rV c) (K := fun σ x H1 Q => ∃ a C dx fs v, x = V.ref a ∧ H1 a = some (.ins C dx fs) ∧ Cls c.K C ∧ NoAttr c.K C f ∧ fs.lookup f = some v ∧ Q v H1) h fun H0 σ ρ s F θ H Hi x a Q he hw q hp => ?_
  cases a with
  | obj k' ds =>
    dsimp only at hp
    split at hp
    · rename_i ek
      subst ek
      cases z : ds[j]? with
      | none => rw [z] at hp; exact hp.elim
      | some d =>
        rw [z] at hp
        obtain ⟨p, dx, fs, rfl, hH, hn, r⟩ := r_obj_inv (c := c) (F := F) (θ := θ) q
        obtain ⟨v, hv, rv⟩ := r.get' z
        exact ⟨p, _, dx, fs, v, rfl, hw.sub _ _ hH, cl, na, zip_lookup (names := []) (fs := []) (j := 0) hn nd hj hv, hp v F θ H (Ext.refl _ _ _) hw rv⟩
    · exact hp.elim
  | _ => exact hp.elim
/-- a property, a method without arguments by the object alone -/
def dProp (k : Nat) (m : Mf) (e : Fn D) : Fn D := fun ρ s => (e ρ s).bind fun d s => match d with
  | .obj k' ds => if k' = k then m [.obj k' ds] s else .bad
  | _ => .bad
theorem den_prop {k : Nat} {m : Mf} {t : TE} {e : Fn D} (h : DenE c E t e) : DenE c E (tProp (c.cl k) (spF c m 1) [] E t) (dProp k m e) := by
  refine den_bind (r2 := rV c) (K := fun σ x H1 Q => ∃ a dx fs, x = V.ref a ∧ H1 a = some (.ins (c.cl k) dx fs) ∧ spF c m 1 (V.ref a :: []) H1 Q E) h fun H0 σ ρ s F θ H Hi x a Q he hw q hp => ?_
  cases a with
  | obj k' ds =>
    dsimp only at hp
    split at hp
    · rename_i ek
      subst ek
      have q : R c F θ x (.obj k' ds) := q
      obtain ⟨p, dx, fs, e1, hH, hn, r⟩ := r_obj_inv q
      subst e1
      exact ⟨p, dx, fs, rfl, hw.sub _ _ hH, rfl, F, θ, s, _, hw, RA.cons q RA.nil, hp⟩
    · exact hp.elim
  | _ => exact hp.elim
/-- o.m(e, ..) -/
def dMeth (k : Nat) (m : Mf) (n : Nat) (e : Fn D) (ea : Fn (List D)) : Fn D := fun ρ s => (e ρ s).bind fun d s => match d with
  | .obj k' ds => if k' = k then (ea ρ s).bind fun as s => if as.length + 1 = n then m (.obj k' ds :: as) s else .bad else .bad
  | _ => .bad
theorem no_lookup {m : Str} : ∀ {fs : List (Str × V)}, m ∉ fs.map (·.1) → fs.lookup m = none
  | [], _ => rfl
  | (g, x) :: r, h => by
    simp only [List.map_cons, List.mem_cons, not_or] at h
    have hb : (m == g) = false := beq_eq_false_iff_ne.mpr h.1
    rw [List.lookup, hb]
    exact no_lookup h.2
theorem den_meth {k n : Nat} {m : Mf} {nm : Str} {t : TE} {ta : TA} {e : Fn D} {ea : Fn (List D)} (hno : nm ∉ c.fn k) (h : DenE c E t e) (ha : DenA c E ta ea) : DenE c E (tMeth (c.cl k) nm (spF c m n) [] E t ta) (dMeth k m n e ea) := by
  refine den_bind (r2 := rV c) (K := fun σ x H1 Q => ∃ a dx fs, x = V.ref a ∧ H1 a = some (.ins (c.cl k) dx fs) ∧ fs.lookup nm = none ∧ ta σ H1 fun vs H2 => spF c m n (x :: (vs ++ [])) H2 Q E) h fun H0 σ ρ s F θ H Hi x a Q he hw q hp => ?_
  cases a with
  | obj k' ds =>
    dsimp only at hp
    split at hp
    · rename_i ek
      subst ek
      have q : R c F θ x (.obj k' ds) := q
      obtain ⟨p, dx, fs, e1, hH, hn, r⟩ := r_obj_inv q
      refine ⟨p, dx, fs, e1, hw.sub _ _ hH, no_lookup (by rw [hn]; exact hno), ?_⟩
      refine ha H0 σ ρ s F θ H _ he hw ?_
      cases z : ea ρ s with
      | bad => rw [z] at hp; exact hp
      | exc k fs s' => rw [z] at hp; exact hp
      | ok as s' =>
        rw [z] at hp
        intro vs F' θ' H' x' w' ra
        have ra : RA c F' θ' vs as := ra
        dsimp only [Res.bind] at hp
        split at hp
        · rename_i hl
          have q' : R c F' θ' x (.obj k' ds) := R.mono x'.fr x'.th _ q
          exact ⟨by simp [ra.length, hl], F', θ', s', .obj k' ds :: as, w', by rw [List.append_nil]; exact RA.cons q' ra, hp.shift x'⟩
        · exact hp.elim
    · exact hp.elim
  | _ => exact hp.elim

/-! ### instances that are made -/
/-- __init__: the fields that it leaves -/
def spI (c : Cs) (k : Nat) (m : List D → Sto → Res (List D)) (n : Nat) : Sp := fun vs H Q E => vs.length = n ∧ ∃ x dx as H1 F θ s ds, vs = V.ref x :: as ∧ H = upd (upd H1 dx (.own x)) x (.ins (c.cl k) dx []) ∧ H1 x = none ∧ H1 dx = none ∧ dx ≠ x ∧ WOk c s F θ H1 ∧ RA c F θ as ds ∧
  match m ds s with
  | .ok fs s' => ∀ F' θ' H' dy fv, Ext F θ H1 F' θ' H' → WOk c s' F' θ' H' → F' x = none → x ∉ θ' → H' x = some (.ins (c.cl k) dy fv) → fv.map (·.1) = c.fn k → RA c F' θ' (fv.map (·.2)) fs → Q .non H'
  | .exc j fs s' => ∀ F' θ' H' dx, Ext F θ H1 F' θ' H' → WOk c s' F' θ' H' → XRep c F' θ' dx j fs → E (.ref (c.xc j)) dx H'
  | .bad => False
def dMake (k : Nat) (m : List D → Sto → Res (List D)) (n : Nat) (ea : Fn (List D)) : Fn D := fun ρ s => (ea ρ s).bind fun as s => if as.length + 1 = n then (m as s).bind fun fs s => .ok (.obj k fs) s else .bad
theorem den_make {k n : Nat} {m : List D → Sto → Res (List D)} {ta : TA} {ea : Fn (List D)} (ha : DenA c E ta ea) : DenE c E (tMake (c.cl k) (spI c k m n) [] E ta) (dMake k m n ea) := by
  refine den_bind (r2 := rV c) (K := fun σ vs H1 Q => ∀ x dx, H1 x = none → H1 dx = none → dx ≠ x → spI c k m n (V.ref x :: (vs ++ [])) (upd (upd H1 dx (.own x)) x (.ins (c.cl k) dx [])) (fun v H2 => v = .non ∧ Q (V.ref x) H2) E) ha fun H0 σ ρ s F θ H Hi vs as Q he hw q hp => ?_
  intro x dx nx nd ne
  have q : RA c F θ vs as := q
  split at hp
  · rename_i hl
    refine ⟨by simp [q.length, hl], x, dx, vs, H, F, θ, s, as, by rw [List.append_nil], rfl, nx, nd, ne, hw, q, ?_⟩
    cases z : m as s with
    | bad => rw [z] at hp; exact hp
    | exc k fs s' => rw [z] at hp; exact hp
    | ok fs s' =>
      rw [z] at hp
      intro F' θ' H' dy fv x' w' nF nt hH hn r
      refine ⟨rfl, hp (.ref x) (upd F' x (.ins (c.cl k) dy fv)) θ' H' (x'.freeze nx nF) (w'.freeze hH nF nt) ?_⟩
      show R c _ θ' (.ref x) (.obj k fs)
      unfold R
      exact ⟨x, dy, fv, rfl, upd_same, hn, RA.mono (Le.new nF) (Pre.refl θ') fs r⟩
  · exact hp.elim
def startO (n k : Nat) (ds : List D) : List Sl := .oobj k [] :: (ds.map Sl.val ++ List.replicate (n - 1 - ds.length) Sl.none)
def initD (n k : Nat) (names : List Str) (x : Sf) : List D → Sto → Res (List D) := fun ds s => match x (startO n k ds) s with
  | .next ρ s' => match (ρ[0]? : Option Sl) with
    | some (Sl.oobj k' fs) => if k' = k ∧ fs.map (·.1) = names then .ok (fs.map (·.2)) s' else .bad
    | _ => .bad
  | .exc j fs s' => .exc j fs s'
  | _ => .bad
def putD (f : Str) (d : D) : List (Str × D) → List (Str × D)
  | [] => [(f, d)]
  | (g, x) :: r => if g = f then (g, d) :: r else (g, x) :: putD f d r
theorem put_both {F : Hp} {θ : List Addr} {f : Str} {v : V} {d : D} (h : R c F θ v d) : ∀ {fs : List (Str × V)} {gs : List (Str × D)}, fs.map (·.1) = gs.map (·.1) → RA c F θ (fs.map (·.2)) (gs.map (·.2)) →
    (putF f v fs).map (·.1) = (putD f d gs).map (·.1) ∧ RA c F θ ((putF f v fs).map (·.2)) ((putD f d gs).map (·.2))
  | [], [], _, _ => ⟨rfl, RA.cons h RA.nil⟩
  | (g, x) :: r, (g', y) :: r', e, t => by
    simp only [List.map_cons, List.cons.injEq] at e
    obtain ⟨e1, e2⟩ := e
    subst e1
    obtain ⟨v', w', ev, h1, h2⟩ := t.cons_inv
    simp only [List.map_cons, List.cons.injEq] at ev
    obtain ⟨rfl, rfl⟩ := ev
    unfold putF putD
    by_cases z : g = f
    · rw [if_pos z, if_pos z]
      exact ⟨by simp [e2], RA.cons h h2⟩
    · rw [if_neg z, if_neg z]
      obtain ⟨a, b⟩ := put_both h e2 h2
      exact ⟨by simp [a], RA.cons h1 b⟩
  | [], _ :: _, e, _ => by simp at e
  | _ :: _, [], e, _ => by simp at e
def isO : Sl → Bool
  | .oobj _ _ => true
  | _ => false
/-- self.f = e, in __init__ -/
def sFldO (i : Nat) (f : Str) (e : Fn D) : Sf := sBind e fun ρ d s => match ρ[i]? with
  | some (.oobj k fs) => if fs.length < 900 ∧ ((ρ.set i .none).any isO) = false then .next (ρ.set i (.oobj k (putD f d fs))) s else .bad
  | _ => .bad
theorem dn_fldO {i : Nat} {f : Str} {t : TE} {e : Fn D} (cl : ∀ k, Cls c.K (c.cl k)) (na : ∀ k, NoAttr c.K (c.cl k) f) (h : DenE c E t e) : DenS c E (sFld c.K (tVar i) t f) (sFldO i f e) := by
  refine dn_bind (K := fun Dn σ y H1 => tVar i σ H1 fun x H2 => ∃ a C dx fs, x = V.ref a ∧ H2 a = some (.ins C dx fs) ∧ Cls c.K C ∧ NoAttr c.K C f ∧ fs.length < 1000 ∧ Dn.nx σ (upd H2 a (.ins C dx (putF f y fs)))) h fun H0 F0 θ0 σ ρ s F θ H Hi v d Dn s0 F1 θ1 x0 he0 x w r hp => ?_
  have he := he0.ext x
  have x1 := x0.trans x
  cases e2 : ρ[i]? with
  | none => rw [e2] at hp; exact hp.elim
  | some y =>
    cases y with
    | none => rw [e2] at hp; exact hp.elim
    | val _ => rw [e2] at hp; exact hp.elim
    | own _ => rw [e2] at hp; exact hp.elim
    | oobj k gs =>
      rw [e2] at hp
      dsimp only at hp
      split at hp
      · rename_i hlen
        obtain ⟨o, h1, a, dx, fs, rfl, hme, h0, hF, ht, hH, hn, q⟩ := he.get e2
        have hl : fs.length = gs.length := by have := congrArg List.length hn; simpa using this
        refine ⟨.ref a, h1, a, _, dx, fs, rfl, hH, cl k, na k, by omega, ?_⟩
        have r' : R c F θ v d := r
        obtain ⟨p1, p2⟩ := put_both (f := f) r' hn q
        refine hp σ F θ _ ⟨x1.fr, x1.th, fun b u h n => ?_, x1.nc, x1.nf, fun b n => ?_⟩ ⟨w.sub.updR hF, fun b m => ?_, w.nd, w.len, fun j b es g1 g2 => ?_⟩ ⟨?_, fun j o y g1 g2 => ?_, fun j m l zs us n g1 g2 g3 g4 => ?_⟩
        · rw [upd_ne (ne_of_none h h0)]; exact x1.kp b u h n
        · by_cases z : b = a
          · subst z; rw [upd_same]; simp
          · rw [upd_ne z]; exact x1.al b n
        · have z : b ≠ a := fun z => ht (z ▸ m)
          rw [upd_ne z]; exact w.fc b m
        · obtain ⟨zs, h3, h4⟩ := w.cel j b es g1 g2
          have z : b ≠ a := fun z => ht (z ▸ List.mem_of_getElem? g1)
          exact ⟨zs, by rw [upd_ne z]; exact h3, h4⟩
        · rw [List.length_set]; exact he.len
        · by_cases z : i = j
          · subst z
            rw [h1] at g1; cases g1
            rw [List.getElem?_set_self (get_lt e2)] at g2
            cases g2
            exact ⟨a, dx, _, rfl, hme, h0, hF, ht, upd_same, p1, p2⟩
          · rw [List.getElem?_set_ne z] at g2
            have q2 := he.at_ j o y g1 g2
            cases y with
            | none => trivial
            | val d => exact q2
            | own es =>
              obtain ⟨l2, zs, e3, k0, kF, kt, kH, kr⟩ := q2
              have nl : l2 ≠ a := ne_of kH hH (by intro z; cases z)
              exact ⟨l2, zs, e3, k0, kF, kt, by rw [upd_ne nl]; exact kH, kr⟩
            | oobj k2 es =>
              obtain ⟨l2, dx2, zs, e3, km, k0, kF, kt, kH, kn, kr⟩ := q2
              by_cases nl : l2 = a
              · have z2 : ((ρ.set i Sl.none).any isO) = true := List.any_eq_true.mpr ⟨.oobj k2 es, List.mem_of_getElem? (by rw [List.getElem?_set_ne z]; exact g2), rfl⟩
                rw [hlen.2] at z2; cases z2
              · exact ⟨l2, dx2, zs, e3, km, k0, kF, kt, by rw [upd_ne nl]; exact kH, kn, kr⟩
        · have up : ∀ (j : Nat) (zs : List D), (ρ.set i (.oobj k (putD f d gs)))[j]? = some (.own zs) → ρ[j]? = some (.own zs) := by
            intro j zs h
            by_cases z : i = j
            · subst z
              rw [List.getElem?_set_self (get_lt e2)] at h
              cases h
            · rw [List.getElem?_set_ne z] at h; exact h
          exact he.apart j m l zs us n g1 (up j zs g2) (up m us g3) g4
      · exact hp.elim
theorem init_ok {N : List Str} {k n : Nat} {names : List Str} {t : TS} {x : Sf} {vs : List V} {H : Hp} {Q : VK} (hN : names = c.fn k) (hpos : 0 < N.length) (ht : DenS c E t x) (h : spI c k (initD N.length k names x) n vs H Q E) :
    t { nx := fun _ H' => Q .non H', rt := Q } (L2.start N vs) H := by
  obtain ⟨_, xx, dx, as, H1, F, θ, s, ds, rfl, rfl, nx, nd, ne, w, r, hp⟩ := h
  have nx1 : upd H1 dx (.own xx) xx = none := by rw [upd_ne (Ne.symm ne)]; exact nx
  have e1 : Ext F θ H1 F θ (upd (upd H1 dx (.own xx)) xx (.ins (c.cl k) dx [])) := (Ext.newH nd).trans (Ext.newH nx1)
  have w1 : WOk c s F θ (upd (upd H1 dx (.own xx)) xx (.ins (c.cl k) dx [])) := (w.newH nd).newH nx1
  have hl := r.length
  have he : EnvOk c ⟨H1, xx⟩ F θ (upd (upd H1 dx (.own xx)) xx (.ins (c.cl k) dx [])) (L2.start N (V.ref xx :: as)) (startO N.length k ds) := by
    refine ⟨?_, fun i o y h1 h2 => ?_, fun i j l xs ys n h1 h2 h3 => ?_⟩
    · unfold L2.start startO; simp [hl]; omega
    · cases i with
      | zero =>
        have g1 : o = some (V.ref xx) := by
          unfold L2.start at h1; simp at h1; exact h1.symm
        have g2 : y = .oobj k [] := by
          unfold startO at h2; simp at h2; exact h2.symm
        subst g1; subst g2
        exact ⟨xx, dx, [], rfl, rfl, nx, (w.free nx).1, (w.free nx).2, upd_same, rfl, RA.nil⟩
      | succ i =>
        have g1 : (as.map some ++ List.replicate (N.length - (as.length + 1)) none)[i]? = some o := by
          unfold L2.start at h1; simpa using h1
        have g2 : (ds.map Sl.val ++ List.replicate (N.length - 1 - ds.length) Sl.none)[i]? = some y := by
          unfold startO at h2; simpa using h2
        by_cases hi : i < as.length
        · rw [List.getElem?_append_left (by simpa using hi), List.getElem?_map] at g1
          rw [List.getElem?_append_left (by simpa [← hl] using hi), List.getElem?_map] at g2
          cases e3 : as[i]? with
          | none => rw [e3] at g1; cases g1
          | some v =>
            cases e4 : ds[i]? with
            | none => rw [e4] at g2; cases g2
            | some d =>
              rw [e3] at g1; rw [e4] at g2
              cases g1; cases g2
              exact ⟨v, rfl, r.get e3 e4⟩
        · rw [List.getElem?_append_right (by simp [← hl]; omega), List.getElem?_replicate] at g2
          split at g2
          · cases g2; trivial
          · cases g2
    · exfalso
      cases i with
      | zero => unfold startO at h2; simp at h2
      | succ i =>
        have g2 : (ds.map Sl.val ++ List.replicate (N.length - 1 - ds.length) Sl.none)[i]? = some (.own xs) := by
          unfold startO at h2; simpa using h2
        by_cases hi : i < ds.length
        · rw [List.getElem?_append_left (by simpa using hi), List.getElem?_map] at g2
          cases e4 : ds[i]? with
          | none => rw [e4] at g2; cases g2
          | some d => rw [e4] at g2; cases g2
        · rw [List.getElem?_append_right (by simp; omega), List.getElem?_replicate] at g2
          split at g2 <;> cases g2
  refine ht ⟨H1, xx⟩ F θ _ _ s F θ _ _ e1 w1 he ?_
  unfold initD at hp
  cases z : x (startO N.length k ds) s with
  | next ρ s' =>
    rw [z] at hp
    intro σ' F' θ' H' x' w' he'
    dsimp only at hp
    cases z2 : (ρ[0]? : Option Sl) with
    | none => rw [z2] at hp; exact hp.elim
    | some y =>
      rw [z2] at hp
      cases y with
      | oobj k' fs =>
        dsimp only at hp
        by_cases hk : k' = k ∧ fs.map (·.1) = names
        · rw [if_pos hk] at hp
          obtain ⟨rfl, hfs⟩ := hk
          obtain ⟨o, g1, y, dy, fv, rfl, hme, g0, gF, gt, gH, gn, gr⟩ := he'.get z2
          have hme : y = xx := hme
          subst hme
          exact hp F' θ' H' dy fv x' w' gF gt gH (gn.trans (hfs.trans hN)) gr
        · rw [if_neg hk] at hp; exact hp.elim
      | _ => exact hp.elim
  | ret d s' => rw [z] at hp; exact hp.elim
  | brk ρ s' => rw [z] at hp; exact hp.elim
  | cont ρ s' => rw [z] at hp; exact hp.elim
  | exc j fs s' => rw [z] at hp; exact fun F' θ' H' dx x' w' r' => hp F' θ' H' dx x' w' r'
  | bad => rw [z] at hp; exact hp.elim
end
end MX


set_option Elab.async false
set_option linter.all false
set_option maxRecDepth 100000
namespace PySem.W
open PySem PySem.Calls PyProof.Rows Builtin
section
variable {prog : Program} {w : World} {A : Around} {E : Value → Shared → Prop} {s : Shared} {K : Frag} {x y C L f : Addr} {h₀ : Heap} {m : Str → Option Value} {ox : Obj} {od : Option Obj} {tb : Value}
theorem mx_ifBound_B {M : Model} {name : Str} {id : String} {args : List Value} {Q : Option Value → Shared → Prop} (X : K.In s.heap) (I : InstAt s.heap x ox C od) (hs : findIn K (.ref C) name = some (some (.builtin id)))
    (hb : ∀ self, bindSpecial (.builtin id) self = pure (.builtin id, [self])) (h : wpAny M A (call (.builtin id) (.ref x :: args)) (fun v => Q (some v)) E s) : wpAny M A (callSpecialIfBound? (.ref x) name args) Q E s := by
  simp only [callSpecialIfBound?, bindSpecialIfBound?]
  refine wpAny_holding (wpAny_bind (wpAny_bind (wpAny_bind (I.type.here ((looks_findIn X hs).here ?_)))))
  refine wpAny_bind (wpAny_askSetting (wpAny_ite ?_))
  have fin : wpAny M A (call (.builtin id) ([.ref x] ++ args) >>= fun v => pure (some v)) Q E s := wpAny_bind (wpAny_mono h (fun v s' h' => wpAny_pure h') fun _ _ h' => h')
  simp only [hb]
  split
  · exact wpAny_bind (wpAny_pure (wpAny_pure (by exact fin)))
  · exact wpAny_tryCatch (wpAny_bind (wpAny_pure (wpAny_pure (by exact fin))))
theorem mx_objNe {Q : Fin → Shared → Prop} (X : K.In s.heap) (I : InstAt s.heap x ox C od) (hs : findIn K (.ref C) "__eq__" = some (some (.ref f))) (hf : isFn K (.ref f) = true) (hu : A.units < cLine)
    (hcall : wpAny (model prog w) A (call (.ref f) [.ref x, .ref y]) (fun v s' => ∃ b, v = .bool b ∧ Q (.done (.ret (.bool (!b)))) s') E s) :
    wpAny (model prog w) A (Builtin.«object.__ne__» ⟨[.ref x, .ref y], []⟩) Q E s := by
  unfold Builtin.«object.__ne__»
  repeat (first
    | with_reducible refine wpAny_cRoomFor hu ?_
    | (refine wpAny_bind (m := callSpecialIfBound? (.ref x) (Str.ofString "__eq__") [.ref y])
        (ifBound_K X I hs hf (wpAny_mono hcall (fun v s' hr => by
          obtain ⟨b, rfl, hq⟩ := hr
          repeat (first | exact hq | exact wpAny_pure hq | exact wpAny_truthy_bool hq | (refine wpAny_bind (m := truthy (.bool _)) (wpAny_truthy_bool ?_)) | wp_step)) fun _ _ e => e)))
    | wp_step)
theorem mx_ne_K {Q : Value → Shared → Prop} (hu : A.units + 1 < cLine) (F : Fr h₀ L s.heap m) (X₀ : K.In h₀) (I : InstAt s.heap x ox C od) (hb : Looks (model prog w) s.heap (typeOf (.ref y)) tb) (hn : notFirst K C tb = true)
    (hne : findIn K (.ref C) "__ne__" = some (some (.builtin "object.__ne__"))) (hm : mroIn K C (.type "object") = some true)
    (hs : findIn K (.ref C) "__eq__" = some (some (.ref f))) (hf : isFn K (.ref f) = true)
    (h : wpAny (model prog w) A.in1 (call (.ref f) [.ref x, .ref y]) (fun v s' => ∃ k, v = .bool k ∧ Q (.bool (!k)) s') E s) : wpAny (model prog w) A (richCompare .NotEq (.ref x) (.ref y)) Q E s := by
  have X := X₀.keeps F.keep
  have one : wpAny (model prog w) A (tryCompare (.ref x) "__ne__" (.ref y)) (fun r s' => ∃ v, r = some v ∧ Q v s') E s := by
    unfold tryCompare
    have inst : Looks (model prog w) s.heap (isInstance (.ref x) (.type "object")) true := I.type.andThen (looks_mroIn X hm)
    refine wpAny_bind (mx_ifBound_B X I hne PySem.F.slot_object_ne.bind (wpAny_call (codeAny_call_builtin PySem.F.slot_object_ne.plain PySem.F.cmpEntry_ne (check_slot PySem.F.cmpKind_ne PySem.F.cmpSplit_ne inst (PySem.F.cmpArgs_ne _ _) ?_))))
    refine mx_objNe (A := A.in1) X I hs hf (by show A.units + 1 < cLine; exact hu) (wpAny_mono h (fun v s' hv => ?_) fun _ _ e => e)
    obtain ⟨b, rfl, hq⟩ := hv
    exact ⟨b, rfl, by first | exact wpAny_pure ⟨_, rfl, hq⟩ | exact ⟨_, rfl, wpAny_pure ⟨_, rfl, hq⟩⟩⟩
  unfold richCompare
  simp only [oneThing_ref]
  refine wpAny_holding (wpAny_bind (wpAny_cRoomFor (Nat.lt_of_succ_lt hu) ?_))
  refine wpAny_bind (I.type.here (wpAny_bind (hb.here ?_)))
  split
  · rename_i q
    have e : subIn K tb (.ref C) = some false := by
      rcases Bool.or_eq_true_iff.mp hn with e | e
      · rw [beq_iff_eq.mp e] at q; simp at q
      · exact beq_iff_eq.mp e
    refine wpAny_bind ((looks_subIn X e).here ?_)
    simp only [Bool.false_eq_true, if_false]
    refine wpAny_bind (wpAny_mono one (fun r s' z => ?_) fun _ _ e => e)
    obtain ⟨v, rfl, hq⟩ := z
    exact wpAny_pure hq
  · refine wpAny_bind (wpAny_pure ?_)
    simp only [Bool.false_eq_true, if_false]
    refine wpAny_bind (wpAny_mono one (fun r s' z => ?_) fun _ _ e => e)
    obtain ⟨v, rfl, hq⟩ := z
    exact wpAny_pure hq
end
end PySem.W
namespace MX
open PySem PySem.Spec PyProof.Rows L2
section
variable {X : Cx} {CX : CXT} {k : Nat} {C f : Addr} {fd : FuncData} {ps : List Str} {sp : Sp} {E : XK} {ta : TE} {e : Expr} {x : Str} {p pos : Pos}
/-- an own function called from inside a built-in -/
theorem run_in {A : Around} {pins : List (Addr × Obj)} {σ : L2.St} {H : Hp} {s : Shared} {Q : VK} {us : List Value} {vs : List V} (F : FnOk X.prog X.w X.K X.mg X.base CX k f fd ps sp) (hr : Room k A) (hfr : A.frames = X.A.frames) (hb : Binds X.K fd ps []) (hx : Passes CX X E)
    (I : L2.Inv X pins σ H s) (r : Vals vs us) (h : sp vs H Q E) : wpAny (model X.prog X.w) A (call (.ref f) us) (EP X pins σ Q) X.xe s := by
  have hl : (us ++ []).length = ps.length := by rw [List.append_nil, ← r.length]; exact F.len _ _ _ _ h
  have e0 : Env0 X.prog X.w X.K X.mg X.base A X.stack s H := by
    have e := I.env0
    exact ⟨by rw [hfr]; exact e.frames, e.mod, e.bs, e.bsz, e.funs, e.frf, e.hok, e.bare⟩
  have hbb := hb s us I.kIn hl
  rw [List.append_nil] at hbb
  refine wpAny_call (codeAny_mono (F.run A X.stack s H ⟨us, []⟩ us vs Q E hr e0 hbb r h) fun r s' hq => ?_)
  cases r with
  | error e => exact hx pins σ H s e s' I hq
  | ok fl =>
    cases fl with
    | ret u => exact I.after hq
    | next => exact False.elim hq
    | brk => exact False.elim hq
    | cont => exact False.elim hq
/-- len(o), o with a __len__ of the text -/
def tLenO (C : Addr) (sp : Sp) (E : XK) (ta : TE) : TE := fun σ H Q => tCons ta tNil σ H fun vs H1 => ∃ a dx fs, vs = [V.ref a] ∧ H1 a = some (.ins C dx fs) ∧ sp [V.ref a] H1 (fun v H2 => ∃ n : Int, v = V.int n ∧ 0 ≤ n ∧ n < 2 ^ 63 ∧ Q (V.int n) H2) E
theorem pe_lenO (F : FnOk X.prog X.w X.K X.mg X.base CX k f fd ps sp) (hr : Room (k + 1) X.A) (hs : PySem.W.findIn X.K (.ref C) "__len__" = some (some (.ref f))) (hf : PySem.W.isFn X.K (.ref f) = true) (hb : Binds X.K fd ps []) (hx : Passes CX X E)
    (hg : Gl X "len") (hm : X.mg "len" = none) (he : PE X e ta) (hst : starEach [e] X.env = (false, eval e X.env) :: starEach [] X.env := by rfl) : PE X (.Call (.Name "len" p) [e] [] pos) (tLenO C sp E ta) := by
  refine ⟨fun pins s σ H Q I h => ?_⟩
  refine wpAny_Call_Name_kw (ld_blt I hg hm PySem.boot_len ?_ (by decide) (by decide))
  have ha : PA X [e] (tCons ta tNil) := pa_cons he pa_nil hst
  refine PyProof.Rows.callWith_builtin1 (thn (ha.run pos pins s σ H _ I h) fun us s1 ⟨vs, H1, I1, r, a, dx, fs, e1, ea, q⟩ => ?_) hst rfl
  subst e1
  obtain ⟨u, rfl, ru⟩ := vals1 r
  cases ru
  obtain ⟨mA, J, _⟩ := ins_get I1.hok ea
  obtain ⟨od, J, _⟩ := J.look
  obtain ⟨m, hF⟩ := I1.fr
  refine PySem.W.len_K hF I1.ok.mod.kin J hs hf ?_
  refine wpAny_mono (run_in F hr.in1 rfl hb hx I1 (show Vals [V.ref a] [Value.ref a] from .cons rfl .nil) q) (fun v s' hv => ?_) fun _ _ z => z
  obtain ⟨z, H', I', rz, n, ez, n0, n1, q'⟩ := hv
  subst ez
  obtain ⟨t, rfl⟩ := rz
  exact ⟨⟨n0, n1⟩, .int n, H', I'.tok _, ⟨_, rfl⟩, q'⟩
/-- a == b, a != b of instances of a class with an __eq__ of the text -/
def rEqO (neg : Bool) (C : Addr) (sp : Sp) (E : XK) : R2 := fun x y H Q => ∃ a b dx dy fs gs, x = V.ref a ∧ y = V.ref b ∧ H a = some (.ins C dx fs) ∧ H b = some (.ins C dy gs) ∧ sp [V.ref a, V.ref b] H (fun v H2 => ∃ k : Bool, v = V.bl k ∧ Q (V.bl (if neg then !k else k)) H2) E
theorem op_eqO (F : FnOk X.prog X.w X.K X.mg X.base CX k f fd ps sp) (hr : Room k X.A) (hs : PySem.W.findIn X.K (.ref C) "__eq__" = some (some (.ref f))) (hf : PySem.W.isFn X.K (.ref f) = true) (hb : Binds X.K fd ps []) (hx : Passes CX X E) :
    OpR X (compareOp .Eq) (rEqO false C sp E) := by
  intro pins s σ H x y v u Q I rx ry h
  obtain ⟨a, b, dx, dy, fs, gs, rfl, rfl, ha, hb', q⟩ := h
  cases rx
  cases ry
  obtain ⟨mA, J, _⟩ := ins_get I.hok ha
  obtain ⟨mB, J', _⟩ := ins_get I.hok hb'
  obtain ⟨od, J, _⟩ := J.look
  obtain ⟨od', J', _⟩ := J'.look
  obtain ⟨m, hF⟩ := I.fr
  show wpAny (model X.prog X.w) X.A (richCompare .Eq (.ref a) (.ref b)) (EP X pins σ Q) X.xe s
  refine PySem.W.cmp_K (op := .Eq) (tb := .ref C) hr.units0 hF I.ok.mod.kin J J'.type (by simp [PySem.W.notFirst]) hs hf ?_
  refine wpAny_mono (run_in F hr rfl hb hx I (show Vals [V.ref a, V.ref b] [Value.ref a, Value.ref b] from .cons rfl (.cons rfl .nil)) q) (fun v s' hv => ?_) fun _ _ z => z
  obtain ⟨z, H', I', rz, n, ez, q'⟩ := hv
  subst ez
  cases rz
  exact ⟨.bl n, H', I', rfl, q'⟩
theorem op_neO (F : FnOk X.prog X.w X.K X.mg X.base CX k f fd ps sp) (hr : Room (k + 1) X.A) (hs : PySem.W.findIn X.K (.ref C) "__eq__" = some (some (.ref f))) (hf : PySem.W.isFn X.K (.ref f) = true) (hb : Binds X.K fd ps []) (hx : Passes CX X E)
    (hne : PySem.W.findIn X.K (.ref C) "__ne__" = some (some (.builtin "object.__ne__"))) (hmro : PySem.W.mroIn X.K C (.type "object") = some true) :
    OpR X (compareOp .NotEq) (rEqO true C sp E) := by
  intro pins s σ H x y v u Q I rx ry h
  obtain ⟨a, b, dx, dy, fs, gs, rfl, rfl, ha, hb', q⟩ := h
  cases rx
  cases ry
  obtain ⟨mA, J, _⟩ := ins_get I.hok ha
  obtain ⟨mB, J', _⟩ := ins_get I.hok hb'
  obtain ⟨od, J, _⟩ := J.look
  obtain ⟨od', J', _⟩ := J'.look
  obtain ⟨m, hF⟩ := I.fr
  show wpAny (model X.prog X.w) X.A (richCompare .NotEq (.ref a) (.ref b)) (EP X pins σ Q) X.xe s
  refine PySem.W.mx_ne_K (tb := .ref C) (by have := hr.units; omega) hF I.ok.mod.kin J J'.type (by simp [PySem.W.notFirst]) hne hmro hs hf ?_
  refine wpAny_mono (run_in F hr.in1 rfl hb hx I (show Vals [V.ref a, V.ref b] [Value.ref a, Value.ref b] from .cons rfl (.cons rfl .nil)) q) (fun v s' hv => ?_) fun _ _ z => z
  obtain ⟨z, H', I', rz, n, ez, q'⟩ := hv
  subst ez
  cases rz
  exact ⟨n, rfl, .bl (!n), H', I', rfl, q'⟩
end
end MX
namespace MX
open PySem PySem.Spec PyProof.Rows L2
section
variable {c : Cs} {E : XK}
/-! ### len, ==, isinstance over D -/
def dLenO (k : Nat) (m : Mf) (e : Fn D) : Fn D := fun ρ s => (e ρ s).bind fun d s => match d with
  | .obj k' ds => if k' = k then (m [.obj k' ds] s).bind fun r s => match r with
    | .int n => if 0 ≤ n ∧ n < 1000000 then .ok (.int n) s else .bad
    | _ => .bad
    else .bad
  | _ => .bad
theorem den_lenO {k : Nat} {m : Mf} {t : TE} {e : Fn D} (h : DenE c E t e) : DenE c E (tLenO (c.cl k) (spF c m 1) E t) (dLenO k m e) := by
  refine den_bind (r2 := rV c) (K := fun σ x H1 Q => ∃ a dx fs, [x] = [V.ref a] ∧ H1 a = some (.ins (c.cl k) dx fs) ∧ spF c m 1 [V.ref a] H1 (fun v H2 => ∃ n : Int, v = V.int n ∧ 0 ≤ n ∧ n < 2 ^ 63 ∧ Q (V.int n) H2) E) h fun H0 σ ρ s F θ H Hi x a Q he hw q hp => ?_
  cases a with
  | obj k' ds =>
    dsimp only at hp
    split at hp
    · rename_i ek
      subst ek
      have q : R c F θ x (.obj k' ds) := q
      obtain ⟨p, dx, fs, e1, hH, hn, r⟩ := r_obj_inv q
      subst e1
      refine ⟨p, dx, fs, rfl, hw.sub _ _ hH, rfl, F, θ, s, _, hw, RA.cons q RA.nil, ?_⟩
      cases z : m [.obj k' ds] s with
      | bad => rw [z] at hp; exact hp
      | exc j fs s' => rw [z] at hp; exact hp
      | ok d s' =>
        rw [z] at hp
        intro v F' θ' H' x' w' rv
        have rv : R c F' θ' v d := rv
        cases d with
        | int n =>
          dsimp only [Res.bind] at hp
          by_cases hn : 0 ≤ n ∧ n < 1000000
          · rw [if_pos hn] at hp
            exact ⟨n, r_int_inv rv, hn.1, by omega, hp _ F' θ' H' x' w' (r_int (c := c) (F := F') (θ := θ'))⟩
          · rw [if_neg hn] at hp; exact hp.elim
        | _ => exact hp.elim
    · exact hp.elim
  | _ => exact hp.elim
def dEqO (neg : Bool) (k : Nat) (m : Mf) (ea eb : Fn D) : Fn D := fun ρ s => (ea ρ s).bind fun a s => (eb ρ s).bind fun b s => match a, b with
  | .obj k1 ds, .obj k2 es => if k1 = k ∧ k2 = k then (m [.obj k1 ds, .obj k2 es] s).bind fun r s => match r with
    | .bl z => .ok (.bl (if neg then !z else z)) s
    | _ => .bad
    else .bad
  | _, _ => .bad
theorem den_eqO {neg : Bool} {k : Nat} {m : Mf} {ta tb : TE} {ea eb : Fn D} (ha : DenE c E ta ea) (hb : DenE c E tb eb) : DenE c E (tOp (rEqO neg (c.cl k) (spF c m 2) E) ta tb) (dEqO neg k m ea eb) := by
  refine den_bind (r2 := rV c) (K := fun σ x H1 Q => tb σ H1 fun y H2 => rEqO neg (c.cl k) (spF c m 2) E x y H2 Q) ha fun H0 σ ρ s F θ H Hi x a Q he hw q hp => ?_
  refine hb H0 σ ρ s F θ H _ he hw ?_
  cases z : eb ρ s with
  | bad => rw [z] at hp; exact hp
  | exc k fs s' => rw [z] at hp; exact hp
  | ok b s' =>
    rw [z] at hp
    intro y F' θ' H' x' w' ry
    have ry : R c F' θ' y b := ry
    have q' : R c F' θ' x a := R.mono x'.fr x'.th a q
    cases a with
    | obj k1 ds =>
      cases b with
      | obj k2 es =>
        dsimp only [Res.bind] at hp
        by_cases hk : k1 = k ∧ k2 = k
        · rw [if_pos hk] at hp
          obtain ⟨rfl, rfl⟩ := hk
          obtain ⟨p, dx, fs, e1, hH, _, _⟩ := r_obj_inv q'
          obtain ⟨p2, dy, gs, e2, hH2, _, _⟩ := r_obj_inv ry
          refine ⟨p, p2, dx, dy, fs, gs, e1, e2, w'.sub _ _ hH, w'.sub _ _ hH2, rfl, F', θ', s', [.obj k2 ds, .obj k2 es], w', ?_, ?_⟩
          · rw [← e1, ← e2]; exact RA.cons q' (RA.cons ry RA.nil)
          cases z2 : m [.obj k2 ds, .obj k2 es] s' with
          | bad => rw [z2] at hp; exact hp
          | exc j fs s2 => rw [z2] at hp; exact fun F2 θ2 H2 dx x2 w2 q2 => hp F2 θ2 H2 dx (x'.trans x2) w2 q2
          | ok d s2 =>
            rw [z2] at hp
            intro v F2 θ2 H2 x2 w2 rv
            have rv : R c F2 θ2 v d := rv
            cases d with
            | bl k => exact ⟨k, r_bl_inv rv, hp _ F2 θ2 H2 (x'.trans x2) w2 (r_bl (c := c) (F := F2) (θ := θ2))⟩
            | _ => exact hp.elim
        · rw [if_neg hk] at hp; exact hp.elim
      | _ => exact hp.elim
    | _ => exact hp.elim
def tagOf : D → Option String
  | .non => some "NoneType"
  | .bl _ => some "bool"
  | .int _ => some "int"
  | .str _ => some "str"
  | .lst _ => some "list"
  | .tup _ => some "tuple"
  | _ => none
def tags : List String := ["NoneType", "bool", "int", "str", "list", "tuple"]
def isB (a b : String) : Bool := a == b || (a == "bool" && b == "int")
theorem isB_ok : ∀ a ∈ tags, ∀ b ∈ tags, kitB a b = some (isB a b) := by decide +kernel
/-- what isinstance asks of an own class -/
structure IsK (c : Cs) (k : Nat) : Prop where
  cl : Cls c.K (c.cl k)
  ca : PySem.W.findIn c.K (.ref (c.cl k)) "__class__" = some (some (.builtin "object.__class__"))
  cn : PySem.W.specialIn c.K (.builtin "object.__class__") "__get__" = some (some (.builtin "getset_descriptor.__get__"))
  ct : PySem.W.takesIn c.K (.builtin "object.__class__") = some true
  cm : PySem.W.mroIn c.K (c.cl k) (.type "object") = some true
  bt : ∀ a ∈ tags, PySem.W.kitOne c.K (.type a) (.ref (c.cl k)) = some false
def isi2 (al : List Nat) (x t : D) : Option D := match t with
  | .ty n => match tagOf x with
    | some a => if tags.contains n then some (.bl (isB a n)) else none
    | none => none
  | .cls j => match tagOf x with
    | some _ => if al.contains j then some (.bl false) else none
    | none => match x with
      | .obj k _ => if k = j ∧ al.contains k then some (.bl true) else none
      | _ => none
  | _ => none
def fIsi (al : List Nat) : FC := fun ds _ => match ds with
  | [x, t] => isi2 al x t
  | _ => none
theorem tag_ty {F H : Hp} {θ : List Addr} {x : V} {d : D} {a : String} (sub : Le F H) (h : R c F θ x d) (e : tagOf d = some a) : TyX c.K H x (.type a) ∧ a ∈ tags := by
  cases d with
  | non => cases e; rw [r_non_inv h]; exact ⟨.base .non, by decide⟩
  | bl b => cases e; rw [r_bl_inv h]; exact ⟨.base (.bl b), by decide⟩
  | int i => cases e; rw [r_int_inv h]; exact ⟨.base (.int i), by decide⟩
  | str z => cases e; rw [r_str_inv h]; exact ⟨.base (.str z), by decide⟩
  | lst ds => cases e; obtain ⟨p, xs, rfl, hp, _⟩ := r_lst_inv h; exact ⟨.base (.lst (sub _ _ hp)), by decide⟩
  | tup ds => cases e; obtain ⟨p, xs, rfl, ⟨o, hp, _⟩, _⟩ := r_tup_inv h; exact ⟨.fTuple (sub _ _ hp), by decide⟩
  | _ => cases e
theorem cd_isi {al : List Nat} (hk : ∀ k ∈ al, IsK c k) : CallD c (rIsi c.K) (fIsi al) := by
  intro s F θ H xs as w r Q d e h
  unfold fIsi at e
  split at e
  · rename_i y t
    obtain ⟨x, u, rfl, hx, hu⟩ := ra2 r
    cases t with
    | ty n =>
      have hu : u = .ty n := by unfold R at hu; exact hu
      subst hu
      dsimp only [isi2] at e
      split at e
      · rename_i a ha
        split at e
        · rename_i hn
          cases e
          obtain ⟨t1, t2⟩ := tag_ty w.sub hx ha
          exact ⟨x, _, _, _, isB a n, rfl, .ty n, t1, kit_ty (isB_ok a t2 n (by simpa using hn)), give w r_bl h⟩
        · cases e
      · cases e
    | cls j =>
      have hu : u = .ref (c.cl j) := by unfold R at hu; exact hu
      subst hu
      dsimp only [isi2] at e
      split at e
      · rename_i a ha
        split at e
        · rename_i hal
          cases e
          obtain ⟨t1, t2⟩ := tag_ty w.sub hx ha
          have I := hk j (by simpa using hal)
          exact ⟨x, _, _, _, false, rfl, .own _, t1, I.bt a t2, give w r_bl h⟩
        · cases e
      · cases y with
        | obj k gs =>
          dsimp only at e
          by_cases hc : k = j ∧ al.contains k
          · rw [if_pos hc] at e
            cases e
            obtain ⟨rfl, hal⟩ := hc
            have I := hk k (by simpa using hal)
            obtain ⟨p, dx, fs, e1, hH, _, _⟩ := r_obj_inv hx
            refine ⟨x, _, _, _, true, rfl, .own _, by rw [e1]; exact .base (.ins (w.sub _ _ hH) I.cl I.ca I.cn I.ct I.cm), ?_, give w r_bl h⟩
            unfold PySem.W.kitOne
            simp
          · rw [if_neg hc] at e; cases e
        | _ => cases e
    | _ => cases e
  · cases e
end
end MX


set_option Elab.async false
set_option linter.all false
set_option maxRecDepth 100000
namespace MX
open PySem PySem.Spec PyProof.Rows L2
section
variable {c : Cs} {E : XK} {F H : Hp} {θ : List Addr}
/-- the list that a comprehension makes grows -/
theorem up_acc {Da : Addr} {F1 : Hp} {θ1 : List Addr} {s1 : Sto} {H1 : Hp} {o : HO} (hn : H Da = none) (x : Ext F θ H F1 θ1 H1) (w1 : WOk c s1 F1 θ1 H1) (nF : F1 Da = none) (nt : Da ∉ θ1) (nH : H1 Da ≠ none) :
    Ext F θ H F1 θ1 (upd H1 Da o) ∧ WOk c s1 F1 θ1 (upd H1 Da o) := by
  refine ⟨⟨x.fr, x.th, fun a u h n => ?_, x.nc, x.nf, fun a n => ?_⟩, ⟨w1.sub.updR nF, fun a m => ?_, w1.nd, w1.len, fun i a es h1 h2 => ?_⟩⟩
  · rw [upd_ne (ne_of_none h hn)]; exact x.kp a u h n
  · by_cases q : a = Da
    · subst q; rw [upd_same]; simp
    · rw [upd_ne q]; exact x.al a n
  · have q : a ≠ Da := fun z => nt (z ▸ m)
    rw [upd_ne q]; exact w1.fc a m
  · obtain ⟨xs, h3, h4⟩ := w1.cel i a es h1 h2
    have q : a ≠ Da := fun z => nt (z ▸ List.mem_of_getElem? h1)
    exact ⟨xs, by rw [upd_ne q]; exact h3, h4⟩

mutual
theorem gP_gen {s : Sto} {C : L2.St → List Sl → Prop} (hw : WOk c s F θ H) (hC : ∀ (σ : L2.St) (ρ : List Sl) (i : Nat) (v : V) (d : D), C σ ρ → R c F θ v d → C (σ.set i (some v)) (ρ.set i (.val d))) : ∀ (p : Pt) (σ : L2.St) (ρ ρ' : List Sl) (v : V) (d : D) (Q : L2.St → Hp → Prop), C σ ρ → R c F θ v d → setP p ρ d = some ρ' →
    (∀ σ', C σ' ρ' → But p.slots σ σ' → Q σ' H) → gP c.K p v σ H Q
  | .nm i, σ, ρ, ρ', v, d, Q, he, r, e, k => by
    unfold setP at e
    cases e
    exact k _ (hC _ _ _ _ _ he r) fun vs h => wipe_set (h i (by simp [Pt.slots]))
  | .tup p, σ, ρ, ρ', v, d, Q, he, r, e, k => by
    unfold setP at e
    split at e
    · rename_i ds
      split at e
      · rename_i hl
        obtain ⟨a, xs, rfl, ha, q⟩ := r_tup_inv r
        exact ⟨a, xs, rfl, hw.sub.t ha.t, by rw [q.length]; exact hl, gPs_gen hw hC p σ ρ ρ' xs ds Q he q e k⟩
      · cases e
    · cases e
  | .nil, σ, ρ, ρ', v, d, Q, he, r, e, k => by unfold setP at e; cases e
  | .cons _ _, σ, ρ, ρ', v, d, Q, he, r, e, k => by unfold setP at e; cases e
theorem gPs_gen {s : Sto} {C : L2.St → List Sl → Prop} (hw : WOk c s F θ H) (hC : ∀ (σ : L2.St) (ρ : List Sl) (i : Nat) (v : V) (d : D), C σ ρ → R c F θ v d → C (σ.set i (some v)) (ρ.set i (.val d))) : ∀ (p : Pt) (σ : L2.St) (ρ ρ' : List Sl) (vs : List V) (ds : List D) (Q : L2.St → Hp → Prop), C σ ρ → RA c F θ vs ds → setPs p ρ ds = some ρ' →
    (∀ σ', C σ' ρ' → But p.slots σ σ' → Q σ' H) → gPs c.K p vs σ H Q
  | .nil, σ, ρ, ρ', vs, [], Q, he, r, e, k => by
    unfold setPs at e
    cases e
    exact ⟨r.nil_inv, k σ he fun _ _ => rfl⟩
  | .nil, σ, ρ, ρ', vs, _ :: _, Q, he, r, e, k => by unfold setPs at e; cases e
  | .cons p q, σ, ρ, ρ', vs, [], Q, he, r, e, k => by unfold setPs at e; cases e
  | .cons p q, σ, ρ, ρ', vs, d :: ds, Q, he, r, e, k => by
    unfold setPs at e
    cases z : setP p ρ d with
    | none => rw [z] at e; cases e
    | some ρ1 =>
      rw [z] at e
      obtain ⟨v, r', rfl, r1, r2⟩ := r.cons_inv
      refine ⟨v, r', rfl, gP_gen hw hC p σ ρ ρ1 v d _ he r1 z fun σ1 he1 b1 => ?_⟩
      refine gPs_gen hw hC q σ1 ρ1 ρ' r' ds Q he1 r2 e fun σ2 he2 b2 => k σ2 he2 fun ws h => ?_
      rw [b2 ws fun i hi => h i (by simp [Pt.slots, hi]), b1 ws fun i hi => h i (by simp [Pt.slots, hi])]
  | .nm _, σ, ρ, ρ', vs, ds, Q, he, r, e, k => by unfold setPs at e; cases e
  | .tup _, σ, ρ, ρ', vs, ds, Q, he, r, e, k => by unfold setPs at e; cases e
end
/-- the heap but for one address -/
def off (H : Hp) (Da : Addr) : Hp := fun a => if a = Da then none else H a
theorem off_same {H : Hp} {Da : Addr} : off H Da Da = none := by simp [off]
theorem off_some {H : Hp} {Da a : Addr} {o : HO} (h : off H Da a = some o) : H a = some o ∧ a ≠ Da := by
  unfold off at h
  by_cases q : a = Da
  · simp [q] at h
  · simp [q] at h; exact ⟨h, q⟩
theorem off_ne {H : Hp} {Da a : Addr} (h : off H Da a ≠ none) : H a ≠ none := by
  cases z : off H Da a with
  | none => exact absurd z h
  | some o => rw [(off_some z).1]; simp
theorem off_eq {H : Hp} {Da a : Addr} (h : a ≠ Da) : off H Da a = H a := by simp [off, h]
theorem ext_to_off {Da : Addr} {F1 : Hp} {θ1 : List Addr} {H1 : Hp} (hn : H Da = none) (x : Ext F θ H F1 θ1 H1) : Ext F θ H F1 θ1 (off H1 Da) :=
  ⟨x.fr, x.th, fun a u h n => by rw [off_eq (ne_of_none h hn)]; exact x.kp a u h n, x.nc, x.nf, fun a n => by
    have q : a ≠ Da := fun z => n (z ▸ hn)
    rw [off_eq q]; exact x.al a n⟩
theorem ext_from_off {Da : Addr} {F1 : Hp} {θ1 : List Addr} {H1 : Hp} (x : Ext F θ H F1 θ1 H1) : Ext F θ (off H Da) F1 θ1 H1 :=
  ⟨x.fr, x.th, fun a u h n => x.kp a u (off_some h).1 n, fun a m n => by
    by_cases q : a = Da
    · rw [q]; exact off_same
    · rw [off_eq q]; exact x.nc a m n, fun a e n => x.nf a e (off_ne n), fun a n => x.al a (off_ne n)⟩
theorem compL_nx {p : Pt} {t : Fn Bool} {e : Fn D} {ρ : List Sl} : ∀ (ds : List D) (s : Sto), noX (compL p t e ρ ds s) = compL p t e ρ ds s
  | [], s => rfl
  | d :: ds, s => by
    unfold compL
    cases setP p ρ d with
    | none => rfl
    | some ρ1 =>
      dsimp only
      cases t ρ1 s with
      | bad => rfl
      | exc k fs s2 => rfl
      | ok k s2 =>
        show noX (if k = true then _ else _) = (if k = true then _ else _)
        cases k with
        | false => exact compL_nx ds s2
        | true =>
          simp only [if_true]
          cases e ρ1 s2 with
          | bad => rfl
          | exc k fs s2 => rfl
          | ok y s3 =>
            show noX ((compL p t e ρ ds s3).bind _) = (compL p t e ρ ds s3).bind _
            have h := compL_nx (p := p) (t := t) (e := e) (ρ := ρ) ds s3
            cases z : compL p t e ρ ds s3 with
            | bad => rfl
            | exc k fs s2 => rw [z] at h; cases h
            | ok y s3 => rfl
def fin (xs : List D) (s : Sto) : Res (List D) := if small xs.length then .ok xs s else .bad
def compL2 (p : Pt) (t : Fn Bool) (w1 : Fn (List D)) (p1 : Pt) (t1 : Fn Bool) (e : Fn D) (ρ : List Sl) (vs1 : List Nat) : List D → Sto → Res (List D)
  | [], s => .ok [] s
  | d :: ds, s => match setP p ρ d with
    | some ρ1 => (noX (t ρ1 s)).bind fun k s => if k = true then (noX (w1 ρ1 s)).bind fun ds1 s => (compL p1 t1 e (wipeR ρ1 vs1) ds1 s).bind fun r1 s => (compL2 p t w1 p1 t1 e ρ vs1 ds s).bind fun r s => .ok (r1 ++ r) s
      else compL2 p t w1 p1 t1 e ρ vs1 ds s
    | none => .bad
theorem compL2_nx {p p1 : Pt} {t t1 : Fn Bool} {w1 : Fn (List D)} {e : Fn D} {ρ : List Sl} {vs1 : List Nat} : ∀ (ds : List D) (s : Sto), noX (compL2 p t w1 p1 t1 e ρ vs1 ds s) = compL2 p t w1 p1 t1 e ρ vs1 ds s
  | [], s => rfl
  | d :: ds, s => by
    unfold compL2
    cases setP p ρ d with
    | none => rfl
    | some ρ1 =>
      dsimp only
      cases t ρ1 s with
      | bad => rfl
      | exc k fs s2 => rfl
      | ok k s2 =>
        show noX (if k = true then _ else _) = (if k = true then _ else _)
        cases k with
        | false => exact compL2_nx ds s2
        | true =>
          simp only [if_true]
          cases w1 ρ1 s2 with
          | bad => rfl
          | exc k fs s2 => rfl
          | ok ds1 s3 =>
            show noX ((compL p1 t1 e (wipeR ρ1 vs1) ds1 s3).bind _) = (compL p1 t1 e (wipeR ρ1 vs1) ds1 s3).bind _
            have h0 := compL_nx (p := p1) (t := t1) (e := e) (ρ := wipeR ρ1 vs1) ds1 s3
            cases z0 : compL p1 t1 e (wipeR ρ1 vs1) ds1 s3 with
            | bad => rfl
            | exc k fs s2 => rw [z0] at h0; cases h0
            | ok r1 s4 =>
              show noX ((compL2 p t w1 p1 t1 e ρ vs1 ds s4).bind _) = (compL2 p t w1 p1 t1 e ρ vs1 ds s4).bind _
              have h := compL2_nx (p := p) (t := t) (w1 := w1) (p1 := p1) (t1 := t1) (e := e) (ρ := ρ) (vs1 := vs1) ds s4
              cases z : compL2 p t w1 p1 t1 e ρ vs1 ds s4 with
              | bad => rfl
              | exc k fs s2 => rw [z] at h; cases h
              | ok y s3 => rfl
def dComp2 (w : Fn (List D)) (p : Pt) (t : Fn Bool) (w1 : Fn (List D)) (p1 : Pt) (t1 : Fn Bool) (e : Fn D) (vs vs1 : List Nat) : Fn (List D) := fun ρ s => (w ρ s).bind fun ds s => (compL2 p t w1 p1 t1 e (wipeR ρ vs) vs1 ds s).bind fin
theorem bind_assoc {α β γ : Type} (r : Res α) (f : α → Sto → Res β) (g : β → Sto → Res γ) : (r.bind f).bind g = r.bind fun a s => (f a s).bind g := by cases r <;> rfl
theorem wipe_idem {σ σ2 : L2.St} {vs : List Nat} (h : wipe σ2 vs = wipe (wipe σ vs) vs) : wipe σ2 vs = wipe σ vs := by
  rw [h]
  apply List.ext_getElem?
  intro j
  rw [wipe_get, wipe_length]
  by_cases q : j ∈ vs
  · simp [q, wipe_get]
  · simp [q]
theorem den_comp2 {wi wi1 : TI} {w w1 : Fn (List D)} {p p1 : Pt} {tt tt1 : TT} {t t1 : Fn Bool} {te : TE} {e : Fn D} {vs vs1 : List Nat} (hs : SrcX c E wi w) (ht : DenT c EX0 tt t) (hs1 : SrcS c EX0 wi1 w1) (ht1 : DenT c EX0 tt1 t1) (he : DenE c EX0 te e)
    (hv : p.slots.all fun i => vs.contains i) (hv1 : p1.slots.all fun i => vs1.contains i) :
    DenF c E (tLc2 wi (gP c.K p) tt wi1 (gP c.K p1) tt1 te vs vs1) (dComp2 w p t w1 p1 t1 e vs vs1) := by
  intro H0 σ ρ s0 F θ H Q hE0 hw0 hp0
  refine hs H0 σ ρ s0 F θ H _ hE0 hw0 ?_
  unfold dComp2 at hp0
  cases ew : w ρ s0 with
  | bad => rw [ew] at hp0; exact hp0
  | exc k fs s' => rw [ew] at hp0; exact hp0
  | ok ds s =>
  rw [ew] at hp0
  intro J F' θ' H' x0 hw hit
  have hp := hp0.shift x0
  have hE := hE0.ext x0
  have anti : ∀ {Qq : V → Hp → Prop} {r : Res (List D)}, Post c E (rF c) r F' θ' H' Qq → Post c E (rF c) r F' θ' H' Qq := fun h => h
  clear hp0
  have hp : Post c E (rF c) ((compL2 p t w1 p1 t1 e (wipeR ρ vs) vs1 ds s).bind fin) F' θ' H' Q := hp
  clear hE0 hw0 x0 ew
  revert hp hE hw hit
  generalize F' = F; generalize θ' = θ; generalize H' = H
  intro hw hit hE hp
  intro Da hn
  have hit : IterX c J ds F θ H := hit
  have hslots : ∀ i ∈ p.slots, i ∈ vs := fun i hi => by
    have := List.all_eq_true.mp hv i hi
    simpa using this
  have hslots1 : ∀ i ∈ p1.slots, i ∈ vs1 := fun i hi => by
    have := List.all_eq_true.mp hv1 i hi
    simpa using this
  let Inv : Nat → Hp → Prop := fun i H1 => ∃ (F1 : Hp) (θ1 : List Addr) (s1 : Sto) (acc : List V) (ad : List D), Ext F θ H F1 θ1 H1 ∧ WOk c s1 F1 θ1 H1 ∧ F1 Da = none ∧ Da ∉ θ1 ∧ H1 Da = some (.lst acc) ∧ RA c F1 θ1 acc ad ∧ i ≤ ds.length ∧
    Post c E (rF c) ((compL2 p t w1 p1 t1 e (wipeR ρ vs) vs1 (ds.drop i) s1).bind fun r s => fin (ad ++ r) s) F θ H Q
  refine ⟨fun i m H1 => m = ds.length - i ∧ Inv i H1, ⟨ds.length, by simp, ?_⟩, ?_⟩
  · exact ⟨F, θ, s, [], [], Ext.newH hn, hw.newH hn, (hw.free hn).1, (hw.free hn).2, upd_same, RA.nil, by simp, by rw [List.drop_zero]; exact hp⟩
  · rintro i m H1 ⟨rfl, F1, θ1, s1, acc, ad, x1, w1', nF, nt, hD, ra, hil, hp1⟩
    obtain ⟨hgo, hstop⟩ := hit F1 θ1 H1 x1 w1'.sub
    by_cases hlt : i < ds.length
    · obtain ⟨d, hd⟩ : ∃ d, ds[i]? = some d := ⟨ds[i], List.getElem?_eq_getElem hlt⟩
      obtain ⟨g1, g2⟩ := hgo i d hd
      refine .inr ⟨g1, Inv (i + 1), fun H' h' => ⟨ds.length - (i + 1), by omega, rfl, h'⟩, fun x H' y => ?_⟩
      obtain ⟨rfl, rx⟩ := g2 x H' y
      have hdr : ds.drop i = d :: ds.drop (i + 1) := by
        rw [List.drop_eq_getElem_cons hlt]
        rw [List.getElem?_eq_getElem hlt] at hd
        rw [Option.some.inj hd]
      rw [hdr] at hp1
      unfold compL2 at hp1
      cases z : setP p (wipeR ρ vs) d with
      | none => rw [z] at hp1; exact hp1.elim
      | some ρ1 =>
        rw [z] at hp1
        dsimp only at hp1
        have hE1 := EnvOk.wipe (hE.ext x1) vs
        have hEm1 := EnvOk.wipe (hE.ext (ext_to_off hn x1)) vs
        refine gP_gen (C := fun σ ρ => EnvOk c H0 F1 θ1 H' σ ρ ∧ EnvOk c H0 F1 θ1 (off H' Da) σ ρ) w1' (fun σ ρ i v d h r => ⟨h.1.setVal r, h.2.setVal r⟩) p _ _ ρ1 x d _ ⟨hE1, hEm1⟩ rx z fun σ2 hE2' hb => ⟨wipe_idem (hb vs hslots), ?_⟩
        obtain ⟨hE2, hEm⟩ := hE2'
        refine ht H0 σ2 ρ1 s1 F1 θ1 H' _ hE2 w1' ?_
        cases zt : t ρ1 s1 with
        | bad => rw [zt] at hp1; exact hp1.elim
        | exc k fs s2 => rw [zt] at hp1; exact hp1.elim
        | ok k s2 =>
          rw [zt] at hp1
          intro b F3 θ3 H3 x3 w3 hbk
          have hbk : b = k := hbk
          subst hbk
          have nH1 : H' Da ≠ none := by rw [hD]; simp
          have nF3 : F3 Da = none := x3.nf Da nF nH1
          have nt3 : Da ∉ θ3 := fun mm => nH1 (x3.nc Da mm nt)
          have hD3 : H3 Da = some (.lst acc) := x3.kp Da _ hD nt
          have ra3 := RA.mono x3.fr x3.th ad ra
          have x13 := x1.trans x3
          have hE3 := hE2.ext x3
          cases b with
          | false => exact ⟨F3, θ3, s2, acc, ad, x13, w3, nF3, nt3, hD3, ra3, by omega, hp1⟩
          | true =>
            show wi1 σ2 H3 _
            refine hs1 H0 σ2 ρ1 s2 F3 θ3 H3 _ hE3 w3 ?_
            have hp2 : Post c E (rF c) (((noX (w1 ρ1 s2)).bind fun ds1 s => (compL p1 t1 e (wipeR ρ1 vs1) ds1 s).bind fun r1 s => (compL2 p t w1 p1 t1 e (wipeR ρ vs) vs1 (ds.drop (i + 1)) s).bind fun r s => .ok (r1 ++ r) s).bind fun r s => fin (ad ++ r) s) F θ H Q := hp1
            cases zw : w1 ρ1 s2 with
            | bad => rw [zw] at hp2; exact hp2.elim
            | exc k fs s3 => rw [zw] at hp2; exact hp2.elim
            | ok ds1 s3 =>
              rw [zw] at hp2
              intro J1 F4 θ4 H4 x4 w4 hit1
              have hit1 : IterS c J1 ds1 F4 θ4 := hit1
              have nH3 : H3 Da ≠ none := by rw [hD3]; simp
              have nF4 : F4 Da = none := x4.nf Da nF3 nH3
              have nt4 : Da ∉ θ4 := fun mm => nH3 (x4.nc Da mm nt3)
              have hD4 : H4 Da = some (.lst acc) := x4.kp Da _ hD3 nt3
              have ra4 := RA.mono x4.fr x4.th ad ra3
              have x14 := x13.trans x4
              have hE4 := hE3.ext x4
              have hp3 : Post c E (rF c) ((compL p1 t1 e (wipeR ρ1 vs1) ds1 s3).bind fun r1 s => (compL2 p t w1 p1 t1 e (wipeR ρ vs) vs1 (ds.drop (i + 1)) s).bind fun r s => fin (ad ++ (r1 ++ r)) s) F θ H Q := by
                have h := hp2
                dsimp only [noX, Res.bind] at h
                have e1 : ((compL p1 t1 e (wipeR ρ1 vs1) ds1 s3).bind fun r1 s => (compL2 p t w1 p1 t1 e (wipeR ρ vs) vs1 (ds.drop (i + 1)) s).bind fun r s => fin (ad ++ (r1 ++ r)) s) =
                    ((compL p1 t1 e (wipeR ρ1 vs1) ds1 s3).bind fun r1 s => (compL2 p t w1 p1 t1 e (wipeR ρ vs) vs1 (ds.drop (i + 1)) s).bind fun r s => .ok (r1 ++ r) s).bind fun r s => fin (ad ++ r) s := by
                  rw [bind_assoc]
                  congr 1
                  funext r1 s
                  rw [bind_assoc]
                  rfl
                rw [e1]
                exact h
              let Inv1 : Nat → Hp → Prop := fun j H5 => ∃ (F5 : Hp) (θ5 : List Addr) (s5 : Sto) (acc5 : List V) (ad5 : List D), Ext F1 θ1 (off H' Da) F5 θ5 H5 ∧ Le F4 F5 ∧ Pre θ4 θ5 ∧ WOk c s5 F5 θ5 H5 ∧ F5 Da = none ∧ Da ∉ θ5 ∧ H5 Da = some (.lst acc5) ∧ RA c F5 θ5 acc5 ad5 ∧ j ≤ ds1.length ∧
                Post c E (rF c) ((compL p1 t1 e (wipeR ρ1 vs1) (ds1.drop j) s5).bind fun r1 s => (compL2 p t w1 p1 t1 e (wipeR ρ vs) vs1 (ds.drop (i + 1)) s).bind fun r s => fin (ad5 ++ (r1 ++ r)) s) F θ H Q
              have x1m : Ext F θ H F1 θ1 (off H' Da) := ext_to_off hn x1
              have x4m : Ext F1 θ1 (off H' Da) F4 θ4 H4 := ext_from_off (x3.trans x4)
              refine ⟨fun j k H5 => k = ds1.length - j ∧ Inv1 j H5, ⟨ds1.length, by simp, ?_⟩, ?_⟩
              · exact ⟨F4, θ4, s3, acc, ad, x4m, Le.refl _, Pre.refl _, w4, nF4, nt4, hD4, ra4, by simp, by rw [List.drop_zero]; exact hp3⟩
              · rintro j k H5 ⟨rfl, F5, θ5, s5, acc5, ad5, x5, lf5, pt5, w5, nF5, nt5, hD5, ra5, hjl, hp5⟩
                obtain ⟨hgo1, hstop1⟩ := hit1 F5 θ5 H5 lf5 pt5 w5.sub
                by_cases hlt1 : j < ds1.length
                · obtain ⟨d1, hd1⟩ : ∃ d, ds1[j]? = some d := ⟨ds1[j], List.getElem?_eq_getElem hlt1⟩
                  obtain ⟨g3, g4⟩ := hgo1 j d1 hd1
                  refine .inr ⟨g3, Inv1 (j + 1), fun H6 h6 => ⟨ds1.length - (j + 1), by omega, rfl, h6⟩, fun x2 H6 y2 => ?_⟩
                  obtain ⟨rfl, rx2⟩ := g4 x2 H6 y2
                  have hdr1 : ds1.drop j = d1 :: ds1.drop (j + 1) := by
                    rw [List.drop_eq_getElem_cons hlt1]
                    rw [List.getElem?_eq_getElem hlt1] at hd1
                    rw [Option.some.inj hd1]
                  rw [hdr1] at hp5
                  unfold compL at hp5
                  cases z1 : setP p1 (wipeR ρ1 vs1) d1 with
                  | none => rw [z1] at hp5; exact hp5.elim
                  | some ρ2 =>
                    rw [z1] at hp5
                    dsimp only at hp5
                    have hE5 := EnvOk.wipe (hEm.ext x5) vs1
                    refine gP_ok w5 p1 _ _ ρ2 x2 d1 _ hE5 rx2 z1 fun σ3 hE6 hb1 => ⟨wipe_idem (hb1 vs1 hslots1), ?_⟩
                    refine ht1 H0 σ3 ρ2 s5 F5 θ5 H6 _ hE6 w5 ?_
                    cases zt1 : t1 ρ2 s5 with
                    | bad => rw [zt1] at hp5; exact hp5.elim
                    | exc k fs s2 => rw [zt1] at hp5; exact hp5.elim
                    | ok k1 s6 =>
                      rw [zt1] at hp5
                      intro b1 F6 θ6 H7 x6 w6 hbk1
                      have hbk1 : b1 = k1 := hbk1
                      subst hbk1
                      have nH5 : H6 Da ≠ none := by rw [hD5]; simp
                      have nF6 : F6 Da = none := x6.nf Da nF5 nH5
                      have nt6 : Da ∉ θ6 := fun mm => nH5 (x6.nc Da mm nt5)
                      have hD6 : H7 Da = some (.lst acc5) := x6.kp Da _ hD5 nt5
                      have ra6 := RA.mono x6.fr x6.th ad5 ra5
                      cases b1 with
                      | false => exact ⟨F6, θ6, s6, acc5, ad5, x5.trans x6, Le.trans lf5 x6.fr, Pre.trans pt5 x6.th, w6, nF6, nt6, hD6, ra6, by omega, hp5⟩
                      | true =>
                        show te σ3 H7 _
                        refine he H0 σ3 ρ2 s6 F6 θ6 H7 _ (hE6.ext x6) w6 ?_
                        have hp6 : Post c E (rF c) (((noX (e ρ2 s6)).bind fun y s => (compL p1 t1 e (wipeR ρ1 vs1) (ds1.drop (j + 1)) s).bind fun r s => .ok (y :: r) s).bind fun r1 s => (compL2 p t w1 p1 t1 e (wipeR ρ vs) vs1 (ds.drop (i + 1)) s).bind fun r s => fin (ad5 ++ (r1 ++ r)) s) F θ H Q := hp5
                        cases ze : e ρ2 s6 with
                        | bad => rw [ze] at hp6; exact hp6.elim
                        | exc k fs s3 => rw [ze] at hp6; exact hp6.elim
                        | ok yd s7 =>
                          rw [ze] at hp6
                          intro yv F7 θ7 H8 x7 w7 ry
                          have nH6 : H7 Da ≠ none := by rw [hD6]; simp
                          have nF7 : F7 Da = none := x7.nf Da nF6 nH6
                          have nt7 : Da ∉ θ7 := fun mm => nH6 (x7.nc Da mm nt6)
                          have hD7 : H8 Da = some (.lst acc5) := x7.kp Da _ hD6 nt6
                          have ra7 := RA.mono x7.fr x7.th ad5 ra6
                          have hp7 : Post c E (rF c) (((compL p1 t1 e (wipeR ρ1 vs1) (ds1.drop (j + 1)) s7).bind fun r s => .ok (yd :: r) s).bind fun r1 s => (compL2 p t w1 p1 t1 e (wipeR ρ vs) vs1 (ds.drop (i + 1)) s).bind fun r s => fin (ad5 ++ (r1 ++ r)) s) F θ H Q := hp6
                          obtain ⟨xu, wu⟩ := up_acc (o := .lst (acc5 ++ [yv])) off_same ((x5.trans x6).trans x7) w7 nF7 nt7 (by rw [hD7]; simp)
                          have hlen : acc5.length < sizeLine ∧ Post c E (rF c) ((compL p1 t1 e (wipeR ρ1 vs1) (ds1.drop (j + 1)) s7).bind fun r1 s => (compL2 p t w1 p1 t1 e (wipeR ρ vs) vs1 (ds.drop (i + 1)) s).bind fun r s => fin ((ad5 ++ [yd]) ++ (r1 ++ r)) s) F θ H Q := by
                            have n1 := compL_nx (p := p1) (t := t1) (e := e) (ρ := wipeR ρ1 vs1) (ds1.drop (j + 1)) s7
                            cases zr : compL p1 t1 e (wipeR ρ1 vs1) (ds1.drop (j + 1)) s7 with
                            | bad => rw [zr] at hp7; exact hp7.elim
                            | exc k fs s8 => rw [zr] at n1; cases n1
                            | ok r1 s8 =>
                              rw [zr] at hp7
                              have hp8 : Post c E (rF c) ((compL2 p t w1 p1 t1 e (wipeR ρ vs) vs1 (ds.drop (i + 1)) s8).bind fun r s => fin (ad5 ++ ((yd :: r1) ++ r)) s) F θ H Q := hp7
                              show _ ∧ Post c E (rF c) ((compL2 p t w1 p1 t1 e (wipeR ρ vs) vs1 (ds.drop (i + 1)) s8).bind fun r s => fin ((ad5 ++ [yd]) ++ (r1 ++ r)) s) F θ H Q
                              have n2 := compL2_nx (p := p) (t := t) (w1 := w1) (p1 := p1) (t1 := t1) (e := e) (ρ := wipeR ρ vs) (vs1 := vs1) (ds.drop (i + 1)) s8
                              cases zq : compL2 p t w1 p1 t1 e (wipeR ρ vs) vs1 (ds.drop (i + 1)) s8 with
                              | bad => rw [zq] at hp8; exact hp8.elim
                              | exc k fs s8 => rw [zq] at n2; cases n2
                              | ok r s9 =>
                                rw [zq] at hp8
                                have hp9 : Post c E (rF c) (fin (ad5 ++ ((yd :: r1) ++ r)) s9) F θ H Q := hp8
                                show _ ∧ Post c E (rF c) (fin ((ad5 ++ [yd]) ++ (r1 ++ r)) s9) F θ H Q
                                have e2 : (ad5 ++ [yd]) ++ (r1 ++ r) = ad5 ++ ((yd :: r1) ++ r) := by simp
                                rw [e2]
                                refine ⟨?_, hp9⟩
                                unfold fin at hp9
                                split at hp9
                                · rename_i hz
                                  have hz := of_decide_eq_true hz
                                  have hsl : (1000000 : Nat) < sizeLine := by decide
                                  have := ra5.length
                                  simp only [List.length_append, List.length_cons] at hz
                                  omega
                                · exact hp9.elim
                          exact ⟨acc5, hD7, hlen.1, ⟨F7, θ7, s7, acc5 ++ [yv], ad5 ++ [yd], xu, Le.trans lf5 (Le.trans x6.fr x7.fr), Pre.trans pt5 (Pre.trans x6.th x7.th), wu, nF7, nt7, upd_same, ra7.append (RA.cons ry RA.nil), by omega, hlen.2⟩⟩
                · have ej : j = ds1.length := by omega
                  have e0 : ds1.drop j = [] := List.drop_eq_nil_of_le (by omega)
                  rw [e0] at hp5
                  have hp6 : Post c E (rF c) ((compL2 p t w1 p1 t1 e (wipeR ρ vs) vs1 (ds.drop (i + 1)) s5).bind fun r s => fin (ad5 ++ r) s) F θ H Q := hp5
                  exact .inl ⟨hstop1 j (by omega), ⟨F5, θ5, s5, acc5, ad5, x1m.trans x5, w5, nF5, nt5, hD5, ra5, by omega, hp6⟩⟩
    · have ei : i = ds.length := by omega
      refine .inl ⟨hstop i (by omega), ?_⟩
      have e0 : ds.drop i = [] := List.drop_eq_nil_of_le (by omega)
      rw [e0] at hp1
      have hp2 : Post c E (rF c) (fin (ad ++ []) s1) F θ H Q := hp1
      rw [List.append_nil] at hp2
      unfold fin at hp2
      split at hp2
      · exact hp2 (V.ref Da) F1 θ1 H1 x1 w1' ⟨Da, acc, rfl, hn, nF, nt, hD, ra⟩
      · exact hp2.elim
end
end MX


set_option Elab.async false
set_option linter.all false
set_option maxRecDepth 100000
namespace MX
open PySem PySem.Spec PyProof.Rows L2
section
variable {X : Cx} {tg : Expr}
/-- walking a list or a tuple -/
theorem pi_seq {l : Expr} {te : TE} (hl : PE X l te) : PI X tg l (iSeq X.K te) := by
  constructor
  intro pins s σ H R I h
  refine thn (hl.run pins s σ H _ I h) ?_
  rintro v s1 ⟨x, H1, I1, r1, q1⟩
  have old : s1.heap.objs.size ≤ s1.heap.objs.size := Nat.le_refl _
  have fp1 : ∀ b ∈ [s1.heap.objs.size], FpOk X pins H1 b := by
    intro b hb
    rw [List.mem_singleton.mp hb]
    exact I1.fpOk old (I1.hok.fresh old)
  rcases q1 with ⟨a, e, ⟨xs, hq⟩, q⟩ | ⟨a, e, ⟨xs, hq⟩, q⟩
  · subst e
    cases r1
    obtain ⟨its, rv, p, hz⟩ := I1.list hq
    apply wpAny_pyIter_list p.isList
    have st : (s1.heap.push { cls := .type "list_iterator", data := .fields #[.ref a, .int 0 0] }).IsListIter s1.heap.objs.size a 0 := ⟨_, Heap.get?_push_size _ rfl, rfl, rfl⟩
    exact ⟨_, _, _, _, H1, rfl, I1.kept (t' := s1.toks) (fun b o e => Heap.get?_push_of_some _ e), turn_list a _, st, fp1, q⟩
  · subst e
    cases r1
    obtain ⟨its, rv, p, hz⟩ := I1.tuple hq
    have p' : s1.heap.IsTuple a its.toArray := p
    apply wpAny_pyIter_tuple p'
    have st : (s1.heap.push { cls := .type "tuple_iterator", data := .fields #[.ref a, .int 0 0] }).IsTupleIter s1.heap.objs.size a 0 := ⟨_, Heap.get?_push_size _ rfl, rfl, rfl⟩
    exact ⟨_, _, _, _, H1, rfl, I1.kept (t' := s1.toks) (fun b o e => Heap.get?_push_of_some _ e), turn_tuple a _, st, fp1, q⟩
end

/-! ### iter(tuple), and a walk over an own object whose __iter__ gives it -/
def itT (l : Addr) : Obj := { cls := .type "tuple_iterator", data := .fields #[.ref l, .int 0 0] }
def ItT (l it : Addr) : HO := .ext fun h => h.get? it = some (itT l)
def rItT (K : PySem.W.Frag) (n : Nat) : List V → Hp → VK → Prop := fun xs H Q => ∃ (l : Addr) (zs : List V), xs = [V.ref l] ∧ SqT K H l zs ∧ ∀ it, H it = none → n ≤ it → Q (V.ref it) (upd H it (ItT l it))
section
variable {prog : Program} {w : World} {A : Around} {E : Value → Shared → Prop} {s : Shared} {l : Addr} {items : Array Value}
theorem mx_iterT {Q : Value → Shared → Prop} (hl : s.heap.IsTuple l items) (h : Q (.ref s.heap.objs.size) { s with heap := s.heap.push (itT l) }) :
    wpAny (model prog w) A (call (.builtin "iter") [.ref l]) Q E s := by
  apply Calls.call_function_entry (by decide +kernel) (by decide +kernel) PySem.W.kdk_entry_iter (PySem.W.kdk_args_iter _)
  unfold Builtin.«iter»
  apply wpAny_bind (m := someArgs "iter" 1 2 _)
  apply wpAny_of_eq (a := [Value.ref l]) (by first | rfl | kernel_rfl!)
  show wpAny _ _ (pyIter (.ref l) >>= _) _ _ _
  apply wpAny_bind
  apply wpAny_pyIter_tuple hl
  apply wpAny_pure
  exact ⟨_, rfl, h⟩
end
section
variable {X : Cx}
theorem cr_iterT : CallR X (.builtin "iter") (rItT X.K X.s_0.heap.objs.size) := by
  rintro pins s σ H xs us Q I r ⟨l, zs, rfl, hq, q⟩
  obtain ⟨u, rfl, ru⟩ := vals1 r
  cases ru
  obtain ⟨its, rv, pl, hz⟩ := I.tuple hq
  have pl' : s.heap.IsTuple l its.toArray := pl
  apply mx_iterT pl'
  have ok : ObjOk X.prog X.w (upd H s.heap.objs.size (ItT l s.heap.objs.size)) (s.heap.push (itT l)) s.heap.objs.size (ItT l s.heap.objs.size) := by
    have e := Heap.get?_push_size s.heap (o := itT l) rfl
    exact ⟨e, ⟨_, e⟩, fun h1 h2 q k => k _ q⟩
  exact ⟨V.ref s.heap.objs.size, _, I.laid (t' := s.toks) (fun b u e => Heap.get?_push_of_some _ e) (Nat.le_refl _) ok, rfl, q _ (I.hok.fresh (Nat.le_refl _)) I.sz⟩
end
/-- as FnOk; the promise may speak of the size of the heap at the call -/
structure FnS (P : Program) (w : World) (K : PySem.W.Frag) (mg : Str → Option Value) (base : Heap) (CX : CXT) (k : Nat) (f : Addr) (fd : FuncData) (ps : List Str)
    (sp : Nat → Sp) : Prop where
  len : ∀ n vs H Q E, sp n vs H Q E → vs.length = ps.length
  run : ∀ (A : Around) (outer : List Env) (s : Shared) (H : Hp) (args : Args) (us : List Value) (vs : List V) (Q : VK) (E : XK), Room k A → Env0 P w K mg base A outer s H →
    BindsTo s fd args (ps.zip us) → Vals vs us → sp s.heap.objs.size vs H Q E → codeAny (model P w) A (.call (.ref f) args) (CR CX outer P w H s Q E) s
theorem okS {CX : CXT} {P : Program} {w : World} {K : PySem.W.Frag} {mg : Str → Option Value} {base : Heap} {x qual : Str} {st : Stmt} {f : Addr} {fd : FuncData}
    {N ps : List Str} {k : Nat} {sp : Nat → Sp} (F : Fun K x qual st f fd) (S : FnScope N ps (defScope st)) (len : ∀ n vs H Q E, sp n vs H Q E → vs.length = ps.length)
    (hbody : ∀ (cdv : Value) (A : Around) (outer : List Env) (s : Shared) (H : Hp) (vs : List V) (Q : VK) (E : XK), sp s.heap.objs.size vs H Q E →
      ∃ t, PSs (cxOf CX P w K mg base N qual (defScope st) f cdv A outer s H E) (defBody st) t ∧ t { nx := fun _ H' => Q .non H', rt := Q } (start N vs) H) : FnS P w K mg base CX (k + 1) f fd ps sp := by
  obtain ⟨oc, od, kV, doc, pm, an, cdv, ct, osl, rfl, lk, hcd⟩ := F.ex
  refine ⟨len, ?_⟩
  intro A outer s H args us vs Q E hr e0 hb r hsp
  have stay : ∀ b o, base.get? b = some o → s.heap.get? b = some o := fun b o e => (e0.bs b o e).1
  have KX := e0.mod.kin.keeps stay
  have kinds : ∀ y ∈ ps.zip us, (defScope st).names.lookup y.1 = some .local ∨ ((defScope st).names.lookup y.1 = some .cell ∧ ((cellsFrom (s.heap.objs.size + 1) (defScope st).names []).lookup y.1).isSome = true) := by
    intro y hy
    exact (S.par y.1 (List.of_mem_zip hy).1).imp (fun z => z) fun z => ⟨z, PySem.W.cellsFrom_some _ _ _ (.inl z)⟩
  refine codeAny_call_function hr.depth (KX _ _ lk) rfl S.co S.gen rfl (PySem.W.codeRec_of KX hcd) (hb _ _ _ _ ?_)
  refine wpAny_newFunctionEnv_cells S.kind kinds ?_
  rintro env he s1 y
  subst he
  refine ⟨(e0.mod.nolimit.keeps stay).keeps y.toInCall.keep, codeAny_func ?_⟩
  obtain ⟨t, ht, hq⟩ := hbody cdv A outer s H vs Q E hsp
  have I := inv_start (CX := CX) (E := E) S hr.hd e0 (len _ _ _ _ _ hsp) r y
  refine wpAny_mono (ht.run [] s1 (start N vs) H _ I hq) ?_ fun e s' hs => hs
  intro fl s' hs
  cases fl with
  | ret u =>
    obtain ⟨v, σ', H', J, rv, q⟩ := hs
    exact ⟨v, H', J.os, J.bare, J.base, J.hok, rv, q⟩
  | next =>
    obtain ⟨σ', H', J, q⟩ := hs
    exact ⟨V.non, H', J.os, J.bare, J.base, J.hok, rfl, q⟩
  | brk => exact hs.elim fun _ h => h.elim fun _ h => h.2.elim
  | cont => exact hs.elim fun _ h => h.elim fun _ h => h.2.elim
section
variable {X : Cx} {CX : CXT} {k : Nat} {f C : Addr} {fd : FuncData} {ps : List Str} {sp : Nat → Sp} {E : XK} {tg e : Expr} {te : TE}
def iOwn (K : PySem.W.Frag) (C : Addr) (sp : Nat → Sp) (E : XK) (te : TE) : TI := fun σ H R => te σ H fun x H1 => ∃ a dx fs, x = V.ref a ∧ H1 a = some (.ins C dx fs) ∧
  ∀ n, sp n [V.ref a] H1 (fun v H2 => ∃ l it, v = V.ref it ∧ n ≤ it ∧ H2 it = some (ItT l it) ∧ R (Itt K l) (ItX.dropH H2 it)) E
theorem pi_own (he : PE X e te) (F : FnS X.prog X.w X.K X.mg X.base CX k f fd ps sp) (hr : Room k X.A) (hs : PySem.W.findIn X.K (.ref C) "__iter__" = some (some (.ref f))) (hf : PySem.W.isFn X.K (.ref f) = true) (hb : Binds X.K fd ps []) (hx : Passes CX X E) :
    PI X tg e (iOwn X.K C sp E te) := by
  constructor
  intro pins s σ H R I h
  refine thn (he.run pins s σ H _ I h) ?_
  rintro v s1 ⟨x, H1, I1, r1, a, dx, fs, rfl, ha, hsp⟩
  cases r1
  obtain ⟨mA, J, _⟩ := ins_get I1.hok ha
  obtain ⟨od, J, _⟩ := J.look
  obtain ⟨m, hF⟩ := I1.fr
  apply PySem.W.owit_iter hF I1.ok.mod.kin J hs hf
  have hsp := hsp s1.heap.objs.size
  have hl := F.len _ _ _ _ _ hsp
  have bt : BindsTo s1 fd ⟨[.ref a], []⟩ (ps.zip [.ref a]) := by
    have := hb s1 [.ref a] I1.kIn (by simpa using hl)
    simpa using this
  apply wpAny_call
  refine codeAny_mono (F.run X.A X.stack s1 H1 ⟨[.ref a], []⟩ [.ref a] [V.ref a] _ E hr I1.env0 bt (.cons rfl .nil) hsp) ?_
  intro r s' hq
  cases r with
  | error e => exact hx pins σ H1 s1 e s' I1 hq
  | ok fl =>
    cases fl with
    | next => exact hq.elim
    | brk => exact hq.elim
    | cont => exact hq.elim
    | ret u =>
      obtain ⟨v, H2, I2, rv, l, it, rfl, young, hit, q⟩ := I1.after hq
      cases rv
      have eo : s'.heap.get? it = some (itT l) := (I2.hok it _ hit).1
      have st : s'.heap.IsTupleIter it l 0 := ⟨_, eo, rfl, rfl⟩
      unfold PySem.W.OwitIt
      refine wpAny_specialOf (name := Str.ofString "__next__") st.typeIs PySem.F.slot_tuple_iterator_next.lookup ?_
      exact ⟨it, [it], _, _, ItX.dropH H2 it, rfl, ItX.inv_drop I2 hit, turn_tuple l it, st, fun b hb => by
        rw [List.mem_singleton.mp hb]
        exact I1.fpOk young ItX.dropH_same, q⟩
end
end MX


set_option Elab.async false
set_option linter.all false
set_option maxRecDepth 100000
namespace MX
open PySem PySem.Spec PyProof.Rows L2
section
variable {c : Cs} {E : XK} {F H : Hp} {θ : List Addr}
/-! ### a star among the arguments; unary minus -/
def dStarF (ea : Fn D) (er : Fn (List D)) : Fn (List D) := fun ρ s => (ea ρ s).bind fun a s => match frzD a with
  | some xs => (er ρ s).bind fun r s => .ok (xs ++ r) s
  | none => .bad
theorem frz_of {s : Sto} (w : WOk c s F θ H) {v : V} {d : D} {ds : List D} (h : R c F θ v d) (e : frzD d = some ds) : ∃ a xs, v = V.ref a ∧ (SqT c.K H a xs ∨ SqL c.K H a xs) ∧ RA c F θ xs ds := by
  cases d with
  | tup es => cases e; obtain ⟨a, xs, r, ha, q⟩ := r_tup_inv h; exact ⟨a, xs, r, .inl (w.sub.t ha.t), q⟩
  | lst es => cases e; obtain ⟨a, xs, r, ha, q⟩ := r_lst_inv h; exact ⟨a, xs, r, .inr (SqL.of (w.sub _ _ ha)), q⟩
  | ro es => cases e; obtain ⟨a, xs, r, ha, q⟩ := r_ro_inv h; exact ⟨a, xs, r, .inr (w.sub.l ha), q⟩
  | _ => cases e
theorem den_star {te : TE} {tr : TA} {ea : Fn D} {er : Fn (List D)} (ha : DenE c E te ea) (hr : DenA c E tr er) : DenA c E (StX.tStar c.K te tr) (dStarF ea er) := by
  refine den_bind (K := fun σ x H1 Q => ∃ p xs, x = V.ref p ∧ (SqT c.K H1 p xs ∨ SqL c.K H1 p xs) ∧ tr σ H1 fun ys H2 => Q (xs ++ ys) H2) ha fun H0 σ ρ s F θ H Hi x a Q he hw q hp => ?_
  cases z : frzD a with
  | none => simp only [z] at hp; exact hp.elim
  | some xs =>
    simp only [z] at hp
    obtain ⟨p, us, e1, sq, ra⟩ := frz_of hw q z
    refine ⟨p, us, e1, sq, ?_⟩
    refine hr H0 σ ρ s F θ H _ he hw ?_
    cases e : er ρ s with
    | ok b s' =>
      rw [e] at hp
      exact fun y F' θ' H' ex w q2 => hp (us ++ y) F' θ' H' ex w ((RA.mono ex.fr ex.th xs ra).append q2)
    | exc k fs s' => rw [e] at hp; exact hp
    | bad => rw [e] at hp; exact hp
def fNeg : D → Sto → Option D := fun a _ => match a with
  | .int i => some (.int (-i))
  | _ => none
theorem ud_neg : UnD c (rU fun i => .int (-i)) fNeg := by
  intro s F θ H x a w hx Q d e k
  cases a with
  | int i =>
    cases e
    rw [r_int_inv hx]
    exact ⟨i, rfl, k _ F H (Ext.refl _ _ _) w (by unfold R; rfl)⟩
  | _ => cases e

/-! ### an own object that is walked: its __iter__ gives iter(a tuple) -/
def tupD : D → Option (List D)
  | .tup ds => some ds
  | _ => none
abbrev Mi := List D → Sto → Res (List D)
def spIt (c : Cs) (m : Mi) (n : Nat) : Sp := fun vs H Q E => vs.length = 1 ∧ ∃ F θ s ds, WOk c s F θ H ∧ RA c F θ vs ds ∧ match m ds s with
  | .ok xs s' => ∀ l us F' θ' H' it, Ext F θ H F' θ' H' → WOk c s' F' θ' H' → SqT c.K F' l us → RA c F' θ' us xs → n ≤ it → H' it = none → Q (V.ref it) (upd H' it (ItT l it))
  | .exc k fs s' => ∀ F' θ' H' dx, Ext F θ H F' θ' H' → WOk c s' F' θ' H' → XRep c F' θ' dx k fs → E (.ref (c.xc k)) dx H'
  | .bad => False
def itD (n : Nat) (e : Fn D) : Mi := fun ds s => (e (startR n ds) s).bind fun d s => Res.ofO (tupD d) s
/-- the body return iter(e) -/
theorem iter_ok {N : List Str} {n : Nat} {te : TE} {e : Fn D} {vs : List V} {H : Hp} {Q : VK} {E : XK} (ht : DenE c E te e) (h : spIt c (itD N.length e) n vs H Q E) :
    tRet (tCB (rItT c.K n) (tCons te tNil)) { nx := fun _ H' => Q .non H', rt := Q } (L2.start N vs) H := by
  obtain ⟨_, F, θ, s, ds, w, r, hp⟩ := h
  refine ht ⟨H, 0⟩ (L2.start N vs) (startR N.length ds) s F θ H _ (start_ok r) w ?_
  unfold itD at hp
  cases z : e (startR N.length ds) s with
  | bad => rw [z] at hp; exact hp.elim
  | exc k fs s' => rw [z] at hp; exact hp
  | ok d s' =>
    rw [z] at hp
    intro v F' θ' H' x w' q
    have q : R c F' θ' v d := q
    cases d with
    | tup xs =>
      obtain ⟨p, us, e1, ht, ra⟩ := r_tup_inv q
      exact ⟨p, us, by rw [e1], w'.sub.t ht.t, fun it hn hy => hp p us F' θ' H' it x w' ht.t ra hy hn⟩
    | _ => exact hp.elim
def wOwn (k : Nat) (m : Mi) (e : Fn D) : Fn (List D) := fun ρ s => (e ρ s).bind fun d s => match d with
  | .obj k' ds => if k' = k then m [.obj k' ds] s else .bad
  | _ => .bad
theorem src_own {k : Nat} {m : Mi} {te : TE} {e : Fn D} (h : DenE c E te e) : SrcS c E (iOwn c.K (c.cl k) (spIt c m) E te) (wOwn k m e) := by
  refine den_bind (r2 := rIS c) (K := fun σ x H1 Q => ∃ a dx fs, x = V.ref a ∧ H1 a = some (.ins (c.cl k) dx fs) ∧ ∀ n, spIt c m n [V.ref a] H1 (fun v H2 => ∃ l it, v = V.ref it ∧ n ≤ it ∧ H2 it = some (ItT l it) ∧ Q (Itt c.K l) (ItX.dropH H2 it)) E) h fun H0 σ ρ s F θ H Hi x a Q he hw q hp => ?_
  cases a with
  | obj k' ds =>
    dsimp only at hp
    split at hp
    · rename_i ek
      subst ek
      have q : R c F θ x (.obj k' ds) := q
      obtain ⟨p, dx, fs, e1, hH, hn, r⟩ := r_obj_inv q
      subst e1
      refine ⟨p, dx, fs, rfl, hw.sub _ _ hH, fun n => ⟨rfl, F, θ, s, _, hw, RA.cons q RA.nil, ?_⟩⟩
      cases z : m [.obj k' ds] s with
      | bad => rw [z] at hp; exact hp.elim
      | exc k fs s' => rw [z] at hp; exact hp
      | ok xs s' =>
        rw [z] at hp
        intro l us F' θ' H' it x w' hq ra hy hf
        refine ⟨l, it, rfl, hy, upd_same, ?_⟩
        unfold ItT
        rw [ItX.dropH_upd hf]
        exact hp _ F' θ' H' x w' (itt_of hq ra)
    · exact hp.elim
  | _ => exact hp.elim
end
end MX


set_option Elab.async false
set_option linter.all false
set_option maxRecDepth 100000
namespace MX
open PySem PySem.Spec PyProof.Rows L2
/-! ### enumerate(a tuple) -/
set_option maxHeartbeats 1000000 in
theorem mx_enum1 {v : Value} {o : Obj} {H : Heap → Prop} (B : Begins v o H) :
    Meets (Builtin.«enumerate.__new__» ⟨[.type "enumerate", v], []⟩) (fun _ R s => H s.heap ∧
      R (.ok (.ret (.ref (s.heap.push o).objs.size)))
        { s with heap := (s.heap.push o).push { cls := .type "enumerate", data := .fields #[.none, .bool false, .ref s.heap.objs.size, rawInt 0, .none, .none] } }) := by
  refine .of_wp ?_
  intro prog w A R s h
  obtain ⟨hp, g, d, tk, os⟩ := s
  obtain ⟨h1, h⟩ := h
  have hsub := sub_enumerate
  have q1 : ∀ {A' : Around} {E : Value → Shared → Prop} {Q : Value → Shared → Prop}, Q (.ref hp.objs.size) ⟨hp.push o, g, d, tk, os⟩ → wpAny (model prog w) A' (pyIter v) Q E ⟨hp, g, d, tk, os⟩ := by
    intro A' E Q q
    exact B.iter prog w _ _ ⟨hp, g, d, tk, os⟩ _ h1 q
  wp_walk using q1
  refine wpAny_stack_any fun st => ?_
  apply wpAny_pure
  split
  · rename_i cc _ _ _ _ _
    cases (cc == Value.type "enumerate") <;> (wp_walk using q1; exact ⟨_, rfl, h⟩)
  · wp_walk using q1
    exact ⟨_, rfl, h⟩
theorem mx_enumT {prog : Program} {w : World} {A : Around} {E : Value → Shared → Prop} {s : Shared} {l : Addr} {items : Array Value} {Q : Value → Shared → Prop} (hl : s.heap.IsTuple l items)
    (h : ∀ h', IsEnum h' (s.heap.objs.size + 1) s.heap.objs.size 0 .none → h'.IsTupleIter s.heap.objs.size l 0 → (∀ b o, s.heap.get? b = some o → h'.get? b = some o) →
      Q (.ref (s.heap.objs.size + 1)) { s with heap := h' }) : wpAny (model prog w) A (call (.type "enumerate") [.ref l]) Q E s := by
  refine callType_new PySem.F.called_enumerate (by decide) (PySem.F.typeCall_enumerate_1 _) (PySem.F.newCall_enumerate_1 _) (fun obj => PySem.F.args_object_init_2 obj _) PySem.F.entry_enumerate_new (mx_enum1 (begins_tuple l items)) ⟨hl, ?_⟩
  have size1 : (s.heap.push (itT l)).objs.size = s.heap.objs.size + 1 := Heap.size_push ..
  have at1 := Heap.get?_push_size s.heap (o := itT l) rfl
  have at2 := Heap.get?_push_size (s.heap.push (itT l)) (o := { cls := .type "enumerate", data := .fields #[.none, .bool false, .ref s.heap.objs.size, rawInt 0, .none, .none] }) rfl
  rw [size1] at at2
  show _ ∧ _
  unfold itT at size1 at1 at2
  rw [size1]
  exact ⟨⟨_, at2, rfl⟩, h _ at2 ⟨_, Heap.get?_push_of_some _ at1, rfl, rfl⟩ fun b o x => Heap.get?_push_of_some _ (Heap.get?_push_of_some _ x)⟩
def IteT (K : PySem.W.Frag) (a : Addr) : It where
  go := fun i H => ∃ (xs : List V) (x : V), SqT K H a xs ∧ xs[i]? = some x
  yld := fun i H v H' => ∃ T x, v = V.ref T ∧ H T = none ∧ H' = upd H T (.tup [.int (i : Nat), x]) ∧ ∀ xs, SqT K H a xs → xs[i]? = some x
  stop := fun i H => ∃ xs : List V, SqT K H a xs ∧ xs.length ≤ i
theorem turn_enumT {P : Program} {w : World} {K : PySem.W.Frag} {elts : List Expr} {kk : Nat} {tpos : Pos} (a e it : Addr) :
    Turn P w K (.Tuple elts kk tpos) (IteT K a) [e, it] e (fun i h => (∃ old, IsEnum h e it ((i : Nat) : Int) old) ∧ h.IsTupleIter it a i ∧ e ≠ it ∧ a ≠ it ∧ a ≠ e) where
  mem := by simp
  obj := by
    rintro i h ⟨⟨old, he⟩, ⟨o, ho, hc, hd⟩, _⟩ b hb
    rcases List.mem_cons.mp hb with z | z
    · rw [z]; exact ⟨_, he, fun v q => nomatch q⟩
    · rw [List.mem_singleton.mp z]; exact ⟨o, ho, fun v q => by rw [hd] at q; cases q⟩
  keep := by
    rintro i h h' ⟨⟨old, he⟩, hi, hne⟩ k
    exact ⟨⟨old, k e (by simp) _ he⟩, hi.at fun o q => k it (by simp) o q, hne⟩
  item := by
    intro X hP hw hK hc i pins s σ H E I hf st hg
    subst hP hw hK
    obtain ⟨⟨old, he⟩, hit, hne, hna, hnb⟩ := st
    obtain ⟨xs, x, hq, hx⟩ := hg
    obtain ⟨its, rv, p, hz⟩ := I.tuple hq
    have p' : s.heap.IsTuple a its.toArray := p
    obtain ⟨u, hu, ru⟩ := rv.get hx
    have hel : e < s.heap.objs.size := Heap.lt_size he
    have hil : it < s.heap.objs.size := by
      obtain ⟨_, q, _⟩ := hit
      exact Heap.lt_size q
    have lim : i < its.toArray.size := by
      have := (List.getElem?_eq_some_iff.mp hu).1
      simpa using this
    refine wpAny_pyNext_enum_itemD (Draws.tuple (prog := X.prog) (w := X.w) (A := X.A.in1) (I.ok.hd hc) it a hna its.toArray) he ⟨hit, p'⟩ lim hne (by simp [hne, Ne.symm hnb]) ?_
    intro y h' tk hy ho hit' hT hsz hk
    have ey : y = u := by
      have : its[i]? = some y := by simpa using hy
      rw [hu] at this
      exact (Option.some.inj this).symm
    subst ey
    refine ⟨_, rfl, wpAny_letOwnedTupleGo_enum (s := { s with heap := h', toks := tk + 1 }) ho ?_⟩
    intro h'' he' sb
    have hT2 : h''.get? s.heap.objs.size = some { cls := .type "tuple", data := .seq #[.int i tk, y] } := (sb.2 _ (Nat.ne_of_gt hel)).trans hT
    have new : ObjOk X.prog X.w (upd H s.heap.objs.size (.tup [.int (i : Nat), x])) h'' s.heap.objs.size (.tup [.int (i : Nat), x]) :=
      ⟨by show 2 ≤ sizeLine; decide, [.int i tk, y], .cons ⟨_, rfl⟩ (.cons ru .nil), ⟨_, hT2, rfl, _, rfl⟩⟩
    have I1 : Inv X pins σ (upd H s.heap.objs.size (.tup [.int (i : Nat), x])) { s with heap := h'', toks := tk + 1 } := by
      refine I.turnedNew (ch := [e, it]) ?_ hf (Nat.le_refl _) new
      intro b o hb q
      have n1 : b ≠ e := fun z => hb (by simp [z])
      have n2 : b ≠ it := fun z => hb (by simp [z])
      exact (sb.2 b n1).trans (hk b o n1 n2 q)
    refine ⟨.ref s.heap.objs.size, _, I1, rfl, ⟨_, x, rfl, I.hok.fresh (Nat.le_refl _), rfl, fun ys hy => by rw [I.tuple_inj hy hq]; exact hx⟩, ⟨⟨y, ?_⟩, ?_, hne, hna, hnb⟩, ?_⟩
    · have e1 : ((i + 1 : Nat) : Int) = (i : Int) + 1 := by omega
      rw [e1]
      exact he'
    · exact hit'.1.at fun o q => (sb.2 it (Ne.symm hne)).trans q
    · intro b hb
      have hb' : b < s.heap.objs.size := by
        rcases List.mem_cons.mp hb with z | z
        · rw [z]; exact hel
        · rw [List.mem_singleton.mp z]; exact hil
      rw [upd_ne (Nat.ne_of_lt hb')]
      exact (hf b hb).1
  done := by
    intro X hP hw hK hc i pins s σ H E I hf st hg
    subst hP hw hK
    obtain ⟨⟨old, he⟩, hit, hne, hna, hnb⟩ := st
    obtain ⟨xs, hq, hx⟩ := hg
    obtain ⟨its, rv, p, hz⟩ := I.tuple hq
    have p' : s.heap.IsTuple a its.toArray := p
    obtain ⟨f0, f1, f2, f3, f4, f5⟩ := hf it (by simp)
    have hl := rv.length
    have out : its.toArray[i]? = none := by
      have : its.length ≤ i := by omega
      simpa using this
    have D : Draws X.prog X.w X.A.in1 it [it, a] i (fun _ _ => True) (fun j h => (h.IsTupleIter it a j ∧ h.IsTuple a its.toArray) ∧ i ≤ j) := by
      constructor
      · rintro j h ⟨⟨⟨o, ho, _⟩, _⟩, _⟩
        exact ⟨o, ho⟩
      · rintro j h h2 ⟨⟨y1, y2⟩, y3⟩ hk
        exact ⟨⟨y1.at fun o e => hk it (by simp) o e, y2.at fun o e => hk a (by simp) o e⟩, y3⟩
      · rintro j s2 Q E2 hj ⟨_, y3⟩ _
        omega
      · rintro s2 Q E2 ⟨⟨y1, y2⟩, _⟩ hE
        exact wpAny_nextOf_tuple_end (A := X.A.in1) (I.ok.hd hc) y1 y2 out hE
    exact wpAny_pyNext_enum_endD D he ⟨⟨hit, p'⟩, Nat.le_refl _⟩ fun h' eb => ⟨rfl, I.turned (t' := s.toks) (fun b o hb q => eb b o hb q) f0 f1 f3 f4 f5⟩
  self := by
    rintro A i s Q E ⟨⟨_, he⟩, _⟩ h
    exact wpAny_pyIter_enum he h
def iEnT (K : PySem.W.Frag) (ta : TA) : TI := fun σ H R => ta σ H fun vs H1 => ∃ a xs, vs = [V.ref a] ∧ SqT K H1 a xs ∧ R (IteT K a) H1
theorem pi_enT {X : Cx} {e : Expr} {ta : TA} {p pos tpos : Pos} {elts : List Expr} {kk : Nat} (hg : Gl X "enumerate") (hm : X.mg "enumerate" = none) (ha : PA X [e] ta) (hs : starEach [e] X.env = [(false, eval e X.env)] := by rfl) :
    PI X (.Tuple elts kk tpos) (.Call (.Name "enumerate" p) [e] [] pos) (iEnT X.K ta) := by
  constructor
  intro pins s σ H R I h
  refine Call_ (ld_blt I hg hm boot_enumerate (PyProof.Rows.callWith_type1 (thn (ha.run pos pins s σ H _ I h) ?_) hs rfl))
  rintro us s1 ⟨vs, H1, I1, r1, a, xs, rfl, hq, q⟩
  obtain ⟨u, rfl, ru⟩ := vals1 r1
  cases ru
  obtain ⟨its, rv, p', hz⟩ := I1.tuple hq
  have p2 : s1.heap.IsTuple a its.toArray := p'
  have la : a < s1.heap.objs.size := by
    obtain ⟨_, q, _⟩ := id p2
    exact Heap.lt_size q
  refine mx_enumT p2 fun h' he hit hk => wpAny_pyIter_enum he ?_
  refine ⟨s1.heap.objs.size + 1, [s1.heap.objs.size + 1, s1.heap.objs.size], _, _, H1, rfl, I1.kept (t' := s1.toks) hk, turn_enumT a (s1.heap.objs.size + 1) s1.heap.objs.size, ⟨⟨.none, he⟩, hit, Nat.succ_ne_self _, Nat.ne_of_lt la, Nat.ne_of_lt (Nat.lt_succ_of_lt la)⟩, ?_, q⟩
  intro b hb
  have hle : s1.heap.objs.size ≤ b := by
    rcases List.mem_cons.mp hb with z | z
    · rw [z]; exact Nat.le_succ _
    · rw [List.mem_singleton.mp z]; exact Nat.le_refl _
  exact I1.fpOk hle (I1.hok.fresh hle)

/-! ### a loop whose turns are told together with the target -/
section
variable {c : Cs} {E : XK}
def IterP (c : Cs) (p : Pt) (J : It) (ds : List D) (F : Hp) (θ : List Addr) : Prop := ∀ (F2 : Hp) (θ2 : List Addr) (H2 : Hp) (s : Sto), Le F F2 → Pre θ θ2 → WOk c s F2 θ2 H2 →
  (∀ i d, ds[i]? = some d → J.go i H2 ∧ ∀ x H', J.yld i H2 x H' → Ext F2 θ2 H2 F2 θ2 H' ∧ WOk c s F2 θ2 H' ∧ ∀ (H0 : En) (σ : L2.St) (ρ ρ' : List Sl) (Q : L2.St → Hp → Prop), EnvOk c H0 F2 θ2 H' σ ρ → setP p ρ d = some ρ' →
    (∀ σ', EnvOk c H0 F2 θ2 H' σ' ρ' → Q σ' H') → gP c.K p x σ H' Q) ∧ ∀ i, ds.length ≤ i → J.stop i H2
def rIP (c : Cs) (p : Pt) : Rel c It (List D) := ⟨fun _ F θ _ J ds => IterP c p J ds F θ, fun _ _ _ _ _ _ _ _ h => h⟩
theorem dn_forP {wi : TI} {w : Fn (List D)} {p : Pt} {tb : TS} {b : Sf} (hs : Den c E (rIP c p) wi w) (hb : DenS c E tb b) : DenS c E (tFor wi (gP c.K p) tb) (sFor w p b) := by
  refine dn_bind (K := fun Dn σ J H1 => ∃ W : Nat → Nat → L2.St → Hp → Prop, (∃ m, W 0 m σ H1) ∧ ∀ i m σ H, W i m σ H →
    (J.stop i H ∧ Dn.nx σ H) ∨ (J.go i H ∧ ∃ N : L2.St → Hp → Prop, (∀ σ' H', N σ' H' → ∃ m', m' < m ∧ W (i + 1) m' σ' H') ∧ ∀ x H', J.yld i H x H' → gP c.K p x σ H' fun σ2 H2 => tb { Dn with nx := N, ct := N, bk := Dn.nx } σ2 H2)) hs fun H0 F0 θ0 σ ρ s F θ H Hi J ds Dn s0 F1 θ1 x0 he0 x w hit hp => ?_
  have hit : IterP c p J ds F θ := hit
  let Inv : Nat → L2.St → Hp → Prop := fun i σ1 H1 => ∃ (F2 : Hp) (θ2 : List Addr) (s1 : Sto) (ρ1 : List Sl), Ext F0 θ0 H0 F2 θ2 H1 ∧ Le F F2 ∧ Pre θ θ2 ∧ WOk c s1 F2 θ2 H1 ∧ EnvOk c H0 F2 θ2 H1 σ1 ρ1 ∧ i ≤ ds.length ∧ PostS c E (forL p b (ds.drop i) ρ1 s1) H0 F0 θ0 Dn
  refine ⟨fun i m σ1 H1 => m = ds.length - i ∧ Inv i σ1 H1, ⟨ds.length, by simp, ⟨F, θ, s, ρ, x0.trans x, Le.refl F, Pre.refl θ, w, he0.ext x, Nat.zero_le _, by rw [List.drop_zero]; exact hp⟩⟩, ?_⟩
  rintro i m σ1 H1 ⟨rfl, F2, θ2, s1, ρ1, x1, l1, p1, w1, he1, hi, hp1⟩
  obtain ⟨hgo, hstop⟩ := hit F2 θ2 H1 s1 l1 p1 w1
  by_cases hlt : i < ds.length
  · obtain ⟨d, hd⟩ : ∃ d, ds[i]? = some d := ⟨ds[i], List.getElem?_eq_getElem hlt⟩
    obtain ⟨g1, g2⟩ := hgo i d hd
    refine .inr ⟨g1, Inv (i + 1), fun σ' H' h' => ⟨ds.length - (i + 1), by omega, rfl, h'⟩, fun y H' hy => ?_⟩
    obtain ⟨xy, wy, gy⟩ := g2 y H' hy
    have hdr : ds.drop i = d :: ds.drop (i + 1) := by
      rw [List.drop_eq_getElem_cons hlt]
      rw [List.getElem?_eq_getElem hlt] at hd
      rw [Option.some.inj hd]
    rw [hdr] at hp1
    unfold forL at hp1
    have x1 := x1.trans xy
    cases z : setP p ρ1 d with
    | none => rw [z] at hp1; exact hp1.elim
    | some ρ2 =>
      rw [z] at hp1
      dsimp only at hp1
      refine gy H0 σ1 ρ1 ρ2 _ (he1.ext xy) z fun σ2 he2 => ?_
      refine hb H0 F2 θ2 σ2 ρ2 s1 F2 θ2 H' _ x1.rebase wy he2 ?_
      cases zb : b ρ2 s1 with
      | next ρ3 s3 =>
        rw [zb] at hp1
        exact fun σ3 F3 θ3 H3 x3 w3 he3 => ⟨F3, θ3, s3, ρ3, x1.comp x3, l1.trans x3.fr, p1.trans x3.th, w3, he3, hlt, hp1⟩
      | cont ρ3 s3 =>
        rw [zb] at hp1
        exact fun σ3 F3 θ3 H3 x3 w3 he3 => ⟨F3, θ3, s3, ρ3, x1.comp x3, l1.trans x3.fr, p1.trans x3.th, w3, he3, hlt, hp1⟩
      | brk ρ3 s3 =>
        rw [zb] at hp1
        exact fun σ3 F3 θ3 H3 x3 w3 he3 => hp1 σ3 F3 θ3 H3 (x1.comp x3) w3 he3
      | ret d s3 =>
        rw [zb] at hp1
        exact fun v F3 θ3 H3 x3 w3 r3 => hp1 v F3 θ3 H3 (x1.comp x3) w3 r3
      | exc k fs s3 =>
        rw [zb] at hp1
        exact fun F3 θ3 H3 dx x3 w3 r3 => hp1 F3 θ3 H3 dx (x1.comp x3) w3 r3
      | bad => rw [zb] at hp1; exact hp1.elim
  · refine .inl ⟨hstop i (by omega), ?_⟩
    have e0 : ds.drop i = [] := List.drop_eq_nil_of_le (by omega)
    rw [e0] at hp1
    exact hp1 σ1 F2 θ2 H1 x1 w1 he1
def enumD : Nat → List D → List D
  | _, [] => []
  | i, d :: ds => .tup [.int (i : Nat), d] :: enumD (i + 1) ds
theorem enumD_get : ∀ {ds : List D} {n i : Nat} {d : D}, (enumD n ds)[i]? = some d → ∃ e, ds[i]? = some e ∧ d = .tup [.int ((n + i : Nat) : Int), e]
  | [], n, i, d, h => by simp [enumD] at h
  | x :: xs, n, 0, d, h => by
    simp [enumD] at h
    exact ⟨x, by simp, by rw [← h]; rfl⟩
  | x :: xs, n, i + 1, d, h => by
    have h : (enumD (n + 1) xs)[i]? = some d := by simpa [enumD] using h
    obtain ⟨e, h1, h2⟩ := enumD_get h
    have e1 : n + 1 + i = n + (i + 1) := by omega
    exact ⟨e, by simpa using h1, by rw [h2, e1]⟩
theorem enumD_len : ∀ {ds : List D} {n : Nat}, (enumD n ds).length = ds.length
  | [], _ => rfl
  | _ :: xs, n => by simp [enumD, enumD_len (ds := xs) (n := n + 1)]
def wEnT (e : Fn (List D)) : Fn (List D) := fun ρ s => (e ρ s).bind fun a s => match a with
  | [.tup ds] => .ok (enumD 0 ds) s
  | _ => .bad
theorem src_enT {ta : TA} {e : Fn (List D)} {p : Pt} (h : DenA c E ta e) : Den c E (rIP c (.tup p)) (iEnT c.K ta) (wEnT e) := by
  refine den_bind (r2 := rIP c (.tup p)) (K := fun σ vs H1 Q => ∃ a xs, vs = [V.ref a] ∧ SqT c.K H1 a xs ∧ Q (IteT c.K a) H1) h fun H0 σ ρ s F θ H Hi x a Q he hw q hp => ?_
  have q : RA c F θ x a := q
  split at hp
  · rename_i ds q0
    obtain ⟨v, rfl, hv⟩ := ra1 q
    obtain ⟨l, us, rfl, hl, ra⟩ := r_tup_inv hv
    refine ⟨l, us, rfl, hw.sub.t hl.t, hp _ F θ H (Ext.refl _ _ _) hw ?_⟩
    intro F2 θ2 H2 s2 l2 p2 w2
    have sq : SqT c.K H2 l us := w2.sub.t (l2.t hl.t)
    have r2 := RA.mono l2 p2 ds ra
    refine ⟨?_, ?_⟩
    · intro i d hd
      obtain ⟨e, he1, rfl⟩ := enumD_get hd
      obtain ⟨u, hu, ru⟩ := r2.get' he1
      refine ⟨⟨us, u, sq, hu⟩, ?_⟩
      rintro y H' ⟨T, z, rfl, hT, rfl, hz⟩
      have ez : z = u := by
        have := hz us sq
        rw [hu] at this
        exact (Option.some.inj this).symm
      subst ez
      have wn := w2.newH (o := .tup [.int (i : Nat), z]) hT
      refine ⟨Ext.newH hT, wn, ?_⟩
      intro H0 σ ρ ρ' Q he hs k
      unfold setP at hs
      dsimp only at hs
      split at hs
      · rename_i hlen
        refine ⟨T, [.int (i : Nat), z], rfl, ?_, by rw [← hlen]; rfl, ?_⟩
        · exact SqT.of upd_same
        · refine gPs_ok wn p σ ρ ρ' _ _ Q he (RA.cons ?_ (RA.cons ru RA.nil)) hs fun σ' h' _ => k σ' h'
          rw [Nat.zero_add]
          unfold R
          rfl
      · cases hs
    · intro i hi
      rw [enumD_len] at hi
      exact ⟨us, sq, by rw [r2.length]; exact hi⟩
  · exact hp.elim
end
end MX


set_option Elab.async false
set_option linter.all false
set_option maxRecDepth 100000
namespace MX
open PySem PySem.Spec PyProof.Rows L2
section
variable {c : Cs} {E : XK}
theorem den_yes : DenT c E tYes (fun _ s => .ok true s) := fun H0 σ ρ s F θ H Q he hw hp => hp true F θ H (Ext.refl _ _ _) hw rfl
def eYes : Fn Bool := fun _ s => .ok true s
/-- a promise without exceptions -/
def sp0 (c : Cs) (m : Mf) (n : Nat) : Sp := fun vs H Q _ => spF c m n vs H Q EX0
def spI0 (c : Cs) (k : Nat) (m : List D → Sto → Res (List D)) (n : Nat) : Sp := fun vs H Q _ => spI c k m n vs H Q EX0
def spIt0 (c : Cs) (m : Mi) (k : Nat) : Sp := fun vs H Q _ => spIt c m k vs H Q EX0
theorem den_call0 {m : Mf} {n : Nat} {ta : TA} {ea : Fn (List D)} (ha : DenA c EX0 ta ea) : DenE c EX0 (tCall (sp0 c m n) [] E ta) (dCall m n ea) := den_call ha
theorem den_prop0 {k : Nat} {m : Mf} {t : TE} {e : Fn D} (h : DenE c EX0 t e) : DenE c EX0 (tProp (c.cl k) (sp0 c m 1) [] E t) (dProp k m e) := den_prop h
theorem den_make0 {k n : Nat} {m : List D → Sto → Res (List D)} {ta : TA} {ea : Fn (List D)} (ha : DenA c EX0 ta ea) : DenE c EX0 (tMake (c.cl k) (spI0 c k m n) [] E ta) (dMake k m n ea) := den_make ha
theorem den_lenO0 {k : Nat} {m : Mf} {t : TE} {e : Fn D} (h : DenE c EX0 t e) : DenE c EX0 (tLenO (c.cl k) (sp0 c m 1) E t) (dLenO k m e) := den_lenO h
theorem den_eqO0 {neg : Bool} {k : Nat} {m : Mf} {ta tb : TE} {ea eb : Fn D} (ha : DenE c EX0 ta ea) (hb : DenE c EX0 tb eb) : DenE c EX0 (tOp (rEqO neg (c.cl k) (sp0 c m 2) E) ta tb) (dEqO neg k m ea eb) := den_eqO ha hb
theorem src_own0 {k : Nat} {m : Mi} {te : TE} {e : Fn D} (h : DenE c EX0 te e) : SrcS c EX0 (iOwn c.K (c.cl k) (spIt0 c m) E te) (wOwn k m e) := src_own h
theorem sp0_len {m : Mf} {n : Nat} {vs : List V} {H : Hp} {Q : VK} (h : sp0 c m n vs H Q E) : vs.length = n := h.1
theorem body0 {N : List Str} {n : Nat} {t : TS} {x : Sf} {vs : List V} {H : Hp} {Q : VK} (ht : DenS c EX0 t x) (h : sp0 c (fnD N.length x) n vs H Q E) : t { nx := fun _ H' => Q .non H', rt := Q } (L2.start N vs) H := body_ok ht h
theorem fn_bad {P : Program} {w : World} {K : PySem.W.Frag} {mg : Str → Option Value} {base : Heap} {CX : CXT} {k : Nat} {f : Addr} {fd : FuncData} {ps : List Str} {n : Nat} : FnOk P w K mg base CX k f fd ps (sp0 c (fun _ _ => .bad) n) := by
  have no : ∀ vs H Q E, ¬ sp0 c (fun _ _ => .bad) n vs H Q E := by
    rintro vs H Q E ⟨_, F, θ, s, ds, w, r, hp⟩
    exact hp
  exact ⟨fun vs H Q E h => absurd h (no vs H Q E), fun A outer s H args us vs Q E _ _ _ _ h => absurd h (no vs H Q E)⟩
theorem den_callP0 {m : Mf} {n : Nat} {ta : TA} {ea : Fn (List D)} (ha : DenA c EX0 ta ea) : DenE c EX0 (tCall (sp0 c m n) [] E ta) (dCall (pur m) n ea) := den_callP ha
def dSortL (e : Fn (List D)) : Fn (List D) := fun ρ s => (e ρ s).bind fun ds s => Res.ofO (sortD ds) s
theorem den_sortM {t : TE} {e : Fn (List D)} (h : DenL c E t e) : DenF c E (tCB (rSortD c.K) (tCons t tNil)) (dSortL e) := den_sortL h
theorem pe_globE {X : Cx} {x : Str} {v : V} {pos : Pos} (hg : Gl X x) (h : ∃ u, X.mg x = some u ∧ RelV v u) (hd : (x == ("__debug__" : Str)) = false := by decide) : PE X (.Name x pos) (tC v) := by
  obtain ⟨u, hm, r⟩ := h
  exact pe_glob hg hm r hd
theorem cr_absM {X : Cx} : CallR X (.builtin "abs") rAbs := call_abs
theorem cr_intM {X : Cx} : CallR X (.type "int") rInt1 := call_int1
theorem cr_listM {X : Cx} : CallR X (.type "list") (rListOf X.K) := call_list_of
theorem mbt_len : bootBuiltins "len" = some (.builtin "len") := by decide +kernel
theorem mbt_min : bootBuiltins "min" = some (.builtin "min") := by decide +kernel
theorem mbt_max : bootBuiltins "max" = some (.builtin "max") := by decide +kernel
theorem mbt_sum : bootBuiltins "sum" = some (.builtin "sum") := by decide +kernel
theorem mbt_abs : bootBuiltins "abs" = some (.builtin "abs") := by decide +kernel
theorem mbt_all : bootBuiltins "all" = some (.builtin "all") := by decide +kernel
theorem mbt_any : bootBuiltins "any" = some (.builtin "any") := by decide +kernel
theorem mbt_sorted : bootBuiltins "sorted" = some (.builtin "sorted") := by decide +kernel
theorem mbt_isinstance : bootBuiltins "isinstance" = some (.builtin "isinstance") := by decide +kernel
theorem mbt_iter : bootBuiltins "iter" = some (.builtin "iter") := by decide +kernel
theorem mbt_int : bootBuiltins "int" = some (.type "int") := by decide +kernel
theorem mbt_bool : bootBuiltins "bool" = some (.type "bool") := by decide +kernel
theorem mbt_str : bootBuiltins "str" = some (.type "str") := by decide +kernel
theorem mbt_tuple : bootBuiltins "tuple" = some (.type "tuple") := by decide +kernel
theorem mbt_list : bootBuiltins "list" = some (.type "list") := by decide +kernel
end
end MX


set_option Elab.async false
set_option linter.all false
set_option maxRecDepth 100000
namespace MX
open PySem PySem.Spec PyProof.Rows L2
section
variable {K : PySem.W.Frag} {mg : Str → Option Value} {h : Heap}
/-! ### what stands at the top -/
theorem top_fn {x qual : Str} {st : Stmt} {f : Addr} {oc : Value} {od an : Option Addr} {osl : Array (Option Value)} {kV dc pm cd ct : Value} (X : K.In h) (G : h.Ns mainGlobals mg) (a : PySem.W.nsIn K mainGlobals x = some (some (.ref f)))
    (l : K.lookup f = some ⟨oc, od, .func (PySem.W.fnOf x qual (defArgs st) (defBody st) (defScope st) .none kV dc pm an cd ct), osl⟩) (c : PySem.W.codeIn K cd qual = true) (k : PySem.W.keepIn K (.ref f) = true) :
    ∃ (f : Addr) (fd : FuncData), Fun K x qual st f fd ∧ mg x = some (.ref f) := ⟨f, _, fun_mk l c k, PySem.W.mg_of X G a⟩
theorem top_law {x qual p : Str} {st : Stmt} {f fa : Addr} {oc : Value} {od an : Option Addr} {osl : Array (Option Value)} {kV dc pm cd ct : Value} (X : K.In h) (G : h.Ns mainGlobals mg) (hfa : mg x = some (.ref fa)) (a : PySem.W.nsIn K mainGlobals x = some (some (.ref f)))
    (l : K.lookup f = some ⟨oc, od, .func (PySem.W.fnOf x qual (defArgs st) (defBody st) (defScope st) .none kV dc pm an cd ct), osl⟩) (c : PySem.W.codeIn K cd qual = true) (k : PySem.W.keepIn K (.ref f) = true)
    (b : ∀ v : Value, bindArgs (PySem.W.fnOf x qual (defArgs st) (defBody st) (defScope st) .none kV dc pm an cd ct) ⟨[v], []⟩ = pure [(p, v)]) :
    ∃ fd : FuncData, Fun K x qual st fa fd ∧ mg x = some (.ref fa) ∧ ∀ (s : Shared) (v : Value), BindsTo s fd ⟨[v], []⟩ [(p, v)] := by
  have e := hfa.symm.trans (PySem.W.mg_of X G a)
  cases e
  exact ⟨_, fun_mk l c k, hfa, fun s v => .of_eq (b v)⟩
theorem meth_fn {x qual : Str} {st : Stmt} {C f : Addr} {oc : Value} {od an : Option Addr} {osl : Array (Option Value)} {kV dc pm cd ct : Value} (a : PySem.W.findIn K (.ref C) x = some (some (.ref f)))
    (l : K.lookup f = some ⟨oc, od, .func (PySem.W.fnOf x qual (defArgs st) (defBody st) (defScope st) .none kV dc pm an cd ct), osl⟩) (c : PySem.W.codeIn K cd qual = true) (k : PySem.W.keepIn K (.ref f) = true) (i : PySem.W.isFn K (.ref f) = true) :
    ∃ (f : Addr) (fd : FuncData), Fun K x qual st f fd ∧ PySem.W.findIn K (.ref C) x = some (some (.ref f)) ∧ PySem.W.isFn K (.ref f) = true := ⟨f, _, fun_mk l c k, a, i⟩
theorem prop_fn {x qual : Str} {st : Stmt} {C p f : Addr} {oc : Value} {od an : Option Addr} {osl : Array (Option Value)} {kV dc pm cd ct : Value} {rest : List Value} (a : PySem.W.findIn K (.ref C) x = some (some (.ref p)))
    (g : PySem.W.specialIn K (.ref p) "__get__" = some (some (.builtin "property.__get__"))) (t : PySem.W.takesIn K (.ref p) = some true) (r : PySem.W.recIn K p "property" = some (.ref f :: rest))
    (l : K.lookup f = some ⟨oc, od, .func (PySem.W.fnOf x qual (defArgs st) (defBody st) (defScope st) .none kV dc pm an cd ct), osl⟩) (c : PySem.W.codeIn K cd qual = true) (k : PySem.W.keepIn K (.ref f) = true) :
    ∃ (p f : Addr) (fd : FuncData), Fun K x qual st f fd ∧ PropOf K C x p f := ⟨p, f, _, fun_mk l c k, ⟨a, g, t, ⟨rest, r⟩⟩⟩
theorem top_int {x : Str} {i : Int} {u : Value} (X : K.In h) (G : h.Ns mainGlobals mg) (a : PySem.W.nsIn K mainGlobals x = some (some u)) (r : RelV (.int i) u) : ∃ u, mg x = some u ∧ RelV (.int i) u := ⟨u, PySem.W.mg_of X G a, r⟩
/-- the same, handed on -/
theorem top_fnC {p : Prop} {x qual : Str} {st : Stmt} {f : Addr} {oc : Value} {od an : Option Addr} {osl : Array (Option Value)} {kV dc pm cd ct : Value} (X : K.In h) (G : h.Ns mainGlobals mg) (a : PySem.W.nsIn K mainGlobals x = some (some (.ref f)))
    (l : K.lookup f = some ⟨oc, od, .func (PySem.W.fnOf x qual (defArgs st) (defBody st) (defScope st) .none kV dc pm an cd ct), osl⟩) (c : PySem.W.codeIn K cd qual = true) (k : PySem.W.keepIn K (.ref f) = true)
    (go : ∀ (f : Addr) (fd : FuncData), Fun K x qual st f fd → mg x = some (.ref f) → p) : p := go f _ (fun_mk l c k) (PySem.W.mg_of X G a)
theorem top_lawC {p : Prop} {x qual y : Str} {st : Stmt} {f fa : Addr} {oc : Value} {od an : Option Addr} {osl : Array (Option Value)} {kV dc pm cd ct : Value} (X : K.In h) (G : h.Ns mainGlobals mg) (hfa : mg x = some (.ref fa)) (a : PySem.W.nsIn K mainGlobals x = some (some (.ref f)))
    (l : K.lookup f = some ⟨oc, od, .func (PySem.W.fnOf x qual (defArgs st) (defBody st) (defScope st) .none kV dc pm an cd ct), osl⟩) (c : PySem.W.codeIn K cd qual = true) (k : PySem.W.keepIn K (.ref f) = true)
    (b : ∀ (kV dc pm : Value) (an : Option Addr) (cd ct v : Value), bindArgs (PySem.W.fnOf x qual (defArgs st) (defBody st) (defScope st) .none kV dc pm an cd ct) ⟨[v], []⟩ = pure [(y, v)])
    (go : ∀ (fd : FuncData), Fun K x qual st fa fd → mg x = some (.ref fa) → (∀ (s : Shared) (v : Value), BindsTo s fd ⟨[v], []⟩ [(y, v)]) → p) : p := by
  obtain ⟨fd, h1, h2, h3⟩ := top_law X G hfa a l c k (b kV dc pm an cd ct)
  exact go fd h1 h2 h3
theorem top_intC {p : Prop} {x : Str} {i : Int} {t : Tok} (X : K.In h) (G : h.Ns mainGlobals mg) (a : PySem.W.nsIn K mainGlobals x = some (some (.int i t))) (go : (∃ u, mg x = some u ∧ RelV (.int i) u) → p) : p := go ⟨_, PySem.W.mg_of X G a, ⟨t, rfl⟩⟩
theorem top_noneC {p : Prop} {x : Str} (X : K.In h) (G : h.Ns mainGlobals mg) (a : PySem.W.nsIn K mainGlobals x = some none) (go : mg x = none → p) : p := go (PySem.W.mg_none_of X G a)
/-- what is asked of an own class -/
structure KFacts (K : PySem.W.Frag) (C : Addr) : Prop where
  pg : PySem.W.plainGet K C Str.empty = true
  hd : PySem.W.hasDictIn K C = true
  po : PySem.W.plainOver K C = true
  sa : PySem.W.findIn K (.ref C) "__setattr__" = some (some (.builtin "object.__setattr__"))
  ca : PySem.W.findIn K (.ref C) "__class__" = some (some (.builtin "object.__class__"))
  cn : PySem.W.specialIn K (.builtin "object.__class__") "__get__" = some (some (.builtin "getset_descriptor.__get__"))
  ct : PySem.W.takesIn K (.builtin "object.__class__") = some true
  cm : PySem.W.mroIn K C (.type "object") = some true
  b0 : PySem.W.kitOne K (.type "NoneType") (.ref C) = some false
  b1 : PySem.W.kitOne K (.type "bool") (.ref C) = some false
  b2 : PySem.W.kitOne K (.type "int") (.ref C) = some false
  b3 : PySem.W.kitOne K (.type "str") (.ref C) = some false
  b4 : PySem.W.kitOne K (.type "list") (.ref C) = some false
  b5 : PySem.W.kitOne K (.type "tuple") (.ref C) = some false
theorem KFacts.cls {C : Addr} (k : KFacts K C) : Cls K C := ⟨k.pg, k.hd, k.po, k.sa⟩
theorem KFacts.isK {c : Cs} {j : Nat} (k : KFacts c.K (c.cl j)) : IsK c j := by
  refine ⟨k.cls, k.ca, k.cn, k.ct, k.cm, ?_⟩
  intro a ha
  unfold tags at ha
  simp only [List.mem_cons, List.not_mem_nil, or_false] at ha
  rcases ha with rfl | rfl | rfl | rfl | rfl | rfl
  · exact k.b0
  · exact k.b1
  · exact k.b2
  · exact k.b3
  · exact k.b4
  · exact k.b5
end
/-! ### the law's end -/
/-- the script: a list that nobody writes -/
theorem ro_list {c : Cs} {F : Hp} {θ : List Addr} {a : Addr} : ∀ ns : List Int, SqL c.K F a (ns.map V.int) → R c F θ (V.ref a) (.ro (ns.map D.int)) := by
  intro ns hs
  unfold R
  refine ⟨a, _, rfl, hs, ?_⟩
  have : ∀ ns : List Int, RA c F θ (ns.map V.int) (ns.map D.int) := by
    intro ns
    induction ns with
    | nil => exact RA.nil
    | cons n ns ih => exact RA.cons r_int ih
  exact this ns
def spL (K : PySem.W.Frag) (m : Mf) : Sp := fun vs H Q _ => ∃ (a : Addr) (ns : List Int), vs = [V.ref a] ∧ SqL K H a (ns.map V.int) ∧ (∃ s, m [.ro (ns.map D.int)] [] = .ok (.bl true) s) ∧ ∀ H', Q (.bl true) H'
theorem spL_imp {c : Cs} {m : Mf} {vs : List V} {H : Hp} {Q : VK} {E : XK} (h : spL c.K m vs H Q E) : sp0 c m 1 vs H Q E := by
  obtain ⟨a, ns, rfl, hS, ⟨s, e⟩, q⟩ := h
  have w : WOk c [] H [] H := ⟨Le.refl H, (fun a m => by cases m), List.nodup_nil, rfl, (fun i a ds h1 h2 => by simp at h1)⟩
  refine ⟨rfl, H, [], [], [.ro (ns.map D.int)], w, RA.cons (ro_list ns hS) RA.nil, ?_⟩
  rw [e]
  intro v F' θ' H' x w' r
  rw [r_bl_inv (c := c) (F := F') (θ := θ') r]
  exact q H'
end MX


set_option Elab.async false
set_option linter.all false
set_option maxRecDepth 100000
namespace MX
open PySem L2
/-! ### mirrors, step by step -/
section
variable {ρ ρ1 ρ2 : List Sl} {s s1 s2 s3 : Sto} {a b d : D} {ds es : List D} {e ea eb : Fn D}
theorem var_ok {i : Nat} (h : ρ[i]? = some (.val d)) : dVar i ρ s = .ok d s := by unfold dVar; rw [h]
theorem bin_ok {f : F2} (ha : ea ρ s = .ok a s1) (hb : eb ρ s1 = .ok b s2) (hf : f a b s2 = some d) : dBin f ea eb ρ s = .ok d s2 := by
  unfold dBin; rw [ha]; show (eb ρ s1).bind _ = _; rw [hb]; show Res.ofO (f a b s2) s2 = _; rw [hf]; rfl
theorem un_ok {f : D → Sto → Option D} (ha : ea ρ s = .ok a s1) (hf : f a s1 = some d) : dUn f ea ρ s = .ok d s1 := by
  unfold dUn; rw [ha]; show Res.ofO (f a s1) s1 = _; rw [hf]; rfl
theorem nil_ok : dNil ρ s = .ok [] s := rfl
theorem cons_ok {er : Fn (List D)} (ha : ea ρ s = .ok a s1) (hr : er ρ s1 = .ok ds s2) : dCons ea er ρ s = .ok (a :: ds) s2 := by
  unfold dCons; rw [ha]; show (er ρ s1).bind _ = _; rw [hr]; rfl
theorem cb_ok {f : FC} {er : Fn (List D)} (ha : er ρ s = .ok ds s1) (hf : f ds s1 = some d) : dCB f er ρ s = .ok d s1 := by
  unfold dCB; rw [ha]; show Res.ofO (f ds s1) s1 = _; rw [hf]; rfl
theorem tup_ok {er : Fn (List D)} (ha : er ρ s = .ok ds s1) (h : small ds.length = true) : dTup er ρ s = .ok (.tup ds) s1 := by
  unfold dTup; rw [ha]; show (if small ds.length = true then _ else _) = _; rw [if_pos h]
theorem lst_ok {er : Fn (List D)} (ha : er ρ s = .ok ds s1) (h : small ds.length = true) : dLst er ρ s = .ok ds s1 := by
  unfold dLst; rw [ha]; show (if small ds.length = true then _ else _) = _; rw [if_pos h]
theorem ofL_ok {er : Fn (List D)} (ha : er ρ s = .ok ds s1) : dOfL er ρ s = .ok (.lst ds) s1 := by unfold dOfL; rw [ha]; rfl
theorem cell_ok {er : Fn (List D)} (ha : er ρ s = .ok ds s1) : dCell er ρ s = .ok (.cell s1.length) (s1 ++ [ds]) := by unfold dCell; rw [ha]; rfl
theorem tupL_ok {er : Fn (List D)} (ha : er ρ s = .ok ds s1) : dTupL er ρ s = .ok (.tup ds) s1 := by unfold dTupL; rw [ha]; rfl
theorem lenL_ok {er : Fn (List D)} (ha : er ρ s = .ok ds s1) : dLenL er ρ s = .ok (.int ds.length) s1 := by unfold dLenL; rw [ha]; rfl
theorem call_ok {m : Mf} {n : Nat} {er : Fn (List D)} (ha : er ρ s = .ok ds s1) (hl : ds.length = n) (hm : m ds s1 = .ok d s2) : dCall m n er ρ s = .ok d s2 := by
  unfold dCall; rw [ha]; show (if ds.length = n then _ else _) = _; rw [if_pos hl]; exact hm
theorem pur_ok {m : Mf} (hc : noCs ds = true) (hm : m ds [] = .ok d []) : pur m ds s = .ok d s := by
  unfold pur; rw [if_pos hc, hm]
theorem bl_ok {k : Bool} (ha : ea ρ s = .ok (.bl k) s1) : eBl ea ρ s = .ok k s1 := by unfold eBl; rw [ha]; rfl
theorem tru_ok {k : Bool} (ha : ea ρ s = .ok a s1) (h : truD s1 a = some k) : eTru ea ρ s = .ok k s1 := by unfold eTru; rw [ha]; show Res.ofO (truD s1 a) s1 = _; rw [h]; rfl
theorem if_yes {t : Fn Bool} (ht : t ρ s = .ok true s1) (ha : ea ρ s1 = .ok a s2) : dIf t ea eb ρ s = .ok a s2 := by unfold dIf; rw [ht]; exact ha
theorem if_no {t : Fn Bool} (ht : t ρ s = .ok false s1) (ha : eb ρ s1 = .ok a s2) : dIf t ea eb ρ s = .ok a s2 := by unfold dIf; rw [ht]; exact ha
theorem and_ok {t u : Fn Bool} {k : Bool} (ht : t ρ s = .ok true s1) (hu : u ρ s1 = .ok k s2) : eAnd t u ρ s = .ok k s2 := by unfold eAnd; rw [ht]; exact hu
theorem and_no {t u : Fn Bool} (ht : t ρ s = .ok false s1) : eAnd t u ρ s = .ok false s1 := by unfold eAnd; rw [ht]; rfl
theorem or_ok {t u : Fn Bool} {k : Bool} (ht : t ρ s = .ok false s1) (hu : u ρ s1 = .ok k s2) : eOr t u ρ s = .ok k s2 := by unfold eOr; rw [ht]; exact hu
theorem or_yes {t u : Fn Bool} (ht : t ρ s = .ok true s1) : eOr t u ρ s = .ok true s1 := by unfold eOr; rw [ht]; rfl
theorem not_ok {t : Fn Bool} {k : Bool} (ht : t ρ s = .ok k s1) : eNot t ρ s = .ok (!k) s1 := by unfold eNot; rw [ht]; rfl
theorem chain_yes {f g : F2} {ec : Fn D} {c' : D} (ha : ea ρ s = .ok a s1) (hb : eb ρ s1 = .ok b s2) (hf : f a b s2 = some (.bl true)) (hc : ec ρ s2 = .ok c' s3) (hg : g b c' s3 = some d) : dChain f g ea eb ec ρ s = .ok d s3 := by
  unfold dChain; rw [ha]; show (eb ρ s1).bind _ = _; rw [hb]
  show (match f a b s2 with | some (.bl k) => _ | _ => _) = _
  rw [hf]
  show (ec ρ s2).bind _ = _
  rw [hc]; show Res.ofO (g b c' s3) s3 = _; rw [hg]; rfl
theorem chain_no {f g : F2} {ec : Fn D} (ha : ea ρ s = .ok a s1) (hb : eb ρ s1 = .ok b s2) (hf : f a b s2 = some (.bl false)) : dChain f g ea eb ec ρ s = .ok (.bl false) s2 := by
  unfold dChain; rw [ha]; show (eb ρ s1).bind _ = _; rw [hb]
  show (match f a b s2 with | some (.bl k) => _ | _ => _) = _
  rw [hf]; rfl
theorem andV_yes (ha : ea ρ s = .ok (.bl true) s1) (hb : eb ρ s1 = .ok b s2) : dAnd ea eb ρ s = .ok b s2 := by unfold dAnd; rw [ha]; exact hb
theorem andV_no (ha : ea ρ s = .ok (.bl false) s1) : dAnd ea eb ρ s = .ok (.bl false) s1 := by unfold dAnd; rw [ha]; rfl
/-! statements -/
theorem seq_ok {x y : Sf} {o : Fl} (hx : x ρ s = .next ρ1 s1) (hy : y ρ1 s1 = o) : sSeq x y ρ s = o := by unfold sSeq; rw [hx]; exact hy
theorem seq_out {x y : Sf} {o : Fl} (hx : x ρ s = o) (hn : ∀ r t, o ≠ .next r t) : sSeq x y ρ s = o := by
  unfold sSeq; rw [hx]
  cases o with
  | next r t => exact absurd rfl (hn r t)
  | _ => rfl
theorem asg_ok {i : Nat} (h : e ρ s = .ok d s1) : sAsg i e ρ s = .next (ρ.set i (.val d)) s1 := by unfold sAsg sBind; rw [h]
theorem own_ok {i : Nat} {er : Fn (List D)} (h : er ρ s = .ok ds s1) : sOwn i er ρ s = .next (ρ.set i (.own ds)) s1 := by unfold sOwn sBind; rw [h]
theorem ret_ok (h : e ρ s = .ok d s1) : sRet e ρ s = .ret d s1 := by unfold sRet sBind; rw [h]
theorem sif_yes {t : Fn Bool} {x y : Sf} {o : Fl} (ht : t ρ s = .ok true s1) (hx : x ρ s1 = o) : sIf t x y ρ s = o := by unfold sIf sBind; rw [ht]; exact hx
theorem sif_no {t : Fn Bool} {x y : Sf} {o : Fl} (ht : t ρ s = .ok false s1) (hx : y ρ s1 = o) : sIf t x y ρ s = o := by unfold sIf sBind; rw [ht]; exact hx
theorem fn_ret {n : Nat} {x : Sf} (h : x (startR n ds) s = .ret d s1) : fnD n x ds s = .ok d s1 := by unfold fnD; rw [h]
theorem fn_next {n : Nat} {x : Sf} (h : x (startR n ds) s = .next ρ1 s1) : fnD n x ds s = .ok .non s1 := by unfold fnD; rw [h]
theorem sfor_ok {w : Fn (List D)} {p : Pt} {x : Sf} {o : Fl} (hw : w ρ s = .ok ds s1) (h : forL p x ds ρ s1 = o) : sFor w p x ρ s = o := by unfold sFor sBind; rw [hw]; exact h
/-- a loop by an invariant: every turn goes on -/
theorem forL_inv {p : Pt} {x : Sf} (I : List Sl → Sto → Prop) (P : D → Prop) (step : ∀ ρ s d, I ρ s → P d → ∃ ρ1 ρ2 s2, setP p ρ d = some ρ1 ∧ (x ρ1 s = .next ρ2 s2 ∨ x ρ1 s = .cont ρ2 s2) ∧ I ρ2 s2) :
    ∀ (ds : List D) (ρ : List Sl) (s : Sto), (∀ d ∈ ds, P d) → I ρ s → ∃ ρ' s', forL p x ds ρ s = .next ρ' s' ∧ I ρ' s'
  | [], ρ, s, _, h => ⟨ρ, s, rfl, h⟩
  | d :: ds, ρ, s, hp, h => by
    obtain ⟨ρ1, ρ2, s2, h1, h2, h3⟩ := step ρ s d h (hp d List.mem_cons_self)
    obtain ⟨ρ', s', h4, h5⟩ := forL_inv I P step ds ρ2 s2 (fun e m => hp e (List.mem_cons_of_mem _ m)) h3
    refine ⟨ρ', s', ?_, h5⟩
    unfold forL
    rw [h1]
    rcases h2 with h2 | h2
    · simp only [h2]; exact h4
    · simp only [h2]; exact h4
theorem forL_invN {p : Pt} {x : Sf} (I : Nat → List Sl → Sto → Prop) (P : D → Prop) (step : ∀ k ρ s d, I k ρ s → P d → ∃ ρ1 ρ2 s2, setP p ρ d = some ρ1 ∧ (x ρ1 s = .next ρ2 s2 ∨ x ρ1 s = .cont ρ2 s2) ∧ I (k + 1) ρ2 s2) :
    ∀ (ds : List D) (k : Nat) (ρ : List Sl) (s : Sto), (∀ d ∈ ds, P d) → I k ρ s → ∃ ρ' s', forL p x ds ρ s = .next ρ' s' ∧ I (k + ds.length) ρ' s'
  | [], k, ρ, s, _, h => ⟨ρ, s, rfl, h⟩
  | d :: ds, k, ρ, s, hp, h => by
    obtain ⟨ρ1, ρ2, s2, h1, h2, h3⟩ := step k ρ s d h (hp d List.mem_cons_self)
    obtain ⟨ρ', s', h4, h5⟩ := forL_invN I P step ds (k + 1) ρ2 s2 (fun e m => hp e (List.mem_cons_of_mem _ m)) h3
    have e1 : k + 1 + ds.length = k + (d :: ds).length := by simp; omega
    refine ⟨ρ', s', ?_, e1 ▸ h5⟩
    unfold forL
    rw [h1]
    rcases h2 with h2 | h2
    · simp only [h2]; exact h4
    · simp only [h2]; exact h4
theorem app_ok {i : Nat} (hi : ρ[i]? = some (.own ds)) (he : e ρ s = .ok d s1) (hz : small ds.length = true) : sApp i e ρ s = .next (ρ.set i (.own (ds ++ [d]))) s1 := by
  unfold sApp; rw [hi]; show (match e ρ s with | .ok d s => _ | .exc k fs s => _ | .bad => _) = _; rw [he]; show (if small ds.length = true then _ else _) = _; rw [if_pos hz]
theorem retOwn_ok {i : Nat} (hi : ρ[i]? = some (.own ds)) : sRetOwn i ρ s = .ret (.lst ds) s := by unfold sRetOwn; rw [hi]
theorem parO_ok {i j : Nat} {eb : Fn (List D)} (ha : ea ρ s = .ok a s1) (hb : eb ρ s1 = .ok ds s2) : sParO i j ea eb ρ s = .next ((ρ.set i (.val a)).set j (.own ds)) s2 := by
  unfold sParO sBind; rw [ha]; show (match eb ρ s1 with | .ok b s => _ | .exc k fs s => _ | .bad => _) = _; rw [hb]
theorem par_ok {i j : Nat} (ha : ea ρ s = .ok a s1) (hb : eb ρ s1 = .ok b s2) : sPar i j ea eb ρ s = .next ((ρ.set i (.val a)).set j (.val b)) s2 := by
  unfold sPar sBind; rw [ha]; show (match eb ρ s1 with | .ok b s => _ | .exc k fs s => _ | .bad => _) = _; rw [hb]
theorem rng1_ok {er : Fn (List D)} {j : Int} (h : er ρ s = .ok [.int j] s1) (hj : -1000000 ≤ j ∧ j ≤ 1000000) : wRng1 er ρ s = .ok (rangeD 0 j.toNat) s1 := by
  unfold wRng1; rw [h]; show (if inB j = true then _ else _) = _; rw [if_pos (show inB j = true from decide_eq_true hj)]
theorem rng2_ok {er : Fn (List D)} {i j : Int} (h : er ρ s = .ok [.int i, .int j] s1) (hi : -1000000 ≤ i ∧ i ≤ 1000000) (hj : -1000000 ≤ j ∧ j ≤ 1000000) : wRng2 er ρ s = .ok (rangeD i (j - i).toNat) s1 := by
  unfold wRng2; rw [h]; show (if (inB i && inB j) = true then _ else _) = _; rw [if_pos (by rw [Bool.and_eq_true]; exact ⟨decide_eq_true hi, decide_eq_true hj⟩)]
theorem range_mem {lo : Int} {n : Nat} {d : D} (h : d ∈ rangeD lo n) : ∃ i : Nat, i < n ∧ d = .int (lo + (i : Int)) := by
  unfold rangeD at h
  obtain ⟨i, hi, e⟩ := List.mem_map.mp h
  exact ⟨i, List.mem_range.mp hi, e.symm⟩
theorem range_len {lo : Int} {n : Nat} : (rangeD lo n).length = n := by unfold rangeD; simp
/-- a comprehension by an invariant on the store -/
theorem compL_inv {p : Pt} {t : Fn Bool} {e : Fn D} {ρ : List Sl} (I : Sto → Prop) (P Q : D → Prop) (step : ∀ s d, I s → P d → ∃ ρ1 k s1, setP p ρ d = some ρ1 ∧ t ρ1 s = .ok k s1 ∧ I s1 ∧ (k = true → ∃ y s2, e ρ1 s1 = .ok y s2 ∧ Q y ∧ I s2)) :
    ∀ (ds : List D) (s : Sto), (∀ d ∈ ds, P d) → I s → ∃ r s', compL p t e ρ ds s = .ok r s' ∧ I s' ∧ (∀ y ∈ r, Q y) ∧ r.length ≤ ds.length
  | [], s, _, h => ⟨[], s, rfl, h, (fun y m => by cases m), Nat.le_refl _⟩
  | d :: ds, s, hp, h => by
    obtain ⟨ρ1, k, s1, h1, h2, h3, h4⟩ := step s d h (hp d List.mem_cons_self)
    cases k with
    | false =>
      obtain ⟨r, s', g1, g2, g3, g4⟩ := compL_inv I P Q step ds s1 (fun e m => hp e (List.mem_cons_of_mem _ m)) h3
      refine ⟨r, s', ?_, g2, g3, Nat.le_succ_of_le g4⟩
      unfold compL
      rw [h1]
      simp only [h2, noX, Res.bind]
      exact g1
    | true =>
      obtain ⟨y, s2, f1, f2, f3⟩ := h4 rfl
      obtain ⟨r, s', g1, g2, g3, g4⟩ := compL_inv I P Q step ds s2 (fun e m => hp e (List.mem_cons_of_mem _ m)) f3
      refine ⟨y :: r, s', ?_, g2, ?_, by simp; exact g4⟩
      · unfold compL
        rw [h1]
        simp only [h2, noX, Res.bind, if_true, f1, g1]
      · intro z m
        rcases List.mem_cons.mp m with rfl | m
        · exact f2
        · exact g3 z m
end
theorem fmul_ok {i j : Int} {s : Sto} (h : i.natAbs.log2 + j.natAbs.log2 < 100000000) : fMul (.int i) (.int j) s = some (.int (i * j)) := by
  show (if _ then _ else _) = _; rw [if_pos h]
theorem fmod_ok {i j : Int} {s : Sto} (h : j ≠ 0) : fMod (.int i) (.int j) s = some (.int (i.fmod j)) := by
  show (if _ then _ else _) = _; rw [if_pos h]
theorem fdiv_ok {i j : Int} {s : Sto} (h : j ≠ 0) (h2 : j.natAbs < 1073741824) : fDiv (.int i) (.int j) s = some (.int (i.fdiv j)) := by
  show (if _ then _ else _) = _; rw [if_pos ⟨h, h2⟩]
theorem fmod_range {x m : Int} (h : 0 < m) : 0 ≤ x.fmod m ∧ x.fmod m < m := ⟨Int.fmod_nonneg_of_pos x h, Int.fmod_lt_of_pos x h⟩
theorem log2_lt {n E : Nat} (h : n < 2 ^ E) : n.log2 ≤ E := by
  by_cases z : n = 0
  · subst z; simp
  · exact Nat.le_of_lt ((Nat.log2_lt z).mpr h)
end MX


set_option Elab.async false
set_option linter.all false
set_option maxRecDepth 100000
namespace MX
open PySem L2
/-! ### what a mirror gives, backwards -/
def Wp {α : Type} (r : Res α) (Q : α → Sto → Prop) : Prop := match r with
  | .ok a s => Q a s
  | _ => False
/-- N: it goes on; B: break; C: continue; R: return -/
structure Out where
  nx : List Sl → Sto → Prop
  bk : List Sl → Sto → Prop := fun _ _ => False
  ct : List Sl → Sto → Prop := fun _ _ => False
  rt : D → Sto → Prop := fun _ _ => False
def Ws (o : Fl) (O : Out) : Prop := match o with
  | .next ρ s => O.nx ρ s
  | .brk ρ s => O.bk ρ s
  | .cont ρ s => O.ct ρ s
  | .ret d s => O.rt d s
  | _ => False
section
variable {α β : Type} {r : Res α} {Q : α → Sto → Prop} {O : Out} {ρ : List Sl} {s : Sto} {e ea eb : Fn D} {V : D → Sto → Prop}
theorem Wp.mono {Q' : α → Sto → Prop} (h : Wp r Q) (k : ∀ a s, Q a s → Q' a s) : Wp r Q' := by
  cases r with
  | ok a s => exact k a s h
  | exc _ _ _ => exact h
  | bad => exact h
theorem Wp.of {a : α} {s : Sto} (h : r = .ok a s) (q : Q a s) : Wp r Q := by rw [h]; exact q
theorem Wp.ex (h : Wp r Q) : ∃ a s, r = .ok a s ∧ Q a s := by
  cases r with
  | ok a s => exact ⟨a, s, rfl, h⟩
  | exc _ _ _ => exact h.elim
  | bad => exact h.elim
theorem wp_bind {f : α → Sto → Res β} {Q : β → Sto → Prop} (h : Wp r fun a s => Wp (f a s) Q) : Wp (r.bind f) Q := by
  cases r with
  | ok a s => exact h
  | exc _ _ _ => exact h
  | bad => exact h
theorem wp_ofO {o : Option α} (h : ∃ a, o = some a ∧ Q a s) : Wp (Res.ofO o s) Q := by
  obtain ⟨a, rfl, q⟩ := h
  exact q
theorem wp_var {i : Nat} {d : D} (h : ρ[i]? = some (.val d)) (q : V d s) : Wp (dVar i ρ s) V := .of (var_ok h) q
theorem wp_c {d : D} (q : V d s) : Wp (dC d ρ s) V := q
theorem wp_bin {f : F2} (h : Wp (ea ρ s) fun a s1 => Wp (eb ρ s1) fun b s2 => ∃ d, f a b s2 = some d ∧ V d s2) : Wp (dBin f ea eb ρ s) V := wp_bind (h.mono fun a s1 h => wp_bind (h.mono fun b s2 h => wp_ofO h))
theorem wp_un {f : D → Sto → Option D} (h : Wp (ea ρ s) fun a s1 => ∃ d, f a s1 = some d ∧ V d s1) : Wp (dUn f ea ρ s) V := wp_bind (h.mono fun a s1 h => wp_ofO h)
theorem wp_nil {W : List D → Sto → Prop} (h : W [] s) : Wp (dNil ρ s) W := h
theorem wp_cons {er : Fn (List D)} {W : List D → Sto → Prop} (h : Wp (ea ρ s) fun a s1 => Wp (er ρ s1) fun ds s2 => W (a :: ds) s2) : Wp (dCons ea er ρ s) W := wp_bind (h.mono fun a s1 h => wp_bind h)
theorem wp_cb {f : FC} {er : Fn (List D)} (h : Wp (er ρ s) fun ds s1 => ∃ d, f ds s1 = some d ∧ V d s1) : Wp (dCB f er ρ s) V := wp_bind (h.mono fun a s1 h => wp_ofO h)
theorem wp_tup {er : Fn (List D)} (h : Wp (er ρ s) fun ds s1 => small ds.length = true ∧ V (.tup ds) s1) : Wp (dTup er ρ s) V := wp_bind (h.mono fun ds s1 h => by rw [if_pos h.1]; exact h.2)
theorem wp_lst {er : Fn (List D)} {W : List D → Sto → Prop} (h : Wp (er ρ s) fun ds s1 => small ds.length = true ∧ W ds s1) : Wp (dLst er ρ s) W := wp_bind (h.mono fun ds s1 h => by rw [if_pos h.1]; exact h.2)
theorem wp_ofL {er : Fn (List D)} (h : Wp (er ρ s) fun ds s1 => V (.lst ds) s1) : Wp (dOfL er ρ s) V := wp_bind h
theorem wp_cell {er : Fn (List D)} (h : Wp (er ρ s) fun ds s1 => V (.cell s1.length) (s1 ++ [ds])) : Wp (dCell er ρ s) V := wp_bind h
theorem wp_tupL {er : Fn (List D)} (h : Wp (er ρ s) fun ds s1 => V (.tup ds) s1) : Wp (dTupL er ρ s) V := wp_bind h
theorem wp_lenL {er : Fn (List D)} (h : Wp (er ρ s) fun ds s1 => V (.int ds.length) s1) : Wp (dLenL er ρ s) V := wp_bind h
theorem wp_call {m : Mf} {n : Nat} {er : Fn (List D)} (h : Wp (er ρ s) fun ds s1 => ds.length = n ∧ Wp (m ds s1) V) : Wp (dCall m n er ρ s) V := wp_bind (h.mono fun ds s1 h => by rw [if_pos h.1]; exact h.2)
theorem wp_pur {m : Mf} {ds : List D} (hc : noCs ds = true) (h : Wp (m ds []) fun d s1 => s1 = [] ∧ V d s) : Wp (pur m ds s) V := by
  obtain ⟨d, s1, e, rfl, q⟩ := h.ex
  exact .of (pur_ok hc e) q
theorem wp_bl {W : Bool → Sto → Prop} (h : Wp (ea ρ s) fun d s1 => ∃ k, d = .bl k ∧ W k s1) : Wp (eBl ea ρ s) W := wp_bind (h.mono fun d s1 h => by obtain ⟨k, rfl, q⟩ := h; exact q)
theorem wp_tru {W : Bool → Sto → Prop} (h : Wp (ea ρ s) fun d s1 => ∃ k, truD s1 d = some k ∧ W k s1) : Wp (eTru ea ρ s) W := wp_bind (h.mono fun d s1 h => wp_ofO h)
theorem wp_if {t : Fn Bool} (h : Wp (t ρ s) fun k s1 => (k = true → Wp (ea ρ s1) V) ∧ (k = false → Wp (eb ρ s1) V)) : Wp (dIf t ea eb ρ s) V := wp_bind (h.mono fun k s1 h => by cases k <;> simp at h ⊢ <;> exact h)
theorem wp_and {t u : Fn Bool} {W : Bool → Sto → Prop} (h : Wp (t ρ s) fun k s1 => (k = true → Wp (u ρ s1) W) ∧ (k = false → W false s1)) : Wp (eAnd t u ρ s) W := wp_bind (h.mono fun k s1 h => by cases k <;> simp at h ⊢ <;> exact h)
theorem wp_or {t u : Fn Bool} {W : Bool → Sto → Prop} (h : Wp (t ρ s) fun k s1 => (k = true → W true s1) ∧ (k = false → Wp (u ρ s1) W)) : Wp (eOr t u ρ s) W := wp_bind (h.mono fun k s1 h => by cases k <;> simp at h ⊢ <;> exact h)
theorem wp_not {t : Fn Bool} {W : Bool → Sto → Prop} (h : Wp (t ρ s) fun k s1 => W (!k) s1) : Wp (eNot t ρ s) W := wp_bind h
theorem wp_rng1 {er : Fn (List D)} {W : List D → Sto → Prop} (h : Wp (er ρ s) fun ds s1 => ∃ j : Int, ds = [.int j] ∧ (-1000000 ≤ j ∧ j ≤ 1000000) ∧ W (rangeD 0 j.toNat) s1) : Wp (wRng1 er ρ s) W := wp_bind (h.mono fun ds s1 h => by
  obtain ⟨j, rfl, hj, q⟩ := h
  show Wp (if inB j = true then _ else _) _
  rw [if_pos (show inB j = true from decide_eq_true hj)]; exact q)
theorem wp_rng2 {er : Fn (List D)} {W : List D → Sto → Prop} (h : Wp (er ρ s) fun ds s1 => ∃ i j : Int, ds = [.int i, .int j] ∧ (-1000000 ≤ i ∧ i ≤ 1000000) ∧ (-1000000 ≤ j ∧ j ≤ 1000000) ∧ W (rangeD i (j - i).toNat) s1) : Wp (wRng2 er ρ s) W := wp_bind (h.mono fun ds s1 h => by
  obtain ⟨i, j, rfl, hi, hj, q⟩ := h
  show Wp (if (inB i && inB j) = true then _ else _) _
  rw [if_pos (by rw [Bool.and_eq_true]; exact ⟨decide_eq_true hi, decide_eq_true hj⟩)]; exact q)
theorem wp_seq' {er : Fn D} {W : List D → Sto → Prop} (h : Wp (er ρ s) fun d s1 => ∃ ds, frzD d = some ds ∧ W ds s1) : Wp (wSeq er ρ s) W := wp_bind (h.mono fun d s1 h => wp_ofO h)
theorem wp_comp {w : Fn (List D)} {p : Pt} {t : Fn Bool} {vs : List Nat} {W : List D → Sto → Prop} (h : Wp (w ρ s) fun ds s1 => small ds.length = true ∧ Wp (compL p t e (wipeR ρ vs) ds s1) W) : Wp (dComp w p t e vs ρ s) W := wp_bind (h.mono fun ds s1 h => by rw [if_pos h.1]; exact h.2)
theorem wp_compAll {p : Pt} (I : Sto → Prop) (P Y : D → Prop) (step : ∀ s d, I s → P d → ∃ ρ1, setP p ρ d = some ρ1 ∧ Wp (e ρ1 s) fun y s2 => Y y ∧ I s2) :
    ∀ (ds : List D) (s : Sto), (∀ d ∈ ds, P d) → I s → Wp (compL p eYes e ρ ds s) fun r s' => I s' ∧ (∀ y ∈ r, Y y) ∧ r.length = ds.length
  | [], s, _, h => ⟨h, (fun y m => by cases m), rfl⟩
  | d :: ds, s, hp, h => by
    obtain ⟨ρ1, h1, h2⟩ := step s d h (hp d List.mem_cons_self)
    obtain ⟨y, s2, e1, q, hI⟩ := h2.ex
    obtain ⟨r, s3, e2, g1, g2, g3⟩ := (wp_compAll I P Y step ds s2 (fun e m => hp e (List.mem_cons_of_mem _ m)) hI).ex
    unfold compL
    rw [h1]
    show Wp (((noX (eYes ρ1 s)).bind fun k s => _)) _
    simp only [eYes, noX, Res.bind, if_true, e1, e2]
    refine ⟨g1, ?_, by simp [g3]⟩
    intro z m
    rcases List.mem_cons.mp m with rfl | m
    · exact q
    · exact g2 z m
/-- with a test -/
theorem wp_compSome {p : Pt} {t : Fn Bool} (I : Sto → Prop) (P : D → Prop) (Y : D → Prop) (step : ∀ s d, I s → P d → ∃ ρ1, setP p ρ d = some ρ1 ∧ Wp (t ρ1 s) fun k s1 => (k = true → Wp (e ρ1 s1) fun y s2 => Y y ∧ y = d ∧ I s2) ∧ (k = false → I s1)) :
    ∀ (ds : List D) (s : Sto), (∀ d ∈ ds, P d) → I s → Wp (compL p t e ρ ds s) fun r s' => I s' ∧ (∀ y ∈ r, Y y) ∧ r.Sublist ds
  | [], s, _, h => ⟨h, (fun y m => by cases m), List.Sublist.slnil⟩
  | d :: ds, s, hp, h => by
    obtain ⟨ρ1, h1, h2⟩ := step s d h (hp d List.mem_cons_self)
    obtain ⟨k, s1, e0, h3, h4⟩ := h2.ex
    unfold compL
    rw [h1]
    cases k with
    | false =>
      obtain ⟨r, s3, e2, g1, g2, g3⟩ := (wp_compSome I P Y step ds s1 (fun e m => hp e (List.mem_cons_of_mem _ m)) (h4 rfl)).ex
      simp only [e0, noX, Res.bind, e2]
      exact ⟨g1, g2, g3.cons d⟩
    | true =>
      obtain ⟨y, s2, e1, q, rfl, hI⟩ := (h3 rfl).ex
      obtain ⟨r, s3, e2, g1, g2, g3⟩ := (wp_compSome I P Y step ds s2 (fun e m => hp e (List.mem_cons_of_mem _ m)) hI).ex
      simp only [e0, noX, Res.bind, if_true, e1, e2]
      refine ⟨g1, ?_, g3.cons₂ _⟩
      intro z m
      rcases List.mem_cons.mp m with rfl | m
      · exact q
      · exact g2 z m
/-! statements -/
theorem Ws.mono {o : Fl} {O' : Out} (h : Ws o O) (h1 : ∀ r s, O.nx r s → O'.nx r s) (h2 : ∀ r s, O.bk r s → O'.bk r s) (h3 : ∀ r s, O.ct r s → O'.ct r s) (h4 : ∀ d s, O.rt d s → O'.rt d s) : Ws o O' := by
  cases o with
  | next r s => exact h1 r s h
  | brk r s => exact h2 r s h
  | cont r s => exact h3 r s h
  | ret d s => exact h4 d s h
  | exc _ _ _ => exact h
  | bad => exact h
theorem ws_seq {x y : Sf} (h : Ws (x ρ s) { O with nx := fun r1 s1 => Ws (y r1 s1) O }) : Ws (sSeq x y ρ s) O := by
  unfold sSeq
  cases z : x ρ s with
  | next r s1 => rw [z] at h; exact h
  | brk r s1 => rw [z] at h; exact h
  | cont r s1 => rw [z] at h; exact h
  | ret d s1 => rw [z] at h; exact h
  | exc _ _ _ => rw [z] at h; exact h
  | bad => rw [z] at h; exact h
theorem ws_next (h : O.nx ρ s) : Ws (sNext ρ s) O := h
theorem ws_bind {α : Type} {e : Fn α} {k : List Sl → α → Sto → Fl} (h : Wp (e ρ s) fun a s1 => Ws (k ρ a s1) O) : Ws (sBind e k ρ s) O := by
  unfold sBind
  cases z : e ρ s with
  | ok a s1 => rw [z] at h; exact h
  | exc _ _ _ => rw [z] at h; exact h
  | bad => rw [z] at h; exact h
theorem ws_asg {i : Nat} (h : Wp (e ρ s) fun d s1 => O.nx (ρ.set i (.val d)) s1) : Ws (sAsg i e ρ s) O := ws_bind h
theorem ws_own {i : Nat} {er : Fn (List D)} (h : Wp (er ρ s) fun ds s1 => O.nx (ρ.set i (.own ds)) s1) : Ws (sOwn i er ρ s) O := ws_bind h
theorem ws_drop (h : Wp (e ρ s) fun _ s1 => O.nx ρ s1) : Ws (sDrop e ρ s) O := ws_bind h
theorem ws_ret (h : Wp (e ρ s) fun d s1 => O.rt d s1) : Ws (sRet e ρ s) O := ws_bind h
theorem ws_if {t : Fn Bool} {x y : Sf} (h : Wp (t ρ s) fun k s1 => (k = true → Ws (x ρ s1) O) ∧ (k = false → Ws (y ρ s1) O)) : Ws (sIf t x y ρ s) O := ws_bind (h.mono fun k s1 h => by cases k <;> simp at h ⊢ <;> exact h)
theorem ws_app {i : Nat} {ds : List D} (hi : ρ[i]? = some (.own ds)) (hz : small ds.length = true) (h : Wp (e ρ s) fun d s1 => O.nx (ρ.set i (.own (ds ++ [d]))) s1) : Ws (sApp i e ρ s) O := by
  obtain ⟨d, s1, e1, q⟩ := h.ex
  rw [app_ok hi e1 hz]; exact q
theorem ws_retOwn {i : Nat} {ds : List D} (hi : ρ[i]? = some (.own ds)) (h : O.rt (.lst ds) s) : Ws (sRetOwn i ρ s) O := by rw [retOwn_ok hi]; exact h
theorem ws_par {i j : Nat} (h : Wp (ea ρ s) fun a s1 => Wp (eb ρ s1) fun b s2 => O.nx ((ρ.set i (.val a)).set j (.val b)) s2) : Ws (sPar i j ea eb ρ s) O := by
  obtain ⟨a, s1, e1, h⟩ := h.ex
  obtain ⟨b, s2, e2, h⟩ := h.ex
  rw [par_ok e1 e2]; exact h
theorem ws_parO {i j : Nat} {eb : Fn (List D)} (h : Wp (ea ρ s) fun a s1 => Wp (eb ρ s1) fun b s2 => O.nx ((ρ.set i (.val a)).set j (.own b)) s2) : Ws (sParO i j ea eb ρ s) O := by
  obtain ⟨a, s1, e1, h⟩ := h.ex
  obtain ⟨b, s2, e2, h⟩ := h.ex
  rw [parO_ok e1 e2]; exact h
theorem ws_asgP {p : Pt} (h : Wp (e ρ s) fun d s1 => ∃ r, setP p ρ d = some r ∧ O.nx r s1) : Ws (sAsgP p e ρ s) O := by
  unfold sAsgP
  refine ws_bind (h.mono fun d s1 h => ?_)
  obtain ⟨r, e1, q⟩ := h
  show Ws (match setP p ρ d with | some r => _ | none => _) O
  rw [e1]; exact q
/-- a loop: I at each turn's begin -/
theorem ws_for {w : Fn (List D)} {p : Pt} {x : Sf} (I : Nat → List Sl → Sto → Prop) (h : Wp (w ρ s) fun ds s1 => I 0 ρ s1 ∧
      (∀ i d r t, ds[i]? = some d → I i r t → ∃ r1, setP p r d = some r1 ∧ Ws (x r1 t) { nx := I (i + 1), ct := I (i + 1), bk := O.nx, rt := O.rt }) ∧ ∀ r t, I ds.length r t → O.nx r t) : Ws (sFor w p x ρ s) O := by
  refine ws_bind (h.mono fun ds s1 h => ?_)
  obtain ⟨h0, hs, hd⟩ := h
  have gen : ∀ (n : Nat) (es : List D) (r : List Sl) (t : Sto), (∀ i d, es[i]? = some d → ds[n + i]? = some d) → n + es.length = ds.length → I n r t → Ws (forL p x es r t) O := by
    intro n es
    induction es generalizing n with
    | nil =>
      intro r t _ hl hI
      have : n = ds.length := by simpa using hl
      subst this
      exact hd r t hI
    | cons d es ih =>
      intro r t hg hl hI
      obtain ⟨r1, e1, hx⟩ := hs n d r t (by have := hg 0 d rfl; simpa using this) hI
      have hg2 : ∀ i d', es[i]? = some d' → ds[n + 1 + i]? = some d' := fun i d' z => by
        have := hg (i + 1) d' (by simpa using z)
        have e2 : n + 1 + i = n + (i + 1) := by omega
        rw [e2]; exact this
      have hl2 : n + 1 + es.length = ds.length := by simp at hl; omega
      unfold forL
      rw [e1]
      dsimp only
      cases z : x r1 t with
      | next r2 t2 => rw [z] at hx; exact ih (n + 1) r2 t2 hg2 hl2 hx
      | cont r2 t2 => rw [z] at hx; exact ih (n + 1) r2 t2 hg2 hl2 hx
      | brk r2 t2 => rw [z] at hx; exact hx
      | ret d' t2 => rw [z] at hx; exact hx
      | exc _ _ _ => rw [z] at hx; exact hx.elim
      | bad => rw [z] at hx; exact hx.elim
  exact gen 0 ds ρ s1 (fun i d z => by simpa using z) (by simp) h0
theorem wp_fn {n : Nat} {x : Sf} {ds : List D} (h : Ws (x (startR n ds) s) { nx := fun _ s1 => V .non s1, rt := V }) : Wp (fnD n x ds s) V := by
  unfold fnD
  cases z : x (startR n ds) s with
  | next r s1 => rw [z] at h; exact h
  | ret d s1 => rw [z] at h; exact h
  | brk r s1 => rw [z] at h; exact h.elim
  | cont r s1 => rw [z] at h; exact h.elim
  | exc _ _ _ => rw [z] at h; exact h.elim
  | bad => rw [z] at h; exact h.elim
end
end MX


set_option Elab.async false
set_option linter.all false
set_option maxRecDepth 100000
namespace MX
open PySem PySem.Spec PyProof.Rows L2
section
variable {c : Cs} {E : XK}
/-- a, b, d = x, y, z -/
def sPar3 (i j l : Nat) (ea eb ec : Fn D) : Sf := sBind ea fun ρ a s => match eb ρ s with
  | .ok b s => (match ec ρ s with
    | .ok d s => .next (((ρ.set i (.val a)).set j (.val b)).set l (.val d)) s
    | .exc k fs s => .exc k fs s
    | .bad => .bad)
  | .exc k fs s => .exc k fs s
  | .bad => .bad
theorem dn_par3 {i j l : Nat} {ta tb tc : TE} {ea eb ec : Fn D} (ha : DenE c E ta ea) (hb : DenE c E tb eb) (hc : DenE c E tc ec) : DenS c E (tPar3 i j l (tCons ta (tCons tb (tCons tc tNil)))) (sPar3 i j l ea eb ec) := by
  refine dn_bind (K := fun Dn σ x H => tb σ H fun y H2 => tc σ H2 fun z H3 => ∃ u v w, [x, y, z] = [u, v, w] ∧ Dn.nx (((σ.set i (some u)).set j (some v)).set l (some w)) H3) ha fun H0 F0 θ0 σ ρ s F θ H Hi v a Dn s0 F1 θ1 x0 he x w r hp => ?_
  refine hb H0 σ ρ s F θ H _ (he.ext x) w ?_
  cases z : eb ρ s with
  | bad => rw [z] at hp; exact hp.elim
  | exc k fs s' => rw [z] at hp; exact fun F' θ' H' dx x' w' r => hp F' θ' H' dx ((x0.trans x).trans x') w' r
  | ok b s' =>
    rw [z] at hp
    intro u F' θ' H' x' w' ru
    refine hc H0 σ ρ s' F' θ' H' _ ((he.ext x).ext x') w' ?_
    dsimp only at hp
    cases z2 : ec ρ s' with
    | bad => rw [z2] at hp; exact hp.elim
    | exc k fs s2 => rw [z2] at hp; exact fun F2 θ2 H2 dx x2 w2 r => hp F2 θ2 H2 dx (((x0.trans x).trans x').trans x2) w2 r
    | ok d s2 =>
      rw [z2] at hp
      intro u2 F2 θ2 H2 x2 w2 ru2
      exact ⟨v, u, u2, rfl, hp _ F2 θ2 H2 (((x0.trans x).trans x').trans x2) w2 (((((he.ext x).ext x').ext x2).setVal (R.mono x2.fr x2.th a (R.mono x'.fr x'.th a r))).setVal (R.mono x2.fr x2.th b ru) |>.setVal ru2)⟩
end
theorem ws_par3 {i j l : Nat} {ea eb ec : Fn D} {ρ : List Sl} {s : Sto} {O : Out} (h : Wp (ea ρ s) fun a s1 => Wp (eb ρ s1) fun b s2 => Wp (ec ρ s2) fun d s3 => O.nx (((ρ.set i (.val a)).set j (.val b)).set l (.val d)) s3) : Ws (sPar3 i j l ea eb ec ρ s) O := by
  obtain ⟨a, s1, e1, h⟩ := h.ex
  obtain ⟨b, s2, e2, h⟩ := h.ex
  obtain ⟨d, s3, e3, h⟩ := h.ex
  unfold sPar3 sBind
  rw [e1]
  dsimp only
  rw [e2]
  dsimp only
  rw [e3]
  exact h
end MX


set_option Elab.async false
set_option linter.all false
set_option maxRecDepth 100000
namespace MX
open PySem PySem.Spec PyProof.Rows L2
/-! ### keys -/
mutual
def keq : D → D → Bool
  | .int i, .int j => decide (i = j)
  | .non, .non => true
  | .tup xs, .tup ys => keqs xs ys
  | _, _ => false
def keqs : List D → List D → Bool
  | [], [] => true
  | x :: xs, y :: ys => keq x y && keqs xs ys
  | _, _ => false
end
theorem nk_tup {ds : List D} {a : NestedKey} (h : nkOf (.tup ds) = some a) : ∃ ks, nksOf ds = some ks ∧ a = .tup ks := by
  unfold nkOf at h
  cases z : nksOf ds with
  | none => rw [z] at h; cases h
  | some ks => rw [z] at h; cases h; exact ⟨ks, rfl, rfl⟩
theorem nks_cons {d : D} {ds : List D} {as : List NestedKey} (h : nksOf (d :: ds) = some as) : ∃ k ks, nkOf d = some k ∧ nksOf ds = some ks ∧ as = k :: ks := by
  unfold nksOf at h
  cases z : nkOf d with
  | none => rw [z] at h; cases h
  | some k =>
    rw [z] at h
    cases z2 : nksOf ds with
    | none => rw [z2] at h; cases h
    | some ks => rw [z2] at h; cases h; exact ⟨k, ks, rfl, rfl, rfl⟩
mutual
theorem keq_ok : ∀ (d e : D) (a b : NestedKey), nkOf d = some a → nkOf e = some b → keq d e = decide (a = b)
  | .int i, .int j, a, b, h, k => by
    unfold nkOf at h k
    cases h; cases k
    unfold keq
    by_cases z : i = j
    · subst z; simp
    · rw [decide_eq_false z, decide_eq_false (fun e => z (NestedKey.num.inj e))]
  | .non, .non, a, b, h, k => by
    unfold nkOf at h k
    cases h; cases k
    unfold keq; rfl
  | .tup xs, .tup ys, a, b, h, k => by
    obtain ⟨as, h1, rfl⟩ := nk_tup h
    obtain ⟨bs, k1, rfl⟩ := nk_tup k
    unfold keq
    rw [keqs_ok xs ys as bs h1 k1]
    by_cases z : as = bs
    · subst z; simp
    · rw [decide_eq_false z, decide_eq_false (fun e => z (NestedKey.tup.inj e))]
  | .int i, .non, a, b, h, k => by unfold nkOf at h k; cases h; cases k; unfold keq; rw [decide_eq_false (fun e => by cases e)]
  | .int i, .tup ys, a, b, h, k => by obtain ⟨bs, k1, rfl⟩ := nk_tup k; unfold nkOf at h; cases h; unfold keq; rw [decide_eq_false (fun e => by cases e)]
  | .non, .int j, a, b, h, k => by unfold nkOf at h k; cases h; cases k; unfold keq; rw [decide_eq_false (fun e => by cases e)]
  | .non, .tup ys, a, b, h, k => by obtain ⟨bs, k1, rfl⟩ := nk_tup k; unfold nkOf at h; cases h; unfold keq; rw [decide_eq_false (fun e => by cases e)]
  | .tup xs, .int j, a, b, h, k => by obtain ⟨as, h1, rfl⟩ := nk_tup h; unfold nkOf at k; cases k; unfold keq; rw [decide_eq_false (fun e => by cases e)]
  | .tup xs, .non, a, b, h, k => by obtain ⟨as, h1, rfl⟩ := nk_tup h; unfold nkOf at k; cases k; unfold keq; rw [decide_eq_false (fun e => by cases e)]
  | .bl _, _, a, b, h, _ => by unfold nkOf at h; cases h
  | .str _, _, a, b, h, _ => by unfold nkOf at h; cases h
  | .lst _, _, a, b, h, _ => by unfold nkOf at h; cases h
  | .ro _, _, a, b, h, _ => by unfold nkOf at h; cases h
  | .cell _, _, a, b, h, _ => by unfold nkOf at h; cases h
  | .obj _ _, _, a, b, h, _ => by unfold nkOf at h; cases h
  | .ty _, _, a, b, h, _ => by unfold nkOf at h; cases h
  | .cls _, _, a, b, h, _ => by unfold nkOf at h; cases h
  | .dct _ _, _, a, b, h, _ => by unfold nkOf at h; cases h
  | .mdc _ _, _, a, b, h, _ => by unfold nkOf at h; cases h
  | .mse _, _, a, b, h, _ => by unfold nkOf at h; cases h
  | _, .bl _, a, b, _, k => by unfold nkOf at k; cases k
  | _, .str _, a, b, _, k => by unfold nkOf at k; cases k
  | _, .lst _, a, b, _, k => by unfold nkOf at k; cases k
  | _, .ro _, a, b, _, k => by unfold nkOf at k; cases k
  | _, .cell _, a, b, _, k => by unfold nkOf at k; cases k
  | _, .obj _ _, a, b, _, k => by unfold nkOf at k; cases k
  | _, .ty _, a, b, _, k => by unfold nkOf at k; cases k
  | _, .cls _, a, b, _, k => by unfold nkOf at k; cases k
  | _, .dct _ _, a, b, _, k => by unfold nkOf at k; cases k
  | _, .mdc _ _, a, b, _, k => by unfold nkOf at k; cases k
  | _, .mse _, a, b, _, k => by unfold nkOf at k; cases k
theorem keqs_ok : ∀ (ds es : List D) (as bs : List NestedKey), nksOf ds = some as → nksOf es = some bs → keqs ds es = decide (as = bs)
  | [], [], as, bs, h, k => by unfold nksOf at h k; cases h; cases k; unfold keqs; rfl
  | [], e :: es, as, bs, h, k => by
    obtain ⟨b, bs', _, _, rfl⟩ := nks_cons k
    unfold nksOf at h; cases h
    unfold keqs; rw [decide_eq_false (fun e => by cases e)]
  | d :: ds, [], as, bs, h, k => by
    obtain ⟨a, as', _, _, rfl⟩ := nks_cons h
    unfold nksOf at k; cases k
    unfold keqs; rw [decide_eq_false (fun e => by cases e)]
  | d :: ds, e :: es, as, bs, h, k => by
    obtain ⟨a, as', h1, h2, rfl⟩ := nks_cons h
    obtain ⟨b, bs', k1, k2, rfl⟩ := nks_cons k
    unfold keqs
    rw [keq_ok d e a b h1 k1, keqs_ok ds es as' bs' h2 k2]
    by_cases z : a = b
    · subst z
      by_cases z2 : as' = bs'
      · subst z2; simp
      · rw [decide_eq_false z2, decide_eq_false (fun e => z2 (List.cons.inj e).2)]; simp
    · rw [decide_eq_false z, decide_eq_false (fun e => z (List.cons.inj e).1)]; rfl
end
mutual
theorem nk_tf : ∀ (d : D) (a : NestedKey), nkOf d = some a → tf a = true
  | .int _, a, h => by unfold nkOf at h; cases h; unfold tf; rfl
  | .non, a, h => by unfold nkOf at h; cases h; unfold tf; rfl
  | .tup ds, a, h => by
    obtain ⟨as, h1, rfl⟩ := nk_tup h
    unfold tf
    exact nks_tf ds as h1
  | .bl _, a, h => by unfold nkOf at h; cases h
  | .str _, a, h => by unfold nkOf at h; cases h
  | .lst _, a, h => by unfold nkOf at h; cases h
  | .ro _, a, h => by unfold nkOf at h; cases h
  | .cell _, a, h => by unfold nkOf at h; cases h
  | .obj _ _, a, h => by unfold nkOf at h; cases h
  | .ty _, a, h => by unfold nkOf at h; cases h
  | .cls _, a, h => by unfold nkOf at h; cases h
  | .dct _ _, a, h => by unfold nkOf at h; cases h
  | .mdc _ _, a, h => by unfold nkOf at h; cases h
  | .mse _, a, h => by unfold nkOf at h; cases h
theorem nks_tf : ∀ (ds : List D) (as : List NestedKey), nksOf ds = some as → tfs as = true
  | [], as, h => by unfold nksOf at h; cases h; unfold tfs; rfl
  | d :: ds, as, h => by
    obtain ⟨a, as', h1, h2, rfl⟩ := nks_cons h
    unfold tfs
    rw [nk_tf d a h1, nks_tf ds as' h2]; rfl
end
mutual
theorem nk_is {c : Cs} {F H : Hp} {θ : List Addr} {P : Program} {w : World} {h : Heap} (sub : Le F H) (ok : HOk P w H h) : ∀ (d : D) (v : V) (u : Value) (a : NestedKey), R c F θ v d → nkOf d = some a → RelV v u → NestedIs h a u
  | .int i, v, u, a, r, k, e => by
    unfold nkOf at k; cases k
    unfold R at r; subst r
    obtain ⟨t, rfl⟩ := (show ∃ t, u = .int i t from e)
    exact .int i t
  | .non, v, u, a, r, k, e => by
    unfold nkOf at k; cases k
    unfold R at r; subst r
    obtain rfl := (show u = .none from e)
    exact .none
  | .tup ds, v, u, a, r, k, e => by
    obtain ⟨as, k1, rfl⟩ := nk_tup k
    unfold R at r
    obtain ⟨p, xs, rfl, ⟨o, hp, _⟩, r2⟩ := r
    obtain rfl : u = .ref p := e
    obtain ⟨_, _, its, rv, ob, e1, e2, n, e3⟩ := (show ObjOk P w H h p (.frz o (.tup xs)) from ok p _ (sub p _ hp))
    exact .tup e1 e2 e3 (nks_is sub ok ds xs its as r2 k1 rv)
  | .bl _, _, _, a, _, h, _ => by unfold nkOf at h; cases h
  | .str _, _, _, a, _, h, _ => by unfold nkOf at h; cases h
  | .lst _, _, _, a, _, h, _ => by unfold nkOf at h; cases h
  | .ro _, _, _, a, _, h, _ => by unfold nkOf at h; cases h
  | .cell _, _, _, a, _, h, _ => by unfold nkOf at h; cases h
  | .obj _ _, _, _, a, _, h, _ => by unfold nkOf at h; cases h
  | .ty _, _, _, a, _, h, _ => by unfold nkOf at h; cases h
  | .cls _, _, _, a, _, h, _ => by unfold nkOf at h; cases h
  | .dct _ _, _, _, a, _, h, _ => by unfold nkOf at h; cases h
  | .mdc _ _, _, _, a, _, h, _ => by unfold nkOf at h; cases h
  | .mse _, _, _, a, _, h, _ => by unfold nkOf at h; cases h
theorem nks_is {c : Cs} {F H : Hp} {θ : List Addr} {P : Program} {w : World} {h : Heap} (sub : Le F H) (ok : HOk P w H h) : ∀ (ds : List D) (vs : List V) (us : List Value) (as : List NestedKey), RA c F θ vs ds → nksOf ds = some as → Vals vs us → NestedAll h as us
  | [], vs, us, as, r, k, e => by
    unfold nksOf at k; cases k
    rw [r.nil_inv] at e
    cases e
    exact .nil
  | d :: ds, vs, us, as, r, k, e => by
    obtain ⟨a, as', h1, h2, rfl⟩ := nks_cons k
    obtain ⟨v, r', rfl, q, t⟩ := r.cons_inv
    cases e with
    | cons e1 e2 => exact .cons (nk_is sub ok d v _ a q h1 e1) (nks_is sub ok ds r' _ as' t h2 e2)
end
/-- a key's own form -/
def keyOk (d : D) : Bool := match nkOf d with
  | some (.tup ks) => decide ((NestedKey.tup ks).depth ≤ 8)
  | _ => false
theorem key_of {c : Cs} {F : Hp} {θ : List Addr} {v : V} {d : D} (r : R c F θ v d) (k : keyOk d = true) : ∃ b ks, v = .ref b ∧ nkOf d = some (.tup ks) ∧ (NestedKey.tup ks).depth ≤ 8 ∧ NKV F b (.tup ks) := by
  unfold keyOk at k
  split at k
  · rename_i ks hk
    have hd := of_decide_eq_true k
    cases d with
    | tup ds =>
      have r0 := r
      unfold R at r
      obtain ⟨p, xs, rfl, _⟩ := r
      exact ⟨p, ks, rfl, hk, hd, nk_tf _ _ hk, fun P w H h l ok => ⟨nk_is l ok _ _ _ _ r0 hk rfl, hd⟩⟩
    | _ => unfold nkOf at hk; cases hk
  · cases k
end MX


set_option Elab.async false
set_option linter.all false
set_option maxRecDepth 100000
namespace MX
open PySem PySem.Spec PyProof.Rows L2
/-! ### what a dict holds -/
/-- frozen, or a cell -/
def gd (s : Sto) : D → Option (List D × List D)
  | .dct ks vs => some (ks, vs)
  | .cell i => match s[i]? with
    | some [.mdc ks vs] => some (ks, vs)
    | _ => none
  | _ => none
def dgetL : List D → List D → D → Option D
  | k :: ks, v :: vs, x => if keq k x = true then some v else dgetL ks vs x
  | _, _, _ => none
def dputL : List D → List D → D → D → List D × List D
  | k :: ks, v :: vs, x, y => if keq k x = true then (k :: ks, y :: vs) else (k :: (dputL ks vs x y).1, v :: (dputL ks vs x y).2)
  | _, _, x, y => ([x], [y])
/-- the relation to the entries -/
structure DR (c : Cs) (F : Hp) (θ : List Addr) (a : Addr) (xs : NX) (ks vs : List D) : Prop where
  xf : XF a xs
  nk : nksOf ks = some (xs.map (·.1))
  rk : RA c F θ (xs.map fun x => V.ref x.2.1) ks
  rv : ∃ us, Vals us (xs.map fun x => x.2.2) ∧ RA c F θ us vs
section
variable {c : Cs} {s : Sto} {F H : Hp} {θ : List Addr} {a : Addr} {xs : NX} {ks vs : List D}
theorem gd_of (w : WOk c s F θ H) {v : V} {d : D} (r : R c F θ v d) (g : gd s d = some (ks, vs)) : ∃ a xs ep, v = .ref a ∧ H a = some (.ext (DX a xs ep)) ∧ DR c F θ a xs ks vs := by
  cases d with
  | dct k2 v2 =>
    cases g
    unfold R at r
    obtain ⟨a, xs, ep, us, e1, e2, e3, e4, e5, e6, e7⟩ := r
    exact ⟨a, xs, ep, e1, w.sub a _ e2, e3, e4, e5, us, e6, e7⟩
  | cell i =>
    obtain ⟨a, rfl, ha⟩ := r_cell_inv (c := c) (F := F) (θ := θ) r
    unfold gd at g
    dsimp only at g
    cases z : s[i]? with
    | none => rw [z] at g; cases g
    | some ds =>
      rw [z] at g
      obtain ⟨o, e1, q⟩ := w.cel i a ds ha z
      split at g
      · rename_i k2 v2 e
        cases g
        cases e
        rcases q with ⟨ys, _, q⟩ | ⟨k3, v3, e, q⟩ | ⟨k3, e, _⟩
        · obtain ⟨v, r', _, q, _⟩ := q.cons_inv
          unfold R at q
          exact q.elim
        · cases e
          obtain ⟨xs, ep, us, f1, f2, f3, f4, f5, f6⟩ := q
          subst f1
          exact ⟨a, xs, ep, rfl, e1, f2, f3, f4, us, f5, f6⟩
        · cases e
      · cases g
  | _ => cases g
theorem ra_mem : ∀ {l : List V} {ds : List D} {v : V}, RA c F θ l ds → v ∈ l → ∃ d ∈ ds, R c F θ v d
  | _, [], _, r, m => by rw [r.nil_inv] at m; cases m
  | _, d :: ds, v, r, m => by
    obtain ⟨u, r', rfl, q, t⟩ := r.cons_inv
    rcases List.mem_cons.mp m with rfl | m
    · exact ⟨d, List.mem_cons_self, q⟩
    · obtain ⟨d', m', q'⟩ := ra_mem t m
      exact ⟨d', List.mem_cons_of_mem _ m', q'⟩
theorem nks_map : ∀ {ks : List D} {ns : List NestedKey}, nksOf ks = some ns → ks.map nkOf = ns.map some
  | [], ns, h => by unfold nksOf at h; cases h; rfl
  | d :: ds, ns, h => by
    obtain ⟨k, ks', h1, h2, rfl⟩ := nks_cons h
    rw [List.map_cons, List.map_cons, h1, nks_map h2]
theorem ents_ok : ∀ (xs : NX) (ks : List D), nksOf ks = some (xs.map (·.1)) → RA c F θ (xs.map fun x => V.ref x.2.1) ks → (∀ x ∈ xs, x.1.depth ≤ 8 ∧ ∃ ks, x.1 = .tup ks) → ∀ x ∈ xs, NKV F x.2.1 x.1
  | [], _, _, _, _, x, m => by cases m
  | y :: xs, [], h, _, _, x, m => by unfold nksOf at h; cases h
  | y :: xs, k :: ks, h, r, dp, x, m => by
    obtain ⟨n, ns, h1, h2, e⟩ := nks_cons h
    obtain ⟨e1, e2⟩ := List.cons.inj e
    obtain ⟨v, r', e3, q, t⟩ := r.cons_inv
    obtain ⟨e4, e5⟩ := List.cons.inj e3
    rcases List.mem_cons.mp m with rfl | m
    · obtain ⟨d1, ks1, d2⟩ := dp x List.mem_cons_self
      subst e4
      have e1 : x.1 = n := e1
      have hk : nkOf k = some (.tup ks1) := by rw [h1, ← e1, d2]
      have ko : keyOk k = true := by
        unfold keyOk
        rw [hk]
        exact decide_eq_true (by rw [← d2]; exact d1)
      obtain ⟨b, ks2, f1, f2, _, f4⟩ := key_of q ko
      rw [hk] at f2
      cases f2
      cases f1
      rw [d2]
      exact f4
    · subst e5
      refine ents_ok xs ks (by rw [h2, ← e2]) t (fun x m => dp x (List.mem_cons_of_mem _ m)) x m
theorem DR.ok (r : DR c F θ a xs ks vs) (sub : Le F H) {ep : Nat} (h : H a = some (.ext (DX a xs ep))) : DOk F H a xs ep :=
  ⟨h, r.xf.ns, r.xf.nd, r.xf.sz, ents_ok xs ks r.nk r.rk r.xf.dp, sub⟩
/-- what a look-up gives -/
theorem look_ok {x : D} {n : NestedKey} (hx : nkOf x = some n) : ∀ (xs : NX) (ks vs : List D) (us : List V), nksOf ks = some (xs.map (·.1)) → Vals us (xs.map fun x => x.2.2) → RA c F θ us vs →
    (∀ d, dgetL ks vs x = some d → ∃ v u, (atKey xs n).map (·.2) = some u ∧ RelV v u ∧ R c F θ v d) ∧ (dgetL ks vs x = none → atKey xs n = none)
  | [], [], vs, us, h, e, r => by
    refine ⟨fun d g => ?_, fun _ => rfl⟩
    unfold dgetL at g
    cases g
  | [], k :: ks, _, _, h, _, _ => by obtain ⟨_, _, _, _, e⟩ := nks_cons h; cases e
  | y :: xs, [], _, _, h, _, _ => by unfold nksOf at h; cases h
  | y :: xs, k :: ks, vs, us, h, e, r => by
    obtain ⟨n2, ns, h1, h2, e0⟩ := nks_cons h
    obtain ⟨e1, e2⟩ := List.cons.inj e0
    cases e with
    | @cons v0 u0 us0 us1 hv ht =>
      cases vs with
      | nil => have := r.nil_inv; cases this
      | cons d0 vs =>
        obtain ⟨v1, r1, e3, q, t⟩ := r.cons_inv
        obtain ⟨e4, e5⟩ := List.cons.inj e3
        subst e4 e5
        obtain ⟨i1, i2⟩ := look_ok hx xs ks vs us0 (by rw [h2, ← e2]) ht t
        have kk := keq_ok k x n2 n h1 hx
        unfold dgetL
        by_cases z : n2 = n
        · rw [kk, decide_eq_true z]
          have hat : atKey (y :: xs) n = some y.2 := by
            unfold atKey
            rw [List.find?_cons_of_pos (by rw [show y.1 = n from e1.trans z]; simp)]
            rfl
          refine ⟨fun d g => ?_, fun g => by cases g⟩
          cases g
          exact ⟨v0, y.2.2, by rw [hat]; rfl, hv, q⟩
        · rw [kk, decide_eq_false z]
          have hat : atKey (y :: xs) n = atKey xs n := by
            unfold atKey
            rw [List.find?_cons_of_neg (by rw [decide_eq_false (fun e => z (e1.symm.trans e))]; simp)]
          rw [hat]
          exact ⟨i1, i2⟩
end
section
variable {c : Cs} {E : XK}
/-! ### in, d[k], d.get(k, x) -/
def dDIn (neg : Bool) (ek ed : Fn D) : Fn D := fun ρ s => (ek ρ s).bind fun k s => (ed ρ s).bind fun d s => match gd s d with
  | some (ks, vs) => if keyOk k = true then .ok (.bl (if neg then !(dgetL ks vs k).isSome else (dgetL ks vs k).isSome)) s else .bad
  | none => .bad
theorem nget_of {s : Sto} {F H : Hp} {θ : List Addr} {v y : V} {d k : D} {ks vs : List D} (w : WOk c s F θ H) (rd : R c F θ v d) (rk : R c F θ y k) (g : gd s d = some (ks, vs)) (ko : keyOk k = true) :
    ∃ a, v = .ref a ∧ (∀ d', dgetL ks vs k = some d' → ∃ u, NGet H a y (some u) ∧ R c F θ u d') ∧ (dgetL ks vs k = none → NGet H a y none) := by
  obtain ⟨a, xs, ep, rfl, ha, dr⟩ := gd_of w rd g
  obtain ⟨b, nk, rfl, hk, _, kb⟩ := key_of rk ko
  have dok := dr.ok w.sub ha
  obtain ⟨us, hv, rv⟩ := dr.rv
  obtain ⟨l1, l2⟩ := look_ok (c := c) (F := F) (θ := θ) hk xs ks vs us dr.nk hv rv
  refine ⟨a, rfl, fun d' e => ?_, fun e => ?_⟩
  · obtain ⟨v', u, f1, f2, f3⟩ := l1 d' e
    exact ⟨v', ⟨F, xs, ep, b, _, dok, rfl, kb, by rw [f1]; exact f2⟩, f3⟩
  · exact ⟨F, xs, ep, b, _, dok, rfl, kb, by rw [l2 e]; exact trivial⟩
theorem den_dIn {neg : Bool} {tk td : TE} {ek ed : Fn D} (hk : DenE c E tk ek) (hd : DenE c E td ed) : DenE c E (tNIn neg tk td) (dDIn neg ek ed) := by
  refine den_bind (r2 := rV c) (K := fun σ y H1 Q => td σ H1 fun x H2 => ∃ a o, x = .ref a ∧ NGet H2 a y o ∧ Q (.bl (if neg then !o.isSome else o.isSome)) H2) hk fun H0 σ ρ s F θ H Hi y k Q he hw q hp => ?_
  refine hd H0 σ ρ s F θ H _ he hw ?_
  cases z : ed ρ s with
  | bad => rw [z] at hp; exact hp
  | exc _ _ _ => rw [z] at hp; exact hp
  | ok d s' =>
    rw [z] at hp
    intro x F' θ' H' x' w' rx
    dsimp only [Res.bind] at hp
    have q' : R c F' θ' y k := R.mono x'.fr x'.th k q
    cases zg : gd s' d with
    | none => rw [zg] at hp; exact hp.elim
    | some p =>
      obtain ⟨ks, vs⟩ := p
      rw [zg] at hp
      dsimp only at hp
      split at hp
      · rename_i ko
        obtain ⟨a, rfl, g1, g2⟩ := nget_of w' rx q' zg ko
        cases zl : dgetL ks vs k with
        | some d' =>
          obtain ⟨u, n, _⟩ := g1 d' zl
          rw [zl] at hp
          exact ⟨a, some u, rfl, n, hp _ F' θ' H' x' w' (show R c F' θ' _ _ from r_bl)⟩
        | none =>
          rw [zl] at hp
          exact ⟨a, none, rfl, g2 zl, hp _ F' θ' H' x' w' (show R c F' θ' _ _ from r_bl)⟩
      · exact hp.elim
def dDGet (ed ek : Fn D) : Fn D := fun ρ s => (ed ρ s).bind fun d s => (ek ρ s).bind fun k s => match gd s d with
  | some (ks, vs) => if keyOk k = true then Res.ofO (dgetL ks vs k) s else .bad
  | none => .bad
theorem den_dGet {td tk : TE} {ed ek : Fn D} (hd : DenE c E td ed) (hk : DenE c E tk ek) : DenE c E (tNGet td tk) (dDGet ed ek) := by
  refine den_bind (r2 := rV c) (K := fun σ x H1 Q => tk σ H1 fun y H2 => ∃ a v, x = .ref a ∧ NGet H2 a y (some v) ∧ Q v H2) hd fun H0 σ ρ s F θ H Hi x d Q he hw q hp => ?_
  refine hk H0 σ ρ s F θ H _ he hw ?_
  cases z : ek ρ s with
  | bad => rw [z] at hp; exact hp
  | exc _ _ _ => rw [z] at hp; exact hp
  | ok k s' =>
    rw [z] at hp
    intro y F' θ' H' x' w' ry
    dsimp only [Res.bind] at hp
    have q' : R c F' θ' x d := R.mono x'.fr x'.th d q
    cases zg : gd s' d with
    | none => rw [zg] at hp; exact hp.elim
    | some p =>
      obtain ⟨ks, vs⟩ := p
      rw [zg] at hp
      dsimp only at hp
      split at hp
      · rename_i ko
        obtain ⟨a, rfl, g1, g2⟩ := nget_of w' q' ry zg ko
        cases zl : dgetL ks vs k with
        | some d' =>
          obtain ⟨u, n, ru⟩ := g1 d' zl
          rw [zl] at hp
          exact ⟨a, u, rfl, n, hp _ F' θ' H' x' w' ru⟩
        | none => rw [zl] at hp; exact hp.elim
      · exact hp.elim
def dDGet2 (ed ek ex : Fn D) : Fn D := fun ρ s => (ed ρ s).bind fun d s => match gd s d with
  | some _ => (ek ρ s).bind fun k s => (ex ρ s).bind fun x s => (match gd s d with
    | some (ks, vs) => if keyOk k = true then .ok ((dgetL ks vs k).getD x) s else .bad
    | none => .bad)
  | none => .bad
theorem den_dGet2 {td tk tx : TE} {ed ek ex : Fn D} (hd : DenE c E td ed) (hk : DenE c E tk ek) (hx : DenE c E tx ex) : DenE c E (tNGet2 td tk tx) (dDGet2 ed ek ex) := by
  refine den_bind (r2 := rV c) (K := fun σ x H1 Q => ∃ G a xs ep, x = .ref a ∧ DOk G H1 a xs ep ∧ tk σ H1 fun y H2 => tx σ H2 fun z H3 => ∃ o, NGet H3 a y o ∧ Q (o.getD z) H3) hd fun H0 σ ρ s F θ H Hi x d Q he hw q hp => ?_
  have q : R c F θ x d := q
  cases zg0 : gd s d with
  | none => rw [zg0] at hp; exact hp.elim
  | some p0 =>
    obtain ⟨k0, v0⟩ := p0
    rw [zg0] at hp
    dsimp only at hp
    obtain ⟨a, xs, ep, rfl, ha, dr⟩ := gd_of hw q zg0
    refine ⟨F, a, xs, ep, rfl, dr.ok hw.sub ha, ?_⟩
    refine hk H0 σ ρ s F θ H _ he hw ?_
    cases z : ek ρ s with
    | bad => rw [z] at hp; exact hp
    | exc _ _ _ => rw [z] at hp; exact hp
    | ok k s1 =>
      rw [z] at hp
      intro y F1 θ1 H1 x1 w1 ry
      dsimp only [Res.bind] at hp
      refine hx H0 σ ρ s1 F1 θ1 H1 _ (he.ext x1) w1 ?_
      cases z2 : ex ρ s1 with
      | bad => rw [z2] at hp; exact hp
      | exc _ _ _ => rw [z2] at hp; exact fun F2 θ2 H2 dx x2 w2 r => hp F2 θ2 H2 dx (x1.trans x2) w2 r
      | ok dx s2 =>
        rw [z2] at hp
        intro u F2 θ2 H2 x2 w2 ru
        dsimp only at hp
        have q' : R c F2 θ2 (.ref a) d := R.mono (x1.trans x2).fr (x1.trans x2).th d q
        have ry' : R c F2 θ2 y k := R.mono x2.fr x2.th k ry
        cases zg : gd s2 d with
        | none => rw [zg] at hp; exact hp.elim
        | some p =>
          obtain ⟨ks, vs⟩ := p
          rw [zg] at hp
          dsimp only at hp
          split at hp
          · rename_i ko
            obtain ⟨a2, e2, g1, g2⟩ := nget_of w2 q' ry' zg ko
            cases e2
            cases zl : dgetL ks vs k with
            | some d' =>
              obtain ⟨u', n, ru'⟩ := g1 d' zl
              rw [zl] at hp
              exact ⟨_, n, hp _ F2 θ2 H2 (x1.trans x2) w2 ru'⟩
            | none =>
              rw [zl] at hp
              exact ⟨_, g2 zl, hp _ F2 θ2 H2 (x1.trans x2) w2 ru⟩
          · exact hp.elim
/-! ### {} -/
/-- a new cell -/
def dDNew : Fn D := fun _ s => .ok (.cell s.length) (s ++ [[.mdc [] []]])
/-- frozen -/
def dDEmp : Fn D := fun _ s => .ok (.dct [] []) s
theorem xf_nil {p : Addr} (h : (p == sysModules) = false) : XF p [] := ⟨h, List.nodup_nil, Nat.zero_le _, fun x m => by cases m⟩
theorem den_dEmp : DenE c E tNNew dDEmp := by
  intro H0 σ ρ s F θ H Q he hw hp
  intro p hn hs
  exact hp _ _ θ _ (Ext.new hn (hw.free hn).1 (hw.free hn).2) (hw.new hn) (by
    show R c _ θ _ (.dct [] [])
    unfold R
    exact ⟨p, [], 0, [], rfl, upd_same, xf_nil hs, rfl, RA.nil, .nil, RA.nil⟩)
end
end MX


set_option Elab.async false
set_option linter.all false
set_option maxRecDepth 100000
namespace MX
open PySem PySem.Spec PyProof.Rows L2
section
variable {c : Cs} {s : Sto} {F H : Hp} {θ : List Addr}
theorem WOk.cellNewG {s : Sto} {p : Addr} {o : HO} {ds : List D} (w : WOk c s F θ H) (h : H p = some o) (r : CelR c F (θ ++ [p]) p o ds) (hF : F p = none) (ht : p ∉ θ) : WOk c (s ++ [ds]) F (θ ++ [p]) H where
  sub := w.sub
  fc := fun a m => by
    rcases List.mem_append.mp m with m | m
    · exact w.fc a m
    · rw [List.mem_singleton.mp m]
      exact ⟨hF, by rw [h]; simp⟩
  nd := by
    rw [List.nodup_append]
    exact ⟨w.nd, by simp, fun a ha b hb e => ht (by rw [← List.mem_singleton.mp hb, ← e]; exact ha)⟩
  len := by simp [w.len]
  cel := fun i a es h1 h2 => by
    have hl := w.len
    by_cases q : i < θ.length
    · rw [List.getElem?_append_left q] at h1
      rw [List.getElem?_append_left (hl ▸ q)] at h2
      obtain ⟨o', e, r'⟩ := w.cel i a es h1 h2
      exact ⟨o', e, r'.mono (Le.refl F) ⟨[p], rfl⟩⟩
    · have hi : i = θ.length := by
        have := get_lt h1
        rw [List.length_append] at this
        simp at this
        omega
      subst hi
      rw [List.getElem?_append_right (Nat.le_refl _), Nat.sub_self] at h1
      rw [List.getElem?_append_right (by omega), hl, Nat.sub_self] at h2
      cases h1
      cases h2
      exact ⟨o, h, r⟩
theorem WOk.cellSetG {s : Sto} {p : Addr} {i : Nat} {o : HO} {es : List D} (w : WOk c s F θ H) (hi : θ[i]? = some p) (r : CelR c F θ p o es) : WOk c (s.set i es) F θ (upd H p o) := by
  have hm : p ∈ θ := List.mem_of_getElem? hi
  refine ⟨w.sub.updR (w.fc p hm).1, fun a m => ?_, w.nd, by simp [w.len], fun j a fs h1 h2 => ?_⟩
  · by_cases q : a = p
    · rw [q, upd_same]; exact ⟨(w.fc p hm).1, by simp⟩
    · rw [upd_ne q]; exact w.fc a m
  · by_cases q : j = i
    · rw [q] at h1 h2
      rw [hi] at h1
      cases h1
      have hj : i < s.length := by rw [← w.len]; exact get_lt hi
      rw [List.getElem?_set_self hj] at h2
      cases h2
      exact ⟨o, upd_same, r⟩
    · rw [List.getElem?_set_ne (fun e => q e.symm)] at h2
      obtain ⟨o', e, r'⟩ := w.cel j a fs h1 h2
      have na : a ≠ p := fun z => q (nd_ix w.nd (z ▸ h1) hi)
      exact ⟨o', by rw [upd_ne na]; exact e, r'⟩
end
section
variable {c : Cs} {E : XK}
theorem DR.cel {F : Hp} {θ : List Addr} {a : Addr} {xs : NX} {ks vs : List D} {ep : Nat} (r : DR c F θ a xs ks vs) : CelR c F θ a (.ext (DX a xs ep)) [.mdc ks vs] := by
  obtain ⟨us, h1, h2⟩ := r.rv
  exact .inr (.inl ⟨ks, vs, rfl, xs, ep, us, rfl, r.xf, r.nk, r.rk, h1, h2⟩)
theorem dr_nil {F : Hp} {θ : List Addr} {p : Addr} (h : (p == sysModules) = false) : DR c F θ p [] [] [] := ⟨xf_nil h, rfl, RA.nil, [], .nil, RA.nil⟩
theorem den_dNew : DenE c E tNNew dDNew := by
  intro H0 σ ρ s F θ H Q he hw hp
  intro p hn hs
  have fr := hw.free hn
  refine hp _ F (θ ++ [p]) _ (Ext.cellNew (Ext.newH hn) hn) ((hw.newH hn).cellNewG upd_same (dr_nil hs).cel fr.1 fr.2) ?_
  show R c F (θ ++ [p]) (.ref p) (.cell s.length)
  unfold R
  exact ⟨p, rfl, by rw [← hw.len, List.getElem?_append_right (Nat.le_refl _)]; simp⟩
/-! ### d[k] = v -/
def sDPut (ed ek ev : Fn D) : Sf := sBind ev fun ρ v s => match ed ρ s with
  | .ok d s => (match ek ρ s with
    | .ok k s => (match d with
      | .cell i => (match s[i]? with
        | some [.mdc ks vs] => if (keyOk k && decide (ks.length < 1000000)) = true then .next ρ (s.set i [.mdc (dputL ks vs k v).1 (dputL ks vs k v).2]) else .bad
        | _ => .bad)
      | _ => .bad)
    | .exc j fs s => .exc j fs s
    | .bad => .bad)
  | .exc j fs s => .exc j fs s
  | .bad => .bad
theorem stored_cons {y : NestedKey × Addr × Value} {xs : NX} {n : NestedKey} {b : Addr} {r : Value} (nd : ((y :: xs).map (·.1)).Nodup) : storedH (y :: xs) n b r = if y.1 = n then (y.1, y.2.1, r) :: xs else y :: storedH xs n b r := by
  have nd' := List.nodup_cons.mp nd
  by_cases z : y.1 = n
  · rw [if_pos z]
    have hat : (atKey (y :: xs) n).isSome = true := by
      unfold atKey
      rw [List.find?_cons_of_pos (by rw [z]; simp)]; rfl
    unfold storedH
    rw [if_pos hat, List.map_cons, map_putAt_of_not_mem xs n r (by rw [← z]; exact nd'.1)]
    unfold putAt
    rw [if_pos z]
  · rw [if_neg z]
    have hat : atKey (y :: xs) n = atKey xs n := by
      unfold atKey
      rw [List.find?_cons_of_neg (by rw [decide_eq_false z]; simp)]
    unfold storedH
    rw [hat]
    split
    · rw [List.map_cons]
      unfold putAt
      rw [if_neg z]
    · rfl
theorem put_ok {F : Hp} {θ : List Addr} {x d : D} {n : NestedKey} {b : Addr} {r : Value} {v : V} (hx : nkOf x = some n) (rx : R c F θ (.ref b) x) (hv : RelV v r) (rd : R c F θ v d) :
    ∀ (xs : NX) (ks vs : List D) (us : List V), nksOf ks = some (xs.map (·.1)) → RA c F θ (xs.map fun x => V.ref x.2.1) ks → Vals us (xs.map fun x => x.2.2) → RA c F θ us vs → (xs.map (·.1)).Nodup →
      nksOf (dputL ks vs x d).1 = some ((storedH xs n b r).map (·.1)) ∧ RA c F θ ((storedH xs n b r).map fun x => V.ref x.2.1) (dputL ks vs x d).1 ∧ (∃ us', Vals us' ((storedH xs n b r).map fun x => x.2.2) ∧ RA c F θ us' (dputL ks vs x d).2) ∧ ((storedH xs n b r).map (·.1)).Nodup ∧ (∀ m, m ∈ (storedH xs n b r).map (·.1) → m = n ∨ m ∈ xs.map (·.1))
  | [], [], vs, us, _, _, hu, rv, _ => by
    cases hu
    have : vs = [] := by cases vs with
      | nil => rfl
      | cons _ _ => obtain ⟨_, _, e, _⟩ := rv.cons_inv; cases e
    subst this
    have e : storedH ([] : NX) n b r = [(n, b, r)] := rfl
    rw [e]
    refine ⟨?_, RA.cons rx RA.nil, ⟨[v], .cons hv .nil, RA.cons rd RA.nil⟩, by simp, fun m hm => .inl (by simpa using hm)⟩
    show nksOf [x] = _
    unfold nksOf
    rw [hx]; rfl
  | [], k :: ks, _, _, h, _, _, _, _ => by obtain ⟨_, _, _, _, e⟩ := nks_cons h; cases e
  | y :: xs, [], _, _, h, _, _, _, _ => by unfold nksOf at h; cases h
  | y :: xs, k :: ks, vs, us, h, rk, hu, rv, nd => by
    obtain ⟨n2, ns, h1, h2, e0⟩ := nks_cons h
    obtain ⟨e1, e2⟩ := List.cons.inj e0
    obtain ⟨v1, r1, e3, q1, t1⟩ := rk.cons_inv
    obtain ⟨e4, e5⟩ := List.cons.inj e3
    subst e4 e5
    cases hu with
    | @cons v0 u0 us0 us1 hv0 ht0 =>
      cases vs with
      | nil => have := rv.nil_inv; cases this
      | cons d0 vs =>
        obtain ⟨v2, r2, e6, q2, t2⟩ := rv.cons_inv
        obtain ⟨e7, e8⟩ := List.cons.inj e6
        subst e7 e8
        rw [stored_cons nd]
        have kk := keq_ok k x n2 n h1 hx
        have e1 : y.1 = n2 := e1
        unfold dputL
        by_cases z : n2 = n
        · rw [kk, decide_eq_true z, if_pos (e1.trans z)]
          refine ⟨?_, RA.cons q1 t1, ⟨v :: us0, .cons hv ht0, RA.cons rd t2⟩, nd, fun m hm => .inr hm⟩
          show nksOf (k :: ks) = _
          rw [h]; rfl
        · have nd' := List.nodup_cons.mp nd
          obtain ⟨i1, i2, ⟨us', i3, i4⟩, i5, i6⟩ := put_ok hx rx hv rd xs ks vs us0 (by rw [h2, ← e2]) t1 ht0 t2 nd'.2
          rw [kk, decide_eq_false z, if_neg (fun e => z (e1.symm.trans e))]
          refine ⟨?_, RA.cons q1 i2, ⟨v0 :: us', .cons hv0 i3, RA.cons q2 i4⟩, ?_, fun m hm => ?_⟩
          · show nksOf (k :: (dputL ks vs x d).1) = _
            unfold nksOf
            rw [h1, i1, List.map_cons, e1]
          · rw [List.map_cons]
            refine List.nodup_cons.mpr ⟨fun m => ?_, i5⟩
            rcases i6 _ m with e | m
            · exact z (e1.symm.trans e)
            · exact nd'.1 m
          · rw [List.map_cons] at hm
            rcases List.mem_cons.mp hm with e | hm
            · exact .inr (by rw [e]; exact List.mem_cons_self)
            · rcases i6 m hm with e | hm
              · exact .inl e
              · exact .inr (List.mem_cons_of_mem _ hm)
theorem DR.put {F : Hp} {θ : List Addr} {a b : Addr} {xs : NX} {ks vs : List D} {x d : D} {v : V} {r : Value} {kk : List NestedKey} (dr : DR c F θ a xs ks vs) (hz : xs.length < 1000000) (hx : nkOf x = some (.tup kk)) (hd : (NestedKey.tup kk).depth ≤ 8) (rx : R c F θ (.ref b) x) (hv : RelV v r) (rd : R c F θ v d) :
    DR c F θ a (storedH xs (.tup kk) b r) (dputL ks vs x d).1 (dputL ks vs x d).2 := by
  obtain ⟨us, h1, h2⟩ := dr.rv
  obtain ⟨i1, i2, i3, i4, i6⟩ := put_ok hx rx hv rd xs ks vs us dr.nk dr.rk h1 h2 dr.xf.nd
  refine ⟨⟨dr.xf.ns, i4, ?_, fun y hy => ?_⟩, i1, i2, i3⟩
  · have := storedH_length xs (.tup kk) b r
    omega
  · rcases i6 y.1 (List.mem_map_of_mem hy) with e | m
    · rw [e]
      exact ⟨hd, kk, rfl⟩
    · obtain ⟨z, hz1, e⟩ := List.mem_map.mp m
      have := dr.xf.dp z hz1
      rw [show z.1 = y.1 from e] at this
      exact this
theorem dn_dPut {td tk tv : TE} {ed ek ev : Fn D} (hd : DenE c E td ed) (hk : DenE c E tk ek) (hv : DenE c E tv ev) : DenS c E (sNPut td tk tv) (sDPut ed ek ev) := by
  refine dn_bind (K := fun Dn σ v H1 => td σ H1 fun x H2 => tk σ H2 fun y H3 => ∃ G a xs ep b nk, x = .ref a ∧ y = .ref b ∧ DOk G H3 a xs ep ∧ NKV G b nk ∧ ∀ r ep', RelV v r → Dn.nx σ (upd H3 a (.ext (DX a (storedH xs nk b r) ep')))) hv fun H0 F0 θ0 σ ρ s F θ H Hi v dv Dn s0 F1 θ1 x0 he x w rv hp => ?_
  have rv : R c F θ v dv := rv
  refine hd H0 σ ρ s F θ H _ (he.ext x) w ?_
  cases z : ed ρ s with
  | bad => rw [z] at hp; exact hp.elim
  | exc j fs s' => rw [z] at hp; exact fun F' θ' H' dx x' w' r => hp F' θ' H' dx ((x0.trans x).trans x') w' r
  | ok d s1 =>
    rw [z] at hp
    intro u F1' θ1' H1' x1 w1 rd
    have rd : R c F1' θ1' u d := rd
    refine hk H0 σ ρ s1 F1' θ1' H1' _ ((he.ext x).ext x1) w1 ?_
    dsimp only at hp
    cases z2 : ek ρ s1 with
    | bad => rw [z2] at hp; exact hp.elim
    | exc j fs s' => rw [z2] at hp; exact fun F' θ' H' dx x' w' r => hp F' θ' H' dx (((x0.trans x).trans x1).trans x') w' r
    | ok k s2 =>
      rw [z2] at hp
      intro y F2 θ2 H2 x2 w2 ry
      have ry : R c F2 θ2 y k := ry
      dsimp only at hp
      cases d with
      | cell i =>
        obtain ⟨a, rfl, hia⟩ := r_cell_inv (c := c) (F := F1') (θ := θ1') rd
        have hia2 := x2.th.get hia
        dsimp only at hp
        cases zs : s2[i]? with
        | none => rw [zs] at hp; exact hp.elim
        | some cs =>
          rw [zs] at hp
          obtain ⟨o, ho, q⟩ := w2.cel i a cs hia2 zs
          split at hp
          · rename_i ks vs e
            have e := Option.some.inj e
            subst e
            split at hp
            · rename_i cond
              rw [Bool.and_eq_true] at cond
              have hlt := of_decide_eq_true cond.2
              rcases q with ⟨ys, _, q⟩ | ⟨k3, v3, e, xs, ep, us, f1, f2, f3, f4, f5, f6⟩ | ⟨k3, e, _⟩
              · obtain ⟨_, _, _, q, _⟩ := q.cons_inv
                unfold R at q
                exact q.elim
              · cases e
                subst f1
                have dr : DR c F2 θ2 a xs ks vs := ⟨f2, f3, f4, us, f5, f6⟩
                obtain ⟨b, kk, rfl, hk1, hk2, kb⟩ := key_of ry cond.1
                have hxl : xs.length < 1000000 := by
                  have := f4.length
                  rw [List.length_map] at this
                  omega
                refine ⟨F2, a, xs, ep, b, _, rfl, rfl, dr.ok w2.sub ho, kb, fun r ep' hr => ?_⟩
                have rv2 : R c F2 θ2 v dv := R.mono (x1.trans x2).fr (x1.trans x2).th dv rv
                have dr2 := dr.put hxl hk1 hk2 ry hr rv2
                have hm : a ∈ θ2 := List.mem_of_getElem? hia2
                have xc : Ext F2 θ2 H2 F2 θ2 (upd H2 a (.ext (DX a (storedH xs (.tup kk) b r) ep'))) := Ext.cellSet hm
                exact hp σ F2 θ2 _ ((((x0.trans x).trans x1).trans x2).trans xc) (w2.cellSetG hia2 dr2.cel) ((((he.ext x).ext x1).ext x2).ext xc)
              · cases e
            · exact hp.elim
          · exact hp.elim
      | _ => exact hp.elim
end
end MX


set_option Elab.async false
set_option linter.all false
set_option maxRecDepth 100000
namespace MX
open PySem PySem.Spec PyProof.Rows L2
/-! ### a dict walked by its keys -/
def Itn (d : Addr) (xs : NX) (ep : Nat) : It :=
  ⟨fun i H => H d = some (.ext (DX d xs ep)) ∧ i < xs.length, fun i H x H' => H' = H ∧ ∃ e, xs[i]? = some e ∧ x = .ref e.2.1, fun i H => H d = some (.ext (DX d xs ep)) ∧ xs.length ≤ i⟩
section
variable {X : Cx} {pins : List (Addr × Obj)} {σ : L2.St} {H : Hp} {s : Shared} {d : Addr} {xs : NX} {ep : Nat}
theorem dx_at (I : Inv X pins σ H s) (h : H d = some (.ext (DX d xs ep))) : DX d xs ep s.heap := (show ObjOk X.prog X.w H s.heap d (.ext (DX d xs ep)) from I.hok d _ h).1
theorem dx_get {es : Array DictEntry} (he : es.toList = xs.map entN) {i : Nat} {e : NestedKey × Addr × Value} (h : xs[i]? = some e) : es[i]? = some (entN e) := by
  rw [← Array.getElem?_toList, he, List.getElem?_map, h]; rfl
theorem dx_size {es : Array DictEntry} (he : es.toList = xs.map entN) : es.size = xs.length := by
  rw [← Array.length_toList, he, List.length_map]
end
section
variable {P : Program} {w : World} {K : PySem.W.Frag} {tg : Expr} {d : Addr}
theorem turn_n {xs : NX} {ep : Nat} (it : Addr) : Turn P w K tg (Itn d xs ep) [it] it (fun i h => h.IsKeyIter it d i xs.length ep) where
  mem := by simp
  obj := fun i h st b hb => by
    have e : b = it := by simpa using hb
    subst e
    obtain ⟨oi, e, c, dd⟩ := st
    exact ⟨oi, e, fun v z => by rw [dd] at z; cases z⟩
  keep := fun i h h' st k => st.at fun oi e => k it (by simp) oi e
  item := by
    intro X hP hw hK hc i pins s σ H E I hf st hg
    subst hP hw hK
    obtain ⟨hd, hi⟩ := hg
    obtain ⟨f0, f1, f2, f3, f4, f5⟩ := hf it (by simp)
    obtain ⟨o, es, hgd, hx, hdt, he⟩ := dx_at I hd
    have hsz := dx_size he
    have hkv : xs[i]? = some xs[i] := List.getElem?_eq_getElem hi
    refine next_key_item st hgd hdt hsz (dx_get he hkv) fun h' st' sb => ?_
    have I1 : Inv X pins σ H { s with heap := h' } := I.turned (t' := s.toks) (fun b ob hb e => (sb.2 b hb).trans e) f0 f1 f3 f4 f5
    obtain ⟨oi, e, c, dd⟩ := id st'
    exact ⟨(entN xs[i]).key, rfl, go_of (s := { s with heap := h' }) e c dd (by decide) ⟨.ref xs[i].2.1, H, I1, rfl, ⟨rfl, xs[i], hkv, rfl⟩, st', fun b hb => (hf b hb).1⟩⟩
  done := by
    intro X hP hw hK hc i pins s σ H E I hf st hg
    subst hP hw hK
    obtain ⟨hd, hi⟩ := hg
    obtain ⟨f0, f1, f2, f3, f4, f5⟩ := hf it (by simp)
    obtain ⟨o, es, hgd, hx, hdt, he⟩ := dx_at I hd
    exact next_key_end (I.ok.hd hc) st hgd hdt (dx_size he) hi fun h' eb => ⟨rfl, I.turned (t' := s.toks) (fun b ob hb e => eb b ob hb e) f0 f1 f3 f4 f5⟩
  self := fun A i s Q E st h => by
    refine wpAny_pyIter_slot st.typeIs F.slot_dict_keyiterator_iter (wpAny_call_entry F.slot_dict_keyiterator_iter st.typeIs F.entry_dict_keyiterator_iter ?_ (F.args_dict_keyiterator_iter_1 _))
    show wpAny _ _ (ret (.ref it)) _ _ s
    exact wpAny_pure ⟨_, rfl, "dict_keyiterator", _, st.typeIs, F.slot_dict_keyiterator_next.lookup, h⟩
end
def iNKeys (td : TE) : TI := fun σ H R => td σ H fun x H1 => ∃ d xs ep, x = .ref d ∧ (d == sysModules) = false ∧ H1 d = some (.ext (DX d xs ep)) ∧ R (Itn d xs ep) H1
theorem pi_nkeys {X : Cx} {tg e : Expr} {td : TE} (he : PE X e td) : PI X tg e (iNKeys td) := by
  refine ⟨fun pins s σ H R I h => ?_⟩
  refine thn (he.run pins s σ H _ I h) fun u s1 ⟨x, H1, I1, rx, d, xs, ep, ex, hs, hd, q⟩ => ?_
  subst ex
  obtain rfl : u = Value.ref d := rx
  obtain ⟨o, es, hgd, hx, hdt, hl⟩ := dx_at I1 hd
  refine iter_keys hs hgd hx hdt (pi_one (tk := s1.toks) I1 _ (turn_n (d := d) (xs := xs) (ep := ep) _) ⟨_, Heap.get?_push_size _ rfl, rfl, ?_⟩ q)
  rw [dx_size hl] <;> rfl
/-! ### {k: v for ..} -/
theorem n_dictSet {X : Cx} {pins : List (Addr × Obj)} {σ : L2.St} {H : Hp} {s : Shared} {E : Value → Shared → Prop} {G : Hp} {a b : Addr} {xs : NX} {ep : Nat} {nk : NestedKey} {r : Value} {Q : Unit → Shared → Prop} (hu : X.A.units + 64 < cLine) (I : Inv X pins σ H s) (d : DOk G H a xs ep) (kb : NKV G b nk)
    (h : ∀ ep' s', Inv X pins σ (upd H a (.ext (DX a (storedH xs nk b r) ep'))) s' → Q () s') : wpAny (model X.prog X.w) X.A (dictSet a (.ref b) r) Q E s := by
  have hz : xs.length ≤ sizeLine := by have := d.sz; rw [sizeLine_eq]; omega
  refine wpAny_dictSet_heap (hsz := hz) (Room.nest0 hu) (kb.2 _ _ _ _ d.le I.hok) (d.dict I.hok) fun h' dd' hs => ?_
  have he : ∃ q, h'.get? a = some q := let ⟨q, _, _, hq, _⟩ := dd'; ⟨q, hq⟩
  have tz : ∀ x ∈ storedH xs nk b r, tf x.1 = true := by
    intro x hx
    unfold storedH at hx
    split at hx
    · obtain ⟨z, hz1, rfl⟩ := List.mem_map.mp hx
      unfold putAt
      split
      · exact (d.ks z hz1).1
      · exact (d.ks z hz1).1
    · rcases List.mem_append.mp hx with hx | hx
      · exact (d.ks x hx).1
      · rw [List.mem_singleton.mp hx]
        exact kb.1
  obtain ⟨ep', dx⟩ := DX.of dd' tz
  exact h ep' _ (d_write I (by rw [d.at_]; exact True.intro) hs he (DX.obj dx))
section
variable {X : Cx}
/-- {k: v for target in iter}: W says how far it is, with a measure -/
def tNDc (wi : TI) (g : TG) (tk tv : TE) (vs : List Nat) : TE := fun σ H Q => wi σ H fun J H1 => ∀ p, H1 p = none → (p == sysModules) = false → ∃ W : Nat → Nat → Hp → Prop, (∃ m, W 0 m (upd H1 p (.ext (DX p [] 0)))) ∧ ∀ i m Hc, W i m Hc →
  (J.stop i Hc ∧ Q (.ref p) Hc) ∨ (J.go i Hc ∧ ∃ N : Hp → Prop, (∀ Hn, N Hn → ∃ m', m' < m ∧ W (i + 1) m' Hn) ∧ ∀ x Hy, J.yld i Hc x Hy → g x (wipe σ vs) Hy fun σ2 H2 => wipe σ2 vs = wipe σ vs ∧
    tk σ2 H2 fun y H4 => tv σ2 H4 fun z H5 => ∃ G xs ep b nk, y = .ref b ∧ DOk G H5 p xs ep ∧ NKV G b nk ∧ ∀ r ep', RelV z r → N (upd H5 p (.ext (DX p (storedH xs nk b r) ep'))))
/-- the parts of a comprehension, wherever its block stands -/
structure Parts (X : Cx) (scope : Scope) (kx vx tg : Expr) (g : TG) (tk tv : TE) : Prop where
  g : ∀ (s : Shared) (H : Hp) (C : Addr) (cl : List (Str × Addr)) (fp : List Addr), PG (X.blk s H scope (compEnvC scope cl C X.env) fp) tg g
  k : ∀ (s : Shared) (H : Hp) (C : Addr) (cl : List (Str × Addr)) (fp : List Addr), PE (X.blk s H scope (compEnvC scope cl C X.env) fp) kx tk
  v : ∀ (s : Shared) (H : Hp) (C : Addr) (cl : List (Str × Addr)) (fp : List Addr), PE (X.blk s H scope (compEnvC scope cl C X.env) fp) vx tv
  t : ∀ (s : Shared) (H : Hp) (C : Addr) (cl : List (Str × Addr)) (fp : List Addr), PTs (X.blk s H scope (compEnvC scope cl C X.env) fp) [] tYes
/-- one turn of the block, from what its parts say -/
theorem turn_ok {Y : Cx} {pins : List (Addr × Obj)} {tg kx vx : Expr} {g : TG} {tk tv : TE} {p : Addr} {N : Hp → Prop} {σ0 : L2.St} {vs : List Nat} {H : Hp} {s : Shared} {x : V} {u : Value} {R : Unit → Shared → Prop} {E : Value → Shared → Prop} (hx : Y.xe = fun _ _ => False) (hu : Y.A.units + 64 < cLine)
    (hg : PG Y tg g) (hk : PE Y kx tk) (hv : PE Y vx tv) (ht : PTs Y [] tYes) (I : Inv Y pins (wipe σ0 vs) H s) (rx : RelV x u)
    (h : g x (wipe σ0 vs) H fun σ2 H2 => wipe σ2 vs = wipe σ0 vs ∧ tk σ2 H2 fun y H4 => tv σ2 H4 fun z H5 => ∃ G xs ep b nk, y = .ref b ∧ DOk G H5 p xs ep ∧ NKV G b nk ∧ ∀ r ep', RelV z r → N (upd H5 p (.ext (DX p (storedH xs nk b r) ep'))))
    (out : ∀ σ2 H2 s2, wipe σ2 vs = wipe σ0 vs → Inv Y pins σ2 H2 s2 → N H2 → R () s2) {R0 : Shared → Prop} :
    wpAny (model Y.prog Y.w) Y.A (assign tg Y.env u) (fun _ s2 => wpAny (model Y.prog Y.w) Y.A (forIn ([] : List Expr) true fun c r => if r = true then do let ok ← isTrue c Y.env (eval c Y.env); pure (ForInStep.yield ok) else pure (ForInStep.yield r)) (fun ok s3 =>
      if ok = true then wpAny (model Y.prog Y.w) Y.A (eval kx Y.env) (fun kv s4 => wpAny (model Y.prog Y.w) Y.A (eval vx Y.env) (fun vv s5 => wpAny (model Y.prog Y.w) Y.A (dictSet p kv vv) R E s5) E s4) E s3 else R0 s3) E s2) E s := by
  have r1 := hg.run _ s _ H x u _ I rx h
  rw [hx] at r1
  refine thnF r1 fun _ s2 ⟨σ2, H2, I2, hw, q⟩ => ?_
  have r2 := ht.run _ s2 σ2 H2 (fun b H3 => if b = true then (tk σ2 H3 fun y H4 => tv σ2 H4 fun z H5 => ∃ G xs ep b nk, y = .ref b ∧ DOk G H5 p xs ep ∧ NKV G b nk ∧ ∀ r ep', RelV z r → N (upd H5 p (.ext (DX p (storedH xs nk b r) ep')))) else False) I2 q
  rw [hx] at r2
  refine thnF r2 fun b s3 ⟨H3, I3, q3⟩ => ?_
  cases b with
  | false => exact q3.elim
  | true =>
    simp only [if_true] at q3 ⊢
    have r3 := hk.run _ s3 σ2 H3 _ I3 q3
    rw [hx] at r3
    refine thnF r3 fun kv s4 ⟨y, H4, I4, ry, q4⟩ => ?_
    have r4 := hv.run _ s4 σ2 H4 _ I4 q4
    rw [hx] at r4
    refine thnF r4 fun vv s5 ⟨z, H5, I5, rz, G, xs, ep, b, nk, ey, d, kb, fin⟩ => ?_
    subst ey
    cases (show kv = Value.ref b from ry)
    exact n_dictSet hu I5 d kb fun ep' s6 I6 => out σ2 _ s6 hw I6 (fin vv ep' rz)
theorem pe_ndc {kx vx tg iter : Expr} {scope : Scope} {own : List (Str × Nat)} {pos : Pos} {wi : TI} {g : TG} {tk tv : TE} (hu : X.A.units + 64 < cLine) (hc : X.calm = true) (hN : X.N.Nodup) (hi : PI X tg iter wi) (ok : BlkOk X.N X.env.scope scope own)
    (b : Parts X scope kx vx tg g tk tv) (hs : ∀ x, foldedSetIterable iter X.env x = pure x := by intro _; rfl) : PE X (.DictComp kx vx [⟨tg, iter, [], 0⟩] scope pos) (tNDc wi g tk tv (own.map (·.2))) := by
  refine ⟨fun pins s σ H Q I h => ?_⟩
  rw [arm_eval_DictComp]
  have free : ∀ y ∈ scope.names, y.2 = .free → ∃ a, X.env.cells.lookup y.1 = some a := fun y hy e => I.ok.has _ (Or.elim (ok.free y hy e) .inl .inr)
  refine wpAny_comprehension_free rfl hs (closure_ok free) ok.kind (fun y hy e => by rw [ok.uniq y hy, e]) (thn (hi.run pins s σ H _ I h) fun _ _ hx => thn hx fun _ s1 walk => ?_)
  obtain ⟨it, fp, tn, J, H1, rfl, I1, T, st1, f1, q⟩ := walk
  refine wpAny_newObj_type (newEnv_comp ?_)
  -- the new dict, at p
  obtain ⟨p, hp⟩ : ∃ p, s1.heap.objs.size = p := ⟨_, rfl⟩
  have np : H1 p = none := I1.hok.fresh (Nat.le_of_eq hp)
  have pm : (p == sysModules) = false := by
    rw [← hp]
    exact beq_eq_false_iff_ne.mpr (Ne.symm (Nat.ne_of_lt I1.big))
  obtain ⟨W, ⟨m0, w0⟩, turn⟩ := q p np pm
  rw [hp]
  generalize e2 : ({ s1 with heap := s1.heap.push { cls := .type "dict", data := .dict #[] } } : Shared) = s2
  have h2 : s2.heap = s1.heap.push { cls := .type "dict", data := .dict #[] } := by rw [← e2]
  have I2 : Inv X pins σ (upd H1 p (.ext (DX p [] 0))) s2 := by
    rw [← e2]
    exact I1.laid (t' := s1.toks) (fun _ _ z => Heap.get?_push_of_some _ z) (Nat.le_of_eq hp) (by rw [← hp]; exact DX.obj (DX.empty s1.heap))
  have younger : ∀ d ∈ fp, d < s1.heap.objs.size := fun d hd => let ⟨_, e, _⟩ := T.obj _ _ st1 d hd; Heap.lt_size e
  have f2 : ∀ d ∈ fp, FpOk X pins (upd H1 p (.ext (DX p [] 0))) d ∧ d < s2.heap.objs.size := fun d hd =>
    ⟨⟨by rw [upd_ne (hp ▸ Nat.ne_of_lt (younger d hd))]; exact (f1 d hd).1, (f1 d hd).2⟩, by rw [h2, Heap.size_push]; exact Nat.lt_succ_of_lt (younger d hd)⟩
  have st2 : tn 0 s2.heap := T.keep _ _ _ st1 fun d _ o e => by rw [h2]; exact Heap.get?_push_of_some _ e
  have I3 := block_start I2 ok hN f2
  generalize eC : cellsFrom (s2.heap.objs.size + 1) scope.names (cloFrom X.env.cells scope.names []) = cl at I3
  have bg := b.g s2 (upd H1 p (.ext (DX p [] 0))) s2.heap.objs.size cl fp
  have bk := b.k s2 (upd H1 p (.ext (DX p [] 0))) s2.heap.objs.size cl fp
  have bv := b.v s2 (upd H1 p (.ext (DX p [] 0))) s2.heap.objs.size cl fp
  have bt := b.t s2 (upd H1 p (.ext (DX p [] 0))) s2.heap.objs.size cl fp
  have nfp : ∀ d ∈ fp, (upd H1 p (.ext (DX p [] 0))) d = none := fun d hd => (f2 d hd).1.1
  generalize eH : upd H1 p (.ext (DX p [] 0)) = H2 at I2 I3 bg bk bv bt w0 nfp f2
  generalize eV : compEnvC scope cl s2.heap.objs.size X.env = ce at I3 bg bk bv bt
  have atC : ce.locals = s2.heap.objs.size := by rw [← eV]; rfl
  generalize e3 : ({ s2 with heap := pushCells (s2.heap.push { cls := .type "dict", data := .dict #[] }) scope.names } : Shared) = s3 at I3
  have st3 : tn 0 s3.heap := T.keep _ _ _ st2 fun d _ o e => by rw [← e3]; exact pushCells_keeps _ _ _ _ (Heap.get?_push_of_some _ e)
  let Y : Cx := X.blk s2 H2 scope ce fp
  have stat : ∀ {σ' : L2.St} {H' : Hp} {s' : Shared}, Inv Y [] σ' H' s' → (∀ d ∈ fp, H' d = none) → ∀ d ∈ fp, FpOk Y [] H' d := fun {σ' H' s'} J' hn d hd =>
    ⟨hn d hd, (J'.ok.exf d hd).1, J'.ok.exfs d hd, .inl hd, fun x a e => (J'.ok.exf d hd).2 x a e, fun z hz => by cases (show z ∈ ([] : List (Addr × Obj)) from hz)⟩
  let Go : Nat → Shared → Prop := fun n s' => ∃ i H', Inv Y [] (wipe σ (own.map (·.2))) H' s' ∧ tn i s'.heap ∧ (∀ d ∈ fp, H' d = none) ∧ W i n H'
  have run : codeAny (model X.prog X.w) X.A (.compLoop (.DictComp kx vx [⟨tg, iter, [], 0⟩] scope pos) 0 (.ref it) (.ref p) ce) (compPost (model X.prog X.w) X.A X.xe none (fun v s' => ∃ x H', Inv X pins σ H' s' ∧ RelV x v ∧ Q x H') (.ref p) s2.heap.objs.size) s3 := by
    refine compLoop_anyD Go (fun n s4 hg => ?_) m0 ⟨0, H2, I3, st3, nfp, w0⟩
    obtain ⟨i, H4, I4, st4, n4, w4⟩ := hg
    rcases turn i n H4 w4 with ⟨hstop, qq⟩ | ⟨hgo, N, hN', step⟩
    · refine thnF (T.done Y rfl rfl rfl hc i [] s4 _ H4 (fun _ _ => False) I4 (stat I4 n4) st4 hstop) fun r s5 ⟨hr, I5⟩ => ?_
      subst hr
      have I6 : Inv X pins σ H4 s5 := I2.call' (ch := fp) I5.os I5.base I5.hok I5.bare fun d hd => let z := (f2 d hd).1; ⟨z.2.2.2.1, z.2.1, z.2.2.2.2.1, z.2.2.2.2.2⟩
      have nC : H4 s2.heap.objs.size = none := atC ▸ (show H4 ce.locals = none from I5.free)
      obtain ⟨m, hm, _⟩ := I5.loc
      have hm : s5.heap.Ns s2.heap.objs.size m := atC ▸ (show s5.heap.Ns ce.locals m from hm)
      obtain ⟨g0, g1, _, g3, g4, g5⟩ := I2.fpOk (Nat.le_refl _) nC
      exact ⟨m, hm, fun h'' sb => ⟨.ref p, H4, I6.turned (t' := s5.toks) (fun d o hd e => (sb.2 d hd).trans e) g0 g1 g3 g4 g5, rfl, qq⟩⟩
    · refine thnF (T.item Y rfl rfl rfl hc i [] s4 _ H4 (fun _ _ => False) I4 (stat I4 n4) st4 hgo) fun r s5 ⟨u, hr, next⟩ => ?_
      subst hr
      refine thnF next fun _ s6 ⟨x, H6, I6, r6, y6, st6, n6⟩ => ?_
      refine turn_ok (Y := Y) (p := p) (N := N) (R0 := fun s3 => ∃ m, m < n ∧ Go m s3) rfl hu bg bk bv bt (I6.pinned (stat I6 n6) (T.obj _ _ st6)) r6 (step x H6 y6) fun σ7 H7 s7 hw I7 hn7 => ?_
      obtain ⟨m', hm', w7⟩ := hN' H7 hn7
      have stays : ∀ d ∈ fp, ∀ o, s6.heap.get? d = some o → s7.heap.get? d = some o ∧ H7 d = none := fun d hd o e =>
        let z := I7.pin (d, o) (List.mem_append_right _ (List.mem_append_right _ (mem_pinsAt hd e)))
        ⟨z.1, z.2.1⟩
      refine ⟨m', hm', i + 1, H7, (I7.unpinned (pins := [])).weak (by rw [← hw, wipe_length]) (fun j v e => (wipe_some (hw ▸ e)).1), T.keep _ _ _ st6 fun d hd o e => (stays d hd o e).1, fun d hd => ?_, w7⟩
      obtain ⟨o, e, _⟩ := T.obj _ _ st6 d hd
      exact (stays d hd o e).2
  show codeAny _ _ (.compStart (.DictComp kx vx [⟨tg, iter, [], 0⟩] scope pos) 0 (.ref it) (.ref p) (compEnvC scope cl s2.heap.objs.size X.env)) (compPost (model X.prog X.w) X.A X.xe none (fun v s' => ∃ x H', Inv X pins σ H' s' ∧ RelV x v ∧ Q x H') (.ref p) s2.heap.objs.size) s3
  rw [eV]
  exact codeAny_compStart_dict run (T.self X.A 0 _ _ _ st3 run)
end
end MX


set_option Elab.async false
set_option linter.all false
set_option maxRecDepth 100000
namespace MX
open PySem PySem.Spec PyProof.Rows L2
/-! ### {x: t[x] for x in t} -/
def mkX : NX → List Value → NX
  | x :: xs, r :: rs => (x.1, x.2.1, r) :: mkX xs rs
  | _, _ => []
theorem mkX_keys : ∀ (xs : NX) (rs : List Value), (mkX xs rs).map (·.1) = (xs.take rs.length).map (·.1)
  | [], [] => rfl
  | [], _ :: _ => by simp [mkX]
  | _ :: _, [] => rfl
  | x :: xs, r :: rs => by simp [mkX, mkX_keys xs rs]
theorem mkX_refs : ∀ (xs : NX) (rs : List Value), (mkX xs rs).map (fun x => V.ref x.2.1) = (xs.take rs.length).map fun x => V.ref x.2.1
  | [], [] => rfl
  | [], _ :: _ => by simp [mkX]
  | _ :: _, [] => rfl
  | x :: xs, r :: rs => by simp [mkX, mkX_refs xs rs]
theorem mkX_vals : ∀ (xs : NX) (rs : List Value), rs.length ≤ xs.length → (mkX xs rs).map (fun x => x.2.2) = rs
  | [], [], _ => rfl
  | [], _ :: _, h => by simp at h
  | _ :: _, [], _ => rfl
  | x :: xs, r :: rs, h => by simp [mkX, mkX_vals xs rs (by simpa using h)]
theorem mkX_mem : ∀ {xs : NX} {rs : List Value} {y : NestedKey × Addr × Value}, y ∈ mkX xs rs → ∃ x ∈ xs, x.1 = y.1 ∧ x.2.1 = y.2.1
  | [], rs, y, h => by cases rs <;> simp [mkX] at h
  | x :: xs, [], y, h => by simp [mkX] at h
  | x :: xs, r :: rs, y, h => by
    rcases List.mem_cons.mp h with rfl | h
    · exact ⟨x, List.mem_cons_self, rfl, rfl⟩
    · obtain ⟨z, hz, e⟩ := mkX_mem h
      exact ⟨z, List.mem_cons_of_mem _ hz, e⟩
theorem mkX_snoc : ∀ (xs : NX) (rs : List Value) (r : Value) {x : NestedKey × Addr × Value}, xs[rs.length]? = some x → mkX xs (rs ++ [r]) = mkX xs rs ++ [(x.1, x.2.1, r)]
  | [], rs, r, x, h => by simp at h
  | y :: xs, [], r, x, h => by simp at h; subst h; simp [mkX]
  | y :: xs, q :: rs, r, x, h => by simp [mkX]; exact mkX_snoc xs rs r (by simpa using h)
theorem mkX_len (xs : NX) (rs : List Value) (h : rs.length ≤ xs.length) : (mkX xs rs).length = rs.length := by
  have := congrArg List.length (mkX_vals xs rs h)
  rwa [List.length_map] at this
theorem at_none {xs : NX} {n : NestedKey} (h : n ∉ xs.map (·.1)) : atKey xs n = none := by
  unfold atKey
  rw [List.find?_eq_none.mpr fun x hx => by
    have : x.1 ≠ n := fun e => h (e ▸ List.mem_map_of_mem hx)
    simp [this]]
  rfl
theorem at_mem : ∀ {xs : NX} {x : NestedKey × Addr × Value}, (xs.map (·.1)).Nodup → x ∈ xs → atKey xs x.1 = some x.2
  | y :: xs, x, nd, m => by
    have nd' := List.nodup_cons.mp nd
    rcases List.mem_cons.mp m with rfl | m
    · unfold atKey
      rw [List.find?_cons_of_pos (by simp)]; rfl
    · have ne : y.1 ≠ x.1 := fun e => nd'.1 (by have := List.mem_map_of_mem (f := fun z : NestedKey × Addr × Value => z.1) m; rw [← e] at this; exact this)
      have := at_mem nd'.2 m
      unfold atKey at this ⊢
      rw [List.find?_cons_of_neg (by simp [ne])]
      exact this
/-- the copy of the dict in slot i, the walk's name in slot j -/
def dCopy (i j : Nat) : Fn D := fun ρ s => match ρ[i]? with
  | some (.val d) => (match gd s d with
    | some (ks, vs) => if j < ρ.length then .ok (.dct ks vs) s else .bad
    | none => .bad)
  | _ => .bad
section
variable {c : Cs} {E : XK}
theorem den_copy {i j : Nat} (hij : i ≠ j) : DenE c E (tNDc (iNKeys (tVar i)) (gP c.K (.nm j)) (tVar j) (tNGet (tVar i) (tVar j)) [j]) (dCopy i j) := by
  intro H0 σ ρ s F θ H Q he hw hp
  unfold dCopy at hp
  cases e : ρ[i]? with
  | none => simp only [e] at hp; exact hp.elim
  | some sl =>
    cases sl with
    | val d =>
      simp only [e] at hp
      obtain ⟨o, h1, v, rfl, r⟩ := he.get e
      cases zg : gd s d with
      | none => rw [zg] at hp; exact hp.elim
      | some pr =>
        obtain ⟨ks, vs⟩ := pr
        rw [zg] at hp
        dsimp only at hp
        split at hp
        · rename_i hj
          obtain ⟨a, xs, ep, rfl, ha, dr⟩ := gd_of hw r zg
          obtain ⟨us, hv, rv⟩ := dr.rv
          have hlen : us.length = xs.length := by have := hv.length; rwa [List.length_map] at this
          refine ⟨_, h1, a, xs, ep, rfl, dr.xf.ns, ha, fun p hn hs => ?_⟩
          have hap : a ≠ p := ne_of_none ha hn
          have ent := ents_ok xs ks dr.nk dr.rk dr.xf.dp
          have subp : ∀ o, Le F (upd H p o) := fun o => hw.sub.updR (hw.free hn).1
          have hjσ : j < σ.length := by rw [he.len]; exact hj
          refine ⟨fun k m Hc => ∃ rs : List Value, m = xs.length - k ∧ k ≤ xs.length ∧ rs.length = k ∧ Vals (us.take k) rs ∧ ∃ ep', Hc = upd H p (.ext (DX p (mkX xs rs) ep')), ⟨xs.length, [], by simp, Nat.zero_le _, rfl, .nil, 0, by cases xs <;> rfl⟩, ?_⟩
          rintro k m Hc ⟨rs, rfl, hk, hl, hvr, ep', rfl⟩
          by_cases hlt : k < xs.length
          · refine .inr ⟨⟨by rw [upd_ne hap]; exact ha, hlt⟩, fun Hn => ∃ rs : List Value, rs.length = k + 1 ∧ Vals (us.take (k + 1)) rs ∧ ∃ ep', Hn = upd H p (.ext (DX p (mkX xs rs) ep')), fun Hn ⟨rs', g1, g2, g3⟩ => ⟨xs.length - (k + 1), by omega, rs', rfl, hlt, g1, g2, g3⟩, ?_⟩
            rintro x Hy ⟨rfl, y, hy, rfl⟩
            have hyx : xs[k] = y := by
              have := List.getElem?_eq_getElem hlt
              rw [this] at hy
              exact Option.some.inj hy
            have ym : y ∈ xs := hyx ▸ List.getElem_mem hlt
            have huk : k < us.length := by omega
            obtain ⟨u', hu1, hu2⟩ := hv.get (i := k) (x := us[k]) (List.getElem?_eq_getElem huk)
            rw [List.getElem?_map, hy] at hu1
            have hu1 : y.2.2 = u' := Option.some.inj hu1
            subst hu1
            have kl : (mkX xs rs).length = k := by rw [mkX_len xs rs (by omega), hl]
            have dk : DOk F (upd H p (.ext (DX p (mkX xs rs) ep'))) p (mkX xs rs) ep' := by
              refine ⟨upd_same, hs, ?_, by have := dr.xf.sz; omega, fun z hz => ?_, subp _⟩
              · rw [mkX_keys]
                exact dr.xf.nd.sublist ((List.take_sublist _ _).map _)
              · obtain ⟨z0, hz0, f1, f2⟩ := mkX_mem hz
                rw [← f1, ← f2]
                exact ent z0 hz0
            rw [show gP c.K (.nm j) = gName j from by unfold gP; rfl]
            unfold gName
            refine ⟨?_, ?_⟩
            · show L2.wipe ((L2.wipe σ [j]).set j (some (.ref y.2.1))) [j] = L2.wipe σ [j]
              apply List.ext_getElem?
              intro q
              rw [wipe_get, wipe_get, List.length_set, L2.wipe_length]
              split
              · rfl
              · rename_i hq
                have : j ≠ q := fun e => hq (by simp [e])
                rw [List.getElem?_set_ne this, wipe_get, if_neg hq]
            · refine ⟨.ref y.2.1, ?_, ?_⟩
              · show ((L2.wipe σ [j]).set j (some (V.ref y.2.1)))[j]? = _
                rw [List.getElem?_set_self (by rw [L2.wipe_length]; exact hjσ)]
              · refine ⟨.ref a, ?_, .ref y.2.1, ?_, a, us[k], rfl, ?_, ?_⟩
                · show ((L2.wipe σ [j]).set j (some (V.ref y.2.1)))[i]? = _
                  rw [List.getElem?_set_ne (Ne.symm hij)]
                  unfold L2.wipe
                  rw [List.getElem?_set_ne (Ne.symm hij)]
                  exact h1
                · show ((L2.wipe σ [j]).set j (some (V.ref y.2.1)))[j]? = _
                  rw [List.getElem?_set_self (by rw [L2.wipe_length]; exact hjσ)]
                · refine ⟨F, xs, ep, y.2.1, y.1, ⟨by rw [upd_ne hap]; exact ha, dr.xf.ns, dr.xf.nd, dr.xf.sz, ent, subp _⟩, rfl, ent y ym, ?_⟩
                  rw [at_mem dr.xf.nd ym]
                  exact hu2
                · refine ⟨F, mkX xs rs, ep', y.2.1, y.1, rfl, dk, ent y ym, fun r2 ep2 hr => ⟨rs ++ [r2], by simp [hl], ?_, ep2, ?_⟩⟩
                  · rw [List.take_add_one, List.getElem?_eq_getElem huk]
                    exact Vals.append hvr (.cons hr .nil)
                  · have nin : y.1 ∉ (mkX xs rs).map (·.1) := by
                      rw [mkX_keys, hl]
                      intro m
                      obtain ⟨z, hz1, hz2⟩ := List.mem_map.mp m
                      obtain ⟨q, hq, hqe⟩ := List.mem_take_iff_getElem.mp hz1
                      have nd := dr.xf.nd
                      have hq2 : q < k := by omega
                      have i1 : (xs.map (·.1))[q]? = some y.1 := by rw [List.getElem?_map, List.getElem?_eq_getElem (by omega), hqe]; exact congrArg some hz2
                      have i2 : (xs.map (·.1))[k]? = some y.1 := by rw [List.getElem?_map, hy]; rfl
                      have := (List.getElem?_inj (by rw [List.length_map]; omega) nd).mp (i1.trans i2.symm)
                      omega
                    rw [storedH_new (at_none nin), upd_upd, mkX_snoc xs rs r2 (by rw [hl]; exact hy)]
          · have hkx : k = xs.length := by omega
            refine .inl ⟨⟨by rw [upd_ne hap]; exact ha, by omega⟩, ?_⟩
            have key : mkX xs rs = mkX xs rs := rfl
            have kk : (mkX xs rs).map (·.1) = xs.map (·.1) := by rw [mkX_keys, hl, hkx, List.take_length]
            have kr : (mkX xs rs).map (fun x => V.ref x.2.1) = xs.map fun x => V.ref x.2.1 := by rw [mkX_refs, hl, hkx, List.take_length]
            have kv := mkX_vals xs rs (by omega)
            rw [hkx, ← hlen, List.take_length] at hvr
            refine hp _ _ θ _ (Ext.new hn (hw.free hn).1 (hw.free hn).2) (hw.new hn) ?_
            show R c _ θ (.ref p) (.dct ks vs)
            have le := Le.new (o := .ext (DX p (mkX xs rs) ep')) (hw.free hn).1
            unfold R
            refine ⟨p, mkX xs rs, ep', us, rfl, upd_same, ⟨hs, by rw [kk]; exact dr.xf.nd, by rw [mkX_len xs rs (by omega)]; have := dr.xf.sz; omega, fun z hz => ?_⟩, by rw [kk]; exact dr.nk, by rw [kr]; exact RA.mono le (Pre.refl θ) ks dr.rk, by rw [kv]; exact hvr, RA.mono le (Pre.refl θ) vs rv⟩
            obtain ⟨z0, hz0, f1, _⟩ := mkX_mem hz
            rw [← f1]
            exact dr.xf.dp z0 hz0
        · exact hp.elim
    | _ => simp only [e] at hp; exact hp.elim
end
end MX


set_option Elab.async false
set_option linter.all false
set_option maxRecDepth 100000
namespace MX
open PySem PySem.Spec PyProof.Rows L2
/-! ### dicts with whole numbers behind their keys, compared -/
def numOf : Value → Option Int
  | .int i _ => some i
  | _ => none
def sameAt (ys : NX) (x : NestedKey × Addr × Value) : Bool := match atKey ys x.1 with
  | some p => numOf p.2 == numOf x.2.2
  | none => false
def sameX (xs ys : NX) : Bool := (xs.length == ys.length) && xs.all (sameAt ys)
def Nums (xs : NX) : Prop := ∀ x ∈ xs, ∃ i t, x.2.2 = .int i t
section
variable {prog : Program} {w : World} {A : Around} {E : Value → Shared → Prop} {s : Shared}
theorem n_same {nm : String} {a b : Addr} {xs ys : NX} {Q : Bool → Shared → Prop} (hu : A.units + 64 < cLine) (ha : (a == sysModules) = false) (hb : (b == sysModules) = false) (da : s.heap.DictOfH (nestedKind prog w) a xs) (db : s.heap.DictOfH (nestedKind prog w) b ys)
    (nx : Nums xs) (ny : Nums ys) (h : Q (sameX xs ys) s) : wpAny (model prog w) A (Builtin.Dict.samePairs nm a b) Q E s := by
  obtain ⟨oa, es, ep, ha1, _, ha3, ha4, ha5, _⟩ := da
  obtain ⟨ob, fs, eq, hb1, _, hb3, hb4, hb5, hb6⟩ := db
  have la : es.size = xs.length := size_of_entries ha4
  have lb : fs.size = ys.length := size_of_entries hb4
  unfold Builtin.Dict.samePairs Builtin.Dict.showsAll
  rw [ha, hb, if_neg Bool.false_ne_true]
  refine wpAny_bind (wpAny_pure (wpAny_bind (wpAny_pure (wpAny_bind (wpAny_dictEntries ha1 ha3 ?_)))))
  dsimp only
  refine wpAny_bind (wpAny_dictEntries hb1 hb3 ?_)
  by_cases len : xs.length = ys.length
  · have ls : es.size = fs.size := by omega
    have e0 : sameX xs ys = xs.all (sameAt ys) := by unfold sameX; rw [len]; simp
    rw [e0] at h
    rw [if_neg (by rw [ls]; simp)]
    refine wpAny_bind (wpAny_dictEpoch ha1 ha3 (wpAny_bind ?_))
    rw [Std.Legacy.Range.forIn_eq_forIn_range']
    simp only [Std.Legacy.Range.size, Nat.sub_zero, Nat.add_sub_cancel, Nat.div_one]
    refine wpAny_forIn_list _ (fun todo st s' => s' = s ∧ st = (none, ()) ∧ ∃ i, todo = List.range' i (es.size - i) ∧ i ≤ es.size ∧ xs.all (sameAt ys) = (xs.drop i).all (sameAt ys)) _ ?_ ?_ _ _ ⟨rfl, rfl, 0, by simp, Nat.zero_le _, by simp⟩
    · rintro i todo st s' ⟨rfl, rfl, i', ht, hi, hal⟩
      have hlt : i' < es.size := by
        rcases Nat.lt_or_ge i' es.size with g | g
        · exact g
        · rw [Nat.sub_eq_zero_of_le g] at ht; cases ht
      rw [show es.size - i' = (es.size - (i' + 1)) + 1 by omega, List.range'_succ] at ht
      obtain ⟨ht1, ht2⟩ := List.cons.inj ht
      subst ht1
      have hx : i < xs.length := by omega
      have ex : es[i]? = some (entryOfKey (nestedKind prog w) xs[i]) := by rw [entry_at ha4 i, List.getElem?_eq_getElem hx]; rfl
      have cut : (xs.drop i).all (sameAt ys) = (sameAt ys xs[i] && (xs.drop (i + 1)).all (sameAt ys)) := by rw [List.drop_eq_getElem_cons hx, List.all_cons]
      rw [cut] at hal
      have key := ha5 xs[i] (List.getElem_mem hx)
      obtain ⟨n, t, hn⟩ := nx xs[i] (List.getElem_mem hx)
      refine wpAny_bind (wpAny_dictEntries ha1 ha3 ?_)
      rw [ex]
      show wpAny _ _ (holding [_, _] _ >>= _) _ _ _
      have room : (nestedKind prog w).room A := Room.nest0 hu
      refine wpAny_bind (wpAny_holding (wpAny_bind (wpAny_dictFind_heap (k := xs[i].1) (a := xs[i].2.1) room key hb1 hb3 hb4 hb5 hb6 (fun hno => ?_) fun j p hj => ?_)))
      · have z : sameAt ys xs[i] = false := by
          unfold sameAt
          rw [atKey_none_of_get hno]
        rw [z, Bool.false_and] at hal
        refine wpAny_pure ?_
        show wpAny _ _ (if (!false) = true then _ else _) _ _ _
        rw [if_pos (by decide)]
        exact wpAny_pure (wpAny_pure (by rw [hal] at h; exact h))
      · have z : sameAt ys xs[i] = (numOf p.2 == numOf xs[i].2.2) := by
          unfold sameAt
          rw [atKey_of_get hb6 hj]
        have ej : fs[j]? = some (entryOfKey (nestedKind prog w) (xs[i].1, p)) := by rw [entry_at hb4 j, hj]; rfl
        obtain ⟨n2, t2, hn2⟩ := ny (xs[i].1, p) (List.mem_of_getElem? hj)
        have hn2 : p.2 = .int n2 t2 := hn2
        have zz : sameAt ys xs[i] = (n == n2) := by
          rw [z, hn, hn2]
          show (some n2 == some n) = (n == n2)
          by_cases e : n = n2
          · subst e; simp
          · have e' : ¬ n2 = n := fun q => e q.symm
            have h1 : (n == n2) = false := by simpa using e
            have h2 : ((some n2 : Option Int) == some n) = false := by simpa using e'
            rw [h1]
            exact h2
        refine wpAny_bind (wpAny_dictEntries hb1 hb3 ?_)
        rw [ej]
        show wpAny _ _ (holding [p.2] (eqBool xs[i].2.2 p.2)) _ _ _
        rw [hn, hn2]
        refine wpAny_holding ((SeqAt.EqAt.int_int n t n2 t2) prog w _ _ ?_)
        rw [zz] at hal
        cases c : n == n2 with
        | false =>
          rw [c, Bool.false_and] at hal
          show wpAny _ _ (if (!false) = true then _ else _) _ _ _
          rw [if_pos (by decide)]
          exact wpAny_pure (wpAny_pure (by rw [hal] at h; exact h))
        | true =>
          rw [c, Bool.true_and] at hal
          show wpAny _ _ (if (!true) = true then _ else _) _ _ _
          rw [if_neg (by decide)]
          refine wpAny_bind (wpAny_dictEpoch ha1 ha3 ?_)
          rw [if_neg (by simp)]
          exact wpAny_pure ⟨rfl, rfl, i + 1, ht2, hlt, hal⟩
    · rintro st s' ⟨rfl, rfl, i, ht, hi, hal⟩
      have hin : i = es.size := by
        rcases Nat.lt_or_ge i es.size with g | g
        · rw [show es.size - i = (es.size - (i + 1)) + 1 by omega, List.range'_succ] at ht; cases ht
        · omega
      rw [hin, la, List.drop_length] at hal
      exact wpAny_pure (by rw [hal] at h; exact h)
  · have ls : ¬ es.size = fs.size := by omega
    have e0 : sameX xs ys = false := by
      unfold sameX
      have : (xs.length == ys.length) = false := by simpa using len
      rw [this]; rfl
    rw [e0] at h
    rw [if_pos (by simpa using ls)]
    exact wpAny_bind (wpAny_rule (wpAny_pure h))
/-- == of two dicts -/
theorem n_eq {a b : Addr} {xs ys : NX} {Q : Value → Shared → Prop} (hu : A.units + 65 < cLine) (ha : (a == sysModules) = false) (hb : (b == sysModules) = false) (da : s.heap.DictOfH (nestedKind prog w) a xs) (db : s.heap.DictOfH (nestedKind prog w) b ys)
    (nx : Nums xs) (ny : Nums ys) (h : Q (.bool (sameX xs ys)) s) : wpAny (model prog w) A (compareOp .Eq (.ref a) (.ref b)) Q E s := by
  refine wpAny_richCompare_same_room (op := .Eq) da.typeIs db.typeIs PySem.F.slot_dict_eq (wpAny_call_entry PySem.F.slot_dict_eq da.typeIs PySem.F.entry_dict_eq ?_ (PySem.F.args_dict_eq_2 _ _)) (by omega)
  show wpAny _ _ (Builtin.Dict.dictSlotArgs "__eq__" ⟨[.ref a, .ref b], []⟩ >>= _) _ _ s
  have two : ∀ {Q2 : Value × Value → Shared → Prop} {A2 : Around} {E2 : Value → Shared → Prop}, Q2 (.ref a, .ref b) s → wpAny (model prog w) A2 (Builtin.Dict.dictSlotArgs "__eq__" ⟨[.ref a, .ref b], []⟩) Q2 E2 s := fun q => by
    unfold Builtin.Dict.dictSlotArgs
    exact wpAny_bind (wpAny_notOrdered_dict da.typeIs (wpAny_pure q))
  refine wpAny_bind (two ?_)
  refine wpAny_bind (wpAny_isInstance (T := "dict") db.typeIs PySem.F.sub_dict_dict ?_)
  simp only [Bool.not_true, Bool.false_eq_true, if_false]
  refine wpAny_bind (wpAny_pure (wpAny_bind (wpAny_pure (wpAny_bind (n_same ?_ ha hb da db nx ny ?_)))))
  · show A.units + 1 + 64 < cLine
    omega
  · exact wpAny_pure ⟨_, rfl, (fun x => nomatch x), by simpa using h⟩
end
def rNEq : R2 := fun x y H Q => ∃ G a b xs ys ep eq, x = .ref a ∧ y = .ref b ∧ DOk G H a xs ep ∧ DOk G H b ys eq ∧ Nums xs ∧ Nums ys ∧ Q (.bl (sameX xs ys)) H
theorem op_neq {X : Cx} (hu : X.A.units + 65 < cLine) : OpR X (compareOp .Eq) rNEq := by
  intro pins s σ H x y v u Q I rx ry h
  obtain ⟨G, a, b, xs, ys, ep, eq, rfl, rfl, da, db, nx, ny, q⟩ := h
  obtain rfl : v = Value.ref a := rx
  obtain rfl : u = Value.ref b := ry
  exact n_eq hu da.ns db.ns (da.dict I.hok) (db.dict I.hok) nx ny ⟨.bl (sameX xs ys), H, I, rfl, q⟩
end MX


set_option Elab.async false
set_option linter.all false
set_option maxRecDepth 100000
namespace MX
open PySem PySem.Spec PyProof.Rows L2
def isI : D → Bool
  | .int _ => true
  | _ => false
def allL (k2 v2 : List D) : List D → List D → Bool
  | k :: ks, v :: vs => (match dgetL k2 v2 k with
    | some d => keq d v
    | none => false) && allL k2 v2 ks vs
  | _, _ => true
def dDEq (ea eb : Fn D) : Fn D := fun ρ s => (ea ρ s).bind fun a s => (eb ρ s).bind fun b s => match gd s a, gd s b with
  | some (k1, v1), some (k2, v2) => if (v1.all isI && v2.all isI) = true then .ok (.bl ((k1.length == k2.length) && allL k2 v2 k1 v1)) s else .bad
  | _, _ => .bad
section
variable {c : Cs} {E : XK} {F : Hp} {θ : List Addr}
theorem nums_of : ∀ {xs : NX} {us : List V} {vs : List D}, Vals us (xs.map fun x => x.2.2) → RA c F θ us vs → vs.all isI = true → Nums xs
  | [], us, vs, _, _, _, x, m => by cases m
  | y :: xs, us, vs, h, r, a, x, m => by
    cases h with
    | @cons v0 u0 us0 us1 hv ht =>
      cases vs with
      | nil => have := r.nil_inv; cases this
      | cons d vs =>
        obtain ⟨v1, r1, e, q, t⟩ := r.cons_inv
        obtain ⟨e1, e2⟩ := List.cons.inj e
        subst e1 e2
        rw [List.all_cons, Bool.and_eq_true] at a
        rcases List.mem_cons.mp m with rfl | m
        · cases d with
          | int i =>
            unfold R at q
            subst q
            obtain ⟨tk, e⟩ := (show ∃ tk, x.2.2 = .int i tk from hv)
            exact ⟨i, tk, e⟩
          | _ => cases a.1
        · exact nums_of ht t a.2 x m
theorem all_ok {ys : NX} {k2 v2 : List D} {us2 : List V} (hn2 : nksOf k2 = some (ys.map (·.1))) (hv2 : Vals us2 (ys.map fun x => x.2.2)) (hr2 : RA c F θ us2 v2) (hi2 : v2.all isI = true) :
    ∀ (xs : NX) (k1 v1 : List D) (us1 : List V), nksOf k1 = some (xs.map (·.1)) → Vals us1 (xs.map fun x => x.2.2) → RA c F θ us1 v1 → v1.all isI = true → xs.all (sameAt ys) = allL k2 v2 k1 v1
  | [], [], v1, us1, _, _, _, _ => by unfold allL; rfl
  | [], k :: ks, _, _, h, _, _, _ => by obtain ⟨_, _, _, _, e⟩ := nks_cons h; cases e
  | y :: xs, [], _, _, h, _, _, _ => by unfold nksOf at h; cases h
  | y :: xs, k :: ks, vs, us, h, hv, r, hi => by
    obtain ⟨n, ns, h1, h2, e0⟩ := nks_cons h
    obtain ⟨e1, e2⟩ := List.cons.inj e0
    have e1 : y.1 = n := e1
    cases hv with
    | @cons v0 u0 us0 us1 hv0 ht =>
      cases vs with
      | nil => have := r.nil_inv; cases this
      | cons d vs =>
        obtain ⟨v1, r1, e, q, t⟩ := r.cons_inv
        obtain ⟨f1, f2⟩ := List.cons.inj e
        subst f1 f2
        rw [List.all_cons, Bool.and_eq_true] at hi
        rw [List.all_cons, all_ok hn2 hv2 hr2 hi2 xs ks vs us0 (by rw [h2, ← e2]) ht t hi.2]
        rw [show allL k2 v2 (k :: ks) (d :: vs) = ((match dgetL k2 v2 k with
          | some d' => keq d' d
          | none => false) && allL k2 v2 ks vs) from by rw [allL]]
        congr 1
        obtain ⟨l1, l2⟩ := look_ok (c := c) (F := F) (θ := θ) h1 ys k2 v2 us2 hn2 hv2 hr2
        unfold sameAt
        rw [e1]
        cases d with
        | int i =>
          unfold R at q
          subst q
          obtain ⟨tk, ey⟩ := (show ∃ tk, y.2.2 = .int i tk from hv0)
          cases z : dgetL k2 v2 k with
          | none => rw [l2 z]
          | some d2 =>
            obtain ⟨v', u, g1, g2, g3⟩ := l1 d2 z
            obtain ⟨p, gp, gpu⟩ := Option.map_eq_some_iff.mp g1
            rw [gp]
            have d2i : isI d2 = true := by
              have : ∀ (ks vs : List D), dgetL ks vs k = some d2 → d2 ∈ vs := by
                intro ks
                induction ks with
                | nil => intro vs h; unfold dgetL at h; cases h
                | cons a ks ih =>
                  intro vs h
                  cases vs with
                  | nil => unfold dgetL at h; cases h
                  | cons b vs =>
                    unfold dgetL at h
                    split at h
                    · cases h; exact List.mem_cons_self
                    · exact List.mem_cons_of_mem _ (ih vs h)
              exact List.all_eq_true.mp hi2 d2 (this _ _ z)
            cases d2 with
            | int j =>
              unfold R at g3
              subst g3
              obtain ⟨tj, ej⟩ := (show ∃ tj, u = .int j tj from g2)
              show (numOf p.2 == numOf y.2.2) = keq (.int j) (.int i)
              rw [gpu, ej, ey]
              show ((some j : Option Int) == some i) = keq (.int j) (.int i)
              unfold keq
              by_cases e : j = i
              · subst e; simp
              · have h1 : ((some j : Option Int) == some i) = false := by simpa using e
                rw [h1, decide_eq_false e]
            | _ => cases d2i
        | _ => cases hi.1
theorem den_dEq {ta tb : TE} {ea eb : Fn D} (ha : DenE c E ta ea) (hb : DenE c E tb eb) : DenE c E (tOp rNEq ta tb) (dDEq ea eb) := by
  refine den_bind (r2 := rV c) (K := fun σ x H1 Q => tb σ H1 fun y H2 => rNEq x y H2 Q) ha fun H0 σ ρ s F θ H Hi x a Q he hw q hp => ?_
  refine hb H0 σ ρ s F θ H _ he hw ?_
  cases z : eb ρ s with
  | bad => rw [z] at hp; exact hp
  | exc _ _ _ => rw [z] at hp; exact hp
  | ok b s' =>
    rw [z] at hp
    intro y F' θ' H' x' w' ry
    dsimp only [Res.bind] at hp
    have q' : R c F' θ' x a := R.mono x'.fr x'.th a q
    have ry : R c F' θ' y b := ry
    cases g1 : gd s' a with
    | none => rw [g1] at hp; exact hp.elim
    | some p1 =>
      cases g2 : gd s' b with
      | none => rw [g1, g2] at hp; exact hp.elim
      | some p2 =>
        obtain ⟨k1, v1⟩ := p1
        obtain ⟨k2, v2⟩ := p2
        rw [g1, g2] at hp
        dsimp only at hp
        split at hp
        · rename_i cond
          rw [Bool.and_eq_true] at cond
          obtain ⟨a1, xs, ep, rfl, h1, d1⟩ := gd_of w' q' g1
          obtain ⟨a2, ys, eq, rfl, h2, d2⟩ := gd_of w' ry g2
          obtain ⟨us1, f1, f2⟩ := d1.rv
          obtain ⟨us2, f3, f4⟩ := d2.rv
          refine ⟨F', a1, a2, xs, ys, ep, eq, rfl, rfl, d1.ok w'.sub h1, d2.ok w'.sub h2, nums_of f1 f2 cond.1, nums_of f3 f4 cond.2, ?_⟩
          have e : sameX xs ys = ((k1.length == k2.length) && allL k2 v2 k1 v1) := by
            unfold sameX
            rw [all_ok d2.nk f3 f4 cond.2 xs k1 v1 us1 d1.nk f1 f2 cond.1]
            have l1 := d1.rk.length
            have l2 := d2.rk.length
            rw [List.length_map] at l1 l2
            rw [l1, l2]
          rw [e]
          exact hp _ F' θ' H' x' w' (show R c F' θ' _ _ from r_bl)
        · exact hp.elim
end
end MX


set_option Elab.async false
set_option linter.all false
set_option maxRecDepth 100000
namespace MX
open PySem PySem.Spec PyProof.Rows L2
/-! ### the keys of a frozen dict, walked; len -/
def wKeys (e : Fn D) : Fn (List D) := fun ρ s => (e ρ s).bind fun d s => match d with
  | .dct ks _ => .ok ks s
  | _ => .bad
def dLenD (e : Fn D) : Fn D := fun ρ s => (e ρ s).bind fun d s => match gd s d with
  | some (ks, _) => .ok (.int (ks.length : Nat)) s
  | none => .bad
section
variable {c : Cs} {E : XK}
theorem src_keys {te : TE} {e : Fn D} (h : DenE c E te e) : SrcS c E (iNKeys te) (wKeys e) := by
  refine den_bind (r2 := rIS c) (K := fun σ x H1 R => ∃ d xs ep, x = .ref d ∧ (d == sysModules) = false ∧ H1 d = some (.ext (DX d xs ep)) ∧ R (Itn d xs ep) H1) h fun H0 σ ρ s F θ H Hi x a Q he hw q hp => ?_
  have q : R c F θ x a := q
  cases a with
  | dct ks vs =>
    unfold R at q
    obtain ⟨p, xs, ep, us, rfl, e2, e3, e4, e5, e6, e7⟩ := q
    refine ⟨p, xs, ep, rfl, e3.ns, hw.sub p _ e2, hp _ F θ H (Ext.refl _ _ _) hw ?_⟩
    show IterS c (Itn p xs ep) ks F θ
    intro F2 θ2 H2 l pr sb
    have hl : xs.length = ks.length := by have := e5.length; rwa [List.length_map] at this
    have at2 := sb p _ (l p _ e2)
    have r2 := RA.mono l pr ks e5
    refine ⟨fun i d hd => ?_, fun i hi => ⟨at2, by omega⟩⟩
    have hi : i < xs.length := by have := get_lt hd; omega
    refine ⟨⟨at2, hi⟩, fun x' H3 ⟨e, y, hy, ex⟩ => ⟨e, ?_⟩⟩
    obtain ⟨v, hv, rv⟩ := r2.get' hd
    rw [List.getElem?_map, hy] at hv
    rw [ex]
    cases hv
    exact rv
  | _ => exact hp.elim
theorem den_lenD {t : TE} {e : Fn D} (h : DenE c E t e) : DenE c E (tCB rLenN (tCons t tNil)) (dLenD e) := by
  refine den_bind (r2 := rV c) (K := fun σ x H1 Q => rLenN [x] H1 Q) h fun H0 σ ρ s F θ H Hi x a Q he hw q hp => ?_
  cases g : gd s a with
  | none => rw [g] at hp; exact hp.elim
  | some pr =>
    obtain ⟨ks, vs⟩ := pr
    rw [g] at hp
    obtain ⟨p, xs, ep, rfl, ha, dr⟩ := gd_of hw q g
    have hl : xs.length = ks.length := by have := dr.rk.length; rwa [List.length_map] at this
    refine ⟨F, p, xs, ep, rfl, dr.ok hw.sub ha, ?_⟩
    rw [hl]
    exact hp _ F θ H (Ext.refl _ _ _) hw (show R c F θ _ _ from r_int)
end
end MX


set_option Elab.async false
set_option linter.all false
set_option maxRecDepth 100000
namespace MX
open PySem PySem.Spec PyProof.Rows L2
/-! ### d.pop(k), there -/
section
variable {X : Cx} {pins : List (Addr × Obj)} {σ : L2.St} {H : Hp} {s : Shared} {a : Addr} {A : Around} {E : Value → Shared → Prop}
theorem n_pop {G : Hp} {xs : NX} {ep : Nat} {b : Addr} {nk : NestedKey} {p : Addr × Value} {Q : Value → Shared → Prop} (hu : A.units + 64 < cLine) (I : Inv X pins σ H s) (d : DOk G H a xs ep) (kb : NKV G b nk) (hp : atKey xs nk = some p)
    (h : ∀ ep' s', Inv X pins σ (upd H a (.ext (DX a (withoutH xs nk) ep'))) s' → Q p.2 s') : wpAny (model X.prog X.w) A (call (.builtin "dict.pop") [.ref a, .ref b]) Q E s := by
  have hz : xs.length ≤ sizeLine := by have := d.sz; rw [sizeLine_eq]; omega
  refine call_pop_heap (hsz := hz) (more := []) (.inl rfl) (PySem.F.args_dict_pop_2 _ _) (Room.nest hu) (kb.2 _ _ _ _ d.le I.hok) d.ns (d.dict I.hok) hp fun h' dd' hs => ?_
  have he : ∃ q, h'.get? a = some q := let ⟨q, _, _, hq, _⟩ := dd'; ⟨q, hq⟩
  obtain ⟨ep', dx⟩ := DX.of dd' fun x hx => (d.ks x (by unfold withoutH at hx; exact (List.mem_filter.mp hx).1)).1
  exact h ep' _ (d_write I (by rw [d.at_]; exact True.intro) hs he (DX.obj dx))
end
def tNPop (td ty : TE) : TE := fun σ H Q => td σ H fun x H1 => ∃ G a xs ep, x = .ref a ∧ DOk G H1 a xs ep ∧ ty σ H1 fun y H2 => ∃ G2 xs2 ep2 b nk p v, DOk G2 H2 a xs2 ep2 ∧ y = .ref b ∧ NKV G2 b nk ∧ atKey xs2 nk = some p ∧ RelV v p.2 ∧ ∀ ep', Q v (upd H2 a (.ext (DX a (withoutH xs2 nk) ep')))
theorem pe_npop {X : Cx} {o e : Expr} {apos cpos : Pos} {td ty : TE} (hu : X.A.units + 64 < cLine) (ho : PE X o td) (he : PE X e ty) (m : M1 X o "pop" apos e cpos) : PE X (.Call (.Attribute o "pop" apos) [e] [] cpos) (tNPop td ty) := by
  refine ⟨fun pins s σ H Q I h => ?_⟩
  refine wpAny_Call_method m.base m.few m.line PySem.F.plainAttrs_dict PySem.F.slot_dict_pop PySem.F.type_dict_pop (thn (ho.run pins s σ H _ I h) fun u s1 ⟨x, H1, I1, rx, G, a, xs, ep, ex, d, q1⟩ => ?_)
  subst ex
  obtain rfl : u = Value.ref a := rx
  refine ⟨n_typeIs I1 d, n_noDict I1 d, ?_⟩
  rw [m.trees]
  refine Calls.callWith_builtin rfl (Calls.evalArgs_plain (Calls.spliced_cons (thn (he.run pins s1 σ H1 _ I1 q1) fun iv s2 ⟨y, H2, I2, ry, G2, xs2, ep2, b, nk, p, v, d2, ey, kb, hat, rv, q2⟩ => Calls.spliced_nil ?_)))
  subst ey
  obtain rfl : iv = Value.ref b := ry
  exact n_pop hu I2 d2 kb hat fun ep' s3 I3 => ⟨v, _, I3, rv, q2 ep'⟩
def ddropL : List D → List D → D → List D × List D
  | k :: ks, v :: vs, x => if keq k x = true then (ks, vs) else (k :: (ddropL ks vs x).1, v :: (ddropL ks vs x).2)
  | _, _, _ => ([], [])
section
variable {c : Cs} {E : XK} {F : Hp} {θ : List Addr}
theorem without_cons {y : NestedKey × Addr × Value} {xs : NX} {n : NestedKey} (nd : ((y :: xs).map (·.1)).Nodup) : withoutH (y :: xs) n = if y.1 = n then xs else y :: withoutH xs n := by
  have nd' := List.nodup_cons.mp nd
  unfold withoutH
  by_cases z : y.1 = n
  · rw [if_pos z, List.filter_cons_of_neg (by simp [z]), List.filter_eq_self.mpr fun x hx => by
      have : x.1 ≠ n := fun e => nd'.1 (by have := List.mem_map_of_mem (f := fun z : NestedKey × Addr × Value => z.1) hx; rw [e, ← z] at this; exact this)
      simp [this]]
  · rw [if_neg z, List.filter_cons_of_pos (by simp [z])]
theorem drop_ok {x : D} {n : NestedKey} (hx : nkOf x = some n) : ∀ (xs : NX) (ks vs : List D) (us : List V), nksOf ks = some (xs.map (·.1)) → RA c F θ (xs.map fun x => V.ref x.2.1) ks → Vals us (xs.map fun x => x.2.2) → RA c F θ us vs → (xs.map (·.1)).Nodup →
      nksOf (ddropL ks vs x).1 = some ((withoutH xs n).map (·.1)) ∧ RA c F θ ((withoutH xs n).map fun x => V.ref x.2.1) (ddropL ks vs x).1 ∧ ∃ us', Vals us' ((withoutH xs n).map fun x => x.2.2) ∧ RA c F θ us' (ddropL ks vs x).2
  | [], [], vs, us, _, _, hu, rv, _ => by
    unfold ddropL
    exact ⟨rfl, RA.nil, [], .nil, RA.nil⟩
  | [], k :: ks, _, _, h, _, _, _, _ => by obtain ⟨_, _, _, _, e⟩ := nks_cons h; cases e
  | y :: xs, [], _, _, h, _, _, _, _ => by unfold nksOf at h; cases h
  | y :: xs, k :: ks, vs, us, h, rk, hu, rv, nd => by
    obtain ⟨n2, ns, h1, h2, e0⟩ := nks_cons h
    obtain ⟨e1, e2⟩ := List.cons.inj e0
    have e1 : y.1 = n2 := e1
    obtain ⟨v1, r1, e3, q1, t1⟩ := rk.cons_inv
    obtain ⟨e4, e5⟩ := List.cons.inj e3
    subst e4 e5
    cases hu with
    | @cons v0 u0 us0 us1 hv0 ht0 =>
      cases vs with
      | nil => have := rv.nil_inv; cases this
      | cons d0 vs =>
        obtain ⟨v2, r2, e6, q2, t2⟩ := rv.cons_inv
        obtain ⟨e7, e8⟩ := List.cons.inj e6
        subst e7 e8
        rw [without_cons nd]
        have kk := keq_ok k x n2 n h1 hx
        have h2' : nksOf ks = some (xs.map (·.1)) := by rw [h2, ← e2]
        unfold ddropL
        by_cases z : n2 = n
        · rw [kk, decide_eq_true z, if_pos (e1.trans z)]
          exact ⟨h2', t1, us0, ht0, t2⟩
        · obtain ⟨i1, i2, us', i3, i4⟩ := drop_ok hx xs ks vs us0 h2' t1 ht0 t2 (List.nodup_cons.mp nd).2
          rw [kk, decide_eq_false z, if_neg (fun e => z (e1.symm.trans e))]
          refine ⟨?_, RA.cons q1 i2, v0 :: us', .cons hv0 i3, RA.cons q2 i4⟩
          show nksOf (k :: (ddropL ks vs x).1) = _
          unfold nksOf
          rw [h1, i1, List.map_cons, e1]
theorem DR.drop {a : Addr} {xs : NX} {ks vs : List D} {x : D} {n : NestedKey} (dr : DR c F θ a xs ks vs) (hx : nkOf x = some n) : DR c F θ a (withoutH xs n) (ddropL ks vs x).1 (ddropL ks vs x).2 := by
  obtain ⟨us, h1, h2⟩ := dr.rv
  obtain ⟨i1, i2, i3⟩ := drop_ok hx xs ks vs us dr.nk dr.rk h1 h2 dr.xf.nd
  have sub : (withoutH xs n).Sublist xs := by unfold withoutH; exact List.filter_sublist
  exact ⟨⟨dr.xf.ns, dr.xf.nd.sublist (sub.map _), Nat.le_trans sub.length_le dr.xf.sz, fun y hy => dr.xf.dp y (sub.subset hy)⟩, i1, i2, i3⟩
def dDPop (ed ek : Fn D) : Fn D := fun ρ s => (ed ρ s).bind fun d s => match d with
  | .cell i => (match gd s (.cell i) with
    | some _ => (ek ρ s).bind fun k s => (match gd s (.cell i) with
      | some (ks, vs) => if keyOk k = true then (match dgetL ks vs k with
        | some v => .ok v (s.set i [.mdc (ddropL ks vs k).1 (ddropL ks vs k).2])
        | none => .bad) else .bad
      | none => .bad)
    | none => .bad)
  | _ => .bad
theorem den_dPop {td tk : TE} {ed ek : Fn D} (hd : DenE c E td ed) (hk : DenE c E tk ek) : DenE c E (tNPop td tk) (dDPop ed ek) := by
  refine den_bind (r2 := rV c) (K := fun σ x H1 Q => ∃ G a xs ep, x = .ref a ∧ DOk G H1 a xs ep ∧ tk σ H1 fun y H2 => ∃ G2 xs2 ep2 b nk p v, DOk G2 H2 a xs2 ep2 ∧ y = .ref b ∧ NKV G2 b nk ∧ atKey xs2 nk = some p ∧ RelV v p.2 ∧ ∀ ep', Q v (upd H2 a (.ext (DX a (withoutH xs2 nk) ep')))) hd fun H0 σ ρ s F θ H Hi x d Q he hw q hp => ?_
  have q : R c F θ x d := q
  cases d with
  | cell i =>
    dsimp only at hp
    cases g0 : gd s (.cell i) with
    | none => rw [g0] at hp; exact hp.elim
    | some p0 =>
      obtain ⟨k0, v0⟩ := p0
      rw [g0] at hp
      dsimp only at hp
      obtain ⟨a, xs, ep, rfl, ha, dr⟩ := gd_of hw q g0
      obtain ⟨a', e', hia⟩ := r_cell_inv (c := c) (F := F) (θ := θ) q
      cases e'
      refine ⟨F, a, xs, ep, rfl, dr.ok hw.sub ha, ?_⟩
      refine hk H0 σ ρ s F θ H _ he hw ?_
      cases z : ek ρ s with
      | bad => rw [z] at hp; exact hp
      | exc _ _ _ => rw [z] at hp; exact hp
      | ok k s1 =>
        rw [z] at hp
        intro y F1 θ1 H1 x1 w1 ry
        have ry : R c F1 θ1 y k := ry
        dsimp only [Res.bind] at hp
        cases g1 : gd s1 (.cell i) with
        | none => rw [g1] at hp; exact hp.elim
        | some p1 =>
          obtain ⟨ks, vs⟩ := p1
          rw [g1] at hp
          dsimp only at hp
          split at hp
          · rename_i ko
            cases zl : dgetL ks vs k with
            | none => rw [zl] at hp; exact hp.elim
            | some dv =>
              rw [zl] at hp
              have hia1 := x1.th.get hia
              obtain ⟨a2, xs2, ep2, e2, ha2, dr2⟩ := gd_of w1 (R.mono x1.fr x1.th _ q) g1
              cases e2
              obtain ⟨b, kk, rfl, hk1, _, kb⟩ := key_of ry ko
              obtain ⟨us, f1, f2⟩ := dr2.rv
              obtain ⟨l1, _⟩ := look_ok (c := c) (F := F1) (θ := θ1) hk1 xs2 ks vs us dr2.nk f1 f2
              obtain ⟨v, u, m1, m2, m3⟩ := l1 dv zl
              obtain ⟨p, hp1, hp2⟩ := Option.map_eq_some_iff.mp m1
              refine ⟨F1, xs2, ep2, b, _, p, v, dr2.ok w1.sub ha2, rfl, kb, hp1, by rw [hp2]; exact m2, fun ep' => ?_⟩
              have hm : a ∈ θ1 := List.mem_of_getElem? hia1
              exact hp v F1 θ1 _ (x1.trans (Ext.cellSet hm)) (w1.cellSetG hia1 (dr2.drop hk1).cel) m3
          · exact hp.elim
  | _ => exact hp.elim
end
end MX


set_option Elab.async false
set_option linter.all false
set_option maxRecDepth 100000
namespace MX
open PySem PySem.Spec PyProof.Rows L2
theorem units65 {k : Nat} {A : Around} (r : Room k A) : A.units + 65 < cLine := by have := r.un; omega
section
variable {c : Cs} {E : XK}
theorem den_meth0 {k n : Nat} {m : Mf} {nm : Str} {t : TE} {ta : TA} {e : Fn D} {ea : Fn (List D)} (hno : nm ∉ c.fn k) (h : DenE c EX0 t e) (ha : DenA c EX0 ta ea) : DenE c EX0 (tMeth (c.cl k) nm (sp0 c m n) [] E t ta) (dMeth k m n e ea) := den_meth hno h ha
end
end MX


set_option Elab.async false
set_option linter.all false
set_option maxRecDepth 100000
namespace MX
open PySem PySem.Spec PyProof.Rows L2
/-! ### xs.index(e), xs a frozen list of flat items -/
def dLstIx (ea ei : Fn D) : Fn D := fun ρ s => (ea ρ s).bind fun a s => match a with
  | .lst ds => (ei ρ s).bind fun x s => if (flatD x && ds.all flatD) = true then (match firstIx x ds 0 with
    | some j => .ok (.int (j : Nat)) s
    | none => .bad) else .bad
  | _ => .bad
section
variable {c : Cs} {E : XK}
theorem den_lstIx {te ti : TE} {ea ei : Fn D} (ha : DenE c E te ea) (hi : DenE c E ti ei) : DenE c E (tBM c.K "list" (rIndex c.K) te (tCons ti tNil)) (dLstIx ea ei) := by
  refine den_bind (r2 := rV c) (K := fun σ x H Q => tyV c.K "list" x H ∧ tCons ti tNil σ H fun xs H2 => rIndex c.K x xs H2 Q) ha fun H0 σ ρ s F θ H Hi x a Q he hw q hp => ?_
  have q : R c F θ x a := q
  cases a with
  | lst ds =>
    obtain ⟨p, xs, rfl, hk, r⟩ := r_lst_inv (c := c) (F := F) (θ := θ) q
    refine ⟨.inl ⟨rfl, xs, SqL.of (hw.sub _ _ hk)⟩, ?_⟩
    refine hi H0 σ ρ s F θ H _ he hw ?_
    dsimp only at hp
    cases z : ei ρ s with
    | bad => rw [z] at hp; exact hp
    | exc k fs s' => rw [z] at hp; exact hp
    | ok i s' =>
      rw [z] at hp
      intro y F' θ' H' x' w' ry
      have ry : R c F' θ' y i := ry
      have r' := RA.mono x'.fr x'.th ds r
      dsimp only [Res.bind] at hp
      split at hp
      · rename_i hf
        rw [Bool.and_eq_true] at hf
        split at hp
        · rename_i j hj
          obtain ⟨_, ⟨d, h2, h3⟩, h4⟩ := firstIx_spec hj
          obtain ⟨v, hv, rv⟩ := r'.get' h2
          refine ⟨p, xs, y, j, v, rfl, rfl, SqL.of (w'.sub _ _ (x'.fr _ _ hk)), flat_v ry hf.1, all_flat r' hf.2, hv, ?_, fun m z' hm hz => ?_, hp _ F' θ' H' x' w' (r_int (c := c) (F := F') (θ := θ'))⟩
          · rw [eq_flat ry rv hf.1 (List.all_eq_true.mp hf.2 _ (List.mem_of_getElem? h2))]; exact h3
          · have hl := r'.length
            have hm' : m < ds.length := by have := get_lt hz; omega
            have hd := List.getElem?_eq_getElem hm'
            rw [eq_flat ry (r'.get hz hd) hf.1 (List.all_eq_true.mp hf.2 _ (List.mem_of_getElem? hd))]
            exact h4 m _ (by simpa using hm) hd
        · exact hp.elim
      · exact hp.elim
  | _ => exact hp.elim
end
end MX


set_option Elab.async false
set_option linter.all false
set_option maxRecDepth 100000
namespace MX
open PySem PySem.Spec PyProof.Rows L2
/-! ### list(d.items()) -/
section
variable {P : Program} {w : World} {A : Around} {E : Value → Shared → Prop} {s : Shared} {r d : Addr} {es : Array DictEntry} {ep : Nat}
theorem it_init {R : Result → Shared → Prop} {S : Addr} (hh : A.handled = none) (hv : s.heap.IsItemsView r d) (hm : DT.Raw s.heap d es ep) (n1 : S ≠ r) (n2 : d ≠ S) (hS : s.heap.get? S = some { cls := .type "list", data := .seq #[] }) (hn : es.size ≤ sizeLine)
    (out : ∀ h1 t1 acc c as, (∀ b o, b ≠ S → s.heap.get? b = some o → h1.get? b = some o) → h1.get? S = some { cls := .type "list", dict := none, data := .seq acc c, slots := #[] } → as.length = es.size → DT.Made es S h1 as → acc.toList = as.map Value.ref → R (.ok (.ret .none)) { s with heap := h1, toks := t1 }) :
    wpAny (model P w) A.in1 (Builtin.«list.__init__» ⟨[.ref S, .ref r], []⟩) (fun f s' => match f with | .done f => R (.ok f) s' | .again k => k.quiet = true ∧ codeAny (model P w) A k R s') (fun e s' => R (.error e) s') s := by
  show wpAny _ _ (do let was ← Builtin.List.listItems (.ref S); Builtin.List.listUpdate (.ref S) (fun _ => #[]); letGo was.toList.reverse; Builtin.List.listExtendWith (.ref S) (.ref r) .none) _ _ s
  unfold Builtin.List.listItems
  refine wpAny_bind (wpAny_bind (wpAny_seqItems hS rfl (wpAny_pure ?_)))
  refine wpAny_bind ?_
  show wpAny _ _ (updateSeq S (fun _ => #[])) _ _ s
  refine wpAny_updateSeq hS rfl ?_
  have hS2 := Heap.get?_update_self (Obj.mapSeq (fun _ => (#[] : Array Value))) hS rfl
  have oth : ∀ b o, b ≠ S → s.heap.get? b = some o → (s.heap.update S (Obj.mapSeq (fun _ => (#[] : Array Value)))).get? b = some o := fun b o n e => by
    rw [Heap.get?_update_other _ _ (Ne.symm n)]; exact e
  refine wpAny_bind (wpAny_letGo ?_)
  obtain ⟨ov, ho, hvc⟩ := hv
  refine DT.extI (es := es) (ep := ep) hh ⟨ov, oth r ov n1.symm ho, hvc⟩ (hm.at' fun o e => oth d o n2 e) S n1 n2 .none _ hS2 (fun h1 t1 acc c as k1 k2 k3 k4 k5 => ?_) hn
  exact out h1 t1 acc c as (fun b o n e => k1 b o n (oth b o n e)) k2 k3 (k4.low (Nat.le_of_lt (Heap.lt_size hS2))) k5
theorem it_call {Q : Value → Shared → Prop} (hh : A.handled = none) (hv : s.heap.IsItemsView r d) (hm : DT.Raw s.heap d es ep) (hn : es.size ≤ sizeLine)
    (out : ∀ h1 t1 acc c as, (∀ b o, s.heap.get? b = some o → h1.get? b = some o) → h1.get? s.heap.objs.size = some { cls := .type "list", dict := none, data := .seq acc c, slots := #[] } → as.length = es.size → DT.Made es s.heap.objs.size h1 as → acc.toList = as.map Value.ref →
      Q (.ref s.heap.objs.size) { s with heap := h1, toks := t1 }) : wpAny (model P w) A (call (.type "list") [.ref r]) Q E s := by
  refine callType_codes (Q₁ := fun obj s1 => s1 = { s with heap := s.heap.push { cls := .type "list", data := .seq #[] } } ∧ obj = .ref s.heap.objs.size) PySem.F.called_list (PySem.F.typeCall_list_1 _) PySem.F.entry_list_init (code_list_new _ ⟨rfl, rfl⟩) fun obj s1 q => ?_
  obtain ⟨rfl, rfl⟩ := q
  have g : (s.heap.push { cls := .type "list", data := .seq #[] }).get? s.heap.objs.size = some { cls := .type "list", data := .seq #[] } := Heap.get?_push_size _ rfl
  obtain ⟨ov, ho, hvc⟩ := hv
  refine ⟨⟨_, g, rfl⟩, PySem.F.args_list_init_2 _ _, it_init (es := es) (ep := ep) (A := A.in1) hh ⟨ov, Heap.get?_push_of_some _ ho, hvc⟩ (hm.push _) (Nat.ne_of_gt (Heap.lt_size ho)) (Nat.ne_of_lt hm.lt) g hn fun h1 t1 acc c as k1 k2 k3 k4 k5 => ?_⟩
  exact ⟨rfl, out h1 t1 acc c as (fun b o e => k1 b o (Nat.ne_of_lt (Heap.lt_size e)) (Heap.get?_push_of_some _ e)) k2 k3 k4 k5⟩
end
/-! several new objects -/
def newAll (H : Hp) : List (Addr × HO) → Hp
  | [] => H
  | t :: ts => newAll (upd H t.1 t.2) ts
def FreshL (H : Hp) : List (Addr × HO) → Prop
  | [] => True
  | t :: ts => H t.1 = none ∧ FreshL (upd H t.1 t.2) ts
def RowsT : List (Addr × HO) → List (List V) → Prop
  | [], [] => True
  | t :: ts, r :: rs => (∃ ob : Obj, t.2 = .frz ob (.tup r) ∧ ob.dict = none) ∧ RowsT ts rs
  | _, _ => False
theorem newAll_none {a : Addr} : ∀ {ts : List (Addr × HO)} {H : Hp}, H a = none → a ∉ ts.map (·.1) → newAll H ts a = none
  | [], H, h, _ => h
  | t :: ts, H, h, n => by
    rw [List.map_cons] at n
    refine newAll_none (ts := ts) ?_ (fun m => n (List.mem_cons_of_mem _ m))
    rw [upd_ne (fun e => n (by rw [e]; exact List.mem_cons_self))]
    exact h
theorem takeZ {X : Cx} {pins : List (Addr × Obj)} {σ : L2.St} {H0 : Hp} {s : Shared} {h1 : Heap} {tk : Nat} (I0 : Inv X pins σ H0 s) : ∀ (as : List Addr) (rows : List (List V)) (H : Hp), Inv X pins σ H { s with heap := h1, toks := tk } → as.Nodup → as.length = rows.length →
    (∀ (j : Nat) (a : Addr) (row : List V), as[j]? = some a → rows[j]? = some row → s.heap.objs.size ≤ a ∧ H a = none ∧ ∃ us, Vals row us ∧ row.length ≤ sizeLine ∧ h1.get? a = some { cls := .type "tuple", data := .seq us.toArray }) →
    ∃ ts : List (Addr × HO), ts.map (·.1) = as ∧ RowsT ts rows ∧ FreshL H ts ∧ Inv X pins σ (newAll H ts) { s with heap := h1, toks := tk }
  | [], [], H, I, _, _, _ => ⟨[], rfl, True.intro, True.intro, I⟩
  | [], _ :: _, _, _, _, h, _ => by cases h
  | _ :: _, [], _, _, _, h, _ => by cases h
  | a :: as, row :: rows, H, I, nd, hl, h => by
    obtain ⟨k1, k2, us, k3, k4, k5⟩ := h 0 a row rfl rfl
    have nd' := List.nodup_cons.mp nd
    have I2 : Inv X pins σ (upd H a (.frz { cls := .type "tuple", data := .seq us.toArray } (.tup row))) { s with heap := h1, toks := tk } :=
      I.take (h' := h1) (t' := tk) (fun b ob _ e => e) (I0.fpOk k1 k2) ⟨k5, k4, us, k3, ⟨_, k5, rfl, 0, rfl⟩⟩
    obtain ⟨ts, f1, f2, f3, f4⟩ := takeZ I0 as rows _ I2 nd'.2 (by simpa using hl) fun j b row' hj hr => by
      obtain ⟨q1, q2, q3⟩ := h (j + 1) b row' hj hr
      have : b ≠ a := fun e => nd'.1 (e ▸ List.mem_of_getElem? hj)
      exact ⟨q1, by rw [upd_ne this]; exact q2, q3⟩
    exact ⟨(a, _) :: ts, by rw [List.map_cons, f1], ⟨⟨_, rfl, rfl⟩, f2⟩, ⟨k2, f3⟩, f4⟩
def rowsV : NX → List V → List (List V)
  | x :: xs, u :: us => [V.ref x.2.1, u] :: rowsV xs us
  | _, _ => []
theorem rowsV_get : ∀ {xs : NX} {us : List V} {j : Nat} {row : List V}, (rowsV xs us)[j]? = some row → ∃ x u, xs[j]? = some x ∧ us[j]? = some u ∧ row = [V.ref x.2.1, u]
  | [], us, j, row, h => by simp [rowsV] at h
  | _ :: _, [], j, row, h => by simp [rowsV] at h
  | x :: xs, u :: us, 0, row, h => ⟨x, u, rfl, rfl, (Option.some.inj h).symm⟩
  | x :: xs, u :: us, j + 1, row, h => by
    obtain ⟨x', u', h1, h2, h3⟩ := rowsV_get (xs := xs) (us := us) (j := j) h
    exact ⟨x', u', h1, h2, h3⟩
theorem rowsV_len : ∀ {xs : NX} {us : List V}, us.length = xs.length → (rowsV xs us).length = xs.length
  | [], us, _ => by cases us <;> rfl
  | _ :: _, [], h => by cases h
  | x :: xs, u :: us, h => by simp [rowsV, rowsV_len (xs := xs) (us := us) (by simpa using h)]
def rViewN : V → List V → Hp → VK → Prop := fun x vs H Q => ∃ d xs ep, x = .ref d ∧ (d == sysModules) = false ∧ H d = some (.ext (DX d xs ep)) ∧ ∀ p, H p = none → Q (.ref p) (upd H p (L2.DX.itemsO p d))
def tNIt (td : TE) : TE := fun σ H Q => td σ H fun x H1 => rViewN x [] H1 Q
def rListIt : List V → Hp → VK → Prop := fun vs H Q => ∃ p d xs ep us, vs = [.ref p] ∧ H p = some (L2.DX.itemsO p d) ∧ H d = some (.ext (DX d xs ep)) ∧ xs.length ≤ 1000000 ∧ Vals us (xs.map fun x => x.2.2) ∧
  ∀ (ts : List (Addr × HO)) l, RowsT ts (rowsV xs us) → FreshL H ts → newAll H ts l = none → Q (.ref l) (upd (newAll H ts) l (.lst (ts.map fun t => V.ref t.1)))
section
variable {X : Cx}
theorem pe_nit {o : Expr} {td : TE} {apos cpos : Pos} (ho : PE X o td) (hb : attributeBase o "items" X.env (eval o X.env) = eval o X.env := by rfl) (hl : (apos.endLine == cpos.line) = true := by rfl) : PE X (.Call (.Attribute o "items" apos) [] [] cpos) (tNIt td) := by
  refine ⟨fun pins s σ H Q I h => ?_⟩
  refine wpAny_Call_method0_late hb hl (thn (ho.run pins s σ H _ I h) fun v s1 ⟨x, H1, I1, r1, d, xs, ep, ex, hs, hd, q⟩ => ?_)
  subst ex
  obtain rfl : v = Value.ref d := r1
  obtain ⟨o', es, hgd, hx, hdt, he⟩ := dx_at I1 hd
  refine ⟨"dict", _, PySem.F.plainAttrs_dict, PySem.F.slot_dict_items, PySem.F.type_dict_items, ⟨o', hgd, hx.1⟩, fun b e => by cases e; exact ⟨o', hgd, hx.2.1⟩, Calls.callWith_builtin rfl (PySem.evalArgs_none ?_)⟩
  refine DT.callItems (es := es) (ep := ep) hs ⟨o', hgd, hx, hdt⟩ ?_
  exact ⟨.ref s1.heap.objs.size, upd H1 s1.heap.objs.size (L2.DX.itemsO s1.heap.objs.size d), I1.laid (t' := s1.toks) (fun b u e => Heap.get?_push_of_some _ e) (Nat.le_refl _) (L2.DX.itemsO_ok (Heap.get?_push_size _ rfl)), rfl, q _ I1.fresh⟩
theorem cr_listIt (hc : X.calm = true) : CallR X (.type "list") rListIt := by
  intro pins s σ H vs us Q I r h
  obtain ⟨p, d, xs, ep, vals, rfl, hp, hd, hz, hv, q⟩ := h
  obtain rfl := Vals.ref1 r
  have view : s.heap.IsItemsView p d := (show ObjOk X.prog X.w H s.heap p (L2.DX.itemsO p d) from I.hok p _ hp).1
  obtain ⟨o', es, hgd, hx, hdt, he⟩ := dx_at I hd
  have hsz := dx_size he
  have hvl : vals.length = xs.length := by have := hv.length; rwa [List.length_map] at this
  refine it_call (es := es) (ep := ep) (I.ok.hd hc) view ⟨o', hgd, hx, hdt⟩ (by rw [hsz, sizeLine_eq]; omega) fun h1 t1 acc c as k1 k2 k3 k4 k5 => ?_
  have I1 : Inv X pins σ H { s with heap := h1, toks := t1 } := I.kept (t' := t1) k1
  have nd : as.Nodup := List.Pairwise.imp (fun h => Nat.ne_of_lt h) k4.rise
  obtain ⟨ts, f1, f2, f3, f4⟩ := takeZ I as (rowsV xs vals) H I1 nd (by rw [rowsV_len hvl, k3, hsz]) fun j a row hj hr => by
    obtain ⟨e, e1, e2⟩ := k4.pairs j a hj
    obtain ⟨x, u, g1, g2, rfl⟩ := rowsV_get hr
    have la : s.heap.objs.size ≤ a := Nat.le_of_lt (k4.above a (List.mem_of_getElem? hj))
    rw [dx_get he g1] at e1
    cases e1
    obtain ⟨u', g3, g4⟩ := hv.get g2
    rw [List.getElem?_map, g1] at g3
    obtain rfl : x.2.2 = u' := Option.some.inj g3
    exact ⟨la, I.hok.fresh la, [.ref x.2.1, x.2.2], .cons rfl (.cons g4 .nil), by rw [sizeLine_eq]; simp, e2⟩
  have lS : newAll H ts s.heap.objs.size = none := newAll_none I.fresh (fun m => by
    rw [f1] at m
    exact Nat.lt_irrefl _ (k4.above _ m))
  refine ⟨.ref s.heap.objs.size, _, ?_, rfl, q ts _ f2 f3 lS⟩
  refine f4.take (h' := h1) (t' := t1) (fun b ob _ e => e) (I.fpOk (Nat.le_refl _) lS) ?_
  have ln : ts.length = xs.length := by rw [← List.length_map (f := fun t : Addr × HO => t.1), f1, k3, hsz]
  refine ⟨by rw [List.length_map, ln, sizeLine_eq]; omega, acc.toList, c, ?_, by rw [Array.toArray_toList]; exact k2⟩
  rw [k5, ← f1, List.map_map]
  have := vals_refs (ts.map (·.1))
  rw [List.map_map, List.map_map] at this
  exact this
end
end MX


set_option Elab.async false
set_option linter.all false
set_option maxRecDepth 100000
namespace MX
open PySem PySem.Spec PyProof.Rows L2
/-! ### list(d.items()), xs[::-1] -/
def pairL : List D → List D → List (List D)
  | k :: ks, v :: vs => [k, v] :: pairL ks vs
  | _, _ => []
def RAs (c : Cs) (F : Hp) (θ : List Addr) : List (List V) → List (List D) → Prop
  | [], [] => True
  | r :: rs, d :: ds => RA c F θ r d ∧ RAs c F θ rs ds
  | _, _ => False
section
variable {c : Cs} {s : Sto} {θ : List Addr}
theorem RAs.mono {F F' : Hp} {θ' : List Addr} (e : Le F F') (p : Pre θ θ') : ∀ {rs : List (List V)} {ds : List (List D)}, RAs c F θ rs ds → RAs c F' θ' rs ds
  | [], [], _ => True.intro
  | _ :: _, [], h => h.elim
  | [], _ :: _, h => h.elim
  | r :: rs, d :: ds, h => ⟨RA.mono e p d h.1, RAs.mono e p h.2⟩
theorem newAll_ok : ∀ (ts : List (Addr × HO)) (rows : List (List V)) (dss : List (List D)) {F H : Hp}, WOk c s F θ H → FreshL H ts → RowsT ts rows → RAs c F θ rows dss →
    ∃ F', WOk c s F' θ (newAll H ts) ∧ Ext F θ H F' θ (newAll H ts) ∧ RA c F' θ (ts.map fun t => V.ref t.1) (dss.map D.tup)
  | [], [], [], F, H, w, _, _, _ => ⟨F, w, Ext.refl _ _ _, RA.nil⟩
  | [], [], _ :: _, _, _, _, _, _, h => h.elim
  | [], _ :: _, _, _, _, _, _, h, _ => h.elim
  | _ :: _, [], _, _, _, _, _, h, _ => h.elim
  | _ :: _, _ :: _, [], _, _, _, _, _, h => h.elim
  | t :: ts, row :: rows, ds :: dss, F, H, w, fr, hr, ha => by
    obtain ⟨ob, e1, e2⟩ := hr.1
    have fF := w.free fr.1
    have x1 : Ext F θ H (upd F t.1 t.2) θ (upd H t.1 t.2) := Ext.new fr.1 fF.1 fF.2
    obtain ⟨F', w', x', r'⟩ := newAll_ok ts rows dss (w.new fr.1 (o := t.2)) fr.2 hr.2 (RAs.mono x1.fr x1.th ha.2)
    refine ⟨F', w', x1.trans x', ?_⟩
    rw [List.map_cons, List.map_cons]
    refine RA.cons ?_ r'
    have xx := x1.trans x'
    unfold R
    exact ⟨t.1, row, rfl, ⟨ob, x'.fr t.1 _ (by rw [upd_same, e1]), e2⟩, RA.mono xx.fr xx.th ds ha.1⟩
theorem rows_pair {F : Hp} : ∀ {xs : NX} {us : List V} {ks vs : List D}, RA c F θ (xs.map fun x => V.ref x.2.1) ks → RA c F θ us vs → RAs c F θ (rowsV xs us) (pairL ks vs)
  | [], us, [], vs, _, _ => by cases us <;> exact True.intro
  | [], _, _ :: _, _, h, _ => by obtain ⟨_, _, e, _⟩ := h.cons_inv; cases e
  | _ :: _, _, [], _, h, _ => by have := h.nil_inv; cases this
  | x :: xs, [], k :: ks, [], _, _ => True.intro
  | x :: xs, [], k :: ks, _ :: _, _, h => by obtain ⟨_, _, e, _⟩ := h.cons_inv; cases e
  | x :: xs, _ :: _, k :: ks, [], _, h => by have := h.nil_inv; cases this
  | x :: xs, u :: us, k :: ks, v :: vs, hk, hv => by
    obtain ⟨_, _, e, q, t⟩ := hk.cons_inv
    obtain ⟨_, _, e', q', t'⟩ := hv.cons_inv
    obtain ⟨e1, e2⟩ := List.cons.inj e
    obtain ⟨e3, e4⟩ := List.cons.inj e'
    subst e1 e2 e3 e4
    exact ⟨RA.cons q (RA.cons q' RA.nil), rows_pair t t'⟩
end
def dItemsL (e : Fn D) : Fn D := fun ρ s => (e ρ s).bind fun d s => match gd s d with
  | some (ks, vs) => .ok (.lst ((pairL ks vs).map D.tup)) s
  | none => .bad
def dRevL (e : Fn D) : Fn D := fun ρ s => (e ρ s).bind fun d s => match d with
  | .lst ds => .ok (.lst ds.reverse) s
  | _ => .bad
section
variable {c : Cs} {E : XK}
theorem den_itemsL {t : TE} {e : Fn D} (h : DenE c E t e) : DenE c E (tCB rListIt (tCons (tNIt t) tNil)) (dItemsL e) := by
  refine den_bind (r2 := rV c) (K := fun σ x H1 Q => rViewN x [] H1 fun y H2 => rListIt [y] H2 Q) h fun H0 σ ρ s F θ H Hi x a Q he hw q hp => ?_
  cases g : gd s a with
  | none => rw [g] at hp; exact hp.elim
  | some pr =>
    obtain ⟨ks, vs⟩ := pr
    rw [g] at hp
    obtain ⟨d, xs, ep, rfl, ha, dr⟩ := gd_of hw q g
    obtain ⟨us, hv, rv⟩ := dr.rv
    refine ⟨d, xs, ep, rfl, dr.xf.ns, ha, fun p hn => ⟨p, d, xs, ep, us, rfl, upd_same, by rw [upd_ne (ne_of_none ha hn)]; exact ha, dr.xf.sz, hv, fun ts l h1 h2 h3 => ?_⟩⟩
    have w1 := hw.newH hn (o := L2.DX.itemsO p d)
    have x1 : Ext F θ H F θ (upd H p (L2.DX.itemsO p d)) := Ext.newH hn
    obtain ⟨F', w2, x2, r2⟩ := newAll_ok ts _ _ w1 h2 h1 (rows_pair dr.rk rv)
    have fl := w2.free h3
    refine hp _ _ θ _ ((x1.trans x2).trans (Ext.new h3 fl.1 fl.2)) (w2.new h3) ?_
    show R c _ θ (.ref l) (.lst _)
    unfold R
    exact ⟨l, _, rfl, upd_same, RA.mono (Le.new fl.1) (Pre.refl θ) _ r2⟩
theorem RA.reverse {F : Hp} {θ : List Addr} : ∀ {ds : List D} {vs : List V}, RA c F θ vs ds → RA c F θ vs.reverse ds.reverse
  | [], _, h => by rw [h.nil_inv]; exact RA.nil
  | d :: ds, _, h => by
    obtain ⟨v, r, rfl, q, t⟩ := h.cons_inv
    rw [List.reverse_cons, List.reverse_cons]
    exact RA.append (RA.reverse t) (RA.cons q RA.nil)
theorem den_revL {t : TE} {e : Fn D} (h : DenE c E t e) : DenE c E (tRevL c.K t) (dRevL e) := by
  refine den_bind (r2 := rV c) (K := fun σ x H1 Q => ∃ a xs, x = .ref a ∧ SqL c.K H1 a xs ∧ ∀ p, H1 p = none → Q (.ref p) (upd H1 p (.lst xs.reverse))) h fun H0 σ ρ s F θ H Hi x a Q he hw q hp => ?_
  have q : R c F θ x a := q
  cases a with
  | lst ds =>
    obtain ⟨p, xs, rfl, hk, r⟩ := r_lst_inv (c := c) (F := F) (θ := θ) q
    refine ⟨p, xs, rfl, SqL.of (hw.sub _ _ hk), fun l hn => ?_⟩
    have fl := hw.free hn
    refine hp _ _ θ _ (Ext.new hn fl.1 fl.2) (hw.new hn) ?_
    show R c _ θ (.ref l) (.lst _)
    unfold R
    exact ⟨l, _, rfl, upd_same, RA.mono (Le.new fl.1) (Pre.refl θ) _ r.reverse⟩
  | _ => exact hp.elim
end
end MX


set_option Elab.async false
set_option linter.all false
set_option maxRecDepth 100000
namespace MX
open PySem PySem.Spec PyProof.Rows L2
/-! ### dict(a list of pairs) -/
abbrev KR := List (NestedKey × Addr × V)
def PsOk : KR → NX → Prop
  | [], [] => True
  | k :: ks, x :: xs => (x.1 = k.1 ∧ x.2.1 = k.2.1 ∧ RelV k.2.2 x.2.2) ∧ PsOk ks xs
  | _, _ => False
def RowsK (H : Hp) : List Addr → KR → Prop
  | [], [] => True
  | a :: as, k :: ks => (∃ ob : Obj, H a = some (.frz ob (.tup [.ref k.2.1, k.2.2]))) ∧ RowsK H as ks
  | _, _ => False
theorem PsOk.len : ∀ {ks : KR} {xs : NX}, PsOk ks xs → xs.length = ks.length
  | [], [], _ => rfl
  | [], _ :: _, h => h.elim
  | _ :: _, [], h => h.elim
  | _ :: ks, _ :: xs, h => by rw [List.length_cons, List.length_cons, PsOk.len h.2]
theorem PsOk.mem : ∀ {ks : KR} {xs : NX} {x : NestedKey × Addr × Value}, PsOk ks xs → x ∈ xs → ∃ k ∈ ks, x.1 = k.1 ∧ x.2.1 = k.2.1
  | [], [], _, _, h => by cases h
  | [], _ :: _, _, h, _ => h.elim
  | _ :: _, [], _, h, _ => h.elim
  | k :: ks, y :: xs, x, h, m => by
    rcases List.mem_cons.mp m with rfl | m
    · exact ⟨k, List.mem_cons_self, h.1.1, h.1.2.1⟩
    · obtain ⟨k', m', e⟩ := PsOk.mem h.2 m
      exact ⟨k', List.mem_cons_of_mem _ m', e⟩
def rDictP (K : PySem.W.Frag) : List V → Hp → VK → Prop := fun vs H Q => ∃ G a as krs, vs = [.ref a] ∧ SqL K H a (as.map V.ref) ∧ RowsK H as krs ∧ (∀ k ∈ krs, NKV G k.2.1 k.1) ∧ Le G H ∧ krs.length ≤ 1000000 ∧
  ∀ ps, PsOk krs ps → ∀ p ep, H p = none → (p == sysModules) = false → Q (.ref p) (upd H p (.ext (DX p (storedAllH [] ps) ep)))
theorem pick_ps {X : Cx} {pins : List (Addr × Obj)} {σ : L2.St} {H : Hp} {s : Shared} (I : Inv X pins σ H s) : ∀ (as : List Addr) (krs : KR), RowsK H as krs → ∃ ps : NX, PsOk krs ps ∧ ∀ (j : Nat) (x : NestedKey × Addr × Value), ps[j]? = some x → ∃ ta, as[j]? = some ta ∧ s.heap.IsTuple ta #[.ref x.2.1, x.2.2]
  | [], [], _ => ⟨[], True.intro, fun j x h => by simp at h⟩
  | [], _ :: _, h => h.elim
  | _ :: _, [], h => h.elim
  | a :: as, k :: ks, h => by
    obtain ⟨⟨ob, ha⟩, ht⟩ := h
    obtain ⟨ps, h1, h2⟩ := pick_ps I as ks ht
    obtain ⟨its, r, p, _⟩ := I.tuple (.inl (.inr ⟨ob, ha⟩))
    have p' : s.heap.IsTuple a its.toArray := p
    cases r with
    | @cons _ v1 _ us1 q1 t1 =>
      cases t1 with
      | @cons _ v2 _ us2 q2 t2 =>
        cases t2
        obtain rfl : v1 = Value.ref k.2.1 := q1
        refine ⟨(k.1, k.2.1, v2) :: ps, ⟨⟨rfl, rfl, q2⟩, h1⟩, fun j x hx => ?_⟩
        cases j with
        | zero => cases hx; exact ⟨a, rfl, p'⟩
        | succ j => obtain ⟨ta, g1, g2⟩ := h2 j x hx; exact ⟨ta, g1, g2⟩
theorem rowsK_len {H : Hp} : ∀ {as : List Addr} {ks : KR}, RowsK H as ks → as.length = ks.length
  | [], [], _ => rfl
  | [], _ :: _, h => h.elim
  | _ :: _, [], h => h.elim
  | _ :: as, _ :: ks, h => by rw [List.length_cons, List.length_cons, rowsK_len h.2]
section
variable {X : Cx}
theorem cr_dictP (hu : X.A.units + 64 < cLine) (hc : X.calm = true) : CallR X (.type "dict") (rDictP X.K) := by
  intro pins s σ H vs us Q I r h
  obtain ⟨G, a, as, krs, rfl, hl, hr, hk, le, hz, q⟩ := h
  obtain rfl := Vals.ref1 r
  obtain ⟨ps, h1, h2⟩ := pick_ps I as krs hr
  obtain ⟨its, rv, ⟨o, n, ho, hcl, hdd, hdt⟩, hsl⟩ := I.list hl
  have e1 : its = as.map Value.ref := by
    clear hl hr h2 hdt ho hsl
    induction as generalizing its with
    | nil => cases rv; rfl
    | cons b as ih =>
      rw [List.map_cons] at rv
      cases rv with
      | @cons _ v _ us q1 t1 =>
        obtain rfl : v = Value.ref b := q1
        rw [List.map_cons, ih _ t1]
  subst e1
  have lp := h1.len
  have la := rowsK_len hr
  have km : ∀ x ∈ ps, NKV G x.2.1 x.1 := fun x hx => by
    obtain ⟨k, m, f1, f2⟩ := h1.mem hx
    rw [f1, f2]
    exact hk k m
  have Pa := PairArg.list (prog := X.prog) (w := X.w) a (as.map Value.ref).toArray (fun j => as.getD j 0) (ps.map fun x => (Value.ref x.2.1, x.2.2))
  refine call_dict_pairsH (knd := nestedKind X.prog X.w) (ps := ps) Pa (I.ok.hd hc) (by show X.A.units + 1 + 1 + 8 < cLine; omega) ⟨⟨o, n, ho, hcl, hdd, hdt⟩, by simp; omega, fun j k v hj => ?_⟩ ⟨by simp, fun i k v hi => ?_⟩ (fun h' kp x hx => ?_) (by rw [List.length_map, lp, sizeLine_eq]; omega) fun h' tk dd kp => ?_
  · rw [List.getElem?_map] at hj
    obtain ⟨x, hx, e⟩ := Option.map_eq_some_iff.mp hj
    obtain ⟨ta, g1, g2⟩ := h2 j x hx
    cases e
    have gd : as.getD j 0 = ta := by rw [List.getD_eq_getElem?_getD, g1]; rfl
    show (List.map Value.ref as).toArray[j]? = some (Value.ref (as.getD j 0)) ∧ PairAt s.heap (as.getD j 0) _ _
    rw [gd]
    refine ⟨?_, .inl g2⟩
    simp [g1]
  · have hi : (ps.map fun x => (Value.ref x.2.1, x.2.2))[i]? = some (k, v) := hi
    rw [List.getElem?_map] at hi
    obtain ⟨x, hx, e⟩ := Option.map_eq_some_iff.mp hi
    cases e
    exact ⟨x.1, x.2.1, hx, rfl⟩
  · have I1 : Inv X pins σ H { s with heap := h' } := I.kept (t' := s.toks) fun b o e => kp b o (Nat.ne_of_lt (Heap.lt_size e)) (by simp) e
    exact (km x hx).2 _ _ _ _ le I1.hok
  · have tz : ∀ x ∈ storedAllH [] ps, tf x.1 = true := storedAllH_keys (P := fun k _ => tf k = true) (fun x hx => by cases hx) fun x hx => (km x hx).1
    obtain ⟨ep, dx⟩ := DX.of dd tz
    have pm : (s.heap.objs.size == sysModules) = false := beq_eq_false_iff_ne.mpr (Ne.symm (Nat.ne_of_lt I.big))
    exact ⟨.ref s.heap.objs.size, _, I.laid (t' := tk) (fun b u e => kp b u (by simp) e) (Nat.le_refl _) (DX.obj dx), rfl, q ps h1 _ ep I.fresh pm⟩
/-- dict(d) -/
def rDictC : List V → Hp → VK → Prop := fun vs H Q => ∃ G a xs ep, vs = [.ref a] ∧ DOk G H a xs ep ∧ (∀ x ∈ xs, ∃ ks, x.1 = .tup ks) ∧ (xs.map fun x => h0 x.1).Nodup ∧ ∀ p ep', H p = none → (p == sysModules) = false → Q (.ref p) (upd H p (.ext (DX p xs ep')))
theorem cr_dictC (hu : X.A.units + 64 < cLine) : CallR X (.type "dict") rDictC := by
  intro pins s σ H vs us Q I r h
  obtain ⟨G, a, xs, ep, rfl, d, ht, hn, q⟩ := h
  obtain rfl := Vals.ref1 r
  have dh := d.dict I.hok
  have nt : (xs.map fun x => (nestedKind X.prog X.w).hash x.1).Nodup := by
    have e : (xs.map fun x => (nestedKind X.prog X.w).hash x.1) = xs.map fun x => h0 x.1 := List.map_congr_left fun x hx => hash_tf X.w x.1 (d.ks x hx).1
    rw [e]; exact hn
  have ty : ∀ x ∈ xs, s.TypeIs (.ref x.2.1) "tuple" := fun x hx => by
    obtain ⟨ks, e⟩ := ht x hx
    have k := (d.ks x hx).2 _ _ _ _ d.le I.hok
    rw [e] at k
    have k1 : NestedIs s.heap (.tup ks) (.ref x.2.1) := k.1
    cases k1 with
    | tup ho hc _ _ => exact ⟨_, ho, hc⟩
  have hz : xs.length ≤ sizeLine := by have := d.sz; rw [sizeLine_eq]; omega
  obtain ⟨o', es, hgd, hx, hdt, he⟩ := dx_at I d.at_
  have gs : (s.heap.push { cls := .type "dict", data := .dict #[] }).get? s.heap.objs.size = some { cls := .type "dict", data := .dict #[] } := Heap.get?_push_size _ rfl
  refine callType_codes (Q₁ := fun obj s1 => s1 = { s with heap := s.heap.push { cls := .type "dict", data := .dict #[] } } ∧ obj = .ref s.heap.objs.size) F.kt_called_dict (F.kt_typeCall_dict_1 _) F.entry_dict_init (kt_code_dict_new _ ⟨rfl, rfl⟩) fun obj s1 z => ?_
  obtain ⟨rfl, rfl⟩ := z
  have hT : Shared.TypeIs { s with heap := s.heap.push { cls := .type "dict", data := .dict #[] } } (.ref s.heap.objs.size) "dict" := ⟨_, gs, rfl⟩
  have old : ∀ b o, s.heap.get? b = some o → (s.heap.push { cls := .type "dict", data := .dict #[] }).get? b = some o := fun b o e => Heap.get?_push_of_some _ e
  have I1 : Inv X pins σ H { s with heap := s.heap.push { cls := .type "dict", data := .dict #[] } } := I.kept (t' := s.toks) old
  refine ⟨hT, F.args_dict_init_2 _ _, ?_⟩
  unfold Builtin.«dict.__init__» Builtin.Dict.selfAndRest
  refine wpAny_bind (wpAny_bind (wpAny_notOrdered_dict hT (wpAny_pure ?_)))
  show wpAny _ _ (Builtin.Dict.updateFrom "dict.__init__" s.heap.objs.size (.ref a) [] .none) _ _ _
  refine updateFrom_dictH (knd := nestedKind X.prog X.w) (A := X.A.in1) (kvs := []) (more := xs) .none (by show X.A.units + 1 + 1 + 8 < cLine; omega) (Nat.ne_of_gt (Heap.lt_size hgd)) d.ns (Heap.DictOfH.new s.heap) (d.dict I1.hok) (.inr ⟨fun x hx => let ⟨o, e, c⟩ := ty x hx; ⟨o, old _ _ e, c⟩, nt⟩) (by simpa using hz) fun h1 d1 _ sb => ?_
  rw [storedAllH_nil_of_nodup xs d.nd] at d1
  obtain ⟨ep', dx⟩ := DX.of d1 fun x hx => (d.ks x hx).1
  have pm : (s.heap.objs.size == sysModules) = false := beq_eq_false_iff_ne.mpr (Ne.symm (Nat.ne_of_lt I.big))
  exact ⟨rfl, .ref s.heap.objs.size, _, I.laid (t' := s.toks) (fun b u e => (sb.2 b (Nat.ne_of_lt (Heap.lt_size e))).trans (old b u e)) (Nat.le_refl _) (DX.obj dx), rfl, q _ ep' I.fresh pm⟩
end
end MX


set_option Elab.async false
set_option linter.all false
set_option maxRecDepth 100000
namespace MX
open PySem PySem.Spec PyProof.Rows L2
/-! ### dict(pairs), dict(d) -/
def unpair : List D → Option (List D × List D)
  | [] => some ([], [])
  | .tup [k, v] :: ds => match unpair ds with
    | some (ks, vs) => some (k :: ks, v :: vs)
    | none => none
  | _ => none
def dputA : List D × List D → List D → List D → List D × List D
  | p, k :: ks, v :: vs => dputA (dputL p.1 p.2 k v) ks vs
  | p, _, _ => p
def KMatch (c : Cs) (F : Hp) (θ : List Addr) : KR → List D → List D → Prop
  | [], [], [] => True
  | r :: rs, k :: ks, v :: vs => (∃ kk, nkOf k = some (.tup kk) ∧ (NestedKey.tup kk).depth ≤ 8 ∧ r.1 = .tup kk ∧ R c F θ (.ref r.2.1) k ∧ R c F θ r.2.2 v) ∧ KMatch c F θ rs ks vs
  | _, _, _ => False
section
variable {c : Cs} {F : Hp} {θ : List Addr}
theorem krs_of : ∀ (ds : List D) (xs : List V) (ks vs : List D), RA c F θ xs ds → unpair ds = some (ks, vs) → ks.all keyOk = true →
    ∃ (as : List Addr) (krs : KR), xs = as.map V.ref ∧ RowsK F as krs ∧ (∀ k ∈ krs, NKV F k.2.1 k.1) ∧ KMatch c F θ krs ks vs
  | [], xs, ks, vs, r, h, _ => by
    unfold unpair at h
    cases h
    exact ⟨[], [], r.nil_inv, True.intro, (fun k hk => by cases hk), True.intro⟩
  | d :: ds, xs, ks, vs, r, h, ho => by
    unfold unpair at h
    split at h
    · rename_i e; cases e
    · rename_i k v ds' e
      cases e
      split at h
      · rename_i ks' vs' hz
        cases h
        obtain ⟨x, xr, rfl, q, t⟩ := r.cons_inv
        rw [List.all_cons, Bool.and_eq_true] at ho
        obtain ⟨as, krs, h1, h2, h3, h4⟩ := krs_of ds xr ks' vs' t hz ho.2
        unfold R at q
        obtain ⟨a, row, rfl, ⟨ob, h5, _⟩, q2⟩ := q
        obtain ⟨kv, r2, rfl, q3, q4⟩ := q2.cons_inv
        obtain ⟨vv, r3, rfl, q5, q6⟩ := q4.cons_inv
        rw [q6.nil_inv] at h5
        obtain ⟨b, kk, rfl, g1, g2, g3⟩ := key_of q3 ho.1
        refine ⟨a :: as, (.tup kk, b, vv) :: krs, by rw [h1]; rfl, ⟨⟨ob, h5⟩, h2⟩, fun k hk => ?_, ⟨kk, g1, g2, rfl, q3, q5⟩, h4⟩
        rcases List.mem_cons.mp hk with rfl | hk
        · exact g3
        · exact h3 k hk
      · cases h
    · cases h
theorem RowsK.mono {H : Hp} (e : Le F H) : ∀ {as : List Addr} {ks : KR}, RowsK F as ks → RowsK H as ks
  | [], [], _ => True.intro
  | [], _ :: _, h => h.elim
  | _ :: _, [], h => h.elim
  | a :: as, k :: ks, h => ⟨let ⟨ob, h1⟩ := h.1; ⟨ob, e a _ h1⟩, RowsK.mono e h.2⟩
theorem DR.putAll {p : Addr} : ∀ (krs : KR) (ks vs : List D) (ps xs : NX) (acc : List D × List D), KMatch c F θ krs ks vs → PsOk krs ps → DR c F θ p xs acc.1 acc.2 → xs.length + ps.length ≤ 1000000 →
    DR c F θ p (storedAllH xs ps) (dputA acc ks vs).1 (dputA acc ks vs).2
  | [], [], [], [], xs, acc, _, _, dr, _ => dr
  | [], [], [], _ :: _, _, _, _, h, _, _ => h.elim
  | [], [], _ :: _, _, _, _, h, _, _, _ => h.elim
  | [], _ :: _, _, _, _, _, h, _, _, _ => by cases h
  | _ :: _, [], _, _, _, _, h, _, _, _ => by cases h
  | _ :: _, _ :: _, [], _, _, _, h, _, _, _ => by cases h
  | r :: krs, k :: ks, v :: vs, [], _, _, _, h, _, _ => h.elim
  | r :: krs, k :: ks, v :: vs, x :: ps, xs, acc, hm, hp, dr, hz => by
    obtain ⟨⟨kk, g1, g2, g3, g4, g5⟩, ht⟩ := hm
    obtain ⟨⟨e1, e2, e3⟩, hp2⟩ := hp
    rw [List.length_cons] at hz
    rw [← e2] at g4
    have d2 := dr.put (by omega) g1 g2 g4 e3 g5
    have e : storedAllH xs (x :: ps) = storedAllH (storedH xs (.tup kk) x.2.1 x.2.2) ps := by
      rw [← g3, ← e1]; rfl
    rw [e]
    refine DR.putAll krs ks vs ps _ (dputL acc.1 acc.2 k v) ht hp2 d2 ?_
    have := storedH_length xs (NestedKey.tup kk) x.2.1 x.2.2
    omega
theorem KMatch.len : ∀ {krs : KR} {ks vs : List D}, KMatch c F θ krs ks vs → krs.length = ks.length
  | [], [], [], _ => rfl
  | [], [], _ :: _, h => h.elim
  | [], _ :: _, _, h => by cases h
  | _ :: _, [], _, h => by cases h
  | _ :: _, _ :: _, [], h => by cases h
  | _ :: _, _ :: _, _ :: _, h => by rw [List.length_cons, List.length_cons, KMatch.len h.2]
end
def dDictP (e : Fn D) : Fn D := fun ρ s => (e ρ s).bind fun d s => match d with
  | .lst ds => (match unpair ds with
    | some (ks, vs) => if (ks.all keyOk && decide (ks.length < 1000000)) = true then .ok (.cell s.length) (s ++ [[.mdc (dputA ([], []) ks vs).1 (dputA ([], []) ks vs).2]]) else .bad
    | none => .bad)
  | _ => .bad
def hashOk (ks : List D) : Bool := match nksOf ks with
  | some ns => decide (ns.map h0).Nodup
  | none => false
def dDictC (e : Fn D) : Fn D := fun ρ s => (e ρ s).bind fun d s => match gd s d with
  | some (ks, vs) => if hashOk ks = true then .ok (.dct ks vs) s else .bad
  | none => .bad
section
variable {c : Cs} {E : XK}
theorem den_dictP {t : TE} {e : Fn D} (h : DenE c E t e) : DenE c E (tCB (rDictP c.K) (tCons t tNil)) (dDictP e) := by
  refine den_bind (r2 := rV c) (K := fun σ x H1 Q => rDictP c.K [x] H1 Q) h fun H0 σ ρ s F θ H Hi x a Q he hw q hp => ?_
  have q : R c F θ x a := q
  cases a with
  | lst ds =>
    obtain ⟨p, xs, rfl, hk, r⟩ := r_lst_inv (c := c) (F := F) (θ := θ) q
    dsimp only at hp
    split at hp
    · rename_i ks vs hz
      split at hp
      · rename_i ho
        rw [Bool.and_eq_true] at ho
        have hl := of_decide_eq_true ho.2
        obtain ⟨as, krs, rfl, h2, h3, h4⟩ := krs_of ds xs ks vs r hz ho.1
        have lk := h4.len
        refine ⟨F, p, as, krs, rfl, SqL.of (hw.sub _ _ hk), h2.mono hw.sub, h3, hw.sub, by omega, fun ps hps l ep hn hs => ?_⟩
        have fr := hw.free hn
        have dr : DR c F θ l (storedAllH [] ps) _ _ := DR.putAll (p := l) krs ks vs ps [] ([], []) h4 hps (dr_nil hs) (by rw [hps.len, List.length_nil]; omega)
        have dr2 : DR c F (θ ++ [l]) l (storedAllH [] ps) (dputA ([], []) ks vs).1 (dputA ([], []) ks vs).2 := by
          obtain ⟨us, u1, u2⟩ := dr.rv
          exact ⟨dr.xf, dr.nk, RA.mono (Le.refl F) ⟨[l], rfl⟩ _ dr.rk, us, u1, RA.mono (Le.refl F) ⟨[l], rfl⟩ _ u2⟩
        refine hp _ F (θ ++ [l]) _ (Ext.cellNew (Ext.newH hn) hn) ((hw.newH hn).cellNewG upd_same dr2.cel fr.1 fr.2) ?_
        show R c F (θ ++ [l]) (.ref l) (.cell s.length)
        unfold R
        exact ⟨l, rfl, by rw [← hw.len, List.getElem?_append_right (Nat.le_refl _)]; simp⟩
      · exact hp.elim
    · exact hp.elim
  | _ => exact hp.elim
theorem den_dictC {t : TE} {e : Fn D} (h : DenE c E t e) : DenE c E (tCB rDictC (tCons t tNil)) (dDictC e) := by
  refine den_bind (r2 := rV c) (K := fun σ x H1 Q => rDictC [x] H1 Q) h fun H0 σ ρ s F θ H Hi x a Q he hw q hp => ?_
  cases g : gd s a with
  | none => rw [g] at hp; exact hp.elim
  | some pr =>
    obtain ⟨ks, vs⟩ := pr
    rw [g] at hp
    dsimp only at hp
    split at hp
    · rename_i hok
      obtain ⟨d, xs, ep, rfl, ha, dr⟩ := gd_of hw q g
      obtain ⟨us, u1, u2⟩ := dr.rv
      have hn : (xs.map fun x => h0 x.1).Nodup := by
        unfold hashOk at hok
        rw [dr.nk] at hok
        have := of_decide_eq_true hok
        rw [List.map_map] at this
        exact this
      refine ⟨F, d, xs, ep, rfl, dr.ok hw.sub ha, fun x hx => (dr.xf.dp x hx).2, hn, fun l ep' hl hs => ?_⟩
      have fl := hw.free hl
      refine hp _ _ θ _ (Ext.new hl fl.1 fl.2) (hw.new hl) ?_
      show R c _ θ (.ref l) (.dct ks vs)
      have le := Le.new (o := .ext (DX l xs ep')) fl.1
      unfold R
      exact ⟨l, xs, ep', us, rfl, upd_same, ⟨hs, dr.xf.nd, dr.xf.sz, dr.xf.dp⟩, dr.nk, RA.mono le (Pre.refl θ) ks dr.rk, u1, RA.mono le (Pre.refl θ) vs u2⟩
    · exact hp.elim
end
end MX


set_option Elab.async false
set_option linter.all false
set_option maxRecDepth 100000
namespace MX
open PySem PySem.Spec PyProof.Rows L2
/-! ### min(a list of tuples) -/
mutual
theorem p_inj : ∀ (d e : D) (a b : NestedKey), nkOf d = some a → nkOf e = some b → toP0 d = toP0 e → d = e
  | .int i, .int j, _, _, _, _, h => by unfold toP0 at h; cases h; rfl
  | .non, .non, _, _, _, _, _ => rfl
  | .tup xs, .tup ys, a, b, h, k, z => by
    obtain ⟨as, h1, rfl⟩ := nk_tup h
    obtain ⟨bs, k1, rfl⟩ := nk_tup k
    have e : toPs xs = toPs ys := by
      unfold toP0 at z
      cases u : toPs xs with
      | none => rw [u] at z; cases v : toPs ys with
        | none => rfl
        | some q => rw [v] at z; cases z
      | some p => rw [u] at z; cases v : toPs ys with
        | none => rw [v] at z; cases z
        | some q => rw [v] at z; cases z; rfl
    rw [ps_inj xs ys as bs h1 k1 e]
  | .int i, .non, _, _, _, _, h => by unfold toP0 at h; cases h
  | .int i, .tup ys, _, _, _, _, h => by unfold toP0 at h; split at h <;> cases h
  | .non, .int j, _, _, _, _, h => by unfold toP0 at h; cases h
  | .non, .tup ys, _, _, _, _, h => by unfold toP0 at h; split at h <;> cases h
  | .tup xs, .int j, _, _, _, _, h => by unfold toP0 at h; split at h <;> cases h
  | .tup xs, .non, _, _, _, _, h => by unfold toP0 at h; split at h <;> cases h
  | .bl _, _, a, b, h, _, _ => by unfold nkOf at h; cases h
  | .str _, _, a, b, h, _, _ => by unfold nkOf at h; cases h
  | .lst _, _, a, b, h, _, _ => by unfold nkOf at h; cases h
  | .ro _, _, a, b, h, _, _ => by unfold nkOf at h; cases h
  | .cell _, _, a, b, h, _, _ => by unfold nkOf at h; cases h
  | .obj _ _, _, a, b, h, _, _ => by unfold nkOf at h; cases h
  | .ty _, _, a, b, h, _, _ => by unfold nkOf at h; cases h
  | .cls _, _, a, b, h, _, _ => by unfold nkOf at h; cases h
  | .dct _ _, _, a, b, h, _, _ => by unfold nkOf at h; cases h
  | .mdc _ _, _, a, b, h, _, _ => by unfold nkOf at h; cases h
  | .mse _, _, a, b, h, _, _ => by unfold nkOf at h; cases h
  | _, .bl _, a, b, _, h, _ => by unfold nkOf at h; cases h
  | _, .str _, a, b, _, h, _ => by unfold nkOf at h; cases h
  | _, .lst _, a, b, _, h, _ => by unfold nkOf at h; cases h
  | _, .ro _, a, b, _, h, _ => by unfold nkOf at h; cases h
  | _, .cell _, a, b, _, h, _ => by unfold nkOf at h; cases h
  | _, .obj _ _, a, b, _, h, _ => by unfold nkOf at h; cases h
  | _, .ty _, a, b, _, h, _ => by unfold nkOf at h; cases h
  | _, .cls _, a, b, _, h, _ => by unfold nkOf at h; cases h
  | _, .dct _ _, a, b, _, h, _ => by unfold nkOf at h; cases h
  | _, .mdc _ _, a, b, _, h, _ => by unfold nkOf at h; cases h
  | _, .mse _, a, b, _, h, _ => by unfold nkOf at h; cases h
theorem ps_inj : ∀ (ds es : List D) (as bs : List NestedKey), nksOf ds = some as → nksOf es = some bs → toPs ds = toPs es → ds = es
  | [], [], _, _, _, _, _ => rfl
  | d :: ds, e :: es, as, bs, h, k, z => by
    obtain ⟨a, as', h1, h2, rfl⟩ := nks_cons h
    obtain ⟨b, bs', k1, k2, rfl⟩ := nks_cons k
    have key : toP0 d = toP0 e ∧ toPs ds = toPs es := by
      obtain ⟨p, hp⟩ := nk_p0 d a h1
      obtain ⟨q, hq⟩ := nk_p0 e b k1
      obtain ⟨ps, hps⟩ := nks_p0 ds as' h2
      obtain ⟨qs, hqs⟩ := nks_p0 es bs' k2
      unfold toPs at z
      rw [hp, hq, hps, hqs] at z
      cases z
      exact ⟨by rw [hp, hq], by rw [hps, hqs]⟩
    rw [p_inj d e a b h1 k1 key.1, ps_inj ds es as' bs' h2 k2 key.2]
  | [], e :: es, as, bs, h, k, z => by
    obtain ⟨b, bs', k1, k2, rfl⟩ := nks_cons k
    obtain ⟨q, hq⟩ := nk_p0 e b k1
    obtain ⟨qs, hqs⟩ := nks_p0 es bs' k2
    unfold toPs at z
    rw [hq, hqs] at z
    cases z
  | d :: ds, [], as, bs, h, k, z => by
    obtain ⟨b, bs', k1, k2, rfl⟩ := nks_cons h
    obtain ⟨q, hq⟩ := nk_p0 d b k1
    obtain ⟨qs, hqs⟩ := nks_p0 ds bs' k2
    unfold toPs at z
    rw [hq, hqs] at z
    cases z
theorem nk_p0 : ∀ (d : D) (a : NestedKey), nkOf d = some a → ∃ p, toP0 d = some p
  | .int i, _, _ => ⟨_, by unfold toP0; rfl⟩
  | .non, _, _ => ⟨_, by unfold toP0; rfl⟩
  | .tup ds, a, h => by
    obtain ⟨as, h1, rfl⟩ := nk_tup h
    obtain ⟨ps, hp⟩ := nks_p0 ds as h1
    exact ⟨_, by unfold toP0; rw [hp]⟩
  | .bl _, a, h => by unfold nkOf at h; cases h
  | .str _, a, h => by unfold nkOf at h; cases h
  | .lst _, a, h => by unfold nkOf at h; cases h
  | .ro _, a, h => by unfold nkOf at h; cases h
  | .cell _, a, h => by unfold nkOf at h; cases h
  | .obj _ _, a, h => by unfold nkOf at h; cases h
  | .ty _, a, h => by unfold nkOf at h; cases h
  | .cls _, a, h => by unfold nkOf at h; cases h
  | .dct _ _, a, h => by unfold nkOf at h; cases h
  | .mdc _ _, a, h => by unfold nkOf at h; cases h
  | .mse _, a, h => by unfold nkOf at h; cases h
theorem nks_p0 : ∀ (ds : List D) (as : List NestedKey), nksOf ds = some as → ∃ ps, toPs ds = some ps
  | [], _, _ => ⟨[], by unfold toPs; rfl⟩
  | d :: ds, as, h => by
    obtain ⟨a, as', h1, h2, rfl⟩ := nks_cons h
    obtain ⟨p, hp⟩ := nk_p0 d a h1
    obtain ⟨ps, hps⟩ := nks_p0 ds as' h2
    exact ⟨p :: ps, by unfold toPs; rw [hp, hps]⟩
end
end MX


set_option Elab.async false
set_option linter.all false
set_option maxRecDepth 100000
namespace MX
open PySem PySem.Spec PyProof.Rows L2
def rMinD (K : PySem.W.Frag) : List V → Hp → VK → Prop := fun vs H Q => ∃ a xs p ps, vs = [V.ref a] ∧ SqL K H a xs ∧ DpAll K H xs (p :: ps) ∧ PySem.W.AlikeAll (p :: ps) ∧ (∀ q, q ∈ p :: ps → q.depth ≤ 60) ∧ ∀ (i : Nat) (x : V), xs[i]? = some x → (p :: ps)[i]? = some (PySem.W.minD p ps) → Q x H
theorem depth_all : ∀ {ps : List PyData}, (∀ q, q ∈ ps → q.depth ≤ 60) → PyData.depthAll ps ≤ 60
  | [], _ => by decide
  | p :: ps, h => Nat.max_le.mpr ⟨h p List.mem_cons_self, depth_all fun q m => h q (List.mem_cons_of_mem _ m)⟩
theorem reads_ix {h : Heap} : ∀ {us : List Value} {ps : List PyData} {as : List Addr} {i : Nat} {u : Value}, ReadsAll h us ps as → us[i]? = some u → ∃ q bs, ps[i]? = some q ∧ Reads h u q bs
  | _, _, _, i, u, .nil, e => by simp at e
  | _, _, _, 0, u, .cons r _, e => by
    have e := Option.some.inj e
    subst e
    exact ⟨_, _, rfl, r⟩
  | _, _, _, i + 1, u, .cons _ rs, e => by
    obtain ⟨q, bs, h1, h2⟩ := reads_ix (i := i) rs e
    exact ⟨q, bs, h1, h2⟩
theorem cr_minD {X : Cx} (hu : X.A.units + 64 < cLine) (hc : X.calm = true) : CallR X (.builtin "min") (rMinD X.K) := by
  intro pins s σ H vs us Q I r h
  obtain ⟨a, xs, p, ps, rfl, hs, hd, hal, hdep, q⟩ := h
  obtain rfl := Vals.ref1 r
  obtain ⟨its, rv, pl, hz⟩ := I.list hs
  obtain ⟨as, ra⟩ := Dp.readsAll I _ _ _ hd rv
  have dz := depth_all hdep
  refine PySem.W.min_list_data (vs := its.toArray) (x := p) (xs := ps) (as := as) (I.ok.hd hc) pl.isList (by simpa using ra) hal (by omega) fun i v h1 tk bs e1 e2 k => ?_
  have e1' : its[i]? = some v := by simpa using e1
  obtain ⟨pd, bs', f1, f2⟩ := reads_ix ra e1'
  have f3 := (Reads.unique (PyProof.Rows.Reads.keeps k f2) _ _ e2).1
  subst f3
  have hi : i < xs.length := by have := rv.length; have := get_lt e1'; omega
  obtain ⟨v', g1, g2⟩ := rv.get (List.getElem?_eq_getElem hi)
  rw [e1'] at g1
  cases g1
  exact ⟨_, H, I.kept (t' := tk) k, g2, q i _ (List.getElem?_eq_getElem hi) f1⟩
/-- the first of the least, with its place among the D -/
def minGo (d : D) (p : PyData) : List D → List PyData → D × PyData
  | e :: ds, q :: ps => if PySem.W.dataLt q p = true then minGo e q ds ps else minGo d p ds ps
  | _, _ => (d, p)
def fMinT : FC := f1 fun s d => match listD s d with
  | some (d :: ds) => (match toPs (d :: ds) with
    | some (p :: ps) => if (sortOk (p :: ps) && (nksOf (d :: ds)).isSome) = true then some (minGo d p ds ps).1 else none
    | _ => none)
  | _ => none
theorem minGo_snd : ∀ (ds : List D) (ps : List PyData) (d : D) (p : PyData), ds.length = ps.length → (minGo d p ds ps).2 = PySem.W.minD p ps
  | [], [], d, p, _ => rfl
  | [], _ :: _, _, _, h => by cases h
  | _ :: _, [], _, _, h => by cases h
  | e :: ds, q :: ps, d, p, h => by
    unfold minGo PySem.W.minD
    rw [List.foldl_cons]
    have h := by simpa using h
    split
    · exact minGo_snd ds ps e q h
    · exact minGo_snd ds ps d p h
theorem minGo_at : ∀ (ds : List D) (ps : List PyData) (d : D) (p : PyData), toP0 d = some p → toPs ds = some ps → toP0 (minGo d p ds ps).1 = some (minGo d p ds ps).2 ∧ ((minGo d p ds ps).1 = d ∨ (minGo d p ds ps).1 ∈ ds)
  | [], ps, d, p, h, k => by
    unfold toPs at k
    cases k
    exact ⟨h, .inl rfl⟩
  | e :: ds, ps, d, p, h, k => by
    unfold toPs at k
    cases z : toP0 e with
    | none => rw [z] at k; cases k
    | some q =>
      rw [z] at k
      cases z2 : toPs ds with
      | none => rw [z2] at k; cases k
      | some ps' =>
        rw [z2] at k
        cases k
        unfold minGo
        split
        · obtain ⟨i1, i2⟩ := minGo_at ds ps' e q z z2
          exact ⟨i1, .inr (List.mem_cons.mpr i2)⟩
        · obtain ⟨i1, i2⟩ := minGo_at ds ps' d p h z2
          exact ⟨i1, i2.imp_right (List.mem_cons_of_mem _)⟩
theorem toPs_ix : ∀ {ds : List D} {ps : List PyData} {i : Nat} {p : PyData}, toPs ds = some ps → ps[i]? = some p → ∃ d, ds[i]? = some d ∧ toP0 d = some p
  | [], ps, i, p, h, e => by unfold toPs at h; cases h; simp at e
  | d :: ds, ps, i, p, h, e => by
    unfold toPs at h
    cases z : toP0 d with
    | none => rw [z] at h; cases h
    | some q =>
      rw [z] at h
      cases z2 : toPs ds with
      | none => rw [z2] at h; cases h
      | some ps' =>
        rw [z2] at h
        cases h
        cases i with
        | zero => cases e; exact ⟨d, rfl, z⟩
        | succ i => exact toPs_ix (i := i) z2 e
theorem nk_mem : ∀ {ds : List D} {as : List NestedKey} {d : D}, nksOf ds = some as → d ∈ ds → ∃ a, nkOf d = some a
  | [], _, _, _, m => by cases m
  | e :: ds, as, d, h, m => by
    obtain ⟨a, as', h1, h2, rfl⟩ := nks_cons h
    rcases List.mem_cons.mp m with rfl | m
    · exact ⟨a, h1⟩
    · exact nk_mem h2 m
theorem cd_minT {c : Cs} : CallD c (rMinD c.K) fMinT := cd_f1 fun s F θ H x a w hx Q d e h => by
  split at e
  · rename_i d0 ds z
    split at e
    · rename_i p ps z2
      split at e
      · rename_i hok
        cases e
        rw [Bool.and_eq_true] at hok
        obtain ⟨as, ha⟩ := Option.isSome_iff_exists.mp hok.2
        obtain ⟨s1, s2, s3⟩ := sortOk_of hok.1
        obtain ⟨l, xs, rfl, hs, r⟩ := list_of w hx z
        have hd := dps w.sub _ _ _ r z2
        have hp : toP0 d0 = some p ∧ toPs ds = some ps := by
          unfold toPs at z2
          cases u : toP0 d0 with
          | none => rw [u] at z2; cases z2
          | some q =>
            rw [u] at z2
            cases u2 : toPs ds with
            | none => rw [u2] at z2; cases z2
            | some qs => rw [u2] at z2; cases z2; exact ⟨rfl, rfl⟩
        refine ⟨l, xs, p, ps, rfl, hs, hd, ⟨s1, fun q hq e => ?_⟩, s3, fun i y hy hpi => ?_⟩
        · rcases s2 with s2 | s2
          · obtain ⟨_, _, e2⟩ := s2 q hq
            rw [e] at e2; cases e2
          · exact (s2 q hq).1 e
        · obtain ⟨di, hdi, hpd⟩ := toPs_ix z2 hpi
          obtain ⟨m1, m2⟩ := minGo_at ds ps d0 p hp.1 hp.2
          rw [minGo_snd ds ps d0 p (toPs_len hp.2)] at m1
          have mm : (minGo d0 p ds ps).1 ∈ d0 :: ds := List.mem_cons.mpr m2
          obtain ⟨a1, k1⟩ := nk_mem ha mm
          obtain ⟨a2, k2⟩ := nk_mem ha (List.mem_of_getElem? hdi)
          have ee := p_inj _ _ _ _ k1 k2 (m1.trans hpd.symm)
          rw [ee] at h
          exact give w (r.get hy hdi) h
      · cases e
    · cases e
  · cases e
end MX


set_option Elab.async false
set_option linter.all false
namespace MX
open PySem PySem.Spec PyProof.Rows L2
theorem mbt_dict : bootBuiltins "dict" = some (.type "dict") := by decide +kernel
end MX


set_option Elab.async false
set_option linter.all false
set_option maxRecDepth 100000
namespace MX
open PySem PySem.Spec PyProof.Rows L2
/-! ### a comprehension over a list that stands in a cell, read item by item -/
/-- J yields what stands in cell i, as it stands -/
def IterC (c : Cs) (J : It) (i : Nat) (F : Hp) (θ : List Addr) : Prop := ∀ (s2 : Sto) (F2 : Hp) (θ2 : List Addr) (H2 : Hp), Pre θ θ2 → WOk c s2 F2 θ2 H2 → ∀ ds, gl s2 i = some ds →
  (∀ (k : Nat) (d : D), ds[k]? = some d → J.go k H2 ∧ ∀ x H3, J.yld k H2 x H3 → H3 = H2 ∧ R c F2 θ2 x d) ∧ ∀ k, ds.length ≤ k → J.stop k H2
def rIC (c : Cs) : Rel c It Nat := ⟨fun _ F θ _ J i => IterC c J i F θ, fun _ _ _ _ _ _ _ _ h => h⟩
def wCell (e : Fn D) : Fn Nat := fun ρ s => (e ρ s).bind fun d s => match d with
  | .cell i => match gl s i with
    | some _ => .ok i s
    | none => .bad
  | _ => .bad
def compC (p : Pt) (t : Fn Bool) (e : Fn D) (ρ : List Sl) (i : Nat) : Nat → Nat → Sto → Res (List D)
  | 0, _, _ => .bad
  | f + 1, k, s => match gl s i with
    | some ds => match ds[k]? with
      | some d => match setP p ρ d with
        | some ρ1 => (noX (t ρ1 s)).bind fun b s => if b = true then (noX (e ρ1 s)).bind fun y s => (compC p t e ρ i f (k + 1) s).bind fun r s => .ok (y :: r) s else compC p t e ρ i f (k + 1) s
        | none => .bad
      | none => .ok [] s
    | none => .bad
def dCompC (w : Fn Nat) (p : Pt) (t : Fn Bool) (e : Fn D) (vs : List Nat) : Fn (List D) := fun ρ s => (w ρ s).bind fun i s => compC p t e (wipeR ρ vs) i 1001 0 s
section
variable {c : Cs} {E : XK}
theorem src_cell {te : TE} {e : Fn D} (h : DenE c E te e) : Den c E (rIC c) (iSeq c.K te) (wCell e) := by
  refine den_bind (r2 := rIC c) (K := fun σ x H1 Q => (∃ a, x = V.ref a ∧ (∃ xs, SqL c.K H1 a xs) ∧ Q (Itl c.K a) H1) ∨ ∃ a, x = V.ref a ∧ (∃ xs, SqT c.K H1 a xs) ∧ Q (Itt c.K a) H1) h fun H0 σ ρ s F θ H Hi x a Q he hw q hp => ?_
  have q : R c F θ x a := q
  cases a with
  | cell i =>
    dsimp only at hp
    cases g : gl s i with
    | none => rw [g] at hp; exact hp.elim
    | some ds =>
      rw [g] at hp
      obtain ⟨a, rfl, ha⟩ := r_cell_inv (c := c) (F := F) (θ := θ) q
      obtain ⟨e1, el⟩ := gl_of g
      obtain ⟨o, h1, q0⟩ := hw.cel i a ds ha e1
      obtain ⟨xs, rfl, r⟩ := q0.lst el
      refine .inl ⟨a, rfl, ⟨xs, .inl (.inl h1)⟩, hp _ F θ H (Ext.refl _ _ _) hw ?_⟩
      show IterC c (Itl c.K a) i F θ
      intro s2 F2 θ2 H2 pr w2 es g2
      obtain ⟨e2, el2⟩ := gl_of g2
      obtain ⟨o2, h2, q2⟩ := w2.cel i a es (pr.get ha) e2
      obtain ⟨ys, rfl, r2⟩ := q2.lst el2
      have hq : SqL c.K H2 a ys := .inl (.inl h2)
      refine ⟨fun k d hd => ?_, fun k hk => ⟨ys, hq, by rw [r2.length]; exact hk⟩⟩
      obtain ⟨v, hv, hr⟩ := r2.get' hd
      exact ⟨⟨ys, v, hq, hv⟩, fun y H3 ⟨e, kk⟩ => ⟨e, by
        have := kk ys hq
        rw [hv] at this
        cases this
        exact hr⟩⟩
  | _ => exact hp.elim
theorem den_compC {wi : TI} {w : Fn Nat} {p : Pt} {tt : TT} {t : Fn Bool} {te : TE} {e : Fn MX.D} {vs : List Nat} (hs : Den c E (rIC c) wi w) (ht : DenT c EX0 tt t) (he : DenE c EX0 te e) (hv : p.slots.all fun i => vs.contains i) :
    DenF c E (tLc wi (gP c.K p) tt te vs) (dCompC w p t e vs) := by
  refine den_bind (r2 := rF c) (K := fun σ J H1 Q => ∀ D, H1 D = none → ∃ W : Nat → Nat → Hp → Prop, (∃ m, W 0 m (upd H1 D (.lst []))) ∧ ∀ i m H, W i m H →
    (J.stop i H ∧ Q (V.ref D) H) ∨ (J.go i H ∧ ∃ Nx : Hp → Prop, (∀ H', Nx H' → ∃ m', m' < m ∧ W (i + 1) m' H') ∧ ∀ x H', J.yld i H x H' → gP c.K p x (L2.wipe σ vs) H' fun σ2 H2 => L2.wipe σ2 vs = L2.wipe σ vs ∧ tt σ2 H2 fun b H3 =>
      if b = true then te σ2 H3 fun y H4 => ∃ acc, H4 D = some (.lst acc) ∧ acc.length < sizeLine ∧ Nx (upd H4 D (.lst (acc ++ [y]))) else Nx H3)) hs fun H0 σ ρ s F θ H Hi J ci Q hE hw hit hp => ?_
  intro Da hn
  have hit : IterC c J ci F θ := hit
  have hslots : ∀ i ∈ p.slots, i ∈ vs := fun i hi => by
    have := List.all_eq_true.mp hv i hi
    simpa using this
  have upOwn : ∀ {F1 : Hp} {θ1 : List Addr} {s1 : Sto} {H1 : Hp} {o : HO}, Ext F θ H F1 θ1 H1 → WOk c s1 F1 θ1 H1 → F1 Da = none → Da ∉ θ1 → H1 Da ≠ none → Ext F θ H F1 θ1 (upd H1 Da o) ∧ WOk c s1 F1 θ1 (upd H1 Da o) := by
    intro F1 θ1 s1 H1 o x w1 nF nt nH
    refine ⟨⟨x.fr, x.th, fun a u h n => ?_, x.nc, x.nf, fun a n => ?_⟩, ⟨w1.sub.updR nF, fun a m => ?_, w1.nd, w1.len, fun i a es h1 h2 => ?_⟩⟩
    · rw [upd_ne (ne_of_none h hn)]; exact x.kp a u h n
    · by_cases q : a = Da
      · subst q; rw [upd_same]; simp
      · rw [upd_ne q]; exact x.al a n
    · have q : a ≠ Da := fun z => nt (z ▸ m)
      rw [upd_ne q]; exact w1.fc a m
    · obtain ⟨xs, h3, h4⟩ := w1.cel i a es h1 h2
      have q : a ≠ Da := fun z => nt (z ▸ List.mem_of_getElem? h1)
      exact ⟨xs, by rw [upd_ne q]; exact h3, h4⟩
  let W : Nat → Nat → Hp → Prop := fun k m H1 => ∃ (F1 : Hp) (θ1 : List Addr) (s1 : Sto) (acc : List V) (ad : List MX.D), Ext F θ H F1 θ1 H1 ∧ WOk c s1 F1 θ1 H1 ∧ F1 Da = none ∧ Da ∉ θ1 ∧ H1 Da = some (.lst acc) ∧ RA c F1 θ1 acc ad ∧ acc.length ≤ k ∧ k + m ≤ 1001 ∧
    Post c E (rF c) ((compC p t e (wipeR ρ vs) ci m k s1).bind fun r s => .ok (ad ++ r) s) F θ H Q
  refine ⟨W, ⟨1001, F, θ, s, [], [], Ext.newH hn, hw.newH hn, (hw.free hn).1, (hw.free hn).2, upd_same, RA.nil, by simp, by simp, ?_⟩, ?_⟩
  · cases z : compC p t e (wipeR ρ vs) ci 1001 0 s with
    | ok a s2 => rw [z] at hp; exact hp
    | exc k fs s2 => rw [z] at hp; exact hp
    | bad => rw [z] at hp; exact hp
  · rintro k m H1 ⟨F1, θ1, s1, acc, ad, x1, w1, nF, nt, hD, ra, hal, hil, hp1⟩
    cases m with
    | zero => unfold compC at hp1; exact hp1.elim
    | succ m =>
      unfold compC at hp1
      cases g : gl s1 ci with
      | none => rw [g] at hp1; exact hp1.elim
      | some ds =>
        rw [g] at hp1
        dsimp only at hp1
        obtain ⟨hgo, hstop⟩ := hit s1 F1 θ1 H1 x1.th w1 ds g
        cases hd : ds[k]? with
        | none =>
          rw [hd] at hp1
          have hk : ds.length ≤ k := by
            rcases Nat.lt_or_ge k ds.length with q | q
            · rw [List.getElem?_eq_getElem q] at hd; cases hd
            · exact q
          refine .inl ⟨hstop k hk, ?_⟩
          have hp2 : Post c E (rF c) (.ok (ad ++ []) s1) F θ H Q := hp1
          rw [List.append_nil] at hp2
          exact hp2 (V.ref Da) F1 θ1 H1 x1 w1 ⟨Da, acc, rfl, hn, nF, nt, hD, ra⟩
        | some d =>
          rw [hd] at hp1
          dsimp only at hp1
          obtain ⟨g1, g2⟩ := hgo k d hd
          refine .inr ⟨g1, fun H' => W (k + 1) m H', fun H' h' => ⟨m, by omega, h'⟩, fun x H' y => ?_⟩
          obtain ⟨rfl, rx⟩ := g2 x H' y
          cases z : setP p (wipeR ρ vs) d with
          | none => rw [z] at hp1; exact hp1.elim
          | some ρ1 =>
            rw [z] at hp1
            dsimp only at hp1
            have hE1 := EnvOk.wipe (hE.ext x1) vs
            refine gP_ok w1 p _ _ ρ1 x d _ hE1 rx z fun σ2 hE2 hb => ⟨?_, ?_⟩
            · rw [hb vs hslots]
              apply List.ext_getElem?
              intro j
              rw [wipe_get, wipe_length]
              by_cases q : j ∈ vs
              · simp [q, wipe_get]
              · simp [q]
            · refine ht H0 σ2 ρ1 s1 F1 θ1 H' _ hE2 w1 ?_
              cases zt : t ρ1 s1 with
              | bad => rw [zt] at hp1; exact hp1.elim
              | exc k fs s2 => rw [zt] at hp1; exact hp1.elim
              | ok kb s2 =>
                rw [zt] at hp1
                intro b F3 θ3 H3 x3 w3 hbk
                have hbk : b = kb := hbk
                subst hbk
                have nH1 : H' Da ≠ none := by rw [hD]; simp
                have nF3 : F3 Da = none := x3.nf Da nF nH1
                have nt3 : Da ∉ θ3 := fun mm => nH1 (x3.nc Da mm nt)
                have hD3 : H3 Da = some (.lst acc) := x3.kp Da _ hD nt
                cases b with
                | false => exact ⟨F3, θ3, s2, acc, ad, x1.trans x3, w3, nF3, nt3, hD3, RA.mono x3.fr x3.th ad ra, by omega, by omega, hp1⟩
                | true =>
                  show te σ2 H3 _
                  refine he H0 σ2 ρ1 s2 F3 θ3 H3 _ (hE2.ext x3) w3 ?_
                  have hp2 : Post c E (rF c) (((noX (e ρ1 s2)).bind fun y s => (compC p t e (wipeR ρ vs) ci m (k + 1) s).bind fun r s => .ok (y :: r) s).bind fun r s => .ok (ad ++ r) s) F θ H Q := hp1
                  cases ze : e ρ1 s2 with
                  | bad => rw [ze] at hp2; exact hp2.elim
                  | exc k fs s3 => rw [ze] at hp2; exact hp2.elim
                  | ok yd s3 =>
                    rw [ze] at hp2
                    intro yv F4 θ4 H4 x4 w4 ry
                    have nH3 : H3 Da ≠ none := by rw [hD3]; simp
                    have nF4 : F4 Da = none := x4.nf Da nF3 nH3
                    have nt4 : Da ∉ θ4 := fun mm => nH3 (x4.nc Da mm nt3)
                    have hD4 : H4 Da = some (.lst acc) := x4.kp Da _ hD3 nt3
                    have hsl : (1000000 : Nat) < sizeLine := by decide
                    refine ⟨acc, hD4, by omega, ?_⟩
                    obtain ⟨xu, wu⟩ := upOwn (o := .lst (acc ++ [yv])) ((x1.trans x3).trans x4) w4 nF4 nt4 (by rw [hD4]; simp)
                    refine ⟨F4, θ4, s3, acc ++ [yv], ad ++ [yd], xu, wu, nF4, nt4, upd_same, (RA.mono (x3.trans x4).fr (x3.trans x4).th ad ra).append (RA.cons ry RA.nil), by rw [List.length_append]; simp; omega, by omega, ?_⟩
                    have hp3 : Post c E (rF c) (((compC p t e (wipeR ρ vs) ci m (k + 1) s3).bind fun r s => .ok (yd :: r) s).bind fun r s => .ok (ad ++ r) s) F θ H Q := hp2
                    cases zr : compC p t e (wipeR ρ vs) ci m (k + 1) s3 with
                    | bad => rw [zr] at hp3; exact hp3
                    | exc k fs s4 => rw [zr] at hp3; exact hp3
                    | ok r s4 =>
                      rw [zr] at hp3
                      have e1 : ad ++ [yd] ++ r = ad ++ (yd :: r) := by simp
                      show Post c E (rF c) (.ok (ad ++ [yd] ++ r) s4) F θ H Q
                      rw [e1]
                      exact hp3
end
end MX


set_option Elab.async false
set_option linter.all false
set_option maxRecDepth 100000
namespace MX
open PySem PySem.Spec PyProof.Rows L2
/-! ### a loop over a list that stands in a cell, read item by item -/
def forC (p : Pt) (b : Sf) (i : Nat) : Nat → Nat → List Sl → Sto → Fl
  | 0, _, _, _ => .bad
  | f + 1, k, ρ, s => match gl s i with
    | some ds => match ds[k]? with
      | some d => match setP p ρ d with
        | some ρ1 => match b ρ1 s with
          | .next ρ2 s2 => forC p b i f (k + 1) ρ2 s2
          | .cont ρ2 s2 => forC p b i f (k + 1) ρ2 s2
          | .brk ρ2 s2 => .next ρ2 s2
          | o => o
        | none => .bad
      | none => .next ρ s
    | none => .bad
def sForC (w : Fn Nat) (p : Pt) (b : Sf) : Sf := sBind w fun ρ i s => forC p b i 1001 0 ρ s
section
variable {c : Cs} {E : XK}
theorem dn_forC {wi : TI} {w : Fn Nat} {p : Pt} {tb : TS} {b : Sf} (hs : Den c E (rIC c) wi w) (hb : DenS c E tb b) : DenS c E (tFor wi (gP c.K p) tb) (sForC w p b) := by
  refine dn_bind (K := fun Dn σ J H1 => ∃ W : Nat → Nat → L2.St → Hp → Prop, (∃ m, W 0 m σ H1) ∧ ∀ i m σ H, W i m σ H →
    (J.stop i H ∧ Dn.nx σ H) ∨ (J.go i H ∧ ∃ N : L2.St → Hp → Prop, (∀ σ' H', N σ' H' → ∃ m', m' < m ∧ W (i + 1) m' σ' H') ∧ ∀ x H', J.yld i H x H' → gP c.K p x σ H' fun σ2 H2 => tb { Dn with nx := N, ct := N, bk := Dn.nx } σ2 H2)) hs fun H0 F0 θ0 σ ρ s F θ H Hi J ci Dn s0 F1 θ1 x0 he0 x w hit hp => ?_
  have hit : IterC c J ci F θ := hit
  let W : Nat → Nat → L2.St → Hp → Prop := fun k m σ1 H1 => ∃ (F2 : Hp) (θ2 : List Addr) (s1 : Sto) (ρ1 : List Sl), Ext F0 θ0 H0 F2 θ2 H1 ∧ Le F F2 ∧ Pre θ θ2 ∧ WOk c s1 F2 θ2 H1 ∧ EnvOk c H0 F2 θ2 H1 σ1 ρ1 ∧ PostS c E (forC p b ci m k ρ1 s1) H0 F0 θ0 Dn
  refine ⟨W, ⟨1001, F, θ, s, ρ, x0.trans x, Le.refl F, Pre.refl θ, w, he0.ext x, hp⟩, ?_⟩
  rintro k m σ1 H1 ⟨F2, θ2, s1, ρ1, x1, l1, p1, w1, he1, hp1⟩
  cases m with
  | zero => unfold forC at hp1; exact hp1.elim
  | succ m =>
    unfold forC at hp1
    cases g : gl s1 ci with
    | none => rw [g] at hp1; exact hp1.elim
    | some ds =>
      rw [g] at hp1
      dsimp only at hp1
      obtain ⟨hgo, hstop⟩ := hit s1 F2 θ2 H1 p1 w1 ds g
      cases hd : ds[k]? with
      | none =>
        rw [hd] at hp1
        have hk : ds.length ≤ k := by
          rcases Nat.lt_or_ge k ds.length with q | q
          · rw [List.getElem?_eq_getElem q] at hd; cases hd
          · exact q
        exact .inl ⟨hstop k hk, hp1 σ1 F2 θ2 H1 x1 w1 he1⟩
      | some d =>
        rw [hd] at hp1
        dsimp only at hp1
        obtain ⟨g1, g2⟩ := hgo k d hd
        refine .inr ⟨g1, fun σ' H' => W (k + 1) m σ' H', fun σ' H' h' => ⟨m, by omega, h'⟩, fun y H' hy => ?_⟩
        obtain ⟨rfl, ry⟩ := g2 y H' hy
        cases z : setP p ρ1 d with
        | none => rw [z] at hp1; exact hp1.elim
        | some ρ2 =>
          rw [z] at hp1
          dsimp only at hp1
          refine gP_ok w1 p σ1 ρ1 ρ2 y d _ he1 ry z fun σ2 he2 _ => ?_
          refine hb H0 F2 θ2 σ2 ρ2 s1 F2 θ2 H' _ x1.rebase w1 he2 ?_
          cases zb : b ρ2 s1 with
          | next ρ3 s3 =>
            rw [zb] at hp1
            exact fun σ3 F3 θ3 H3 x3 w3 he3 => ⟨F3, θ3, s3, ρ3, x1.comp x3, l1.trans x3.fr, p1.trans x3.th, w3, he3, hp1⟩
          | cont ρ3 s3 =>
            rw [zb] at hp1
            exact fun σ3 F3 θ3 H3 x3 w3 he3 => ⟨F3, θ3, s3, ρ3, x1.comp x3, l1.trans x3.fr, p1.trans x3.th, w3, he3, hp1⟩
          | brk ρ3 s3 =>
            rw [zb] at hp1
            exact fun σ3 F3 θ3 H3 x3 w3 he3 => hp1 σ3 F3 θ3 H3 (x1.comp x3) w3 he3
          | ret d s3 =>
            rw [zb] at hp1
            exact fun v F3 θ3 H3 x3 w3 r3 => hp1 v F3 θ3 H3 (x1.comp x3) w3 r3
          | exc k fs s3 =>
            rw [zb] at hp1
            exact fun F3 θ3 H3 dx x3 w3 r3 => hp1 F3 θ3 H3 dx (x1.comp x3) w3 r3
          | bad => rw [zb] at hp1; exact hp1.elim
end
end MX


set_option Elab.async false
set_option linter.all false
set_option maxRecDepth 100000
namespace MX
open PySem PySem.Spec PyProof.Rows L2
/-! ### a is not True -/
def rNotB : R2 := fun x y H Q => ∃ p q : Bool, x = .bl p ∧ y = .bl q ∧ Q (.bl (!decide (p = q))) H
theorem op_isNotB {X : Cx} : OpR X (compareOp .IsNot) rNotB := by
  intro pins s σ H x y v u Q I rx ry h
  obtain ⟨m, n, rfl, rfl, q⟩ := h
  cases (show v = Value.bool m from rx)
  cases (show u = Value.bool n from ry)
  by_cases e : m = n
  · subst e
    exact wpAny_isNot_self rfl ⟨.bl false, H, I, rfl, by simpa using q⟩
  · exact wpAny_isNot_other rfl (fun z => e (Value.bool.inj z)) ⟨.bl true, H, I, rfl, by simpa [e] using q⟩
def fIsNotB : F2 := fun a b _ => match a, b with
  | .bl p, .bl q => some (.bl (!decide (p = q)))
  | _, _ => none
theorem od_isnotB {c : Cs} : OpD c rNotB fIsNotB := by
  intro s F θ H x y a b w hx hy Q d e h
  unfold fIsNotB at e
  split at e
  · rename_i p q
    cases e
    have h1 : x = .bl p := by unfold R at hx; exact hx
    have h2 : y = .bl q := by unfold R at hy; exact hy
    exact ⟨p, q, h1, h2, give w r_bl h⟩
  · cases e
end MX


set_option Elab.async false
set_option linter.all false
set_option maxRecDepth 100000
namespace MX
open PySem PySem.Spec PyProof.Rows L2
/-! ### sets of keys in cells -/
def gs (s : Sto) : D → Option (List D)
  | .cell i => match s[i]? with
    | some [.mse ks] => some ks
    | _ => none
  | _ => none
section
variable {c : Cs} {s : Sto} {F H : Hp} {θ : List Addr} {a : Addr} {L L' : KL} {ks : List D}
structure SR (c : Cs) (F : Hp) (θ : List Addr) (L' : KL) (ks : List D) : Prop where
  nk : nksOf ks = some (L'.map (·.2))
  rk : RA c F θ (L'.map fun p => V.ref p.1) ks
  nd : (L'.map (·.2)).Nodup
  dp : ∀ p ∈ L', p.2.depth ≤ 8 ∧ ∃ kk, p.2 = .tup kk
theorem SR.len (r : SR c F θ L' ks) : L'.length = ks.length := by
  have := r.rk.length
  rwa [List.length_map] at this
theorem SR.cel (r : SR c F θ L' ks) (p : L.Perm L') : CelR c F θ a (.ext (SX a L)) [.mse ks] := .inr (.inr ⟨ks, rfl, L, L', rfl, p, r.nk, r.rk, r.nd, r.dp⟩)
theorem SR.ok (r : SR c F θ L' ks) (p : L.Perm L') (sub : Le F H) (h : H a = some (.ext (SX a L))) : SOk F H a L := by
  refine ⟨h, (p.map (·.2)).nodup_iff.mpr r.nd, fun q hq => ?_, sub⟩
  have e1 : (L'.map fun p => (p.2, p.1, Value.none)).map (fun x : NestedKey × Addr × Value => x.1) = L'.map (·.2) := by rw [List.map_map]; rfl
  have e2 : (L'.map fun p => (p.2, p.1, Value.none)).map (fun x : NestedKey × Addr × Value => V.ref x.2.1) = L'.map fun p => V.ref p.1 := by rw [List.map_map]; rfl
  have g := ents_ok (c := c) (F := F) (θ := θ) (L'.map fun p => (p.2, p.1, Value.none)) ks (by rw [e1]; exact r.nk) (by rw [e2]; exact r.rk) (fun x hx => by
    obtain ⟨y, hy, rfl⟩ := List.mem_map.mp hx
    exact r.dp y hy)
  exact g (q.2, q.1, Value.none) (List.mem_map.mpr ⟨q, p.mem_iff.mp hq, rfl⟩)
theorem gs_of (w : WOk c s F θ H) {v : V} {d : D} (r : R c F θ v d) (g : gs s d = some ks) : ∃ i a L L', d = .cell i ∧ θ[i]? = some a ∧ v = .ref a ∧ H a = some (.ext (SX a L)) ∧ L.Perm L' ∧ SR c F θ L' ks := by
  cases d with
  | cell i =>
    obtain ⟨a, rfl, ha⟩ := r_cell_inv (c := c) (F := F) (θ := θ) r
    unfold gs at g
    dsimp only at g
    cases z : s[i]? with
    | none => rw [z] at g; cases g
    | some ds =>
      rw [z] at g
      obtain ⟨o, e1, q⟩ := w.cel i a ds ha z
      split at g
      · rename_i k2 e
        cases g
        cases e
        rcases q with ⟨ys, _, q⟩ | ⟨k3, v3, e, _⟩ | ⟨k3, e, L, L', f1, f2, f3, f4, f5, f6⟩
        · obtain ⟨v, r', _, q, _⟩ := q.cons_inv
          unfold R at q
          exact q.elim
        · cases e
        · cases e
          subst f1
          exact ⟨i, a, L, L', rfl, ha, rfl, e1, f2, f3, f4, f5, f6⟩
      · cases g
  | _ => cases g
/-- whether a key is among keys -/
def hasK (ks : List D) (k : D) : Bool := ks.any fun x => keq x k
theorem hasK_ok {k : D} {n : NestedKey} (hk : nkOf k = some n) : ∀ {ks : List D} {ns : List NestedKey}, nksOf ks = some ns → hasK ks k = decide (n ∈ ns)
  | [], ns, h => by
    unfold nksOf at h
    cases h
    simp [hasK]
  | x :: ks, ns, h => by
    obtain ⟨m, ms, h1, h2, rfl⟩ := nks_cons h
    have ih := hasK_ok hk (ks := ks) h2
    unfold hasK at ih ⊢
    rw [List.any_cons, ih, keq_ok x k m n h1 hk]
    by_cases e : m = n
    · subst e; simp
    · have : ¬ n = m := fun z => e z.symm
      simp [e, this]
def fKIn (neg : Bool) : F2 := fun a b s => match gs s b with
  | some ks => if keyOk a = true then some (.bl (if neg then !hasK ks a else hasK ks a)) else none
  | none => none
theorem od_kin {neg : Bool} : OpD c (rKIn neg) (fKIn neg) := by
  intro s F θ H x y a b w hx hy Q d e h
  unfold fKIn at e
  cases g : gs s b with
  | none => rw [g] at e; cases e
  | some ks =>
    rw [g] at e
    dsimp only at e
    split at e
    · rename_i ko
      cases e
      obtain ⟨i, a', L, L', rfl, hi, rfl, ha, pm, sr⟩ := gs_of w hy g
      obtain ⟨b', kk, rfl, hk, _, kb⟩ := key_of hx ko
      have eq : hasK ks a = decide (NestedKey.tup kk ∈ L.map (·.2)) := by
        rw [hasK_ok hk sr.nk]
        exact decide_eq_decide.mpr (pm.map (·.2)).mem_iff.symm
      refine ⟨F, a', L, b', _, rfl, rfl, sr.ok pm w.sub ha, kb, ?_⟩
      rw [← eq]
      exact give w r_bl h
    · cases e
def fLenK : FC := fun ds s => match ds with
  | [d] => match gs s d with
    | some ks => if ks.length ≤ 4000 then some (.int (ks.length : Nat)) else none
    | none => none
  | _ => none
theorem cd_lenK : CallD c rLenK fLenK := by
  intro s F θ H xs as w hx Q d e h
  unfold fLenK at e
  split at e
  · rename_i d0
    cases g : gs s d0 with
    | none => rw [g] at e; cases e
    | some ks =>
      rw [g] at e
      dsimp only at e
      split at e
      · rename_i few
        cases e
        obtain ⟨v, r, rfl, q, t⟩ := hx.cons_inv
        rw [t.nil_inv]
        obtain ⟨i, a, L, L', rfl, hi, rfl, ha, pm, sr⟩ := gs_of w q g
        have hl : L.length = ks.length := pm.length_eq.trans sr.len
        refine ⟨F, a, L, rfl, sr.ok pm w.sub ha, by omega, ?_⟩
        rw [hl]
        exact give w r_int h
      · cases e
  · cases e
end
section
variable {c : Cs} {E : XK}
/-- s.add(x) -/
def dKAdd (ed ek : Fn D) : Fn D := fun ρ s => (ed ρ s).bind fun d s => match gs s d with
  | some _ => (ek ρ s).bind fun k s => (match d, gs s d with
    | .cell i, some ks => if (keyOk k && decide (ks.length < 4000)) = true then .ok .non (s.set i [.mse (if hasK ks k = true then ks else ks ++ [k])]) else .bad
    | _, _ => .bad)
  | none => .bad
theorem nks_snoc {k : D} {n : NestedKey} (hk : nkOf k = some n) : ∀ {ks : List D} {ns : List NestedKey}, nksOf ks = some ns → nksOf (ks ++ [k]) = some (ns ++ [n])
  | [], ns, h => by
    unfold nksOf at h
    cases h
    show nksOf [k] = some [n]
    unfold nksOf
    rw [hk]; rfl
  | x :: ks, ns, h => by
    obtain ⟨m, ms, h1, h2, rfl⟩ := nks_cons h
    rw [List.cons_append]
    unfold nksOf
    rw [h1, nks_snoc hk h2]
    rfl
theorem SR.snoc {F : Hp} {θ : List Addr} {L' : KL} {ks : List D} {k : D} {b : Addr} {kk : List NestedKey} (r : SR c F θ L' ks) (hk : nkOf k = some (.tup kk)) (hd : (NestedKey.tup kk).depth ≤ 8) (rk : R c F θ (.ref b) k) (hn : NestedKey.tup kk ∉ L'.map (·.2)) : SR c F θ (L' ++ [(b, .tup kk)]) (ks ++ [k]) where
  nk := by rw [List.map_append]; exact nks_snoc hk r.nk
  rk := by rw [List.map_append]; exact r.rk.append (RA.cons rk RA.nil)
  nd := by
    rw [List.map_append]
    exact List.nodup_append.mpr ⟨r.nd, by simp, fun x hx y hy e => hn (by
      have ey : y = NestedKey.tup kk := List.mem_singleton.mp hy
      rw [← ey, ← e]; exact hx)⟩
  dp := fun p hp => by
    rcases List.mem_append.mp hp with hp | hp
    · exact r.dp p hp
    · rw [List.mem_singleton.mp hp]; exact ⟨hd, kk, rfl⟩
theorem SR.mono {F F' : Hp} {θ θ' : List Addr} {L' : KL} {ks : List D} (r : SR c F θ L' ks) (l : Le F F') (p : Pre θ θ') : SR c F' θ' L' ks := ⟨r.nk, RA.mono l p ks r.rk, r.nd, r.dp⟩
theorem den_kadd {td tk : TE} {ed ek : Fn D} (hd : DenE c E td ed) (hk : DenE c E tk ek) : DenE c E (tKAdd td tk) (dKAdd ed ek) := by
  refine den_bind (r2 := rV c) (K := fun σ x H1 Q => ∃ G a L, x = .ref a ∧ SOk G H1 a L ∧ tk σ H1 fun y H2 => ∃ G2 L2 b nk, SOk G2 H2 a L2 ∧ y = .ref b ∧ NKV G2 b nk ∧ L2.length + 1 ≤ 4000 ∧
    ∀ L', (nk ∈ L2.map (·.2) → L' = L2) → (nk ∉ L2.map (·.2) → L'.Perm ((b, nk) :: L2)) → Q .non (upd H2 a (.ext (SX a L')))) hd fun H0 σ ρ s F θ H Hi x d Q he hw q hp => ?_
  have q : R c F θ x d := q
  cases g0 : gs s d with
  | none => rw [g0] at hp; exact hp.elim
  | some k0 =>
    rw [g0] at hp
    dsimp only at hp
    obtain ⟨i, a, L, L', rfl, hia, rfl, ha, pm, sr⟩ := gs_of hw q g0
    refine ⟨F, a, L, rfl, sr.ok pm hw.sub ha, ?_⟩
    refine hk H0 σ ρ s F θ H _ he hw ?_
    cases z : ek ρ s with
    | bad => rw [z] at hp; exact hp
    | exc _ _ _ => rw [z] at hp; exact hp
    | ok k s1 =>
      rw [z] at hp
      intro y F1 θ1 H1 x1 w1 ry
      have ry : R c F1 θ1 y k := ry
      dsimp only [Res.bind] at hp
      cases g1 : gs s1 (.cell i) with
      | none => rw [g1] at hp; exact hp.elim
      | some ks =>
        rw [g1] at hp
        dsimp only at hp
        split at hp
        · rename_i cond
          rw [Bool.and_eq_true] at cond
          have few := of_decide_eq_true cond.2
          have hia1 := x1.th.get hia
          obtain ⟨i2, a2, L2, L2', e1, hi2, e2, ha2, pm2, sr2⟩ := gs_of w1 (R.mono x1.fr x1.th _ q) g1
          cases e1
          cases e2
          obtain ⟨b, kk, rfl, hk1, hk2, kb⟩ := key_of ry cond.1
          have hl : L2.length = ks.length := pm2.length_eq.trans sr2.len
          have hm : a ∈ θ1 := List.mem_of_getElem? hia1
          have mem : hasK ks k = true ↔ NestedKey.tup kk ∈ L2.map (·.2) := by
            rw [hasK_ok hk1 sr2.nk, decide_eq_true_iff]
            exact (pm2.map (·.2)).mem_iff.symm
          refine ⟨F1, L2, b, _, sr2.ok pm2 w1.sub ha2, rfl, kb, by omega, fun L3 g1 g2 => ?_⟩
          refine hp .non F1 θ1 _ (x1.trans (Ext.cellSet hm)) (w1.cellSetG hia1 ?_) (r_non (c := c) (F := F1) (θ := θ1))
          by_cases hh : hasK ks k = true
          · rw [if_pos hh, g1 (mem.mp hh)]
            exact sr2.cel pm2
          · rw [if_neg hh]
            have nm : NestedKey.tup kk ∉ L2.map (·.2) := fun z => hh (mem.mpr z)
            have nm2 : NestedKey.tup kk ∉ L2'.map (·.2) := fun z => nm ((pm2.map (·.2)).mem_iff.mpr z)
            refine (sr2.snoc hk1 hk2 ry nm2).cel ((g2 nm).trans ?_)
            exact ((pm2.cons _).trans (List.perm_append_singleton _ _).symm)
        · exact hp.elim
/-- {x} -/
def dKSet (ek : Fn D) : Fn D := fun ρ s => (ek ρ s).bind fun k s => if keyOk k = true then .ok (.cell s.length) (s ++ [[.mse [k]]]) else .bad
theorem den_kset {tk : TE} {ek : Fn D} (hk : DenE c E tk ek) : DenE c E (tKSet tk) (dKSet ek) := by
  intro H0 σ ρ s F θ H Q he hw hp
  intro p hn
  have fr := hw.free hn
  have x0 : Ext F θ H F θ (upd H p (.ext (SX p []))) := Ext.newH hn
  refine hk H0 σ ρ s F θ _ _ (he.ext x0) (hw.newH hn) ?_
  unfold dKSet at hp
  cases z : ek ρ s with
  | bad => rw [z] at hp; exact hp
  | exc _ _ _ => rw [z] at hp; exact fun F' θ' H' dx x' w' r => hp F' θ' H' dx (x0.trans x') w' r
  | ok k s1 =>
    rw [z] at hp
    intro y F1 θ1 H1 x1 w1 ry
    have ry : R c F1 θ1 y k := ry
    dsimp only [Res.bind] at hp
    split at hp
    · rename_i ko
      obtain ⟨b, kk, rfl, hk1, hk2, kb⟩ := key_of ry ko
      have hH1 : H1 p = some (.ext (SX p [])) := x1.kp p _ upd_same fr.2
      have hF1 : F1 p = none := x1.nf p fr.1 (by rw [upd_same]; simp)
      have ht1 : p ∉ θ1 := fun m => by
        have := x1.nc p m fr.2
        rw [upd_same] at this
        cases this
      have sr0 : SR c F1 θ1 [] [] := ⟨rfl, RA.nil, List.nodup_nil, fun p hp => by cases hp⟩
      refine ⟨F1, b, .tup kk, rfl, sr0.ok (List.Perm.refl _) w1.sub hH1, kb, fun L' eL => ?_⟩
      subst eL
      have sr1 : SR c F1 (θ1 ++ [p]) [(b, .tup kk)] [k] := (sr0.snoc hk1 hk2 ry (by simp)).mono (Le.refl F1) ⟨[p], rfl⟩
      have w2 : WOk c (s1 ++ [[.mse [k]]]) F1 (θ1 ++ [p]) (upd H1 p (.ext (SX p [(b, .tup kk)]))) := by
        have wa : WOk c s1 F1 θ1 (upd H1 p (.ext (SX p [(b, .tup kk)]))) := by
          refine ⟨w1.sub.updR hF1, fun a m => ?_, w1.nd, w1.len, fun i a ds h1 h2 => ?_⟩
          · have q : a ≠ p := fun e => ht1 (e ▸ m)
            rw [upd_ne q]; exact w1.fc a m
          · obtain ⟨o, e, r⟩ := w1.cel i a ds h1 h2
            have q : a ≠ p := fun e => ht1 (e ▸ List.mem_of_getElem? h1)
            exact ⟨o, by rw [upd_ne q]; exact e, r⟩
        exact wa.cellNewG upd_same (sr1.cel (List.Perm.refl _)) hF1 ht1
      refine hp _ F1 (θ1 ++ [p]) _ ?_ w2 ?_
      · exact {
          fr := x1.fr
          th := x1.th.trans ⟨[p], rfl⟩
          kp := fun a o h n => by
            have na : a ≠ p := fun e => by rw [e, hn] at h; cases h
            rw [upd_ne na]
            exact x1.kp a o (by rw [upd_ne na]; exact h) n
          nc := fun a m n => by
            rcases List.mem_append.mp m with m | m
            · by_cases q : a = p
              · rw [q]; exact hn
              · have := x1.nc a m n
                rw [upd_ne q] at this
                exact this
            · rw [List.mem_singleton.mp m]; exact hn
          nf := fun a e n => x1.nf a e (by
            by_cases q : a = p
            · rw [q, upd_same]; simp
            · rw [upd_ne q]; exact n)
          al := fun a n => by
            by_cases q : a = p
            · rw [q, upd_same]; simp
            · rw [upd_ne q]
              exact x1.al a (by rw [upd_ne q]; exact n) }
      · show R c F1 (θ1 ++ [p]) (.ref p) (.cell s1.length)
        unfold R
        exact ⟨p, rfl, by rw [← w1.len, List.getElem?_append_right (Nat.le_refl _)]; simp⟩
    · exact hp.elim
end
end MX


set_option Elab.async false
set_option linter.all false
set_option maxRecDepth 100000
namespace MX
open PySem PySem.Spec PyProof.Rows L2
/-! ### while; xs.pop() -/
def whileL (t : Fn Bool) (b : Sf) : Nat → List Sl → Sto → Fl
  | 0, _, _ => .bad
  | n + 1, ρ, s => match t ρ s with
    | .ok k s => if k = true then (match b ρ s with
      | .next ρ s => whileL t b n ρ s
      | .cont ρ s => whileL t b n ρ s
      | .brk ρ s => .next ρ s
      | o => o) else .next ρ s
    | .exc j fs s => .exc j fs s
    | .bad => .bad
def sWhile (n : Nat) (t : Fn Bool) (b : Sf) : Sf := whileL t b n
section
variable {c : Cs} {E : XK}
theorem dn_while {n : Nat} {tc : TT} {t : Fn Bool} {tb : TS} {b : Sf} (ht : DenT c E tc t) (hb : DenS c E tb b) : DenS c E (tWhile tc tb) (sWhile n t b) := by
  intro H0 F0 θ0 σ ρ s F θ H Dn x w he hp
  let W : Nat → L2.St → Hp → Prop := fun m σ1 H1 => ∃ (F2 : Hp) (θ2 : List Addr) (s1 : Sto) (ρ1 : List Sl), Ext F0 θ0 H0 F2 θ2 H1 ∧ WOk c s1 F2 θ2 H1 ∧ EnvOk c H0 F2 θ2 H1 σ1 ρ1 ∧ PostS c E (whileL t b m ρ1 s1) H0 F0 θ0 Dn
  refine ⟨W, ⟨n, F, θ, s, ρ, x, w, he, hp⟩, ?_⟩
  rintro m σ1 H1 ⟨F2, θ2, s1, ρ1, x1, w1, he1, hp1⟩
  cases m with
  | zero => unfold whileL at hp1; exact hp1.elim
  | succ m =>
    unfold whileL at hp1
    refine ht H0 σ1 ρ1 s1 F2 θ2 H1 _ he1 w1 ?_
    cases z : t ρ1 s1 with
    | bad => rw [z] at hp1; exact hp1.elim
    | exc j fs s' => rw [z] at hp1; exact fun F' θ' H' dx x' w' r => hp1 F' θ' H' dx (x1.trans x') w' r
    | ok k s2 =>
      rw [z] at hp1
      dsimp only at hp1
      intro bv F3 θ3 H3 x3 w3 r3
      obtain rfl : bv = k := r3
      have x13 := x1.trans x3
      have he3 := he1.ext x3
      cases bv with
      | false => exact hp1 σ1 F3 θ3 H3 x13 w3 he3
      | true =>
        rw [if_pos rfl] at hp1 ⊢
        refine ⟨fun σ' H' => W m σ' H', fun σ' H' h' => ⟨m, by omega, h'⟩, ?_⟩
        refine hb H0 F3 θ3 σ1 ρ1 s2 F3 θ3 H3 _ x13.rebase w3 he3 ?_
        cases zb : b ρ1 s2 with
        | next ρ4 s4 =>
          rw [zb] at hp1
          exact fun σ4 F4 θ4 H4 x4 w4 he4 => ⟨F4, θ4, s4, ρ4, x13.comp x4, w4, he4, hp1⟩
        | cont ρ4 s4 =>
          rw [zb] at hp1
          exact fun σ4 F4 θ4 H4 x4 w4 he4 => ⟨F4, θ4, s4, ρ4, x13.comp x4, w4, he4, hp1⟩
        | brk ρ4 s4 =>
          rw [zb] at hp1
          exact fun σ4 F4 θ4 H4 x4 w4 he4 => hp1 σ4 F4 θ4 H4 (x13.comp x4) w4 he4
        | ret d s4 =>
          rw [zb] at hp1
          exact fun v F4 θ4 H4 x4 w4 r4 => hp1 v F4 θ4 H4 (x13.comp x4) w4 r4
        | exc k fs s4 =>
          rw [zb] at hp1
          exact fun F4 θ4 H4 dx x4 w4 r4 => hp1 F4 θ4 H4 dx (x13.comp x4) w4 r4
        | bad => rw [zb] at hp1; exact hp1.elim
def dPopL (ea : Fn D) : Fn D := fun ρ s => (ea ρ s).bind fun a s => match a with
  | .cell k => (match gl s k with
    | some ds => (match ds[ds.length - 1]? with
      | some d => .ok d (s.set k ds.dropLast)
      | none => .bad)
    | none => .bad)
  | _ => .bad
theorem RA.dropLast {F : Hp} {θ : List Addr} {ds : List D} {vs : List V} (h : RA c F θ vs ds) : RA c F θ vs.dropLast ds.dropLast := by
  rw [List.dropLast_eq_take, List.dropLast_eq_take, h.length]
  exact h.take _
theorem den_popL {ta : TE} {ea : Fn D} (ha : DenE c E ta ea) : DenE c E (tBM0 c.K "list" rPop ta) (dPopL ea) := by
  refine den_bind (r2 := rV c) (K := fun σ x H Q => tyV c.K "list" x H ∧ rPop x [] H Q) ha fun H0 σ ρ s F θ H Hi x a Q he hw q hp => ?_
  have q : R c F θ x a := q
  cases a with
  | cell k =>
    obtain ⟨p, rfl, hk⟩ := r_cell_inv (c := c) (F := F) (θ := θ) q
    dsimp only at hp
    cases zg : gl s k with
    | none => rw [zg] at hp; exact hp.elim
    | some ds =>
      rw [zg] at hp
      obtain ⟨hs0, hl0⟩ := gl_of zg
      obtain ⟨_, hx0, q0⟩ := hw.cel k p ds hk hs0
      obtain ⟨xs, rfl, rx⟩ := q0.lst hl0
      dsimp only at hp
      cases zd : ds[ds.length - 1]? with
      | none => rw [zd] at hp; exact hp.elim
      | some d =>
        rw [zd] at hp
        obtain ⟨y, hy, ry⟩ := rx.get' zd
        have hm : p ∈ θ := List.mem_of_getElem? hk
        exact ⟨.inl ⟨rfl, xs, SqL.of hx0⟩, p, xs, y, rfl, rfl, hx0, by rw [rx.length]; exact hy, hp y F θ _ (Ext.cellSet hm) (hw.cellSet hk rx.dropLast) ry⟩
  | _ => exact hp.elim
end
end MX


set_option Elab.async false
set_option linter.all false
set_option maxRecDepth 100000
namespace MX
open PySem PySem.Spec PyProof.Rows L2
/-! ### a def whose code object is told -/
theorem okC {P : Program} {w : World} {K : PySem.W.Frag} {mg : Str → Option Value} {base : Heap} {x qual : Str} {st : Stmt} {f : Addr} {fd : FuncData} {N ps : List Str} {k : Nat} {sp : Sp} (F : Fun K x qual st f fd) (S : FnScope N ps (defScope st)) (ln : ∀ vs H Q E, sp vs H Q E → vs.length = ps.length)
    (body : ∀ (cdv : Value), PySem.W.codeIn K cdv qual = true → ∀ (A : Around) (outer : List Env) (s : Shared) (H : Hp) (vs : List V) (Q : VK) (E : XK), Room k (A.deeper (envOfC qual (defScope st) s.heap.objs.size f cdv)) → sp vs H Q E →
      ∃ t, PSs (cxOf CX0 P w K mg base N qual (defScope st) f cdv A outer s H E).nox (defBody st) t ∧ t { nx := fun _ H' => Q .non H', rt := Q } (start N vs) H) : FnOk P w K mg base CX0 (k + 1) f fd ps sp := by
  obtain ⟨_, _, _, _, _, _, cdv, _, _, rfl, l1, l2⟩ := F.ex
  refine fn_of l1 l2 S ln fun A outer s H vs Q E r q => ?_
  obtain ⟨t, h1, h2⟩ := body cdv l2 A outer s H vs Q E r q
  exact ⟨t, h1.nox, h2⟩
theorem kds_of {K : PySem.W.Frag} {cd : Value} {q : Str} (e : PySem.W.codeIn K cd q = true) : PySem.W.kdsCode K cd = true := kdsCode_of e
end MX


set_option Elab.async false
set_option linter.all false
set_option maxRecDepth 100000
namespace MX
open PySem PySem.Spec PyProof.Rows L2
/-! ### list(d), its keys -/
def rListK : List V → Hp → VK → Prop := fun vs H Q => ∃ d xs ep, vs = [.ref d] ∧ (d == sysModules) = false ∧ H d = some (.ext (DX d xs ep)) ∧ xs.length ≤ 1000000 ∧ ∀ p, H p = none → Q (.ref p) (upd H p (.lst (xs.map fun x => V.ref x.2.1)))
theorem cr_listK {X : Cx} (hc : X.calm = true) : CallR X (.type "list") rListK := by
  intro pins s σ H vs us Q I r h
  obtain ⟨d, xs, ep, rfl, hs, hd, hz, q⟩ := h
  obtain rfl := Vals.ref1 r
  obtain ⟨o', es, hgd, hx, hdt, he⟩ := dx_at I hd
  have hsz := dx_size he
  refine PySem.W.kdl_call (PySem.KdlSrc.rawDict (es := es) (ep := ep) hs) (I.ok.hd hc) ⟨o', hgd, hx, hdt⟩ (by rw [hsz, sizeLine_eq]; omega) fun h1 t1 acc c k1 k2 k3 => ?_
  have I1 : Inv X pins σ H { s with heap := h1, toks := t1 } := I.kept (t' := t1) k1
  have lS : H s.heap.objs.size = none := I.fresh
  have al : acc.toList = xs.map fun x => Value.ref x.2.1 := by
    refine List.ext_getElem? fun j => ?_
    have hl : acc.toList.length = xs.length := by rw [Array.length_toList, k3.1, hsz]
    rcases Nat.lt_or_ge j xs.length with z | z
    · have z2 : j < acc.toList.length := by omega
      obtain ⟨g1, g2⟩ := k3.2 j (acc.toList[j]) (by rw [← Array.getElem?_toList]; exact List.getElem?_eq_getElem z2)
      rw [List.getElem?_eq_getElem z2, g2, List.getElem?_map, List.getElem?_eq_getElem z]
      have e3 := dx_get he (List.getElem?_eq_getElem z)
      have e4 : es[j]? = some es[j] := by simp
      rw [e4] at e3
      rw [Option.some.inj e3]
      rfl
    · rw [List.getElem?_eq_none (by omega), List.getElem?_eq_none (by rw [List.length_map]; omega)]
  refine ⟨.ref s.heap.objs.size, upd H s.heap.objs.size (.lst (xs.map fun x => V.ref x.2.1)), ?_, rfl, q _ lS⟩
  refine I1.take (h' := h1) (t' := t1) (fun b ob _ e => e) (I.fpOk (Nat.le_refl _) lS) ?_
  refine ⟨by rw [List.length_map, sizeLine_eq]; omega, acc.toList, c, ?_, by rw [Array.toArray_toList]; exact k2⟩
  rw [al]
  have := vals_refs (xs.map fun x => x.2.1)
  rw [List.map_map, List.map_map] at this
  exact this
def dListK (e : Fn D) : Fn (List D) := fun ρ s => (e ρ s).bind fun d s => match gd s d with
  | some (ks, _) => .ok ks s
  | none => .bad
theorem den_listK {c : Cs} {E : XK} {t : TE} {e : Fn D} (h : DenE c E t e) : DenF c E (tCB rListK (tCons t tNil)) (dListK e) := by
  refine den_bind (r2 := rF c) (K := fun σ x H1 Q => rListK [x] H1 Q) h fun H0 σ ρ s F θ H Hi x a Q he hw q hp => ?_
  have q : R c F θ x a := q
  cases g : gd s a with
  | none => rw [g] at hp; exact hp.elim
  | some p =>
    obtain ⟨ks, vs⟩ := p
    rw [g] at hp
    obtain ⟨d, xs, ep, rfl, hd, dr⟩ := gd_of hw q g
    exact ⟨d, xs, ep, rfl, dr.xf.ns, hd, dr.xf.sz, fun p hn => hp _ F θ _ (Ext.newH hn) (hw.newH hn) (fresh_rf hw hn dr.rk)⟩
/-! ### {k: v} -/
def tNOne (ty tv : TE) : TE := fun σ H Q => ∀ p, H p = none → (p == sysModules) = false → ty σ (upd H p (.ext (DX p [] 0))) fun y H1 => ∃ b, y = .ref b ∧ tv σ H1 fun v H2 => ∃ G nk, DOk G H2 p [] 0 ∧ NKV G b nk ∧ ∀ r ep, RelV v r → Q (.ref p) (upd H2 p (.ext (DX p [(nk, b, r)] ep)))
theorem pe_ndisp {X : Cx} {k v : Expr} {pos : Pos} {ty tv : TE} (hu : X.A.units + 64 < cLine) (hk : PE X k ty) (hv : PE X v tv) : PE X (.Dict [some k] [v] pos) (tNOne ty tv) := by
  refine ⟨fun pins s σ H Q I h => ?_⟩
  have I0 : Inv X pins σ (upd H s.heap.objs.size (.ext (DX s.heap.objs.size [] 0))) { s with heap := s.heap.push { cls := .type "dict", data := .dict #[] } } :=
    I.laid (a := s.heap.objs.size) (o := .ext (DX s.heap.objs.size [] 0)) (t' := s.toks) (fun _ _ q => Heap.get?_push_of_some _ q) (Nat.le_refl _) (DX.obj (DX.empty s.heap))
  have ns : (s.heap.objs.size == sysModules) = false := beq_eq_false_iff_ne.mpr (Ne.symm (Nat.ne_of_lt I.big))
  have hs1 : (evalEachOpt [some k] X.env).zip ((evalEach [v] X.env).map fun v => do let x ← v; standAt pos; pure x) = [((eval k X.env : Sem Value), (do let x ← eval v X.env; standAt pos; pure x : Sem Value))].map fun p => (some p.1, p.2) := rfl
  rw [arm_eval_Dict, hs1, dictDisplay_pairs _ (List.cons_ne_nil _ _) (Nat.lt_of_sub_pos (Nat.le_of_ble_eq_true rfl))]
  refine wpAny_bind (wpAny_standAt (wpAny_bind (wpAny_subDictH (knd := nestedKind X.prog X.w) (Q := fun d s' => wpAny (model X.prog X.w) X.A (pure (Value.ref d)) (EP X pins σ Q) X.xe s') (Room.nest0 hu) (Nat.le_of_ble_eq_true rfl) ?_)))
  refine evalPairs_cons (thn (hk.run pins _ σ _ _ I0 (h _ (I.hok.fresh (Nat.le_refl _)) ns)) fun u s1 ⟨y, H1, I1, ry, b, ey, q1⟩ => ?_)
  subst ey
  obtain rfl : u = Value.ref b := ry
  refine wpAny_bind (thn (hv.run pins s1 σ H1 _ I1 q1) fun r s2 ⟨x, H2, I2, rx, G, nk, d, kb, q2⟩ => wpAny_bind (wpAny_standAt (wpAny_pure ?_)))
  refine evalPairs_nil ?_
  refine ⟨[(nk, b, r)], ⟨rfl, rfl, kb.2 _ _ _ _ d.le I2.hok, trivial⟩, d.dict I2.hok, fun h' tk dd' sb => ?_⟩
  obtain ⟨ep, dx⟩ := DX.of (xs := [(nk, b, r)]) dd' fun z hz => by rw [List.mem_singleton.mp hz]; exact kb.1
  have he : ∃ q, h'.get? s.heap.objs.size = some q := let ⟨o, _, e, _⟩ := dx; ⟨o, e⟩
  have I3 := d_write (t' := tk) (ob := .ext (DX s.heap.objs.size [(nk, b, r)] ep)) I2 (by rw [d.at_]; exact True.intro) sb he (DX.obj dx)
  exact wpAny_pure ⟨.ref s.heap.objs.size, _, I3, rfl, q2 r ep rx⟩
def dDOne (ek ev : Fn D) : Fn D := fun ρ s => (ek ρ s).bind fun k s => if keyOk k = true then (ev ρ s).bind fun v s => .ok (.dct [k] [v]) s else .bad
section
variable {c : Cs} {E : XK}
theorem den_dOne {tk tv : TE} {ek ev : Fn D} (hk : DenE c E tk ek) (hv : DenE c E tv ev) : DenE c E (tNOne tk tv) (dDOne ek ev) := by
  intro H0 σ ρ s F θ H Q he hw hp
  intro p hn hs
  have fr := hw.free hn
  have x0 : Ext F θ H F θ (upd H p (.ext (DX p [] 0))) := Ext.newH hn
  refine hk H0 σ ρ s F θ _ _ (he.ext x0) (hw.newH hn) ?_
  unfold dDOne at hp
  cases z : ek ρ s with
  | bad => rw [z] at hp; exact hp
  | exc _ _ _ => rw [z] at hp; exact fun F' θ' H' dx x' w' r => hp F' θ' H' dx (x0.trans x') w' r
  | ok k s1 =>
    rw [z] at hp
    intro y F1 θ1 H1 x1 w1 ry
    have ry : R c F1 θ1 y k := ry
    dsimp only [Res.bind] at hp
    by_cases ko : keyOk k = true
    · rw [if_pos ko] at hp
      obtain ⟨b, kk, rfl, hk1, hk2, kb⟩ := key_of ry ko
      refine ⟨b, rfl, ?_⟩
      refine hv H0 σ ρ s1 F1 θ1 H1 _ ((he.ext x0).ext x1) w1 ?_
      cases z2 : ev ρ s1 with
      | bad => rw [z2] at hp; exact hp
      | exc _ _ _ => rw [z2] at hp; exact fun F' θ' H' dx x' w' r => hp F' θ' H' dx (x0.trans (x1.trans x')) w' r
      | ok v s2 =>
        rw [z2] at hp
        intro u F2 θ2 H2 x2 w2 ru
        have ru : R c F2 θ2 u v := ru
        have x : Ext F θ (upd H p (.ext (DX p [] 0))) F2 θ2 H2 := x1.trans x2
        have hH2 : H2 p = some (.ext (DX p [] 0)) := x.kp p _ upd_same fr.2
        have hF2 : F2 p = none := x.nf p fr.1 (by rw [upd_same]; simp)
        have ht2 : p ∉ θ2 := fun m => by
          have := x.nc p m fr.2
          rw [upd_same] at this
          cases this
        have rk2 : R c F2 θ2 (.ref b) k := R.mono x2.fr x2.th k ry
        refine ⟨F2, .tup kk, DR.ok (c := c) (θ := θ2) (dr_nil hs) w2.sub hH2, kb.mono x2.fr, fun r ep hr => ?_⟩
        have dr : DR c F2 θ2 p [(.tup kk, b, r)] [k] [v] := by
          have := (dr_nil (c := c) (F := F2) (θ := θ2) hs).put (by decide) hk1 hk2 rk2 hr ru
          exact this
        have w3 : WOk c s2 F2 θ2 (upd H2 p (.ext (DX p [(.tup kk, b, r)] ep))) := by
          refine ⟨w2.sub.updR hF2, fun a m => ?_, w2.nd, w2.len, fun i a ds h1 h2 => ?_⟩
          · have q : a ≠ p := fun e => ht2 (e ▸ m)
            rw [upd_ne q]; exact w2.fc a m
          · obtain ⟨o, e, r⟩ := w2.cel i a ds h1 h2
            have q : a ≠ p := fun e => ht2 (e ▸ List.mem_of_getElem? h1)
            exact ⟨o, by rw [upd_ne q]; exact e, r⟩
        have w4 := w3.freeze upd_same hF2 ht2
        refine hp _ (upd F2 p (.ext (DX p [(.tup kk, b, r)] ep))) θ2 _ ?_ w4 ?_
        · exact {
            fr := x.fr.trans (Le.new hF2)
            th := x.th
            kp := fun a o h n => by
              have na : a ≠ p := fun e => by rw [e, hn] at h; cases h
              rw [upd_ne na]
              exact x.kp a o (by rw [upd_ne na]; exact h) n
            nc := fun a m n => by
              by_cases q : a = p
              · rw [q]; exact hn
              · have := x.nc a m n
                rw [upd_ne q] at this
                exact this
            nf := fun a e n => by
              have na : a ≠ p := fun e => n (e ▸ hn)
              rw [upd_ne na]
              exact x.nf a e (by rw [upd_ne na]; exact n)
            al := fun a n => by
              by_cases q : a = p
              · rw [q, upd_same]; simp
              · rw [upd_ne q]
                exact x.al a (by rw [upd_ne q]; exact n) }
        · show R c _ θ2 (.ref p) (.dct [k] [v])
          obtain ⟨us, h1, h2⟩ := dr.rv
          unfold R
          exact ⟨p, _, ep, us, rfl, upd_same, dr.xf, dr.nk, RA.mono (Le.new hF2) (Pre.refl θ2) _ dr.rk, h1, RA.mono (Le.new hF2) (Pre.refl θ2) _ h2⟩
    · rw [if_neg ko] at hp
      exact hp.elim
end
end MX


set_option Elab.async false
set_option linter.all false
set_option maxRecDepth 100000
namespace MX
open PySem PySem.Spec PyProof.Rows L2
/-! ### {k: v, ..}, up to fifteen pairs -/
def tPr : List (TE × TE) → L2.St → Hp → (Hp → KR → Prop) → Prop
  | [], _, H, K => K H []
  | (ty, tv) :: ts, σ, H, K => ty σ H fun y H1 => ∃ b, y = .ref b ∧ tv σ H1 fun v H2 => ∃ nk, tPr ts σ H2 fun H3 krs => K H3 ((nk, b, v) :: krs)
def UsOk : KR → List (Value × Value) → Prop
  | [], [] => True
  | k :: ks, u :: us => (u.1 = .ref k.2.1 ∧ RelV k.2.2 u.2) ∧ UsOk ks us
  | _, _ => False
def psOf : KR → List (Value × Value) → NX
  | k :: ks, u :: us => (k.1, k.2.1, u.2) :: psOf ks us
  | _, _ => []
theorem ps_of : ∀ {krs : KR} {us : List (Value × Value)}, UsOk krs us → PsOk krs (psOf krs us)
  | [], [], _ => True.intro
  | [], _ :: _, h => h.elim
  | _ :: _, [], h => h.elim
  | k :: krs, u :: us, h => ⟨⟨rfl, rfl, h.1.2⟩, ps_of h.2⟩
theorem carries_of {P : Program} {w : World} {h : Heap} : ∀ {krs : KR} {us : List (Value × Value)}, UsOk krs us → (∀ k ∈ krs, (nestedKind P w).is h k.1 k.2.1) → CarriesH (nestedKind P w) h us (psOf krs us)
  | [], [], _, _ => True.intro
  | [], _ :: _, h, _ => h.elim
  | _ :: _, [], h, _ => h.elim
  | k :: krs, u :: us, h, hk => ⟨h.1.1, rfl, hk k List.mem_cons_self, carries_of h.2 fun x hx => hk x (List.mem_cons_of_mem _ hx)⟩
inductive PPs (X : Cx) : List (Option Expr) → List Expr → List (TE × TE) → Prop where
  | nil : PPs X [] [] []
  | cons {k v : Expr} {ks : List (Option Expr)} {vs : List Expr} {tk tv : TE} {ts : List (TE × TE)} : PE X k tk → PE X v tv → PPs X ks vs ts → PPs X (some k :: ks) (v :: vs) ((tk, tv) :: ts)
theorem pps_run {X : Cx} {pos : Pos} {ks : List (Option Expr)} {vs : List Expr} {ts : List (TE × TE)} (h : PPs X ks vs ts) : ∃ pairs : List (Sem Value × Sem Value),
    (evalEachOpt ks X.env).zip ((evalEach vs X.env).map fun v => do let x ← v; standAt pos; pure x) = pairs.map (fun p => (some p.1, p.2)) ∧ pairs.length = ts.length ∧
    ∀ (pins : List (Addr × Obj)) (s : Shared) (σ : L2.St) (H : Hp) (K : Hp → KR → Prop) (Post : List (Value × Value) → Shared → Prop), Inv X pins σ H s → tPr ts σ H K →
      (∀ H' krs us s', Inv X pins σ H' s' → K H' krs → UsOk krs us → Post us s') → wpAny (model X.prog X.w) X.A (evalPairs pairs) Post X.xe s := by
  induction h with
  | nil => exact ⟨[], rfl, rfl, fun pins s σ H K Post I h hq => evalPairs_nil (hq H [] [] s I h True.intro)⟩
  | @cons k v ks vs tk tv ts hk hv hr ih =>
    obtain ⟨pairs, e, l, run⟩ := ih
    refine ⟨((eval k X.env : Sem Value), (do let x ← eval v X.env; standAt pos; pure x : Sem Value)) :: pairs, ?_, by rw [List.length_cons, List.length_cons, l], fun pins s σ H K Post I h hq => ?_⟩
    · rw [List.map_cons, ← e]
      rfl
    · refine evalPairs_cons (thn (hk.run pins s σ H _ I h) fun u s1 ⟨y, H1, I1, ry, b, ey, q1⟩ => ?_)
      subst ey
      obtain rfl : u = Value.ref b := ry
      refine wpAny_bind (thn (hv.run pins s1 σ H1 _ I1 q1) fun r s2 ⟨x, H2, I2, rx, nk, q2⟩ => wpAny_bind (wpAny_standAt (wpAny_pure ?_)))
      exact run pins s2 σ H2 _ _ I2 q2 fun H' krs us s' I' kk uo => hq H' ((nk, b, x) :: krs) ((.ref b, r) :: us) s' I' kk ⟨⟨rfl, rx⟩, uo⟩
def tNDisp (ts : List (TE × TE)) : TE := fun σ H Q => ∀ p, H p = none → (p == sysModules) = false → tPr ts σ (upd H p (.ext (DX p [] 0))) fun H2 krs => ∃ G, DOk G H2 p [] 0 ∧ (∀ k ∈ krs, NKV G k.2.1 k.1) ∧ ∀ ps ep, PsOk krs ps → Q (.ref p) (upd H2 p (.ext (DX p (storedAllH [] ps) ep)))
theorem pps_ne {X : Cx} {ks : List (Option Expr)} {vs : List Expr} {ts : List (TE × TE)} (h : PPs X ks vs ts) (hz : 1 ≤ ks.length ∧ ks.length ≤ 15) : 1 ≤ ts.length ∧ ts.length ≤ 15 := by
  have : ts.length = ks.length := by
    clear hz
    induction h with
    | nil => rfl
    | cons _ _ _ ih => rw [List.length_cons, List.length_cons, ih]
  omega
theorem pe_nDisp {X : Cx} {ks : List (Option Expr)} {vs : List Expr} {pos : Pos} {ts : List (TE × TE)} (hu : X.A.units + 64 < cLine) (hp : PPs X ks vs ts) (hz : 1 ≤ ks.length ∧ ks.length ≤ 15) : PE X (.Dict ks vs pos) (tNDisp ts) := by
  refine ⟨fun pins s σ H Q I h => ?_⟩
  have I0 : Inv X pins σ (upd H s.heap.objs.size (.ext (DX s.heap.objs.size [] 0))) { s with heap := s.heap.push { cls := .type "dict", data := .dict #[] } } :=
    I.laid (a := s.heap.objs.size) (o := .ext (DX s.heap.objs.size [] 0)) (t' := s.toks) (fun _ _ q => Heap.get?_push_of_some _ q) (Nat.le_refl _) (DX.obj (DX.empty s.heap))
  have ns : (s.heap.objs.size == sysModules) = false := beq_eq_false_iff_ne.mpr (Ne.symm (Nat.ne_of_lt I.big))
  obtain ⟨pairs, e, l, run⟩ := pps_run (pos := pos) hp
  have lz := pps_ne hp hz
  have pne : pairs ≠ [] := fun z => by rw [z] at l; rw [List.length_nil] at l; omega
  rw [arm_eval_Dict, e, dictDisplay_pairs _ pne (by omega)]
  refine wpAny_bind (wpAny_standAt (wpAny_bind (wpAny_subDictH (knd := nestedKind X.prog X.w) (Q := fun d s' => wpAny (model X.prog X.w) X.A (pure (Value.ref d)) (EP X pins σ Q) X.xe s') (Room.nest0 hu) (by omega) ?_)))
  refine run pins _ σ _ _ _ I0 (h _ (I.hok.fresh (Nat.le_refl _)) ns) fun H2 krs us s2 I2 ⟨G, d, nk, q⟩ uo => ?_
  have hps := ps_of uo
  refine ⟨psOf krs us, carries_of uo fun k hk => (nk k hk).2 _ _ _ _ d.le I2.hok, d.dict I2.hok, fun h' tk dd' sb => ?_⟩
  obtain ⟨ep, dx⟩ := DX.of (xs := storedAllH [] (psOf krs us)) dd' fun z hz => by
    refine storedAllH_keys (P := fun k _ => tf k = true) (fun x hx => by cases hx) (fun x hx => ?_) z hz
    obtain ⟨k, hk, e1, _⟩ := hps.mem hx
    show tf x.1 = true
    rw [e1]
    exact (nk k hk).1
  have he : ∃ q, h'.get? s.heap.objs.size = some q := let ⟨o, _, e, _⟩ := dx; ⟨o, e⟩
  have I3 := d_write (t' := tk) (ob := .ext (DX s.heap.objs.size (storedAllH [] (psOf krs us)) ep)) I2 (by rw [d.at_]; exact True.intro) sb he (DX.obj dx)
  exact wpAny_pure ⟨.ref s.heap.objs.size, _, I3, rfl, q _ ep hps⟩
/-! .. denoted -/
def dPr : List (Fn D × Fn D) → Fn (List D × List D)
  | [] => fun _ s => .ok ([], []) s
  | (ek, ev) :: es => fun ρ s => (ek ρ s).bind fun k s => if keyOk k = true then (ev ρ s).bind fun v s => (dPr es ρ s).bind fun r s => .ok (k :: r.1, v :: r.2) s else .bad
section
variable {c : Cs} {E : XK}
def PostP (c : Cs) (E : XK) (r : Res (List D × List D)) (F : Hp) (θ : List Addr) (H : Hp) (K : Hp → KR → Prop) : Prop := match r with
  | .ok kv s => ∀ F' θ' H' krs, Ext F θ H F' θ' H' → WOk c s F' θ' H' → KMatch c F' θ' krs kv.1 kv.2 → (∀ k ∈ krs, NKV F' k.2.1 k.1) → K H' krs
  | .exc k fs s => ∀ F' θ' H' dx, Ext F θ H F' θ' H' → WOk c s F' θ' H' → XRep c F' θ' dx k fs → E (.ref (c.xc k)) dx H'
  | .bad => False
def DenP (c : Cs) (E : XK) (ts : List (TE × TE)) (es : List (Fn D × Fn D)) : Prop := ∀ H0 σ ρ s F θ H K, EnvOk c H0 F θ H σ ρ → WOk c s F θ H → PostP c E (dPr es ρ s) F θ H K → tPr ts σ H K
theorem dp_nil : DenP c E [] [] := fun H0 σ ρ s F θ H K he hw hp => hp F θ H [] (Ext.refl F θ H) hw True.intro (fun k hk => by cases hk)
theorem dp_cons {tk tv : TE} {ek ev : Fn D} {ts : List (TE × TE)} {es : List (Fn D × Fn D)} (hk : DenE c E tk ek) (hv : DenE c E tv ev) (hr : DenP c E ts es) : DenP c E ((tk, tv) :: ts) ((ek, ev) :: es) := by
  intro H0 σ ρ s F θ H K he hw hp
  refine hk H0 σ ρ s F θ _ _ he hw ?_
  unfold dPr at hp
  cases z : ek ρ s with
  | bad => rw [z] at hp; exact hp.elim
  | exc _ _ _ => rw [z] at hp; exact hp
  | ok k s1 =>
    rw [z] at hp
    intro y F1 θ1 H1 x1 w1 ry
    have ry : R c F1 θ1 y k := ry
    dsimp only [Res.bind] at hp
    by_cases ko : keyOk k = true
    · rw [if_pos ko] at hp
      obtain ⟨b, kk, rfl, hk1, hk2, kb⟩ := key_of ry ko
      refine ⟨b, rfl, ?_⟩
      refine hv H0 σ ρ s1 F1 θ1 H1 _ (he.ext x1) w1 ?_
      cases z2 : ev ρ s1 with
      | bad => rw [z2] at hp; exact hp.elim
      | exc _ _ _ => rw [z2] at hp; exact fun F' θ' H' dx x' w' r => hp F' θ' H' dx (x1.trans x') w' r
      | ok v s2 =>
        rw [z2] at hp
        intro u F2 θ2 H2 x2 w2 ru
        have ru : R c F2 θ2 u v := ru
        refine ⟨.tup kk, hr H0 σ ρ s2 F2 θ2 H2 _ (he.ext (x1.trans x2)) w2 ?_⟩
        dsimp only at hp
        cases z3 : dPr es ρ s2 with
        | bad => rw [z3] at hp; exact hp.elim
        | exc _ _ _ => rw [z3] at hp; exact fun F' θ' H' dx x' w' r => hp F' θ' H' dx (x1.trans (x2.trans x')) w' r
        | ok kv s3 =>
          rw [z3] at hp
          intro F' θ' H' krs x3 w3 km nk
          refine hp F' θ' H' ((.tup kk, b, u) :: krs) (x1.trans (x2.trans x3)) w3 ⟨⟨kk, hk1, hk2, rfl, R.mono (x2.fr.trans x3.fr) (x2.th.trans x3.th) k ry, R.mono x3.fr x3.th v ru⟩, km⟩ fun q hq => ?_
          rcases List.mem_cons.mp hq with rfl | hq
          · exact kb.mono (x2.fr.trans x3.fr)
          · exact nk q hq
    · rw [if_neg ko] at hp
      exact hp.elim
/-- frozen -/
def dDisp (es : List (Fn D × Fn D)) : Fn D := fun ρ s => (dPr es ρ s).bind fun r s => if r.1.length ≤ 1000 then .ok (.dct (dputA ([], []) r.1 r.2).1 (dputA ([], []) r.1 r.2).2) s else .bad
/-- in a cell -/
def dDispC (es : List (Fn D × Fn D)) : Fn D := fun ρ s => (dPr es ρ s).bind fun r s => if r.1.length ≤ 1000 then .ok (.cell s.length) (s ++ [[.mdc (dputA ([], []) r.1 r.2).1 (dputA ([], []) r.1 r.2).2]]) else .bad
/-- what stands at the end -/
theorem disp_core {ts : List (TE × TE)} {es : List (Fn D × Fn D)} (h : DenP c E ts es) {H0 : En} {σ : L2.St} {ρ : List Sl} {s : Sto} {F : Hp} {θ : List Addr} {H : Hp} {Q : V → Hp → Prop} (he : EnvOk c H0 F θ H σ ρ) (hw : WOk c s F θ H)
    (hx : ∀ k fs s', dPr es ρ s = .exc k fs s' → ∀ F' θ' H' dx, Ext F θ H F' θ' H' → WOk c s' F' θ' H' → XRep c F' θ' dx k fs → E (.ref (c.xc k)) dx H') (hb : dPr es ρ s ≠ .bad)
    (hq : ∀ kv s', dPr es ρ s = .ok kv s' → kv.1.length ≤ 1000 ∧ ∀ (p : Addr) (xs : NX × Nat) (F' : Hp) (θ' : List Addr) (H' : Hp) (o : HO), o = .ext (DX p xs.1 xs.2) → H p = none → F' p = none → p ∉ θ' → Ext F θ H F' θ' H' → WOk c s' F' θ' H' → H' p ≠ none → DR c F' θ' p xs.1 (dputA ([], []) kv.1 kv.2).1 (dputA ([], []) kv.1 kv.2).2 → Q (.ref p) (upd H' p o)) : tNDisp ts σ H Q := by
  intro p hn hs
  have fr := hw.free hn
  have x0 : Ext F θ H F θ (upd H p (.ext (DX p [] 0))) := Ext.newH hn
  refine h H0 σ ρ s F θ _ _ (he.ext x0) (hw.newH hn) ?_
  cases z : dPr es ρ s with
  | bad => exact absurd z hb
  | exc k fs s' => exact fun F' θ' H' dx x' w' r => hx k fs s' z F' θ' H' dx (x0.trans x') w' r
  | ok kv s' =>
    obtain ⟨hl, hq⟩ := hq kv s' z
    intro F2 θ2 H2 krs x w2 km nk
    have hH2 : H2 p = some (.ext (DX p [] 0)) := x.kp p _ upd_same fr.2
    have hF2 : F2 p = none := x.nf p fr.1 (by rw [upd_same]; simp)
    have ht2 : p ∉ θ2 := fun m => by
      have := x.nc p m fr.2
      rw [upd_same] at this
      cases this
    refine ⟨F2, DR.ok (c := c) (θ := θ2) (dr_nil hs) w2.sub hH2, nk, fun ps ep hps => ?_⟩
    have kl := km.len
    have dr : DR c F2 θ2 p (storedAllH [] ps) _ _ := DR.putAll (p := p) krs kv.1 kv.2 ps [] ([], []) km hps (dr_nil hs) (by rw [hps.len, List.length_nil]; omega)
    exact hq p (storedAllH [] ps, ep) F2 θ2 H2 _ rfl hn hF2 ht2 (x0.trans x) w2 (by rw [hH2]; simp) dr
theorem wok_over {s : Sto} {F H : Hp} {θ : List Addr} {p : Addr} {o : HO} (w : WOk c s F θ H) (hF : F p = none) (ht : p ∉ θ) : WOk c s F θ (upd H p o) := by
  refine ⟨w.sub.updR hF, fun a m => ?_, w.nd, w.len, fun i a ds h1 h2 => ?_⟩
  · have q : a ≠ p := fun e => ht (e ▸ m)
    rw [upd_ne q]; exact w.fc a m
  · obtain ⟨o, e, r⟩ := w.cel i a ds h1 h2
    have q : a ≠ p := fun e => ht (e ▸ List.mem_of_getElem? h1)
    exact ⟨o, by rw [upd_ne q]; exact e, r⟩
theorem den_disp {ts : List (TE × TE)} {es : List (Fn D × Fn D)} (h : DenP c E ts es) : DenE c E (tNDisp ts) (dDisp es) := by
  intro H0 σ ρ s F θ H Q he hw hp
  unfold dDisp at hp
  refine disp_core h he hw (fun k fs s' z => by rw [z] at hp; exact hp) (fun z => by rw [z] at hp; exact hp) fun kv s' z => ?_
  rw [z] at hp
  dsimp only [Res.bind] at hp
  split at hp
  · rename_i hl
    refine ⟨hl, fun p xs F2 θ2 H2 o eo hn hF2 ht2 x w2 hH2 dr => ?_⟩
    subst eo
    have w4 := (wok_over (o := .ext (DX p xs.1 xs.2)) w2 hF2 ht2).freeze upd_same hF2 ht2
    refine hp _ (upd F2 p (.ext (DX p xs.1 xs.2))) θ2 _ ?_ w4 ?_
    · exact {
        fr := x.fr.trans (Le.new hF2)
        th := x.th
        kp := fun a o h n => by
          have na : a ≠ p := fun e => by rw [e, hn] at h; cases h
          rw [upd_ne na]
          exact x.kp a o h n
        nc := fun a m n => x.nc a m n
        nf := fun a e n => by
          have na : a ≠ p := fun e => n (e ▸ hn)
          rw [upd_ne na]
          exact x.nf a e n
        al := fun a n => by
          by_cases q : a = p
          · rw [q, upd_same]; simp
          · rw [upd_ne q]
            exact x.al a n }
    · show R c _ θ2 (.ref p) (.dct _ _)
      obtain ⟨us, h1, h2⟩ := dr.rv
      unfold R
      exact ⟨p, _, xs.2, us, rfl, upd_same, dr.xf, dr.nk, RA.mono (Le.new hF2) (Pre.refl θ2) _ dr.rk, h1, RA.mono (Le.new hF2) (Pre.refl θ2) _ h2⟩
  · exact hp.elim
theorem den_dispC {ts : List (TE × TE)} {es : List (Fn D × Fn D)} (h : DenP c E ts es) : DenE c E (tNDisp ts) (dDispC es) := by
  intro H0 σ ρ s F θ H Q he hw hp
  unfold dDispC at hp
  refine disp_core h he hw (fun k fs s' z => by rw [z] at hp; exact hp) (fun z => by rw [z] at hp; exact hp) fun kv s' z => ?_
  rw [z] at hp
  dsimp only [Res.bind] at hp
  split at hp
  · rename_i hl
    refine ⟨hl, fun p xs F2 θ2 H2 o eo hn hF2 ht2 x w2 hH2 dr => ?_⟩
    subst eo
    have dr2 : DR c F2 (θ2 ++ [p]) p xs.1 (dputA ([], []) kv.1 kv.2).1 (dputA ([], []) kv.1 kv.2).2 := by
      obtain ⟨us, u1, u2⟩ := dr.rv
      exact ⟨dr.xf, dr.nk, RA.mono (Le.refl F2) ⟨[p], rfl⟩ _ dr.rk, us, u1, RA.mono (Le.refl F2) ⟨[p], rfl⟩ _ u2⟩
    refine hp _ F2 (θ2 ++ [p]) _ ?_ ((wok_over (o := .ext (DX p xs.1 xs.2)) w2 hF2 ht2).cellNewG upd_same dr2.cel hF2 ht2) ?_
    · exact {
        fr := x.fr
        th := x.th.trans ⟨[p], rfl⟩
        kp := fun a o h n => by
          have na : a ≠ p := fun e => by rw [e, hn] at h; cases h
          rw [upd_ne na]
          exact x.kp a o h n
        nc := fun a m n => by
          rcases List.mem_append.mp m with m | m
          · exact x.nc a m n
          · rw [List.mem_singleton.mp m]; exact hn
        nf := fun a e n => x.nf a e n
        al := fun a n => by
          by_cases q : a = p
          · rw [q, upd_same]; simp
          · rw [upd_ne q]
            exact x.al a n }
    · show R c F2 (θ2 ++ [p]) (.ref p) (.cell s'.length)
      unfold R
      exact ⟨p, rfl, by rw [← w2.len, List.getElem?_append_right (Nat.le_refl _)]; simp⟩
  · exact hp.elim
end
end MX


set_option Elab.async false
set_option linter.all false
set_option maxRecDepth 100000
namespace MX
open PySem PySem.Spec PyProof.Rows L2
/-! ### d.clear() -/
def tNClear (td : TE) : TE := fun σ H Q => td σ H fun x H1 => ∃ G a xs ep, x = .ref a ∧ DOk G H1 a xs ep ∧ ∀ ep', Q .non (upd H1 a (.ext (DX a [] ep')))
theorem pe_nclear {X : Cx} {o : Expr} {apos cpos : Pos} {td : TE} (ho : PE X o td)
    (hbase : attributeBase o "clear" X.env (eval o X.env) = eval o X.env := by rfl) (hline : (apos.endLine == cpos.line) = true := by rfl) : PE X (.Call (.Attribute o "clear" apos) [] [] cpos) (tNClear td) := by
  refine ⟨fun pins s σ H Q I h => ?_⟩
  refine wpAny_Call_method0_late hbase hline (thn (ho.run pins s σ H _ I h) fun u s1 ⟨x, H1, I1, rx, G, a, xs, ep, ex, d, q1⟩ => ?_)
  subst ex
  obtain rfl : u = Value.ref a := rx
  have hz : xs.length ≤ sizeLine := by have := d.sz; rw [sizeLine_eq]; omega
  refine ⟨"dict", "dict.clear", PySem.F.plainAttrs_dict, PySem.F.slot_dict_clear, PySem.F.type_dict_clear, n_typeIs I1 d, n_noDict I1 d, Calls.callWith_builtin rfl (PySem.evalArgs_none ?_)⟩
  refine clear_keyed (knd := nestedKind X.prog X.w) ⟨xs, d.dict I1.hok, rfl⟩ (fun h' dd' hs => ?_) (by unfold pairsH; rw [List.length_map]; exact hz)
  obtain ⟨ys, dy, ey⟩ := dd'
  have ey : ys = [] := List.map_eq_nil_iff.mp ey
  subst ey
  have he : ∃ q, h'.get? a = some q := let ⟨q, _, _, hq, _⟩ := dy; ⟨q, hq⟩
  obtain ⟨ep', dx⟩ := DX.of dy fun x hx => by cases hx
  exact ⟨.non, _, d_write I1 (by rw [d.at_]; exact True.intro) hs he (DX.obj dx), rfl, q1 ep'⟩
section
variable {c : Cs} {E : XK}
def dClear (ed : Fn D) : Fn D := fun ρ s => (ed ρ s).bind fun d s => match d with
  | .cell i => (match gd s (.cell i) with
    | some _ => .ok .non (s.set i [.mdc [] []])
    | none => .bad)
  | _ => .bad
theorem den_clear {td : TE} {ed : Fn D} (hd : DenE c E td ed) : DenE c E (tNClear td) (dClear ed) := by
  refine den_bind (r2 := rV c) (K := fun σ x H1 Q => ∃ G a xs ep, x = .ref a ∧ DOk G H1 a xs ep ∧ ∀ ep', Q .non (upd H1 a (.ext (DX a [] ep')))) hd fun H0 σ ρ s F θ H Hi x d Q he hw q hp => ?_
  have q : R c F θ x d := q
  cases d with
  | cell i =>
    dsimp only at hp
    cases g0 : gd s (.cell i) with
    | none => rw [g0] at hp; exact hp.elim
    | some p0 =>
      rw [g0] at hp
      dsimp only at hp
      obtain ⟨a, xs, ep, rfl, ha, dr⟩ := gd_of hw q (ks := p0.1) (vs := p0.2) g0
      obtain ⟨a', e', hia⟩ := r_cell_inv (c := c) (F := F) (θ := θ) q
      cases e'
      refine ⟨F, a, xs, ep, rfl, dr.ok hw.sub ha, fun ep' => ?_⟩
      exact hp .non F θ _ (Ext.cellSet (List.mem_of_getElem? hia)) (hw.cellSetG hia (dr_nil dr.xf.ns).cel) (r_non (c := c) (F := F) (θ := θ))
  | _ => exact hp.elim
/-- dict(d), in a cell -/
def dDictCC (e : Fn D) : Fn D := fun ρ s => (e ρ s).bind fun d s => match gd s d with
  | some (ks, vs) => if hashOk ks = true then .ok (.cell s.length) (s ++ [[.mdc ks vs]]) else .bad
  | none => .bad
theorem den_dictCC {t : TE} {e : Fn D} (h : DenE c E t e) : DenE c E (tCB rDictC (tCons t tNil)) (dDictCC e) := by
  refine den_bind (r2 := rV c) (K := fun σ x H1 Q => rDictC [x] H1 Q) h fun H0 σ ρ s F θ H Hi x a Q he hw q hp => ?_
  cases g : gd s a with
  | none => rw [g] at hp; exact hp.elim
  | some pr =>
    obtain ⟨ks, vs⟩ := pr
    rw [g] at hp
    dsimp only at hp
    split at hp
    · rename_i hok
      obtain ⟨d, xs, ep, rfl, ha, dr⟩ := gd_of hw q g
      obtain ⟨us, u1, u2⟩ := dr.rv
      have hn : (xs.map fun x => h0 x.1).Nodup := by
        unfold hashOk at hok
        rw [dr.nk] at hok
        have := of_decide_eq_true hok
        rw [List.map_map] at this
        exact this
      refine ⟨F, d, xs, ep, rfl, dr.ok hw.sub ha, fun x hx => (dr.xf.dp x hx).2, hn, fun l ep' hl hs => ?_⟩
      have fl := hw.free hl
      have dr2 : DR c F (θ ++ [l]) l xs ks vs := ⟨⟨hs, dr.xf.nd, dr.xf.sz, dr.xf.dp⟩, dr.nk, RA.mono (Le.refl F) ⟨[l], rfl⟩ _ dr.rk, us, u1, RA.mono (Le.refl F) ⟨[l], rfl⟩ _ u2⟩
      refine hp _ F (θ ++ [l]) _ (Ext.cellNew (Ext.newH hl) hl) ((hw.newH hl).cellNewG upd_same dr2.cel fl.1 fl.2) ?_
      show R c F (θ ++ [l]) (.ref l) (.cell s.length)
      unfold R
      exact ⟨l, rfl, by rw [← hw.len, List.getElem?_append_right (Nat.le_refl _)]; simp⟩
    · exact hp.elim
end
end MX


set_option Elab.async false
set_option linter.all false
set_option maxRecDepth 100000
namespace MX
open PySem PySem.Spec PyProof.Rows L2
/-! ### isinstance(x, list), x a list that is only read -/
def fIsiR (al : List Nat) : FC := fun ds s => match ds with
  | [.ro _, .ty n] => if n = "list" then some (.bl true) else none
  | ds => fIsi al ds s
theorem cd_isiR {c : Cs} {al : List Nat} (hk : ∀ k ∈ al, IsK c k) : CallD c (rIsi c.K) (fIsiR al) := by
  intro s F θ H xs as w r Q d e h
  unfold fIsiR at e
  split at e
  · rename_i ds n
    split at e
    · rename_i hn
      subst hn
      cases e
      obtain ⟨x, u, rfl, hx, hu⟩ := ra2 r
      have hu : u = .ty "list" := by unfold R at hu; exact hu
      subst hu
      obtain ⟨a, ys, rfl, hs, _⟩ := r_ro_inv hx
      have ty : TyX c.K H (.ref a) (.type "list") := by
        rcases hs with hs | ⟨o, its, m, h1, h2, _⟩
        · rcases hs with hs | ⟨o, hs⟩
          · exact .base (.lst (w.sub _ _ hs))
          · exact .base (.frz (w.sub _ _ hs))
        · exact .kList h1 h2
      exact ⟨.ref a, _, _, _, isB "list" "list", rfl, .ty "list", ty, kit_ty (isB_ok "list" (by decide) "list" (by decide)), give w r_bl h⟩
    · cases e
  · exact cd_isi hk _ _ _ _ _ _ w r _ _ e h
end MX


set_option Elab.async false
set_option linter.all false
set_option maxRecDepth 100000
namespace MX
open PySem PySem.Spec PyProof.Rows L2
/-! ### a call that leaves nothing but its value -/
def purD (m : Mf) (ds : List D) (s : Sto) : Res D := if noCs ds = true then (match m ds [] with
  | .ok d _ => if noC d = true then .ok d s else .bad
  | _ => .bad) else .bad
section
variable {c : Cs} {E : XK}
theorem post_purD {m : Mf} {s : Sto} {ds : List D} {F : Hp} {θ : List Addr} {H : Hp} {Q : VK} (w : WOk c s F θ H) (z : noCs ds = true) (hp : Post c E (rV c) (purD m ds s) F θ H Q) : Post c E (rV c) (m ds []) F [] H Q := by
  unfold purD at hp
  rw [if_pos z] at hp
  cases e : m ds [] with
  | bad => rw [e] at hp; exact hp
  | exc k fs s' => rw [e] at hp; exact hp.elim
  | ok d s' =>
    rw [e] at hp
    dsimp only at hp
    split at hp
    · rename_i hd
      intro v F' θ' H' x w' q
      have q : R c F' θ' v d := q
      have x' : Ext F [] H F' [] H' := ⟨x.fr, Pre.refl _, x.kp, (fun a m _ => by cases m), x.nf, x.al⟩
      obtain ⟨x2, w2⟩ := wok_back w x' (wok_nil w')
      exact hp v F' θ H' x2 w2 (R.mono (Le.refl F') ⟨θ, rfl⟩ d (r_noC d hd q))
    · exact hp.elim
theorem den_callPD {m : Mf} {n : Nat} {ta : TA} {ea : Fn (List D)} (ha : DenA c E ta ea) : DenE c E (tCall (spF c m n) [] E ta) (dCall (purD m) n ea) := by
  refine den_bind (r2 := rV c) (K := fun σ vs H1 Q => spF c m n (vs ++ []) H1 Q E) ha fun H0 σ ρ s F θ H Hi x a Q he hw q hp => ?_
  by_cases z : a.length = n
  · rw [if_pos z] at hp
    rw [List.append_nil]
    by_cases z2 : noCs a = true
    · exact ⟨by rw [RA.length q]; exact z, F, [], [], a, wok_nil hw, ra_noC a z2 q, post_purD hw z2 hp⟩
    · unfold purD at hp
      rw [if_neg z2] at hp
      exact hp.elim
  · rw [if_neg z] at hp; exact hp.elim
end
theorem den_callPD0 {c : Cs} {E : XK} {m : Mf} {n : Nat} {ta : TA} {ea : Fn (List D)} (ha : DenA c EX0 ta ea) : DenE c EX0 (tCall (sp0 c m n) [] E ta) (dCall (purD m) n ea) := den_callPD ha
theorem purD_ok {m : Mf} {ds : List D} {d : D} {s s' : Sto} (hc : noCs ds = true) (hm : m ds [] = .ok d s') (hd : noC d = true) : purD m ds s = .ok d s := by
  unfold purD
  rw [if_pos hc, hm]
  exact if_pos hd
end MX


set_option Elab.async false
set_option linter.all false
set_option maxRecDepth 100000
set_option maxHeartbeats 4000000
namespace MX
open PySem PySem.Spec PyProof.Rows L2
def top (i : Nat) : Stmt := PySem.Challenge.pw_forgetwork_k06_known.main.body.getD i (.Pass ⟨0, 0, 0, 0⟩)
abbrev st_is_integer : Stmt := top 12
abbrev st_Archive___iter : Stmt := inClass (top 33) 2
abbrev st_Choice___eq : Stmt := inClass (top 76) 1
abbrev st_Archive___eq : Stmt := inClass (top 33) 4
abbrev st_Total___eq : Stmt := inClass (top 71) 1
abbrev st_Archive___len : Stmt := inClass (top 33) 3
abbrev st_is_within : Stmt := top 13
abbrev st_is_tuple_within : Stmt := top 14
abbrev st_is_ascending : Stmt := top 15
abbrev st_pending_wishes : Stmt := top 63
abbrev st_Archive_sizes : Stmt := inClass (top 33) 1
abbrev st_base_of : Stmt := top 45
abbrev st_built_again : Stmt := top 46
abbrev st_forgetting_work : Stmt := top 47
abbrev st_all_choices : Stmt := top 27
abbrev st_all_orders : Stmt := top 26
abbrev st_builds_after : Stmt := top 48
abbrev st_possible_answers : Stmt := top 64
abbrev st_possible_wishes : Stmt := top 61
abbrev st_Play_moves : Stmt := inClass (top 66) 2
abbrev st_comes_to_more : Stmt := top 17
abbrev st_least_from : Stmt := top 18
abbrev st_is_enough_at : Stmt := top 19
abbrev st_is_needed_at : Stmt := top 20
abbrev st_is_waiting_wish : Stmt := top 57
abbrev st_are_waiting_wishes : Stmt := top 58
abbrev st_is_build : Stmt := top 41
abbrev st_is_position : Stmt := top 59
abbrev st_Play_has : Stmt := inClass (top 66) 1
abbrev st_are_heights : Stmt := top 21
abbrev st_are_floors : Stmt := top 22
abbrev st_copied : Stmt := top 23
abbrev st_just_enough : Stmt := top 24
abbrev st_Archive___init : Stmt := inClass (top 33) 0
abbrev st_check_archive : Stmt := top 34
abbrev st_check_room : Stmt := top 35
abbrev st_check_few : Stmt := top 36
abbrev st_people_of : Stmt := top 37
abbrev st_builds_of : Stmt := top 38
abbrev st_builds : Stmt := top 39
abbrev st_check_build : Stmt := top 42
abbrev st_are_people : Stmt := top 43
abbrev st_check_forgetting : Stmt := top 44
abbrev st_work : Stmt := top 49
abbrev st_after : Stmt := top 50
abbrev st_check_delay : Stmt := top 54
abbrev st_check_ticks : Stmt := top 55
abbrev st_check_play : Stmt := top 56
abbrev st_check_position : Stmt := top 60
abbrev st_is_wish : Stmt := top 62
abbrev st_start_of : Stmt := top 65
abbrev st_Play___init : Stmt := inClass (top 66) 0
abbrev st_wishes : Stmt := top 67
abbrev st_answers : Stmt := top 68
abbrev st_Total___init : Stmt := inClass (top 71) 0
abbrev st_Total_shows : Stmt := inClass (top 71) 2
abbrev st_begin : Stmt := top 72
abbrev st_total : Stmt := top 73
abbrev st_least_work : Stmt := top 74
abbrev st_Choice___init : Stmt := inClass (top 76) 0
abbrev st_check_choosing : Stmt := top 77
abbrev st_is_whole_build : Stmt := top 78
abbrev st_Choice_shows : Stmt := inClass (top 76) 2
abbrev st_choose : Stmt := top 79
abbrev st_best_work : Stmt := top 80
abbrev st_least_pairs : Stmt := top 81
abbrev st_u_law_works_right : Stmt := top 83
abbrev st_u_law_play_right : Stmt := top 84
abbrev st_u_law_totals_right : Stmt := top 85
abbrev st_u_law_choices_right : Stmt := top 86
abbrev st_law : Stmt := top 87
structure Tx (c : Cs) (mg : Str → Option Value) (a : Nat → Addr) (d : Nat → FuncData) : Prop where
  F12 : Fun c.K "is_integer" "is_integer" st_is_integer (a 12) (d 12)
  b12 : Binds c.K (d 12) ["value"] []
  m12 : mg "is_integer" = some (.ref (a 12))
  F3302 : Fun c.K "__iter__" "Archive.__iter__" st_Archive___iter (a 3302) (d 3302)
  b3302 : Binds c.K (d 3302) ["self"] []
  h3302 : PySem.W.findIn c.K (.ref (c.cl 0)) "__iter__" = some (some (.ref (a 3302)))
  hf3302 : PySem.W.isFn c.K (.ref (a 3302)) = true
  F7601 : Fun c.K "__eq__" "Choice.__eq__" st_Choice___eq (a 7601) (d 7601)
  b7601 : Binds c.K (d 7601) ["self", "other"] []
  h7601 : PySem.W.findIn c.K (.ref (c.cl 3)) "__eq__" = some (some (.ref (a 7601)))
  hf7601 : PySem.W.isFn c.K (.ref (a 7601)) = true
  F3304 : Fun c.K "__eq__" "Archive.__eq__" st_Archive___eq (a 3304) (d 3304)
  b3304 : Binds c.K (d 3304) ["self", "other"] []
  h3304 : PySem.W.findIn c.K (.ref (c.cl 0)) "__eq__" = some (some (.ref (a 3304)))
  hf3304 : PySem.W.isFn c.K (.ref (a 3304)) = true
  F7101 : Fun c.K "__eq__" "Total.__eq__" st_Total___eq (a 7101) (d 7101)
  b7101 : Binds c.K (d 7101) ["self", "other"] []
  h7101 : PySem.W.findIn c.K (.ref (c.cl 2)) "__eq__" = some (some (.ref (a 7101)))
  hf7101 : PySem.W.isFn c.K (.ref (a 7101)) = true
  F3303 : Fun c.K "__len__" "Archive.__len__" st_Archive___len (a 3303) (d 3303)
  b3303 : Binds c.K (d 3303) ["self"] []
  h3303 : PySem.W.findIn c.K (.ref (c.cl 0)) "__len__" = some (some (.ref (a 3303)))
  hf3303 : PySem.W.isFn c.K (.ref (a 3303)) = true
  F13 : Fun c.K "is_within" "is_within" st_is_within (a 13) (d 13)
  b13 : Binds c.K (d 13) ["value", "least", "most"] []
  m13 : mg "is_within" = some (.ref (a 13))
  F14 : Fun c.K "is_tuple_within" "is_tuple_within" st_is_tuple_within (a 14) (d 14)
  b14 : Binds c.K (d 14) ["value", "least", "most"] []
  m14 : mg "is_tuple_within" = some (.ref (a 14))
  F15 : Fun c.K "is_ascending" "is_ascending" st_is_ascending (a 15) (d 15)
  b15 : Binds c.K (d 15) ["items"] []
  m15 : mg "is_ascending" = some (.ref (a 15))
  F63 : Fun c.K "pending_wishes" "pending_wishes" st_pending_wishes (a 63) (d 63)
  b63 : Binds c.K (d 63) ["delay", "position", "wish"] []
  m63 : mg "pending_wishes" = some (.ref (a 63))
  F3301 : Fun c.K "sizes" "Archive.sizes" st_Archive_sizes (a 3301) (d 3301)
  b3301 : Binds c.K (d 3301) ["self"] []
  p3301 : PropOf c.K (c.cl 0) "sizes" (a 13301) (a 3301)
  F45 : Fun c.K "base_of" "base_of" st_base_of (a 45) (d 45)
  b45 : Binds c.K (d 45) ["build", "people"] []
  m45 : mg "base_of" = some (.ref (a 45))
  F46 : Fun c.K "built_again" "built_again" st_built_again (a 46) (d 46)
  b46 : Binds c.K (d 46) ["build", "people"] []
  m46 : mg "built_again" = some (.ref (a 46))
  F47 : Fun c.K "forgetting_work" "forgetting_work" st_forgetting_work (a 47) (d 47)
  b47 : Binds c.K (d 47) ["archive", "build", "people"] []
  m47 : mg "forgetting_work" = some (.ref (a 47))
  F27 : Fun c.K "all_choices" "all_choices" st_all_choices (a 27) (d 27)
  b27 : Binds c.K (d 27) ["items", "most"] []
  m27 : mg "all_choices" = some (.ref (a 27))
  F26 : Fun c.K "all_orders" "all_orders" st_all_orders (a 26) (d 26)
  b26 : Binds c.K (d 26) ["items"] []
  m26 : mg "all_orders" = some (.ref (a 26))
  F48 : Fun c.K "builds_after" "builds_after" st_builds_after (a 48) (d 48)
  b48 : Binds c.K (d 48) ["room", "build", "people"] []
  m48 : mg "builds_after" = some (.ref (a 48))
  F64 : Fun c.K "possible_answers" "possible_answers" st_possible_answers (a 64) (d 64)
  b64 : Binds c.K (d 64) ["archive", "room", "delay", "position", "wish"] []
  m64 : mg "possible_answers" = some (.ref (a 64))
  F61 : Fun c.K "possible_wishes" "possible_wishes" st_possible_wishes (a 61) (d 61)
  b61 : Binds c.K (d 61) ["position"] []
  m61 : mg "possible_wishes" = some (.ref (a 61))
  F6602 : Fun c.K "moves" "Play.moves" st_Play_moves (a 6602) (d 6602)
  b6602 : Binds c.K (d 6602) ["self", "place"] []
  h6602 : PySem.W.findIn c.K (.ref (c.cl 1)) "moves" = some (some (.ref (a 6602)))
  hf6602 : PySem.W.isFn c.K (.ref (a 6602)) = true
  F17 : Fun c.K "comes_to_more" "comes_to_more" st_comes_to_more (a 17) (d 17)
  b17 : Binds c.K (d 17) ["play", "start", "most"] []
  m17 : mg "comes_to_more" = some (.ref (a 17))
  F18 : Fun c.K "least_from" "least_from" st_least_from (a 18) (d 18)
  b18 : Binds c.K (d 18) ["play", "place", "known"] []
  m18 : mg "least_from" = some (.ref (a 18))
  F19 : Fun c.K "is_enough_at" "is_enough_at" st_is_enough_at (a 19) (d 19)
  b19 : Binds c.K (d 19) ["play", "heights", "place"] []
  m19 : mg "is_enough_at" = some (.ref (a 19))
  F20 : Fun c.K "is_needed_at" "is_needed_at" st_is_needed_at (a 20) (d 20)
  b20 : Binds c.K (d 20) ["play", "floors", "place"] []
  m20 : mg "is_needed_at" = some (.ref (a 20))
  F57 : Fun c.K "is_waiting_wish" "is_waiting_wish" st_is_waiting_wish (a 57) (d 57)
  b57 : Binds c.K (d 57) ["order", "delay", "pair"] []
  m57 : mg "is_waiting_wish" = some (.ref (a 57))
  F58 : Fun c.K "are_waiting_wishes" "are_waiting_wishes" st_are_waiting_wishes (a 58) (d 58)
  b58 : Binds c.K (d 58) ["order", "delay", "waiting"] []
  m58 : mg "are_waiting_wishes" = some (.ref (a 58))
  F41 : Fun c.K "is_build" "is_build" st_is_build (a 41) (d 41)
  b41 : Binds c.K (d 41) ["archive", "room", "build"] []
  m41 : mg "is_build" = some (.ref (a 41))
  F59 : Fun c.K "is_position" "is_position" st_is_position (a 59) (d 59)
  b59 : Binds c.K (d 59) ["archive", "room", "delay", "position"] []
  m59 : mg "is_position" = some (.ref (a 59))
  F6601 : Fun c.K "has" "Play.has" st_Play_has (a 6601) (d 6601)
  b6601 : Binds c.K (d 6601) ["self", "place"] []
  h6601 : PySem.W.findIn c.K (.ref (c.cl 1)) "has" = some (some (.ref (a 6601)))
  hf6601 : PySem.W.isFn c.K (.ref (a 6601)) = true
  F21 : Fun c.K "are_heights" "are_heights" st_are_heights (a 21) (d 21)
  b21 : Binds c.K (d 21) ["play", "heights", "start", "most"] []
  m21 : mg "are_heights" = some (.ref (a 21))
  F22 : Fun c.K "are_floors" "are_floors" st_are_floors (a 22) (d 22)
  b22 : Binds c.K (d 22) ["play", "floors", "starts", "least"] []
  m22 : mg "are_floors" = some (.ref (a 22))
  F23 : Fun c.K "copied" "copied" st_copied (a 23) (d 23)
  b23 : Binds c.K (d 23) ["table"] []
  m23 : mg "copied" = some (.ref (a 23))
  F24 : Fun c.K "just_enough" "just_enough" st_just_enough (a 24) (d 24)
  b24 : Binds c.K (d 24) ["pairs"] []
  m24 : mg "just_enough" = some (.ref (a 24))
  F3300 : Fun c.K "__init__" "Archive.__init__" st_Archive___init (a 3300) (d 3300)
  b3300 : Binds c.K (d 3300) ["self", "sizes"] []
  M0 : Mk c.K (c.cl 0) (a 3300)
  F34 : Fun c.K "check_archive" "check_archive" st_check_archive (a 34) (d 34)
  b34 : Binds c.K (d 34) ["archive"] []
  m34 : mg "check_archive" = some (.ref (a 34))
  F35 : Fun c.K "check_room" "check_room" st_check_room (a 35) (d 35)
  b35 : Binds c.K (d 35) ["room"] []
  m35 : mg "check_room" = some (.ref (a 35))
  F36 : Fun c.K "check_few" "check_few" st_check_few (a 36) (d 36)
  b36 : Binds c.K (d 36) ["archive"] []
  m36 : mg "check_few" = some (.ref (a 36))
  F37 : Fun c.K "people_of" "people_of" st_people_of (a 37) (d 37)
  b37 : Binds c.K (d 37) ["archive"] []
  m37 : mg "people_of" = some (.ref (a 37))
  F38 : Fun c.K "builds_of" "builds_of" st_builds_of (a 38) (d 38)
  b38 : Binds c.K (d 38) ["people", "room"] []
  m38 : mg "builds_of" = some (.ref (a 38))
  F39 : Fun c.K "builds" "builds" st_builds (a 39) (d 39)
  b39 : Binds c.K (d 39) ["archive", "room"] []
  m39 : mg "builds" = some (.ref (a 39))
  F42 : Fun c.K "check_build" "check_build" st_check_build (a 42) (d 42)
  b42 : Binds c.K (d 42) ["archive", "room", "build"] []
  m42 : mg "check_build" = some (.ref (a 42))
  F43 : Fun c.K "are_people" "are_people" st_are_people (a 43) (d 43)
  b43 : Binds c.K (d 43) ["build", "people"] []
  m43 : mg "are_people" = some (.ref (a 43))
  F44 : Fun c.K "check_forgetting" "check_forgetting" st_check_forgetting (a 44) (d 44)
  b44 : Binds c.K (d 44) ["archive", "room", "build", "people"] []
  m44 : mg "check_forgetting" = some (.ref (a 44))
  F49 : Fun c.K "work" "work" st_work (a 49) (d 49)
  b49 : Binds c.K (d 49) ["archive", "room", "build", "people"] []
  m49 : mg "work" = some (.ref (a 49))
  F50 : Fun c.K "after" "after" st_after (a 50) (d 50)
  b50 : Binds c.K (d 50) ["archive", "room", "build", "people"] []
  m50 : mg "after" = some (.ref (a 50))
  F54 : Fun c.K "check_delay" "check_delay" st_check_delay (a 54) (d 54)
  b54 : Binds c.K (d 54) ["delay"] []
  m54 : mg "check_delay" = some (.ref (a 54))
  F55 : Fun c.K "check_ticks" "check_ticks" st_check_ticks (a 55) (d 55)
  b55 : Binds c.K (d 55) ["ticks"] []
  m55 : mg "check_ticks" = some (.ref (a 55))
  F56 : Fun c.K "check_play" "check_play" st_check_play (a 56) (d 56)
  b56 : Binds c.K (d 56) ["archive", "room", "delay"] []
  m56 : mg "check_play" = some (.ref (a 56))
  F60 : Fun c.K "check_position" "check_position" st_check_position (a 60) (d 60)
  b60 : Binds c.K (d 60) ["archive", "room", "delay", "position"] []
  m60 : mg "check_position" = some (.ref (a 60))
  F62 : Fun c.K "is_wish" "is_wish" st_is_wish (a 62) (d 62)
  b62 : Binds c.K (d 62) ["position", "wish"] []
  m62 : mg "is_wish" = some (.ref (a 62))
  F65 : Fun c.K "start_of" "start_of" st_start_of (a 65) (d 65)
  b65 : Binds c.K (d 65) ["build", "ticks"] []
  m65 : mg "start_of" = some (.ref (a 65))
  F6600 : Fun c.K "__init__" "Play.__init__" st_Play___init (a 6600) (d 6600)
  b6600 : Binds c.K (d 6600) ["self", "archive", "room", "delay"] []
  M1 : Mk c.K (c.cl 1) (a 6600)
  F67 : Fun c.K "wishes" "wishes" st_wishes (a 67) (d 67)
  b67 : Binds c.K (d 67) ["archive", "room", "delay", "position"] []
  m67 : mg "wishes" = some (.ref (a 67))
  F68 : Fun c.K "answers" "answers" st_answers (a 68) (d 68)
  b68 : Binds c.K (d 68) ["archive", "room", "delay", "position", "wish"] []
  m68 : mg "answers" = some (.ref (a 68))
  F7100 : Fun c.K "__init__" "Total.__init__" st_Total___init (a 7100) (d 7100)
  b7100 : Binds c.K (d 7100) ["self", "bound", "heights", "floors"] []
  M2 : Mk c.K (c.cl 2) (a 7100)
  F7102 : Fun c.K "shows" "Total.shows" st_Total_shows (a 7102) (d 7102)
  b7102 : Binds c.K (d 7102) ["self", "archive", "room", "delay", "position"] []
  h7102 : PySem.W.findIn c.K (.ref (c.cl 2)) "shows" = some (some (.ref (a 7102)))
  hf7102 : PySem.W.isFn c.K (.ref (a 7102)) = true
  F72 : Fun c.K "begin" "begin" st_begin (a 72) (d 72)
  b72 : Binds c.K (d 72) ["archive", "room", "delay", "build", "ticks"] []
  m72 : mg "begin" = some (.ref (a 72))
  F73 : Fun c.K "total" "total" st_total (a 73) (d 73)
  b73 : Binds c.K (d 73) ["archive", "room", "delay", "position"] []
  m73 : mg "total" = some (.ref (a 73))
  F74 : Fun c.K "least_work" "least_work" st_least_work (a 74) (d 74)
  b74 : Binds c.K (d 74) ["archive", "room", "delay", "position"] []
  m74 : mg "least_work" = some (.ref (a 74))
  F7600 : Fun c.K "__init__" "Choice.__init__" st_Choice___init (a 7600) (d 7600)
  b7600 : Binds c.K (d 7600) ["self", "build", "bound", "heights", "floors"] []
  M3 : Mk c.K (c.cl 3) (a 7600)
  F77 : Fun c.K "check_choosing" "check_choosing" st_check_choosing (a 77) (d 77)
  b77 : Binds c.K (d 77) ["archive", "room", "delay", "ticks"] []
  m77 : mg "check_choosing" = some (.ref (a 77))
  F78 : Fun c.K "is_whole_build" "is_whole_build" st_is_whole_build (a 78) (d 78)
  b78 : Binds c.K (d 78) ["archive", "room", "build"] []
  m78 : mg "is_whole_build" = some (.ref (a 78))
  F7602 : Fun c.K "shows" "Choice.shows" st_Choice_shows (a 7602) (d 7602)
  b7602 : Binds c.K (d 7602) ["self", "archive", "room", "delay", "ticks"] []
  h7602 : PySem.W.findIn c.K (.ref (c.cl 3)) "shows" = some (some (.ref (a 7602)))
  hf7602 : PySem.W.isFn c.K (.ref (a 7602)) = true
  F79 : Fun c.K "choose" "choose" st_choose (a 79) (d 79)
  b79 : Binds c.K (d 79) ["archive", "room", "delay", "ticks"] []
  m79 : mg "choose" = some (.ref (a 79))
  F80 : Fun c.K "best_work" "best_work" st_best_work (a 80) (d 80)
  b80 : Binds c.K (d 80) ["archive", "room", "delay", "ticks"] []
  m80 : mg "best_work" = some (.ref (a 80))
  F81 : Fun c.K "least_pairs" "least_pairs" st_least_pairs (a 81) (d 81)
  b81 : Binds c.K (d 81) ["archive", "delay", "ticks"] []
  m81 : mg "least_pairs" = some (.ref (a 81))
  F83 : Fun c.K "_law_works_right" "_law_works_right" st_u_law_works_right (a 83) (d 83)
  b83 : Binds c.K (d 83) ["_law_three"] []
  m83 : mg "_law_works_right" = some (.ref (a 83))
  F84 : Fun c.K "_law_play_right" "_law_play_right" st_u_law_play_right (a 84) (d 84)
  b84 : Binds c.K (d 84) ["_law_three"] []
  m84 : mg "_law_play_right" = some (.ref (a 84))
  F85 : Fun c.K "_law_totals_right" "_law_totals_right" st_u_law_totals_right (a 85) (d 85)
  b85 : Binds c.K (d 85) ["_law_three"] []
  m85 : mg "_law_totals_right" = some (.ref (a 85))
  F86 : Fun c.K "_law_choices_right" "_law_choices_right" st_u_law_choices_right (a 86) (d 86)
  b86 : Binds c.K (d 86) ["_law_three"] []
  m86 : mg "_law_choices_right" = some (.ref (a 86))
  F87 : Fun c.K "law" "law" st_law (a 87) (d 87)
  b87 : Binds c.K (d 87) ["_law_script"] []
  m87 : mg "law" = some (.ref (a 87))
  g29 : ∃ u, mg "MOST_PEOPLE" = some u ∧ RelV (.int 4) u
  g30 : ∃ u, mg "MOST_SIZE" = some u ∧ RelV (.int 4) u
  g31 : ∃ u, mg "MOST_ROOM" = some u ∧ RelV (.int 3) u
  g32 : ∃ u, mg "FEW_PEOPLE" = some u ∧ RelV (.int 3) u
  g52 : ∃ u, mg "MOST_DELAY" = some u ∧ RelV (.int 2) u
  g53 : ∃ u, mg "MOST_TICKS" = some u ∧ RelV (.int 4) u
  g70 : ∃ u, mg "MOST_POSITIONS" = some u ∧ RelV (.int 500) u
  K0 : IsK c 0
  mc0 : mg "Archive" = some (.ref (c.cl 0))
  fn0 : c.fn 0 = (["_sizes"] : List Str)
  hn0 : PySem.W.findIn c.K (.ref (c.cl 0)) "__ne__" = some (some (.builtin "object.__ne__"))
  na0_0 : NoAttr c.K (c.cl 0) "_sizes"
  naAll_0_0 : ∀ q, NoAttr c.K (c.cl q) "_sizes"
  K1 : IsK c 1
  mc1 : mg "Play" = some (.ref (c.cl 1))
  fn1 : c.fn 1 = (["archive", "room", "delay"] : List Str)
  na1_0 : NoAttr c.K (c.cl 1) "archive"
  naAll_1_0 : ∀ q, NoAttr c.K (c.cl q) "archive"
  na1_1 : NoAttr c.K (c.cl 1) "room"
  naAll_1_1 : ∀ q, NoAttr c.K (c.cl q) "room"
  na1_2 : NoAttr c.K (c.cl 1) "delay"
  naAll_1_2 : ∀ q, NoAttr c.K (c.cl q) "delay"
  K2 : IsK c 2
  mc2 : mg "Total" = some (.ref (c.cl 2))
  fn2 : c.fn 2 = (["bound", "heights", "floors"] : List Str)
  hn2 : PySem.W.findIn c.K (.ref (c.cl 2)) "__ne__" = some (some (.builtin "object.__ne__"))
  na2_0 : NoAttr c.K (c.cl 2) "bound"
  naAll_2_0 : ∀ q, NoAttr c.K (c.cl q) "bound"
  na2_1 : NoAttr c.K (c.cl 2) "heights"
  naAll_2_1 : ∀ q, NoAttr c.K (c.cl q) "heights"
  na2_2 : NoAttr c.K (c.cl 2) "floors"
  naAll_2_2 : ∀ q, NoAttr c.K (c.cl q) "floors"
  K3 : IsK c 3
  mc3 : mg "Choice" = some (.ref (c.cl 3))
  fn3 : c.fn 3 = (["build", "bound", "heights", "floors"] : List Str)
  hn3 : PySem.W.findIn c.K (.ref (c.cl 3)) "__ne__" = some (some (.builtin "object.__ne__"))
  na3_0 : NoAttr c.K (c.cl 3) "build"
  naAll_3_0 : ∀ q, NoAttr c.K (c.cl q) "build"
  na3_1 : NoAttr c.K (c.cl 3) "bound"
  naAll_3_1 : ∀ q, NoAttr c.K (c.cl q) "bound"
  na3_2 : NoAttr c.K (c.cl 3) "heights"
  naAll_3_2 : ∀ q, NoAttr c.K (c.cl q) "heights"
  na3_3 : NoAttr c.K (c.cl 3) "floors"
  naAll_3_3 : ∀ q, NoAttr c.K (c.cl q) "floors"
  clAll : ∀ q, Cls c.K (c.cl q)
  z_all : mg "all" = none
  z_any : mg "any" = none
  z_bool : mg "bool" = none
  z_dict : mg "dict" = none
  z_int : mg "int" = none
  z_isinstance : mg "isinstance" = none
  z_iter : mg "iter" = none
  z_len : mg "len" = none
  z_list : mg "list" = none
  z_max : mg "max" = none
  z_min : mg "min" = none
  z_range : mg "range" = none
  z_sorted : mg "sorted" = none
  z_sum : mg "sum" = none
  z_tuple : mg "tuple" = none
section
variable {P : Program} {w : World} {c : Cs} {mg : Str → Option Value} {base : Heap} {a : Nat → Addr} {d : Nat → FuncData}
theorem Tx.fj0_0 (T : Tx c mg a d) : (c.fn 0)[0]? = some ("_sizes" : Str) := by rw [T.fn0]; rfl
theorem Tx.nd0 (T : Tx c mg a d) : (c.fn 0).Nodup := by rw [T.fn0]; decide +kernel
theorem Tx.fj1_0 (T : Tx c mg a d) : (c.fn 1)[0]? = some ("archive" : Str) := by rw [T.fn1]; rfl
theorem Tx.fj1_1 (T : Tx c mg a d) : (c.fn 1)[1]? = some ("room" : Str) := by rw [T.fn1]; rfl
theorem Tx.fj1_2 (T : Tx c mg a d) : (c.fn 1)[2]? = some ("delay" : Str) := by rw [T.fn1]; rfl
theorem Tx.nd1 (T : Tx c mg a d) : (c.fn 1).Nodup := by rw [T.fn1]; decide +kernel
theorem Tx.fj2_0 (T : Tx c mg a d) : (c.fn 2)[0]? = some ("bound" : Str) := by rw [T.fn2]; rfl
theorem Tx.fj2_1 (T : Tx c mg a d) : (c.fn 2)[1]? = some ("heights" : Str) := by rw [T.fn2]; rfl
theorem Tx.fj2_2 (T : Tx c mg a d) : (c.fn 2)[2]? = some ("floors" : Str) := by rw [T.fn2]; rfl
theorem Tx.nd2 (T : Tx c mg a d) : (c.fn 2).Nodup := by rw [T.fn2]; decide +kernel
theorem Tx.fj3_0 (T : Tx c mg a d) : (c.fn 3)[0]? = some ("build" : Str) := by rw [T.fn3]; rfl
theorem Tx.fj3_1 (T : Tx c mg a d) : (c.fn 3)[1]? = some ("bound" : Str) := by rw [T.fn3]; rfl
theorem Tx.fj3_2 (T : Tx c mg a d) : (c.fn 3)[2]? = some ("heights" : Str) := by rw [T.fn3]; rfl
theorem Tx.fj3_3 (T : Tx c mg a d) : (c.fn 3)[3]? = some ("floors" : Str) := by rw [T.fn3]; rfl
theorem Tx.nd3 (T : Tx c mg a d) : (c.fn 3).Nodup := by rw [T.fn3]; decide +kernel
theorem Tx.no1_1 (T : Tx c mg a d) : ("has" : Str) ∉ c.fn 1 := by rw [T.fn1]; decide +kernel
theorem Tx.no1_2 (T : Tx c mg a d) : ("moves" : Str) ∉ c.fn 1 := by rw [T.fn1]; decide +kernel
theorem Tx.no2_2 (T : Tx c mg a d) : ("shows" : Str) ∉ c.fn 2 := by rw [T.fn2]; decide +kernel
theorem Tx.no3_2 (T : Tx c mg a d) : ("shows" : Str) ∉ c.fn 3 := by rw [T.fn3]; decide +kernel
theorem Tx.Kall (T : Tx c mg a d) : ∀ k ∈ [0, 1, 2, 3], IsK c k := by
  intro k hk
  simp only [List.mem_cons, List.not_mem_nil, or_false] at hk
  rcases hk with rfl | rfl | rfl | rfl
  · exact T.K0
  · exact T.K1
  · exact T.K2
  · exact T.K3
/-! is_integer -/
abbrev N_is_integer : List Str := ["value"]
theorem sc_is_integer : FnScope N_is_integer ["value"] (defScope st_is_integer) := ⟨rfl, rfl, rfl, by decide +kernel, rfl, by decide +kernel, by decide +kernel⟩
def x_is_integer : Sf :=
  (sRet (dAnd (dCB (fIsiR [0, 1, 2, 3]) (dCons (dVar 0) (dCons (dC (.ty "int")) dNil))) (dNot (dCB (fIsiR [0, 1, 2, 3]) (dCons (dVar 0) (dCons (dC (.ty "bool")) dNil))))))
def m_is_integer : Mf := fnD N_is_integer.length x_is_integer
theorem ok_is_integer (T : Tx c mg a d) : FnOk P w c.K mg base CX0 1 (a 12) (d 12) ["value"] (sp0 c m_is_integer 1) := by
  refine T.F12.ok sc_is_integer (fun vs H Q E h => h.1) (fun cdv A outer s H vs Q E hr h => ?_)
  exact ⟨_, (pss_one (ps_ret (pe_and (pe_callB call_isi rfl T.z_isinstance mbt_isinstance (pa_cons (pv 0) (pa_cons (pe_bltn (v := .ty "int") rfl T.z_int mbt_int rfl) pa_nil))) (pe_one (pe_not (pe_callB call_isi rfl T.z_isinstance mbt_isinstance (pa_cons (pv 0) (pa_cons (pe_bltn (v := .ty "bool") rfl T.z_bool mbt_bool rfl) pa_nil)))))))),
    body0 (N := N_is_integer) (x := x_is_integer) (dn_ret (den_andV (den_cb (cd_isiR (al := [0, 1, 2, 3]) T.Kall) (den_cons (den_var (i := 0)) (den_cons den_ty den_nil))) (den_notV (den_cb (cd_isiR (al := [0, 1, 2, 3]) T.Kall) (den_cons (den_var (i := 0)) (den_cons den_ty den_nil)))))) h⟩
/-! Archive.__iter__ -/
abbrev N_Archive___iter : List Str := ["self"]
theorem sc_Archive___iter : FnScope N_Archive___iter ["self"] (defScope st_Archive___iter) := ⟨rfl, rfl, rfl, by decide +kernel, rfl, by decide +kernel, by decide +kernel⟩
def mt_Archive : Mi := itD N_Archive___iter.length (dFld 0 0 (dVar 0))
theorem ok_Archive___iter (T : Tx c mg a d) : FnS P w c.K mg base CX0 1 (a 3302) (d 3302) ["self"] (spIt0 c mt_Archive) := by
  refine okS T.F3302 sc_Archive___iter (fun n vs H Q E h => h.1) (fun cdv A outer s H vs Q E h => ?_)
  exact ⟨_, pss_one (ps_ret (pe_callB cr_iterT rfl T.z_iter mbt_iter (pa_cons (pe_fld (pv 0) rfl) pa_nil))),
    iter_ok (N := N_Archive___iter) (den_fld (k := 0) (j := 0) T.K0.cl T.na0_0 T.nd0 T.fj0_0 (den_var (i := 0))) h⟩
/-! Choice.__eq__ -/
abbrev N_Choice___eq : List Str := ["self", "other"]
theorem sc_Choice___eq : FnScope N_Choice___eq ["self", "other"] (defScope st_Choice___eq) := ⟨rfl, rfl, rfl, by decide +kernel, rfl, by decide +kernel, by decide +kernel⟩
def x_Choice___eq : Sf :=
  (sRet (dAnd (dCB (fIsiR [0, 1, 2, 3]) (dCons (dVar 1) (dCons (dC (.cls 3)) dNil))) (dAnd (dBin fEq (dFld 3 0 (dVar 0)) (dFld 3 0 (dVar 1))) (dAnd (dBin fEq (dFld 3 1 (dVar 0)) (dFld 3 1 (dVar 1))) (dAnd (dDEq (dFld 3 2 (dVar 0)) (dFld 3 2 (dVar 1))) (dDEq (dFld 3 3 (dVar 0)) (dFld 3 3 (dVar 1))))))))
def m_Choice___eq : Mf := fnD N_Choice___eq.length x_Choice___eq
theorem ok_Choice___eq (T : Tx c mg a d) : FnOk P w c.K mg base CX0 1 (a 7601) (d 7601) ["self", "other"] (sp0 c m_Choice___eq 2) := by
  refine T.F7601.ok sc_Choice___eq (fun vs H Q E h => h.1) (fun cdv A outer s H vs Q E hr h => ?_)
  exact ⟨_, (pss_one (ps_ret (pe_and (pe_callB call_isi rfl T.z_isinstance mbt_isinstance (pa_cons (pv 1) (pa_cons (pe_glob (v := .ref (c.cl 3)) rfl T.mc3 rfl) pa_nil))) (pe_and (pe_cmpR (op_eqD hr.units) (pe_fld (pv 0) rfl) (pe_fld (pv 1) rfl) (nomark _)) (pe_and (pe_cmpR (op_eqD hr.units) (pe_fld (pv 0) rfl) (pe_fld (pv 1) rfl) (nomark _)) (pe_and (pe_cmpR (op_neq (units65 hr)) (pe_fld (pv 0) rfl) (pe_fld (pv 1) rfl) (nomark _)) (pe_one (pe_cmpR (op_neq (units65 hr)) (pe_fld (pv 0) rfl) (pe_fld (pv 1) rfl) (nomark _))))))))),
    body0 (N := N_Choice___eq) (x := x_Choice___eq) (dn_ret (den_andV (den_cb (cd_isiR (al := [0, 1, 2, 3]) T.Kall) (den_cons (den_var (i := 1)) (den_cons (den_cls (k := 3)) den_nil))) (den_andV (den_bin od_eq (den_fld (k := 3) (j := 0) T.K3.cl T.na3_0 T.nd3 T.fj3_0 (den_var (i := 0))) (den_fld (k := 3) (j := 0) T.K3.cl T.na3_0 T.nd3 T.fj3_0 (den_var (i := 1)))) (den_andV (den_bin od_eq (den_fld (k := 3) (j := 1) T.K3.cl T.na3_1 T.nd3 T.fj3_1 (den_var (i := 0))) (den_fld (k := 3) (j := 1) T.K3.cl T.na3_1 T.nd3 T.fj3_1 (den_var (i := 1)))) (den_andV (den_dEq (den_fld (k := 3) (j := 2) T.K3.cl T.na3_2 T.nd3 T.fj3_2 (den_var (i := 0))) (den_fld (k := 3) (j := 2) T.K3.cl T.na3_2 T.nd3 T.fj3_2 (den_var (i := 1)))) (den_dEq (den_fld (k := 3) (j := 3) T.K3.cl T.na3_3 T.nd3 T.fj3_3 (den_var (i := 0))) (den_fld (k := 3) (j := 3) T.K3.cl T.na3_3 T.nd3 T.fj3_3 (den_var (i := 1))))))))) h⟩
/-! Archive.__eq__ -/
abbrev N_Archive___eq : List Str := ["self", "other"]
theorem sc_Archive___eq : FnScope N_Archive___eq ["self", "other"] (defScope st_Archive___eq) := ⟨rfl, rfl, rfl, by decide +kernel, rfl, by decide +kernel, by decide +kernel⟩
def x_Archive___eq : Sf :=
  (sRet (dAnd (dCB (fIsiR [0, 1, 2, 3]) (dCons (dVar 1) (dCons (dC (.cls 0)) dNil))) (dBin fEq (dFld 0 0 (dVar 0)) (dFld 0 0 (dVar 1)))))
def m_Archive___eq : Mf := fnD N_Archive___eq.length x_Archive___eq
theorem ok_Archive___eq (T : Tx c mg a d) : FnOk P w c.K mg base CX0 1 (a 3304) (d 3304) ["self", "other"] (sp0 c m_Archive___eq 2) := by
  refine T.F3304.ok sc_Archive___eq (fun vs H Q E h => h.1) (fun cdv A outer s H vs Q E hr h => ?_)
  exact ⟨_, (pss_one (ps_ret (pe_and (pe_callB call_isi rfl T.z_isinstance mbt_isinstance (pa_cons (pv 1) (pa_cons (pe_glob (v := .ref (c.cl 0)) rfl T.mc0 rfl) pa_nil))) (pe_one (pe_cmpR (op_eqD hr.units) (pe_fld (pv 0) rfl) (pe_fld (pv 1) rfl) (nomark _)))))),
    body0 (N := N_Archive___eq) (x := x_Archive___eq) (dn_ret (den_andV (den_cb (cd_isiR (al := [0, 1, 2, 3]) T.Kall) (den_cons (den_var (i := 1)) (den_cons (den_cls (k := 0)) den_nil))) (den_bin od_eq (den_fld (k := 0) (j := 0) T.K0.cl T.na0_0 T.nd0 T.fj0_0 (den_var (i := 0))) (den_fld (k := 0) (j := 0) T.K0.cl T.na0_0 T.nd0 T.fj0_0 (den_var (i := 1)))))) h⟩
/-! Total.__eq__ -/
abbrev N_Total___eq : List Str := ["self", "other"]
theorem sc_Total___eq : FnScope N_Total___eq ["self", "other"] (defScope st_Total___eq) := ⟨rfl, rfl, rfl, by decide +kernel, rfl, by decide +kernel, by decide +kernel⟩
def x_Total___eq : Sf :=
  (sRet (dAnd (dCB (fIsiR [0, 1, 2, 3]) (dCons (dVar 1) (dCons (dC (.cls 2)) dNil))) (dAnd (dBin fEq (dFld 2 0 (dVar 0)) (dFld 2 0 (dVar 1))) (dAnd (dDEq (dFld 2 1 (dVar 0)) (dFld 2 1 (dVar 1))) (dDEq (dFld 2 2 (dVar 0)) (dFld 2 2 (dVar 1)))))))
def m_Total___eq : Mf := fnD N_Total___eq.length x_Total___eq
theorem ok_Total___eq (T : Tx c mg a d) : FnOk P w c.K mg base CX0 1 (a 7101) (d 7101) ["self", "other"] (sp0 c m_Total___eq 2) := by
  refine T.F7101.ok sc_Total___eq (fun vs H Q E h => h.1) (fun cdv A outer s H vs Q E hr h => ?_)
  exact ⟨_, (pss_one (ps_ret (pe_and (pe_callB call_isi rfl T.z_isinstance mbt_isinstance (pa_cons (pv 1) (pa_cons (pe_glob (v := .ref (c.cl 2)) rfl T.mc2 rfl) pa_nil))) (pe_and (pe_cmpR (op_eqD hr.units) (pe_fld (pv 0) rfl) (pe_fld (pv 1) rfl) (nomark _)) (pe_and (pe_cmpR (op_neq (units65 hr)) (pe_fld (pv 0) rfl) (pe_fld (pv 1) rfl) (nomark _)) (pe_one (pe_cmpR (op_neq (units65 hr)) (pe_fld (pv 0) rfl) (pe_fld (pv 1) rfl) (nomark _)))))))),
    body0 (N := N_Total___eq) (x := x_Total___eq) (dn_ret (den_andV (den_cb (cd_isiR (al := [0, 1, 2, 3]) T.Kall) (den_cons (den_var (i := 1)) (den_cons (den_cls (k := 2)) den_nil))) (den_andV (den_bin od_eq (den_fld (k := 2) (j := 0) T.K2.cl T.na2_0 T.nd2 T.fj2_0 (den_var (i := 0))) (den_fld (k := 2) (j := 0) T.K2.cl T.na2_0 T.nd2 T.fj2_0 (den_var (i := 1)))) (den_andV (den_dEq (den_fld (k := 2) (j := 1) T.K2.cl T.na2_1 T.nd2 T.fj2_1 (den_var (i := 0))) (den_fld (k := 2) (j := 1) T.K2.cl T.na2_1 T.nd2 T.fj2_1 (den_var (i := 1)))) (den_dEq (den_fld (k := 2) (j := 2) T.K2.cl T.na2_2 T.nd2 T.fj2_2 (den_var (i := 0))) (den_fld (k := 2) (j := 2) T.K2.cl T.na2_2 T.nd2 T.fj2_2 (den_var (i := 1)))))))) h⟩
/-! Archive.__len__ -/
abbrev N_Archive___len : List Str := ["self"]
theorem sc_Archive___len : FnScope N_Archive___len ["self"] (defScope st_Archive___len) := ⟨rfl, rfl, rfl, by decide +kernel, rfl, by decide +kernel, by decide +kernel⟩
def x_Archive___len : Sf :=
  (sRet (dCB fLen (dCons (dFld 0 0 (dVar 0)) dNil)))
def m_Archive___len : Mf := fnD N_Archive___len.length x_Archive___len
theorem ok_Archive___len (T : Tx c mg a d) : FnOk P w c.K mg base CX0 1 (a 3303) (d 3303) ["self"] (sp0 c m_Archive___len 1) := by
  refine T.F3303.ok sc_Archive___len (fun vs H Q E h => h.1) (fun cdv A outer s H vs Q E hr h => ?_)
  exact ⟨_, (pss_one (ps_ret (pe_callB cr_len2 rfl T.z_len mbt_len (pa_cons (pe_fld (pv 0) rfl) pa_nil)))),
    body0 (N := N_Archive___len) (x := x_Archive___len) (dn_ret (den_cb cd_len (den_cons (den_fld (k := 0) (j := 0) T.K0.cl T.na0_0 T.nd0 T.fj0_0 (den_var (i := 0))) den_nil))) h⟩
/-! is_within -/
abbrev N_is_within : List Str := ["value", "least", "most"]
theorem sc_is_within : FnScope N_is_within ["value", "least", "most"] (defScope st_is_within) := ⟨rfl, rfl, rfl, by decide +kernel, rfl, by decide +kernel, by decide +kernel⟩
def x_is_within : Sf :=
  (sRet (dAnd (dCall (pur m_is_integer) 1 (dCons (dVar 0) dNil)) (dChain fLe fLe (dVar 1) (dVar 0) (dVar 2))))
def m_is_within : Mf := fnD N_is_within.length x_is_within
theorem ok_is_within (T : Tx c mg a d) : FnOk P w c.K mg base CX0 2 (a 13) (d 13) ["value", "least", "most"] (sp0 c m_is_within 3) := by
  refine T.F13.ok sc_is_within (fun vs H Q E h => h.1) (fun cdv A outer s H vs Q E hr h => ?_)
  exact ⟨_, (pss_one (ps_ret (pe_and (pe_call (ok_is_integer T) (hr.mono (by decide)) rfl T.m12 T.F12.kp T.b12 .nil pass0 (pa_cons (pv 0) pa_nil)) (pe_one (pe_chain op_le op_le (pv 1) (pv 0) (pv 2)))))),
    body0 (N := N_is_within) (x := x_is_within) (dn_ret (den_andV (den_callP0 (den_cons (den_var (i := 0)) den_nil)) (den_chain od_le od_le (den_var (i := 1)) (den_var (i := 0)) (den_var (i := 2))))) h⟩
/-! is_tuple_within -/
abbrev N_is_tuple_within : List Str := ["value", "least", "most", "item"]
theorem sc_is_tuple_within : FnScope N_is_tuple_within ["value", "least", "most"] (defScope st_is_tuple_within) := ⟨rfl, rfl, rfl, by decide +kernel, rfl, by decide +kernel, by decide +kernel⟩
def x_is_tuple_within : Sf :=
  (sRet (dAnd (dCB (fIsiR [0, 1, 2, 3]) (dCons (dVar 0) (dCons (dC (.ty "tuple")) dNil))) (dCB fAll (dCons (dOfL (dComp (wSeq (dVar 0)) (.nm 3) eYes (dCall (pur m_is_within) 3 (dCons (dVar 3) (dCons (dVar 1) (dCons (dVar 2) dNil)))) [3])) dNil))))
def m_is_tuple_within : Mf := fnD N_is_tuple_within.length x_is_tuple_within
theorem ok_is_tuple_within (T : Tx c mg a d) : FnOk P w c.K mg base CX0 3 (a 14) (d 14) ["value", "least", "most"] (sp0 c m_is_tuple_within 3) := by
  refine T.F14.ok sc_is_tuple_within (fun vs H Q E h => h.1) (fun cdv A outer s H vs Q E hr h => ?_)
  exact ⟨_, (pss_one (ps_ret (pe_and (pe_callB call_isi rfl T.z_isinstance mbt_isinstance (pa_cons (pv 0) (pa_cons (pe_bltn (v := .ty "tuple") rfl T.z_tuple mbt_tuple rfl) pa_nil))) (pe_one (pe_callB (cr_all rfl) rfl T.z_all mbt_all (pa_cons (pe_lc (own := [("item", 3)]) rfl sc_is_tuple_within.nd (pi_seq (pv 0)) (blkOk_by (N := N_is_tuple_within) (sc := defScope st_is_tuple_within) (by decide +kernel)) (fun _ _ _ _ _ => (pg_name (i := 3) sc_is_tuple_within.nd rfl (by first | exact Or.inl rfl | exact Or.inr rfl))) (fun _ _ _ _ _ => pts_nil) (fun _ _ _ _ _ => (pe_call (ok_is_within T) (hr.mono (by decide)) rfl T.m13 T.F13.kp T.b13 .nil pass0 (pa_cons (pv 3) (pa_cons (pv 1) (pa_cons (pv 2) pa_nil)))))) pa_nil)))))),
    body0 (N := N_is_tuple_within) (x := x_is_tuple_within) (dn_ret (den_andV (den_cb (cd_isiR (al := [0, 1, 2, 3]) T.Kall) (den_cons (den_var (i := 0)) (den_cons den_ty den_nil))) (den_cb cd_all (den_cons (den_ofL (den_comp (p := (.nm 3)) (vs := [3]) (SrcS.x (src_seq (den_var (i := 0)))) den_yes (den_callP0 (den_cons (den_var (i := 3)) (den_cons (den_var (i := 1)) (den_cons (den_var (i := 2)) den_nil)))) rfl)) den_nil)))) h⟩
/-! is_ascending -/
abbrev N_is_ascending : List Str := ["items", "at"]
theorem sc_is_ascending : FnScope N_is_ascending ["items"] (defScope st_is_ascending) := ⟨rfl, rfl, rfl, by decide +kernel, rfl, by decide +kernel, by decide +kernel⟩
def x_is_ascending : Sf :=
  (sRet (dCB fAll (dCons (dOfL (dComp (wRng2 (dCons (dC (.int 1)) (dCons (dCB fLen (dCons (dVar 0) dNil)) dNil))) (.nm 1) eYes (dBin fLt (dBin fIx (dVar 0) (dBin fSub (dVar 1) (dC (.int 1)))) (dBin fIx (dVar 0) (dVar 1))) [1])) dNil)))
def m_is_ascending : Mf := fnD N_is_ascending.length x_is_ascending
theorem ok_is_ascending (T : Tx c mg a d) : FnOk P w c.K mg base CX0 1 (a 15) (d 15) ["items"] (sp0 c m_is_ascending 1) := by
  refine T.F15.ok sc_is_ascending (fun vs H Q E h => h.1) (fun cdv A outer s H vs Q E hr h => ?_)
  exact ⟨_, (pss_one (ps_ret (pe_callB (cr_all rfl) rfl T.z_all mbt_all (pa_cons (pe_lc (own := [("at", 1)]) rfl sc_is_ascending.nd (pi_range2 rfl T.z_range (pa_cons pe_int (pa_cons (pe_callB cr_len2 rfl T.z_len mbt_len (pa_cons (pv 0) pa_nil)) pa_nil))) (blkOk_by (N := N_is_ascending) (sc := defScope st_is_ascending) (by decide +kernel)) (fun _ _ _ _ _ => (pg_name (i := 1) sc_is_ascending.nd rfl (by first | exact Or.inl rfl | exact Or.inr rfl))) (fun _ _ _ _ _ => pts_nil) (fun _ _ _ _ _ => (pe_cmpR op_lt (pe_ix ix_seq (pv 0) (pe_op op_sub (pv 1) pe_int) (fun _ _ => rfl)) (pe_ix ix_seq (pv 0) (pv 1) (fun _ _ => rfl)) (nomark _)))) pa_nil)))),
    body0 (N := N_is_ascending) (x := x_is_ascending) (dn_ret (den_cb cd_all (den_cons (den_ofL (den_comp (p := (.nm 1)) (vs := [1]) (SrcS.x (src_rng2 (den_cons den_int (den_cons (den_cb cd_len (den_cons (den_var (i := 0)) den_nil)) den_nil)))) den_yes (den_bin od_lt (den_bin od_ix (den_var (i := 0)) (den_bin od_sub (den_var (i := 1)) den_int)) (den_bin od_ix (den_var (i := 0)) (den_var (i := 1)))) rfl)) den_nil))) h⟩
/-! pending_wishes -/
abbrev N_pending_wishes : List Str := ["delay", "position", "wish", "waiting"]
theorem sc_pending_wishes : FnScope N_pending_wishes ["delay", "position", "wish"] (defScope st_pending_wishes) := ⟨rfl, rfl, rfl, by decide +kernel, rfl, by decide +kernel, by decide +kernel⟩
def x_pending_wishes : Sf :=
  (sSeq (sAsg 3 (dBin fIx (dVar 1) (dC (.int 2))))
  (sSeq (sIf (eBl (dBin fIs (dVar 2) (dC .non))) (sRet (dVar 3)) sNext)
  (sRet (dTupL (dSortL (dLst (dStarF (dVar 3) (dCons (dTup (dCons (dVar 2) (dCons (dVar 0) dNil))) dNil))))))))
def m_pending_wishes : Mf := fnD N_pending_wishes.length x_pending_wishes
theorem ok_pending_wishes (T : Tx c mg a d) : FnOk P w c.K mg base CX0 1 (a 63) (d 63) ["delay", "position", "wish"] (sp0 c m_pending_wishes 3) := by
  refine T.F63.ok sc_pending_wishes (fun vs H Q E h => h.1) (fun cdv A outer s H vs Q E hr h => ?_)
  exact ⟨_, (pss_cons (ps_set (i := 3) sc_pending_wishes.nd rfl (by first | exact Or.inl rfl | exact Or.inr rfl) (pe_ix ix_seq (pv 1) pe_int (fun _ _ => rfl)))
      (pss_cons (ps_if (pt_cmpR op_isN (pv 2) pe_non (nomark _)) (pss_one (ps_ret (pv 3))) pss_nil)
      (pss_one (ps_ret (pe_callTy cr_tupZ rfl T.z_tuple mbt_tuple (pa_cons ((pe_callB (cr_sortedD hr.units) rfl T.z_sorted mbt_sorted (pa_cons ((pe_lst (StX.pa_star (pv 3) (pa_cons (pe_tupZ (pa_cons (pv 2) (pa_cons (pv 0) pa_nil))) pa_nil)))) pa_nil))) pa_nil)))))),
    body0 (N := N_pending_wishes) (x := x_pending_wishes) (dn_seq (dn_asg (den_bin od_ix (den_var (i := 1)) den_int))
      (dn_seq (dn_if (den_test (den_bin od_is (den_var (i := 2)) den_non)) (dn_ret (den_var (i := 3))) dn_next)
      (dn_ret (den_tupL (den_FL (den_sortM (den_FL (den_lst (den_star (den_var (i := 3)) (den_cons (den_tup (den_cons (den_var (i := 2)) (den_cons (den_var (i := 0)) den_nil))) den_nil)))))))))) h⟩
/-! Archive.sizes -/
abbrev N_Archive_sizes : List Str := ["self"]
theorem sc_Archive_sizes : FnScope N_Archive_sizes ["self"] (defScope st_Archive_sizes) := ⟨rfl, rfl, rfl, by decide +kernel, rfl, by decide +kernel, by decide +kernel⟩
def x_Archive_sizes : Sf :=
  (sRet (dFld 0 0 (dVar 0)))
def m_Archive_sizes : Mf := fnD N_Archive_sizes.length x_Archive_sizes
theorem ok_Archive_sizes (T : Tx c mg a d) : FnOk P w c.K mg base CX0 1 (a 3301) (d 3301) ["self"] (sp0 c m_Archive_sizes 1) := by
  refine T.F3301.ok sc_Archive_sizes (fun vs H Q E h => h.1) (fun cdv A outer s H vs Q E hr h => ?_)
  exact ⟨_, (pss_one (ps_ret (pe_fld (pv 0) rfl))),
    body0 (N := N_Archive_sizes) (x := x_Archive_sizes) (dn_ret (den_fld (k := 0) (j := 0) T.K0.cl T.na0_0 T.nd0 T.fj0_0 (den_var (i := 0)))) h⟩
/-! base_of -/
abbrev N_base_of : List Str := ["build", "people", "order", "kept", "first", "person", "length"]
theorem sc_base_of : FnScope N_base_of ["build", "people"] (defScope st_base_of) := ⟨rfl, rfl, rfl, by decide +kernel, rfl, by decide +kernel, by decide +kernel⟩
def x_base_of : Sf :=
  (sSeq (sAsgP (.tup (.cons (.nm 2) (.cons (.nm 3) .nil))) (dVar 0))
  (sSeq (sAsg 4 (dCB fMin (dCons (dOfL (dComp (wSeq (dVar 1)) (.nm 5) eYes (dTupIx (dVar 2) (dVar 5)) [5])) dNil)))
  (sRet (dCB fMax (dCons (dOfL (dCatF (dOfL (dLst (dCons (dC (.int 0)) dNil))) (dOfL (dComp (wSeq (dVar 3)) (.nm 6) (eBl (dBin fLe (dVar 6) (dVar 4))) (dVar 6) [6])))) dNil)))))
def m_base_of : Mf := fnD N_base_of.length x_base_of
theorem ok_base_of (T : Tx c mg a d) : FnOk P w c.K mg base CX0 1 (a 45) (d 45) ["build", "people"] (sp0 c m_base_of 2) := by
  refine T.F45.ok sc_base_of (fun vs H Q E h => h.1) (fun cdv A outer s H vs Q E hr h => ?_)
  exact ⟨_, (pss_cons (ps_asg (pv 0) (pg_tup rfl (pgs_cons (pg_name (i := 2) sc_base_of.nd rfl (by first | exact Or.inl rfl | exact Or.inr rfl)) (pgs_cons (pg_name (i := 3) sc_base_of.nd rfl (by first | exact Or.inl rfl | exact Or.inr rfl)) pgs_nil))))
      (pss_cons (ps_set (i := 4) sc_base_of.nd rfl (by first | exact Or.inl rfl | exact Or.inr rfl) (pe_callB (cr_min3 rfl) rfl T.z_min mbt_min (pa_cons (pe_lc (own := [("person", 5)]) rfl sc_base_of.nd (pi_seq (pv 1)) (blkOk_by (N := N_base_of) (sc := defScope st_base_of) (by decide +kernel)) (fun _ _ _ _ _ => (pg_name (i := 5) sc_base_of.nd rfl (by first | exact Or.inl rfl | exact Or.inr rfl))) (fun _ _ _ _ _ => pts_nil) (fun _ _ _ _ _ => (pe_tupI (pv 2) (pv 5)))) pa_nil)))
      (pss_one (ps_ret (pe_callB (cr_max3 rfl) rfl T.z_max mbt_max (pa_cons (pe_op op_addG (pe_lst (pa_cons pe_int pa_nil)) (pe_lc (own := [("length", 6)]) rfl sc_base_of.nd (pi_seq (pv 3)) (blkOk_by (N := N_base_of) (sc := defScope st_base_of) (by decide +kernel)) (fun _ _ _ _ _ => (pg_name (i := 6) sc_base_of.nd rfl (by first | exact Or.inl rfl | exact Or.inr rfl))) (fun _ _ _ _ _ => (pts_one (pt_cmpR op_le (pv 6) (pv 4) (nomark _)))) (fun _ _ _ _ _ => (pv 6)))) pa_nil)))))),
    body0 (N := N_base_of) (x := x_base_of) (dn_seq (dn_asgP (p := (.tup (.cons (.nm 2) (.cons (.nm 3) .nil)))) (den_var (i := 0)))
      (dn_seq (dn_asg (den_cb cd_min (den_cons (den_ofL (den_comp (p := (.nm 5)) (vs := [5]) (SrcS.x (src_seq (den_var (i := 1)))) den_yes (den_tupIx (den_var (i := 2)) (den_var (i := 5))) rfl)) den_nil)))
      (dn_ret (den_cb cd_max (den_cons (den_ofL (den_catF (den_ofL (den_lst (den_cons den_int den_nil))) (den_ofL (den_comp (p := (.nm 6)) (vs := [6]) (SrcS.x (src_seq (den_var (i := 3)))) (den_test (den_bin od_le (den_var (i := 6)) (den_var (i := 4)))) (den_var (i := 6)) rfl)))) den_nil))))) h⟩
/-! built_again -/
abbrev N_built_again : List Str := ["build", "people", "order", "_", "person"]
theorem sc_built_again : FnScope N_built_again ["build", "people"] (defScope st_built_again) := ⟨rfl, rfl, rfl, by decide +kernel, rfl, by decide +kernel, by decide +kernel⟩
def x_built_again : Sf :=
  (sSeq (sAsgP (.tup (.cons (.nm 2) (.cons (.nm 3) .nil))) (dVar 0))
  (sRet (dOfL (dSortL (dComp (wSeq (dSl (dVar 2) (dPart (dCall (pur m_base_of) 2 (dCons (dVar 0) (dCons (dVar 1) dNil)))) dNoPart)) (.nm 4) (eBl (dBin fNotIn (dVar 4) (dVar 1))) (dVar 4) [4])))))
def m_built_again : Mf := fnD N_built_again.length x_built_again
theorem ok_built_again (T : Tx c mg a d) : FnOk P w c.K mg base CX0 2 (a 46) (d 46) ["build", "people"] (sp0 c m_built_again 2) := by
  refine T.F46.ok sc_built_again (fun vs H Q E h => h.1) (fun cdv A outer s H vs Q E hr h => ?_)
  exact ⟨_, (pss_cons (ps_asg (pv 0) (pg_tup rfl (pgs_cons (pg_name (i := 2) sc_built_again.nd rfl (by first | exact Or.inl rfl | exact Or.inr rfl)) (pgs_cons (pg_name (i := 3) sc_built_again.nd rfl (by first | exact Or.inl rfl | exact Or.inr rfl)) pgs_nil))))
      (pss_one (ps_ret (pe_callB (cr_sortedD hr.units) rfl T.z_sorted mbt_sorted (pa_cons ((pe_lc (own := [("person", 4)]) rfl sc_built_again.nd (pi_seq (pe_slice sl_G (pv 2) (po_some (pe_call (ok_base_of T) (hr.mono (by decide)) rfl T.m45 T.F45.kp T.b45 .nil pass0 (pa_cons (pv 0) (pa_cons (pv 1) pa_nil)))) po_none)) (blkOk_by (N := N_built_again) (sc := defScope st_built_again) (by decide +kernel)) (fun _ _ _ _ _ => (pg_name (i := 4) sc_built_again.nd rfl (by first | exact Or.inl rfl | exact Or.inr rfl))) (fun _ _ _ _ _ => (pts_one (pt_cmpR op_notIn_seq (pv 4) (pv 1) (by rfl)))) (fun _ _ _ _ _ => (pv 4)))) pa_nil))))),
    body0 (N := N_built_again) (x := x_built_again) (dn_seq (dn_asgP (p := (.tup (.cons (.nm 2) (.cons (.nm 3) .nil)))) (den_var (i := 0)))
      (dn_ret (den_ofL (den_sortM (den_FL (den_comp (p := (.nm 4)) (vs := [4]) (SrcS.x (src_seq (den_sl (den_var (i := 2)) (den_part (den_callP0 (den_cons (den_var (i := 0)) (den_cons (den_var (i := 1)) den_nil)))) den_noPart))) (den_test (den_bin (od_in (neg := true)) (den_var (i := 4)) (den_var (i := 1)))) (den_var (i := 4)) rfl)))))) h⟩
/-! forgetting_work -/
abbrev N_forgetting_work : List Str := ["archive", "build", "people", "person"]
theorem sc_forgetting_work : FnScope N_forgetting_work ["archive", "build", "people"] (defScope st_forgetting_work) := ⟨rfl, rfl, rfl, by decide +kernel, rfl, by decide +kernel, by decide +kernel⟩
def x_forgetting_work : Sf :=
  (sRet (dCB fSum (dCons (dOfL (dComp (wSeq (dCall (pur m_built_again) 2 (dCons (dVar 1) (dCons (dVar 2) dNil)))) (.nm 3) eYes (dBin fIx (dProp 0 m_Archive_sizes (dVar 0)) (dVar 3)) [3])) dNil)))
def m_forgetting_work : Mf := fnD N_forgetting_work.length x_forgetting_work
theorem ok_forgetting_work (T : Tx c mg a d) : FnOk P w c.K mg base CX0 3 (a 47) (d 47) ["archive", "build", "people"] (sp0 c m_forgetting_work 3) := by
  refine T.F47.ok sc_forgetting_work (fun vs H Q E h => h.1) (fun cdv A outer s H vs Q E hr h => ?_)
  exact ⟨_, (pss_one (ps_ret (pe_callB (cr_sum rfl) rfl T.z_sum mbt_sum (pa_cons (pe_lc (own := [("person", 3)]) rfl sc_forgetting_work.nd (pi_seq (pe_call (ok_built_again T) (hr.mono (by decide)) rfl T.m46 T.F46.kp T.b46 .nil pass0 (pa_cons (pv 1) (pa_cons (pv 2) pa_nil)))) (blkOk_by (N := N_forgetting_work) (sc := defScope st_forgetting_work) (by decide +kernel)) (fun _ _ _ _ _ => (pg_name (i := 3) sc_forgetting_work.nd rfl (by first | exact Or.inl rfl | exact Or.inr rfl))) (fun _ _ _ _ _ => pts_nil) (fun _ _ _ _ _ => (pe_ix ix_seq (pe_prop (pv 0) T.K0.cl T.p3301 (ok_Archive_sizes T) (hr.mono (by decide)) T.b3301 .nil pass0 rfl) (pv 3) (fun _ _ => rfl)))) pa_nil)))),
    body0 (N := N_forgetting_work) (x := x_forgetting_work) (dn_ret (den_cb cd_sum (den_cons (den_ofL (den_comp (p := (.nm 3)) (vs := [3]) (SrcS.x (src_seq (den_callP0 (den_cons (den_var (i := 1)) (den_cons (den_var (i := 2)) den_nil))))) den_yes (den_bin od_ix (den_prop0 (den_var (i := 0))) (den_var (i := 3))) rfl)) den_nil))) h⟩
/-! all_choices -/
abbrev N_all_choices : List Str := ["items", "most", "found", "at", "rest"]
theorem sc_all_choices : FnScope N_all_choices ["items", "most"] (defScope st_all_choices) := ⟨rfl, rfl, rfl, by decide +kernel, rfl, by decide +kernel, by decide +kernel⟩
def x_all_choices (m : Mf) : Sf :=
  (sSeq (sOwn 2 (dLst (dCons (dTup dNil) dNil)))
  (sSeq (sIf (eBl (dBin fEq (dVar 1) (dC (.int 0)))) (sRetOwn 2) sNext)
  (sSeq (sFor (wRng1 (dCons (dCB fLen (dCons (dVar 0) dNil)) dNil)) (.nm 3) (sFor (wSeq (dCall (pur (m)) 2 (dCons (dSl (dVar 0) (dPart (dBin fAdd (dVar 3) (dC (.int 1)))) dNoPart) (dCons (dBin fSub (dVar 1) (dC (.int 1))) dNil)))) (.nm 4) (sApp 2 (dTup (dCons (dBin fIx (dVar 0) (dVar 3)) (dStarF (dVar 4) dNil))))))
  (sRetOwn 2))))
def m_all_choices : Nat → Mf
  | 0 => fun _ _ => .bad
  | n + 1 => fnD N_all_choices.length (x_all_choices (m_all_choices n))
theorem ok_all_choices (T : Tx c mg a d) : ∀ n : Nat, FnOk P w c.K mg base CX0 (0 + n) (a 27) (d 27) ["items", "most"] (sp0 c (m_all_choices n) 2)
  | 0 => fn_bad
  | n + 1 => by
    have ih := ok_all_choices T n
    refine T.F27.ok sc_all_choices (fun vs H Q E h => h.1) (fun cdv A outer s H vs Q E hr h => ?_)
    exact ⟨_, (pss_cons (ps_set (i := 2) sc_all_choices.nd rfl (by first | exact Or.inl rfl | exact Or.inr rfl) (pe_lst (pa_cons (pe_tupZ pa_nil) pa_nil)))
      (pss_cons (ps_if (pt_cmpR (op_eqD hr.units) (pv 1) pe_int (nomark _)) (pss_one (ps_ret (pv 2))) pss_nil)
      (pss_cons (ps_for PassesOwn.never rfl (pi_range1 rfl T.z_range (pa_cons (pe_callB cr_len2 rfl T.z_len mbt_len (pa_cons (pv 0) pa_nil)) pa_nil)) (pg_name (i := 3) sc_all_choices.nd rfl (by first | exact Or.inl rfl | exact Or.inr rfl)) (pss_one (ps_for PassesOwn.never rfl (pi_seq (pe_call ih (hr.mono (Nat.le_refl _)) rfl T.m27 T.F27.kp T.b27 .nil pass0 (pa_cons (pe_slice sl_G (pv 0) (po_some (pe_op op_addG (pv 3) pe_int)) po_none) (pa_cons (pe_op op_sub (pv 1) pe_int) pa_nil)))) (pg_name (i := 4) sc_all_choices.nd rfl (by first | exact Or.inl rfl | exact Or.inr rfl)) (pss_one (ps_expr (pe_bm PySem.F.plainAttrs_list PySem.F.slot_list_append PySem.F.type_list_append mt_append (pv 2) (pa_cons (pe_tupZ (pa_cons (pe_ix ix_seq (pv 0) (pv 3) (fun _ _ => rfl)) (StX.pa_star (pv 4) pa_nil))) pa_nil)))))))
      (pss_one (ps_ret (pv 2)))))),
      body0 (N := N_all_choices) (x := x_all_choices (m_all_choices n)) (dn_seq (dn_own (den_lst (den_cons (den_tup den_nil) den_nil)))
      (dn_seq (dn_if (den_test (den_bin od_eq (den_var (i := 1)) den_int)) (dn_retOwn (i := 2)) dn_next)
      (dn_seq (dn_for (p := (.nm 3)) (src_rng1 (den_cons (den_cb cd_len (den_cons (den_var (i := 0)) den_nil)) den_nil)) (dn_for (p := (.nm 4)) (src_seq (den_callP0 (den_cons (den_sl (den_var (i := 0)) (den_part (den_bin od_add (den_var (i := 3)) den_int)) den_noPart) (den_cons (den_bin od_sub (den_var (i := 1)) den_int) den_nil)))) (dn_app (i := 2) (den_tup (den_cons (den_bin od_ix (den_var (i := 0)) (den_var (i := 3))) (den_star (den_var (i := 4)) den_nil))))))
      (dn_retOwn (i := 2))))) h⟩
/-! all_orders -/
abbrev N_all_orders : List Str := ["items", "found", "at", "rest"]
theorem sc_all_orders : FnScope N_all_orders ["items"] (defScope st_all_orders) := ⟨rfl, rfl, rfl, by decide +kernel, rfl, by decide +kernel, by decide +kernel⟩
def x_all_orders (m : Mf) : Sf :=
  (sSeq (sIf (eNot (eTru (dVar 0))) (sRet (dOfL (dLst (dCons (dTup dNil) dNil)))) sNext)
  (sSeq (sOwn 1 (dLst dNil))
  (sSeq (sFor (wRng1 (dCons (dCB fLen (dCons (dVar 0) dNil)) dNil)) (.nm 2) (sFor (wSeq (dCall (pur (m)) 1 (dCons (dBin fAdd (dSl (dVar 0) dNoPart (dPart (dVar 2))) (dSl (dVar 0) (dPart (dBin fAdd (dVar 2) (dC (.int 1)))) dNoPart)) dNil))) (.nm 3) (sApp 1 (dTup (dCons (dBin fIx (dVar 0) (dVar 2)) (dStarF (dVar 3) dNil))))))
  (sRetOwn 1))))
def m_all_orders : Nat → Mf
  | 0 => fun _ _ => .bad
  | n + 1 => fnD N_all_orders.length (x_all_orders (m_all_orders n))
theorem ok_all_orders (T : Tx c mg a d) : ∀ n : Nat, FnOk P w c.K mg base CX0 (0 + n) (a 26) (d 26) ["items"] (sp0 c (m_all_orders n) 1)
  | 0 => fn_bad
  | n + 1 => by
    have ih := ok_all_orders T n
    refine T.F26.ok sc_all_orders (fun vs H Q E h => h.1) (fun cdv A outer s H vs Q E hr h => ?_)
    exact ⟨_, (pss_cons (ps_if (pt_not (pt_truth (pv 0) (fun _ => rfl))) (pss_one (ps_ret (pe_lst (pa_cons (pe_tupZ pa_nil) pa_nil)))) pss_nil)
      (pss_cons (ps_set (i := 1) sc_all_orders.nd rfl (by first | exact Or.inl rfl | exact Or.inr rfl) (pe_lst pa_nil))
      (pss_cons (ps_for PassesOwn.never rfl (pi_range1 rfl T.z_range (pa_cons (pe_callB cr_len2 rfl T.z_len mbt_len (pa_cons (pv 0) pa_nil)) pa_nil)) (pg_name (i := 2) sc_all_orders.nd rfl (by first | exact Or.inl rfl | exact Or.inr rfl)) (pss_one (ps_for PassesOwn.never rfl (pi_seq (pe_call ih (hr.mono (Nat.le_refl _)) rfl T.m26 T.F26.kp T.b26 .nil pass0 (pa_cons (pe_op op_addG (pe_slice sl_G (pv 0) po_none (po_some (pv 2))) (pe_slice sl_G (pv 0) (po_some (pe_op op_addG (pv 2) pe_int)) po_none)) pa_nil))) (pg_name (i := 3) sc_all_orders.nd rfl (by first | exact Or.inl rfl | exact Or.inr rfl)) (pss_one (ps_expr (pe_bm PySem.F.plainAttrs_list PySem.F.slot_list_append PySem.F.type_list_append mt_append (pv 1) (pa_cons (pe_tupZ (pa_cons (pe_ix ix_seq (pv 0) (pv 2) (fun _ _ => rfl)) (StX.pa_star (pv 3) pa_nil))) pa_nil)))))))
      (pss_one (ps_ret (pv 1)))))),
      body0 (N := N_all_orders) (x := x_all_orders (m_all_orders n)) (dn_seq (dn_if (den_not (den_truth (den_var (i := 0)))) (dn_ret (den_ofL (den_lst (den_cons (den_tup den_nil) den_nil)))) dn_next)
      (dn_seq (dn_own (den_lst den_nil))
      (dn_seq (dn_for (p := (.nm 2)) (src_rng1 (den_cons (den_cb cd_len (den_cons (den_var (i := 0)) den_nil)) den_nil)) (dn_for (p := (.nm 3)) (src_seq (den_callP0 (den_cons (den_bin od_add (den_sl (den_var (i := 0)) den_noPart (den_part (den_var (i := 2)))) (den_sl (den_var (i := 0)) (den_part (den_bin od_add (den_var (i := 2)) den_int)) den_noPart)) den_nil))) (dn_app (i := 1) (den_tup (den_cons (den_bin od_ix (den_var (i := 0)) (den_var (i := 2))) (den_star (den_var (i := 3)) den_nil))))))
      (dn_retOwn (i := 1))))) h⟩
/-! builds_after -/
abbrev N_builds_after : List Str := ["room", "build", "people", "order", "kept", "base", "again", "lengths", "length", "choices", "rest", "choice"]
theorem sc_builds_after : FnScope N_builds_after ["room", "build", "people"] (defScope st_builds_after) := ⟨rfl, rfl, rfl, by decide +kernel, rfl, by decide +kernel, by decide +kernel⟩
def x_builds_after : Sf :=
  (sSeq (sAsgP (.tup (.cons (.nm 3) (.cons (.nm 4) .nil))) (dVar 1))
  (sSeq (sAsg 5 (dCall (pur m_base_of) 2 (dCons (dVar 1) (dCons (dVar 2) dNil))))
  (sSeq (sAsg 6 (dCall (pur m_built_again) 2 (dCons (dVar 1) (dCons (dVar 2) dNil))))
  (sSeq (sAsg 7 (dOfL (dComp (wRng2 (dCons (dC (.int 1)) (dCons (dBin fAdd (dVar 5) (dCB fLen (dCons (dVar 6) dNil))) dNil))) (.nm 8) (eOr (eBl (dBin fGt (dVar 8) (dVar 5))) (eBl (dBin fIn (dVar 8) (dVar 4)))) (dVar 8) [8])))
  (sSeq (sAsg 9 (dCall (pur (m_all_choices 6)) 2 (dCons (dVar 7) (dCons (dVar 0) dNil))))
  (sRet (dOfL (dComp2 (wSeq (dCall (pur (m_all_orders 6)) 1 (dCons (dVar 6) dNil))) (.nm 10) eYes (wSeq (dVar 9)) (.nm 11) eYes (dTup (dCons (dBin fAdd (dSl (dVar 3) dNoPart (dPart (dVar 5))) (dVar 10)) (dCons (dVar 11) dNil))) [10, 11] [11]))))))))
def m_builds_after : Mf := fnD N_builds_after.length x_builds_after
theorem ok_builds_after (T : Tx c mg a d) : FnOk P w c.K mg base CX0 7 (a 48) (d 48) ["room", "build", "people"] (sp0 c m_builds_after 3) := by
  refine T.F48.ok sc_builds_after (fun vs H Q E h => h.1) (fun cdv A outer s H vs Q E hr h => ?_)
  exact ⟨_, (pss_cons (ps_asg (pv 1) (pg_tup rfl (pgs_cons (pg_name (i := 3) sc_builds_after.nd rfl (by first | exact Or.inl rfl | exact Or.inr rfl)) (pgs_cons (pg_name (i := 4) sc_builds_after.nd rfl (by first | exact Or.inl rfl | exact Or.inr rfl)) pgs_nil))))
      (pss_cons (ps_set (i := 5) sc_builds_after.nd rfl (by first | exact Or.inl rfl | exact Or.inr rfl) (pe_call (ok_base_of T) (hr.mono (by decide)) rfl T.m45 T.F45.kp T.b45 .nil pass0 (pa_cons (pv 1) (pa_cons (pv 2) pa_nil))))
      (pss_cons (ps_set (i := 6) sc_builds_after.nd rfl (by first | exact Or.inl rfl | exact Or.inr rfl) (pe_call (ok_built_again T) (hr.mono (by decide)) rfl T.m46 T.F46.kp T.b46 .nil pass0 (pa_cons (pv 1) (pa_cons (pv 2) pa_nil))))
      (pss_cons (ps_setLc (own := [("length", 8)]) (i := 7) rfl sc_builds_after.nd rfl rfl (sw_true rfl rfl rfl (by decide +kernel)) (pi_range2 rfl T.z_range (pa_cons pe_int (pa_cons (pe_op op_addG (pv 5) (pe_callB cr_len2 rfl T.z_len mbt_len (pa_cons (pv 6) pa_nil))) pa_nil))) (blkOk_by (N := N_builds_after) (sc := defScope st_builds_after) (by decide +kernel)) (fun _ _ _ _ _ => (pg_name (i := 8) sc_builds_after.nd rfl (by first | exact Or.inl rfl | exact Or.inr rfl))) (fun _ _ _ _ _ => (pts_one (PW.pt (pw_or (pt_cmpR op_gt (pv 8) (pv 5) (nomark _)) (pw_or1 (pt_cmpR op_in_seq (pv 8) (pv 4) (by rfl))))))) (fun _ _ _ _ _ => (pv 8)))
      (pss_cons (ps_set (i := 9) sc_builds_after.nd rfl (by first | exact Or.inl rfl | exact Or.inr rfl) (pe_call (ok_all_choices T 6) (hr.mono (by decide)) rfl T.m27 T.F27.kp T.b27 .nil pass0 (pa_cons (pv 7) (pa_cons (pv 0) pa_nil))))
      (pss_one (ps_ret (pe_lc2 (own := [("rest", 10), ("choice", 11)]) (vs1 := [11]) (wi1 := iSeq c.K _) rfl sc_builds_after.nd (pi_seq (pe_call (ok_all_orders T 6) (hr.mono (by decide)) rfl T.m26 T.F26.kp T.b26 .nil pass0 (pa_cons (pv 6) pa_nil))) (blkOk_by (N := N_builds_after) (sc := defScope st_builds_after) (by decide +kernel)) (by decide) (fun _ _ _ _ _ => (pg_name (i := 10) sc_builds_after.nd rfl (by first | exact Or.inl rfl | exact Or.inr rfl))) (fun _ _ _ _ _ => pts_nil) (fun _ _ _ _ _ => (pi_seq (pv 9))) (fun _ _ _ _ _ => (pg_name (i := 11) sc_builds_after.nd rfl (by first | exact Or.inl rfl | exact Or.inr rfl))) (fun _ _ _ _ _ => pts_nil) (fun _ _ _ _ _ => (pe_tupZ (pa_cons (pe_op op_addG (pe_slice sl_G (pv 3) po_none (po_some (pv 5))) (pv 10)) (pa_cons (pv 11) pa_nil)))))))))))),
    body0 (N := N_builds_after) (x := x_builds_after) (dn_seq (dn_asgP (p := (.tup (.cons (.nm 3) (.cons (.nm 4) .nil)))) (den_var (i := 1)))
      (dn_seq (dn_asg (den_callP0 (den_cons (den_var (i := 1)) (den_cons (den_var (i := 2)) den_nil))))
      (dn_seq (dn_asg (den_callP0 (den_cons (den_var (i := 1)) (den_cons (den_var (i := 2)) den_nil))))
      (dn_seq (dn_asg (den_ofL (den_comp (p := (.nm 8)) (vs := [8]) (SrcS.x (src_rng2 (den_cons den_int (den_cons (den_bin od_add (den_var (i := 5)) (den_cb cd_len (den_cons (den_var (i := 6)) den_nil))) den_nil)))) (den_or (den_test (den_bin od_gt (den_var (i := 8)) (den_var (i := 5)))) (den_test (den_bin (od_in (neg := false)) (den_var (i := 8)) (den_var (i := 4))))) (den_var (i := 8)) rfl)))
      (dn_seq (dn_asg (den_callP0 (den_cons (den_var (i := 7)) (den_cons (den_var (i := 0)) den_nil))))
      (dn_ret (den_ofL (den_comp2 (p := (.nm 10)) (p1 := (.nm 11)) (vs := [10, 11]) (vs1 := [11]) (SrcS.x (src_seq (den_callP0 (den_cons (den_var (i := 6)) den_nil)))) den_yes (src_seq (den_var (i := 9))) den_yes (den_tup (den_cons (den_bin od_add (den_sl (den_var (i := 3)) den_noPart (den_part (den_var (i := 5)))) (den_var (i := 10))) (den_cons (den_var (i := 11)) den_nil))) rfl rfl)))))))) h⟩
/-! possible_answers -/
abbrev N_possible_answers : List Str := ["archive", "room", "delay", "position", "wish", "order", "kept", "_", "ticks", "pending", "later", "found", "left", "person", "people", "cost", "rest", "choice"]
theorem sc_possible_answers : FnScope N_possible_answers ["archive", "room", "delay", "position", "wish"] (defScope st_possible_answers) := ⟨rfl, rfl, rfl, by decide +kernel, rfl, by decide +kernel, by decide +kernel⟩
def x_possible_answers : Sf :=
  (sSeq (sAsgP (.tup (.cons (.nm 5) (.cons (.nm 6) (.cons (.nm 7) (.cons (.nm 8) .nil))))) (dVar 3))
  (sSeq (sAsg 9 (dCall (pur m_pending_wishes) 3 (dCons (dVar 2) (dCons (dVar 3) (dCons (dVar 4) dNil)))))
  (sSeq (sAsg 10 (dCB fMax (dCons (dC (.int 0)) (dCons (dBin fSub (dVar 8) (dC (.int 1))) dNil))))
  (sSeq (sOwn 11 (dLst dNil))
  (sSeq (sIf (eAnd (eBl (dBin fGt (dVar 8) (dC (.int 0)))) (eBl (dCB fAll (dCons (dOfL (dComp (wSeq (dVar 9)) (.tup (.cons (.nm 7) (.cons (.nm 12) .nil))) eYes (dBin fGt (dVar 12) (dC (.int 0))) [7, 12])) dNil)))) (sApp 11 (dTup (dCons (dC (.int 0)) (dCons (dTup (dCons (dVar 5) (dCons (dVar 6) (dCons (dTupL (dComp (wSeq (dVar 9)) (.tup (.cons (.nm 13) (.cons (.nm 12) .nil))) eYes (dTup (dCons (dVar 13) (dCons (dBin fSub (dVar 12) (dC (.int 1))) dNil))) [13, 12])) (dCons (dVar 10) dNil))))) dNil)))) sNext)
  (sSeq (sIf (eTru (dVar 9)) (sSeq (sAsg 14 (dTupL (dComp (wSeq (dVar 9)) (.tup (.cons (.nm 13) (.cons (.nm 7) .nil))) eYes (dVar 13) [13, 7])))
  (sSeq (sAsg 15 (dCall (pur m_forgetting_work) 3 (dCons (dVar 0) (dCons (dTup (dCons (dVar 5) (dCons (dVar 6) dNil))) (dCons (dVar 14) dNil)))))
  (sFor (wSeq (dCall (pur m_builds_after) 3 (dCons (dVar 1) (dCons (dTup (dCons (dVar 5) (dCons (dVar 6) dNil))) (dCons (dVar 14) dNil))))) (.tup (.cons (.nm 16) (.cons (.nm 17) .nil))) (sApp 11 (dTup (dCons (dVar 15) (dCons (dTup (dCons (dVar 16) (dCons (dVar 17) (dCons (dTup dNil) (dCons (dVar 10) dNil))))) dNil))))))) sNext)
  (sRetOwn 11)))))))
def m_possible_answers : Mf := fnD N_possible_answers.length x_possible_answers
theorem ok_possible_answers (T : Tx c mg a d) : FnOk P w c.K mg base CX0 8 (a 64) (d 64) ["archive", "room", "delay", "position", "wish"] (sp0 c m_possible_answers 5) := by
  refine T.F64.ok sc_possible_answers (fun vs H Q E h => h.1) (fun cdv A outer s H vs Q E hr h => ?_)
  exact ⟨_, (pss_cons (ps_asg (pv 3) (pg_tup rfl (pgs_cons (pg_name (i := 5) sc_possible_answers.nd rfl (by first | exact Or.inl rfl | exact Or.inr rfl)) (pgs_cons (pg_name (i := 6) sc_possible_answers.nd rfl (by first | exact Or.inl rfl | exact Or.inr rfl)) (pgs_cons (pg_name (i := 7) sc_possible_answers.nd rfl (by first | exact Or.inl rfl | exact Or.inr rfl)) (pgs_cons (pg_name (i := 8) sc_possible_answers.nd rfl (by first | exact Or.inl rfl | exact Or.inr rfl)) pgs_nil))))))
      (pss_cons (ps_set (i := 9) sc_possible_answers.nd rfl (by first | exact Or.inl rfl | exact Or.inr rfl) (pe_call (ok_pending_wishes T) (hr.mono (by decide)) rfl T.m63 T.F63.kp T.b63 .nil pass0 (pa_cons (pv 2) (pa_cons (pv 3) (pa_cons (pv 4) pa_nil)))))
      (pss_cons (ps_set (i := 10) sc_possible_answers.nd rfl (by first | exact Or.inl rfl | exact Or.inr rfl) (pe_callB (cr_max3 rfl) rfl T.z_max mbt_max (pa_cons pe_int (pa_cons (pe_op op_sub (pv 8) pe_int) pa_nil))))
      (pss_cons (ps_set (i := 11) sc_possible_answers.nd rfl (by first | exact Or.inl rfl | exact Or.inr rfl) (pe_lst pa_nil))
      (pss_cons (ps_if (PW.pt (pw_and (pt_cmpR op_gt (pv 8) pe_int (nomark _)) (pw_and1 (pt_val (pe_callB (cr_all rfl) rfl T.z_all mbt_all (pa_cons (pe_lc (own := [("_", 7), ("left", 12)]) rfl sc_possible_answers.nd (pi_seq (pv 9)) (blkOk_by (N := N_possible_answers) (sc := defScope st_possible_answers) (by decide +kernel)) (fun _ _ _ _ _ => (pg_tup rfl (pgs_cons (pg_name (i := 7) sc_possible_answers.nd rfl (by first | exact Or.inl rfl | exact Or.inr rfl)) (pgs_cons (pg_name (i := 12) sc_possible_answers.nd rfl (by first | exact Or.inl rfl | exact Or.inr rfl)) pgs_nil)))) (fun _ _ _ _ _ => pts_nil) (fun _ _ _ _ _ => (pe_cmpR op_gt (pv 12) pe_int (nomark _)))) pa_nil)))))) (pss_one (ps_expr (pe_bm PySem.F.plainAttrs_list PySem.F.slot_list_append PySem.F.type_list_append mt_append (pv 11) (pa_cons (pe_tupZ (pa_cons pe_int (pa_cons (pe_tupZ (pa_cons (pv 5) (pa_cons (pv 6) (pa_cons (pe_callTy cr_tupZ rfl T.z_tuple mbt_tuple (pa_cons ((pe_lc (own := [("person", 13), ("left", 12)]) rfl sc_possible_answers.nd (pi_seq (pv 9)) (blkOk_by (N := N_possible_answers) (sc := defScope st_possible_answers) (by decide +kernel)) (fun _ _ _ _ _ => (pg_tup rfl (pgs_cons (pg_name (i := 13) sc_possible_answers.nd rfl (by first | exact Or.inl rfl | exact Or.inr rfl)) (pgs_cons (pg_name (i := 12) sc_possible_answers.nd rfl (by first | exact Or.inl rfl | exact Or.inr rfl)) pgs_nil)))) (fun _ _ _ _ _ => pts_nil) (fun _ _ _ _ _ => (pe_tupZ (pa_cons (pv 13) (pa_cons (pe_op op_sub (pv 12) pe_int) pa_nil)))))) pa_nil)) (pa_cons (pv 10) pa_nil))))) pa_nil))) pa_nil)))) pss_nil)
      (pss_cons (ps_if (pt_truth (pv 9) (fun _ => rfl)) (pss_cons (ps_set (i := 14) sc_possible_answers.nd rfl (by first | exact Or.inl rfl | exact Or.inr rfl) (pe_callTy cr_tupZ rfl T.z_tuple mbt_tuple (pa_cons ((pe_lc (own := [("person", 13), ("_", 7)]) rfl sc_possible_answers.nd (pi_seq (pv 9)) (blkOk_by (N := N_possible_answers) (sc := defScope st_possible_answers) (by decide +kernel)) (fun _ _ _ _ _ => (pg_tup rfl (pgs_cons (pg_name (i := 13) sc_possible_answers.nd rfl (by first | exact Or.inl rfl | exact Or.inr rfl)) (pgs_cons (pg_name (i := 7) sc_possible_answers.nd rfl (by first | exact Or.inl rfl | exact Or.inr rfl)) pgs_nil)))) (fun _ _ _ _ _ => pts_nil) (fun _ _ _ _ _ => (pv 13)))) pa_nil)))
      (pss_cons (ps_set (i := 15) sc_possible_answers.nd rfl (by first | exact Or.inl rfl | exact Or.inr rfl) (pe_call (ok_forgetting_work T) (hr.mono (by decide)) rfl T.m47 T.F47.kp T.b47 .nil pass0 (pa_cons (pv 0) (pa_cons (pe_tupZ (pa_cons (pv 5) (pa_cons (pv 6) pa_nil))) (pa_cons (pv 14) pa_nil)))))
      (pss_one (ps_for PassesOwn.never rfl (pi_seq (pe_call (ok_builds_after T) (hr.mono (by decide)) rfl T.m48 T.F48.kp T.b48 .nil pass0 (pa_cons (pv 1) (pa_cons (pe_tupZ (pa_cons (pv 5) (pa_cons (pv 6) pa_nil))) (pa_cons (pv 14) pa_nil))))) (pg_tup rfl (pgs_cons (pg_name (i := 16) sc_possible_answers.nd rfl (by first | exact Or.inl rfl | exact Or.inr rfl)) (pgs_cons (pg_name (i := 17) sc_possible_answers.nd rfl (by first | exact Or.inl rfl | exact Or.inr rfl)) pgs_nil))) (pss_one (ps_expr (pe_bm PySem.F.plainAttrs_list PySem.F.slot_list_append PySem.F.type_list_append mt_append (pv 11) (pa_cons (pe_tupZ (pa_cons (pv 15) (pa_cons (pe_tupZ (pa_cons (pv 16) (pa_cons (pv 17) (pa_cons (pe_tupZ pa_nil) (pa_cons (pv 10) pa_nil))))) pa_nil))) pa_nil)))))))) pss_nil)
      (pss_one (ps_ret (pv 11))))))))),
    body0 (N := N_possible_answers) (x := x_possible_answers) (dn_seq (dn_asgP (p := (.tup (.cons (.nm 5) (.cons (.nm 6) (.cons (.nm 7) (.cons (.nm 8) .nil)))))) (den_var (i := 3)))
      (dn_seq (dn_asg (den_callP0 (den_cons (den_var (i := 2)) (den_cons (den_var (i := 3)) (den_cons (den_var (i := 4)) den_nil)))))
      (dn_seq (dn_asg (den_cb cd_max (den_cons den_int (den_cons (den_bin od_sub (den_var (i := 8)) den_int) den_nil))))
      (dn_seq (dn_own (den_lst den_nil))
      (dn_seq (dn_if (den_and (den_test (den_bin od_gt (den_var (i := 8)) den_int)) (den_tB (den_cb cd_all (den_cons (den_ofL (den_comp (p := (.tup (.cons (.nm 7) (.cons (.nm 12) .nil)))) (vs := [7, 12]) (SrcS.x (src_seq (den_var (i := 9)))) den_yes (den_bin od_gt (den_var (i := 12)) den_int) rfl)) den_nil)))) (dn_app (i := 11) (den_tup (den_cons den_int (den_cons (den_tup (den_cons (den_var (i := 5)) (den_cons (den_var (i := 6)) (den_cons (den_tupL (den_FL (den_comp (p := (.tup (.cons (.nm 13) (.cons (.nm 12) .nil)))) (vs := [13, 12]) (SrcS.x (src_seq (den_var (i := 9)))) den_yes (den_tup (den_cons (den_var (i := 13)) (den_cons (den_bin od_sub (den_var (i := 12)) den_int) den_nil))) rfl))) (den_cons (den_var (i := 10)) den_nil))))) den_nil)))) dn_next)
      (dn_seq (dn_if (den_truth (den_var (i := 9))) (dn_seq (dn_asg (den_tupL (den_FL (den_comp (p := (.tup (.cons (.nm 13) (.cons (.nm 7) .nil)))) (vs := [13, 7]) (SrcS.x (src_seq (den_var (i := 9)))) den_yes (den_var (i := 13)) rfl))))
      (dn_seq (dn_asg (den_callP0 (den_cons (den_var (i := 0)) (den_cons (den_tup (den_cons (den_var (i := 5)) (den_cons (den_var (i := 6)) den_nil))) (den_cons (den_var (i := 14)) den_nil)))))
      (dn_for (p := (.tup (.cons (.nm 16) (.cons (.nm 17) .nil)))) (src_seq (den_callP0 (den_cons (den_var (i := 1)) (den_cons (den_tup (den_cons (den_var (i := 5)) (den_cons (den_var (i := 6)) den_nil))) (den_cons (den_var (i := 14)) den_nil))))) (dn_app (i := 11) (den_tup (den_cons (den_var (i := 15)) (den_cons (den_tup (den_cons (den_var (i := 16)) (den_cons (den_var (i := 17)) (den_cons (den_tup den_nil) (den_cons (den_var (i := 10)) den_nil))))) den_nil))))))) dn_next)
      (dn_retOwn (i := 11)))))))) h⟩
/-! possible_wishes -/
abbrev N_possible_wishes : List Str := ["position", "order", "_", "waiting", "ticks", "already", "person"]
theorem sc_possible_wishes : FnScope N_possible_wishes ["position"] (defScope st_possible_wishes) := ⟨rfl, rfl, rfl, by decide +kernel, rfl, by decide +kernel, by decide +kernel⟩
def x_possible_wishes : Sf :=
  (sSeq (sAsgP (.tup (.cons (.nm 1) (.cons (.nm 2) (.cons (.nm 3) (.cons (.nm 4) .nil))))) (dVar 0))
  (sSeq (sIf (eBl (dBin fEq (dVar 4) (dC (.int 0)))) (sRet (dIf (eTru (dVar 3)) (dOfL (dLst (dCons (dC .non) dNil))) (dOfL (dLst dNil)))) sNext)
  (sSeq (sAsg 5 (dOfL (dComp (wSeq (dVar 3)) (.tup (.cons (.nm 6) (.cons (.nm 2) .nil))) eYes (dVar 6) [6, 2])))
  (sRet (dOfL (dCatF (dOfL (dComp (wSeq (dOfL (dSortF (dVar 1)))) (.nm 6) (eBl (dBin fNotIn (dVar 6) (dVar 5))) (dVar 6) [6])) (dOfL (dLst (dCons (dC .non) dNil)))))))))
def m_possible_wishes : Mf := fnD N_possible_wishes.length x_possible_wishes
theorem ok_possible_wishes (T : Tx c mg a d) : FnOk P w c.K mg base CX0 1 (a 61) (d 61) ["position"] (sp0 c m_possible_wishes 1) := by
  refine T.F61.ok sc_possible_wishes (fun vs H Q E h => h.1) (fun cdv A outer s H vs Q E hr h => ?_)
  exact ⟨_, (pss_cons (ps_asg (pv 0) (pg_tup rfl (pgs_cons (pg_name (i := 1) sc_possible_wishes.nd rfl (by first | exact Or.inl rfl | exact Or.inr rfl)) (pgs_cons (pg_name (i := 2) sc_possible_wishes.nd rfl (by first | exact Or.inl rfl | exact Or.inr rfl)) (pgs_cons (pg_name (i := 3) sc_possible_wishes.nd rfl (by first | exact Or.inl rfl | exact Or.inr rfl)) (pgs_cons (pg_name (i := 4) sc_possible_wishes.nd rfl (by first | exact Or.inl rfl | exact Or.inr rfl)) pgs_nil))))))
      (pss_cons (ps_if (pt_cmpR (op_eqD hr.units) (pv 4) pe_int (nomark _)) (pss_one (ps_ret (pe_ifExp (pt_truth (pv 3) (fun _ => rfl)) (pe_lst (pa_cons pe_non pa_nil)) (pe_lst pa_nil)))) pss_nil)
      (pss_cons (ps_set (i := 5) sc_possible_wishes.nd rfl (by first | exact Or.inl rfl | exact Or.inr rfl) (pe_lc (own := [("person", 6), ("_", 2)]) rfl sc_possible_wishes.nd (pi_seq (pv 3)) (blkOk_by (N := N_possible_wishes) (sc := defScope st_possible_wishes) (by decide +kernel)) (fun _ _ _ _ _ => (pg_tup rfl (pgs_cons (pg_name (i := 6) sc_possible_wishes.nd rfl (by first | exact Or.inl rfl | exact Or.inr rfl)) (pgs_cons (pg_name (i := 2) sc_possible_wishes.nd rfl (by first | exact Or.inl rfl | exact Or.inr rfl)) pgs_nil)))) (fun _ _ _ _ _ => pts_nil) (fun _ _ _ _ _ => (pv 6))))
      (pss_one (ps_ret (pe_op op_addG (pe_lc (own := [("person", 6)]) rfl sc_possible_wishes.nd (pi_seq (pe_callB (cr_sortedD hr.units) rfl T.z_sorted mbt_sorted (pa_cons ((pv 1)) pa_nil))) (blkOk_by (N := N_possible_wishes) (sc := defScope st_possible_wishes) (by decide +kernel)) (fun _ _ _ _ _ => (pg_name (i := 6) sc_possible_wishes.nd rfl (by first | exact Or.inl rfl | exact Or.inr rfl))) (fun _ _ _ _ _ => (pts_one (pt_cmpR op_notIn_seq (pv 6) (pv 5) (by rfl)))) (fun _ _ _ _ _ => (pv 6))) (pe_lst (pa_cons pe_non pa_nil)))))))),
    body0 (N := N_possible_wishes) (x := x_possible_wishes) (dn_seq (dn_asgP (p := (.tup (.cons (.nm 1) (.cons (.nm 2) (.cons (.nm 3) (.cons (.nm 4) .nil)))))) (den_var (i := 0)))
      (dn_seq (dn_if (den_test (den_bin od_eq (den_var (i := 4)) den_int)) (dn_ret (den_if (den_truth (den_var (i := 3))) (den_ofL (den_lst (den_cons den_non den_nil))) (den_ofL (den_lst den_nil)))) dn_next)
      (dn_seq (dn_asg (den_ofL (den_comp (p := (.tup (.cons (.nm 6) (.cons (.nm 2) .nil)))) (vs := [6, 2]) (SrcS.x (src_seq (den_var (i := 3)))) den_yes (den_var (i := 6)) rfl)))
      (dn_ret (den_ofL (den_catF (den_ofL (den_comp (p := (.nm 6)) (vs := [6]) (SrcS.x (src_seq (den_ofL (den_sort (den_var (i := 1)))))) (den_test (den_bin (od_in (neg := true)) (den_var (i := 6)) (den_var (i := 5)))) (den_var (i := 6)) rfl)) (den_ofL (den_lst (den_cons den_non den_nil))))))))) h⟩
/-! Play.moves -/
abbrev N_Play_moves : List Str := ["self", "place", "wish"]
theorem sc_Play_moves : FnScope N_Play_moves ["self", "place"] (defScope st_Play_moves) := ⟨rfl, rfl, rfl, by decide +kernel, rfl, by decide +kernel, by decide +kernel⟩
def x_Play_moves : Sf :=
  (sRet (dOfL (dComp (wSeq (dCall (pur m_possible_wishes) 1 (dCons (dVar 1) dNil))) (.nm 2) eYes (dCall (pur m_possible_answers) 5 (dCons (dFld 1 0 (dVar 0)) (dCons (dFld 1 1 (dVar 0)) (dCons (dFld 1 2 (dVar 0)) (dCons (dVar 1) (dCons (dVar 2) dNil)))))) [2])))
def m_Play_moves : Mf := fnD N_Play_moves.length x_Play_moves
theorem ok_Play_moves (T : Tx c mg a d) : FnOk P w c.K mg base CX0 9 (a 6602) (d 6602) ["self", "place"] (sp0 c m_Play_moves 2) := by
  refine T.F6602.ok sc_Play_moves (fun vs H Q E h => h.1) (fun cdv A outer s H vs Q E hr h => ?_)
  exact ⟨_, (pss_one (ps_ret (pe_lc (own := [("wish", 2)]) rfl sc_Play_moves.nd (pi_seq (pe_call (ok_possible_wishes T) (hr.mono (by decide)) rfl T.m61 T.F61.kp T.b61 .nil pass0 (pa_cons (pv 1) pa_nil))) (blkOk_by (N := N_Play_moves) (sc := defScope st_Play_moves) (by decide +kernel)) (fun _ _ _ _ _ => (pg_name (i := 2) sc_Play_moves.nd rfl (by first | exact Or.inl rfl | exact Or.inr rfl))) (fun _ _ _ _ _ => pts_nil) (fun _ _ _ _ _ => (pe_call (ok_possible_answers T) (hr.mono (by decide)) rfl T.m64 T.F64.kp T.b64 .nil pass0 (pa_cons (pe_fld (pv 0) rfl) (pa_cons (pe_fld (pv 0) rfl) (pa_cons (pe_fld (pv 0) rfl) (pa_cons (pv 1) (pa_cons (pv 2) pa_nil)))))))))),
    body0 (N := N_Play_moves) (x := x_Play_moves) (dn_ret (den_ofL (den_comp (p := (.nm 2)) (vs := [2]) (SrcS.x (src_seq (den_callP0 (den_cons (den_var (i := 1)) den_nil)))) den_yes (den_callP0 (den_cons (den_fld (k := 1) (j := 0) T.K1.cl T.na1_0 T.nd1 T.fj1_0 (den_var (i := 0))) (den_cons (den_fld (k := 1) (j := 1) T.K1.cl T.na1_1 T.nd1 T.fj1_1 (den_var (i := 0))) (den_cons (den_fld (k := 1) (j := 2) T.K1.cl T.na1_2 T.nd1 T.fj1_2 (den_var (i := 0))) (den_cons (den_var (i := 1)) (den_cons (den_var (i := 2)) den_nil)))))) rfl))) h⟩
/-! comes_to_more -/
abbrev N_comes_to_more : List Str := ["play", "start", "most", "seen", "waiting", "place", "replies", "_", "later"]
theorem sc_comes_to_more : FnScope N_comes_to_more ["play", "start", "most"] (defScope st_comes_to_more) := ⟨rfl, rfl, rfl, by decide +kernel, rfl, by decide +kernel, by decide +kernel⟩
def x_comes_to_more : Sf :=
  (sSeq (sAsg 3 (dKSet (dVar 1)))
  (sSeq (sAsg 4 (dCell (dLst (dCons (dVar 1) dNil))))
  (sSeq (sWhile 100000 (eAnd (eTru (dVar 4)) (eBl (dBin fLe (dCB fLenK (dCons (dVar 3) dNil)) (dVar 2)))) (sSeq (sAsg 5 (dPopL (dVar 4)))
  (sFor (wSeq (dMeth 1 m_Play_moves 2 (dVar 0) (dCons (dVar 5) dNil))) (.nm 6) (sFor (wSeq (dVar 6)) (.tup (.cons (.nm 7) (.cons (.nm 8) .nil))) (sIf (eBl (dBin (fKIn true) (dVar 8) (dVar 3))) (sSeq (sDrop (dKAdd (dVar 3) (dVar 8)))
  (sAppC (dVar 4) (dVar 8))) sNext)))))
  (sRet (dBin fGt (dCB fLenK (dCons (dVar 3) dNil)) (dVar 2))))))
def m_comes_to_more : Mf := fnD N_comes_to_more.length x_comes_to_more
theorem ok_comes_to_more (T : Tx c mg a d) : FnOk P w c.K mg base CX0 11 (a 17) (d 17) ["play", "start", "most"] (sp0 c m_comes_to_more 3) := by
  refine okC T.F17 sc_comes_to_more (fun vs H Q E h => h.1) (fun cdv hcd A outer s H vs Q E hr h => ?_)
  exact ⟨_, (pss_cons (ps_set (i := 3) sc_comes_to_more.nd rfl (by first | exact Or.inl rfl | exact Or.inr rfl) (pe_kset hr.units (kds_of hcd) rfl (pv 1)))
      (pss_cons (ps_set (i := 4) sc_comes_to_more.nd rfl (by first | exact Or.inl rfl | exact Or.inr rfl) (pe_lst (pa_cons (pv 1) pa_nil)))
      (pss_cons (ps_while PassesOwn.never (PW.pt (pw_and (pt_truth (pv 4) (fun _ => rfl)) (pw_and1 (pt_cmpR op_le (pe_callB call_lenK rfl T.z_len mbt_len (pa_cons (pv 3) pa_nil)) (pv 2) (nomark _))))) (pss_cons (ps_set (i := 5) sc_comes_to_more.nd rfl (by first | exact Or.inl rfl | exact Or.inr rfl) (pe_bm0 PySem.F.plainAttrs_list PySem.F.slot_list_pop PySem.F.type_list_pop mt_pop (pv 4)))
      (pss_one (ps_for PassesOwn.never rfl (pi_seq (pe_meth (pv 0) T.K1.cl ⟨T.h6602, T.hf6602, T.F6602.kp⟩ (ok_Play_moves T) (hr.mono (by decide)) T.b6602 .nil pass0 (pa_cons (pv 5) pa_nil))) (pg_name (i := 6) sc_comes_to_more.nd rfl (by first | exact Or.inl rfl | exact Or.inr rfl)) (pss_one (ps_for PassesOwn.never rfl (pi_seq (pv 6)) (pg_tup rfl (pgs_cons (pg_name (i := 7) sc_comes_to_more.nd rfl (by first | exact Or.inl rfl | exact Or.inr rfl)) (pgs_cons (pg_name (i := 8) sc_comes_to_more.nd rfl (by first | exact Or.inl rfl | exact Or.inr rfl)) pgs_nil))) (pss_one (ps_if (pt_cmpR (op_knotin hr.units) (pv 8) (pv 3) (by rfl)) (pss_cons (ps_expr (pe_kadd hr.units (pv 3) (pv 8) ⟨rfl, rfl, rfl, rfl⟩))
      (pss_one (ps_expr (pe_bm PySem.F.plainAttrs_list PySem.F.slot_list_append PySem.F.type_list_append mt_append (pv 4) (pa_cons (pv 8) pa_nil))))) pss_nil))))))))
      (pss_one (ps_ret (pe_cmpR op_gt (pe_callB call_lenK rfl T.z_len mbt_len (pa_cons (pv 3) pa_nil)) (pv 2) (nomark _))))))),
    body0 (N := N_comes_to_more) (x := x_comes_to_more) (dn_seq (dn_asg (den_kset (den_var (i := 1))))
      (dn_seq (dn_asg (den_cell (den_lst (den_cons (den_var (i := 1)) den_nil))))
      (dn_seq (dn_while (den_and (den_truth (den_var (i := 4))) (den_test (den_bin od_le (den_cb cd_lenK (den_cons (den_var (i := 3)) den_nil)) (den_var (i := 2))))) (dn_seq (dn_asg (den_popL (den_var (i := 4))))
      (dn_for (p := (.nm 6)) (src_seq (den_meth0 T.no1_2 (den_var (i := 0)) (den_cons (den_var (i := 5)) den_nil))) (dn_for (p := (.tup (.cons (.nm 7) (.cons (.nm 8) .nil)))) (src_seq (den_var (i := 6))) (dn_if (den_test (den_bin (od_kin (neg := true)) (den_var (i := 8)) (den_var (i := 3)))) (dn_seq (dn_drop (den_kadd (den_var (i := 3)) (den_var (i := 8))))
      (dn_appC (den_var (i := 4)) (den_var (i := 8)))) dn_next)))))
      (dn_ret (den_bin od_gt (den_cb cd_lenK (den_cons (den_var (i := 3)) den_nil)) (den_var (i := 2))))))) h⟩
/-! least_from -/
abbrev N_least_from : List Str := ["play", "place", "known", "needs", "replies", "cost", "later"]
theorem sc_least_from : FnScope N_least_from ["play", "place", "known"] (defScope st_least_from) := ⟨rfl, rfl, rfl, by decide +kernel, rfl, by decide +kernel, by decide +kernel⟩
def x_least_from (m : Mf) : Sf :=
  (sSeq (sIf (eBl (dDIn true (dVar 1) (dVar 2))) (sSeq (sAsg 3 (dCell (dLst (dCons (dC (.int 0)) dNil))))
  (sSeq (sFor (wSeq (dMeth 1 m_Play_moves 2 (dVar 0) (dCons (dVar 1) dNil))) (.nm 4) (sAppC (dVar 3) (dCB fMin (dCons (dOfL (dComp (wSeq (dVar 4)) (.tup (.cons (.nm 5) (.cons (.nm 6) .nil))) eYes (dBin fAdd (dVar 5) (dCall (m) 3 (dCons (dVar 0) (dCons (dVar 6) (dCons (dVar 2) dNil))))) [5, 6])) dNil))))
  (sDPut (dVar 2) (dVar 1) (dCB fMax (dCons (dVar 3) dNil))))) sNext)
  (sRet (dDGet (dVar 2) (dVar 1))))
def m_least_from : Nat → Mf
  | 0 => fun _ _ => .bad
  | n + 1 => fnD N_least_from.length (x_least_from (m_least_from n))
theorem ok_least_from (T : Tx c mg a d) : ∀ n : Nat, FnOk P w c.K mg base CX0 (10 + n) (a 18) (d 18) ["play", "place", "known"] (sp0 c (m_least_from n) 3)
  | 0 => fn_bad
  | n + 1 => by
    have ih := ok_least_from T n
    refine T.F18.ok sc_least_from (fun vs H Q E h => h.1) (fun cdv A outer s H vs Q E hr h => ?_)
    exact ⟨_, (pss_cons (ps_if (pt_cmp (pc_nnotin hr.units (pv 1) (pv 2))) (pss_cons (ps_set (i := 3) sc_least_from.nd rfl (by first | exact Or.inl rfl | exact Or.inr rfl) (pe_lst (pa_cons pe_int pa_nil)))
      (pss_cons (ps_for PassesOwn.never rfl (pi_seq (pe_meth (pv 0) T.K1.cl ⟨T.h6602, T.hf6602, T.F6602.kp⟩ (ok_Play_moves T) (hr.mono (Nat.le_trans (by decide) (Nat.le_add_right _ n))) T.b6602 .nil pass0 (pa_cons (pv 1) pa_nil))) (pg_name (i := 4) sc_least_from.nd rfl (by first | exact Or.inl rfl | exact Or.inr rfl)) (pss_one (ps_expr (pe_bm PySem.F.plainAttrs_list PySem.F.slot_list_append PySem.F.type_list_append mt_append (pv 3) (pa_cons (pe_callB (cr_min3 rfl) rfl T.z_min mbt_min (pa_cons (pe_lc (own := [("cost", 5), ("later", 6)]) rfl sc_least_from.nd (pi_seq (pv 4)) (blkOk_by (N := N_least_from) (sc := defScope st_least_from) (by decide +kernel)) (fun _ _ _ _ _ => (pg_tup rfl (pgs_cons (pg_name (i := 5) sc_least_from.nd rfl (by first | exact Or.inl rfl | exact Or.inr rfl)) (pgs_cons (pg_name (i := 6) sc_least_from.nd rfl (by first | exact Or.inl rfl | exact Or.inr rfl)) pgs_nil)))) (fun _ _ _ _ _ => pts_nil) (fun _ _ _ _ _ => (pe_op op_addG (pv 5) (pe_call ih (hr.mono (Nat.le_refl _)) rfl T.m18 T.F18.kp T.b18 .nil pass0 (pa_cons (pv 0) (pa_cons (pv 6) (pa_cons (pv 2) pa_nil))))))) pa_nil)) pa_nil)))))
      (pss_one (ps_nput hr.units (pv 2) (pv 1) (pe_callB (cr_max3 rfl) rfl T.z_max mbt_max (pa_cons (pv 3) pa_nil)) rfl)))) pss_nil)
      (pss_one (ps_ret (pe_nget hr.units (pv 2) (pv 1) (fun _ _ => rfl))))),
      body0 (N := N_least_from) (x := x_least_from (m_least_from n)) (dn_seq (dn_if (den_tB (den_dIn (neg := true) (den_var (i := 1)) (den_var (i := 2)))) (dn_seq (dn_asg (den_cell (den_lst (den_cons den_int den_nil))))
      (dn_seq (dn_for (p := (.nm 4)) (src_seq (den_meth0 T.no1_2 (den_var (i := 0)) (den_cons (den_var (i := 1)) den_nil))) (dn_appC (den_var (i := 3)) (den_cb cd_min (den_cons (den_ofL (den_comp (p := (.tup (.cons (.nm 5) (.cons (.nm 6) .nil)))) (vs := [5, 6]) (SrcS.x (src_seq (den_var (i := 4)))) den_yes (den_bin od_add (den_var (i := 5)) (den_call0 (den_cons (den_var (i := 0)) (den_cons (den_var (i := 6)) (den_cons (den_var (i := 2)) den_nil))))) rfl)) den_nil))))
      (dn_dPut (den_var (i := 2)) (den_var (i := 1)) (den_cb cd_max (den_cons (den_var (i := 3)) den_nil))))) dn_next)
      (dn_ret (den_dGet (den_var (i := 2)) (den_var (i := 1))))) h⟩
/-! is_enough_at -/
abbrev N_is_enough_at : List Str := ["play", "heights", "place", "most", "replies", "cost", "later"]
theorem sc_is_enough_at : FnScope N_is_enough_at ["play", "heights", "place"] (defScope st_is_enough_at) := ⟨rfl, rfl, rfl, by decide +kernel, rfl, by decide +kernel, by decide +kernel⟩
def x_is_enough_at : Sf :=
  (sSeq (sAsg 3 (dDGet (dVar 1) (dVar 2)))
  (sRet (dCB fAll (dCons (dOfL (dComp (wSeq (dMeth 1 m_Play_moves 2 (dVar 0) (dCons (dVar 2) dNil))) (.nm 4) eYes (dCB fAny (dCons (dOfL (dComp (wSeq (dVar 4)) (.tup (.cons (.nm 5) (.cons (.nm 6) .nil))) eYes (dAnd (dDIn false (dVar 6) (dVar 1)) (dBin fLe (dBin fAdd (dVar 5) (dDGet (dVar 1) (dVar 6))) (dVar 3))) [5, 6])) dNil)) [4])) dNil))))
def m_is_enough_at : Mf := fnD N_is_enough_at.length x_is_enough_at
theorem ok_is_enough_at (T : Tx c mg a d) : FnOk P w c.K mg base CX0 11 (a 19) (d 19) ["play", "heights", "place"] (sp0 c m_is_enough_at 3) := by
  refine T.F19.ok sc_is_enough_at (fun vs H Q E h => h.1) (fun cdv A outer s H vs Q E hr h => ?_)
  exact ⟨_, (pss_cons (ps_set (i := 3) sc_is_enough_at.nd rfl (by first | exact Or.inl rfl | exact Or.inr rfl) (pe_nget hr.units (pv 1) (pv 2) (fun _ _ => rfl)))
      (pss_one (ps_ret (pe_callB (cr_all rfl) rfl T.z_all mbt_all (pa_cons (pe_lc (own := [("replies", 4)]) rfl sc_is_enough_at.nd (pi_seq (pe_meth (pv 0) T.K1.cl ⟨T.h6602, T.hf6602, T.F6602.kp⟩ (ok_Play_moves T) (hr.mono (by decide)) T.b6602 .nil pass0 (pa_cons (pv 2) pa_nil))) (blkOk_by (N := N_is_enough_at) (sc := defScope st_is_enough_at) (by decide +kernel)) (fun _ _ _ _ _ => (pg_name (i := 4) sc_is_enough_at.nd rfl (by first | exact Or.inl rfl | exact Or.inr rfl))) (fun _ _ _ _ _ => pts_nil) (fun _ _ _ _ _ => (pe_callB (cr_any rfl) rfl T.z_any mbt_any (pa_cons (pe_lc (own := [("cost", 5), ("later", 6)]) rfl sc_is_enough_at.nd (pi_seq (pv 4)) (blkOk_by (by rfl)) (fun _ _ _ _ _ => (pg_tup rfl (pgs_cons (pg_name (i := 5) sc_is_enough_at.nd rfl (by first | exact Or.inl rfl | exact Or.inr rfl)) (pgs_cons (pg_name (i := 6) sc_is_enough_at.nd rfl (by first | exact Or.inl rfl | exact Or.inr rfl)) pgs_nil)))) (fun _ _ _ _ _ => pts_nil) (fun _ _ _ _ _ => (pe_and (pe_cmp (pc_nin hr.units (pv 6) (pv 1))) (pe_one (pe_cmpR op_le (pe_op op_addG (pv 5) (pe_nget hr.units (pv 1) (pv 6) (fun _ _ => rfl))) (pv 3) (nomark _)))))) pa_nil)))) pa_nil))))),
    body0 (N := N_is_enough_at) (x := x_is_enough_at) (dn_seq (dn_asg (den_dGet (den_var (i := 1)) (den_var (i := 2))))
      (dn_ret (den_cb cd_all (den_cons (den_ofL (den_comp (p := (.nm 4)) (vs := [4]) (SrcS.x (src_seq (den_meth0 T.no1_2 (den_var (i := 0)) (den_cons (den_var (i := 2)) den_nil)))) den_yes (den_cb cd_any (den_cons (den_ofL (den_comp (p := (.tup (.cons (.nm 5) (.cons (.nm 6) .nil)))) (vs := [5, 6]) (SrcS.x (src_seq (den_var (i := 4)))) den_yes (den_andV (den_dIn (neg := false) (den_var (i := 6)) (den_var (i := 1))) (den_bin od_le (den_bin od_add (den_var (i := 5)) (den_dGet (den_var (i := 1)) (den_var (i := 6)))) (den_var (i := 3)))) rfl)) den_nil)) rfl)) den_nil)))) h⟩
/-! is_needed_at -/
abbrev N_is_needed_at : List Str := ["play", "floors", "place", "least", "replies", "cost", "later"]
theorem sc_is_needed_at : FnScope N_is_needed_at ["play", "floors", "place"] (defScope st_is_needed_at) := ⟨rfl, rfl, rfl, by decide +kernel, rfl, by decide +kernel, by decide +kernel⟩
def x_is_needed_at : Sf :=
  (sSeq (sAsg 3 (dDGet (dVar 1) (dVar 2)))
  (sRet (dOr (dBin fLe (dVar 3) (dC (.int 0))) (dCB fAny (dCons (dOfL (dComp (wSeq (dMeth 1 m_Play_moves 2 (dVar 0) (dCons (dVar 2) dNil))) (.nm 4) eYes (dCB fAll (dCons (dOfL (dComp (wSeq (dVar 4)) (.tup (.cons (.nm 5) (.cons (.nm 6) .nil))) eYes (dBin fGe (dBin fAdd (dVar 5) (dCB fMax (dCons (dC (.int 0)) (dCons (dDGet2 (dVar 1) (dVar 6) (dC (.int 0))) dNil)))) (dVar 3)) [5, 6])) dNil)) [4])) dNil)))))
def m_is_needed_at : Mf := fnD N_is_needed_at.length x_is_needed_at
theorem ok_is_needed_at (T : Tx c mg a d) : FnOk P w c.K mg base CX0 11 (a 20) (d 20) ["play", "floors", "place"] (sp0 c m_is_needed_at 3) := by
  refine T.F20.ok sc_is_needed_at (fun vs H Q E h => h.1) (fun cdv A outer s H vs Q E hr h => ?_)
  exact ⟨_, (pss_cons (ps_set (i := 3) sc_is_needed_at.nd rfl (by first | exact Or.inl rfl | exact Or.inr rfl) (pe_nget hr.units (pv 1) (pv 2) (fun _ _ => rfl)))
      (pss_one (ps_ret (pe_or (pe_cmpR op_le (pv 3) pe_int (nomark _)) (pe_one (pe_callB (cr_any rfl) rfl T.z_any mbt_any (pa_cons (pe_lc (own := [("replies", 4)]) rfl sc_is_needed_at.nd (pi_seq (pe_meth (pv 0) T.K1.cl ⟨T.h6602, T.hf6602, T.F6602.kp⟩ (ok_Play_moves T) (hr.mono (by decide)) T.b6602 .nil pass0 (pa_cons (pv 2) pa_nil))) (blkOk_by (N := N_is_needed_at) (sc := defScope st_is_needed_at) (by decide +kernel)) (fun _ _ _ _ _ => (pg_name (i := 4) sc_is_needed_at.nd rfl (by first | exact Or.inl rfl | exact Or.inr rfl))) (fun _ _ _ _ _ => pts_nil) (fun _ _ _ _ _ => (pe_callB (cr_all rfl) rfl T.z_all mbt_all (pa_cons (pe_lc (own := [("cost", 5), ("later", 6)]) rfl sc_is_needed_at.nd (pi_seq (pv 4)) (blkOk_by (by rfl)) (fun _ _ _ _ _ => (pg_tup rfl (pgs_cons (pg_name (i := 5) sc_is_needed_at.nd rfl (by first | exact Or.inl rfl | exact Or.inr rfl)) (pgs_cons (pg_name (i := 6) sc_is_needed_at.nd rfl (by first | exact Or.inl rfl | exact Or.inr rfl)) pgs_nil)))) (fun _ _ _ _ _ => pts_nil) (fun _ _ _ _ _ => (pe_cmpR op_ge (pe_op op_addG (pv 5) (pe_callB (cr_max3 rfl) rfl T.z_max mbt_max (pa_cons pe_int (pa_cons (pe_nget2 hr.units (pv 1) (pv 6) pe_int ⟨rfl, rfl, rfl, rfl⟩) pa_nil)))) (pv 3) (nomark _)))) pa_nil)))) pa_nil))))))),
    body0 (N := N_is_needed_at) (x := x_is_needed_at) (dn_seq (dn_asg (den_dGet (den_var (i := 1)) (den_var (i := 2))))
      (dn_ret (den_orV (den_bin od_le (den_var (i := 3)) den_int) (den_cb cd_any (den_cons (den_ofL (den_comp (p := (.nm 4)) (vs := [4]) (SrcS.x (src_seq (den_meth0 T.no1_2 (den_var (i := 0)) (den_cons (den_var (i := 2)) den_nil)))) den_yes (den_cb cd_all (den_cons (den_ofL (den_comp (p := (.tup (.cons (.nm 5) (.cons (.nm 6) .nil)))) (vs := [5, 6]) (SrcS.x (src_seq (den_var (i := 4)))) den_yes (den_bin od_ge (den_bin od_add (den_var (i := 5)) (den_cb cd_max (den_cons den_int (den_cons (den_dGet2 (den_var (i := 1)) (den_var (i := 6)) den_int) den_nil)))) (den_var (i := 3))) rfl)) den_nil)) rfl)) den_nil))))) h⟩
/-! is_waiting_wish -/
abbrev N_is_waiting_wish : List Str := ["order", "delay", "pair", "person", "left"]
theorem sc_is_waiting_wish : FnScope N_is_waiting_wish ["order", "delay", "pair"] (defScope st_is_waiting_wish) := ⟨rfl, rfl, rfl, by decide +kernel, rfl, by decide +kernel, by decide +kernel⟩
def x_is_waiting_wish : Sf :=
  (sSeq (sIf (eOr (eNot (eBl (dCB (fIsiR [0, 1, 2, 3]) (dCons (dVar 2) (dCons (dC (.ty "tuple")) dNil))))) (eBl (dBin fNe (dCB fLen (dCons (dVar 2) dNil)) (dC (.int 2))))) (sRet (dC (.bl false))) sNext)
  (sSeq (sAsgP (.tup (.cons (.nm 3) (.cons (.nm 4) .nil))) (dVar 2))
  (sRet (dAnd (dCall (pur m_is_integer) 1 (dCons (dVar 3) dNil)) (dAnd (dBin fIn (dVar 3) (dVar 0)) (dCall (pur m_is_within) 3 (dCons (dVar 4) (dCons (dC (.int 0)) (dCons (dBin fSub (dVar 1) (dC (.int 1))) dNil)))))))))
def m_is_waiting_wish : Mf := fnD N_is_waiting_wish.length x_is_waiting_wish
theorem ok_is_waiting_wish (T : Tx c mg a d) : FnOk P w c.K mg base CX0 3 (a 57) (d 57) ["order", "delay", "pair"] (sp0 c m_is_waiting_wish 3) := by
  refine T.F57.ok sc_is_waiting_wish (fun vs H Q E h => h.1) (fun cdv A outer s H vs Q E hr h => ?_)
  exact ⟨_, (pss_cons (ps_if (PW.pt (pw_or (pt_not (pt_val (pe_callB call_isi rfl T.z_isinstance mbt_isinstance (pa_cons (pv 2) (pa_cons (pe_bltn (v := .ty "tuple") rfl T.z_tuple mbt_tuple rfl) pa_nil))))) (pw_or1 (pt_cmpR (op_neD hr.units) (pe_callB cr_len2 rfl T.z_len mbt_len (pa_cons (pv 2) pa_nil)) pe_int (nomark _))))) (pss_one (ps_ret pe_bl)) pss_nil)
      (pss_cons (ps_asg (pv 2) (pg_tup rfl (pgs_cons (pg_name (i := 3) sc_is_waiting_wish.nd rfl (by first | exact Or.inl rfl | exact Or.inr rfl)) (pgs_cons (pg_name (i := 4) sc_is_waiting_wish.nd rfl (by first | exact Or.inl rfl | exact Or.inr rfl)) pgs_nil))))
      (pss_one (ps_ret (pe_and (pe_call (ok_is_integer T) (hr.mono (by decide)) rfl T.m12 T.F12.kp T.b12 .nil pass0 (pa_cons (pv 3) pa_nil)) (pe_and (pe_cmpR op_in_seq (pv 3) (pv 0) (by rfl)) (pe_one (pe_call (ok_is_within T) (hr.mono (by decide)) rfl T.m13 T.F13.kp T.b13 .nil pass0 (pa_cons (pv 4) (pa_cons pe_int (pa_cons (pe_op op_sub (pv 1) pe_int) pa_nil))))))))))),
    body0 (N := N_is_waiting_wish) (x := x_is_waiting_wish) (dn_seq (dn_if (den_or (den_not (den_tB (den_cb (cd_isiR (al := [0, 1, 2, 3]) T.Kall) (den_cons (den_var (i := 2)) (den_cons den_ty den_nil))))) (den_test (den_bin od_ne (den_cb cd_len (den_cons (den_var (i := 2)) den_nil)) den_int))) (dn_ret den_bl) dn_next)
      (dn_seq (dn_asgP (p := (.tup (.cons (.nm 3) (.cons (.nm 4) .nil)))) (den_var (i := 2)))
      (dn_ret (den_andV (den_callP0 (den_cons (den_var (i := 3)) den_nil)) (den_andV (den_bin (od_in (neg := false)) (den_var (i := 3)) (den_var (i := 0))) (den_callP0 (den_cons (den_var (i := 4)) (den_cons den_int (den_cons (den_bin od_sub (den_var (i := 1)) den_int) den_nil))))))))) h⟩
/-! are_waiting_wishes -/
abbrev N_are_waiting_wishes : List Str := ["order", "delay", "waiting", "pair", "person", "_", "left"]
theorem sc_are_waiting_wishes : FnScope N_are_waiting_wishes ["order", "delay", "waiting"] (defScope st_are_waiting_wishes) := ⟨rfl, rfl, rfl, by decide +kernel, rfl, by decide +kernel, by decide +kernel⟩
def x_are_waiting_wishes : Sf :=
  (sSeq (sIf (eOr (eNot (eBl (dCB (fIsiR [0, 1, 2, 3]) (dCons (dVar 2) (dCons (dC (.ty "tuple")) dNil))))) (eNot (eBl (dCB fAll (dCons (dOfL (dComp (wSeq (dVar 2)) (.nm 3) eYes (dCall (pur m_is_waiting_wish) 3 (dCons (dVar 0) (dCons (dVar 1) (dCons (dVar 3) dNil)))) [3])) dNil))))) (sRet (dC (.bl false))) sNext)
  (sRet (dAnd (dCall (pur m_is_ascending) 1 (dCons (dOfL (dComp (wSeq (dVar 2)) (.tup (.cons (.nm 4) (.cons (.nm 5) .nil))) eYes (dVar 4) [4, 5])) dNil)) (dCall (pur m_is_ascending) 1 (dCons (dOfL (dSortL (dComp (wSeq (dVar 2)) (.tup (.cons (.nm 5) (.cons (.nm 6) .nil))) eYes (dVar 6) [5, 6]))) dNil)))))
def m_are_waiting_wishes : Mf := fnD N_are_waiting_wishes.length x_are_waiting_wishes
theorem ok_are_waiting_wishes (T : Tx c mg a d) : FnOk P w c.K mg base CX0 4 (a 58) (d 58) ["order", "delay", "waiting"] (sp0 c m_are_waiting_wishes 3) := by
  refine T.F58.ok sc_are_waiting_wishes (fun vs H Q E h => h.1) (fun cdv A outer s H vs Q E hr h => ?_)
  exact ⟨_, (pss_cons (ps_if (PW.pt (pw_or (pt_not (pt_val (pe_callB call_isi rfl T.z_isinstance mbt_isinstance (pa_cons (pv 2) (pa_cons (pe_bltn (v := .ty "tuple") rfl T.z_tuple mbt_tuple rfl) pa_nil))))) (pw_or1 (pt_not (pt_val (pe_callB (cr_all rfl) rfl T.z_all mbt_all (pa_cons (pe_lc (own := [("pair", 3)]) rfl sc_are_waiting_wishes.nd (pi_seq (pv 2)) (blkOk_by (N := N_are_waiting_wishes) (sc := defScope st_are_waiting_wishes) (by decide +kernel)) (fun _ _ _ _ _ => (pg_name (i := 3) sc_are_waiting_wishes.nd rfl (by first | exact Or.inl rfl | exact Or.inr rfl))) (fun _ _ _ _ _ => pts_nil) (fun _ _ _ _ _ => (pe_call (ok_is_waiting_wish T) (hr.mono (by decide)) rfl T.m57 T.F57.kp T.b57 .nil pass0 (pa_cons (pv 0) (pa_cons (pv 1) (pa_cons (pv 3) pa_nil)))))) pa_nil))))))) (pss_one (ps_ret pe_bl)) pss_nil)
      (pss_one (ps_ret (pe_and (pe_call (ok_is_ascending T) (hr.mono (by decide)) rfl T.m15 T.F15.kp T.b15 .nil pass0 (pa_cons (pe_lc (own := [("person", 4), ("_", 5)]) rfl sc_are_waiting_wishes.nd (pi_seq (pv 2)) (blkOk_by (N := N_are_waiting_wishes) (sc := defScope st_are_waiting_wishes) (by decide +kernel)) (fun _ _ _ _ _ => (pg_tup rfl (pgs_cons (pg_name (i := 4) sc_are_waiting_wishes.nd rfl (by first | exact Or.inl rfl | exact Or.inr rfl)) (pgs_cons (pg_name (i := 5) sc_are_waiting_wishes.nd rfl (by first | exact Or.inl rfl | exact Or.inr rfl)) pgs_nil)))) (fun _ _ _ _ _ => pts_nil) (fun _ _ _ _ _ => (pv 4))) pa_nil)) (pe_one (pe_call (ok_is_ascending T) (hr.mono (by decide)) rfl T.m15 T.F15.kp T.b15 .nil pass0 (pa_cons (pe_callB (cr_sortedD hr.units) rfl T.z_sorted mbt_sorted (pa_cons ((pe_lc (own := [("_", 5), ("left", 6)]) rfl sc_are_waiting_wishes.nd (pi_seq (pv 2)) (blkOk_by (N := N_are_waiting_wishes) (sc := defScope st_are_waiting_wishes) (by decide +kernel)) (fun _ _ _ _ _ => (pg_tup rfl (pgs_cons (pg_name (i := 5) sc_are_waiting_wishes.nd rfl (by first | exact Or.inl rfl | exact Or.inr rfl)) (pgs_cons (pg_name (i := 6) sc_are_waiting_wishes.nd rfl (by first | exact Or.inl rfl | exact Or.inr rfl)) pgs_nil)))) (fun _ _ _ _ _ => pts_nil) (fun _ _ _ _ _ => (pv 6)))) pa_nil)) pa_nil))))))),
    body0 (N := N_are_waiting_wishes) (x := x_are_waiting_wishes) (dn_seq (dn_if (den_or (den_not (den_tB (den_cb (cd_isiR (al := [0, 1, 2, 3]) T.Kall) (den_cons (den_var (i := 2)) (den_cons den_ty den_nil))))) (den_not (den_tB (den_cb cd_all (den_cons (den_ofL (den_comp (p := (.nm 3)) (vs := [3]) (SrcS.x (src_seq (den_var (i := 2)))) den_yes (den_callP0 (den_cons (den_var (i := 0)) (den_cons (den_var (i := 1)) (den_cons (den_var (i := 3)) den_nil)))) rfl)) den_nil))))) (dn_ret den_bl) dn_next)
      (dn_ret (den_andV (den_callP0 (den_cons (den_ofL (den_comp (p := (.tup (.cons (.nm 4) (.cons (.nm 5) .nil)))) (vs := [4, 5]) (SrcS.x (src_seq (den_var (i := 2)))) den_yes (den_var (i := 4)) rfl)) den_nil)) (den_callP0 (den_cons (den_ofL (den_sortM (den_FL (den_comp (p := (.tup (.cons (.nm 5) (.cons (.nm 6) .nil)))) (vs := [5, 6]) (SrcS.x (src_seq (den_var (i := 2)))) den_yes (den_var (i := 6)) rfl)))) den_nil))))) h⟩
/-! is_build -/
abbrev N_is_build : List Str := ["archive", "room", "build", "order", "kept"]
theorem sc_is_build : FnScope N_is_build ["archive", "room", "build"] (defScope st_is_build) := ⟨rfl, rfl, rfl, by decide +kernel, rfl, by decide +kernel, by decide +kernel⟩
def x_is_build : Sf :=
  (sSeq (sIf (eOr (eNot (eBl (dCB (fIsiR [0, 1, 2, 3]) (dCons (dVar 2) (dCons (dC (.ty "tuple")) dNil))))) (eBl (dBin fNe (dCB fLen (dCons (dVar 2) dNil)) (dC (.int 2))))) (sRet (dC (.bl false))) sNext)
  (sSeq (sAsgP (.tup (.cons (.nm 3) (.cons (.nm 4) .nil))) (dVar 2))
  (sSeq (sIf (eOr (eNot (eBl (dCall (pur m_is_tuple_within) 3 (dCons (dVar 3) (dCons (dC (.int 0)) (dCons (dBin fSub (dLenO 0 m_Archive___len (dVar 0)) (dC (.int 1))) dNil)))))) (eNot (eBl (dCall (pur m_is_ascending) 1 (dCons (dOfL (dSortF (dVar 3))) dNil))))) (sRet (dC (.bl false))) sNext)
  (sRet (dAnd (dCall (pur m_is_tuple_within) 3 (dCons (dVar 4) (dCons (dC (.int 1)) (dCons (dBin fSub (dCB fLen (dCons (dVar 3) dNil)) (dC (.int 1))) dNil)))) (dAnd (dCall (pur m_is_ascending) 1 (dCons (dVar 4) dNil)) (dBin fLe (dCB fLen (dCons (dVar 4) dNil)) (dVar 1))))))))
def m_is_build : Mf := fnD N_is_build.length x_is_build
theorem ok_is_build (T : Tx c mg a d) : FnOk P w c.K mg base CX0 4 (a 41) (d 41) ["archive", "room", "build"] (sp0 c m_is_build 3) := by
  refine T.F41.ok sc_is_build (fun vs H Q E h => h.1) (fun cdv A outer s H vs Q E hr h => ?_)
  exact ⟨_, (pss_cons (ps_if (PW.pt (pw_or (pt_not (pt_val (pe_callB call_isi rfl T.z_isinstance mbt_isinstance (pa_cons (pv 2) (pa_cons (pe_bltn (v := .ty "tuple") rfl T.z_tuple mbt_tuple rfl) pa_nil))))) (pw_or1 (pt_cmpR (op_neD hr.units) (pe_callB cr_len2 rfl T.z_len mbt_len (pa_cons (pv 2) pa_nil)) pe_int (nomark _))))) (pss_one (ps_ret pe_bl)) pss_nil)
      (pss_cons (ps_asg (pv 2) (pg_tup rfl (pgs_cons (pg_name (i := 3) sc_is_build.nd rfl (by first | exact Or.inl rfl | exact Or.inr rfl)) (pgs_cons (pg_name (i := 4) sc_is_build.nd rfl (by first | exact Or.inl rfl | exact Or.inr rfl)) pgs_nil))))
      (pss_cons (ps_if (PW.pt (pw_or (pt_not (pt_val (pe_call (ok_is_tuple_within T) (hr.mono (by decide)) rfl T.m14 T.F14.kp T.b14 .nil pass0 (pa_cons (pv 3) (pa_cons pe_int (pa_cons (pe_op op_sub (pe_lenO (ok_Archive___len T) (hr.mono (by decide)) T.h3303 T.hf3303 T.b3303 pass0 rfl T.z_len (pv 0)) pe_int) pa_nil)))))) (pw_or1 (pt_not (pt_val (pe_call (ok_is_ascending T) (hr.mono (by decide)) rfl T.m15 T.F15.kp T.b15 .nil pass0 (pa_cons (pe_callB (cr_sortedD hr.units) rfl T.z_sorted mbt_sorted (pa_cons ((pv 3)) pa_nil)) pa_nil))))))) (pss_one (ps_ret pe_bl)) pss_nil)
      (pss_one (ps_ret (pe_and (pe_call (ok_is_tuple_within T) (hr.mono (by decide)) rfl T.m14 T.F14.kp T.b14 .nil pass0 (pa_cons (pv 4) (pa_cons pe_int (pa_cons (pe_op op_sub (pe_callB cr_len2 rfl T.z_len mbt_len (pa_cons (pv 3) pa_nil)) pe_int) pa_nil)))) (pe_and (pe_call (ok_is_ascending T) (hr.mono (by decide)) rfl T.m15 T.F15.kp T.b15 .nil pass0 (pa_cons (pv 4) pa_nil)) (pe_one (pe_cmpR op_le (pe_callB cr_len2 rfl T.z_len mbt_len (pa_cons (pv 4) pa_nil)) (pv 1) (nomark _)))))))))),
    body0 (N := N_is_build) (x := x_is_build) (dn_seq (dn_if (den_or (den_not (den_tB (den_cb (cd_isiR (al := [0, 1, 2, 3]) T.Kall) (den_cons (den_var (i := 2)) (den_cons den_ty den_nil))))) (den_test (den_bin od_ne (den_cb cd_len (den_cons (den_var (i := 2)) den_nil)) den_int))) (dn_ret den_bl) dn_next)
      (dn_seq (dn_asgP (p := (.tup (.cons (.nm 3) (.cons (.nm 4) .nil)))) (den_var (i := 2)))
      (dn_seq (dn_if (den_or (den_not (den_tB (den_callP0 (den_cons (den_var (i := 3)) (den_cons den_int (den_cons (den_bin od_sub (den_lenO0 (den_var (i := 0))) den_int) den_nil)))))) (den_not (den_tB (den_callP0 (den_cons (den_ofL (den_sort (den_var (i := 3)))) den_nil))))) (dn_ret den_bl) dn_next)
      (dn_ret (den_andV (den_callP0 (den_cons (den_var (i := 4)) (den_cons den_int (den_cons (den_bin od_sub (den_cb cd_len (den_cons (den_var (i := 3)) den_nil)) den_int) den_nil)))) (den_andV (den_callP0 (den_cons (den_var (i := 4)) den_nil)) (den_bin od_le (den_cb cd_len (den_cons (den_var (i := 4)) den_nil)) (den_var (i := 1))))))))) h⟩
/-! is_position -/
abbrev N_is_position : List Str := ["archive", "room", "delay", "position", "order", "kept", "waiting", "ticks"]
theorem sc_is_position : FnScope N_is_position ["archive", "room", "delay", "position"] (defScope st_is_position) := ⟨rfl, rfl, rfl, by decide +kernel, rfl, by decide +kernel, by decide +kernel⟩
def x_is_position : Sf :=
  (sSeq (sIf (eOr (eNot (eBl (dCB (fIsiR [0, 1, 2, 3]) (dCons (dVar 3) (dCons (dC (.ty "tuple")) dNil))))) (eBl (dBin fNe (dCB fLen (dCons (dVar 3) dNil)) (dC (.int 4))))) (sRet (dC (.bl false))) sNext)
  (sSeq (sAsgP (.tup (.cons (.nm 4) (.cons (.nm 5) (.cons (.nm 6) (.cons (.nm 7) .nil))))) (dVar 3))
  (sSeq (sIf (eOr (eNot (eBl (dCall (pur m_is_build) 3 (dCons (dVar 0) (dCons (dVar 1) (dCons (dTup (dCons (dVar 4) (dCons (dVar 5) dNil))) dNil)))))) (eNot (eBl (dCall (pur m_is_within) 3 (dCons (dVar 7) (dCons (dC (.int 0)) (dCons (dC (.int 4)) dNil))))))) (sRet (dC (.bl false))) sNext)
  (sRet (dCall (pur m_are_waiting_wishes) 3 (dCons (dVar 4) (dCons (dVar 2) (dCons (dVar 6) dNil))))))))
def m_is_position : Mf := fnD N_is_position.length x_is_position
theorem ok_is_position (T : Tx c mg a d) : FnOk P w c.K mg base CX0 5 (a 59) (d 59) ["archive", "room", "delay", "position"] (sp0 c m_is_position 4) := by
  refine T.F59.ok sc_is_position (fun vs H Q E h => h.1) (fun cdv A outer s H vs Q E hr h => ?_)
  exact ⟨_, (pss_cons (ps_if (PW.pt (pw_or (pt_not (pt_val (pe_callB call_isi rfl T.z_isinstance mbt_isinstance (pa_cons (pv 3) (pa_cons (pe_bltn (v := .ty "tuple") rfl T.z_tuple mbt_tuple rfl) pa_nil))))) (pw_or1 (pt_cmpR (op_neD hr.units) (pe_callB cr_len2 rfl T.z_len mbt_len (pa_cons (pv 3) pa_nil)) pe_int (nomark _))))) (pss_one (ps_ret pe_bl)) pss_nil)
      (pss_cons (ps_asg (pv 3) (pg_tup rfl (pgs_cons (pg_name (i := 4) sc_is_position.nd rfl (by first | exact Or.inl rfl | exact Or.inr rfl)) (pgs_cons (pg_name (i := 5) sc_is_position.nd rfl (by first | exact Or.inl rfl | exact Or.inr rfl)) (pgs_cons (pg_name (i := 6) sc_is_position.nd rfl (by first | exact Or.inl rfl | exact Or.inr rfl)) (pgs_cons (pg_name (i := 7) sc_is_position.nd rfl (by first | exact Or.inl rfl | exact Or.inr rfl)) pgs_nil))))))
      (pss_cons (ps_if (PW.pt (pw_or (pt_not (pt_val (pe_call (ok_is_build T) (hr.mono (by decide)) rfl T.m41 T.F41.kp T.b41 .nil pass0 (pa_cons (pv 0) (pa_cons (pv 1) (pa_cons (pe_tupZ (pa_cons (pv 4) (pa_cons (pv 5) pa_nil))) pa_nil)))))) (pw_or1 (pt_not (pt_val (pe_call (ok_is_within T) (hr.mono (by decide)) rfl T.m13 T.F13.kp T.b13 .nil pass0 (pa_cons (pv 7) (pa_cons pe_int (pa_cons (pe_globE (v := .int 4) rfl T.g53) pa_nil))))))))) (pss_one (ps_ret pe_bl)) pss_nil)
      (pss_one (ps_ret (pe_call (ok_are_waiting_wishes T) (hr.mono (by decide)) rfl T.m58 T.F58.kp T.b58 .nil pass0 (pa_cons (pv 4) (pa_cons (pv 2) (pa_cons (pv 6) pa_nil))))))))),
    body0 (N := N_is_position) (x := x_is_position) (dn_seq (dn_if (den_or (den_not (den_tB (den_cb (cd_isiR (al := [0, 1, 2, 3]) T.Kall) (den_cons (den_var (i := 3)) (den_cons den_ty den_nil))))) (den_test (den_bin od_ne (den_cb cd_len (den_cons (den_var (i := 3)) den_nil)) den_int))) (dn_ret den_bl) dn_next)
      (dn_seq (dn_asgP (p := (.tup (.cons (.nm 4) (.cons (.nm 5) (.cons (.nm 6) (.cons (.nm 7) .nil)))))) (den_var (i := 3)))
      (dn_seq (dn_if (den_or (den_not (den_tB (den_callP0 (den_cons (den_var (i := 0)) (den_cons (den_var (i := 1)) (den_cons (den_tup (den_cons (den_var (i := 4)) (den_cons (den_var (i := 5)) den_nil))) den_nil)))))) (den_not (den_tB (den_callP0 (den_cons (den_var (i := 7)) (den_cons den_int (den_cons den_int den_nil))))))) (dn_ret den_bl) dn_next)
      (dn_ret (den_callP0 (den_cons (den_var (i := 4)) (den_cons (den_var (i := 2)) (den_cons (den_var (i := 6)) den_nil)))))))) h⟩
/-! Play.has -/
abbrev N_Play_has : List Str := ["self", "place"]
theorem sc_Play_has : FnScope N_Play_has ["self", "place"] (defScope st_Play_has) := ⟨rfl, rfl, rfl, by decide +kernel, rfl, by decide +kernel, by decide +kernel⟩
def x_Play_has : Sf :=
  (sRet (dCall (pur m_is_position) 4 (dCons (dFld 1 0 (dVar 0)) (dCons (dFld 1 1 (dVar 0)) (dCons (dFld 1 2 (dVar 0)) (dCons (dVar 1) dNil))))))
def m_Play_has : Mf := fnD N_Play_has.length x_Play_has
theorem ok_Play_has (T : Tx c mg a d) : FnOk P w c.K mg base CX0 6 (a 6601) (d 6601) ["self", "place"] (sp0 c m_Play_has 2) := by
  refine T.F6601.ok sc_Play_has (fun vs H Q E h => h.1) (fun cdv A outer s H vs Q E hr h => ?_)
  exact ⟨_, (pss_one (ps_ret (pe_call (ok_is_position T) (hr.mono (by decide)) rfl T.m59 T.F59.kp T.b59 .nil pass0 (pa_cons (pe_fld (pv 0) rfl) (pa_cons (pe_fld (pv 0) rfl) (pa_cons (pe_fld (pv 0) rfl) (pa_cons (pv 1) pa_nil))))))),
    body0 (N := N_Play_has) (x := x_Play_has) (dn_ret (den_callP0 (den_cons (den_fld (k := 1) (j := 0) T.K1.cl T.na1_0 T.nd1 T.fj1_0 (den_var (i := 0))) (den_cons (den_fld (k := 1) (j := 1) T.K1.cl T.na1_1 T.nd1 T.fj1_1 (den_var (i := 0))) (den_cons (den_fld (k := 1) (j := 2) T.K1.cl T.na1_2 T.nd1 T.fj1_2 (den_var (i := 0))) (den_cons (den_var (i := 1)) den_nil)))))) h⟩
/-! are_heights -/
abbrev N_are_heights : List Str := ["play", "heights", "start", "most", "place"]
theorem sc_are_heights : FnScope N_are_heights ["play", "heights", "start", "most"] (defScope st_are_heights) := ⟨rfl, rfl, rfl, by decide +kernel, rfl, by decide +kernel, by decide +kernel⟩
def x_are_heights : Sf :=
  (sSeq (sIf (eNot (eBl (dCB fAll (dCons (dOfL (dComp (wKeys (dVar 1)) (.nm 4) eYes (dAnd (dMeth 1 m_Play_has 2 (dVar 0) (dCons (dVar 4) dNil)) (dAnd (dCall (pur m_is_integer) 1 (dCons (dDGet (dVar 1) (dVar 4)) dNil)) (dBin fGe (dDGet (dVar 1) (dVar 4)) (dC (.int 0))))) [4])) dNil)))) (sRet (dC (.bl false))) sNext)
  (sSeq (sIf (eOr (eBl (dDIn true (dVar 2) (dVar 1))) (eBl (dBin fGt (dDGet (dVar 1) (dVar 2)) (dVar 3)))) (sRet (dC (.bl false))) sNext)
  (sRet (dCB fAll (dCons (dOfL (dComp (wKeys (dVar 1)) (.nm 4) eYes (dCall (pur m_is_enough_at) 3 (dCons (dVar 0) (dCons (dVar 1) (dCons (dVar 4) dNil)))) [4])) dNil)))))
def m_are_heights : Mf := fnD N_are_heights.length x_are_heights
theorem ok_are_heights (T : Tx c mg a d) : FnOk P w c.K mg base CX0 12 (a 21) (d 21) ["play", "heights", "start", "most"] (sp0 c m_are_heights 4) := by
  refine T.F21.ok sc_are_heights (fun vs H Q E h => h.1) (fun cdv A outer s H vs Q E hr h => ?_)
  exact ⟨_, (pss_cons (ps_if (pt_not (pt_val (pe_callB (cr_all rfl) rfl T.z_all mbt_all (pa_cons (pe_lc (own := [("place", 4)]) rfl sc_are_heights.nd (pi_nkeys (pv 1)) (blkOk_by (N := N_are_heights) (sc := defScope st_are_heights) (by decide +kernel)) (fun _ _ _ _ _ => (pg_name (i := 4) sc_are_heights.nd rfl (by first | exact Or.inl rfl | exact Or.inr rfl))) (fun _ _ _ _ _ => pts_nil) (fun _ _ _ _ _ => (pe_and (pe_meth (pv 0) T.K1.cl ⟨T.h6601, T.hf6601, T.F6601.kp⟩ (ok_Play_has T) (hr.mono (by decide)) T.b6601 .nil pass0 (pa_cons (pv 4) pa_nil)) (pe_and (pe_call (ok_is_integer T) (hr.mono (by decide)) rfl T.m12 T.F12.kp T.b12 .nil pass0 (pa_cons (pe_nget hr.units (pv 1) (pv 4) (fun _ _ => rfl)) pa_nil)) (pe_one (pe_cmpR op_ge (pe_nget hr.units (pv 1) (pv 4) (fun _ _ => rfl)) pe_int (nomark _))))))) pa_nil)))) (pss_one (ps_ret pe_bl)) pss_nil)
      (pss_cons (ps_if (PW.pt (pw_or (pt_cmp (pc_nnotin hr.units (pv 2) (pv 1))) (pw_or1 (pt_cmpR op_gt (pe_nget hr.units (pv 1) (pv 2) (fun _ _ => rfl)) (pv 3) (nomark _))))) (pss_one (ps_ret pe_bl)) pss_nil)
      (pss_one (ps_ret (pe_callB (cr_all rfl) rfl T.z_all mbt_all (pa_cons (pe_lc (own := [("place", 4)]) rfl sc_are_heights.nd (pi_nkeys (pv 1)) (blkOk_by (N := N_are_heights) (sc := defScope st_are_heights) (by decide +kernel)) (fun _ _ _ _ _ => (pg_name (i := 4) sc_are_heights.nd rfl (by first | exact Or.inl rfl | exact Or.inr rfl))) (fun _ _ _ _ _ => pts_nil) (fun _ _ _ _ _ => (pe_call (ok_is_enough_at T) (hr.mono (by decide)) rfl T.m19 T.F19.kp T.b19 .nil pass0 (pa_cons (pv 0) (pa_cons (pv 1) (pa_cons (pv 4) pa_nil)))))) pa_nil)))))),
    body0 (N := N_are_heights) (x := x_are_heights) (dn_seq (dn_if (den_not (den_tB (den_cb cd_all (den_cons (den_ofL (den_comp (p := (.nm 4)) (vs := [4]) (SrcS.x (src_keys (den_var (i := 1)))) den_yes (den_andV (den_meth0 T.no1_1 (den_var (i := 0)) (den_cons (den_var (i := 4)) den_nil)) (den_andV (den_callP0 (den_cons (den_dGet (den_var (i := 1)) (den_var (i := 4))) den_nil)) (den_bin od_ge (den_dGet (den_var (i := 1)) (den_var (i := 4))) den_int))) rfl)) den_nil)))) (dn_ret den_bl) dn_next)
      (dn_seq (dn_if (den_or (den_tB (den_dIn (neg := true) (den_var (i := 2)) (den_var (i := 1)))) (den_test (den_bin od_gt (den_dGet (den_var (i := 1)) (den_var (i := 2))) (den_var (i := 3))))) (dn_ret den_bl) dn_next)
      (dn_ret (den_cb cd_all (den_cons (den_ofL (den_comp (p := (.nm 4)) (vs := [4]) (SrcS.x (src_keys (den_var (i := 1)))) den_yes (den_callP0 (den_cons (den_var (i := 0)) (den_cons (den_var (i := 1)) (den_cons (den_var (i := 4)) den_nil)))) rfl)) den_nil))))) h⟩
/-! are_floors -/
abbrev N_are_floors : List Str := ["play", "floors", "starts", "least", "place", "start"]
theorem sc_are_floors : FnScope N_are_floors ["play", "floors", "starts", "least"] (defScope st_are_floors) := ⟨rfl, rfl, rfl, by decide +kernel, rfl, by decide +kernel, by decide +kernel⟩
def x_are_floors : Sf :=
  (sSeq (sIf (eNot (eBl (dCB fAll (dCons (dOfL (dComp (wKeys (dVar 1)) (.nm 4) eYes (dAnd (dMeth 1 m_Play_has 2 (dVar 0) (dCons (dVar 4) dNil)) (dCall (pur m_is_integer) 1 (dCons (dDGet (dVar 1) (dVar 4)) dNil))) [4])) dNil)))) (sRet (dC (.bl false))) sNext)
  (sSeq (sIf (eAnd (eBl (dBin fGt (dVar 3) (dC (.int 0)))) (eNot (eBl (dCB fAll (dCons (dOfL (dComp (wSeq (dVar 2)) (.nm 5) eYes (dAnd (dDIn false (dVar 5) (dVar 1)) (dBin fGe (dDGet (dVar 1) (dVar 5)) (dVar 3))) [5])) dNil))))) (sRet (dC (.bl false))) sNext)
  (sRet (dCB fAll (dCons (dOfL (dComp (wKeys (dVar 1)) (.nm 4) eYes (dCall (pur m_is_needed_at) 3 (dCons (dVar 0) (dCons (dVar 1) (dCons (dVar 4) dNil)))) [4])) dNil)))))
def m_are_floors : Mf := fnD N_are_floors.length x_are_floors
theorem ok_are_floors (T : Tx c mg a d) : FnOk P w c.K mg base CX0 12 (a 22) (d 22) ["play", "floors", "starts", "least"] (sp0 c m_are_floors 4) := by
  refine T.F22.ok sc_are_floors (fun vs H Q E h => h.1) (fun cdv A outer s H vs Q E hr h => ?_)
  exact ⟨_, (pss_cons (ps_if (pt_not (pt_val (pe_callB (cr_all rfl) rfl T.z_all mbt_all (pa_cons (pe_lc (own := [("place", 4)]) rfl sc_are_floors.nd (pi_nkeys (pv 1)) (blkOk_by (N := N_are_floors) (sc := defScope st_are_floors) (by decide +kernel)) (fun _ _ _ _ _ => (pg_name (i := 4) sc_are_floors.nd rfl (by first | exact Or.inl rfl | exact Or.inr rfl))) (fun _ _ _ _ _ => pts_nil) (fun _ _ _ _ _ => (pe_and (pe_meth (pv 0) T.K1.cl ⟨T.h6601, T.hf6601, T.F6601.kp⟩ (ok_Play_has T) (hr.mono (by decide)) T.b6601 .nil pass0 (pa_cons (pv 4) pa_nil)) (pe_one (pe_call (ok_is_integer T) (hr.mono (by decide)) rfl T.m12 T.F12.kp T.b12 .nil pass0 (pa_cons (pe_nget hr.units (pv 1) (pv 4) (fun _ _ => rfl)) pa_nil)))))) pa_nil)))) (pss_one (ps_ret pe_bl)) pss_nil)
      (pss_cons (ps_if (PW.pt (pw_and (pt_cmpR op_gt (pv 3) pe_int (nomark _)) (pw_and1 (pt_not (pt_val (pe_callB (cr_all rfl) rfl T.z_all mbt_all (pa_cons (pe_lc (own := [("start", 5)]) rfl sc_are_floors.nd (pi_seq (pv 2)) (blkOk_by (N := N_are_floors) (sc := defScope st_are_floors) (by decide +kernel)) (fun _ _ _ _ _ => (pg_name (i := 5) sc_are_floors.nd rfl (by first | exact Or.inl rfl | exact Or.inr rfl))) (fun _ _ _ _ _ => pts_nil) (fun _ _ _ _ _ => (pe_and (pe_cmp (pc_nin hr.units (pv 5) (pv 1))) (pe_one (pe_cmpR op_ge (pe_nget hr.units (pv 1) (pv 5) (fun _ _ => rfl)) (pv 3) (nomark _)))))) pa_nil))))))) (pss_one (ps_ret pe_bl)) pss_nil)
      (pss_one (ps_ret (pe_callB (cr_all rfl) rfl T.z_all mbt_all (pa_cons (pe_lc (own := [("place", 4)]) rfl sc_are_floors.nd (pi_nkeys (pv 1)) (blkOk_by (N := N_are_floors) (sc := defScope st_are_floors) (by decide +kernel)) (fun _ _ _ _ _ => (pg_name (i := 4) sc_are_floors.nd rfl (by first | exact Or.inl rfl | exact Or.inr rfl))) (fun _ _ _ _ _ => pts_nil) (fun _ _ _ _ _ => (pe_call (ok_is_needed_at T) (hr.mono (by decide)) rfl T.m20 T.F20.kp T.b20 .nil pass0 (pa_cons (pv 0) (pa_cons (pv 1) (pa_cons (pv 4) pa_nil)))))) pa_nil)))))),
    body0 (N := N_are_floors) (x := x_are_floors) (dn_seq (dn_if (den_not (den_tB (den_cb cd_all (den_cons (den_ofL (den_comp (p := (.nm 4)) (vs := [4]) (SrcS.x (src_keys (den_var (i := 1)))) den_yes (den_andV (den_meth0 T.no1_1 (den_var (i := 0)) (den_cons (den_var (i := 4)) den_nil)) (den_callP0 (den_cons (den_dGet (den_var (i := 1)) (den_var (i := 4))) den_nil))) rfl)) den_nil)))) (dn_ret den_bl) dn_next)
      (dn_seq (dn_if (den_and (den_test (den_bin od_gt (den_var (i := 3)) den_int)) (den_not (den_tB (den_cb cd_all (den_cons (den_ofL (den_comp (p := (.nm 5)) (vs := [5]) (SrcS.x (src_seq (den_var (i := 2)))) den_yes (den_andV (den_dIn (neg := false) (den_var (i := 5)) (den_var (i := 1))) (den_bin od_ge (den_dGet (den_var (i := 1)) (den_var (i := 5))) (den_var (i := 3)))) rfl)) den_nil))))) (dn_ret den_bl) dn_next)
      (dn_ret (den_cb cd_all (den_cons (den_ofL (den_comp (p := (.nm 4)) (vs := [4]) (SrcS.x (src_keys (den_var (i := 1)))) den_yes (den_callP0 (den_cons (den_var (i := 0)) (den_cons (den_var (i := 1)) (den_cons (den_var (i := 4)) den_nil)))) rfl)) den_nil))))) h⟩
/-! copied -/
abbrev N_copied : List Str := ["table", "key"]
theorem sc_copied : FnScope N_copied ["table"] (defScope st_copied) := ⟨rfl, rfl, rfl, by decide +kernel, rfl, by decide +kernel, by decide +kernel⟩
def x_copied : Sf :=
  (sRet (dCopy 0 1))
def m_copied : Mf := fnD N_copied.length x_copied
theorem ok_copied (T : Tx c mg a d) : FnOk P w c.K mg base CX0 1 (a 23) (d 23) ["table"] (sp0 c m_copied 1) := by
  refine T.F23.ok sc_copied (fun vs H Q E h => h.1) (fun cdv A outer s H vs Q E hr h => ?_)
  exact ⟨_, (pss_one (ps_ret (pe_ndc (own := [("key", 1)]) hr.units rfl sc_copied.nd (pi_nkeys (pv 0)) (blkOk_by (N := N_copied) (sc := defScope st_copied) (by decide +kernel)) ⟨(fun _ _ _ _ _ => (pg_name (i := 1) sc_copied.nd rfl (by first | exact Or.inl rfl | exact Or.inr rfl))), (fun _ _ _ _ _ => (pv 1)), (fun _ _ _ _ _ => (pe_nget hr.units (pv 0) (pv 1) (fun _ _ => rfl))), (fun _ _ _ _ _ => pts_nil)⟩))),
    body0 (N := N_copied) (x := x_copied) (dn_ret (den_copy (i := 0) (j := 1) (by decide))) h⟩
/-! just_enough -/
abbrev N_just_enough : List Str := ["pairs", "at", "_", "bound"]
theorem sc_just_enough : FnScope N_just_enough ["pairs"] (defScope st_just_enough) := ⟨rfl, rfl, rfl, by decide +kernel, rfl, by decide +kernel, by decide +kernel⟩
def x_just_enough : Sf :=
  (sRet (dOfL (dComp (wRng1 (dCons (dCB fLen (dCons (dVar 0) dNil)) dNil)) (.nm 1) (eBl (dCB fAll (dCons (dOfL (dComp (wSeq (dSl (dVar 0) dNoPart (dPart (dVar 1)))) (.tup (.cons (.nm 2) (.cons (.nm 3) .nil))) eYes (dBin fLt (dBin fIx (dBin fIx (dVar 0) (dVar 1)) (dC (.int 1))) (dVar 3)) [2, 3])) dNil))) (dBin fIx (dVar 0) (dVar 1)) [1])))
def m_just_enough : Mf := fnD N_just_enough.length x_just_enough
theorem ok_just_enough (T : Tx c mg a d) : FnOk P w c.K mg base CX0 1 (a 24) (d 24) ["pairs"] (sp0 c m_just_enough 1) := by
  refine T.F24.ok sc_just_enough (fun vs H Q E h => h.1) (fun cdv A outer s H vs Q E hr h => ?_)
  exact ⟨_, (pss_one (ps_ret (pe_lc (own := [("at", 1)]) rfl sc_just_enough.nd (pi_range1 rfl T.z_range (pa_cons (pe_callB cr_len2 rfl T.z_len mbt_len (pa_cons (pv 0) pa_nil)) pa_nil)) (blkOk_by (N := N_just_enough) (sc := defScope st_just_enough) (by decide +kernel)) (fun _ _ _ _ _ => (pg_name (i := 1) sc_just_enough.nd rfl (by first | exact Or.inl rfl | exact Or.inr rfl))) (fun _ _ _ _ _ => (pts_one (pt_val (pe_callB (cr_all rfl) rfl T.z_all mbt_all (pa_cons (pe_lc (own := [("_", 2), ("bound", 3)]) rfl sc_just_enough.nd (pi_seq (pe_slice sl_G (pv 0) po_none (po_some (pv 1)))) (blkOk_by (by rfl)) (fun _ _ _ _ _ => (pg_tup rfl (pgs_cons (pg_name (i := 2) sc_just_enough.nd rfl (by first | exact Or.inl rfl | exact Or.inr rfl)) (pgs_cons (pg_name (i := 3) sc_just_enough.nd rfl (by first | exact Or.inl rfl | exact Or.inr rfl)) pgs_nil)))) (fun _ _ _ _ _ => pts_nil) (fun _ _ _ _ _ => (pe_cmpR op_lt (pe_ix ix_seq (pe_ix ix_seq (pv 0) (pv 1) (fun _ _ => rfl)) pe_int (fun _ _ => rfl)) (pv 3) (nomark _)))) pa_nil))))) (fun _ _ _ _ _ => (pe_ix ix_seq (pv 0) (pv 1) (fun _ _ => rfl)))))),
    body0 (N := N_just_enough) (x := x_just_enough) (dn_ret (den_ofL (den_comp (p := (.nm 1)) (vs := [1]) (SrcS.x (src_rng1 (den_cons (den_cb cd_len (den_cons (den_var (i := 0)) den_nil)) den_nil))) (den_tB (den_cb cd_all (den_cons (den_ofL (den_comp (p := (.tup (.cons (.nm 2) (.cons (.nm 3) .nil)))) (vs := [2, 3]) (SrcS.x (src_seq (den_sl (den_var (i := 0)) den_noPart (den_part (den_var (i := 1)))))) den_yes (den_bin od_lt (den_bin od_ix (den_bin od_ix (den_var (i := 0)) (den_var (i := 1))) den_int) (den_var (i := 3))) rfl)) den_nil))) (den_bin od_ix (den_var (i := 0)) (den_var (i := 1))) rfl))) h⟩
/-! Archive.__init__ -/
abbrev N_Archive___init : List Str := ["self", "sizes"]
theorem sc_Archive___init : FnScope N_Archive___init ["self", "sizes"] (defScope st_Archive___init) := ⟨rfl, rfl, rfl, by decide +kernel, rfl, by decide +kernel, by decide +kernel⟩
def x_Archive___init : Sf :=
  (sSeq (sIf (eOr (eNot (eBl (dCall (pur m_is_tuple_within) 3 (dCons (dVar 1) (dCons (dC (.int 1)) (dCons (dC (.int 4)) dNil)))))) (eNot (eBl (dCall (pur m_is_within) 3 (dCons (dCB fLen (dCons (dVar 1) dNil)) (dCons (dC (.int 1)) (dCons (dC (.int 4)) dNil))))))) sBad sNext)
  (sFldO 0 "_sizes" (dVar 1)))
def mi_Archive : List D → Sto → Res (List D) := initD N_Archive___init.length 0 ["_sizes"] x_Archive___init
theorem ok_Archive___init (T : Tx c mg a d) : FnOk P w c.K mg base CX0 4 (a 3300) (d 3300) ["self", "sizes"] (spI0 c 0 mi_Archive 2) := by
  refine T.F3300.ok sc_Archive___init (fun vs H Q E h => h.1) (fun cdv A outer s H vs Q E hr h => ?_)
  exact ⟨_, (pss_cons (ps_if (PW.pt (pw_or (pt_not (pt_val (pe_call (ok_is_tuple_within T) (hr.mono (by decide)) rfl T.m14 T.F14.kp T.b14 .nil pass0 (pa_cons (pv 1) (pa_cons pe_int (pa_cons (pe_globE (v := .int 4) rfl T.g30) pa_nil)))))) (pw_or1 (pt_not (pt_val (pe_call (ok_is_within T) (hr.mono (by decide)) rfl T.m13 T.F13.kp T.b13 .nil pass0 (pa_cons (pe_callB cr_len2 rfl T.z_len mbt_len (pa_cons (pv 1) pa_nil)) (pa_cons pe_int (pa_cons (pe_globE (v := .int 4) rfl T.g29) pa_nil))))))))) (pss_one ps_never) pss_nil)
      (pss_one (ps_fld (pv 0) (pv 1) rfl))),
    init_ok (N := N_Archive___init) (x := x_Archive___init) T.fn0.symm (by decide) (dn_seq (dn_if (den_or (den_not (den_tB (den_callP0 (den_cons (den_var (i := 1)) (den_cons den_int (den_cons den_int den_nil)))))) (den_not (den_tB (den_callP0 (den_cons (den_cb cd_len (den_cons (den_var (i := 1)) den_nil)) (den_cons den_int (den_cons den_int den_nil))))))) dn_never dn_next)
      (dn_fldO T.clAll T.naAll_0_0 (den_var (i := 1)))) h⟩
/-! check_archive -/
abbrev N_check_archive : List Str := ["archive"]
theorem sc_check_archive : FnScope N_check_archive ["archive"] (defScope st_check_archive) := ⟨rfl, rfl, rfl, by decide +kernel, rfl, by decide +kernel, by decide +kernel⟩
def x_check_archive : Sf :=
  (sIf (eNot (eBl (dCB (fIsiR [0, 1, 2, 3]) (dCons (dVar 0) (dCons (dC (.cls 0)) dNil))))) sBad sNext)
def m_check_archive : Mf := fnD N_check_archive.length x_check_archive
theorem ok_check_archive (T : Tx c mg a d) : FnOk P w c.K mg base CX0 1 (a 34) (d 34) ["archive"] (sp0 c m_check_archive 1) := by
  refine T.F34.ok sc_check_archive (fun vs H Q E h => h.1) (fun cdv A outer s H vs Q E hr h => ?_)
  exact ⟨_, (pss_one (ps_if (pt_not (pt_val (pe_callB call_isi rfl T.z_isinstance mbt_isinstance (pa_cons (pv 0) (pa_cons (pe_glob (v := .ref (c.cl 0)) rfl T.mc0 rfl) pa_nil))))) (pss_one ps_never) pss_nil)),
    body0 (N := N_check_archive) (x := x_check_archive) (dn_if (den_not (den_tB (den_cb (cd_isiR (al := [0, 1, 2, 3]) T.Kall) (den_cons (den_var (i := 0)) (den_cons (den_cls (k := 0)) den_nil))))) dn_never dn_next) h⟩
/-! check_room -/
abbrev N_check_room : List Str := ["room"]
theorem sc_check_room : FnScope N_check_room ["room"] (defScope st_check_room) := ⟨rfl, rfl, rfl, by decide +kernel, rfl, by decide +kernel, by decide +kernel⟩
def x_check_room : Sf :=
  (sIf (eNot (eBl (dCall (pur m_is_within) 3 (dCons (dVar 0) (dCons (dC (.int 0)) (dCons (dC (.int 3)) dNil)))))) sBad sNext)
def m_check_room : Mf := fnD N_check_room.length x_check_room
theorem ok_check_room (T : Tx c mg a d) : FnOk P w c.K mg base CX0 3 (a 35) (d 35) ["room"] (sp0 c m_check_room 1) := by
  refine T.F35.ok sc_check_room (fun vs H Q E h => h.1) (fun cdv A outer s H vs Q E hr h => ?_)
  exact ⟨_, (pss_one (ps_if (pt_not (pt_val (pe_call (ok_is_within T) (hr.mono (by decide)) rfl T.m13 T.F13.kp T.b13 .nil pass0 (pa_cons (pv 0) (pa_cons pe_int (pa_cons (pe_globE (v := .int 3) rfl T.g31) pa_nil)))))) (pss_one ps_never) pss_nil)),
    body0 (N := N_check_room) (x := x_check_room) (dn_if (den_not (den_tB (den_callP0 (den_cons (den_var (i := 0)) (den_cons den_int (den_cons den_int den_nil)))))) dn_never dn_next) h⟩
/-! check_few -/
abbrev N_check_few : List Str := ["archive"]
theorem sc_check_few : FnScope N_check_few ["archive"] (defScope st_check_few) := ⟨rfl, rfl, rfl, by decide +kernel, rfl, by decide +kernel, by decide +kernel⟩
def x_check_few : Sf :=
  (sIf (eBl (dBin fGt (dLenO 0 m_Archive___len (dVar 0)) (dC (.int 3)))) sBad sNext)
def m_check_few : Mf := fnD N_check_few.length x_check_few
theorem ok_check_few (T : Tx c mg a d) : FnOk P w c.K mg base CX0 3 (a 36) (d 36) ["archive"] (sp0 c m_check_few 1) := by
  refine T.F36.ok sc_check_few (fun vs H Q E h => h.1) (fun cdv A outer s H vs Q E hr h => ?_)
  exact ⟨_, (pss_one (ps_if (pt_cmpR op_gt (pe_lenO (ok_Archive___len T) (hr.mono (by decide)) T.h3303 T.hf3303 T.b3303 pass0 rfl T.z_len (pv 0)) (pe_globE (v := .int 3) rfl T.g32) (nomark _)) (pss_one ps_never) pss_nil)),
    body0 (N := N_check_few) (x := x_check_few) (dn_if (den_test (den_bin od_gt (den_lenO0 (den_var (i := 0))) den_int)) dn_never dn_next) h⟩
/-! people_of -/
abbrev N_people_of : List Str := ["archive"]
theorem sc_people_of : FnScope N_people_of ["archive"] (defScope st_people_of) := ⟨rfl, rfl, rfl, by decide +kernel, rfl, by decide +kernel, by decide +kernel⟩
def x_people_of : Sf :=
  (sRet (dOfL (dListRg (dRg1 (dLenO 0 m_Archive___len (dVar 0))))))
def m_people_of : Mf := fnD N_people_of.length x_people_of
theorem ok_people_of (T : Tx c mg a d) : FnOk P w c.K mg base CX0 3 (a 37) (d 37) ["archive"] (sp0 c m_people_of 1) := by
  refine T.F37.ok sc_people_of (fun vs H Q E h => h.1) (fun cdv A outer s H vs Q E hr h => ?_)
  exact ⟨_, (pss_one (ps_ret (pe_listRg rfl rfl T.z_list (prg_1 rfl T.z_range (pe_lenO (ok_Archive___len T) (hr.mono (by decide)) T.h3303 T.hf3303 T.b3303 pass0 rfl T.z_len (pv 0)))))),
    body0 (N := N_people_of) (x := x_people_of) (dn_ret (den_ofL (den_listRg (den_rg1 (den_lenO0 (den_var (i := 0))))))) h⟩
/-! builds_of -/
abbrev N_builds_of : List Str := ["people", "room", "lengths", "order", "kept"]
theorem sc_builds_of : FnScope N_builds_of ["people", "room"] (defScope st_builds_of) := ⟨rfl, rfl, rfl, by decide +kernel, rfl, by decide +kernel, by decide +kernel⟩
def x_builds_of : Sf :=
  (sSeq (sAsg 2 (dOfL (dListRg (dRg2 (dC (.int 1)) (dCB fLen (dCons (dVar 0) dNil))))))
  (sRet (dOfL (dComp2 (wSeq (dCall (pur (m_all_orders 6)) 1 (dCons (dVar 0) dNil))) (.nm 3) eYes (wSeq (dCall (pur (m_all_choices 6)) 2 (dCons (dVar 2) (dCons (dVar 1) dNil)))) (.nm 4) eYes (dTup (dCons (dVar 3) (dCons (dVar 4) dNil))) [3, 4] [4]))))
def m_builds_of : Mf := fnD N_builds_of.length x_builds_of
theorem ok_builds_of (T : Tx c mg a d) : FnOk P w c.K mg base CX0 7 (a 38) (d 38) ["people", "room"] (sp0 c m_builds_of 2) := by
  refine T.F38.ok sc_builds_of (fun vs H Q E h => h.1) (fun cdv A outer s H vs Q E hr h => ?_)
  exact ⟨_, (pss_cons (ps_set (i := 2) sc_builds_of.nd rfl (by first | exact Or.inl rfl | exact Or.inr rfl) (pe_listRg rfl rfl T.z_list (prg_2 rfl T.z_range pe_int (pe_callB cr_len2 rfl T.z_len mbt_len (pa_cons (pv 0) pa_nil)))))
      (pss_one (ps_ret (pe_lc2 (own := [("order", 3), ("kept", 4)]) (vs1 := [4]) (wi1 := iSeq c.K _) rfl sc_builds_of.nd (pi_seq (pe_call (ok_all_orders T 6) (hr.mono (by decide)) rfl T.m26 T.F26.kp T.b26 .nil pass0 (pa_cons (pv 0) pa_nil))) (blkOk_by (N := N_builds_of) (sc := defScope st_builds_of) (by decide +kernel)) (by decide) (fun _ _ _ _ _ => (pg_name (i := 3) sc_builds_of.nd rfl (by first | exact Or.inl rfl | exact Or.inr rfl))) (fun _ _ _ _ _ => pts_nil) (fun _ _ _ _ _ => (pi_seq (pe_call (ok_all_choices T 6) (hr.mono (by decide)) rfl T.m27 T.F27.kp T.b27 .nil pass0 (pa_cons (pv 2) (pa_cons (pv 1) pa_nil))))) (fun _ _ _ _ _ => (pg_name (i := 4) sc_builds_of.nd rfl (by first | exact Or.inl rfl | exact Or.inr rfl))) (fun _ _ _ _ _ => pts_nil) (fun _ _ _ _ _ => (pe_tupZ (pa_cons (pv 3) (pa_cons (pv 4) pa_nil)))))))),
    body0 (N := N_builds_of) (x := x_builds_of) (dn_seq (dn_asg (den_ofL (den_listRg (den_rg2 den_int (den_cb cd_len (den_cons (den_var (i := 0)) den_nil))))))
      (dn_ret (den_ofL (den_comp2 (p := (.nm 3)) (p1 := (.nm 4)) (vs := [3, 4]) (vs1 := [4]) (SrcS.x (src_seq (den_callP0 (den_cons (den_var (i := 0)) den_nil)))) den_yes (src_seq (den_callP0 (den_cons (den_var (i := 2)) (den_cons (den_var (i := 1)) den_nil)))) den_yes (den_tup (den_cons (den_var (i := 3)) (den_cons (den_var (i := 4)) den_nil))) rfl rfl)))) h⟩
/-! builds -/
abbrev N_builds : List Str := ["archive", "room"]
theorem sc_builds : FnScope N_builds ["archive", "room"] (defScope st_builds) := ⟨rfl, rfl, rfl, by decide +kernel, rfl, by decide +kernel, by decide +kernel⟩
def x_builds : Sf :=
  (sSeq (sDrop (dCall (pur m_check_archive) 1 (dCons (dVar 0) dNil)))
  (sSeq (sDrop (dCall (pur m_check_room) 1 (dCons (dVar 1) dNil)))
  (sRet (dCall (pur m_builds_of) 2 (dCons (dCall (pur m_people_of) 1 (dCons (dVar 0) dNil)) (dCons (dVar 1) dNil))))))
def m_builds : Mf := fnD N_builds.length x_builds
theorem ok_builds (T : Tx c mg a d) : FnOk P w c.K mg base CX0 8 (a 39) (d 39) ["archive", "room"] (sp0 c m_builds 2) := by
  refine T.F39.ok sc_builds (fun vs H Q E h => h.1) (fun cdv A outer s H vs Q E hr h => ?_)
  exact ⟨_, (pss_cons (ps_expr (pe_call (ok_check_archive T) (hr.mono (by decide)) rfl T.m34 T.F34.kp T.b34 .nil pass0 (pa_cons (pv 0) pa_nil)))
      (pss_cons (ps_expr (pe_call (ok_check_room T) (hr.mono (by decide)) rfl T.m35 T.F35.kp T.b35 .nil pass0 (pa_cons (pv 1) pa_nil)))
      (pss_one (ps_ret (pe_call (ok_builds_of T) (hr.mono (by decide)) rfl T.m38 T.F38.kp T.b38 .nil pass0 (pa_cons (pe_call (ok_people_of T) (hr.mono (by decide)) rfl T.m37 T.F37.kp T.b37 .nil pass0 (pa_cons (pv 0) pa_nil)) (pa_cons (pv 1) pa_nil))))))),
    body0 (N := N_builds) (x := x_builds) (dn_seq (dn_drop (den_callP0 (den_cons (den_var (i := 0)) den_nil)))
      (dn_seq (dn_drop (den_callP0 (den_cons (den_var (i := 1)) den_nil)))
      (dn_ret (den_callP0 (den_cons (den_callP0 (den_cons (den_var (i := 0)) den_nil)) (den_cons (den_var (i := 1)) den_nil)))))) h⟩
/-! check_build -/
abbrev N_check_build : List Str := ["archive", "room", "build"]
theorem sc_check_build : FnScope N_check_build ["archive", "room", "build"] (defScope st_check_build) := ⟨rfl, rfl, rfl, by decide +kernel, rfl, by decide +kernel, by decide +kernel⟩
def x_check_build : Sf :=
  (sSeq (sDrop (dCall (pur m_check_archive) 1 (dCons (dVar 0) dNil)))
  (sSeq (sDrop (dCall (pur m_check_room) 1 (dCons (dVar 1) dNil)))
  (sIf (eNot (eBl (dCall (pur m_is_build) 3 (dCons (dVar 0) (dCons (dVar 1) (dCons (dVar 2) dNil)))))) sBad sNext)))
def m_check_build : Mf := fnD N_check_build.length x_check_build
theorem ok_check_build (T : Tx c mg a d) : FnOk P w c.K mg base CX0 5 (a 42) (d 42) ["archive", "room", "build"] (sp0 c m_check_build 3) := by
  refine T.F42.ok sc_check_build (fun vs H Q E h => h.1) (fun cdv A outer s H vs Q E hr h => ?_)
  exact ⟨_, (pss_cons (ps_expr (pe_call (ok_check_archive T) (hr.mono (by decide)) rfl T.m34 T.F34.kp T.b34 .nil pass0 (pa_cons (pv 0) pa_nil)))
      (pss_cons (ps_expr (pe_call (ok_check_room T) (hr.mono (by decide)) rfl T.m35 T.F35.kp T.b35 .nil pass0 (pa_cons (pv 1) pa_nil)))
      (pss_one (ps_if (pt_not (pt_val (pe_call (ok_is_build T) (hr.mono (by decide)) rfl T.m41 T.F41.kp T.b41 .nil pass0 (pa_cons (pv 0) (pa_cons (pv 1) (pa_cons (pv 2) pa_nil)))))) (pss_one ps_never) pss_nil)))),
    body0 (N := N_check_build) (x := x_check_build) (dn_seq (dn_drop (den_callP0 (den_cons (den_var (i := 0)) den_nil)))
      (dn_seq (dn_drop (den_callP0 (den_cons (den_var (i := 1)) den_nil)))
      (dn_if (den_not (den_tB (den_callP0 (den_cons (den_var (i := 0)) (den_cons (den_var (i := 1)) (den_cons (den_var (i := 2)) den_nil)))))) dn_never dn_next))) h⟩
/-! are_people -/
abbrev N_are_people : List Str := ["build", "people", "person"]
theorem sc_are_people : FnScope N_are_people ["build", "people"] (defScope st_are_people) := ⟨rfl, rfl, rfl, by decide +kernel, rfl, by decide +kernel, by decide +kernel⟩
def x_are_people : Sf :=
  (sSeq (sIf (eOr (eNot (eBl (dCB (fIsiR [0, 1, 2, 3]) (dCons (dVar 1) (dCons (dC (.ty "tuple")) dNil))))) (eBl (dBin fEq (dCB fLen (dCons (dVar 1) dNil)) (dC (.int 0))))) (sRet (dC (.bl false))) sNext)
  (sRet (dAnd (dCB fAll (dCons (dOfL (dComp (wSeq (dVar 1)) (.nm 2) eYes (dAnd (dCall (pur m_is_integer) 1 (dCons (dVar 2) dNil)) (dBin fIn (dVar 2) (dBin fIx (dVar 0) (dC (.int 0))))) [2])) dNil)) (dCall (pur m_is_ascending) 1 (dCons (dVar 1) dNil)))))
def m_are_people : Mf := fnD N_are_people.length x_are_people
theorem ok_are_people (T : Tx c mg a d) : FnOk P w c.K mg base CX0 2 (a 43) (d 43) ["build", "people"] (sp0 c m_are_people 2) := by
  refine T.F43.ok sc_are_people (fun vs H Q E h => h.1) (fun cdv A outer s H vs Q E hr h => ?_)
  exact ⟨_, (pss_cons (ps_if (PW.pt (pw_or (pt_not (pt_val (pe_callB call_isi rfl T.z_isinstance mbt_isinstance (pa_cons (pv 1) (pa_cons (pe_bltn (v := .ty "tuple") rfl T.z_tuple mbt_tuple rfl) pa_nil))))) (pw_or1 (pt_cmpR (op_eqD hr.units) (pe_callB cr_len2 rfl T.z_len mbt_len (pa_cons (pv 1) pa_nil)) pe_int (nomark _))))) (pss_one (ps_ret pe_bl)) pss_nil)
      (pss_one (ps_ret (pe_and (pe_callB (cr_all rfl) rfl T.z_all mbt_all (pa_cons (pe_lc (own := [("person", 2)]) rfl sc_are_people.nd (pi_seq (pv 1)) (blkOk_by (N := N_are_people) (sc := defScope st_are_people) (by decide +kernel)) (fun _ _ _ _ _ => (pg_name (i := 2) sc_are_people.nd rfl (by first | exact Or.inl rfl | exact Or.inr rfl))) (fun _ _ _ _ _ => pts_nil) (fun _ _ _ _ _ => (pe_and (pe_call (ok_is_integer T) (hr.mono (by decide)) rfl T.m12 T.F12.kp T.b12 .nil pass0 (pa_cons (pv 2) pa_nil)) (pe_one (pe_cmpR op_in_seq (pv 2) (pe_ix ix_seq (pv 0) pe_int (fun _ _ => rfl)) (by rfl)))))) pa_nil)) (pe_one (pe_call (ok_is_ascending T) (hr.mono (by decide)) rfl T.m15 T.F15.kp T.b15 .nil pass0 (pa_cons (pv 1) pa_nil))))))),
    body0 (N := N_are_people) (x := x_are_people) (dn_seq (dn_if (den_or (den_not (den_tB (den_cb (cd_isiR (al := [0, 1, 2, 3]) T.Kall) (den_cons (den_var (i := 1)) (den_cons den_ty den_nil))))) (den_test (den_bin od_eq (den_cb cd_len (den_cons (den_var (i := 1)) den_nil)) den_int))) (dn_ret den_bl) dn_next)
      (dn_ret (den_andV (den_cb cd_all (den_cons (den_ofL (den_comp (p := (.nm 2)) (vs := [2]) (SrcS.x (src_seq (den_var (i := 1)))) den_yes (den_andV (den_callP0 (den_cons (den_var (i := 2)) den_nil)) (den_bin (od_in (neg := false)) (den_var (i := 2)) (den_bin od_ix (den_var (i := 0)) den_int))) rfl)) den_nil)) (den_callP0 (den_cons (den_var (i := 1)) den_nil))))) h⟩
/-! check_forgetting -/
abbrev N_check_forgetting : List Str := ["archive", "room", "build", "people"]
theorem sc_check_forgetting : FnScope N_check_forgetting ["archive", "room", "build", "people"] (defScope st_check_forgetting) := ⟨rfl, rfl, rfl, by decide +kernel, rfl, by decide +kernel, by decide +kernel⟩
def x_check_forgetting : Sf :=
  (sSeq (sDrop (dCall (pur m_check_build) 3 (dCons (dVar 0) (dCons (dVar 1) (dCons (dVar 2) dNil)))))
  (sIf (eNot (eBl (dCall (pur m_are_people) 2 (dCons (dVar 2) (dCons (dVar 3) dNil))))) sBad sNext))
def m_check_forgetting : Mf := fnD N_check_forgetting.length x_check_forgetting
theorem ok_check_forgetting (T : Tx c mg a d) : FnOk P w c.K mg base CX0 6 (a 44) (d 44) ["archive", "room", "build", "people"] (sp0 c m_check_forgetting 4) := by
  refine T.F44.ok sc_check_forgetting (fun vs H Q E h => h.1) (fun cdv A outer s H vs Q E hr h => ?_)
  exact ⟨_, (pss_cons (ps_expr (pe_call (ok_check_build T) (hr.mono (by decide)) rfl T.m42 T.F42.kp T.b42 .nil pass0 (pa_cons (pv 0) (pa_cons (pv 1) (pa_cons (pv 2) pa_nil)))))
      (pss_one (ps_if (pt_not (pt_val (pe_call (ok_are_people T) (hr.mono (by decide)) rfl T.m43 T.F43.kp T.b43 .nil pass0 (pa_cons (pv 2) (pa_cons (pv 3) pa_nil))))) (pss_one ps_never) pss_nil))),
    body0 (N := N_check_forgetting) (x := x_check_forgetting) (dn_seq (dn_drop (den_callP0 (den_cons (den_var (i := 0)) (den_cons (den_var (i := 1)) (den_cons (den_var (i := 2)) den_nil)))))
      (dn_if (den_not (den_tB (den_callP0 (den_cons (den_var (i := 2)) (den_cons (den_var (i := 3)) den_nil))))) dn_never dn_next)) h⟩
/-! work -/
abbrev N_work : List Str := ["archive", "room", "build", "people"]
theorem sc_work : FnScope N_work ["archive", "room", "build", "people"] (defScope st_work) := ⟨rfl, rfl, rfl, by decide +kernel, rfl, by decide +kernel, by decide +kernel⟩
def x_work : Sf :=
  (sSeq (sDrop (dCall (pur m_check_forgetting) 4 (dCons (dVar 0) (dCons (dVar 1) (dCons (dVar 2) (dCons (dVar 3) dNil))))))
  (sRet (dCall (pur m_forgetting_work) 3 (dCons (dVar 0) (dCons (dVar 2) (dCons (dVar 3) dNil))))))
def m_work : Mf := fnD N_work.length x_work
theorem ok_work (T : Tx c mg a d) : FnOk P w c.K mg base CX0 7 (a 49) (d 49) ["archive", "room", "build", "people"] (sp0 c m_work 4) := by
  refine T.F49.ok sc_work (fun vs H Q E h => h.1) (fun cdv A outer s H vs Q E hr h => ?_)
  exact ⟨_, (pss_cons (ps_expr (pe_call (ok_check_forgetting T) (hr.mono (by decide)) rfl T.m44 T.F44.kp T.b44 .nil pass0 (pa_cons (pv 0) (pa_cons (pv 1) (pa_cons (pv 2) (pa_cons (pv 3) pa_nil))))))
      (pss_one (ps_ret (pe_call (ok_forgetting_work T) (hr.mono (by decide)) rfl T.m47 T.F47.kp T.b47 .nil pass0 (pa_cons (pv 0) (pa_cons (pv 2) (pa_cons (pv 3) pa_nil))))))),
    body0 (N := N_work) (x := x_work) (dn_seq (dn_drop (den_callP0 (den_cons (den_var (i := 0)) (den_cons (den_var (i := 1)) (den_cons (den_var (i := 2)) (den_cons (den_var (i := 3)) den_nil))))))
      (dn_ret (den_callP0 (den_cons (den_var (i := 0)) (den_cons (den_var (i := 2)) (den_cons (den_var (i := 3)) den_nil)))))) h⟩
/-! after -/
abbrev N_after : List Str := ["archive", "room", "build", "people"]
theorem sc_after : FnScope N_after ["archive", "room", "build", "people"] (defScope st_after) := ⟨rfl, rfl, rfl, by decide +kernel, rfl, by decide +kernel, by decide +kernel⟩
def x_after : Sf :=
  (sSeq (sDrop (dCall (pur m_check_forgetting) 4 (dCons (dVar 0) (dCons (dVar 1) (dCons (dVar 2) (dCons (dVar 3) dNil))))))
  (sRet (dCall (pur m_builds_after) 3 (dCons (dVar 1) (dCons (dVar 2) (dCons (dVar 3) dNil))))))
def m_after : Mf := fnD N_after.length x_after
theorem ok_after (T : Tx c mg a d) : FnOk P w c.K mg base CX0 8 (a 50) (d 50) ["archive", "room", "build", "people"] (sp0 c m_after 4) := by
  refine T.F50.ok sc_after (fun vs H Q E h => h.1) (fun cdv A outer s H vs Q E hr h => ?_)
  exact ⟨_, (pss_cons (ps_expr (pe_call (ok_check_forgetting T) (hr.mono (by decide)) rfl T.m44 T.F44.kp T.b44 .nil pass0 (pa_cons (pv 0) (pa_cons (pv 1) (pa_cons (pv 2) (pa_cons (pv 3) pa_nil))))))
      (pss_one (ps_ret (pe_call (ok_builds_after T) (hr.mono (by decide)) rfl T.m48 T.F48.kp T.b48 .nil pass0 (pa_cons (pv 1) (pa_cons (pv 2) (pa_cons (pv 3) pa_nil))))))),
    body0 (N := N_after) (x := x_after) (dn_seq (dn_drop (den_callP0 (den_cons (den_var (i := 0)) (den_cons (den_var (i := 1)) (den_cons (den_var (i := 2)) (den_cons (den_var (i := 3)) den_nil))))))
      (dn_ret (den_callP0 (den_cons (den_var (i := 1)) (den_cons (den_var (i := 2)) (den_cons (den_var (i := 3)) den_nil)))))) h⟩
/-! check_delay -/
abbrev N_check_delay : List Str := ["delay"]
theorem sc_check_delay : FnScope N_check_delay ["delay"] (defScope st_check_delay) := ⟨rfl, rfl, rfl, by decide +kernel, rfl, by decide +kernel, by decide +kernel⟩
def x_check_delay : Sf :=
  (sIf (eNot (eBl (dCall (pur m_is_within) 3 (dCons (dVar 0) (dCons (dC (.int 0)) (dCons (dC (.int 2)) dNil)))))) sBad sNext)
def m_check_delay : Mf := fnD N_check_delay.length x_check_delay
theorem ok_check_delay (T : Tx c mg a d) : FnOk P w c.K mg base CX0 3 (a 54) (d 54) ["delay"] (sp0 c m_check_delay 1) := by
  refine T.F54.ok sc_check_delay (fun vs H Q E h => h.1) (fun cdv A outer s H vs Q E hr h => ?_)
  exact ⟨_, (pss_one (ps_if (pt_not (pt_val (pe_call (ok_is_within T) (hr.mono (by decide)) rfl T.m13 T.F13.kp T.b13 .nil pass0 (pa_cons (pv 0) (pa_cons pe_int (pa_cons (pe_globE (v := .int 2) rfl T.g52) pa_nil)))))) (pss_one ps_never) pss_nil)),
    body0 (N := N_check_delay) (x := x_check_delay) (dn_if (den_not (den_tB (den_callP0 (den_cons (den_var (i := 0)) (den_cons den_int (den_cons den_int den_nil)))))) dn_never dn_next) h⟩
/-! check_ticks -/
abbrev N_check_ticks : List Str := ["ticks"]
theorem sc_check_ticks : FnScope N_check_ticks ["ticks"] (defScope st_check_ticks) := ⟨rfl, rfl, rfl, by decide +kernel, rfl, by decide +kernel, by decide +kernel⟩
def x_check_ticks : Sf :=
  (sIf (eNot (eBl (dCall (pur m_is_within) 3 (dCons (dVar 0) (dCons (dC (.int 0)) (dCons (dC (.int 4)) dNil)))))) sBad sNext)
def m_check_ticks : Mf := fnD N_check_ticks.length x_check_ticks
theorem ok_check_ticks (T : Tx c mg a d) : FnOk P w c.K mg base CX0 3 (a 55) (d 55) ["ticks"] (sp0 c m_check_ticks 1) := by
  refine T.F55.ok sc_check_ticks (fun vs H Q E h => h.1) (fun cdv A outer s H vs Q E hr h => ?_)
  exact ⟨_, (pss_one (ps_if (pt_not (pt_val (pe_call (ok_is_within T) (hr.mono (by decide)) rfl T.m13 T.F13.kp T.b13 .nil pass0 (pa_cons (pv 0) (pa_cons pe_int (pa_cons (pe_globE (v := .int 4) rfl T.g53) pa_nil)))))) (pss_one ps_never) pss_nil)),
    body0 (N := N_check_ticks) (x := x_check_ticks) (dn_if (den_not (den_tB (den_callP0 (den_cons (den_var (i := 0)) (den_cons den_int (den_cons den_int den_nil)))))) dn_never dn_next) h⟩
/-! check_play -/
abbrev N_check_play : List Str := ["archive", "room", "delay"]
theorem sc_check_play : FnScope N_check_play ["archive", "room", "delay"] (defScope st_check_play) := ⟨rfl, rfl, rfl, by decide +kernel, rfl, by decide +kernel, by decide +kernel⟩
def x_check_play : Sf :=
  (sSeq (sDrop (dCall (pur m_check_archive) 1 (dCons (dVar 0) dNil)))
  (sSeq (sDrop (dCall (pur m_check_room) 1 (dCons (dVar 1) dNil)))
  (sDrop (dCall (pur m_check_delay) 1 (dCons (dVar 2) dNil)))))
def m_check_play : Mf := fnD N_check_play.length x_check_play
theorem ok_check_play (T : Tx c mg a d) : FnOk P w c.K mg base CX0 4 (a 56) (d 56) ["archive", "room", "delay"] (sp0 c m_check_play 3) := by
  refine T.F56.ok sc_check_play (fun vs H Q E h => h.1) (fun cdv A outer s H vs Q E hr h => ?_)
  exact ⟨_, (pss_cons (ps_expr (pe_call (ok_check_archive T) (hr.mono (by decide)) rfl T.m34 T.F34.kp T.b34 .nil pass0 (pa_cons (pv 0) pa_nil)))
      (pss_cons (ps_expr (pe_call (ok_check_room T) (hr.mono (by decide)) rfl T.m35 T.F35.kp T.b35 .nil pass0 (pa_cons (pv 1) pa_nil)))
      (pss_one (ps_expr (pe_call (ok_check_delay T) (hr.mono (by decide)) rfl T.m54 T.F54.kp T.b54 .nil pass0 (pa_cons (pv 2) pa_nil)))))),
    body0 (N := N_check_play) (x := x_check_play) (dn_seq (dn_drop (den_callP0 (den_cons (den_var (i := 0)) den_nil)))
      (dn_seq (dn_drop (den_callP0 (den_cons (den_var (i := 1)) den_nil)))
      (dn_drop (den_callP0 (den_cons (den_var (i := 2)) den_nil))))) h⟩
/-! check_position -/
abbrev N_check_position : List Str := ["archive", "room", "delay", "position"]
theorem sc_check_position : FnScope N_check_position ["archive", "room", "delay", "position"] (defScope st_check_position) := ⟨rfl, rfl, rfl, by decide +kernel, rfl, by decide +kernel, by decide +kernel⟩
def x_check_position : Sf :=
  (sSeq (sDrop (dCall (pur m_check_play) 3 (dCons (dVar 0) (dCons (dVar 1) (dCons (dVar 2) dNil)))))
  (sIf (eNot (eBl (dCall (pur m_is_position) 4 (dCons (dVar 0) (dCons (dVar 1) (dCons (dVar 2) (dCons (dVar 3) dNil))))))) sBad sNext))
def m_check_position : Mf := fnD N_check_position.length x_check_position
theorem ok_check_position (T : Tx c mg a d) : FnOk P w c.K mg base CX0 6 (a 60) (d 60) ["archive", "room", "delay", "position"] (sp0 c m_check_position 4) := by
  refine T.F60.ok sc_check_position (fun vs H Q E h => h.1) (fun cdv A outer s H vs Q E hr h => ?_)
  exact ⟨_, (pss_cons (ps_expr (pe_call (ok_check_play T) (hr.mono (by decide)) rfl T.m56 T.F56.kp T.b56 .nil pass0 (pa_cons (pv 0) (pa_cons (pv 1) (pa_cons (pv 2) pa_nil)))))
      (pss_one (ps_if (pt_not (pt_val (pe_call (ok_is_position T) (hr.mono (by decide)) rfl T.m59 T.F59.kp T.b59 .nil pass0 (pa_cons (pv 0) (pa_cons (pv 1) (pa_cons (pv 2) (pa_cons (pv 3) pa_nil))))))) (pss_one ps_never) pss_nil))),
    body0 (N := N_check_position) (x := x_check_position) (dn_seq (dn_drop (den_callP0 (den_cons (den_var (i := 0)) (den_cons (den_var (i := 1)) (den_cons (den_var (i := 2)) den_nil)))))
      (dn_if (den_not (den_tB (den_callP0 (den_cons (den_var (i := 0)) (den_cons (den_var (i := 1)) (den_cons (den_var (i := 2)) (den_cons (den_var (i := 3)) den_nil))))))) dn_never dn_next)) h⟩
/-! is_wish -/
abbrev N_is_wish : List Str := ["position", "wish"]
theorem sc_is_wish : FnScope N_is_wish ["position", "wish"] (defScope st_is_wish) := ⟨rfl, rfl, rfl, by decide +kernel, rfl, by decide +kernel, by decide +kernel⟩
def x_is_wish : Sf :=
  (sRet (dAnd (dOr (dBin fIs (dVar 1) (dC .non)) (dCall (pur m_is_integer) 1 (dCons (dVar 1) dNil))) (dBin fIn (dVar 1) (dCall (pur m_possible_wishes) 1 (dCons (dVar 0) dNil)))))
def m_is_wish : Mf := fnD N_is_wish.length x_is_wish
theorem ok_is_wish (T : Tx c mg a d) : FnOk P w c.K mg base CX0 2 (a 62) (d 62) ["position", "wish"] (sp0 c m_is_wish 2) := by
  refine T.F62.ok sc_is_wish (fun vs H Q E h => h.1) (fun cdv A outer s H vs Q E hr h => ?_)
  exact ⟨_, (pss_one (ps_ret (pe_and (pe_or (pe_cmpR op_isN (pv 1) pe_non (nomark _)) (pe_one (pe_call (ok_is_integer T) (hr.mono (by decide)) rfl T.m12 T.F12.kp T.b12 .nil pass0 (pa_cons (pv 1) pa_nil)))) (pe_one (pe_cmpR op_in_seq (pv 1) (pe_call (ok_possible_wishes T) (hr.mono (by decide)) rfl T.m61 T.F61.kp T.b61 .nil pass0 (pa_cons (pv 0) pa_nil)) (by rfl)))))),
    body0 (N := N_is_wish) (x := x_is_wish) (dn_ret (den_andV (den_orV (den_bin od_is (den_var (i := 1)) den_non) (den_callP0 (den_cons (den_var (i := 1)) den_nil))) (den_bin (od_in (neg := false)) (den_var (i := 1)) (den_callP0 (den_cons (den_var (i := 0)) den_nil))))) h⟩
/-! start_of -/
abbrev N_start_of : List Str := ["build", "ticks", "order", "kept"]
theorem sc_start_of : FnScope N_start_of ["build", "ticks"] (defScope st_start_of) := ⟨rfl, rfl, rfl, by decide +kernel, rfl, by decide +kernel, by decide +kernel⟩
def x_start_of : Sf :=
  (sSeq (sAsgP (.tup (.cons (.nm 2) (.cons (.nm 3) .nil))) (dVar 0))
  (sRet (dTup (dCons (dVar 2) (dCons (dVar 3) (dCons (dTup dNil) (dCons (dVar 1) dNil)))))))
def m_start_of : Mf := fnD N_start_of.length x_start_of
theorem ok_start_of (T : Tx c mg a d) : FnOk P w c.K mg base CX0 1 (a 65) (d 65) ["build", "ticks"] (sp0 c m_start_of 2) := by
  refine T.F65.ok sc_start_of (fun vs H Q E h => h.1) (fun cdv A outer s H vs Q E hr h => ?_)
  exact ⟨_, (pss_cons (ps_asg (pv 0) (pg_tup rfl (pgs_cons (pg_name (i := 2) sc_start_of.nd rfl (by first | exact Or.inl rfl | exact Or.inr rfl)) (pgs_cons (pg_name (i := 3) sc_start_of.nd rfl (by first | exact Or.inl rfl | exact Or.inr rfl)) pgs_nil))))
      (pss_one (ps_ret (pe_tupZ (pa_cons (pv 2) (pa_cons (pv 3) (pa_cons (pe_tupZ pa_nil) (pa_cons (pv 1) pa_nil)))))))),
    body0 (N := N_start_of) (x := x_start_of) (dn_seq (dn_asgP (p := (.tup (.cons (.nm 2) (.cons (.nm 3) .nil)))) (den_var (i := 0)))
      (dn_ret (den_tup (den_cons (den_var (i := 2)) (den_cons (den_var (i := 3)) (den_cons (den_tup den_nil) (den_cons (den_var (i := 1)) den_nil))))))) h⟩
/-! Play.__init__ -/
abbrev N_Play___init : List Str := ["self", "archive", "room", "delay"]
theorem sc_Play___init : FnScope N_Play___init ["self", "archive", "room", "delay"] (defScope st_Play___init) := ⟨rfl, rfl, rfl, by decide +kernel, rfl, by decide +kernel, by decide +kernel⟩
def x_Play___init : Sf :=
  (sSeq (sFldO 0 "archive" (dVar 1))
  (sSeq (sFldO 0 "room" (dVar 2))
  (sFldO 0 "delay" (dVar 3))))
def mi_Play : List D → Sto → Res (List D) := initD N_Play___init.length 1 ["archive", "room", "delay"] x_Play___init
theorem ok_Play___init (T : Tx c mg a d) : FnOk P w c.K mg base CX0 1 (a 6600) (d 6600) ["self", "archive", "room", "delay"] (spI0 c 1 mi_Play 4) := by
  refine T.F6600.ok sc_Play___init (fun vs H Q E h => h.1) (fun cdv A outer s H vs Q E hr h => ?_)
  exact ⟨_, (pss_cons (ps_fld (pv 0) (pv 1) rfl)
      (pss_cons (ps_fld (pv 0) (pv 2) rfl)
      (pss_one (ps_fld (pv 0) (pv 3) rfl)))),
    init_ok (N := N_Play___init) (x := x_Play___init) T.fn1.symm (by decide) (dn_seq (dn_fldO T.clAll T.naAll_1_0 (den_var (i := 1)))
      (dn_seq (dn_fldO T.clAll T.naAll_1_1 (den_var (i := 2)))
      (dn_fldO T.clAll T.naAll_1_2 (den_var (i := 3))))) h⟩
/-! wishes -/
abbrev N_wishes : List Str := ["archive", "room", "delay", "position"]
theorem sc_wishes : FnScope N_wishes ["archive", "room", "delay", "position"] (defScope st_wishes) := ⟨rfl, rfl, rfl, by decide +kernel, rfl, by decide +kernel, by decide +kernel⟩
def x_wishes : Sf :=
  (sSeq (sDrop (dCall (pur m_check_position) 4 (dCons (dVar 0) (dCons (dVar 1) (dCons (dVar 2) (dCons (dVar 3) dNil))))))
  (sRet (dCall (pur m_possible_wishes) 1 (dCons (dVar 3) dNil))))
def m_wishes : Mf := fnD N_wishes.length x_wishes
theorem ok_wishes (T : Tx c mg a d) : FnOk P w c.K mg base CX0 7 (a 67) (d 67) ["archive", "room", "delay", "position"] (sp0 c m_wishes 4) := by
  refine T.F67.ok sc_wishes (fun vs H Q E h => h.1) (fun cdv A outer s H vs Q E hr h => ?_)
  exact ⟨_, (pss_cons (ps_expr (pe_call (ok_check_position T) (hr.mono (by decide)) rfl T.m60 T.F60.kp T.b60 .nil pass0 (pa_cons (pv 0) (pa_cons (pv 1) (pa_cons (pv 2) (pa_cons (pv 3) pa_nil))))))
      (pss_one (ps_ret (pe_call (ok_possible_wishes T) (hr.mono (by decide)) rfl T.m61 T.F61.kp T.b61 .nil pass0 (pa_cons (pv 3) pa_nil))))),
    body0 (N := N_wishes) (x := x_wishes) (dn_seq (dn_drop (den_callP0 (den_cons (den_var (i := 0)) (den_cons (den_var (i := 1)) (den_cons (den_var (i := 2)) (den_cons (den_var (i := 3)) den_nil))))))
      (dn_ret (den_callP0 (den_cons (den_var (i := 3)) den_nil)))) h⟩
/-! answers -/
abbrev N_answers : List Str := ["archive", "room", "delay", "position", "wish"]
theorem sc_answers : FnScope N_answers ["archive", "room", "delay", "position", "wish"] (defScope st_answers) := ⟨rfl, rfl, rfl, by decide +kernel, rfl, by decide +kernel, by decide +kernel⟩
def x_answers : Sf :=
  (sSeq (sDrop (dCall (pur m_check_position) 4 (dCons (dVar 0) (dCons (dVar 1) (dCons (dVar 2) (dCons (dVar 3) dNil))))))
  (sSeq (sIf (eNot (eBl (dCall (pur m_is_wish) 2 (dCons (dVar 3) (dCons (dVar 4) dNil))))) sBad sNext)
  (sRet (dCall (pur m_possible_answers) 5 (dCons (dVar 0) (dCons (dVar 1) (dCons (dVar 2) (dCons (dVar 3) (dCons (dVar 4) dNil)))))))))
def m_answers : Mf := fnD N_answers.length x_answers
theorem ok_answers (T : Tx c mg a d) : FnOk P w c.K mg base CX0 9 (a 68) (d 68) ["archive", "room", "delay", "position", "wish"] (sp0 c m_answers 5) := by
  refine T.F68.ok sc_answers (fun vs H Q E h => h.1) (fun cdv A outer s H vs Q E hr h => ?_)
  exact ⟨_, (pss_cons (ps_expr (pe_call (ok_check_position T) (hr.mono (by decide)) rfl T.m60 T.F60.kp T.b60 .nil pass0 (pa_cons (pv 0) (pa_cons (pv 1) (pa_cons (pv 2) (pa_cons (pv 3) pa_nil))))))
      (pss_cons (ps_if (pt_not (pt_val (pe_call (ok_is_wish T) (hr.mono (by decide)) rfl T.m62 T.F62.kp T.b62 .nil pass0 (pa_cons (pv 3) (pa_cons (pv 4) pa_nil))))) (pss_one ps_never) pss_nil)
      (pss_one (ps_ret (pe_call (ok_possible_answers T) (hr.mono (by decide)) rfl T.m64 T.F64.kp T.b64 .nil pass0 (pa_cons (pv 0) (pa_cons (pv 1) (pa_cons (pv 2) (pa_cons (pv 3) (pa_cons (pv 4) pa_nil)))))))))),
    body0 (N := N_answers) (x := x_answers) (dn_seq (dn_drop (den_callP0 (den_cons (den_var (i := 0)) (den_cons (den_var (i := 1)) (den_cons (den_var (i := 2)) (den_cons (den_var (i := 3)) den_nil))))))
      (dn_seq (dn_if (den_not (den_tB (den_callP0 (den_cons (den_var (i := 3)) (den_cons (den_var (i := 4)) den_nil))))) dn_never dn_next)
      (dn_ret (den_callP0 (den_cons (den_var (i := 0)) (den_cons (den_var (i := 1)) (den_cons (den_var (i := 2)) (den_cons (den_var (i := 3)) (den_cons (den_var (i := 4)) den_nil))))))))) h⟩
/-! Total.__init__ -/
abbrev N_Total___init : List Str := ["self", "bound", "heights", "floors"]
theorem sc_Total___init : FnScope N_Total___init ["self", "bound", "heights", "floors"] (defScope st_Total___init) := ⟨rfl, rfl, rfl, by decide +kernel, rfl, by decide +kernel, by decide +kernel⟩
def x_Total___init : Sf :=
  (sSeq (sFldO 0 "bound" (dVar 1))
  (sSeq (sFldO 0 "heights" (dCall m_copied 1 (dCons (dVar 2) dNil)))
  (sFldO 0 "floors" (dCall m_copied 1 (dCons (dVar 3) dNil)))))
def mi_Total : List D → Sto → Res (List D) := initD N_Total___init.length 2 ["bound", "heights", "floors"] x_Total___init
theorem ok_Total___init (T : Tx c mg a d) : FnOk P w c.K mg base CX0 2 (a 7100) (d 7100) ["self", "bound", "heights", "floors"] (spI0 c 2 mi_Total 4) := by
  refine T.F7100.ok sc_Total___init (fun vs H Q E h => h.1) (fun cdv A outer s H vs Q E hr h => ?_)
  exact ⟨_, (pss_cons (ps_fld (pv 0) (pv 1) rfl)
      (pss_cons (ps_fld (pv 0) (pe_call (ok_copied T) (hr.mono (by decide)) rfl T.m23 T.F23.kp T.b23 .nil pass0 (pa_cons (pv 2) pa_nil)) rfl)
      (pss_one (ps_fld (pv 0) (pe_call (ok_copied T) (hr.mono (by decide)) rfl T.m23 T.F23.kp T.b23 .nil pass0 (pa_cons (pv 3) pa_nil)) rfl)))),
    init_ok (N := N_Total___init) (x := x_Total___init) T.fn2.symm (by decide) (dn_seq (dn_fldO T.clAll T.naAll_2_0 (den_var (i := 1)))
      (dn_seq (dn_fldO T.clAll T.naAll_2_1 (den_call0 (den_cons (den_var (i := 2)) den_nil)))
      (dn_fldO T.clAll T.naAll_2_2 (den_call0 (den_cons (den_var (i := 3)) den_nil))))) h⟩
/-! Total.shows -/
abbrev N_Total_shows : List Str := ["self", "archive", "room", "delay", "position", "play"]
theorem sc_Total_shows : FnScope N_Total_shows ["self", "archive", "room", "delay", "position"] (defScope st_Total_shows) := ⟨rfl, rfl, rfl, by decide +kernel, rfl, by decide +kernel, by decide +kernel⟩
def x_Total_shows : Sf :=
  (sSeq (sDrop (dCall (pur m_check_position) 4 (dCons (dVar 1) (dCons (dVar 2) (dCons (dVar 3) (dCons (dVar 4) dNil))))))
  (sSeq (sAsg 5 (dMake 1 mi_Play 4 (dCons (dVar 1) (dCons (dVar 2) (dCons (dVar 3) dNil)))))
  (sRet (dAnd (dCall (pur m_is_integer) 1 (dCons (dFld 2 0 (dVar 0)) dNil)) (dAnd (dCall (pur m_are_heights) 4 (dCons (dVar 5) (dCons (dFld 2 1 (dVar 0)) (dCons (dVar 4) (dCons (dFld 2 0 (dVar 0)) dNil))))) (dCall (pur m_are_floors) 4 (dCons (dVar 5) (dCons (dFld 2 2 (dVar 0)) (dCons (dOfL (dLst (dCons (dVar 4) dNil))) (dCons (dFld 2 0 (dVar 0)) dNil))))))))))
def m_Total_shows : Mf := fnD N_Total_shows.length x_Total_shows
theorem ok_Total_shows (T : Tx c mg a d) : FnOk P w c.K mg base CX0 13 (a 7102) (d 7102) ["self", "archive", "room", "delay", "position"] (sp0 c m_Total_shows 5) := by
  refine T.F7102.ok sc_Total_shows (fun vs H Q E h => h.1) (fun cdv A outer s H vs Q E hr h => ?_)
  exact ⟨_, (pss_cons (ps_expr (pe_call (ok_check_position T) (hr.mono (by decide)) rfl T.m60 T.F60.kp T.b60 .nil pass0 (pa_cons (pv 1) (pa_cons (pv 2) (pa_cons (pv 3) (pa_cons (pv 4) pa_nil))))))
      (pss_cons (ps_set (i := 5) sc_Total_shows.nd rfl (by first | exact Or.inl rfl | exact Or.inr rfl) (pe_make T.M1 (ok_Play___init T) (hr.mono (by decide)) rfl T.mc1 T.b6600 .nil pass0 (pa_cons (pv 1) (pa_cons (pv 2) (pa_cons (pv 3) pa_nil)))))
      (pss_one (ps_ret (pe_and (pe_call (ok_is_integer T) (hr.mono (by decide)) rfl T.m12 T.F12.kp T.b12 .nil pass0 (pa_cons (pe_fld (pv 0) rfl) pa_nil)) (pe_and (pe_call (ok_are_heights T) (hr.mono (by decide)) rfl T.m21 T.F21.kp T.b21 .nil pass0 (pa_cons (pv 5) (pa_cons (pe_fld (pv 0) rfl) (pa_cons (pv 4) (pa_cons (pe_fld (pv 0) rfl) pa_nil))))) (pe_one (pe_call (ok_are_floors T) (hr.mono (by decide)) rfl T.m22 T.F22.kp T.b22 .nil pass0 (pa_cons (pv 5) (pa_cons (pe_fld (pv 0) rfl) (pa_cons (pe_lst (pa_cons (pv 4) pa_nil)) (pa_cons (pe_fld (pv 0) rfl) pa_nil)))))))))))),
    body0 (N := N_Total_shows) (x := x_Total_shows) (dn_seq (dn_drop (den_callP0 (den_cons (den_var (i := 1)) (den_cons (den_var (i := 2)) (den_cons (den_var (i := 3)) (den_cons (den_var (i := 4)) den_nil))))))
      (dn_seq (dn_asg (den_make0 (den_cons (den_var (i := 1)) (den_cons (den_var (i := 2)) (den_cons (den_var (i := 3)) den_nil)))))
      (dn_ret (den_andV (den_callP0 (den_cons (den_fld (k := 2) (j := 0) T.K2.cl T.na2_0 T.nd2 T.fj2_0 (den_var (i := 0))) den_nil)) (den_andV (den_callP0 (den_cons (den_var (i := 5)) (den_cons (den_fld (k := 2) (j := 1) T.K2.cl T.na2_1 T.nd2 T.fj2_1 (den_var (i := 0))) (den_cons (den_var (i := 4)) (den_cons (den_fld (k := 2) (j := 0) T.K2.cl T.na2_0 T.nd2 T.fj2_0 (den_var (i := 0))) den_nil))))) (den_callP0 (den_cons (den_var (i := 5)) (den_cons (den_fld (k := 2) (j := 2) T.K2.cl T.na2_2 T.nd2 T.fj2_2 (den_var (i := 0))) (den_cons (den_ofL (den_lst (den_cons (den_var (i := 4)) den_nil))) (den_cons (den_fld (k := 2) (j := 0) T.K2.cl T.na2_0 T.nd2 T.fj2_0 (den_var (i := 0))) den_nil)))))))))) h⟩
/-! begin -/
abbrev N_begin : List Str := ["archive", "room", "delay", "build", "ticks"]
theorem sc_begin : FnScope N_begin ["archive", "room", "delay", "build", "ticks"] (defScope st_begin) := ⟨rfl, rfl, rfl, by decide +kernel, rfl, by decide +kernel, by decide +kernel⟩
def x_begin : Sf :=
  (sSeq (sDrop (dCall (pur m_check_play) 3 (dCons (dVar 0) (dCons (dVar 1) (dCons (dVar 2) dNil)))))
  (sSeq (sDrop (dCall (pur m_check_build) 3 (dCons (dVar 0) (dCons (dVar 1) (dCons (dVar 3) dNil)))))
  (sSeq (sDrop (dCall (pur m_check_ticks) 1 (dCons (dVar 4) dNil)))
  (sRet (dCall (pur m_start_of) 2 (dCons (dVar 3) (dCons (dVar 4) dNil)))))))
def m_begin : Mf := fnD N_begin.length x_begin
theorem ok_begin (T : Tx c mg a d) : FnOk P w c.K mg base CX0 6 (a 72) (d 72) ["archive", "room", "delay", "build", "ticks"] (sp0 c m_begin 5) := by
  refine T.F72.ok sc_begin (fun vs H Q E h => h.1) (fun cdv A outer s H vs Q E hr h => ?_)
  exact ⟨_, (pss_cons (ps_expr (pe_call (ok_check_play T) (hr.mono (by decide)) rfl T.m56 T.F56.kp T.b56 .nil pass0 (pa_cons (pv 0) (pa_cons (pv 1) (pa_cons (pv 2) pa_nil)))))
      (pss_cons (ps_expr (pe_call (ok_check_build T) (hr.mono (by decide)) rfl T.m42 T.F42.kp T.b42 .nil pass0 (pa_cons (pv 0) (pa_cons (pv 1) (pa_cons (pv 3) pa_nil)))))
      (pss_cons (ps_expr (pe_call (ok_check_ticks T) (hr.mono (by decide)) rfl T.m55 T.F55.kp T.b55 .nil pass0 (pa_cons (pv 4) pa_nil)))
      (pss_one (ps_ret (pe_call (ok_start_of T) (hr.mono (by decide)) rfl T.m65 T.F65.kp T.b65 .nil pass0 (pa_cons (pv 3) (pa_cons (pv 4) pa_nil)))))))),
    body0 (N := N_begin) (x := x_begin) (dn_seq (dn_drop (den_callP0 (den_cons (den_var (i := 0)) (den_cons (den_var (i := 1)) (den_cons (den_var (i := 2)) den_nil)))))
      (dn_seq (dn_drop (den_callP0 (den_cons (den_var (i := 0)) (den_cons (den_var (i := 1)) (den_cons (den_var (i := 3)) den_nil)))))
      (dn_seq (dn_drop (den_callP0 (den_cons (den_var (i := 4)) den_nil)))
      (dn_ret (den_callP0 (den_cons (den_var (i := 3)) (den_cons (den_var (i := 4)) den_nil))))))) h⟩
/-! total -/
abbrev N_total : List Str := ["archive", "room", "delay", "position", "play", "known", "bound"]
theorem sc_total : FnScope N_total ["archive", "room", "delay", "position"] (defScope st_total) := ⟨rfl, rfl, rfl, by decide +kernel, rfl, by decide +kernel, by decide +kernel⟩
def x_total : Sf :=
  (sSeq (sDrop (dCall (pur m_check_position) 4 (dCons (dVar 0) (dCons (dVar 1) (dCons (dVar 2) (dCons (dVar 3) dNil))))))
  (sSeq (sAsg 4 (dMake 1 mi_Play 4 (dCons (dVar 0) (dCons (dVar 1) (dCons (dVar 2) dNil)))))
  (sSeq (sIf (eBl (dCall m_comes_to_more 3 (dCons (dVar 4) (dCons (dVar 3) (dCons (dC (.int 500)) dNil))))) sBad sNext)
  (sSeq (sAsg 5 dDNew)
  (sSeq (sAsg 6 (dCall (m_least_from 9) 3 (dCons (dVar 4) (dCons (dVar 3) (dCons (dVar 5) dNil)))))
  (sRet (dMake 2 mi_Total 4 (dCons (dVar 6) (dCons (dVar 5) (dCons (dVar 5) dNil))))))))))
def m_total : Mf := fnD N_total.length x_total
theorem ok_total (T : Tx c mg a d) : FnOk P w c.K mg base CX0 20 (a 73) (d 73) ["archive", "room", "delay", "position"] (sp0 c m_total 4) := by
  refine T.F73.ok sc_total (fun vs H Q E h => h.1) (fun cdv A outer s H vs Q E hr h => ?_)
  exact ⟨_, (pss_cons (ps_expr (pe_call (ok_check_position T) (hr.mono (by decide)) rfl T.m60 T.F60.kp T.b60 .nil pass0 (pa_cons (pv 0) (pa_cons (pv 1) (pa_cons (pv 2) (pa_cons (pv 3) pa_nil))))))
      (pss_cons (ps_set (i := 4) sc_total.nd rfl (by first | exact Or.inl rfl | exact Or.inr rfl) (pe_make T.M1 (ok_Play___init T) (hr.mono (by decide)) rfl T.mc1 T.b6600 .nil pass0 (pa_cons (pv 0) (pa_cons (pv 1) (pa_cons (pv 2) pa_nil)))))
      (pss_cons (ps_if (pt_val (pe_call (ok_comes_to_more T) (hr.mono (by decide)) rfl T.m17 T.F17.kp T.b17 .nil pass0 (pa_cons (pv 4) (pa_cons (pv 3) (pa_cons (pe_globE (v := .int 500) rfl T.g70) pa_nil))))) (pss_one ps_never) pss_nil)
      (pss_cons (ps_set (i := 5) sc_total.nd rfl (by first | exact Or.inl rfl | exact Or.inr rfl) pe_nnew)
      (pss_cons (ps_set (i := 6) sc_total.nd rfl (by first | exact Or.inl rfl | exact Or.inr rfl) (pe_call (ok_least_from T 9) (hr.mono (by decide)) rfl T.m18 T.F18.kp T.b18 .nil pass0 (pa_cons (pv 4) (pa_cons (pv 3) (pa_cons (pv 5) pa_nil)))))
      (pss_one (ps_ret (pe_make T.M2 (ok_Total___init T) (hr.mono (by decide)) rfl T.mc2 T.b7100 .nil pass0 (pa_cons (pv 6) (pa_cons (pv 5) (pa_cons (pv 5) pa_nil))))))))))),
    body0 (N := N_total) (x := x_total) (dn_seq (dn_drop (den_callP0 (den_cons (den_var (i := 0)) (den_cons (den_var (i := 1)) (den_cons (den_var (i := 2)) (den_cons (den_var (i := 3)) den_nil))))))
      (dn_seq (dn_asg (den_make0 (den_cons (den_var (i := 0)) (den_cons (den_var (i := 1)) (den_cons (den_var (i := 2)) den_nil)))))
      (dn_seq (dn_if (den_tB (den_call0 (den_cons (den_var (i := 4)) (den_cons (den_var (i := 3)) (den_cons den_int den_nil))))) dn_never dn_next)
      (dn_seq (dn_asg den_dNew)
      (dn_seq (dn_asg (den_call0 (den_cons (den_var (i := 4)) (den_cons (den_var (i := 3)) (den_cons (den_var (i := 5)) den_nil)))))
      (dn_ret (den_make0 (den_cons (den_var (i := 6)) (den_cons (den_var (i := 5)) (den_cons (den_var (i := 5)) den_nil)))))))))) h⟩
/-! least_work -/
abbrev N_least_work : List Str := ["archive", "room", "delay", "position"]
theorem sc_least_work : FnScope N_least_work ["archive", "room", "delay", "position"] (defScope st_least_work) := ⟨rfl, rfl, rfl, by decide +kernel, rfl, by decide +kernel, by decide +kernel⟩
def x_least_work : Sf :=
  (sRet (dFld 2 0 (dCall (purD m_total) 4 (dCons (dVar 0) (dCons (dVar 1) (dCons (dVar 2) (dCons (dVar 3) dNil)))))))
def m_least_work : Mf := fnD N_least_work.length x_least_work
theorem ok_least_work (T : Tx c mg a d) : FnOk P w c.K mg base CX0 21 (a 74) (d 74) ["archive", "room", "delay", "position"] (sp0 c m_least_work 4) := by
  refine T.F74.ok sc_least_work (fun vs H Q E h => h.1) (fun cdv A outer s H vs Q E hr h => ?_)
  exact ⟨_, (pss_one (ps_ret (pe_fld (pe_call (ok_total T) (hr.mono (by decide)) rfl T.m73 T.F73.kp T.b73 .nil pass0 (pa_cons (pv 0) (pa_cons (pv 1) (pa_cons (pv 2) (pa_cons (pv 3) pa_nil))))) rfl))),
    body0 (N := N_least_work) (x := x_least_work) (dn_ret (den_fld (k := 2) (j := 0) T.K2.cl T.na2_0 T.nd2 T.fj2_0 (den_callPD0 (den_cons (den_var (i := 0)) (den_cons (den_var (i := 1)) (den_cons (den_var (i := 2)) (den_cons (den_var (i := 3)) den_nil))))))) h⟩
/-! Choice.__init__ -/
abbrev N_Choice___init : List Str := ["self", "build", "bound", "heights", "floors"]
theorem sc_Choice___init : FnScope N_Choice___init ["self", "build", "bound", "heights", "floors"] (defScope st_Choice___init) := ⟨rfl, rfl, rfl, by decide +kernel, rfl, by decide +kernel, by decide +kernel⟩
def x_Choice___init : Sf :=
  (sSeq (sFldO 0 "build" (dVar 1))
  (sSeq (sFldO 0 "bound" (dVar 2))
  (sSeq (sFldO 0 "heights" (dCall m_copied 1 (dCons (dVar 3) dNil)))
  (sFldO 0 "floors" (dCall m_copied 1 (dCons (dVar 4) dNil))))))
def mi_Choice : List D → Sto → Res (List D) := initD N_Choice___init.length 3 ["build", "bound", "heights", "floors"] x_Choice___init
theorem ok_Choice___init (T : Tx c mg a d) : FnOk P w c.K mg base CX0 2 (a 7600) (d 7600) ["self", "build", "bound", "heights", "floors"] (spI0 c 3 mi_Choice 5) := by
  refine T.F7600.ok sc_Choice___init (fun vs H Q E h => h.1) (fun cdv A outer s H vs Q E hr h => ?_)
  exact ⟨_, (pss_cons (ps_fld (pv 0) (pv 1) rfl)
      (pss_cons (ps_fld (pv 0) (pv 2) rfl)
      (pss_cons (ps_fld (pv 0) (pe_call (ok_copied T) (hr.mono (by decide)) rfl T.m23 T.F23.kp T.b23 .nil pass0 (pa_cons (pv 3) pa_nil)) rfl)
      (pss_one (ps_fld (pv 0) (pe_call (ok_copied T) (hr.mono (by decide)) rfl T.m23 T.F23.kp T.b23 .nil pass0 (pa_cons (pv 4) pa_nil)) rfl))))),
    init_ok (N := N_Choice___init) (x := x_Choice___init) T.fn3.symm (by decide) (dn_seq (dn_fldO T.clAll T.naAll_3_0 (den_var (i := 1)))
      (dn_seq (dn_fldO T.clAll T.naAll_3_1 (den_var (i := 2)))
      (dn_seq (dn_fldO T.clAll T.naAll_3_2 (den_call0 (den_cons (den_var (i := 3)) den_nil)))
      (dn_fldO T.clAll T.naAll_3_3 (den_call0 (den_cons (den_var (i := 4)) den_nil)))))) h⟩
/-! check_choosing -/
abbrev N_check_choosing : List Str := ["archive", "room", "delay", "ticks"]
theorem sc_check_choosing : FnScope N_check_choosing ["archive", "room", "delay", "ticks"] (defScope st_check_choosing) := ⟨rfl, rfl, rfl, by decide +kernel, rfl, by decide +kernel, by decide +kernel⟩
def x_check_choosing : Sf :=
  (sSeq (sDrop (dCall (pur m_check_play) 3 (dCons (dVar 0) (dCons (dVar 1) (dCons (dVar 2) dNil)))))
  (sDrop (dCall (pur m_check_ticks) 1 (dCons (dVar 3) dNil))))
def m_check_choosing : Mf := fnD N_check_choosing.length x_check_choosing
theorem ok_check_choosing (T : Tx c mg a d) : FnOk P w c.K mg base CX0 5 (a 77) (d 77) ["archive", "room", "delay", "ticks"] (sp0 c m_check_choosing 4) := by
  refine T.F77.ok sc_check_choosing (fun vs H Q E h => h.1) (fun cdv A outer s H vs Q E hr h => ?_)
  exact ⟨_, (pss_cons (ps_expr (pe_call (ok_check_play T) (hr.mono (by decide)) rfl T.m56 T.F56.kp T.b56 .nil pass0 (pa_cons (pv 0) (pa_cons (pv 1) (pa_cons (pv 2) pa_nil)))))
      (pss_one (ps_expr (pe_call (ok_check_ticks T) (hr.mono (by decide)) rfl T.m55 T.F55.kp T.b55 .nil pass0 (pa_cons (pv 3) pa_nil))))),
    body0 (N := N_check_choosing) (x := x_check_choosing) (dn_seq (dn_drop (den_callP0 (den_cons (den_var (i := 0)) (den_cons (den_var (i := 1)) (den_cons (den_var (i := 2)) den_nil)))))
      (dn_drop (den_callP0 (den_cons (den_var (i := 3)) den_nil)))) h⟩
/-! is_whole_build -/
abbrev N_is_whole_build : List Str := ["archive", "room", "build"]
theorem sc_is_whole_build : FnScope N_is_whole_build ["archive", "room", "build"] (defScope st_is_whole_build) := ⟨rfl, rfl, rfl, by decide +kernel, rfl, by decide +kernel, by decide +kernel⟩
def x_is_whole_build : Sf :=
  (sRet (dAnd (dCall (pur m_is_build) 3 (dCons (dVar 0) (dCons (dVar 1) (dCons (dVar 2) dNil)))) (dBin fEq (dCB fLen (dCons (dBin fIx (dVar 2) (dC (.int 0))) dNil)) (dLenO 0 m_Archive___len (dVar 0)))))
def m_is_whole_build : Mf := fnD N_is_whole_build.length x_is_whole_build
theorem ok_is_whole_build (T : Tx c mg a d) : FnOk P w c.K mg base CX0 5 (a 78) (d 78) ["archive", "room", "build"] (sp0 c m_is_whole_build 3) := by
  refine T.F78.ok sc_is_whole_build (fun vs H Q E h => h.1) (fun cdv A outer s H vs Q E hr h => ?_)
  exact ⟨_, (pss_one (ps_ret (pe_and (pe_call (ok_is_build T) (hr.mono (by decide)) rfl T.m41 T.F41.kp T.b41 .nil pass0 (pa_cons (pv 0) (pa_cons (pv 1) (pa_cons (pv 2) pa_nil)))) (pe_one (pe_cmpR (op_eqD hr.units) (pe_callB cr_len2 rfl T.z_len mbt_len (pa_cons (pe_ix ix_seq (pv 2) pe_int (fun _ _ => rfl)) pa_nil)) (pe_lenO (ok_Archive___len T) (hr.mono (by decide)) T.h3303 T.hf3303 T.b3303 pass0 rfl T.z_len (pv 0)) (nomark _)))))),
    body0 (N := N_is_whole_build) (x := x_is_whole_build) (dn_ret (den_andV (den_callP0 (den_cons (den_var (i := 0)) (den_cons (den_var (i := 1)) (den_cons (den_var (i := 2)) den_nil)))) (den_bin od_eq (den_cb cd_len (den_cons (den_bin od_ix (den_var (i := 2)) den_int) den_nil)) (den_lenO0 (den_var (i := 0)))))) h⟩
/-! Choice.shows -/
abbrev N_Choice_shows : List Str := ["self", "archive", "room", "delay", "ticks", "play", "starts", "build"]
theorem sc_Choice_shows : FnScope N_Choice_shows ["self", "archive", "room", "delay", "ticks"] (defScope st_Choice_shows) := ⟨rfl, rfl, rfl, by decide +kernel, rfl, by decide +kernel, by decide +kernel⟩
def x_Choice_shows : Sf :=
  (sSeq (sDrop (dCall (pur m_check_choosing) 4 (dCons (dVar 1) (dCons (dVar 2) (dCons (dVar 3) (dCons (dVar 4) dNil))))))
  (sSeq (sIf (eOr (eNot (eBl (dCall (pur m_is_integer) 1 (dCons (dFld 3 1 (dVar 0)) dNil)))) (eNot (eBl (dCall (pur m_is_whole_build) 3 (dCons (dVar 1) (dCons (dVar 2) (dCons (dFld 3 0 (dVar 0)) dNil))))))) (sRet (dC (.bl false))) sNext)
  (sSeq (sAsg 5 (dMake 1 mi_Play 4 (dCons (dVar 1) (dCons (dVar 2) (dCons (dVar 3) dNil)))))
  (sSeq (sAsg 6 (dOfL (dComp (wSeq (dCall (pur m_builds) 2 (dCons (dVar 1) (dCons (dVar 2) dNil)))) (.nm 7) eYes (dCall (pur m_start_of) 2 (dCons (dVar 7) (dCons (dVar 4) dNil))) [7])))
  (sRet (dAnd (dCall (pur m_are_heights) 4 (dCons (dVar 5) (dCons (dFld 3 2 (dVar 0)) (dCons (dCall (pur m_start_of) 2 (dCons (dFld 3 0 (dVar 0)) (dCons (dVar 4) dNil))) (dCons (dFld 3 1 (dVar 0)) dNil))))) (dCall (pur m_are_floors) 4 (dCons (dVar 5) (dCons (dFld 3 3 (dVar 0)) (dCons (dVar 6) (dCons (dFld 3 1 (dVar 0)) dNil)))))))))))
def m_Choice_shows : Mf := fnD N_Choice_shows.length x_Choice_shows
theorem ok_Choice_shows (T : Tx c mg a d) : FnOk P w c.K mg base CX0 13 (a 7602) (d 7602) ["self", "archive", "room", "delay", "ticks"] (sp0 c m_Choice_shows 5) := by
  refine T.F7602.ok sc_Choice_shows (fun vs H Q E h => h.1) (fun cdv A outer s H vs Q E hr h => ?_)
  exact ⟨_, (pss_cons (ps_expr (pe_call (ok_check_choosing T) (hr.mono (by decide)) rfl T.m77 T.F77.kp T.b77 .nil pass0 (pa_cons (pv 1) (pa_cons (pv 2) (pa_cons (pv 3) (pa_cons (pv 4) pa_nil))))))
      (pss_cons (ps_if (PW.pt (pw_or (pt_not (pt_val (pe_call (ok_is_integer T) (hr.mono (by decide)) rfl T.m12 T.F12.kp T.b12 .nil pass0 (pa_cons (pe_fld (pv 0) rfl) pa_nil)))) (pw_or1 (pt_not (pt_val (pe_call (ok_is_whole_build T) (hr.mono (by decide)) rfl T.m78 T.F78.kp T.b78 .nil pass0 (pa_cons (pv 1) (pa_cons (pv 2) (pa_cons (pe_fld (pv 0) rfl) pa_nil))))))))) (pss_one (ps_ret pe_bl)) pss_nil)
      (pss_cons (ps_set (i := 5) sc_Choice_shows.nd rfl (by first | exact Or.inl rfl | exact Or.inr rfl) (pe_make T.M1 (ok_Play___init T) (hr.mono (by decide)) rfl T.mc1 T.b6600 .nil pass0 (pa_cons (pv 1) (pa_cons (pv 2) (pa_cons (pv 3) pa_nil)))))
      (pss_cons (ps_setLc (own := [("build", 7)]) (i := 6) rfl sc_Choice_shows.nd rfl rfl (sw_true rfl rfl rfl (by decide +kernel)) (pi_seq (pe_call (ok_builds T) (hr.mono (by decide)) rfl T.m39 T.F39.kp T.b39 .nil pass0 (pa_cons (pv 1) (pa_cons (pv 2) pa_nil)))) (blkOk_by (N := N_Choice_shows) (sc := defScope st_Choice_shows) (by decide +kernel)) (fun _ _ _ _ _ => (pg_name (i := 7) sc_Choice_shows.nd rfl (by first | exact Or.inl rfl | exact Or.inr rfl))) (fun _ _ _ _ _ => pts_nil) (fun _ _ _ _ _ => (pe_call (ok_start_of T) (hr.mono (by decide)) rfl T.m65 T.F65.kp T.b65 .nil pass0 (pa_cons (pv 7) (pa_cons (pv 4) pa_nil)))))
      (pss_one (ps_ret (pe_and (pe_call (ok_are_heights T) (hr.mono (by decide)) rfl T.m21 T.F21.kp T.b21 .nil pass0 (pa_cons (pv 5) (pa_cons (pe_fld (pv 0) rfl) (pa_cons (pe_call (ok_start_of T) (hr.mono (by decide)) rfl T.m65 T.F65.kp T.b65 .nil pass0 (pa_cons (pe_fld (pv 0) rfl) (pa_cons (pv 4) pa_nil))) (pa_cons (pe_fld (pv 0) rfl) pa_nil))))) (pe_one (pe_call (ok_are_floors T) (hr.mono (by decide)) rfl T.m22 T.F22.kp T.b22 .nil pass0 (pa_cons (pv 5) (pa_cons (pe_fld (pv 0) rfl) (pa_cons (pv 6) (pa_cons (pe_fld (pv 0) rfl) pa_nil))))))))))))),
    body0 (N := N_Choice_shows) (x := x_Choice_shows) (dn_seq (dn_drop (den_callP0 (den_cons (den_var (i := 1)) (den_cons (den_var (i := 2)) (den_cons (den_var (i := 3)) (den_cons (den_var (i := 4)) den_nil))))))
      (dn_seq (dn_if (den_or (den_not (den_tB (den_callP0 (den_cons (den_fld (k := 3) (j := 1) T.K3.cl T.na3_1 T.nd3 T.fj3_1 (den_var (i := 0))) den_nil)))) (den_not (den_tB (den_callP0 (den_cons (den_var (i := 1)) (den_cons (den_var (i := 2)) (den_cons (den_fld (k := 3) (j := 0) T.K3.cl T.na3_0 T.nd3 T.fj3_0 (den_var (i := 0))) den_nil))))))) (dn_ret den_bl) dn_next)
      (dn_seq (dn_asg (den_make0 (den_cons (den_var (i := 1)) (den_cons (den_var (i := 2)) (den_cons (den_var (i := 3)) den_nil)))))
      (dn_seq (dn_asg (den_ofL (den_comp (p := (.nm 7)) (vs := [7]) (SrcS.x (src_seq (den_callP0 (den_cons (den_var (i := 1)) (den_cons (den_var (i := 2)) den_nil))))) den_yes (den_callP0 (den_cons (den_var (i := 7)) (den_cons (den_var (i := 4)) den_nil))) rfl)))
      (dn_ret (den_andV (den_callP0 (den_cons (den_var (i := 5)) (den_cons (den_fld (k := 3) (j := 2) T.K3.cl T.na3_2 T.nd3 T.fj3_2 (den_var (i := 0))) (den_cons (den_callP0 (den_cons (den_fld (k := 3) (j := 0) T.K3.cl T.na3_0 T.nd3 T.fj3_0 (den_var (i := 0))) (den_cons (den_var (i := 4)) den_nil))) (den_cons (den_fld (k := 3) (j := 1) T.K3.cl T.na3_1 T.nd3 T.fj3_1 (den_var (i := 0))) den_nil))))) (den_callP0 (den_cons (den_var (i := 5)) (den_cons (den_fld (k := 3) (j := 3) T.K3.cl T.na3_3 T.nd3 T.fj3_3 (den_var (i := 0))) (den_cons (den_var (i := 6)) (den_cons (den_fld (k := 3) (j := 1) T.K3.cl T.na3_1 T.nd3 T.fj3_1 (den_var (i := 0))) den_nil))))))))))) h⟩
/-! choose -/
abbrev N_choose : List Str := ["archive", "room", "delay", "ticks", "play", "known", "found", "bounds", "build", "bound"]
theorem sc_choose : FnScope N_choose ["archive", "room", "delay", "ticks"] (defScope st_choose) := ⟨rfl, rfl, rfl, by decide +kernel, rfl, by decide +kernel, by decide +kernel⟩
def x_choose : Sf :=
  (sSeq (sDrop (dCall (pur m_check_choosing) 4 (dCons (dVar 0) (dCons (dVar 1) (dCons (dVar 2) (dCons (dVar 3) dNil))))))
  (sSeq (sDrop (dCall (pur m_check_few) 1 (dCons (dVar 0) dNil)))
  (sSeq (sAsg 4 (dMake 1 mi_Play 4 (dCons (dVar 0) (dCons (dVar 1) (dCons (dVar 2) dNil)))))
  (sSeq (sAsg 5 dDNew)
  (sSeq (sAsg 6 (dCall (pur m_builds) 2 (dCons (dVar 0) (dCons (dVar 1) dNil))))
  (sSeq (sAsg 7 (dOfL (dComp (wSeq (dVar 6)) (.nm 8) eYes (dCall (m_least_from 9) 3 (dCons (dVar 4) (dCons (dCall (pur m_start_of) 2 (dCons (dVar 8) (dCons (dVar 3) dNil))) (dCons (dVar 5) dNil)))) [8])))
  (sSeq (sAsg 9 (dCB fMin (dCons (dVar 7) dNil)))
  (sRet (dMake 3 mi_Choice 5 (dCons (dBin fIx (dVar 6) (dLstIx (dVar 7) (dVar 9))) (dCons (dVar 9) (dCons (dVar 5) (dCons (dVar 5) dNil)))))))))))))
def m_choose : Mf := fnD N_choose.length x_choose
theorem ok_choose (T : Tx c mg a d) : FnOk P w c.K mg base CX0 20 (a 79) (d 79) ["archive", "room", "delay", "ticks"] (sp0 c m_choose 4) := by
  refine T.F79.ok sc_choose (fun vs H Q E h => h.1) (fun cdv A outer s H vs Q E hr h => ?_)
  exact ⟨_, (pss_cons (ps_expr (pe_call (ok_check_choosing T) (hr.mono (by decide)) rfl T.m77 T.F77.kp T.b77 .nil pass0 (pa_cons (pv 0) (pa_cons (pv 1) (pa_cons (pv 2) (pa_cons (pv 3) pa_nil))))))
      (pss_cons (ps_expr (pe_call (ok_check_few T) (hr.mono (by decide)) rfl T.m36 T.F36.kp T.b36 .nil pass0 (pa_cons (pv 0) pa_nil)))
      (pss_cons (ps_set (i := 4) sc_choose.nd rfl (by first | exact Or.inl rfl | exact Or.inr rfl) (pe_make T.M1 (ok_Play___init T) (hr.mono (by decide)) rfl T.mc1 T.b6600 .nil pass0 (pa_cons (pv 0) (pa_cons (pv 1) (pa_cons (pv 2) pa_nil)))))
      (pss_cons (ps_set (i := 5) sc_choose.nd rfl (by first | exact Or.inl rfl | exact Or.inr rfl) pe_nnew)
      (pss_cons (ps_set (i := 6) sc_choose.nd rfl (by first | exact Or.inl rfl | exact Or.inr rfl) (pe_call (ok_builds T) (hr.mono (by decide)) rfl T.m39 T.F39.kp T.b39 .nil pass0 (pa_cons (pv 0) (pa_cons (pv 1) pa_nil))))
      (pss_cons (ps_setLc (own := [("build", 8)]) (i := 7) rfl sc_choose.nd rfl rfl (sw_true rfl rfl rfl (by decide +kernel)) (pi_seq (pv 6)) (blkOk_by (N := N_choose) (sc := defScope st_choose) (by decide +kernel)) (fun _ _ _ _ _ => (pg_name (i := 8) sc_choose.nd rfl (by first | exact Or.inl rfl | exact Or.inr rfl))) (fun _ _ _ _ _ => pts_nil) (fun _ _ _ _ _ => (pe_call (ok_least_from T 9) (hr.mono (by decide)) rfl T.m18 T.F18.kp T.b18 .nil pass0 (pa_cons (pv 4) (pa_cons (pe_call (ok_start_of T) (hr.mono (by decide)) rfl T.m65 T.F65.kp T.b65 .nil pass0 (pa_cons (pv 8) (pa_cons (pv 3) pa_nil))) (pa_cons (pv 5) pa_nil))))))
      (pss_cons (ps_set (i := 9) sc_choose.nd rfl (by first | exact Or.inl rfl | exact Or.inr rfl) (pe_callB (cr_min3 rfl) rfl T.z_min mbt_min (pa_cons (pv 7) pa_nil)))
      (pss_one (ps_ret (pe_make T.M3 (ok_Choice___init T) (hr.mono (by decide)) rfl T.mc3 T.b7600 .nil pass0 (pa_cons (pe_ix ix_seq (pv 6) (pe_bm PySem.F.plainAttrs_list PySem.F.slot_list_index PySem.F.type_list_index mt_index (pv 7) (pa_cons (pv 9) pa_nil)) (fun _ _ => rfl)) (pa_cons (pv 9) (pa_cons (pv 5) (pa_cons (pv 5) pa_nil)))))))))))))),
    body0 (N := N_choose) (x := x_choose) (dn_seq (dn_drop (den_callP0 (den_cons (den_var (i := 0)) (den_cons (den_var (i := 1)) (den_cons (den_var (i := 2)) (den_cons (den_var (i := 3)) den_nil))))))
      (dn_seq (dn_drop (den_callP0 (den_cons (den_var (i := 0)) den_nil)))
      (dn_seq (dn_asg (den_make0 (den_cons (den_var (i := 0)) (den_cons (den_var (i := 1)) (den_cons (den_var (i := 2)) den_nil)))))
      (dn_seq (dn_asg den_dNew)
      (dn_seq (dn_asg (den_callP0 (den_cons (den_var (i := 0)) (den_cons (den_var (i := 1)) den_nil))))
      (dn_seq (dn_asg (den_ofL (den_comp (p := (.nm 8)) (vs := [8]) (SrcS.x (src_seq (den_var (i := 6)))) den_yes (den_call0 (den_cons (den_var (i := 4)) (den_cons (den_callP0 (den_cons (den_var (i := 8)) (den_cons (den_var (i := 3)) den_nil))) (den_cons (den_var (i := 5)) den_nil)))) rfl)))
      (dn_seq (dn_asg (den_cb cd_min (den_cons (den_var (i := 7)) den_nil)))
      (dn_ret (den_make0 (den_cons (den_bin od_ix (den_var (i := 6)) (den_lstIx (den_var (i := 7)) (den_var (i := 9)))) (den_cons (den_var (i := 9)) (den_cons (den_var (i := 5)) (den_cons (den_var (i := 5)) den_nil))))))))))))) h⟩
/-! best_work -/
abbrev N_best_work : List Str := ["archive", "room", "delay", "ticks"]
theorem sc_best_work : FnScope N_best_work ["archive", "room", "delay", "ticks"] (defScope st_best_work) := ⟨rfl, rfl, rfl, by decide +kernel, rfl, by decide +kernel, by decide +kernel⟩
def x_best_work : Sf :=
  (sRet (dFld 3 1 (dCall (purD m_choose) 4 (dCons (dVar 0) (dCons (dVar 1) (dCons (dVar 2) (dCons (dVar 3) dNil)))))))
def m_best_work : Mf := fnD N_best_work.length x_best_work
theorem ok_best_work (T : Tx c mg a d) : FnOk P w c.K mg base CX0 21 (a 80) (d 80) ["archive", "room", "delay", "ticks"] (sp0 c m_best_work 4) := by
  refine T.F80.ok sc_best_work (fun vs H Q E h => h.1) (fun cdv A outer s H vs Q E hr h => ?_)
  exact ⟨_, (pss_one (ps_ret (pe_fld (pe_call (ok_choose T) (hr.mono (by decide)) rfl T.m79 T.F79.kp T.b79 .nil pass0 (pa_cons (pv 0) (pa_cons (pv 1) (pa_cons (pv 2) (pa_cons (pv 3) pa_nil))))) rfl))),
    body0 (N := N_best_work) (x := x_best_work) (dn_ret (den_fld (k := 3) (j := 1) T.K3.cl T.na3_1 T.nd3 T.fj3_1 (den_callPD0 (den_cons (den_var (i := 0)) (den_cons (den_var (i := 1)) (den_cons (den_var (i := 2)) (den_cons (den_var (i := 3)) den_nil))))))) h⟩
/-! least_pairs -/
abbrev N_least_pairs : List Str := ["archive", "delay", "ticks", "room"]
theorem sc_least_pairs : FnScope N_least_pairs ["archive", "delay", "ticks"] (defScope st_least_pairs) := ⟨rfl, rfl, rfl, by decide +kernel, rfl, by decide +kernel, by decide +kernel⟩
def x_least_pairs : Sf :=
  (sSeq (sDrop (dCall (pur m_check_archive) 1 (dCons (dVar 0) dNil)))
  (sSeq (sDrop (dCall (pur m_check_delay) 1 (dCons (dVar 1) dNil)))
  (sSeq (sDrop (dCall (pur m_check_ticks) 1 (dCons (dVar 2) dNil)))
  (sSeq (sDrop (dCall (pur m_check_few) 1 (dCons (dVar 0) dNil)))
  (sRet (dCall (pur m_just_enough) 1 (dCons (dOfL (dComp (wRng1 (dCons (dLenO 0 m_Archive___len (dVar 0)) dNil)) (.nm 3) eYes (dTup (dCons (dVar 3) (dCons (dCall (purD m_best_work) 4 (dCons (dVar 0) (dCons (dVar 3) (dCons (dVar 1) (dCons (dVar 2) dNil))))) dNil))) [3])) dNil)))))))
def m_least_pairs : Mf := fnD N_least_pairs.length x_least_pairs
theorem ok_least_pairs (T : Tx c mg a d) : FnOk P w c.K mg base CX0 22 (a 81) (d 81) ["archive", "delay", "ticks"] (sp0 c m_least_pairs 3) := by
  refine T.F81.ok sc_least_pairs (fun vs H Q E h => h.1) (fun cdv A outer s H vs Q E hr h => ?_)
  exact ⟨_, (pss_cons (ps_expr (pe_call (ok_check_archive T) (hr.mono (by decide)) rfl T.m34 T.F34.kp T.b34 .nil pass0 (pa_cons (pv 0) pa_nil)))
      (pss_cons (ps_expr (pe_call (ok_check_delay T) (hr.mono (by decide)) rfl T.m54 T.F54.kp T.b54 .nil pass0 (pa_cons (pv 1) pa_nil)))
      (pss_cons (ps_expr (pe_call (ok_check_ticks T) (hr.mono (by decide)) rfl T.m55 T.F55.kp T.b55 .nil pass0 (pa_cons (pv 2) pa_nil)))
      (pss_cons (ps_expr (pe_call (ok_check_few T) (hr.mono (by decide)) rfl T.m36 T.F36.kp T.b36 .nil pass0 (pa_cons (pv 0) pa_nil)))
      (pss_one (ps_ret (pe_call (ok_just_enough T) (hr.mono (by decide)) rfl T.m24 T.F24.kp T.b24 .nil pass0 (pa_cons (pe_lc (own := [("room", 3)]) rfl sc_least_pairs.nd (pi_range1 rfl T.z_range (pa_cons (pe_lenO (ok_Archive___len T) (hr.mono (by decide)) T.h3303 T.hf3303 T.b3303 pass0 rfl T.z_len (pv 0)) pa_nil)) (blkOk_by (N := N_least_pairs) (sc := defScope st_least_pairs) (by decide +kernel)) (fun _ _ _ _ _ => (pg_name (i := 3) sc_least_pairs.nd rfl (by first | exact Or.inl rfl | exact Or.inr rfl))) (fun _ _ _ _ _ => pts_nil) (fun _ _ _ _ _ => (pe_tupZ (pa_cons (pv 3) (pa_cons (pe_call (ok_best_work T) (hr.mono (by decide)) rfl T.m80 T.F80.kp T.b80 .nil pass0 (pa_cons (pv 0) (pa_cons (pv 3) (pa_cons (pv 1) (pa_cons (pv 2) pa_nil))))) pa_nil))))) pa_nil)))))))),
    body0 (N := N_least_pairs) (x := x_least_pairs) (dn_seq (dn_drop (den_callP0 (den_cons (den_var (i := 0)) den_nil)))
      (dn_seq (dn_drop (den_callP0 (den_cons (den_var (i := 1)) den_nil)))
      (dn_seq (dn_drop (den_callP0 (den_cons (den_var (i := 2)) den_nil)))
      (dn_seq (dn_drop (den_callP0 (den_cons (den_var (i := 0)) den_nil)))
      (dn_ret (den_callP0 (den_cons (den_ofL (den_comp (p := (.nm 3)) (vs := [3]) (SrcS.x (src_rng1 (den_cons (den_lenO0 (den_var (i := 0))) den_nil))) den_yes (den_tup (den_cons (den_var (i := 3)) (den_cons (den_callPD0 (den_cons (den_var (i := 0)) (den_cons (den_var (i := 3)) (den_cons (den_var (i := 1)) (den_cons (den_var (i := 2)) den_nil))))) den_nil))) rfl)) den_nil))))))) h⟩
/-! _law_works_right -/
abbrev N_u_law_works_right : List Str := ["_law_three", "_law_build", "_law_people", "_law_four"]
theorem sc_u_law_works_right : FnScope N_u_law_works_right ["_law_three"] (defScope st_u_law_works_right) := ⟨rfl, rfl, rfl, by decide +kernel, rfl, by decide +kernel, by decide +kernel⟩
def x_u_law_works_right : Sf :=
  (sSeq (sAsg 1 (dTup (dCons (dTup (dCons (dC (.int 0)) (dCons (dC (.int 1)) (dCons (dC (.int 2)) dNil)))) (dCons (dTup (dCons (dC (.int 1)) dNil)) dNil))))
  (sSeq (sIf (eOr (eBl (dBin fNe (dOfL (dComp (wSeq (dTup (dCons (dTup (dCons (dC (.int 0)) dNil)) (dCons (dTup (dCons (dC (.int 1)) dNil)) (dCons (dTup (dCons (dC (.int 2)) dNil)) (dCons (dTup (dCons (dC (.int 1)) (dCons (dC (.int 2)) dNil))) (dCons (dTup (dCons (dC (.int 0)) (dCons (dC (.int 1)) (dCons (dC (.int 2)) dNil)))) (dCons (dTup (dCons (dC (.int 0)) (dCons (dC (.int 2)) dNil))) dNil)))))))) (.nm 2) eYes (dCall (pur m_work) 4 (dCons (dVar 0) (dCons (dC (.int 1)) (dCons (dVar 1) (dCons (dVar 2) dNil))))) [2])) (dOfL (dLst (dCons (dC (.int 4)) (dCons (dC (.int 3)) (dCons (dC (.int 1)) (dCons (dC (.int 0)) (dCons (dC (.int 0)) (dCons (dC (.int 1)) dNil)))))))))) (eOr (eBl (dBin fNe (dCall (pur m_work) 4 (dCons (dVar 0) (dCons (dC (.int 0)) (dCons (dTup (dCons (dTup (dCons (dC (.int 0)) (dCons (dC (.int 1)) (dCons (dC (.int 2)) dNil)))) (dCons (dTup dNil) dNil))) (dCons (dTup (dCons (dC (.int 2)) dNil)) dNil))))) (dC (.int 3)))) (eBl (dBin fNe (dCall (pur m_work) 4 (dCons (dVar 0) (dCons (dC (.int 2)) (dCons (dTup (dCons (dTup (dCons (dC (.int 0)) (dCons (dC (.int 1)) (dCons (dC (.int 2)) dNil)))) (dCons (dTup (dCons (dC (.int 1)) (dCons (dC (.int 2)) dNil))) dNil))) (dCons (dTup (dCons (dC (.int 2)) dNil)) dNil))))) (dC (.int 0)))))) (sRet (dC (.bl false))) sNext)
  (sSeq (sIf (eOr (eBl (dBin fNe (dCall (pur m_after) 4 (dCons (dVar 0) (dCons (dC (.int 1)) (dCons (dVar 1) (dCons (dTup (dCons (dC (.int 1)) dNil)) dNil))))) (dOfL (dLst (dCons (dTup (dCons (dTup (dCons (dC (.int 0)) (dCons (dC (.int 2)) dNil))) (dCons (dTup dNil) dNil))) (dCons (dTup (dCons (dTup (dCons (dC (.int 0)) (dCons (dC (.int 2)) dNil))) (dCons (dTup (dCons (dC (.int 1)) dNil)) dNil))) dNil)))))) (eOr (eBl (dBin fNe (dCall (pur m_after) 4 (dCons (dVar 0) (dCons (dC (.int 0)) (dCons (dTup (dCons (dTup (dCons (dC (.int 1)) (dCons (dC (.int 2)) dNil))) (dCons (dTup dNil) dNil))) (dCons (dTup (dCons (dC (.int 1)) dNil)) dNil))))) (dOfL (dLst (dCons (dTup (dCons (dTup (dCons (dC (.int 2)) dNil)) (dCons (dTup dNil) dNil))) dNil))))) (eBl (dBin fNe (dCall (pur m_builds) 2 (dCons (dMake 0 mi_Archive 2 (dCons (dTup (dCons (dC (.int 1)) (dCons (dC (.int 1)) dNil))) dNil)) (dCons (dC (.int 1)) dNil))) (dOfL (dLst (dCons (dTup (dCons (dTup (dCons (dC (.int 0)) (dCons (dC (.int 1)) dNil))) (dCons (dTup dNil) dNil))) (dCons (dTup (dCons (dTup (dCons (dC (.int 0)) (dCons (dC (.int 1)) dNil))) (dCons (dTup (dCons (dC (.int 1)) dNil)) dNil))) (dCons (dTup (dCons (dTup (dCons (dC (.int 1)) (dCons (dC (.int 0)) dNil))) (dCons (dTup dNil) dNil))) (dCons (dTup (dCons (dTup (dCons (dC (.int 1)) (dCons (dC (.int 0)) dNil))) (dCons (dTup (dCons (dC (.int 1)) dNil)) dNil))) dNil)))))))))) (sRet (dC (.bl false))) sNext)
  (sSeq (sIf (eOr (eBl (dBin fNe (dCall (pur m_after) 4 (dCons (dVar 0) (dCons (dC (.int 1)) (dCons (dTup (dCons (dTup (dCons (dC (.int 0)) (dCons (dC (.int 1)) (dCons (dC (.int 2)) dNil)))) (dCons (dTup dNil) dNil))) (dCons (dTup (dCons (dC (.int 2)) dNil)) dNil))))) (dOfL (dLst (dCons (dTup (dCons (dTup (dCons (dC (.int 0)) (dCons (dC (.int 1)) dNil))) (dCons (dTup dNil) dNil))) (dCons (dTup (dCons (dTup (dCons (dC (.int 0)) (dCons (dC (.int 1)) dNil))) (dCons (dTup (dCons (dC (.int 1)) dNil)) dNil))) (dCons (dTup (dCons (dTup (dCons (dC (.int 1)) (dCons (dC (.int 0)) dNil))) (dCons (dTup dNil) dNil))) (dCons (dTup (dCons (dTup (dCons (dC (.int 1)) (dCons (dC (.int 0)) dNil))) (dCons (dTup (dCons (dC (.int 1)) dNil)) dNil))) dNil)))))))) (eOr (eBl (dBin fNe (dCall (pur m_after) 4 (dCons (dVar 0) (dCons (dC (.int 2)) (dCons (dTup (dCons (dTup (dCons (dC (.int 0)) (dCons (dC (.int 1)) (dCons (dC (.int 2)) dNil)))) (dCons (dTup (dCons (dC (.int 2)) dNil)) dNil))) (dCons (dTup (dCons (dC (.int 2)) dNil)) dNil))))) (dOfL (dLst (dCons (dTup (dCons (dTup (dCons (dC (.int 0)) (dCons (dC (.int 1)) dNil))) (dCons (dTup dNil) dNil))) dNil))))) (eBl (dBin fNe (dCall (pur m_after) 4 (dCons (dVar 0) (dCons (dC (.int 1)) (dCons (dVar 1) (dCons (dTup (dCons (dC (.int 0)) (dCons (dC (.int 1)) (dCons (dC (.int 2)) dNil)))) dNil))))) (dOfL (dLst (dCons (dTup (dCons (dTup dNil) (dCons (dTup dNil) dNil))) dNil))))))) (sRet (dC (.bl false))) sNext)
  (sSeq (sAsg 3 (dMake 0 mi_Archive 2 (dCons (dTup (dCons (dC (.int 1)) (dCons (dC (.int 2)) (dCons (dC (.int 3)) (dCons (dC (.int 4)) dNil))))) dNil)))
  (sSeq (sIf (eBl (dBin fNe (dCall (pur m_after) 4 (dCons (dVar 3) (dCons (dC (.int 3)) (dCons (dTup (dCons (dTup (dCons (dC (.int 3)) (dCons (dC (.int 0)) (dCons (dC (.int 1)) (dCons (dC (.int 2)) dNil))))) (dCons (dTup (dCons (dC (.int 2)) dNil)) dNil))) (dCons (dTup (dCons (dC (.int 1)) dNil)) dNil))))) (dOfL (dLst (dCons (dTup (dCons (dTup (dCons (dC (.int 3)) (dCons (dC (.int 0)) (dCons (dC (.int 2)) dNil)))) (dCons (dTup dNil) dNil))) (dCons (dTup (dCons (dTup (dCons (dC (.int 3)) (dCons (dC (.int 0)) (dCons (dC (.int 2)) dNil)))) (dCons (dTup (dCons (dC (.int 2)) dNil)) dNil))) dNil)))))) (sRet (dC (.bl false))) sNext)
  (sRet (dBin fEq (dCall (pur m_after) 4 (dCons (dVar 3) (dCons (dC (.int 2)) (dCons (dTup (dCons (dTup (dCons (dC (.int 3)) (dCons (dC (.int 0)) (dCons (dC (.int 1)) (dCons (dC (.int 2)) dNil))))) (dCons (dTup (dCons (dC (.int 1)) (dCons (dC (.int 3)) dNil))) dNil))) (dCons (dTup (dCons (dC (.int 2)) dNil)) dNil))))) (dOfL (dLst (dCons (dTup (dCons (dTup (dCons (dC (.int 3)) (dCons (dC (.int 0)) (dCons (dC (.int 1)) dNil)))) (dCons (dTup dNil) dNil))) (dCons (dTup (dCons (dTup (dCons (dC (.int 3)) (dCons (dC (.int 0)) (dCons (dC (.int 1)) dNil)))) (dCons (dTup (dCons (dC (.int 1)) dNil)) dNil))) dNil))))))))))))
def m_u_law_works_right : Mf := fnD N_u_law_works_right.length x_u_law_works_right
theorem ok_u_law_works_right (T : Tx c mg a d) : FnOk P w c.K mg base CX0 9 (a 83) (d 83) ["_law_three"] (sp0 c m_u_law_works_right 1) := by
  refine T.F83.ok sc_u_law_works_right (fun vs H Q E h => h.1) (fun cdv A outer s H vs Q E hr h => ?_)
  exact ⟨_, (pss_cons (ps_set (i := 1) sc_u_law_works_right.nd rfl (by first | exact Or.inl rfl | exact Or.inr rfl) (pe_tupZ (pa_cons (pe_tupZ (pa_cons pe_int (pa_cons pe_int (pa_cons pe_int pa_nil)))) (pa_cons (pe_tupZ (pa_cons pe_int pa_nil)) pa_nil))))
      (pss_cons (ps_if (PW.pt (pw_or (pt_cmpR (op_neD hr.units) (pe_lc (own := [("_law_people", 2)]) rfl sc_u_law_works_right.nd (pi_seq (pe_tupZ (pa_cons (pe_tupZ (pa_cons pe_int pa_nil)) (pa_cons (pe_tupZ (pa_cons pe_int pa_nil)) (pa_cons (pe_tupZ (pa_cons pe_int pa_nil)) (pa_cons (pe_tupZ (pa_cons pe_int (pa_cons pe_int pa_nil))) (pa_cons (pe_tupZ (pa_cons pe_int (pa_cons pe_int (pa_cons pe_int pa_nil)))) (pa_cons (pe_tupZ (pa_cons pe_int (pa_cons pe_int pa_nil))) pa_nil)))))))) (blkOk_by (N := N_u_law_works_right) (sc := defScope st_u_law_works_right) (by decide +kernel)) (fun _ _ _ _ _ => (pg_name (i := 2) sc_u_law_works_right.nd rfl (by first | exact Or.inl rfl | exact Or.inr rfl))) (fun _ _ _ _ _ => pts_nil) (fun _ _ _ _ _ => (pe_call (ok_work T) (hr.mono (by decide)) rfl T.m49 T.F49.kp T.b49 .nil pass0 (pa_cons (pv 0) (pa_cons pe_int (pa_cons (pv 1) (pa_cons (pv 2) pa_nil))))))) (pe_lst (pa_cons pe_int (pa_cons pe_int (pa_cons pe_int (pa_cons pe_int (pa_cons pe_int (pa_cons pe_int pa_nil))))))) (nomark _)) (pw_or (pt_cmpR (op_neD hr.units) (pe_call (ok_work T) (hr.mono (by decide)) rfl T.m49 T.F49.kp T.b49 .nil pass0 (pa_cons (pv 0) (pa_cons pe_int (pa_cons (pe_tupZ (pa_cons (pe_tupZ (pa_cons pe_int (pa_cons pe_int (pa_cons pe_int pa_nil)))) (pa_cons (pe_tupZ pa_nil) pa_nil))) (pa_cons (pe_tupZ (pa_cons pe_int pa_nil)) pa_nil))))) pe_int (nomark _)) (pw_or1 (pt_cmpR (op_neD hr.units) (pe_call (ok_work T) (hr.mono (by decide)) rfl T.m49 T.F49.kp T.b49 .nil pass0 (pa_cons (pv 0) (pa_cons pe_int (pa_cons (pe_tupZ (pa_cons (pe_tupZ (pa_cons pe_int (pa_cons pe_int (pa_cons pe_int pa_nil)))) (pa_cons (pe_tupZ (pa_cons pe_int (pa_cons pe_int pa_nil))) pa_nil))) (pa_cons (pe_tupZ (pa_cons pe_int pa_nil)) pa_nil))))) pe_int (nomark _)))))) (pss_one (ps_ret pe_bl)) pss_nil)
      (pss_cons (ps_if (PW.pt (pw_or (pt_cmpR (op_neD hr.units) (pe_call (ok_after T) (hr.mono (by decide)) rfl T.m50 T.F50.kp T.b50 .nil pass0 (pa_cons (pv 0) (pa_cons pe_int (pa_cons (pv 1) (pa_cons (pe_tupZ (pa_cons pe_int pa_nil)) pa_nil))))) (pe_lst (pa_cons (pe_tupZ (pa_cons (pe_tupZ (pa_cons pe_int (pa_cons pe_int pa_nil))) (pa_cons (pe_tupZ pa_nil) pa_nil))) (pa_cons (pe_tupZ (pa_cons (pe_tupZ (pa_cons pe_int (pa_cons pe_int pa_nil))) (pa_cons (pe_tupZ (pa_cons pe_int pa_nil)) pa_nil))) pa_nil))) (nomark _)) (pw_or (pt_cmpR (op_neD hr.units) (pe_call (ok_after T) (hr.mono (by decide)) rfl T.m50 T.F50.kp T.b50 .nil pass0 (pa_cons (pv 0) (pa_cons pe_int (pa_cons (pe_tupZ (pa_cons (pe_tupZ (pa_cons pe_int (pa_cons pe_int pa_nil))) (pa_cons (pe_tupZ pa_nil) pa_nil))) (pa_cons (pe_tupZ (pa_cons pe_int pa_nil)) pa_nil))))) (pe_lst (pa_cons (pe_tupZ (pa_cons (pe_tupZ (pa_cons pe_int pa_nil)) (pa_cons (pe_tupZ pa_nil) pa_nil))) pa_nil)) (nomark _)) (pw_or1 (pt_cmpR (op_neD hr.units) (pe_call (ok_builds T) (hr.mono (by decide)) rfl T.m39 T.F39.kp T.b39 .nil pass0 (pa_cons (pe_make T.M0 (ok_Archive___init T) (hr.mono (by decide)) rfl T.mc0 T.b3300 .nil pass0 (pa_cons (pe_tupZ (pa_cons pe_int (pa_cons pe_int pa_nil))) pa_nil)) (pa_cons pe_int pa_nil))) (pe_lst (pa_cons (pe_tupZ (pa_cons (pe_tupZ (pa_cons pe_int (pa_cons pe_int pa_nil))) (pa_cons (pe_tupZ pa_nil) pa_nil))) (pa_cons (pe_tupZ (pa_cons (pe_tupZ (pa_cons pe_int (pa_cons pe_int pa_nil))) (pa_cons (pe_tupZ (pa_cons pe_int pa_nil)) pa_nil))) (pa_cons (pe_tupZ (pa_cons (pe_tupZ (pa_cons pe_int (pa_cons pe_int pa_nil))) (pa_cons (pe_tupZ pa_nil) pa_nil))) (pa_cons (pe_tupZ (pa_cons (pe_tupZ (pa_cons pe_int (pa_cons pe_int pa_nil))) (pa_cons (pe_tupZ (pa_cons pe_int pa_nil)) pa_nil))) pa_nil))))) (nomark _)))))) (pss_one (ps_ret pe_bl)) pss_nil)
      (pss_cons (ps_if (PW.pt (pw_or (pt_cmpR (op_neD hr.units) (pe_call (ok_after T) (hr.mono (by decide)) rfl T.m50 T.F50.kp T.b50 .nil pass0 (pa_cons (pv 0) (pa_cons pe_int (pa_cons (pe_tupZ (pa_cons (pe_tupZ (pa_cons pe_int (pa_cons pe_int (pa_cons pe_int pa_nil)))) (pa_cons (pe_tupZ pa_nil) pa_nil))) (pa_cons (pe_tupZ (pa_cons pe_int pa_nil)) pa_nil))))) (pe_lst (pa_cons (pe_tupZ (pa_cons (pe_tupZ (pa_cons pe_int (pa_cons pe_int pa_nil))) (pa_cons (pe_tupZ pa_nil) pa_nil))) (pa_cons (pe_tupZ (pa_cons (pe_tupZ (pa_cons pe_int (pa_cons pe_int pa_nil))) (pa_cons (pe_tupZ (pa_cons pe_int pa_nil)) pa_nil))) (pa_cons (pe_tupZ (pa_cons (pe_tupZ (pa_cons pe_int (pa_cons pe_int pa_nil))) (pa_cons (pe_tupZ pa_nil) pa_nil))) (pa_cons (pe_tupZ (pa_cons (pe_tupZ (pa_cons pe_int (pa_cons pe_int pa_nil))) (pa_cons (pe_tupZ (pa_cons pe_int pa_nil)) pa_nil))) pa_nil))))) (nomark _)) (pw_or (pt_cmpR (op_neD hr.units) (pe_call (ok_after T) (hr.mono (by decide)) rfl T.m50 T.F50.kp T.b50 .nil pass0 (pa_cons (pv 0) (pa_cons pe_int (pa_cons (pe_tupZ (pa_cons (pe_tupZ (pa_cons pe_int (pa_cons pe_int (pa_cons pe_int pa_nil)))) (pa_cons (pe_tupZ (pa_cons pe_int pa_nil)) pa_nil))) (pa_cons (pe_tupZ (pa_cons pe_int pa_nil)) pa_nil))))) (pe_lst (pa_cons (pe_tupZ (pa_cons (pe_tupZ (pa_cons pe_int (pa_cons pe_int pa_nil))) (pa_cons (pe_tupZ pa_nil) pa_nil))) pa_nil)) (nomark _)) (pw_or1 (pt_cmpR (op_neD hr.units) (pe_call (ok_after T) (hr.mono (by decide)) rfl T.m50 T.F50.kp T.b50 .nil pass0 (pa_cons (pv 0) (pa_cons pe_int (pa_cons (pv 1) (pa_cons (pe_tupZ (pa_cons pe_int (pa_cons pe_int (pa_cons pe_int pa_nil)))) pa_nil))))) (pe_lst (pa_cons (pe_tupZ (pa_cons (pe_tupZ pa_nil) (pa_cons (pe_tupZ pa_nil) pa_nil))) pa_nil)) (nomark _)))))) (pss_one (ps_ret pe_bl)) pss_nil)
      (pss_cons (ps_set (i := 3) sc_u_law_works_right.nd rfl (by first | exact Or.inl rfl | exact Or.inr rfl) (pe_make T.M0 (ok_Archive___init T) (hr.mono (by decide)) rfl T.mc0 T.b3300 .nil pass0 (pa_cons (pe_tupZ (pa_cons pe_int (pa_cons pe_int (pa_cons pe_int (pa_cons pe_int pa_nil))))) pa_nil)))
      (pss_cons (ps_if (pt_cmpR (op_neD hr.units) (pe_call (ok_after T) (hr.mono (by decide)) rfl T.m50 T.F50.kp T.b50 .nil pass0 (pa_cons (pv 3) (pa_cons pe_int (pa_cons (pe_tupZ (pa_cons (pe_tupZ (pa_cons pe_int (pa_cons pe_int (pa_cons pe_int (pa_cons pe_int pa_nil))))) (pa_cons (pe_tupZ (pa_cons pe_int pa_nil)) pa_nil))) (pa_cons (pe_tupZ (pa_cons pe_int pa_nil)) pa_nil))))) (pe_lst (pa_cons (pe_tupZ (pa_cons (pe_tupZ (pa_cons pe_int (pa_cons pe_int (pa_cons pe_int pa_nil)))) (pa_cons (pe_tupZ pa_nil) pa_nil))) (pa_cons (pe_tupZ (pa_cons (pe_tupZ (pa_cons pe_int (pa_cons pe_int (pa_cons pe_int pa_nil)))) (pa_cons (pe_tupZ (pa_cons pe_int pa_nil)) pa_nil))) pa_nil))) (nomark _)) (pss_one (ps_ret pe_bl)) pss_nil)
      (pss_one (ps_ret (pe_cmpR (op_eqD hr.units) (pe_call (ok_after T) (hr.mono (by decide)) rfl T.m50 T.F50.kp T.b50 .nil pass0 (pa_cons (pv 3) (pa_cons pe_int (pa_cons (pe_tupZ (pa_cons (pe_tupZ (pa_cons pe_int (pa_cons pe_int (pa_cons pe_int (pa_cons pe_int pa_nil))))) (pa_cons (pe_tupZ (pa_cons pe_int (pa_cons pe_int pa_nil))) pa_nil))) (pa_cons (pe_tupZ (pa_cons pe_int pa_nil)) pa_nil))))) (pe_lst (pa_cons (pe_tupZ (pa_cons (pe_tupZ (pa_cons pe_int (pa_cons pe_int (pa_cons pe_int pa_nil)))) (pa_cons (pe_tupZ pa_nil) pa_nil))) (pa_cons (pe_tupZ (pa_cons (pe_tupZ (pa_cons pe_int (pa_cons pe_int (pa_cons pe_int pa_nil)))) (pa_cons (pe_tupZ (pa_cons pe_int pa_nil)) pa_nil))) pa_nil))) (nomark _)))))))))),
    body0 (N := N_u_law_works_right) (x := x_u_law_works_right) (dn_seq (dn_asg (den_tup (den_cons (den_tup (den_cons den_int (den_cons den_int (den_cons den_int den_nil)))) (den_cons (den_tup (den_cons den_int den_nil)) den_nil))))
      (dn_seq (dn_if (den_or (den_test (den_bin od_ne (den_ofL (den_comp (p := (.nm 2)) (vs := [2]) (SrcS.x (src_seq (den_tup (den_cons (den_tup (den_cons den_int den_nil)) (den_cons (den_tup (den_cons den_int den_nil)) (den_cons (den_tup (den_cons den_int den_nil)) (den_cons (den_tup (den_cons den_int (den_cons den_int den_nil))) (den_cons (den_tup (den_cons den_int (den_cons den_int (den_cons den_int den_nil)))) (den_cons (den_tup (den_cons den_int (den_cons den_int den_nil))) den_nil))))))))) den_yes (den_callP0 (den_cons (den_var (i := 0)) (den_cons den_int (den_cons (den_var (i := 1)) (den_cons (den_var (i := 2)) den_nil))))) rfl)) (den_ofL (den_lst (den_cons den_int (den_cons den_int (den_cons den_int (den_cons den_int (den_cons den_int (den_cons den_int den_nil)))))))))) (den_or (den_test (den_bin od_ne (den_callP0 (den_cons (den_var (i := 0)) (den_cons den_int (den_cons (den_tup (den_cons (den_tup (den_cons den_int (den_cons den_int (den_cons den_int den_nil)))) (den_cons (den_tup den_nil) den_nil))) (den_cons (den_tup (den_cons den_int den_nil)) den_nil))))) den_int)) (den_test (den_bin od_ne (den_callP0 (den_cons (den_var (i := 0)) (den_cons den_int (den_cons (den_tup (den_cons (den_tup (den_cons den_int (den_cons den_int (den_cons den_int den_nil)))) (den_cons (den_tup (den_cons den_int (den_cons den_int den_nil))) den_nil))) (den_cons (den_tup (den_cons den_int den_nil)) den_nil))))) den_int)))) (dn_ret den_bl) dn_next)
      (dn_seq (dn_if (den_or (den_test (den_bin od_ne (den_callP0 (den_cons (den_var (i := 0)) (den_cons den_int (den_cons (den_var (i := 1)) (den_cons (den_tup (den_cons den_int den_nil)) den_nil))))) (den_ofL (den_lst (den_cons (den_tup (den_cons (den_tup (den_cons den_int (den_cons den_int den_nil))) (den_cons (den_tup den_nil) den_nil))) (den_cons (den_tup (den_cons (den_tup (den_cons den_int (den_cons den_int den_nil))) (den_cons (den_tup (den_cons den_int den_nil)) den_nil))) den_nil)))))) (den_or (den_test (den_bin od_ne (den_callP0 (den_cons (den_var (i := 0)) (den_cons den_int (den_cons (den_tup (den_cons (den_tup (den_cons den_int (den_cons den_int den_nil))) (den_cons (den_tup den_nil) den_nil))) (den_cons (den_tup (den_cons den_int den_nil)) den_nil))))) (den_ofL (den_lst (den_cons (den_tup (den_cons (den_tup (den_cons den_int den_nil)) (den_cons (den_tup den_nil) den_nil))) den_nil))))) (den_test (den_bin od_ne (den_callP0 (den_cons (den_make0 (den_cons (den_tup (den_cons den_int (den_cons den_int den_nil))) den_nil)) (den_cons den_int den_nil))) (den_ofL (den_lst (den_cons (den_tup (den_cons (den_tup (den_cons den_int (den_cons den_int den_nil))) (den_cons (den_tup den_nil) den_nil))) (den_cons (den_tup (den_cons (den_tup (den_cons den_int (den_cons den_int den_nil))) (den_cons (den_tup (den_cons den_int den_nil)) den_nil))) (den_cons (den_tup (den_cons (den_tup (den_cons den_int (den_cons den_int den_nil))) (den_cons (den_tup den_nil) den_nil))) (den_cons (den_tup (den_cons (den_tup (den_cons den_int (den_cons den_int den_nil))) (den_cons (den_tup (den_cons den_int den_nil)) den_nil))) den_nil)))))))))) (dn_ret den_bl) dn_next)
      (dn_seq (dn_if (den_or (den_test (den_bin od_ne (den_callP0 (den_cons (den_var (i := 0)) (den_cons den_int (den_cons (den_tup (den_cons (den_tup (den_cons den_int (den_cons den_int (den_cons den_int den_nil)))) (den_cons (den_tup den_nil) den_nil))) (den_cons (den_tup (den_cons den_int den_nil)) den_nil))))) (den_ofL (den_lst (den_cons (den_tup (den_cons (den_tup (den_cons den_int (den_cons den_int den_nil))) (den_cons (den_tup den_nil) den_nil))) (den_cons (den_tup (den_cons (den_tup (den_cons den_int (den_cons den_int den_nil))) (den_cons (den_tup (den_cons den_int den_nil)) den_nil))) (den_cons (den_tup (den_cons (den_tup (den_cons den_int (den_cons den_int den_nil))) (den_cons (den_tup den_nil) den_nil))) (den_cons (den_tup (den_cons (den_tup (den_cons den_int (den_cons den_int den_nil))) (den_cons (den_tup (den_cons den_int den_nil)) den_nil))) den_nil)))))))) (den_or (den_test (den_bin od_ne (den_callP0 (den_cons (den_var (i := 0)) (den_cons den_int (den_cons (den_tup (den_cons (den_tup (den_cons den_int (den_cons den_int (den_cons den_int den_nil)))) (den_cons (den_tup (den_cons den_int den_nil)) den_nil))) (den_cons (den_tup (den_cons den_int den_nil)) den_nil))))) (den_ofL (den_lst (den_cons (den_tup (den_cons (den_tup (den_cons den_int (den_cons den_int den_nil))) (den_cons (den_tup den_nil) den_nil))) den_nil))))) (den_test (den_bin od_ne (den_callP0 (den_cons (den_var (i := 0)) (den_cons den_int (den_cons (den_var (i := 1)) (den_cons (den_tup (den_cons den_int (den_cons den_int (den_cons den_int den_nil)))) den_nil))))) (den_ofL (den_lst (den_cons (den_tup (den_cons (den_tup den_nil) (den_cons (den_tup den_nil) den_nil))) den_nil))))))) (dn_ret den_bl) dn_next)
      (dn_seq (dn_asg (den_make0 (den_cons (den_tup (den_cons den_int (den_cons den_int (den_cons den_int (den_cons den_int den_nil))))) den_nil)))
      (dn_seq (dn_if (den_test (den_bin od_ne (den_callP0 (den_cons (den_var (i := 3)) (den_cons den_int (den_cons (den_tup (den_cons (den_tup (den_cons den_int (den_cons den_int (den_cons den_int (den_cons den_int den_nil))))) (den_cons (den_tup (den_cons den_int den_nil)) den_nil))) (den_cons (den_tup (den_cons den_int den_nil)) den_nil))))) (den_ofL (den_lst (den_cons (den_tup (den_cons (den_tup (den_cons den_int (den_cons den_int (den_cons den_int den_nil)))) (den_cons (den_tup den_nil) den_nil))) (den_cons (den_tup (den_cons (den_tup (den_cons den_int (den_cons den_int (den_cons den_int den_nil)))) (den_cons (den_tup (den_cons den_int den_nil)) den_nil))) den_nil)))))) (dn_ret den_bl) dn_next)
      (dn_ret (den_bin od_eq (den_callP0 (den_cons (den_var (i := 3)) (den_cons den_int (den_cons (den_tup (den_cons (den_tup (den_cons den_int (den_cons den_int (den_cons den_int (den_cons den_int den_nil))))) (den_cons (den_tup (den_cons den_int (den_cons den_int den_nil))) den_nil))) (den_cons (den_tup (den_cons den_int den_nil)) den_nil))))) (den_ofL (den_lst (den_cons (den_tup (den_cons (den_tup (den_cons den_int (den_cons den_int (den_cons den_int den_nil)))) (den_cons (den_tup den_nil) den_nil))) (den_cons (den_tup (den_cons (den_tup (den_cons den_int (den_cons den_int (den_cons den_int den_nil)))) (den_cons (den_tup (den_cons den_int den_nil)) den_nil))) den_nil)))))))))))) h⟩
/-! _law_play_right -/
abbrev N_u_law_play_right : List Str := ["_law_three", "_law_late"]
theorem sc_u_law_play_right : FnScope N_u_law_play_right ["_law_three"] (defScope st_u_law_play_right) := ⟨rfl, rfl, rfl, by decide +kernel, rfl, by decide +kernel, by decide +kernel⟩
def x_u_law_play_right : Sf :=
  (sSeq (sAsg 1 (dTup (dCons (dTup (dCons (dC (.int 1)) (dCons (dC (.int 0)) dNil))) (dCons (dTup dNil) (dCons (dTup (dCons (dTup (dCons (dC (.int 1)) (dCons (dC (.int 0)) dNil))) dNil)) (dCons (dC (.int 1)) dNil))))))
  (sSeq (sIf (eOr (eBl (dBin fNe (dCall (pur m_wishes) 4 (dCons (dVar 0) (dCons (dC (.int 1)) (dCons (dC (.int 1)) (dCons (dVar 1) dNil))))) (dOfL (dLst (dCons (dC (.int 0)) (dCons (dC .non) dNil)))))) (eOr (eBl (dBin fNe (dCall (pur m_answers) 5 (dCons (dVar 0) (dCons (dC (.int 1)) (dCons (dC (.int 1)) (dCons (dVar 1) (dCons (dC (.int 0)) dNil)))))) (dOfL (dLst (dCons (dTup (dCons (dC (.int 0)) (dCons (dTup (dCons (dTup dNil) (dCons (dTup dNil) (dCons (dTup dNil) (dCons (dC (.int 0)) dNil))))) dNil))) dNil))))) (eOr (eBl (dBin fNe (dCall (pur m_answers) 5 (dCons (dVar 0) (dCons (dC (.int 1)) (dCons (dC (.int 1)) (dCons (dVar 1) (dCons (dC .non) dNil)))))) (dOfL (dLst (dCons (dTup (dCons (dC (.int 2)) (dCons (dTup (dCons (dTup (dCons (dC (.int 0)) dNil)) (dCons (dTup dNil) (dCons (dTup dNil) (dCons (dC (.int 0)) dNil))))) dNil))) dNil))))) (eBl (dBin fNe (dCall (pur m_wishes) 4 (dCons (dVar 0) (dCons (dC (.int 0)) (dCons (dC (.int 0)) (dCons (dTup (dCons (dTup (dCons (dC (.int 1)) dNil)) (dCons (dTup dNil) (dCons (dTup dNil) (dCons (dC (.int 0)) dNil))))) dNil))))) (dOfL (dLst dNil))))))) (sRet (dC (.bl false))) sNext)
  (sSeq (sIf (eOr (eBl (dBin fNe (dCall (pur m_answers) 5 (dCons (dVar 0) (dCons (dC (.int 1)) (dCons (dC (.int 1)) (dCons (dTup (dCons (dTup (dCons (dC (.int 1)) (dCons (dC (.int 0)) dNil))) (dCons (dTup (dCons (dC (.int 1)) dNil)) (dCons (dTup dNil) (dCons (dC (.int 2)) dNil))))) (dCons (dC (.int 0)) dNil)))))) (dOfL (dLst (dCons (dTup (dCons (dC (.int 0)) (dCons (dTup (dCons (dTup (dCons (dC (.int 1)) (dCons (dC (.int 0)) dNil))) (dCons (dTup (dCons (dC (.int 1)) dNil)) (dCons (dTup (dCons (dTup (dCons (dC (.int 0)) (dCons (dC (.int 0)) dNil))) dNil)) (dCons (dC (.int 1)) dNil))))) dNil))) (dCons (dTup (dCons (dC (.int 0)) (dCons (dTup (dCons (dTup (dCons (dC (.int 1)) dNil)) (dCons (dTup dNil) (dCons (dTup dNil) (dCons (dC (.int 1)) dNil))))) dNil))) dNil)))))) (eBl (dBin fNe (dCall (pur m_answers) 5 (dCons (dVar 0) (dCons (dC (.int 1)) (dCons (dC (.int 0)) (dCons (dTup (dCons (dTup (dCons (dC (.int 1)) (dCons (dC (.int 0)) dNil))) (dCons (dTup (dCons (dC (.int 1)) dNil)) (dCons (dTup dNil) (dCons (dC (.int 2)) dNil))))) (dCons (dC (.int 0)) dNil)))))) (dOfL (dLst (dCons (dTup (dCons (dC (.int 0)) (dCons (dTup (dCons (dTup (dCons (dC (.int 1)) dNil)) (dCons (dTup dNil) (dCons (dTup dNil) (dCons (dC (.int 1)) dNil))))) dNil))) dNil)))))) (sRet (dC (.bl false))) sNext)
  (sSeq (sIf (eOr (eBl (dBin fNe (dCall (pur m_answers) 5 (dCons (dVar 0) (dCons (dC (.int 1)) (dCons (dC (.int 2)) (dCons (dTup (dCons (dTup (dCons (dC (.int 1)) (dCons (dC (.int 0)) dNil))) (dCons (dTup dNil) (dCons (dTup dNil) (dCons (dC (.int 3)) dNil))))) (dCons (dC .non) dNil)))))) (dOfL (dLst (dCons (dTup (dCons (dC (.int 0)) (dCons (dTup (dCons (dTup (dCons (dC (.int 1)) (dCons (dC (.int 0)) dNil))) (dCons (dTup dNil) (dCons (dTup dNil) (dCons (dC (.int 2)) dNil))))) dNil))) dNil))))) (eOr (eBl (dBin fNe (dCall (pur m_wishes) 4 (dCons (dVar 0) (dCons (dC (.int 1)) (dCons (dC (.int 2)) (dCons (dTup (dCons (dTup dNil) (dCons (dTup dNil) (dCons (dTup dNil) (dCons (dC (.int 3)) dNil))))) dNil))))) (dOfL (dLst (dCons (dC .non) dNil))))) (eBl (dBin fNe (dCall (pur m_answers) 5 (dCons (dVar 0) (dCons (dC (.int 1)) (dCons (dC (.int 2)) (dCons (dTup (dCons (dTup (dCons (dC (.int 0)) (dCons (dC (.int 1)) dNil))) (dCons (dTup dNil) (dCons (dTup (dCons (dTup (dCons (dC (.int 1)) (dCons (dC (.int 1)) dNil))) dNil)) (dCons (dC (.int 0)) dNil))))) (dCons (dC .non) dNil)))))) (dOfL (dLst (dCons (dTup (dCons (dC (.int 2)) (dCons (dTup (dCons (dTup (dCons (dC (.int 0)) dNil)) (dCons (dTup dNil) (dCons (dTup dNil) (dCons (dC (.int 0)) dNil))))) dNil))) dNil))))))) (sRet (dC (.bl false))) sNext)
  (sRet (dBin fEq (dCall (pur m_answers) 5 (dCons (dVar 0) (dCons (dC (.int 1)) (dCons (dC (.int 2)) (dCons (dTup (dCons (dTup (dCons (dC (.int 0)) (dCons (dC (.int 1)) dNil))) (dCons (dTup dNil) (dCons (dTup (dCons (dTup (dCons (dC (.int 1)) (dCons (dC (.int 1)) dNil))) dNil)) (dCons (dC (.int 2)) dNil))))) (dCons (dC (.int 0)) dNil)))))) (dOfL (dLst (dCons (dTup (dCons (dC (.int 0)) (dCons (dTup (dCons (dTup (dCons (dC (.int 0)) (dCons (dC (.int 1)) dNil))) (dCons (dTup dNil) (dCons (dTup (dCons (dTup (dCons (dC (.int 0)) (dCons (dC (.int 1)) dNil))) (dCons (dTup (dCons (dC (.int 1)) (dCons (dC (.int 0)) dNil))) dNil))) (dCons (dC (.int 1)) dNil))))) dNil))) (dCons (dTup (dCons (dC (.int 0)) (dCons (dTup (dCons (dTup dNil) (dCons (dTup dNil) (dCons (dTup dNil) (dCons (dC (.int 1)) dNil))))) dNil))) dNil))))))))))
def m_u_law_play_right : Mf := fnD N_u_law_play_right.length x_u_law_play_right
theorem ok_u_law_play_right (T : Tx c mg a d) : FnOk P w c.K mg base CX0 10 (a 84) (d 84) ["_law_three"] (sp0 c m_u_law_play_right 1) := by
  refine T.F84.ok sc_u_law_play_right (fun vs H Q E h => h.1) (fun cdv A outer s H vs Q E hr h => ?_)
  exact ⟨_, (pss_cons (ps_set (i := 1) sc_u_law_play_right.nd rfl (by first | exact Or.inl rfl | exact Or.inr rfl) (pe_tupZ (pa_cons (pe_tupZ (pa_cons pe_int (pa_cons pe_int pa_nil))) (pa_cons (pe_tupZ pa_nil) (pa_cons (pe_tupZ (pa_cons (pe_tupZ (pa_cons pe_int (pa_cons pe_int pa_nil))) pa_nil)) (pa_cons pe_int pa_nil))))))
      (pss_cons (ps_if (PW.pt (pw_or (pt_cmpR (op_neD hr.units) (pe_call (ok_wishes T) (hr.mono (by decide)) rfl T.m67 T.F67.kp T.b67 .nil pass0 (pa_cons (pv 0) (pa_cons pe_int (pa_cons pe_int (pa_cons (pv 1) pa_nil))))) (pe_lst (pa_cons pe_int (pa_cons pe_non pa_nil))) (nomark _)) (pw_or (pt_cmpR (op_neD hr.units) (pe_call (ok_answers T) (hr.mono (by decide)) rfl T.m68 T.F68.kp T.b68 .nil pass0 (pa_cons (pv 0) (pa_cons pe_int (pa_cons pe_int (pa_cons (pv 1) (pa_cons pe_int pa_nil)))))) (pe_lst (pa_cons (pe_tupZ (pa_cons pe_int (pa_cons (pe_tupZ (pa_cons (pe_tupZ pa_nil) (pa_cons (pe_tupZ pa_nil) (pa_cons (pe_tupZ pa_nil) (pa_cons pe_int pa_nil))))) pa_nil))) pa_nil)) (nomark _)) (pw_or (pt_cmpR (op_neD hr.units) (pe_call (ok_answers T) (hr.mono (by decide)) rfl T.m68 T.F68.kp T.b68 .nil pass0 (pa_cons (pv 0) (pa_cons pe_int (pa_cons pe_int (pa_cons (pv 1) (pa_cons pe_non pa_nil)))))) (pe_lst (pa_cons (pe_tupZ (pa_cons pe_int (pa_cons (pe_tupZ (pa_cons (pe_tupZ (pa_cons pe_int pa_nil)) (pa_cons (pe_tupZ pa_nil) (pa_cons (pe_tupZ pa_nil) (pa_cons pe_int pa_nil))))) pa_nil))) pa_nil)) (nomark _)) (pw_or1 (pt_cmpR (op_neD hr.units) (pe_call (ok_wishes T) (hr.mono (by decide)) rfl T.m67 T.F67.kp T.b67 .nil pass0 (pa_cons (pv 0) (pa_cons pe_int (pa_cons pe_int (pa_cons (pe_tupZ (pa_cons (pe_tupZ (pa_cons pe_int pa_nil)) (pa_cons (pe_tupZ pa_nil) (pa_cons (pe_tupZ pa_nil) (pa_cons pe_int pa_nil))))) pa_nil))))) (pe_lst pa_nil) (nomark _))))))) (pss_one (ps_ret pe_bl)) pss_nil)
      (pss_cons (ps_if (PW.pt (pw_or (pt_cmpR (op_neD hr.units) (pe_call (ok_answers T) (hr.mono (by decide)) rfl T.m68 T.F68.kp T.b68 .nil pass0 (pa_cons (pv 0) (pa_cons pe_int (pa_cons pe_int (pa_cons (pe_tupZ (pa_cons (pe_tupZ (pa_cons pe_int (pa_cons pe_int pa_nil))) (pa_cons (pe_tupZ (pa_cons pe_int pa_nil)) (pa_cons (pe_tupZ pa_nil) (pa_cons pe_int pa_nil))))) (pa_cons pe_int pa_nil)))))) (pe_lst (pa_cons (pe_tupZ (pa_cons pe_int (pa_cons (pe_tupZ (pa_cons (pe_tupZ (pa_cons pe_int (pa_cons pe_int pa_nil))) (pa_cons (pe_tupZ (pa_cons pe_int pa_nil)) (pa_cons (pe_tupZ (pa_cons (pe_tupZ (pa_cons pe_int (pa_cons pe_int pa_nil))) pa_nil)) (pa_cons pe_int pa_nil))))) pa_nil))) (pa_cons (pe_tupZ (pa_cons pe_int (pa_cons (pe_tupZ (pa_cons (pe_tupZ (pa_cons pe_int pa_nil)) (pa_cons (pe_tupZ pa_nil) (pa_cons (pe_tupZ pa_nil) (pa_cons pe_int pa_nil))))) pa_nil))) pa_nil))) (nomark _)) (pw_or1 (pt_cmpR (op_neD hr.units) (pe_call (ok_answers T) (hr.mono (by decide)) rfl T.m68 T.F68.kp T.b68 .nil pass0 (pa_cons (pv 0) (pa_cons pe_int (pa_cons pe_int (pa_cons (pe_tupZ (pa_cons (pe_tupZ (pa_cons pe_int (pa_cons pe_int pa_nil))) (pa_cons (pe_tupZ (pa_cons pe_int pa_nil)) (pa_cons (pe_tupZ pa_nil) (pa_cons pe_int pa_nil))))) (pa_cons pe_int pa_nil)))))) (pe_lst (pa_cons (pe_tupZ (pa_cons pe_int (pa_cons (pe_tupZ (pa_cons (pe_tupZ (pa_cons pe_int pa_nil)) (pa_cons (pe_tupZ pa_nil) (pa_cons (pe_tupZ pa_nil) (pa_cons pe_int pa_nil))))) pa_nil))) pa_nil)) (nomark _))))) (pss_one (ps_ret pe_bl)) pss_nil)
      (pss_cons (ps_if (PW.pt (pw_or (pt_cmpR (op_neD hr.units) (pe_call (ok_answers T) (hr.mono (by decide)) rfl T.m68 T.F68.kp T.b68 .nil pass0 (pa_cons (pv 0) (pa_cons pe_int (pa_cons pe_int (pa_cons (pe_tupZ (pa_cons (pe_tupZ (pa_cons pe_int (pa_cons pe_int pa_nil))) (pa_cons (pe_tupZ pa_nil) (pa_cons (pe_tupZ pa_nil) (pa_cons pe_int pa_nil))))) (pa_cons pe_non pa_nil)))))) (pe_lst (pa_cons (pe_tupZ (pa_cons pe_int (pa_cons (pe_tupZ (pa_cons (pe_tupZ (pa_cons pe_int (pa_cons pe_int pa_nil))) (pa_cons (pe_tupZ pa_nil) (pa_cons (pe_tupZ pa_nil) (pa_cons pe_int pa_nil))))) pa_nil))) pa_nil)) (nomark _)) (pw_or (pt_cmpR (op_neD hr.units) (pe_call (ok_wishes T) (hr.mono (by decide)) rfl T.m67 T.F67.kp T.b67 .nil pass0 (pa_cons (pv 0) (pa_cons pe_int (pa_cons pe_int (pa_cons (pe_tupZ (pa_cons (pe_tupZ pa_nil) (pa_cons (pe_tupZ pa_nil) (pa_cons (pe_tupZ pa_nil) (pa_cons pe_int pa_nil))))) pa_nil))))) (pe_lst (pa_cons pe_non pa_nil)) (nomark _)) (pw_or1 (pt_cmpR (op_neD hr.units) (pe_call (ok_answers T) (hr.mono (by decide)) rfl T.m68 T.F68.kp T.b68 .nil pass0 (pa_cons (pv 0) (pa_cons pe_int (pa_cons pe_int (pa_cons (pe_tupZ (pa_cons (pe_tupZ (pa_cons pe_int (pa_cons pe_int pa_nil))) (pa_cons (pe_tupZ pa_nil) (pa_cons (pe_tupZ (pa_cons (pe_tupZ (pa_cons pe_int (pa_cons pe_int pa_nil))) pa_nil)) (pa_cons pe_int pa_nil))))) (pa_cons pe_non pa_nil)))))) (pe_lst (pa_cons (pe_tupZ (pa_cons pe_int (pa_cons (pe_tupZ (pa_cons (pe_tupZ (pa_cons pe_int pa_nil)) (pa_cons (pe_tupZ pa_nil) (pa_cons (pe_tupZ pa_nil) (pa_cons pe_int pa_nil))))) pa_nil))) pa_nil)) (nomark _)))))) (pss_one (ps_ret pe_bl)) pss_nil)
      (pss_one (ps_ret (pe_cmpR (op_eqD hr.units) (pe_call (ok_answers T) (hr.mono (by decide)) rfl T.m68 T.F68.kp T.b68 .nil pass0 (pa_cons (pv 0) (pa_cons pe_int (pa_cons pe_int (pa_cons (pe_tupZ (pa_cons (pe_tupZ (pa_cons pe_int (pa_cons pe_int pa_nil))) (pa_cons (pe_tupZ pa_nil) (pa_cons (pe_tupZ (pa_cons (pe_tupZ (pa_cons pe_int (pa_cons pe_int pa_nil))) pa_nil)) (pa_cons pe_int pa_nil))))) (pa_cons pe_int pa_nil)))))) (pe_lst (pa_cons (pe_tupZ (pa_cons pe_int (pa_cons (pe_tupZ (pa_cons (pe_tupZ (pa_cons pe_int (pa_cons pe_int pa_nil))) (pa_cons (pe_tupZ pa_nil) (pa_cons (pe_tupZ (pa_cons (pe_tupZ (pa_cons pe_int (pa_cons pe_int pa_nil))) (pa_cons (pe_tupZ (pa_cons pe_int (pa_cons pe_int pa_nil))) pa_nil))) (pa_cons pe_int pa_nil))))) pa_nil))) (pa_cons (pe_tupZ (pa_cons pe_int (pa_cons (pe_tupZ (pa_cons (pe_tupZ pa_nil) (pa_cons (pe_tupZ pa_nil) (pa_cons (pe_tupZ pa_nil) (pa_cons pe_int pa_nil))))) pa_nil))) pa_nil))) (nomark _)))))))),
    body0 (N := N_u_law_play_right) (x := x_u_law_play_right) (dn_seq (dn_asg (den_tup (den_cons (den_tup (den_cons den_int (den_cons den_int den_nil))) (den_cons (den_tup den_nil) (den_cons (den_tup (den_cons (den_tup (den_cons den_int (den_cons den_int den_nil))) den_nil)) (den_cons den_int den_nil))))))
      (dn_seq (dn_if (den_or (den_test (den_bin od_ne (den_callP0 (den_cons (den_var (i := 0)) (den_cons den_int (den_cons den_int (den_cons (den_var (i := 1)) den_nil))))) (den_ofL (den_lst (den_cons den_int (den_cons den_non den_nil)))))) (den_or (den_test (den_bin od_ne (den_callP0 (den_cons (den_var (i := 0)) (den_cons den_int (den_cons den_int (den_cons (den_var (i := 1)) (den_cons den_int den_nil)))))) (den_ofL (den_lst (den_cons (den_tup (den_cons den_int (den_cons (den_tup (den_cons (den_tup den_nil) (den_cons (den_tup den_nil) (den_cons (den_tup den_nil) (den_cons den_int den_nil))))) den_nil))) den_nil))))) (den_or (den_test (den_bin od_ne (den_callP0 (den_cons (den_var (i := 0)) (den_cons den_int (den_cons den_int (den_cons (den_var (i := 1)) (den_cons den_non den_nil)))))) (den_ofL (den_lst (den_cons (den_tup (den_cons den_int (den_cons (den_tup (den_cons (den_tup (den_cons den_int den_nil)) (den_cons (den_tup den_nil) (den_cons (den_tup den_nil) (den_cons den_int den_nil))))) den_nil))) den_nil))))) (den_test (den_bin od_ne (den_callP0 (den_cons (den_var (i := 0)) (den_cons den_int (den_cons den_int (den_cons (den_tup (den_cons (den_tup (den_cons den_int den_nil)) (den_cons (den_tup den_nil) (den_cons (den_tup den_nil) (den_cons den_int den_nil))))) den_nil))))) (den_ofL (den_lst den_nil))))))) (dn_ret den_bl) dn_next)
      (dn_seq (dn_if (den_or (den_test (den_bin od_ne (den_callP0 (den_cons (den_var (i := 0)) (den_cons den_int (den_cons den_int (den_cons (den_tup (den_cons (den_tup (den_cons den_int (den_cons den_int den_nil))) (den_cons (den_tup (den_cons den_int den_nil)) (den_cons (den_tup den_nil) (den_cons den_int den_nil))))) (den_cons den_int den_nil)))))) (den_ofL (den_lst (den_cons (den_tup (den_cons den_int (den_cons (den_tup (den_cons (den_tup (den_cons den_int (den_cons den_int den_nil))) (den_cons (den_tup (den_cons den_int den_nil)) (den_cons (den_tup (den_cons (den_tup (den_cons den_int (den_cons den_int den_nil))) den_nil)) (den_cons den_int den_nil))))) den_nil))) (den_cons (den_tup (den_cons den_int (den_cons (den_tup (den_cons (den_tup (den_cons den_int den_nil)) (den_cons (den_tup den_nil) (den_cons (den_tup den_nil) (den_cons den_int den_nil))))) den_nil))) den_nil)))))) (den_test (den_bin od_ne (den_callP0 (den_cons (den_var (i := 0)) (den_cons den_int (den_cons den_int (den_cons (den_tup (den_cons (den_tup (den_cons den_int (den_cons den_int den_nil))) (den_cons (den_tup (den_cons den_int den_nil)) (den_cons (den_tup den_nil) (den_cons den_int den_nil))))) (den_cons den_int den_nil)))))) (den_ofL (den_lst (den_cons (den_tup (den_cons den_int (den_cons (den_tup (den_cons (den_tup (den_cons den_int den_nil)) (den_cons (den_tup den_nil) (den_cons (den_tup den_nil) (den_cons den_int den_nil))))) den_nil))) den_nil)))))) (dn_ret den_bl) dn_next)
      (dn_seq (dn_if (den_or (den_test (den_bin od_ne (den_callP0 (den_cons (den_var (i := 0)) (den_cons den_int (den_cons den_int (den_cons (den_tup (den_cons (den_tup (den_cons den_int (den_cons den_int den_nil))) (den_cons (den_tup den_nil) (den_cons (den_tup den_nil) (den_cons den_int den_nil))))) (den_cons den_non den_nil)))))) (den_ofL (den_lst (den_cons (den_tup (den_cons den_int (den_cons (den_tup (den_cons (den_tup (den_cons den_int (den_cons den_int den_nil))) (den_cons (den_tup den_nil) (den_cons (den_tup den_nil) (den_cons den_int den_nil))))) den_nil))) den_nil))))) (den_or (den_test (den_bin od_ne (den_callP0 (den_cons (den_var (i := 0)) (den_cons den_int (den_cons den_int (den_cons (den_tup (den_cons (den_tup den_nil) (den_cons (den_tup den_nil) (den_cons (den_tup den_nil) (den_cons den_int den_nil))))) den_nil))))) (den_ofL (den_lst (den_cons den_non den_nil))))) (den_test (den_bin od_ne (den_callP0 (den_cons (den_var (i := 0)) (den_cons den_int (den_cons den_int (den_cons (den_tup (den_cons (den_tup (den_cons den_int (den_cons den_int den_nil))) (den_cons (den_tup den_nil) (den_cons (den_tup (den_cons (den_tup (den_cons den_int (den_cons den_int den_nil))) den_nil)) (den_cons den_int den_nil))))) (den_cons den_non den_nil)))))) (den_ofL (den_lst (den_cons (den_tup (den_cons den_int (den_cons (den_tup (den_cons (den_tup (den_cons den_int den_nil)) (den_cons (den_tup den_nil) (den_cons (den_tup den_nil) (den_cons den_int den_nil))))) den_nil))) den_nil))))))) (dn_ret den_bl) dn_next)
      (dn_ret (den_bin od_eq (den_callP0 (den_cons (den_var (i := 0)) (den_cons den_int (den_cons den_int (den_cons (den_tup (den_cons (den_tup (den_cons den_int (den_cons den_int den_nil))) (den_cons (den_tup den_nil) (den_cons (den_tup (den_cons (den_tup (den_cons den_int (den_cons den_int den_nil))) den_nil)) (den_cons den_int den_nil))))) (den_cons den_int den_nil)))))) (den_ofL (den_lst (den_cons (den_tup (den_cons den_int (den_cons (den_tup (den_cons (den_tup (den_cons den_int (den_cons den_int den_nil))) (den_cons (den_tup den_nil) (den_cons (den_tup (den_cons (den_tup (den_cons den_int (den_cons den_int den_nil))) (den_cons (den_tup (den_cons den_int (den_cons den_int den_nil))) den_nil))) (den_cons den_int den_nil))))) den_nil))) (den_cons (den_tup (den_cons den_int (den_cons (den_tup (den_cons (den_tup den_nil) (den_cons (den_tup den_nil) (den_cons (den_tup den_nil) (den_cons den_int den_nil))))) den_nil))) den_nil)))))))))) h⟩
/-! _law_totals_right -/
abbrev N_u_law_totals_right : List Str := ["_law_three", "_law_pair", "_law_start", "_law_end", "_law_heights", "_law_delay", "_law_room", "_law_given", "_law_more", "_law_copied"]
theorem sc_u_law_totals_right : FnScope N_u_law_totals_right ["_law_three"] (defScope st_u_law_totals_right) := ⟨rfl, rfl, rfl, by decide +kernel, rfl, by decide +kernel, by decide +kernel⟩
def x_u_law_totals_right : Sf :=
  (sSeq (sAsg 1 (dMake 0 mi_Archive 2 (dCons (dTup (dCons (dC (.int 2)) (dCons (dC (.int 1)) dNil))) dNil)))
  (sSeq (sAsgP (.tup (.cons (.nm 2) (.cons (.nm 3) .nil))) (dTup (dCons (dTup (dCons (dTup (dCons (dC (.int 0)) (dCons (dC (.int 1)) dNil))) (dCons (dTup dNil) (dCons (dTup dNil) (dCons (dC (.int 1)) dNil))))) (dCons (dTup (dCons (dTup (dCons (dC (.int 0)) dNil)) (dCons (dTup dNil) (dCons (dTup dNil) (dCons (dC (.int 0)) dNil))))) dNil))))
  (sSeq (sAsg 4 (dDisp [((dVar 2), (dC (.int 2))), ((dVar 3), (dC (.int 0))), ((dTup (dCons (dTup (dCons (dC (.int 1)) dNil)) (dCons (dTup dNil) (dCons (dTup dNil) (dCons (dC (.int 0)) dNil))))), (dC (.int 0))), ((dTup (dCons (dTup (dCons (dC (.int 0)) (dCons (dC (.int 1)) dNil))) (dCons (dTup dNil) (dCons (dTup dNil) (dCons (dC (.int 0)) dNil))))), (dC (.int 0)))]))
  (sSeq (sIf (eOr (eNot (eBl (dMeth 2 m_Total_shows 5 (dMake 2 mi_Total 4 (dCons (dC (.int 2)) (dCons (dVar 4) (dCons (dDOne (dVar 2) (dC (.int 2))) dNil)))) (dCons (dVar 1) (dCons (dC (.int 0)) (dCons (dC (.int 0)) (dCons (dVar 2) dNil))))))) (eOr (eBl (dMeth 2 m_Total_shows 5 (dMake 2 mi_Total 4 (dCons (dC (.int 2)) (dCons (dDisp [((dVar 2), (dC (.int 2))), ((dVar 3), (dC (.int 0)))]) (dCons (dDOne (dVar 2) (dC (.int 2))) dNil)))) (dCons (dVar 1) (dCons (dC (.int 0)) (dCons (dC (.int 0)) (dCons (dVar 2) dNil)))))) (eBl (dMeth 2 m_Total_shows 5 (dMake 2 mi_Total 4 (dCons (dC (.int 1)) (dCons (dDisp [((dVar 2), (dC (.int 1))), ((dVar 3), (dC (.int 0)))]) (dCons dDEmp dNil)))) (dCons (dVar 1) (dCons (dC (.int 0)) (dCons (dC (.int 0)) (dCons (dVar 2) dNil)))))))) (sRet (dC (.bl false))) sNext)
  (sSeq (sIf (eOr (eBl (dMeth 2 m_Total_shows 5 (dMake 2 mi_Total 4 (dCons (dC (.int 3)) (dCons (dVar 4) (dCons (dDOne (dVar 2) (dC (.int 3))) dNil)))) (dCons (dVar 1) (dCons (dC (.int 0)) (dCons (dC (.int 0)) (dCons (dVar 2) dNil)))))) (eOr (eBl (dMeth 2 m_Total_shows 5 (dMake 2 mi_Total 4 (dCons (dC (.int 2)) (dCons (dVar 4) (dCons dDEmp dNil)))) (dCons (dVar 1) (dCons (dC (.int 0)) (dCons (dC (.int 0)) (dCons (dVar 2) dNil)))))) (eOr (eNot (eBl (dMeth 2 m_Total_shows 5 (dMake 2 mi_Total 4 (dCons (dC (.int 2)) (dCons (dVar 4) (dCons (dDisp [((dVar 2), (dC (.int 2))), ((dVar 3), (dUn fNeg (dC (.int 4))))]) dNil)))) (dCons (dVar 1) (dCons (dC (.int 0)) (dCons (dC (.int 0)) (dCons (dVar 2) dNil))))))) (eBl (dMeth 2 m_Total_shows 5 (dMake 2 mi_Total 4 (dCons (dC (.int 2)) (dCons (dVar 4) (dCons (dDisp [((dVar 2), (dC (.int 2))), ((dVar 3), (dC (.int 1)))]) dNil)))) (dCons (dVar 1) (dCons (dC (.int 0)) (dCons (dC (.int 0)) (dCons (dVar 2) dNil))))))))) (sRet (dC (.bl false))) sNext)
  (sSeq (sIf (eOr (eBl (dBin fNe (dOfL (dComp (wSeq (dTup (dCons (dC (.int 0)) (dCons (dC (.int 1)) (dCons (dC (.int 2)) dNil))))) (.nm 5) eYes (dCall (purD m_least_work) 4 (dCons (dVar 0) (dCons (dC (.int 1)) (dCons (dVar 5) (dCons (dCall (pur m_begin) 5 (dCons (dVar 0) (dCons (dC (.int 1)) (dCons (dVar 5) (dCons (dTup (dCons (dTup (dCons (dC (.int 0)) (dCons (dC (.int 1)) (dCons (dC (.int 2)) dNil)))) (dCons (dTup (dCons (dC (.int 1)) dNil)) dNil))) (dCons (dC (.int 3)) dNil)))))) dNil))))) [5])) (dOfL (dLst (dCons (dC (.int 6)) (dCons (dC (.int 6)) (dCons (dC (.int 4)) dNil))))))) (eOr (eBl (dBin fNe (dCall (purD m_least_work) 4 (dCons (dVar 0) (dCons (dC (.int 1)) (dCons (dC (.int 1)) (dCons (dTup (dCons (dTup (dCons (dC (.int 0)) (dCons (dC (.int 1)) (dCons (dC (.int 2)) dNil)))) (dCons (dTup (dCons (dC (.int 1)) dNil)) (dCons (dTup dNil) (dCons (dC (.int 0)) dNil))))) dNil))))) (dC (.int 0)))) (eBl (dBin fNe (dCall (purD m_least_work) 4 (dCons (dVar 0) (dCons (dC (.int 0)) (dCons (dC (.int 1)) (dCons (dTup (dCons (dTup (dCons (dC (.int 0)) (dCons (dC (.int 1)) (dCons (dC (.int 2)) dNil)))) (dCons (dTup dNil) (dCons (dTup (dCons (dTup (dCons (dC (.int 1)) (dCons (dC (.int 0)) dNil))) dNil)) (dCons (dC (.int 0)) dNil))))) dNil))))) (dC (.int 5)))))) (sRet (dC (.bl false))) sNext)
  (sSeq (sIf (eOr (eBl (dBin fNe (dOfL (dComp (wSeq (dTup (dCons (dC (.int 0)) (dCons (dC (.int 1)) dNil)))) (.nm 6) eYes (dCall (purD m_least_work) 4 (dCons (dVar 1) (dCons (dVar 6) (dCons (dC (.int 0)) (dCons (dTup (dCons (dTup (dCons (dC (.int 0)) (dCons (dC (.int 1)) dNil))) (dCons (dIf (eBl (dBin fEq (dVar 6) (dC (.int 1)))) (dTup (dCons (dC (.int 1)) dNil)) (dTup dNil)) (dCons (dTup dNil) (dCons (dC (.int 1)) dNil))))) dNil))))) [6])) (dOfL (dLst (dCons (dC (.int 2)) (dCons (dC (.int 1)) dNil)))))) (eBl (dBin fNe (dCall (purD m_least_work) 4 (dCons (dVar 1) (dCons (dC (.int 0)) (dCons (dC (.int 0)) (dCons (dTup (dCons (dTup (dCons (dC (.int 1)) (dCons (dC (.int 0)) dNil))) (dCons (dTup dNil) (dCons (dTup dNil) (dCons (dC (.int 4)) dNil))))) dNil))))) (dC (.int 2))))) (sRet (dC (.bl false))) sNext)
  (sSeq (sPar 7 8 (dDictCC (dVar 4)) (dDispC [((dVar 2), (dC (.int 2)))]))
  (sSeq (sAsg 9 (dMake 2 mi_Total 4 (dCons (dC (.int 2)) (dCons (dVar 7) (dCons (dVar 8) dNil)))))
  (sSeq (sDrop (dClear (dVar 7)))
  (sSeq (sDrop (dClear (dVar 8)))
  (sRet (dAnd (dBin fEq (dLenD (dFld 2 1 (dVar 9))) (dC (.int 4))) (dAnd (dBin fEq (dLenD (dFld 2 2 (dVar 9))) (dC (.int 1))) (dAnd (dEqO false 2 m_Total___eq (dVar 9) (dMake 2 mi_Total 4 (dCons (dC (.int 2)) (dCons (dVar 4) (dCons (dDOne (dVar 2) (dC (.int 2))) dNil))))) (dBin fEq (dFld 2 0 (dCall (purD m_total) 4 (dCons (dVar 1) (dCons (dC (.int 0)) (dCons (dC (.int 0)) (dCons (dVar 2) dNil)))))) (dC (.int 2))))))))))))))))))
def m_u_law_totals_right : Mf := fnD N_u_law_totals_right.length x_u_law_totals_right
theorem ok_u_law_totals_right (T : Tx c mg a d) : FnOk P w c.K mg base CX0 22 (a 85) (d 85) ["_law_three"] (sp0 c m_u_law_totals_right 1) := by
  refine T.F85.ok sc_u_law_totals_right (fun vs H Q E h => h.1) (fun cdv A outer s H vs Q E hr h => ?_)
  exact ⟨_, (pss_cons (ps_set (i := 1) sc_u_law_totals_right.nd rfl (by first | exact Or.inl rfl | exact Or.inr rfl) (pe_make T.M0 (ok_Archive___init T) (hr.mono (by decide)) rfl T.mc0 T.b3300 .nil pass0 (pa_cons (pe_tupZ (pa_cons pe_int (pa_cons pe_int pa_nil))) pa_nil)))
      (pss_cons (ps_asg (pe_tupZ (pa_cons (pe_tupZ (pa_cons (pe_tupZ (pa_cons pe_int (pa_cons pe_int pa_nil))) (pa_cons (pe_tupZ pa_nil) (pa_cons (pe_tupZ pa_nil) (pa_cons pe_int pa_nil))))) (pa_cons (pe_tupZ (pa_cons (pe_tupZ (pa_cons pe_int pa_nil)) (pa_cons (pe_tupZ pa_nil) (pa_cons (pe_tupZ pa_nil) (pa_cons pe_int pa_nil))))) pa_nil))) (pg_tup rfl (pgs_cons (pg_name (i := 2) sc_u_law_totals_right.nd rfl (by first | exact Or.inl rfl | exact Or.inr rfl)) (pgs_cons (pg_name (i := 3) sc_u_law_totals_right.nd rfl (by first | exact Or.inl rfl | exact Or.inr rfl)) pgs_nil))))
      (pss_cons (ps_set (i := 4) sc_u_law_totals_right.nd rfl (by first | exact Or.inl rfl | exact Or.inr rfl) (pe_nDisp hr.units (PPs.cons (pv 2) pe_int (PPs.cons (pv 3) pe_int (PPs.cons (pe_tupZ (pa_cons (pe_tupZ (pa_cons pe_int pa_nil)) (pa_cons (pe_tupZ pa_nil) (pa_cons (pe_tupZ pa_nil) (pa_cons pe_int pa_nil))))) pe_int (PPs.cons (pe_tupZ (pa_cons (pe_tupZ (pa_cons pe_int (pa_cons pe_int pa_nil))) (pa_cons (pe_tupZ pa_nil) (pa_cons (pe_tupZ pa_nil) (pa_cons pe_int pa_nil))))) pe_int PPs.nil)))) ⟨Nat.le_of_ble_eq_true rfl, Nat.le_of_ble_eq_true rfl⟩))
      (pss_cons (ps_if (PW.pt (pw_or (pt_not (pt_val (pe_meth (pe_make T.M2 (ok_Total___init T) (hr.mono (by decide)) rfl T.mc2 T.b7100 .nil pass0 (pa_cons pe_int (pa_cons (pv 4) (pa_cons (pe_ndisp hr.units (pv 2) pe_int) pa_nil)))) T.K2.cl ⟨T.h7102, T.hf7102, T.F7102.kp⟩ (ok_Total_shows T) (hr.mono (by decide)) T.b7102 .nil pass0 (pa_cons (pv 1) (pa_cons pe_int (pa_cons pe_int (pa_cons (pv 2) pa_nil))))))) (pw_or (pt_val (pe_meth (pe_make T.M2 (ok_Total___init T) (hr.mono (by decide)) rfl T.mc2 T.b7100 .nil pass0 (pa_cons pe_int (pa_cons (pe_nDisp hr.units (PPs.cons (pv 2) pe_int (PPs.cons (pv 3) pe_int PPs.nil)) ⟨Nat.le_of_ble_eq_true rfl, Nat.le_of_ble_eq_true rfl⟩) (pa_cons (pe_ndisp hr.units (pv 2) pe_int) pa_nil)))) T.K2.cl ⟨T.h7102, T.hf7102, T.F7102.kp⟩ (ok_Total_shows T) (hr.mono (by decide)) T.b7102 .nil pass0 (pa_cons (pv 1) (pa_cons pe_int (pa_cons pe_int (pa_cons (pv 2) pa_nil)))))) (pw_or1 (pt_val (pe_meth (pe_make T.M2 (ok_Total___init T) (hr.mono (by decide)) rfl T.mc2 T.b7100 .nil pass0 (pa_cons pe_int (pa_cons (pe_nDisp hr.units (PPs.cons (pv 2) pe_int (PPs.cons (pv 3) pe_int PPs.nil)) ⟨Nat.le_of_ble_eq_true rfl, Nat.le_of_ble_eq_true rfl⟩) (pa_cons pe_nnew pa_nil)))) T.K2.cl ⟨T.h7102, T.hf7102, T.F7102.kp⟩ (ok_Total_shows T) (hr.mono (by decide)) T.b7102 .nil pass0 (pa_cons (pv 1) (pa_cons pe_int (pa_cons pe_int (pa_cons (pv 2) pa_nil)))))))))) (pss_one (ps_ret pe_bl)) pss_nil)
      (pss_cons (ps_if (PW.pt (pw_or (pt_val (pe_meth (pe_make T.M2 (ok_Total___init T) (hr.mono (by decide)) rfl T.mc2 T.b7100 .nil pass0 (pa_cons pe_int (pa_cons (pv 4) (pa_cons (pe_ndisp hr.units (pv 2) pe_int) pa_nil)))) T.K2.cl ⟨T.h7102, T.hf7102, T.F7102.kp⟩ (ok_Total_shows T) (hr.mono (by decide)) T.b7102 .nil pass0 (pa_cons (pv 1) (pa_cons pe_int (pa_cons pe_int (pa_cons (pv 2) pa_nil)))))) (pw_or (pt_val (pe_meth (pe_make T.M2 (ok_Total___init T) (hr.mono (by decide)) rfl T.mc2 T.b7100 .nil pass0 (pa_cons pe_int (pa_cons (pv 4) (pa_cons pe_nnew pa_nil)))) T.K2.cl ⟨T.h7102, T.hf7102, T.F7102.kp⟩ (ok_Total_shows T) (hr.mono (by decide)) T.b7102 .nil pass0 (pa_cons (pv 1) (pa_cons pe_int (pa_cons pe_int (pa_cons (pv 2) pa_nil)))))) (pw_or (pt_not (pt_val (pe_meth (pe_make T.M2 (ok_Total___init T) (hr.mono (by decide)) rfl T.mc2 T.b7100 .nil pass0 (pa_cons pe_int (pa_cons (pv 4) (pa_cons (pe_nDisp hr.units (PPs.cons (pv 2) pe_int (PPs.cons (pv 3) (pe_un un_neg pe_int) PPs.nil)) ⟨Nat.le_of_ble_eq_true rfl, Nat.le_of_ble_eq_true rfl⟩) pa_nil)))) T.K2.cl ⟨T.h7102, T.hf7102, T.F7102.kp⟩ (ok_Total_shows T) (hr.mono (by decide)) T.b7102 .nil pass0 (pa_cons (pv 1) (pa_cons pe_int (pa_cons pe_int (pa_cons (pv 2) pa_nil))))))) (pw_or1 (pt_val (pe_meth (pe_make T.M2 (ok_Total___init T) (hr.mono (by decide)) rfl T.mc2 T.b7100 .nil pass0 (pa_cons pe_int (pa_cons (pv 4) (pa_cons (pe_nDisp hr.units (PPs.cons (pv 2) pe_int (PPs.cons (pv 3) pe_int PPs.nil)) ⟨Nat.le_of_ble_eq_true rfl, Nat.le_of_ble_eq_true rfl⟩) pa_nil)))) T.K2.cl ⟨T.h7102, T.hf7102, T.F7102.kp⟩ (ok_Total_shows T) (hr.mono (by decide)) T.b7102 .nil pass0 (pa_cons (pv 1) (pa_cons pe_int (pa_cons pe_int (pa_cons (pv 2) pa_nil))))))))))) (pss_one (ps_ret pe_bl)) pss_nil)
      (pss_cons (ps_if (PW.pt (pw_or (pt_cmpR (op_neD hr.units) (pe_lc (own := [("_law_delay", 5)]) rfl sc_u_law_totals_right.nd (pi_seq (pe_tupZ (pa_cons pe_int (pa_cons pe_int (pa_cons pe_int pa_nil))))) (blkOk_by (N := N_u_law_totals_right) (sc := defScope st_u_law_totals_right) (by decide +kernel)) (fun _ _ _ _ _ => (pg_name (i := 5) sc_u_law_totals_right.nd rfl (by first | exact Or.inl rfl | exact Or.inr rfl))) (fun _ _ _ _ _ => pts_nil) (fun _ _ _ _ _ => (pe_call (ok_least_work T) (hr.mono (by decide)) rfl T.m74 T.F74.kp T.b74 .nil pass0 (pa_cons (pv 0) (pa_cons pe_int (pa_cons (pv 5) (pa_cons (pe_call (ok_begin T) (hr.mono (by decide)) rfl T.m72 T.F72.kp T.b72 .nil pass0 (pa_cons (pv 0) (pa_cons pe_int (pa_cons (pv 5) (pa_cons (pe_tupZ (pa_cons (pe_tupZ (pa_cons pe_int (pa_cons pe_int (pa_cons pe_int pa_nil)))) (pa_cons (pe_tupZ (pa_cons pe_int pa_nil)) pa_nil))) (pa_cons pe_int pa_nil)))))) pa_nil))))))) (pe_lst (pa_cons pe_int (pa_cons pe_int (pa_cons pe_int pa_nil)))) (nomark _)) (pw_or (pt_cmpR (op_neD hr.units) (pe_call (ok_least_work T) (hr.mono (by decide)) rfl T.m74 T.F74.kp T.b74 .nil pass0 (pa_cons (pv 0) (pa_cons pe_int (pa_cons pe_int (pa_cons (pe_tupZ (pa_cons (pe_tupZ (pa_cons pe_int (pa_cons pe_int (pa_cons pe_int pa_nil)))) (pa_cons (pe_tupZ (pa_cons pe_int pa_nil)) (pa_cons (pe_tupZ pa_nil) (pa_cons pe_int pa_nil))))) pa_nil))))) pe_int (nomark _)) (pw_or1 (pt_cmpR (op_neD hr.units) (pe_call (ok_least_work T) (hr.mono (by decide)) rfl T.m74 T.F74.kp T.b74 .nil pass0 (pa_cons (pv 0) (pa_cons pe_int (pa_cons pe_int (pa_cons (pe_tupZ (pa_cons (pe_tupZ (pa_cons pe_int (pa_cons pe_int (pa_cons pe_int pa_nil)))) (pa_cons (pe_tupZ pa_nil) (pa_cons (pe_tupZ (pa_cons (pe_tupZ (pa_cons pe_int (pa_cons pe_int pa_nil))) pa_nil)) (pa_cons pe_int pa_nil))))) pa_nil))))) pe_int (nomark _)))))) (pss_one (ps_ret pe_bl)) pss_nil)
      (pss_cons (ps_if (PW.pt (pw_or (pt_cmpR (op_neD hr.units) (pe_lc (own := [("_law_room", 6)]) rfl sc_u_law_totals_right.nd (pi_seq (pe_tupZ (pa_cons pe_int (pa_cons pe_int pa_nil)))) (blkOk_by (N := N_u_law_totals_right) (sc := defScope st_u_law_totals_right) (by decide +kernel)) (fun _ _ _ _ _ => (pg_name (i := 6) sc_u_law_totals_right.nd rfl (by first | exact Or.inl rfl | exact Or.inr rfl))) (fun _ _ _ _ _ => pts_nil) (fun _ _ _ _ _ => (pe_call (ok_least_work T) (hr.mono (by decide)) rfl T.m74 T.F74.kp T.b74 .nil pass0 (pa_cons (pv 1) (pa_cons (pv 6) (pa_cons pe_int (pa_cons (pe_tupZ (pa_cons (pe_tupZ (pa_cons pe_int (pa_cons pe_int pa_nil))) (pa_cons (pe_ifExp (pt_cmpR (op_eqD hr.units) (pv 6) pe_int (nomark _)) (pe_tupZ (pa_cons pe_int pa_nil)) (pe_tupZ pa_nil)) (pa_cons (pe_tupZ pa_nil) (pa_cons pe_int pa_nil))))) pa_nil))))))) (pe_lst (pa_cons pe_int (pa_cons pe_int pa_nil))) (nomark _)) (pw_or1 (pt_cmpR (op_neD hr.units) (pe_call (ok_least_work T) (hr.mono (by decide)) rfl T.m74 T.F74.kp T.b74 .nil pass0 (pa_cons (pv 1) (pa_cons pe_int (pa_cons pe_int (pa_cons (pe_tupZ (pa_cons (pe_tupZ (pa_cons pe_int (pa_cons pe_int pa_nil))) (pa_cons (pe_tupZ pa_nil) (pa_cons (pe_tupZ pa_nil) (pa_cons pe_int pa_nil))))) pa_nil))))) pe_int (nomark _))))) (pss_one (ps_ret pe_bl)) pss_nil)
      (pss_cons (ps_par (i := 7) (j := 8) rfl sc_u_law_totals_right.nd rfl rfl (by decide) rfl rfl (pa_cons (pe_callTy (cr_dictC hr.units) rfl T.z_dict mbt_dict (pa_cons (pv 4) pa_nil)) (pa_cons (pe_nDisp hr.units (PPs.cons (pv 2) pe_int PPs.nil) ⟨Nat.le_of_ble_eq_true rfl, Nat.le_of_ble_eq_true rfl⟩) pa_nil)) rfl)
      (pss_cons (ps_set (i := 9) sc_u_law_totals_right.nd rfl (by first | exact Or.inl rfl | exact Or.inr rfl) (pe_make T.M2 (ok_Total___init T) (hr.mono (by decide)) rfl T.mc2 T.b7100 .nil pass0 (pa_cons pe_int (pa_cons (pv 7) (pa_cons (pv 8) pa_nil)))))
      (pss_cons (ps_expr (pe_nclear (pv 7)))
      (pss_cons (ps_expr (pe_nclear (pv 8)))
      (pss_one (ps_ret (pe_and (pe_cmpR (op_eqD hr.units) (pe_callB call_lenN rfl T.z_len mbt_len (pa_cons (pe_fld (pv 9) rfl) pa_nil)) pe_int (nomark _)) (pe_and (pe_cmpR (op_eqD hr.units) (pe_callB call_lenN rfl T.z_len mbt_len (pa_cons (pe_fld (pv 9) rfl) pa_nil)) pe_int (nomark _)) (pe_and (pe_cmpR (op_eqO (ok_Total___eq T) (hr.mono (by decide)) T.h7101 T.hf7101 T.b7101 pass0) (pv 9) (pe_make T.M2 (ok_Total___init T) (hr.mono (by decide)) rfl T.mc2 T.b7100 .nil pass0 (pa_cons pe_int (pa_cons (pv 4) (pa_cons (pe_ndisp hr.units (pv 2) pe_int) pa_nil)))) (nomark _)) (pe_one (pe_cmpR (op_eqD hr.units) (pe_fld (pe_call (ok_total T) (hr.mono (by decide)) rfl T.m73 T.F73.kp T.b73 .nil pass0 (pa_cons (pv 1) (pa_cons pe_int (pa_cons pe_int (pa_cons (pv 2) pa_nil))))) rfl) pe_int (nomark _))))))))))))))))))),
    body0 (N := N_u_law_totals_right) (x := x_u_law_totals_right) (dn_seq (dn_asg (den_make0 (den_cons (den_tup (den_cons den_int (den_cons den_int den_nil))) den_nil)))
      (dn_seq (dn_asgP (p := (.tup (.cons (.nm 2) (.cons (.nm 3) .nil)))) (den_tup (den_cons (den_tup (den_cons (den_tup (den_cons den_int (den_cons den_int den_nil))) (den_cons (den_tup den_nil) (den_cons (den_tup den_nil) (den_cons den_int den_nil))))) (den_cons (den_tup (den_cons (den_tup (den_cons den_int den_nil)) (den_cons (den_tup den_nil) (den_cons (den_tup den_nil) (den_cons den_int den_nil))))) den_nil))))
      (dn_seq (dn_asg (den_disp (dp_cons (den_var (i := 2)) den_int (dp_cons (den_var (i := 3)) den_int (dp_cons (den_tup (den_cons (den_tup (den_cons den_int den_nil)) (den_cons (den_tup den_nil) (den_cons (den_tup den_nil) (den_cons den_int den_nil))))) den_int (dp_cons (den_tup (den_cons (den_tup (den_cons den_int (den_cons den_int den_nil))) (den_cons (den_tup den_nil) (den_cons (den_tup den_nil) (den_cons den_int den_nil))))) den_int dp_nil))))))
      (dn_seq (dn_if (den_or (den_not (den_tB (den_meth0 T.no2_2 (den_make0 (den_cons den_int (den_cons (den_var (i := 4)) (den_cons (den_dOne (den_var (i := 2)) den_int) den_nil)))) (den_cons (den_var (i := 1)) (den_cons den_int (den_cons den_int (den_cons (den_var (i := 2)) den_nil))))))) (den_or (den_tB (den_meth0 T.no2_2 (den_make0 (den_cons den_int (den_cons (den_disp (dp_cons (den_var (i := 2)) den_int (dp_cons (den_var (i := 3)) den_int dp_nil))) (den_cons (den_dOne (den_var (i := 2)) den_int) den_nil)))) (den_cons (den_var (i := 1)) (den_cons den_int (den_cons den_int (den_cons (den_var (i := 2)) den_nil)))))) (den_tB (den_meth0 T.no2_2 (den_make0 (den_cons den_int (den_cons (den_disp (dp_cons (den_var (i := 2)) den_int (dp_cons (den_var (i := 3)) den_int dp_nil))) (den_cons den_dEmp den_nil)))) (den_cons (den_var (i := 1)) (den_cons den_int (den_cons den_int (den_cons (den_var (i := 2)) den_nil)))))))) (dn_ret den_bl) dn_next)
      (dn_seq (dn_if (den_or (den_tB (den_meth0 T.no2_2 (den_make0 (den_cons den_int (den_cons (den_var (i := 4)) (den_cons (den_dOne (den_var (i := 2)) den_int) den_nil)))) (den_cons (den_var (i := 1)) (den_cons den_int (den_cons den_int (den_cons (den_var (i := 2)) den_nil)))))) (den_or (den_tB (den_meth0 T.no2_2 (den_make0 (den_cons den_int (den_cons (den_var (i := 4)) (den_cons den_dEmp den_nil)))) (den_cons (den_var (i := 1)) (den_cons den_int (den_cons den_int (den_cons (den_var (i := 2)) den_nil)))))) (den_or (den_not (den_tB (den_meth0 T.no2_2 (den_make0 (den_cons den_int (den_cons (den_var (i := 4)) (den_cons (den_disp (dp_cons (den_var (i := 2)) den_int (dp_cons (den_var (i := 3)) (den_un ud_neg den_int) dp_nil))) den_nil)))) (den_cons (den_var (i := 1)) (den_cons den_int (den_cons den_int (den_cons (den_var (i := 2)) den_nil))))))) (den_tB (den_meth0 T.no2_2 (den_make0 (den_cons den_int (den_cons (den_var (i := 4)) (den_cons (den_disp (dp_cons (den_var (i := 2)) den_int (dp_cons (den_var (i := 3)) den_int dp_nil))) den_nil)))) (den_cons (den_var (i := 1)) (den_cons den_int (den_cons den_int (den_cons (den_var (i := 2)) den_nil))))))))) (dn_ret den_bl) dn_next)
      (dn_seq (dn_if (den_or (den_test (den_bin od_ne (den_ofL (den_comp (p := (.nm 5)) (vs := [5]) (SrcS.x (src_seq (den_tup (den_cons den_int (den_cons den_int (den_cons den_int den_nil)))))) den_yes (den_callPD0 (den_cons (den_var (i := 0)) (den_cons den_int (den_cons (den_var (i := 5)) (den_cons (den_callP0 (den_cons (den_var (i := 0)) (den_cons den_int (den_cons (den_var (i := 5)) (den_cons (den_tup (den_cons (den_tup (den_cons den_int (den_cons den_int (den_cons den_int den_nil)))) (den_cons (den_tup (den_cons den_int den_nil)) den_nil))) (den_cons den_int den_nil)))))) den_nil))))) rfl)) (den_ofL (den_lst (den_cons den_int (den_cons den_int (den_cons den_int den_nil))))))) (den_or (den_test (den_bin od_ne (den_callPD0 (den_cons (den_var (i := 0)) (den_cons den_int (den_cons den_int (den_cons (den_tup (den_cons (den_tup (den_cons den_int (den_cons den_int (den_cons den_int den_nil)))) (den_cons (den_tup (den_cons den_int den_nil)) (den_cons (den_tup den_nil) (den_cons den_int den_nil))))) den_nil))))) den_int)) (den_test (den_bin od_ne (den_callPD0 (den_cons (den_var (i := 0)) (den_cons den_int (den_cons den_int (den_cons (den_tup (den_cons (den_tup (den_cons den_int (den_cons den_int (den_cons den_int den_nil)))) (den_cons (den_tup den_nil) (den_cons (den_tup (den_cons (den_tup (den_cons den_int (den_cons den_int den_nil))) den_nil)) (den_cons den_int den_nil))))) den_nil))))) den_int)))) (dn_ret den_bl) dn_next)
      (dn_seq (dn_if (den_or (den_test (den_bin od_ne (den_ofL (den_comp (p := (.nm 6)) (vs := [6]) (SrcS.x (src_seq (den_tup (den_cons den_int (den_cons den_int den_nil))))) den_yes (den_callPD0 (den_cons (den_var (i := 1)) (den_cons (den_var (i := 6)) (den_cons den_int (den_cons (den_tup (den_cons (den_tup (den_cons den_int (den_cons den_int den_nil))) (den_cons (den_if (den_test (den_bin od_eq (den_var (i := 6)) den_int)) (den_tup (den_cons den_int den_nil)) (den_tup den_nil)) (den_cons (den_tup den_nil) (den_cons den_int den_nil))))) den_nil))))) rfl)) (den_ofL (den_lst (den_cons den_int (den_cons den_int den_nil)))))) (den_test (den_bin od_ne (den_callPD0 (den_cons (den_var (i := 1)) (den_cons den_int (den_cons den_int (den_cons (den_tup (den_cons (den_tup (den_cons den_int (den_cons den_int den_nil))) (den_cons (den_tup den_nil) (den_cons (den_tup den_nil) (den_cons den_int den_nil))))) den_nil))))) den_int))) (dn_ret den_bl) dn_next)
      (dn_seq (dn_par (den_dictCC (den_var (i := 4))) (den_dispC (dp_cons (den_var (i := 2)) den_int dp_nil)))
      (dn_seq (dn_asg (den_make0 (den_cons den_int (den_cons (den_var (i := 7)) (den_cons (den_var (i := 8)) den_nil)))))
      (dn_seq (dn_drop (den_clear (den_var (i := 7))))
      (dn_seq (dn_drop (den_clear (den_var (i := 8))))
      (dn_ret (den_andV (den_bin od_eq (den_lenD (den_fld (k := 2) (j := 1) T.K2.cl T.na2_1 T.nd2 T.fj2_1 (den_var (i := 9)))) den_int) (den_andV (den_bin od_eq (den_lenD (den_fld (k := 2) (j := 2) T.K2.cl T.na2_2 T.nd2 T.fj2_2 (den_var (i := 9)))) den_int) (den_andV (den_eqO0 (neg := false) (den_var (i := 9)) (den_make0 (den_cons den_int (den_cons (den_var (i := 4)) (den_cons (den_dOne (den_var (i := 2)) den_int) den_nil))))) (den_bin od_eq (den_fld (k := 2) (j := 0) T.K2.cl T.na2_0 T.nd2 T.fj2_0 (den_callPD0 (den_cons (den_var (i := 1)) (den_cons den_int (den_cons den_int (den_cons (den_var (i := 2)) den_nil)))))) den_int)))))))))))))))) h⟩
/-! _law_choices_right -/
abbrev N_u_law_choices_right : List Str := ["_law_three", "_law_pair", "_law_start", "_law_other", "_law_heights", "_law_floors", "_law_alone", "_law_given", "_law_more", "_law_copied"]
theorem sc_u_law_choices_right : FnScope N_u_law_choices_right ["_law_three"] (defScope st_u_law_choices_right) := ⟨rfl, rfl, rfl, by decide +kernel, rfl, by decide +kernel, by decide +kernel⟩
def x_u_law_choices_right : Sf :=
  (sSeq (sAsg 1 (dMake 0 mi_Archive 2 (dCons (dTup (dCons (dC (.int 2)) (dCons (dC (.int 1)) dNil))) dNil)))
  (sSeq (sIf (eOr (eBl (dBin fNe (dFld 3 0 (dCall (purD m_choose) 4 (dCons (dVar 1) (dCons (dC (.int 1)) (dCons (dC (.int 0)) (dCons (dC (.int 2)) dNil)))))) (dTup (dCons (dTup (dCons (dC (.int 0)) (dCons (dC (.int 1)) dNil))) (dCons (dTup (dCons (dC (.int 1)) dNil)) dNil))))) (eOr (eBl (dBin fNe (dCall (purD m_best_work) 4 (dCons (dVar 1) (dCons (dC (.int 0)) (dCons (dC (.int 0)) (dCons (dC (.int 1)) dNil))))) (dC (.int 2)))) (eOr (eBl (dBin fNe (dCall (purD m_least_pairs) 3 (dCons (dVar 1) (dCons (dC (.int 0)) (dCons (dC (.int 2)) dNil)))) (dOfL (dLst (dCons (dTup (dCons (dC (.int 0)) (dCons (dC (.int 2)) dNil))) (dCons (dTup (dCons (dC (.int 1)) (dCons (dC (.int 1)) dNil))) dNil)))))) (eBl (dBin fNe (dCall (purD m_least_pairs) 3 (dCons (dVar 0) (dCons (dC (.int 0)) (dCons (dC (.int 1)) dNil)))) (dOfL (dLst (dCons (dTup (dCons (dC (.int 0)) (dCons (dC (.int 5)) dNil))) (dCons (dTup (dCons (dC (.int 1)) (dCons (dC (.int 3)) dNil))) dNil))))))))) (sRet (dC (.bl false))) sNext)
  (sSeq (sIf (eOr (eBl (dBin fNe (dCall (purD m_least_pairs) 3 (dCons (dMake 0 mi_Archive 2 (dCons (dTup (dCons (dC (.int 3)) dNil)) dNil)) (dCons (dC (.int 2)) (dCons (dC (.int 4)) dNil)))) (dOfL (dLst (dCons (dTup (dCons (dC (.int 0)) (dCons (dC (.int 0)) dNil))) dNil))))) (eOr (eBl (dBin fNe (dFld 3 0 (dCall (purD m_choose) 4 (dCons (dMake 0 mi_Archive 2 (dCons (dTup (dCons (dC (.int 3)) dNil)) dNil)) (dCons (dC (.int 1)) (dCons (dC (.int 0)) (dCons (dC (.int 4)) dNil)))))) (dTup (dCons (dTup (dCons (dC (.int 0)) dNil)) (dCons (dTup dNil) dNil))))) (eOr (eBl (dBin fNe (dCall (purD m_best_work) 4 (dCons (dVar 0) (dCons (dC (.int 2)) (dCons (dC (.int 1)) (dCons (dC (.int 0)) dNil))))) (dC (.int 0)))) (eBl (dBin fNe (dFld 3 0 (dCall (purD m_choose) 4 (dCons (dVar 0) (dCons (dC (.int 0)) (dCons (dC (.int 0)) (dCons (dC (.int 0)) dNil)))))) (dTup (dCons (dTup (dCons (dC (.int 0)) (dCons (dC (.int 1)) (dCons (dC (.int 2)) dNil)))) (dCons (dTup dNil) dNil)))))))) (sRet (dC (.bl false))) sNext)
  (sSeq (sAsgP (.tup (.cons (.nm 2) (.cons (.nm 3) .nil))) (dTup (dCons (dTup (dCons (dTup (dCons (dC (.int 0)) (dCons (dC (.int 1)) dNil))) (dCons (dTup dNil) (dCons (dTup dNil) (dCons (dC (.int 1)) dNil))))) (dCons (dTup (dCons (dTup (dCons (dC (.int 1)) (dCons (dC (.int 0)) dNil))) (dCons (dTup dNil) (dCons (dTup dNil) (dCons (dC (.int 1)) dNil))))) dNil))))
  (sSeq (sAsg 4 (dDisp [((dVar 2), (dC (.int 2))), ((dTup (dCons (dTup (dCons (dC (.int 0)) dNil)) (dCons (dTup dNil) (dCons (dTup dNil) (dCons (dC (.int 0)) dNil))))), (dC (.int 0))), ((dTup (dCons (dTup (dCons (dC (.int 1)) dNil)) (dCons (dTup dNil) (dCons (dTup dNil) (dCons (dC (.int 0)) dNil))))), (dC (.int 0))), ((dTup (dCons (dTup (dCons (dC (.int 0)) (dCons (dC (.int 1)) dNil))) (dCons (dTup dNil) (dCons (dTup dNil) (dCons (dC (.int 0)) dNil))))), (dC (.int 0)))]))
  (sSeq (sAsg 5 (dDisp [((dVar 2), (dC (.int 2))), ((dVar 3), (dC (.int 2)))]))
  (sSeq (sIf (eOr (eNot (eBl (dMeth 3 m_Choice_shows 5 (dMake 3 mi_Choice 5 (dCons (dTup (dCons (dTup (dCons (dC (.int 0)) (dCons (dC (.int 1)) dNil))) (dCons (dTup dNil) dNil))) (dCons (dC (.int 2)) (dCons (dVar 4) (dCons (dVar 5) dNil))))) (dCons (dVar 1) (dCons (dC (.int 0)) (dCons (dC (.int 0)) (dCons (dC (.int 1)) dNil))))))) (eOr (eBl (dMeth 3 m_Choice_shows 5 (dMake 3 mi_Choice 5 (dCons (dTup (dCons (dTup (dCons (dC (.int 1)) (dCons (dC (.int 0)) dNil))) (dCons (dTup dNil) dNil))) (dCons (dC (.int 2)) (dCons (dVar 4) (dCons (dVar 5) dNil))))) (dCons (dVar 1) (dCons (dC (.int 0)) (dCons (dC (.int 0)) (dCons (dC (.int 1)) dNil)))))) (eBl (dMeth 3 m_Choice_shows 5 (dMake 3 mi_Choice 5 (dCons (dTup (dCons (dTup (dCons (dC (.int 0)) (dCons (dC (.int 1)) dNil))) (dCons (dTup dNil) dNil))) (dCons (dC (.int 2)) (dCons (dVar 4) (dCons (dDOne (dVar 2) (dC (.int 2))) dNil))))) (dCons (dVar 1) (dCons (dC (.int 0)) (dCons (dC (.int 0)) (dCons (dC (.int 1)) dNil)))))))) (sRet (dC (.bl false))) sNext)
  (sSeq (sIf (eOr (eBl (dMeth 3 m_Choice_shows 5 (dMake 3 mi_Choice 5 (dCons (dTup (dCons (dTup (dCons (dC (.int 0)) (dCons (dC (.int 1)) dNil))) (dCons (dTup (dCons (dC (.int 1)) dNil)) dNil))) (dCons (dC (.int 2)) (dCons (dVar 4) (dCons (dVar 5) dNil))))) (dCons (dVar 1) (dCons (dC (.int 0)) (dCons (dC (.int 0)) (dCons (dC (.int 1)) dNil)))))) (eOr (eBl (dMeth 3 m_Choice_shows 5 (dMake 3 mi_Choice 5 (dCons (dTup (dCons (dTup (dCons (dC (.int 0)) dNil)) (dCons (dTup dNil) dNil))) (dCons (dC (.int 2)) (dCons (dVar 4) (dCons (dVar 5) dNil))))) (dCons (dVar 1) (dCons (dC (.int 0)) (dCons (dC (.int 0)) (dCons (dC (.int 1)) dNil)))))) (eBl (dMeth 3 m_Choice_shows 5 (dMake 3 mi_Choice 5 (dCons (dTup (dCons (dTup (dCons (dC (.int 0)) (dCons (dC (.int 1)) dNil))) (dCons (dTup dNil) dNil))) (dCons (dC (.int 3)) (dCons (dVar 4) (dCons (dDisp [((dVar 2), (dC (.int 3))), ((dVar 3), (dC (.int 3)))]) dNil))))) (dCons (dVar 1) (dCons (dC (.int 0)) (dCons (dC (.int 0)) (dCons (dC (.int 1)) dNil)))))))) (sRet (dC (.bl false))) sNext)
  (sSeq (sAsg 6 (dDisp [((dTup (dCons (dTup (dCons (dC (.int 0)) dNil)) (dCons (dTup dNil) (dCons (dTup dNil) (dCons (dC (.int 1)) dNil))))), (dC (.int 0))), ((dTup (dCons (dTup (dCons (dC (.int 0)) dNil)) (dCons (dTup dNil) (dCons (dTup dNil) (dCons (dC (.int 0)) dNil))))), (dC (.int 0))), ((dTup (dCons (dTup dNil) (dCons (dTup dNil) (dCons (dTup dNil) (dCons (dC (.int 0)) dNil))))), (dC (.int 0)))]))
  (sSeq (sIf (eOr (eBl (dMeth 3 m_Choice_shows 5 (dMake 3 mi_Choice 5 (dCons (dTup (dCons (dTup (dCons (dC (.int 0)) dNil)) (dCons (dTup dNil) dNil))) (dCons (dC (.int 0)) (dCons (dVar 6) (dCons dDEmp dNil))))) (dCons (dVar 1) (dCons (dC (.int 0)) (dCons (dC (.int 0)) (dCons (dC (.int 1)) dNil)))))) (eNot (eBl (dMeth 3 m_Choice_shows 5 (dMake 3 mi_Choice 5 (dCons (dTup (dCons (dTup (dCons (dC (.int 0)) dNil)) (dCons (dTup dNil) dNil))) (dCons (dC (.int 0)) (dCons (dVar 6) (dCons dDEmp dNil))))) (dCons (dMake 0 mi_Archive 2 (dCons (dTup (dCons (dC (.int 2)) dNil)) dNil)) (dCons (dC (.int 0)) (dCons (dC (.int 0)) (dCons (dC (.int 1)) dNil)))))))) (sRet (dC (.bl false))) sNext)
  (sSeq (sPar 7 8 (dDictCC (dVar 4)) (dDictCC (dVar 5)))
  (sSeq (sAsg 9 (dMake 3 mi_Choice 5 (dCons (dTup (dCons (dTup (dCons (dC (.int 0)) (dCons (dC (.int 1)) dNil))) (dCons (dTup dNil) dNil))) (dCons (dC (.int 2)) (dCons (dVar 7) (dCons (dVar 8) dNil))))))
  (sSeq (sDrop (dClear (dVar 7)))
  (sSeq (sDrop (dClear (dVar 8)))
  (sRet (dAnd (dBin fEq (dLenD (dFld 3 2 (dVar 9))) (dC (.int 4))) (dAnd (dBin fEq (dLenD (dFld 3 3 (dVar 9))) (dC (.int 2))) (dAnd (dEqO false 3 m_Choice___eq (dVar 9) (dMake 3 mi_Choice 5 (dCons (dTup (dCons (dTup (dCons (dC (.int 0)) (dCons (dC (.int 1)) dNil))) (dCons (dTup dNil) dNil))) (dCons (dC (.int 2)) (dCons (dVar 4) (dCons (dVar 5) dNil)))))) (dEqO true 3 m_Choice___eq (dVar 9) (dMake 3 mi_Choice 5 (dCons (dTup (dCons (dTup (dCons (dC (.int 1)) (dCons (dC (.int 0)) dNil))) (dCons (dTup dNil) dNil))) (dCons (dC (.int 2)) (dCons (dVar 4) (dCons (dVar 5) dNil))))))))))))))))))))))))
def m_u_law_choices_right : Mf := fnD N_u_law_choices_right.length x_u_law_choices_right
theorem ok_u_law_choices_right (T : Tx c mg a d) : FnOk P w c.K mg base CX0 23 (a 86) (d 86) ["_law_three"] (sp0 c m_u_law_choices_right 1) := by
  refine T.F86.ok sc_u_law_choices_right (fun vs H Q E h => h.1) (fun cdv A outer s H vs Q E hr h => ?_)
  exact ⟨_, (pss_cons (ps_set (i := 1) sc_u_law_choices_right.nd rfl (by first | exact Or.inl rfl | exact Or.inr rfl) (pe_make T.M0 (ok_Archive___init T) (hr.mono (by decide)) rfl T.mc0 T.b3300 .nil pass0 (pa_cons (pe_tupZ (pa_cons pe_int (pa_cons pe_int pa_nil))) pa_nil)))
      (pss_cons (ps_if (PW.pt (pw_or (pt_cmpR (op_neD hr.units) (pe_fld (pe_call (ok_choose T) (hr.mono (by decide)) rfl T.m79 T.F79.kp T.b79 .nil pass0 (pa_cons (pv 1) (pa_cons pe_int (pa_cons pe_int (pa_cons pe_int pa_nil))))) rfl) (pe_tupZ (pa_cons (pe_tupZ (pa_cons pe_int (pa_cons pe_int pa_nil))) (pa_cons (pe_tupZ (pa_cons pe_int pa_nil)) pa_nil))) (nomark _)) (pw_or (pt_cmpR (op_neD hr.units) (pe_call (ok_best_work T) (hr.mono (by decide)) rfl T.m80 T.F80.kp T.b80 .nil pass0 (pa_cons (pv 1) (pa_cons pe_int (pa_cons pe_int (pa_cons pe_int pa_nil))))) pe_int (nomark _)) (pw_or (pt_cmpR (op_neD hr.units) (pe_call (ok_least_pairs T) (hr.mono (by decide)) rfl T.m81 T.F81.kp T.b81 .nil pass0 (pa_cons (pv 1) (pa_cons pe_int (pa_cons pe_int pa_nil)))) (pe_lst (pa_cons (pe_tupZ (pa_cons pe_int (pa_cons pe_int pa_nil))) (pa_cons (pe_tupZ (pa_cons pe_int (pa_cons pe_int pa_nil))) pa_nil))) (nomark _)) (pw_or1 (pt_cmpR (op_neD hr.units) (pe_call (ok_least_pairs T) (hr.mono (by decide)) rfl T.m81 T.F81.kp T.b81 .nil pass0 (pa_cons (pv 0) (pa_cons pe_int (pa_cons pe_int pa_nil)))) (pe_lst (pa_cons (pe_tupZ (pa_cons pe_int (pa_cons pe_int pa_nil))) (pa_cons (pe_tupZ (pa_cons pe_int (pa_cons pe_int pa_nil))) pa_nil))) (nomark _))))))) (pss_one (ps_ret pe_bl)) pss_nil)
      (pss_cons (ps_if (PW.pt (pw_or (pt_cmpR (op_neD hr.units) (pe_call (ok_least_pairs T) (hr.mono (by decide)) rfl T.m81 T.F81.kp T.b81 .nil pass0 (pa_cons (pe_make T.M0 (ok_Archive___init T) (hr.mono (by decide)) rfl T.mc0 T.b3300 .nil pass0 (pa_cons (pe_tupZ (pa_cons pe_int pa_nil)) pa_nil)) (pa_cons pe_int (pa_cons pe_int pa_nil)))) (pe_lst (pa_cons (pe_tupZ (pa_cons pe_int (pa_cons pe_int pa_nil))) pa_nil)) (nomark _)) (pw_or (pt_cmpR (op_neD hr.units) (pe_fld (pe_call (ok_choose T) (hr.mono (by decide)) rfl T.m79 T.F79.kp T.b79 .nil pass0 (pa_cons (pe_make T.M0 (ok_Archive___init T) (hr.mono (by decide)) rfl T.mc0 T.b3300 .nil pass0 (pa_cons (pe_tupZ (pa_cons pe_int pa_nil)) pa_nil)) (pa_cons pe_int (pa_cons pe_int (pa_cons pe_int pa_nil))))) rfl) (pe_tupZ (pa_cons (pe_tupZ (pa_cons pe_int pa_nil)) (pa_cons (pe_tupZ pa_nil) pa_nil))) (nomark _)) (pw_or (pt_cmpR (op_neD hr.units) (pe_call (ok_best_work T) (hr.mono (by decide)) rfl T.m80 T.F80.kp T.b80 .nil pass0 (pa_cons (pv 0) (pa_cons pe_int (pa_cons pe_int (pa_cons pe_int pa_nil))))) pe_int (nomark _)) (pw_or1 (pt_cmpR (op_neD hr.units) (pe_fld (pe_call (ok_choose T) (hr.mono (by decide)) rfl T.m79 T.F79.kp T.b79 .nil pass0 (pa_cons (pv 0) (pa_cons pe_int (pa_cons pe_int (pa_cons pe_int pa_nil))))) rfl) (pe_tupZ (pa_cons (pe_tupZ (pa_cons pe_int (pa_cons pe_int (pa_cons pe_int pa_nil)))) (pa_cons (pe_tupZ pa_nil) pa_nil))) (nomark _))))))) (pss_one (ps_ret pe_bl)) pss_nil)
      (pss_cons (ps_asg (pe_tupZ (pa_cons (pe_tupZ (pa_cons (pe_tupZ (pa_cons pe_int (pa_cons pe_int pa_nil))) (pa_cons (pe_tupZ pa_nil) (pa_cons (pe_tupZ pa_nil) (pa_cons pe_int pa_nil))))) (pa_cons (pe_tupZ (pa_cons (pe_tupZ (pa_cons pe_int (pa_cons pe_int pa_nil))) (pa_cons (pe_tupZ pa_nil) (pa_cons (pe_tupZ pa_nil) (pa_cons pe_int pa_nil))))) pa_nil))) (pg_tup rfl (pgs_cons (pg_name (i := 2) sc_u_law_choices_right.nd rfl (by first | exact Or.inl rfl | exact Or.inr rfl)) (pgs_cons (pg_name (i := 3) sc_u_law_choices_right.nd rfl (by first | exact Or.inl rfl | exact Or.inr rfl)) pgs_nil))))
      (pss_cons (ps_set (i := 4) sc_u_law_choices_right.nd rfl (by first | exact Or.inl rfl | exact Or.inr rfl) (pe_nDisp hr.units (PPs.cons (pv 2) pe_int (PPs.cons (pe_tupZ (pa_cons (pe_tupZ (pa_cons pe_int pa_nil)) (pa_cons (pe_tupZ pa_nil) (pa_cons (pe_tupZ pa_nil) (pa_cons pe_int pa_nil))))) pe_int (PPs.cons (pe_tupZ (pa_cons (pe_tupZ (pa_cons pe_int pa_nil)) (pa_cons (pe_tupZ pa_nil) (pa_cons (pe_tupZ pa_nil) (pa_cons pe_int pa_nil))))) pe_int (PPs.cons (pe_tupZ (pa_cons (pe_tupZ (pa_cons pe_int (pa_cons pe_int pa_nil))) (pa_cons (pe_tupZ pa_nil) (pa_cons (pe_tupZ pa_nil) (pa_cons pe_int pa_nil))))) pe_int PPs.nil)))) ⟨Nat.le_of_ble_eq_true rfl, Nat.le_of_ble_eq_true rfl⟩))
      (pss_cons (ps_set (i := 5) sc_u_law_choices_right.nd rfl (by first | exact Or.inl rfl | exact Or.inr rfl) (pe_nDisp hr.units (PPs.cons (pv 2) pe_int (PPs.cons (pv 3) pe_int PPs.nil)) ⟨Nat.le_of_ble_eq_true rfl, Nat.le_of_ble_eq_true rfl⟩))
      (pss_cons (ps_if (PW.pt (pw_or (pt_not (pt_val (pe_meth (pe_make T.M3 (ok_Choice___init T) (hr.mono (by decide)) rfl T.mc3 T.b7600 .nil pass0 (pa_cons (pe_tupZ (pa_cons (pe_tupZ (pa_cons pe_int (pa_cons pe_int pa_nil))) (pa_cons (pe_tupZ pa_nil) pa_nil))) (pa_cons pe_int (pa_cons (pv 4) (pa_cons (pv 5) pa_nil))))) T.K3.cl ⟨T.h7602, T.hf7602, T.F7602.kp⟩ (ok_Choice_shows T) (hr.mono (by decide)) T.b7602 .nil pass0 (pa_cons (pv 1) (pa_cons pe_int (pa_cons pe_int (pa_cons pe_int pa_nil))))))) (pw_or (pt_val (pe_meth (pe_make T.M3 (ok_Choice___init T) (hr.mono (by decide)) rfl T.mc3 T.b7600 .nil pass0 (pa_cons (pe_tupZ (pa_cons (pe_tupZ (pa_cons pe_int (pa_cons pe_int pa_nil))) (pa_cons (pe_tupZ pa_nil) pa_nil))) (pa_cons pe_int (pa_cons (pv 4) (pa_cons (pv 5) pa_nil))))) T.K3.cl ⟨T.h7602, T.hf7602, T.F7602.kp⟩ (ok_Choice_shows T) (hr.mono (by decide)) T.b7602 .nil pass0 (pa_cons (pv 1) (pa_cons pe_int (pa_cons pe_int (pa_cons pe_int pa_nil)))))) (pw_or1 (pt_val (pe_meth (pe_make T.M3 (ok_Choice___init T) (hr.mono (by decide)) rfl T.mc3 T.b7600 .nil pass0 (pa_cons (pe_tupZ (pa_cons (pe_tupZ (pa_cons pe_int (pa_cons pe_int pa_nil))) (pa_cons (pe_tupZ pa_nil) pa_nil))) (pa_cons pe_int (pa_cons (pv 4) (pa_cons (pe_ndisp hr.units (pv 2) pe_int) pa_nil))))) T.K3.cl ⟨T.h7602, T.hf7602, T.F7602.kp⟩ (ok_Choice_shows T) (hr.mono (by decide)) T.b7602 .nil pass0 (pa_cons (pv 1) (pa_cons pe_int (pa_cons pe_int (pa_cons pe_int pa_nil)))))))))) (pss_one (ps_ret pe_bl)) pss_nil)
      (pss_cons (ps_if (PW.pt (pw_or (pt_val (pe_meth (pe_make T.M3 (ok_Choice___init T) (hr.mono (by decide)) rfl T.mc3 T.b7600 .nil pass0 (pa_cons (pe_tupZ (pa_cons (pe_tupZ (pa_cons pe_int (pa_cons pe_int pa_nil))) (pa_cons (pe_tupZ (pa_cons pe_int pa_nil)) pa_nil))) (pa_cons pe_int (pa_cons (pv 4) (pa_cons (pv 5) pa_nil))))) T.K3.cl ⟨T.h7602, T.hf7602, T.F7602.kp⟩ (ok_Choice_shows T) (hr.mono (by decide)) T.b7602 .nil pass0 (pa_cons (pv 1) (pa_cons pe_int (pa_cons pe_int (pa_cons pe_int pa_nil)))))) (pw_or (pt_val (pe_meth (pe_make T.M3 (ok_Choice___init T) (hr.mono (by decide)) rfl T.mc3 T.b7600 .nil pass0 (pa_cons (pe_tupZ (pa_cons (pe_tupZ (pa_cons pe_int pa_nil)) (pa_cons (pe_tupZ pa_nil) pa_nil))) (pa_cons pe_int (pa_cons (pv 4) (pa_cons (pv 5) pa_nil))))) T.K3.cl ⟨T.h7602, T.hf7602, T.F7602.kp⟩ (ok_Choice_shows T) (hr.mono (by decide)) T.b7602 .nil pass0 (pa_cons (pv 1) (pa_cons pe_int (pa_cons pe_int (pa_cons pe_int pa_nil)))))) (pw_or1 (pt_val (pe_meth (pe_make T.M3 (ok_Choice___init T) (hr.mono (by decide)) rfl T.mc3 T.b7600 .nil pass0 (pa_cons (pe_tupZ (pa_cons (pe_tupZ (pa_cons pe_int (pa_cons pe_int pa_nil))) (pa_cons (pe_tupZ pa_nil) pa_nil))) (pa_cons pe_int (pa_cons (pv 4) (pa_cons (pe_nDisp hr.units (PPs.cons (pv 2) pe_int (PPs.cons (pv 3) pe_int PPs.nil)) ⟨Nat.le_of_ble_eq_true rfl, Nat.le_of_ble_eq_true rfl⟩) pa_nil))))) T.K3.cl ⟨T.h7602, T.hf7602, T.F7602.kp⟩ (ok_Choice_shows T) (hr.mono (by decide)) T.b7602 .nil pass0 (pa_cons (pv 1) (pa_cons pe_int (pa_cons pe_int (pa_cons pe_int pa_nil)))))))))) (pss_one (ps_ret pe_bl)) pss_nil)
      (pss_cons (ps_set (i := 6) sc_u_law_choices_right.nd rfl (by first | exact Or.inl rfl | exact Or.inr rfl) (pe_nDisp hr.units (PPs.cons (pe_tupZ (pa_cons (pe_tupZ (pa_cons pe_int pa_nil)) (pa_cons (pe_tupZ pa_nil) (pa_cons (pe_tupZ pa_nil) (pa_cons pe_int pa_nil))))) pe_int (PPs.cons (pe_tupZ (pa_cons (pe_tupZ (pa_cons pe_int pa_nil)) (pa_cons (pe_tupZ pa_nil) (pa_cons (pe_tupZ pa_nil) (pa_cons pe_int pa_nil))))) pe_int (PPs.cons (pe_tupZ (pa_cons (pe_tupZ pa_nil) (pa_cons (pe_tupZ pa_nil) (pa_cons (pe_tupZ pa_nil) (pa_cons pe_int pa_nil))))) pe_int PPs.nil))) ⟨Nat.le_of_ble_eq_true rfl, Nat.le_of_ble_eq_true rfl⟩))
      (pss_cons (ps_if (PW.pt (pw_or (pt_val (pe_meth (pe_make T.M3 (ok_Choice___init T) (hr.mono (by decide)) rfl T.mc3 T.b7600 .nil pass0 (pa_cons (pe_tupZ (pa_cons (pe_tupZ (pa_cons pe_int pa_nil)) (pa_cons (pe_tupZ pa_nil) pa_nil))) (pa_cons pe_int (pa_cons (pv 6) (pa_cons pe_nnew pa_nil))))) T.K3.cl ⟨T.h7602, T.hf7602, T.F7602.kp⟩ (ok_Choice_shows T) (hr.mono (by decide)) T.b7602 .nil pass0 (pa_cons (pv 1) (pa_cons pe_int (pa_cons pe_int (pa_cons pe_int pa_nil)))))) (pw_or1 (pt_not (pt_val (pe_meth (pe_make T.M3 (ok_Choice___init T) (hr.mono (by decide)) rfl T.mc3 T.b7600 .nil pass0 (pa_cons (pe_tupZ (pa_cons (pe_tupZ (pa_cons pe_int pa_nil)) (pa_cons (pe_tupZ pa_nil) pa_nil))) (pa_cons pe_int (pa_cons (pv 6) (pa_cons pe_nnew pa_nil))))) T.K3.cl ⟨T.h7602, T.hf7602, T.F7602.kp⟩ (ok_Choice_shows T) (hr.mono (by decide)) T.b7602 .nil pass0 (pa_cons (pe_make T.M0 (ok_Archive___init T) (hr.mono (by decide)) rfl T.mc0 T.b3300 .nil pass0 (pa_cons (pe_tupZ (pa_cons pe_int pa_nil)) pa_nil)) (pa_cons pe_int (pa_cons pe_int (pa_cons pe_int pa_nil)))))))))) (pss_one (ps_ret pe_bl)) pss_nil)
      (pss_cons (ps_par (i := 7) (j := 8) rfl sc_u_law_choices_right.nd rfl rfl (by decide) rfl rfl (pa_cons (pe_callTy (cr_dictC hr.units) rfl T.z_dict mbt_dict (pa_cons (pv 4) pa_nil)) (pa_cons (pe_callTy (cr_dictC hr.units) rfl T.z_dict mbt_dict (pa_cons (pv 5) pa_nil)) pa_nil)) rfl)
      (pss_cons (ps_set (i := 9) sc_u_law_choices_right.nd rfl (by first | exact Or.inl rfl | exact Or.inr rfl) (pe_make T.M3 (ok_Choice___init T) (hr.mono (by decide)) rfl T.mc3 T.b7600 .nil pass0 (pa_cons (pe_tupZ (pa_cons (pe_tupZ (pa_cons pe_int (pa_cons pe_int pa_nil))) (pa_cons (pe_tupZ pa_nil) pa_nil))) (pa_cons pe_int (pa_cons (pv 7) (pa_cons (pv 8) pa_nil))))))
      (pss_cons (ps_expr (pe_nclear (pv 7)))
      (pss_cons (ps_expr (pe_nclear (pv 8)))
      (pss_one (ps_ret (pe_and (pe_cmpR (op_eqD hr.units) (pe_callB call_lenN rfl T.z_len mbt_len (pa_cons (pe_fld (pv 9) rfl) pa_nil)) pe_int (nomark _)) (pe_and (pe_cmpR (op_eqD hr.units) (pe_callB call_lenN rfl T.z_len mbt_len (pa_cons (pe_fld (pv 9) rfl) pa_nil)) pe_int (nomark _)) (pe_and (pe_cmpR (op_eqO (ok_Choice___eq T) (hr.mono (by decide)) T.h7601 T.hf7601 T.b7601 pass0) (pv 9) (pe_make T.M3 (ok_Choice___init T) (hr.mono (by decide)) rfl T.mc3 T.b7600 .nil pass0 (pa_cons (pe_tupZ (pa_cons (pe_tupZ (pa_cons pe_int (pa_cons pe_int pa_nil))) (pa_cons (pe_tupZ pa_nil) pa_nil))) (pa_cons pe_int (pa_cons (pv 4) (pa_cons (pv 5) pa_nil))))) (nomark _)) (pe_one (pe_cmpR (op_neO (ok_Choice___eq T) (hr.mono (by decide)) T.h7601 T.hf7601 T.b7601 pass0 T.hn3 T.K3.cm) (pv 9) (pe_make T.M3 (ok_Choice___init T) (hr.mono (by decide)) rfl T.mc3 T.b7600 .nil pass0 (pa_cons (pe_tupZ (pa_cons (pe_tupZ (pa_cons pe_int (pa_cons pe_int pa_nil))) (pa_cons (pe_tupZ pa_nil) pa_nil))) (pa_cons pe_int (pa_cons (pv 4) (pa_cons (pv 5) pa_nil))))) (nomark _)))))))))))))))))))))),
    body0 (N := N_u_law_choices_right) (x := x_u_law_choices_right) (dn_seq (dn_asg (den_make0 (den_cons (den_tup (den_cons den_int (den_cons den_int den_nil))) den_nil)))
      (dn_seq (dn_if (den_or (den_test (den_bin od_ne (den_fld (k := 3) (j := 0) T.K3.cl T.na3_0 T.nd3 T.fj3_0 (den_callPD0 (den_cons (den_var (i := 1)) (den_cons den_int (den_cons den_int (den_cons den_int den_nil)))))) (den_tup (den_cons (den_tup (den_cons den_int (den_cons den_int den_nil))) (den_cons (den_tup (den_cons den_int den_nil)) den_nil))))) (den_or (den_test (den_bin od_ne (den_callPD0 (den_cons (den_var (i := 1)) (den_cons den_int (den_cons den_int (den_cons den_int den_nil))))) den_int)) (den_or (den_test (den_bin od_ne (den_callPD0 (den_cons (den_var (i := 1)) (den_cons den_int (den_cons den_int den_nil)))) (den_ofL (den_lst (den_cons (den_tup (den_cons den_int (den_cons den_int den_nil))) (den_cons (den_tup (den_cons den_int (den_cons den_int den_nil))) den_nil)))))) (den_test (den_bin od_ne (den_callPD0 (den_cons (den_var (i := 0)) (den_cons den_int (den_cons den_int den_nil)))) (den_ofL (den_lst (den_cons (den_tup (den_cons den_int (den_cons den_int den_nil))) (den_cons (den_tup (den_cons den_int (den_cons den_int den_nil))) den_nil))))))))) (dn_ret den_bl) dn_next)
      (dn_seq (dn_if (den_or (den_test (den_bin od_ne (den_callPD0 (den_cons (den_make0 (den_cons (den_tup (den_cons den_int den_nil)) den_nil)) (den_cons den_int (den_cons den_int den_nil)))) (den_ofL (den_lst (den_cons (den_tup (den_cons den_int (den_cons den_int den_nil))) den_nil))))) (den_or (den_test (den_bin od_ne (den_fld (k := 3) (j := 0) T.K3.cl T.na3_0 T.nd3 T.fj3_0 (den_callPD0 (den_cons (den_make0 (den_cons (den_tup (den_cons den_int den_nil)) den_nil)) (den_cons den_int (den_cons den_int (den_cons den_int den_nil)))))) (den_tup (den_cons (den_tup (den_cons den_int den_nil)) (den_cons (den_tup den_nil) den_nil))))) (den_or (den_test (den_bin od_ne (den_callPD0 (den_cons (den_var (i := 0)) (den_cons den_int (den_cons den_int (den_cons den_int den_nil))))) den_int)) (den_test (den_bin od_ne (den_fld (k := 3) (j := 0) T.K3.cl T.na3_0 T.nd3 T.fj3_0 (den_callPD0 (den_cons (den_var (i := 0)) (den_cons den_int (den_cons den_int (den_cons den_int den_nil)))))) (den_tup (den_cons (den_tup (den_cons den_int (den_cons den_int (den_cons den_int den_nil)))) (den_cons (den_tup den_nil) den_nil)))))))) (dn_ret den_bl) dn_next)
      (dn_seq (dn_asgP (p := (.tup (.cons (.nm 2) (.cons (.nm 3) .nil)))) (den_tup (den_cons (den_tup (den_cons (den_tup (den_cons den_int (den_cons den_int den_nil))) (den_cons (den_tup den_nil) (den_cons (den_tup den_nil) (den_cons den_int den_nil))))) (den_cons (den_tup (den_cons (den_tup (den_cons den_int (den_cons den_int den_nil))) (den_cons (den_tup den_nil) (den_cons (den_tup den_nil) (den_cons den_int den_nil))))) den_nil))))
      (dn_seq (dn_asg (den_disp (dp_cons (den_var (i := 2)) den_int (dp_cons (den_tup (den_cons (den_tup (den_cons den_int den_nil)) (den_cons (den_tup den_nil) (den_cons (den_tup den_nil) (den_cons den_int den_nil))))) den_int (dp_cons (den_tup (den_cons (den_tup (den_cons den_int den_nil)) (den_cons (den_tup den_nil) (den_cons (den_tup den_nil) (den_cons den_int den_nil))))) den_int (dp_cons (den_tup (den_cons (den_tup (den_cons den_int (den_cons den_int den_nil))) (den_cons (den_tup den_nil) (den_cons (den_tup den_nil) (den_cons den_int den_nil))))) den_int dp_nil))))))
      (dn_seq (dn_asg (den_disp (dp_cons (den_var (i := 2)) den_int (dp_cons (den_var (i := 3)) den_int dp_nil))))
      (dn_seq (dn_if (den_or (den_not (den_tB (den_meth0 T.no3_2 (den_make0 (den_cons (den_tup (den_cons (den_tup (den_cons den_int (den_cons den_int den_nil))) (den_cons (den_tup den_nil) den_nil))) (den_cons den_int (den_cons (den_var (i := 4)) (den_cons (den_var (i := 5)) den_nil))))) (den_cons (den_var (i := 1)) (den_cons den_int (den_cons den_int (den_cons den_int den_nil))))))) (den_or (den_tB (den_meth0 T.no3_2 (den_make0 (den_cons (den_tup (den_cons (den_tup (den_cons den_int (den_cons den_int den_nil))) (den_cons (den_tup den_nil) den_nil))) (den_cons den_int (den_cons (den_var (i := 4)) (den_cons (den_var (i := 5)) den_nil))))) (den_cons (den_var (i := 1)) (den_cons den_int (den_cons den_int (den_cons den_int den_nil)))))) (den_tB (den_meth0 T.no3_2 (den_make0 (den_cons (den_tup (den_cons (den_tup (den_cons den_int (den_cons den_int den_nil))) (den_cons (den_tup den_nil) den_nil))) (den_cons den_int (den_cons (den_var (i := 4)) (den_cons (den_dOne (den_var (i := 2)) den_int) den_nil))))) (den_cons (den_var (i := 1)) (den_cons den_int (den_cons den_int (den_cons den_int den_nil)))))))) (dn_ret den_bl) dn_next)
      (dn_seq (dn_if (den_or (den_tB (den_meth0 T.no3_2 (den_make0 (den_cons (den_tup (den_cons (den_tup (den_cons den_int (den_cons den_int den_nil))) (den_cons (den_tup (den_cons den_int den_nil)) den_nil))) (den_cons den_int (den_cons (den_var (i := 4)) (den_cons (den_var (i := 5)) den_nil))))) (den_cons (den_var (i := 1)) (den_cons den_int (den_cons den_int (den_cons den_int den_nil)))))) (den_or (den_tB (den_meth0 T.no3_2 (den_make0 (den_cons (den_tup (den_cons (den_tup (den_cons den_int den_nil)) (den_cons (den_tup den_nil) den_nil))) (den_cons den_int (den_cons (den_var (i := 4)) (den_cons (den_var (i := 5)) den_nil))))) (den_cons (den_var (i := 1)) (den_cons den_int (den_cons den_int (den_cons den_int den_nil)))))) (den_tB (den_meth0 T.no3_2 (den_make0 (den_cons (den_tup (den_cons (den_tup (den_cons den_int (den_cons den_int den_nil))) (den_cons (den_tup den_nil) den_nil))) (den_cons den_int (den_cons (den_var (i := 4)) (den_cons (den_disp (dp_cons (den_var (i := 2)) den_int (dp_cons (den_var (i := 3)) den_int dp_nil))) den_nil))))) (den_cons (den_var (i := 1)) (den_cons den_int (den_cons den_int (den_cons den_int den_nil)))))))) (dn_ret den_bl) dn_next)
      (dn_seq (dn_asg (den_disp (dp_cons (den_tup (den_cons (den_tup (den_cons den_int den_nil)) (den_cons (den_tup den_nil) (den_cons (den_tup den_nil) (den_cons den_int den_nil))))) den_int (dp_cons (den_tup (den_cons (den_tup (den_cons den_int den_nil)) (den_cons (den_tup den_nil) (den_cons (den_tup den_nil) (den_cons den_int den_nil))))) den_int (dp_cons (den_tup (den_cons (den_tup den_nil) (den_cons (den_tup den_nil) (den_cons (den_tup den_nil) (den_cons den_int den_nil))))) den_int dp_nil)))))
      (dn_seq (dn_if (den_or (den_tB (den_meth0 T.no3_2 (den_make0 (den_cons (den_tup (den_cons (den_tup (den_cons den_int den_nil)) (den_cons (den_tup den_nil) den_nil))) (den_cons den_int (den_cons (den_var (i := 6)) (den_cons den_dEmp den_nil))))) (den_cons (den_var (i := 1)) (den_cons den_int (den_cons den_int (den_cons den_int den_nil)))))) (den_not (den_tB (den_meth0 T.no3_2 (den_make0 (den_cons (den_tup (den_cons (den_tup (den_cons den_int den_nil)) (den_cons (den_tup den_nil) den_nil))) (den_cons den_int (den_cons (den_var (i := 6)) (den_cons den_dEmp den_nil))))) (den_cons (den_make0 (den_cons (den_tup (den_cons den_int den_nil)) den_nil)) (den_cons den_int (den_cons den_int (den_cons den_int den_nil)))))))) (dn_ret den_bl) dn_next)
      (dn_seq (dn_par (den_dictCC (den_var (i := 4))) (den_dictCC (den_var (i := 5))))
      (dn_seq (dn_asg (den_make0 (den_cons (den_tup (den_cons (den_tup (den_cons den_int (den_cons den_int den_nil))) (den_cons (den_tup den_nil) den_nil))) (den_cons den_int (den_cons (den_var (i := 7)) (den_cons (den_var (i := 8)) den_nil))))))
      (dn_seq (dn_drop (den_clear (den_var (i := 7))))
      (dn_seq (dn_drop (den_clear (den_var (i := 8))))
      (dn_ret (den_andV (den_bin od_eq (den_lenD (den_fld (k := 3) (j := 2) T.K3.cl T.na3_2 T.nd3 T.fj3_2 (den_var (i := 9)))) den_int) (den_andV (den_bin od_eq (den_lenD (den_fld (k := 3) (j := 3) T.K3.cl T.na3_3 T.nd3 T.fj3_3 (den_var (i := 9)))) den_int) (den_andV (den_eqO0 (neg := false) (den_var (i := 9)) (den_make0 (den_cons (den_tup (den_cons (den_tup (den_cons den_int (den_cons den_int den_nil))) (den_cons (den_tup den_nil) den_nil))) (den_cons den_int (den_cons (den_var (i := 4)) (den_cons (den_var (i := 5)) den_nil)))))) (den_eqO0 (neg := true) (den_var (i := 9)) (den_make0 (den_cons (den_tup (den_cons (den_tup (den_cons den_int (den_cons den_int den_nil))) (den_cons (den_tup den_nil) den_nil))) (den_cons den_int (den_cons (den_var (i := 4)) (den_cons (den_var (i := 5)) den_nil)))))))))))))))))))))))) h⟩
/-! law -/
abbrev N_law : List Str := ["_law_script", "_law_three"]
theorem sc_law : FnScope N_law ["_law_script"] (defScope st_law) := ⟨rfl, rfl, rfl, by decide +kernel, rfl, by decide +kernel, by decide +kernel⟩
def x_law : Sf :=
  (sSeq (sAsg 1 (dMake 0 mi_Archive 2 (dCons (dTup (dCons (dC (.int 2)) (dCons (dC (.int 1)) (dCons (dC (.int 3)) dNil)))) dNil)))
  (sSeq (sIf (eOr (eNot (eBl (dCall (pur m_u_law_works_right) 1 (dCons (dVar 1) dNil)))) (eNot (eBl (dCall (pur m_u_law_play_right) 1 (dCons (dVar 1) dNil))))) (sRet (dC (.bl false))) sNext)
  (sRet (dAnd (dCall (purD m_u_law_totals_right) 1 (dCons (dVar 1) dNil)) (dAnd (dCall (purD m_u_law_choices_right) 1 (dCons (dVar 1) dNil)) (dCB (fIsiR [0, 1, 2, 3]) (dCons (dVar 0) (dCons (dC (.ty "list")) dNil))))))))
def m_law : Mf := fnD N_law.length x_law
theorem ok_law (T : Tx c mg a d) : FnOk P w c.K mg base CX0 24 (a 87) (d 87) ["_law_script"] (sp0 c m_law 1) := by
  refine T.F87.ok sc_law (fun vs H Q E h => h.1) (fun cdv A outer s H vs Q E hr h => ?_)
  exact ⟨_, (pss_cons (ps_set (i := 1) sc_law.nd rfl (by first | exact Or.inl rfl | exact Or.inr rfl) (pe_make T.M0 (ok_Archive___init T) (hr.mono (by decide)) rfl T.mc0 T.b3300 .nil pass0 (pa_cons (pe_tupZ (pa_cons pe_int (pa_cons pe_int (pa_cons pe_int pa_nil)))) pa_nil)))
      (pss_cons (ps_if (PW.pt (pw_or (pt_not (pt_val (pe_call (ok_u_law_works_right T) (hr.mono (by decide)) rfl T.m83 T.F83.kp T.b83 .nil pass0 (pa_cons (pv 1) pa_nil)))) (pw_or1 (pt_not (pt_val (pe_call (ok_u_law_play_right T) (hr.mono (by decide)) rfl T.m84 T.F84.kp T.b84 .nil pass0 (pa_cons (pv 1) pa_nil))))))) (pss_one (ps_ret pe_bl)) pss_nil)
      (pss_one (ps_ret (pe_and (pe_call (ok_u_law_totals_right T) (hr.mono (by decide)) rfl T.m85 T.F85.kp T.b85 .nil pass0 (pa_cons (pv 1) pa_nil)) (pe_and (pe_call (ok_u_law_choices_right T) (hr.mono (by decide)) rfl T.m86 T.F86.kp T.b86 .nil pass0 (pa_cons (pv 1) pa_nil)) (pe_one (pe_callB call_isi rfl T.z_isinstance mbt_isinstance (pa_cons (pv 0) (pa_cons (pe_bltn (v := .ty "list") rfl T.z_list mbt_list rfl) pa_nil)))))))))),
    body0 (N := N_law) (x := x_law) (dn_seq (dn_asg (den_make0 (den_cons (den_tup (den_cons den_int (den_cons den_int (den_cons den_int den_nil)))) den_nil)))
      (dn_seq (dn_if (den_or (den_not (den_tB (den_callP0 (den_cons (den_var (i := 1)) den_nil)))) (den_not (den_tB (den_callP0 (den_cons (den_var (i := 1)) den_nil))))) (dn_ret den_bl) dn_next)
      (dn_ret (den_andV (den_callPD0 (den_cons (den_var (i := 1)) den_nil)) (den_andV (den_callPD0 (den_cons (den_var (i := 1)) den_nil)) (den_cb (cd_isiR (al := [0, 1, 2, 3]) T.Kall) (den_cons (den_var (i := 0)) (den_cons den_ty den_nil)))))))) h⟩
end
end MX


set_option Elab.async false
set_option linter.all false
set_option maxRecDepth 100000
set_option maxHeartbeats 0
namespace MX
open PySem L2
def okE (r : Res D) : Bool := match r with
  | .ok (.bl b) [] => b
  | _ => false
theorem okE_ex {r : Res D} (h : okE r = true) : r = .ok (.bl true) [] := by
  unfold okE at h
  split at h
  · subst h; rfl
  · cases h
def isF (r : Res Bool) : Bool := match r with
  | .ok b [] => !b
  | _ => false
theorem isF_ok {r : Res Bool} (h : isF r = true) : r = .ok false [] := by
  unfold isF at h
  split at h
  · rename_i b
    cases b
    · rfl
    · cases h
  · cases h
def isIv (r : Res D) (v : Int) : Bool := match r with
  | .ok (.int j) [] => j == v
  | _ => false
theorem isIv_ok {r : Res D} {v : Int} (h : isIv r v = true) : r = .ok (.int v) [] := by
  unfold isIv at h
  split at h
  · rw [beq_iff_eq.mp h]
  · cases h
def isSF (r : Option D) : Bool := match r with
  | some (.bl b) => !b
  | _ => false
theorem isSF_ok {r : Option D} (h : isSF r = true) : r = some (.bl false) := by
  unfold isSF at h
  split at h
  · rename_i b
    cases b
    · rfl
    · cases h
  · cases h
def nxt (f : Fl) : List Sl := match f with
  | .next r _ => r
  | _ => []
def isNx (f : Fl) : Bool := match f with
  | .next _ [] => true
  | _ => false
theorem isNx_ok {f : Fl} (h : isNx f = true) : f = .next (nxt f) [] := by
  unfold isNx at h
  split at h
  · rfl
  · cases h
def isRt (f : Fl) : Bool := match f with
  | .ret (.bl b) _ => b
  | _ => false
theorem isRt_ex {f : Fl} (h : isRt f = true) : ∃ s, f = .ret (.bl true) s := by
  unfold isRt at h
  split at h
  · rename_i b s
    subst h
    exact ⟨s, rfl⟩
  · cases h
def arc3 : D := .obj 0 [.tup [.int 2, .int 1, .int 3]]
theorem noC_arc : noCs [arc3] = true := by decide +kernel
section
variable {s : Sto} {ρ : List Sl}
theorem comp_gen {α : Type} {j : Nat} {e : Fn D} {f g : α → D} : ∀ (L : List α) (he : ∀ x ∈ L, e (ρ.set j (.val (f x))) s = .ok (g x) s), compL (.nm j) eYes e ρ (L.map f) s = .ok (L.map g) s
  | [], _ => rfl
  | x :: L, he => by
    unfold compL
    show ((noX (eYes (ρ.set j (.val (f x))) s)).bind fun k s => _) = _
    simp only [eYes, noX, Res.bind, if_true, he x List.mem_cons_self, comp_gen L fun y m => he y (List.mem_cons_of_mem _ m)]
    rfl
end
theorem works_ok : okE (m_u_law_works_right [arc3] []) = true := by decide +kernel
theorem play_ok : okE (m_u_law_play_right [arc3] []) = true := by decide +kernel
end MX


set_option Elab.async false
set_option linter.all false
set_option maxRecDepth 100000
set_option maxHeartbeats 0
namespace MX
open PySem L2
def rT0 : List Sl := startR N_u_law_totals_right.length [arc3]
def rT1 : List Sl := nxt ((sAsg 1 (dMake 0 mi_Archive 2 (dCons (dTup (dCons (dC (.int 2)) (dCons (dC (.int 1)) dNil))) dNil))) rT0 [])
theorem sT0 : (sAsg 1 (dMake 0 mi_Archive 2 (dCons (dTup (dCons (dC (.int 2)) (dCons (dC (.int 1)) dNil))) dNil))) rT0 [] = .next rT1 [] := isNx_ok (by decide +kernel)
def rT2 : List Sl := nxt ((sAsgP (.tup (.cons (.nm 2) (.cons (.nm 3) .nil))) (dTup (dCons (dTup (dCons (dTup (dCons (dC (.int 0)) (dCons (dC (.int 1)) dNil))) (dCons (dTup dNil) (dCons (dTup dNil) (dCons (dC (.int 1)) dNil))))) (dCons (dTup (dCons (dTup (dCons (dC (.int 0)) dNil)) (dCons (dTup dNil) (dCons (dTup dNil) (dCons (dC (.int 0)) dNil))))) dNil)))) rT1 [])
theorem sT1 : (sAsgP (.tup (.cons (.nm 2) (.cons (.nm 3) .nil))) (dTup (dCons (dTup (dCons (dTup (dCons (dC (.int 0)) (dCons (dC (.int 1)) dNil))) (dCons (dTup dNil) (dCons (dTup dNil) (dCons (dC (.int 1)) dNil))))) (dCons (dTup (dCons (dTup (dCons (dC (.int 0)) dNil)) (dCons (dTup dNil) (dCons (dTup dNil) (dCons (dC (.int 0)) dNil))))) dNil)))) rT1 [] = .next rT2 [] := isNx_ok (by decide +kernel)
def rT3 : List Sl := nxt ((sAsg 4 (dDisp [((dVar 2), (dC (.int 2))), ((dVar 3), (dC (.int 0))), ((dTup (dCons (dTup (dCons (dC (.int 1)) dNil)) (dCons (dTup dNil) (dCons (dTup dNil) (dCons (dC (.int 0)) dNil))))), (dC (.int 0))), ((dTup (dCons (dTup (dCons (dC (.int 0)) (dCons (dC (.int 1)) dNil))) (dCons (dTup dNil) (dCons (dTup dNil) (dCons (dC (.int 0)) dNil))))), (dC (.int 0)))])) rT2 [])
theorem sT2 : (sAsg 4 (dDisp [((dVar 2), (dC (.int 2))), ((dVar 3), (dC (.int 0))), ((dTup (dCons (dTup (dCons (dC (.int 1)) dNil)) (dCons (dTup dNil) (dCons (dTup dNil) (dCons (dC (.int 0)) dNil))))), (dC (.int 0))), ((dTup (dCons (dTup (dCons (dC (.int 0)) (dCons (dC (.int 1)) dNil))) (dCons (dTup dNil) (dCons (dTup dNil) (dCons (dC (.int 0)) dNil))))), (dC (.int 0)))])) rT2 [] = .next rT3 [] := isNx_ok (by decide +kernel)
theorem tT3_0 : (eNot (eBl (dMeth 2 m_Total_shows 5 (dMake 2 mi_Total 4 (dCons (dC (.int 2)) (dCons (dVar 4) (dCons (dDOne (dVar 2) (dC (.int 2))) dNil)))) (dCons (dVar 1) (dCons (dC (.int 0)) (dCons (dC (.int 0)) (dCons (dVar 2) dNil))))))) rT3 [] = .ok false [] := isF_ok (by decide +kernel)
theorem tT3_1 : (eBl (dMeth 2 m_Total_shows 5 (dMake 2 mi_Total 4 (dCons (dC (.int 2)) (dCons (dDisp [((dVar 2), (dC (.int 2))), ((dVar 3), (dC (.int 0)))]) (dCons (dDOne (dVar 2) (dC (.int 2))) dNil)))) (dCons (dVar 1) (dCons (dC (.int 0)) (dCons (dC (.int 0)) (dCons (dVar 2) dNil)))))) rT3 [] = .ok false [] := isF_ok (by decide +kernel)
theorem tT3_2 : (eBl (dMeth 2 m_Total_shows 5 (dMake 2 mi_Total 4 (dCons (dC (.int 1)) (dCons (dDisp [((dVar 2), (dC (.int 1))), ((dVar 3), (dC (.int 0)))]) (dCons dDEmp dNil)))) (dCons (dVar 1) (dCons (dC (.int 0)) (dCons (dC (.int 0)) (dCons (dVar 2) dNil)))))) rT3 [] = .ok false [] := isF_ok (by decide +kernel)
theorem tT4_0 : (eBl (dMeth 2 m_Total_shows 5 (dMake 2 mi_Total 4 (dCons (dC (.int 3)) (dCons (dVar 4) (dCons (dDOne (dVar 2) (dC (.int 3))) dNil)))) (dCons (dVar 1) (dCons (dC (.int 0)) (dCons (dC (.int 0)) (dCons (dVar 2) dNil)))))) rT3 [] = .ok false [] := isF_ok (by decide +kernel)
theorem tT4_1 : (eBl (dMeth 2 m_Total_shows 5 (dMake 2 mi_Total 4 (dCons (dC (.int 2)) (dCons (dVar 4) (dCons dDEmp dNil)))) (dCons (dVar 1) (dCons (dC (.int 0)) (dCons (dC (.int 0)) (dCons (dVar 2) dNil)))))) rT3 [] = .ok false [] := isF_ok (by decide +kernel)
theorem tT4_2 : (eNot (eBl (dMeth 2 m_Total_shows 5 (dMake 2 mi_Total 4 (dCons (dC (.int 2)) (dCons (dVar 4) (dCons (dDisp [((dVar 2), (dC (.int 2))), ((dVar 3), (dUn fNeg (dC (.int 4))))]) dNil)))) (dCons (dVar 1) (dCons (dC (.int 0)) (dCons (dC (.int 0)) (dCons (dVar 2) dNil))))))) rT3 [] = .ok false [] := isF_ok (by decide +kernel)
theorem tT4_3 : (eBl (dMeth 2 m_Total_shows 5 (dMake 2 mi_Total 4 (dCons (dC (.int 2)) (dCons (dVar 4) (dCons (dDisp [((dVar 2), (dC (.int 2))), ((dVar 3), (dC (.int 1)))]) dNil)))) (dCons (dVar 1) (dCons (dC (.int 0)) (dCons (dC (.int 0)) (dCons (dVar 2) dNil)))))) rT3 [] = .ok false [] := isF_ok (by decide +kernel)
end MX


set_option Elab.async false
set_option linter.all false
set_option maxRecDepth 100000
set_option maxHeartbeats 0
namespace MX
open PySem L2
def lwB : Fn D := (dCall (purD m_least_work) 4 (dCons (dVar 0) (dCons (dC (.int 1)) (dCons (dVar 5) (dCons (dCall (pur m_begin) 5 (dCons (dVar 0) (dCons (dC (.int 1)) (dCons (dVar 5) (dCons (dTup (dCons (dTup (dCons (dC (.int 0)) (dCons (dC (.int 1)) (dCons (dC (.int 2)) dNil)))) (dCons (dTup (dCons (dC (.int 1)) dNil)) dNil))) (dCons (dC (.int 3)) dNil)))))) dNil)))))
def lwR (d : Int) : List Sl := (rT3.set 5 .none).set 5 (.val (.int d))
end MX


set_option Elab.async false
set_option linter.all false
set_option maxRecDepth 100000
set_option maxHeartbeats 0
namespace MX
open PySem L2
theorem lw0 : isIv (lwB (lwR 0) []) 6 = true := by decide +kernel
end MX


set_option Elab.async false
set_option linter.all false
set_option maxRecDepth 100000
set_option maxHeartbeats 0
namespace MX
open PySem L2
theorem lw1 : isIv (lwB (lwR 1) []) 6 = true := by decide +kernel
end MX


set_option Elab.async false
set_option linter.all false
set_option maxRecDepth 100000
set_option maxHeartbeats 0
namespace MX
open PySem L2
theorem lw2 : isIv (lwB (lwR 2) []) 4 = true := by decide +kernel
end MX


set_option Elab.async false
set_option linter.all false
set_option maxRecDepth 100000
set_option maxHeartbeats 0
namespace MX
open PySem L2
theorem lw_gen (ρ : List Sl) (h0 : lwB ((ρ.set 5 .none).set 5 (.val (.int 0))) [] = .ok (.int 6) []) (h1 : lwB ((ρ.set 5 .none).set 5 (.val (.int 1))) [] = .ok (.int 6) []) (h2 : lwB ((ρ.set 5 .none).set 5 (.val (.int 2))) [] = .ok (.int 4) []) : (eBl (dBin fNe (dOfL (dComp (wSeq (dTup (dCons (dC (.int 0)) (dCons (dC (.int 1)) (dCons (dC (.int 2)) dNil))))) (.nm 5) eYes (dCall (purD m_least_work) 4 (dCons (dVar 0) (dCons (dC (.int 1)) (dCons (dVar 5) (dCons (dCall (pur m_begin) 5 (dCons (dVar 0) (dCons (dC (.int 1)) (dCons (dVar 5) (dCons (dTup (dCons (dTup (dCons (dC (.int 0)) (dCons (dC (.int 1)) (dCons (dC (.int 2)) dNil)))) (dCons (dTup (dCons (dC (.int 1)) dNil)) dNil))) (dCons (dC (.int 3)) dNil)))))) dNil))))) [5])) (dOfL (dLst (dCons (dC (.int 6)) (dCons (dC (.int 6)) (dCons (dC (.int 4)) dNil))))))) ρ [] = .ok false [] := by
  refine bl_ok (bin_ok (a := .lst ([(0, 6), (1, 6), (2, 4)].map fun z : Int × Int => D.int z.2)) (b := .lst [.int 6, .int 6, .int 4]) (s1 := []) (ofL_ok ?_) rfl (isSF_ok (by decide +kernel)))
  unfold dComp
  show (if small ([(0, 6), (1, 6), (2, 4)].map fun z : Int × Int => D.int z.1).length = true then compL (.nm 5) eYes lwB (ρ.set 5 .none) ([(0, 6), (1, 6), (2, 4)].map fun z : Int × Int => D.int z.1) [] else .bad) = _
  rw [if_pos (show small _ = true from decide_eq_true (Nat.le_of_ble_eq_true rfl))]
  refine comp_gen (f := fun z : Int × Int => D.int z.1) (g := fun z : Int × Int => D.int z.2) _ fun z hz => ?_
  have hz : z = (0, 6) ∨ z = (1, 6) ∨ z = (2, 4) := by simpa using hz
  rcases hz with rfl | rfl | rfl
  · exact h0
  · exact h1
  · exact h2
theorem tT5_0 : (eBl (dBin fNe (dOfL (dComp (wSeq (dTup (dCons (dC (.int 0)) (dCons (dC (.int 1)) (dCons (dC (.int 2)) dNil))))) (.nm 5) eYes (dCall (purD m_least_work) 4 (dCons (dVar 0) (dCons (dC (.int 1)) (dCons (dVar 5) (dCons (dCall (pur m_begin) 5 (dCons (dVar 0) (dCons (dC (.int 1)) (dCons (dVar 5) (dCons (dTup (dCons (dTup (dCons (dC (.int 0)) (dCons (dC (.int 1)) (dCons (dC (.int 2)) dNil)))) (dCons (dTup (dCons (dC (.int 1)) dNil)) dNil))) (dCons (dC (.int 3)) dNil)))))) dNil))))) [5])) (dOfL (dLst (dCons (dC (.int 6)) (dCons (dC (.int 6)) (dCons (dC (.int 4)) dNil))))))) rT3 [] = .ok false [] := lw_gen rT3 (isIv_ok lw0) (isIv_ok lw1) (isIv_ok lw2)
end MX


set_option Elab.async false
set_option linter.all false
set_option maxRecDepth 100000
set_option maxHeartbeats 0
namespace MX
open PySem L2
theorem tT5_1 : (eBl (dBin fNe (dCall (purD m_least_work) 4 (dCons (dVar 0) (dCons (dC (.int 1)) (dCons (dC (.int 1)) (dCons (dTup (dCons (dTup (dCons (dC (.int 0)) (dCons (dC (.int 1)) (dCons (dC (.int 2)) dNil)))) (dCons (dTup (dCons (dC (.int 1)) dNil)) (dCons (dTup dNil) (dCons (dC (.int 0)) dNil))))) dNil))))) (dC (.int 0)))) rT3 [] = .ok false [] := isF_ok (by decide +kernel)
end MX


set_option Elab.async false
set_option linter.all false
set_option maxRecDepth 100000
set_option maxHeartbeats 0
namespace MX
open PySem L2
theorem tT5_2 : (eBl (dBin fNe (dCall (purD m_least_work) 4 (dCons (dVar 0) (dCons (dC (.int 0)) (dCons (dC (.int 1)) (dCons (dTup (dCons (dTup (dCons (dC (.int 0)) (dCons (dC (.int 1)) (dCons (dC (.int 2)) dNil)))) (dCons (dTup dNil) (dCons (dTup (dCons (dTup (dCons (dC (.int 1)) (dCons (dC (.int 0)) dNil))) dNil)) (dCons (dC (.int 0)) dNil))))) dNil))))) (dC (.int 5)))) rT3 [] = .ok false [] := isF_ok (by decide +kernel)
end MX


set_option Elab.async false
set_option linter.all false
set_option maxRecDepth 100000
set_option maxHeartbeats 0
namespace MX
open PySem L2
theorem tT6_0 : (eBl (dBin fNe (dOfL (dComp (wSeq (dTup (dCons (dC (.int 0)) (dCons (dC (.int 1)) dNil)))) (.nm 6) eYes (dCall (purD m_least_work) 4 (dCons (dVar 1) (dCons (dVar 6) (dCons (dC (.int 0)) (dCons (dTup (dCons (dTup (dCons (dC (.int 0)) (dCons (dC (.int 1)) dNil))) (dCons (dIf (eBl (dBin fEq (dVar 6) (dC (.int 1)))) (dTup (dCons (dC (.int 1)) dNil)) (dTup dNil)) (dCons (dTup dNil) (dCons (dC (.int 1)) dNil))))) dNil))))) [6])) (dOfL (dLst (dCons (dC (.int 2)) (dCons (dC (.int 1)) dNil)))))) rT3 [] = .ok false [] := isF_ok (by decide +kernel)
end MX


set_option Elab.async false
set_option linter.all false
set_option maxRecDepth 100000
set_option maxHeartbeats 0
namespace MX
open PySem L2
theorem tT6_1 : (eBl (dBin fNe (dCall (purD m_least_work) 4 (dCons (dVar 1) (dCons (dC (.int 0)) (dCons (dC (.int 0)) (dCons (dTup (dCons (dTup (dCons (dC (.int 1)) (dCons (dC (.int 0)) dNil))) (dCons (dTup dNil) (dCons (dTup dNil) (dCons (dC (.int 4)) dNil))))) dNil))))) (dC (.int 2)))) rT3 [] = .ok false [] := isF_ok (by decide +kernel)
end MX


set_option Elab.async false
set_option linter.all false
set_option maxRecDepth 100000
set_option maxHeartbeats 0
namespace MX
open PySem L2
end MX


set_option Elab.async false
set_option linter.all false
set_option maxRecDepth 100000
set_option maxHeartbeats 0
namespace MX
open PySem L2
theorem eT : isRt ((sSeq (sPar 7 8 (dDictCC (dVar 4)) (dDispC [((dVar 2), (dC (.int 2)))])) (sSeq (sAsg 9 (dMake 2 mi_Total 4 (dCons (dC (.int 2)) (dCons (dVar 7) (dCons (dVar 8) dNil))))) (sSeq (sDrop (dClear (dVar 7))) (sSeq (sDrop (dClear (dVar 8))) (sRet (dAnd (dBin fEq (dLenD (dFld 2 1 (dVar 9))) (dC (.int 4))) (dAnd (dBin fEq (dLenD (dFld 2 2 (dVar 9))) (dC (.int 1))) (dAnd (dEqO false 2 m_Total___eq (dVar 9) (dMake 2 mi_Total 4 (dCons (dC (.int 2)) (dCons (dVar 4) (dCons (dDOne (dVar 2) (dC (.int 2))) dNil))))) (dBin fEq (dFld 2 0 (dCall (purD m_total) 4 (dCons (dVar 1) (dCons (dC (.int 0)) (dCons (dC (.int 0)) (dCons (dVar 2) dNil)))))) (dC (.int 2))))))))))) rT3 []) = true := by decide +kernel
theorem totals_ok : ∃ s, m_u_law_totals_right [arc3] [] = .ok (.bl true) s := by
  obtain ⟨s, e⟩ := isRt_ex eT
  refine ⟨s, ?_⟩
  unfold m_u_law_totals_right
  refine fn_ret ?_
  unfold x_u_law_totals_right
  refine seq_ok sT0 ?_
  refine seq_ok sT1 ?_
  refine seq_ok sT2 ?_
  refine seq_ok (sif_no (or_ok (k := false) tT3_0 (or_ok (k := false) tT3_1 tT3_2)) rfl) ?_
  refine seq_ok (sif_no (or_ok (k := false) tT4_0 (or_ok (k := false) tT4_1 (or_ok (k := false) tT4_2 tT4_3))) rfl) ?_
  refine seq_ok (sif_no (or_ok (k := false) tT5_0 (or_ok (k := false) tT5_1 tT5_2)) rfl) ?_
  refine seq_ok (sif_no (or_ok (k := false) tT6_0 tT6_1) rfl) ?_
  exact e
end MX


set_option Elab.async false
set_option linter.all false
set_option maxRecDepth 100000
set_option maxHeartbeats 0
namespace MX
open PySem L2
def rC0 : List Sl := startR N_u_law_choices_right.length [arc3]
def rC1 : List Sl := nxt ((sAsg 1 (dMake 0 mi_Archive 2 (dCons (dTup (dCons (dC (.int 2)) (dCons (dC (.int 1)) dNil))) dNil))) rC0 [])
theorem sC0 : (sAsg 1 (dMake 0 mi_Archive 2 (dCons (dTup (dCons (dC (.int 2)) (dCons (dC (.int 1)) dNil))) dNil))) rC0 [] = .next rC1 [] := isNx_ok (by decide +kernel)
theorem tC1_0 : (eBl (dBin fNe (dFld 3 0 (dCall (purD m_choose) 4 (dCons (dVar 1) (dCons (dC (.int 1)) (dCons (dC (.int 0)) (dCons (dC (.int 2)) dNil)))))) (dTup (dCons (dTup (dCons (dC (.int 0)) (dCons (dC (.int 1)) dNil))) (dCons (dTup (dCons (dC (.int 1)) dNil)) dNil))))) rC1 [] = .ok false [] := isF_ok (by decide +kernel)
end MX


set_option Elab.async false
set_option linter.all false
set_option maxRecDepth 100000
set_option maxHeartbeats 0
namespace MX
open PySem L2
theorem tC1_1 : (eBl (dBin fNe (dCall (purD m_best_work) 4 (dCons (dVar 1) (dCons (dC (.int 0)) (dCons (dC (.int 0)) (dCons (dC (.int 1)) dNil))))) (dC (.int 2)))) rC1 [] = .ok false [] := isF_ok (by decide +kernel)
end MX


set_option Elab.async false
set_option linter.all false
set_option maxRecDepth 100000
set_option maxHeartbeats 0
namespace MX
open PySem L2
theorem tC1_2 : (eBl (dBin fNe (dCall (purD m_least_pairs) 3 (dCons (dVar 1) (dCons (dC (.int 0)) (dCons (dC (.int 2)) dNil)))) (dOfL (dLst (dCons (dTup (dCons (dC (.int 0)) (dCons (dC (.int 2)) dNil))) (dCons (dTup (dCons (dC (.int 1)) (dCons (dC (.int 1)) dNil))) dNil)))))) rC1 [] = .ok false [] := isF_ok (by decide +kernel)
end MX


set_option Elab.async false
set_option linter.all false
set_option maxRecDepth 100000
set_option maxHeartbeats 0
namespace MX
open PySem L2
theorem tC1_3 : (eBl (dBin fNe (dCall (purD m_least_pairs) 3 (dCons (dVar 0) (dCons (dC (.int 0)) (dCons (dC (.int 1)) dNil)))) (dOfL (dLst (dCons (dTup (dCons (dC (.int 0)) (dCons (dC (.int 5)) dNil))) (dCons (dTup (dCons (dC (.int 1)) (dCons (dC (.int 3)) dNil))) dNil)))))) rC1 [] = .ok false [] := isF_ok (by decide +kernel)
end MX


set_option Elab.async false
set_option linter.all false
set_option maxRecDepth 100000
set_option maxHeartbeats 0
namespace MX
open PySem L2
theorem tC2_0 : (eBl (dBin fNe (dCall (purD m_least_pairs) 3 (dCons (dMake 0 mi_Archive 2 (dCons (dTup (dCons (dC (.int 3)) dNil)) dNil)) (dCons (dC (.int 2)) (dCons (dC (.int 4)) dNil)))) (dOfL (dLst (dCons (dTup (dCons (dC (.int 0)) (dCons (dC (.int 0)) dNil))) dNil))))) rC1 [] = .ok false [] := isF_ok (by decide +kernel)
end MX


set_option Elab.async false
set_option linter.all false
set_option maxRecDepth 100000
set_option maxHeartbeats 0
namespace MX
open PySem L2
theorem tC2_1 : (eBl (dBin fNe (dFld 3 0 (dCall (purD m_choose) 4 (dCons (dMake 0 mi_Archive 2 (dCons (dTup (dCons (dC (.int 3)) dNil)) dNil)) (dCons (dC (.int 1)) (dCons (dC (.int 0)) (dCons (dC (.int 4)) dNil)))))) (dTup (dCons (dTup (dCons (dC (.int 0)) dNil)) (dCons (dTup dNil) dNil))))) rC1 [] = .ok false [] := isF_ok (by decide +kernel)
end MX


set_option Elab.async false
set_option linter.all false
set_option maxRecDepth 100000
set_option maxHeartbeats 0
namespace MX
open PySem L2
theorem tC2_2 : (eBl (dBin fNe (dCall (purD m_best_work) 4 (dCons (dVar 0) (dCons (dC (.int 2)) (dCons (dC (.int 1)) (dCons (dC (.int 0)) dNil))))) (dC (.int 0)))) rC1 [] = .ok false [] := isF_ok (by decide +kernel)
end MX


set_option Elab.async false
set_option linter.all false
set_option maxRecDepth 100000
set_option maxHeartbeats 0
namespace MX
open PySem L2
theorem tC2_3 : (eBl (dBin fNe (dFld 3 0 (dCall (purD m_choose) 4 (dCons (dVar 0) (dCons (dC (.int 0)) (dCons (dC (.int 0)) (dCons (dC (.int 0)) dNil)))))) (dTup (dCons (dTup (dCons (dC (.int 0)) (dCons (dC (.int 1)) (dCons (dC (.int 2)) dNil)))) (dCons (dTup dNil) dNil))))) rC1 [] = .ok false [] := isF_ok (by decide +kernel)
end MX


set_option Elab.async false
set_option linter.all false
set_option maxRecDepth 100000
set_option maxHeartbeats 0
namespace MX
open PySem L2
def rC4 : List Sl := nxt ((sAsgP (.tup (.cons (.nm 2) (.cons (.nm 3) .nil))) (dTup (dCons (dTup (dCons (dTup (dCons (dC (.int 0)) (dCons (dC (.int 1)) dNil))) (dCons (dTup dNil) (dCons (dTup dNil) (dCons (dC (.int 1)) dNil))))) (dCons (dTup (dCons (dTup (dCons (dC (.int 1)) (dCons (dC (.int 0)) dNil))) (dCons (dTup dNil) (dCons (dTup dNil) (dCons (dC (.int 1)) dNil))))) dNil)))) rC1 [])
theorem sC3 : (sAsgP (.tup (.cons (.nm 2) (.cons (.nm 3) .nil))) (dTup (dCons (dTup (dCons (dTup (dCons (dC (.int 0)) (dCons (dC (.int 1)) dNil))) (dCons (dTup dNil) (dCons (dTup dNil) (dCons (dC (.int 1)) dNil))))) (dCons (dTup (dCons (dTup (dCons (dC (.int 1)) (dCons (dC (.int 0)) dNil))) (dCons (dTup dNil) (dCons (dTup dNil) (dCons (dC (.int 1)) dNil))))) dNil)))) rC1 [] = .next rC4 [] := isNx_ok (by decide +kernel)
def rC5 : List Sl := nxt ((sAsg 4 (dDisp [((dVar 2), (dC (.int 2))), ((dTup (dCons (dTup (dCons (dC (.int 0)) dNil)) (dCons (dTup dNil) (dCons (dTup dNil) (dCons (dC (.int 0)) dNil))))), (dC (.int 0))), ((dTup (dCons (dTup (dCons (dC (.int 1)) dNil)) (dCons (dTup dNil) (dCons (dTup dNil) (dCons (dC (.int 0)) dNil))))), (dC (.int 0))), ((dTup (dCons (dTup (dCons (dC (.int 0)) (dCons (dC (.int 1)) dNil))) (dCons (dTup dNil) (dCons (dTup dNil) (dCons (dC (.int 0)) dNil))))), (dC (.int 0)))])) rC4 [])
theorem sC4 : (sAsg 4 (dDisp [((dVar 2), (dC (.int 2))), ((dTup (dCons (dTup (dCons (dC (.int 0)) dNil)) (dCons (dTup dNil) (dCons (dTup dNil) (dCons (dC (.int 0)) dNil))))), (dC (.int 0))), ((dTup (dCons (dTup (dCons (dC (.int 1)) dNil)) (dCons (dTup dNil) (dCons (dTup dNil) (dCons (dC (.int 0)) dNil))))), (dC (.int 0))), ((dTup (dCons (dTup (dCons (dC (.int 0)) (dCons (dC (.int 1)) dNil))) (dCons (dTup dNil) (dCons (dTup dNil) (dCons (dC (.int 0)) dNil))))), (dC (.int 0)))])) rC4 [] = .next rC5 [] := isNx_ok (by decide +kernel)
def rC6 : List Sl := nxt ((sAsg 5 (dDisp [((dVar 2), (dC (.int 2))), ((dVar 3), (dC (.int 2)))])) rC5 [])
theorem sC5 : (sAsg 5 (dDisp [((dVar 2), (dC (.int 2))), ((dVar 3), (dC (.int 2)))])) rC5 [] = .next rC6 [] := isNx_ok (by decide +kernel)
theorem tC6_0 : (eNot (eBl (dMeth 3 m_Choice_shows 5 (dMake 3 mi_Choice 5 (dCons (dTup (dCons (dTup (dCons (dC (.int 0)) (dCons (dC (.int 1)) dNil))) (dCons (dTup dNil) dNil))) (dCons (dC (.int 2)) (dCons (dVar 4) (dCons (dVar 5) dNil))))) (dCons (dVar 1) (dCons (dC (.int 0)) (dCons (dC (.int 0)) (dCons (dC (.int 1)) dNil))))))) rC6 [] = .ok false [] := isF_ok (by decide +kernel)
theorem tC6_1 : (eBl (dMeth 3 m_Choice_shows 5 (dMake 3 mi_Choice 5 (dCons (dTup (dCons (dTup (dCons (dC (.int 1)) (dCons (dC (.int 0)) dNil))) (dCons (dTup dNil) dNil))) (dCons (dC (.int 2)) (dCons (dVar 4) (dCons (dVar 5) dNil))))) (dCons (dVar 1) (dCons (dC (.int 0)) (dCons (dC (.int 0)) (dCons (dC (.int 1)) dNil)))))) rC6 [] = .ok false [] := isF_ok (by decide +kernel)
theorem tC6_2 : (eBl (dMeth 3 m_Choice_shows 5 (dMake 3 mi_Choice 5 (dCons (dTup (dCons (dTup (dCons (dC (.int 0)) (dCons (dC (.int 1)) dNil))) (dCons (dTup dNil) dNil))) (dCons (dC (.int 2)) (dCons (dVar 4) (dCons (dDOne (dVar 2) (dC (.int 2))) dNil))))) (dCons (dVar 1) (dCons (dC (.int 0)) (dCons (dC (.int 0)) (dCons (dC (.int 1)) dNil)))))) rC6 [] = .ok false [] := isF_ok (by decide +kernel)
theorem tC7_0 : (eBl (dMeth 3 m_Choice_shows 5 (dMake 3 mi_Choice 5 (dCons (dTup (dCons (dTup (dCons (dC (.int 0)) (dCons (dC (.int 1)) dNil))) (dCons (dTup (dCons (dC (.int 1)) dNil)) dNil))) (dCons (dC (.int 2)) (dCons (dVar 4) (dCons (dVar 5) dNil))))) (dCons (dVar 1) (dCons (dC (.int 0)) (dCons (dC (.int 0)) (dCons (dC (.int 1)) dNil)))))) rC6 [] = .ok false [] := isF_ok (by decide +kernel)
theorem tC7_1 : (eBl (dMeth 3 m_Choice_shows 5 (dMake 3 mi_Choice 5 (dCons (dTup (dCons (dTup (dCons (dC (.int 0)) dNil)) (dCons (dTup dNil) dNil))) (dCons (dC (.int 2)) (dCons (dVar 4) (dCons (dVar 5) dNil))))) (dCons (dVar 1) (dCons (dC (.int 0)) (dCons (dC (.int 0)) (dCons (dC (.int 1)) dNil)))))) rC6 [] = .ok false [] := isF_ok (by decide +kernel)
theorem tC7_2 : (eBl (dMeth 3 m_Choice_shows 5 (dMake 3 mi_Choice 5 (dCons (dTup (dCons (dTup (dCons (dC (.int 0)) (dCons (dC (.int 1)) dNil))) (dCons (dTup dNil) dNil))) (dCons (dC (.int 3)) (dCons (dVar 4) (dCons (dDisp [((dVar 2), (dC (.int 3))), ((dVar 3), (dC (.int 3)))]) dNil))))) (dCons (dVar 1) (dCons (dC (.int 0)) (dCons (dC (.int 0)) (dCons (dC (.int 1)) dNil)))))) rC6 [] = .ok false [] := isF_ok (by decide +kernel)
def rC9 : List Sl := nxt ((sAsg 6 (dDisp [((dTup (dCons (dTup (dCons (dC (.int 0)) dNil)) (dCons (dTup dNil) (dCons (dTup dNil) (dCons (dC (.int 1)) dNil))))), (dC (.int 0))), ((dTup (dCons (dTup (dCons (dC (.int 0)) dNil)) (dCons (dTup dNil) (dCons (dTup dNil) (dCons (dC (.int 0)) dNil))))), (dC (.int 0))), ((dTup (dCons (dTup dNil) (dCons (dTup dNil) (dCons (dTup dNil) (dCons (dC (.int 0)) dNil))))), (dC (.int 0)))])) rC6 [])
theorem sC8 : (sAsg 6 (dDisp [((dTup (dCons (dTup (dCons (dC (.int 0)) dNil)) (dCons (dTup dNil) (dCons (dTup dNil) (dCons (dC (.int 1)) dNil))))), (dC (.int 0))), ((dTup (dCons (dTup (dCons (dC (.int 0)) dNil)) (dCons (dTup dNil) (dCons (dTup dNil) (dCons (dC (.int 0)) dNil))))), (dC (.int 0))), ((dTup (dCons (dTup dNil) (dCons (dTup dNil) (dCons (dTup dNil) (dCons (dC (.int 0)) dNil))))), (dC (.int 0)))])) rC6 [] = .next rC9 [] := isNx_ok (by decide +kernel)
theorem tC9_0 : (eBl (dMeth 3 m_Choice_shows 5 (dMake 3 mi_Choice 5 (dCons (dTup (dCons (dTup (dCons (dC (.int 0)) dNil)) (dCons (dTup dNil) dNil))) (dCons (dC (.int 0)) (dCons (dVar 6) (dCons dDEmp dNil))))) (dCons (dVar 1) (dCons (dC (.int 0)) (dCons (dC (.int 0)) (dCons (dC (.int 1)) dNil)))))) rC9 [] = .ok false [] := isF_ok (by decide +kernel)
theorem tC9_1 : (eNot (eBl (dMeth 3 m_Choice_shows 5 (dMake 3 mi_Choice 5 (dCons (dTup (dCons (dTup (dCons (dC (.int 0)) dNil)) (dCons (dTup dNil) dNil))) (dCons (dC (.int 0)) (dCons (dVar 6) (dCons dDEmp dNil))))) (dCons (dMake 0 mi_Archive 2 (dCons (dTup (dCons (dC (.int 2)) dNil)) dNil)) (dCons (dC (.int 0)) (dCons (dC (.int 0)) (dCons (dC (.int 1)) dNil))))))) rC9 [] = .ok false [] := isF_ok (by decide +kernel)
end MX


set_option Elab.async false
set_option linter.all false
set_option maxRecDepth 100000
set_option maxHeartbeats 0
namespace MX
open PySem L2
theorem eC : isRt ((sSeq (sPar 7 8 (dDictCC (dVar 4)) (dDictCC (dVar 5))) (sSeq (sAsg 9 (dMake 3 mi_Choice 5 (dCons (dTup (dCons (dTup (dCons (dC (.int 0)) (dCons (dC (.int 1)) dNil))) (dCons (dTup dNil) dNil))) (dCons (dC (.int 2)) (dCons (dVar 7) (dCons (dVar 8) dNil)))))) (sSeq (sDrop (dClear (dVar 7))) (sSeq (sDrop (dClear (dVar 8))) (sRet (dAnd (dBin fEq (dLenD (dFld 3 2 (dVar 9))) (dC (.int 4))) (dAnd (dBin fEq (dLenD (dFld 3 3 (dVar 9))) (dC (.int 2))) (dAnd (dEqO false 3 m_Choice___eq (dVar 9) (dMake 3 mi_Choice 5 (dCons (dTup (dCons (dTup (dCons (dC (.int 0)) (dCons (dC (.int 1)) dNil))) (dCons (dTup dNil) dNil))) (dCons (dC (.int 2)) (dCons (dVar 4) (dCons (dVar 5) dNil)))))) (dEqO true 3 m_Choice___eq (dVar 9) (dMake 3 mi_Choice 5 (dCons (dTup (dCons (dTup (dCons (dC (.int 1)) (dCons (dC (.int 0)) dNil))) (dCons (dTup dNil) dNil))) (dCons (dC (.int 2)) (dCons (dVar 4) (dCons (dVar 5) dNil)))))))))))))) rC9 []) = true := by decide +kernel
theorem choice_ok : ∃ s, m_u_law_choices_right [arc3] [] = .ok (.bl true) s := by
  obtain ⟨s, e⟩ := isRt_ex eC
  refine ⟨s, ?_⟩
  unfold m_u_law_choices_right
  refine fn_ret ?_
  unfold x_u_law_choices_right
  refine seq_ok sC0 ?_
  refine seq_ok (sif_no (or_ok (k := false) tC1_0 (or_ok (k := false) tC1_1 (or_ok (k := false) tC1_2 tC1_3))) rfl) ?_
  refine seq_ok (sif_no (or_ok (k := false) tC2_0 (or_ok (k := false) tC2_1 (or_ok (k := false) tC2_2 tC2_3))) rfl) ?_
  refine seq_ok sC3 ?_
  refine seq_ok sC4 ?_
  refine seq_ok sC5 ?_
  refine seq_ok (sif_no (or_ok (k := false) tC6_0 (or_ok (k := false) tC6_1 tC6_2)) rfl) ?_
  refine seq_ok (sif_no (or_ok (k := false) tC7_0 (or_ok (k := false) tC7_1 tC7_2)) rfl) ?_
  refine seq_ok sC8 ?_
  refine seq_ok (sif_no (or_ok (k := false) tC9_0 tC9_1) rfl) ?_
  exact e
end MX


set_option Elab.async false
set_option linter.all false
set_option maxRecDepth 100000
set_option maxHeartbeats 0
namespace MX
open PySem L2
theorem law_true (ns : List Int) (hl : ns.length ≤ 63) (hb : ∀ z ∈ ns, PySem.Builtin.Int.intBits z ≤ 1048576) : ∃ s, m_law [.ro (ns.map D.int)] [] = .ok (.bl true) s := by
  obtain ⟨s1, h1⟩ := totals_ok
  obtain ⟨s2, h2⟩ := choice_ok
  refine ⟨[], ?_⟩
  unfold m_law
  refine fn_ret ?_
  unfold x_law
  have mk : dMake 0 mi_Archive 2 (dCons (dTup (dCons (dC (.int 2)) (dCons (dC (.int 1)) (dCons (dC (.int 3)) dNil)))) dNil) (startR N_law.length [.ro (ns.map D.int)]) [] = .ok arc3 [] := rfl
  refine seq_ok (asg_ok mk) ?_
  refine seq_ok (sif_no (s1 := []) (or_ok (k := false) (s1 := []) (s2 := []) (not_ok (k := true) (bl_ok (call_ok (ds := [arc3]) (cons_ok (var_ok rfl) nil_ok) rfl ?_))) (not_ok (k := true) (bl_ok (call_ok (ds := [arc3]) (cons_ok (var_ok rfl) nil_ok) rfl ?_)))) rfl) ?_
  · exact pur_ok noC_arc (okE_ex works_ok)
  · exact pur_ok noC_arc (okE_ex play_ok)
  refine ret_ok (andV_yes (call_ok (ds := [arc3]) (cons_ok (var_ok rfl) nil_ok) rfl (purD_ok noC_arc h1 rfl)) (andV_yes (call_ok (ds := [arc3]) (cons_ok (var_ok rfl) nil_ok) rfl (purD_ok noC_arc h2 rfl)) ?_))
  exact cb_ok (ds := [.ro (ns.map D.int), .ty "list"]) (cons_ok (var_ok rfl) (cons_ok rfl nil_ok)) rfl
end MX


set_option Elab.async false
set_option linter.all false
set_option maxRecDepth 100000
set_option maxHeartbeats 4000000
namespace MX
open PySem PySem.Spec PyProof.Rows L2
theorem cls_0 {K : PySem.W.Frag} {mg : Str → Option Value} {h : Heap} {p : Prop} {C0 : Addr} {f3302 : Addr} {oc3302 : Value} {od3302 an3302 : Option Addr} {osl3302 : Array (Option Value)} {kV3302 dc3302 pm3302 cd3302 ct3302 : Value} {f3304 : Addr} {oc3304 : Value} {od3304 an3304 : Option Addr} {osl3304 : Array (Option Value)} {kV3304 dc3304 pm3304 cd3304 ct3304 : Value} {f3303 : Addr} {oc3303 : Value} {od3303 an3303 : Option Addr} {osl3303 : Array (Option Value)} {kV3303 dc3303 pm3303 cd3303 ct3303 : Value} {f3301 : Addr} {oc3301 : Value} {od3301 an3301 : Option Addr} {osl3301 : Array (Option Value)} {kV3301 dc3301 pm3301 cd3301 ct3301 : Value} {p3301 : Addr} {rest3301 : List Value} {f3300 : Addr} {oc3300 : Value} {od3300 an3300 : Option Addr} {osl3300 : Array (Option Value)} {kV3300 dc3300 pm3300 cd3300 ct3300 : Value} (X : K.In h) (G : h.Ns mainGlobals mg) (aC : PySem.W.nsIn K mainGlobals "Archive" = some (some (.ref C0))) (mk : PySem.W.makesIn K C0 = true) (kp : PySem.W.keepIn K (.ref C0) = true) (pg : PySem.W.plainGet K C0 Str.empty = true) (hd : PySem.W.hasDictIn K C0 = true) (po : PySem.W.plainOver K C0 = true) (sa : PySem.W.findIn K (.ref C0) "__setattr__" = some (some (.builtin "object.__setattr__"))) (ca : PySem.W.findIn K (.ref C0) "__class__" = some (some (.builtin "object.__class__"))) (cn : PySem.W.specialIn K (.builtin "object.__class__") "__get__" = some (some (.builtin "getset_descriptor.__get__"))) (ct : PySem.W.takesIn K (.builtin "object.__class__") = some true) (cm : PySem.W.mroIn K C0 (.type "object") = some true) (b0 : PySem.W.kitOne K (.type "NoneType") (.ref C0) = some false) (b1 : PySem.W.kitOne K (.type "bool") (.ref C0) = some false) (b2 : PySem.W.kitOne K (.type "int") (.ref C0) = some false) (b3 : PySem.W.kitOne K (.type "str") (.ref C0) = some false) (b4 : PySem.W.kitOne K (.type "list") (.ref C0) = some false) (b5 : PySem.W.kitOne K (.type "tuple") (.ref C0) = some false) (na__sizes : PySem.W.findIn K (.ref C0) "_sizes" = some none) (na_archive : PySem.W.findIn K (.ref C0) "archive" = some none) (na_bound : PySem.W.findIn K (.ref C0) "bound" = some none) (na_build : PySem.W.findIn K (.ref C0) "build" = some none) (na_delay : PySem.W.findIn K (.ref C0) "delay" = some none) (na_floors : PySem.W.findIn K (.ref C0) "floors" = some none) (na_heights : PySem.W.findIn K (.ref C0) "heights" = some none) (na_room : PySem.W.findIn K (.ref C0) "room" = some none) (hn : PySem.W.findIn K (.ref C0) "__ne__" = some (some (.builtin "object.__ne__"))) (a3302 : PySem.W.findIn K (.ref C0) "__iter__" = some (some (.ref f3302))) (l3302 : K.lookup f3302 = some ⟨oc3302, od3302, .func (PySem.W.fnOf "__iter__" "Archive.__iter__" (defArgs st_Archive___iter) (defBody st_Archive___iter) (defScope st_Archive___iter) .none kV3302 dc3302 pm3302 an3302 cd3302 ct3302), osl3302⟩) (c3302 : PySem.W.codeIn K cd3302 "Archive.__iter__" = true) (k3302 : PySem.W.keepIn K (.ref f3302) = true) (i3302 : PySem.W.isFn K (.ref f3302) = true) (a3304 : PySem.W.findIn K (.ref C0) "__eq__" = some (some (.ref f3304))) (l3304 : K.lookup f3304 = some ⟨oc3304, od3304, .func (PySem.W.fnOf "__eq__" "Archive.__eq__" (defArgs st_Archive___eq) (defBody st_Archive___eq) (defScope st_Archive___eq) .none kV3304 dc3304 pm3304 an3304 cd3304 ct3304), osl3304⟩) (c3304 : PySem.W.codeIn K cd3304 "Archive.__eq__" = true) (k3304 : PySem.W.keepIn K (.ref f3304) = true) (i3304 : PySem.W.isFn K (.ref f3304) = true) (a3303 : PySem.W.findIn K (.ref C0) "__len__" = some (some (.ref f3303))) (l3303 : K.lookup f3303 = some ⟨oc3303, od3303, .func (PySem.W.fnOf "__len__" "Archive.__len__" (defArgs st_Archive___len) (defBody st_Archive___len) (defScope st_Archive___len) .none kV3303 dc3303 pm3303 an3303 cd3303 ct3303), osl3303⟩) (c3303 : PySem.W.codeIn K cd3303 "Archive.__len__" = true) (k3303 : PySem.W.keepIn K (.ref f3303) = true) (i3303 : PySem.W.isFn K (.ref f3303) = true) (a3301 : PySem.W.findIn K (.ref C0) "sizes" = some (some (.ref p3301))) (g3301 : PySem.W.specialIn K (.ref p3301) "__get__" = some (some (.builtin "property.__get__"))) (t3301 : PySem.W.takesIn K (.ref p3301) = some true) (r3301 : PySem.W.recIn K p3301 "property" = some (.ref f3301 :: rest3301)) (l3301 : K.lookup f3301 = some ⟨oc3301, od3301, .func (PySem.W.fnOf "sizes" "Archive.sizes" (defArgs st_Archive_sizes) (defBody st_Archive_sizes) (defScope st_Archive_sizes) .none kV3301 dc3301 pm3301 an3301 cd3301 ct3301), osl3301⟩) (c3301 : PySem.W.codeIn K cd3301 "Archive.sizes" = true) (k3301 : PySem.W.keepIn K (.ref f3301) = true) (a3300 : PySem.W.findIn K (.ref C0) "__init__" = some (some (.ref f3300))) (l3300 : K.lookup f3300 = some ⟨oc3300, od3300, .func (PySem.W.fnOf "__init__" "Archive.__init__" (defArgs st_Archive___init) (defBody st_Archive___init) (defScope st_Archive___init) .none kV3300 dc3300 pm3300 an3300 cd3300 ct3300), osl3300⟩) (c3300 : PySem.W.codeIn K cd3300 "Archive.__init__" = true) (k3300 : PySem.W.keepIn K (.ref f3300) = true) (i3300 : PySem.W.isFn K (.ref f3300) = true)
    (go : ∀ (C : Addr) (f3302 : Addr) (dd3302 : FuncData) (f3304 : Addr) (dd3304 : FuncData) (f3303 : Addr) (dd3303 : FuncData) (f3301 : Addr) (dd3301 : FuncData) (p3301 : Addr) (f3300 : Addr) (dd3300 : FuncData), mg "Archive" = some (.ref C) → PySem.W.makesIn K C = true → PySem.W.keepIn K (.ref C) = true → KFacts K C → NoAttr K C "_sizes" → NoAttr K C "archive" → NoAttr K C "bound" → NoAttr K C "build" → NoAttr K C "delay" → NoAttr K C "floors" → NoAttr K C "heights" → NoAttr K C "room" → PySem.W.findIn K (.ref C) "__ne__" = some (some (.builtin "object.__ne__")) → Fun K "__iter__" "Archive.__iter__" st_Archive___iter f3302 dd3302 → PySem.W.findIn K (.ref C) "__iter__" = some (some (.ref f3302)) → PySem.W.isFn K (.ref f3302) = true → Fun K "__eq__" "Archive.__eq__" st_Archive___eq f3304 dd3304 → PySem.W.findIn K (.ref C) "__eq__" = some (some (.ref f3304)) → PySem.W.isFn K (.ref f3304) = true → Fun K "__len__" "Archive.__len__" st_Archive___len f3303 dd3303 → PySem.W.findIn K (.ref C) "__len__" = some (some (.ref f3303)) → PySem.W.isFn K (.ref f3303) = true → Fun K "sizes" "Archive.sizes" st_Archive_sizes f3301 dd3301 → PropOf K C "sizes" p3301 f3301 → Fun K "__init__" "Archive.__init__" st_Archive___init f3300 dd3300 → PySem.W.findIn K (.ref C) "__init__" = some (some (.ref f3300)) → PySem.W.isFn K (.ref f3300) = true → p) : p :=
  go C0 f3302 _ f3304 _ f3303 _ f3301 _ p3301 f3300 _ (PySem.W.mg_of X G aC) mk kp ⟨pg, hd, po, sa, ca, cn, ct, cm, b0, b1, b2, b3, b4, b5⟩ na__sizes na_archive na_bound na_build na_delay na_floors na_heights na_room hn (fun_mk l3302 c3302 k3302) a3302 i3302 (fun_mk l3304 c3304 k3304) a3304 i3304 (fun_mk l3303 c3303 k3303) a3303 i3303 (fun_mk l3301 c3301 k3301) ⟨a3301, g3301, t3301, ⟨rest3301, r3301⟩⟩ (fun_mk l3300 c3300 k3300) a3300 i3300
theorem cls_1 {K : PySem.W.Frag} {mg : Str → Option Value} {h : Heap} {p : Prop} {C1 : Addr} {f6602 : Addr} {oc6602 : Value} {od6602 an6602 : Option Addr} {osl6602 : Array (Option Value)} {kV6602 dc6602 pm6602 cd6602 ct6602 : Value} {f6601 : Addr} {oc6601 : Value} {od6601 an6601 : Option Addr} {osl6601 : Array (Option Value)} {kV6601 dc6601 pm6601 cd6601 ct6601 : Value} {f6600 : Addr} {oc6600 : Value} {od6600 an6600 : Option Addr} {osl6600 : Array (Option Value)} {kV6600 dc6600 pm6600 cd6600 ct6600 : Value} (X : K.In h) (G : h.Ns mainGlobals mg) (aC : PySem.W.nsIn K mainGlobals "Play" = some (some (.ref C1))) (mk : PySem.W.makesIn K C1 = true) (kp : PySem.W.keepIn K (.ref C1) = true) (pg : PySem.W.plainGet K C1 Str.empty = true) (hd : PySem.W.hasDictIn K C1 = true) (po : PySem.W.plainOver K C1 = true) (sa : PySem.W.findIn K (.ref C1) "__setattr__" = some (some (.builtin "object.__setattr__"))) (ca : PySem.W.findIn K (.ref C1) "__class__" = some (some (.builtin "object.__class__"))) (cn : PySem.W.specialIn K (.builtin "object.__class__") "__get__" = some (some (.builtin "getset_descriptor.__get__"))) (ct : PySem.W.takesIn K (.builtin "object.__class__") = some true) (cm : PySem.W.mroIn K C1 (.type "object") = some true) (b0 : PySem.W.kitOne K (.type "NoneType") (.ref C1) = some false) (b1 : PySem.W.kitOne K (.type "bool") (.ref C1) = some false) (b2 : PySem.W.kitOne K (.type "int") (.ref C1) = some false) (b3 : PySem.W.kitOne K (.type "str") (.ref C1) = some false) (b4 : PySem.W.kitOne K (.type "list") (.ref C1) = some false) (b5 : PySem.W.kitOne K (.type "tuple") (.ref C1) = some false) (na__sizes : PySem.W.findIn K (.ref C1) "_sizes" = some none) (na_archive : PySem.W.findIn K (.ref C1) "archive" = some none) (na_bound : PySem.W.findIn K (.ref C1) "bound" = some none) (na_build : PySem.W.findIn K (.ref C1) "build" = some none) (na_delay : PySem.W.findIn K (.ref C1) "delay" = some none) (na_floors : PySem.W.findIn K (.ref C1) "floors" = some none) (na_heights : PySem.W.findIn K (.ref C1) "heights" = some none) (na_room : PySem.W.findIn K (.ref C1) "room" = some none) (a6602 : PySem.W.findIn K (.ref C1) "moves" = some (some (.ref f6602))) (l6602 : K.lookup f6602 = some ⟨oc6602, od6602, .func (PySem.W.fnOf "moves" "Play.moves" (defArgs st_Play_moves) (defBody st_Play_moves) (defScope st_Play_moves) .none kV6602 dc6602 pm6602 an6602 cd6602 ct6602), osl6602⟩) (c6602 : PySem.W.codeIn K cd6602 "Play.moves" = true) (k6602 : PySem.W.keepIn K (.ref f6602) = true) (i6602 : PySem.W.isFn K (.ref f6602) = true) (a6601 : PySem.W.findIn K (.ref C1) "has" = some (some (.ref f6601))) (l6601 : K.lookup f6601 = some ⟨oc6601, od6601, .func (PySem.W.fnOf "has" "Play.has" (defArgs st_Play_has) (defBody st_Play_has) (defScope st_Play_has) .none kV6601 dc6601 pm6601 an6601 cd6601 ct6601), osl6601⟩) (c6601 : PySem.W.codeIn K cd6601 "Play.has" = true) (k6601 : PySem.W.keepIn K (.ref f6601) = true) (i6601 : PySem.W.isFn K (.ref f6601) = true) (a6600 : PySem.W.findIn K (.ref C1) "__init__" = some (some (.ref f6600))) (l6600 : K.lookup f6600 = some ⟨oc6600, od6600, .func (PySem.W.fnOf "__init__" "Play.__init__" (defArgs st_Play___init) (defBody st_Play___init) (defScope st_Play___init) .none kV6600 dc6600 pm6600 an6600 cd6600 ct6600), osl6600⟩) (c6600 : PySem.W.codeIn K cd6600 "Play.__init__" = true) (k6600 : PySem.W.keepIn K (.ref f6600) = true) (i6600 : PySem.W.isFn K (.ref f6600) = true)
    (go : ∀ (C : Addr) (f6602 : Addr) (dd6602 : FuncData) (f6601 : Addr) (dd6601 : FuncData) (f6600 : Addr) (dd6600 : FuncData), mg "Play" = some (.ref C) → PySem.W.makesIn K C = true → PySem.W.keepIn K (.ref C) = true → KFacts K C → NoAttr K C "_sizes" → NoAttr K C "archive" → NoAttr K C "bound" → NoAttr K C "build" → NoAttr K C "delay" → NoAttr K C "floors" → NoAttr K C "heights" → NoAttr K C "room" → Fun K "moves" "Play.moves" st_Play_moves f6602 dd6602 → PySem.W.findIn K (.ref C) "moves" = some (some (.ref f6602)) → PySem.W.isFn K (.ref f6602) = true → Fun K "has" "Play.has" st_Play_has f6601 dd6601 → PySem.W.findIn K (.ref C) "has" = some (some (.ref f6601)) → PySem.W.isFn K (.ref f6601) = true → Fun K "__init__" "Play.__init__" st_Play___init f6600 dd6600 → PySem.W.findIn K (.ref C) "__init__" = some (some (.ref f6600)) → PySem.W.isFn K (.ref f6600) = true → p) : p :=
  go C1 f6602 _ f6601 _ f6600 _ (PySem.W.mg_of X G aC) mk kp ⟨pg, hd, po, sa, ca, cn, ct, cm, b0, b1, b2, b3, b4, b5⟩ na__sizes na_archive na_bound na_build na_delay na_floors na_heights na_room (fun_mk l6602 c6602 k6602) a6602 i6602 (fun_mk l6601 c6601 k6601) a6601 i6601 (fun_mk l6600 c6600 k6600) a6600 i6600
theorem cls_2 {K : PySem.W.Frag} {mg : Str → Option Value} {h : Heap} {p : Prop} {C2 : Addr} {f7101 : Addr} {oc7101 : Value} {od7101 an7101 : Option Addr} {osl7101 : Array (Option Value)} {kV7101 dc7101 pm7101 cd7101 ct7101 : Value} {f7100 : Addr} {oc7100 : Value} {od7100 an7100 : Option Addr} {osl7100 : Array (Option Value)} {kV7100 dc7100 pm7100 cd7100 ct7100 : Value} {f7102 : Addr} {oc7102 : Value} {od7102 an7102 : Option Addr} {osl7102 : Array (Option Value)} {kV7102 dc7102 pm7102 cd7102 ct7102 : Value} (X : K.In h) (G : h.Ns mainGlobals mg) (aC : PySem.W.nsIn K mainGlobals "Total" = some (some (.ref C2))) (mk : PySem.W.makesIn K C2 = true) (kp : PySem.W.keepIn K (.ref C2) = true) (pg : PySem.W.plainGet K C2 Str.empty = true) (hd : PySem.W.hasDictIn K C2 = true) (po : PySem.W.plainOver K C2 = true) (sa : PySem.W.findIn K (.ref C2) "__setattr__" = some (some (.builtin "object.__setattr__"))) (ca : PySem.W.findIn K (.ref C2) "__class__" = some (some (.builtin "object.__class__"))) (cn : PySem.W.specialIn K (.builtin "object.__class__") "__get__" = some (some (.builtin "getset_descriptor.__get__"))) (ct : PySem.W.takesIn K (.builtin "object.__class__") = some true) (cm : PySem.W.mroIn K C2 (.type "object") = some true) (b0 : PySem.W.kitOne K (.type "NoneType") (.ref C2) = some false) (b1 : PySem.W.kitOne K (.type "bool") (.ref C2) = some false) (b2 : PySem.W.kitOne K (.type "int") (.ref C2) = some false) (b3 : PySem.W.kitOne K (.type "str") (.ref C2) = some false) (b4 : PySem.W.kitOne K (.type "list") (.ref C2) = some false) (b5 : PySem.W.kitOne K (.type "tuple") (.ref C2) = some false) (na__sizes : PySem.W.findIn K (.ref C2) "_sizes" = some none) (na_archive : PySem.W.findIn K (.ref C2) "archive" = some none) (na_bound : PySem.W.findIn K (.ref C2) "bound" = some none) (na_build : PySem.W.findIn K (.ref C2) "build" = some none) (na_delay : PySem.W.findIn K (.ref C2) "delay" = some none) (na_floors : PySem.W.findIn K (.ref C2) "floors" = some none) (na_heights : PySem.W.findIn K (.ref C2) "heights" = some none) (na_room : PySem.W.findIn K (.ref C2) "room" = some none) (hn : PySem.W.findIn K (.ref C2) "__ne__" = some (some (.builtin "object.__ne__"))) (a7101 : PySem.W.findIn K (.ref C2) "__eq__" = some (some (.ref f7101))) (l7101 : K.lookup f7101 = some ⟨oc7101, od7101, .func (PySem.W.fnOf "__eq__" "Total.__eq__" (defArgs st_Total___eq) (defBody st_Total___eq) (defScope st_Total___eq) .none kV7101 dc7101 pm7101 an7101 cd7101 ct7101), osl7101⟩) (c7101 : PySem.W.codeIn K cd7101 "Total.__eq__" = true) (k7101 : PySem.W.keepIn K (.ref f7101) = true) (i7101 : PySem.W.isFn K (.ref f7101) = true) (a7100 : PySem.W.findIn K (.ref C2) "__init__" = some (some (.ref f7100))) (l7100 : K.lookup f7100 = some ⟨oc7100, od7100, .func (PySem.W.fnOf "__init__" "Total.__init__" (defArgs st_Total___init) (defBody st_Total___init) (defScope st_Total___init) .none kV7100 dc7100 pm7100 an7100 cd7100 ct7100), osl7100⟩) (c7100 : PySem.W.codeIn K cd7100 "Total.__init__" = true) (k7100 : PySem.W.keepIn K (.ref f7100) = true) (i7100 : PySem.W.isFn K (.ref f7100) = true) (a7102 : PySem.W.findIn K (.ref C2) "shows" = some (some (.ref f7102))) (l7102 : K.lookup f7102 = some ⟨oc7102, od7102, .func (PySem.W.fnOf "shows" "Total.shows" (defArgs st_Total_shows) (defBody st_Total_shows) (defScope st_Total_shows) .none kV7102 dc7102 pm7102 an7102 cd7102 ct7102), osl7102⟩) (c7102 : PySem.W.codeIn K cd7102 "Total.shows" = true) (k7102 : PySem.W.keepIn K (.ref f7102) = true) (i7102 : PySem.W.isFn K (.ref f7102) = true)
    (go : ∀ (C : Addr) (f7101 : Addr) (dd7101 : FuncData) (f7100 : Addr) (dd7100 : FuncData) (f7102 : Addr) (dd7102 : FuncData), mg "Total" = some (.ref C) → PySem.W.makesIn K C = true → PySem.W.keepIn K (.ref C) = true → KFacts K C → NoAttr K C "_sizes" → NoAttr K C "archive" → NoAttr K C "bound" → NoAttr K C "build" → NoAttr K C "delay" → NoAttr K C "floors" → NoAttr K C "heights" → NoAttr K C "room" → PySem.W.findIn K (.ref C) "__ne__" = some (some (.builtin "object.__ne__")) → Fun K "__eq__" "Total.__eq__" st_Total___eq f7101 dd7101 → PySem.W.findIn K (.ref C) "__eq__" = some (some (.ref f7101)) → PySem.W.isFn K (.ref f7101) = true → Fun K "__init__" "Total.__init__" st_Total___init f7100 dd7100 → PySem.W.findIn K (.ref C) "__init__" = some (some (.ref f7100)) → PySem.W.isFn K (.ref f7100) = true → Fun K "shows" "Total.shows" st_Total_shows f7102 dd7102 → PySem.W.findIn K (.ref C) "shows" = some (some (.ref f7102)) → PySem.W.isFn K (.ref f7102) = true → p) : p :=
  go C2 f7101 _ f7100 _ f7102 _ (PySem.W.mg_of X G aC) mk kp ⟨pg, hd, po, sa, ca, cn, ct, cm, b0, b1, b2, b3, b4, b5⟩ na__sizes na_archive na_bound na_build na_delay na_floors na_heights na_room hn (fun_mk l7101 c7101 k7101) a7101 i7101 (fun_mk l7100 c7100 k7100) a7100 i7100 (fun_mk l7102 c7102 k7102) a7102 i7102
theorem cls_3 {K : PySem.W.Frag} {mg : Str → Option Value} {h : Heap} {p : Prop} {C3 : Addr} {f7601 : Addr} {oc7601 : Value} {od7601 an7601 : Option Addr} {osl7601 : Array (Option Value)} {kV7601 dc7601 pm7601 cd7601 ct7601 : Value} {f7600 : Addr} {oc7600 : Value} {od7600 an7600 : Option Addr} {osl7600 : Array (Option Value)} {kV7600 dc7600 pm7600 cd7600 ct7600 : Value} {f7602 : Addr} {oc7602 : Value} {od7602 an7602 : Option Addr} {osl7602 : Array (Option Value)} {kV7602 dc7602 pm7602 cd7602 ct7602 : Value} (X : K.In h) (G : h.Ns mainGlobals mg) (aC : PySem.W.nsIn K mainGlobals "Choice" = some (some (.ref C3))) (mk : PySem.W.makesIn K C3 = true) (kp : PySem.W.keepIn K (.ref C3) = true) (pg : PySem.W.plainGet K C3 Str.empty = true) (hd : PySem.W.hasDictIn K C3 = true) (po : PySem.W.plainOver K C3 = true) (sa : PySem.W.findIn K (.ref C3) "__setattr__" = some (some (.builtin "object.__setattr__"))) (ca : PySem.W.findIn K (.ref C3) "__class__" = some (some (.builtin "object.__class__"))) (cn : PySem.W.specialIn K (.builtin "object.__class__") "__get__" = some (some (.builtin "getset_descriptor.__get__"))) (ct : PySem.W.takesIn K (.builtin "object.__class__") = some true) (cm : PySem.W.mroIn K C3 (.type "object") = some true) (b0 : PySem.W.kitOne K (.type "NoneType") (.ref C3) = some false) (b1 : PySem.W.kitOne K (.type "bool") (.ref C3) = some false) (b2 : PySem.W.kitOne K (.type "int") (.ref C3) = some false) (b3 : PySem.W.kitOne K (.type "str") (.ref C3) = some false) (b4 : PySem.W.kitOne K (.type "list") (.ref C3) = some false) (b5 : PySem.W.kitOne K (.type "tuple") (.ref C3) = some false) (na__sizes : PySem.W.findIn K (.ref C3) "_sizes" = some none) (na_archive : PySem.W.findIn K (.ref C3) "archive" = some none) (na_bound : PySem.W.findIn K (.ref C3) "bound" = some none) (na_build : PySem.W.findIn K (.ref C3) "build" = some none) (na_delay : PySem.W.findIn K (.ref C3) "delay" = some none) (na_floors : PySem.W.findIn K (.ref C3) "floors" = some none) (na_heights : PySem.W.findIn K (.ref C3) "heights" = some none) (na_room : PySem.W.findIn K (.ref C3) "room" = some none) (hn : PySem.W.findIn K (.ref C3) "__ne__" = some (some (.builtin "object.__ne__"))) (a7601 : PySem.W.findIn K (.ref C3) "__eq__" = some (some (.ref f7601))) (l7601 : K.lookup f7601 = some ⟨oc7601, od7601, .func (PySem.W.fnOf "__eq__" "Choice.__eq__" (defArgs st_Choice___eq) (defBody st_Choice___eq) (defScope st_Choice___eq) .none kV7601 dc7601 pm7601 an7601 cd7601 ct7601), osl7601⟩) (c7601 : PySem.W.codeIn K cd7601 "Choice.__eq__" = true) (k7601 : PySem.W.keepIn K (.ref f7601) = true) (i7601 : PySem.W.isFn K (.ref f7601) = true) (a7600 : PySem.W.findIn K (.ref C3) "__init__" = some (some (.ref f7600))) (l7600 : K.lookup f7600 = some ⟨oc7600, od7600, .func (PySem.W.fnOf "__init__" "Choice.__init__" (defArgs st_Choice___init) (defBody st_Choice___init) (defScope st_Choice___init) .none kV7600 dc7600 pm7600 an7600 cd7600 ct7600), osl7600⟩) (c7600 : PySem.W.codeIn K cd7600 "Choice.__init__" = true) (k7600 : PySem.W.keepIn K (.ref f7600) = true) (i7600 : PySem.W.isFn K (.ref f7600) = true) (a7602 : PySem.W.findIn K (.ref C3) "shows" = some (some (.ref f7602))) (l7602 : K.lookup f7602 = some ⟨oc7602, od7602, .func (PySem.W.fnOf "shows" "Choice.shows" (defArgs st_Choice_shows) (defBody st_Choice_shows) (defScope st_Choice_shows) .none kV7602 dc7602 pm7602 an7602 cd7602 ct7602), osl7602⟩) (c7602 : PySem.W.codeIn K cd7602 "Choice.shows" = true) (k7602 : PySem.W.keepIn K (.ref f7602) = true) (i7602 : PySem.W.isFn K (.ref f7602) = true)
    (go : ∀ (C : Addr) (f7601 : Addr) (dd7601 : FuncData) (f7600 : Addr) (dd7600 : FuncData) (f7602 : Addr) (dd7602 : FuncData), mg "Choice" = some (.ref C) → PySem.W.makesIn K C = true → PySem.W.keepIn K (.ref C) = true → KFacts K C → NoAttr K C "_sizes" → NoAttr K C "archive" → NoAttr K C "bound" → NoAttr K C "build" → NoAttr K C "delay" → NoAttr K C "floors" → NoAttr K C "heights" → NoAttr K C "room" → PySem.W.findIn K (.ref C) "__ne__" = some (some (.builtin "object.__ne__")) → Fun K "__eq__" "Choice.__eq__" st_Choice___eq f7601 dd7601 → PySem.W.findIn K (.ref C) "__eq__" = some (some (.ref f7601)) → PySem.W.isFn K (.ref f7601) = true → Fun K "__init__" "Choice.__init__" st_Choice___init f7600 dd7600 → PySem.W.findIn K (.ref C) "__init__" = some (some (.ref f7600)) → PySem.W.isFn K (.ref f7600) = true → Fun K "shows" "Choice.shows" st_Choice_shows f7602 dd7602 → PySem.W.findIn K (.ref C) "shows" = some (some (.ref f7602)) → PySem.W.isFn K (.ref f7602) = true → p) : p :=
  go C3 f7601 _ f7600 _ f7602 _ (PySem.W.mg_of X G aC) mk kp ⟨pg, hd, po, sa, ca, cn, ct, cm, b0, b1, b2, b3, b4, b5⟩ na__sizes na_archive na_bound na_build na_delay na_floors na_heights na_room hn (fun_mk l7601 c7601 k7601) a7601 i7601 (fun_mk l7600 c7600 k7600) a7600 i7600 (fun_mk l7602 c7602 k7602) a7602 i7602
theorem mk_Tx {K : PySem.W.Frag} {mg : Str → Option Value} {f12 f13 f14 f15 f63 f45 f46 f47 f27 f26 f48 f64 f61 f17 f18 f19 f20 f57 f58 f41 f59 f21 f22 f23 f24 f34 f35 f36 f37 f38 f39 f42 f43 f44 f49 f50 f54 f55 f56 f60 f62 f65 f67 f68 f72 f73 f74 f77 f78 f79 f80 f81 f83 f84 f85 f86 f87 f3302 f3304 f3303 f3301 f3300 f6602 f6601 f6600 f7101 f7100 f7102 f7601 f7600 f7602 p3301 C0 C1 C2 C3 : Addr} {dd12 dd13 dd14 dd15 dd63 dd45 dd46 dd47 dd27 dd26 dd48 dd64 dd61 dd17 dd18 dd19 dd20 dd57 dd58 dd41 dd59 dd21 dd22 dd23 dd24 dd34 dd35 dd36 dd37 dd38 dd39 dd42 dd43 dd44 dd49 dd50 dd54 dd55 dd56 dd60 dd62 dd65 dd67 dd68 dd72 dd73 dd74 dd77 dd78 dd79 dd80 dd81 dd83 dd84 dd85 dd86 dd87 dd3302 dd3304 dd3303 dd3301 dd3300 dd6602 dd6601 dd6600 dd7101 dd7100 dd7102 dd7601 dd7600 dd7602 : FuncData} (F12 : Fun K "is_integer" "is_integer" st_is_integer f12 dd12) (m12 : mg "is_integer" = some (.ref f12))
    (F13 : Fun K "is_within" "is_within" st_is_within f13 dd13) (m13 : mg "is_within" = some (.ref f13))
    (F14 : Fun K "is_tuple_within" "is_tuple_within" st_is_tuple_within f14 dd14) (m14 : mg "is_tuple_within" = some (.ref f14))
    (F15 : Fun K "is_ascending" "is_ascending" st_is_ascending f15 dd15) (m15 : mg "is_ascending" = some (.ref f15))
    (F63 : Fun K "pending_wishes" "pending_wishes" st_pending_wishes f63 dd63) (m63 : mg "pending_wishes" = some (.ref f63))
    (F45 : Fun K "base_of" "base_of" st_base_of f45 dd45) (m45 : mg "base_of" = some (.ref f45))
    (F46 : Fun K "built_again" "built_again" st_built_again f46 dd46) (m46 : mg "built_again" = some (.ref f46))
    (F47 : Fun K "forgetting_work" "forgetting_work" st_forgetting_work f47 dd47) (m47 : mg "forgetting_work" = some (.ref f47))
    (F27 : Fun K "all_choices" "all_choices" st_all_choices f27 dd27) (m27 : mg "all_choices" = some (.ref f27))
    (F26 : Fun K "all_orders" "all_orders" st_all_orders f26 dd26) (m26 : mg "all_orders" = some (.ref f26))
    (F48 : Fun K "builds_after" "builds_after" st_builds_after f48 dd48) (m48 : mg "builds_after" = some (.ref f48))
    (F64 : Fun K "possible_answers" "possible_answers" st_possible_answers f64 dd64) (m64 : mg "possible_answers" = some (.ref f64))
    (F61 : Fun K "possible_wishes" "possible_wishes" st_possible_wishes f61 dd61) (m61 : mg "possible_wishes" = some (.ref f61))
    (F17 : Fun K "comes_to_more" "comes_to_more" st_comes_to_more f17 dd17) (m17 : mg "comes_to_more" = some (.ref f17))
    (F18 : Fun K "least_from" "least_from" st_least_from f18 dd18) (m18 : mg "least_from" = some (.ref f18))
    (F19 : Fun K "is_enough_at" "is_enough_at" st_is_enough_at f19 dd19) (m19 : mg "is_enough_at" = some (.ref f19))
    (F20 : Fun K "is_needed_at" "is_needed_at" st_is_needed_at f20 dd20) (m20 : mg "is_needed_at" = some (.ref f20))
    (F57 : Fun K "is_waiting_wish" "is_waiting_wish" st_is_waiting_wish f57 dd57) (m57 : mg "is_waiting_wish" = some (.ref f57))
    (F58 : Fun K "are_waiting_wishes" "are_waiting_wishes" st_are_waiting_wishes f58 dd58) (m58 : mg "are_waiting_wishes" = some (.ref f58))
    (F41 : Fun K "is_build" "is_build" st_is_build f41 dd41) (m41 : mg "is_build" = some (.ref f41))
    (F59 : Fun K "is_position" "is_position" st_is_position f59 dd59) (m59 : mg "is_position" = some (.ref f59))
    (F21 : Fun K "are_heights" "are_heights" st_are_heights f21 dd21) (m21 : mg "are_heights" = some (.ref f21))
    (F22 : Fun K "are_floors" "are_floors" st_are_floors f22 dd22) (m22 : mg "are_floors" = some (.ref f22))
    (F23 : Fun K "copied" "copied" st_copied f23 dd23) (m23 : mg "copied" = some (.ref f23))
    (F24 : Fun K "just_enough" "just_enough" st_just_enough f24 dd24) (m24 : mg "just_enough" = some (.ref f24))
    (F34 : Fun K "check_archive" "check_archive" st_check_archive f34 dd34) (m34 : mg "check_archive" = some (.ref f34))
    (F35 : Fun K "check_room" "check_room" st_check_room f35 dd35) (m35 : mg "check_room" = some (.ref f35))
    (F36 : Fun K "check_few" "check_few" st_check_few f36 dd36) (m36 : mg "check_few" = some (.ref f36))
    (F37 : Fun K "people_of" "people_of" st_people_of f37 dd37) (m37 : mg "people_of" = some (.ref f37))
    (F38 : Fun K "builds_of" "builds_of" st_builds_of f38 dd38) (m38 : mg "builds_of" = some (.ref f38))
    (F39 : Fun K "builds" "builds" st_builds f39 dd39) (m39 : mg "builds" = some (.ref f39))
    (F42 : Fun K "check_build" "check_build" st_check_build f42 dd42) (m42 : mg "check_build" = some (.ref f42))
    (F43 : Fun K "are_people" "are_people" st_are_people f43 dd43) (m43 : mg "are_people" = some (.ref f43))
    (F44 : Fun K "check_forgetting" "check_forgetting" st_check_forgetting f44 dd44) (m44 : mg "check_forgetting" = some (.ref f44))
    (F49 : Fun K "work" "work" st_work f49 dd49) (m49 : mg "work" = some (.ref f49))
    (F50 : Fun K "after" "after" st_after f50 dd50) (m50 : mg "after" = some (.ref f50))
    (F54 : Fun K "check_delay" "check_delay" st_check_delay f54 dd54) (m54 : mg "check_delay" = some (.ref f54))
    (F55 : Fun K "check_ticks" "check_ticks" st_check_ticks f55 dd55) (m55 : mg "check_ticks" = some (.ref f55))
    (F56 : Fun K "check_play" "check_play" st_check_play f56 dd56) (m56 : mg "check_play" = some (.ref f56))
    (F60 : Fun K "check_position" "check_position" st_check_position f60 dd60) (m60 : mg "check_position" = some (.ref f60))
    (F62 : Fun K "is_wish" "is_wish" st_is_wish f62 dd62) (m62 : mg "is_wish" = some (.ref f62))
    (F65 : Fun K "start_of" "start_of" st_start_of f65 dd65) (m65 : mg "start_of" = some (.ref f65))
    (F67 : Fun K "wishes" "wishes" st_wishes f67 dd67) (m67 : mg "wishes" = some (.ref f67))
    (F68 : Fun K "answers" "answers" st_answers f68 dd68) (m68 : mg "answers" = some (.ref f68))
    (F72 : Fun K "begin" "begin" st_begin f72 dd72) (m72 : mg "begin" = some (.ref f72))
    (F73 : Fun K "total" "total" st_total f73 dd73) (m73 : mg "total" = some (.ref f73))
    (F74 : Fun K "least_work" "least_work" st_least_work f74 dd74) (m74 : mg "least_work" = some (.ref f74))
    (F77 : Fun K "check_choosing" "check_choosing" st_check_choosing f77 dd77) (m77 : mg "check_choosing" = some (.ref f77))
    (F78 : Fun K "is_whole_build" "is_whole_build" st_is_whole_build f78 dd78) (m78 : mg "is_whole_build" = some (.ref f78))
    (F79 : Fun K "choose" "choose" st_choose f79 dd79) (m79 : mg "choose" = some (.ref f79))
    (F80 : Fun K "best_work" "best_work" st_best_work f80 dd80) (m80 : mg "best_work" = some (.ref f80))
    (F81 : Fun K "least_pairs" "least_pairs" st_least_pairs f81 dd81) (m81 : mg "least_pairs" = some (.ref f81))
    (F83 : Fun K "_law_works_right" "_law_works_right" st_u_law_works_right f83 dd83) (m83 : mg "_law_works_right" = some (.ref f83))
    (F84 : Fun K "_law_play_right" "_law_play_right" st_u_law_play_right f84 dd84) (m84 : mg "_law_play_right" = some (.ref f84))
    (F85 : Fun K "_law_totals_right" "_law_totals_right" st_u_law_totals_right f85 dd85) (m85 : mg "_law_totals_right" = some (.ref f85))
    (F86 : Fun K "_law_choices_right" "_law_choices_right" st_u_law_choices_right f86 dd86) (m86 : mg "_law_choices_right" = some (.ref f86))
    (F87 : Fun K "law" "law" st_law f87 dd87) (m87 : mg "law" = some (.ref f87))
    (g29 : ∃ u, mg "MOST_PEOPLE" = some u ∧ RelV (.int 4) u)
    (g30 : ∃ u, mg "MOST_SIZE" = some u ∧ RelV (.int 4) u)
    (g31 : ∃ u, mg "MOST_ROOM" = some u ∧ RelV (.int 3) u)
    (g32 : ∃ u, mg "FEW_PEOPLE" = some u ∧ RelV (.int 3) u)
    (g52 : ∃ u, mg "MOST_DELAY" = some u ∧ RelV (.int 2) u)
    (g53 : ∃ u, mg "MOST_TICKS" = some u ∧ RelV (.int 4) u)
    (g70 : ∃ u, mg "MOST_POSITIONS" = some u ∧ RelV (.int 500) u)
    (z_all : mg "all" = none)
    (z_any : mg "any" = none)
    (z_bool : mg "bool" = none)
    (z_dict : mg "dict" = none)
    (z_int : mg "int" = none)
    (z_isinstance : mg "isinstance" = none)
    (z_iter : mg "iter" = none)
    (z_len : mg "len" = none)
    (z_list : mg "list" = none)
    (z_max : mg "max" = none)
    (z_min : mg "min" = none)
    (z_range : mg "range" = none)
    (z_sorted : mg "sorted" = none)
    (z_sum : mg "sum" = none)
    (z_tuple : mg "tuple" = none)
    (mc0 : mg "Archive" = some (.ref C0)) (cm0 : PySem.W.makesIn K C0 = true) (ck0 : PySem.W.keepIn K (.ref C0) = true) (cf0 : KFacts K C0)
    (na0__sizes : NoAttr K C0 "_sizes")
    (na0_archive : NoAttr K C0 "archive")
    (na0_bound : NoAttr K C0 "bound")
    (na0_build : NoAttr K C0 "build")
    (na0_delay : NoAttr K C0 "delay")
    (na0_floors : NoAttr K C0 "floors")
    (na0_heights : NoAttr K C0 "heights")
    (na0_room : NoAttr K C0 "room")
    (hn0 : PySem.W.findIn K (.ref C0) "__ne__" = some (some (.builtin "object.__ne__")))
    (F3302 : Fun K "__iter__" "Archive.__iter__" st_Archive___iter f3302 dd3302)
    (ha3302 : PySem.W.findIn K (.ref C0) "__iter__" = some (some (.ref f3302))) (hi3302 : PySem.W.isFn K (.ref f3302) = true)
    (F3304 : Fun K "__eq__" "Archive.__eq__" st_Archive___eq f3304 dd3304)
    (ha3304 : PySem.W.findIn K (.ref C0) "__eq__" = some (some (.ref f3304))) (hi3304 : PySem.W.isFn K (.ref f3304) = true)
    (F3303 : Fun K "__len__" "Archive.__len__" st_Archive___len f3303 dd3303)
    (ha3303 : PySem.W.findIn K (.ref C0) "__len__" = some (some (.ref f3303))) (hi3303 : PySem.W.isFn K (.ref f3303) = true)
    (F3301 : Fun K "sizes" "Archive.sizes" st_Archive_sizes f3301 dd3301)
    (pr3301 : PropOf K C0 "sizes" p3301 f3301)
    (F3300 : Fun K "__init__" "Archive.__init__" st_Archive___init f3300 dd3300)
    (ha3300 : PySem.W.findIn K (.ref C0) "__init__" = some (some (.ref f3300))) (hi3300 : PySem.W.isFn K (.ref f3300) = true)
    (mc1 : mg "Play" = some (.ref C1)) (cm1 : PySem.W.makesIn K C1 = true) (ck1 : PySem.W.keepIn K (.ref C1) = true) (cf1 : KFacts K C1)
    (na1__sizes : NoAttr K C1 "_sizes")
    (na1_archive : NoAttr K C1 "archive")
    (na1_bound : NoAttr K C1 "bound")
    (na1_build : NoAttr K C1 "build")
    (na1_delay : NoAttr K C1 "delay")
    (na1_floors : NoAttr K C1 "floors")
    (na1_heights : NoAttr K C1 "heights")
    (na1_room : NoAttr K C1 "room")
    (F6602 : Fun K "moves" "Play.moves" st_Play_moves f6602 dd6602)
    (ha6602 : PySem.W.findIn K (.ref C1) "moves" = some (some (.ref f6602))) (hi6602 : PySem.W.isFn K (.ref f6602) = true)
    (F6601 : Fun K "has" "Play.has" st_Play_has f6601 dd6601)
    (ha6601 : PySem.W.findIn K (.ref C1) "has" = some (some (.ref f6601))) (hi6601 : PySem.W.isFn K (.ref f6601) = true)
    (F6600 : Fun K "__init__" "Play.__init__" st_Play___init f6600 dd6600)
    (ha6600 : PySem.W.findIn K (.ref C1) "__init__" = some (some (.ref f6600))) (hi6600 : PySem.W.isFn K (.ref f6600) = true)
    (mc2 : mg "Total" = some (.ref C2)) (cm2 : PySem.W.makesIn K C2 = true) (ck2 : PySem.W.keepIn K (.ref C2) = true) (cf2 : KFacts K C2)
    (na2__sizes : NoAttr K C2 "_sizes")
    (na2_archive : NoAttr K C2 "archive")
    (na2_bound : NoAttr K C2 "bound")
    (na2_build : NoAttr K C2 "build")
    (na2_delay : NoAttr K C2 "delay")
    (na2_floors : NoAttr K C2 "floors")
    (na2_heights : NoAttr K C2 "heights")
    (na2_room : NoAttr K C2 "room")
    (hn2 : PySem.W.findIn K (.ref C2) "__ne__" = some (some (.builtin "object.__ne__")))
    (F7101 : Fun K "__eq__" "Total.__eq__" st_Total___eq f7101 dd7101)
    (ha7101 : PySem.W.findIn K (.ref C2) "__eq__" = some (some (.ref f7101))) (hi7101 : PySem.W.isFn K (.ref f7101) = true)
    (F7100 : Fun K "__init__" "Total.__init__" st_Total___init f7100 dd7100)
    (ha7100 : PySem.W.findIn K (.ref C2) "__init__" = some (some (.ref f7100))) (hi7100 : PySem.W.isFn K (.ref f7100) = true)
    (F7102 : Fun K "shows" "Total.shows" st_Total_shows f7102 dd7102)
    (ha7102 : PySem.W.findIn K (.ref C2) "shows" = some (some (.ref f7102))) (hi7102 : PySem.W.isFn K (.ref f7102) = true)
    (mc3 : mg "Choice" = some (.ref C3)) (cm3 : PySem.W.makesIn K C3 = true) (ck3 : PySem.W.keepIn K (.ref C3) = true) (cf3 : KFacts K C3)
    (na3__sizes : NoAttr K C3 "_sizes")
    (na3_archive : NoAttr K C3 "archive")
    (na3_bound : NoAttr K C3 "bound")
    (na3_build : NoAttr K C3 "build")
    (na3_delay : NoAttr K C3 "delay")
    (na3_floors : NoAttr K C3 "floors")
    (na3_heights : NoAttr K C3 "heights")
    (na3_room : NoAttr K C3 "room")
    (hn3 : PySem.W.findIn K (.ref C3) "__ne__" = some (some (.builtin "object.__ne__")))
    (F7601 : Fun K "__eq__" "Choice.__eq__" st_Choice___eq f7601 dd7601)
    (ha7601 : PySem.W.findIn K (.ref C3) "__eq__" = some (some (.ref f7601))) (hi7601 : PySem.W.isFn K (.ref f7601) = true)
    (F7600 : Fun K "__init__" "Choice.__init__" st_Choice___init f7600 dd7600)
    (ha7600 : PySem.W.findIn K (.ref C3) "__init__" = some (some (.ref f7600))) (hi7600 : PySem.W.isFn K (.ref f7600) = true)
    (F7602 : Fun K "shows" "Choice.shows" st_Choice_shows f7602 dd7602)
    (ha7602 : PySem.W.findIn K (.ref C3) "shows" = some (some (.ref f7602))) (hi7602 : PySem.W.isFn K (.ref f7602) = true) :
    ∃ (c : Cs) (a : Nat → Addr) (dd : Nat → FuncData), c.K = K ∧ Tx c mg a dd ∧ a 87 = f87 ∧ dd 87 = dd87 := by
  refine ⟨⟨K, fun q => if q = 1 then C1 else if q = 2 then C2 else if q = 3 then C3 else C0, fun q => if q = 1 then ["archive", "room", "delay"] else if q = 2 then ["bound", "heights", "floors"] else if q = 3 then ["build", "bound", "heights", "floors"] else ["_sizes"], fun _ => 0, fun _ => []⟩, fun n => if n = 12 then f12 else if n = 3302 then f3302 else if n = 7601 then f7601 else if n = 3304 then f3304 else if n = 7101 then f7101 else if n = 3303 then f3303 else if n = 13 then f13 else if n = 14 then f14 else if n = 15 then f15 else if n = 63 then f63 else if n = 3301 then f3301 else if n = 45 then f45 else if n = 46 then f46 else if n = 47 then f47 else if n = 27 then f27 else if n = 26 then f26 else if n = 48 then f48 else if n = 64 then f64 else if n = 61 then f61 else if n = 6602 then f6602 else if n = 17 then f17 else if n = 18 then f18 else if n = 19 then f19 else if n = 20 then f20 else if n = 57 then f57 else if n = 58 then f58 else if n = 41 then f41 else if n = 59 then f59 else if n = 6601 then f6601 else if n = 21 then f21 else if n = 22 then f22 else if n = 23 then f23 else if n = 24 then f24 else if n = 3300 then f3300 else if n = 34 then f34 else if n = 35 then f35 else if n = 36 then f36 else if n = 37 then f37 else if n = 38 then f38 else if n = 39 then f39 else if n = 42 then f42 else if n = 43 then f43 else if n = 44 then f44 else if n = 49 then f49 else if n = 50 then f50 else if n = 54 then f54 else if n = 55 then f55 else if n = 56 then f56 else if n = 60 then f60 else if n = 62 then f62 else if n = 65 then f65 else if n = 6600 then f6600 else if n = 67 then f67 else if n = 68 then f68 else if n = 7100 then f7100 else if n = 7102 then f7102 else if n = 72 then f72 else if n = 73 then f73 else if n = 74 then f74 else if n = 7600 then f7600 else if n = 77 then f77 else if n = 78 then f78 else if n = 7602 then f7602 else if n = 79 then f79 else if n = 80 then f80 else if n = 81 then f81 else if n = 83 then f83 else if n = 84 then f84 else if n = 85 then f85 else if n = 86 then f86 else if n = 87 then f87 else if n = 13301 then p3301 else 0, fun n => if n = 12 then dd12 else if n = 3302 then dd3302 else if n = 7601 then dd7601 else if n = 3304 then dd3304 else if n = 7101 then dd7101 else if n = 3303 then dd3303 else if n = 13 then dd13 else if n = 14 then dd14 else if n = 15 then dd15 else if n = 63 then dd63 else if n = 3301 then dd3301 else if n = 45 then dd45 else if n = 46 then dd46 else if n = 47 then dd47 else if n = 27 then dd27 else if n = 26 then dd26 else if n = 48 then dd48 else if n = 64 then dd64 else if n = 61 then dd61 else if n = 6602 then dd6602 else if n = 17 then dd17 else if n = 18 then dd18 else if n = 19 then dd19 else if n = 20 then dd20 else if n = 57 then dd57 else if n = 58 then dd58 else if n = 41 then dd41 else if n = 59 then dd59 else if n = 6601 then dd6601 else if n = 21 then dd21 else if n = 22 then dd22 else if n = 23 then dd23 else if n = 24 then dd24 else if n = 3300 then dd3300 else if n = 34 then dd34 else if n = 35 then dd35 else if n = 36 then dd36 else if n = 37 then dd37 else if n = 38 then dd38 else if n = 39 then dd39 else if n = 42 then dd42 else if n = 43 then dd43 else if n = 44 then dd44 else if n = 49 then dd49 else if n = 50 then dd50 else if n = 54 then dd54 else if n = 55 then dd55 else if n = 56 then dd56 else if n = 60 then dd60 else if n = 62 then dd62 else if n = 65 then dd65 else if n = 6600 then dd6600 else if n = 67 then dd67 else if n = 68 then dd68 else if n = 7100 then dd7100 else if n = 7102 then dd7102 else if n = 72 then dd72 else if n = 73 then dd73 else if n = 74 then dd74 else if n = 7600 then dd7600 else if n = 77 then dd77 else if n = 78 then dd78 else if n = 7602 then dd7602 else if n = 79 then dd79 else if n = 80 then dd80 else if n = 81 then dd81 else if n = 83 then dd83 else if n = 84 then dd84 else if n = 85 then dd85 else if n = 86 then dd86 else if n = 87 then dd87 else dd87, rfl, ?_, rfl, rfl⟩
  exact {
    F12 := F12
    b12 := Fun.binds (ps := ["value"]) F12 fun _ _ _ _ _ _ us hl => match us, hl with | [_], _ => rfl
    m12 := m12
    F3302 := F3302
    b3302 := Fun.binds (ps := ["self"]) F3302 fun _ _ _ _ _ _ us hl => match us, hl with | [_], _ => rfl
    h3302 := ha3302
    hf3302 := hi3302
    F7601 := F7601
    b7601 := Fun.binds (ps := ["self", "other"]) F7601 fun _ _ _ _ _ _ us hl => match us, hl with | [_, _], _ => rfl
    h7601 := ha7601
    hf7601 := hi7601
    F3304 := F3304
    b3304 := Fun.binds (ps := ["self", "other"]) F3304 fun _ _ _ _ _ _ us hl => match us, hl with | [_, _], _ => rfl
    h3304 := ha3304
    hf3304 := hi3304
    F7101 := F7101
    b7101 := Fun.binds (ps := ["self", "other"]) F7101 fun _ _ _ _ _ _ us hl => match us, hl with | [_, _], _ => rfl
    h7101 := ha7101
    hf7101 := hi7101
    F3303 := F3303
    b3303 := Fun.binds (ps := ["self"]) F3303 fun _ _ _ _ _ _ us hl => match us, hl with | [_], _ => rfl
    h3303 := ha3303
    hf3303 := hi3303
    F13 := F13
    b13 := Fun.binds (ps := ["value", "least", "most"]) F13 fun _ _ _ _ _ _ us hl => match us, hl with | [_, _, _], _ => rfl
    m13 := m13
    F14 := F14
    b14 := Fun.binds (ps := ["value", "least", "most"]) F14 fun _ _ _ _ _ _ us hl => match us, hl with | [_, _, _], _ => rfl
    m14 := m14
    F15 := F15
    b15 := Fun.binds (ps := ["items"]) F15 fun _ _ _ _ _ _ us hl => match us, hl with | [_], _ => rfl
    m15 := m15
    F63 := F63
    b63 := Fun.binds (ps := ["delay", "position", "wish"]) F63 fun _ _ _ _ _ _ us hl => match us, hl with | [_, _, _], _ => rfl
    m63 := m63
    F3301 := F3301
    b3301 := Fun.binds (ps := ["self"]) F3301 fun _ _ _ _ _ _ us hl => match us, hl with | [_], _ => rfl
    p3301 := pr3301
    F45 := F45
    b45 := Fun.binds (ps := ["build", "people"]) F45 fun _ _ _ _ _ _ us hl => match us, hl with | [_, _], _ => rfl
    m45 := m45
    F46 := F46
    b46 := Fun.binds (ps := ["build", "people"]) F46 fun _ _ _ _ _ _ us hl => match us, hl with | [_, _], _ => rfl
    m46 := m46
    F47 := F47
    b47 := Fun.binds (ps := ["archive", "build", "people"]) F47 fun _ _ _ _ _ _ us hl => match us, hl with | [_, _, _], _ => rfl
    m47 := m47
    F27 := F27
    b27 := Fun.binds (ps := ["items", "most"]) F27 fun _ _ _ _ _ _ us hl => match us, hl with | [_, _], _ => rfl
    m27 := m27
    F26 := F26
    b26 := Fun.binds (ps := ["items"]) F26 fun _ _ _ _ _ _ us hl => match us, hl with | [_], _ => rfl
    m26 := m26
    F48 := F48
    b48 := Fun.binds (ps := ["room", "build", "people"]) F48 fun _ _ _ _ _ _ us hl => match us, hl with | [_, _, _], _ => rfl
    m48 := m48
    F64 := F64
    b64 := Fun.binds (ps := ["archive", "room", "delay", "position", "wish"]) F64 fun _ _ _ _ _ _ us hl => match us, hl with | [_, _, _, _, _], _ => rfl
    m64 := m64
    F61 := F61
    b61 := Fun.binds (ps := ["position"]) F61 fun _ _ _ _ _ _ us hl => match us, hl with | [_], _ => rfl
    m61 := m61
    F6602 := F6602
    b6602 := Fun.binds (ps := ["self", "place"]) F6602 fun _ _ _ _ _ _ us hl => match us, hl with | [_, _], _ => rfl
    h6602 := ha6602
    hf6602 := hi6602
    F17 := F17
    b17 := Fun.binds (ps := ["play", "start", "most"]) F17 fun _ _ _ _ _ _ us hl => match us, hl with | [_, _, _], _ => rfl
    m17 := m17
    F18 := F18
    b18 := Fun.binds (ps := ["play", "place", "known"]) F18 fun _ _ _ _ _ _ us hl => match us, hl with | [_, _, _], _ => rfl
    m18 := m18
    F19 := F19
    b19 := Fun.binds (ps := ["play", "heights", "place"]) F19 fun _ _ _ _ _ _ us hl => match us, hl with | [_, _, _], _ => rfl
    m19 := m19
    F20 := F20
    b20 := Fun.binds (ps := ["play", "floors", "place"]) F20 fun _ _ _ _ _ _ us hl => match us, hl with | [_, _, _], _ => rfl
    m20 := m20
    F57 := F57
    b57 := Fun.binds (ps := ["order", "delay", "pair"]) F57 fun _ _ _ _ _ _ us hl => match us, hl with | [_, _, _], _ => rfl
    m57 := m57
    F58 := F58
    b58 := Fun.binds (ps := ["order", "delay", "waiting"]) F58 fun _ _ _ _ _ _ us hl => match us, hl with | [_, _, _], _ => rfl
    m58 := m58
    F41 := F41
    b41 := Fun.binds (ps := ["archive", "room", "build"]) F41 fun _ _ _ _ _ _ us hl => match us, hl with | [_, _, _], _ => rfl
    m41 := m41
    F59 := F59
    b59 := Fun.binds (ps := ["archive", "room", "delay", "position"]) F59 fun _ _ _ _ _ _ us hl => match us, hl with | [_, _, _, _], _ => rfl
    m59 := m59
    F6601 := F6601
    b6601 := Fun.binds (ps := ["self", "place"]) F6601 fun _ _ _ _ _ _ us hl => match us, hl with | [_, _], _ => rfl
    h6601 := ha6601
    hf6601 := hi6601
    F21 := F21
    b21 := Fun.binds (ps := ["play", "heights", "start", "most"]) F21 fun _ _ _ _ _ _ us hl => match us, hl with | [_, _, _, _], _ => rfl
    m21 := m21
    F22 := F22
    b22 := Fun.binds (ps := ["play", "floors", "starts", "least"]) F22 fun _ _ _ _ _ _ us hl => match us, hl with | [_, _, _, _], _ => rfl
    m22 := m22
    F23 := F23
    b23 := Fun.binds (ps := ["table"]) F23 fun _ _ _ _ _ _ us hl => match us, hl with | [_], _ => rfl
    m23 := m23
    F24 := F24
    b24 := Fun.binds (ps := ["pairs"]) F24 fun _ _ _ _ _ _ us hl => match us, hl with | [_], _ => rfl
    m24 := m24
    F3300 := F3300
    b3300 := Fun.binds (ps := ["self", "sizes"]) F3300 fun _ _ _ _ _ _ us hl => match us, hl with | [_, _], _ => rfl
    M0 := ⟨cm0, ha3300, hi3300, ck0⟩
    F34 := F34
    b34 := Fun.binds (ps := ["archive"]) F34 fun _ _ _ _ _ _ us hl => match us, hl with | [_], _ => rfl
    m34 := m34
    F35 := F35
    b35 := Fun.binds (ps := ["room"]) F35 fun _ _ _ _ _ _ us hl => match us, hl with | [_], _ => rfl
    m35 := m35
    F36 := F36
    b36 := Fun.binds (ps := ["archive"]) F36 fun _ _ _ _ _ _ us hl => match us, hl with | [_], _ => rfl
    m36 := m36
    F37 := F37
    b37 := Fun.binds (ps := ["archive"]) F37 fun _ _ _ _ _ _ us hl => match us, hl with | [_], _ => rfl
    m37 := m37
    F38 := F38
    b38 := Fun.binds (ps := ["people", "room"]) F38 fun _ _ _ _ _ _ us hl => match us, hl with | [_, _], _ => rfl
    m38 := m38
    F39 := F39
    b39 := Fun.binds (ps := ["archive", "room"]) F39 fun _ _ _ _ _ _ us hl => match us, hl with | [_, _], _ => rfl
    m39 := m39
    F42 := F42
    b42 := Fun.binds (ps := ["archive", "room", "build"]) F42 fun _ _ _ _ _ _ us hl => match us, hl with | [_, _, _], _ => rfl
    m42 := m42
    F43 := F43
    b43 := Fun.binds (ps := ["build", "people"]) F43 fun _ _ _ _ _ _ us hl => match us, hl with | [_, _], _ => rfl
    m43 := m43
    F44 := F44
    b44 := Fun.binds (ps := ["archive", "room", "build", "people"]) F44 fun _ _ _ _ _ _ us hl => match us, hl with | [_, _, _, _], _ => rfl
    m44 := m44
    F49 := F49
    b49 := Fun.binds (ps := ["archive", "room", "build", "people"]) F49 fun _ _ _ _ _ _ us hl => match us, hl with | [_, _, _, _], _ => rfl
    m49 := m49
    F50 := F50
    b50 := Fun.binds (ps := ["archive", "room", "build", "people"]) F50 fun _ _ _ _ _ _ us hl => match us, hl with | [_, _, _, _], _ => rfl
    m50 := m50
    F54 := F54
    b54 := Fun.binds (ps := ["delay"]) F54 fun _ _ _ _ _ _ us hl => match us, hl with | [_], _ => rfl
    m54 := m54
    F55 := F55
    b55 := Fun.binds (ps := ["ticks"]) F55 fun _ _ _ _ _ _ us hl => match us, hl with | [_], _ => rfl
    m55 := m55
    F56 := F56
    b56 := Fun.binds (ps := ["archive", "room", "delay"]) F56 fun _ _ _ _ _ _ us hl => match us, hl with | [_, _, _], _ => rfl
    m56 := m56
    F60 := F60
    b60 := Fun.binds (ps := ["archive", "room", "delay", "position"]) F60 fun _ _ _ _ _ _ us hl => match us, hl with | [_, _, _, _], _ => rfl
    m60 := m60
    F62 := F62
    b62 := Fun.binds (ps := ["position", "wish"]) F62 fun _ _ _ _ _ _ us hl => match us, hl with | [_, _], _ => rfl
    m62 := m62
    F65 := F65
    b65 := Fun.binds (ps := ["build", "ticks"]) F65 fun _ _ _ _ _ _ us hl => match us, hl with | [_, _], _ => rfl
    m65 := m65
    F6600 := F6600
    b6600 := Fun.binds (ps := ["self", "archive", "room", "delay"]) F6600 fun _ _ _ _ _ _ us hl => match us, hl with | [_, _, _, _], _ => rfl
    M1 := ⟨cm1, ha6600, hi6600, ck1⟩
    F67 := F67
    b67 := Fun.binds (ps := ["archive", "room", "delay", "position"]) F67 fun _ _ _ _ _ _ us hl => match us, hl with | [_, _, _, _], _ => rfl
    m67 := m67
    F68 := F68
    b68 := Fun.binds (ps := ["archive", "room", "delay", "position", "wish"]) F68 fun _ _ _ _ _ _ us hl => match us, hl with | [_, _, _, _, _], _ => rfl
    m68 := m68
    F7100 := F7100
    b7100 := Fun.binds (ps := ["self", "bound", "heights", "floors"]) F7100 fun _ _ _ _ _ _ us hl => match us, hl with | [_, _, _, _], _ => rfl
    M2 := ⟨cm2, ha7100, hi7100, ck2⟩
    F7102 := F7102
    b7102 := Fun.binds (ps := ["self", "archive", "room", "delay", "position"]) F7102 fun _ _ _ _ _ _ us hl => match us, hl with | [_, _, _, _, _], _ => rfl
    h7102 := ha7102
    hf7102 := hi7102
    F72 := F72
    b72 := Fun.binds (ps := ["archive", "room", "delay", "build", "ticks"]) F72 fun _ _ _ _ _ _ us hl => match us, hl with | [_, _, _, _, _], _ => rfl
    m72 := m72
    F73 := F73
    b73 := Fun.binds (ps := ["archive", "room", "delay", "position"]) F73 fun _ _ _ _ _ _ us hl => match us, hl with | [_, _, _, _], _ => rfl
    m73 := m73
    F74 := F74
    b74 := Fun.binds (ps := ["archive", "room", "delay", "position"]) F74 fun _ _ _ _ _ _ us hl => match us, hl with | [_, _, _, _], _ => rfl
    m74 := m74
    F7600 := F7600
    b7600 := Fun.binds (ps := ["self", "build", "bound", "heights", "floors"]) F7600 fun _ _ _ _ _ _ us hl => match us, hl with | [_, _, _, _, _], _ => rfl
    M3 := ⟨cm3, ha7600, hi7600, ck3⟩
    F77 := F77
    b77 := Fun.binds (ps := ["archive", "room", "delay", "ticks"]) F77 fun _ _ _ _ _ _ us hl => match us, hl with | [_, _, _, _], _ => rfl
    m77 := m77
    F78 := F78
    b78 := Fun.binds (ps := ["archive", "room", "build"]) F78 fun _ _ _ _ _ _ us hl => match us, hl with | [_, _, _], _ => rfl
    m78 := m78
    F7602 := F7602
    b7602 := Fun.binds (ps := ["self", "archive", "room", "delay", "ticks"]) F7602 fun _ _ _ _ _ _ us hl => match us, hl with | [_, _, _, _, _], _ => rfl
    h7602 := ha7602
    hf7602 := hi7602
    F79 := F79
    b79 := Fun.binds (ps := ["archive", "room", "delay", "ticks"]) F79 fun _ _ _ _ _ _ us hl => match us, hl with | [_, _, _, _], _ => rfl
    m79 := m79
    F80 := F80
    b80 := Fun.binds (ps := ["archive", "room", "delay", "ticks"]) F80 fun _ _ _ _ _ _ us hl => match us, hl with | [_, _, _, _], _ => rfl
    m80 := m80
    F81 := F81
    b81 := Fun.binds (ps := ["archive", "delay", "ticks"]) F81 fun _ _ _ _ _ _ us hl => match us, hl with | [_, _, _], _ => rfl
    m81 := m81
    F83 := F83
    b83 := Fun.binds (ps := ["_law_three"]) F83 fun _ _ _ _ _ _ us hl => match us, hl with | [_], _ => rfl
    m83 := m83
    F84 := F84
    b84 := Fun.binds (ps := ["_law_three"]) F84 fun _ _ _ _ _ _ us hl => match us, hl with | [_], _ => rfl
    m84 := m84
    F85 := F85
    b85 := Fun.binds (ps := ["_law_three"]) F85 fun _ _ _ _ _ _ us hl => match us, hl with | [_], _ => rfl
    m85 := m85
    F86 := F86
    b86 := Fun.binds (ps := ["_law_three"]) F86 fun _ _ _ _ _ _ us hl => match us, hl with | [_], _ => rfl
    m86 := m86
    F87 := F87
    b87 := Fun.binds (ps := ["_law_script"]) F87 fun _ _ _ _ _ _ us hl => match us, hl with | [_], _ => rfl
    m87 := m87
    g29 := g29
    g30 := g30
    g31 := g31
    g32 := g32
    g52 := g52
    g53 := g53
    g70 := g70
    K0 := KFacts.isK cf0
    mc0 := mc0
    fn0 := rfl
    hn0 := hn0
    na0_0 := na0__sizes
    naAll_0_0 := by
      intro q
      dsimp only
      repeat' split
      all_goals assumption
    K1 := KFacts.isK cf1
    mc1 := mc1
    fn1 := rfl
    na1_0 := na1_archive
    naAll_1_0 := by
      intro q
      dsimp only
      repeat' split
      all_goals assumption
    na1_1 := na1_room
    naAll_1_1 := by
      intro q
      dsimp only
      repeat' split
      all_goals assumption
    na1_2 := na1_delay
    naAll_1_2 := by
      intro q
      dsimp only
      repeat' split
      all_goals assumption
    K2 := KFacts.isK cf2
    mc2 := mc2
    fn2 := rfl
    hn2 := hn2
    na2_0 := na2_bound
    naAll_2_0 := by
      intro q
      dsimp only
      repeat' split
      all_goals assumption
    na2_1 := na2_heights
    naAll_2_1 := by
      intro q
      dsimp only
      repeat' split
      all_goals assumption
    na2_2 := na2_floors
    naAll_2_2 := by
      intro q
      dsimp only
      repeat' split
      all_goals assumption
    K3 := KFacts.isK cf3
    mc3 := mc3
    fn3 := rfl
    hn3 := hn3
    na3_0 := na3_build
    naAll_3_0 := by
      intro q
      dsimp only
      repeat' split
      all_goals assumption
    na3_1 := na3_bound
    naAll_3_1 := by
      intro q
      dsimp only
      repeat' split
      all_goals assumption
    na3_2 := na3_heights
    naAll_3_2 := by
      intro q
      dsimp only
      repeat' split
      all_goals assumption
    na3_3 := na3_floors
    naAll_3_3 := by
      intro q
      dsimp only
      repeat' split
      all_goals assumption
    clAll := by
      intro q
      dsimp only
      repeat' split
      all_goals first | exact cf0.cls | exact cf1.cls | exact cf2.cls | exact cf3.cls
    z_all := z_all
    z_any := z_any
    z_bool := z_bool
    z_dict := z_dict
    z_int := z_int
    z_isinstance := z_isinstance
    z_iter := z_iter
    z_len := z_len
    z_list := z_list
    z_max := z_max
    z_min := z_min
    z_range := z_range
    z_sorted := z_sorted
    z_sum := z_sum
    z_tuple := z_tuple
  }
end MX
open PySem PySem.Spec PyProof.Rows L2
theorem MX.walk {l : PySem.W.OpenLaw} {q : Program} {loose : List Str} {XP : (Str → Option Value) → Heap → Prop} {YP : World → Heap → Prop} {d : DefRec} {K : Params → PySem.W.Frag} (hn : l.most = some 63) (hdf : d.params.defaults = [])
    (hY : ∀ (w : World) (h : Heap), YP w h → (K w.params).In h)
    (F : ∀ (w : World) (mg : Str → Option Value) (fa : Addr) (h : Heap), (K w.params).In h → h.Ns mainGlobals mg → mg d.name = some (.ref fa) →
      ∃ (c : MX.Cs) (a : Nat → Addr) (dd : Nat → FuncData), c.K = K w.params ∧ MX.Tx c mg a dd ∧ a 87 = fa ∧ ∀ (s : Shared) (u : Value), BindsTo s (dd 87) ⟨[u], []⟩ [("_law_script", u)])
    (M : ∀ ns : List Int, ns.length ≤ 63 → (∀ z ∈ ns, Builtin.Int.intBits z ≤ 1048576) → ∃ s, MX.m_law [.ro (ns.map MX.D.int)] [] = .ok (.bl true) s) :
    PySem.W.WalkO q loose XP YP l.row.toRowW d [] (fun f vs => PySem.call f vs) := by
  refine L2.walk_ofB (n := 63) (k := 24) (x := "_law_script") (CX := fun _ => CX0) (sp := fun w => MX.spL (K w.params) MX.m_law) hn (by decide) hdf ⟨rfl, by decide, by decide⟩ hY ?_ ?_ fun _ _ _ _ _ z => z
  · intro w mg fa h KX G hm
    obtain ⟨c, a, dd, hc, T, rfl, hb⟩ := F w mg fa h KX G hm
    refine ⟨dd 87, hb, fun base _ _ => ?_⟩
    rw [← hc]
    exact FnOk.imp (MX.ok_law (P := l.prog) (w := w) (base := base) T) fun vs H Q E h => MX.spL_imp h
  · intro w H a ns hl hb _ hS
    exact ⟨a, ns, rfl, hS, M ns hl hb, fun _ => rfl⟩
open PySem PySem.W PyProof.Rows
set_option maxRecDepth 100000 in
set_option maxHeartbeats 0 in
theorem PySem.Challenge.cw_forgetwork_k06_known_holds : PySem.Challenge.rw_forgetwork_k06_known.Holds := by
  w_on; o_law; k_head; (case hw => w_witness2)
  k_fill
  refine MX.walk (l := PySem.Challenge.rw_forgetwork_k06_known) rfl rfl (fun w h Y => PySem.W.kIn_of Y) ?wF ?wM
  case wF =>
    intro w mg fa h KX G hmg
    refine' MX.top_fnC (x := "is_integer") (qual := "is_integer") (st := MX.st_is_integer) KX G ?wa_12 ?wl_12 ?wc_12 ?wk_12 ?wgo_12
    (case wa_12 => k_is); (case wl_12 => k_is); (case wc_12 => k_is); (case wk_12 => k_is)
    intro f12 dd12 F12 m12
    refine' MX.top_fnC (x := "is_within") (qual := "is_within") (st := MX.st_is_within) KX G ?wa_13 ?wl_13 ?wc_13 ?wk_13 ?wgo_13
    (case wa_13 => k_is); (case wl_13 => k_is); (case wc_13 => k_is); (case wk_13 => k_is)
    intro f13 dd13 F13 m13
    refine' MX.top_fnC (x := "is_tuple_within") (qual := "is_tuple_within") (st := MX.st_is_tuple_within) KX G ?wa_14 ?wl_14 ?wc_14 ?wk_14 ?wgo_14
    (case wa_14 => k_is); (case wl_14 => k_is); (case wc_14 => k_is); (case wk_14 => k_is)
    intro f14 dd14 F14 m14
    refine' MX.top_fnC (x := "is_ascending") (qual := "is_ascending") (st := MX.st_is_ascending) KX G ?wa_15 ?wl_15 ?wc_15 ?wk_15 ?wgo_15
    (case wa_15 => k_is); (case wl_15 => k_is); (case wc_15 => k_is); (case wk_15 => k_is)
    intro f15 dd15 F15 m15
    refine' MX.top_fnC (x := "pending_wishes") (qual := "pending_wishes") (st := MX.st_pending_wishes) KX G ?wa_63 ?wl_63 ?wc_63 ?wk_63 ?wgo_63
    (case wa_63 => k_is); (case wl_63 => k_is); (case wc_63 => k_is); (case wk_63 => k_is)
    intro f63 dd63 F63 m63
    refine' MX.top_fnC (x := "base_of") (qual := "base_of") (st := MX.st_base_of) KX G ?wa_45 ?wl_45 ?wc_45 ?wk_45 ?wgo_45
    (case wa_45 => k_is); (case wl_45 => k_is); (case wc_45 => k_is); (case wk_45 => k_is)
    intro f45 dd45 F45 m45
    refine' MX.top_fnC (x := "built_again") (qual := "built_again") (st := MX.st_built_again) KX G ?wa_46 ?wl_46 ?wc_46 ?wk_46 ?wgo_46
    (case wa_46 => k_is); (case wl_46 => k_is); (case wc_46 => k_is); (case wk_46 => k_is)
    intro f46 dd46 F46 m46
    refine' MX.top_fnC (x := "forgetting_work") (qual := "forgetting_work") (st := MX.st_forgetting_work) KX G ?wa_47 ?wl_47 ?wc_47 ?wk_47 ?wgo_47
    (case wa_47 => k_is); (case wl_47 => k_is); (case wc_47 => k_is); (case wk_47 => k_is)
    intro f47 dd47 F47 m47
    refine' MX.top_fnC (x := "all_choices") (qual := "all_choices") (st := MX.st_all_choices) KX G ?wa_27 ?wl_27 ?wc_27 ?wk_27 ?wgo_27
    (case wa_27 => k_is); (case wl_27 => k_is); (case wc_27 => k_is); (case wk_27 => k_is)
    intro f27 dd27 F27 m27
    refine' MX.top_fnC (x := "all_orders") (qual := "all_orders") (st := MX.st_all_orders) KX G ?wa_26 ?wl_26 ?wc_26 ?wk_26 ?wgo_26
    (case wa_26 => k_is); (case wl_26 => k_is); (case wc_26 => k_is); (case wk_26 => k_is)
    intro f26 dd26 F26 m26
    refine' MX.top_fnC (x := "builds_after") (qual := "builds_after") (st := MX.st_builds_after) KX G ?wa_48 ?wl_48 ?wc_48 ?wk_48 ?wgo_48
    (case wa_48 => k_is); (case wl_48 => k_is); (case wc_48 => k_is); (case wk_48 => k_is)
    intro f48 dd48 F48 m48
    refine' MX.top_fnC (x := "possible_answers") (qual := "possible_answers") (st := MX.st_possible_answers) KX G ?wa_64 ?wl_64 ?wc_64 ?wk_64 ?wgo_64
    (case wa_64 => k_is); (case wl_64 => k_is); (case wc_64 => k_is); (case wk_64 => k_is)
    intro f64 dd64 F64 m64
    refine' MX.top_fnC (x := "possible_wishes") (qual := "possible_wishes") (st := MX.st_possible_wishes) KX G ?wa_61 ?wl_61 ?wc_61 ?wk_61 ?wgo_61
    (case wa_61 => k_is); (case wl_61 => k_is); (case wc_61 => k_is); (case wk_61 => k_is)
    intro f61 dd61 F61 m61
    refine' MX.top_fnC (x := "comes_to_more") (qual := "comes_to_more") (st := MX.st_comes_to_more) KX G ?wa_17 ?wl_17 ?wc_17 ?wk_17 ?wgo_17
    (case wa_17 => k_is); (case wl_17 => k_is); (case wc_17 => k_is); (case wk_17 => k_is)
    intro f17 dd17 F17 m17
    refine' MX.top_fnC (x := "least_from") (qual := "least_from") (st := MX.st_least_from) KX G ?wa_18 ?wl_18 ?wc_18 ?wk_18 ?wgo_18
    (case wa_18 => k_is); (case wl_18 => k_is); (case wc_18 => k_is); (case wk_18 => k_is)
    intro f18 dd18 F18 m18
    refine' MX.top_fnC (x := "is_enough_at") (qual := "is_enough_at") (st := MX.st_is_enough_at) KX G ?wa_19 ?wl_19 ?wc_19 ?wk_19 ?wgo_19
    (case wa_19 => k_is); (case wl_19 => k_is); (case wc_19 => k_is); (case wk_19 => k_is)
    intro f19 dd19 F19 m19
    refine' MX.top_fnC (x := "is_needed_at") (qual := "is_needed_at") (st := MX.st_is_needed_at) KX G ?wa_20 ?wl_20 ?wc_20 ?wk_20 ?wgo_20
    (case wa_20 => k_is); (case wl_20 => k_is); (case wc_20 => k_is); (case wk_20 => k_is)
    intro f20 dd20 F20 m20
    refine' MX.top_fnC (x := "is_waiting_wish") (qual := "is_waiting_wish") (st := MX.st_is_waiting_wish) KX G ?wa_57 ?wl_57 ?wc_57 ?wk_57 ?wgo_57
    (case wa_57 => k_is); (case wl_57 => k_is); (case wc_57 => k_is); (case wk_57 => k_is)
    intro f57 dd57 F57 m57
    refine' MX.top_fnC (x := "are_waiting_wishes") (qual := "are_waiting_wishes") (st := MX.st_are_waiting_wishes) KX G ?wa_58 ?wl_58 ?wc_58 ?wk_58 ?wgo_58
    (case wa_58 => k_is); (case wl_58 => k_is); (case wc_58 => k_is); (case wk_58 => k_is)
    intro f58 dd58 F58 m58
    refine' MX.top_fnC (x := "is_build") (qual := "is_build") (st := MX.st_is_build) KX G ?wa_41 ?wl_41 ?wc_41 ?wk_41 ?wgo_41
    (case wa_41 => k_is); (case wl_41 => k_is); (case wc_41 => k_is); (case wk_41 => k_is)
    intro f41 dd41 F41 m41
    refine' MX.top_fnC (x := "is_position") (qual := "is_position") (st := MX.st_is_position) KX G ?wa_59 ?wl_59 ?wc_59 ?wk_59 ?wgo_59
    (case wa_59 => k_is); (case wl_59 => k_is); (case wc_59 => k_is); (case wk_59 => k_is)
    intro f59 dd59 F59 m59
    refine' MX.top_fnC (x := "are_heights") (qual := "are_heights") (st := MX.st_are_heights) KX G ?wa_21 ?wl_21 ?wc_21 ?wk_21 ?wgo_21
    (case wa_21 => k_is); (case wl_21 => k_is); (case wc_21 => k_is); (case wk_21 => k_is)
    intro f21 dd21 F21 m21
    refine' MX.top_fnC (x := "are_floors") (qual := "are_floors") (st := MX.st_are_floors) KX G ?wa_22 ?wl_22 ?wc_22 ?wk_22 ?wgo_22
    (case wa_22 => k_is); (case wl_22 => k_is); (case wc_22 => k_is); (case wk_22 => k_is)
    intro f22 dd22 F22 m22
    refine' MX.top_fnC (x := "copied") (qual := "copied") (st := MX.st_copied) KX G ?wa_23 ?wl_23 ?wc_23 ?wk_23 ?wgo_23
    (case wa_23 => k_is); (case wl_23 => k_is); (case wc_23 => k_is); (case wk_23 => k_is)
    intro f23 dd23 F23 m23
    refine' MX.top_fnC (x := "just_enough") (qual := "just_enough") (st := MX.st_just_enough) KX G ?wa_24 ?wl_24 ?wc_24 ?wk_24 ?wgo_24
    (case wa_24 => k_is); (case wl_24 => k_is); (case wc_24 => k_is); (case wk_24 => k_is)
    intro f24 dd24 F24 m24
    refine' MX.top_fnC (x := "check_archive") (qual := "check_archive") (st := MX.st_check_archive) KX G ?wa_34 ?wl_34 ?wc_34 ?wk_34 ?wgo_34
    (case wa_34 => k_is); (case wl_34 => k_is); (case wc_34 => k_is); (case wk_34 => k_is)
    intro f34 dd34 F34 m34
    refine' MX.top_fnC (x := "check_room") (qual := "check_room") (st := MX.st_check_room) KX G ?wa_35 ?wl_35 ?wc_35 ?wk_35 ?wgo_35
    (case wa_35 => k_is); (case wl_35 => k_is); (case wc_35 => k_is); (case wk_35 => k_is)
    intro f35 dd35 F35 m35
    refine' MX.top_fnC (x := "check_few") (qual := "check_few") (st := MX.st_check_few) KX G ?wa_36 ?wl_36 ?wc_36 ?wk_36 ?wgo_36
    (case wa_36 => k_is); (case wl_36 => k_is); (case wc_36 => k_is); (case wk_36 => k_is)
    intro f36 dd36 F36 m36
    refine' MX.top_fnC (x := "people_of") (qual := "people_of") (st := MX.st_people_of) KX G ?wa_37 ?wl_37 ?wc_37 ?wk_37 ?wgo_37
    (case wa_37 => k_is); (case wl_37 => k_is); (case wc_37 => k_is); (case wk_37 => k_is)
    intro f37 dd37 F37 m37
    refine' MX.top_fnC (x := "builds_of") (qual := "builds_of") (st := MX.st_builds_of) KX G ?wa_38 ?wl_38 ?wc_38 ?wk_38 ?wgo_38
    (case wa_38 => k_is); (case wl_38 => k_is); (case wc_38 => k_is); (case wk_38 => k_is)
    intro f38 dd38 F38 m38
    refine' MX.top_fnC (x := "builds") (qual := "builds") (st := MX.st_builds) KX G ?wa_39 ?wl_39 ?wc_39 ?wk_39 ?wgo_39
    (case wa_39 => k_is); (case wl_39 => k_is); (case wc_39 => k_is); (case wk_39 => k_is)
    intro f39 dd39 F39 m39
    refine' MX.top_fnC (x := "check_build") (qual := "check_build") (st := MX.st_check_build) KX G ?wa_42 ?wl_42 ?wc_42 ?wk_42 ?wgo_42
    (case wa_42 => k_is); (case wl_42 => k_is); (case wc_42 => k_is); (case wk_42 => k_is)
    intro f42 dd42 F42 m42
    refine' MX.top_fnC (x := "are_people") (qual := "are_people") (st := MX.st_are_people) KX G ?wa_43 ?wl_43 ?wc_43 ?wk_43 ?wgo_43
    (case wa_43 => k_is); (case wl_43 => k_is); (case wc_43 => k_is); (case wk_43 => k_is)
    intro f43 dd43 F43 m43
    refine' MX.top_fnC (x := "check_forgetting") (qual := "check_forgetting") (st := MX.st_check_forgetting) KX G ?wa_44 ?wl_44 ?wc_44 ?wk_44 ?wgo_44
    (case wa_44 => k_is); (case wl_44 => k_is); (case wc_44 => k_is); (case wk_44 => k_is)
    intro f44 dd44 F44 m44
    refine' MX.top_fnC (x := "work") (qual := "work") (st := MX.st_work) KX G ?wa_49 ?wl_49 ?wc_49 ?wk_49 ?wgo_49
    (case wa_49 => k_is); (case wl_49 => k_is); (case wc_49 => k_is); (case wk_49 => k_is)
    intro f49 dd49 F49 m49
    refine' MX.top_fnC (x := "after") (qual := "after") (st := MX.st_after) KX G ?wa_50 ?wl_50 ?wc_50 ?wk_50 ?wgo_50
    (case wa_50 => k_is); (case wl_50 => k_is); (case wc_50 => k_is); (case wk_50 => k_is)
    intro f50 dd50 F50 m50
    refine' MX.top_fnC (x := "check_delay") (qual := "check_delay") (st := MX.st_check_delay) KX G ?wa_54 ?wl_54 ?wc_54 ?wk_54 ?wgo_54
    (case wa_54 => k_is); (case wl_54 => k_is); (case wc_54 => k_is); (case wk_54 => k_is)
    intro f54 dd54 F54 m54
    refine' MX.top_fnC (x := "check_ticks") (qual := "check_ticks") (st := MX.st_check_ticks) KX G ?wa_55 ?wl_55 ?wc_55 ?wk_55 ?wgo_55
    (case wa_55 => k_is); (case wl_55 => k_is); (case wc_55 => k_is); (case wk_55 => k_is)
    intro f55 dd55 F55 m55
    refine' MX.top_fnC (x := "check_play") (qual := "check_play") (st := MX.st_check_play) KX G ?wa_56 ?wl_56 ?wc_56 ?wk_56 ?wgo_56
    (case wa_56 => k_is); (case wl_56 => k_is); (case wc_56 => k_is); (case wk_56 => k_is)
    intro f56 dd56 F56 m56
    refine' MX.top_fnC (x := "check_position") (qual := "check_position") (st := MX.st_check_position) KX G ?wa_60 ?wl_60 ?wc_60 ?wk_60 ?wgo_60
    (case wa_60 => k_is); (case wl_60 => k_is); (case wc_60 => k_is); (case wk_60 => k_is)
    intro f60 dd60 F60 m60
    refine' MX.top_fnC (x := "is_wish") (qual := "is_wish") (st := MX.st_is_wish) KX G ?wa_62 ?wl_62 ?wc_62 ?wk_62 ?wgo_62
    (case wa_62 => k_is); (case wl_62 => k_is); (case wc_62 => k_is); (case wk_62 => k_is)
    intro f62 dd62 F62 m62
    refine' MX.top_fnC (x := "start_of") (qual := "start_of") (st := MX.st_start_of) KX G ?wa_65 ?wl_65 ?wc_65 ?wk_65 ?wgo_65
    (case wa_65 => k_is); (case wl_65 => k_is); (case wc_65 => k_is); (case wk_65 => k_is)
    intro f65 dd65 F65 m65
    refine' MX.top_fnC (x := "wishes") (qual := "wishes") (st := MX.st_wishes) KX G ?wa_67 ?wl_67 ?wc_67 ?wk_67 ?wgo_67
    (case wa_67 => k_is); (case wl_67 => k_is); (case wc_67 => k_is); (case wk_67 => k_is)
    intro f67 dd67 F67 m67
    refine' MX.top_fnC (x := "answers") (qual := "answers") (st := MX.st_answers) KX G ?wa_68 ?wl_68 ?wc_68 ?wk_68 ?wgo_68
    (case wa_68 => k_is); (case wl_68 => k_is); (case wc_68 => k_is); (case wk_68 => k_is)
    intro f68 dd68 F68 m68
    refine' MX.top_fnC (x := "begin") (qual := "begin") (st := MX.st_begin) KX G ?wa_72 ?wl_72 ?wc_72 ?wk_72 ?wgo_72
    (case wa_72 => k_is); (case wl_72 => k_is); (case wc_72 => k_is); (case wk_72 => k_is)
    intro f72 dd72 F72 m72
    refine' MX.top_fnC (x := "total") (qual := "total") (st := MX.st_total) KX G ?wa_73 ?wl_73 ?wc_73 ?wk_73 ?wgo_73
    (case wa_73 => k_is); (case wl_73 => k_is); (case wc_73 => k_is); (case wk_73 => k_is)
    intro f73 dd73 F73 m73
    refine' MX.top_fnC (x := "least_work") (qual := "least_work") (st := MX.st_least_work) KX G ?wa_74 ?wl_74 ?wc_74 ?wk_74 ?wgo_74
    (case wa_74 => k_is); (case wl_74 => k_is); (case wc_74 => k_is); (case wk_74 => k_is)
    intro f74 dd74 F74 m74
    refine' MX.top_fnC (x := "check_choosing") (qual := "check_choosing") (st := MX.st_check_choosing) KX G ?wa_77 ?wl_77 ?wc_77 ?wk_77 ?wgo_77
    (case wa_77 => k_is); (case wl_77 => k_is); (case wc_77 => k_is); (case wk_77 => k_is)
    intro f77 dd77 F77 m77
    refine' MX.top_fnC (x := "is_whole_build") (qual := "is_whole_build") (st := MX.st_is_whole_build) KX G ?wa_78 ?wl_78 ?wc_78 ?wk_78 ?wgo_78
    (case wa_78 => k_is); (case wl_78 => k_is); (case wc_78 => k_is); (case wk_78 => k_is)
    intro f78 dd78 F78 m78
    refine' MX.top_fnC (x := "choose") (qual := "choose") (st := MX.st_choose) KX G ?wa_79 ?wl_79 ?wc_79 ?wk_79 ?wgo_79
    (case wa_79 => k_is); (case wl_79 => k_is); (case wc_79 => k_is); (case wk_79 => k_is)
    intro f79 dd79 F79 m79
    refine' MX.top_fnC (x := "best_work") (qual := "best_work") (st := MX.st_best_work) KX G ?wa_80 ?wl_80 ?wc_80 ?wk_80 ?wgo_80
    (case wa_80 => k_is); (case wl_80 => k_is); (case wc_80 => k_is); (case wk_80 => k_is)
    intro f80 dd80 F80 m80
    refine' MX.top_fnC (x := "least_pairs") (qual := "least_pairs") (st := MX.st_least_pairs) KX G ?wa_81 ?wl_81 ?wc_81 ?wk_81 ?wgo_81
    (case wa_81 => k_is); (case wl_81 => k_is); (case wc_81 => k_is); (case wk_81 => k_is)
    intro f81 dd81 F81 m81
    refine' MX.top_fnC (x := "_law_works_right") (qual := "_law_works_right") (st := MX.st_u_law_works_right) KX G ?wa_83 ?wl_83 ?wc_83 ?wk_83 ?wgo_83
    (case wa_83 => k_is); (case wl_83 => k_is); (case wc_83 => k_is); (case wk_83 => k_is)
    intro f83 dd83 F83 m83
    refine' MX.top_fnC (x := "_law_play_right") (qual := "_law_play_right") (st := MX.st_u_law_play_right) KX G ?wa_84 ?wl_84 ?wc_84 ?wk_84 ?wgo_84
    (case wa_84 => k_is); (case wl_84 => k_is); (case wc_84 => k_is); (case wk_84 => k_is)
    intro f84 dd84 F84 m84
    refine' MX.top_fnC (x := "_law_totals_right") (qual := "_law_totals_right") (st := MX.st_u_law_totals_right) KX G ?wa_85 ?wl_85 ?wc_85 ?wk_85 ?wgo_85
    (case wa_85 => k_is); (case wl_85 => k_is); (case wc_85 => k_is); (case wk_85 => k_is)
    intro f85 dd85 F85 m85
    refine' MX.top_fnC (x := "_law_choices_right") (qual := "_law_choices_right") (st := MX.st_u_law_choices_right) KX G ?wa_86 ?wl_86 ?wc_86 ?wk_86 ?wgo_86
    (case wa_86 => k_is); (case wl_86 => k_is); (case wc_86 => k_is); (case wk_86 => k_is)
    intro f86 dd86 F86 m86
    refine' MX.top_lawC (x := "law") (qual := "law") (y := "_law_script") (st := MX.st_law) KX G hmg ?wa_87 ?wl_87 ?wc_87 ?wk_87 (fun _ _ _ _ _ _ _ => rfl) ?wgo_87
    (case wa_87 => k_is); (case wl_87 => k_is); (case wc_87 => k_is); (case wk_87 => k_is)
    intro dd87 F87 m87 hb
    refine' MX.top_intC (x := "MOST_PEOPLE") (i := 4) KX G ?wa_g29 ?wgo_g29
    (case wa_g29 => k_is)
    intro g29
    refine' MX.top_intC (x := "MOST_SIZE") (i := 4) KX G ?wa_g30 ?wgo_g30
    (case wa_g30 => k_is)
    intro g30
    refine' MX.top_intC (x := "MOST_ROOM") (i := 3) KX G ?wa_g31 ?wgo_g31
    (case wa_g31 => k_is)
    intro g31
    refine' MX.top_intC (x := "FEW_PEOPLE") (i := 3) KX G ?wa_g32 ?wgo_g32
    (case wa_g32 => k_is)
    intro g32
    refine' MX.top_intC (x := "MOST_DELAY") (i := 2) KX G ?wa_g52 ?wgo_g52
    (case wa_g52 => k_is)
    intro g52
    refine' MX.top_intC (x := "MOST_TICKS") (i := 4) KX G ?wa_g53 ?wgo_g53
    (case wa_g53 => k_is)
    intro g53
    refine' MX.top_intC (x := "MOST_POSITIONS") (i := 500) KX G ?wa_g70 ?wgo_g70
    (case wa_g70 => k_is)
    intro g70
    refine' MX.top_noneC (x := "all") KX G ?wa_all ?wgo_all
    (case wa_all => k_is)
    intro z_all
    refine' MX.top_noneC (x := "any") KX G ?wa_any ?wgo_any
    (case wa_any => k_is)
    intro z_any
    refine' MX.top_noneC (x := "bool") KX G ?wa_bool ?wgo_bool
    (case wa_bool => k_is)
    intro z_bool
    refine' MX.top_noneC (x := "dict") KX G ?wa_dict ?wgo_dict
    (case wa_dict => k_is)
    intro z_dict
    refine' MX.top_noneC (x := "int") KX G ?wa_int ?wgo_int
    (case wa_int => k_is)
    intro z_int
    refine' MX.top_noneC (x := "isinstance") KX G ?wa_isinstance ?wgo_isinstance
    (case wa_isinstance => k_is)
    intro z_isinstance
    refine' MX.top_noneC (x := "iter") KX G ?wa_iter ?wgo_iter
    (case wa_iter => k_is)
    intro z_iter
    refine' MX.top_noneC (x := "len") KX G ?wa_len ?wgo_len
    (case wa_len => k_is)
    intro z_len
    refine' MX.top_noneC (x := "list") KX G ?wa_list ?wgo_list
    (case wa_list => k_is)
    intro z_list
    refine' MX.top_noneC (x := "max") KX G ?wa_max ?wgo_max
    (case wa_max => k_is)
    intro z_max
    refine' MX.top_noneC (x := "min") KX G ?wa_min ?wgo_min
    (case wa_min => k_is)
    intro z_min
    refine' MX.top_noneC (x := "range") KX G ?wa_range ?wgo_range
    (case wa_range => k_is)
    intro z_range
    refine' MX.top_noneC (x := "sorted") KX G ?wa_sorted ?wgo_sorted
    (case wa_sorted => k_is)
    intro z_sorted
    refine' MX.top_noneC (x := "sum") KX G ?wa_sum ?wgo_sum
    (case wa_sum => k_is)
    intro z_sum
    refine' MX.top_noneC (x := "tuple") KX G ?wa_tuple ?wgo_tuple
    (case wa_tuple => k_is)
    intro z_tuple
    refine' MX.cls_0 KX G ?waC_0 ?wmk_0 ?wkp_0 ?wpg_0 ?whd_0 ?wpo_0 ?wsa_0 ?wca_0 ?wcn_0 ?wct_0 ?wcm_0 ?wb0_0 ?wb1_0 ?wb2_0 ?wb3_0 ?wb4_0 ?wb5_0 ?wna__sizes_0 ?wna_archive_0 ?wna_bound_0 ?wna_build_0 ?wna_delay_0 ?wna_floors_0 ?wna_heights_0 ?wna_room_0 ?whn_0 ?wa3302_0 ?wl3302_0 ?wc3302_0 ?wk3302_0 ?wi3302_0 ?wa3304_0 ?wl3304_0 ?wc3304_0 ?wk3304_0 ?wi3304_0 ?wa3303_0 ?wl3303_0 ?wc3303_0 ?wk3303_0 ?wi3303_0 ?wa3301_0 ?wg3301_0 ?wt3301_0 ?wr3301_0 ?wl3301_0 ?wc3301_0 ?wk3301_0 ?wa3300_0 ?wl3300_0 ?wc3300_0 ?wk3300_0 ?wi3300_0 ?wgo_0
    (case waC_0 => k_is)
    (case wmk_0 => k_is)
    (case wkp_0 => k_is)
    (case wpg_0 => k_is)
    (case whd_0 => k_is)
    (case wpo_0 => k_is)
    (case wsa_0 => k_is)
    (case wca_0 => k_is)
    (case wcn_0 => k_is)
    (case wct_0 => k_is)
    (case wcm_0 => k_is)
    (case wb0_0 => kit_is)
    (case wb1_0 => kit_is)
    (case wb2_0 => kit_is)
    (case wb3_0 => kit_is)
    (case wb4_0 => kit_is)
    (case wb5_0 => kit_is)
    (case wna__sizes_0 => k_is)
    (case wna_archive_0 => k_is)
    (case wna_bound_0 => k_is)
    (case wna_build_0 => k_is)
    (case wna_delay_0 => k_is)
    (case wna_floors_0 => k_is)
    (case wna_heights_0 => k_is)
    (case wna_room_0 => k_is)
    (case whn_0 => k_is)
    (case wa3302_0 => k_is)
    (case wl3302_0 => k_is)
    (case wc3302_0 => k_is)
    (case wk3302_0 => k_is)
    (case wi3302_0 => k_is)
    (case wa3304_0 => k_is)
    (case wl3304_0 => k_is)
    (case wc3304_0 => k_is)
    (case wk3304_0 => k_is)
    (case wi3304_0 => k_is)
    (case wa3303_0 => k_is)
    (case wl3303_0 => k_is)
    (case wc3303_0 => k_is)
    (case wk3303_0 => k_is)
    (case wi3303_0 => k_is)
    (case wa3301_0 => k_is)
    (case wg3301_0 => k_is)
    (case wt3301_0 => k_is)
    (case wr3301_0 => k_is)
    (case wl3301_0 => k_is)
    (case wc3301_0 => k_is)
    (case wk3301_0 => k_is)
    (case wa3300_0 => k_is)
    (case wl3300_0 => k_is)
    (case wc3300_0 => k_is)
    (case wk3300_0 => k_is)
    (case wi3300_0 => k_is)
    intro C0 f3302 dd3302 f3304 dd3304 f3303 dd3303 f3301 dd3301 p3301 f3300 dd3300 mc0 cm0 ck0 cf0 na0__sizes na0_archive na0_bound na0_build na0_delay na0_floors na0_heights na0_room hn0 F3302 ha3302 hi3302 F3304 ha3304 hi3304 F3303 ha3303 hi3303 F3301 pr3301 F3300 ha3300 hi3300
    refine' MX.cls_1 KX G ?waC_1 ?wmk_1 ?wkp_1 ?wpg_1 ?whd_1 ?wpo_1 ?wsa_1 ?wca_1 ?wcn_1 ?wct_1 ?wcm_1 ?wb0_1 ?wb1_1 ?wb2_1 ?wb3_1 ?wb4_1 ?wb5_1 ?wna__sizes_1 ?wna_archive_1 ?wna_bound_1 ?wna_build_1 ?wna_delay_1 ?wna_floors_1 ?wna_heights_1 ?wna_room_1 ?wa6602_1 ?wl6602_1 ?wc6602_1 ?wk6602_1 ?wi6602_1 ?wa6601_1 ?wl6601_1 ?wc6601_1 ?wk6601_1 ?wi6601_1 ?wa6600_1 ?wl6600_1 ?wc6600_1 ?wk6600_1 ?wi6600_1 ?wgo_1
    (case waC_1 => k_is)
    (case wmk_1 => k_is)
    (case wkp_1 => k_is)
    (case wpg_1 => k_is)
    (case whd_1 => k_is)
    (case wpo_1 => k_is)
    (case wsa_1 => k_is)
    (case wca_1 => k_is)
    (case wcn_1 => k_is)
    (case wct_1 => k_is)
    (case wcm_1 => k_is)
    (case wb0_1 => kit_is)
    (case wb1_1 => kit_is)
    (case wb2_1 => kit_is)
    (case wb3_1 => kit_is)
    (case wb4_1 => kit_is)
    (case wb5_1 => kit_is)
    (case wna__sizes_1 => k_is)
    (case wna_archive_1 => k_is)
    (case wna_bound_1 => k_is)
    (case wna_build_1 => k_is)
    (case wna_delay_1 => k_is)
    (case wna_floors_1 => k_is)
    (case wna_heights_1 => k_is)
    (case wna_room_1 => k_is)
    (case wa6602_1 => k_is)
    (case wl6602_1 => k_is)
    (case wc6602_1 => k_is)
    (case wk6602_1 => k_is)
    (case wi6602_1 => k_is)
    (case wa6601_1 => k_is)
    (case wl6601_1 => k_is)
    (case wc6601_1 => k_is)
    (case wk6601_1 => k_is)
    (case wi6601_1 => k_is)
    (case wa6600_1 => k_is)
    (case wl6600_1 => k_is)
    (case wc6600_1 => k_is)
    (case wk6600_1 => k_is)
    (case wi6600_1 => k_is)
    intro C1 f6602 dd6602 f6601 dd6601 f6600 dd6600 mc1 cm1 ck1 cf1 na1__sizes na1_archive na1_bound na1_build na1_delay na1_floors na1_heights na1_room F6602 ha6602 hi6602 F6601 ha6601 hi6601 F6600 ha6600 hi6600
    refine' MX.cls_2 KX G ?waC_2 ?wmk_2 ?wkp_2 ?wpg_2 ?whd_2 ?wpo_2 ?wsa_2 ?wca_2 ?wcn_2 ?wct_2 ?wcm_2 ?wb0_2 ?wb1_2 ?wb2_2 ?wb3_2 ?wb4_2 ?wb5_2 ?wna__sizes_2 ?wna_archive_2 ?wna_bound_2 ?wna_build_2 ?wna_delay_2 ?wna_floors_2 ?wna_heights_2 ?wna_room_2 ?whn_2 ?wa7101_2 ?wl7101_2 ?wc7101_2 ?wk7101_2 ?wi7101_2 ?wa7100_2 ?wl7100_2 ?wc7100_2 ?wk7100_2 ?wi7100_2 ?wa7102_2 ?wl7102_2 ?wc7102_2 ?wk7102_2 ?wi7102_2 ?wgo_2
    (case waC_2 => k_is)
    (case wmk_2 => k_is)
    (case wkp_2 => k_is)
    (case wpg_2 => k_is)
    (case whd_2 => k_is)
    (case wpo_2 => k_is)
    (case wsa_2 => k_is)
    (case wca_2 => k_is)
    (case wcn_2 => k_is)
    (case wct_2 => k_is)
    (case wcm_2 => k_is)
    (case wb0_2 => kit_is)
    (case wb1_2 => kit_is)
    (case wb2_2 => kit_is)
    (case wb3_2 => kit_is)
    (case wb4_2 => kit_is)
    (case wb5_2 => kit_is)
    (case wna__sizes_2 => k_is)
    (case wna_archive_2 => k_is)
    (case wna_bound_2 => k_is)
    (case wna_build_2 => k_is)
    (case wna_delay_2 => k_is)
    (case wna_floors_2 => k_is)
    (case wna_heights_2 => k_is)
    (case wna_room_2 => k_is)
    (case whn_2 => k_is)
    (case wa7101_2 => k_is)
    (case wl7101_2 => k_is)
    (case wc7101_2 => k_is)
    (case wk7101_2 => k_is)
    (case wi7101_2 => k_is)
    (case wa7100_2 => k_is)
    (case wl7100_2 => k_is)
    (case wc7100_2 => k_is)
    (case wk7100_2 => k_is)
    (case wi7100_2 => k_is)
    (case wa7102_2 => k_is)
    (case wl7102_2 => k_is)
    (case wc7102_2 => k_is)
    (case wk7102_2 => k_is)
    (case wi7102_2 => k_is)
    intro C2 f7101 dd7101 f7100 dd7100 f7102 dd7102 mc2 cm2 ck2 cf2 na2__sizes na2_archive na2_bound na2_build na2_delay na2_floors na2_heights na2_room hn2 F7101 ha7101 hi7101 F7100 ha7100 hi7100 F7102 ha7102 hi7102
    refine' MX.cls_3 KX G ?waC_3 ?wmk_3 ?wkp_3 ?wpg_3 ?whd_3 ?wpo_3 ?wsa_3 ?wca_3 ?wcn_3 ?wct_3 ?wcm_3 ?wb0_3 ?wb1_3 ?wb2_3 ?wb3_3 ?wb4_3 ?wb5_3 ?wna__sizes_3 ?wna_archive_3 ?wna_bound_3 ?wna_build_3 ?wna_delay_3 ?wna_floors_3 ?wna_heights_3 ?wna_room_3 ?whn_3 ?wa7601_3 ?wl7601_3 ?wc7601_3 ?wk7601_3 ?wi7601_3 ?wa7600_3 ?wl7600_3 ?wc7600_3 ?wk7600_3 ?wi7600_3 ?wa7602_3 ?wl7602_3 ?wc7602_3 ?wk7602_3 ?wi7602_3 ?wgo_3
    (case waC_3 => k_is)
    (case wmk_3 => k_is)
    (case wkp_3 => k_is)
    (case wpg_3 => k_is)
    (case whd_3 => k_is)
    (case wpo_3 => k_is)
    (case wsa_3 => k_is)
    (case wca_3 => k_is)
    (case wcn_3 => k_is)
    (case wct_3 => k_is)
    (case wcm_3 => k_is)
    (case wb0_3 => kit_is)
    (case wb1_3 => kit_is)
    (case wb2_3 => kit_is)
    (case wb3_3 => kit_is)
    (case wb4_3 => kit_is)
    (case wb5_3 => kit_is)
    (case wna__sizes_3 => k_is)
    (case wna_archive_3 => k_is)
    (case wna_bound_3 => k_is)
    (case wna_build_3 => k_is)
    (case wna_delay_3 => k_is)
    (case wna_floors_3 => k_is)
    (case wna_heights_3 => k_is)
    (case wna_room_3 => k_is)
    (case whn_3 => k_is)
    (case wa7601_3 => k_is)
    (case wl7601_3 => k_is)
    (case wc7601_3 => k_is)
    (case wk7601_3 => k_is)
    (case wi7601_3 => k_is)
    (case wa7600_3 => k_is)
    (case wl7600_3 => k_is)
    (case wc7600_3 => k_is)
    (case wk7600_3 => k_is)
    (case wi7600_3 => k_is)
    (case wa7602_3 => k_is)
    (case wl7602_3 => k_is)
    (case wc7602_3 => k_is)
    (case wk7602_3 => k_is)
    (case wi7602_3 => k_is)
    intro C3 f7601 dd7601 f7600 dd7600 f7602 dd7602 mc3 cm3 ck3 cf3 na3__sizes na3_archive na3_bound na3_build na3_delay na3_floors na3_heights na3_room hn3 F7601 ha7601 hi7601 F7600 ha7600 hi7600 F7602 ha7602 hi7602
    obtain ⟨c, a, dd, e1, T, e2, e3⟩ := MX.mk_Tx F12 m12 F13 m13 F14 m14 F15 m15 F63 m63 F45 m45 F46 m46 F47 m47 F27 m27 F26 m26 F48 m48 F64 m64 F61 m61 F17 m17 F18 m18 F19 m19 F20 m20 F57 m57 F58 m58 F41 m41 F59 m59 F21 m21 F22 m22 F23 m23 F24 m24 F34 m34 F35 m35 F36 m36 F37 m37 F38 m38 F39 m39 F42 m42 F43 m43 F44 m44 F49 m49 F50 m50 F54 m54 F55 m55 F56 m56 F60 m60 F62 m62 F65 m65 F67 m67 F68 m68 F72 m72 F73 m73 F74 m74 F77 m77 F78 m78 F79 m79 F80 m80 F81 m81 F83 m83 F84 m84 F85 m85 F86 m86 F87 m87 g29 g30 g31 g32 g52 g53 g70 z_all z_any z_bool z_dict z_int z_isinstance z_iter z_len z_list z_max z_min z_range z_sorted z_sum z_tuple mc0 cm0 ck0 cf0 na0__sizes na0_archive na0_bound na0_build na0_delay na0_floors na0_heights na0_room hn0 F3302 ha3302 hi3302 F3304 ha3304 hi3304 F3303 ha3303 hi3303 F3301 pr3301 F3300 ha3300 hi3300 mc1 cm1 ck1 cf1 na1__sizes na1_archive na1_bound na1_build na1_delay na1_floors na1_heights na1_room F6602 ha6602 hi6602 F6601 ha6601 hi6601 F6600 ha6600 hi6600 mc2 cm2 ck2 cf2 na2__sizes na2_archive na2_bound na2_build na2_delay na2_floors na2_heights na2_room hn2 F7101 ha7101 hi7101 F7100 ha7100 hi7100 F7102 ha7102 hi7102 mc3 cm3 ck3 cf3 na3__sizes na3_archive na3_bound na3_build na3_delay na3_floors na3_heights na3_room hn3 F7601 ha7601 hi7601 F7600 ha7600 hi7600 F7602 ha7602 hi7602
    exact ⟨c, a, dd, e1, T, e2, by rw [e3]; exact hb⟩
  case wM => exact MX.law_true

