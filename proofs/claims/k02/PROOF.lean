import PyProof.Rows.All
import Wide.All
import OpenK.AllK
import Wide.FinOn
import HandS.ForMost
import HandS.ForExc
import HandS.TupAny
import HandS.Conv
import HandS.Strs
import HandS.IsInst
import HandS.Wide
import KE.SortData
import PyProof.TupleOfSeq
import HandS.Property
import PyProof.InstNe
import PyProof.FactsAll.object_2
import HandS.OwnEq
import HandS.IterVal
import HandS.Star
import HandS.Words
import KE.GoesEnum
import KE.GoesMore
import HandS.WordsList
import HandS.EndBits
import HandS.Style
import PySem.Challenge.RW_forgetwork_k02_whole_play
set_option Elab.async false
set_option linter.all false
set_option maxRecDepth 100000
/-! Tuples whose object is known to have no dict of its own (so that a method of tuple may be called on them). -/
namespace MX
open PySem PySem.Spec PyProof.Rows L2
section
variable {X : Cx} {pins : List (Addr × Obj)} {σ : L2.St} {H : Hp} {s : Shared}
/-- a tuple is new at the heap's end -/
theorem tupZ_new {us : List Value} {xs : List V} (I : L2.Inv X pins σ H s) (r : Vals xs us) (z : xs.length ≤ sizeLine) : ∃ o : Obj, o.dict = none ∧
    L2.Inv X pins σ (upd H s.heap.objs.size (.frz o (.tup xs))) { s with heap := s.heap.push { cls := .type "tuple", data := .seq us.toArray } } := by
  have g := Heap.get?_push_size s.heap (o := ({ cls := .type "tuple", data := .seq us.toArray } : Obj)) rfl
  exact ⟨{ cls := .type "tuple", data := .seq us.toArray }, rfl, I.laid (t' := s.toks) (fun _ _ q => Heap.get?_push_of_some _ q) (Nat.le_refl _) ⟨g, z, us, r, ⟨_, g, rfl, 0, rfl⟩⟩⟩
variable {es : List Expr} {e : Expr} {t : TA} {te : TE} {pos p : Pos}
abbrev newZ (xs : List V) (H : Hp) (Q : VK) : Prop := ∀ p (o : Obj), H p = none → o.dict = none → Q (.ref p) (upd H p (.frz o (.tup xs)))
def tTupZ (t : TA) : TE := fun σ H Q => t σ H fun xs H1 => xs.length ≤ sizeLine ∧ newZ xs H1 Q
theorem pe_tupZ {x1} (h : PA X es t) : PE X (.Tuple es x1 pos) (tTupZ t) := by
  refine ⟨fun pins s σ H Q I hq => wpAny_Tuple_spliced (thn (h.run pos pins s σ H _ I hq) ?_)⟩
  rintro us s1 ⟨xs, H1, I1, r, z, q⟩
  obtain ⟨o, od, I2⟩ := tupZ_new I1 r z
  exact ⟨by rw [← r.length]; exact z, .ref _, _, I2, rfl, q _ o I1.fresh od⟩
/-- tuple(a list) -/
def rTupZ (K : PySem.W.Frag) : List V → Hp → VK → Prop := fun xs H Q => ∃ p ys, xs = [.ref p] ∧ ((SqL K H p ys ∧ newZ ys H Q) ∨ (SqT K H p ys ∧ Q (.ref p) H))
theorem cr_tupZ : CallR X (.type "tuple") (rTupZ X.K) := by
  intro pins s σ H xs us Q I r h
  obtain ⟨p, ys, rfl, h⟩ := h
  obtain ⟨u, rfl, rx⟩ := vals1 r
  cases rx
  rcases h with ⟨hq, q⟩ | ⟨hq, q⟩
  · obtain ⟨its, r2, pl, hz⟩ := I.list hq
    refine call_tuple_list pl.isList (fun h1 kp => ?_) (by have := r2.length; simp only [List.size_toArray]; omega)
    have I1 : L2.Inv X pins σ H { s with heap := h1 } := I.kept (t' := s.toks) kp
    obtain ⟨o, od, I2⟩ := tupZ_new I1 r2 hz
    exact ⟨.ref _, _, I2, rfl, q _ o I1.fresh od⟩
  · obtain ⟨its, _, pl, _⟩ := I.tuple hq
    exact call_tuple_same pl ⟨.ref _, _, I, rfl, q⟩
/-- t + u -/
def rCatZ (K : PySem.W.Frag) : R2 := fun x y H Q => ∃ a b xs ys, x = .ref a ∧ y = .ref b ∧ SqT K H a xs ∧ SqT K H b ys ∧ xs.length + ys.length ≤ sizeLine ∧
  (xs = [] → Q (.ref b) H) ∧ (ys = [] → Q (.ref a) H) ∧ newZ (xs ++ ys) H Q
theorem op_catZ : OpR X (binaryOp .Add) (rCatZ X.K) := by
  intro pins s σ H x y v u Q I rx ry ⟨a, b, xs, ys, ex, ey, ha, hb, hz, q0, q1, q2⟩
  subst ex; subst ey
  cases rx; cases ry
  obtain ⟨its, r1, p1, _⟩ := I.tuple ha
  obtain ⟨jts, r2, p2, _⟩ := I.tuple hb
  by_cases hx : xs = []
  · subst hx; cases r1
    exact cat_tup0 p1 p2 ⟨.ref _, _, I, rfl, q0 rfl⟩
  · have n1 : its ≠ [] := fun z => hx (r1.nil_iff.mp z)
    refine HT.cat_tup p1 p2 n1 (fun z => ⟨.ref _, _, I, rfl, q1 (r2.nil_iff.mp z)⟩) (fun _ => ?_) (by rw [← r1.length, ← r2.length]; exact hz)
    obtain ⟨o, od, I2⟩ := tupZ_new I (r1.append r2) (by rw [List.length_append]; exact hz)
    exact ⟨.ref _, _, I2, rfl, q2 _ o I.fresh od⟩
/-- t[lo:hi] -/
def rSlZ (K : PySem.W.Frag) : V → Option Int → Option Int → Hp → VK → Prop := fun x lo hi H Q => ∃ a xs, x = .ref a ∧ SqT K H a xs ∧ (cutV xs lo hi = xs → Q (.ref a) H) ∧ newZ (cutV xs lo hi) H Q
theorem cut_whole {xs : List V} {lo hi : Option Int} (h : HT.sIx xs.length 0 lo = 0 ∧ HT.sIx xs.length xs.length hi = xs.length) : cutV xs lo hi = xs := by
  unfold cutV; rw [h.1, h.2]; simp
theorem sl_tupZ : SlR X (rSlZ X.K) := by
  intro pins s σ H x v vl vu lo hi sl Q I rx hs pl pu ⟨a, xs, ex, hx, q1, q2⟩
  subst ex; cases rx
  obtain ⟨its, r, ht, hz⟩ := I.tuple hx
  have hl : its.toArray.size = xs.length := by simp [r.length]
  refine ⟨"tuple", _, slot_tuple_getitem.lookup, ht.typeIs, ?_⟩
  by_cases hw : HT.sIx xs.length 0 lo = 0 ∧ HT.sIx xs.length xs.length hi = xs.length
  · exact getItem_tuple_whole ht hs pl pu (hl ▸ hw) ⟨.ref _, _, I, rfl, q1 (cut_whole hw)⟩
  · refine HT.getItem_tuple_cut ht hs pl pu (hl ▸ hw) ?_ (hl ▸ hz)
    rw [hl]
    obtain ⟨o, od, I2⟩ := tupZ_new I ((r.drop (HT.sIx xs.length 0 lo)).take (HT.sIx xs.length xs.length hi - HT.sIx xs.length 0 lo)) (Nat.le_trans (cutV_length xs lo hi) hz)
    exact ⟨.ref _, _, I2, rfl, q2 _ o I.fresh od⟩
/-- tuple(range(..)) -/
def tTupRgZ (te : L2.St → Hp → (Int → Int → Hp → Prop) → Prop) : TE := fun σ H Q => te σ H fun a b H1 => RgOk a b ∧ newZ (rgV a b) H1 Q
theorem pe_tupRgZ {te : L2.St → Hp → (Int → Int → Hp → Prop) → Prop} (hc : X.calm = true) (hg : Gl X "tuple") (hm : X.mg "tuple" = none) (he : PRg X e te) (na : starEach [e] X.env = (false, eval e X.env) :: starEach [] X.env := by rfl) :
    PE X (.Call (.Name "tuple" p) [e] [] pos) (tTupRgZ te) := by
  refine ⟨fun pins s σ H Q I h => Call_ (ld_blt I hg hm boot_tuple (PyProof.Rows.callWith_type1 (args_cons (thn (he pins s σ H _ I h) ?_) na) na))⟩
  rintro x s1 ⟨r, a, b, t, u, v, H1, ex, hr, I1, ⟨b1, b2, b3, b4, b5⟩, q⟩
  subst ex
  refine args_nil (call_tuple_range (n := (b - a).toNat) (I1.ok.hd hc) hr (small_one b1 b2 b3 b4) (rangeSize_nat a b) b5 fun h2 tk acc hk hi => ?_)
  obtain ⟨o, od, I3⟩ := tupZ_new (s := { s1 with heap := h2, toks := tk }) (I1.kept hk) (vals_rg hi) (by rw [rgV_length]; exact Nat.le_trans b5 (by decide))
  rw [Array.toArray_toList] at I3
  exact ⟨.ref _, _, I3, rfl, q _ o ((I1.kept hk : L2.Inv X pins σ H1 { s1 with heap := h2, toks := tk }).fresh) od⟩
/-- t.index(x): flat items, the first place -/
def tupI (te ti : TE) : TE := fun σ H Q => te σ H fun x H1 => ∃ (a : Addr) (o : Obj) (xs : List V), x = V.ref a ∧ H1 a = some (.frz o (.tup xs)) ∧ o.dict = none ∧ tCons ti tNil σ H1 fun ys H2 => ∃ y, ys = [y] ∧ H2 a = some (.frz o (.tup xs)) ∧ flatV y = true ∧ xs.all flatV = true ∧
  ∃ (j : Nat) (z : V), xs[j]? = some z ∧ eqV z y = true ∧ (∀ m z', m < j → xs[m]? = some z' → eqV z' y = false) ∧ Q (.int j) H2
theorem tup_index_run {a : Addr} {o : Obj} {xs : List V} {y : V} {u : Value} {j : Nat} {z : V} {Q : VK} (I : L2.Inv X pins σ H s) (ha : H a = some (.frz o (.tup xs))) (ry : RelV y u) (fy : flatV y = true) (fx : xs.all flatV = true)
    (hz : xs[j]? = some z) (hh : eqV z y = true) (hno : ∀ m z', m < j → xs[m]? = some z' → eqV z' y = false) (q : Q (.int j) H) : wpAny (model X.prog X.w) X.A (call (.builtin "tuple.index") [.ref a, u]) (EP X pins σ Q) X.xe s := by
  obtain ⟨its, r, ⟨⟨cls, dd, dt, sl⟩, ho, hc, n, hd⟩, _⟩ := I.tuple (.inl (.inr ⟨o, ha⟩))
  dsimp only at hc hd
  subst hc hd
  have hl : its.length = xs.length := r.length.symm
  have hall : ∀ (m : Nat) (hm : m < its.toArray.size), ∃ z', xs[m]? = some z' ∧ eqU y its.toArray[m] = eqV z' y := fun m hm => by
    have hm' : m < xs.length := by rw [← hl]; simpa using hm
    obtain ⟨w, hw, rw'⟩ := r.get (i := m) (List.getElem?_eq_getElem hm')
    have e1 : its.toArray[m] = w := by
      have := (List.getElem?_eq_some_iff.mp hw).2
      simpa using this
    exact ⟨_, List.getElem?_eq_getElem hm', by rw [e1]; exact eqU_of rw' (List.all_eq_true.mp fx _ (List.getElem_mem hm'))⟩
  have hj : j < its.toArray.size := by
    have := (List.getElem?_eq_some_iff.mp hz).1
    simp [hl, this]
  refine call_meets PySem.F.slot_tuple_index ⟨_, ho, rfl⟩ PySem.F.entry_tuple_index (PySem.F.args_tuple_index_2 _ _) (TI.tuple_indexAt a its.toArray n dd sl u (eqU y) j hj ?_ fun m hm hmj => ?_)
    ⟨ho, fun v hv => mem_eqAt ry fy r fx v (by simpa using hv), ⟨.int j, H, I.tok _, ⟨_, rfl⟩, q⟩⟩
  · obtain ⟨z', h1, h2⟩ := hall j hj
    rw [hz] at h1; cases h1
    rw [h2]; exact hh
  · obtain ⟨z', h1, h2⟩ := hall m hm
    rw [h2]; exact hno m z' hmj h1
theorem pe_tupI {o i : Expr} {ti : TE} {apos cpos : Pos} (ho : PE X o te) (hi : PE X i ti) (hbase : attributeBase o "index" X.env (eval o X.env) = eval o X.env := by rfl)
    (hfew : ((backTo cpos (starEach [i] X.env)).all (fun x => !x.1) && (backToKw cpos (keywordEach [] X.env)).all (fun x => x.1.isSome)
      && decide ([i].length + ([] : List Keyword).length + (if ([] : List Keyword).isEmpty then 0 else 1) < 30)) = true := by rfl)
    (hline : (apos.endLine == cpos.line) = true := by rfl) (hs : starEach [i] X.env = (false, eval i X.env) :: starEach [] X.env := by rfl) :
    PE X (.Call (.Attribute o "index" apos) [i] [] cpos) (tupI te ti) := by
  refine ⟨fun pins s σ H Q I h => wpAny_Call_method_late hbase hfew hline rfl (thn (ho.run pins s σ H _ I h) ?_)⟩
  rintro v s1 ⟨x, H1, I1, r1, a, ob, xs, ex, ha, od, q1⟩
  subst ex; cases r1
  obtain ⟨e1, _⟩ := I1.hok a _ ha
  obtain ⟨its, r, pl, _⟩ := I1.tuple (.inl (.inr ⟨ob, ha⟩))
  refine ⟨"tuple", "tuple.index", PySem.F.plainAttrs_tuple, PySem.F.slot_tuple_index, PySem.F.type_tuple_index, pl.typeIs, fun b eb => ?_, ?_⟩
  · cases eb; exact ⟨ob, e1, od⟩
  have hA := (pa_cons hi pa_nil hs).run cpos pins s1 σ H1 _ I1 q1
  rw [hs] at hA ⊢
  refine Calls.callWith_builtin rfl (Calls.evalArgs_plain (thn hA ?_))
  rintro us s2 ⟨vs, H2, I2, r2, y, ev, ha2, fy, fx, j, z, hz, hh, hno, q⟩
  subst ev
  obtain ⟨u, rfl, ru⟩ := vals1 r2
  exact tup_index_run I2 ha2 ru fy fx hz hh hno q
end
end MX


set_option Elab.async false
set_option linter.all false
set_option maxRecDepth 100000
/-! MX: values without addresses (D), what a V stands for (R), and readings that go by functions over D. -/
namespace MX
open PySem PySem.Spec PyProof.Rows L2

inductive D where
  | non | bl (b : Bool) | int (i : Int) | str (x : Str) | lst (xs : List D) | tup (xs : List D) | cell (i : Nat) | obj (c : Nat) (fs : List D) | ty (n : String) | cls (k : Nat) | ro (xs : List D)

/-- the program's own classes: addresses, field names; its exception classes -/
structure Cs where
  K : PySem.W.Frag
  cl : Nat → Addr
  fn : Nat → List Str
  xc : Nat → Addr
  xf : Nat → List Str

/-- a tuple without a dict of its own -/
def TupK (K : PySem.W.Frag) (F : Hp) (a : Addr) (xs : List V) : Prop := ∃ o : Obj, F a = some (.frz o (.tup xs)) ∧ o.dict = none
mutual
def R (c : Cs) (F : Hp) (θ : List Addr) : V → D → Prop
  | v, .non => v = .non
  | v, .bl b => v = .bl b
  | v, .int i => v = .int i
  | v, .str x => v = .str x
  | v, .lst ds => ∃ a xs, v = .ref a ∧ F a = some (.lst xs) ∧ RA c F θ xs ds
  | v, .ro ds => ∃ a xs, v = .ref a ∧ SqL c.K F a xs ∧ RA c F θ xs ds
  | v, .tup ds => ∃ a xs, v = .ref a ∧ TupK c.K F a xs ∧ RA c F θ xs ds
  | v, .cell i => ∃ a, v = .ref a ∧ θ[i]? = some a
  | v, .obj k ds => ∃ a dx fs, v = .ref a ∧ F a = some (.ins (c.cl k) dx fs) ∧ fs.map (·.1) = c.fn k ∧ RA c F θ (fs.map (·.2)) ds
  | v, .ty n => v = .ty n
  | v, .cls k => v = .ref (c.cl k)
def RA (c : Cs) (F : Hp) (θ : List Addr) : List V → List D → Prop
  | vs, [] => vs = []
  | vs, d :: ds => ∃ v r, vs = v :: r ∧ R c F θ v d ∧ RA c F θ r ds
end

section
variable {c : Cs} {F F' H H' : Hp} {θ θ' : List Addr}
theorem RA.nil : RA c F θ [] [] := by unfold RA; rfl
theorem RA.cons {v : V} {d : D} {vs : List V} {ds : List D} (h : R c F θ v d) (t : RA c F θ vs ds) : RA c F θ (v :: vs) (d :: ds) := by
  unfold RA; exact ⟨v, vs, rfl, h, t⟩
theorem RA.nil_inv {vs : List V} (h : RA c F θ vs []) : vs = [] := by unfold RA at h; exact h
theorem RA.cons_inv {vs : List V} {d : D} {ds : List D} (h : RA c F θ vs (d :: ds)) : ∃ v r, vs = v :: r ∧ R c F θ v d ∧ RA c F θ r ds := by unfold RA at h; exact h
theorem RA.length : ∀ {ds : List D} {vs : List V}, RA c F θ vs ds → vs.length = ds.length
  | [], _, h => by rw [h.nil_inv]; rfl
  | d :: ds, _, h => by
    obtain ⟨v, r, rfl, _, t⟩ := h.cons_inv
    simp [RA.length t]
theorem RA.get : ∀ {ds : List D} {vs : List V} {i : Nat} {v : V} {d : D}, RA c F θ vs ds → vs[i]? = some v → ds[i]? = some d → R c F θ v d
  | [], _, i, _, _, h, _, e => by simp at e
  | d :: ds, _, 0, _, _, h, e1, e2 => by
    obtain ⟨v, r, rfl, q, t⟩ := h.cons_inv
    simp at e1 e2; subst e1; subst e2; exact q
  | d :: ds, _, i + 1, _, _, h, e1, e2 => by
    obtain ⟨v, r, rfl, q, t⟩ := h.cons_inv
    exact RA.get t (by simpa using e1) (by simpa using e2)
theorem RA.get' {ds : List D} {vs : List V} {i : Nat} {d : D} (h : RA c F θ vs ds) (e : ds[i]? = some d) : ∃ v, vs[i]? = some v ∧ R c F θ v d := by
  have hl := h.length
  have hi : i < ds.length := by
    rcases Nat.lt_or_ge i ds.length with q | q
    · exact q
    · rw [List.getElem?_eq_none q] at e; cases e
  exact ⟨vs[i]'(by omega), List.getElem?_eq_getElem (by omega), h.get (List.getElem?_eq_getElem (by omega)) e⟩
theorem RA.append : ∀ {ds es : List D} {vs us : List V}, RA c F θ vs ds → RA c F θ us es → RA c F θ (vs ++ us) (ds ++ es)
  | [], _, _, _, h, k => by rw [h.nil_inv]; exact k
  | d :: ds, _, _, _, h, k => by
    obtain ⟨v, r, rfl, q, t⟩ := h.cons_inv
    exact RA.cons q (RA.append t k)
theorem RA.take : ∀ (n : Nat) {ds : List D} {vs : List V}, RA c F θ vs ds → RA c F θ (vs.take n) (ds.take n)
  | 0, _, _, _ => by simp; exact RA.nil
  | _ + 1, [], _, h => by rw [h.nil_inv]; simp; exact RA.nil
  | n + 1, d :: ds, _, h => by
    obtain ⟨v, r, rfl, q, t⟩ := h.cons_inv
    simpa using RA.cons q (RA.take n t)
theorem RA.drop : ∀ (n : Nat) {ds : List D} {vs : List V}, RA c F θ vs ds → RA c F θ (vs.drop n) (ds.drop n)
  | 0, _, _, h => by simpa using h
  | _ + 1, [], _, h => by rw [h.nil_inv]; simp; exact RA.nil
  | n + 1, d :: ds, _, h => by
    obtain ⟨v, r, rfl, q, t⟩ := h.cons_inv
    simpa using RA.drop n t
theorem RA.ints : ∀ {ns : List Int} {vs : List V}, RA c F θ vs (ns.map D.int) → vs = ns.map V.int
  | [], _, h => h.nil_inv
  | n :: ns, _, h => by
    obtain ⟨v, r, rfl, q, t⟩ := RA.cons_inv h
    unfold R at q
    rw [q, RA.ints t]; rfl
theorem RA.of_ints : ∀ {ns : List Int}, RA c F θ (ns.map V.int) (ns.map D.int)
  | [] => RA.nil
  | n :: ns => RA.cons (by unfold R; rfl) RA.of_ints
theorem RA.bls : ∀ {ns : List Bool} {vs : List V}, RA c F θ vs (ns.map D.bl) → vs = ns.map V.bl
  | [], _, h => h.nil_inv
  | n :: ns, _, h => by
    obtain ⟨v, r, rfl, q, t⟩ := RA.cons_inv h
    unfold R at q
    rw [q, RA.bls t]; rfl

/-- F grows -/
abbrev Le (F F' : Hp) : Prop := ∀ a o, F a = some o → F' a = some o
theorem Le.refl (F : Hp) : Le F F := fun _ _ h => h
theorem Le.trans {F1 F2 F3 : Hp} (a : Le F1 F2) (b : Le F2 F3) : Le F1 F3 := fun x o h => b x o (a x o h)
theorem Le.new {p : Addr} {o : HO} (h : F p = none) : Le F (upd F p o) := fun a u e => by
  rw [upd_ne (ne_of_none e h)]; exact e
theorem Le.both {p : Addr} {o : HO} (h : Le F H) : Le (upd F p o) (upd H p o) := fun a u e => by
  by_cases q : a = p
  · subst q; rw [upd_same] at e ⊢; exact e
  · rw [upd_ne q] at e ⊢; exact h a u e
theorem Le.updR {p : Addr} {o : HO} (h : Le F H) (n : F p = none) : Le F (upd H p o) := fun a u e => by
  rw [upd_ne (ne_of_none e n)]; exact h a u e
theorem Le.rd {a : Addr} {u : HO} (e : Le F F') (h : Rd F a u) : Rd F' a u := by
  rcases h with h | ⟨o, h⟩
  · exact .inl (e a _ h)
  · exact .inr ⟨o, e a _ h⟩
theorem Le.l {K : PySem.W.Frag} {a : Addr} {xs : List V} (e : Le F F') (h : SqL K F a xs) : SqL K F' a xs := by
  rcases h with h | h
  · exact .inl (e.rd h)
  · exact .inr h
theorem Le.t {K : PySem.W.Frag} {a : Addr} {xs : List V} (e : Le F F') (h : SqT K F a xs) : SqT K F' a xs := by
  rcases h with h | h
  · exact .inl (e.rd h)
  · exact .inr h
theorem TupK.t {K : PySem.W.Frag} {a : Addr} {xs : List V} (h : TupK K F a xs) : SqT K F a xs := .inl (.inr ⟨h.choose, h.choose_spec.1⟩)
theorem TupK.mono {K : PySem.W.Frag} {a : Addr} {xs : List V} (e : Le F F') (h : TupK K F a xs) : TupK K F' a xs := by
  obtain ⟨o, h, d⟩ := h
  exact ⟨o, e _ _ h, d⟩
abbrev Pre (θ θ' : List Addr) : Prop := ∃ l, θ' = θ ++ l
theorem Pre.refl (θ : List Addr) : Pre θ θ := ⟨[], by simp⟩
theorem Pre.trans {a b d : List Addr} (h : Pre a b) (k : Pre b d) : Pre a d := by
  obtain ⟨l, rfl⟩ := h; obtain ⟨m, rfl⟩ := k; exact ⟨l ++ m, by simp⟩
theorem Pre.get {i : Nat} {a : Addr} (h : Pre θ θ') (e : θ[i]? = some a) : θ'[i]? = some a := by
  obtain ⟨l, rfl⟩ := h
  have hi : i < θ.length := by
    rcases Nat.lt_or_ge i θ.length with q | q
    · exact q
    · rw [List.getElem?_eq_none q] at e; cases e
  rw [List.getElem?_append_left hi]; exact e
theorem Pre.mem {a : Addr} (h : Pre θ θ') (e : a ∈ θ) : a ∈ θ' := by
  obtain ⟨l, rfl⟩ := h; exact List.mem_append_left _ e
mutual
theorem R.mono (e : Le F F') (p : Pre θ θ') : ∀ (d : D) {v : V}, R c F θ v d → R c F' θ' v d
  | .non, v, h => by unfold R at h ⊢; exact h
  | .bl _, v, h => by unfold R at h ⊢; exact h
  | .int _, v, h => by unfold R at h ⊢; exact h
  | .str _, v, h => by unfold R at h ⊢; exact h
  | .lst ds, v, h => by
    unfold R at h ⊢
    obtain ⟨a, xs, r, s, t⟩ := h
    exact ⟨a, xs, r, e a _ s, RA.mono e p ds t⟩
  | .ro ds, v, h => by
    unfold R at h ⊢
    obtain ⟨a, xs, r, s, t⟩ := h
    exact ⟨a, xs, r, e.l s, RA.mono e p ds t⟩
  | .tup ds, v, h => by
    unfold R at h ⊢
    obtain ⟨a, xs, r, s, t⟩ := h
    exact ⟨a, xs, r, s.mono e, RA.mono e p ds t⟩
  | .cell i, v, h => by
    unfold R at h ⊢
    obtain ⟨a, r, s⟩ := h
    exact ⟨a, r, p.get s⟩
  | .obj k ds, v, h => by
    unfold R at h ⊢
    obtain ⟨a, dx, fs, r, s, n, t⟩ := h
    exact ⟨a, dx, fs, r, e a _ s, n, RA.mono e p ds t⟩
  | .ty _, v, h => by unfold R at h ⊢; exact h
  | .cls _, v, h => by unfold R at h ⊢; exact h
theorem RA.mono (e : Le F F') (p : Pre θ θ') : ∀ (ds : List D) {vs : List V}, RA c F θ vs ds → RA c F' θ' vs ds
  | [], vs, h => by rw [h.nil_inv]; exact RA.nil
  | d :: ds, vs, h => by
    obtain ⟨v, r, rfl, q, t⟩ := h.cons_inv
    exact RA.cons (R.mono e p d q) (RA.mono e p ds t)
end

/-- from a state (F, θ, H) to a later one: what is frozen stays, cells may change, all else that is tracked stays -/
structure Ext (F : Hp) (θ : List Addr) (H F' : Hp) (θ' : List Addr) (H' : Hp) : Prop where
  fr : Le F F'
  th : Pre θ θ'
  kp : ∀ a o, H a = some o → a ∉ θ → H' a = some o
  nc : ∀ a, a ∈ θ' → a ∉ θ → H a = none
  nf : ∀ a, F a = none → H a ≠ none → F' a = none
  al : ∀ a, H a ≠ none → H' a ≠ none
theorem Ext.refl (F : Hp) (θ : List Addr) (H : Hp) : Ext F θ H F θ H := ⟨Le.refl F, Pre.refl θ, fun _ _ h _ => h, fun _ h k => absurd h k, fun _ h _ => h, fun _ h => h⟩
theorem Ext.trans {F1 F2 F3 H1 H2 H3 : Hp} {θ1 θ2 θ3 : List Addr} (x : Ext F1 θ1 H1 F2 θ2 H2) (y : Ext F2 θ2 H2 F3 θ3 H3) : Ext F1 θ1 H1 F3 θ3 H3 where
  fr := x.fr.trans y.fr
  th := x.th.trans y.th
  kp := fun a o h n => y.kp a o (x.kp a o h n) fun m => by
    have := x.nc a m n
    rw [h] at this; cases this
  nc := fun a m n => by
    by_cases q : a ∈ θ2
    · exact x.nc a q n
    · have h2 := y.nc a m q
      cases e : H1 a with
      | none => rfl
      | some o => have := x.kp a o e n; rw [h2] at this; cases this
  nf := fun a h n => y.nf a (x.nf a h n) (x.al a n)
  al := fun a n => y.al a (x.al a n)
/-- a new frozen object -/
theorem Ext.new {p : Addr} {o : HO} (h : H p = none) (hF : F p = none) (ht : p ∉ θ) : Ext F θ H (upd F p o) θ (upd H p o) where
  fr := Le.new hF
  th := Pre.refl θ
  kp := fun a u e _ => by rw [upd_ne (ne_of_none e h)]; exact e
  nc := fun a m n => absurd m n
  nf := fun a e n => by
    by_cases q : a = p
    · subst q; exact absurd h n
    · rw [upd_ne q]; exact e
  al := fun a n => by
    by_cases q : a = p
    · subst q; exact absurd h n
    · rw [upd_ne q]; exact n
/-- a new object that is not frozen -/
theorem Ext.newH {p : Addr} {o : HO} (h : H p = none) : Ext F θ H F θ (upd H p o) where
  fr := Le.refl F
  th := Pre.refl θ
  kp := fun a u e _ => by rw [upd_ne (ne_of_none e h)]; exact e
  nc := fun a m n => absurd m n
  nf := fun a e n => e
  al := fun a n => by
    by_cases q : a = p
    · subst q; exact absurd h n
    · rw [upd_ne q]; exact n

/-! ### the store: cells -/
abbrev Sto := List (List D)
structure WOk (c : Cs) (s : Sto) (F : Hp) (θ : List Addr) (H : Hp) : Prop where
  sub : Le F H
  fc : ∀ a, a ∈ θ → F a = none ∧ H a ≠ none
  nd : θ.Nodup
  len : θ.length = s.length
  cel : ∀ (i : Nat) (a : Addr) (ds : List D), θ[i]? = some a → s[i]? = some ds → ∃ xs, H a = some (.lst xs) ∧ RA c F θ xs ds
theorem WOk.free {s : Sto} {p : Addr} (w : WOk c s F θ H) (h : H p = none) : F p = none ∧ p ∉ θ := by
  refine ⟨?_, fun m => (w.fc p m).2 h⟩
  cases e : F p with
  | none => rfl
  | some o => have := w.sub p o e; rw [h] at this; cases this
theorem WOk.new {s : Sto} {p : Addr} {o : HO} (w : WOk c s F θ H) (h : H p = none) : WOk c s (upd F p o) θ (upd H p o) where
  sub := w.sub.both
  fc := fun a m => by
    have q : a ≠ p := fun e => (w.free h).2 (e ▸ m)
    rw [upd_ne q, upd_ne q]; exact w.fc a m
  nd := w.nd
  len := w.len
  cel := fun i a ds h1 h2 => by
    obtain ⟨xs, e, r⟩ := w.cel i a ds h1 h2
    exact ⟨xs, by rw [upd_ne (ne_of_none e h)]; exact e, RA.mono (Le.new (w.free h).1) (Pre.refl θ) ds r⟩
theorem WOk.newH {s : Sto} {p : Addr} {o : HO} (w : WOk c s F θ H) (h : H p = none) : WOk c s F θ (upd H p o) where
  sub := w.sub.updR (w.free h).1
  fc := fun a m => by
    have q : a ≠ p := fun e => (w.free h).2 (e ▸ m)
    rw [upd_ne q]; exact w.fc a m
  nd := w.nd
  len := w.len
  cel := fun i a ds h1 h2 => by
    obtain ⟨xs, e, r⟩ := w.cel i a ds h1 h2
    exact ⟨xs, by rw [upd_ne (ne_of_none e h)]; exact e, r⟩
/-- an object that is neither frozen nor a cell is frozen now -/
theorem WOk.freeze {s : Sto} {p : Addr} {o : HO} (w : WOk c s F θ H) (h : H p = some o) (hF : F p = none) (ht : p ∉ θ) : WOk c s (upd F p o) θ H where
  sub := fun a u e => by
    by_cases q : a = p
    · subst q; rw [upd_same] at e; cases e; exact h
    · rw [upd_ne q] at e; exact w.sub a u e
  fc := fun a m => by
    have q : a ≠ p := fun e => ht (e ▸ m)
    rw [upd_ne q]; exact w.fc a m
  nd := w.nd
  len := w.len
  cel := fun i a ds h1 h2 => by
    obtain ⟨xs, e, r⟩ := w.cel i a ds h1 h2
    exact ⟨xs, e, RA.mono (Le.new hF) (Pre.refl θ) ds r⟩
/-- .. becomes a new cell -/
theorem WOk.cellNew {s : Sto} {p : Addr} {xs : List V} {ds : List D} (w : WOk c s F θ H) (h : H p = some (.lst xs)) (r : RA c F θ xs ds) (hF : F p = none) (ht : p ∉ θ) : WOk c (s ++ [ds]) F (θ ++ [p]) H where
  sub := w.sub
  fc := fun a m => by
    rcases List.mem_append.mp m with m | m
    · exact w.fc a m
    · have e : a = p := by simpa using m
      subst e; exact ⟨hF, by rw [h]; simp⟩
  nd := by
    rw [List.nodup_append]
    refine ⟨w.nd, by simp, fun a ha b hb e => ht ?_⟩
    have z : b = p := by simpa using hb
    rw [← z, ← e]; exact ha
  len := by simp [w.len]
  cel := fun i a es h1 h2 => by
    rcases Nat.lt_or_ge i θ.length with q | q
    · rw [List.getElem?_append_left q] at h1
      rw [List.getElem?_append_left (by rw [← w.len]; exact q)] at h2
      obtain ⟨ys, e, r'⟩ := w.cel i a es h1 h2
      exact ⟨ys, e, RA.mono (Le.refl F) ⟨[p], rfl⟩ es r'⟩
    · rw [List.getElem?_append_right q] at h1
      rw [List.getElem?_append_right (by rw [← w.len]; exact q)] at h2
      have hl := w.len
      cases e : i - θ.length with
      | zero =>
        rw [e] at h1
        rw [← hl, e] at h2
        simp at h1 h2
        subst h1; subst h2
        exact ⟨xs, h, RA.mono (Le.refl F) ⟨[p], rfl⟩ ds r⟩
      | succ n => rw [e] at h1; simp at h1
theorem nd_ix : ∀ {l : List Addr} {i j : Nat} {a : Addr}, l.Nodup → l[i]? = some a → l[j]? = some a → i = j
  | [], i, j, a, _, h, _ => by simp at h
  | x :: l, 0, 0, a, _, _, _ => rfl
  | x :: l, 0, j + 1, a, n, h, k => by
    simp at h k
    subst h
    exact absurd (List.mem_of_getElem? k) (List.nodup_cons.mp n).1
  | x :: l, i + 1, 0, a, n, h, k => by
    simp at h k
    subst k
    exact absurd (List.mem_of_getElem? h) (List.nodup_cons.mp n).1
  | x :: l, i + 1, j + 1, a, n, h, k => by
    simp at h k
    rw [nd_ix (List.nodup_cons.mp n).2 h k]
/-- a cell is written -/
theorem WOk.cellSet {s : Sto} {p : Addr} {i : Nat} {ys : List V} {es : List D} (w : WOk c s F θ H) (hi : θ[i]? = some p) (r : RA c F θ ys es) : WOk c (s.set i es) F θ (upd H p (.lst ys)) := by
  have hm : p ∈ θ := List.mem_of_getElem? hi
  refine ⟨w.sub.updR (w.fc p hm).1, fun a m => ?_, w.nd, by simp [w.len], fun j a fs h1 h2 => ?_⟩
  · by_cases q : a = p
    · subst q; rw [upd_same]; exact ⟨(w.fc a m).1, by simp⟩
    · rw [upd_ne q]; exact w.fc a m
  · by_cases q : j = i
    · subst q
      rw [hi] at h1; cases h1
      have hj : j < s.length := by
        rw [← w.len]
        rcases Nat.lt_or_ge j θ.length with z | z
        · exact z
        · rw [List.getElem?_eq_none z] at hi; cases hi
      rw [List.getElem?_set_self hj] at h2
      cases h2
      exact ⟨ys, upd_same, r⟩
    · rw [List.getElem?_set_ne (fun e => q e.symm)] at h2
      obtain ⟨xs, e, r'⟩ := w.cel j a fs h1 h2
      have na : a ≠ p := fun z => by
        subst z
        exact q (nd_ix w.nd h1 hi)
      exact ⟨xs, by rw [upd_ne na]; exact e, r'⟩
theorem Ext.cellSet {p : Addr} {o : HO} (hp : p ∈ θ) : Ext F θ H F θ (upd H p o) where
  fr := Le.refl F
  th := Pre.refl θ
  kp := fun a u e n => by
    have z : a ≠ p := fun z => n (by rw [z]; exact hp)
    rw [upd_ne z]; exact e
  nc := fun a m n => absurd m n
  nf := fun a e n => e
  al := fun a n => by
    by_cases q : a = p
    · subst q; rw [upd_same]; simp
    · rw [upd_ne q]; exact n

/-! ### slots -/
/-- the entry of a def: the heap there, and self, where it is an __init__ -/
structure En where
  h : Hp
  me : Addr
instance : CoeFun En (fun _ => Addr → Option HO) := ⟨En.h⟩
instance : Coe En Hp := ⟨En.h⟩
inductive Sl where
  | none | val (d : D) | own (xs : List D) | oobj (k : Nat) (fs : List (Str × D))
def SlotOk (c : Cs) (H0 : En) (F : Hp) (θ : List Addr) (H : Hp) : Option V → Sl → Prop
  | _, .none => True
  | o, .val d => ∃ v, o = some v ∧ R c F θ v d
  | o, .own ds => ∃ l xs, o = some (.ref l) ∧ H0 l = none ∧ F l = none ∧ l ∉ θ ∧ H l = some (.lst xs) ∧ RA c F θ xs ds
  | o, .oobj k fs => ∃ x dx fv, o = some (.ref x) ∧ x = H0.me ∧ H0 x = none ∧ F x = none ∧ x ∉ θ ∧ H x = some (.ins (c.cl k) dx fv) ∧ fv.map (·.1) = fs.map (·.1) ∧ RA c F θ (fv.map (·.2)) (fs.map (·.2))
structure EnvOk (c : Cs) (H0 : En) (F : Hp) (θ : List Addr) (H : Hp) (σ : List (Option V)) (ρ : List Sl) : Prop where
  len : σ.length = ρ.length
  at_ : ∀ (i : Nat) (o : Option V) (x : Sl), σ[i]? = some o → ρ[i]? = some x → SlotOk c H0 F θ H o x
  apart : ∀ (i j : Nat) (l : Addr) (xs ys : List D), i ≠ j → σ[i]? = some (some (.ref l)) → ρ[i]? = some (.own xs) → ρ[j]? = some (.own ys) → σ[j]? ≠ some (some (.ref l))
theorem SlotOk.ext {H0 : En} {o : Option V} {x : Sl} (h : SlotOk c H0 F θ H o x) (e : Ext F θ H F' θ' H') : SlotOk c H0 F' θ' H' o x := by
  cases x with
  | none => trivial
  | val d => obtain ⟨v, r, q⟩ := h; exact ⟨v, r, R.mono e.fr e.th d q⟩
  | own ds =>
    obtain ⟨l, xs, r, h0, hF, ht, hH, q⟩ := h
    refine ⟨l, xs, r, h0, e.nf l hF (by rw [hH]; simp), fun m => ?_, e.kp l _ hH ht, RA.mono e.fr e.th ds q⟩
    have z := e.nc l m ht
    rw [hH] at z
    cases z
  | oobj k fs =>
    obtain ⟨l, dx, xs, r, hm, h0, hF, ht, hH, hn, q⟩ := h
    refine ⟨l, dx, xs, r, hm, h0, e.nf l hF (by rw [hH]; simp), fun m => ?_, e.kp l _ hH ht, hn, RA.mono e.fr e.th _ q⟩
    have z := e.nc l m ht
    rw [hH] at z
    cases z
theorem EnvOk.ext {H0 : En} {σ : List (Option V)} {ρ : List Sl} (h : EnvOk c H0 F θ H σ ρ) (e : Ext F θ H F' θ' H') : EnvOk c H0 F' θ' H' σ ρ :=
  ⟨h.len, fun i o x h1 h2 => (h.at_ i o x h1 h2).ext e, h.apart⟩
theorem get_lt {α : Type} {l : List α} {i : Nat} {a : α} (h : l[i]? = some a) : i < l.length := by
  rcases Nat.lt_or_ge i l.length with z | z
  · exact z
  · rw [List.getElem?_eq_none z] at h; cases h
theorem EnvOk.get {H0 : En} {σ : List (Option V)} {ρ : List Sl} {i : Nat} {x : Sl} (h : EnvOk c H0 F θ H σ ρ) (e : ρ[i]? = some x) : ∃ o, σ[i]? = some o ∧ SlotOk c H0 F θ H o x := by
  have := get_lt e
  have hi : i < σ.length := by rw [h.len]; exact this
  exact ⟨σ[i], List.getElem?_eq_getElem hi, h.at_ i _ x (List.getElem?_eq_getElem hi) e⟩
theorem EnvOk.set {H0 : En} {σ : List (Option V)} {ρ : List Sl} {i : Nat} {o : Option V} {x : Sl} (h : EnvOk c H0 F θ H σ ρ) (q : SlotOk c H0 F θ H o x)
    (ap : ∀ l xs, o = some (.ref l) → x = .own xs → ∀ j ys, j ≠ i → ρ[j]? = some (.own ys) → σ[j]? ≠ some (some (.ref l))) : EnvOk c H0 F θ H (σ.set i o) (ρ.set i x) := by
  refine ⟨by simp [h.len], fun j o' x' h1 h2 => ?_, fun j k l xs ys n h1 h2 h3 h4 => ?_⟩
  · by_cases e : i = j
    · subst e
      have hj : i < σ.length := by have := get_lt h1; simpa using this
      rw [List.getElem?_set_self hj] at h1
      rw [List.getElem?_set_self (by rw [← h.len]; exact hj)] at h2
      cases h1; cases h2; exact q
    · rw [List.getElem?_set_ne e] at h1 h2
      exact h.at_ j o' x' h1 h2
  · by_cases e : i = j
    · subst e
      have hj : i < σ.length := by have := get_lt h1; simpa using this
      rw [List.getElem?_set_self hj] at h1
      rw [List.getElem?_set_self (by rw [← h.len]; exact hj)] at h2
      rw [List.getElem?_set_ne n] at h3 h4
      exact ap l xs (Option.some.inj h1) (Option.some.inj h2) k ys (fun z => n z.symm) h3 h4
    · rw [List.getElem?_set_ne e] at h1 h2
      by_cases e2 : i = k
      · subst e2
        have hj : i < σ.length := by have := get_lt h4; simpa using this
        rw [List.getElem?_set_self hj] at h4
        rw [List.getElem?_set_self (by rw [← h.len]; exact hj)] at h3
        exact ap l ys (Option.some.inj h4) (Option.some.inj h3) j xs (fun z => e z.symm) h2 h1
      · rw [List.getElem?_set_ne e2] at h3 h4
        exact h.apart j k l xs ys n h1 h2 h3 h4
theorem EnvOk.setVal {H0 : En} {σ : List (Option V)} {ρ : List Sl} {i : Nat} {v : V} {d : D} (h : EnvOk c H0 F θ H σ ρ) (q : R c F θ v d) : EnvOk c H0 F θ H (σ.set i (some v)) (ρ.set i (.val d)) :=
  h.set ⟨v, rfl, q⟩ fun _ _ _ e => by cases e
theorem EnvOk.setNone {H0 : En} {σ : List (Option V)} {ρ : List Sl} {i : Nat} {o : Option V} (h : EnvOk c H0 F θ H σ ρ) : EnvOk c H0 F θ H (σ.set i o) (ρ.set i .none) :=
  h.set trivial fun _ _ _ e => by cases e
/-- a new list of one's own -/
theorem EnvOk.setOwn {H0 : En} {σ : List (Option V)} {ρ : List Sl} {i : Nat} {l : Addr} {xs : List V} {ds : List D} (h : EnvOk c H0 F θ H σ ρ) (h0 : H0 l = none) (hF : F l = none) (ht : l ∉ θ) (hH : H l = some (.lst xs)) (r : RA c F θ xs ds)
    (nw : ∀ j ys, j ≠ i → ρ[j]? = some (.own ys) → σ[j]? ≠ some (some (.ref l))) : EnvOk c H0 F θ H (σ.set i (some (.ref l))) (ρ.set i (.own ds)) :=
  h.set ⟨l, xs, rfl, h0, hF, ht, hH, r⟩ fun l' _ e _ j ys n h3 => by
    cases e
    exact nw j ys n h3
end
end MX


set_option Elab.async false
set_option linter.all false
set_option maxRecDepth 100000
namespace MX
open PySem PySem.Spec PyProof.Rows L2

/-! ### answers -/
inductive Res (α : Type) where
  | ok (a : α) (s : Sto) | exc (k : Nat) (fs : List D) (s : Sto) | bad
def Res.bind {α β : Type} (r : Res α) (f : α → Sto → Res β) : Res β := match r with
  | .ok a s => f a s
  | .exc k fs s => .exc k fs s
  | .bad => .bad
def Res.ofO {α : Type} (o : Option α) (s : Sto) : Res α := match o with
  | some a => .ok a s
  | none => .bad
/-- an exception's own dict -/
def XRep (c : Cs) (F : Hp) (θ : List Addr) (dx : Option Addr) (k : Nat) (fs : List D) : Prop :=
  fs = [] ∨ ∃ d vs, dx = some d ∧ F d = some (.xd ((c.xf k).zip vs)) ∧ vs.length = (c.xf k).length ∧ RA c F θ vs fs
/-- what a V (a list of V, a Bool ..) stands for: by the heap at the start, then F θ H -/
structure Rel (c : Cs) (β α : Type) where
  on : Hp → Hp → List Addr → Hp → β → α → Prop
  anti : ∀ (H1 H2 : Hp), (∀ a, H1 a ≠ none → H2 a ≠ none) → ∀ F θ H v a, on H2 F θ H v a → on H1 F θ H v a
section
variable (c : Cs)
def rV : Rel c V D := ⟨fun _ F θ _ v d => R c F θ v d, fun _ _ _ _ _ _ _ _ h => h⟩
def rA : Rel c (List V) (List D) := ⟨fun _ F θ _ v d => RA c F θ v d, fun _ _ _ _ _ _ _ _ h => h⟩
def rB : Rel c Bool Bool := ⟨fun _ _ _ _ b d => b = d, fun _ _ _ _ _ _ _ _ h => h⟩
/-- a list that is read -/
def rL : Rel c V (List D) := ⟨fun _ F θ H v ds => ∃ a xs, v = .ref a ∧ SqL c.K H a xs ∧ a ∉ θ ∧ RA c F θ xs ds, fun _ _ _ _ _ _ _ _ h => h⟩
/-- a new list that nothing else holds -/
def rF : Rel c V (List D) := ⟨fun Hi F θ H v ds => ∃ p xs, v = .ref p ∧ Hi p = none ∧ F p = none ∧ p ∉ θ ∧ H p = some (.lst xs) ∧ RA c F θ xs ds, fun H1 H2 al _ _ _ _ _ ⟨p, xs, e, n, r⟩ => ⟨p, xs, e, by
  cases q : H1 p with
  | none => rfl
  | some o => exact absurd n (al p (by rw [q]; simp)), r⟩⟩
def rO : Rel c (Option Int) (Option Int) := ⟨fun _ _ _ _ b d => b = d, fun _ _ _ _ _ _ _ _ h => h⟩
end
def Post {α β : Type} (c : Cs) (E : XK) (rel : Rel c β α) (r : Res α) (F : Hp) (θ : List Addr) (H : Hp) (Q : β → Hp → Prop) : Prop := match r with
  | .ok a s' => ∀ v F' θ' H', Ext F θ H F' θ' H' → WOk c s' F' θ' H' → rel.on H F' θ' H' v a → Q v H'
  | .exc k fs s' => ∀ F' θ' H' dx, Ext F θ H F' θ' H' → WOk c s' F' θ' H' → XRep c F' θ' dx k fs → E (.ref (c.xc k)) dx H'
  | .bad => False
theorem Post.shift {α β : Type} {c : Cs} {E : XK} {rel : Rel c β α} {r : Res α} {F F' : Hp} {θ θ' : List Addr} {H H' : Hp} {Q : β → Hp → Prop} (h : Post c E rel r F θ H Q) (e : Ext F θ H F' θ' H') : Post c E rel r F' θ' H' Q := by
  cases r with
  | ok a s' => exact fun v F2 θ2 H2 x w q => h v F2 θ2 H2 (e.trans x) w (rel.anti H H' e.al _ _ _ _ _ q)
  | exc k fs s' => exact fun F2 θ2 H2 dx x w q => h F2 θ2 H2 dx (e.trans x) w q
  | bad => exact h
abbrev Fn (α : Type) := List Sl → Sto → Res α
abbrev TX (β : Type) := L2.St → Hp → (β → Hp → Prop) → Prop
/-- the reading t goes by the function e -/
def Den {α β : Type} (c : Cs) (E : XK) (rel : Rel c β α) (t : TX β) (e : Fn α) : Prop := ∀ (H0 : En) (σ : L2.St) (ρ : List Sl) (s : Sto) (F : Hp) (θ : List Addr) (H : Hp) (Q : β → Hp → Prop),
  EnvOk c H0 F θ H σ ρ → WOk c s F θ H → Post c E rel (e ρ s) F θ H Q → t σ H Q
abbrev DenE (c : Cs) (E : XK) (t : TE) (e : Fn D) : Prop := Den c E (rV c) t e
abbrev DenT (c : Cs) (E : XK) (t : TT) (e : Fn Bool) : Prop := Den c E (rB c) t e
abbrev DenA (c : Cs) (E : XK) (t : TA) (e : Fn (List D)) : Prop := Den c E (rA c) t e
abbrev DenL (c : Cs) (E : XK) (t : TE) (e : Fn (List D)) : Prop := Den c E (rL c) t e
abbrev DenF (c : Cs) (E : XK) (t : TE) (e : Fn (List D)) : Prop := Den c E (rF c) t e
abbrev DenO (c : Cs) (E : XK) (t : TO) (e : Fn (Option Int)) : Prop := Den c E (rO c) t e

section
variable {c : Cs} {E : XK}
theorem den_bind {α β γ δ : Type} {r1 : Rel c β α} {r2 : Rel c δ γ} {ta : TX β} {ea : Fn α} {f : List Sl → α → Sto → Res γ} {K : L2.St → β → Hp → (δ → Hp → Prop) → Prop} (ha : Den c E r1 ta ea)
    (hk : ∀ (H0 : En) (σ : L2.St) (ρ : List Sl) (s : Sto) (F : Hp) (θ : List Addr) (H Hi : Hp) (v : β) (a : α) (Q : δ → Hp → Prop), EnvOk c H0 F θ H σ ρ → WOk c s F θ H → r1.on Hi F θ H v a → Post c E r2 (f ρ a s) F θ H Q → K σ v H Q) :
    Den c E r2 (fun σ H Q => ta σ H fun v H1 => K σ v H1 Q) (fun ρ s => (ea ρ s).bind (f ρ)) := by
  intro H0 σ ρ s F θ H Q he hw hp
  refine ha H0 σ ρ s F θ H _ he hw ?_
  cases e : ea ρ s with
  | ok a s' =>
    have hp' : Post c E r2 (f ρ a s') F θ H Q := by
      have h := hp
      simp only [e] at h
      exact h
    exact fun v F' θ' H' x w q => hk H0 σ ρ s' F' θ' H' H v a Q (he.ext x) w q (hp'.shift x)
  | exc k fs s' =>
    have h := hp
    simp only [e] at h
    exact h
  | bad =>
    have h := hp
    simp only [e] at h
    exact h
/-- a later value for an earlier one -/
theorem Post.res {α β γ : Type} {r1 : Rel c β α} {r2 : Rel c β γ} {r : Res α} {g : α → γ} {F θ H} {Q : β → Hp → Prop} (h : Post c E r2 (r.bind fun a s => .ok (g a) s) F θ H Q)
    (k : ∀ F' θ' H' v a, r1.on H F' θ' H' v a → r2.on H F' θ' H' v (g a)) : Post c E r1 r F θ H Q := by
  cases r with
  | ok a s' => exact fun v F' θ' H' x w q => h v F' θ' H' x w (k _ _ _ _ _ q)
  | exc k fs s' => exact h
  | bad => exact h
theorem den_map {α β γ : Type} {r1 : Rel c β α} {r2 : Rel c β γ} {t : TX β} {e : Fn α} {g : α → γ} (h : Den c E r1 t e) (k : ∀ H F' θ' H' v a, r1.on H F' θ' H' v a → r2.on H F' θ' H' v (g a)) :
    Den c E r2 t (fun ρ s => (e ρ s).bind fun a s => .ok (g a) s) := fun H0 σ ρ s F θ H Q he hw hp => h H0 σ ρ s F θ H Q he hw (Post.res hp (k H))

/-! ### what a rule on values gives -/
/-- without a change of the store -/
def Gives (c : Cs) (res : Option D) (s : Sto) (F : Hp) (θ : List Addr) (H : Hp) (r : VK → Prop) : Prop :=
  ∀ (Q : VK) (d : D), res = some d → (∀ v F' H', Ext F θ H F' θ H' → WOk c s F' θ H' → R c F' θ v d → Q v H') → r Q
theorem Gives.post {res : Option D} {s : Sto} {F : Hp} {θ : List Addr} {H : Hp} {r : VK → Prop} (h : Gives c res s F θ H r) {Q : VK} (hp : Post c E (rV c) (Res.ofO res s) F θ H Q) : r Q := by
  cases e : res with
  | none => rw [e] at hp; exact hp.elim
  | some d =>
    rw [e] at hp
    exact h Q d e fun v F' H' x w q => hp v F' θ H' x w q
abbrev F2 := D → D → Sto → Option D
def OpD (c : Cs) (r : R2) (f : F2) : Prop := ∀ (s : Sto) (F : Hp) (θ : List Addr) (H : Hp) (x y : V) (a b : D), WOk c s F θ H → R c F θ x a → R c F θ y b → Gives c (f a b s) s F θ H (r x y H)
def CallD (c : Cs) (r : List V → Hp → VK → Prop) (f : List D → Sto → Option D) : Prop := ∀ (s : Sto) (F : Hp) (θ : List Addr) (H : Hp) (xs : List V) (as : List D), WOk c s F θ H → RA c F θ xs as → Gives c (f as s) s F θ H (r xs H)
def UnD (c : Cs) (r : V → Hp → VK → Prop) (f : D → Sto → Option D) : Prop := ∀ (s : Sto) (F : Hp) (θ : List Addr) (H : Hp) (x : V) (a : D), WOk c s F θ H → R c F θ x a → Gives c (f a s) s F θ H (r x H)

/-! ### names, constants -/
def dVar (i : Nat) : Fn D := fun ρ s => match ρ[i]? with
  | some (.val d) => .ok d s
  | _ => .bad
theorem den_var {i : Nat} : DenE c E (tVar i) (dVar i) := by
  intro H0 σ ρ s F θ H Q he hw hp
  unfold dVar at hp
  cases e : ρ[i]? with
  | none => simp only [e] at hp; exact hp.elim
  | some x =>
    cases x with
    | none => simp only [e] at hp; exact hp.elim
    | own _ => simp only [e] at hp; exact hp.elim
    | oobj _ _ => simp only [e] at hp; exact hp.elim
    | val d =>
      simp only [e] at hp
      obtain ⟨o, h1, v, rfl, r⟩ := he.get e
      exact ⟨v, h1, hp v F θ H (Ext.refl _ _ _) hw r⟩
def dC (d : D) : Fn D := fun _ s => .ok d s
theorem den_c {v : V} {d : D} (h : ∀ F θ, R c F θ v d) : DenE c E (tC v) (dC d) := fun H0 σ ρ s F θ H Q he hw hp => hp v F θ H (Ext.refl _ _ _) hw (h F θ)
theorem den_int {i : Int} : DenE c E (tC (.int i)) (dC (.int i)) := den_c fun _ _ => by unfold R; rfl
theorem den_bl {b : Bool} : DenE c E (tC (.bl b)) (dC (.bl b)) := den_c fun _ _ => by unfold R; rfl
theorem den_non : DenE c E (tC .non) (dC .non) := den_c fun _ _ => by unfold R; rfl
theorem den_str {x : Str} : DenE c E (tC (.str x)) (dC (.str x)) := den_c fun _ _ => by unfold R; rfl
theorem den_ty {n : String} : DenE c E (tC (.ty n)) (dC (.ty n)) := den_c fun _ _ => by unfold R; rfl
theorem den_cls {k : Nat} : DenE c E (tC (.ref (c.cl k))) (dC (.cls k)) := den_c fun _ _ => by unfold R; rfl

/-! ### operators, arguments -/
def dBin (f : F2) (ea eb : Fn D) : Fn D := fun ρ s => (ea ρ s).bind fun a s => (eb ρ s).bind fun b s => Res.ofO (f a b s) s
theorem den_bin {r : R2} {f : F2} {ta tb : TE} {ea eb : Fn D} (hr : OpD c r f) (ha : DenE c E ta ea) (hb : DenE c E tb eb) : DenE c E (tOp r ta tb) (dBin f ea eb) := by
  refine den_bind (K := fun σ x H Q => tb σ H fun y H2 => r x y H2 Q) ha fun H0 σ ρ s F θ H Hi x a Q he hw q hp => ?_
  refine hb H0 σ ρ s F θ H _ he hw ?_
  cases e : eb ρ s with
  | ok b s' =>
    rw [e] at hp
    exact fun y F' θ' H' ex w q2 => (hr s' F' θ' H' x y a b w (R.mono ex.fr ex.th a q) q2).post (hp.shift ex)
  | exc k fs s' => rw [e] at hp; exact hp
  | bad => rw [e] at hp; exact hp
def dUn (f : D → Sto → Option D) (ea : Fn D) : Fn D := fun ρ s => (ea ρ s).bind fun a s => Res.ofO (f a s) s
theorem den_un {r : V → Hp → VK → Prop} {f : D → Sto → Option D} {ta : TE} {ea : Fn D} (hr : UnD c r f) (ha : DenE c E ta ea) : DenE c E (tUn r ta) (dUn f ea) :=
  den_bind (K := fun σ x H Q => r x H Q) ha fun H0 σ ρ s F θ H Hi x a Q he hw q hp => (hr s F θ H x a hw q).post hp
def dNil : Fn (List D) := fun _ s => .ok [] s
theorem den_nil : DenA c E tNil dNil := fun H0 σ ρ s F θ H Q he hw hp => hp [] F θ H (Ext.refl _ _ _) hw (RA.nil (c := c) (F := F) (θ := θ))
def dCons (ea : Fn D) (er : Fn (List D)) : Fn (List D) := fun ρ s => (ea ρ s).bind fun a s => (er ρ s).bind fun r s => .ok (a :: r) s
theorem den_cons {ta : TE} {tr : TA} {ea : Fn D} {er : Fn (List D)} (ha : DenE c E ta ea) (hr : DenA c E tr er) : DenA c E (tCons ta tr) (dCons ea er) := by
  refine den_bind (K := fun σ x H Q => tr σ H fun xs H2 => Q (x :: xs) H2) ha fun H0 σ ρ s F θ H Hi x a Q he hw q hp => ?_
  refine hr H0 σ ρ s F θ H _ he hw ?_
  cases e : er ρ s with
  | ok b s' =>
    rw [e] at hp
    exact fun y F' θ' H' ex w q2 => hp (x :: y) F' θ' H' ex w (RA.cons (R.mono ex.fr ex.th a q) q2)
  | exc k fs s' => rw [e] at hp; exact hp
  | bad => rw [e] at hp; exact hp
def dCB (f : List D → Sto → Option D) (ea : Fn (List D)) : Fn D := fun ρ s => (ea ρ s).bind fun a s => Res.ofO (f a s) s
theorem den_cb {r : List V → Hp → VK → Prop} {f : List D → Sto → Option D} {ta : TA} {ea : Fn (List D)} (hr : CallD c r f) (ha : DenA c E ta ea) : DenE c E (tCB r ta) (dCB f ea) :=
  den_bind (K := fun σ x H Q => r x H Q) ha fun H0 σ ρ s F θ H Hi x a Q he hw q hp => (hr s F θ H x a hw q).post hp

/-! ### displays -/
def small (n : Nat) : Bool := decide (n ≤ 1000000)
theorem small_of {n : Nat} (h : small n = true) : n ≤ sizeLine := Nat.le_trans (of_decide_eq_true h) (by decide)
theorem small_lt {n : Nat} (h : small n = true) : n < sizeLine := Nat.lt_of_le_of_lt (of_decide_eq_true h) (by decide)
def dTup (ea : Fn (List D)) : Fn D := fun ρ s => (ea ρ s).bind fun a s => if small a.length then .ok (.tup a) s else .bad
theorem r_tup {F : Hp} {θ : List Addr} {H : Hp} {p : Addr} {o : Obj} {xs : List V} {ds : List D} (n : F p = none) (od : o.dict = none) (r : RA c F θ xs ds) : R c (upd F p (.frz o (.tup xs))) θ (.ref p) (.tup ds) := by
  unfold R; exact ⟨p, xs, rfl, ⟨o, upd_same, od⟩, RA.mono (Le.new n) (Pre.refl θ) ds r⟩
theorem r_lst {F : Hp} {θ : List Addr} {H : Hp} {p : Addr} {xs : List V} {ds : List D} (n : F p = none) (r : RA c F θ xs ds) : R c (upd F p (.lst xs)) θ (.ref p) (.lst ds) := by
  unfold R; exact ⟨p, xs, rfl, upd_same, RA.mono (Le.new n) (Pre.refl θ) ds r⟩
theorem den_tup {ta : TA} {ea : Fn (List D)} (ha : DenA c E ta ea) : DenE c E (tTupZ ta) (dTup ea) := by
  refine den_bind (K := fun σ xs H1 Q => xs.length ≤ sizeLine ∧ newZ xs H1 Q) ha fun H0 σ ρ s F θ H Hi xs ds Q he hw q hp => ?_
  cases z : small ds.length with
  | false => simp only [z] at hp; exact hp.elim
  | true =>
    simp only [z, if_true] at hp
    exact ⟨by rw [RA.length q]; exact small_of z, fun p o hn od => hp _ _ _ _ (Ext.new hn (hw.free hn).1 (hw.free hn).2) (hw.new hn) (r_tup (H := H) (hw.free hn).1 od q)⟩
def dLst (ea : Fn (List D)) : Fn (List D) := fun ρ s => (ea ρ s).bind fun a s => if small a.length then .ok a s else .bad
theorem fresh_rf {s : Sto} {F : Hp} {θ : List Addr} {H : Hp} {p : Addr} {xs : List V} {ds : List D} (hw : WOk c s F θ H) (hn : H p = none) (r : RA c F θ xs ds) : (rF c).on H F θ (upd H p (.lst xs)) (V.ref p) ds :=
  ⟨p, xs, rfl, hn, (hw.free hn).1, (hw.free hn).2, upd_same, r⟩
theorem den_lst {ta : TA} {ea : Fn (List D)} (ha : DenA c E ta ea) : DenF c E (tLst ta) (dLst ea) := by
  refine den_bind (K := fun σ xs H1 Q => xs.length ≤ sizeLine ∧ ∀ p, H1 p = none → Q (V.ref p) (upd H1 p (.lst xs))) ha fun H0 σ ρ s F θ H Hi xs ds Q he hw q hp => ?_
  cases z : small ds.length with
  | false => simp only [z] at hp; exact hp.elim
  | true =>
    simp only [z, if_true] at hp
    exact ⟨by rw [RA.length q]; exact small_of z, fun p hn => hp _ _ _ _ (Ext.newH hn) (hw.newH hn) (fresh_rf hw hn q)⟩

/-! ### a new list as a value, as a cell; what is read -/
theorem Ext.freeze {F : Hp} {θ : List Addr} {Hi F' θ' H' : _} {p : Addr} {o : HO} (x : Ext F θ Hi F' θ' H') (n : Hi p = none) (nF : F' p = none) : Ext F θ Hi (upd F' p o) θ' H' where
  fr := x.fr.trans (Le.new nF)
  th := x.th
  kp := x.kp
  nc := x.nc
  nf := fun a e z => by
    by_cases q : a = p
    · subst q; exact absurd n z
    · rw [upd_ne q]; exact x.nf a e z
  al := x.al
theorem Ext.cellNew {F : Hp} {θ : List Addr} {Hi F' H' : Hp} {θ' : List Addr} {p : Addr} (x : Ext F θ Hi F' θ' H') (n : Hi p = none) : Ext F θ Hi F' (θ' ++ [p]) H' where
  fr := x.fr
  th := x.th.trans ⟨[p], rfl⟩
  kp := x.kp
  nc := fun a m z => by
    rcases List.mem_append.mp m with m | m
    · exact x.nc a m z
    · have e : a = p := by simpa using m
      rw [e]; exact n
  nf := x.nf
  al := x.al
def dOfL (e : Fn (List D)) : Fn D := fun ρ s => (e ρ s).bind fun a s => .ok (.lst a) s
theorem den_ofL {t : TE} {e : Fn (List D)} (h : DenF c E t e) : DenE c E t (dOfL e) := by
  intro H0 σ ρ s F θ H Q he hw hp
  refine h H0 σ ρ s F θ H Q he hw ?_
  unfold dOfL at hp
  cases q : e ρ s with
  | bad => rw [q] at hp; exact hp
  | exc k fs s' => rw [q] at hp; exact hp
  | ok ds s' =>
    rw [q] at hp
    rintro v F' θ' H' x w ⟨p, xs, rfl, hn, hF, ht, hH, r⟩
    refine hp _ (upd F' p (.lst xs)) θ' H' (x.freeze hn hF) (w.freeze hH hF ht) ?_
    exact r_lst (H := H) hF r
def dCell (e : Fn (List D)) : Fn D := fun ρ s => (e ρ s).bind fun a s => .ok (.cell s.length) (s ++ [a])
theorem den_cell {t : TE} {e : Fn (List D)} (h : DenF c E t e) : DenE c E t (dCell e) := by
  intro H0 σ ρ s F θ H Q he hw hp
  refine h H0 σ ρ s F θ H Q he hw ?_
  unfold dCell at hp
  cases q : e ρ s with
  | bad => rw [q] at hp; exact hp
  | exc k fs s' => rw [q] at hp; exact hp
  | ok ds s' =>
    rw [q] at hp
    rintro v F' θ' H' x w ⟨p, xs, rfl, hn, hF, ht, hH, r⟩
    refine hp _ F' (θ' ++ [p]) H' (x.cellNew hn) (w.cellNew hH r hF ht) ?_
    show R c F' (θ' ++ [p]) (.ref p) (.cell s'.length)
    unfold R
    exact ⟨p, rfl, by rw [← w.len, List.getElem?_append_right (Nat.le_refl _)]; simp⟩
/-- a name of a list of one's own, read on the spot -/
def dOwn (i : Nat) : Fn (List D) := fun ρ s => match ρ[i]? with
  | some (.own ds) => .ok ds s
  | _ => .bad
theorem den_own {i : Nat} : DenL c E (tVar i) (dOwn i) := by
  intro H0 σ ρ s F θ H Q he hw hp
  unfold dOwn at hp
  cases e : ρ[i]? with
  | none => simp only [e] at hp; exact hp.elim
  | some x =>
    cases x with
    | none => simp only [e] at hp; exact hp.elim
    | val _ => simp only [e] at hp; exact hp.elim
    | oobj _ _ => simp only [e] at hp; exact hp.elim
    | own d =>
      simp only [e] at hp
      obtain ⟨o, h1, l, xs, rfl, h0, hF, ht, hH, r⟩ := he.get e
      exact ⟨_, h1, hp _ F θ H (Ext.refl _ _ _) hw ⟨l, xs, rfl, SqL.of hH, ht, r⟩⟩
theorem rF_L {Hi F : Hp} {θ : List Addr} {H : Hp} {v : V} {ds : List D} (h : (rF c).on Hi F θ H v ds) : (rL c).on Hi F θ H v ds := by
  obtain ⟨p, xs, e, hn, hF, ht, hH, r⟩ := h
  exact ⟨p, xs, e, SqL.of hH, ht, r⟩
theorem den_FL {t : TE} {e : Fn (List D)} (h : DenF c E t e) : DenL c E t e := by
  intro H0 σ ρ s F θ H Q he hw hp
  refine h H0 σ ρ s F θ H Q he hw ?_
  cases q : e ρ s with
  | bad => rw [q] at hp; exact hp
  | exc k fs s' => rw [q] at hp; exact hp
  | ok ds s' =>
    rw [q] at hp
    exact fun v F' θ' H' x w r => hp v F' θ' H' x w (rF_L r)
end
end MX


set_option Elab.async false
set_option linter.all false
set_option maxRecDepth 100000
namespace MX
open PySem PySem.Spec PyProof.Rows L2

/-! ### rules that go by the kinds of values -/
section
variable {X : Cx}
theorem OpR.or {f : Value → Value → Sem Value} {r r' : R2} (h : OpR X f r) (h' : OpR X f r') : OpR X f (fun x y H Q => r x y H Q ∨ r' x y H Q) := by
  intro pins s σ H x y v u Q I rx ry q
  rcases q with q | q
  · exact h pins s σ H x y v u Q I rx ry q
  · exact h' pins s σ H x y v u Q I rx ry q
def rCatS : R2 := fun x y H Q => ∃ i j, x = .str i ∧ y = .str j ∧ i.length + j.length ≤ sizeLine ∧ Q (.str (i ++ j)) H
def rAddG (K : PySem.W.Frag) : R2 := fun x y H Q => rI0 (fun i j => .int (i + j)) x y H Q ∨ (rCatS x y H Q ∨ (rCat x y H Q ∨ rCatZ K x y H Q))
theorem op_addG : OpR X (binaryOp .Add) (rAddG X.K) := OpR.or op_add (OpR.or op_add_str (OpR.or op_cat op_catZ))
/-- * of ints of any size that a script has -/
def CMulX (i j : Int) : Prop := i.natAbs.log2 + j.natAbs.log2 < 100000000
theorem CMulX.ok {i j : Int} (h : CMulX i j) : IntMulOk i j := by
  have b : ∀ x : Int, Builtin.Int.intBits x ≤ x.natAbs.log2 + 1 := fun x => by
    unfold Builtin.Int.intBits
    split <;> omega
  have h1 := b i
  have h2 := b j
  have h3 : i.natAbs.log2 + j.natAbs.log2 < 100000000 := h
  have e : bitsLine = 134217728 := by decide
  unfold IntMulOk
  intro z
  rw [Bool.and_eq_true] at z
  have z2 := z.2
  unfold Builtin.Int.intTooBig at z2
  have z3 := of_decide_eq_true z2
  rw [e] at z3
  omega
theorem op_mulX : OpR X (binaryOp .Mult) (rI CMulX fun i j => .int (i * j)) := opI fun _ _ _ _ _ _ _ hc q => mul_int q hc.ok
end

/-! ### values as plain data -/
mutual
def toP0 : D → Option PyData
  | .non => some .none
  | .bl b => some (.bool b)
  | .int i => some (.int i)
  | .str x => some (.str x)
  | .lst ds => match toPs ds with
    | some ps => some (.list ps)
    | none => none
  | .ro ds => match toPs ds with
    | some ps => some (.list ps)
    | none => none
  | .tup ds => match toPs ds with
    | some ps => some (.tuple ps)
    | none => none
  | .cell _ => none
  | .obj _ _ => none
  | .ty _ => none
  | .cls _ => none
def toPs : List D → Option (List PyData)
  | [] => some []
  | d :: ds => match toP0 d with
    | some p => match toPs ds with
      | some ps => some (p :: ps)
      | none => none
    | none => none
end
def toP (s : Sto) (d : D) : Option PyData := match d with
  | .cell i => match s[i]? with
    | some ds => match toPs ds with
      | some ps => some (.list ps)
      | none => none
    | none => none
  | d => toP0 d
section
variable {c : Cs} {F H : Hp} {θ : List Addr} {s : Sto}
theorem sq_sub {K : PySem.W.Frag} {a : Addr} {xs : List V} (e : Le F H) (h : SqL K F a xs) : SqL K H a xs := Le.l e h
mutual
theorem dp0 (e : Le F H) : ∀ (d : D) (v : V) (p : PyData), R c F θ v d → toP0 d = some p → Dp c.K H v p
  | .non, v, p, h, q => by unfold R at h; unfold toP0 at q; cases q; rw [h]; exact .non
  | .bl b, v, p, h, q => by unfold R at h; unfold toP0 at q; cases q; rw [h]; exact .bl b
  | .int i, v, p, h, q => by unfold R at h; unfold toP0 at q; cases q; rw [h]; exact .int i
  | .str x, v, p, h, q => by unfold R at h; unfold toP0 at q; cases q; rw [h]; exact .str x
  | .lst ds, v, p, h, q => by
    unfold R at h; unfold toP0 at q
    obtain ⟨a, xs, rfl, ha, r⟩ := h
    cases z : toPs ds with
    | none => rw [z] at q; cases q
    | some ps => rw [z] at q; cases q; exact .lst (SqL.of (e a _ ha)) (dps e ds xs ps r z)
  | .ro ds, v, p, h, q => by
    unfold R at h; unfold toP0 at q
    obtain ⟨a, xs, rfl, ha, r⟩ := h
    cases z : toPs ds with
    | none => rw [z] at q; cases q
    | some ps => rw [z] at q; cases q; exact .lst (Le.l e ha) (dps e ds xs ps r z)
  | .tup ds, v, p, h, q => by
    unfold R at h; unfold toP0 at q
    obtain ⟨a, xs, rfl, ha, r⟩ := h
    cases z : toPs ds with
    | none => rw [z] at q; cases q
    | some ps => rw [z] at q; cases q; exact .tup (Le.t e ha.t) (dps e ds xs ps r z)
  | .cell _, _, _, _, q => by unfold toP0 at q; cases q
  | .obj _ _, _, _, _, q => by unfold toP0 at q; cases q
  | .ty _, _, _, _, q => by unfold toP0 at q; cases q
  | .cls _, _, _, _, q => by unfold toP0 at q; cases q
theorem dps (e : Le F H) : ∀ (ds : List D) (vs : List V) (ps : List PyData), RA c F θ vs ds → toPs ds = some ps → DpAll c.K H vs ps
  | [], vs, ps, h, q => by unfold toPs at q; cases q; rw [h.nil_inv]; exact .nil
  | d :: ds, vs, ps, h, q => by
    obtain ⟨v, r, rfl, h1, h2⟩ := h.cons_inv
    unfold toPs at q
    cases z : toP0 d with
    | none => rw [z] at q; cases q
    | some p =>
      rw [z] at q
      cases z2 : toPs ds with
      | none => rw [z2] at q; cases q
      | some ps' => rw [z2] at q; cases q; exact .cons (dp0 e d v p h1 z) (dps e ds r ps' h2 z2)
end
theorem dp (w : WOk c s F θ H) {d : D} {v : V} {p : PyData} (h : R c F θ v d) (q : toP s d = some p) : Dp c.K H v p := by
  cases d with
  | cell i =>
    unfold R at h
    obtain ⟨a, rfl, ha⟩ := h
    unfold toP at q
    dsimp only at q
    cases z : s[i]? with
    | none => rw [z] at q; cases q
    | some ds =>
      rw [z] at q
      dsimp only at q
      cases z2 : toPs ds with
      | none => rw [z2] at q; cases q
      | some ps =>
        rw [z2] at q; cases q
        obtain ⟨xs, e, r⟩ := w.cel i a ds ha z
        exact .lst (SqL.of e) (dps w.sub ds xs ps r z2)
  | _ => exact dp0 w.sub _ v p h q
end

/-! ### what operators do with D -/
def fAdd : F2
  | .int i, .int j, _ => some (.int (i + j))
  | .str x, .str y, _ => if small (x.length + y.length) then some (.str (x ++ y)) else none
  | .lst xs, .lst ys, _ => if small (xs.length + ys.length) then some (.lst (xs ++ ys)) else none
  | .tup xs, .tup ys, _ => if small (xs.length + ys.length) then some (.tup (xs ++ ys)) else none
  | _, _, _ => none
def fI (g : Int → Int → Option D) : F2
  | .int i, .int j, _ => g i j
  | _, _, _ => none
def fSub : F2 := fI fun i j => some (.int (i - j))
def fMul : F2 := fI fun i j => if i.natAbs.log2 + j.natAbs.log2 < 100000000 then some (.int (i * j)) else none
def fDiv : F2 := fI fun i j => if j ≠ 0 ∧ j.natAbs < 1073741824 then some (.int (i.fdiv j)) else none
def fMod : F2 := fI fun i j => if j ≠ 0 then some (.int (i.fmod j)) else none
def fPow : F2 := fI fun i j => if 0 ≤ j ∧ j ≤ 1000000 ∧ i.natAbs < 2 ^ 64 then some (.int (i ^ j.toNat)) else none
def fLt : F2 := fI fun i j => some (.bl (decide (i < j)))
def fLe : F2 := fI fun i j => some (.bl (decide (i ≤ j)))
def fGt : F2 := fI fun i j => some (.bl (decide (j < i)))
def fGe : F2 := fI fun i j => some (.bl (decide (j ≤ i)))
def isNon : D → Bool
  | .non => true
  | _ => false
def fIs : F2 := fun a b _ => if isNon b then some (.bl (isNon a)) else none
def fIsNot : F2 := fun a b _ => if isNon b then some (.bl (!isNon a)) else none
def eqP (s : Sto) (a b : D) : Option Bool := match a, b with
  | .int i, .int j => some (decide (i = j))
  | a, b => match toP s a, toP s b with
    | some p, some q => if SeqAt.shaped p && SeqAt.shaped q then some (PyData.eqv p q) else none
    | _, _ => none
def fEq : F2 := fun a b s => match eqP s a b with
  | some k => some (.bl k)
  | none => none
def fNe : F2 := fun a b s => match eqP s a b with
  | some k => some (.bl (!k))
  | none => none
section
variable {c : Cs}
theorem give {s : Sto} {F : Hp} {θ : List Addr} {H : Hp} {v : V} {d : D} {Q : VK} (w : WOk c s F θ H) (q : R c F θ v d) (h : ∀ v F' H', Ext F θ H F' θ H' → WOk c s F' θ H' → R c F' θ v d → Q v H') : Q v H :=
  h v F H (Ext.refl _ _ _) w q
theorem give_new {s : Sto} {F : Hp} {θ : List Addr} {H : Hp} {p : Addr} {o : HO} {d : D} {Q : VK} (w : WOk c s F θ H) (n : H p = none) (q : R c (upd F p o) θ (.ref p) d) (h : ∀ v F' H', Ext F θ H F' θ H' → WOk c s F' θ H' → R c F' θ v d → Q v H') : Q (.ref p) (upd H p o) :=
  h _ _ _ (Ext.new n (w.free n).1 (w.free n).2) (w.new n) q
theorem r_int {F : Hp} {θ : List Addr} {i : Int} : R c F θ (.int i) (.int i) := by unfold R; rfl
theorem r_bl {F : Hp} {θ : List Addr} {i : Bool} : R c F θ (.bl i) (.bl i) := by unfold R; rfl
theorem r_str {F : Hp} {θ : List Addr} {i : Str} : R c F θ (.str i) (.str i) := by unfold R; rfl
theorem r_non {F : Hp} {θ : List Addr} : R c F θ .non .non := by unfold R; rfl
theorem r_int_inv {F : Hp} {θ : List Addr} {v : V} {i : Int} (h : R c F θ v (.int i)) : v = .int i := by unfold R at h; exact h
theorem r_bl_inv {F : Hp} {θ : List Addr} {v : V} {i : Bool} (h : R c F θ v (.bl i)) : v = .bl i := by unfold R at h; exact h
theorem r_str_inv {F : Hp} {θ : List Addr} {v : V} {i : Str} (h : R c F θ v (.str i)) : v = .str i := by unfold R at h; exact h
theorem r_non_inv {F : Hp} {θ : List Addr} {v : V} (h : R c F θ v .non) : v = .non := by unfold R at h; exact h
theorem r_lst_inv {F : Hp} {θ : List Addr} {v : V} {ds : List D} (h : R c F θ v (.lst ds)) : ∃ a xs, v = .ref a ∧ F a = some (.lst xs) ∧ RA c F θ xs ds := by unfold R at h; exact h
theorem r_ro_inv {F : Hp} {θ : List Addr} {v : V} {ds : List D} (h : R c F θ v (.ro ds)) : ∃ a xs, v = .ref a ∧ SqL c.K F a xs ∧ RA c F θ xs ds := by unfold R at h; exact h
theorem r_tup_inv {F : Hp} {θ : List Addr} {v : V} {ds : List D} (h : R c F θ v (.tup ds)) : ∃ a xs, v = .ref a ∧ TupK c.K F a xs ∧ RA c F θ xs ds := by unfold R at h; exact h
theorem r_cell_inv {F : Hp} {θ : List Addr} {v : V} {i : Nat} (h : R c F θ v (.cell i)) : ∃ a, v = .ref a ∧ θ[i]? = some a := by unfold R at h; exact h
theorem r_obj_inv {F : Hp} {θ : List Addr} {v : V} {k : Nat} {ds : List D} (h : R c F θ v (.obj k ds)) : ∃ a dx fs, v = .ref a ∧ F a = some (.ins (c.cl k) dx fs) ∧ fs.map (·.1) = c.fn k ∧ RA c F θ (fs.map (·.2)) ds := by unfold R at h; exact h
theorem fI_inv {g : Int → Int → Option D} {a b : D} {s : Sto} {d : D} (h : fI g a b s = some d) : ∃ i j, a = .int i ∧ b = .int j ∧ g i j = some d := by
  unfold fI at h
  split at h
  · exact ⟨_, _, rfl, rfl, h⟩
  · cases h
theorem od_I0 {g : Int → Int → V} {g' : Int → Int → Option D} (hg : ∀ i j d, g' i j = some d → ∀ F θ, R c F θ (g i j) d) : OpD c (rI0 g) (fI g') := by
  intro s F θ H x y a b w hx hy Q d e h
  obtain ⟨i, j, rfl, rfl, e2⟩ := fI_inv e
  exact ⟨i, j, r_int_inv hx, r_int_inv hy, give w (hg i j d e2 F θ) h⟩
theorem od_I {C : Int → Int → Prop} {g : Int → Int → V} {g' : Int → Int → Option D} (hg : ∀ i j d, g' i j = some d → C i j ∧ ∀ F θ, R c F θ (g i j) d) : OpD c (rI C g) (fI g') := by
  intro s F θ H x y a b w hx hy Q d e h
  obtain ⟨i, j, rfl, rfl, e2⟩ := fI_inv e
  exact ⟨i, j, r_int_inv hx, r_int_inv hy, (hg i j d e2).1, give w ((hg i j d e2).2 F θ) h⟩
theorem od_sub : OpD c (rI0 fun i j => .int (i - j)) fSub := od_I0 fun i j d e F θ => by cases e; exact r_int
theorem od_lt : OpD c (rI0 fun i j => .bl (decide (i < j))) fLt := od_I0 fun i j d e F θ => by cases e; exact r_bl
theorem od_le : OpD c (rI0 fun i j => .bl (decide (i ≤ j))) fLe := od_I0 fun i j d e F θ => by cases e; exact r_bl
theorem od_gt : OpD c (rI0 fun i j => .bl (decide (j < i))) fGt := od_I0 fun i j d e F θ => by cases e; exact r_bl
theorem od_ge : OpD c (rI0 fun i j => .bl (decide (j ≤ i))) fGe := od_I0 fun i j d e F θ => by cases e; exact r_bl
theorem od_mul : OpD c (rI CMulX fun i j => .int (i * j)) fMul := od_I fun i j d e => by
  split at e
  · rename_i h; cases e; exact ⟨h, fun F θ => r_int⟩
  · cases e
theorem od_div : OpD c (rI CDivN fun i j => .int (i.fdiv j)) fDiv := od_I fun i j d e => by
  split at e
  · rename_i h; cases e; exact ⟨h, fun F θ => r_int⟩
  · cases e
theorem od_mod : OpD c (rI (fun _ j => j ≠ 0) fun i j => .int (i.fmod j)) fMod := od_I fun i j d e => by
  split at e
  · rename_i h; cases e; exact ⟨h, fun F θ => r_int⟩
  · cases e
theorem od_pow : OpD c (rI CPow fun i j => .int (i ^ j.toNat)) fPow := od_I fun i j d e => by
  split at e
  · rename_i h; cases e; exact ⟨h, fun F θ => r_int⟩
  · cases e
theorem od_add : OpD c (rAddG c.K) fAdd := by
  intro s F θ H x y a b w hx hy Q d e h
  unfold fAdd at e
  split at e
  · cases e
    exact .inl ⟨_, _, r_int_inv hx, r_int_inv hy, give w r_int h⟩
  · split at e
    · rename_i z
      cases e
      exact .inr (.inl ⟨_, _, r_str_inv hx, r_str_inv hy, small_of z, give w r_str h⟩)
    · cases e
  · split at e
    · rename_i z
      cases e
      obtain ⟨a1, xs1, rfl, h1, r1⟩ := r_lst_inv hx
      obtain ⟨a2, xs2, rfl, h2, r2⟩ := r_lst_inv hy
      refine .inr (.inr (.inl ⟨a1, a2, xs1, xs2, rfl, rfl, w.sub _ _ h1, w.sub _ _ h2, by rw [r1.length, r2.length]; exact small_of z, fun p n => ?_⟩))
      exact give_new w n (r_lst (H := H) (w.free n).1 (r1.append r2)) h
    · cases e
  · split at e
    · rename_i z
      cases e
      obtain ⟨a1, xs1, rfl, h1, r1⟩ := r_tup_inv hx
      obtain ⟨a2, xs2, rfl, h2, r2⟩ := r_tup_inv hy
      have rr := r1.append r2
      refine .inr (.inr (.inr ⟨a1, a2, xs1, xs2, rfl, rfl, w.sub.t h1.t, w.sub.t h2.t, by rw [r1.length, r2.length]; exact small_of z, fun e0 => ?_, fun e0 => ?_, fun p o n od => ?_⟩))
      · subst e0
        refine give w ?_ h
        unfold R
        exact ⟨a2, xs2, rfl, h2, by simpa using rr⟩
      · subst e0
        refine give w ?_ h
        unfold R
        exact ⟨a1, xs1, rfl, h1, by simpa using rr⟩
      · exact give_new w n (r_tup (H := H) (w.free n).1 od rr) h
    · cases e
  · cases e
theorem isNon_v {F : Hp} {θ : List Addr} {v : V} {d : D} (h : R c F θ v d) : decide (v = .non) = isNon d := by
  cases d with
  | non => rw [r_non_inv h]; rfl
  | bl _ => rw [r_bl_inv h]; rfl
  | int _ => rw [r_int_inv h]; rfl
  | str _ => rw [r_str_inv h]; rfl
  | lst _ => obtain ⟨a, xs, rfl, _⟩ := r_lst_inv h; rfl
  | tup _ => obtain ⟨a, xs, rfl, _⟩ := r_tup_inv h; rfl
  | ro _ => obtain ⟨a, xs, rfl, _⟩ := r_ro_inv h; rfl
  | cell _ => obtain ⟨a, rfl, _⟩ := r_cell_inv h; rfl
  | obj _ _ => obtain ⟨a, dx, fs, rfl, _⟩ := r_obj_inv h; rfl
  | ty _ => unfold R at h; rw [h]; rfl
  | cls _ => unfold R at h; rw [h]; rfl
theorem isNon_eq {d : D} (h : isNon d = true) : d = .non := by cases d <;> first | rfl | exact (Bool.false_ne_true h).elim
theorem od_is : OpD c (fun x y H Q => y = .non ∧ Q (.bl (decide (x = .non))) H) fIs := by
  intro s F θ H x y a b w hx hy Q d e h
  unfold fIs at e
  split at e
  · rename_i z
    have := isNon_eq z
    subst this
    cases e
    exact ⟨r_non_inv hy, by rw [isNon_v hx]; exact give w r_bl h⟩
  · cases e
theorem od_isnot : OpD c (fun x y H Q => y = .non ∧ Q (.bl (!decide (x = .non))) H) fIsNot := by
  intro s F θ H x y a b w hx hy Q d e h
  unfold fIsNot at e
  split at e
  · rename_i z
    have := isNon_eq z
    subst this
    cases e
    exact ⟨r_non_inv hy, by rw [isNon_v hx]; exact give w r_bl h⟩
  · cases e
theorem eqP_dp {s : Sto} {F : Hp} {θ : List Addr} {H : Hp} {x y : V} {a b : D} {k : Bool} (w : WOk c s F θ H) (hx : R c F θ x a) (hy : R c F θ y b) (e : eqP s a b = some k) :
    ∃ d e, Dp c.K H x d ∧ Dp c.K H y e ∧ SeqAt.shaped d = true ∧ SeqAt.shaped e = true ∧ PyData.eqv d e = k := by
  unfold eqP at e
  split at e
  · cases e
    rename_i i j
    refine ⟨.int i, .int j, by rw [r_int_inv hx]; exact .int _, by rw [r_int_inv hy]; exact .int _, rfl, rfl, ?_⟩
    unfold PyData.eqv
    by_cases z : i = j
    · subst z; simp
    · simp [z]
  · split at e
    · rename_i p q e1 e2
      split at e
      · rename_i z
        cases e
        rw [Bool.and_eq_true] at z
        exact ⟨p, q, dp w hx e1, dp w hy e2, z.1, z.2, rfl⟩
      · cases e
    · cases e
theorem od_eq : OpD c (rEqD c.K) fEq := by
  intro s F θ H x y a b w hx hy Q d e h
  unfold fEq at e
  split at e
  · rename_i k z
    cases e
    obtain ⟨p, q, h1, h2, h3, h4, h5⟩ := eqP_dp w hx hy z
    exact ⟨p, q, h1, h2, h3, h4, by rw [h5]; exact give w r_bl h⟩
  · cases e
theorem od_ne : OpD c (rNeD c.K) fNe := by
  intro s F θ H x y a b w hx hy Q d e h
  unfold fNe at e
  split at e
  · rename_i k z
    cases e
    obtain ⟨p, q, h1, h2, h3, h4, h5⟩ := eqP_dp w hx hy z
    exact ⟨p, q, h1, h2, h3, h4, by rw [h5]; exact give w r_bl h⟩
  · cases e
end
end MX


set_option Elab.async false
set_option linter.all false
set_option maxRecDepth 100000
namespace MX
open PySem PySem.Spec PyProof.Rows L2

/-! ### sequences -/
def seqD (s : Sto) : D → Option (List D)
  | .lst ds => some ds
  | .ro ds => some ds
  | .tup ds => some ds
  | .cell i => s[i]?
  | _ => none
def listD (s : Sto) : D → Option (List D)
  | .lst ds => some ds
  | .ro ds => some ds
  | .cell i => s[i]?
  | _ => none
section
variable {c : Cs} {F H : Hp} {θ : List Addr} {s : Sto}
theorem list_of (w : WOk c s F θ H) {v : V} {d : D} {ds : List D} (h : R c F θ v d) (e : listD s d = some ds) : ∃ a xs, v = .ref a ∧ SqL c.K H a xs ∧ RA c F θ xs ds := by
  cases d with
  | lst es => cases e; obtain ⟨a, xs, r, ha, q⟩ := r_lst_inv h; exact ⟨a, xs, r, SqL.of (w.sub _ _ ha), q⟩
  | ro es => cases e; obtain ⟨a, xs, r, ha, q⟩ := r_ro_inv h; exact ⟨a, xs, r, w.sub.l ha, q⟩
  | cell i =>
    obtain ⟨a, r, ha⟩ := r_cell_inv h
    obtain ⟨xs, e1, q⟩ := w.cel i a ds ha e
    exact ⟨a, xs, r, SqL.of e1, q⟩
  | _ => cases e
theorem seq_of (w : WOk c s F θ H) {v : V} {d : D} {ds : List D} (h : R c F θ v d) (e : seqD s d = some ds) : ∃ a xs, v = .ref a ∧ (SqL c.K H a xs ∨ SqT c.K H a xs) ∧ RA c F θ xs ds := by
  cases d with
  | tup es => cases e; obtain ⟨a, xs, r, ha, q⟩ := r_tup_inv h; exact ⟨a, xs, r, .inr (w.sub.t ha.t), q⟩
  | lst es => obtain ⟨a, xs, r, q, t⟩ := list_of w (ds := ds) h e; exact ⟨a, xs, r, .inl q, t⟩
  | ro es => obtain ⟨a, xs, r, q, t⟩ := list_of w (ds := ds) h e; exact ⟨a, xs, r, .inl q, t⟩
  | cell i => obtain ⟨a, xs, r, q, t⟩ := list_of w (ds := ds) h e; exact ⟨a, xs, r, .inl q, t⟩
  | _ => cases e
end

/-! ### in -/
def flatD : D → Bool
  | .non => true
  | .bl _ => true
  | .int _ => true
  | .str _ => true
  | _ => false
def eqF : D → D → Bool
  | .int a, .int b => decide (a = b)
  | .non, .non => true
  | .bl a, .bl b => a == b
  | .bl a, .int b => (if a then 1 else 0) == b
  | .int a, .bl b => a == (if b then 1 else 0)
  | .str a, .str b => a == b
  | _, _ => false
def fInN (neg : Bool) : F2 := fun a b s => match seqD s b with
  | some ds => if flatD a && ds.all flatD then some (.bl (if neg then !(ds.any fun y => eqF y a) else ds.any fun y => eqF y a)) else none
  | none => none
section
variable {c : Cs} {F H : Hp} {θ : List Addr} {s : Sto}
theorem flat_v {v : V} {d : D} (h : R c F θ v d) (f : flatD d = true) : flatV v = true := by
  cases d with
  | non => rw [r_non_inv h]; rfl
  | bl _ => rw [r_bl_inv h]; rfl
  | int _ => rw [r_int_inv h]; rfl
  | str _ => rw [r_str_inv h]; rfl
  | _ => exact (Bool.false_ne_true f).elim
theorem eq_flat {x y : V} {a b : D} (hx : R c F θ x a) (hy : R c F θ y b) (fa : flatD a = true) (fb : flatD b = true) : eqV y x = eqF b a := by
  cases a with
  | non =>
    rw [r_non_inv hx]
    cases b with
    | non => rw [r_non_inv hy]; rfl
    | bl _ => rw [r_bl_inv hy]; rfl
    | int _ => rw [r_int_inv hy]; rfl
    | str _ => rw [r_str_inv hy]; rfl
    | _ => exact (Bool.false_ne_true fb).elim
  | bl _ =>
    rw [r_bl_inv hx]
    cases b with
    | non => rw [r_non_inv hy]; rfl
    | bl _ => rw [r_bl_inv hy]; rfl
    | int _ => rw [r_int_inv hy]; rfl
    | str _ => rw [r_str_inv hy]; rfl
    | _ => exact (Bool.false_ne_true fb).elim
  | int i =>
    rw [r_int_inv hx]
    cases b with
    | non => rw [r_non_inv hy]; rfl
    | bl _ => rw [r_bl_inv hy]; rfl
    | int j =>
      rw [r_int_inv hy]
      show (j == i) = decide (j = i)
      by_cases z : j = i
      · subst z; simp
      · simp [z]
    | str _ => rw [r_str_inv hy]; rfl
    | _ => exact (Bool.false_ne_true fb).elim
  | str _ =>
    rw [r_str_inv hx]
    cases b with
    | non => rw [r_non_inv hy]; rfl
    | bl _ => rw [r_bl_inv hy]; rfl
    | int _ => rw [r_int_inv hy]; rfl
    | str _ => rw [r_str_inv hy]; rfl
    | _ => exact (Bool.false_ne_true fb).elim
  | _ => exact (Bool.false_ne_true fa).elim
theorem all_flat : ∀ {ds : List D} {xs : List V}, RA c F θ xs ds → ds.all flatD = true → xs.all flatV = true
  | [], _, h, _ => by rw [h.nil_inv]; rfl
  | d :: ds, _, h, f => by
    obtain ⟨v, r, rfl, h1, h2⟩ := h.cons_inv
    rw [List.all_cons, Bool.and_eq_true] at f
    rw [List.all_cons, flat_v h1 f.1, all_flat h2 f.2]; rfl
theorem any_flat {x : V} {a : D} (hx : R c F θ x a) (fa : flatD a = true) : ∀ {ds : List D} {xs : List V}, RA c F θ xs ds → ds.all flatD = true → inV x xs = ds.any fun y => eqF y a
  | [], _, h, _ => by rw [h.nil_inv]; rfl
  | d :: ds, _, h, f => by
    obtain ⟨v, r, rfl, h1, h2⟩ := h.cons_inv
    rw [List.all_cons, Bool.and_eq_true] at f
    have := any_flat hx fa h2 f.2
    unfold inV at this ⊢
    rw [List.any_cons, List.any_cons, this, eq_flat hx h1 fa f.1]
theorem od_in {neg : Bool} : OpD c (rIn c.K neg) (fInN neg) := by
  intro s F θ H x y a b w hx hy Q d e h
  unfold fInN at e
  split at e
  · rename_i ds z
    split at e
    · rename_i f
      cases e
      rw [Bool.and_eq_true] at f
      obtain ⟨p, xs, rfl, hs, r⟩ := seq_of w hy z
      refine ⟨p, xs, rfl, hs, flat_v hx f.1, all_flat r f.2, ?_⟩
      rw [any_flat hx f.1 r f.2]
      exact give w r_bl h
    · cases e
  · cases e
end
def fIn : F2 := fInN false
def fNotIn : F2 := fInN true

/-! ### items, slices -/
def fIx : F2 := fun a b s => match b with
  | .int i => match a with
    | .str z => if small z.length then (atI z.cps.toList i).map fun k => D.str ⟨#[k]⟩ else none
    | a => match seqD s a with
      | some ds => atI ds i
      | none => none
  | _ => none
theorem atI_len {α β : Type} {xs : List α} {ds : List β} {i : Int} {d : β} (hl : xs.length = ds.length) (h : atI ds i = some d) : ∃ (j : Nat) (x : α), atI xs i = some x ∧ xs[j]? = some x ∧ ds[j]? = some d := by
  unfold atI at h ⊢
  rw [hl]
  cases e : ixN ds.length i with
  | none => rw [e] at h; cases h
  | some j =>
    rw [e] at h
    have h' : ds[j]? = some d := h
    have := get_lt h'
    refine ⟨j, xs[j]'(by omega), ?_, ?_, h'⟩
    · show xs[j]? = _
      exact List.getElem?_eq_getElem (by omega)
    · exact List.getElem?_eq_getElem (by omega)
def cutD (xs : List D) (lo hi : Option Int) : List D := (xs.drop (HT.sIx xs.length 0 lo)).take (HT.sIx xs.length xs.length hi - HT.sIx xs.length 0 lo)
def rSlG (K : PySem.W.Frag) : V → Option Int → Option Int → Hp → VK → Prop := fun x lo hi H Q => rSlL K x lo hi H Q ∨ rSlZ K x lo hi H Q
theorem sl_G {X : Cx} : SlR X (rSlG X.K) := SlR.or sl_list sl_tupZ
def fSl (s : Sto) (a : D) (lo hi : Option Int) : Option D := match a with
  | .tup ds => some (.tup (cutD ds lo hi))
  | a => match listD s a with
    | some ds => some (.lst (cutD ds lo hi))
    | none => none
def dNoPart : Fn (Option Int) := fun _ s => .ok none s
def dPart (e : Fn D) : Fn (Option Int) := fun ρ s => (e ρ s).bind fun a s => match a with
  | .int i => .ok (some i) s
  | _ => .bad
def dSl (ea : Fn D) (el eh : Fn (Option Int)) : Fn D := fun ρ s => (ea ρ s).bind fun a s => (el ρ s).bind fun l s => (eh ρ s).bind fun h s => Res.ofO (fSl s a l h) s
section
variable {c : Cs} {E : XK}
theorem od_ix : OpD c (rIx c.K) fIx := by
  intro s F θ H x y a b w hx hy Q d e h
  unfold fIx at e
  split at e
  · rename_i i
    have hy := r_int_inv hy
    subst hy
    split at e
    · rename_i z
      split at e
      · rename_i hz
        cases q : atI z.cps.toList i with
        | none => rw [q] at e; cases e
        | some k =>
          rw [q] at e; cases e
          exact .inr (.inr ⟨z, i, k, r_str_inv hx, rfl, small_of hz, q, give w r_str h⟩)
      · cases e
    · split at e
      · rename_i ds z
        obtain ⟨p, xs, rfl, hs, r⟩ := seq_of w hx z
        obtain ⟨j, v, h1, h2, h3⟩ := atI_len (r.length) e
        have hv := give w (r.get h2 h3) h
        rcases hs with hs | hs
        · exact .inl ⟨p, xs, i, v, rfl, rfl, hs, h1, hv⟩
        · exact .inr (.inl ⟨p, xs, i, v, rfl, rfl, hs, h1, hv⟩)
      · cases e
  · cases e
theorem ra_cut {F : Hp} {θ : List Addr} {xs : List V} {ds : List D} {lo hi : Option Int} (r : RA c F θ xs ds) : RA c F θ (cutV xs lo hi) (cutD ds lo hi) := by
  unfold cutV cutD
  rw [r.length]
  exact RA.take _ (RA.drop _ r)
theorem sl_gives {s : Sto} {F : Hp} {θ : List Addr} {H : Hp} {x : V} {a : D} {lo hi : Option Int} (w : WOk c s F θ H) (hx : R c F θ x a) : Gives c (fSl s a lo hi) s F θ H (rSlG c.K x lo hi H) := by
  intro Q d e h
  unfold fSl at e
  split at e
  · cases e
    obtain ⟨p, xs, rfl, ha, r⟩ := r_tup_inv hx
    refine .inr ⟨p, xs, rfl, w.sub.t ha.t, fun z => ?_, fun q o n od => ?_⟩
    · refine give w ?_ h
      unfold R
      refine ⟨p, xs, rfl, ha, ?_⟩
      have rc := ra_cut (lo := lo) (hi := hi) r
      rw [z] at rc
      exact rc
    · exact give_new w n (r_tup (H := H) (w.free n).1 od (ra_cut r)) h
  · split at e
    · rename_i ds z
      cases e
      obtain ⟨p, xs, rfl, hs, r⟩ := list_of w hx z
      exact .inl ⟨p, xs, rfl, hs, fun q n => give_new w n (r_lst (H := H) (w.free n).1 (ra_cut r)) h⟩
    · cases e
theorem den_noPart : DenO c E tNoPart dNoPart := fun H0 σ ρ s F θ H Q he hw hp => hp none F θ H (Ext.refl _ _ _) hw rfl
theorem den_part {te : TE} {e : Fn D} (h : DenE c E te e) : DenO c E (tPart te) (dPart e) := by
  refine den_bind (r2 := rO c) (K := fun σ x H1 Q => ∃ i, x = .int i ∧ Q (some i) H1) h fun H0 σ ρ s F θ H Hi x a Q he hw q hp => ?_
  cases a with
  | int i => exact ⟨i, r_int_inv (c := c) (F := F) (θ := θ) q, hp (some i) F θ H (Ext.refl _ _ _) hw rfl⟩
  | _ => exact hp.elim
theorem den_sl {te : TE} {tl th : TO} {ea : Fn D} {el eh : Fn (Option Int)} (ha : DenE c E te ea) (hl : DenO c E tl el) (hh : DenO c E th eh) : DenE c E (tSl (rSlG c.K) te tl th) (dSl ea el eh) := by
  refine den_bind (K := fun σ x H Q => tl σ H fun l H2 => th σ H2 fun u H3 => rSlG c.K x l u H3 Q) ha fun H0 σ ρ s F θ H Hi x a Q he hw q hp => ?_
  refine hl H0 σ ρ s F θ H _ he hw ?_
  cases e : el ρ s with
  | exc k fs s' => rw [e] at hp; exact hp
  | bad => rw [e] at hp; exact hp
  | ok l s' =>
    rw [e] at hp
    intro l' F' θ' H' ex w q2
    have q2 : l' = l := q2
    subst q2
    have hp2 := hp.shift ex
    refine hh H0 σ ρ s' F' θ' H' _ (he.ext ex) w ?_
    have hp3 : Post c E (rV c) ((eh ρ s').bind fun h s => Res.ofO (fSl s a l' h) s) F' θ' H' Q := hp2
    cases e2 : eh ρ s' with
    | exc k fs s'' => rw [e2] at hp3; exact hp3
    | bad => rw [e2] at hp3; exact hp3
    | ok u s'' =>
      rw [e2] at hp3
      intro u' F2 θ2 H2 ex2 w2 q3
      have q3 : u' = u := q3
      subst q3
      exact (sl_gives w2 (R.mono (ex.trans ex2).fr (ex.trans ex2).th a q)).post (hp3.shift ex2)
end

/-! ### built-ins -/
def intsD : List D → Option (List Int)
  | [] => some []
  | .int i :: r => match intsD r with
    | some ns => some (i :: ns)
    | none => none
  | _ :: _ => none
theorem intsD_eq : ∀ {ds : List D} {ns : List Int}, intsD ds = some ns → ds = ns.map D.int
  | [], ns, h => by unfold intsD at h; cases h; rfl
  | d :: ds, ns, h => by
    unfold intsD at h
    split at h
    · contradiction
    · rename_i i r heq
      cases heq
      split at h
      · rename_i ms z
        cases h
        rw [List.map_cons, ← intsD_eq z]
      · cases h
    · cases h
theorem intsD_map : ∀ (ns : List Int), intsD (ns.map D.int) = some ns
  | [] => rfl
  | n :: ns => by
    rw [List.map_cons]
    unfold intsD
    rw [intsD_map ns]
def blsD : List D → Option (List Bool)
  | [] => some []
  | .bl i :: r => match blsD r with
    | some ns => some (i :: ns)
    | none => none
  | _ :: _ => none
theorem blsD_eq : ∀ {ds : List D} {ns : List Bool}, blsD ds = some ns → ds = ns.map D.bl
  | [], ns, h => by unfold blsD at h; cases h; rfl
  | d :: ds, ns, h => by
    unfold blsD at h
    split at h
    · contradiction
    · rename_i i r heq
      cases heq
      split at h
      · rename_i ms z
        cases h
        rw [List.map_cons, ← blsD_eq z]
      · cases h
    · cases h
theorem blsD_map : ∀ (ns : List Bool), blsD (ns.map D.bl) = some ns
  | [] => rfl
  | n :: ns => by
    rw [List.map_cons]
    unfold blsD
    rw [blsD_map ns]
def minI : Int → List Int → Int
  | m, [] => m
  | m, n :: r => minI (if n < m then n else m) r
def maxI : Int → List Int → Int
  | m, [] => m
  | m, n :: r => maxI (if m < n then n else m) r
theorem minI_spec : ∀ (ns : List Int) (m : Int), (minI m ns = m ∨ minI m ns ∈ ns) ∧ minI m ns ≤ m ∧ ∀ y, y ∈ ns → minI m ns ≤ y
  | [], m => ⟨.inl rfl, Int.le_refl m, fun y h => by cases h⟩
  | n :: r, m => by
    have e : minI m (n :: r) = minI (if n < m then n else m) r := rfl
    rw [e]
    by_cases hh : n < m
    · rw [if_pos hh]
      obtain ⟨h1, h2, h3⟩ := minI_spec r n
      refine ⟨.inr ?_, by omega, fun y hy => ?_⟩
      · rcases h1 with h | h
        · rw [h]; exact List.mem_cons_self
        · exact List.mem_cons_of_mem _ h
      · rcases List.mem_cons.mp hy with rfl | hy
        · exact h2
        · exact h3 y hy
    · rw [if_neg hh]
      obtain ⟨h1, h2, h3⟩ := minI_spec r m
      refine ⟨?_, h2, fun y hy => ?_⟩
      · rcases h1 with h | h
        · exact .inl h
        · exact .inr (List.mem_cons_of_mem _ h)
      · rcases List.mem_cons.mp hy with rfl | hy
        · omega
        · exact h3 y hy
theorem maxI_spec : ∀ (ns : List Int) (m : Int), (maxI m ns = m ∨ maxI m ns ∈ ns) ∧ m ≤ maxI m ns ∧ ∀ y, y ∈ ns → y ≤ maxI m ns
  | [], m => ⟨.inl rfl, Int.le_refl m, fun y h => by cases h⟩
  | n :: r, m => by
    have e : maxI m (n :: r) = maxI (if m < n then n else m) r := rfl
    rw [e]
    by_cases hh : m < n
    · rw [if_pos hh]
      obtain ⟨h1, h2, h3⟩ := maxI_spec r n
      refine ⟨.inr ?_, by omega, fun y hy => ?_⟩
      · rcases h1 with h | h
        · rw [h]; exact List.mem_cons_self
        · exact List.mem_cons_of_mem _ h
      · rcases List.mem_cons.mp hy with rfl | hy
        · exact h2
        · exact h3 y hy
    · rw [if_neg hh]
      obtain ⟨h1, h2, h3⟩ := maxI_spec r m
      refine ⟨?_, h2, fun y hy => ?_⟩
      · rcases h1 with h | h
        · exact .inl h
        · exact .inr (List.mem_cons_of_mem _ h)
      · rcases List.mem_cons.mp hy with rfl | hy
        · omega
        · exact h3 y hy
abbrev FC := List D → Sto → Option D
def f1 (g : Sto → D → Option D) : FC
  | [d], s => g s d
  | _, _ => none
def fLen : FC := f1 fun s d => match d with
  | .str z => if small z.length then some (.int z.length) else none
  | d => (seqD s d).map fun ds => .int ds.length
def fAbs : FC := f1 fun s d => match d with
  | .int i => some (.int (if i < 0 then -i else i))
  | _ => none
def fInt : FC := f1 fun s d => match d with
  | .int i => some (.int i)
  | _ => none
def fSum : FC := f1 fun s d => match listD s d with
  | some ds => match intsD ds with
    | some ns => some (.int ns.sum)
    | none => none
  | none => none
def fMin : FC := fun ds s => match ds with
  | [d] => match listD s d with
    | some ds => match intsD ds with
      | some (n :: ns) => some (.int (minI n ns))
      | _ => none
    | none => none
  | [.int i, .int j] => some (.int (if j < i then j else i))
  | _ => none
def fMax : FC := fun ds s => match ds with
  | [d] => match listD s d with
    | some ds => match intsD ds with
      | some (n :: ns) => some (.int (maxI n ns))
      | _ => none
    | none => none
  | [.int i, .int j] => some (.int (if j > i then j else i))
  | _ => none
def fAll : FC := f1 fun s d => match listD s d with
  | some ds => match blsD ds with
    | some ns => some (.bl (ns.all id))
    | none => none
  | none => none
def fAny : FC := f1 fun s d => match listD s d with
  | some ds => match blsD ds with
    | some ns => some (.bl (ns.any id))
    | none => none
  | none => none
def fTuple : FC := f1 fun s d => match d with
  | .tup ds => some (.tup ds)
  | d => (listD s d).map .tup
section
variable {c : Cs}
theorem f1_inv {g : Sto → D → Option D} {as : List D} {s : Sto} {d : D} (h : f1 g as s = some d) : ∃ a, as = [a] ∧ g s a = some d := by
  unfold f1 at h
  split at h
  · exact ⟨_, rfl, h⟩
  · cases h
theorem ra1 {F : Hp} {θ : List Addr} {xs : List V} {a : D} (h : RA c F θ xs [a]) : ∃ x, xs = [x] ∧ R c F θ x a := by
  obtain ⟨v, r, rfl, h1, h2⟩ := h.cons_inv
  rw [h2.nil_inv]
  exact ⟨v, rfl, h1⟩
theorem ra2 {F : Hp} {θ : List Addr} {xs : List V} {a b : D} (h : RA c F θ xs [a, b]) : ∃ x y, xs = [x, y] ∧ R c F θ x a ∧ R c F θ y b := by
  obtain ⟨v, r, rfl, h1, h2⟩ := h.cons_inv
  obtain ⟨y, rfl, h3⟩ := ra1 h2
  exact ⟨v, y, rfl, h1, h3⟩
theorem cd_f1 {r : List V → Hp → VK → Prop} {g : Sto → D → Option D} (h : ∀ (s : Sto) (F : Hp) (θ : List Addr) (H : Hp) (x : V) (a : D), WOk c s F θ H → R c F θ x a → Gives c (g s a) s F θ H (r [x] H)) : CallD c r (f1 g) := by
  intro s F θ H xs as w r Q d e hq
  obtain ⟨a, rfl, e2⟩ := f1_inv e
  obtain ⟨x, rfl, hx⟩ := ra1 r
  exact h s F θ H x a w hx Q d e2 hq
def rLen2 (K : PySem.W.Frag) : List V → Hp → VK → Prop := fun xs H Q => (∃ z, xs = [.str z] ∧ z.length ≤ sizeLine ∧ Q (.int z.length) H) ∨ ∃ p ys, xs = [.ref p] ∧ (SqL K H p ys ∨ SqT K H p ys) ∧ Q (.int ys.length) H
theorem cr_len2 {X : Cx} : CallR X (.builtin "len") (rLen2 X.K) := CallR.or call_len_str call_len_seq
theorem cd_len : CallD c (rLen2 c.K) fLen := cd_f1 fun s F θ H x a w hx Q d e h => by
  split at e
  · rename_i z
    split at e
    · rename_i hz
      cases e
      exact .inl ⟨z, by rw [r_str_inv hx], small_of hz, give w r_int h⟩
    · cases e
  · cases q : seqD s a with
    | none => rw [q] at e; cases e
    | some ds =>
      rw [q] at e; cases e
      obtain ⟨p, xs, rfl, hs, r⟩ := seq_of w hx q
      exact .inr ⟨p, xs, rfl, hs, by rw [r.length]; exact give w r_int h⟩
def rAbs : List V → Hp → VK → Prop := fun xs H Q => ∃ i, xs = [.int i] ∧ Q (.int (if i < 0 then -i else i)) H
theorem cd_abs : CallD c rAbs fAbs := cd_f1 fun s F θ H x a w hx Q d e h => by
  split at e
  · cases e
    exact ⟨_, by rw [r_int_inv hx], give w r_int h⟩
  · cases e
def rInt1 : List V → Hp → VK → Prop := fun xs H Q => (∃ i, xs = [.int i] ∧ Q (.int i) H) ∨ ∃ k, xs = [.bl k] ∧ Q (.int (if k then 1 else 0)) H
theorem cd_int : CallD c rInt1 fInt := cd_f1 fun s F θ H x a w hx Q d e h => by
  split at e
  · cases e
    exact .inl ⟨_, by rw [r_int_inv hx], give w r_int h⟩
  · cases e
theorem cd_sum : CallD c (rSum c.K) fSum := cd_f1 fun s F θ H x a w hx Q d e h => by
  split at e
  · rename_i ds z
    split at e
    · rename_i ns z2
      cases e
      obtain ⟨p, xs, rfl, hs, r⟩ := list_of w hx z
      rw [intsD_eq z2] at r
      rw [r.ints] at hs
      exact ⟨p, ns, rfl, hs, give w r_int h⟩
    · cases e
  · cases e
def rMax3 (K : PySem.W.Frag) : List V → Hp → VK → Prop := fun xs H Q => rMax K xs H Q ∨ ∃ i j, xs = [.int i, .int j] ∧ Q (.int (if j > i then j else i)) H
def rMin3 (K : PySem.W.Frag) : List V → Hp → VK → Prop := fun xs H Q => rMin K xs H Q ∨ ∃ i j, xs = [.int i, .int j] ∧ Q (.int (if j < i then j else i)) H
theorem cr_max3 {X : Cx} (hc : X.calm = true) : CallR X (.builtin "max") (rMax3 X.K) := CallR.or (cr_max hc) (call_max2 hc)
theorem cr_min3 {X : Cx} (hc : X.calm = true) : CallR X (.builtin "min") (rMin3 X.K) := CallR.or (cr_min hc) (call_min2 hc)
theorem cd_max : CallD c (rMax3 c.K) fMax := by
  intro s F θ H xs as w r Q d e h
  unfold fMax at e
  split at e
  · obtain ⟨x, rfl, hx⟩ := ra1 r
    split at e
    · rename_i ds z
      split at e
      · rename_i n ns z2
        cases e
        obtain ⟨p, ys, rfl, hs, r⟩ := list_of w hx z
        rw [intsD_eq z2] at r
        rw [r.ints] at hs
        refine .inl ⟨p, n :: ns, rfl, hs, by simp, fun m hm hle => ?_⟩
        obtain ⟨h1, h2, h3⟩ := maxI_spec ns n
        have e1 : m = maxI n ns := by
          have a1 : maxI n ns ≤ m := by
            rcases h1 with q | q
            · rw [q]; exact hle n List.mem_cons_self
            · exact hle _ (List.mem_cons_of_mem _ q)
          have a2 : m ≤ maxI n ns := by
            rcases List.mem_cons.mp hm with q | q
            · rw [q]; exact h2
            · exact h3 m q
          omega
        rw [e1]
        exact give w r_int h
      · cases e
    · cases e
  · cases e
    obtain ⟨x, y, rfl, hx, hy⟩ := ra2 r
    exact .inr ⟨_, _, by rw [r_int_inv hx, r_int_inv hy], give w r_int h⟩
  · cases e
theorem cd_min : CallD c (rMin3 c.K) fMin := by
  intro s F θ H xs as w r Q d e h
  unfold fMin at e
  split at e
  · obtain ⟨x, rfl, hx⟩ := ra1 r
    split at e
    · rename_i ds z
      split at e
      · rename_i n ns z2
        cases e
        obtain ⟨p, ys, rfl, hs, r⟩ := list_of w hx z
        rw [intsD_eq z2] at r
        rw [r.ints] at hs
        refine .inl ⟨p, n :: ns, rfl, hs, by simp, fun m hm hle => ?_⟩
        obtain ⟨h1, h2, h3⟩ := minI_spec ns n
        have e1 : m = minI n ns := by
          have a1 : m ≤ minI n ns := by
            rcases h1 with q | q
            · rw [q]; exact hle n List.mem_cons_self
            · exact hle _ (List.mem_cons_of_mem _ q)
          have a2 : minI n ns ≤ m := by
            rcases List.mem_cons.mp hm with q | q
            · rw [q]; exact h2
            · exact h3 m q
          omega
        rw [e1]
        exact give w r_int h
      · cases e
    · cases e
  · cases e
    obtain ⟨x, y, rfl, hx, hy⟩ := ra2 r
    exact .inr ⟨_, _, by rw [r_int_inv hx, r_int_inv hy], give w r_int h⟩
  · cases e
theorem cd_all : CallD c (rAll c.K) fAll := cd_f1 fun s F θ H x a w hx Q d e h => by
  split at e
  · rename_i ds z
    split at e
    · rename_i ns z2
      cases e
      obtain ⟨p, xs, rfl, hs, r⟩ := list_of w hx z
      rw [blsD_eq z2] at r
      rw [r.bls] at hs
      exact ⟨p, ns, rfl, hs, give w r_bl h⟩
    · cases e
  · cases e
theorem cd_any : CallD c (rAny c.K) fAny := cd_f1 fun s F θ H x a w hx Q d e h => by
  split at e
  · rename_i ds z
    split at e
    · rename_i ns z2
      cases e
      obtain ⟨p, xs, rfl, hs, r⟩ := list_of w hx z
      rw [blsD_eq z2] at r
      rw [r.bls] at hs
      exact ⟨p, ns, rfl, hs, give w r_bl h⟩
    · cases e
  · cases e
def rListOf (K : PySem.W.Frag) : List V → Hp → VK → Prop := fun xs H Q => ∃ p ys, xs = [.ref p] ∧ (SqL K H p ys ∨ SqT K H p ys) ∧ ∀ l, H l = none → Q (.ref l) (upd H l (.lst ys))
theorem cd_tuple : CallD c (rTupZ c.K) fTuple := cd_f1 fun s F θ H x a w hx Q d e h => by
  split at e
  · cases e
    obtain ⟨p, xs, rfl, hs, r⟩ := r_tup_inv hx
    exact ⟨p, xs, rfl, .inr ⟨w.sub.t hs.t, give w (by unfold R; exact ⟨p, xs, rfl, hs, r⟩) h⟩⟩
  · cases q : listD s a with
    | none => rw [q] at e; cases e
    | some ds =>
      rw [q] at e; cases e
      obtain ⟨p, xs, rfl, hs, r⟩ := list_of w hx q
      exact ⟨p, xs, rfl, .inl ⟨hs, fun l o n od => give_new w n (r_tup (H := H) (w.free n).1 od r) h⟩⟩
end
end MX


set_option Elab.async false
set_option linter.all false
set_option maxRecDepth 100000
namespace MX
open PySem PySem.Spec PyProof.Rows L2
section
variable {c : Cs} {E : XK}

theorem on_bl {Hi F : Hp} {θ : List Addr} {H : Hp} {b : Bool} : (rV c).on Hi F θ H (V.bl b) (D.bl b) := r_bl (c := c) (F := F) (θ := θ)
/-! ### tests -/
def eBl (e : Fn D) : Fn Bool := fun ρ s => (e ρ s).bind fun d s => match d with
  | .bl b => .ok b s
  | _ => .bad
theorem den_test {t : TE} {e : Fn D} (h : DenE c E t e) : DenT c E (tTest t) (eBl e) := by
  refine den_bind (r2 := rB c) (K := fun σ x H' Q => ∃ k, x = V.bl k ∧ Q k H') h fun H0 σ ρ s F θ H Hi x a Q he hw q hp => ?_
  cases a with
  | bl b => exact ⟨b, r_bl_inv (c := c) (F := F) (θ := θ) q, hp b F θ H (Ext.refl _ _ _) hw rfl⟩
  | _ => exact hp.elim
theorem den_tB {t : TE} {e : Fn D} (h : DenE c E t e) : DenT c E (tB t) (eBl e) := by
  refine den_bind (r2 := rB c) (K := fun σ x H' Q => ∃ k, x = V.bl k ∧ Q k H') h fun H0 σ ρ s F θ H Hi x a Q he hw q hp => ?_
  cases a with
  | bl b => exact ⟨b, r_bl_inv (c := c) (F := F) (θ := θ) q, hp b F θ H (Ext.refl _ _ _) hw rfl⟩
  | _ => exact hp.elim
def truD (s : Sto) : D → Option Bool
  | .non => some false
  | .bl b => some b
  | .int i => some (i != 0)
  | .str y => if small y.length then some ((y.length : Int) != 0) else none
  | d => match seqD s d with
    | some ds => some (!ds.isEmpty)
    | none => none
def eTru (e : Fn D) : Fn Bool := fun ρ s => (e ρ s).bind fun d s => Res.ofO (truD s d) s
theorem emp_of {F : Hp} {θ : List Addr} {xs : List V} {ds : List D} (r : RA c F θ xs ds) : ds.isEmpty = xs.isEmpty := by
  have := r.length
  cases xs <;> cases ds <;> simp at this ⊢
theorem tru_of {s : Sto} {F : Hp} {θ : List Addr} {H : Hp} {x : V} {d : D} {k : Bool} (w : WOk c s F θ H) (h : R c F θ x d) (e : truD s d = some k) : TruV c.K x H k := by
  have gen : ∀ ds, seqD s d = some ds → k = !ds.isEmpty → TruV c.K x H k := by
    intro ds e1 e2
    obtain ⟨a, xs, rfl, hs, r⟩ := seq_of w h e1
    rcases hs with hs | hs
    · exact .inl ⟨xs, hs, by rw [e2, emp_of r]⟩
    · exact .inr (.inl ⟨xs, hs, by rw [e2, emp_of r]⟩)
  unfold truD at e
  split at e
  · cases e; rw [r_non_inv h]; rfl
  · cases e; rw [r_bl_inv h]; rfl
  · cases e; rw [r_int_inv h]; rfl
  · split at e
    · rename_i z; cases e; rw [r_str_inv h]; exact ⟨small_of z, rfl⟩
    · cases e
  · split at e
    · rename_i ds z; cases e; exact gen ds z rfl
    · cases e
theorem den_truth {t : TE} {e : Fn D} (h : DenE c E t e) : DenT c E (fun σ H Q => t σ H fun x H' => ∃ k, TruV c.K x H' k ∧ Q k H') (eTru e) := by
  refine den_bind (r2 := rB c) (K := fun σ x H' Q => ∃ k, TruV c.K x H' k ∧ Q k H') h fun H0 σ ρ s F θ H Hi x a Q he hw q hp => ?_
  cases z : truD s a with
  | none => rw [z] at hp; exact hp.elim
  | some k => rw [z] at hp; exact ⟨k, tru_of hw q z, hp k F θ H (Ext.refl _ _ _) hw rfl⟩
def eAnd (a b : Fn Bool) : Fn Bool := fun ρ s => (a ρ s).bind fun k s => if k = true then b ρ s else .ok false s
def eOr (a b : Fn Bool) : Fn Bool := fun ρ s => (a ρ s).bind fun k s => if k = true then .ok true s else b ρ s
def eNot (a : Fn Bool) : Fn Bool := fun ρ s => (a ρ s).bind fun k s => .ok (!k) s
theorem den_and {t u : TT} {a b : Fn Bool} (h : DenT c E t a) (k : DenT c E u b) : DenT c E (tAnd t u) (eAnd a b) := by
  refine den_bind (r2 := rB c) (K := fun σ x H' Q => if x = true then u σ H' Q else Q false H') h fun H0 σ ρ s F θ H Hi x a Q he hw q hp => ?_
  have q : x = a := q
  subst q
  cases x with
  | true => exact k H0 σ ρ s F θ H Q he hw hp
  | false => exact hp false F θ H (Ext.refl _ _ _) hw rfl
theorem den_or {t u : TT} {a b : Fn Bool} (h : DenT c E t a) (k : DenT c E u b) : DenT c E (tOr t u) (eOr a b) := by
  refine den_bind (r2 := rB c) (K := fun σ x H' Q => if x = true then Q true H' else u σ H' Q) h fun H0 σ ρ s F θ H Hi x a Q he hw q hp => ?_
  have q : x = a := q
  subst q
  cases x with
  | false => exact k H0 σ ρ s F θ H Q he hw hp
  | true => exact hp true F θ H (Ext.refl _ _ _) hw rfl
theorem den_not {t : TT} {a : Fn Bool} (h : DenT c E t a) : DenT c E (tNot t) (eNot a) := by
  refine den_bind (r2 := rB c) (K := fun σ x H' Q => Q (!x) H') h fun H0 σ ρ s F θ H Hi x a Q he hw q hp => ?_
  have q : x = a := q
  subst q
  exact hp _ F θ H (Ext.refl _ _ _) hw rfl
def dAnd (a b : Fn D) : Fn D := fun ρ s => (a ρ s).bind fun d s => match d with
  | .bl k => if k = true then b ρ s else .ok (.bl false) s
  | _ => .bad
def dOr (a b : Fn D) : Fn D := fun ρ s => (a ρ s).bind fun d s => match d with
  | .bl k => if k = true then .ok (.bl true) s else b ρ s
  | _ => .bad
def dNot (a : Fn D) : Fn D := fun ρ s => (a ρ s).bind fun d s => match d with
  | .bl k => .ok (.bl (!k)) s
  | _ => .bad
theorem den_andV {t u : TE} {a b : Fn D} (h : DenE c E t a) (k : DenE c E u b) : DenE c E (tAndV t u) (dAnd a b) := by
  refine den_bind (r2 := rV c) (K := fun σ x H' Q => ∃ c, x = V.bl c ∧ if c = true then u σ H' Q else Q (V.bl false) H') h fun H0 σ ρ s F θ H Hi x a Q he hw q hp => ?_
  cases a with
  | bl z =>
    refine ⟨z, r_bl_inv (c := c) (F := F) (θ := θ) q, ?_⟩
    cases z with
    | true => exact k H0 σ ρ s F θ H Q he hw hp
    | false => exact hp (.bl false) F θ H (Ext.refl _ _ _) hw on_bl
  | _ => exact hp.elim
theorem den_orV {t u : TE} {a b : Fn D} (h : DenE c E t a) (k : DenE c E u b) : DenE c E (tOrV t u) (dOr a b) := by
  refine den_bind (r2 := rV c) (K := fun σ x H' Q => ∃ c, x = V.bl c ∧ if c = true then Q (V.bl true) H' else u σ H' Q) h fun H0 σ ρ s F θ H Hi x a Q he hw q hp => ?_
  cases a with
  | bl z =>
    refine ⟨z, r_bl_inv (c := c) (F := F) (θ := θ) q, ?_⟩
    cases z with
    | false => exact k H0 σ ρ s F θ H Q he hw hp
    | true => exact hp (.bl true) F θ H (Ext.refl _ _ _) hw on_bl
  | _ => exact hp.elim
theorem den_notV {t : TE} {a : Fn D} (h : DenE c E t a) : DenE c E (tNotV t) (dNot a) := by
  refine den_bind (r2 := rV c) (K := fun σ x H' Q => ∃ c, x = V.bl c ∧ Q (V.bl (!c)) H') h fun H0 σ ρ s F θ H Hi x a Q he hw q hp => ?_
  cases a with
  | bl z => exact ⟨z, r_bl_inv (c := c) (F := F) (θ := θ) q, hp _ F θ H (Ext.refl _ _ _) hw on_bl⟩
  | _ => exact hp.elim
def dIf (t : Fn Bool) (a b : Fn D) : Fn D := fun ρ s => (t ρ s).bind fun k s => if k = true then a ρ s else b ρ s
theorem den_if {t : TT} {ta tb : TE} {e : Fn Bool} {a b : Fn D} (h : DenT c E t e) (h1 : DenE c E ta a) (h2 : DenE c E tb b) : DenE c E (tIf t ta tb) (dIf e a b) := by
  refine den_bind (r2 := rV c) (K := fun σ x H' Q => if x = true then ta σ H' Q else tb σ H' Q) h fun H0 σ ρ s F θ H Hi x a Q he hw q hp => ?_
  have q : x = a := q
  subst q
  cases x with
  | true => exact h1 H0 σ ρ s F θ H Q he hw hp
  | false => exact h2 H0 σ ρ s F θ H Q he hw hp
/-- a op b op' c -/
def dChain (f g : F2) (ea eb ec : Fn D) : Fn D := fun ρ s => (ea ρ s).bind fun a s => (eb ρ s).bind fun b s => match f a b s with
  | some (.bl k) => if k = true then (ec ρ s).bind fun d s => Res.ofO (g b d s) s else .ok (.bl false) s
  | _ => .bad
theorem den_chain {r r' : R2} {f g : F2} {ta tb tc : TE} {ea eb ec : Fn D} (hr : OpD c r f) (hr' : OpD c r' g) (ha : DenE c E ta ea) (hb : DenE c E tb eb) (hc : DenE c E tc ec) : DenE c E (tChain r r' ta tb tc) (dChain f g ea eb ec) := by
  refine den_bind (K := fun σ x H Q => tb σ H fun y H2 => r x y H2 fun z H3 => ∃ k, z = V.bl k ∧ (if k = true then tc σ H3 fun w' H4 => r' y w' H4 Q else Q (V.bl false) H3)) ha fun H0 σ ρ s F θ H Hi x a Q he hw q hp => ?_
  refine hb H0 σ ρ s F θ H _ he hw ?_
  cases e : eb ρ s with
  | exc k fs s' => rw [e] at hp; exact hp
  | bad => rw [e] at hp; exact hp
  | ok b s' =>
    rw [e] at hp
    have hp : Post c E (rV c) (match f a b s' with
      | some (.bl k) => if k = true then (ec ρ s').bind fun d s => Res.ofO (g b d s) s else .ok (.bl false) s'
      | _ => .bad) F θ H Q := hp
    intro y F' θ' H' ex w q2
    have hp2 := hp.shift ex
    cases e2 : f a b s' with
    | none => rw [e2] at hp2; exact hp2.elim
    | some d =>
      rw [e2] at hp2
      cases d with
      | bl k =>
        refine hr s' F' θ' H' x y a b w (R.mono ex.fr ex.th a q) q2 _ (.bl k) e2 fun v F3 H3 ex3 w3 q3 => ?_
        refine ⟨k, r_bl_inv (c := c) (F := F3) (θ := θ') q3, ?_⟩
        have hp3 := hp2.shift ex3
        cases k with
        | false => exact hp3 (.bl false) F3 θ' H3 (Ext.refl _ _ _) w3 on_bl
        | true =>
          show tc σ H3 _
          refine hc H0 σ ρ s' F3 θ' H3 _ ((he.ext ex).ext ex3) w3 ?_
          have hp3 : Post c E (rV c) ((ec ρ s').bind fun d s => Res.ofO (g b d s) s) F3 θ' H3 Q := hp3
          cases e4 : ec ρ s' with
          | exc k fs s' => rw [e4] at hp3; exact hp3
          | bad => rw [e4] at hp3; exact hp3
          | ok d s4 =>
            rw [e4] at hp3
            intro z F4 θ4 H4 ex4 w4 q4
            exact (hr' s4 F4 θ4 H4 y z b d w4 (R.mono (ex3.trans ex4).fr (ex3.trans ex4).th b q2) q4).post (hp3.shift ex4)
      | _ => exact hp2.elim

/-! ### a star among the arguments -/
def dStar (ea : Fn D) (er : Fn (List D)) : Fn (List D) := fun ρ s => (ea ρ s).bind fun a s => match a with
  | .lst xs => (er ρ s).bind fun r s => .ok (xs ++ r) s
  | .tup xs => (er ρ s).bind fun r s => .ok (xs ++ r) s
  | _ => .bad
end

/-! ### calls of the program's own defs -/
abbrev Mf := List D → Sto → Res D
def spF (c : Cs) (m : Mf) (n : Nat) : Sp := fun vs H Q E => vs.length = n ∧ ∃ F θ s ds, WOk c s F θ H ∧ RA c F θ vs ds ∧ Post c E (rV c) (m ds s) F θ H Q
section
variable {c : Cs} {E : XK}
def dCall (m : Mf) (n : Nat) (ea : Fn (List D)) : Fn D := fun ρ s => (ea ρ s).bind fun a s => if a.length = n then m a s else .bad
theorem den_call {m : Mf} {n : Nat} {ta : TA} {ea : Fn (List D)} (ha : DenA c E ta ea) : DenE c E (tCall (spF c m n) [] E ta) (dCall m n ea) := by
  refine den_bind (r2 := rV c) (K := fun σ vs H1 Q => spF c m n (vs ++ []) H1 Q E) ha fun H0 σ ρ s F θ H Hi x a Q he hw q hp => ?_
  by_cases z : a.length = n
  · rw [if_pos z] at hp
    rw [List.append_nil]
    exact ⟨by rw [RA.length q]; exact z, F, θ, s, a, hw, q, hp⟩
  · rw [if_neg z] at hp; exact hp.elim
mutual
def noC : D → Bool
  | .cell _ => false
  | .lst ds => noCs ds
  | .ro ds => noCs ds
  | .tup ds => noCs ds
  | .obj _ ds => noCs ds
  | _ => true
def noCs : List D → Bool
  | [] => true
  | d :: ds => noC d && noCs ds
end
mutual
theorem r_noC {F : Hp} {θ : List Addr} : ∀ (d : D) {v : V}, noC d = true → R c F θ v d → R c F [] v d
  | .non, v, _, h => by unfold R at h ⊢; exact h
  | .bl _, v, _, h => by unfold R at h ⊢; exact h
  | .int _, v, _, h => by unfold R at h ⊢; exact h
  | .str _, v, _, h => by unfold R at h ⊢; exact h
  | .ty _, v, _, h => by unfold R at h ⊢; exact h
  | .cls _, v, _, h => by unfold R at h ⊢; exact h
  | .cell _, v, z, h => by unfold noC at z; exact (Bool.false_ne_true z).elim
  | .lst ds, v, z, h => by
    unfold noC at z
    unfold R at h ⊢
    obtain ⟨a, xs, r, s, t⟩ := h
    exact ⟨a, xs, r, s, ra_noC ds z t⟩
  | .ro ds, v, z, h => by
    unfold noC at z
    unfold R at h ⊢
    obtain ⟨a, xs, r, s, t⟩ := h
    exact ⟨a, xs, r, s, ra_noC ds z t⟩
  | .tup ds, v, z, h => by
    unfold noC at z
    unfold R at h ⊢
    obtain ⟨a, xs, r, s, t⟩ := h
    exact ⟨a, xs, r, s, ra_noC ds z t⟩
  | .obj k ds, v, z, h => by
    unfold noC at z
    unfold R at h ⊢
    obtain ⟨a, dx, fs, r, s, n, t⟩ := h
    exact ⟨a, dx, fs, r, s, n, ra_noC ds z t⟩
theorem ra_noC {F : Hp} {θ : List Addr} : ∀ (ds : List D) {vs : List V}, noCs ds = true → RA c F θ vs ds → RA c F [] vs ds
  | [], vs, _, h => by rw [h.nil_inv]; exact RA.nil
  | d :: ds, vs, z, h => by
    unfold noCs at z
    rw [Bool.and_eq_true] at z
    obtain ⟨v, r, rfl, q, t⟩ := h.cons_inv
    exact RA.cons (r_noC d z.1 q) (ra_noC ds z.2 t)
end
/-- a call that touches no cell: worked out over the empty store -/
def pur (m : Mf) (ds : List D) (s : Sto) : Res D := if noCs ds = true then (match m ds [] with
  | .ok d [] => .ok d s
  | .exc k fs [] => .exc k fs s
  | _ => .bad) else .bad
theorem wok_nil {s : Sto} {F : Hp} {θ : List Addr} {H : Hp} (w : WOk c s F θ H) : WOk c [] F [] H := by
  refine ⟨w.sub, fun a m => ?_, List.nodup_nil, rfl, fun i a ds h _ => ?_⟩
  · cases m
  · simp at h
theorem wok_back {s : Sto} {F F' : Hp} {θ : List Addr} {H H' : Hp} (w : WOk c s F θ H) (x : Ext F [] H F' [] H') (w' : WOk c [] F' [] H') : Ext F θ H F' θ H' ∧ WOk c s F' θ H' := by
  refine ⟨⟨x.fr, Pre.refl θ, fun a o h _ => x.kp a o h (by simp), fun a m n => absurd m n, x.nf, x.al⟩, ⟨w'.sub, fun a m => ⟨x.nf a (w.fc a m).1 (w.fc a m).2, x.al a (w.fc a m).2⟩, w.nd, w.len, fun i a ds h1 h2 => ?_⟩⟩
  obtain ⟨xs, e, r⟩ := w.cel i a ds h1 h2
  exact ⟨xs, x.kp a _ e (by simp), RA.mono x.fr (Pre.refl θ) ds r⟩
theorem th_nil {F' : Hp} {θ' : List Addr} {H' : Hp} (w : WOk c [] F' θ' H') : θ' = [] := by
  have := w.len
  exact List.length_eq_zero_iff.mp (by simpa using this)
theorem post_pur {m : Mf} {s : Sto} {ds : List D} {F : Hp} {θ : List Addr} {H : Hp} {Q : VK} (w : WOk c s F θ H) (z : noCs ds = true) (hp : Post c E (rV c) (pur m ds s) F θ H Q) : Post c E (rV c) (m ds []) F [] H Q := by
  unfold pur at hp
  rw [if_pos z] at hp
  cases e : m ds [] with
  | bad => rw [e] at hp; exact hp
  | ok d s' =>
    rw [e] at hp
    cases s' with
    | cons _ _ => exact hp.elim
    | nil =>
      intro v F' θ' H' x w' q
      have t := th_nil w'
      subst t
      obtain ⟨x2, w2⟩ := wok_back w x w'
      exact hp v F' θ H' x2 w2 (R.mono (Le.refl F') ⟨θ, rfl⟩ d q)
  | exc k fs s' =>
    rw [e] at hp
    cases s' with
    | cons _ _ => exact hp.elim
    | nil =>
      intro F' θ' H' dx x w' q
      have t := th_nil w'
      subst t
      obtain ⟨x2, w2⟩ := wok_back w x w'
      refine hp F' θ H' dx x2 w2 ?_
      rcases q with q | ⟨d, vs, h1, h2, h3, h4⟩
      · exact .inl q
      · exact .inr ⟨d, vs, h1, h2, h3, RA.mono (Le.refl F') ⟨θ, rfl⟩ fs h4⟩
theorem den_callP {m : Mf} {n : Nat} {ta : TA} {ea : Fn (List D)} (ha : DenA c E ta ea) : DenE c E (tCall (spF c m n) [] E ta) (dCall (pur m) n ea) := by
  refine den_bind (r2 := rV c) (K := fun σ vs H1 Q => spF c m n (vs ++ []) H1 Q E) ha fun H0 σ ρ s F θ H Hi x a Q he hw q hp => ?_
  by_cases z : a.length = n
  · rw [if_pos z] at hp
    rw [List.append_nil]
    by_cases z2 : noCs a = true
    · exact ⟨by rw [RA.length q]; exact z, F, [], [], a, wok_nil hw, ra_noC a z2 q, post_pur hw z2 hp⟩
    · unfold pur at hp
      rw [if_neg z2] at hp
      exact hp.elim
  · rw [if_neg z] at hp; exact hp.elim
end
end MX


set_option Elab.async false
set_option linter.all false
set_option maxRecDepth 100000
namespace MX
open PySem PySem.Spec PyProof.Rows L2

/-! ### targets -/
inductive Pt where
  | nm (i : Nat) | tup (p : Pt) | nil | cons (p q : Pt)
def Pt.len : Pt → Nat
  | .cons _ q => q.len + 1
  | _ => 0
mutual
def gP (K : PySem.W.Frag) : Pt → TG
  | .nm i => gName i
  | .tup p => gTup K p.len (gPs K p)
  | _ => fun _ _ _ _ => False
def gPs (K : PySem.W.Frag) : Pt → TGs
  | .nil => gNil
  | .cons p q => gCons (gP K p) (gPs K q)
  | _ => fun _ _ _ _ => False
end
mutual
def setP : Pt → List Sl → D → Option (List Sl)
  | .nm i, ρ, d => some (ρ.set i (.val d))
  | .tup p, ρ, d => match d with
    | .tup ds => if ds.length = p.len then setPs p ρ ds else none
    | _ => none
  | _, _, _ => none
def setPs : Pt → List Sl → List D → Option (List Sl)
  | .nil, ρ, [] => some ρ
  | .cons p q, ρ, d :: ds => match setP p ρ d with
    | some ρ1 => setPs q ρ1 ds
    | none => none
  | _, _, _ => none
end
def Pt.slots : Pt → List Nat
  | .nm i => [i]
  | .tup p => p.slots
  | .nil => []
  | .cons p q => p.slots ++ q.slots
/-- σ' is σ but for the slots of the target -/
def But (is : List Nat) (σ σ' : L2.St) : Prop := ∀ vs : List Nat, (∀ i ∈ is, i ∈ vs) → wipe σ' vs = wipe σ vs
theorem wipe_get {σ : L2.St} {i : Nat} : ∀ {vs : List Nat}, (wipe σ vs)[i]? = if i ∈ vs then (if i < σ.length then some none else none) else σ[i]?
  | [] => by simp [wipe]
  | v :: vs => by
    unfold wipe
    by_cases e : v = i
    · subst e
      simp [List.getElem?_set, wipe_length]
    · rw [List.getElem?_set_ne e, wipe_get]
      have : (i ∈ v :: vs) ↔ i ∈ vs := by
        constructor
        · intro h
          rcases List.mem_cons.mp h with h | h
          · exact absurd h.symm e
          · exact h
        · exact List.mem_cons_of_mem _
      simp only [this]
theorem wipe_set {σ : L2.St} {i : Nat} {o : Option V} {vs : List Nat} (h : i ∈ vs) : wipe (σ.set i o) vs = wipe σ vs := by
  apply List.ext_getElem?
  intro j
  rw [wipe_get, wipe_get, List.length_set]
  by_cases e : j ∈ vs
  · simp [e]
  · simp only [e, if_false]
    have : i ≠ j := fun z => e (z ▸ h)
    rw [List.getElem?_set_ne this]
section
variable {c : Cs} {E : XK} {H0 : En} {F : Hp} {θ : List Addr} {H : Hp}
mutual
theorem gP_ok {s : Sto} (hw : WOk c s F θ H) : ∀ (p : Pt) (σ : L2.St) (ρ ρ' : List Sl) (v : V) (d : D) (Q : L2.St → Hp → Prop), EnvOk c H0 F θ H σ ρ → R c F θ v d → setP p ρ d = some ρ' →
    (∀ σ', EnvOk c H0 F θ H σ' ρ' → But p.slots σ σ' → Q σ' H) → gP c.K p v σ H Q
  | .nm i, σ, ρ, ρ', v, d, Q, he, r, e, k => by
    unfold setP at e
    cases e
    exact k _ (he.setVal r) fun vs h => wipe_set (h i (by simp [Pt.slots]))
  | .tup p, σ, ρ, ρ', v, d, Q, he, r, e, k => by
    unfold setP at e
    split at e
    · rename_i ds
      split at e
      · rename_i hl
        obtain ⟨a, xs, rfl, ha, q⟩ := r_tup_inv r
        exact ⟨a, xs, rfl, hw.sub.t ha.t, by rw [q.length]; exact hl, gPs_ok hw p σ ρ ρ' xs ds Q he q e k⟩
      · cases e
    · cases e
  | .nil, σ, ρ, ρ', v, d, Q, he, r, e, k => by unfold setP at e; cases e
  | .cons _ _, σ, ρ, ρ', v, d, Q, he, r, e, k => by unfold setP at e; cases e
theorem gPs_ok {s : Sto} (hw : WOk c s F θ H) : ∀ (p : Pt) (σ : L2.St) (ρ ρ' : List Sl) (vs : List V) (ds : List D) (Q : L2.St → Hp → Prop), EnvOk c H0 F θ H σ ρ → RA c F θ vs ds → setPs p ρ ds = some ρ' →
    (∀ σ', EnvOk c H0 F θ H σ' ρ' → But p.slots σ σ' → Q σ' H) → gPs c.K p vs σ H Q
  | .nil, σ, ρ, ρ', vs, [], Q, he, r, e, k => by
    unfold setPs at e
    cases e
    exact ⟨r.nil_inv, k σ he fun _ _ => rfl⟩
  | .nil, σ, ρ, ρ', vs, _ :: _, Q, he, r, e, k => by unfold setPs at e; cases e
  | .cons p q, σ, ρ, ρ', vs, [], Q, he, r, e, k => by unfold setPs at e; cases e
  | .cons p q, σ, ρ, ρ', vs, d :: ds, Q, he, r, e, k => by
    unfold setPs at e
    cases z : setP p ρ d with
    | none => rw [z] at e; cases e
    | some ρ1 =>
      rw [z] at e
      obtain ⟨v, r', rfl, r1, r2⟩ := r.cons_inv
      refine ⟨v, r', rfl, gP_ok hw p σ ρ ρ1 v d _ he r1 z fun σ1 he1 b1 => ?_⟩
      refine gPs_ok hw q σ1 ρ1 ρ' r' ds Q he1 r2 e fun σ2 he2 b2 => k σ2 he2 fun ws h => ?_
      rw [b2 ws fun i hi => h i (by simp [Pt.slots, hi]), b1 ws fun i hi => h i (by simp [Pt.slots, hi])]
  | .nm _, σ, ρ, ρ', vs, ds, Q, he, r, e, k => by unfold setPs at e; cases e
  | .tup _, σ, ρ, ρ', vs, ds, Q, he, r, e, k => by unfold setPs at e; cases e
end

/-! ### what is walked -/
/-- J yields the items of ds, in any later state -/
def IterX (c : Cs) (J : It) (ds : List D) (F : Hp) (θ : List Addr) (H : Hp) : Prop := ∀ (F2 : Hp) (θ2 : List Addr) (H2 : Hp), Ext F θ H F2 θ2 H2 → Le F2 H2 →
  (∀ (i : Nat) (d : D), ds[i]? = some d → J.go i H2 ∧ ∀ x H3, J.yld i H2 x H3 → H3 = H2 ∧ R c F2 θ2 x d) ∧ ∀ i, ds.length ≤ i → J.stop i H2
/-- .. in any state in which what is frozen stands -/
def IterS (c : Cs) (J : It) (ds : List D) (F : Hp) (θ : List Addr) : Prop := ∀ (F2 : Hp) (θ2 : List Addr) (H2 : Hp), Le F F2 → Pre θ θ2 → Le F2 H2 →
  (∀ (i : Nat) (d : D), ds[i]? = some d → J.go i H2 ∧ ∀ x H3, J.yld i H2 x H3 → H3 = H2 ∧ R c F2 θ2 x d) ∧ ∀ i, ds.length ≤ i → J.stop i H2
theorem IterS.x {J : It} {ds : List D} (h : IterS c J ds F θ) : IterX c J ds F θ H := fun F2 θ2 H2 x s => h F2 θ2 H2 x.fr x.th s
def rIX (c : Cs) : Rel c It (List D) := ⟨fun _ F θ H J ds => IterX c J ds F θ H, fun _ _ _ _ _ _ _ _ h => h⟩
def rIS (c : Cs) : Rel c It (List D) := ⟨fun _ F θ _ J ds => IterS c J ds F θ, fun _ _ _ _ _ _ _ _ h => h⟩
abbrev SrcX (c : Cs) (E : XK) (wi : TI) (e : Fn (List D)) : Prop := Den c E (rIX c) wi e
abbrev SrcS (c : Cs) (E : XK) (wi : TI) (e : Fn (List D)) : Prop := Den c E (rIS c) wi e
theorem SrcS.x {wi : TI} {e : Fn (List D)} (h : SrcS c E wi e) : SrcX c E wi e := by
  intro H0 σ ρ s F θ H Q he hw hp
  refine h H0 σ ρ s F θ H Q he hw ?_
  cases q : e ρ s with
  | bad => rw [q] at hp; exact hp
  | exc k fs s' => rw [q] at hp; exact hp
  | ok ds s' =>
    rw [q] at hp
    exact fun J F' θ' H' x w r => hp J F' θ' H' x w (IterS.x r)
/-- a list or a tuple, whichever it is -/
def iSeq (K : PySem.W.Frag) (te : TE) : TI := fun σ H R => te σ H fun x H1 => (∃ a, x = .ref a ∧ (∃ xs, SqL K H1 a xs) ∧ R (Itl K a) H1) ∨ ∃ a, x = .ref a ∧ (∃ xs, SqT K H1 a xs) ∧ R (Itt K a) H1
theorem itl_of {a : Addr} {xs : List V} {ds : List D} (hs : ∀ (F2 H2 : Hp), Le F F2 → Le F2 H2 → SqL c.K H2 a xs) (r : RA c F θ xs ds) : IterS c (Itl c.K a) ds F θ := by
  intro F2 θ2 H2 x p s
  have hq := hs F2 H2 x s
  have r2 := RA.mono x p ds r
  have u : ∀ ys, SqL c.K H2 a ys → True := fun _ _ => trivial
  refine ⟨fun i d h => ?_, fun i h => ⟨xs, hq, by rw [r.length]; exact h⟩⟩
  obtain ⟨v, hv, hr⟩ := r2.get' h
  exact ⟨⟨xs, v, hq, hv⟩, fun y H3 ⟨e, k⟩ => ⟨e, by
    have := k xs hq
    rw [hv] at this
    cases this
    exact hr⟩⟩
theorem itt_of {a : Addr} {xs : List V} {ds : List D} (hs : SqT c.K F a xs) (r : RA c F θ xs ds) : IterS c (Itt c.K a) ds F θ := by
  intro F2 θ2 H2 x p s
  have hq := s.t (x.t hs)
  have r2 := RA.mono x p ds r
  refine ⟨fun i d h => ?_, fun i h => ⟨xs, hq, by rw [r.length]; exact h⟩⟩
  obtain ⟨v, hv, hr⟩ := r2.get' h
  exact ⟨⟨xs, v, hq, hv⟩, fun y H3 ⟨e, k⟩ => ⟨e, by
    have := k xs hq
    rw [hv] at this
    cases this
    exact hr⟩⟩
/-- a frozen list, a tuple -/
def frzD : D → Option (List D)
  | .lst ds => some ds
  | .ro ds => some ds
  | .tup ds => some ds
  | _ => none
def wSeq (e : Fn D) : Fn (List D) := fun ρ s => (e ρ s).bind fun d s => Res.ofO (frzD d) s
theorem src_seq {te : TE} {e : Fn D} (h : DenE c E te e) : SrcS c E (iSeq c.K te) (wSeq e) := by
  refine den_bind (r2 := rIS c) (K := fun σ x H1 Q => (∃ a, x = V.ref a ∧ (∃ xs, SqL c.K H1 a xs) ∧ Q (Itl c.K a) H1) ∨ ∃ a, x = V.ref a ∧ (∃ xs, SqT c.K H1 a xs) ∧ Q (Itt c.K a) H1) h fun H0 σ ρ s F θ H Hi x a Q he hw q hp => ?_
  have q : R c F θ x a := q
  cases a with
  | lst ds =>
    obtain ⟨p, xs, rfl, ha, r⟩ := r_lst_inv q
    exact .inl ⟨p, rfl, ⟨xs, SqL.of (hw.sub _ _ ha)⟩, hp _ F θ H (Ext.refl _ _ _) hw (itl_of (fun F2 H2 x s => SqL.of (s _ _ (x _ _ ha))) r)⟩
  | ro ds =>
    obtain ⟨p, xs, rfl, ha, r⟩ := r_ro_inv q
    exact .inl ⟨p, rfl, ⟨xs, hw.sub.l ha⟩, hp _ F θ H (Ext.refl _ _ _) hw (itl_of (fun F2 H2 x s => s.l (x.l ha)) r)⟩
  | tup ds =>
    obtain ⟨p, xs, rfl, ha, r⟩ := r_tup_inv q
    exact .inr ⟨p, rfl, ⟨xs, hw.sub.t ha.t⟩, hp _ F θ H (Ext.refl _ _ _) hw (itt_of ha.t r)⟩
  | _ => exact hp.elim
/-- a list that stands in this state and stays where nothing but cells changes (one's own list): in comprehensions -/
theorem srcX_L {te : TE} {e : Fn (List D)} (h : DenL c E te e) : SrcX c E (iSeq c.K te) e := by
  intro H0 σ ρ s F θ H Q he hw hp
  refine h H0 σ ρ s F θ H _ he hw ?_
  cases q : e ρ s with
  | bad => rw [q] at hp; exact hp
  | exc k fs s' => rw [q] at hp; exact hp
  | ok ds s' =>
    rw [q] at hp
    rintro v F' θ' H' x w ⟨a, xs, rfl, hs, ht, r⟩
    refine .inl ⟨a, rfl, ⟨xs, hs⟩, hp _ F' θ' H' x w ?_⟩
    intro F2 θ2 H2 x2 s2
    have hq : SqL c.K H2 a xs := by
      rcases hs with (hs | ⟨o, hs⟩) | hs
      · exact .inl (.inl (x2.kp a _ hs ht))
      · exact .inl (.inr ⟨o, x2.kp a _ hs ht⟩)
      · exact .inr hs
    have r2 := RA.mono x2.fr x2.th ds r
    refine ⟨fun i d h => ?_, fun i h => ⟨xs, hq, by rw [r.length]; exact h⟩⟩
    obtain ⟨v, hv, hr⟩ := r2.get' h
    exact ⟨⟨xs, v, hq, hv⟩, fun y H3 ⟨e, k⟩ => ⟨e, by
      have := k xs hq
      rw [hv] at this
      cases this
      exact hr⟩⟩
def rangeD (lo : Int) (n : Nat) : List D := (List.range n).map fun (i : Nat) => D.int (lo + (i : Int))
theorem itr_of {lo : Int} {n : Nat} : IterS c (Itr lo n) (rangeD lo n) F θ := by
  intro F2 θ2 H2 x p s
  refine ⟨fun i d h => ?_, fun i h => ?_⟩
  · have hi : i < n := by have := get_lt h; simpa [rangeD] using this
    have e : d = .int (lo + (i : Int)) := by
      unfold rangeD at h
      rw [List.getElem?_map, List.getElem?_range hi] at h
      exact (Option.some.inj h).symm
    subst e
    exact ⟨hi, fun y H3 ⟨e1, e2⟩ => ⟨e1, by rw [e2]; exact r_int⟩⟩
  · have : n ≤ i := by simpa [rangeD] using h
    exact this
def inB (j : Int) : Bool := decide (-1000000 ≤ j ∧ j ≤ 1000000)
def wRng1 (e : Fn (List D)) : Fn (List D) := fun ρ s => (e ρ s).bind fun ds s => match ds with
  | [.int j] => if inB j then .ok (rangeD 0 j.toNat) s else .bad
  | _ => .bad
def wRng2 (e : Fn (List D)) : Fn (List D) := fun ρ s => (e ρ s).bind fun ds s => match ds with
  | [.int i, .int j] => if inB i && inB j then .ok (rangeD i (j - i).toNat) s else .bad
  | _ => .bad
theorem src_rng1 {ta : TA} {e : Fn (List D)} (h : DenA c E ta e) : SrcS c E (iRng1 ta) (wRng1 e) := by
  refine den_bind (r2 := rIS c) (K := fun σ vs H1 Q => ∃ j : Int, vs = [V.int j] ∧ -(2 ^ 62) ≤ j ∧ j < 2 ^ 62 ∧ Q (Itr 0 j.toNat) H1) h fun H0 σ ρ s F θ H Hi x a Q he hw q hp => ?_
  change RA c F θ x a at q
  split at hp
  · rename_i j
    split at hp
    · rename_i hb
      obtain ⟨v, rfl, hv⟩ := ra1 q
      have hb := of_decide_eq_true hb
      exact ⟨j, by rw [r_int_inv hv], by omega, by omega, hp _ F θ H (Ext.refl _ _ _) hw itr_of⟩
    · exact hp.elim
  · exact hp.elim
theorem src_rng2 {ta : TA} {e : Fn (List D)} (h : DenA c E ta e) : SrcS c E (iRng2 ta) (wRng2 e) := by
  refine den_bind (r2 := rIS c) (K := fun σ vs H1 Q => ∃ i j : Int, vs = [V.int i, V.int j] ∧ (-(2 ^ 62) ≤ i ∧ i < 2 ^ 62 ∧ -(2 ^ 62) ≤ j ∧ j < 2 ^ 62) ∧ Q (Itr i (j - i).toNat) H1) h fun H0 σ ρ s F θ H Hi x a Q he hw q hp => ?_
  change RA c F θ x a at q
  split at hp
  · rename_i i j
    split at hp
    · rename_i hb
      obtain ⟨v, u, rfl, hv, hu⟩ := ra2 q
      rw [Bool.and_eq_true] at hb
      have h1 := of_decide_eq_true hb.1
      have h2 := of_decide_eq_true hb.2
      exact ⟨i, j, by rw [r_int_inv hv, r_int_inv hu], ⟨by omega, by omega, by omega, by omega⟩, hp _ F θ H (Ext.refl _ _ _) hw itr_of⟩
    · exact hp.elim
  · exact hp.elim

/-! ### comprehensions -/
def wipeR (ρ : List Sl) : List Nat → List Sl
  | [] => ρ
  | v :: vs => (wipeR ρ vs).set v .none
theorem EnvOk.wipe {σ : L2.St} {ρ : List Sl} (h : EnvOk c H0 F θ H σ ρ) : ∀ vs : List Nat, EnvOk c H0 F θ H (L2.wipe σ vs) (wipeR ρ vs)
  | [] => h
  | v :: vs => (EnvOk.wipe h vs).setNone
def noX {α : Type} : Res α → Res α
  | .ok a s => .ok a s
  | _ => .bad
def compL (p : Pt) (t : Fn Bool) (e : Fn D) (ρ : List Sl) : List D → Sto → Res (List D)
  | [], s => .ok [] s
  | d :: ds, s => match setP p ρ d with
    | some ρ1 => (noX (t ρ1 s)).bind fun k s => if k = true then (noX (e ρ1 s)).bind fun y s => (compL p t e ρ ds s).bind fun r s => .ok (y :: r) s else compL p t e ρ ds s
    | none => .bad
def dComp (w : Fn (List D)) (p : Pt) (t : Fn Bool) (e : Fn D) (vs : List Nat) : Fn (List D) := fun ρ s => (w ρ s).bind fun ds s => if small ds.length then compL p t e (wipeR ρ vs) ds s else .bad
abbrev EX0 : XK := fun _ _ _ => False
theorem noX_post {α β : Type} {rel : Rel c β α} {r : Res α} {Q : β → Hp → Prop} (h : Post c EX0 rel (noX r) F θ H Q) : Post c EX0 rel r F θ H Q := by
  cases r with
  | ok a s => exact h
  | exc k fs s => exact h.elim
  | bad => exact h.elim
theorem den_comp {wi : TI} {w : Fn (List MX.D)} {p : Pt} {tt : TT} {t : Fn Bool} {te : TE} {e : Fn MX.D} {vs : List Nat} (hs : SrcX c E wi w) (ht : DenT c EX0 tt t) (he : DenE c EX0 te e) (hv : p.slots.all fun i => vs.contains i) :
    DenF c E (tLc wi (gP c.K p) tt te vs) (dComp w p t e vs) := by
  refine den_bind (r2 := rF c) (K := fun σ J H1 Q => ∀ D, H1 D = none → ∃ W : Nat → Nat → Hp → Prop, (∃ m, W 0 m (upd H1 D (.lst []))) ∧ ∀ i m H, W i m H →
    (J.stop i H ∧ Q (V.ref D) H) ∨ (J.go i H ∧ ∃ Nx : Hp → Prop, (∀ H', Nx H' → ∃ m', m' < m ∧ W (i + 1) m' H') ∧ ∀ x H', J.yld i H x H' → gP c.K p x (L2.wipe σ vs) H' fun σ2 H2 => L2.wipe σ2 vs = L2.wipe σ vs ∧ tt σ2 H2 fun b H3 =>
      if b = true then te σ2 H3 fun y H4 => ∃ acc, H4 D = some (.lst acc) ∧ acc.length < sizeLine ∧ Nx (upd H4 D (.lst (acc ++ [y]))) else Nx H3)) hs fun H0 σ ρ s F θ H Hi J ds Q hE hw hit hp => ?_
  intro Da hn
  have hit : IterX c J ds F θ H := hit
  cases hz : small ds.length with
  | false => simp only [hz] at hp; exact hp.elim
  | true =>
    simp only [hz, if_true] at hp
    have hslots : ∀ i ∈ p.slots, i ∈ vs := fun i hi => by
      have := List.all_eq_true.mp hv i hi
      simpa using this
    -- the invariant
    let Inv : Nat → Hp → Prop := fun i H1 => ∃ (F1 : Hp) (θ1 : List Addr) (s1 : Sto) (acc : List V) (ad : List MX.D), Ext F θ H F1 θ1 H1 ∧ WOk c s1 F1 θ1 H1 ∧ F1 Da = none ∧ Da ∉ θ1 ∧ H1 Da = some (.lst acc) ∧ RA c F1 θ1 acc ad ∧ acc.length ≤ i ∧ i ≤ ds.length ∧
      Post c E (rF c) ((compL p t e (wipeR ρ vs) (ds.drop i) s1).bind fun r s => .ok (ad ++ r) s) F θ H Q
    have upOwn : ∀ {F1 : Hp} {θ1 : List Addr} {s1 : Sto} {H1 : Hp} {o : HO}, Ext F θ H F1 θ1 H1 → WOk c s1 F1 θ1 H1 → F1 Da = none → Da ∉ θ1 → H1 Da ≠ none → Ext F θ H F1 θ1 (upd H1 Da o) ∧ WOk c s1 F1 θ1 (upd H1 Da o) := by
      intro F1 θ1 s1 H1 o x w1 nF nt nH
      refine ⟨⟨x.fr, x.th, fun a u h n => ?_, x.nc, x.nf, fun a n => ?_⟩, ⟨w1.sub.updR nF, fun a m => ?_, w1.nd, w1.len, fun i a es h1 h2 => ?_⟩⟩
      · rw [upd_ne (ne_of_none h hn)]; exact x.kp a u h n
      · by_cases q : a = Da
        · subst q; rw [upd_same]; simp
        · rw [upd_ne q]; exact x.al a n
      · have q : a ≠ Da := fun z => nt (z ▸ m)
        rw [upd_ne q]; exact w1.fc a m
      · obtain ⟨xs, h3, h4⟩ := w1.cel i a es h1 h2
        have q : a ≠ Da := fun z => nt (z ▸ List.mem_of_getElem? h1)
        exact ⟨xs, by rw [upd_ne q]; exact h3, h4⟩
    refine ⟨fun i m H1 => m = ds.length - i ∧ Inv i H1, ⟨ds.length, by simp, ?_⟩, ?_⟩
    · refine ⟨F, θ, s, [], [], Ext.newH hn, hw.newH hn, (hw.free hn).1, (hw.free hn).2, upd_same, RA.nil, by simp, by simp, ?_⟩
      rw [List.drop_zero]
      cases z : compL p t e (wipeR ρ vs) ds s with
      | ok a s2 => rw [z] at hp; exact hp
      | exc k fs s2 => rw [z] at hp; exact hp
      | bad => rw [z] at hp; exact hp
    · rintro i m H1 ⟨rfl, F1, θ1, s1, acc, ad, x1, w1, nF, nt, hD, ra, hal, hil, hp1⟩
      obtain ⟨hgo, hstop⟩ := hit F1 θ1 H1 x1 w1.sub
      by_cases hlt : i < ds.length
      · obtain ⟨d, hd⟩ : ∃ d, ds[i]? = some d := ⟨ds[i], List.getElem?_eq_getElem hlt⟩
        obtain ⟨g1, g2⟩ := hgo i d hd
        refine .inr ⟨g1, Inv (i + 1), fun H' h' => ⟨ds.length - (i + 1), by omega, rfl, h'⟩, fun x H' y => ?_⟩
        obtain ⟨rfl, rx⟩ := g2 x H' y
        have hdr : ds.drop i = d :: ds.drop (i + 1) := by
          rw [List.drop_eq_getElem_cons hlt]
          rw [List.getElem?_eq_getElem hlt] at hd
          rw [Option.some.inj hd]
        rw [hdr] at hp1
        unfold compL at hp1
        cases z : setP p (wipeR ρ vs) d with
        | none => rw [z] at hp1; exact hp1.elim
        | some ρ1 =>
          rw [z] at hp1
          dsimp only at hp1
          have hE1 := EnvOk.wipe (hE.ext x1) vs
          refine gP_ok w1 p _ _ ρ1 x d _ hE1 rx z fun σ2 hE2 hb => ⟨?_, ?_⟩
          · rw [hb vs hslots]
            apply List.ext_getElem?
            intro j
            rw [wipe_get, wipe_length]
            by_cases q : j ∈ vs
            · simp [q, wipe_get]
            · simp [q]
          · refine ht H0 σ2 ρ1 s1 F1 θ1 H' _ hE2 w1 ?_
            cases zt : t ρ1 s1 with
            | bad => rw [zt] at hp1; exact hp1.elim
            | exc k fs s2 => rw [zt] at hp1; exact hp1.elim
            | ok k s2 =>
              rw [zt] at hp1
              intro b F3 θ3 H3 x3 w3 hbk
              have hbk : b = k := hbk
              subst hbk
              have nH1 : H' Da ≠ none := by rw [hD]; simp
              have nF3 : F3 Da = none := x3.nf Da nF nH1
              have nt3 : Da ∉ θ3 := fun mm => nH1 (x3.nc Da mm nt)
              have hD3 : H3 Da = some (.lst acc) := x3.kp Da _ hD nt
              cases b with
              | false =>
                refine ⟨F3, θ3, s2, acc, ad, x1.trans x3, w3, nF3, nt3, hD3, RA.mono x3.fr x3.th ad ra, by omega, by omega, ?_⟩
                exact hp1
              | true =>
                show te σ2 H3 _
                refine he H0 σ2 ρ1 s2 F3 θ3 H3 _ (hE2.ext x3) w3 ?_
                have hp2 : Post c E (rF c) (((noX (e ρ1 s2)).bind fun y s => (compL p t e (wipeR ρ vs) (ds.drop (i + 1)) s).bind fun r s => .ok (y :: r) s).bind fun r s => .ok (ad ++ r) s) F θ H Q := hp1
                cases ze : e ρ1 s2 with
                | bad => rw [ze] at hp2; exact hp2.elim
                | exc k fs s3 => rw [ze] at hp2; exact hp2.elim
                | ok yd s3 =>
                  rw [ze] at hp2
                  intro yv F4 θ4 H4 x4 w4 ry
                  have nH3 : H3 Da ≠ none := by rw [hD3]; simp
                  have nF4 : F4 Da = none := x4.nf Da nF3 nH3
                  have nt4 : Da ∉ θ4 := fun mm => nH3 (x4.nc Da mm nt3)
                  have hD4 : H4 Da = some (.lst acc) := x4.kp Da _ hD3 nt3
                  have hsz := of_decide_eq_true hz
                  have hsl : (1000000 : Nat) < sizeLine := by decide
                  refine ⟨acc, hD4, by omega, ?_⟩
                  obtain ⟨xu, wu⟩ := upOwn (o := .lst (acc ++ [yv])) ((x1.trans x3).trans x4) w4 nF4 nt4 (by rw [hD4]; simp)
                  refine ⟨F4, θ4, s3, acc ++ [yv], ad ++ [yd], xu, wu, nF4, nt4, upd_same, (RA.mono (x3.trans x4).fr (x3.trans x4).th ad ra).append (RA.cons ry RA.nil), by rw [List.length_append]; simp; omega, by omega, ?_⟩
                  have hp3 : Post c E (rF c) (((compL p t e (wipeR ρ vs) (ds.drop (i + 1)) s3).bind fun r s => .ok (yd :: r) s).bind fun r s => .ok (ad ++ r) s) F θ H Q := hp2
                  cases zr : compL p t e (wipeR ρ vs) (ds.drop (i + 1)) s3 with
                  | bad => rw [zr] at hp3; exact hp3
                  | exc k fs s4 => rw [zr] at hp3; exact hp3
                  | ok r s4 =>
                    rw [zr] at hp3
                    have e1 : ad ++ [yd] ++ r = ad ++ (yd :: r) := by simp
                    show Post c E (rF c) (.ok (ad ++ [yd] ++ r) s4) F θ H Q
                    rw [e1]
                    exact hp3
      · have ei : i = ds.length := by omega
        refine .inl ⟨hstop i (by omega), ?_⟩
        have e0 : ds.drop i = [] := List.drop_eq_nil_of_le (by omega)
        rw [e0] at hp1
        have hp2 : Post c E (rF c) (.ok (ad ++ []) s1) F θ H Q := hp1
        rw [List.append_nil] at hp2
        exact hp2 (V.ref Da) F1 θ1 H1 x1 w1 ⟨Da, acc, rfl, hn, nF, nt, hD, ra⟩
end
end MX


set_option Elab.async false
set_option linter.all false
set_option maxRecDepth 100000
namespace MX
open PySem PySem.Spec PyProof.Rows L2

/-! ### statements -/
inductive Fl where
  | next (ρ : List Sl) (s : Sto) | ret (d : D) (s : Sto) | brk (ρ : List Sl) (s : Sto) | cont (ρ : List Sl) (s : Sto) | exc (k : Nat) (fs : List D) (s : Sto) | bad
abbrev Sf := List Sl → Sto → Fl
def PostS (c : Cs) (E : XK) (x : Fl) (H0 : En) (F0 : Hp) (θ0 : List Addr) (Dn : Ends) : Prop := match x with
  | .next ρ s => ∀ σ F θ H, Ext F0 θ0 H0 F θ H → WOk c s F θ H → EnvOk c H0 F θ H σ ρ → Dn.nx σ H
  | .brk ρ s => ∀ σ F θ H, Ext F0 θ0 H0 F θ H → WOk c s F θ H → EnvOk c H0 F θ H σ ρ → Dn.bk σ H
  | .cont ρ s => ∀ σ F θ H, Ext F0 θ0 H0 F θ H → WOk c s F θ H → EnvOk c H0 F θ H σ ρ → Dn.ct σ H
  | .ret d s => ∀ v F θ H, Ext F0 θ0 H0 F θ H → WOk c s F θ H → R c F θ v d → Dn.rt v H
  | .exc k fs s => ∀ F θ H dx, Ext F0 θ0 H0 F θ H → WOk c s F θ H → XRep c F θ dx k fs → E (.ref (c.xc k)) dx H
  | .bad => False
def DenS (c : Cs) (E : XK) (t : TS) (x : Sf) : Prop := ∀ (H0 : En) (F0 : Hp) (θ0 : List Addr) (σ : L2.St) (ρ : List Sl) (s : Sto) (F : Hp) (θ : List Addr) (H : Hp) (Dn : Ends),
  Ext F0 θ0 H0 F θ H → WOk c s F θ H → EnvOk c H0 F θ H σ ρ → PostS c E (x ρ s) H0 F0 θ0 Dn → t Dn σ H
section
variable {c : Cs} {E : XK}
def sNext : Sf := fun ρ s => .next ρ s
theorem dn_next : DenS c E tNext sNext := fun H0 F0 θ0 σ ρ s F θ H Dn x w e h => h σ F θ H x w e
def sSeq (a b : Sf) : Sf := fun ρ s => match a ρ s with
  | .next ρ s => b ρ s
  | o => o
theorem dn_seq {t u : TS} {a b : Sf} (h : DenS c E t a) (k : DenS c E u b) : DenS c E (tSeq t u) (sSeq a b) := by
  intro H0 F0 θ0 σ ρ s F θ H Dn x w e hp
  refine h H0 F0 θ0 σ ρ s F θ H _ x w e ?_
  unfold sSeq at hp
  cases z : a ρ s with
  | next ρ' s' =>
    rw [z] at hp
    exact fun σ' F' θ' H' x' w' e' => k H0 F0 θ0 σ' ρ' s' F' θ' H' Dn x' w' e' hp
  | ret d s' => rw [z] at hp; exact hp
  | brk ρ' s' => rw [z] at hp; exact hp
  | cont ρ' s' => rw [z] at hp; exact hp
  | exc k fs s' => rw [z] at hp; exact hp
  | bad => rw [z] at hp; exact hp.elim
def sBrk : Sf := fun ρ s => .brk ρ s
def sCont : Sf := fun ρ s => .cont ρ s
def sBad : Sf := fun _ _ => .bad
theorem dn_brk : DenS c E tBreak sBrk := fun H0 F0 θ0 σ ρ s F θ H Dn x w e h => h σ F θ H x w e
theorem dn_cont : DenS c E tCont sCont := fun H0 F0 θ0 σ ρ s F θ H Dn x w e h => h σ F θ H x w e
theorem dn_never : DenS c E tNever sBad := fun H0 F0 θ0 σ ρ s F θ H Dn x w e h => h
/-- a statement that begins with an expression -/
def sBind {α : Type} (e : Fn α) (k : List Sl → α → Sto → Fl) : Sf := fun ρ s => match e ρ s with
  | .ok a s => k ρ a s
  | .exc k fs s => .exc k fs s
  | .bad => .bad
theorem dn_bind {α β : Type} {rel : Rel c β α} {ta : TX β} {e : Fn α} {k : List Sl → α → Sto → Fl} {K : Ends → L2.St → β → Hp → Prop} (ha : Den c E rel ta e)
    (hk : ∀ (H0 : En) (F0 : Hp) (θ0 : List Addr) (σ : L2.St) (ρ : List Sl) (s : Sto) (F : Hp) (θ : List Addr) (H Hi : Hp) (v : β) (a : α) (Dn : Ends) (s0 : Sto) (F1 : Hp) (θ1 : List Addr), Ext F0 θ0 H0 F1 θ1 Hi → EnvOk c H0 F1 θ1 Hi σ ρ → Ext F1 θ1 Hi F θ H → WOk c s F θ H → rel.on Hi F θ H v a → PostS c E (k ρ a s) H0 F0 θ0 Dn → K Dn σ v H) :
    DenS c E (fun Dn σ H => ta σ H fun v H1 => K Dn σ v H1) (sBind e k) := by
  intro H0 F0 θ0 σ ρ s F θ H Dn x w he hp
  refine ha H0 σ ρ s F θ H _ he w ?_
  unfold sBind at hp
  cases z : e ρ s with
  | ok a s' =>
    rw [z] at hp
    exact fun v F' θ' H' x' w' r => hk H0 F0 θ0 σ ρ s' F' θ' H' H v a Dn s F θ x he x' w' r hp
  | exc k fs s' =>
    rw [z] at hp
    exact fun F' θ' H' dx x' w' r => hp F' θ' H' dx (x.trans x') w' r
  | bad => rw [z] at hp; exact hp.elim
def sAsg (i : Nat) (e : Fn D) : Sf := sBind e fun ρ d s => .next (ρ.set i (.val d)) s
theorem dn_asg {i : Nat} {t : TE} {e : Fn D} (h : DenE c E t e) : DenS c E (tAsg t (gName i)) (sAsg i e) := by
  refine dn_bind (K := fun Dn σ v H => Dn.nx (σ.set i (some v)) H) h fun H0 F0 θ0 σ ρ s F θ H Hi v d Dn s0 F1 θ1 x0 he x w r hp => ?_
  exact hp _ F θ H (x0.trans x) w ((he.ext x).setVal r)
def sAsgP (p : Pt) (e : Fn D) : Sf := sBind e fun ρ d s => match setP p ρ d with
  | some ρ => .next ρ s
  | none => .bad
theorem dn_asgP {p : Pt} {t : TE} {e : Fn D} (h : DenE c E t e) : DenS c E (tAsg t (gP c.K p)) (sAsgP p e) := by
  refine dn_bind (K := fun Dn σ v H => gP c.K p v σ H Dn.nx) h fun H0 F0 θ0 σ ρ s F θ H Hi v d Dn s0 F1 θ1 x0 he x w r hp => ?_
  cases z : setP p ρ d with
  | none => rw [z] at hp; exact hp.elim
  | some ρ' =>
    rw [z] at hp
    exact gP_ok w p σ ρ ρ' v d _ (he.ext x) r z fun σ' he' _ => hp σ' F θ H (x0.trans x) w he'
theorem own_new {H0 : En} {F1 Hi F H : Hp} {θ1 θ : List Addr} {F0 : Hp} {θ0 : List Addr} {σ : L2.St} {ρ : List Sl} {i : Nat} {v : V} {ds : List D} (x0 : Ext F0 θ0 H0 F1 θ1 Hi) (he : EnvOk c H0 F1 θ1 Hi σ ρ) (x : Ext F1 θ1 Hi F θ H) (r : (rF c).on Hi F θ H v ds) :
    EnvOk c H0 F θ H (σ.set i (some v)) (ρ.set i (.own ds)) := by
  obtain ⟨p, xs, rfl, hn, hF, ht, hH, q⟩ := r
  refine (he.ext x).setOwn ?_ hF ht hH q fun j ys hj e1 e2 => ?_
  · cases z : H0 p with
    | none => rfl
    | some o => exact absurd hn (x0.al p (by rw [z]; simp))
  · obtain ⟨l, zs, e3, _, _, _, e4, _⟩ := he.at_ j _ _ e2 e1
    cases e3
    rw [hn] at e4; cases e4
def sOwn (i : Nat) (e : Fn (List D)) : Sf := sBind e fun ρ ds s => .next (ρ.set i (.own ds)) s
theorem dn_own {i : Nat} {t : TE} {e : Fn (List D)} (h : DenF c E t e) : DenS c E (tAsg t (gName i)) (sOwn i e) := by
  refine dn_bind (K := fun Dn σ v H => Dn.nx (σ.set i (some v)) H) h fun H0 F0 θ0 σ ρ s F θ H Hi v ds Dn s0 F1 θ1 x0 he x w r hp => ?_
  exact hp _ F θ H (x0.trans x) w (own_new x0 he x r)
def sDrop (e : Fn D) : Sf := sBind e fun ρ _ s => .next ρ s
theorem dn_drop {t : TE} {e : Fn D} (h : DenE c E t e) : DenS c E (tDrop t) (sDrop e) := by
  refine dn_bind (K := fun Dn σ v H => Dn.nx σ H) h fun H0 F0 θ0 σ ρ s F θ H Hi v ds Dn s0 F1 θ1 x0 he x w r hp => ?_
  exact hp σ F θ H (x0.trans x) w (he.ext x)
def sRet (e : Fn D) : Sf := sBind e fun _ d s => .ret d s
theorem dn_ret {t : TE} {e : Fn D} (h : DenE c E t e) : DenS c E (tRet t) (sRet e) := by
  refine dn_bind (K := fun Dn σ v H => Dn.rt v H) h fun H0 F0 θ0 σ ρ s F θ H Hi v ds Dn s0 F1 θ1 x0 he x w r hp => ?_
  exact hp v F θ H (x0.trans x) w r
def sRetN : Sf := fun _ s => .ret .non s
theorem dn_retN : DenS c E tRetN sRetN := fun H0 F0 θ0 σ ρ s F θ H Dn x w e h => h .non F θ H x w r_non
/-- return xs, xs one's own list: it is frozen -/
def sRetOwn (i : Nat) : Sf := fun ρ s => match ρ[i]? with
  | some (.own ds) => .ret (.lst ds) s
  | _ => .bad
theorem dn_retOwn {i : Nat} : DenS c E (tRet (tVar i)) (sRetOwn i) := by
  intro H0 F0 θ0 σ ρ s F θ H Dn x w he hp
  unfold sRetOwn at hp
  cases e : ρ[i]? with
  | none => simp only [e] at hp; exact hp.elim
  | some y =>
    cases y with
    | none => simp only [e] at hp; exact hp.elim
    | val _ => simp only [e] at hp; exact hp.elim
    | oobj _ _ => simp only [e] at hp; exact hp.elim
    | own ds =>
      simp only [e] at hp
      obtain ⟨o, h1, l, xs, rfl, h0, hF, ht, hH, r⟩ := he.get e
      refine ⟨.ref l, h1, ?_⟩
      exact hp (.ref l) (upd F l (.lst xs)) θ H (x.freeze h0 hF) (w.freeze hH hF ht) (r_lst (H := H) hF r)
def sIf (t : Fn Bool) (a b : Sf) : Sf := sBind t fun ρ k s => if k = true then a ρ s else b ρ s
theorem dn_if {tt : TT} {t u : TS} {e : Fn Bool} {a b : Sf} (h : DenT c E tt e) (ha : DenS c E t a) (hb : DenS c E u b) : DenS c E (tIfS tt t u) (sIf e a b) := by
  refine dn_bind (K := fun Dn σ v H => if v = true then t Dn σ H else u Dn σ H) h fun H0 F0 θ0 σ ρ s F θ H Hi v k Dn s0 F1 θ1 x0 he x w r hp => ?_
  have r : v = k := r
  subst r
  cases v with
  | true => exact ha H0 F0 θ0 σ ρ s F θ H Dn (x0.trans x) w (he.ext x) hp
  | false => exact hb H0 F0 θ0 σ ρ s F θ H Dn (x0.trans x) w (he.ext x) hp
/-- a list of one's own changes -/
theorem own_upd {H0 : En} {F0 F H : Hp} {θ0 θ : List Addr} {s : Sto} {σ : L2.St} {ρ : List Sl} {i : Nat} {l : Addr} {ds es : List D} {ys : List V} (x : Ext F0 θ0 H0 F θ H) (w : WOk c s F θ H) (he : EnvOk c H0 F θ H σ ρ) (hρ : ρ[i]? = some (.own ds)) (hσ : σ[i]? = some (some (.ref l))) (r : RA c F θ ys es) :
    Ext F0 θ0 H0 F θ (upd H l (.lst ys)) ∧ WOk c s F θ (upd H l (.lst ys)) ∧ EnvOk c H0 F θ (upd H l (.lst ys)) σ (ρ.set i (.own es)) := by
  obtain ⟨l', xs, e1, h0, hF, ht, hH, q⟩ := he.at_ i _ _ hσ hρ
  cases e1
  refine ⟨⟨x.fr, x.th, fun a u h n => ?_, x.nc, x.nf, fun a n => ?_⟩, ⟨w.sub.updR hF, fun a m => ?_, w.nd, w.len, fun i a es h1 h2 => ?_⟩, ⟨?_, fun j o y h1 h2 => ?_, fun j k m zs us n h1 h2 h3 h4 => ?_⟩⟩
  · rw [upd_ne (ne_of_none h h0)]; exact x.kp a u h n
  · by_cases z : a = l
    · subst z; rw [upd_same]; simp
    · rw [upd_ne z]; exact x.al a n
  · have z : a ≠ l := fun z => ht (z ▸ m)
    rw [upd_ne z]; exact w.fc a m
  · obtain ⟨zs, h3, h4⟩ := w.cel i a es h1 h2
    have z : a ≠ l := fun z => ht (z ▸ List.mem_of_getElem? h1)
    exact ⟨zs, by rw [upd_ne z]; exact h3, h4⟩
  · rw [List.length_set]; exact he.len
  · by_cases z : i = j
    · subst z
      rw [hσ] at h1; cases h1
      rw [List.getElem?_set_self (get_lt hρ)] at h2
      cases h2
      exact ⟨l, ys, rfl, h0, hF, ht, upd_same, r⟩
    · rw [List.getElem?_set_ne z] at h2
      have q2 := he.at_ j o y h1 h2
      cases y with
      | none => trivial
      | val d => exact q2
      | own fs =>
        obtain ⟨l2, zs, e2, g0, gF, gt, gH, gr⟩ := q2
        subst e2
        have nl : l2 ≠ l := fun z2 => by
          subst z2
          exact he.apart i j l2 ds fs z hσ hρ h2 h1
        exact ⟨l2, zs, rfl, g0, gF, gt, by rw [upd_ne nl]; exact gH, gr⟩
      | oobj k fs =>
        obtain ⟨l2, dx, zs, e2, gm, g0, gF, gt, gH, gn, gr⟩ := q2
        have nl : l2 ≠ l := ne_of gH hH (by intro z; cases z)
        exact ⟨l2, dx, zs, e2, gm, g0, gF, gt, by rw [upd_ne nl]; exact gH, gn, gr⟩
  · have up : ∀ (j : Nat) (zs : List D), (ρ.set i (.own es))[j]? = some (.own zs) → ∃ zs', ρ[j]? = some (.own zs') := by
      intro j zs h
      by_cases z : i = j
      · subst z; exact ⟨ds, hρ⟩
      · rw [List.getElem?_set_ne z] at h; exact ⟨zs, h⟩
    obtain ⟨z1, g1⟩ := up j zs h2
    obtain ⟨z2, g2⟩ := up k us h3
    exact he.apart j k m z1 z2 n h1 g1 g2 h4
/-- xs.append(e), xs one's own -/
def sApp (i : Nat) (e : Fn D) : Sf := fun ρ s => match ρ[i]? with
  | some (.own ds) => match e ρ s with
    | .ok d s => if small ds.length then .next (ρ.set i (.own (ds ++ [d]))) s else .bad
    | .exc k fs s => .exc k fs s
    | .bad => .bad
  | _ => .bad
theorem dn_app {i : Nat} {t : TE} {e : Fn D} (h : DenE c E t e) : DenS c E (tDrop (tBM c.K "list" rAppend (tVar i) (tCons t tNil))) (sApp i e) := by
  intro H0 F0 θ0 σ ρ s F θ H Dn x w he hp
  unfold sApp at hp
  cases e2 : ρ[i]? with
  | none => simp only [e2] at hp; exact hp.elim
  | some y =>
    cases y with
    | none => simp only [e2] at hp; exact hp.elim
    | val _ => simp only [e2] at hp; exact hp.elim
    | oobj _ _ => simp only [e2] at hp; exact hp.elim
    | own ds =>
      simp only [e2] at hp
      obtain ⟨o, h1, l, xs, rfl, h0, hF, ht, hH, r⟩ := he.get e2
      refine ⟨.ref l, h1, .inl ⟨rfl, xs, SqL.of hH⟩, ?_⟩
      refine h H0 σ ρ s F θ H _ he w ?_
      cases z : e ρ s with
      | bad => rw [z] at hp; exact hp.elim
      | exc k fs s' => rw [z] at hp; exact fun F' θ' H' dx x' w' r => hp F' θ' H' dx (x.trans x') w' r
      | ok d s' =>
        rw [z] at hp
        dsimp only at hp
        split at hp
        · rename_i hz
          intro v F' θ' H' x' w' rv
          have hH' := x'.kp l _ hH ht
          refine ⟨l, xs, v, rfl, rfl, hH', by rw [r.length]; exact small_lt hz, ?_⟩
          obtain ⟨a1, a2, a3⟩ := own_upd (x.trans x') w' (he.ext x') e2 h1 ((RA.mono x'.fr x'.th ds r).append (RA.cons rv RA.nil))
          exact hp _ F' θ' _ a1 a2 a3
        · exact hp.elim
/-- xs.append(e), xs a cell -/
def sAppC (ea e : Fn D) : Sf := sBind ea fun ρ a s => match a with
  | .cell k => match e ρ s with
    | .ok d s => match s[k]? with
      | some ds => if small ds.length then .next ρ (s.set k (ds ++ [d])) else .bad
      | none => .bad
    | .exc k fs s => .exc k fs s
    | .bad => .bad
  | _ => .bad
theorem th_get {s : Sto} {F : Hp} {θ : List Addr} {H : Hp} (w : WOk c s F θ H) {k : Nat} {a : Addr} (h : θ[k]? = some a) : ∃ ds, s[k]? = some ds := by
  have h1 := get_lt h
  rw [w.len] at h1
  exact ⟨s[k], List.getElem?_eq_getElem h1⟩
theorem dn_appC {ta t : TE} {ea e : Fn D} (ha : DenE c E ta ea) (h : DenE c E t e) : DenS c E (tDrop (tBM c.K "list" rAppend ta (tCons t tNil))) (sAppC ea e) := by
  refine dn_bind (K := fun Dn σ x H => tyV c.K "list" x H ∧ tCons t tNil σ H fun xs H2 => rAppend x xs H2 fun _ H3 => Dn.nx σ H3) ha fun H0 F0 θ0 σ ρ s F θ H Hi v d Dn s0 F1 θ1 x0 he x w r hp => ?_
  cases d with
  | cell k =>
    obtain ⟨a, rfl, hk⟩ := r_cell_inv (c := c) (F := F) (θ := θ) r
    obtain ⟨ds0, hs0⟩ := th_get w hk
    obtain ⟨xs0, hx0, _⟩ := w.cel k a ds0 hk hs0
    refine ⟨.inl ⟨rfl, xs0, SqL.of hx0⟩, ?_⟩
    refine h H0 σ ρ s F θ H _ (he.ext x) w ?_
    dsimp only at hp
    cases z : e ρ s with
    | bad => rw [z] at hp; exact hp.elim
    | exc k fs s' => rw [z] at hp; exact fun F' θ' H' dx x' w' r => hp F' θ' H' dx ((x0.trans x).trans x') w' r
    | ok d s' =>
      rw [z] at hp
      intro v F' θ' H' x' w' rv
      have hk' := x'.th.get hk
      obtain ⟨ds, hs⟩ := th_get w' hk'
      obtain ⟨xs, hx, rx⟩ := w'.cel k a ds hk' hs
      dsimp only at hp
      rw [hs] at hp
      dsimp only at hp
      split at hp
      · rename_i hz
        refine ⟨a, xs, v, rfl, rfl, hx, by rw [rx.length]; exact small_lt hz, ?_⟩
        have hm : a ∈ θ' := List.mem_of_getElem? hk'
        have xc : Ext F' θ' H' F' θ' (upd H' a (.lst (xs ++ [v]))) := Ext.cellSet hm
        exact hp σ F' θ' _ (((x0.trans x).trans x').trans xc) (w'.cellSet hk' (rx.append (RA.cons rv RA.nil))) (((he.ext x).ext x').ext xc)
      · exact hp.elim
  | _ => exact hp.elim
/-- xs.pop(e), xs a cell -/
def dPopAt (ea ei : Fn D) : Fn D := fun ρ s => (ea ρ s).bind fun a s => match a with
  | .cell k => (ei ρ s).bind fun j s => match j with
    | .int j => match s[k]? with
      | some ds => if inB j then match seqIndex? j ds.length with
        | some n => match ds[n]? with
          | some d => .ok d (s.set k (ds.eraseIdx n))
          | none => .bad
        | none => .bad
        else .bad
      | none => .bad
    | _ => .bad
  | _ => .bad
theorem RA.erase {F : Hp} {θ : List Addr} : ∀ (n : Nat) {ds : List D} {vs : List V}, RA c F θ vs ds → RA c F θ (vs.eraseIdx n) (ds.eraseIdx n)
  | _, [], _, h => by rw [h.nil_inv]; simp; exact RA.nil
  | 0, d :: ds, _, h => by
    obtain ⟨v, r, rfl, q, t⟩ := h.cons_inv
    simpa using t
  | n + 1, d :: ds, _, h => by
    obtain ⟨v, r, rfl, q, t⟩ := h.cons_inv
    simpa using RA.cons q (RA.erase n t)
theorem den_popAt {ta ti : TE} {ea ei : Fn D} (ha : DenE c E ta ea) (hi : DenE c E ti ei) : DenE c E (tBM c.K "list" rPopAt ta (tCons ti tNil)) (dPopAt ea ei) := by
  refine den_bind (r2 := rV c) (K := fun σ x H Q => tyV c.K "list" x H ∧ tCons ti tNil σ H fun xs H2 => rPopAt x xs H2 Q) ha fun H0 σ ρ s F θ H Hi x a Q he hw q hp => ?_
  cases a with
  | cell k =>
    obtain ⟨p, rfl, hk⟩ := r_cell_inv (c := c) (F := F) (θ := θ) q
    obtain ⟨ds0, hs0⟩ := th_get hw hk
    obtain ⟨xs0, hx0, _⟩ := hw.cel k p ds0 hk hs0
    refine ⟨.inl ⟨rfl, xs0, SqL.of hx0⟩, ?_⟩
    refine hi H0 σ ρ s F θ H _ he hw ?_
    dsimp only at hp
    cases z : ei ρ s with
    | bad => rw [z] at hp; exact hp.elim
    | exc k fs s' => rw [z] at hp; exact hp
    | ok d s' =>
      rw [z] at hp
      intro v F' θ' H' x' w' rv
      cases d with
      | int j =>
        have hk' := x'.th.get hk
        obtain ⟨ds, hs⟩ := th_get w' hk'
        obtain ⟨xs, hx, rx⟩ := w'.cel k p ds hk' hs
        dsimp only [Res.bind] at hp
        rw [hs] at hp
        dsimp only at hp
        split at hp
        · rename_i hb
          have hb := of_decide_eq_true hb
          split at hp
          · rename_i n hn
            split at hp
            · rename_i dd hd
              obtain ⟨y, hy, ry⟩ := rx.get' hd
              refine ⟨p, xs, j, n, y, rfl, by rw [r_int_inv (c := c) (F := F') (θ := θ') rv], hx, by omega, by omega, by rw [rx.length]; exact hn, hy, ?_⟩
              have hm : p ∈ θ' := List.mem_of_getElem? hk'
              have xc : Ext F' θ' H' F' θ' (upd H' p (.lst (xs.eraseIdx n))) := Ext.cellSet hm
              exact hp y F' θ' _ (x'.trans xc) (w'.cellSet hk' (RA.erase n rx)) ry
            · exact hp.elim
          · exact hp.elim
        · exact hp.elim
      | _ => exact hp.elim
  | _ => exact hp.elim

/-! ### two at once -/
/-- a, b = x, y -/
def sPar (i j : Nat) (ea eb : Fn D) : Sf := sBind ea fun ρ a s => match eb ρ s with
  | .ok b s => .next ((ρ.set i (.val a)).set j (.val b)) s
  | .exc k fs s => .exc k fs s
  | .bad => .bad
theorem dn_par {i j : Nat} {ta tb : TE} {ea eb : Fn D} (ha : DenE c E ta ea) (hb : DenE c E tb eb) : DenS c E (tPar i j (tCons ta (tCons tb tNil))) (sPar i j ea eb) := by
  refine dn_bind (K := fun Dn σ x H => tb σ H fun y H2 => ∃ v w, [x, y] = [v, w] ∧ Dn.nx ((σ.set i (some v)).set j (some w)) H2) ha fun H0 F0 θ0 σ ρ s F θ H Hi v a Dn s0 F1 θ1 x0 he x w r hp => ?_
  refine hb H0 σ ρ s F θ H _ (he.ext x) w ?_
  cases z : eb ρ s with
  | bad => rw [z] at hp; exact hp.elim
  | exc k fs s' => rw [z] at hp; exact fun F' θ' H' dx x' w' r => hp F' θ' H' dx ((x0.trans x).trans x') w' r
  | ok b s' =>
    rw [z] at hp
    intro u F' θ' H' x' w' ru
    exact ⟨v, u, rfl, hp _ F' θ' H' ((x0.trans x).trans x') w' ((((he.ext x).ext x').setVal (R.mono x'.fr x'.th a r)).setVal ru)⟩
/-- a, xs = x, [..] -/
def sParO (i j : Nat) (ea : Fn D) (eb : Fn (List D)) : Sf := sBind ea fun ρ a s => match eb ρ s with
  | .ok b s => .next ((ρ.set i (.val a)).set j (.own b)) s
  | .exc k fs s => .exc k fs s
  | .bad => .bad
theorem dn_parO {i j : Nat} {ta tb : TE} {ea : Fn D} {eb : Fn (List D)} (ha : DenE c E ta ea) (hb : DenF c E tb eb) : DenS c E (tPar i j (tCons ta (tCons tb tNil))) (sParO i j ea eb) := by
  refine dn_bind (K := fun Dn σ x H => tb σ H fun y H2 => ∃ v w, [x, y] = [v, w] ∧ Dn.nx ((σ.set i (some v)).set j (some w)) H2) ha fun H0 F0 θ0 σ ρ s F θ H Hi v a Dn s0 F1 θ1 x0 he x w r hp => ?_
  refine hb H0 σ ρ s F θ H _ (he.ext x) w ?_
  cases z : eb ρ s with
  | bad => rw [z] at hp; exact hp.elim
  | exc k fs s' => rw [z] at hp; exact fun F' θ' H' dx x' w' r => hp F' θ' H' dx ((x0.trans x).trans x') w' r
  | ok b s' =>
    rw [z] at hp
    intro u F' θ' H' x' w' ru
    refine ⟨v, u, rfl, hp _ F' θ' H' ((x0.trans x).trans x') w' ?_⟩
    have he2 : EnvOk c H0 F θ H (σ.set i (some v)) (ρ.set i (.val a)) := (he.ext x).setVal r
    exact own_new (x0.trans x) he2 x' ru

/-! ### for -/
theorem Ext.rebase {F0 F H0 H : Hp} {θ0 θ : List Addr} (x : Ext F0 θ0 H0 F θ H) : Ext F θ H0 F θ H where
  fr := Le.refl F
  th := Pre.refl θ
  kp := fun a o h n => x.kp a o h fun m => n (x.th.mem m)
  nc := fun a m n => absurd m n
  nf := fun a h _ => h
  al := x.al
theorem Ext.comp {F0 F H0 H F' H' : Hp} {θ0 θ θ' : List Addr} (x : Ext F0 θ0 H0 F θ H) (y : Ext F θ H0 F' θ' H') : Ext F0 θ0 H0 F' θ' H' where
  fr := x.fr.trans y.fr
  th := x.th.trans y.th
  kp := fun a o h n => y.kp a o h fun m => by
    have z := x.nc a m n
    rw [h] at z; cases z
  nc := fun a m n => by
    by_cases q : a ∈ θ
    · exact x.nc a q n
    · exact y.nc a m q
  nf := fun a h n => y.nf a (x.nf a h n) n
  al := y.al
def forL (p : Pt) (b : Sf) : List D → List Sl → Sto → Fl
  | [], ρ, s => .next ρ s
  | d :: ds, ρ, s => match setP p ρ d with
    | some ρ1 => match b ρ1 s with
      | .next ρ2 s2 => forL p b ds ρ2 s2
      | .cont ρ2 s2 => forL p b ds ρ2 s2
      | .brk ρ2 s2 => .next ρ2 s2
      | o => o
    | none => .bad
def sFor (w : Fn (List D)) (p : Pt) (b : Sf) : Sf := sBind w fun ρ ds s => forL p b ds ρ s
theorem dn_for {wi : TI} {w : Fn (List D)} {p : Pt} {tb : TS} {b : Sf} (hs : SrcS c E wi w) (hb : DenS c E tb b) : DenS c E (tFor wi (gP c.K p) tb) (sFor w p b) := by
  refine dn_bind (K := fun Dn σ J H1 => ∃ W : Nat → Nat → L2.St → Hp → Prop, (∃ m, W 0 m σ H1) ∧ ∀ i m σ H, W i m σ H →
    (J.stop i H ∧ Dn.nx σ H) ∨ (J.go i H ∧ ∃ N : L2.St → Hp → Prop, (∀ σ' H', N σ' H' → ∃ m', m' < m ∧ W (i + 1) m' σ' H') ∧ ∀ x H', J.yld i H x H' → gP c.K p x σ H' fun σ2 H2 => tb { Dn with nx := N, ct := N, bk := Dn.nx } σ2 H2)) hs fun H0 F0 θ0 σ ρ s F θ H Hi J ds Dn s0 F1 θ1 x0 he0 x w hit hp => ?_
  have hit : IterS c J ds F θ := hit
  let Inv : Nat → L2.St → Hp → Prop := fun i σ1 H1 => ∃ (F2 : Hp) (θ2 : List Addr) (s1 : Sto) (ρ1 : List Sl), Ext F0 θ0 H0 F2 θ2 H1 ∧ Le F F2 ∧ Pre θ θ2 ∧ WOk c s1 F2 θ2 H1 ∧ EnvOk c H0 F2 θ2 H1 σ1 ρ1 ∧ i ≤ ds.length ∧ PostS c E (forL p b (ds.drop i) ρ1 s1) H0 F0 θ0 Dn
  refine ⟨fun i m σ1 H1 => m = ds.length - i ∧ Inv i σ1 H1, ⟨ds.length, by simp, ⟨F, θ, s, ρ, x0.trans x, Le.refl F, Pre.refl θ, w, he0.ext x, Nat.zero_le _, by rw [List.drop_zero]; exact hp⟩⟩, ?_⟩
  rintro i m σ1 H1 ⟨rfl, F2, θ2, s1, ρ1, x1, l1, p1, w1, he1, hi, hp1⟩
  obtain ⟨hgo, hstop⟩ := hit F2 θ2 H1 l1 p1 w1.sub
  by_cases hlt : i < ds.length
  · obtain ⟨d, hd⟩ : ∃ d, ds[i]? = some d := ⟨ds[i], List.getElem?_eq_getElem hlt⟩
    obtain ⟨g1, g2⟩ := hgo i d hd
    refine .inr ⟨g1, Inv (i + 1), fun σ' H' h' => ⟨ds.length - (i + 1), by omega, rfl, h'⟩, fun y H' hy => ?_⟩
    obtain ⟨rfl, ry⟩ := g2 y H' hy
    have hdr : ds.drop i = d :: ds.drop (i + 1) := by
      rw [List.drop_eq_getElem_cons hlt]
      rw [List.getElem?_eq_getElem hlt] at hd
      rw [Option.some.inj hd]
    rw [hdr] at hp1
    unfold forL at hp1
    cases z : setP p ρ1 d with
    | none => rw [z] at hp1; exact hp1.elim
    | some ρ2 =>
      rw [z] at hp1
      dsimp only at hp1
      refine gP_ok w1 p σ1 ρ1 ρ2 y d _ he1 ry z fun σ2 he2 _ => ?_
      refine hb H0 F2 θ2 σ2 ρ2 s1 F2 θ2 H' _ x1.rebase w1 he2 ?_
      cases zb : b ρ2 s1 with
      | next ρ3 s3 =>
        rw [zb] at hp1
        exact fun σ3 F3 θ3 H3 x3 w3 he3 => ⟨F3, θ3, s3, ρ3, x1.comp x3, l1.trans x3.fr, p1.trans x3.th, w3, he3, hlt, hp1⟩
      | cont ρ3 s3 =>
        rw [zb] at hp1
        exact fun σ3 F3 θ3 H3 x3 w3 he3 => ⟨F3, θ3, s3, ρ3, x1.comp x3, l1.trans x3.fr, p1.trans x3.th, w3, he3, hlt, hp1⟩
      | brk ρ3 s3 =>
        rw [zb] at hp1
        exact fun σ3 F3 θ3 H3 x3 w3 he3 => hp1 σ3 F3 θ3 H3 (x1.comp x3) w3 he3
      | ret d s3 =>
        rw [zb] at hp1
        exact fun v F3 θ3 H3 x3 w3 r3 => hp1 v F3 θ3 H3 (x1.comp x3) w3 r3
      | exc k fs s3 =>
        rw [zb] at hp1
        exact fun F3 θ3 H3 dx x3 w3 r3 => hp1 F3 θ3 H3 dx (x1.comp x3) w3 r3
      | bad => rw [zb] at hp1; exact hp1.elim
  · refine .inl ⟨hstop i (by omega), ?_⟩
    have e0 : ds.drop i = [] := List.drop_eq_nil_of_le (by omega)
    rw [e0] at hp1
    exact hp1 σ1 F2 θ2 H1 x1 w1 he1

/-! ### a def -/
def startR (n : Nat) (ds : List D) : List Sl := ds.map Sl.val ++ List.replicate (n - ds.length) Sl.none
def fnD (n : Nat) (x : Sf) : Mf := fun ds s => match x (startR n ds) s with
  | .ret d s => .ok d s
  | .next _ s => .ok .non s
  | .exc k fs s => .exc k fs s
  | _ => .bad
theorem start_ok {N : List Str} {F : Hp} {θ : List Addr} {H : Hp} {vs : List V} {ds : List D} (r : RA c F θ vs ds) : EnvOk c ⟨H, 0⟩ F θ H (L2.start N vs) (startR N.length ds) := by
  have hl := r.length
  refine ⟨?_, fun i o x h1 h2 => ?_, fun i j l xs ys n h1 h2 h3 => ?_⟩
  · unfold L2.start startR; simp [hl]
  · unfold L2.start at h1
    unfold startR at h2
    by_cases hi : i < vs.length
    · rw [List.getElem?_append_left (by simpa using hi), List.getElem?_map] at h1
      rw [List.getElem?_append_left (by simpa [← hl] using hi), List.getElem?_map] at h2
      cases e1 : vs[i]? with
      | none => rw [e1] at h1; cases h1
      | some v =>
        cases e2 : ds[i]? with
        | none => rw [e2] at h2; cases h2
        | some d =>
          rw [e1] at h1; rw [e2] at h2
          cases h1; cases h2
          exact ⟨v, rfl, r.get e1 e2⟩
    · rw [List.getElem?_append_right (by simp [← hl]; omega), List.getElem?_replicate] at h2
      split at h2
      · cases h2; trivial
      · cases h2
  · unfold startR at h2
    by_cases hi : i < ds.length
    · rw [List.getElem?_append_left (by simpa using hi), List.getElem?_map] at h2
      cases e2 : ds[i]? with
      | none => rw [e2] at h2; cases h2
      | some d => rw [e2] at h2; cases h2
    · rw [List.getElem?_append_right (by simp; omega), List.getElem?_replicate] at h2
      split at h2 <;> cases h2
/-- the body's reading, from the body's function -/
theorem body_ok {N : List Str} {n : Nat} {t : TS} {x : Sf} {vs : List V} {H : Hp} {Q : VK} {E : XK} (ht : DenS c E t x) (h : spF c (fnD N.length x) n vs H Q E) : t { nx := fun _ H' => Q .non H', rt := Q } (L2.start N vs) H := by
  obtain ⟨_, F, θ, s, ds, w, r, hp⟩ := h
  refine ht ⟨H, 0⟩ F θ (L2.start N vs) (startR N.length ds) s F θ H _ (Ext.refl _ _ _) w (start_ok r) ?_
  unfold fnD at hp
  cases z : x (startR N.length ds) s with
  | next ρ s' => rw [z] at hp; exact fun σ' F' θ' H' x' w' _ => hp .non F' θ' H' x' w' (r_non (c := c) (F := F') (θ := θ'))
  | ret d s' => rw [z] at hp; exact fun v F' θ' H' x' w' r' => hp v F' θ' H' x' w' r'
  | exc k fs s' => rw [z] at hp; exact fun F' θ' H' dx x' w' r' => hp F' θ' H' dx x' w' r'
  | brk ρ s' => rw [z] at hp; exact hp.elim
  | cont ρ s' => rw [z] at hp; exact hp.elim
  | bad => rw [z] at hp; exact hp.elim
end
end MX


set_option Elab.async false
set_option linter.all false
set_option maxRecDepth 100000
namespace MX
open PySem PySem.W PySem.Calls PyProof.Rows

section
variable {prog : Program} {w : World} {A : Around} {E : Value → Shared → Prop} {s : Shared} {β : Type} {Rr : Value → β → Prop} {enc : β → PyData} {vs : List Value} {bs : List β}
/-- sorted(xs), xs a list or a tuple -/
theorem sorted_seq {l : Addr} {Q : Value → Shared → Prop} {T : String} {o : Obj} {items : Array Value} {n : Nat} (hT : T = "list" ∨ T = "tuple") (ho : s.heap.get? l = some o) (hc : o.cls = .type T) (hd : o.data = .seq items n)
    (hv : items.toList = vs) (e : EachIs Rr vs bs) (er : EachIs (fun v b => ∃ as, Reads s.heap v (enc b) as) vs bs) (hal : AllAlike (bs.map enc)) (hk : Sortable (bs.map enc)) (hL : bs.length ≤ sizeLine)
    (hu : ∀ b, b ∈ bs → A.units + 2 + (enc b).depth < cLine)
    (h : ∀ (h1 h' : Heap) (c : Nat) (out : List Value), (∀ b o, s.heap.get? b = some o → h1.get? b = some o) → (∀ b o, h1.get? b = some o → h'.get? b = some o) → h'.get? h1.objs.size = some (seqObj "list" out.toArray c) → out.length = bs.length → EachIs Rr out (bs.mergeSort (dataLe false enc)) → Q (.ref h1.objs.size) { s with heap := h' }) :
    wpAny (model prog w) A (call (.builtin "sorted") [.ref l] []) Q E s := by
  have hL' : items.size ≤ sizeLine := by
    have q : items.toList.length = bs.length := by rw [hv]; exact e.length
    have q2 : items.size = bs.length := by simpa using q
    rw [q2]; exact hL
  refine call_function_entry_kw kind_sorted plain_sorted entry_sorted (args_sorted1 _) ?_
  unfold Builtin.«sorted»
  refine wpAny_bind (m := checkCount "sorted" 1 1 _) (wpAny_pure ?_)
  refine wpAny_bind (wpAny_collect_seq l hT ho hc hd (fun h1 k1 => ?_) hL')
  rw [hv]
  have hLv : vs.length ≤ sizeLine := by rw [e.length]; exact hL
  refine wpAny_bind (wpAny_newList ?_ hLv)
  have hat : (h1.push (seqObj "list" vs.toArray 0)).get? h1.objs.size = some (seqObj "list" vs.toArray 0) := Heap.get?_push_size _ rfl
  refine wpAny_bind (wpAny_holding (wpAny_call_entry_kw slot_list_sort ⟨_, hat, rfl⟩ entry_list_sort ?body (args_list_sort _)))
  case body =>
    have keep1 : ∀ b o, s.heap.get? b = some o → (h1.push (seqObj "list" vs.toArray 0)).get? b = some o := fun b o q => Heap.get?_push_of_some _ (k1 b o q)
    have hne : ∀ b o, s.heap.get? b = some o → b ≠ h1.objs.size := fun b o q => Nat.ne_of_lt (Heap.lt_size (k1 b o q))
    have keep2 : ∀ b o, s.heap.get? b = some o → (sortingHeap (h1.push (seqObj "list" vs.toArray 0)) h1.objs.size vs).get? b = some o := fun b o q => sortingHeap_old (hne b o q) (keep1 b o q)
    have er' : EachIs (fun v b => ∃ as, Reads (sortingHeap (h1.push (seqObj "list" vs.toArray 0)) h1.objs.size vs) v (enc b) as) vs bs := er.mono fun _ _ ⟨as, r⟩ => ⟨as, PyProof.Rows.Reads.keeps (fun b o q => keep2 b o q) r⟩
    have S : SortsAt prog w A.in1.in1 { s with heap := sortingHeap (h1.push (seqObj "list" vs.toArray 0)) h1.objs.size vs } (dataKind (sortingHeap (h1.push (seqObj "list" vs.toArray 0)) h1.objs.size vs) (bs.map enc)) vs :=
      SortsAt.data (s := { s with heap := sortingHeap (h1.push (seqObj "list" vs.toArray 0)) h1.objs.size vs }) (each_map (R := fun v d => ∃ as, Reads (sortingHeap (h1.push (seqObj "list" vs.toArray 0)) h1.objs.size vs) v d as) enc er') hal hk (bound_map (A := A.in1.in1) hu)
    show wpAny (model prog w) A.in1.in1 (Builtin.«list.sort» ⟨[.ref h1.objs.size], []⟩) _ _ _
    have hbs : h1.objs.size < (h1.push (seqObj "list" vs.toArray 0)).objs.size := by rw [size_push']; exact Nat.lt_succ_self _
    refine wpAny_mono (list_sort_vals (s := { s with heap := h1.push (seqObj "list" vs.toArray 0) }) (P := fun f s' => f = .done (.ret .none) ∧ Q (.ref h1.objs.size) s') hat S hLv ⟨rfl, ?_⟩) (fun f s' hf => ?_) fun _ _ e => e
    · obtain ⟨c, hc'⟩ := sortedHeap_at (n := 0) (h := h1.push (seqObj "list" vs.toArray 0)) (a := h1.objs.size) (vs := vs) (out := (sortVals (dataKind (sortingHeap (h1.push (seqObj "list" vs.toArray 0)) h1.objs.size vs) (bs.map enc)) false vs vs).toArray) hat
      refine h h1 _ c _ k1 (fun b o q => ?_) hc' (by rw [sortVals_length false rfl]; exact e.length) (sortVals_data false e er' hal)
      have hb : b < h1.objs.size := Heap.lt_size q
      exact (sortedHeap_old (Nat.ne_of_lt hb) (by rw [size_push']; exact Nat.lt_succ_of_lt hb)).trans (Heap.get?_push_of_some _ q)
    · obtain ⟨rfl, hq⟩ := hf
      exact ⟨_, rfl, wpAny_pure ⟨_, rfl, hq⟩⟩
end
end MX
namespace MX
open PySem PySem.Spec PyProof.Rows L2
def rSortD (K : PySem.W.Frag) : List V → Hp → VK → Prop := fun vs H Q => ∃ a xs ps, vs = [V.ref a] ∧ (SqL K H a xs ∨ SqT K H a xs) ∧ DpAll K H xs ps ∧ PySem.W.AllAlike ps ∧ PySem.W.Sortable ps ∧ (∀ p, p ∈ ps → p.depth ≤ 60) ∧
  ∀ q, H q = none → Q (.ref q) (upd H q (.lst (((xs.zip ps).mergeSort (PySem.W.dataLe false (fun b => b.2))).map (fun b => b.1))))
theorem dpAll_len {K : PySem.W.Frag} {H : Hp} : ∀ {ps : List PyData} {xs : List V}, DpAll K H xs ps → xs.length = ps.length
  | [], _, h => by cases h; rfl
  | _ :: _, _, h => by cases h with | cons _ t => simp [dpAll_len t]
theorem zip_snd {α β : Type} : ∀ {xs : List α} {ps : List β}, xs.length = ps.length → (xs.zip ps).map (fun b => b.2) = ps
  | [], [], _ => rfl
  | x :: xs, p :: ps, h => by simp at h; simp [zip_snd h]
theorem zip_fst {α β : Type} : ∀ {xs : List α} {ps : List β}, xs.length = ps.length → (xs.zip ps).map (fun b => b.1) = xs
  | [], [], _ => rfl
  | x :: xs, p :: ps, h => by simp at h; simp [zip_fst h]
theorem each_zip {X : Cx} {pins : List (Addr × Obj)} {σ : L2.St} {H : Hp} {s : Shared} (I : L2.Inv X pins σ H s) : ∀ {ps : List PyData} {xs : List V} {us : List Value}, DpAll X.K H xs ps → Vals xs us →
    PySem.W.EachIs (fun u (b : V × PyData) => RelV b.1 u) us (xs.zip ps) ∧ PySem.W.EachIs (fun u (b : V × PyData) => ∃ as, Reads s.heap u b.2 as) us (xs.zip ps)
  | [], _, _, h, r => by cases h; cases r; exact ⟨.nil, .nil⟩
  | p :: ps, _, _, h, r => by
    cases h with
    | cons h1 h2 =>
      cases r with
      | cons r1 r2 =>
        obtain ⟨a, b⟩ := each_zip I h2 r2
        exact ⟨.cons r1 a, .cons (Dp.reads I p _ _ h1 r1) b⟩
theorem vals_each : ∀ {us : List Value} {bs : List (V × PyData)}, PySem.W.EachIs (fun u (b : V × PyData) => RelV b.1 u) us bs → Vals (bs.map fun b => b.1) us
  | _, _, .nil => .nil
  | _, _, .cons h t => .cons h (vals_each t)
theorem cr_sortedD {X : Cx} (hu : X.A.units + 64 < cLine) : CallR X (.builtin "sorted") (rSortD X.K) := by
  intro pins s σ H vs us Q I r h
  obtain ⟨a, xs, ps, rfl, hs, hd, hal, hk, hdep, q⟩ := h
  obtain ⟨u, rfl, ru⟩ := vals1 r
  cases ru
  have hl := dpAll_len hd
  have go : ∀ (T : String) (o : Obj) (its : List Value) (n : Nat), (T = "list" ∨ T = "tuple") → s.heap.get? a = some o → o.cls = .type T → o.data = .seq its.toArray n → Vals xs its → xs.length ≤ sizeLine →
      wpAny (model X.prog X.w) X.A (call (.builtin "sorted") [.ref a] []) (EP X pins σ Q) X.xe s := by
    intro T o its n hT ho hc hdt rv hz
    obtain ⟨e1, e2⟩ := each_zip I hd rv
    refine sorted_seq (enc := fun b : V × PyData => b.2) (vs := its) (bs := xs.zip ps) hT ho hc hdt (by simp) e1 e2 (by rw [zip_snd hl]; exact hal) (by rw [zip_snd hl]; exact hk) (by rw [List.length_zip, ← hl, Nat.min_self]; exact hz) (fun b hb => ?_) fun h1 h' c out k1 k2 hat hlen he => ?_
    · have := hdep b.2 (by rw [← zip_snd hl]; exact List.mem_map_of_mem hb)
      omega
    · have I1 : L2.Inv X pins σ H { s with heap := h1 } := I.kept (t' := s.toks) k1
      have I2 : L2.Inv X pins σ (upd H h1.objs.size (.lst (((xs.zip ps).mergeSort (PySem.W.dataLe false (fun b => b.2))).map (fun b => b.1)))) { s with heap := h' } :=
        I1.laid (t' := s.toks) k2 (Nat.le_refl _) ⟨by rw [List.length_map, List.length_mergeSort, List.length_zip, ← hl, Nat.min_self]; exact hz, out, c, vals_each he, hat⟩
      exact ⟨.ref h1.objs.size, _, I2, rfl, q _ (I1.hok.fresh (Nat.le_refl _))⟩
  rcases hs with hs | hs
  · obtain ⟨its, rv, ⟨o, n, ho, hc, _, hdt⟩, hz⟩ := I.list hs
    exact go "list" o its n (.inl rfl) ho hc hdt rv hz
  · obtain ⟨its, rv, ⟨o, ho, hc, n, hdt⟩, hz⟩ := I.tuple hs
    exact go "tuple" o its n (.inr rfl) ho hc hdt rv hz

/-! sorted over D -/
def sortOk (ps : List PyData) : Bool := (ps.all fun d => ps.all fun e => PySem.W.alike d e) && ((ps.all fun d => match d with
  | .tuple (_ :: _) => true
  | _ => false) || (ps.all fun d => match d with
  | .none => false
  | .tuple _ => false
  | _ => true)) && ps.all fun d => decide (d.depth ≤ 60)
/-- sorting by putting in, for the kernel's sake -/
def ins {α : Type} (le : α → α → Bool) (a : α) : List α → List α
  | [] => [a]
  | b :: r => if le a b = true then a :: b :: r else b :: ins le a r
def isort {α : Type} (le : α → α → Bool) : List α → List α
  | [] => []
  | a :: l => ins le a (isort le l)
theorem ins_at {α : Type} {le : α → α → Bool} {a : α} : ∀ {l1 l2 : List α}, (∀ b ∈ l1, le a b = false) → (∀ b, l2.head? = some b → le a b = true) → ins le a (l1 ++ l2) = l1 ++ a :: l2
  | [], [], _, _ => rfl
  | [], b :: r, _, h => by
    show (if le a b = true then _ else _) = _
    rw [if_pos (h b rfl)]; rfl
  | b :: l1, l2, h, h2 => by
    have ih := ins_at (a := a) (l1 := l1) (l2 := l2) (fun c m => h c (List.mem_cons_of_mem _ m)) h2
    show (if le a b = true then _ else b :: ins le a (l1 ++ l2)) = _
    rw [if_neg (by rw [h b List.mem_cons_self]; simp), ih]; rfl
theorem isort_eq {α : Type} {le : α → α → Bool} (tr : ∀ a b c, le a b = true → le b c = true → le a c = true) (to : ∀ a b, (le a b || le b a) = true) : ∀ l : List α, l.mergeSort le = isort le l
  | [] => by simp [isort]
  | a :: l => by
    obtain ⟨l1, l2, h1, h2, h3⟩ := List.mergeSort_cons tr to a l
    have hs := List.pairwise_mergeSort tr to (a :: l)
    rw [h1] at hs
    have hd : ∀ b, l2.head? = some b → le a b = true := fun b hb => (List.pairwise_cons.mp (List.pairwise_append.mp hs).2.1).1 b (List.mem_of_head? hb)
    show (a :: l).mergeSort le = ins le a (isort le l)
    rw [← isort_eq tr to l, h2, ins_at (fun b hb => by have := h3 b hb; simpa using this) hd, h1]
def sortM (ds : List D) : Option (List D) := match toPs ds with
  | some ps => if sortOk ps then some (((ds.zip ps).mergeSort (PySem.W.dataLe false (fun b => b.2))).map (fun b => b.1)) else none
  | none => none
def sortD (ds : List D) : Option (List D) := match toPs ds with
  | some ps => if sortOk ps then some ((isort (PySem.W.dataLe false (fun b => b.2)) (ds.zip ps)).map (fun b => b.1)) else none
  | none => none
theorem sortD_M (ds : List D) : sortD ds = sortM ds := by
  unfold sortD sortM
  have T : PySem.W.TotalLe (PySem.W.dataLe false fun b : D × PyData => b.2) := PySem.W.sortLe_total (PyProof.Rows.listOrd PyProof.Rows.itemOrd) false fun b : D × PyData => PySem.W.keyToks b.2
  cases toPs ds with
  | none => rfl
  | some ps =>
    dsimp only
    rw [isort_eq T.trans (fun a b => by rw [Bool.or_eq_true]; exact T.total a b)]
theorem sortOk_of {ps : List PyData} (h : sortOk ps = true) : PySem.W.AllAlike ps ∧ PySem.W.Sortable ps ∧ ∀ p, p ∈ ps → p.depth ≤ 60 := by
  unfold sortOk at h
  rw [Bool.and_eq_true, Bool.and_eq_true, Bool.or_eq_true] at h
  obtain ⟨⟨h1, h2⟩, h3⟩ := h
  refine ⟨fun d hd e he => List.all_eq_true.mp (List.all_eq_true.mp h1 d hd) e he, ?_, fun p hp => of_decide_eq_true (List.all_eq_true.mp h3 p hp)⟩
  rcases h2 with h2 | h2
  · refine .inl fun d hd => ?_
    have := List.all_eq_true.mp h2 d hd
    split at this
    · exact ⟨_, _, rfl⟩
    · cases this
  · refine .inr fun d hd => ?_
    have := List.all_eq_true.mp h2 d hd
    split at this
    · cases this
    · cases this
    · rename_i n1 n2
      exact ⟨fun e => n1 e, fun xs e => n2 xs e⟩
theorem toPs_len : ∀ {ds : List D} {ps : List PyData}, toPs ds = some ps → ds.length = ps.length
  | [], ps, h => by unfold toPs at h; cases h; rfl
  | d :: ds, ps, h => by
    unfold toPs at h
    cases z : toP0 d with
    | none => rw [z] at h; cases h
    | some p =>
      rw [z] at h
      cases z2 : toPs ds with
      | none => rw [z2] at h; cases h
      | some ps' => rw [z2] at h; cases h; simp [toPs_len z2]
theorem ra_sort {c : Cs} {F : Hp} {θ : List Addr} {xs : List V} {ds : List D} {ps : List PyData} (r : RA c F θ xs ds) (hl : ds.length = ps.length) :
    RA c F θ (((xs.zip ps).mergeSort (PySem.W.dataLe false (fun b => b.2))).map (fun b => b.1)) (((ds.zip ps).mergeSort (PySem.W.dataLe false (fun b => b.2))).map (fun b => b.1)) := by
  have hx := r.length
  -- triples
  have e1 : (xs.zip (ds.zip ps)).map (fun t => (t.1, t.2.2)) = xs.zip ps := by
    clear r
    induction xs generalizing ds ps with
    | nil => rfl
    | cons x xs ih =>
      cases ds with
      | nil => simp at hx
      | cons d ds =>
        cases ps with
        | nil => simp at hl
        | cons p ps => simp at hx hl ⊢; exact ih hl hx
  have e2 : (xs.zip (ds.zip ps)).map (fun t => t.2) = ds.zip ps := zip_snd (by rw [List.length_zip, hx, ← hl, Nat.min_self])
  have s1 := List.map_mergeSort (r := PySem.W.dataLe false (fun t : V × D × PyData => t.2.2)) (s := PySem.W.dataLe false (fun b : V × PyData => b.2)) (f := fun t : V × D × PyData => (t.1, t.2.2)) (l := xs.zip (ds.zip ps)) (fun a _ b _ => rfl)
  have s2 := List.map_mergeSort (r := PySem.W.dataLe false (fun t : V × D × PyData => t.2.2)) (s := PySem.W.dataLe false (fun b : D × PyData => b.2)) (f := fun t : V × D × PyData => t.2) (l := xs.zip (ds.zip ps)) (fun a _ b _ => rfl)
  rw [e1] at s1
  rw [e2] at s2
  rw [← s1, ← s2, List.map_map, List.map_map]
  have key : ∀ (l : List (V × D × PyData)), (∀ t ∈ l, R c F θ t.1 t.2.1) → RA c F θ (l.map ((fun b => b.1) ∘ fun t : V × D × PyData => (t.1, t.2.2))) (l.map ((fun b => b.1) ∘ fun t : V × D × PyData => t.2)) := by
    intro l
    induction l with
    | nil => intro _; exact RA.nil
    | cons t l ih => intro h; exact RA.cons (h t List.mem_cons_self) (ih fun u hu => h u (List.mem_cons_of_mem _ hu))
  refine key _ fun t ht => ?_
  have ht2 := List.mem_mergeSort.mp ht
  obtain ⟨i, hi⟩ := List.mem_iff_getElem?.mp ht2
  rw [List.getElem?_zip_eq_some] at hi
  obtain ⟨g1, g2⟩ := hi
  rw [List.getElem?_zip_eq_some] at g2
  exact r.get g1 g2.1
section
variable {c : Cs} {E : XK}
def dSortF (e : Fn D) : Fn (List D) := fun ρ s => (e ρ s).bind fun d s => match seqD s d with
  | some ds => Res.ofO (sortD ds) s
  | none => .bad
theorem den_sort {t : TE} {e : Fn D} (h : DenE c E t e) : DenF c E (tCB (rSortD c.K) (tCons t tNil)) (dSortF e) := by
  refine den_bind (r2 := rF c) (K := fun σ x H Q => rSortD c.K [x] H Q) h fun H0 σ ρ s F θ H Hi x a Q he hw q hp => ?_
  cases z : seqD s a with
  | none => rw [z] at hp; exact hp.elim
  | some ds =>
    rw [z] at hp
    dsimp only at hp
    cases z2 : sortD ds with
    | none => rw [z2] at hp; exact hp.elim
    | some es =>
      rw [z2] at hp
      rw [sortD_M] at z2; unfold sortM at z2
      cases z3 : toPs ds with
      | none => rw [z3] at z2; cases z2
      | some ps =>
        rw [z3] at z2
        dsimp only at z2
        split at z2
        · rename_i ok
          cases z2
          obtain ⟨p, xs, rfl, hs, r⟩ := seq_of hw q z
          obtain ⟨k1, k2, k3⟩ := sortOk_of ok
          exact ⟨p, xs, ps, rfl, hs, dps hw.sub ds xs ps r z3, k1, k2, k3, fun q hn => hp _ F θ _ (Ext.newH hn) (hw.newH hn) (fresh_rf hw hn (ra_sort r (toPs_len z3)))⟩
        · cases z2
/-- sorted(xs), xs one's own -/
theorem den_sortL {t : TE} {e : Fn (List D)} (h : DenL c E t e) : DenF c E (tCB (rSortD c.K) (tCons t tNil)) (fun ρ s => (e ρ s).bind fun ds s => Res.ofO (sortD ds) s) := by
  refine den_bind (r2 := rF c) (K := fun σ x H Q => rSortD c.K [x] H Q) h fun H0 σ ρ s F θ H Hi x ds Q he hw q hp => ?_
  cases z2 : sortD ds with
  | none => rw [z2] at hp; exact hp.elim
  | some es =>
    rw [z2] at hp
    rw [sortD_M] at z2; unfold sortM at z2
    cases z3 : toPs ds with
    | none => rw [z3] at z2; cases z2
    | some ps =>
      rw [z3] at z2
      dsimp only at z2
      split at z2
      · rename_i ok
        cases z2
        obtain ⟨p, xs, rfl, hs, ht, r⟩ := q
        obtain ⟨k1, k2, k3⟩ := sortOk_of ok
        exact ⟨p, xs, ps, rfl, .inl hs, dps hw.sub ds xs ps r z3, k1, k2, k3, fun q hn => hp _ F θ _ (Ext.newH hn) (hw.newH hn) (fresh_rf hw hn (ra_sort r (toPs_len z3)))⟩
      · cases z2

/-! list(..), tuple(..), len(..) -/
def dListF (e : Fn D) : Fn (List D) := fun ρ s => (e ρ s).bind fun d s => Res.ofO (seqD s d) s
theorem den_list {t : TE} {e : Fn D} (h : DenE c E t e) : DenF c E (tCB (rListOf c.K) (tCons t tNil)) (dListF e) := by
  refine den_bind (r2 := rF c) (K := fun σ x H Q => rListOf c.K [x] H Q) h fun H0 σ ρ s F θ H Hi x a Q he hw q hp => ?_
  cases z : seqD s a with
  | none => rw [z] at hp; exact hp.elim
  | some ds =>
    rw [z] at hp
    obtain ⟨p, xs, rfl, hs, r⟩ := seq_of hw q z
    exact ⟨p, xs, rfl, hs, fun l hn => hp _ F θ _ (Ext.newH hn) (hw.newH hn) (fresh_rf hw hn r)⟩
theorem den_listL {t : TE} {e : Fn (List D)} (h : DenL c E t e) : DenF c E (tCB (rListOf c.K) (tCons t tNil)) e := by
  intro H0 σ ρ s F θ H Q he hw hp
  refine h H0 σ ρ s F θ H _ he hw ?_
  cases q : e ρ s with
  | bad => rw [q] at hp; exact hp
  | exc k fs s' => rw [q] at hp; exact hp
  | ok ds s' =>
    rw [q] at hp
    rintro v F' θ' H' x w ⟨a, xs, rfl, hs, ht, r⟩
    exact ⟨a, xs, rfl, .inl hs, fun l hn => hp _ F' θ' _ (x.trans (Ext.newH hn)) (w.newH hn) ((rF c).anti H H' x.al _ _ _ _ _ (fresh_rf w hn r))⟩
def dTupL (e : Fn (List D)) : Fn D := fun ρ s => (e ρ s).bind fun ds s => .ok (.tup ds) s
theorem den_tupL {t : TE} {e : Fn (List D)} (h : DenL c E t e) : DenE c E (tCB (rTupZ c.K) (tCons t tNil)) (dTupL e) := by
  refine den_bind (r2 := rV c) (K := fun σ x H Q => rTupZ c.K [x] H Q) h fun H0 σ ρ s F θ H Hi x ds Q he hw q hp => ?_
  obtain ⟨a, xs, rfl, hs, ht, r⟩ := q
  exact ⟨a, xs, rfl, .inl ⟨hs, fun l o hn od => hp _ _ θ _ (Ext.new hn (hw.free hn).1 (hw.free hn).2) (hw.new hn) (r_tup (H := H) (hw.free hn).1 od r)⟩⟩
def dLenL (e : Fn (List D)) : Fn D := fun ρ s => (e ρ s).bind fun ds s => .ok (.int ds.length) s
theorem den_lenL {t : TE} {e : Fn (List D)} (h : DenL c E t e) : DenE c E (tCB (rLen2 c.K) (tCons t tNil)) (dLenL e) := by
  refine den_bind (r2 := rV c) (K := fun σ x H Q => rLen2 c.K [x] H Q) h fun H0 σ ρ s F θ H Hi x ds Q he hw q hp => ?_
  obtain ⟨a, xs, rfl, hs, ht, r⟩ := q
  exact .inr ⟨a, xs, rfl, .inl hs, by rw [r.length]; exact hp _ F θ H (Ext.refl _ _ _) hw (r_int (c := c) (F := F) (θ := θ))⟩
/-- list(range(..)), tuple(range(..)) -/
def rgP (c : Cs) : Rel c (Int × Int) (Int × Int) := ⟨fun _ _ _ _ a b => a = b, fun _ _ _ _ _ _ _ _ h => h⟩
def dRg1 (e : Fn D) : Fn (Int × Int) := fun ρ s => (e ρ s).bind fun d s => match d with
  | .int n => .ok (0, n) s
  | _ => .bad
def dRg2 (e g : Fn D) : Fn (Int × Int) := fun ρ s => (e ρ s).bind fun d s => (g ρ s).bind fun f s => match d, f with
  | .int m, .int n => .ok (m, n) s
  | _, _ => .bad
abbrev DenR (c : Cs) (E : XK) (t : L2.St → Hp → (Int → Int → Hp → Prop) → Prop) (e : Fn (Int × Int)) : Prop := Den c E (rgP c) (fun σ H Q => t σ H fun a b H1 => Q (a, b) H1) e
theorem den_rg1 {t : TE} {e : Fn D} (h : DenE c E t e) : DenR c E (tRg1 t) (dRg1 e) := by
  refine den_bind (r2 := rgP c) (K := fun σ x H Q => ∃ n, x = V.int n ∧ Q (0, n) H) h fun H0 σ ρ s F θ H Hi x a Q he hw q hp => ?_
  cases a with
  | int n => exact ⟨n, r_int_inv (c := c) (F := F) (θ := θ) q, hp _ F θ H (Ext.refl _ _ _) hw rfl⟩
  | _ => exact hp.elim
theorem den_rg2 {t u : TE} {e g : Fn D} (h : DenE c E t e) (k : DenE c E u g) : DenR c E (tRg2 t u) (dRg2 e g) := by
  refine den_bind (r2 := rgP c) (K := fun σ x H Q => u σ H fun y H2 => ∃ i j, x = V.int i ∧ y = V.int j ∧ Q (i, j) H2) h fun H0 σ ρ s F θ H Hi x a Q he hw q hp => ?_
  refine k H0 σ ρ s F θ H _ he hw ?_
  cases z : g ρ s with
  | bad => rw [z] at hp; exact hp
  | exc k fs s' => rw [z] at hp; exact hp
  | ok b s' =>
    rw [z] at hp
    intro y F' θ' H' x' w' ry
    dsimp only [Res.bind] at hp
    split at hp
    · exact ⟨_, _, r_int_inv (c := c) (F := F) (θ := θ) q, r_int_inv (c := c) (F := F') (θ := θ') ry, hp _ F' θ' H' x' w' rfl⟩
    · exact hp.elim
def rgOk (a b : Int) : Bool := inB a && inB b
def dListRg (e : Fn (Int × Int)) : Fn (List D) := fun ρ s => (e ρ s).bind fun p s => if rgOk p.1 p.2 then .ok (rangeD p.1 (p.2 - p.1).toNat) s else .bad
def dTupRg (e : Fn (Int × Int)) : Fn D := fun ρ s => (e ρ s).bind fun p s => if rgOk p.1 p.2 then .ok (.tup (rangeD p.1 (p.2 - p.1).toNat)) s else .bad
theorem rgOk_of {a b : Int} (h : rgOk a b = true) : RgOk a b := by
  unfold rgOk at h
  rw [Bool.and_eq_true] at h
  have h1 := of_decide_eq_true h.1
  have h2 := of_decide_eq_true h.2
  exact ⟨by omega, by omega, by omega, by omega, by omega⟩
theorem ra_rg {F : Hp} {θ : List Addr} {a : Int} {n : Nat} : RA c F θ ((List.range n).map fun i => V.int (a + (i : Nat))) (rangeD a n) := by
  unfold rangeD
  have e1 : ((List.range n).map fun i => V.int (a + (i : Nat))) = ((List.range n).map fun (i : Nat) => a + (i : Int)).map V.int := by rw [List.map_map]; rfl
  have e2 : ((List.range n).map fun (i : Nat) => D.int (a + (i : Int))) = ((List.range n).map fun (i : Nat) => a + (i : Int)).map D.int := by rw [List.map_map]; rfl
  rw [e1, e2]
  exact RA.of_ints
theorem den_listRg {t : L2.St → Hp → (Int → Int → Hp → Prop) → Prop} {e : Fn (Int × Int)} (h : DenR c E t e) : DenF c E (tLstRg t) (dListRg e) := by
  refine den_bind (r2 := rF c) (K := fun σ p H1 Q => RgOk p.1 p.2 ∧ ∀ q, H1 q = none → Q (V.ref q) (upd H1 q (.lst (rgV p.1 p.2)))) h fun H0 σ ρ s F θ H Hi x a Q he hw q hp => ?_
  have q : x = a := q
  subst q
  split at hp
  · rename_i z
    exact ⟨rgOk_of z, fun l hn => hp _ F θ _ (Ext.newH hn) (hw.newH hn) (fresh_rf hw hn ra_rg)⟩
  · exact hp.elim
theorem den_tupRg {t : L2.St → Hp → (Int → Int → Hp → Prop) → Prop} {e : Fn (Int × Int)} (h : DenR c E t e) : DenE c E (tTupRgZ t) (dTupRg e) := by
  refine den_bind (r2 := rV c) (K := fun σ p H1 Q => RgOk p.1 p.2 ∧ newZ (rgV p.1 p.2) H1 Q) h fun H0 σ ρ s F θ H Hi x a Q he hw q hp => ?_
  have q : x = a := q
  subst q
  split at hp
  · rename_i z
    exact ⟨rgOk_of z, fun l o hn od => hp _ _ θ _ (Ext.new hn (hw.free hn).1 (hw.free hn).2) (hw.new hn) (r_tup (H := H) (hw.free hn).1 od ra_rg)⟩
  · exact hp.elim
/-- xs + ys, a new list: xs, ys lists or cells -/
def dCatF (ea eb : Fn D) : Fn (List D) := fun ρ s => (ea ρ s).bind fun a s => (eb ρ s).bind fun b s => match a, b with
  | .cell k, .lst ys => match s[k]? with
    | some xs => if small (xs.length + ys.length) then .ok (xs ++ ys) s else .bad
    | none => .bad
  | .lst xs, .lst ys => if small (xs.length + ys.length) then .ok (xs ++ ys) s else .bad
  | _, _ => .bad
theorem den_catF {ta tb : TE} {ea eb : Fn D} (ha : DenE c E ta ea) (hb : DenE c E tb eb) : DenF c E (tOp (rAddG c.K) ta tb) (dCatF ea eb) := by
  refine den_bind (r2 := rF c) (K := fun σ x H Q => tb σ H fun y H2 => rAddG c.K x y H2 Q) ha fun H0 σ ρ s F θ H Hi x a Q he hw q hp => ?_
  refine hb H0 σ ρ s F θ H _ he hw ?_
  cases z : eb ρ s with
  | bad => rw [z] at hp; exact hp
  | exc k fs s' => rw [z] at hp; exact hp
  | ok b s' =>
    rw [z] at hp
    intro y F' θ' H' x' w' ry
    dsimp only [Res.bind] at hp
    have q' : R c F' θ' x a := R.mono x'.fr x'.th a q
    have ry : R c F' θ' y b := ry
    cases a with
    | cell k =>
      cases b with
      | lst ys =>
        dsimp only at hp
        split at hp
        · rename_i xs hs
          split at hp
          · rename_i hz
            obtain ⟨p, rfl, hk⟩ := r_cell_inv q'
            obtain ⟨vs, hv, rx⟩ := w'.cel k p xs hk hs
            obtain ⟨p2, us, rfl, h2, r2⟩ := r_lst_inv ry
            refine .inr (.inr (.inl ⟨p, p2, vs, us, rfl, rfl, hv, w'.sub _ _ h2, by rw [rx.length, r2.length]; exact small_of hz, fun l hn => ?_⟩))
            exact hp _ F' θ' _ (x'.trans (Ext.newH hn)) (w'.newH hn) ((rF c).anti H H' x'.al _ _ _ _ _ (fresh_rf w' hn (rx.append r2)))
          · exact hp.elim
        · exact hp.elim
      | _ => exact hp.elim
    | lst xs =>
      cases b with
      | lst ys =>
        dsimp only at hp
        split at hp
        · rename_i hz
          obtain ⟨p, vs, rfl, hv, rx⟩ := r_lst_inv q'
          obtain ⟨p2, us, rfl, h2, r2⟩ := r_lst_inv ry
          refine .inr (.inr (.inl ⟨p, p2, vs, us, rfl, rfl, w'.sub _ _ hv, w'.sub _ _ h2, by rw [rx.length, r2.length]; exact small_of hz, fun l hn => ?_⟩))
          exact hp _ F' θ' _ (x'.trans (Ext.newH hn)) (w'.newH hn) ((rF c).anti H H' x'.al _ _ _ _ _ (fresh_rf w' hn (rx.append r2)))
        · exact hp.elim
      | _ => exact hp.elim
    | _ => exact hp.elim
/-- t.index(x), t a tuple of flat items -/
def firstIx (a : D) : List D → Nat → Option Nat
  | [], _ => none
  | d :: ds, n => if eqF d a then some n else firstIx a ds (n + 1)
theorem firstIx_spec {a : D} : ∀ {ds : List D} {n j : Nat}, firstIx a ds n = some j → n ≤ j ∧ (∃ d, ds[j - n]? = some d ∧ eqF d a = true) ∧ ∀ m d, m < j - n → ds[m]? = some d → eqF d a = false
  | [], n, j, h => by cases h
  | d :: ds, n, j, h => by
    unfold firstIx at h
    split at h
    · rename_i z
      cases h
      exact ⟨Nat.le_refl _, ⟨d, by simp, z⟩, fun m d' hm => by omega⟩
    · rename_i z
      obtain ⟨h1, ⟨d', h2, h3⟩, h4⟩ := firstIx_spec h
      have e : j - n = (j - (n + 1)) + 1 := by omega
      refine ⟨by omega, ⟨d', by rw [e]; simpa using h2, h3⟩, fun m d2 hm hd => ?_⟩
      cases m with
      | zero => simp at hd; subst hd; simpa using z
      | succ m => exact h4 m d2 (by omega) (by simpa using hd)
def dTupIx (ea ei : Fn D) : Fn D := fun ρ s => (ea ρ s).bind fun a s => match a with
  | .tup ds => (ei ρ s).bind fun x s => if flatD x && ds.all flatD then match firstIx x ds 0 with
    | some j => .ok (.int (j : Nat)) s
    | none => .bad
    else .bad
  | _ => .bad
theorem den_tupIx {te ti : TE} {ea ei : Fn D} (ha : DenE c E te ea) (hi : DenE c E ti ei) : DenE c E (tupI te ti) (dTupIx ea ei) := by
  refine den_bind (r2 := rV c) (K := fun σ x H1 Q => ∃ (a : Addr) (o : Obj) (xs : List V), x = V.ref a ∧ H1 a = some (.frz o (.tup xs)) ∧ o.dict = none ∧ tCons ti tNil σ H1 fun ys H2 => ∃ y, ys = [y] ∧ H2 a = some (.frz o (.tup xs)) ∧ flatV y = true ∧ xs.all flatV = true ∧
    ∃ (j : Nat) (z : V), xs[j]? = some z ∧ eqV z y = true ∧ (∀ m z', m < j → xs[m]? = some z' → eqV z' y = false) ∧ Q (V.int j) H2) ha fun H0 σ ρ s F θ H Hi x a Q he hw q hp => ?_
  cases a with
  | tup ds =>
    obtain ⟨p, xs, rfl, hk, r⟩ := r_tup_inv (c := c) (F := F) (θ := θ) q
    obtain ⟨o, ho, od⟩ := hk
    · refine ⟨p, o, xs, rfl, hw.sub _ _ ho, od, ?_⟩
      refine hi H0 σ ρ s F θ H _ he hw ?_
      cases z : ei ρ s with
      | bad => rw [z] at hp; exact hp
      | exc k fs s' => rw [z] at hp; exact hp
      | ok i s' =>
        rw [z] at hp
        intro y F' θ' H' x' w' ry
        have ry : R c F' θ' y i := ry
        have r' := RA.mono x'.fr x'.th ds r
        dsimp only [Res.bind] at hp
        split at hp
        · rename_i hf
          rw [Bool.and_eq_true] at hf
          split at hp
          · rename_i j hj
            obtain ⟨_, ⟨d, h2, h3⟩, h4⟩ := firstIx_spec hj
            obtain ⟨v, hv, rv⟩ := r'.get' h2
            refine ⟨y, rfl, w'.sub _ _ (x'.fr _ _ ho), flat_v ry hf.1, all_flat r' hf.2, j, v, hv, ?_, fun m z' hm hz => ?_, hp _ F' θ' H' x' w' (r_int (c := c) (F := F') (θ := θ'))⟩
            · rw [eq_flat ry rv hf.1 (List.all_eq_true.mp hf.2 _ (List.mem_of_getElem? h2))]; exact h3
            · have hl := r'.length
              have hm' : m < ds.length := by have := get_lt hz; omega
              have hd := List.getElem?_eq_getElem hm'
              rw [eq_flat ry (r'.get hz hd) hf.1 (List.all_eq_true.mp hf.2 _ (List.mem_of_getElem? hd))]
              exact h4 m _ (by simpa using hm) hd
          · exact hp.elim
        · exact hp.elim
  | _ => exact hp.elim
end
end MX


set_option Elab.async false
set_option linter.all false
set_option maxRecDepth 100000
namespace MX
open PySem PySem.Spec PyProof.Rows L2
section
variable {c : Cs} {E : XK}

/-! ### instances that stand still -/
theorem zip_lookup {names : List Str} {fs : List (Str × V)} {j : Nat} {f : Str} {v : V} : ∀ {fs : List (Str × V)} {names : List Str} {j : Nat}, fs.map (·.1) = names → names.Nodup → names[j]? = some f → (fs.map (·.2))[j]? = some v → fs.lookup f = some v
  | [], _, _, h, _, h2, _ => by rw [← h] at h2; simp at h2
  | (g, x) :: r, _, 0, h, _, h2, h3 => by
    subst h
    simp at h2 h3
    subst h2; subst h3
    simp [List.lookup]
  | (g, x) :: r, _, j + 1, h, nd, h2, h3 => by
    subst h
    simp only [List.map_cons, List.nodup_cons] at nd
    simp only [List.map_cons, List.getElem?_cons_succ] at h2 h3
    have ne : f ≠ g := fun e => nd.1 (by rw [← e]; exact List.mem_of_getElem? h2)
    have hb : (f == g) = false := beq_eq_false_iff_ne.mpr ne
    rw [List.lookup, hb]
    exact zip_lookup (names := []) (fs := []) (j := 0) rfl nd.2 h2 h3
def dFld (k j : Nat) (e : Fn D) : Fn D := fun ρ s => (e ρ s).bind fun d s => match d with
  | .obj k' ds => if k' = k then Res.ofO ds[j]? s else .bad
  | _ => .bad
theorem den_fld {k j : Nat} {f : Str} {t : TE} {e : Fn D} (cl : Cls c.K (c.cl k)) (na : NoAttr c.K (c.cl k) f) (nd : (c.fn k).Nodup) (hj : (c.fn k)[j]? = some f) (h : DenE c E t e) : DenE c E (tFld c.K t f) (dFld k j e) := by
  refine den_bind (r2 := rV c) (K := fun σ x H1 Q => ∃ a C dx fs v, x = V.ref a ∧ H1 a = some (.ins C dx fs) ∧ Cls c.K C ∧ NoAttr c.K C f ∧ fs.lookup f = some v ∧ Q v H1) h fun H0 σ ρ s F θ H Hi x a Q he hw q hp => ?_
  cases a with
  | obj k' ds =>
    dsimp only at hp
    split at hp
    · rename_i ek
      subst ek
      cases z : ds[j]? with
      | none => rw [z] at hp; exact hp.elim
      | some d =>
        rw [z] at hp
        obtain ⟨p, dx, fs, rfl, hH, hn, r⟩ := r_obj_inv (c := c) (F := F) (θ := θ) q
        obtain ⟨v, hv, rv⟩ := r.get' z
        exact ⟨p, _, dx, fs, v, rfl, hw.sub _ _ hH, cl, na, zip_lookup (names := []) (fs := []) (j := 0) hn nd hj hv, hp v F θ H (Ext.refl _ _ _) hw rv⟩
    · exact hp.elim
  | _ => exact hp.elim
/-- a property, a method without arguments by the object alone -/
def dProp (k : Nat) (m : Mf) (e : Fn D) : Fn D := fun ρ s => (e ρ s).bind fun d s => match d with
  | .obj k' ds => if k' = k then m [.obj k' ds] s else .bad
  | _ => .bad
theorem den_prop {k : Nat} {m : Mf} {t : TE} {e : Fn D} (h : DenE c E t e) : DenE c E (tProp (c.cl k) (spF c m 1) [] E t) (dProp k m e) := by
  refine den_bind (r2 := rV c) (K := fun σ x H1 Q => ∃ a dx fs, x = V.ref a ∧ H1 a = some (.ins (c.cl k) dx fs) ∧ spF c m 1 (V.ref a :: []) H1 Q E) h fun H0 σ ρ s F θ H Hi x a Q he hw q hp => ?_
  cases a with
  | obj k' ds =>
    dsimp only at hp
    split at hp
    · rename_i ek
      subst ek
      have q : R c F θ x (.obj k' ds) := q
      obtain ⟨p, dx, fs, e1, hH, hn, r⟩ := r_obj_inv q
      subst e1
      exact ⟨p, dx, fs, rfl, hw.sub _ _ hH, rfl, F, θ, s, _, hw, RA.cons q RA.nil, hp⟩
    · exact hp.elim
  | _ => exact hp.elim
/-- o.m(e, ..) -/
def dMeth (k : Nat) (m : Mf) (n : Nat) (e : Fn D) (ea : Fn (List D)) : Fn D := fun ρ s => (e ρ s).bind fun d s => match d with
  | .obj k' ds => if k' = k then (ea ρ s).bind fun as s => if as.length + 1 = n then m (.obj k' ds :: as) s else .bad else .bad
  | _ => .bad
theorem no_lookup {m : Str} : ∀ {fs : List (Str × V)}, m ∉ fs.map (·.1) → fs.lookup m = none
  | [], _ => rfl
  | (g, x) :: r, h => by
    simp only [List.map_cons, List.mem_cons, not_or] at h
    have hb : (m == g) = false := beq_eq_false_iff_ne.mpr h.1
    rw [List.lookup, hb]
    exact no_lookup h.2
theorem den_meth {k n : Nat} {m : Mf} {nm : Str} {t : TE} {ta : TA} {e : Fn D} {ea : Fn (List D)} (hno : nm ∉ c.fn k) (h : DenE c E t e) (ha : DenA c E ta ea) : DenE c E (tMeth (c.cl k) nm (spF c m n) [] E t ta) (dMeth k m n e ea) := by
  refine den_bind (r2 := rV c) (K := fun σ x H1 Q => ∃ a dx fs, x = V.ref a ∧ H1 a = some (.ins (c.cl k) dx fs) ∧ fs.lookup nm = none ∧ ta σ H1 fun vs H2 => spF c m n (x :: (vs ++ [])) H2 Q E) h fun H0 σ ρ s F θ H Hi x a Q he hw q hp => ?_
  cases a with
  | obj k' ds =>
    dsimp only at hp
    split at hp
    · rename_i ek
      subst ek
      have q : R c F θ x (.obj k' ds) := q
      obtain ⟨p, dx, fs, e1, hH, hn, r⟩ := r_obj_inv q
      refine ⟨p, dx, fs, e1, hw.sub _ _ hH, no_lookup (by rw [hn]; exact hno), ?_⟩
      refine ha H0 σ ρ s F θ H _ he hw ?_
      cases z : ea ρ s with
      | bad => rw [z] at hp; exact hp
      | exc k fs s' => rw [z] at hp; exact hp
      | ok as s' =>
        rw [z] at hp
        intro vs F' θ' H' x' w' ra
        have ra : RA c F' θ' vs as := ra
        dsimp only [Res.bind] at hp
        split at hp
        · rename_i hl
          have q' : R c F' θ' x (.obj k' ds) := R.mono x'.fr x'.th _ q
          exact ⟨by simp [ra.length, hl], F', θ', s', .obj k' ds :: as, w', by rw [List.append_nil]; exact RA.cons q' ra, hp.shift x'⟩
        · exact hp.elim
    · exact hp.elim
  | _ => exact hp.elim

/-! ### instances that are made -/
/-- __init__: the fields that it leaves -/
def spI (c : Cs) (k : Nat) (m : List D → Sto → Res (List D)) (n : Nat) : Sp := fun vs H Q E => vs.length = n ∧ ∃ x dx as H1 F θ s ds, vs = V.ref x :: as ∧ H = upd (upd H1 dx (.own x)) x (.ins (c.cl k) dx []) ∧ H1 x = none ∧ H1 dx = none ∧ dx ≠ x ∧ WOk c s F θ H1 ∧ RA c F θ as ds ∧
  match m ds s with
  | .ok fs s' => ∀ F' θ' H' dy fv, Ext F θ H1 F' θ' H' → WOk c s' F' θ' H' → F' x = none → x ∉ θ' → H' x = some (.ins (c.cl k) dy fv) → fv.map (·.1) = c.fn k → RA c F' θ' (fv.map (·.2)) fs → Q .non H'
  | .exc j fs s' => ∀ F' θ' H' dx, Ext F θ H1 F' θ' H' → WOk c s' F' θ' H' → XRep c F' θ' dx j fs → E (.ref (c.xc j)) dx H'
  | .bad => False
def dMake (k : Nat) (m : List D → Sto → Res (List D)) (n : Nat) (ea : Fn (List D)) : Fn D := fun ρ s => (ea ρ s).bind fun as s => if as.length + 1 = n then (m as s).bind fun fs s => .ok (.obj k fs) s else .bad
theorem den_make {k n : Nat} {m : List D → Sto → Res (List D)} {ta : TA} {ea : Fn (List D)} (ha : DenA c E ta ea) : DenE c E (tMake (c.cl k) (spI c k m n) [] E ta) (dMake k m n ea) := by
  refine den_bind (r2 := rV c) (K := fun σ vs H1 Q => ∀ x dx, H1 x = none → H1 dx = none → dx ≠ x → spI c k m n (V.ref x :: (vs ++ [])) (upd (upd H1 dx (.own x)) x (.ins (c.cl k) dx [])) (fun v H2 => v = .non ∧ Q (V.ref x) H2) E) ha fun H0 σ ρ s F θ H Hi vs as Q he hw q hp => ?_
  intro x dx nx nd ne
  have q : RA c F θ vs as := q
  split at hp
  · rename_i hl
    refine ⟨by simp [q.length, hl], x, dx, vs, H, F, θ, s, as, by rw [List.append_nil], rfl, nx, nd, ne, hw, q, ?_⟩
    cases z : m as s with
    | bad => rw [z] at hp; exact hp
    | exc k fs s' => rw [z] at hp; exact hp
    | ok fs s' =>
      rw [z] at hp
      intro F' θ' H' dy fv x' w' nF nt hH hn r
      refine ⟨rfl, hp (.ref x) (upd F' x (.ins (c.cl k) dy fv)) θ' H' (x'.freeze nx nF) (w'.freeze hH nF nt) ?_⟩
      show R c _ θ' (.ref x) (.obj k fs)
      unfold R
      exact ⟨x, dy, fv, rfl, upd_same, hn, RA.mono (Le.new nF) (Pre.refl θ') fs r⟩
  · exact hp.elim
def startO (n k : Nat) (ds : List D) : List Sl := .oobj k [] :: (ds.map Sl.val ++ List.replicate (n - 1 - ds.length) Sl.none)
def initD (n k : Nat) (names : List Str) (x : Sf) : List D → Sto → Res (List D) := fun ds s => match x (startO n k ds) s with
  | .next ρ s' => match (ρ[0]? : Option Sl) with
    | some (Sl.oobj k' fs) => if k' = k ∧ fs.map (·.1) = names then .ok (fs.map (·.2)) s' else .bad
    | _ => .bad
  | .exc j fs s' => .exc j fs s'
  | _ => .bad
def putD (f : Str) (d : D) : List (Str × D) → List (Str × D)
  | [] => [(f, d)]
  | (g, x) :: r => if g = f then (g, d) :: r else (g, x) :: putD f d r
theorem put_both {F : Hp} {θ : List Addr} {f : Str} {v : V} {d : D} (h : R c F θ v d) : ∀ {fs : List (Str × V)} {gs : List (Str × D)}, fs.map (·.1) = gs.map (·.1) → RA c F θ (fs.map (·.2)) (gs.map (·.2)) →
    (putF f v fs).map (·.1) = (putD f d gs).map (·.1) ∧ RA c F θ ((putF f v fs).map (·.2)) ((putD f d gs).map (·.2))
  | [], [], _, _ => ⟨rfl, RA.cons h RA.nil⟩
  | (g, x) :: r, (g', y) :: r', e, t => by
    simp only [List.map_cons, List.cons.injEq] at e
    obtain ⟨e1, e2⟩ := e
    subst e1
    obtain ⟨v', w', ev, h1, h2⟩ := t.cons_inv
    simp only [List.map_cons, List.cons.injEq] at ev
    obtain ⟨rfl, rfl⟩ := ev
    unfold putF putD
    by_cases z : g = f
    · rw [if_pos z, if_pos z]
      exact ⟨by simp [e2], RA.cons h h2⟩
    · rw [if_neg z, if_neg z]
      obtain ⟨a, b⟩ := put_both h e2 h2
      exact ⟨by simp [a], RA.cons h1 b⟩
  | [], _ :: _, e, _ => by simp at e
  | _ :: _, [], e, _ => by simp at e
def isO : Sl → Bool
  | .oobj _ _ => true
  | _ => false
/-- self.f = e, in __init__ -/
def sFldO (i : Nat) (f : Str) (e : Fn D) : Sf := sBind e fun ρ d s => match ρ[i]? with
  | some (.oobj k fs) => if fs.length < 900 ∧ ((ρ.set i .none).any isO) = false then .next (ρ.set i (.oobj k (putD f d fs))) s else .bad
  | _ => .bad
theorem dn_fldO {i : Nat} {f : Str} {t : TE} {e : Fn D} (cl : ∀ k, Cls c.K (c.cl k)) (na : ∀ k, NoAttr c.K (c.cl k) f) (h : DenE c E t e) : DenS c E (sFld c.K (tVar i) t f) (sFldO i f e) := by
  refine dn_bind (K := fun Dn σ y H1 => tVar i σ H1 fun x H2 => ∃ a C dx fs, x = V.ref a ∧ H2 a = some (.ins C dx fs) ∧ Cls c.K C ∧ NoAttr c.K C f ∧ fs.length < 1000 ∧ Dn.nx σ (upd H2 a (.ins C dx (putF f y fs)))) h fun H0 F0 θ0 σ ρ s F θ H Hi v d Dn s0 F1 θ1 x0 he0 x w r hp => ?_
  have he := he0.ext x
  have x1 := x0.trans x
  cases e2 : ρ[i]? with
  | none => rw [e2] at hp; exact hp.elim
  | some y =>
    cases y with
    | none => rw [e2] at hp; exact hp.elim
    | val _ => rw [e2] at hp; exact hp.elim
    | own _ => rw [e2] at hp; exact hp.elim
    | oobj k gs =>
      rw [e2] at hp
      dsimp only at hp
      split at hp
      · rename_i hlen
        obtain ⟨o, h1, a, dx, fs, rfl, hme, h0, hF, ht, hH, hn, q⟩ := he.get e2
        have hl : fs.length = gs.length := by have := congrArg List.length hn; simpa using this
        refine ⟨.ref a, h1, a, _, dx, fs, rfl, hH, cl k, na k, by omega, ?_⟩
        have r' : R c F θ v d := r
        obtain ⟨p1, p2⟩ := put_both (f := f) r' hn q
        refine hp σ F θ _ ⟨x1.fr, x1.th, fun b u h n => ?_, x1.nc, x1.nf, fun b n => ?_⟩ ⟨w.sub.updR hF, fun b m => ?_, w.nd, w.len, fun j b es g1 g2 => ?_⟩ ⟨?_, fun j o y g1 g2 => ?_, fun j m l zs us n g1 g2 g3 g4 => ?_⟩
        · rw [upd_ne (ne_of_none h h0)]; exact x1.kp b u h n
        · by_cases z : b = a
          · subst z; rw [upd_same]; simp
          · rw [upd_ne z]; exact x1.al b n
        · have z : b ≠ a := fun z => ht (z ▸ m)
          rw [upd_ne z]; exact w.fc b m
        · obtain ⟨zs, h3, h4⟩ := w.cel j b es g1 g2
          have z : b ≠ a := fun z => ht (z ▸ List.mem_of_getElem? g1)
          exact ⟨zs, by rw [upd_ne z]; exact h3, h4⟩
        · rw [List.length_set]; exact he.len
        · by_cases z : i = j
          · subst z
            rw [h1] at g1; cases g1
            rw [List.getElem?_set_self (get_lt e2)] at g2
            cases g2
            exact ⟨a, dx, _, rfl, hme, h0, hF, ht, upd_same, p1, p2⟩
          · rw [List.getElem?_set_ne z] at g2
            have q2 := he.at_ j o y g1 g2
            cases y with
            | none => trivial
            | val d => exact q2
            | own es =>
              obtain ⟨l2, zs, e3, k0, kF, kt, kH, kr⟩ := q2
              have nl : l2 ≠ a := ne_of kH hH (by intro z; cases z)
              exact ⟨l2, zs, e3, k0, kF, kt, by rw [upd_ne nl]; exact kH, kr⟩
            | oobj k2 es =>
              obtain ⟨l2, dx2, zs, e3, km, k0, kF, kt, kH, kn, kr⟩ := q2
              by_cases nl : l2 = a
              · have z2 : ((ρ.set i Sl.none).any isO) = true := List.any_eq_true.mpr ⟨.oobj k2 es, List.mem_of_getElem? (by rw [List.getElem?_set_ne z]; exact g2), rfl⟩
                rw [hlen.2] at z2; cases z2
              · exact ⟨l2, dx2, zs, e3, km, k0, kF, kt, by rw [upd_ne nl]; exact kH, kn, kr⟩
        · have up : ∀ (j : Nat) (zs : List D), (ρ.set i (.oobj k (putD f d gs)))[j]? = some (.own zs) → ρ[j]? = some (.own zs) := by
            intro j zs h
            by_cases z : i = j
            · subst z
              rw [List.getElem?_set_self (get_lt e2)] at h
              cases h
            · rw [List.getElem?_set_ne z] at h; exact h
          exact he.apart j m l zs us n g1 (up j zs g2) (up m us g3) g4
      · exact hp.elim
theorem init_ok {N : List Str} {k n : Nat} {names : List Str} {t : TS} {x : Sf} {vs : List V} {H : Hp} {Q : VK} (hN : names = c.fn k) (hpos : 0 < N.length) (ht : DenS c E t x) (h : spI c k (initD N.length k names x) n vs H Q E) :
    t { nx := fun _ H' => Q .non H', rt := Q } (L2.start N vs) H := by
  obtain ⟨_, xx, dx, as, H1, F, θ, s, ds, rfl, rfl, nx, nd, ne, w, r, hp⟩ := h
  have nx1 : upd H1 dx (.own xx) xx = none := by rw [upd_ne (Ne.symm ne)]; exact nx
  have e1 : Ext F θ H1 F θ (upd (upd H1 dx (.own xx)) xx (.ins (c.cl k) dx [])) := (Ext.newH nd).trans (Ext.newH nx1)
  have w1 : WOk c s F θ (upd (upd H1 dx (.own xx)) xx (.ins (c.cl k) dx [])) := (w.newH nd).newH nx1
  have hl := r.length
  have he : EnvOk c ⟨H1, xx⟩ F θ (upd (upd H1 dx (.own xx)) xx (.ins (c.cl k) dx [])) (L2.start N (V.ref xx :: as)) (startO N.length k ds) := by
    refine ⟨?_, fun i o y h1 h2 => ?_, fun i j l xs ys n h1 h2 h3 => ?_⟩
    · unfold L2.start startO; simp [hl]; omega
    · cases i with
      | zero =>
        have g1 : o = some (V.ref xx) := by
          unfold L2.start at h1; simp at h1; exact h1.symm
        have g2 : y = .oobj k [] := by
          unfold startO at h2; simp at h2; exact h2.symm
        subst g1; subst g2
        exact ⟨xx, dx, [], rfl, rfl, nx, (w.free nx).1, (w.free nx).2, upd_same, rfl, RA.nil⟩
      | succ i =>
        have g1 : (as.map some ++ List.replicate (N.length - (as.length + 1)) none)[i]? = some o := by
          unfold L2.start at h1; simpa using h1
        have g2 : (ds.map Sl.val ++ List.replicate (N.length - 1 - ds.length) Sl.none)[i]? = some y := by
          unfold startO at h2; simpa using h2
        by_cases hi : i < as.length
        · rw [List.getElem?_append_left (by simpa using hi), List.getElem?_map] at g1
          rw [List.getElem?_append_left (by simpa [← hl] using hi), List.getElem?_map] at g2
          cases e3 : as[i]? with
          | none => rw [e3] at g1; cases g1
          | some v =>
            cases e4 : ds[i]? with
            | none => rw [e4] at g2; cases g2
            | some d =>
              rw [e3] at g1; rw [e4] at g2
              cases g1; cases g2
              exact ⟨v, rfl, r.get e3 e4⟩
        · rw [List.getElem?_append_right (by simp [← hl]; omega), List.getElem?_replicate] at g2
          split at g2
          · cases g2; trivial
          · cases g2
    · exfalso
      cases i with
      | zero => unfold startO at h2; simp at h2
      | succ i =>
        have g2 : (ds.map Sl.val ++ List.replicate (N.length - 1 - ds.length) Sl.none)[i]? = some (.own xs) := by
          unfold startO at h2; simpa using h2
        by_cases hi : i < ds.length
        · rw [List.getElem?_append_left (by simpa using hi), List.getElem?_map] at g2
          cases e4 : ds[i]? with
          | none => rw [e4] at g2; cases g2
          | some d => rw [e4] at g2; cases g2
        · rw [List.getElem?_append_right (by simp; omega), List.getElem?_replicate] at g2
          split at g2 <;> cases g2
  refine ht ⟨H1, xx⟩ F θ _ _ s F θ _ _ e1 w1 he ?_
  unfold initD at hp
  cases z : x (startO N.length k ds) s with
  | next ρ s' =>
    rw [z] at hp
    intro σ' F' θ' H' x' w' he'
    dsimp only at hp
    cases z2 : (ρ[0]? : Option Sl) with
    | none => rw [z2] at hp; exact hp.elim
    | some y =>
      rw [z2] at hp
      cases y with
      | oobj k' fs =>
        dsimp only at hp
        by_cases hk : k' = k ∧ fs.map (·.1) = names
        · rw [if_pos hk] at hp
          obtain ⟨rfl, hfs⟩ := hk
          obtain ⟨o, g1, y, dy, fv, rfl, hme, g0, gF, gt, gH, gn, gr⟩ := he'.get z2
          have hme : y = xx := hme
          subst hme
          exact hp F' θ' H' dy fv x' w' gF gt gH (gn.trans (hfs.trans hN)) gr
        · rw [if_neg hk] at hp; exact hp.elim
      | _ => exact hp.elim
  | ret d s' => rw [z] at hp; exact hp.elim
  | brk ρ s' => rw [z] at hp; exact hp.elim
  | cont ρ s' => rw [z] at hp; exact hp.elim
  | exc j fs s' => rw [z] at hp; exact fun F' θ' H' dx x' w' r' => hp F' θ' H' dx x' w' r'
  | bad => rw [z] at hp; exact hp.elim
end
end MX


set_option Elab.async false
set_option linter.all false
set_option maxRecDepth 100000
namespace PySem.W
open PySem PySem.Calls PyProof.Rows Builtin
section
variable {prog : Program} {w : World} {A : Around} {E : Value → Shared → Prop} {s : Shared} {K : Frag} {x y C L f : Addr} {h₀ : Heap} {m : Str → Option Value} {ox : Obj} {od : Option Obj} {tb : Value}
theorem mx_ifBound_B {M : Model} {name : Str} {id : String} {args : List Value} {Q : Option Value → Shared → Prop} (X : K.In s.heap) (I : InstAt s.heap x ox C od) (hs : findIn K (.ref C) name = some (some (.builtin id)))
    (hb : ∀ self, bindSpecial (.builtin id) self = pure (.builtin id, [self])) (h : wpAny M A (call (.builtin id) (.ref x :: args)) (fun v => Q (some v)) E s) : wpAny M A (callSpecialIfBound? (.ref x) name args) Q E s := by
  simp only [callSpecialIfBound?, bindSpecialIfBound?]
  refine wpAny_holding (wpAny_bind (wpAny_bind (wpAny_bind (I.type.here ((looks_findIn X hs).here ?_)))))
  refine wpAny_bind (wpAny_askSetting (wpAny_ite ?_))
  have fin : wpAny M A (call (.builtin id) ([.ref x] ++ args) >>= fun v => pure (some v)) Q E s := wpAny_bind (wpAny_mono h (fun v s' h' => wpAny_pure h') fun _ _ h' => h')
  simp only [hb]
  split
  · exact wpAny_bind (wpAny_pure (wpAny_pure (by exact fin)))
  · exact wpAny_tryCatch (wpAny_bind (wpAny_pure (wpAny_pure (by exact fin))))
theorem mx_objNe {Q : Fin → Shared → Prop} (X : K.In s.heap) (I : InstAt s.heap x ox C od) (hs : findIn K (.ref C) "__eq__" = some (some (.ref f))) (hf : isFn K (.ref f) = true) (hu : A.units < cLine)
    (hcall : wpAny (model prog w) A (call (.ref f) [.ref x, .ref y]) (fun v s' => ∃ b, v = .bool b ∧ Q (.done (.ret (.bool (!b)))) s') E s) :
    wpAny (model prog w) A (Builtin.«object.__ne__» ⟨[.ref x, .ref y], []⟩) Q E s := by
  unfold Builtin.«object.__ne__»
  repeat (first
    | with_reducible refine wpAny_cRoomFor hu ?_
    | (refine wpAny_bind (m := callSpecialIfBound? (.ref x) (Str.ofString "__eq__") [.ref y])
        (ifBound_K X I hs hf (wpAny_mono hcall (fun v s' hr => by
          obtain ⟨b, rfl, hq⟩ := hr
          repeat (first | exact hq | exact wpAny_pure hq | exact wpAny_truthy_bool hq | (refine wpAny_bind (m := truthy (.bool _)) (wpAny_truthy_bool ?_)) | wp_step)) fun _ _ e => e)))
    | wp_step)
theorem mx_ne_K {Q : Value → Shared → Prop} (hu : A.units + 1 < cLine) (F : Fr h₀ L s.heap m) (X₀ : K.In h₀) (I : InstAt s.heap x ox C od) (hb : Looks (model prog w) s.heap (typeOf (.ref y)) tb) (hn : notFirst K C tb = true)
    (hne : findIn K (.ref C) "__ne__" = some (some (.builtin "object.__ne__"))) (hm : mroIn K C (.type "object") = some true)
    (hs : findIn K (.ref C) "__eq__" = some (some (.ref f))) (hf : isFn K (.ref f) = true)
    (h : wpAny (model prog w) A.in1 (call (.ref f) [.ref x, .ref y]) (fun v s' => ∃ k, v = .bool k ∧ Q (.bool (!k)) s') E s) : wpAny (model prog w) A (richCompare .NotEq (.ref x) (.ref y)) Q E s := by
  have X := X₀.keeps F.keep
  have one : wpAny (model prog w) A (tryCompare (.ref x) "__ne__" (.ref y)) (fun r s' => ∃ v, r = some v ∧ Q v s') E s := by
    unfold tryCompare
    have inst : Looks (model prog w) s.heap (isInstance (.ref x) (.type "object")) true := I.type.andThen (looks_mroIn X hm)
    refine wpAny_bind (mx_ifBound_B X I hne PySem.F.slot_object_ne.bind (wpAny_call (codeAny_call_builtin PySem.F.slot_object_ne.plain PySem.F.cmpEntry_ne (check_slot PySem.F.cmpKind_ne PySem.F.cmpSplit_ne inst (PySem.F.cmpArgs_ne _ _) ?_))))
    refine mx_objNe (A := A.in1) X I hs hf (by show A.units + 1 < cLine; exact hu) (wpAny_mono h (fun v s' hv => ?_) fun _ _ e => e)
    obtain ⟨b, rfl, hq⟩ := hv
    exact ⟨b, rfl, by first | exact wpAny_pure ⟨_, rfl, hq⟩ | exact ⟨_, rfl, wpAny_pure ⟨_, rfl, hq⟩⟩⟩
  unfold richCompare
  simp only [oneThing_ref]
  refine wpAny_holding (wpAny_bind (wpAny_cRoomFor (Nat.lt_of_succ_lt hu) ?_))
  refine wpAny_bind (I.type.here (wpAny_bind (hb.here ?_)))
  split
  · rename_i q
    have e : subIn K tb (.ref C) = some false := by
      rcases Bool.or_eq_true_iff.mp hn with e | e
      · rw [beq_iff_eq.mp e] at q; simp at q
      · exact beq_iff_eq.mp e
    refine wpAny_bind ((looks_subIn X e).here ?_)
    simp only [Bool.false_eq_true, if_false]
    refine wpAny_bind (wpAny_mono one (fun r s' z => ?_) fun _ _ e => e)
    obtain ⟨v, rfl, hq⟩ := z
    exact wpAny_pure hq
  · refine wpAny_bind (wpAny_pure ?_)
    simp only [Bool.false_eq_true, if_false]
    refine wpAny_bind (wpAny_mono one (fun r s' z => ?_) fun _ _ e => e)
    obtain ⟨v, rfl, hq⟩ := z
    exact wpAny_pure hq
end
end PySem.W
namespace MX
open PySem PySem.Spec PyProof.Rows L2
section
variable {X : Cx} {CX : CXT} {k : Nat} {C f : Addr} {fd : FuncData} {ps : List Str} {sp : Sp} {E : XK} {ta : TE} {e : Expr} {x : Str} {p pos : Pos}
/-- an own function called from inside a built-in -/
theorem run_in {A : Around} {pins : List (Addr × Obj)} {σ : L2.St} {H : Hp} {s : Shared} {Q : VK} {us : List Value} {vs : List V} (F : FnOk X.prog X.w X.K X.mg X.base CX k f fd ps sp) (hr : Room k A) (hfr : A.frames = X.A.frames) (hb : Binds X.K fd ps []) (hx : Passes CX X E)
    (I : L2.Inv X pins σ H s) (r : Vals vs us) (h : sp vs H Q E) : wpAny (model X.prog X.w) A (call (.ref f) us) (EP X pins σ Q) X.xe s := by
  have hl : (us ++ []).length = ps.length := by rw [List.append_nil, ← r.length]; exact F.len _ _ _ _ h
  have e0 : Env0 X.prog X.w X.K X.mg X.base A X.stack s H := by
    have e := I.env0
    exact ⟨by rw [hfr]; exact e.frames, e.mod, e.bs, e.bsz, e.funs, e.frf, e.hok, e.bare⟩
  have hbb := hb s us I.kIn hl
  rw [List.append_nil] at hbb
  refine wpAny_call (codeAny_mono (F.run A X.stack s H ⟨us, []⟩ us vs Q E hr e0 hbb r h) fun r s' hq => ?_)
  cases r with
  | error e => exact hx pins σ H s e s' I hq
  | ok fl =>
    cases fl with
    | ret u => exact I.after hq
    | next => exact False.elim hq
    | brk => exact False.elim hq
    | cont => exact False.elim hq
/-- len(o), o with a __len__ of the text -/
def tLenO (C : Addr) (sp : Sp) (E : XK) (ta : TE) : TE := fun σ H Q => tCons ta tNil σ H fun vs H1 => ∃ a dx fs, vs = [V.ref a] ∧ H1 a = some (.ins C dx fs) ∧ sp [V.ref a] H1 (fun v H2 => ∃ n : Int, v = V.int n ∧ 0 ≤ n ∧ n < 2 ^ 63 ∧ Q (V.int n) H2) E
theorem pe_lenO (F : FnOk X.prog X.w X.K X.mg X.base CX k f fd ps sp) (hr : Room (k + 1) X.A) (hs : PySem.W.findIn X.K (.ref C) "__len__" = some (some (.ref f))) (hf : PySem.W.isFn X.K (.ref f) = true) (hb : Binds X.K fd ps []) (hx : Passes CX X E)
    (hg : Gl X "len") (hm : X.mg "len" = none) (he : PE X e ta) (hst : starEach [e] X.env = (false, eval e X.env) :: starEach [] X.env := by rfl) : PE X (.Call (.Name "len" p) [e] [] pos) (tLenO C sp E ta) := by
  refine ⟨fun pins s σ H Q I h => ?_⟩
  refine wpAny_Call_Name_kw (ld_blt I hg hm PySem.boot_len ?_ (by decide) (by decide))
  have ha : PA X [e] (tCons ta tNil) := pa_cons he pa_nil hst
  refine PyProof.Rows.callWith_builtin1 (thn (ha.run pos pins s σ H _ I h) fun us s1 ⟨vs, H1, I1, r, a, dx, fs, e1, ea, q⟩ => ?_) hst rfl
  subst e1
  obtain ⟨u, rfl, ru⟩ := vals1 r
  cases ru
  obtain ⟨mA, J, _⟩ := ins_get I1.hok ea
  obtain ⟨od, J, _⟩ := J.look
  obtain ⟨m, hF⟩ := I1.fr
  refine PySem.W.len_K hF I1.ok.mod.kin J hs hf ?_
  refine wpAny_mono (run_in F hr.in1 rfl hb hx I1 (show Vals [V.ref a] [Value.ref a] from .cons rfl .nil) q) (fun v s' hv => ?_) fun _ _ z => z
  obtain ⟨z, H', I', rz, n, ez, n0, n1, q'⟩ := hv
  subst ez
  obtain ⟨t, rfl⟩ := rz
  exact ⟨⟨n0, n1⟩, .int n, H', I'.tok _, ⟨_, rfl⟩, q'⟩
/-- a == b, a != b of instances of a class with an __eq__ of the text -/
def rEqO (neg : Bool) (C : Addr) (sp : Sp) (E : XK) : R2 := fun x y H Q => ∃ a b dx dy fs gs, x = V.ref a ∧ y = V.ref b ∧ H a = some (.ins C dx fs) ∧ H b = some (.ins C dy gs) ∧ sp [V.ref a, V.ref b] H (fun v H2 => ∃ k : Bool, v = V.bl k ∧ Q (V.bl (if neg then !k else k)) H2) E
theorem op_eqO (F : FnOk X.prog X.w X.K X.mg X.base CX k f fd ps sp) (hr : Room k X.A) (hs : PySem.W.findIn X.K (.ref C) "__eq__" = some (some (.ref f))) (hf : PySem.W.isFn X.K (.ref f) = true) (hb : Binds X.K fd ps []) (hx : Passes CX X E) :
    OpR X (compareOp .Eq) (rEqO false C sp E) := by
  intro pins s σ H x y v u Q I rx ry h
  obtain ⟨a, b, dx, dy, fs, gs, rfl, rfl, ha, hb', q⟩ := h
  cases rx
  cases ry
  obtain ⟨mA, J, _⟩ := ins_get I.hok ha
  obtain ⟨mB, J', _⟩ := ins_get I.hok hb'
  obtain ⟨od, J, _⟩ := J.look
  obtain ⟨od', J', _⟩ := J'.look
  obtain ⟨m, hF⟩ := I.fr
  show wpAny (model X.prog X.w) X.A (richCompare .Eq (.ref a) (.ref b)) (EP X pins σ Q) X.xe s
  refine PySem.W.cmp_K (op := .Eq) (tb := .ref C) hr.units0 hF I.ok.mod.kin J J'.type (by simp [PySem.W.notFirst]) hs hf ?_
  refine wpAny_mono (run_in F hr rfl hb hx I (show Vals [V.ref a, V.ref b] [Value.ref a, Value.ref b] from .cons rfl (.cons rfl .nil)) q) (fun v s' hv => ?_) fun _ _ z => z
  obtain ⟨z, H', I', rz, n, ez, q'⟩ := hv
  subst ez
  cases rz
  exact ⟨.bl n, H', I', rfl, q'⟩
theorem op_neO (F : FnOk X.prog X.w X.K X.mg X.base CX k f fd ps sp) (hr : Room (k + 1) X.A) (hs : PySem.W.findIn X.K (.ref C) "__eq__" = some (some (.ref f))) (hf : PySem.W.isFn X.K (.ref f) = true) (hb : Binds X.K fd ps []) (hx : Passes CX X E)
    (hne : PySem.W.findIn X.K (.ref C) "__ne__" = some (some (.builtin "object.__ne__"))) (hmro : PySem.W.mroIn X.K C (.type "object") = some true) :
    OpR X (compareOp .NotEq) (rEqO true C sp E) := by
  intro pins s σ H x y v u Q I rx ry h
  obtain ⟨a, b, dx, dy, fs, gs, rfl, rfl, ha, hb', q⟩ := h
  cases rx
  cases ry
  obtain ⟨mA, J, _⟩ := ins_get I.hok ha
  obtain ⟨mB, J', _⟩ := ins_get I.hok hb'
  obtain ⟨od, J, _⟩ := J.look
  obtain ⟨od', J', _⟩ := J'.look
  obtain ⟨m, hF⟩ := I.fr
  show wpAny (model X.prog X.w) X.A (richCompare .NotEq (.ref a) (.ref b)) (EP X pins σ Q) X.xe s
  refine PySem.W.mx_ne_K (tb := .ref C) (by have := hr.units; omega) hF I.ok.mod.kin J J'.type (by simp [PySem.W.notFirst]) hne hmro hs hf ?_
  refine wpAny_mono (run_in F hr.in1 rfl hb hx I (show Vals [V.ref a, V.ref b] [Value.ref a, Value.ref b] from .cons rfl (.cons rfl .nil)) q) (fun v s' hv => ?_) fun _ _ z => z
  obtain ⟨z, H', I', rz, n, ez, q'⟩ := hv
  subst ez
  cases rz
  exact ⟨n, rfl, .bl (!n), H', I', rfl, q'⟩
end
end MX
namespace MX
open PySem PySem.Spec PyProof.Rows L2
section
variable {c : Cs} {E : XK}
/-! ### len, ==, isinstance over D -/
def dLenO (k : Nat) (m : Mf) (e : Fn D) : Fn D := fun ρ s => (e ρ s).bind fun d s => match d with
  | .obj k' ds => if k' = k then (m [.obj k' ds] s).bind fun r s => match r with
    | .int n => if 0 ≤ n ∧ n < 1000000 then .ok (.int n) s else .bad
    | _ => .bad
    else .bad
  | _ => .bad
theorem den_lenO {k : Nat} {m : Mf} {t : TE} {e : Fn D} (h : DenE c E t e) : DenE c E (tLenO (c.cl k) (spF c m 1) E t) (dLenO k m e) := by
  refine den_bind (r2 := rV c) (K := fun σ x H1 Q => ∃ a dx fs, [x] = [V.ref a] ∧ H1 a = some (.ins (c.cl k) dx fs) ∧ spF c m 1 [V.ref a] H1 (fun v H2 => ∃ n : Int, v = V.int n ∧ 0 ≤ n ∧ n < 2 ^ 63 ∧ Q (V.int n) H2) E) h fun H0 σ ρ s F θ H Hi x a Q he hw q hp => ?_
  cases a with
  | obj k' ds =>
    dsimp only at hp
    split at hp
    · rename_i ek
      subst ek
      have q : R c F θ x (.obj k' ds) := q
      obtain ⟨p, dx, fs, e1, hH, hn, r⟩ := r_obj_inv q
      subst e1
      refine ⟨p, dx, fs, rfl, hw.sub _ _ hH, rfl, F, θ, s, _, hw, RA.cons q RA.nil, ?_⟩
      cases z : m [.obj k' ds] s with
      | bad => rw [z] at hp; exact hp
      | exc j fs s' => rw [z] at hp; exact hp
      | ok d s' =>
        rw [z] at hp
        intro v F' θ' H' x' w' rv
        have rv : R c F' θ' v d := rv
        cases d with
        | int n =>
          dsimp only [Res.bind] at hp
          by_cases hn : 0 ≤ n ∧ n < 1000000
          · rw [if_pos hn] at hp
            exact ⟨n, r_int_inv rv, hn.1, by omega, hp _ F' θ' H' x' w' (r_int (c := c) (F := F') (θ := θ'))⟩
          · rw [if_neg hn] at hp; exact hp.elim
        | _ => exact hp.elim
    · exact hp.elim
  | _ => exact hp.elim
def dEqO (neg : Bool) (k : Nat) (m : Mf) (ea eb : Fn D) : Fn D := fun ρ s => (ea ρ s).bind fun a s => (eb ρ s).bind fun b s => match a, b with
  | .obj k1 ds, .obj k2 es => if k1 = k ∧ k2 = k then (m [.obj k1 ds, .obj k2 es] s).bind fun r s => match r with
    | .bl z => .ok (.bl (if neg then !z else z)) s
    | _ => .bad
    else .bad
  | _, _ => .bad
theorem den_eqO {neg : Bool} {k : Nat} {m : Mf} {ta tb : TE} {ea eb : Fn D} (ha : DenE c E ta ea) (hb : DenE c E tb eb) : DenE c E (tOp (rEqO neg (c.cl k) (spF c m 2) E) ta tb) (dEqO neg k m ea eb) := by
  refine den_bind (r2 := rV c) (K := fun σ x H1 Q => tb σ H1 fun y H2 => rEqO neg (c.cl k) (spF c m 2) E x y H2 Q) ha fun H0 σ ρ s F θ H Hi x a Q he hw q hp => ?_
  refine hb H0 σ ρ s F θ H _ he hw ?_
  cases z : eb ρ s with
  | bad => rw [z] at hp; exact hp
  | exc k fs s' => rw [z] at hp; exact hp
  | ok b s' =>
    rw [z] at hp
    intro y F' θ' H' x' w' ry
    have ry : R c F' θ' y b := ry
    have q' : R c F' θ' x a := R.mono x'.fr x'.th a q
    cases a with
    | obj k1 ds =>
      cases b with
      | obj k2 es =>
        dsimp only [Res.bind] at hp
        by_cases hk : k1 = k ∧ k2 = k
        · rw [if_pos hk] at hp
          obtain ⟨rfl, rfl⟩ := hk
          obtain ⟨p, dx, fs, e1, hH, _, _⟩ := r_obj_inv q'
          obtain ⟨p2, dy, gs, e2, hH2, _, _⟩ := r_obj_inv ry
          refine ⟨p, p2, dx, dy, fs, gs, e1, e2, w'.sub _ _ hH, w'.sub _ _ hH2, rfl, F', θ', s', [.obj k2 ds, .obj k2 es], w', ?_, ?_⟩
          · rw [← e1, ← e2]; exact RA.cons q' (RA.cons ry RA.nil)
          cases z2 : m [.obj k2 ds, .obj k2 es] s' with
          | bad => rw [z2] at hp; exact hp
          | exc j fs s2 => rw [z2] at hp; exact fun F2 θ2 H2 dx x2 w2 q2 => hp F2 θ2 H2 dx (x'.trans x2) w2 q2
          | ok d s2 =>
            rw [z2] at hp
            intro v F2 θ2 H2 x2 w2 rv
            have rv : R c F2 θ2 v d := rv
            cases d with
            | bl k => exact ⟨k, r_bl_inv rv, hp _ F2 θ2 H2 (x'.trans x2) w2 (r_bl (c := c) (F := F2) (θ := θ2))⟩
            | _ => exact hp.elim
        · rw [if_neg hk] at hp; exact hp.elim
      | _ => exact hp.elim
    | _ => exact hp.elim
def tagOf : D → Option String
  | .non => some "NoneType"
  | .bl _ => some "bool"
  | .int _ => some "int"
  | .str _ => some "str"
  | .lst _ => some "list"
  | .tup _ => some "tuple"
  | _ => none
def tags : List String := ["NoneType", "bool", "int", "str", "list", "tuple"]
def isB (a b : String) : Bool := a == b || (a == "bool" && b == "int")
theorem isB_ok : ∀ a ∈ tags, ∀ b ∈ tags, kitB a b = some (isB a b) := by decide +kernel
/-- what isinstance asks of an own class -/
structure IsK (c : Cs) (k : Nat) : Prop where
  cl : Cls c.K (c.cl k)
  ca : PySem.W.findIn c.K (.ref (c.cl k)) "__class__" = some (some (.builtin "object.__class__"))
  cn : PySem.W.specialIn c.K (.builtin "object.__class__") "__get__" = some (some (.builtin "getset_descriptor.__get__"))
  ct : PySem.W.takesIn c.K (.builtin "object.__class__") = some true
  cm : PySem.W.mroIn c.K (c.cl k) (.type "object") = some true
  bt : ∀ a ∈ tags, PySem.W.kitOne c.K (.type a) (.ref (c.cl k)) = some false
def isi2 (al : List Nat) (x t : D) : Option D := match t with
  | .ty n => match tagOf x with
    | some a => if tags.contains n then some (.bl (isB a n)) else none
    | none => none
  | .cls j => match tagOf x with
    | some _ => if al.contains j then some (.bl false) else none
    | none => match x with
      | .obj k _ => if k = j ∧ al.contains k then some (.bl true) else none
      | _ => none
  | _ => none
def fIsi (al : List Nat) : FC := fun ds _ => match ds with
  | [x, t] => isi2 al x t
  | _ => none
theorem tag_ty {F H : Hp} {θ : List Addr} {x : V} {d : D} {a : String} (sub : Le F H) (h : R c F θ x d) (e : tagOf d = some a) : TyX c.K H x (.type a) ∧ a ∈ tags := by
  cases d with
  | non => cases e; rw [r_non_inv h]; exact ⟨.base .non, by decide⟩
  | bl b => cases e; rw [r_bl_inv h]; exact ⟨.base (.bl b), by decide⟩
  | int i => cases e; rw [r_int_inv h]; exact ⟨.base (.int i), by decide⟩
  | str z => cases e; rw [r_str_inv h]; exact ⟨.base (.str z), by decide⟩
  | lst ds => cases e; obtain ⟨p, xs, rfl, hp, _⟩ := r_lst_inv h; exact ⟨.base (.lst (sub _ _ hp)), by decide⟩
  | tup ds => cases e; obtain ⟨p, xs, rfl, ⟨o, hp, _⟩, _⟩ := r_tup_inv h; exact ⟨.fTuple (sub _ _ hp), by decide⟩
  | _ => cases e
theorem cd_isi {al : List Nat} (hk : ∀ k ∈ al, IsK c k) : CallD c (rIsi c.K) (fIsi al) := by
  intro s F θ H xs as w r Q d e h
  unfold fIsi at e
  split at e
  · rename_i y t
    obtain ⟨x, u, rfl, hx, hu⟩ := ra2 r
    cases t with
    | ty n =>
      have hu : u = .ty n := by unfold R at hu; exact hu
      subst hu
      dsimp only [isi2] at e
      split at e
      · rename_i a ha
        split at e
        · rename_i hn
          cases e
          obtain ⟨t1, t2⟩ := tag_ty w.sub hx ha
          exact ⟨x, _, _, _, isB a n, rfl, .ty n, t1, kit_ty (isB_ok a t2 n (by simpa using hn)), give w r_bl h⟩
        · cases e
      · cases e
    | cls j =>
      have hu : u = .ref (c.cl j) := by unfold R at hu; exact hu
      subst hu
      dsimp only [isi2] at e
      split at e
      · rename_i a ha
        split at e
        · rename_i hal
          cases e
          obtain ⟨t1, t2⟩ := tag_ty w.sub hx ha
          have I := hk j (by simpa using hal)
          exact ⟨x, _, _, _, false, rfl, .own _, t1, I.bt a t2, give w r_bl h⟩
        · cases e
      · cases y with
        | obj k gs =>
          dsimp only at e
          by_cases hc : k = j ∧ al.contains k
          · rw [if_pos hc] at e
            cases e
            obtain ⟨rfl, hal⟩ := hc
            have I := hk k (by simpa using hal)
            obtain ⟨p, dx, fs, e1, hH, _, _⟩ := r_obj_inv hx
            refine ⟨x, _, _, _, true, rfl, .own _, by rw [e1]; exact .base (.ins (w.sub _ _ hH) I.cl I.ca I.cn I.ct I.cm), ?_, give w r_bl h⟩
            unfold PySem.W.kitOne
            simp
          · rw [if_neg hc] at e; cases e
        | _ => cases e
    | _ => cases e
  · cases e
end
end MX


set_option Elab.async false
set_option linter.all false
set_option maxRecDepth 100000
namespace MX
open PySem PySem.Spec PyProof.Rows L2
section
variable {c : Cs} {E : XK} {F H : Hp} {θ : List Addr}
/-- the list that a comprehension makes grows -/
theorem up_acc {Da : Addr} {F1 : Hp} {θ1 : List Addr} {s1 : Sto} {H1 : Hp} {o : HO} (hn : H Da = none) (x : Ext F θ H F1 θ1 H1) (w1 : WOk c s1 F1 θ1 H1) (nF : F1 Da = none) (nt : Da ∉ θ1) (nH : H1 Da ≠ none) :
    Ext F θ H F1 θ1 (upd H1 Da o) ∧ WOk c s1 F1 θ1 (upd H1 Da o) := by
  refine ⟨⟨x.fr, x.th, fun a u h n => ?_, x.nc, x.nf, fun a n => ?_⟩, ⟨w1.sub.updR nF, fun a m => ?_, w1.nd, w1.len, fun i a es h1 h2 => ?_⟩⟩
  · rw [upd_ne (ne_of_none h hn)]; exact x.kp a u h n
  · by_cases q : a = Da
    · subst q; rw [upd_same]; simp
    · rw [upd_ne q]; exact x.al a n
  · have q : a ≠ Da := fun z => nt (z ▸ m)
    rw [upd_ne q]; exact w1.fc a m
  · obtain ⟨xs, h3, h4⟩ := w1.cel i a es h1 h2
    have q : a ≠ Da := fun z => nt (z ▸ List.mem_of_getElem? h1)
    exact ⟨xs, by rw [upd_ne q]; exact h3, h4⟩

mutual
theorem gP_gen {s : Sto} {C : L2.St → List Sl → Prop} (hw : WOk c s F θ H) (hC : ∀ (σ : L2.St) (ρ : List Sl) (i : Nat) (v : V) (d : D), C σ ρ → R c F θ v d → C (σ.set i (some v)) (ρ.set i (.val d))) : ∀ (p : Pt) (σ : L2.St) (ρ ρ' : List Sl) (v : V) (d : D) (Q : L2.St → Hp → Prop), C σ ρ → R c F θ v d → setP p ρ d = some ρ' →
    (∀ σ', C σ' ρ' → But p.slots σ σ' → Q σ' H) → gP c.K p v σ H Q
  | .nm i, σ, ρ, ρ', v, d, Q, he, r, e, k => by
    unfold setP at e
    cases e
    exact k _ (hC _ _ _ _ _ he r) fun vs h => wipe_set (h i (by simp [Pt.slots]))
  | .tup p, σ, ρ, ρ', v, d, Q, he, r, e, k => by
    unfold setP at e
    split at e
    · rename_i ds
      split at e
      · rename_i hl
        obtain ⟨a, xs, rfl, ha, q⟩ := r_tup_inv r
        exact ⟨a, xs, rfl, hw.sub.t ha.t, by rw [q.length]; exact hl, gPs_gen hw hC p σ ρ ρ' xs ds Q he q e k⟩
      · cases e
    · cases e
  | .nil, σ, ρ, ρ', v, d, Q, he, r, e, k => by unfold setP at e; cases e
  | .cons _ _, σ, ρ, ρ', v, d, Q, he, r, e, k => by unfold setP at e; cases e
theorem gPs_gen {s : Sto} {C : L2.St → List Sl → Prop} (hw : WOk c s F θ H) (hC : ∀ (σ : L2.St) (ρ : List Sl) (i : Nat) (v : V) (d : D), C σ ρ → R c F θ v d → C (σ.set i (some v)) (ρ.set i (.val d))) : ∀ (p : Pt) (σ : L2.St) (ρ ρ' : List Sl) (vs : List V) (ds : List D) (Q : L2.St → Hp → Prop), C σ ρ → RA c F θ vs ds → setPs p ρ ds = some ρ' →
    (∀ σ', C σ' ρ' → But p.slots σ σ' → Q σ' H) → gPs c.K p vs σ H Q
  | .nil, σ, ρ, ρ', vs, [], Q, he, r, e, k => by
    unfold setPs at e
    cases e
    exact ⟨r.nil_inv, k σ he fun _ _ => rfl⟩
  | .nil, σ, ρ, ρ', vs, _ :: _, Q, he, r, e, k => by unfold setPs at e; cases e
  | .cons p q, σ, ρ, ρ', vs, [], Q, he, r, e, k => by unfold setPs at e; cases e
  | .cons p q, σ, ρ, ρ', vs, d :: ds, Q, he, r, e, k => by
    unfold setPs at e
    cases z : setP p ρ d with
    | none => rw [z] at e; cases e
    | some ρ1 =>
      rw [z] at e
      obtain ⟨v, r', rfl, r1, r2⟩ := r.cons_inv
      refine ⟨v, r', rfl, gP_gen hw hC p σ ρ ρ1 v d _ he r1 z fun σ1 he1 b1 => ?_⟩
      refine gPs_gen hw hC q σ1 ρ1 ρ' r' ds Q he1 r2 e fun σ2 he2 b2 => k σ2 he2 fun ws h => ?_
      rw [b2 ws fun i hi => h i (by simp [Pt.slots, hi]), b1 ws fun i hi => h i (by simp [Pt.slots, hi])]
  | .nm _, σ, ρ, ρ', vs, ds, Q, he, r, e, k => by unfold setPs at e; cases e
  | .tup _, σ, ρ, ρ', vs, ds, Q, he, r, e, k => by unfold setPs at e; cases e
end
/-- the heap but for one address -/
def off (H : Hp) (Da : Addr) : Hp := fun a => if a = Da then none else H a
theorem off_same {H : Hp} {Da : Addr} : off H Da Da = none := by simp [off]
theorem off_some {H : Hp} {Da a : Addr} {o : HO} (h : off H Da a = some o) : H a = some o ∧ a ≠ Da := by
  unfold off at h
  by_cases q : a = Da
  · simp [q] at h
  · simp [q] at h; exact ⟨h, q⟩
theorem off_ne {H : Hp} {Da a : Addr} (h : off H Da a ≠ none) : H a ≠ none := by
  cases z : off H Da a with
  | none => exact absurd z h
  | some o => rw [(off_some z).1]; simp
theorem off_eq {H : Hp} {Da a : Addr} (h : a ≠ Da) : off H Da a = H a := by simp [off, h]
theorem ext_to_off {Da : Addr} {F1 : Hp} {θ1 : List Addr} {H1 : Hp} (hn : H Da = none) (x : Ext F θ H F1 θ1 H1) : Ext F θ H F1 θ1 (off H1 Da) :=
  ⟨x.fr, x.th, fun a u h n => by rw [off_eq (ne_of_none h hn)]; exact x.kp a u h n, x.nc, x.nf, fun a n => by
    have q : a ≠ Da := fun z => n (z ▸ hn)
    rw [off_eq q]; exact x.al a n⟩
theorem ext_from_off {Da : Addr} {F1 : Hp} {θ1 : List Addr} {H1 : Hp} (x : Ext F θ H F1 θ1 H1) : Ext F θ (off H Da) F1 θ1 H1 :=
  ⟨x.fr, x.th, fun a u h n => x.kp a u (off_some h).1 n, fun a m n => by
    by_cases q : a = Da
    · rw [q]; exact off_same
    · rw [off_eq q]; exact x.nc a m n, fun a e n => x.nf a e (off_ne n), fun a n => x.al a (off_ne n)⟩
theorem compL_nx {p : Pt} {t : Fn Bool} {e : Fn D} {ρ : List Sl} : ∀ (ds : List D) (s : Sto), noX (compL p t e ρ ds s) = compL p t e ρ ds s
  | [], s => rfl
  | d :: ds, s => by
    unfold compL
    cases setP p ρ d with
    | none => rfl
    | some ρ1 =>
      dsimp only
      cases t ρ1 s with
      | bad => rfl
      | exc k fs s2 => rfl
      | ok k s2 =>
        show noX (if k = true then _ else _) = (if k = true then _ else _)
        cases k with
        | false => exact compL_nx ds s2
        | true =>
          simp only [if_true]
          cases e ρ1 s2 with
          | bad => rfl
          | exc k fs s2 => rfl
          | ok y s3 =>
            show noX ((compL p t e ρ ds s3).bind _) = (compL p t e ρ ds s3).bind _
            have h := compL_nx (p := p) (t := t) (e := e) (ρ := ρ) ds s3
            cases z : compL p t e ρ ds s3 with
            | bad => rfl
            | exc k fs s2 => rw [z] at h; cases h
            | ok y s3 => rfl
def fin (xs : List D) (s : Sto) : Res (List D) := if small xs.length then .ok xs s else .bad
def compL2 (p : Pt) (t : Fn Bool) (w1 : Fn (List D)) (p1 : Pt) (t1 : Fn Bool) (e : Fn D) (ρ : List Sl) (vs1 : List Nat) : List D → Sto → Res (List D)
  | [], s => .ok [] s
  | d :: ds, s => match setP p ρ d with
    | some ρ1 => (noX (t ρ1 s)).bind fun k s => if k = true then (noX (w1 ρ1 s)).bind fun ds1 s => (compL p1 t1 e (wipeR ρ1 vs1) ds1 s).bind fun r1 s => (compL2 p t w1 p1 t1 e ρ vs1 ds s).bind fun r s => .ok (r1 ++ r) s
      else compL2 p t w1 p1 t1 e ρ vs1 ds s
    | none => .bad
theorem compL2_nx {p p1 : Pt} {t t1 : Fn Bool} {w1 : Fn (List D)} {e : Fn D} {ρ : List Sl} {vs1 : List Nat} : ∀ (ds : List D) (s : Sto), noX (compL2 p t w1 p1 t1 e ρ vs1 ds s) = compL2 p t w1 p1 t1 e ρ vs1 ds s
  | [], s => rfl
  | d :: ds, s => by
    unfold compL2
    cases setP p ρ d with
    | none => rfl
    | some ρ1 =>
      dsimp only
      cases t ρ1 s with
      | bad => rfl
      | exc k fs s2 => rfl
      | ok k s2 =>
        show noX (if k = true then _ else _) = (if k = true then _ else _)
        cases k with
        | false => exact compL2_nx ds s2
        | true =>
          simp only [if_true]
          cases w1 ρ1 s2 with
          | bad => rfl
          | exc k fs s2 => rfl
          | ok ds1 s3 =>
            show noX ((compL p1 t1 e (wipeR ρ1 vs1) ds1 s3).bind _) = (compL p1 t1 e (wipeR ρ1 vs1) ds1 s3).bind _
            have h0 := compL_nx (p := p1) (t := t1) (e := e) (ρ := wipeR ρ1 vs1) ds1 s3
            cases z0 : compL p1 t1 e (wipeR ρ1 vs1) ds1 s3 with
            | bad => rfl
            | exc k fs s2 => rw [z0] at h0; cases h0
            | ok r1 s4 =>
              show noX ((compL2 p t w1 p1 t1 e ρ vs1 ds s4).bind _) = (compL2 p t w1 p1 t1 e ρ vs1 ds s4).bind _
              have h := compL2_nx (p := p) (t := t) (w1 := w1) (p1 := p1) (t1 := t1) (e := e) (ρ := ρ) (vs1 := vs1) ds s4
              cases z : compL2 p t w1 p1 t1 e ρ vs1 ds s4 with
              | bad => rfl
              | exc k fs s2 => rw [z] at h; cases h
              | ok y s3 => rfl
def dComp2 (w : Fn (List D)) (p : Pt) (t : Fn Bool) (w1 : Fn (List D)) (p1 : Pt) (t1 : Fn Bool) (e : Fn D) (vs vs1 : List Nat) : Fn (List D) := fun ρ s => (w ρ s).bind fun ds s => (compL2 p t w1 p1 t1 e (wipeR ρ vs) vs1 ds s).bind fin
theorem bind_assoc {α β γ : Type} (r : Res α) (f : α → Sto → Res β) (g : β → Sto → Res γ) : (r.bind f).bind g = r.bind fun a s => (f a s).bind g := by cases r <;> rfl
theorem wipe_idem {σ σ2 : L2.St} {vs : List Nat} (h : wipe σ2 vs = wipe (wipe σ vs) vs) : wipe σ2 vs = wipe σ vs := by
  rw [h]
  apply List.ext_getElem?
  intro j
  rw [wipe_get, wipe_length]
  by_cases q : j ∈ vs
  · simp [q, wipe_get]
  · simp [q]
theorem den_comp2 {wi wi1 : TI} {w w1 : Fn (List D)} {p p1 : Pt} {tt tt1 : TT} {t t1 : Fn Bool} {te : TE} {e : Fn D} {vs vs1 : List Nat} (hs : SrcX c E wi w) (ht : DenT c EX0 tt t) (hs1 : SrcS c EX0 wi1 w1) (ht1 : DenT c EX0 tt1 t1) (he : DenE c EX0 te e)
    (hv : p.slots.all fun i => vs.contains i) (hv1 : p1.slots.all fun i => vs1.contains i) :
    DenF c E (tLc2 wi (gP c.K p) tt wi1 (gP c.K p1) tt1 te vs vs1) (dComp2 w p t w1 p1 t1 e vs vs1) := by
  intro H0 σ ρ s0 F θ H Q hE0 hw0 hp0
  refine hs H0 σ ρ s0 F θ H _ hE0 hw0 ?_
  unfold dComp2 at hp0
  cases ew : w ρ s0 with
  | bad => rw [ew] at hp0; exact hp0
  | exc k fs s' => rw [ew] at hp0; exact hp0
  | ok ds s =>
  rw [ew] at hp0
  intro J F' θ' H' x0 hw hit
  have hp := hp0.shift x0
  have hE := hE0.ext x0
  have anti : ∀ {Qq : V → Hp → Prop} {r : Res (List D)}, Post c E (rF c) r F' θ' H' Qq → Post c E (rF c) r F' θ' H' Qq := fun h => h
  clear hp0
  have hp : Post c E (rF c) ((compL2 p t w1 p1 t1 e (wipeR ρ vs) vs1 ds s).bind fin) F' θ' H' Q := hp
  clear hE0 hw0 x0 ew
  revert hp hE hw hit
  generalize F' = F; generalize θ' = θ; generalize H' = H
  intro hw hit hE hp
  intro Da hn
  have hit : IterX c J ds F θ H := hit
  have hslots : ∀ i ∈ p.slots, i ∈ vs := fun i hi => by
    have := List.all_eq_true.mp hv i hi
    simpa using this
  have hslots1 : ∀ i ∈ p1.slots, i ∈ vs1 := fun i hi => by
    have := List.all_eq_true.mp hv1 i hi
    simpa using this
  let Inv : Nat → Hp → Prop := fun i H1 => ∃ (F1 : Hp) (θ1 : List Addr) (s1 : Sto) (acc : List V) (ad : List D), Ext F θ H F1 θ1 H1 ∧ WOk c s1 F1 θ1 H1 ∧ F1 Da = none ∧ Da ∉ θ1 ∧ H1 Da = some (.lst acc) ∧ RA c F1 θ1 acc ad ∧ i ≤ ds.length ∧
    Post c E (rF c) ((compL2 p t w1 p1 t1 e (wipeR ρ vs) vs1 (ds.drop i) s1).bind fun r s => fin (ad ++ r) s) F θ H Q
  refine ⟨fun i m H1 => m = ds.length - i ∧ Inv i H1, ⟨ds.length, by simp, ?_⟩, ?_⟩
  · exact ⟨F, θ, s, [], [], Ext.newH hn, hw.newH hn, (hw.free hn).1, (hw.free hn).2, upd_same, RA.nil, by simp, by rw [List.drop_zero]; exact hp⟩
  · rintro i m H1 ⟨rfl, F1, θ1, s1, acc, ad, x1, w1', nF, nt, hD, ra, hil, hp1⟩
    obtain ⟨hgo, hstop⟩ := hit F1 θ1 H1 x1 w1'.sub
    by_cases hlt : i < ds.length
    · obtain ⟨d, hd⟩ : ∃ d, ds[i]? = some d := ⟨ds[i], List.getElem?_eq_getElem hlt⟩
      obtain ⟨g1, g2⟩ := hgo i d hd
      refine .inr ⟨g1, Inv (i + 1), fun H' h' => ⟨ds.length - (i + 1), by omega, rfl, h'⟩, fun x H' y => ?_⟩
      obtain ⟨rfl, rx⟩ := g2 x H' y
      have hdr : ds.drop i = d :: ds.drop (i + 1) := by
        rw [List.drop_eq_getElem_cons hlt]
        rw [List.getElem?_eq_getElem hlt] at hd
        rw [Option.some.inj hd]
      rw [hdr] at hp1
      unfold compL2 at hp1
      cases z : setP p (wipeR ρ vs) d with
      | none => rw [z] at hp1; exact hp1.elim
      | some ρ1 =>
        rw [z] at hp1
        dsimp only at hp1
        have hE1 := EnvOk.wipe (hE.ext x1) vs
        have hEm1 := EnvOk.wipe (hE.ext (ext_to_off hn x1)) vs
        refine gP_gen (C := fun σ ρ => EnvOk c H0 F1 θ1 H' σ ρ ∧ EnvOk c H0 F1 θ1 (off H' Da) σ ρ) w1' (fun σ ρ i v d h r => ⟨h.1.setVal r, h.2.setVal r⟩) p _ _ ρ1 x d _ ⟨hE1, hEm1⟩ rx z fun σ2 hE2' hb => ⟨wipe_idem (hb vs hslots), ?_⟩
        obtain ⟨hE2, hEm⟩ := hE2'
        refine ht H0 σ2 ρ1 s1 F1 θ1 H' _ hE2 w1' ?_
        cases zt : t ρ1 s1 with
        | bad => rw [zt] at hp1; exact hp1.elim
        | exc k fs s2 => rw [zt] at hp1; exact hp1.elim
        | ok k s2 =>
          rw [zt] at hp1
          intro b F3 θ3 H3 x3 w3 hbk
          have hbk : b = k := hbk
          subst hbk
          have nH1 : H' Da ≠ none := by rw [hD]; simp
          have nF3 : F3 Da = none := x3.nf Da nF nH1
          have nt3 : Da ∉ θ3 := fun mm => nH1 (x3.nc Da mm nt)
          have hD3 : H3 Da = some (.lst acc) := x3.kp Da _ hD nt
          have ra3 := RA.mono x3.fr x3.th ad ra
          have x13 := x1.trans x3
          have hE3 := hE2.ext x3
          cases b with
          | false => exact ⟨F3, θ3, s2, acc, ad, x13, w3, nF3, nt3, hD3, ra3, by omega, hp1⟩
          | true =>
            show wi1 σ2 H3 _
            refine hs1 H0 σ2 ρ1 s2 F3 θ3 H3 _ hE3 w3 ?_
            have hp2 : Post c E (rF c) (((noX (w1 ρ1 s2)).bind fun ds1 s => (compL p1 t1 e (wipeR ρ1 vs1) ds1 s).bind fun r1 s => (compL2 p t w1 p1 t1 e (wipeR ρ vs) vs1 (ds.drop (i + 1)) s).bind fun r s => .ok (r1 ++ r) s).bind fun r s => fin (ad ++ r) s) F θ H Q := hp1
            cases zw : w1 ρ1 s2 with
            | bad => rw [zw] at hp2; exact hp2.elim
            | exc k fs s3 => rw [zw] at hp2; exact hp2.elim
            | ok ds1 s3 =>
              rw [zw] at hp2
              intro J1 F4 θ4 H4 x4 w4 hit1
              have hit1 : IterS c J1 ds1 F4 θ4 := hit1
              have nH3 : H3 Da ≠ none := by rw [hD3]; simp
              have nF4 : F4 Da = none := x4.nf Da nF3 nH3
              have nt4 : Da ∉ θ4 := fun mm => nH3 (x4.nc Da mm nt3)
              have hD4 : H4 Da = some (.lst acc) := x4.kp Da _ hD3 nt3
              have ra4 := RA.mono x4.fr x4.th ad ra3
              have x14 := x13.trans x4
              have hE4 := hE3.ext x4
              have hp3 : Post c E (rF c) ((compL p1 t1 e (wipeR ρ1 vs1) ds1 s3).bind fun r1 s => (compL2 p t w1 p1 t1 e (wipeR ρ vs) vs1 (ds.drop (i + 1)) s).bind fun r s => fin (ad ++ (r1 ++ r)) s) F θ H Q := by
                have h := hp2
                dsimp only [noX, Res.bind] at h
                have e1 : ((compL p1 t1 e (wipeR ρ1 vs1) ds1 s3).bind fun r1 s => (compL2 p t w1 p1 t1 e (wipeR ρ vs) vs1 (ds.drop (i + 1)) s).bind fun r s => fin (ad ++ (r1 ++ r)) s) =
                    ((compL p1 t1 e (wipeR ρ1 vs1) ds1 s3).bind fun r1 s => (compL2 p t w1 p1 t1 e (wipeR ρ vs) vs1 (ds.drop (i + 1)) s).bind fun r s => .ok (r1 ++ r) s).bind fun r s => fin (ad ++ r) s := by
                  rw [bind_assoc]
                  congr 1
                  funext r1 s
                  rw [bind_assoc]
                  rfl
                rw [e1]
                exact h
              let Inv1 : Nat → Hp → Prop := fun j H5 => ∃ (F5 : Hp) (θ5 : List Addr) (s5 : Sto) (acc5 : List V) (ad5 : List D), Ext F1 θ1 (off H' Da) F5 θ5 H5 ∧ Le F4 F5 ∧ Pre θ4 θ5 ∧ WOk c s5 F5 θ5 H5 ∧ F5 Da = none ∧ Da ∉ θ5 ∧ H5 Da = some (.lst acc5) ∧ RA c F5 θ5 acc5 ad5 ∧ j ≤ ds1.length ∧
                Post c E (rF c) ((compL p1 t1 e (wipeR ρ1 vs1) (ds1.drop j) s5).bind fun r1 s => (compL2 p t w1 p1 t1 e (wipeR ρ vs) vs1 (ds.drop (i + 1)) s).bind fun r s => fin (ad5 ++ (r1 ++ r)) s) F θ H Q
              have x1m : Ext F θ H F1 θ1 (off H' Da) := ext_to_off hn x1
              have x4m : Ext F1 θ1 (off H' Da) F4 θ4 H4 := ext_from_off (x3.trans x4)
              refine ⟨fun j k H5 => k = ds1.length - j ∧ Inv1 j H5, ⟨ds1.length, by simp, ?_⟩, ?_⟩
              · exact ⟨F4, θ4, s3, acc, ad, x4m, Le.refl _, Pre.refl _, w4, nF4, nt4, hD4, ra4, by simp, by rw [List.drop_zero]; exact hp3⟩
              · rintro j k H5 ⟨rfl, F5, θ5, s5, acc5, ad5, x5, lf5, pt5, w5, nF5, nt5, hD5, ra5, hjl, hp5⟩
                obtain ⟨hgo1, hstop1⟩ := hit1 F5 θ5 H5 lf5 pt5 w5.sub
                by_cases hlt1 : j < ds1.length
                · obtain ⟨d1, hd1⟩ : ∃ d, ds1[j]? = some d := ⟨ds1[j], List.getElem?_eq_getElem hlt1⟩
                  obtain ⟨g3, g4⟩ := hgo1 j d1 hd1
                  refine .inr ⟨g3, Inv1 (j + 1), fun H6 h6 => ⟨ds1.length - (j + 1), by omega, rfl, h6⟩, fun x2 H6 y2 => ?_⟩
                  obtain ⟨rfl, rx2⟩ := g4 x2 H6 y2
                  have hdr1 : ds1.drop j = d1 :: ds1.drop (j + 1) := by
                    rw [List.drop_eq_getElem_cons hlt1]
                    rw [List.getElem?_eq_getElem hlt1] at hd1
                    rw [Option.some.inj hd1]
                  rw [hdr1] at hp5
                  unfold compL at hp5
                  cases z1 : setP p1 (wipeR ρ1 vs1) d1 with
                  | none => rw [z1] at hp5; exact hp5.elim
                  | some ρ2 =>
                    rw [z1] at hp5
                    dsimp only at hp5
                    have hE5 := EnvOk.wipe (hEm.ext x5) vs1
                    refine gP_ok w5 p1 _ _ ρ2 x2 d1 _ hE5 rx2 z1 fun σ3 hE6 hb1 => ⟨wipe_idem (hb1 vs1 hslots1), ?_⟩
                    refine ht1 H0 σ3 ρ2 s5 F5 θ5 H6 _ hE6 w5 ?_
                    cases zt1 : t1 ρ2 s5 with
                    | bad => rw [zt1] at hp5; exact hp5.elim
                    | exc k fs s2 => rw [zt1] at hp5; exact hp5.elim
                    | ok k1 s6 =>
                      rw [zt1] at hp5
                      intro b1 F6 θ6 H7 x6 w6 hbk1
                      have hbk1 : b1 = k1 := hbk1
                      subst hbk1
                      have nH5 : H6 Da ≠ none := by rw [hD5]; simp
                      have nF6 : F6 Da = none := x6.nf Da nF5 nH5
                      have nt6 : Da ∉ θ6 := fun mm => nH5 (x6.nc Da mm nt5)
                      have hD6 : H7 Da = some (.lst acc5) := x6.kp Da _ hD5 nt5
                      have ra6 := RA.mono x6.fr x6.th ad5 ra5
                      cases b1 with
                      | false => exact ⟨F6, θ6, s6, acc5, ad5, x5.trans x6, Le.trans lf5 x6.fr, Pre.trans pt5 x6.th, w6, nF6, nt6, hD6, ra6, by omega, hp5⟩
                      | true =>
                        show te σ3 H7 _
                        refine he H0 σ3 ρ2 s6 F6 θ6 H7 _ (hE6.ext x6) w6 ?_
                        have hp6 : Post c E (rF c) (((noX (e ρ2 s6)).bind fun y s => (compL p1 t1 e (wipeR ρ1 vs1) (ds1.drop (j + 1)) s).bind fun r s => .ok (y :: r) s).bind fun r1 s => (compL2 p t w1 p1 t1 e (wipeR ρ vs) vs1 (ds.drop (i + 1)) s).bind fun r s => fin (ad5 ++ (r1 ++ r)) s) F θ H Q := hp5
                        cases ze : e ρ2 s6 with
                        | bad => rw [ze] at hp6; exact hp6.elim
                        | exc k fs s3 => rw [ze] at hp6; exact hp6.elim
                        | ok yd s7 =>
                          rw [ze] at hp6
                          intro yv F7 θ7 H8 x7 w7 ry
                          have nH6 : H7 Da ≠ none := by rw [hD6]; simp
                          have nF7 : F7 Da = none := x7.nf Da nF6 nH6
                          have nt7 : Da ∉ θ7 := fun mm => nH6 (x7.nc Da mm nt6)
                          have hD7 : H8 Da = some (.lst acc5) := x7.kp Da _ hD6 nt6
                          have ra7 := RA.mono x7.fr x7.th ad5 ra6
                          have hp7 : Post c E (rF c) (((compL p1 t1 e (wipeR ρ1 vs1) (ds1.drop (j + 1)) s7).bind fun r s => .ok (yd :: r) s).bind fun r1 s => (compL2 p t w1 p1 t1 e (wipeR ρ vs) vs1 (ds.drop (i + 1)) s).bind fun r s => fin (ad5 ++ (r1 ++ r)) s) F θ H Q := hp6
                          obtain ⟨xu, wu⟩ := up_acc (o := .lst (acc5 ++ [yv])) off_same ((x5.trans x6).trans x7) w7 nF7 nt7 (by rw [hD7]; simp)
                          have hlen : acc5.length < sizeLine ∧ Post c E (rF c) ((compL p1 t1 e (wipeR ρ1 vs1) (ds1.drop (j + 1)) s7).bind fun r1 s => (compL2 p t w1 p1 t1 e (wipeR ρ vs) vs1 (ds.drop (i + 1)) s).bind fun r s => fin ((ad5 ++ [yd]) ++ (r1 ++ r)) s) F θ H Q := by
                            have n1 := compL_nx (p := p1) (t := t1) (e := e) (ρ := wipeR ρ1 vs1) (ds1.drop (j + 1)) s7
                            cases zr : compL p1 t1 e (wipeR ρ1 vs1) (ds1.drop (j + 1)) s7 with
                            | bad => rw [zr] at hp7; exact hp7.elim
                            | exc k fs s8 => rw [zr] at n1; cases n1
                            | ok r1 s8 =>
                              rw [zr] at hp7
                              have hp8 : Post c E (rF c) ((compL2 p t w1 p1 t1 e (wipeR ρ vs) vs1 (ds.drop (i + 1)) s8).bind fun r s => fin (ad5 ++ ((yd :: r1) ++ r)) s) F θ H Q := hp7
                              show _ ∧ Post c E (rF c) ((compL2 p t w1 p1 t1 e (wipeR ρ vs) vs1 (ds.drop (i + 1)) s8).bind fun r s => fin ((ad5 ++ [yd]) ++ (r1 ++ r)) s) F θ H Q
                              have n2 := compL2_nx (p := p) (t := t) (w1 := w1) (p1 := p1) (t1 := t1) (e := e) (ρ := wipeR ρ vs) (vs1 := vs1) (ds.drop (i + 1)) s8
                              cases zq : compL2 p t w1 p1 t1 e (wipeR ρ vs) vs1 (ds.drop (i + 1)) s8 with
                              | bad => rw [zq] at hp8; exact hp8.elim
                              | exc k fs s8 => rw [zq] at n2; cases n2
                              | ok r s9 =>
                                rw [zq] at hp8
                                have hp9 : Post c E (rF c) (fin (ad5 ++ ((yd :: r1) ++ r)) s9) F θ H Q := hp8
                                show _ ∧ Post c E (rF c) (fin ((ad5 ++ [yd]) ++ (r1 ++ r)) s9) F θ H Q
                                have e2 : (ad5 ++ [yd]) ++ (r1 ++ r) = ad5 ++ ((yd :: r1) ++ r) := by simp
                                rw [e2]
                                refine ⟨?_, hp9⟩
                                unfold fin at hp9
                                split at hp9
                                · rename_i hz
                                  have hz := of_decide_eq_true hz
                                  have hsl : (1000000 : Nat) < sizeLine := by decide
                                  have := ra5.length
                                  simp only [List.length_append, List.length_cons] at hz
                                  omega
                                · exact hp9.elim
                          exact ⟨acc5, hD7, hlen.1, ⟨F7, θ7, s7, acc5 ++ [yv], ad5 ++ [yd], xu, Le.trans lf5 (Le.trans x6.fr x7.fr), Pre.trans pt5 (Pre.trans x6.th x7.th), wu, nF7, nt7, upd_same, ra7.append (RA.cons ry RA.nil), by omega, hlen.2⟩⟩
                · have ej : j = ds1.length := by omega
                  have e0 : ds1.drop j = [] := List.drop_eq_nil_of_le (by omega)
                  rw [e0] at hp5
                  have hp6 : Post c E (rF c) ((compL2 p t w1 p1 t1 e (wipeR ρ vs) vs1 (ds.drop (i + 1)) s5).bind fun r s => fin (ad5 ++ r) s) F θ H Q := hp5
                  exact .inl ⟨hstop1 j (by omega), ⟨F5, θ5, s5, acc5, ad5, x1m.trans x5, w5, nF5, nt5, hD5, ra5, by omega, hp6⟩⟩
    · have ei : i = ds.length := by omega
      refine .inl ⟨hstop i (by omega), ?_⟩
      have e0 : ds.drop i = [] := List.drop_eq_nil_of_le (by omega)
      rw [e0] at hp1
      have hp2 : Post c E (rF c) (fin (ad ++ []) s1) F θ H Q := hp1
      rw [List.append_nil] at hp2
      unfold fin at hp2
      split at hp2
      · exact hp2 (V.ref Da) F1 θ1 H1 x1 w1' ⟨Da, acc, rfl, hn, nF, nt, hD, ra⟩
      · exact hp2.elim
end
end MX


set_option Elab.async false
set_option linter.all false
set_option maxRecDepth 100000
namespace MX
open PySem PySem.Spec PyProof.Rows L2
section
variable {X : Cx} {tg : Expr}
/-- walking a list or a tuple -/
theorem pi_seq {l : Expr} {te : TE} (hl : PE X l te) : PI X tg l (iSeq X.K te) := by
  constructor
  intro pins s σ H R I h
  refine thn (hl.run pins s σ H _ I h) ?_
  rintro v s1 ⟨x, H1, I1, r1, q1⟩
  have old : s1.heap.objs.size ≤ s1.heap.objs.size := Nat.le_refl _
  have fp1 : ∀ b ∈ [s1.heap.objs.size], FpOk X pins H1 b := by
    intro b hb
    rw [List.mem_singleton.mp hb]
    exact I1.fpOk old (I1.hok.fresh old)
  rcases q1 with ⟨a, e, ⟨xs, hq⟩, q⟩ | ⟨a, e, ⟨xs, hq⟩, q⟩
  · subst e
    cases r1
    obtain ⟨its, rv, p, hz⟩ := I1.list hq
    apply wpAny_pyIter_list p.isList
    have st : (s1.heap.push { cls := .type "list_iterator", data := .fields #[.ref a, .int 0 0] }).IsListIter s1.heap.objs.size a 0 := ⟨_, Heap.get?_push_size _ rfl, rfl, rfl⟩
    exact ⟨_, _, _, _, H1, rfl, I1.kept (t' := s1.toks) (fun b o e => Heap.get?_push_of_some _ e), turn_list a _, st, fp1, q⟩
  · subst e
    cases r1
    obtain ⟨its, rv, p, hz⟩ := I1.tuple hq
    have p' : s1.heap.IsTuple a its.toArray := p
    apply wpAny_pyIter_tuple p'
    have st : (s1.heap.push { cls := .type "tuple_iterator", data := .fields #[.ref a, .int 0 0] }).IsTupleIter s1.heap.objs.size a 0 := ⟨_, Heap.get?_push_size _ rfl, rfl, rfl⟩
    exact ⟨_, _, _, _, H1, rfl, I1.kept (t' := s1.toks) (fun b o e => Heap.get?_push_of_some _ e), turn_tuple a _, st, fp1, q⟩
end

/-! ### iter(tuple), and a walk over an own object whose __iter__ gives it -/
def itT (l : Addr) : Obj := { cls := .type "tuple_iterator", data := .fields #[.ref l, .int 0 0] }
def ItT (l it : Addr) : HO := .ext fun h => h.get? it = some (itT l)
def rItT (K : PySem.W.Frag) (n : Nat) : List V → Hp → VK → Prop := fun xs H Q => ∃ (l : Addr) (zs : List V), xs = [V.ref l] ∧ SqT K H l zs ∧ ∀ it, H it = none → n ≤ it → Q (V.ref it) (upd H it (ItT l it))
section
variable {prog : Program} {w : World} {A : Around} {E : Value → Shared → Prop} {s : Shared} {l : Addr} {items : Array Value}
theorem mx_iterT {Q : Value → Shared → Prop} (hl : s.heap.IsTuple l items) (h : Q (.ref s.heap.objs.size) { s with heap := s.heap.push (itT l) }) :
    wpAny (model prog w) A (call (.builtin "iter") [.ref l]) Q E s := by
  apply Calls.call_function_entry (by decide +kernel) (by decide +kernel) PySem.W.kdk_entry_iter (PySem.W.kdk_args_iter _)
  unfold Builtin.«iter»
  apply wpAny_bind (m := someArgs "iter" 1 2 _)
  apply wpAny_of_eq (a := [Value.ref l]) (by first | rfl | kernel_rfl!)
  show wpAny _ _ (pyIter (.ref l) >>= _) _ _ _
  apply wpAny_bind
  apply wpAny_pyIter_tuple hl
  apply wpAny_pure
  exact ⟨_, rfl, h⟩
end
section
variable {X : Cx}
theorem cr_iterT : CallR X (.builtin "iter") (rItT X.K X.s_0.heap.objs.size) := by
  rintro pins s σ H xs us Q I r ⟨l, zs, rfl, hq, q⟩
  obtain ⟨u, rfl, ru⟩ := vals1 r
  cases ru
  obtain ⟨its, rv, pl, hz⟩ := I.tuple hq
  have pl' : s.heap.IsTuple l its.toArray := pl
  apply mx_iterT pl'
  have ok : ObjOk X.prog X.w (upd H s.heap.objs.size (ItT l s.heap.objs.size)) (s.heap.push (itT l)) s.heap.objs.size (ItT l s.heap.objs.size) := by
    have e := Heap.get?_push_size s.heap (o := itT l) rfl
    exact ⟨e, ⟨_, e⟩, fun h1 h2 q k => k _ q⟩
  exact ⟨V.ref s.heap.objs.size, _, I.laid (t' := s.toks) (fun b u e => Heap.get?_push_of_some _ e) (Nat.le_refl _) ok, rfl, q _ (I.hok.fresh (Nat.le_refl _)) I.sz⟩
end
/-- as FnOk; the promise may speak of the size of the heap at the call -/
structure FnS (P : Program) (w : World) (K : PySem.W.Frag) (mg : Str → Option Value) (base : Heap) (CX : CXT) (k : Nat) (f : Addr) (fd : FuncData) (ps : List Str)
    (sp : Nat → Sp) : Prop where
  len : ∀ n vs H Q E, sp n vs H Q E → vs.length = ps.length
  run : ∀ (A : Around) (outer : List Env) (s : Shared) (H : Hp) (args : Args) (us : List Value) (vs : List V) (Q : VK) (E : XK), Room k A → Env0 P w K mg base A outer s H →
    BindsTo s fd args (ps.zip us) → Vals vs us → sp s.heap.objs.size vs H Q E → codeAny (model P w) A (.call (.ref f) args) (CR CX outer P w H s Q E) s
theorem okS {CX : CXT} {P : Program} {w : World} {K : PySem.W.Frag} {mg : Str → Option Value} {base : Heap} {x qual : Str} {st : Stmt} {f : Addr} {fd : FuncData}
    {N ps : List Str} {k : Nat} {sp : Nat → Sp} (F : Fun K x qual st f fd) (S : FnScope N ps (defScope st)) (len : ∀ n vs H Q E, sp n vs H Q E → vs.length = ps.length)
    (hbody : ∀ (cdv : Value) (A : Around) (outer : List Env) (s : Shared) (H : Hp) (vs : List V) (Q : VK) (E : XK), sp s.heap.objs.size vs H Q E →
      ∃ t, PSs (cxOf CX P w K mg base N qual (defScope st) f cdv A outer s H E) (defBody st) t ∧ t { nx := fun _ H' => Q .non H', rt := Q } (start N vs) H) : FnS P w K mg base CX (k + 1) f fd ps sp := by
  obtain ⟨oc, od, kV, doc, pm, an, cdv, ct, osl, rfl, lk, hcd⟩ := F.ex
  refine ⟨len, ?_⟩
  intro A outer s H args us vs Q E hr e0 hb r hsp
  have stay : ∀ b o, base.get? b = some o → s.heap.get? b = some o := fun b o e => (e0.bs b o e).1
  have KX := e0.mod.kin.keeps stay
  have kinds : ∀ y ∈ ps.zip us, (defScope st).names.lookup y.1 = some .local ∨ ((defScope st).names.lookup y.1 = some .cell ∧ ((cellsFrom (s.heap.objs.size + 1) (defScope st).names []).lookup y.1).isSome = true) := by
    intro y hy
    exact (S.par y.1 (List.of_mem_zip hy).1).imp (fun z => z) fun z => ⟨z, PySem.W.cellsFrom_some _ _ _ (.inl z)⟩
  refine codeAny_call_function hr.depth (KX _ _ lk) rfl S.co S.gen rfl (PySem.W.codeRec_of KX hcd) (hb _ _ _ _ ?_)
  refine wpAny_newFunctionEnv_cells S.kind kinds ?_
  rintro env he s1 y
  subst he
  refine ⟨(e0.mod.nolimit.keeps stay).keeps y.toInCall.keep, codeAny_func ?_⟩
  obtain ⟨t, ht, hq⟩ := hbody cdv A outer s H vs Q E hsp
  have I := inv_start (CX := CX) (E := E) S hr.hd e0 (len _ _ _ _ _ hsp) r y
  refine wpAny_mono (ht.run [] s1 (start N vs) H _ I hq) ?_ fun e s' hs => hs
  intro fl s' hs
  cases fl with
  | ret u =>
    obtain ⟨v, σ', H', J, rv, q⟩ := hs
    exact ⟨v, H', J.os, J.bare, J.base, J.hok, rv, q⟩
  | next =>
    obtain ⟨σ', H', J, q⟩ := hs
    exact ⟨V.non, H', J.os, J.bare, J.base, J.hok, rfl, q⟩
  | brk => exact hs.elim fun _ h => h.elim fun _ h => h.2.elim
  | cont => exact hs.elim fun _ h => h.elim fun _ h => h.2.elim
section
variable {X : Cx} {CX : CXT} {k : Nat} {f C : Addr} {fd : FuncData} {ps : List Str} {sp : Nat → Sp} {E : XK} {tg e : Expr} {te : TE}
def iOwn (K : PySem.W.Frag) (C : Addr) (sp : Nat → Sp) (E : XK) (te : TE) : TI := fun σ H R => te σ H fun x H1 => ∃ a dx fs, x = V.ref a ∧ H1 a = some (.ins C dx fs) ∧
  ∀ n, sp n [V.ref a] H1 (fun v H2 => ∃ l it, v = V.ref it ∧ n ≤ it ∧ H2 it = some (ItT l it) ∧ R (Itt K l) (ItX.dropH H2 it)) E
theorem pi_own (he : PE X e te) (F : FnS X.prog X.w X.K X.mg X.base CX k f fd ps sp) (hr : Room k X.A) (hs : PySem.W.findIn X.K (.ref C) "__iter__" = some (some (.ref f))) (hf : PySem.W.isFn X.K (.ref f) = true) (hb : Binds X.K fd ps []) (hx : Passes CX X E) :
    PI X tg e (iOwn X.K C sp E te) := by
  constructor
  intro pins s σ H R I h
  refine thn (he.run pins s σ H _ I h) ?_
  rintro v s1 ⟨x, H1, I1, r1, a, dx, fs, rfl, ha, hsp⟩
  cases r1
  obtain ⟨mA, J, _⟩ := ins_get I1.hok ha
  obtain ⟨od, J, _⟩ := J.look
  obtain ⟨m, hF⟩ := I1.fr
  apply PySem.W.owit_iter hF I1.ok.mod.kin J hs hf
  have hsp := hsp s1.heap.objs.size
  have hl := F.len _ _ _ _ _ hsp
  have bt : BindsTo s1 fd ⟨[.ref a], []⟩ (ps.zip [.ref a]) := by
    have := hb s1 [.ref a] I1.kIn (by simpa using hl)
    simpa using this
  apply wpAny_call
  refine codeAny_mono (F.run X.A X.stack s1 H1 ⟨[.ref a], []⟩ [.ref a] [V.ref a] _ E hr I1.env0 bt (.cons rfl .nil) hsp) ?_
  intro r s' hq
  cases r with
  | error e => exact hx pins σ H1 s1 e s' I1 hq
  | ok fl =>
    cases fl with
    | next => exact hq.elim
    | brk => exact hq.elim
    | cont => exact hq.elim
    | ret u =>
      obtain ⟨v, H2, I2, rv, l, it, rfl, young, hit, q⟩ := I1.after hq
      cases rv
      have eo : s'.heap.get? it = some (itT l) := (I2.hok it _ hit).1
      have st : s'.heap.IsTupleIter it l 0 := ⟨_, eo, rfl, rfl⟩
      unfold PySem.W.OwitIt
      refine wpAny_specialOf (name := Str.ofString "__next__") st.typeIs PySem.F.slot_tuple_iterator_next.lookup ?_
      exact ⟨it, [it], _, _, ItX.dropH H2 it, rfl, ItX.inv_drop I2 hit, turn_tuple l it, st, fun b hb => by
        rw [List.mem_singleton.mp hb]
        exact I1.fpOk young ItX.dropH_same, q⟩
end
end MX


set_option Elab.async false
set_option linter.all false
set_option maxRecDepth 100000
namespace MX
open PySem PySem.Spec PyProof.Rows L2
section
variable {c : Cs} {E : XK} {F H : Hp} {θ : List Addr}
/-! ### a star among the arguments; unary minus -/
def dStarF (ea : Fn D) (er : Fn (List D)) : Fn (List D) := fun ρ s => (ea ρ s).bind fun a s => match frzD a with
  | some xs => (er ρ s).bind fun r s => .ok (xs ++ r) s
  | none => .bad
theorem frz_of {s : Sto} (w : WOk c s F θ H) {v : V} {d : D} {ds : List D} (h : R c F θ v d) (e : frzD d = some ds) : ∃ a xs, v = V.ref a ∧ (SqT c.K H a xs ∨ SqL c.K H a xs) ∧ RA c F θ xs ds := by
  cases d with
  | tup es => cases e; obtain ⟨a, xs, r, ha, q⟩ := r_tup_inv h; exact ⟨a, xs, r, .inl (w.sub.t ha.t), q⟩
  | lst es => cases e; obtain ⟨a, xs, r, ha, q⟩ := r_lst_inv h; exact ⟨a, xs, r, .inr (SqL.of (w.sub _ _ ha)), q⟩
  | ro es => cases e; obtain ⟨a, xs, r, ha, q⟩ := r_ro_inv h; exact ⟨a, xs, r, .inr (w.sub.l ha), q⟩
  | _ => cases e
theorem den_star {te : TE} {tr : TA} {ea : Fn D} {er : Fn (List D)} (ha : DenE c E te ea) (hr : DenA c E tr er) : DenA c E (StX.tStar c.K te tr) (dStarF ea er) := by
  refine den_bind (K := fun σ x H1 Q => ∃ p xs, x = V.ref p ∧ (SqT c.K H1 p xs ∨ SqL c.K H1 p xs) ∧ tr σ H1 fun ys H2 => Q (xs ++ ys) H2) ha fun H0 σ ρ s F θ H Hi x a Q he hw q hp => ?_
  cases z : frzD a with
  | none => simp only [z] at hp; exact hp.elim
  | some xs =>
    simp only [z] at hp
    obtain ⟨p, us, e1, sq, ra⟩ := frz_of hw q z
    refine ⟨p, us, e1, sq, ?_⟩
    refine hr H0 σ ρ s F θ H _ he hw ?_
    cases e : er ρ s with
    | ok b s' =>
      rw [e] at hp
      exact fun y F' θ' H' ex w q2 => hp (us ++ y) F' θ' H' ex w ((RA.mono ex.fr ex.th xs ra).append q2)
    | exc k fs s' => rw [e] at hp; exact hp
    | bad => rw [e] at hp; exact hp
def fNeg : D → Sto → Option D := fun a _ => match a with
  | .int i => some (.int (-i))
  | _ => none
theorem ud_neg : UnD c (rU fun i => .int (-i)) fNeg := by
  intro s F θ H x a w hx Q d e k
  cases a with
  | int i =>
    cases e
    rw [r_int_inv hx]
    exact ⟨i, rfl, k _ F H (Ext.refl _ _ _) w (by unfold R; rfl)⟩
  | _ => cases e

/-! ### an own object that is walked: its __iter__ gives iter(a tuple) -/
def tupD : D → Option (List D)
  | .tup ds => some ds
  | _ => none
abbrev Mi := List D → Sto → Res (List D)
def spIt (c : Cs) (m : Mi) (n : Nat) : Sp := fun vs H Q E => vs.length = 1 ∧ ∃ F θ s ds, WOk c s F θ H ∧ RA c F θ vs ds ∧ match m ds s with
  | .ok xs s' => ∀ l us F' θ' H' it, Ext F θ H F' θ' H' → WOk c s' F' θ' H' → SqT c.K F' l us → RA c F' θ' us xs → n ≤ it → H' it = none → Q (V.ref it) (upd H' it (ItT l it))
  | .exc k fs s' => ∀ F' θ' H' dx, Ext F θ H F' θ' H' → WOk c s' F' θ' H' → XRep c F' θ' dx k fs → E (.ref (c.xc k)) dx H'
  | .bad => False
def itD (n : Nat) (e : Fn D) : Mi := fun ds s => (e (startR n ds) s).bind fun d s => Res.ofO (tupD d) s
/-- the body return iter(e) -/
theorem iter_ok {N : List Str} {n : Nat} {te : TE} {e : Fn D} {vs : List V} {H : Hp} {Q : VK} {E : XK} (ht : DenE c E te e) (h : spIt c (itD N.length e) n vs H Q E) :
    tRet (tCB (rItT c.K n) (tCons te tNil)) { nx := fun _ H' => Q .non H', rt := Q } (L2.start N vs) H := by
  obtain ⟨_, F, θ, s, ds, w, r, hp⟩ := h
  refine ht ⟨H, 0⟩ (L2.start N vs) (startR N.length ds) s F θ H _ (start_ok r) w ?_
  unfold itD at hp
  cases z : e (startR N.length ds) s with
  | bad => rw [z] at hp; exact hp.elim
  | exc k fs s' => rw [z] at hp; exact hp
  | ok d s' =>
    rw [z] at hp
    intro v F' θ' H' x w' q
    have q : R c F' θ' v d := q
    cases d with
    | tup xs =>
      obtain ⟨p, us, e1, ht, ra⟩ := r_tup_inv q
      exact ⟨p, us, by rw [e1], w'.sub.t ht.t, fun it hn hy => hp p us F' θ' H' it x w' ht.t ra hy hn⟩
    | _ => exact hp.elim
def wOwn (k : Nat) (m : Mi) (e : Fn D) : Fn (List D) := fun ρ s => (e ρ s).bind fun d s => match d with
  | .obj k' ds => if k' = k then m [.obj k' ds] s else .bad
  | _ => .bad
theorem src_own {k : Nat} {m : Mi} {te : TE} {e : Fn D} (h : DenE c E te e) : SrcS c E (iOwn c.K (c.cl k) (spIt c m) E te) (wOwn k m e) := by
  refine den_bind (r2 := rIS c) (K := fun σ x H1 Q => ∃ a dx fs, x = V.ref a ∧ H1 a = some (.ins (c.cl k) dx fs) ∧ ∀ n, spIt c m n [V.ref a] H1 (fun v H2 => ∃ l it, v = V.ref it ∧ n ≤ it ∧ H2 it = some (ItT l it) ∧ Q (Itt c.K l) (ItX.dropH H2 it)) E) h fun H0 σ ρ s F θ H Hi x a Q he hw q hp => ?_
  cases a with
  | obj k' ds =>
    dsimp only at hp
    split at hp
    · rename_i ek
      subst ek
      have q : R c F θ x (.obj k' ds) := q
      obtain ⟨p, dx, fs, e1, hH, hn, r⟩ := r_obj_inv q
      subst e1
      refine ⟨p, dx, fs, rfl, hw.sub _ _ hH, fun n => ⟨rfl, F, θ, s, _, hw, RA.cons q RA.nil, ?_⟩⟩
      cases z : m [.obj k' ds] s with
      | bad => rw [z] at hp; exact hp.elim
      | exc k fs s' => rw [z] at hp; exact hp
      | ok xs s' =>
        rw [z] at hp
        intro l us F' θ' H' it x w' hq ra hy hf
        refine ⟨l, it, rfl, hy, upd_same, ?_⟩
        unfold ItT
        rw [ItX.dropH_upd hf]
        exact hp _ F' θ' H' x w' (itt_of hq ra)
    · exact hp.elim
  | _ => exact hp.elim
end
end MX


set_option Elab.async false
set_option linter.all false
set_option maxRecDepth 100000
namespace MX
open PySem PySem.Spec PyProof.Rows L2
/-! ### enumerate(a tuple) -/
set_option maxHeartbeats 1000000 in
theorem mx_enum1 {v : Value} {o : Obj} {H : Heap → Prop} (B : Begins v o H) :
    Meets (Builtin.«enumerate.__new__» ⟨[.type "enumerate", v], []⟩) (fun _ R s => H s.heap ∧
      R (.ok (.ret (.ref (s.heap.push o).objs.size)))
        { s with heap := (s.heap.push o).push { cls := .type "enumerate", data := .fields #[.none, .bool false, .ref s.heap.objs.size, rawInt 0, .none, .none] } }) := by
  refine .of_wp ?_
  intro prog w A R s h
  obtain ⟨hp, g, d, tk, os⟩ := s
  obtain ⟨h1, h⟩ := h
  have hsub := sub_enumerate
  have q1 : ∀ {A' : Around} {E : Value → Shared → Prop} {Q : Value → Shared → Prop}, Q (.ref hp.objs.size) ⟨hp.push o, g, d, tk, os⟩ → wpAny (model prog w) A' (pyIter v) Q E ⟨hp, g, d, tk, os⟩ := by
    intro A' E Q q
    exact B.iter prog w _ _ ⟨hp, g, d, tk, os⟩ _ h1 q
  wp_walk using q1
  refine wpAny_stack_any fun st => ?_
  apply wpAny_pure
  split
  · rename_i cc _ _ _ _ _
    cases (cc == Value.type "enumerate") <;> (wp_walk using q1; exact ⟨_, rfl, h⟩)
  · wp_walk using q1
    exact ⟨_, rfl, h⟩
theorem mx_enumT {prog : Program} {w : World} {A : Around} {E : Value → Shared → Prop} {s : Shared} {l : Addr} {items : Array Value} {Q : Value → Shared → Prop} (hl : s.heap.IsTuple l items)
    (h : ∀ h', IsEnum h' (s.heap.objs.size + 1) s.heap.objs.size 0 .none → h'.IsTupleIter s.heap.objs.size l 0 → (∀ b o, s.heap.get? b = some o → h'.get? b = some o) →
      Q (.ref (s.heap.objs.size + 1)) { s with heap := h' }) : wpAny (model prog w) A (call (.type "enumerate") [.ref l]) Q E s := by
  refine callType_new PySem.F.called_enumerate (by decide) (PySem.F.typeCall_enumerate_1 _) (PySem.F.newCall_enumerate_1 _) (fun obj => PySem.F.args_object_init_2 obj _) PySem.F.entry_enumerate_new (mx_enum1 (begins_tuple l items)) ⟨hl, ?_⟩
  have size1 : (s.heap.push (itT l)).objs.size = s.heap.objs.size + 1 := Heap.size_push ..
  have at1 := Heap.get?_push_size s.heap (o := itT l) rfl
  have at2 := Heap.get?_push_size (s.heap.push (itT l)) (o := { cls := .type "enumerate", data := .fields #[.none, .bool false, .ref s.heap.objs.size, rawInt 0, .none, .none] }) rfl
  rw [size1] at at2
  show _ ∧ _
  unfold itT at size1 at1 at2
  rw [size1]
  exact ⟨⟨_, at2, rfl⟩, h _ at2 ⟨_, Heap.get?_push_of_some _ at1, rfl, rfl⟩ fun b o x => Heap.get?_push_of_some _ (Heap.get?_push_of_some _ x)⟩
def IteT (K : PySem.W.Frag) (a : Addr) : It where
  go := fun i H => ∃ (xs : List V) (x : V), SqT K H a xs ∧ xs[i]? = some x
  yld := fun i H v H' => ∃ T x, v = V.ref T ∧ H T = none ∧ H' = upd H T (.tup [.int (i : Nat), x]) ∧ ∀ xs, SqT K H a xs → xs[i]? = some x
  stop := fun i H => ∃ xs : List V, SqT K H a xs ∧ xs.length ≤ i
theorem turn_enumT {P : Program} {w : World} {K : PySem.W.Frag} {elts : List Expr} {kk : Nat} {tpos : Pos} (a e it : Addr) :
    Turn P w K (.Tuple elts kk tpos) (IteT K a) [e, it] e (fun i h => (∃ old, IsEnum h e it ((i : Nat) : Int) old) ∧ h.IsTupleIter it a i ∧ e ≠ it ∧ a ≠ it ∧ a ≠ e) where
  mem := by simp
  obj := by
    rintro i h ⟨⟨old, he⟩, ⟨o, ho, hc, hd⟩, _⟩ b hb
    rcases List.mem_cons.mp hb with z | z
    · rw [z]; exact ⟨_, he, fun v q => nomatch q⟩
    · rw [List.mem_singleton.mp z]; exact ⟨o, ho, fun v q => by rw [hd] at q; cases q⟩
  keep := by
    rintro i h h' ⟨⟨old, he⟩, hi, hne⟩ k
    exact ⟨⟨old, k e (by simp) _ he⟩, hi.at fun o q => k it (by simp) o q, hne⟩
  item := by
    intro X hP hw hK hc i pins s σ H E I hf st hg
    subst hP hw hK
    obtain ⟨⟨old, he⟩, hit, hne, hna, hnb⟩ := st
    obtain ⟨xs, x, hq, hx⟩ := hg
    obtain ⟨its, rv, p, hz⟩ := I.tuple hq
    have p' : s.heap.IsTuple a its.toArray := p
    obtain ⟨u, hu, ru⟩ := rv.get hx
    have hel : e < s.heap.objs.size := Heap.lt_size he
    have hil : it < s.heap.objs.size := by
      obtain ⟨_, q, _⟩ := hit
      exact Heap.lt_size q
    have lim : i < its.toArray.size := by
      have := (List.getElem?_eq_some_iff.mp hu).1
      simpa using this
    refine wpAny_pyNext_enum_itemD (Draws.tuple (prog := X.prog) (w := X.w) (A := X.A.in1) (I.ok.hd hc) it a hna its.toArray) he ⟨hit, p'⟩ lim hne (by simp [hne, Ne.symm hnb]) ?_
    intro y h' tk hy ho hit' hT hsz hk
    have ey : y = u := by
      have : its[i]? = some y := by simpa using hy
      rw [hu] at this
      exact (Option.some.inj this).symm
    subst ey
    refine ⟨_, rfl, wpAny_letOwnedTupleGo_enum (s := { s with heap := h', toks := tk + 1 }) ho ?_⟩
    intro h'' he' sb
    have hT2 : h''.get? s.heap.objs.size = some { cls := .type "tuple", data := .seq #[.int i tk, y] } := (sb.2 _ (Nat.ne_of_gt hel)).trans hT
    have new : ObjOk X.prog X.w (upd H s.heap.objs.size (.tup [.int (i : Nat), x])) h'' s.heap.objs.size (.tup [.int (i : Nat), x]) :=
      ⟨by show 2 ≤ sizeLine; decide, [.int i tk, y], .cons ⟨_, rfl⟩ (.cons ru .nil), ⟨_, hT2, rfl, _, rfl⟩⟩
    have I1 : Inv X pins σ (upd H s.heap.objs.size (.tup [.int (i : Nat), x])) { s with heap := h'', toks := tk + 1 } := by
      refine I.turnedNew (ch := [e, it]) ?_ hf (Nat.le_refl _) new
      intro b o hb q
      have n1 : b ≠ e := fun z => hb (by simp [z])
      have n2 : b ≠ it := fun z => hb (by simp [z])
      exact (sb.2 b n1).trans (hk b o n1 n2 q)
    refine ⟨.ref s.heap.objs.size, _, I1, rfl, ⟨_, x, rfl, I.hok.fresh (Nat.le_refl _), rfl, fun ys hy => by rw [I.tuple_inj hy hq]; exact hx⟩, ⟨⟨y, ?_⟩, ?_, hne, hna, hnb⟩, ?_⟩
    · have e1 : ((i + 1 : Nat) : Int) = (i : Int) + 1 := by omega
      rw [e1]
      exact he'
    · exact hit'.1.at fun o q => (sb.2 it (Ne.symm hne)).trans q
    · intro b hb
      have hb' : b < s.heap.objs.size := by
        rcases List.mem_cons.mp hb with z | z
        · rw [z]; exact hel
        · rw [List.mem_singleton.mp z]; exact hil
      rw [upd_ne (Nat.ne_of_lt hb')]
      exact (hf b hb).1
  done := by
    intro X hP hw hK hc i pins s σ H E I hf st hg
    subst hP hw hK
    obtain ⟨⟨old, he⟩, hit, hne, hna, hnb⟩ := st
    obtain ⟨xs, hq, hx⟩ := hg
    obtain ⟨its, rv, p, hz⟩ := I.tuple hq
    have p' : s.heap.IsTuple a its.toArray := p
    obtain ⟨f0, f1, f2, f3, f4, f5⟩ := hf it (by simp)
    have hl := rv.length
    have out : its.toArray[i]? = none := by
      have : its.length ≤ i := by omega
      simpa using this
    have D : Draws X.prog X.w X.A.in1 it [it, a] i (fun _ _ => True) (fun j h => (h.IsTupleIter it a j ∧ h.IsTuple a its.toArray) ∧ i ≤ j) := by
      constructor
      · rintro j h ⟨⟨⟨o, ho, _⟩, _⟩, _⟩
        exact ⟨o, ho⟩
      · rintro j h h2 ⟨⟨y1, y2⟩, y3⟩ hk
        exact ⟨⟨y1.at fun o e => hk it (by simp) o e, y2.at fun o e => hk a (by simp) o e⟩, y3⟩
      · rintro j s2 Q E2 hj ⟨_, y3⟩ _
        omega
      · rintro s2 Q E2 ⟨⟨y1, y2⟩, _⟩ hE
        exact wpAny_nextOf_tuple_end (A := X.A.in1) (I.ok.hd hc) y1 y2 out hE
    exact wpAny_pyNext_enum_endD D he ⟨⟨hit, p'⟩, Nat.le_refl _⟩ fun h' eb => ⟨rfl, I.turned (t' := s.toks) (fun b o hb q => eb b o hb q) f0 f1 f3 f4 f5⟩
  self := by
    rintro A i s Q E ⟨⟨_, he⟩, _⟩ h
    exact wpAny_pyIter_enum he h
def iEnT (K : PySem.W.Frag) (ta : TA) : TI := fun σ H R => ta σ H fun vs H1 => ∃ a xs, vs = [V.ref a] ∧ SqT K H1 a xs ∧ R (IteT K a) H1
theorem pi_enT {X : Cx} {e : Expr} {ta : TA} {p pos tpos : Pos} {elts : List Expr} {kk : Nat} (hg : Gl X "enumerate") (hm : X.mg "enumerate" = none) (ha : PA X [e] ta) (hs : starEach [e] X.env = [(false, eval e X.env)] := by rfl) :
    PI X (.Tuple elts kk tpos) (.Call (.Name "enumerate" p) [e] [] pos) (iEnT X.K ta) := by
  constructor
  intro pins s σ H R I h
  refine Call_ (ld_blt I hg hm boot_enumerate (PyProof.Rows.callWith_type1 (thn (ha.run pos pins s σ H _ I h) ?_) hs rfl))
  rintro us s1 ⟨vs, H1, I1, r1, a, xs, rfl, hq, q⟩
  obtain ⟨u, rfl, ru⟩ := vals1 r1
  cases ru
  obtain ⟨its, rv, p', hz⟩ := I1.tuple hq
  have p2 : s1.heap.IsTuple a its.toArray := p'
  have la : a < s1.heap.objs.size := by
    obtain ⟨_, q, _⟩ := id p2
    exact Heap.lt_size q
  refine mx_enumT p2 fun h' he hit hk => wpAny_pyIter_enum he ?_
  refine ⟨s1.heap.objs.size + 1, [s1.heap.objs.size + 1, s1.heap.objs.size], _, _, H1, rfl, I1.kept (t' := s1.toks) hk, turn_enumT a (s1.heap.objs.size + 1) s1.heap.objs.size, ⟨⟨.none, he⟩, hit, Nat.succ_ne_self _, Nat.ne_of_lt la, Nat.ne_of_lt (Nat.lt_succ_of_lt la)⟩, ?_, q⟩
  intro b hb
  have hle : s1.heap.objs.size ≤ b := by
    rcases List.mem_cons.mp hb with z | z
    · rw [z]; exact Nat.le_succ _
    · rw [List.mem_singleton.mp z]; exact Nat.le_refl _
  exact I1.fpOk hle (I1.hok.fresh hle)

/-! ### a loop whose turns are told together with the target -/
section
variable {c : Cs} {E : XK}
def IterP (c : Cs) (p : Pt) (J : It) (ds : List D) (F : Hp) (θ : List Addr) : Prop := ∀ (F2 : Hp) (θ2 : List Addr) (H2 : Hp) (s : Sto), Le F F2 → Pre θ θ2 → WOk c s F2 θ2 H2 →
  (∀ i d, ds[i]? = some d → J.go i H2 ∧ ∀ x H', J.yld i H2 x H' → Ext F2 θ2 H2 F2 θ2 H' ∧ WOk c s F2 θ2 H' ∧ ∀ (H0 : En) (σ : L2.St) (ρ ρ' : List Sl) (Q : L2.St → Hp → Prop), EnvOk c H0 F2 θ2 H' σ ρ → setP p ρ d = some ρ' →
    (∀ σ', EnvOk c H0 F2 θ2 H' σ' ρ' → Q σ' H') → gP c.K p x σ H' Q) ∧ ∀ i, ds.length ≤ i → J.stop i H2
def rIP (c : Cs) (p : Pt) : Rel c It (List D) := ⟨fun _ F θ _ J ds => IterP c p J ds F θ, fun _ _ _ _ _ _ _ _ h => h⟩
theorem dn_forP {wi : TI} {w : Fn (List D)} {p : Pt} {tb : TS} {b : Sf} (hs : Den c E (rIP c p) wi w) (hb : DenS c E tb b) : DenS c E (tFor wi (gP c.K p) tb) (sFor w p b) := by
  refine dn_bind (K := fun Dn σ J H1 => ∃ W : Nat → Nat → L2.St → Hp → Prop, (∃ m, W 0 m σ H1) ∧ ∀ i m σ H, W i m σ H →
    (J.stop i H ∧ Dn.nx σ H) ∨ (J.go i H ∧ ∃ N : L2.St → Hp → Prop, (∀ σ' H', N σ' H' → ∃ m', m' < m ∧ W (i + 1) m' σ' H') ∧ ∀ x H', J.yld i H x H' → gP c.K p x σ H' fun σ2 H2 => tb { Dn with nx := N, ct := N, bk := Dn.nx } σ2 H2)) hs fun H0 F0 θ0 σ ρ s F θ H Hi J ds Dn s0 F1 θ1 x0 he0 x w hit hp => ?_
  have hit : IterP c p J ds F θ := hit
  let Inv : Nat → L2.St → Hp → Prop := fun i σ1 H1 => ∃ (F2 : Hp) (θ2 : List Addr) (s1 : Sto) (ρ1 : List Sl), Ext F0 θ0 H0 F2 θ2 H1 ∧ Le F F2 ∧ Pre θ θ2 ∧ WOk c s1 F2 θ2 H1 ∧ EnvOk c H0 F2 θ2 H1 σ1 ρ1 ∧ i ≤ ds.length ∧ PostS c E (forL p b (ds.drop i) ρ1 s1) H0 F0 θ0 Dn
  refine ⟨fun i m σ1 H1 => m = ds.length - i ∧ Inv i σ1 H1, ⟨ds.length, by simp, ⟨F, θ, s, ρ, x0.trans x, Le.refl F, Pre.refl θ, w, he0.ext x, Nat.zero_le _, by rw [List.drop_zero]; exact hp⟩⟩, ?_⟩
  rintro i m σ1 H1 ⟨rfl, F2, θ2, s1, ρ1, x1, l1, p1, w1, he1, hi, hp1⟩
  obtain ⟨hgo, hstop⟩ := hit F2 θ2 H1 s1 l1 p1 w1
  by_cases hlt : i < ds.length
  · obtain ⟨d, hd⟩ : ∃ d, ds[i]? = some d := ⟨ds[i], List.getElem?_eq_getElem hlt⟩
    obtain ⟨g1, g2⟩ := hgo i d hd
    refine .inr ⟨g1, Inv (i + 1), fun σ' H' h' => ⟨ds.length - (i + 1), by omega, rfl, h'⟩, fun y H' hy => ?_⟩
    obtain ⟨xy, wy, gy⟩ := g2 y H' hy
    have hdr : ds.drop i = d :: ds.drop (i + 1) := by
      rw [List.drop_eq_getElem_cons hlt]
      rw [List.getElem?_eq_getElem hlt] at hd
      rw [Option.some.inj hd]
    rw [hdr] at hp1
    unfold forL at hp1
    have x1 := x1.trans xy
    cases z : setP p ρ1 d with
    | none => rw [z] at hp1; exact hp1.elim
    | some ρ2 =>
      rw [z] at hp1
      dsimp only at hp1
      refine gy H0 σ1 ρ1 ρ2 _ (he1.ext xy) z fun σ2 he2 => ?_
      refine hb H0 F2 θ2 σ2 ρ2 s1 F2 θ2 H' _ x1.rebase wy he2 ?_
      cases zb : b ρ2 s1 with
      | next ρ3 s3 =>
        rw [zb] at hp1
        exact fun σ3 F3 θ3 H3 x3 w3 he3 => ⟨F3, θ3, s3, ρ3, x1.comp x3, l1.trans x3.fr, p1.trans x3.th, w3, he3, hlt, hp1⟩
      | cont ρ3 s3 =>
        rw [zb] at hp1
        exact fun σ3 F3 θ3 H3 x3 w3 he3 => ⟨F3, θ3, s3, ρ3, x1.comp x3, l1.trans x3.fr, p1.trans x3.th, w3, he3, hlt, hp1⟩
      | brk ρ3 s3 =>
        rw [zb] at hp1
        exact fun σ3 F3 θ3 H3 x3 w3 he3 => hp1 σ3 F3 θ3 H3 (x1.comp x3) w3 he3
      | ret d s3 =>
        rw [zb] at hp1
        exact fun v F3 θ3 H3 x3 w3 r3 => hp1 v F3 θ3 H3 (x1.comp x3) w3 r3
      | exc k fs s3 =>
        rw [zb] at hp1
        exact fun F3 θ3 H3 dx x3 w3 r3 => hp1 F3 θ3 H3 dx (x1.comp x3) w3 r3
      | bad => rw [zb] at hp1; exact hp1.elim
  · refine .inl ⟨hstop i (by omega), ?_⟩
    have e0 : ds.drop i = [] := List.drop_eq_nil_of_le (by omega)
    rw [e0] at hp1
    exact hp1 σ1 F2 θ2 H1 x1 w1 he1
def enumD : Nat → List D → List D
  | _, [] => []
  | i, d :: ds => .tup [.int (i : Nat), d] :: enumD (i + 1) ds
theorem enumD_get : ∀ {ds : List D} {n i : Nat} {d : D}, (enumD n ds)[i]? = some d → ∃ e, ds[i]? = some e ∧ d = .tup [.int ((n + i : Nat) : Int), e]
  | [], n, i, d, h => by simp [enumD] at h
  | x :: xs, n, 0, d, h => by
    simp [enumD] at h
    exact ⟨x, by simp, by rw [← h]; rfl⟩
  | x :: xs, n, i + 1, d, h => by
    have h : (enumD (n + 1) xs)[i]? = some d := by simpa [enumD] using h
    obtain ⟨e, h1, h2⟩ := enumD_get h
    have e1 : n + 1 + i = n + (i + 1) := by omega
    exact ⟨e, by simpa using h1, by rw [h2, e1]⟩
theorem enumD_len : ∀ {ds : List D} {n : Nat}, (enumD n ds).length = ds.length
  | [], _ => rfl
  | _ :: xs, n => by simp [enumD, enumD_len (ds := xs) (n := n + 1)]
def wEnT (e : Fn (List D)) : Fn (List D) := fun ρ s => (e ρ s).bind fun a s => match a with
  | [.tup ds] => .ok (enumD 0 ds) s
  | _ => .bad
theorem src_enT {ta : TA} {e : Fn (List D)} {p : Pt} (h : DenA c E ta e) : Den c E (rIP c (.tup p)) (iEnT c.K ta) (wEnT e) := by
  refine den_bind (r2 := rIP c (.tup p)) (K := fun σ vs H1 Q => ∃ a xs, vs = [V.ref a] ∧ SqT c.K H1 a xs ∧ Q (IteT c.K a) H1) h fun H0 σ ρ s F θ H Hi x a Q he hw q hp => ?_
  have q : RA c F θ x a := q
  split at hp
  · rename_i ds q0
    obtain ⟨v, rfl, hv⟩ := ra1 q
    obtain ⟨l, us, rfl, hl, ra⟩ := r_tup_inv hv
    refine ⟨l, us, rfl, hw.sub.t hl.t, hp _ F θ H (Ext.refl _ _ _) hw ?_⟩
    intro F2 θ2 H2 s2 l2 p2 w2
    have sq : SqT c.K H2 l us := w2.sub.t (l2.t hl.t)
    have r2 := RA.mono l2 p2 ds ra
    refine ⟨?_, ?_⟩
    · intro i d hd
      obtain ⟨e, he1, rfl⟩ := enumD_get hd
      obtain ⟨u, hu, ru⟩ := r2.get' he1
      refine ⟨⟨us, u, sq, hu⟩, ?_⟩
      rintro y H' ⟨T, z, rfl, hT, rfl, hz⟩
      have ez : z = u := by
        have := hz us sq
        rw [hu] at this
        exact (Option.some.inj this).symm
      subst ez
      have wn := w2.newH (o := .tup [.int (i : Nat), z]) hT
      refine ⟨Ext.newH hT, wn, ?_⟩
      intro H0 σ ρ ρ' Q he hs k
      unfold setP at hs
      dsimp only at hs
      split at hs
      · rename_i hlen
        refine ⟨T, [.int (i : Nat), z], rfl, ?_, by rw [← hlen]; rfl, ?_⟩
        · exact SqT.of upd_same
        · refine gPs_ok wn p σ ρ ρ' _ _ Q he (RA.cons ?_ (RA.cons ru RA.nil)) hs fun σ' h' _ => k σ' h'
          rw [Nat.zero_add]
          unfold R
          rfl
      · cases hs
    · intro i hi
      rw [enumD_len] at hi
      exact ⟨us, sq, by rw [r2.length]; exact hi⟩
  · exact hp.elim
end
end MX


set_option Elab.async false
set_option linter.all false
set_option maxRecDepth 100000
namespace MX
open PySem PySem.Spec PyProof.Rows L2
section
variable {c : Cs} {E : XK}
theorem den_yes : DenT c E tYes (fun _ s => .ok true s) := fun H0 σ ρ s F θ H Q he hw hp => hp true F θ H (Ext.refl _ _ _) hw rfl
def eYes : Fn Bool := fun _ s => .ok true s
/-- a promise without exceptions -/
def sp0 (c : Cs) (m : Mf) (n : Nat) : Sp := fun vs H Q _ => spF c m n vs H Q EX0
def spI0 (c : Cs) (k : Nat) (m : List D → Sto → Res (List D)) (n : Nat) : Sp := fun vs H Q _ => spI c k m n vs H Q EX0
def spIt0 (c : Cs) (m : Mi) (k : Nat) : Sp := fun vs H Q _ => spIt c m k vs H Q EX0
theorem den_call0 {m : Mf} {n : Nat} {ta : TA} {ea : Fn (List D)} (ha : DenA c EX0 ta ea) : DenE c EX0 (tCall (sp0 c m n) [] E ta) (dCall m n ea) := den_call ha
theorem den_prop0 {k : Nat} {m : Mf} {t : TE} {e : Fn D} (h : DenE c EX0 t e) : DenE c EX0 (tProp (c.cl k) (sp0 c m 1) [] E t) (dProp k m e) := den_prop h
theorem den_make0 {k n : Nat} {m : List D → Sto → Res (List D)} {ta : TA} {ea : Fn (List D)} (ha : DenA c EX0 ta ea) : DenE c EX0 (tMake (c.cl k) (spI0 c k m n) [] E ta) (dMake k m n ea) := den_make ha
theorem den_lenO0 {k : Nat} {m : Mf} {t : TE} {e : Fn D} (h : DenE c EX0 t e) : DenE c EX0 (tLenO (c.cl k) (sp0 c m 1) E t) (dLenO k m e) := den_lenO h
theorem den_eqO0 {neg : Bool} {k : Nat} {m : Mf} {ta tb : TE} {ea eb : Fn D} (ha : DenE c EX0 ta ea) (hb : DenE c EX0 tb eb) : DenE c EX0 (tOp (rEqO neg (c.cl k) (sp0 c m 2) E) ta tb) (dEqO neg k m ea eb) := den_eqO ha hb
theorem src_own0 {k : Nat} {m : Mi} {te : TE} {e : Fn D} (h : DenE c EX0 te e) : SrcS c EX0 (iOwn c.K (c.cl k) (spIt0 c m) E te) (wOwn k m e) := src_own h
theorem sp0_len {m : Mf} {n : Nat} {vs : List V} {H : Hp} {Q : VK} (h : sp0 c m n vs H Q E) : vs.length = n := h.1
theorem body0 {N : List Str} {n : Nat} {t : TS} {x : Sf} {vs : List V} {H : Hp} {Q : VK} (ht : DenS c EX0 t x) (h : sp0 c (fnD N.length x) n vs H Q E) : t { nx := fun _ H' => Q .non H', rt := Q } (L2.start N vs) H := body_ok ht h
theorem fn_bad {P : Program} {w : World} {K : PySem.W.Frag} {mg : Str → Option Value} {base : Heap} {CX : CXT} {k : Nat} {f : Addr} {fd : FuncData} {ps : List Str} {n : Nat} : FnOk P w K mg base CX k f fd ps (sp0 c (fun _ _ => .bad) n) := by
  have no : ∀ vs H Q E, ¬ sp0 c (fun _ _ => .bad) n vs H Q E := by
    rintro vs H Q E ⟨_, F, θ, s, ds, w, r, hp⟩
    exact hp
  exact ⟨fun vs H Q E h => absurd h (no vs H Q E), fun A outer s H args us vs Q E _ _ _ _ h => absurd h (no vs H Q E)⟩
theorem den_callP0 {m : Mf} {n : Nat} {ta : TA} {ea : Fn (List D)} (ha : DenA c EX0 ta ea) : DenE c EX0 (tCall (sp0 c m n) [] E ta) (dCall (pur m) n ea) := den_callP ha
def dSortL (e : Fn (List D)) : Fn (List D) := fun ρ s => (e ρ s).bind fun ds s => Res.ofO (sortD ds) s
theorem den_sortM {t : TE} {e : Fn (List D)} (h : DenL c E t e) : DenF c E (tCB (rSortD c.K) (tCons t tNil)) (dSortL e) := den_sortL h
theorem pe_globE {X : Cx} {x : Str} {v : V} {pos : Pos} (hg : Gl X x) (h : ∃ u, X.mg x = some u ∧ RelV v u) (hd : (x == ("__debug__" : Str)) = false := by decide) : PE X (.Name x pos) (tC v) := by
  obtain ⟨u, hm, r⟩ := h
  exact pe_glob hg hm r hd
theorem cr_absM {X : Cx} : CallR X (.builtin "abs") rAbs := call_abs
theorem cr_intM {X : Cx} : CallR X (.type "int") rInt1 := call_int1
theorem cr_listM {X : Cx} : CallR X (.type "list") (rListOf X.K) := call_list_of
theorem mbt_len : bootBuiltins "len" = some (.builtin "len") := by decide +kernel
theorem mbt_min : bootBuiltins "min" = some (.builtin "min") := by decide +kernel
theorem mbt_max : bootBuiltins "max" = some (.builtin "max") := by decide +kernel
theorem mbt_sum : bootBuiltins "sum" = some (.builtin "sum") := by decide +kernel
theorem mbt_abs : bootBuiltins "abs" = some (.builtin "abs") := by decide +kernel
theorem mbt_all : bootBuiltins "all" = some (.builtin "all") := by decide +kernel
theorem mbt_any : bootBuiltins "any" = some (.builtin "any") := by decide +kernel
theorem mbt_sorted : bootBuiltins "sorted" = some (.builtin "sorted") := by decide +kernel
theorem mbt_isinstance : bootBuiltins "isinstance" = some (.builtin "isinstance") := by decide +kernel
theorem mbt_iter : bootBuiltins "iter" = some (.builtin "iter") := by decide +kernel
theorem mbt_int : bootBuiltins "int" = some (.type "int") := by decide +kernel
theorem mbt_bool : bootBuiltins "bool" = some (.type "bool") := by decide +kernel
theorem mbt_str : bootBuiltins "str" = some (.type "str") := by decide +kernel
theorem mbt_tuple : bootBuiltins "tuple" = some (.type "tuple") := by decide +kernel
theorem mbt_list : bootBuiltins "list" = some (.type "list") := by decide +kernel
end
end MX


set_option Elab.async false
set_option linter.all false
set_option maxRecDepth 100000
namespace MX
open PySem PySem.Spec PyProof.Rows L2
section
variable {K : PySem.W.Frag} {mg : Str → Option Value} {h : Heap}
/-! ### what stands at the top -/
theorem top_fn {x qual : Str} {st : Stmt} {f : Addr} {oc : Value} {od an : Option Addr} {osl : Array (Option Value)} {kV dc pm cd ct : Value} (X : K.In h) (G : h.Ns mainGlobals mg) (a : PySem.W.nsIn K mainGlobals x = some (some (.ref f)))
    (l : K.lookup f = some ⟨oc, od, .func (PySem.W.fnOf x qual (defArgs st) (defBody st) (defScope st) .none kV dc pm an cd ct), osl⟩) (c : PySem.W.codeIn K cd qual = true) (k : PySem.W.keepIn K (.ref f) = true) :
    ∃ (f : Addr) (fd : FuncData), Fun K x qual st f fd ∧ mg x = some (.ref f) := ⟨f, _, fun_mk l c k, PySem.W.mg_of X G a⟩
theorem top_law {x qual p : Str} {st : Stmt} {f fa : Addr} {oc : Value} {od an : Option Addr} {osl : Array (Option Value)} {kV dc pm cd ct : Value} (X : K.In h) (G : h.Ns mainGlobals mg) (hfa : mg x = some (.ref fa)) (a : PySem.W.nsIn K mainGlobals x = some (some (.ref f)))
    (l : K.lookup f = some ⟨oc, od, .func (PySem.W.fnOf x qual (defArgs st) (defBody st) (defScope st) .none kV dc pm an cd ct), osl⟩) (c : PySem.W.codeIn K cd qual = true) (k : PySem.W.keepIn K (.ref f) = true)
    (b : ∀ v : Value, bindArgs (PySem.W.fnOf x qual (defArgs st) (defBody st) (defScope st) .none kV dc pm an cd ct) ⟨[v], []⟩ = pure [(p, v)]) :
    ∃ fd : FuncData, Fun K x qual st fa fd ∧ mg x = some (.ref fa) ∧ ∀ (s : Shared) (v : Value), BindsTo s fd ⟨[v], []⟩ [(p, v)] := by
  have e := hfa.symm.trans (PySem.W.mg_of X G a)
  cases e
  exact ⟨_, fun_mk l c k, hfa, fun s v => .of_eq (b v)⟩
theorem meth_fn {x qual : Str} {st : Stmt} {C f : Addr} {oc : Value} {od an : Option Addr} {osl : Array (Option Value)} {kV dc pm cd ct : Value} (a : PySem.W.findIn K (.ref C) x = some (some (.ref f)))
    (l : K.lookup f = some ⟨oc, od, .func (PySem.W.fnOf x qual (defArgs st) (defBody st) (defScope st) .none kV dc pm an cd ct), osl⟩) (c : PySem.W.codeIn K cd qual = true) (k : PySem.W.keepIn K (.ref f) = true) (i : PySem.W.isFn K (.ref f) = true) :
    ∃ (f : Addr) (fd : FuncData), Fun K x qual st f fd ∧ PySem.W.findIn K (.ref C) x = some (some (.ref f)) ∧ PySem.W.isFn K (.ref f) = true := ⟨f, _, fun_mk l c k, a, i⟩
theorem prop_fn {x qual : Str} {st : Stmt} {C p f : Addr} {oc : Value} {od an : Option Addr} {osl : Array (Option Value)} {kV dc pm cd ct : Value} {rest : List Value} (a : PySem.W.findIn K (.ref C) x = some (some (.ref p)))
    (g : PySem.W.specialIn K (.ref p) "__get__" = some (some (.builtin "property.__get__"))) (t : PySem.W.takesIn K (.ref p) = some true) (r : PySem.W.recIn K p "property" = some (.ref f :: rest))
    (l : K.lookup f = some ⟨oc, od, .func (PySem.W.fnOf x qual (defArgs st) (defBody st) (defScope st) .none kV dc pm an cd ct), osl⟩) (c : PySem.W.codeIn K cd qual = true) (k : PySem.W.keepIn K (.ref f) = true) :
    ∃ (p f : Addr) (fd : FuncData), Fun K x qual st f fd ∧ PropOf K C x p f := ⟨p, f, _, fun_mk l c k, ⟨a, g, t, ⟨rest, r⟩⟩⟩
theorem top_int {x : Str} {i : Int} {u : Value} (X : K.In h) (G : h.Ns mainGlobals mg) (a : PySem.W.nsIn K mainGlobals x = some (some u)) (r : RelV (.int i) u) : ∃ u, mg x = some u ∧ RelV (.int i) u := ⟨u, PySem.W.mg_of X G a, r⟩
/-- the same, handed on -/
theorem top_fnC {p : Prop} {x qual : Str} {st : Stmt} {f : Addr} {oc : Value} {od an : Option Addr} {osl : Array (Option Value)} {kV dc pm cd ct : Value} (X : K.In h) (G : h.Ns mainGlobals mg) (a : PySem.W.nsIn K mainGlobals x = some (some (.ref f)))
    (l : K.lookup f = some ⟨oc, od, .func (PySem.W.fnOf x qual (defArgs st) (defBody st) (defScope st) .none kV dc pm an cd ct), osl⟩) (c : PySem.W.codeIn K cd qual = true) (k : PySem.W.keepIn K (.ref f) = true)
    (go : ∀ (f : Addr) (fd : FuncData), Fun K x qual st f fd → mg x = some (.ref f) → p) : p := go f _ (fun_mk l c k) (PySem.W.mg_of X G a)
theorem top_lawC {p : Prop} {x qual y : Str} {st : Stmt} {f fa : Addr} {oc : Value} {od an : Option Addr} {osl : Array (Option Value)} {kV dc pm cd ct : Value} (X : K.In h) (G : h.Ns mainGlobals mg) (hfa : mg x = some (.ref fa)) (a : PySem.W.nsIn K mainGlobals x = some (some (.ref f)))
    (l : K.lookup f = some ⟨oc, od, .func (PySem.W.fnOf x qual (defArgs st) (defBody st) (defScope st) .none kV dc pm an cd ct), osl⟩) (c : PySem.W.codeIn K cd qual = true) (k : PySem.W.keepIn K (.ref f) = true)
    (b : ∀ (kV dc pm : Value) (an : Option Addr) (cd ct v : Value), bindArgs (PySem.W.fnOf x qual (defArgs st) (defBody st) (defScope st) .none kV dc pm an cd ct) ⟨[v], []⟩ = pure [(y, v)])
    (go : ∀ (fd : FuncData), Fun K x qual st fa fd → mg x = some (.ref fa) → (∀ (s : Shared) (v : Value), BindsTo s fd ⟨[v], []⟩ [(y, v)]) → p) : p := by
  obtain ⟨fd, h1, h2, h3⟩ := top_law X G hfa a l c k (b kV dc pm an cd ct)
  exact go fd h1 h2 h3
theorem top_intC {p : Prop} {x : Str} {i : Int} {t : Tok} (X : K.In h) (G : h.Ns mainGlobals mg) (a : PySem.W.nsIn K mainGlobals x = some (some (.int i t))) (go : (∃ u, mg x = some u ∧ RelV (.int i) u) → p) : p := go ⟨_, PySem.W.mg_of X G a, ⟨t, rfl⟩⟩
theorem top_noneC {p : Prop} {x : Str} (X : K.In h) (G : h.Ns mainGlobals mg) (a : PySem.W.nsIn K mainGlobals x = some none) (go : mg x = none → p) : p := go (PySem.W.mg_none_of X G a)
/-- what is asked of an own class -/
structure KFacts (K : PySem.W.Frag) (C : Addr) : Prop where
  pg : PySem.W.plainGet K C Str.empty = true
  hd : PySem.W.hasDictIn K C = true
  po : PySem.W.plainOver K C = true
  sa : PySem.W.findIn K (.ref C) "__setattr__" = some (some (.builtin "object.__setattr__"))
  ca : PySem.W.findIn K (.ref C) "__class__" = some (some (.builtin "object.__class__"))
  cn : PySem.W.specialIn K (.builtin "object.__class__") "__get__" = some (some (.builtin "getset_descriptor.__get__"))
  ct : PySem.W.takesIn K (.builtin "object.__class__") = some true
  cm : PySem.W.mroIn K C (.type "object") = some true
  b0 : PySem.W.kitOne K (.type "NoneType") (.ref C) = some false
  b1 : PySem.W.kitOne K (.type "bool") (.ref C) = some false
  b2 : PySem.W.kitOne K (.type "int") (.ref C) = some false
  b3 : PySem.W.kitOne K (.type "str") (.ref C) = some false
  b4 : PySem.W.kitOne K (.type "list") (.ref C) = some false
  b5 : PySem.W.kitOne K (.type "tuple") (.ref C) = some false
theorem KFacts.cls {C : Addr} (k : KFacts K C) : Cls K C := ⟨k.pg, k.hd, k.po, k.sa⟩
theorem KFacts.isK {c : Cs} {j : Nat} (k : KFacts c.K (c.cl j)) : IsK c j := by
  refine ⟨k.cls, k.ca, k.cn, k.ct, k.cm, ?_⟩
  intro a ha
  unfold tags at ha
  simp only [List.mem_cons, List.not_mem_nil, or_false] at ha
  rcases ha with rfl | rfl | rfl | rfl | rfl | rfl
  · exact k.b0
  · exact k.b1
  · exact k.b2
  · exact k.b3
  · exact k.b4
  · exact k.b5
end
/-! ### the law's end -/
/-- the script: a list that nobody writes -/
theorem ro_list {c : Cs} {F : Hp} {θ : List Addr} {a : Addr} : ∀ ns : List Int, SqL c.K F a (ns.map V.int) → R c F θ (V.ref a) (.ro (ns.map D.int)) := by
  intro ns hs
  unfold R
  refine ⟨a, _, rfl, hs, ?_⟩
  have : ∀ ns : List Int, RA c F θ (ns.map V.int) (ns.map D.int) := by
    intro ns
    induction ns with
    | nil => exact RA.nil
    | cons n ns ih => exact RA.cons r_int ih
  exact this ns
def spL (K : PySem.W.Frag) (m : Mf) : Sp := fun vs H Q _ => ∃ (a : Addr) (ns : List Int), vs = [V.ref a] ∧ SqL K H a (ns.map V.int) ∧ (∃ s, m [.ro (ns.map D.int)] [] = .ok (.bl true) s) ∧ ∀ H', Q (.bl true) H'
theorem spL_imp {c : Cs} {m : Mf} {vs : List V} {H : Hp} {Q : VK} {E : XK} (h : spL c.K m vs H Q E) : sp0 c m 1 vs H Q E := by
  obtain ⟨a, ns, rfl, hS, ⟨s, e⟩, q⟩ := h
  have w : WOk c [] H [] H := ⟨Le.refl H, (fun a m => by cases m), List.nodup_nil, rfl, (fun i a ds h1 h2 => by simp at h1)⟩
  refine ⟨rfl, H, [], [], [.ro (ns.map D.int)], w, RA.cons (ro_list ns hS) RA.nil, ?_⟩
  rw [e]
  intro v F' θ' H' x w' r
  rw [r_bl_inv (c := c) (F := F') (θ := θ') r]
  exact q H'
end MX


set_option Elab.async false
set_option linter.all false
set_option maxRecDepth 100000
namespace MX
open PySem L2
/-! ### mirrors, step by step -/
section
variable {ρ ρ1 ρ2 : List Sl} {s s1 s2 s3 : Sto} {a b d : D} {ds es : List D} {e ea eb : Fn D}
theorem var_ok {i : Nat} (h : ρ[i]? = some (.val d)) : dVar i ρ s = .ok d s := by unfold dVar; rw [h]
theorem bin_ok {f : F2} (ha : ea ρ s = .ok a s1) (hb : eb ρ s1 = .ok b s2) (hf : f a b s2 = some d) : dBin f ea eb ρ s = .ok d s2 := by
  unfold dBin; rw [ha]; show (eb ρ s1).bind _ = _; rw [hb]; show Res.ofO (f a b s2) s2 = _; rw [hf]; rfl
theorem un_ok {f : D → Sto → Option D} (ha : ea ρ s = .ok a s1) (hf : f a s1 = some d) : dUn f ea ρ s = .ok d s1 := by
  unfold dUn; rw [ha]; show Res.ofO (f a s1) s1 = _; rw [hf]; rfl
theorem nil_ok : dNil ρ s = .ok [] s := rfl
theorem cons_ok {er : Fn (List D)} (ha : ea ρ s = .ok a s1) (hr : er ρ s1 = .ok ds s2) : dCons ea er ρ s = .ok (a :: ds) s2 := by
  unfold dCons; rw [ha]; show (er ρ s1).bind _ = _; rw [hr]; rfl
theorem cb_ok {f : FC} {er : Fn (List D)} (ha : er ρ s = .ok ds s1) (hf : f ds s1 = some d) : dCB f er ρ s = .ok d s1 := by
  unfold dCB; rw [ha]; show Res.ofO (f ds s1) s1 = _; rw [hf]; rfl
theorem tup_ok {er : Fn (List D)} (ha : er ρ s = .ok ds s1) (h : small ds.length = true) : dTup er ρ s = .ok (.tup ds) s1 := by
  unfold dTup; rw [ha]; show (if small ds.length = true then _ else _) = _; rw [if_pos h]
theorem lst_ok {er : Fn (List D)} (ha : er ρ s = .ok ds s1) (h : small ds.length = true) : dLst er ρ s = .ok ds s1 := by
  unfold dLst; rw [ha]; show (if small ds.length = true then _ else _) = _; rw [if_pos h]
theorem ofL_ok {er : Fn (List D)} (ha : er ρ s = .ok ds s1) : dOfL er ρ s = .ok (.lst ds) s1 := by unfold dOfL; rw [ha]; rfl
theorem cell_ok {er : Fn (List D)} (ha : er ρ s = .ok ds s1) : dCell er ρ s = .ok (.cell s1.length) (s1 ++ [ds]) := by unfold dCell; rw [ha]; rfl
theorem tupL_ok {er : Fn (List D)} (ha : er ρ s = .ok ds s1) : dTupL er ρ s = .ok (.tup ds) s1 := by unfold dTupL; rw [ha]; rfl
theorem lenL_ok {er : Fn (List D)} (ha : er ρ s = .ok ds s1) : dLenL er ρ s = .ok (.int ds.length) s1 := by unfold dLenL; rw [ha]; rfl
theorem call_ok {m : Mf} {n : Nat} {er : Fn (List D)} (ha : er ρ s = .ok ds s1) (hl : ds.length = n) (hm : m ds s1 = .ok d s2) : dCall m n er ρ s = .ok d s2 := by
  unfold dCall; rw [ha]; show (if ds.length = n then _ else _) = _; rw [if_pos hl]; exact hm
theorem pur_ok {m : Mf} (hc : noCs ds = true) (hm : m ds [] = .ok d []) : pur m ds s = .ok d s := by
  unfold pur; rw [if_pos hc, hm]
theorem bl_ok {k : Bool} (ha : ea ρ s = .ok (.bl k) s1) : eBl ea ρ s = .ok k s1 := by unfold eBl; rw [ha]; rfl
theorem tru_ok {k : Bool} (ha : ea ρ s = .ok a s1) (h : truD s1 a = some k) : eTru ea ρ s = .ok k s1 := by unfold eTru; rw [ha]; show Res.ofO (truD s1 a) s1 = _; rw [h]; rfl
theorem if_yes {t : Fn Bool} (ht : t ρ s = .ok true s1) (ha : ea ρ s1 = .ok a s2) : dIf t ea eb ρ s = .ok a s2 := by unfold dIf; rw [ht]; exact ha
theorem if_no {t : Fn Bool} (ht : t ρ s = .ok false s1) (ha : eb ρ s1 = .ok a s2) : dIf t ea eb ρ s = .ok a s2 := by unfold dIf; rw [ht]; exact ha
theorem and_ok {t u : Fn Bool} {k : Bool} (ht : t ρ s = .ok true s1) (hu : u ρ s1 = .ok k s2) : eAnd t u ρ s = .ok k s2 := by unfold eAnd; rw [ht]; exact hu
theorem and_no {t u : Fn Bool} (ht : t ρ s = .ok false s1) : eAnd t u ρ s = .ok false s1 := by unfold eAnd; rw [ht]; rfl
theorem or_ok {t u : Fn Bool} {k : Bool} (ht : t ρ s = .ok false s1) (hu : u ρ s1 = .ok k s2) : eOr t u ρ s = .ok k s2 := by unfold eOr; rw [ht]; exact hu
theorem or_yes {t u : Fn Bool} (ht : t ρ s = .ok true s1) : eOr t u ρ s = .ok true s1 := by unfold eOr; rw [ht]; rfl
theorem not_ok {t : Fn Bool} {k : Bool} (ht : t ρ s = .ok k s1) : eNot t ρ s = .ok (!k) s1 := by unfold eNot; rw [ht]; rfl
theorem chain_yes {f g : F2} {ec : Fn D} {c' : D} (ha : ea ρ s = .ok a s1) (hb : eb ρ s1 = .ok b s2) (hf : f a b s2 = some (.bl true)) (hc : ec ρ s2 = .ok c' s3) (hg : g b c' s3 = some d) : dChain f g ea eb ec ρ s = .ok d s3 := by
  unfold dChain; rw [ha]; show (eb ρ s1).bind _ = _; rw [hb]
  show (match f a b s2 with | some (.bl k) => _ | _ => _) = _
  rw [hf]
  show (ec ρ s2).bind _ = _
  rw [hc]; show Res.ofO (g b c' s3) s3 = _; rw [hg]; rfl
theorem chain_no {f g : F2} {ec : Fn D} (ha : ea ρ s = .ok a s1) (hb : eb ρ s1 = .ok b s2) (hf : f a b s2 = some (.bl false)) : dChain f g ea eb ec ρ s = .ok (.bl false) s2 := by
  unfold dChain; rw [ha]; show (eb ρ s1).bind _ = _; rw [hb]
  show (match f a b s2 with | some (.bl k) => _ | _ => _) = _
  rw [hf]; rfl
theorem andV_yes (ha : ea ρ s = .ok (.bl true) s1) (hb : eb ρ s1 = .ok b s2) : dAnd ea eb ρ s = .ok b s2 := by unfold dAnd; rw [ha]; exact hb
theorem andV_no (ha : ea ρ s = .ok (.bl false) s1) : dAnd ea eb ρ s = .ok (.bl false) s1 := by unfold dAnd; rw [ha]; rfl
/-! statements -/
theorem seq_ok {x y : Sf} {o : Fl} (hx : x ρ s = .next ρ1 s1) (hy : y ρ1 s1 = o) : sSeq x y ρ s = o := by unfold sSeq; rw [hx]; exact hy
theorem seq_out {x y : Sf} {o : Fl} (hx : x ρ s = o) (hn : ∀ r t, o ≠ .next r t) : sSeq x y ρ s = o := by
  unfold sSeq; rw [hx]
  cases o with
  | next r t => exact absurd rfl (hn r t)
  | _ => rfl
theorem asg_ok {i : Nat} (h : e ρ s = .ok d s1) : sAsg i e ρ s = .next (ρ.set i (.val d)) s1 := by unfold sAsg sBind; rw [h]
theorem own_ok {i : Nat} {er : Fn (List D)} (h : er ρ s = .ok ds s1) : sOwn i er ρ s = .next (ρ.set i (.own ds)) s1 := by unfold sOwn sBind; rw [h]
theorem ret_ok (h : e ρ s = .ok d s1) : sRet e ρ s = .ret d s1 := by unfold sRet sBind; rw [h]
theorem sif_yes {t : Fn Bool} {x y : Sf} {o : Fl} (ht : t ρ s = .ok true s1) (hx : x ρ s1 = o) : sIf t x y ρ s = o := by unfold sIf sBind; rw [ht]; exact hx
theorem sif_no {t : Fn Bool} {x y : Sf} {o : Fl} (ht : t ρ s = .ok false s1) (hx : y ρ s1 = o) : sIf t x y ρ s = o := by unfold sIf sBind; rw [ht]; exact hx
theorem fn_ret {n : Nat} {x : Sf} (h : x (startR n ds) s = .ret d s1) : fnD n x ds s = .ok d s1 := by unfold fnD; rw [h]
theorem fn_next {n : Nat} {x : Sf} (h : x (startR n ds) s = .next ρ1 s1) : fnD n x ds s = .ok .non s1 := by unfold fnD; rw [h]
theorem sfor_ok {w : Fn (List D)} {p : Pt} {x : Sf} {o : Fl} (hw : w ρ s = .ok ds s1) (h : forL p x ds ρ s1 = o) : sFor w p x ρ s = o := by unfold sFor sBind; rw [hw]; exact h
/-- a loop by an invariant: every turn goes on -/
theorem forL_inv {p : Pt} {x : Sf} (I : List Sl → Sto → Prop) (P : D → Prop) (step : ∀ ρ s d, I ρ s → P d → ∃ ρ1 ρ2 s2, setP p ρ d = some ρ1 ∧ (x ρ1 s = .next ρ2 s2 ∨ x ρ1 s = .cont ρ2 s2) ∧ I ρ2 s2) :
    ∀ (ds : List D) (ρ : List Sl) (s : Sto), (∀ d ∈ ds, P d) → I ρ s → ∃ ρ' s', forL p x ds ρ s = .next ρ' s' ∧ I ρ' s'
  | [], ρ, s, _, h => ⟨ρ, s, rfl, h⟩
  | d :: ds, ρ, s, hp, h => by
    obtain ⟨ρ1, ρ2, s2, h1, h2, h3⟩ := step ρ s d h (hp d List.mem_cons_self)
    obtain ⟨ρ', s', h4, h5⟩ := forL_inv I P step ds ρ2 s2 (fun e m => hp e (List.mem_cons_of_mem _ m)) h3
    refine ⟨ρ', s', ?_, h5⟩
    unfold forL
    rw [h1]
    rcases h2 with h2 | h2
    · simp only [h2]; exact h4
    · simp only [h2]; exact h4
theorem forL_invN {p : Pt} {x : Sf} (I : Nat → List Sl → Sto → Prop) (P : D → Prop) (step : ∀ k ρ s d, I k ρ s → P d → ∃ ρ1 ρ2 s2, setP p ρ d = some ρ1 ∧ (x ρ1 s = .next ρ2 s2 ∨ x ρ1 s = .cont ρ2 s2) ∧ I (k + 1) ρ2 s2) :
    ∀ (ds : List D) (k : Nat) (ρ : List Sl) (s : Sto), (∀ d ∈ ds, P d) → I k ρ s → ∃ ρ' s', forL p x ds ρ s = .next ρ' s' ∧ I (k + ds.length) ρ' s'
  | [], k, ρ, s, _, h => ⟨ρ, s, rfl, h⟩
  | d :: ds, k, ρ, s, hp, h => by
    obtain ⟨ρ1, ρ2, s2, h1, h2, h3⟩ := step k ρ s d h (hp d List.mem_cons_self)
    obtain ⟨ρ', s', h4, h5⟩ := forL_invN I P step ds (k + 1) ρ2 s2 (fun e m => hp e (List.mem_cons_of_mem _ m)) h3
    have e1 : k + 1 + ds.length = k + (d :: ds).length := by simp; omega
    refine ⟨ρ', s', ?_, e1 ▸ h5⟩
    unfold forL
    rw [h1]
    rcases h2 with h2 | h2
    · simp only [h2]; exact h4
    · simp only [h2]; exact h4
theorem app_ok {i : Nat} (hi : ρ[i]? = some (.own ds)) (he : e ρ s = .ok d s1) (hz : small ds.length = true) : sApp i e ρ s = .next (ρ.set i (.own (ds ++ [d]))) s1 := by
  unfold sApp; rw [hi]; show (match e ρ s with | .ok d s => _ | .exc k fs s => _ | .bad => _) = _; rw [he]; show (if small ds.length = true then _ else _) = _; rw [if_pos hz]
theorem retOwn_ok {i : Nat} (hi : ρ[i]? = some (.own ds)) : sRetOwn i ρ s = .ret (.lst ds) s := by unfold sRetOwn; rw [hi]
theorem parO_ok {i j : Nat} {eb : Fn (List D)} (ha : ea ρ s = .ok a s1) (hb : eb ρ s1 = .ok ds s2) : sParO i j ea eb ρ s = .next ((ρ.set i (.val a)).set j (.own ds)) s2 := by
  unfold sParO sBind; rw [ha]; show (match eb ρ s1 with | .ok b s => _ | .exc k fs s => _ | .bad => _) = _; rw [hb]
theorem par_ok {i j : Nat} (ha : ea ρ s = .ok a s1) (hb : eb ρ s1 = .ok b s2) : sPar i j ea eb ρ s = .next ((ρ.set i (.val a)).set j (.val b)) s2 := by
  unfold sPar sBind; rw [ha]; show (match eb ρ s1 with | .ok b s => _ | .exc k fs s => _ | .bad => _) = _; rw [hb]
theorem rng1_ok {er : Fn (List D)} {j : Int} (h : er ρ s = .ok [.int j] s1) (hj : -1000000 ≤ j ∧ j ≤ 1000000) : wRng1 er ρ s = .ok (rangeD 0 j.toNat) s1 := by
  unfold wRng1; rw [h]; show (if inB j = true then _ else _) = _; rw [if_pos (show inB j = true from decide_eq_true hj)]
theorem rng2_ok {er : Fn (List D)} {i j : Int} (h : er ρ s = .ok [.int i, .int j] s1) (hi : -1000000 ≤ i ∧ i ≤ 1000000) (hj : -1000000 ≤ j ∧ j ≤ 1000000) : wRng2 er ρ s = .ok (rangeD i (j - i).toNat) s1 := by
  unfold wRng2; rw [h]; show (if (inB i && inB j) = true then _ else _) = _; rw [if_pos (by rw [Bool.and_eq_true]; exact ⟨decide_eq_true hi, decide_eq_true hj⟩)]
theorem range_mem {lo : Int} {n : Nat} {d : D} (h : d ∈ rangeD lo n) : ∃ i : Nat, i < n ∧ d = .int (lo + (i : Int)) := by
  unfold rangeD at h
  obtain ⟨i, hi, e⟩ := List.mem_map.mp h
  exact ⟨i, List.mem_range.mp hi, e.symm⟩
theorem range_len {lo : Int} {n : Nat} : (rangeD lo n).length = n := by unfold rangeD; simp
/-- a comprehension by an invariant on the store -/
theorem compL_inv {p : Pt} {t : Fn Bool} {e : Fn D} {ρ : List Sl} (I : Sto → Prop) (P Q : D → Prop) (step : ∀ s d, I s → P d → ∃ ρ1 k s1, setP p ρ d = some ρ1 ∧ t ρ1 s = .ok k s1 ∧ I s1 ∧ (k = true → ∃ y s2, e ρ1 s1 = .ok y s2 ∧ Q y ∧ I s2)) :
    ∀ (ds : List D) (s : Sto), (∀ d ∈ ds, P d) → I s → ∃ r s', compL p t e ρ ds s = .ok r s' ∧ I s' ∧ (∀ y ∈ r, Q y) ∧ r.length ≤ ds.length
  | [], s, _, h => ⟨[], s, rfl, h, (fun y m => by cases m), Nat.le_refl _⟩
  | d :: ds, s, hp, h => by
    obtain ⟨ρ1, k, s1, h1, h2, h3, h4⟩ := step s d h (hp d List.mem_cons_self)
    cases k with
    | false =>
      obtain ⟨r, s', g1, g2, g3, g4⟩ := compL_inv I P Q step ds s1 (fun e m => hp e (List.mem_cons_of_mem _ m)) h3
      refine ⟨r, s', ?_, g2, g3, Nat.le_succ_of_le g4⟩
      unfold compL
      rw [h1]
      simp only [h2, noX, Res.bind]
      exact g1
    | true =>
      obtain ⟨y, s2, f1, f2, f3⟩ := h4 rfl
      obtain ⟨r, s', g1, g2, g3, g4⟩ := compL_inv I P Q step ds s2 (fun e m => hp e (List.mem_cons_of_mem _ m)) f3
      refine ⟨y :: r, s', ?_, g2, ?_, by simp; exact g4⟩
      · unfold compL
        rw [h1]
        simp only [h2, noX, Res.bind, if_true, f1, g1]
      · intro z m
        rcases List.mem_cons.mp m with rfl | m
        · exact f2
        · exact g3 z m
end
theorem fmul_ok {i j : Int} {s : Sto} (h : i.natAbs.log2 + j.natAbs.log2 < 100000000) : fMul (.int i) (.int j) s = some (.int (i * j)) := by
  show (if _ then _ else _) = _; rw [if_pos h]
theorem fmod_ok {i j : Int} {s : Sto} (h : j ≠ 0) : fMod (.int i) (.int j) s = some (.int (i.fmod j)) := by
  show (if _ then _ else _) = _; rw [if_pos h]
theorem fdiv_ok {i j : Int} {s : Sto} (h : j ≠ 0) (h2 : j.natAbs < 1073741824) : fDiv (.int i) (.int j) s = some (.int (i.fdiv j)) := by
  show (if _ then _ else _) = _; rw [if_pos ⟨h, h2⟩]
theorem fmod_range {x m : Int} (h : 0 < m) : 0 ≤ x.fmod m ∧ x.fmod m < m := ⟨Int.fmod_nonneg_of_pos x h, Int.fmod_lt_of_pos x h⟩
theorem log2_lt {n E : Nat} (h : n < 2 ^ E) : n.log2 ≤ E := by
  by_cases z : n = 0
  · subst z; simp
  · exact Nat.le_of_lt ((Nat.log2_lt z).mpr h)
end MX


set_option Elab.async false
set_option linter.all false
set_option maxRecDepth 100000
namespace MX
open PySem L2
/-! ### what a mirror gives, backwards -/
def Wp {α : Type} (r : Res α) (Q : α → Sto → Prop) : Prop := match r with
  | .ok a s => Q a s
  | _ => False
/-- N: it goes on; B: break; C: continue; R: return -/
structure Out where
  nx : List Sl → Sto → Prop
  bk : List Sl → Sto → Prop := fun _ _ => False
  ct : List Sl → Sto → Prop := fun _ _ => False
  rt : D → Sto → Prop := fun _ _ => False
def Ws (o : Fl) (O : Out) : Prop := match o with
  | .next ρ s => O.nx ρ s
  | .brk ρ s => O.bk ρ s
  | .cont ρ s => O.ct ρ s
  | .ret d s => O.rt d s
  | _ => False
section
variable {α β : Type} {r : Res α} {Q : α → Sto → Prop} {O : Out} {ρ : List Sl} {s : Sto} {e ea eb : Fn D} {V : D → Sto → Prop}
theorem Wp.mono {Q' : α → Sto → Prop} (h : Wp r Q) (k : ∀ a s, Q a s → Q' a s) : Wp r Q' := by
  cases r with
  | ok a s => exact k a s h
  | exc _ _ _ => exact h
  | bad => exact h
theorem Wp.of {a : α} {s : Sto} (h : r = .ok a s) (q : Q a s) : Wp r Q := by rw [h]; exact q
theorem Wp.ex (h : Wp r Q) : ∃ a s, r = .ok a s ∧ Q a s := by
  cases r with
  | ok a s => exact ⟨a, s, rfl, h⟩
  | exc _ _ _ => exact h.elim
  | bad => exact h.elim
theorem wp_bind {f : α → Sto → Res β} {Q : β → Sto → Prop} (h : Wp r fun a s => Wp (f a s) Q) : Wp (r.bind f) Q := by
  cases r with
  | ok a s => exact h
  | exc _ _ _ => exact h
  | bad => exact h
theorem wp_ofO {o : Option α} (h : ∃ a, o = some a ∧ Q a s) : Wp (Res.ofO o s) Q := by
  obtain ⟨a, rfl, q⟩ := h
  exact q
theorem wp_var {i : Nat} {d : D} (h : ρ[i]? = some (.val d)) (q : V d s) : Wp (dVar i ρ s) V := .of (var_ok h) q
theorem wp_c {d : D} (q : V d s) : Wp (dC d ρ s) V := q
theorem wp_bin {f : F2} (h : Wp (ea ρ s) fun a s1 => Wp (eb ρ s1) fun b s2 => ∃ d, f a b s2 = some d ∧ V d s2) : Wp (dBin f ea eb ρ s) V := wp_bind (h.mono fun a s1 h => wp_bind (h.mono fun b s2 h => wp_ofO h))
theorem wp_un {f : D → Sto → Option D} (h : Wp (ea ρ s) fun a s1 => ∃ d, f a s1 = some d ∧ V d s1) : Wp (dUn f ea ρ s) V := wp_bind (h.mono fun a s1 h => wp_ofO h)
theorem wp_nil {W : List D → Sto → Prop} (h : W [] s) : Wp (dNil ρ s) W := h
theorem wp_cons {er : Fn (List D)} {W : List D → Sto → Prop} (h : Wp (ea ρ s) fun a s1 => Wp (er ρ s1) fun ds s2 => W (a :: ds) s2) : Wp (dCons ea er ρ s) W := wp_bind (h.mono fun a s1 h => wp_bind h)
theorem wp_cb {f : FC} {er : Fn (List D)} (h : Wp (er ρ s) fun ds s1 => ∃ d, f ds s1 = some d ∧ V d s1) : Wp (dCB f er ρ s) V := wp_bind (h.mono fun a s1 h => wp_ofO h)
theorem wp_tup {er : Fn (List D)} (h : Wp (er ρ s) fun ds s1 => small ds.length = true ∧ V (.tup ds) s1) : Wp (dTup er ρ s) V := wp_bind (h.mono fun ds s1 h => by rw [if_pos h.1]; exact h.2)
theorem wp_lst {er : Fn (List D)} {W : List D → Sto → Prop} (h : Wp (er ρ s) fun ds s1 => small ds.length = true ∧ W ds s1) : Wp (dLst er ρ s) W := wp_bind (h.mono fun ds s1 h => by rw [if_pos h.1]; exact h.2)
theorem wp_ofL {er : Fn (List D)} (h : Wp (er ρ s) fun ds s1 => V (.lst ds) s1) : Wp (dOfL er ρ s) V := wp_bind h
theorem wp_cell {er : Fn (List D)} (h : Wp (er ρ s) fun ds s1 => V (.cell s1.length) (s1 ++ [ds])) : Wp (dCell er ρ s) V := wp_bind h
theorem wp_tupL {er : Fn (List D)} (h : Wp (er ρ s) fun ds s1 => V (.tup ds) s1) : Wp (dTupL er ρ s) V := wp_bind h
theorem wp_lenL {er : Fn (List D)} (h : Wp (er ρ s) fun ds s1 => V (.int ds.length) s1) : Wp (dLenL er ρ s) V := wp_bind h
theorem wp_call {m : Mf} {n : Nat} {er : Fn (List D)} (h : Wp (er ρ s) fun ds s1 => ds.length = n ∧ Wp (m ds s1) V) : Wp (dCall m n er ρ s) V := wp_bind (h.mono fun ds s1 h => by rw [if_pos h.1]; exact h.2)
theorem wp_pur {m : Mf} {ds : List D} (hc : noCs ds = true) (h : Wp (m ds []) fun d s1 => s1 = [] ∧ V d s) : Wp (pur m ds s) V := by
  obtain ⟨d, s1, e, rfl, q⟩ := h.ex
  exact .of (pur_ok hc e) q
theorem wp_bl {W : Bool → Sto → Prop} (h : Wp (ea ρ s) fun d s1 => ∃ k, d = .bl k ∧ W k s1) : Wp (eBl ea ρ s) W := wp_bind (h.mono fun d s1 h => by obtain ⟨k, rfl, q⟩ := h; exact q)
theorem wp_tru {W : Bool → Sto → Prop} (h : Wp (ea ρ s) fun d s1 => ∃ k, truD s1 d = some k ∧ W k s1) : Wp (eTru ea ρ s) W := wp_bind (h.mono fun d s1 h => wp_ofO h)
theorem wp_if {t : Fn Bool} (h : Wp (t ρ s) fun k s1 => (k = true → Wp (ea ρ s1) V) ∧ (k = false → Wp (eb ρ s1) V)) : Wp (dIf t ea eb ρ s) V := wp_bind (h.mono fun k s1 h => by cases k <;> simp at h ⊢ <;> exact h)
theorem wp_and {t u : Fn Bool} {W : Bool → Sto → Prop} (h : Wp (t ρ s) fun k s1 => (k = true → Wp (u ρ s1) W) ∧ (k = false → W false s1)) : Wp (eAnd t u ρ s) W := wp_bind (h.mono fun k s1 h => by cases k <;> simp at h ⊢ <;> exact h)
theorem wp_or {t u : Fn Bool} {W : Bool → Sto → Prop} (h : Wp (t ρ s) fun k s1 => (k = true → W true s1) ∧ (k = false → Wp (u ρ s1) W)) : Wp (eOr t u ρ s) W := wp_bind (h.mono fun k s1 h => by cases k <;> simp at h ⊢ <;> exact h)
theorem wp_not {t : Fn Bool} {W : Bool → Sto → Prop} (h : Wp (t ρ s) fun k s1 => W (!k) s1) : Wp (eNot t ρ s) W := wp_bind h
theorem wp_rng1 {er : Fn (List D)} {W : List D → Sto → Prop} (h : Wp (er ρ s) fun ds s1 => ∃ j : Int, ds = [.int j] ∧ (-1000000 ≤ j ∧ j ≤ 1000000) ∧ W (rangeD 0 j.toNat) s1) : Wp (wRng1 er ρ s) W := wp_bind (h.mono fun ds s1 h => by
  obtain ⟨j, rfl, hj, q⟩ := h
  show Wp (if inB j = true then _ else _) _
  rw [if_pos (show inB j = true from decide_eq_true hj)]; exact q)
theorem wp_rng2 {er : Fn (List D)} {W : List D → Sto → Prop} (h : Wp (er ρ s) fun ds s1 => ∃ i j : Int, ds = [.int i, .int j] ∧ (-1000000 ≤ i ∧ i ≤ 1000000) ∧ (-1000000 ≤ j ∧ j ≤ 1000000) ∧ W (rangeD i (j - i).toNat) s1) : Wp (wRng2 er ρ s) W := wp_bind (h.mono fun ds s1 h => by
  obtain ⟨i, j, rfl, hi, hj, q⟩ := h
  show Wp (if (inB i && inB j) = true then _ else _) _
  rw [if_pos (by rw [Bool.and_eq_true]; exact ⟨decide_eq_true hi, decide_eq_true hj⟩)]; exact q)
theorem wp_seq' {er : Fn D} {W : List D → Sto → Prop} (h : Wp (er ρ s) fun d s1 => ∃ ds, frzD d = some ds ∧ W ds s1) : Wp (wSeq er ρ s) W := wp_bind (h.mono fun d s1 h => wp_ofO h)
theorem wp_comp {w : Fn (List D)} {p : Pt} {t : Fn Bool} {vs : List Nat} {W : List D → Sto → Prop} (h : Wp (w ρ s) fun ds s1 => small ds.length = true ∧ Wp (compL p t e (wipeR ρ vs) ds s1) W) : Wp (dComp w p t e vs ρ s) W := wp_bind (h.mono fun ds s1 h => by rw [if_pos h.1]; exact h.2)
theorem wp_compAll {p : Pt} (I : Sto → Prop) (P Y : D → Prop) (step : ∀ s d, I s → P d → ∃ ρ1, setP p ρ d = some ρ1 ∧ Wp (e ρ1 s) fun y s2 => Y y ∧ I s2) :
    ∀ (ds : List D) (s : Sto), (∀ d ∈ ds, P d) → I s → Wp (compL p eYes e ρ ds s) fun r s' => I s' ∧ (∀ y ∈ r, Y y) ∧ r.length = ds.length
  | [], s, _, h => ⟨h, (fun y m => by cases m), rfl⟩
  | d :: ds, s, hp, h => by
    obtain ⟨ρ1, h1, h2⟩ := step s d h (hp d List.mem_cons_self)
    obtain ⟨y, s2, e1, q, hI⟩ := h2.ex
    obtain ⟨r, s3, e2, g1, g2, g3⟩ := (wp_compAll I P Y step ds s2 (fun e m => hp e (List.mem_cons_of_mem _ m)) hI).ex
    unfold compL
    rw [h1]
    show Wp (((noX (eYes ρ1 s)).bind fun k s => _)) _
    simp only [eYes, noX, Res.bind, if_true, e1, e2]
    refine ⟨g1, ?_, by simp [g3]⟩
    intro z m
    rcases List.mem_cons.mp m with rfl | m
    · exact q
    · exact g2 z m
/-- with a test -/
theorem wp_compSome {p : Pt} {t : Fn Bool} (I : Sto → Prop) (P : D → Prop) (Y : D → Prop) (step : ∀ s d, I s → P d → ∃ ρ1, setP p ρ d = some ρ1 ∧ Wp (t ρ1 s) fun k s1 => (k = true → Wp (e ρ1 s1) fun y s2 => Y y ∧ y = d ∧ I s2) ∧ (k = false → I s1)) :
    ∀ (ds : List D) (s : Sto), (∀ d ∈ ds, P d) → I s → Wp (compL p t e ρ ds s) fun r s' => I s' ∧ (∀ y ∈ r, Y y) ∧ r.Sublist ds
  | [], s, _, h => ⟨h, (fun y m => by cases m), List.Sublist.slnil⟩
  | d :: ds, s, hp, h => by
    obtain ⟨ρ1, h1, h2⟩ := step s d h (hp d List.mem_cons_self)
    obtain ⟨k, s1, e0, h3, h4⟩ := h2.ex
    unfold compL
    rw [h1]
    cases k with
    | false =>
      obtain ⟨r, s3, e2, g1, g2, g3⟩ := (wp_compSome I P Y step ds s1 (fun e m => hp e (List.mem_cons_of_mem _ m)) (h4 rfl)).ex
      simp only [e0, noX, Res.bind, e2]
      exact ⟨g1, g2, g3.cons d⟩
    | true =>
      obtain ⟨y, s2, e1, q, rfl, hI⟩ := (h3 rfl).ex
      obtain ⟨r, s3, e2, g1, g2, g3⟩ := (wp_compSome I P Y step ds s2 (fun e m => hp e (List.mem_cons_of_mem _ m)) hI).ex
      simp only [e0, noX, Res.bind, if_true, e1, e2]
      refine ⟨g1, ?_, g3.cons₂ _⟩
      intro z m
      rcases List.mem_cons.mp m with rfl | m
      · exact q
      · exact g2 z m
/-! statements -/
theorem Ws.mono {o : Fl} {O' : Out} (h : Ws o O) (h1 : ∀ r s, O.nx r s → O'.nx r s) (h2 : ∀ r s, O.bk r s → O'.bk r s) (h3 : ∀ r s, O.ct r s → O'.ct r s) (h4 : ∀ d s, O.rt d s → O'.rt d s) : Ws o O' := by
  cases o with
  | next r s => exact h1 r s h
  | brk r s => exact h2 r s h
  | cont r s => exact h3 r s h
  | ret d s => exact h4 d s h
  | exc _ _ _ => exact h
  | bad => exact h
theorem ws_seq {x y : Sf} (h : Ws (x ρ s) { O with nx := fun r1 s1 => Ws (y r1 s1) O }) : Ws (sSeq x y ρ s) O := by
  unfold sSeq
  cases z : x ρ s with
  | next r s1 => rw [z] at h; exact h
  | brk r s1 => rw [z] at h; exact h
  | cont r s1 => rw [z] at h; exact h
  | ret d s1 => rw [z] at h; exact h
  | exc _ _ _ => rw [z] at h; exact h
  | bad => rw [z] at h; exact h
theorem ws_next (h : O.nx ρ s) : Ws (sNext ρ s) O := h
theorem ws_bind {α : Type} {e : Fn α} {k : List Sl → α → Sto → Fl} (h : Wp (e ρ s) fun a s1 => Ws (k ρ a s1) O) : Ws (sBind e k ρ s) O := by
  unfold sBind
  cases z : e ρ s with
  | ok a s1 => rw [z] at h; exact h
  | exc _ _ _ => rw [z] at h; exact h
  | bad => rw [z] at h; exact h
theorem ws_asg {i : Nat} (h : Wp (e ρ s) fun d s1 => O.nx (ρ.set i (.val d)) s1) : Ws (sAsg i e ρ s) O := ws_bind h
theorem ws_own {i : Nat} {er : Fn (List D)} (h : Wp (er ρ s) fun ds s1 => O.nx (ρ.set i (.own ds)) s1) : Ws (sOwn i er ρ s) O := ws_bind h
theorem ws_drop (h : Wp (e ρ s) fun _ s1 => O.nx ρ s1) : Ws (sDrop e ρ s) O := ws_bind h
theorem ws_ret (h : Wp (e ρ s) fun d s1 => O.rt d s1) : Ws (sRet e ρ s) O := ws_bind h
theorem ws_if {t : Fn Bool} {x y : Sf} (h : Wp (t ρ s) fun k s1 => (k = true → Ws (x ρ s1) O) ∧ (k = false → Ws (y ρ s1) O)) : Ws (sIf t x y ρ s) O := ws_bind (h.mono fun k s1 h => by cases k <;> simp at h ⊢ <;> exact h)
theorem ws_app {i : Nat} {ds : List D} (hi : ρ[i]? = some (.own ds)) (hz : small ds.length = true) (h : Wp (e ρ s) fun d s1 => O.nx (ρ.set i (.own (ds ++ [d]))) s1) : Ws (sApp i e ρ s) O := by
  obtain ⟨d, s1, e1, q⟩ := h.ex
  rw [app_ok hi e1 hz]; exact q
theorem ws_retOwn {i : Nat} {ds : List D} (hi : ρ[i]? = some (.own ds)) (h : O.rt (.lst ds) s) : Ws (sRetOwn i ρ s) O := by rw [retOwn_ok hi]; exact h
theorem ws_par {i j : Nat} (h : Wp (ea ρ s) fun a s1 => Wp (eb ρ s1) fun b s2 => O.nx ((ρ.set i (.val a)).set j (.val b)) s2) : Ws (sPar i j ea eb ρ s) O := by
  obtain ⟨a, s1, e1, h⟩ := h.ex
  obtain ⟨b, s2, e2, h⟩ := h.ex
  rw [par_ok e1 e2]; exact h
theorem ws_parO {i j : Nat} {eb : Fn (List D)} (h : Wp (ea ρ s) fun a s1 => Wp (eb ρ s1) fun b s2 => O.nx ((ρ.set i (.val a)).set j (.own b)) s2) : Ws (sParO i j ea eb ρ s) O := by
  obtain ⟨a, s1, e1, h⟩ := h.ex
  obtain ⟨b, s2, e2, h⟩ := h.ex
  rw [parO_ok e1 e2]; exact h
theorem ws_asgP {p : Pt} (h : Wp (e ρ s) fun d s1 => ∃ r, setP p ρ d = some r ∧ O.nx r s1) : Ws (sAsgP p e ρ s) O := by
  unfold sAsgP
  refine ws_bind (h.mono fun d s1 h => ?_)
  obtain ⟨r, e1, q⟩ := h
  show Ws (match setP p ρ d with | some r => _ | none => _) O
  rw [e1]; exact q
/-- a loop: I at each turn's begin -/
theorem ws_for {w : Fn (List D)} {p : Pt} {x : Sf} (I : Nat → List Sl → Sto → Prop) (h : Wp (w ρ s) fun ds s1 => I 0 ρ s1 ∧
      (∀ i d r t, ds[i]? = some d → I i r t → ∃ r1, setP p r d = some r1 ∧ Ws (x r1 t) { nx := I (i + 1), ct := I (i + 1), bk := O.nx, rt := O.rt }) ∧ ∀ r t, I ds.length r t → O.nx r t) : Ws (sFor w p x ρ s) O := by
  refine ws_bind (h.mono fun ds s1 h => ?_)
  obtain ⟨h0, hs, hd⟩ := h
  have gen : ∀ (n : Nat) (es : List D) (r : List Sl) (t : Sto), (∀ i d, es[i]? = some d → ds[n + i]? = some d) → n + es.length = ds.length → I n r t → Ws (forL p x es r t) O := by
    intro n es
    induction es generalizing n with
    | nil =>
      intro r t _ hl hI
      have : n = ds.length := by simpa using hl
      subst this
      exact hd r t hI
    | cons d es ih =>
      intro r t hg hl hI
      obtain ⟨r1, e1, hx⟩ := hs n d r t (by have := hg 0 d rfl; simpa using this) hI
      have hg2 : ∀ i d', es[i]? = some d' → ds[n + 1 + i]? = some d' := fun i d' z => by
        have := hg (i + 1) d' (by simpa using z)
        have e2 : n + 1 + i = n + (i + 1) := by omega
        rw [e2]; exact this
      have hl2 : n + 1 + es.length = ds.length := by simp at hl; omega
      unfold forL
      rw [e1]
      dsimp only
      cases z : x r1 t with
      | next r2 t2 => rw [z] at hx; exact ih (n + 1) r2 t2 hg2 hl2 hx
      | cont r2 t2 => rw [z] at hx; exact ih (n + 1) r2 t2 hg2 hl2 hx
      | brk r2 t2 => rw [z] at hx; exact hx
      | ret d' t2 => rw [z] at hx; exact hx
      | exc _ _ _ => rw [z] at hx; exact hx.elim
      | bad => rw [z] at hx; exact hx.elim
  exact gen 0 ds ρ s1 (fun i d z => by simpa using z) (by simp) h0
theorem wp_fn {n : Nat} {x : Sf} {ds : List D} (h : Ws (x (startR n ds) s) { nx := fun _ s1 => V .non s1, rt := V }) : Wp (fnD n x ds s) V := by
  unfold fnD
  cases z : x (startR n ds) s with
  | next r s1 => rw [z] at h; exact h
  | ret d s1 => rw [z] at h; exact h
  | brk r s1 => rw [z] at h; exact h.elim
  | cont r s1 => rw [z] at h; exact h.elim
  | exc _ _ _ => rw [z] at h; exact h.elim
  | bad => rw [z] at h; exact h.elim
end
end MX


set_option Elab.async false
set_option linter.all false
set_option maxRecDepth 100000
namespace MX
open PySem PySem.Spec PyProof.Rows L2
section
variable {c : Cs} {E : XK}
/-- a, b, d = x, y, z -/
def sPar3 (i j l : Nat) (ea eb ec : Fn D) : Sf := sBind ea fun ρ a s => match eb ρ s with
  | .ok b s => (match ec ρ s with
    | .ok d s => .next (((ρ.set i (.val a)).set j (.val b)).set l (.val d)) s
    | .exc k fs s => .exc k fs s
    | .bad => .bad)
  | .exc k fs s => .exc k fs s
  | .bad => .bad
theorem dn_par3 {i j l : Nat} {ta tb tc : TE} {ea eb ec : Fn D} (ha : DenE c E ta ea) (hb : DenE c E tb eb) (hc : DenE c E tc ec) : DenS c E (tPar3 i j l (tCons ta (tCons tb (tCons tc tNil)))) (sPar3 i j l ea eb ec) := by
  refine dn_bind (K := fun Dn σ x H => tb σ H fun y H2 => tc σ H2 fun z H3 => ∃ u v w, [x, y, z] = [u, v, w] ∧ Dn.nx (((σ.set i (some u)).set j (some v)).set l (some w)) H3) ha fun H0 F0 θ0 σ ρ s F θ H Hi v a Dn s0 F1 θ1 x0 he x w r hp => ?_
  refine hb H0 σ ρ s F θ H _ (he.ext x) w ?_
  cases z : eb ρ s with
  | bad => rw [z] at hp; exact hp.elim
  | exc k fs s' => rw [z] at hp; exact fun F' θ' H' dx x' w' r => hp F' θ' H' dx ((x0.trans x).trans x') w' r
  | ok b s' =>
    rw [z] at hp
    intro u F' θ' H' x' w' ru
    refine hc H0 σ ρ s' F' θ' H' _ ((he.ext x).ext x') w' ?_
    dsimp only at hp
    cases z2 : ec ρ s' with
    | bad => rw [z2] at hp; exact hp.elim
    | exc k fs s2 => rw [z2] at hp; exact fun F2 θ2 H2 dx x2 w2 r => hp F2 θ2 H2 dx (((x0.trans x).trans x').trans x2) w2 r
    | ok d s2 =>
      rw [z2] at hp
      intro u2 F2 θ2 H2 x2 w2 ru2
      exact ⟨v, u, u2, rfl, hp _ F2 θ2 H2 (((x0.trans x).trans x').trans x2) w2 (((((he.ext x).ext x').ext x2).setVal (R.mono x2.fr x2.th a (R.mono x'.fr x'.th a r))).setVal (R.mono x2.fr x2.th b ru) |>.setVal ru2)⟩
end
theorem ws_par3 {i j l : Nat} {ea eb ec : Fn D} {ρ : List Sl} {s : Sto} {O : Out} (h : Wp (ea ρ s) fun a s1 => Wp (eb ρ s1) fun b s2 => Wp (ec ρ s2) fun d s3 => O.nx (((ρ.set i (.val a)).set j (.val b)).set l (.val d)) s3) : Ws (sPar3 i j l ea eb ec ρ s) O := by
  obtain ⟨a, s1, e1, h⟩ := h.ex
  obtain ⟨b, s2, e2, h⟩ := h.ex
  obtain ⟨d, s3, e3, h⟩ := h.ex
  unfold sPar3 sBind
  rw [e1]
  dsimp only
  rw [e2]
  dsimp only
  rw [e3]
  exact h
end MX


set_option Elab.async false
set_option linter.all false
set_option maxRecDepth 100000
set_option maxHeartbeats 4000000
namespace MX
open PySem PySem.Spec PyProof.Rows L2
def top (i : Nat) : Stmt := PySem.Challenge.pw_forgetwork_k02_whole_play.main.body.getD i (.Pass ⟨0, 0, 0, 0⟩)
abbrev st_is_integer : Stmt := top 10
abbrev st_is_within : Stmt := top 11
abbrev st_is_tuple_within : Stmt := top 12
abbrev st_is_ascending : Stmt := top 13
abbrev st_all_orders : Stmt := top 15
abbrev st_all_choices : Stmt := top 16
abbrev st_Archive___init : Stmt := inClass (top 21) 0
abbrev st_Archive_sizes : Stmt := inClass (top 21) 1
abbrev st_Archive___iter : Stmt := inClass (top 21) 2
abbrev st_Archive___len : Stmt := inClass (top 21) 3
abbrev st_Archive___eq : Stmt := inClass (top 21) 4
abbrev st_check_archive : Stmt := top 22
abbrev st_check_room : Stmt := top 23
abbrev st_is_build : Stmt := top 25
abbrev st_check_build : Stmt := top 26
abbrev st_base_of : Stmt := top 27
abbrev st_built_again : Stmt := top 28
abbrev st_forgetting_work : Stmt := top 29
abbrev st_builds_after : Stmt := top 30
abbrev st_check_delay : Stmt := top 34
abbrev st_check_ticks : Stmt := top 35
abbrev st_check_play : Stmt := top 36
abbrev st_is_waiting_wish : Stmt := top 37
abbrev st_are_waiting_wishes : Stmt := top 38
abbrev st_is_position : Stmt := top 39
abbrev st_check_position : Stmt := top 40
abbrev st_possible_wishes : Stmt := top 41
abbrev st_is_wish : Stmt := top 42
abbrev st_pending_wishes : Stmt := top 43
abbrev st_possible_answers : Stmt := top 44
abbrev st_start_of : Stmt := top 45
abbrev st_wishes : Stmt := top 46
abbrev st_answers : Stmt := top 47
abbrev st_begin : Stmt := top 49
abbrev st_u_law_draw : Stmt := top 51
abbrev st_u_law_cell_at : Stmt := top 52
abbrev st_u_law_digits : Stmt := top 53
abbrev st_u_law_take : Stmt := top 54
abbrev st_u_law_pool : Stmt := top 55
abbrev st_u_law_sizes : Stmt := top 56
abbrev st_u_law_orders : Stmt := top 57
abbrev st_u_law_some : Stmt := top 58
abbrev st_u_law_drawn_build : Stmt := top 59
abbrev st_u_law_base : Stmt := top 60
abbrev st_u_law_cost : Stmt := top 61
abbrev st_u_law_later : Stmt := top 62
abbrev st_u_law_wishes : Stmt := top 63
abbrev st_u_law_answers : Stmt := top 64
abbrev st_law : Stmt := top 65
structure Tx (c : Cs) (mg : Str → Option Value) (a : Nat → Addr) (d : Nat → FuncData) : Prop where
  F10 : Fun c.K "is_integer" "is_integer" st_is_integer (a 10) (d 10)
  b10 : Binds c.K (d 10) ["value"] []
  m10 : mg "is_integer" = some (.ref (a 10))
  F11 : Fun c.K "is_within" "is_within" st_is_within (a 11) (d 11)
  b11 : Binds c.K (d 11) ["value", "least", "most"] []
  m11 : mg "is_within" = some (.ref (a 11))
  F12 : Fun c.K "is_tuple_within" "is_tuple_within" st_is_tuple_within (a 12) (d 12)
  b12 : Binds c.K (d 12) ["value", "least", "most"] []
  m12 : mg "is_tuple_within" = some (.ref (a 12))
  F13 : Fun c.K "is_ascending" "is_ascending" st_is_ascending (a 13) (d 13)
  b13 : Binds c.K (d 13) ["items"] []
  m13 : mg "is_ascending" = some (.ref (a 13))
  F15 : Fun c.K "all_orders" "all_orders" st_all_orders (a 15) (d 15)
  b15 : Binds c.K (d 15) ["items"] []
  m15 : mg "all_orders" = some (.ref (a 15))
  F16 : Fun c.K "all_choices" "all_choices" st_all_choices (a 16) (d 16)
  b16 : Binds c.K (d 16) ["items", "most"] []
  m16 : mg "all_choices" = some (.ref (a 16))
  F2100 : Fun c.K "__init__" "Archive.__init__" st_Archive___init (a 2100) (d 2100)
  b2100 : Binds c.K (d 2100) ["self", "sizes"] []
  M0 : Mk c.K (c.cl 0) (a 2100)
  F2101 : Fun c.K "sizes" "Archive.sizes" st_Archive_sizes (a 2101) (d 2101)
  b2101 : Binds c.K (d 2101) ["self"] []
  p2101 : PropOf c.K (c.cl 0) "sizes" (a 12101) (a 2101)
  F2102 : Fun c.K "__iter__" "Archive.__iter__" st_Archive___iter (a 2102) (d 2102)
  b2102 : Binds c.K (d 2102) ["self"] []
  h2102 : PySem.W.findIn c.K (.ref (c.cl 0)) "__iter__" = some (some (.ref (a 2102)))
  hf2102 : PySem.W.isFn c.K (.ref (a 2102)) = true
  F2103 : Fun c.K "__len__" "Archive.__len__" st_Archive___len (a 2103) (d 2103)
  b2103 : Binds c.K (d 2103) ["self"] []
  h2103 : PySem.W.findIn c.K (.ref (c.cl 0)) "__len__" = some (some (.ref (a 2103)))
  hf2103 : PySem.W.isFn c.K (.ref (a 2103)) = true
  F2104 : Fun c.K "__eq__" "Archive.__eq__" st_Archive___eq (a 2104) (d 2104)
  b2104 : Binds c.K (d 2104) ["self", "other"] []
  h2104 : PySem.W.findIn c.K (.ref (c.cl 0)) "__eq__" = some (some (.ref (a 2104)))
  hf2104 : PySem.W.isFn c.K (.ref (a 2104)) = true
  F22 : Fun c.K "check_archive" "check_archive" st_check_archive (a 22) (d 22)
  b22 : Binds c.K (d 22) ["archive"] []
  m22 : mg "check_archive" = some (.ref (a 22))
  F23 : Fun c.K "check_room" "check_room" st_check_room (a 23) (d 23)
  b23 : Binds c.K (d 23) ["room"] []
  m23 : mg "check_room" = some (.ref (a 23))
  F25 : Fun c.K "is_build" "is_build" st_is_build (a 25) (d 25)
  b25 : Binds c.K (d 25) ["archive", "room", "build"] []
  m25 : mg "is_build" = some (.ref (a 25))
  F26 : Fun c.K "check_build" "check_build" st_check_build (a 26) (d 26)
  b26 : Binds c.K (d 26) ["archive", "room", "build"] []
  m26 : mg "check_build" = some (.ref (a 26))
  F27 : Fun c.K "base_of" "base_of" st_base_of (a 27) (d 27)
  b27 : Binds c.K (d 27) ["build", "people"] []
  m27 : mg "base_of" = some (.ref (a 27))
  F28 : Fun c.K "built_again" "built_again" st_built_again (a 28) (d 28)
  b28 : Binds c.K (d 28) ["build", "people"] []
  m28 : mg "built_again" = some (.ref (a 28))
  F29 : Fun c.K "forgetting_work" "forgetting_work" st_forgetting_work (a 29) (d 29)
  b29 : Binds c.K (d 29) ["archive", "build", "people"] []
  m29 : mg "forgetting_work" = some (.ref (a 29))
  F30 : Fun c.K "builds_after" "builds_after" st_builds_after (a 30) (d 30)
  b30 : Binds c.K (d 30) ["room", "build", "people"] []
  m30 : mg "builds_after" = some (.ref (a 30))
  F34 : Fun c.K "check_delay" "check_delay" st_check_delay (a 34) (d 34)
  b34 : Binds c.K (d 34) ["delay"] []
  m34 : mg "check_delay" = some (.ref (a 34))
  F35 : Fun c.K "check_ticks" "check_ticks" st_check_ticks (a 35) (d 35)
  b35 : Binds c.K (d 35) ["ticks"] []
  m35 : mg "check_ticks" = some (.ref (a 35))
  F36 : Fun c.K "check_play" "check_play" st_check_play (a 36) (d 36)
  b36 : Binds c.K (d 36) ["archive", "room", "delay"] []
  m36 : mg "check_play" = some (.ref (a 36))
  F37 : Fun c.K "is_waiting_wish" "is_waiting_wish" st_is_waiting_wish (a 37) (d 37)
  b37 : Binds c.K (d 37) ["order", "delay", "pair"] []
  m37 : mg "is_waiting_wish" = some (.ref (a 37))
  F38 : Fun c.K "are_waiting_wishes" "are_waiting_wishes" st_are_waiting_wishes (a 38) (d 38)
  b38 : Binds c.K (d 38) ["order", "delay", "waiting"] []
  m38 : mg "are_waiting_wishes" = some (.ref (a 38))
  F39 : Fun c.K "is_position" "is_position" st_is_position (a 39) (d 39)
  b39 : Binds c.K (d 39) ["archive", "room", "delay", "position"] []
  m39 : mg "is_position" = some (.ref (a 39))
  F40 : Fun c.K "check_position" "check_position" st_check_position (a 40) (d 40)
  b40 : Binds c.K (d 40) ["archive", "room", "delay", "position"] []
  m40 : mg "check_position" = some (.ref (a 40))
  F41 : Fun c.K "possible_wishes" "possible_wishes" st_possible_wishes (a 41) (d 41)
  b41 : Binds c.K (d 41) ["position"] []
  m41 : mg "possible_wishes" = some (.ref (a 41))
  F42 : Fun c.K "is_wish" "is_wish" st_is_wish (a 42) (d 42)
  b42 : Binds c.K (d 42) ["position", "wish"] []
  m42 : mg "is_wish" = some (.ref (a 42))
  F43 : Fun c.K "pending_wishes" "pending_wishes" st_pending_wishes (a 43) (d 43)
  b43 : Binds c.K (d 43) ["delay", "position", "wish"] []
  m43 : mg "pending_wishes" = some (.ref (a 43))
  F44 : Fun c.K "possible_answers" "possible_answers" st_possible_answers (a 44) (d 44)
  b44 : Binds c.K (d 44) ["archive", "room", "delay", "position", "wish"] []
  m44 : mg "possible_answers" = some (.ref (a 44))
  F45 : Fun c.K "start_of" "start_of" st_start_of (a 45) (d 45)
  b45 : Binds c.K (d 45) ["build", "ticks"] []
  m45 : mg "start_of" = some (.ref (a 45))
  F46 : Fun c.K "wishes" "wishes" st_wishes (a 46) (d 46)
  b46 : Binds c.K (d 46) ["archive", "room", "delay", "position"] []
  m46 : mg "wishes" = some (.ref (a 46))
  F47 : Fun c.K "answers" "answers" st_answers (a 47) (d 47)
  b47 : Binds c.K (d 47) ["archive", "room", "delay", "position", "wish"] []
  m47 : mg "answers" = some (.ref (a 47))
  F49 : Fun c.K "begin" "begin" st_begin (a 49) (d 49)
  b49 : Binds c.K (d 49) ["archive", "room", "delay", "build", "ticks"] []
  m49 : mg "begin" = some (.ref (a 49))
  F51 : Fun c.K "_law_draw" "_law_draw" st_u_law_draw (a 51) (d 51)
  b51 : Binds c.K (d 51) ["_law_cell", "_law_k", "_law_many"] []
  m51 : mg "_law_draw" = some (.ref (a 51))
  F52 : Fun c.K "_law_cell_at" "_law_cell_at" st_u_law_cell_at (a 52) (d 52)
  b52 : Binds c.K (d 52) ["_law_script", "_law_k"] []
  m52 : mg "_law_cell_at" = some (.ref (a 52))
  F53 : Fun c.K "_law_digits" "_law_digits" st_u_law_digits (a 53) (d 53)
  b53 : Binds c.K (d 53) ["_law_script", "_law_at", "_law_many", "_law_base_here"] []
  m53 : mg "_law_digits" = some (.ref (a 53))
  F54 : Fun c.K "_law_take" "_law_take" st_u_law_take (a 54) (d 54)
  b54 : Binds c.K (d 54) ["_law_draws", "_law_many"] []
  m54 : mg "_law_take" = some (.ref (a 54))
  F55 : Fun c.K "_law_pool" "_law_pool" st_u_law_pool (a 55) (d 55)
  b55 : Binds c.K (d 55) ["_law_script", "_law_bases"] []
  m55 : mg "_law_pool" = some (.ref (a 55))
  F56 : Fun c.K "_law_sizes" "_law_sizes" st_u_law_sizes (a 56) (d 56)
  b56 : Binds c.K (d 56) ["_law_draws", "_law_most"] []
  m56 : mg "_law_sizes" = some (.ref (a 56))
  F57 : Fun c.K "_law_orders" "_law_orders" st_u_law_orders (a 57) (d 57)
  b57 : Binds c.K (d 57) ["_law_people"] []
  m57 : mg "_law_orders" = some (.ref (a 57))
  F58 : Fun c.K "_law_some" "_law_some" st_u_law_some (a 58) (d 58)
  b58 : Binds c.K (d 58) ["_law_lengths", "_law_room_here"] []
  m58 : mg "_law_some" = some (.ref (a 58))
  F59 : Fun c.K "_law_drawn_build" "_law_drawn_build" st_u_law_drawn_build (a 59) (d 59)
  b59 : Binds c.K (d 59) ["_law_draws", "_law_sizes_here", "_law_room_here"] []
  m59 : mg "_law_drawn_build" = some (.ref (a 59))
  F60 : Fun c.K "_law_base" "_law_base" st_u_law_base (a 60) (d 60)
  b60 : Binds c.K (d 60) ["_law_order", "_law_lengths", "_law_people"] []
  m60 : mg "_law_base" = some (.ref (a 60))
  F61 : Fun c.K "_law_cost" "_law_cost" st_u_law_cost (a 61) (d 61)
  b61 : Binds c.K (d 61) ["_law_sizes_here", "_law_order", "_law_lengths", "_law_people"] []
  m61 : mg "_law_cost" = some (.ref (a 61))
  F62 : Fun c.K "_law_later" "_law_later" st_u_law_later (a 62) (d 62)
  b62 : Binds c.K (d 62) ["_law_order", "_law_lengths", "_law_people", "_law_room_here"] []
  m62 : mg "_law_later" = some (.ref (a 62))
  F63 : Fun c.K "_law_wishes" "_law_wishes" st_u_law_wishes (a 63) (d 63)
  b63 : Binds c.K (d 63) ["_law_spot"] []
  m63 : mg "_law_wishes" = some (.ref (a 63))
  F64 : Fun c.K "_law_answers" "_law_answers" st_u_law_answers (a 64) (d 64)
  b64 : Binds c.K (d 64) ["_law_task", "_law_spot", "_law_wish"] []
  m64 : mg "_law_answers" = some (.ref (a 64))
  F65 : Fun c.K "law" "law" st_law (a 65) (d 65)
  b65 : Binds c.K (d 65) ["_law_script"] []
  m65 : mg "law" = some (.ref (a 65))
  g18 : ∃ u, mg "MOST_PEOPLE" = some u ∧ RelV (.int 4) u
  g19 : ∃ u, mg "MOST_SIZE" = some u ∧ RelV (.int 4) u
  g20 : ∃ u, mg "MOST_ROOM" = some u ∧ RelV (.int 3) u
  g32 : ∃ u, mg "MOST_DELAY" = some u ∧ RelV (.int 2) u
  g33 : ∃ u, mg "MOST_TICKS" = some u ∧ RelV (.int 4) u
  K0 : IsK c 0
  mc0 : mg "Archive" = some (.ref (c.cl 0))
  fn0 : c.fn 0 = (["_sizes"] : List Str)
  hn0 : PySem.W.findIn c.K (.ref (c.cl 0)) "__ne__" = some (some (.builtin "object.__ne__"))
  na0_0 : NoAttr c.K (c.cl 0) "_sizes"
  naAll_0_0 : ∀ q, NoAttr c.K (c.cl q) "_sizes"
  clAll : ∀ q, Cls c.K (c.cl q)
  z_abs : mg "abs" = none
  z_all : mg "all" = none
  z_bool : mg "bool" = none
  z_enumerate : mg "enumerate" = none
  z_int : mg "int" = none
  z_isinstance : mg "isinstance" = none
  z_iter : mg "iter" = none
  z_len : mg "len" = none
  z_list : mg "list" = none
  z_max : mg "max" = none
  z_min : mg "min" = none
  z_range : mg "range" = none
  z_sorted : mg "sorted" = none
  z_sum : mg "sum" = none
  z_tuple : mg "tuple" = none
section
variable {P : Program} {w : World} {c : Cs} {mg : Str → Option Value} {base : Heap} {a : Nat → Addr} {d : Nat → FuncData}
theorem Tx.fj0_0 (T : Tx c mg a d) : (c.fn 0)[0]? = some ("_sizes" : Str) := by rw [T.fn0]; rfl
theorem Tx.nd0 (T : Tx c mg a d) : (c.fn 0).Nodup := by rw [T.fn0]; decide +kernel
theorem Tx.Kall (T : Tx c mg a d) : ∀ k ∈ [0], IsK c k := by
  intro k hk
  simp only [List.mem_cons, List.not_mem_nil, or_false] at hk
  subst hk; exact T.K0
/-! is_integer -/
abbrev N_is_integer : List Str := ["value"]
theorem sc_is_integer : FnScope N_is_integer ["value"] (defScope st_is_integer) := ⟨rfl, rfl, rfl, by decide +kernel, rfl, by decide +kernel, by decide +kernel⟩
def x_is_integer : Sf :=
  (sRet (dAnd (dCB (fIsi [0]) (dCons (dVar 0) (dCons (dC (.ty "int")) dNil))) (dNot (dCB (fIsi [0]) (dCons (dVar 0) (dCons (dC (.ty "bool")) dNil))))))
def m_is_integer : Mf := fnD N_is_integer.length x_is_integer
theorem ok_is_integer (T : Tx c mg a d) : FnOk P w c.K mg base CX0 1 (a 10) (d 10) ["value"] (sp0 c m_is_integer 1) := by
  refine T.F10.ok sc_is_integer (fun vs H Q E h => h.1) (fun cdv A outer s H vs Q E hr h => ?_)
  exact ⟨_, (pss_one (ps_ret (pe_and (pe_callB call_isi rfl T.z_isinstance mbt_isinstance (pa_cons (pv 0) (pa_cons (pe_bltn (v := .ty "int") rfl T.z_int mbt_int rfl) pa_nil))) (pe_one (pe_not (pe_callB call_isi rfl T.z_isinstance mbt_isinstance (pa_cons (pv 0) (pa_cons (pe_bltn (v := .ty "bool") rfl T.z_bool mbt_bool rfl) pa_nil)))))))),
    body0 (N := N_is_integer) (x := x_is_integer) (dn_ret (den_andV (den_cb (cd_isi (al := [0]) T.Kall) (den_cons (den_var (i := 0)) (den_cons den_ty den_nil))) (den_notV (den_cb (cd_isi (al := [0]) T.Kall) (den_cons (den_var (i := 0)) (den_cons den_ty den_nil)))))) h⟩
/-! is_within -/
abbrev N_is_within : List Str := ["value", "least", "most"]
theorem sc_is_within : FnScope N_is_within ["value", "least", "most"] (defScope st_is_within) := ⟨rfl, rfl, rfl, by decide +kernel, rfl, by decide +kernel, by decide +kernel⟩
def x_is_within : Sf :=
  (sRet (dAnd (dCall (pur m_is_integer) 1 (dCons (dVar 0) dNil)) (dChain fLe fLe (dVar 1) (dVar 0) (dVar 2))))
def m_is_within : Mf := fnD N_is_within.length x_is_within
theorem ok_is_within (T : Tx c mg a d) : FnOk P w c.K mg base CX0 2 (a 11) (d 11) ["value", "least", "most"] (sp0 c m_is_within 3) := by
  refine T.F11.ok sc_is_within (fun vs H Q E h => h.1) (fun cdv A outer s H vs Q E hr h => ?_)
  exact ⟨_, (pss_one (ps_ret (pe_and (pe_call (ok_is_integer T) (hr.mono (by decide)) rfl T.m10 T.F10.kp T.b10 .nil pass0 (pa_cons (pv 0) pa_nil)) (pe_one (pe_chain op_le op_le (pv 1) (pv 0) (pv 2)))))),
    body0 (N := N_is_within) (x := x_is_within) (dn_ret (den_andV (den_callP0 (den_cons (den_var (i := 0)) den_nil)) (den_chain od_le od_le (den_var (i := 1)) (den_var (i := 0)) (den_var (i := 2))))) h⟩
/-! is_tuple_within -/
abbrev N_is_tuple_within : List Str := ["value", "least", "most", "item"]
theorem sc_is_tuple_within : FnScope N_is_tuple_within ["value", "least", "most"] (defScope st_is_tuple_within) := ⟨rfl, rfl, rfl, by decide +kernel, rfl, by decide +kernel, by decide +kernel⟩
def x_is_tuple_within : Sf :=
  (sRet (dAnd (dCB (fIsi [0]) (dCons (dVar 0) (dCons (dC (.ty "tuple")) dNil))) (dCB fAll (dCons (dOfL (dComp (wSeq (dVar 0)) (.nm 3) eYes (dCall (pur m_is_within) 3 (dCons (dVar 3) (dCons (dVar 1) (dCons (dVar 2) dNil)))) [3])) dNil))))
def m_is_tuple_within : Mf := fnD N_is_tuple_within.length x_is_tuple_within
theorem ok_is_tuple_within (T : Tx c mg a d) : FnOk P w c.K mg base CX0 3 (a 12) (d 12) ["value", "least", "most"] (sp0 c m_is_tuple_within 3) := by
  refine T.F12.ok sc_is_tuple_within (fun vs H Q E h => h.1) (fun cdv A outer s H vs Q E hr h => ?_)
  exact ⟨_, (pss_one (ps_ret (pe_and (pe_callB call_isi rfl T.z_isinstance mbt_isinstance (pa_cons (pv 0) (pa_cons (pe_bltn (v := .ty "tuple") rfl T.z_tuple mbt_tuple rfl) pa_nil))) (pe_one (pe_callB (cr_all rfl) rfl T.z_all mbt_all (pa_cons (pe_lc (own := [("item", 3)]) rfl sc_is_tuple_within.nd (pi_seq (pv 0)) (blkOk_by (N := N_is_tuple_within) (sc := defScope st_is_tuple_within) (by decide +kernel)) (fun _ _ _ _ _ => (pg_name (i := 3) sc_is_tuple_within.nd rfl (by first | exact Or.inl rfl | exact Or.inr rfl))) (fun _ _ _ _ _ => pts_nil) (fun _ _ _ _ _ => (pe_call (ok_is_within T) (hr.mono (by decide)) rfl T.m11 T.F11.kp T.b11 .nil pass0 (pa_cons (pv 3) (pa_cons (pv 1) (pa_cons (pv 2) pa_nil)))))) pa_nil)))))),
    body0 (N := N_is_tuple_within) (x := x_is_tuple_within) (dn_ret (den_andV (den_cb (cd_isi (al := [0]) T.Kall) (den_cons (den_var (i := 0)) (den_cons den_ty den_nil))) (den_cb cd_all (den_cons (den_ofL (den_comp (p := (.nm 3)) (vs := [3]) (SrcS.x (src_seq (den_var (i := 0)))) den_yes (den_callP0 (den_cons (den_var (i := 3)) (den_cons (den_var (i := 1)) (den_cons (den_var (i := 2)) den_nil)))) rfl)) den_nil)))) h⟩
/-! is_ascending -/
abbrev N_is_ascending : List Str := ["items", "at"]
theorem sc_is_ascending : FnScope N_is_ascending ["items"] (defScope st_is_ascending) := ⟨rfl, rfl, rfl, by decide +kernel, rfl, by decide +kernel, by decide +kernel⟩
def x_is_ascending : Sf :=
  (sRet (dCB fAll (dCons (dOfL (dComp (wRng2 (dCons (dC (.int 1)) (dCons (dCB fLen (dCons (dVar 0) dNil)) dNil))) (.nm 1) eYes (dBin fLt (dBin fIx (dVar 0) (dBin fSub (dVar 1) (dC (.int 1)))) (dBin fIx (dVar 0) (dVar 1))) [1])) dNil)))
def m_is_ascending : Mf := fnD N_is_ascending.length x_is_ascending
theorem ok_is_ascending (T : Tx c mg a d) : FnOk P w c.K mg base CX0 1 (a 13) (d 13) ["items"] (sp0 c m_is_ascending 1) := by
  refine T.F13.ok sc_is_ascending (fun vs H Q E h => h.1) (fun cdv A outer s H vs Q E hr h => ?_)
  exact ⟨_, (pss_one (ps_ret (pe_callB (cr_all rfl) rfl T.z_all mbt_all (pa_cons (pe_lc (own := [("at", 1)]) rfl sc_is_ascending.nd (pi_range2 rfl T.z_range (pa_cons pe_int (pa_cons (pe_callB cr_len2 rfl T.z_len mbt_len (pa_cons (pv 0) pa_nil)) pa_nil))) (blkOk_by (N := N_is_ascending) (sc := defScope st_is_ascending) (by decide +kernel)) (fun _ _ _ _ _ => (pg_name (i := 1) sc_is_ascending.nd rfl (by first | exact Or.inl rfl | exact Or.inr rfl))) (fun _ _ _ _ _ => pts_nil) (fun _ _ _ _ _ => (pe_cmpR op_lt (pe_ix ix_seq (pv 0) (pe_op op_sub (pv 1) pe_int) (fun _ _ => rfl)) (pe_ix ix_seq (pv 0) (pv 1) (fun _ _ => rfl)) (nomark _)))) pa_nil)))),
    body0 (N := N_is_ascending) (x := x_is_ascending) (dn_ret (den_cb cd_all (den_cons (den_ofL (den_comp (p := (.nm 1)) (vs := [1]) (SrcS.x (src_rng2 (den_cons den_int (den_cons (den_cb cd_len (den_cons (den_var (i := 0)) den_nil)) den_nil)))) den_yes (den_bin od_lt (den_bin od_ix (den_var (i := 0)) (den_bin od_sub (den_var (i := 1)) den_int)) (den_bin od_ix (den_var (i := 0)) (den_var (i := 1)))) rfl)) den_nil))) h⟩
/-! all_orders -/
abbrev N_all_orders : List Str := ["items", "found", "at", "rest"]
theorem sc_all_orders : FnScope N_all_orders ["items"] (defScope st_all_orders) := ⟨rfl, rfl, rfl, by decide +kernel, rfl, by decide +kernel, by decide +kernel⟩
def x_all_orders (m : Mf) : Sf :=
  (sSeq (sIf (eNot (eTru (dVar 0))) (sRet (dOfL (dLst (dCons (dTup dNil) dNil)))) sNext)
  (sSeq (sOwn 1 (dLst dNil))
  (sSeq (sFor (wRng1 (dCons (dCB fLen (dCons (dVar 0) dNil)) dNil)) (.nm 2) (sFor (wSeq (dCall (pur (m)) 1 (dCons (dBin fAdd (dSl (dVar 0) dNoPart (dPart (dVar 2))) (dSl (dVar 0) (dPart (dBin fAdd (dVar 2) (dC (.int 1)))) dNoPart)) dNil))) (.nm 3) (sApp 1 (dTup (dCons (dBin fIx (dVar 0) (dVar 2)) (dStarF (dVar 3) dNil))))))
  (sRetOwn 1))))
def m_all_orders : Nat → Mf
  | 0 => fun _ _ => .bad
  | n + 1 => fnD N_all_orders.length (x_all_orders (m_all_orders n))
theorem ok_all_orders (T : Tx c mg a d) : ∀ n : Nat, FnOk P w c.K mg base CX0 (0 + n) (a 15) (d 15) ["items"] (sp0 c (m_all_orders n) 1)
  | 0 => fn_bad
  | n + 1 => by
    have ih := ok_all_orders T n
    refine T.F15.ok sc_all_orders (fun vs H Q E h => h.1) (fun cdv A outer s H vs Q E hr h => ?_)
    exact ⟨_, (pss_cons (ps_if (pt_not (pt_truth (pv 0) (fun _ => rfl))) (pss_one (ps_ret (pe_lst (pa_cons (pe_tupZ pa_nil) pa_nil)))) pss_nil)
      (pss_cons (ps_set (i := 1) sc_all_orders.nd rfl (by first | exact Or.inl rfl | exact Or.inr rfl) (pe_lst pa_nil))
      (pss_cons (ps_for PassesOwn.never rfl (pi_range1 rfl T.z_range (pa_cons (pe_callB cr_len2 rfl T.z_len mbt_len (pa_cons (pv 0) pa_nil)) pa_nil)) (pg_name (i := 2) sc_all_orders.nd rfl (by first | exact Or.inl rfl | exact Or.inr rfl)) (pss_one (ps_for PassesOwn.never rfl (pi_seq (pe_call ih (hr.mono (Nat.le_refl _)) rfl T.m15 T.F15.kp T.b15 .nil pass0 (pa_cons (pe_op op_addG (pe_slice sl_G (pv 0) po_none (po_some (pv 2))) (pe_slice sl_G (pv 0) (po_some (pe_op op_addG (pv 2) pe_int)) po_none)) pa_nil))) (pg_name (i := 3) sc_all_orders.nd rfl (by first | exact Or.inl rfl | exact Or.inr rfl)) (pss_one (ps_expr (pe_bm PySem.F.plainAttrs_list PySem.F.slot_list_append PySem.F.type_list_append mt_append (pv 1) (pa_cons (pe_tupZ (pa_cons (pe_ix ix_seq (pv 0) (pv 2) (fun _ _ => rfl)) (StX.pa_star (pv 3) pa_nil))) pa_nil)))))))
      (pss_one (ps_ret (pv 1)))))),
      body0 (N := N_all_orders) (x := x_all_orders (m_all_orders n)) (dn_seq (dn_if (den_not (den_truth (den_var (i := 0)))) (dn_ret (den_ofL (den_lst (den_cons (den_tup den_nil) den_nil)))) dn_next)
      (dn_seq (dn_own (den_lst den_nil))
      (dn_seq (dn_for (p := (.nm 2)) (src_rng1 (den_cons (den_cb cd_len (den_cons (den_var (i := 0)) den_nil)) den_nil)) (dn_for (p := (.nm 3)) (src_seq (den_callP0 (den_cons (den_bin od_add (den_sl (den_var (i := 0)) den_noPart (den_part (den_var (i := 2)))) (den_sl (den_var (i := 0)) (den_part (den_bin od_add (den_var (i := 2)) den_int)) den_noPart)) den_nil))) (dn_app (i := 1) (den_tup (den_cons (den_bin od_ix (den_var (i := 0)) (den_var (i := 2))) (den_star (den_var (i := 3)) den_nil))))))
      (dn_retOwn (i := 1))))) h⟩
/-! all_choices -/
abbrev N_all_choices : List Str := ["items", "most", "found", "at", "rest"]
theorem sc_all_choices : FnScope N_all_choices ["items", "most"] (defScope st_all_choices) := ⟨rfl, rfl, rfl, by decide +kernel, rfl, by decide +kernel, by decide +kernel⟩
def x_all_choices (m : Mf) : Sf :=
  (sSeq (sOwn 2 (dLst (dCons (dTup dNil) dNil)))
  (sSeq (sIf (eBl (dBin fEq (dVar 1) (dC (.int 0)))) (sRetOwn 2) sNext)
  (sSeq (sFor (wRng1 (dCons (dCB fLen (dCons (dVar 0) dNil)) dNil)) (.nm 3) (sFor (wSeq (dCall (pur (m)) 2 (dCons (dSl (dVar 0) (dPart (dBin fAdd (dVar 3) (dC (.int 1)))) dNoPart) (dCons (dBin fSub (dVar 1) (dC (.int 1))) dNil)))) (.nm 4) (sApp 2 (dTup (dCons (dBin fIx (dVar 0) (dVar 3)) (dStarF (dVar 4) dNil))))))
  (sRetOwn 2))))
def m_all_choices : Nat → Mf
  | 0 => fun _ _ => .bad
  | n + 1 => fnD N_all_choices.length (x_all_choices (m_all_choices n))
theorem ok_all_choices (T : Tx c mg a d) : ∀ n : Nat, FnOk P w c.K mg base CX0 (0 + n) (a 16) (d 16) ["items", "most"] (sp0 c (m_all_choices n) 2)
  | 0 => fn_bad
  | n + 1 => by
    have ih := ok_all_choices T n
    refine T.F16.ok sc_all_choices (fun vs H Q E h => h.1) (fun cdv A outer s H vs Q E hr h => ?_)
    exact ⟨_, (pss_cons (ps_set (i := 2) sc_all_choices.nd rfl (by first | exact Or.inl rfl | exact Or.inr rfl) (pe_lst (pa_cons (pe_tupZ pa_nil) pa_nil)))
      (pss_cons (ps_if (pt_cmpR (op_eqD hr.units) (pv 1) pe_int (nomark _)) (pss_one (ps_ret (pv 2))) pss_nil)
      (pss_cons (ps_for PassesOwn.never rfl (pi_range1 rfl T.z_range (pa_cons (pe_callB cr_len2 rfl T.z_len mbt_len (pa_cons (pv 0) pa_nil)) pa_nil)) (pg_name (i := 3) sc_all_choices.nd rfl (by first | exact Or.inl rfl | exact Or.inr rfl)) (pss_one (ps_for PassesOwn.never rfl (pi_seq (pe_call ih (hr.mono (Nat.le_refl _)) rfl T.m16 T.F16.kp T.b16 .nil pass0 (pa_cons (pe_slice sl_G (pv 0) (po_some (pe_op op_addG (pv 3) pe_int)) po_none) (pa_cons (pe_op op_sub (pv 1) pe_int) pa_nil)))) (pg_name (i := 4) sc_all_choices.nd rfl (by first | exact Or.inl rfl | exact Or.inr rfl)) (pss_one (ps_expr (pe_bm PySem.F.plainAttrs_list PySem.F.slot_list_append PySem.F.type_list_append mt_append (pv 2) (pa_cons (pe_tupZ (pa_cons (pe_ix ix_seq (pv 0) (pv 3) (fun _ _ => rfl)) (StX.pa_star (pv 4) pa_nil))) pa_nil)))))))
      (pss_one (ps_ret (pv 2)))))),
      body0 (N := N_all_choices) (x := x_all_choices (m_all_choices n)) (dn_seq (dn_own (den_lst (den_cons (den_tup den_nil) den_nil)))
      (dn_seq (dn_if (den_test (den_bin od_eq (den_var (i := 1)) den_int)) (dn_retOwn (i := 2)) dn_next)
      (dn_seq (dn_for (p := (.nm 3)) (src_rng1 (den_cons (den_cb cd_len (den_cons (den_var (i := 0)) den_nil)) den_nil)) (dn_for (p := (.nm 4)) (src_seq (den_callP0 (den_cons (den_sl (den_var (i := 0)) (den_part (den_bin od_add (den_var (i := 3)) den_int)) den_noPart) (den_cons (den_bin od_sub (den_var (i := 1)) den_int) den_nil)))) (dn_app (i := 2) (den_tup (den_cons (den_bin od_ix (den_var (i := 0)) (den_var (i := 3))) (den_star (den_var (i := 4)) den_nil))))))
      (dn_retOwn (i := 2))))) h⟩
/-! Archive.__init__ -/
abbrev N_Archive___init : List Str := ["self", "sizes"]
theorem sc_Archive___init : FnScope N_Archive___init ["self", "sizes"] (defScope st_Archive___init) := ⟨rfl, rfl, rfl, by decide +kernel, rfl, by decide +kernel, by decide +kernel⟩
def x_Archive___init : Sf :=
  (sSeq (sIf (eOr (eNot (eBl (dCall (pur m_is_tuple_within) 3 (dCons (dVar 1) (dCons (dC (.int 1)) (dCons (dC (.int 4)) dNil)))))) (eNot (eBl (dCall (pur m_is_within) 3 (dCons (dCB fLen (dCons (dVar 1) dNil)) (dCons (dC (.int 1)) (dCons (dC (.int 4)) dNil))))))) sBad sNext)
  (sFldO 0 "_sizes" (dVar 1)))
def mi_Archive : List D → Sto → Res (List D) := initD N_Archive___init.length 0 ["_sizes"] x_Archive___init
theorem ok_Archive___init (T : Tx c mg a d) : FnOk P w c.K mg base CX0 4 (a 2100) (d 2100) ["self", "sizes"] (spI0 c 0 mi_Archive 2) := by
  refine T.F2100.ok sc_Archive___init (fun vs H Q E h => h.1) (fun cdv A outer s H vs Q E hr h => ?_)
  exact ⟨_, (pss_cons (ps_if (PW.pt (pw_or (pt_not (pt_val (pe_call (ok_is_tuple_within T) (hr.mono (by decide)) rfl T.m12 T.F12.kp T.b12 .nil pass0 (pa_cons (pv 1) (pa_cons pe_int (pa_cons (pe_globE (v := .int 4) rfl T.g19) pa_nil)))))) (pw_or1 (pt_not (pt_val (pe_call (ok_is_within T) (hr.mono (by decide)) rfl T.m11 T.F11.kp T.b11 .nil pass0 (pa_cons (pe_callB cr_len2 rfl T.z_len mbt_len (pa_cons (pv 1) pa_nil)) (pa_cons pe_int (pa_cons (pe_globE (v := .int 4) rfl T.g18) pa_nil))))))))) (pss_one ps_never) pss_nil)
      (pss_one (ps_fld (pv 0) (pv 1) rfl))),
    init_ok (N := N_Archive___init) (x := x_Archive___init) T.fn0.symm (by decide) (dn_seq (dn_if (den_or (den_not (den_tB (den_callP0 (den_cons (den_var (i := 1)) (den_cons den_int (den_cons den_int den_nil)))))) (den_not (den_tB (den_callP0 (den_cons (den_cb cd_len (den_cons (den_var (i := 1)) den_nil)) (den_cons den_int (den_cons den_int den_nil))))))) dn_never dn_next)
      (dn_fldO T.clAll T.naAll_0_0 (den_var (i := 1)))) h⟩
/-! Archive.sizes -/
abbrev N_Archive_sizes : List Str := ["self"]
theorem sc_Archive_sizes : FnScope N_Archive_sizes ["self"] (defScope st_Archive_sizes) := ⟨rfl, rfl, rfl, by decide +kernel, rfl, by decide +kernel, by decide +kernel⟩
def x_Archive_sizes : Sf :=
  (sRet (dFld 0 0 (dVar 0)))
def m_Archive_sizes : Mf := fnD N_Archive_sizes.length x_Archive_sizes
theorem ok_Archive_sizes (T : Tx c mg a d) : FnOk P w c.K mg base CX0 1 (a 2101) (d 2101) ["self"] (sp0 c m_Archive_sizes 1) := by
  refine T.F2101.ok sc_Archive_sizes (fun vs H Q E h => h.1) (fun cdv A outer s H vs Q E hr h => ?_)
  exact ⟨_, (pss_one (ps_ret (pe_fld (pv 0) rfl))),
    body0 (N := N_Archive_sizes) (x := x_Archive_sizes) (dn_ret (den_fld (k := 0) (j := 0) T.K0.cl T.na0_0 T.nd0 T.fj0_0 (den_var (i := 0)))) h⟩
/-! Archive.__iter__ -/
abbrev N_Archive___iter : List Str := ["self"]
theorem sc_Archive___iter : FnScope N_Archive___iter ["self"] (defScope st_Archive___iter) := ⟨rfl, rfl, rfl, by decide +kernel, rfl, by decide +kernel, by decide +kernel⟩
def mt_Archive : Mi := itD N_Archive___iter.length (dFld 0 0 (dVar 0))
theorem ok_Archive___iter (T : Tx c mg a d) : FnS P w c.K mg base CX0 1 (a 2102) (d 2102) ["self"] (spIt0 c mt_Archive) := by
  refine okS T.F2102 sc_Archive___iter (fun n vs H Q E h => h.1) (fun cdv A outer s H vs Q E h => ?_)
  exact ⟨_, pss_one (ps_ret (pe_callB cr_iterT rfl T.z_iter mbt_iter (pa_cons (pe_fld (pv 0) rfl) pa_nil))),
    iter_ok (N := N_Archive___iter) (den_fld (k := 0) (j := 0) T.K0.cl T.na0_0 T.nd0 T.fj0_0 (den_var (i := 0))) h⟩
/-! Archive.__len__ -/
abbrev N_Archive___len : List Str := ["self"]
theorem sc_Archive___len : FnScope N_Archive___len ["self"] (defScope st_Archive___len) := ⟨rfl, rfl, rfl, by decide +kernel, rfl, by decide +kernel, by decide +kernel⟩
def x_Archive___len : Sf :=
  (sRet (dCB fLen (dCons (dFld 0 0 (dVar 0)) dNil)))
def m_Archive___len : Mf := fnD N_Archive___len.length x_Archive___len
theorem ok_Archive___len (T : Tx c mg a d) : FnOk P w c.K mg base CX0 1 (a 2103) (d 2103) ["self"] (sp0 c m_Archive___len 1) := by
  refine T.F2103.ok sc_Archive___len (fun vs H Q E h => h.1) (fun cdv A outer s H vs Q E hr h => ?_)
  exact ⟨_, (pss_one (ps_ret (pe_callB cr_len2 rfl T.z_len mbt_len (pa_cons (pe_fld (pv 0) rfl) pa_nil)))),
    body0 (N := N_Archive___len) (x := x_Archive___len) (dn_ret (den_cb cd_len (den_cons (den_fld (k := 0) (j := 0) T.K0.cl T.na0_0 T.nd0 T.fj0_0 (den_var (i := 0))) den_nil))) h⟩
/-! Archive.__eq__ -/
abbrev N_Archive___eq : List Str := ["self", "other"]
theorem sc_Archive___eq : FnScope N_Archive___eq ["self", "other"] (defScope st_Archive___eq) := ⟨rfl, rfl, rfl, by decide +kernel, rfl, by decide +kernel, by decide +kernel⟩
def x_Archive___eq : Sf :=
  (sRet (dAnd (dCB (fIsi [0]) (dCons (dVar 1) (dCons (dC (.cls 0)) dNil))) (dBin fEq (dFld 0 0 (dVar 0)) (dFld 0 0 (dVar 1)))))
def m_Archive___eq : Mf := fnD N_Archive___eq.length x_Archive___eq
theorem ok_Archive___eq (T : Tx c mg a d) : FnOk P w c.K mg base CX0 1 (a 2104) (d 2104) ["self", "other"] (sp0 c m_Archive___eq 2) := by
  refine T.F2104.ok sc_Archive___eq (fun vs H Q E h => h.1) (fun cdv A outer s H vs Q E hr h => ?_)
  exact ⟨_, (pss_one (ps_ret (pe_and (pe_callB call_isi rfl T.z_isinstance mbt_isinstance (pa_cons (pv 1) (pa_cons (pe_glob (v := .ref (c.cl 0)) rfl T.mc0 rfl) pa_nil))) (pe_one (pe_cmpR (op_eqD hr.units) (pe_fld (pv 0) rfl) (pe_fld (pv 1) rfl) (nomark _)))))),
    body0 (N := N_Archive___eq) (x := x_Archive___eq) (dn_ret (den_andV (den_cb (cd_isi (al := [0]) T.Kall) (den_cons (den_var (i := 1)) (den_cons (den_cls (k := 0)) den_nil))) (den_bin od_eq (den_fld (k := 0) (j := 0) T.K0.cl T.na0_0 T.nd0 T.fj0_0 (den_var (i := 0))) (den_fld (k := 0) (j := 0) T.K0.cl T.na0_0 T.nd0 T.fj0_0 (den_var (i := 1)))))) h⟩
/-! check_archive -/
abbrev N_check_archive : List Str := ["archive"]
theorem sc_check_archive : FnScope N_check_archive ["archive"] (defScope st_check_archive) := ⟨rfl, rfl, rfl, by decide +kernel, rfl, by decide +kernel, by decide +kernel⟩
def x_check_archive : Sf :=
  (sIf (eNot (eBl (dCB (fIsi [0]) (dCons (dVar 0) (dCons (dC (.cls 0)) dNil))))) sBad sNext)
def m_check_archive : Mf := fnD N_check_archive.length x_check_archive
theorem ok_check_archive (T : Tx c mg a d) : FnOk P w c.K mg base CX0 1 (a 22) (d 22) ["archive"] (sp0 c m_check_archive 1) := by
  refine T.F22.ok sc_check_archive (fun vs H Q E h => h.1) (fun cdv A outer s H vs Q E hr h => ?_)
  exact ⟨_, (pss_one (ps_if (pt_not (pt_val (pe_callB call_isi rfl T.z_isinstance mbt_isinstance (pa_cons (pv 0) (pa_cons (pe_glob (v := .ref (c.cl 0)) rfl T.mc0 rfl) pa_nil))))) (pss_one ps_never) pss_nil)),
    body0 (N := N_check_archive) (x := x_check_archive) (dn_if (den_not (den_tB (den_cb (cd_isi (al := [0]) T.Kall) (den_cons (den_var (i := 0)) (den_cons (den_cls (k := 0)) den_nil))))) dn_never dn_next) h⟩
/-! check_room -/
abbrev N_check_room : List Str := ["room"]
theorem sc_check_room : FnScope N_check_room ["room"] (defScope st_check_room) := ⟨rfl, rfl, rfl, by decide +kernel, rfl, by decide +kernel, by decide +kernel⟩
def x_check_room : Sf :=
  (sIf (eNot (eBl (dCall (pur m_is_within) 3 (dCons (dVar 0) (dCons (dC (.int 0)) (dCons (dC (.int 3)) dNil)))))) sBad sNext)
def m_check_room : Mf := fnD N_check_room.length x_check_room
theorem ok_check_room (T : Tx c mg a d) : FnOk P w c.K mg base CX0 3 (a 23) (d 23) ["room"] (sp0 c m_check_room 1) := by
  refine T.F23.ok sc_check_room (fun vs H Q E h => h.1) (fun cdv A outer s H vs Q E hr h => ?_)
  exact ⟨_, (pss_one (ps_if (pt_not (pt_val (pe_call (ok_is_within T) (hr.mono (by decide)) rfl T.m11 T.F11.kp T.b11 .nil pass0 (pa_cons (pv 0) (pa_cons pe_int (pa_cons (pe_globE (v := .int 3) rfl T.g20) pa_nil)))))) (pss_one ps_never) pss_nil)),
    body0 (N := N_check_room) (x := x_check_room) (dn_if (den_not (den_tB (den_callP0 (den_cons (den_var (i := 0)) (den_cons den_int (den_cons den_int den_nil)))))) dn_never dn_next) h⟩
/-! is_build -/
abbrev N_is_build : List Str := ["archive", "room", "build", "order", "kept"]
theorem sc_is_build : FnScope N_is_build ["archive", "room", "build"] (defScope st_is_build) := ⟨rfl, rfl, rfl, by decide +kernel, rfl, by decide +kernel, by decide +kernel⟩
def x_is_build : Sf :=
  (sSeq (sIf (eOr (eNot (eBl (dCB (fIsi [0]) (dCons (dVar 2) (dCons (dC (.ty "tuple")) dNil))))) (eBl (dBin fNe (dCB fLen (dCons (dVar 2) dNil)) (dC (.int 2))))) (sRet (dC (.bl false))) sNext)
  (sSeq (sAsgP (.tup (.cons (.nm 3) (.cons (.nm 4) .nil))) (dVar 2))
  (sSeq (sIf (eOr (eNot (eBl (dCall (pur m_is_tuple_within) 3 (dCons (dVar 3) (dCons (dC (.int 0)) (dCons (dBin fSub (dLenO 0 m_Archive___len (dVar 0)) (dC (.int 1))) dNil)))))) (eNot (eBl (dCall (pur m_is_ascending) 1 (dCons (dOfL (dSortF (dVar 3))) dNil))))) (sRet (dC (.bl false))) sNext)
  (sRet (dAnd (dCall (pur m_is_tuple_within) 3 (dCons (dVar 4) (dCons (dC (.int 1)) (dCons (dBin fSub (dCB fLen (dCons (dVar 3) dNil)) (dC (.int 1))) dNil)))) (dAnd (dCall (pur m_is_ascending) 1 (dCons (dVar 4) dNil)) (dBin fLe (dCB fLen (dCons (dVar 4) dNil)) (dVar 1))))))))
def m_is_build : Mf := fnD N_is_build.length x_is_build
theorem ok_is_build (T : Tx c mg a d) : FnOk P w c.K mg base CX0 4 (a 25) (d 25) ["archive", "room", "build"] (sp0 c m_is_build 3) := by
  refine T.F25.ok sc_is_build (fun vs H Q E h => h.1) (fun cdv A outer s H vs Q E hr h => ?_)
  exact ⟨_, (pss_cons (ps_if (PW.pt (pw_or (pt_not (pt_val (pe_callB call_isi rfl T.z_isinstance mbt_isinstance (pa_cons (pv 2) (pa_cons (pe_bltn (v := .ty "tuple") rfl T.z_tuple mbt_tuple rfl) pa_nil))))) (pw_or1 (pt_cmpR (op_neD hr.units) (pe_callB cr_len2 rfl T.z_len mbt_len (pa_cons (pv 2) pa_nil)) pe_int (nomark _))))) (pss_one (ps_ret pe_bl)) pss_nil)
      (pss_cons (ps_asg (pv 2) (pg_tup rfl (pgs_cons (pg_name (i := 3) sc_is_build.nd rfl (by first | exact Or.inl rfl | exact Or.inr rfl)) (pgs_cons (pg_name (i := 4) sc_is_build.nd rfl (by first | exact Or.inl rfl | exact Or.inr rfl)) pgs_nil))))
      (pss_cons (ps_if (PW.pt (pw_or (pt_not (pt_val (pe_call (ok_is_tuple_within T) (hr.mono (by decide)) rfl T.m12 T.F12.kp T.b12 .nil pass0 (pa_cons (pv 3) (pa_cons pe_int (pa_cons (pe_op op_sub (pe_lenO (ok_Archive___len T) (hr.mono (by decide)) T.h2103 T.hf2103 T.b2103 pass0 rfl T.z_len (pv 0)) pe_int) pa_nil)))))) (pw_or1 (pt_not (pt_val (pe_call (ok_is_ascending T) (hr.mono (by decide)) rfl T.m13 T.F13.kp T.b13 .nil pass0 (pa_cons (pe_callB (cr_sortedD hr.units) rfl T.z_sorted mbt_sorted (pa_cons ((pv 3)) pa_nil)) pa_nil))))))) (pss_one (ps_ret pe_bl)) pss_nil)
      (pss_one (ps_ret (pe_and (pe_call (ok_is_tuple_within T) (hr.mono (by decide)) rfl T.m12 T.F12.kp T.b12 .nil pass0 (pa_cons (pv 4) (pa_cons pe_int (pa_cons (pe_op op_sub (pe_callB cr_len2 rfl T.z_len mbt_len (pa_cons (pv 3) pa_nil)) pe_int) pa_nil)))) (pe_and (pe_call (ok_is_ascending T) (hr.mono (by decide)) rfl T.m13 T.F13.kp T.b13 .nil pass0 (pa_cons (pv 4) pa_nil)) (pe_one (pe_cmpR op_le (pe_callB cr_len2 rfl T.z_len mbt_len (pa_cons (pv 4) pa_nil)) (pv 1) (nomark _)))))))))),
    body0 (N := N_is_build) (x := x_is_build) (dn_seq (dn_if (den_or (den_not (den_tB (den_cb (cd_isi (al := [0]) T.Kall) (den_cons (den_var (i := 2)) (den_cons den_ty den_nil))))) (den_test (den_bin od_ne (den_cb cd_len (den_cons (den_var (i := 2)) den_nil)) den_int))) (dn_ret den_bl) dn_next)
      (dn_seq (dn_asgP (p := (.tup (.cons (.nm 3) (.cons (.nm 4) .nil)))) (den_var (i := 2)))
      (dn_seq (dn_if (den_or (den_not (den_tB (den_callP0 (den_cons (den_var (i := 3)) (den_cons den_int (den_cons (den_bin od_sub (den_lenO0 (den_var (i := 0))) den_int) den_nil)))))) (den_not (den_tB (den_callP0 (den_cons (den_ofL (den_sort (den_var (i := 3)))) den_nil))))) (dn_ret den_bl) dn_next)
      (dn_ret (den_andV (den_callP0 (den_cons (den_var (i := 4)) (den_cons den_int (den_cons (den_bin od_sub (den_cb cd_len (den_cons (den_var (i := 3)) den_nil)) den_int) den_nil)))) (den_andV (den_callP0 (den_cons (den_var (i := 4)) den_nil)) (den_bin od_le (den_cb cd_len (den_cons (den_var (i := 4)) den_nil)) (den_var (i := 1))))))))) h⟩
/-! check_build -/
abbrev N_check_build : List Str := ["archive", "room", "build"]
theorem sc_check_build : FnScope N_check_build ["archive", "room", "build"] (defScope st_check_build) := ⟨rfl, rfl, rfl, by decide +kernel, rfl, by decide +kernel, by decide +kernel⟩
def x_check_build : Sf :=
  (sSeq (sDrop (dCall (pur m_check_archive) 1 (dCons (dVar 0) dNil)))
  (sSeq (sDrop (dCall (pur m_check_room) 1 (dCons (dVar 1) dNil)))
  (sIf (eNot (eBl (dCall (pur m_is_build) 3 (dCons (dVar 0) (dCons (dVar 1) (dCons (dVar 2) dNil)))))) sBad sNext)))
def m_check_build : Mf := fnD N_check_build.length x_check_build
theorem ok_check_build (T : Tx c mg a d) : FnOk P w c.K mg base CX0 5 (a 26) (d 26) ["archive", "room", "build"] (sp0 c m_check_build 3) := by
  refine T.F26.ok sc_check_build (fun vs H Q E h => h.1) (fun cdv A outer s H vs Q E hr h => ?_)
  exact ⟨_, (pss_cons (ps_expr (pe_call (ok_check_archive T) (hr.mono (by decide)) rfl T.m22 T.F22.kp T.b22 .nil pass0 (pa_cons (pv 0) pa_nil)))
      (pss_cons (ps_expr (pe_call (ok_check_room T) (hr.mono (by decide)) rfl T.m23 T.F23.kp T.b23 .nil pass0 (pa_cons (pv 1) pa_nil)))
      (pss_one (ps_if (pt_not (pt_val (pe_call (ok_is_build T) (hr.mono (by decide)) rfl T.m25 T.F25.kp T.b25 .nil pass0 (pa_cons (pv 0) (pa_cons (pv 1) (pa_cons (pv 2) pa_nil)))))) (pss_one ps_never) pss_nil)))),
    body0 (N := N_check_build) (x := x_check_build) (dn_seq (dn_drop (den_callP0 (den_cons (den_var (i := 0)) den_nil)))
      (dn_seq (dn_drop (den_callP0 (den_cons (den_var (i := 1)) den_nil)))
      (dn_if (den_not (den_tB (den_callP0 (den_cons (den_var (i := 0)) (den_cons (den_var (i := 1)) (den_cons (den_var (i := 2)) den_nil)))))) dn_never dn_next))) h⟩
/-! base_of -/
abbrev N_base_of : List Str := ["build", "people", "order", "kept", "first", "person", "length"]
theorem sc_base_of : FnScope N_base_of ["build", "people"] (defScope st_base_of) := ⟨rfl, rfl, rfl, by decide +kernel, rfl, by decide +kernel, by decide +kernel⟩
def x_base_of : Sf :=
  (sSeq (sAsgP (.tup (.cons (.nm 2) (.cons (.nm 3) .nil))) (dVar 0))
  (sSeq (sAsg 4 (dCB fMin (dCons (dOfL (dComp (wSeq (dVar 1)) (.nm 5) eYes (dTupIx (dVar 2) (dVar 5)) [5])) dNil)))
  (sRet (dCB fMax (dCons (dOfL (dCatF (dOfL (dLst (dCons (dC (.int 0)) dNil))) (dOfL (dComp (wSeq (dVar 3)) (.nm 6) (eBl (dBin fLe (dVar 6) (dVar 4))) (dVar 6) [6])))) dNil)))))
def m_base_of : Mf := fnD N_base_of.length x_base_of
theorem ok_base_of (T : Tx c mg a d) : FnOk P w c.K mg base CX0 1 (a 27) (d 27) ["build", "people"] (sp0 c m_base_of 2) := by
  refine T.F27.ok sc_base_of (fun vs H Q E h => h.1) (fun cdv A outer s H vs Q E hr h => ?_)
  exact ⟨_, (pss_cons (ps_asg (pv 0) (pg_tup rfl (pgs_cons (pg_name (i := 2) sc_base_of.nd rfl (by first | exact Or.inl rfl | exact Or.inr rfl)) (pgs_cons (pg_name (i := 3) sc_base_of.nd rfl (by first | exact Or.inl rfl | exact Or.inr rfl)) pgs_nil))))
      (pss_cons (ps_set (i := 4) sc_base_of.nd rfl (by first | exact Or.inl rfl | exact Or.inr rfl) (pe_callB (cr_min3 rfl) rfl T.z_min mbt_min (pa_cons (pe_lc (own := [("person", 5)]) rfl sc_base_of.nd (pi_seq (pv 1)) (blkOk_by (N := N_base_of) (sc := defScope st_base_of) (by decide +kernel)) (fun _ _ _ _ _ => (pg_name (i := 5) sc_base_of.nd rfl (by first | exact Or.inl rfl | exact Or.inr rfl))) (fun _ _ _ _ _ => pts_nil) (fun _ _ _ _ _ => (pe_tupI (pv 2) (pv 5)))) pa_nil)))
      (pss_one (ps_ret (pe_callB (cr_max3 rfl) rfl T.z_max mbt_max (pa_cons (pe_op op_addG (pe_lst (pa_cons pe_int pa_nil)) (pe_lc (own := [("length", 6)]) rfl sc_base_of.nd (pi_seq (pv 3)) (blkOk_by (N := N_base_of) (sc := defScope st_base_of) (by decide +kernel)) (fun _ _ _ _ _ => (pg_name (i := 6) sc_base_of.nd rfl (by first | exact Or.inl rfl | exact Or.inr rfl))) (fun _ _ _ _ _ => (pts_one (pt_cmpR op_le (pv 6) (pv 4) (nomark _)))) (fun _ _ _ _ _ => (pv 6)))) pa_nil)))))),
    body0 (N := N_base_of) (x := x_base_of) (dn_seq (dn_asgP (p := (.tup (.cons (.nm 2) (.cons (.nm 3) .nil)))) (den_var (i := 0)))
      (dn_seq (dn_asg (den_cb cd_min (den_cons (den_ofL (den_comp (p := (.nm 5)) (vs := [5]) (SrcS.x (src_seq (den_var (i := 1)))) den_yes (den_tupIx (den_var (i := 2)) (den_var (i := 5))) rfl)) den_nil)))
      (dn_ret (den_cb cd_max (den_cons (den_ofL (den_catF (den_ofL (den_lst (den_cons den_int den_nil))) (den_ofL (den_comp (p := (.nm 6)) (vs := [6]) (SrcS.x (src_seq (den_var (i := 3)))) (den_test (den_bin od_le (den_var (i := 6)) (den_var (i := 4)))) (den_var (i := 6)) rfl)))) den_nil))))) h⟩
/-! built_again -/
abbrev N_built_again : List Str := ["build", "people", "order", "_", "person"]
theorem sc_built_again : FnScope N_built_again ["build", "people"] (defScope st_built_again) := ⟨rfl, rfl, rfl, by decide +kernel, rfl, by decide +kernel, by decide +kernel⟩
def x_built_again : Sf :=
  (sSeq (sAsgP (.tup (.cons (.nm 2) (.cons (.nm 3) .nil))) (dVar 0))
  (sRet (dOfL (dSortL (dComp (wSeq (dSl (dVar 2) (dPart (dCall (pur m_base_of) 2 (dCons (dVar 0) (dCons (dVar 1) dNil)))) dNoPart)) (.nm 4) (eBl (dBin fNotIn (dVar 4) (dVar 1))) (dVar 4) [4])))))
def m_built_again : Mf := fnD N_built_again.length x_built_again
theorem ok_built_again (T : Tx c mg a d) : FnOk P w c.K mg base CX0 2 (a 28) (d 28) ["build", "people"] (sp0 c m_built_again 2) := by
  refine T.F28.ok sc_built_again (fun vs H Q E h => h.1) (fun cdv A outer s H vs Q E hr h => ?_)
  exact ⟨_, (pss_cons (ps_asg (pv 0) (pg_tup rfl (pgs_cons (pg_name (i := 2) sc_built_again.nd rfl (by first | exact Or.inl rfl | exact Or.inr rfl)) (pgs_cons (pg_name (i := 3) sc_built_again.nd rfl (by first | exact Or.inl rfl | exact Or.inr rfl)) pgs_nil))))
      (pss_one (ps_ret (pe_callB (cr_sortedD hr.units) rfl T.z_sorted mbt_sorted (pa_cons ((pe_lc (own := [("person", 4)]) rfl sc_built_again.nd (pi_seq (pe_slice sl_G (pv 2) (po_some (pe_call (ok_base_of T) (hr.mono (by decide)) rfl T.m27 T.F27.kp T.b27 .nil pass0 (pa_cons (pv 0) (pa_cons (pv 1) pa_nil)))) po_none)) (blkOk_by (N := N_built_again) (sc := defScope st_built_again) (by decide +kernel)) (fun _ _ _ _ _ => (pg_name (i := 4) sc_built_again.nd rfl (by first | exact Or.inl rfl | exact Or.inr rfl))) (fun _ _ _ _ _ => (pts_one (pt_cmpR op_notIn_seq (pv 4) (pv 1) (by rfl)))) (fun _ _ _ _ _ => (pv 4)))) pa_nil))))),
    body0 (N := N_built_again) (x := x_built_again) (dn_seq (dn_asgP (p := (.tup (.cons (.nm 2) (.cons (.nm 3) .nil)))) (den_var (i := 0)))
      (dn_ret (den_ofL (den_sortM (den_FL (den_comp (p := (.nm 4)) (vs := [4]) (SrcS.x (src_seq (den_sl (den_var (i := 2)) (den_part (den_callP0 (den_cons (den_var (i := 0)) (den_cons (den_var (i := 1)) den_nil)))) den_noPart))) (den_test (den_bin (od_in (neg := true)) (den_var (i := 4)) (den_var (i := 1)))) (den_var (i := 4)) rfl)))))) h⟩
/-! forgetting_work -/
abbrev N_forgetting_work : List Str := ["archive", "build", "people", "person"]
theorem sc_forgetting_work : FnScope N_forgetting_work ["archive", "build", "people"] (defScope st_forgetting_work) := ⟨rfl, rfl, rfl, by decide +kernel, rfl, by decide +kernel, by decide +kernel⟩
def x_forgetting_work : Sf :=
  (sRet (dCB fSum (dCons (dOfL (dComp (wSeq (dCall (pur m_built_again) 2 (dCons (dVar 1) (dCons (dVar 2) dNil)))) (.nm 3) eYes (dBin fIx (dProp 0 m_Archive_sizes (dVar 0)) (dVar 3)) [3])) dNil)))
def m_forgetting_work : Mf := fnD N_forgetting_work.length x_forgetting_work
theorem ok_forgetting_work (T : Tx c mg a d) : FnOk P w c.K mg base CX0 3 (a 29) (d 29) ["archive", "build", "people"] (sp0 c m_forgetting_work 3) := by
  refine T.F29.ok sc_forgetting_work (fun vs H Q E h => h.1) (fun cdv A outer s H vs Q E hr h => ?_)
  exact ⟨_, (pss_one (ps_ret (pe_callB (cr_sum rfl) rfl T.z_sum mbt_sum (pa_cons (pe_lc (own := [("person", 3)]) rfl sc_forgetting_work.nd (pi_seq (pe_call (ok_built_again T) (hr.mono (by decide)) rfl T.m28 T.F28.kp T.b28 .nil pass0 (pa_cons (pv 1) (pa_cons (pv 2) pa_nil)))) (blkOk_by (N := N_forgetting_work) (sc := defScope st_forgetting_work) (by decide +kernel)) (fun _ _ _ _ _ => (pg_name (i := 3) sc_forgetting_work.nd rfl (by first | exact Or.inl rfl | exact Or.inr rfl))) (fun _ _ _ _ _ => pts_nil) (fun _ _ _ _ _ => (pe_ix ix_seq (pe_prop (pv 0) T.K0.cl T.p2101 (ok_Archive_sizes T) (hr.mono (by decide)) T.b2101 .nil pass0 rfl) (pv 3) (fun _ _ => rfl)))) pa_nil)))),
    body0 (N := N_forgetting_work) (x := x_forgetting_work) (dn_ret (den_cb cd_sum (den_cons (den_ofL (den_comp (p := (.nm 3)) (vs := [3]) (SrcS.x (src_seq (den_callP0 (den_cons (den_var (i := 1)) (den_cons (den_var (i := 2)) den_nil))))) den_yes (den_bin od_ix (den_prop0 (den_var (i := 0))) (den_var (i := 3))) rfl)) den_nil))) h⟩
/-! builds_after -/
abbrev N_builds_after : List Str := ["room", "build", "people", "order", "kept", "base", "again", "lengths", "length", "choices", "rest", "choice"]
theorem sc_builds_after : FnScope N_builds_after ["room", "build", "people"] (defScope st_builds_after) := ⟨rfl, rfl, rfl, by decide +kernel, rfl, by decide +kernel, by decide +kernel⟩
def x_builds_after : Sf :=
  (sSeq (sAsgP (.tup (.cons (.nm 3) (.cons (.nm 4) .nil))) (dVar 1))
  (sSeq (sAsg 5 (dCall (pur m_base_of) 2 (dCons (dVar 1) (dCons (dVar 2) dNil))))
  (sSeq (sAsg 6 (dCall (pur m_built_again) 2 (dCons (dVar 1) (dCons (dVar 2) dNil))))
  (sSeq (sAsg 7 (dOfL (dComp (wRng2 (dCons (dC (.int 1)) (dCons (dBin fAdd (dVar 5) (dCB fLen (dCons (dVar 6) dNil))) dNil))) (.nm 8) (eOr (eBl (dBin fGt (dVar 8) (dVar 5))) (eBl (dBin fIn (dVar 8) (dVar 4)))) (dVar 8) [8])))
  (sSeq (sAsg 9 (dCall (pur (m_all_choices 6)) 2 (dCons (dVar 7) (dCons (dVar 0) dNil))))
  (sRet (dOfL (dComp2 (wSeq (dCall (pur (m_all_orders 6)) 1 (dCons (dVar 6) dNil))) (.nm 10) eYes (wSeq (dVar 9)) (.nm 11) eYes (dTup (dCons (dBin fAdd (dSl (dVar 3) dNoPart (dPart (dVar 5))) (dVar 10)) (dCons (dVar 11) dNil))) [10, 11] [11]))))))))
def m_builds_after : Mf := fnD N_builds_after.length x_builds_after
theorem ok_builds_after (T : Tx c mg a d) : FnOk P w c.K mg base CX0 7 (a 30) (d 30) ["room", "build", "people"] (sp0 c m_builds_after 3) := by
  refine T.F30.ok sc_builds_after (fun vs H Q E h => h.1) (fun cdv A outer s H vs Q E hr h => ?_)
  exact ⟨_, (pss_cons (ps_asg (pv 1) (pg_tup rfl (pgs_cons (pg_name (i := 3) sc_builds_after.nd rfl (by first | exact Or.inl rfl | exact Or.inr rfl)) (pgs_cons (pg_name (i := 4) sc_builds_after.nd rfl (by first | exact Or.inl rfl | exact Or.inr rfl)) pgs_nil))))
      (pss_cons (ps_set (i := 5) sc_builds_after.nd rfl (by first | exact Or.inl rfl | exact Or.inr rfl) (pe_call (ok_base_of T) (hr.mono (by decide)) rfl T.m27 T.F27.kp T.b27 .nil pass0 (pa_cons (pv 1) (pa_cons (pv 2) pa_nil))))
      (pss_cons (ps_set (i := 6) sc_builds_after.nd rfl (by first | exact Or.inl rfl | exact Or.inr rfl) (pe_call (ok_built_again T) (hr.mono (by decide)) rfl T.m28 T.F28.kp T.b28 .nil pass0 (pa_cons (pv 1) (pa_cons (pv 2) pa_nil))))
      (pss_cons (ps_setLc (own := [("length", 8)]) (i := 7) rfl sc_builds_after.nd rfl rfl (sw_true rfl rfl rfl (by decide +kernel)) (pi_range2 rfl T.z_range (pa_cons pe_int (pa_cons (pe_op op_addG (pv 5) (pe_callB cr_len2 rfl T.z_len mbt_len (pa_cons (pv 6) pa_nil))) pa_nil))) (blkOk_by (N := N_builds_after) (sc := defScope st_builds_after) (by decide +kernel)) (fun _ _ _ _ _ => (pg_name (i := 8) sc_builds_after.nd rfl (by first | exact Or.inl rfl | exact Or.inr rfl))) (fun _ _ _ _ _ => (pts_one (PW.pt (pw_or (pt_cmpR op_gt (pv 8) (pv 5) (nomark _)) (pw_or1 (pt_cmpR op_in_seq (pv 8) (pv 4) (by rfl))))))) (fun _ _ _ _ _ => (pv 8)))
      (pss_cons (ps_set (i := 9) sc_builds_after.nd rfl (by first | exact Or.inl rfl | exact Or.inr rfl) (pe_call (ok_all_choices T 6) (hr.mono (by decide)) rfl T.m16 T.F16.kp T.b16 .nil pass0 (pa_cons (pv 7) (pa_cons (pv 0) pa_nil))))
      (pss_one (ps_ret (pe_lc2 (own := [("rest", 10), ("choice", 11)]) (vs1 := [11]) (wi1 := iSeq c.K _) rfl sc_builds_after.nd (pi_seq (pe_call (ok_all_orders T 6) (hr.mono (by decide)) rfl T.m15 T.F15.kp T.b15 .nil pass0 (pa_cons (pv 6) pa_nil))) (blkOk_by (N := N_builds_after) (sc := defScope st_builds_after) (by decide +kernel)) (by decide) (fun _ _ _ _ _ => (pg_name (i := 10) sc_builds_after.nd rfl (by first | exact Or.inl rfl | exact Or.inr rfl))) (fun _ _ _ _ _ => pts_nil) (fun _ _ _ _ _ => (pi_seq (pv 9))) (fun _ _ _ _ _ => (pg_name (i := 11) sc_builds_after.nd rfl (by first | exact Or.inl rfl | exact Or.inr rfl))) (fun _ _ _ _ _ => pts_nil) (fun _ _ _ _ _ => (pe_tupZ (pa_cons (pe_op op_addG (pe_slice sl_G (pv 3) po_none (po_some (pv 5))) (pv 10)) (pa_cons (pv 11) pa_nil)))))))))))),
    body0 (N := N_builds_after) (x := x_builds_after) (dn_seq (dn_asgP (p := (.tup (.cons (.nm 3) (.cons (.nm 4) .nil)))) (den_var (i := 1)))
      (dn_seq (dn_asg (den_callP0 (den_cons (den_var (i := 1)) (den_cons (den_var (i := 2)) den_nil))))
      (dn_seq (dn_asg (den_callP0 (den_cons (den_var (i := 1)) (den_cons (den_var (i := 2)) den_nil))))
      (dn_seq (dn_asg (den_ofL (den_comp (p := (.nm 8)) (vs := [8]) (SrcS.x (src_rng2 (den_cons den_int (den_cons (den_bin od_add (den_var (i := 5)) (den_cb cd_len (den_cons (den_var (i := 6)) den_nil))) den_nil)))) (den_or (den_test (den_bin od_gt (den_var (i := 8)) (den_var (i := 5)))) (den_test (den_bin (od_in (neg := false)) (den_var (i := 8)) (den_var (i := 4))))) (den_var (i := 8)) rfl)))
      (dn_seq (dn_asg (den_callP0 (den_cons (den_var (i := 7)) (den_cons (den_var (i := 0)) den_nil))))
      (dn_ret (den_ofL (den_comp2 (p := (.nm 10)) (p1 := (.nm 11)) (vs := [10, 11]) (vs1 := [11]) (SrcS.x (src_seq (den_callP0 (den_cons (den_var (i := 6)) den_nil)))) den_yes (src_seq (den_var (i := 9))) den_yes (den_tup (den_cons (den_bin od_add (den_sl (den_var (i := 3)) den_noPart (den_part (den_var (i := 5)))) (den_var (i := 10))) (den_cons (den_var (i := 11)) den_nil))) rfl rfl)))))))) h⟩
/-! check_delay -/
abbrev N_check_delay : List Str := ["delay"]
theorem sc_check_delay : FnScope N_check_delay ["delay"] (defScope st_check_delay) := ⟨rfl, rfl, rfl, by decide +kernel, rfl, by decide +kernel, by decide +kernel⟩
def x_check_delay : Sf :=
  (sIf (eNot (eBl (dCall (pur m_is_within) 3 (dCons (dVar 0) (dCons (dC (.int 0)) (dCons (dC (.int 2)) dNil)))))) sBad sNext)
def m_check_delay : Mf := fnD N_check_delay.length x_check_delay
theorem ok_check_delay (T : Tx c mg a d) : FnOk P w c.K mg base CX0 3 (a 34) (d 34) ["delay"] (sp0 c m_check_delay 1) := by
  refine T.F34.ok sc_check_delay (fun vs H Q E h => h.1) (fun cdv A outer s H vs Q E hr h => ?_)
  exact ⟨_, (pss_one (ps_if (pt_not (pt_val (pe_call (ok_is_within T) (hr.mono (by decide)) rfl T.m11 T.F11.kp T.b11 .nil pass0 (pa_cons (pv 0) (pa_cons pe_int (pa_cons (pe_globE (v := .int 2) rfl T.g32) pa_nil)))))) (pss_one ps_never) pss_nil)),
    body0 (N := N_check_delay) (x := x_check_delay) (dn_if (den_not (den_tB (den_callP0 (den_cons (den_var (i := 0)) (den_cons den_int (den_cons den_int den_nil)))))) dn_never dn_next) h⟩
/-! check_ticks -/
abbrev N_check_ticks : List Str := ["ticks"]
theorem sc_check_ticks : FnScope N_check_ticks ["ticks"] (defScope st_check_ticks) := ⟨rfl, rfl, rfl, by decide +kernel, rfl, by decide +kernel, by decide +kernel⟩
def x_check_ticks : Sf :=
  (sIf (eNot (eBl (dCall (pur m_is_within) 3 (dCons (dVar 0) (dCons (dC (.int 0)) (dCons (dC (.int 4)) dNil)))))) sBad sNext)
def m_check_ticks : Mf := fnD N_check_ticks.length x_check_ticks
theorem ok_check_ticks (T : Tx c mg a d) : FnOk P w c.K mg base CX0 3 (a 35) (d 35) ["ticks"] (sp0 c m_check_ticks 1) := by
  refine T.F35.ok sc_check_ticks (fun vs H Q E h => h.1) (fun cdv A outer s H vs Q E hr h => ?_)
  exact ⟨_, (pss_one (ps_if (pt_not (pt_val (pe_call (ok_is_within T) (hr.mono (by decide)) rfl T.m11 T.F11.kp T.b11 .nil pass0 (pa_cons (pv 0) (pa_cons pe_int (pa_cons (pe_globE (v := .int 4) rfl T.g33) pa_nil)))))) (pss_one ps_never) pss_nil)),
    body0 (N := N_check_ticks) (x := x_check_ticks) (dn_if (den_not (den_tB (den_callP0 (den_cons (den_var (i := 0)) (den_cons den_int (den_cons den_int den_nil)))))) dn_never dn_next) h⟩
/-! check_play -/
abbrev N_check_play : List Str := ["archive", "room", "delay"]
theorem sc_check_play : FnScope N_check_play ["archive", "room", "delay"] (defScope st_check_play) := ⟨rfl, rfl, rfl, by decide +kernel, rfl, by decide +kernel, by decide +kernel⟩
def x_check_play : Sf :=
  (sSeq (sDrop (dCall (pur m_check_archive) 1 (dCons (dVar 0) dNil)))
  (sSeq (sDrop (dCall (pur m_check_room) 1 (dCons (dVar 1) dNil)))
  (sDrop (dCall (pur m_check_delay) 1 (dCons (dVar 2) dNil)))))
def m_check_play : Mf := fnD N_check_play.length x_check_play
theorem ok_check_play (T : Tx c mg a d) : FnOk P w c.K mg base CX0 4 (a 36) (d 36) ["archive", "room", "delay"] (sp0 c m_check_play 3) := by
  refine T.F36.ok sc_check_play (fun vs H Q E h => h.1) (fun cdv A outer s H vs Q E hr h => ?_)
  exact ⟨_, (pss_cons (ps_expr (pe_call (ok_check_archive T) (hr.mono (by decide)) rfl T.m22 T.F22.kp T.b22 .nil pass0 (pa_cons (pv 0) pa_nil)))
      (pss_cons (ps_expr (pe_call (ok_check_room T) (hr.mono (by decide)) rfl T.m23 T.F23.kp T.b23 .nil pass0 (pa_cons (pv 1) pa_nil)))
      (pss_one (ps_expr (pe_call (ok_check_delay T) (hr.mono (by decide)) rfl T.m34 T.F34.kp T.b34 .nil pass0 (pa_cons (pv 2) pa_nil)))))),
    body0 (N := N_check_play) (x := x_check_play) (dn_seq (dn_drop (den_callP0 (den_cons (den_var (i := 0)) den_nil)))
      (dn_seq (dn_drop (den_callP0 (den_cons (den_var (i := 1)) den_nil)))
      (dn_drop (den_callP0 (den_cons (den_var (i := 2)) den_nil))))) h⟩
/-! is_waiting_wish -/
abbrev N_is_waiting_wish : List Str := ["order", "delay", "pair", "person", "left"]
theorem sc_is_waiting_wish : FnScope N_is_waiting_wish ["order", "delay", "pair"] (defScope st_is_waiting_wish) := ⟨rfl, rfl, rfl, by decide +kernel, rfl, by decide +kernel, by decide +kernel⟩
def x_is_waiting_wish : Sf :=
  (sSeq (sIf (eOr (eNot (eBl (dCB (fIsi [0]) (dCons (dVar 2) (dCons (dC (.ty "tuple")) dNil))))) (eBl (dBin fNe (dCB fLen (dCons (dVar 2) dNil)) (dC (.int 2))))) (sRet (dC (.bl false))) sNext)
  (sSeq (sAsgP (.tup (.cons (.nm 3) (.cons (.nm 4) .nil))) (dVar 2))
  (sRet (dAnd (dCall (pur m_is_integer) 1 (dCons (dVar 3) dNil)) (dAnd (dBin fIn (dVar 3) (dVar 0)) (dCall (pur m_is_within) 3 (dCons (dVar 4) (dCons (dC (.int 0)) (dCons (dBin fSub (dVar 1) (dC (.int 1))) dNil)))))))))
def m_is_waiting_wish : Mf := fnD N_is_waiting_wish.length x_is_waiting_wish
theorem ok_is_waiting_wish (T : Tx c mg a d) : FnOk P w c.K mg base CX0 3 (a 37) (d 37) ["order", "delay", "pair"] (sp0 c m_is_waiting_wish 3) := by
  refine T.F37.ok sc_is_waiting_wish (fun vs H Q E h => h.1) (fun cdv A outer s H vs Q E hr h => ?_)
  exact ⟨_, (pss_cons (ps_if (PW.pt (pw_or (pt_not (pt_val (pe_callB call_isi rfl T.z_isinstance mbt_isinstance (pa_cons (pv 2) (pa_cons (pe_bltn (v := .ty "tuple") rfl T.z_tuple mbt_tuple rfl) pa_nil))))) (pw_or1 (pt_cmpR (op_neD hr.units) (pe_callB cr_len2 rfl T.z_len mbt_len (pa_cons (pv 2) pa_nil)) pe_int (nomark _))))) (pss_one (ps_ret pe_bl)) pss_nil)
      (pss_cons (ps_asg (pv 2) (pg_tup rfl (pgs_cons (pg_name (i := 3) sc_is_waiting_wish.nd rfl (by first | exact Or.inl rfl | exact Or.inr rfl)) (pgs_cons (pg_name (i := 4) sc_is_waiting_wish.nd rfl (by first | exact Or.inl rfl | exact Or.inr rfl)) pgs_nil))))
      (pss_one (ps_ret (pe_and (pe_call (ok_is_integer T) (hr.mono (by decide)) rfl T.m10 T.F10.kp T.b10 .nil pass0 (pa_cons (pv 3) pa_nil)) (pe_and (pe_cmpR op_in_seq (pv 3) (pv 0) (by rfl)) (pe_one (pe_call (ok_is_within T) (hr.mono (by decide)) rfl T.m11 T.F11.kp T.b11 .nil pass0 (pa_cons (pv 4) (pa_cons pe_int (pa_cons (pe_op op_sub (pv 1) pe_int) pa_nil))))))))))),
    body0 (N := N_is_waiting_wish) (x := x_is_waiting_wish) (dn_seq (dn_if (den_or (den_not (den_tB (den_cb (cd_isi (al := [0]) T.Kall) (den_cons (den_var (i := 2)) (den_cons den_ty den_nil))))) (den_test (den_bin od_ne (den_cb cd_len (den_cons (den_var (i := 2)) den_nil)) den_int))) (dn_ret den_bl) dn_next)
      (dn_seq (dn_asgP (p := (.tup (.cons (.nm 3) (.cons (.nm 4) .nil)))) (den_var (i := 2)))
      (dn_ret (den_andV (den_callP0 (den_cons (den_var (i := 3)) den_nil)) (den_andV (den_bin (od_in (neg := false)) (den_var (i := 3)) (den_var (i := 0))) (den_callP0 (den_cons (den_var (i := 4)) (den_cons den_int (den_cons (den_bin od_sub (den_var (i := 1)) den_int) den_nil))))))))) h⟩
/-! are_waiting_wishes -/
abbrev N_are_waiting_wishes : List Str := ["order", "delay", "waiting", "pair", "person", "_", "left"]
theorem sc_are_waiting_wishes : FnScope N_are_waiting_wishes ["order", "delay", "waiting"] (defScope st_are_waiting_wishes) := ⟨rfl, rfl, rfl, by decide +kernel, rfl, by decide +kernel, by decide +kernel⟩
def x_are_waiting_wishes : Sf :=
  (sSeq (sIf (eOr (eNot (eBl (dCB (fIsi [0]) (dCons (dVar 2) (dCons (dC (.ty "tuple")) dNil))))) (eNot (eBl (dCB fAll (dCons (dOfL (dComp (wSeq (dVar 2)) (.nm 3) eYes (dCall (pur m_is_waiting_wish) 3 (dCons (dVar 0) (dCons (dVar 1) (dCons (dVar 3) dNil)))) [3])) dNil))))) (sRet (dC (.bl false))) sNext)
  (sRet (dAnd (dCall (pur m_is_ascending) 1 (dCons (dOfL (dComp (wSeq (dVar 2)) (.tup (.cons (.nm 4) (.cons (.nm 5) .nil))) eYes (dVar 4) [4, 5])) dNil)) (dCall (pur m_is_ascending) 1 (dCons (dOfL (dSortL (dComp (wSeq (dVar 2)) (.tup (.cons (.nm 5) (.cons (.nm 6) .nil))) eYes (dVar 6) [5, 6]))) dNil)))))
def m_are_waiting_wishes : Mf := fnD N_are_waiting_wishes.length x_are_waiting_wishes
theorem ok_are_waiting_wishes (T : Tx c mg a d) : FnOk P w c.K mg base CX0 4 (a 38) (d 38) ["order", "delay", "waiting"] (sp0 c m_are_waiting_wishes 3) := by
  refine T.F38.ok sc_are_waiting_wishes (fun vs H Q E h => h.1) (fun cdv A outer s H vs Q E hr h => ?_)
  exact ⟨_, (pss_cons (ps_if (PW.pt (pw_or (pt_not (pt_val (pe_callB call_isi rfl T.z_isinstance mbt_isinstance (pa_cons (pv 2) (pa_cons (pe_bltn (v := .ty "tuple") rfl T.z_tuple mbt_tuple rfl) pa_nil))))) (pw_or1 (pt_not (pt_val (pe_callB (cr_all rfl) rfl T.z_all mbt_all (pa_cons (pe_lc (own := [("pair", 3)]) rfl sc_are_waiting_wishes.nd (pi_seq (pv 2)) (blkOk_by (N := N_are_waiting_wishes) (sc := defScope st_are_waiting_wishes) (by decide +kernel)) (fun _ _ _ _ _ => (pg_name (i := 3) sc_are_waiting_wishes.nd rfl (by first | exact Or.inl rfl | exact Or.inr rfl))) (fun _ _ _ _ _ => pts_nil) (fun _ _ _ _ _ => (pe_call (ok_is_waiting_wish T) (hr.mono (by decide)) rfl T.m37 T.F37.kp T.b37 .nil pass0 (pa_cons (pv 0) (pa_cons (pv 1) (pa_cons (pv 3) pa_nil)))))) pa_nil))))))) (pss_one (ps_ret pe_bl)) pss_nil)
      (pss_one (ps_ret (pe_and (pe_call (ok_is_ascending T) (hr.mono (by decide)) rfl T.m13 T.F13.kp T.b13 .nil pass0 (pa_cons (pe_lc (own := [("person", 4), ("_", 5)]) rfl sc_are_waiting_wishes.nd (pi_seq (pv 2)) (blkOk_by (N := N_are_waiting_wishes) (sc := defScope st_are_waiting_wishes) (by decide +kernel)) (fun _ _ _ _ _ => (pg_tup rfl (pgs_cons (pg_name (i := 4) sc_are_waiting_wishes.nd rfl (by first | exact Or.inl rfl | exact Or.inr rfl)) (pgs_cons (pg_name (i := 5) sc_are_waiting_wishes.nd rfl (by first | exact Or.inl rfl | exact Or.inr rfl)) pgs_nil)))) (fun _ _ _ _ _ => pts_nil) (fun _ _ _ _ _ => (pv 4))) pa_nil)) (pe_one (pe_call (ok_is_ascending T) (hr.mono (by decide)) rfl T.m13 T.F13.kp T.b13 .nil pass0 (pa_cons (pe_callB (cr_sortedD hr.units) rfl T.z_sorted mbt_sorted (pa_cons ((pe_lc (own := [("_", 5), ("left", 6)]) rfl sc_are_waiting_wishes.nd (pi_seq (pv 2)) (blkOk_by (N := N_are_waiting_wishes) (sc := defScope st_are_waiting_wishes) (by decide +kernel)) (fun _ _ _ _ _ => (pg_tup rfl (pgs_cons (pg_name (i := 5) sc_are_waiting_wishes.nd rfl (by first | exact Or.inl rfl | exact Or.inr rfl)) (pgs_cons (pg_name (i := 6) sc_are_waiting_wishes.nd rfl (by first | exact Or.inl rfl | exact Or.inr rfl)) pgs_nil)))) (fun _ _ _ _ _ => pts_nil) (fun _ _ _ _ _ => (pv 6)))) pa_nil)) pa_nil))))))),
    body0 (N := N_are_waiting_wishes) (x := x_are_waiting_wishes) (dn_seq (dn_if (den_or (den_not (den_tB (den_cb (cd_isi (al := [0]) T.Kall) (den_cons (den_var (i := 2)) (den_cons den_ty den_nil))))) (den_not (den_tB (den_cb cd_all (den_cons (den_ofL (den_comp (p := (.nm 3)) (vs := [3]) (SrcS.x (src_seq (den_var (i := 2)))) den_yes (den_callP0 (den_cons (den_var (i := 0)) (den_cons (den_var (i := 1)) (den_cons (den_var (i := 3)) den_nil)))) rfl)) den_nil))))) (dn_ret den_bl) dn_next)
      (dn_ret (den_andV (den_callP0 (den_cons (den_ofL (den_comp (p := (.tup (.cons (.nm 4) (.cons (.nm 5) .nil)))) (vs := [4, 5]) (SrcS.x (src_seq (den_var (i := 2)))) den_yes (den_var (i := 4)) rfl)) den_nil)) (den_callP0 (den_cons (den_ofL (den_sortM (den_FL (den_comp (p := (.tup (.cons (.nm 5) (.cons (.nm 6) .nil)))) (vs := [5, 6]) (SrcS.x (src_seq (den_var (i := 2)))) den_yes (den_var (i := 6)) rfl)))) den_nil))))) h⟩
/-! is_position -/
abbrev N_is_position : List Str := ["archive", "room", "delay", "position", "order", "kept", "waiting", "ticks"]
theorem sc_is_position : FnScope N_is_position ["archive", "room", "delay", "position"] (defScope st_is_position) := ⟨rfl, rfl, rfl, by decide +kernel, rfl, by decide +kernel, by decide +kernel⟩
def x_is_position : Sf :=
  (sSeq (sIf (eOr (eNot (eBl (dCB (fIsi [0]) (dCons (dVar 3) (dCons (dC (.ty "tuple")) dNil))))) (eBl (dBin fNe (dCB fLen (dCons (dVar 3) dNil)) (dC (.int 4))))) (sRet (dC (.bl false))) sNext)
  (sSeq (sAsgP (.tup (.cons (.nm 4) (.cons (.nm 5) (.cons (.nm 6) (.cons (.nm 7) .nil))))) (dVar 3))
  (sSeq (sIf (eOr (eNot (eBl (dCall (pur m_is_build) 3 (dCons (dVar 0) (dCons (dVar 1) (dCons (dTup (dCons (dVar 4) (dCons (dVar 5) dNil))) dNil)))))) (eNot (eBl (dCall (pur m_is_within) 3 (dCons (dVar 7) (dCons (dC (.int 0)) (dCons (dC (.int 4)) dNil))))))) (sRet (dC (.bl false))) sNext)
  (sRet (dCall (pur m_are_waiting_wishes) 3 (dCons (dVar 4) (dCons (dVar 2) (dCons (dVar 6) dNil))))))))
def m_is_position : Mf := fnD N_is_position.length x_is_position
theorem ok_is_position (T : Tx c mg a d) : FnOk P w c.K mg base CX0 5 (a 39) (d 39) ["archive", "room", "delay", "position"] (sp0 c m_is_position 4) := by
  refine T.F39.ok sc_is_position (fun vs H Q E h => h.1) (fun cdv A outer s H vs Q E hr h => ?_)
  exact ⟨_, (pss_cons (ps_if (PW.pt (pw_or (pt_not (pt_val (pe_callB call_isi rfl T.z_isinstance mbt_isinstance (pa_cons (pv 3) (pa_cons (pe_bltn (v := .ty "tuple") rfl T.z_tuple mbt_tuple rfl) pa_nil))))) (pw_or1 (pt_cmpR (op_neD hr.units) (pe_callB cr_len2 rfl T.z_len mbt_len (pa_cons (pv 3) pa_nil)) pe_int (nomark _))))) (pss_one (ps_ret pe_bl)) pss_nil)
      (pss_cons (ps_asg (pv 3) (pg_tup rfl (pgs_cons (pg_name (i := 4) sc_is_position.nd rfl (by first | exact Or.inl rfl | exact Or.inr rfl)) (pgs_cons (pg_name (i := 5) sc_is_position.nd rfl (by first | exact Or.inl rfl | exact Or.inr rfl)) (pgs_cons (pg_name (i := 6) sc_is_position.nd rfl (by first | exact Or.inl rfl | exact Or.inr rfl)) (pgs_cons (pg_name (i := 7) sc_is_position.nd rfl (by first | exact Or.inl rfl | exact Or.inr rfl)) pgs_nil))))))
      (pss_cons (ps_if (PW.pt (pw_or (pt_not (pt_val (pe_call (ok_is_build T) (hr.mono (by decide)) rfl T.m25 T.F25.kp T.b25 .nil pass0 (pa_cons (pv 0) (pa_cons (pv 1) (pa_cons (pe_tupZ (pa_cons (pv 4) (pa_cons (pv 5) pa_nil))) pa_nil)))))) (pw_or1 (pt_not (pt_val (pe_call (ok_is_within T) (hr.mono (by decide)) rfl T.m11 T.F11.kp T.b11 .nil pass0 (pa_cons (pv 7) (pa_cons pe_int (pa_cons (pe_globE (v := .int 4) rfl T.g33) pa_nil))))))))) (pss_one (ps_ret pe_bl)) pss_nil)
      (pss_one (ps_ret (pe_call (ok_are_waiting_wishes T) (hr.mono (by decide)) rfl T.m38 T.F38.kp T.b38 .nil pass0 (pa_cons (pv 4) (pa_cons (pv 2) (pa_cons (pv 6) pa_nil))))))))),
    body0 (N := N_is_position) (x := x_is_position) (dn_seq (dn_if (den_or (den_not (den_tB (den_cb (cd_isi (al := [0]) T.Kall) (den_cons (den_var (i := 3)) (den_cons den_ty den_nil))))) (den_test (den_bin od_ne (den_cb cd_len (den_cons (den_var (i := 3)) den_nil)) den_int))) (dn_ret den_bl) dn_next)
      (dn_seq (dn_asgP (p := (.tup (.cons (.nm 4) (.cons (.nm 5) (.cons (.nm 6) (.cons (.nm 7) .nil)))))) (den_var (i := 3)))
      (dn_seq (dn_if (den_or (den_not (den_tB (den_callP0 (den_cons (den_var (i := 0)) (den_cons (den_var (i := 1)) (den_cons (den_tup (den_cons (den_var (i := 4)) (den_cons (den_var (i := 5)) den_nil))) den_nil)))))) (den_not (den_tB (den_callP0 (den_cons (den_var (i := 7)) (den_cons den_int (den_cons den_int den_nil))))))) (dn_ret den_bl) dn_next)
      (dn_ret (den_callP0 (den_cons (den_var (i := 4)) (den_cons (den_var (i := 2)) (den_cons (den_var (i := 6)) den_nil)))))))) h⟩
/-! check_position -/
abbrev N_check_position : List Str := ["archive", "room", "delay", "position"]
theorem sc_check_position : FnScope N_check_position ["archive", "room", "delay", "position"] (defScope st_check_position) := ⟨rfl, rfl, rfl, by decide +kernel, rfl, by decide +kernel, by decide +kernel⟩
def x_check_position : Sf :=
  (sSeq (sDrop (dCall (pur m_check_play) 3 (dCons (dVar 0) (dCons (dVar 1) (dCons (dVar 2) dNil)))))
  (sIf (eNot (eBl (dCall (pur m_is_position) 4 (dCons (dVar 0) (dCons (dVar 1) (dCons (dVar 2) (dCons (dVar 3) dNil))))))) sBad sNext))
def m_check_position : Mf := fnD N_check_position.length x_check_position
theorem ok_check_position (T : Tx c mg a d) : FnOk P w c.K mg base CX0 6 (a 40) (d 40) ["archive", "room", "delay", "position"] (sp0 c m_check_position 4) := by
  refine T.F40.ok sc_check_position (fun vs H Q E h => h.1) (fun cdv A outer s H vs Q E hr h => ?_)
  exact ⟨_, (pss_cons (ps_expr (pe_call (ok_check_play T) (hr.mono (by decide)) rfl T.m36 T.F36.kp T.b36 .nil pass0 (pa_cons (pv 0) (pa_cons (pv 1) (pa_cons (pv 2) pa_nil)))))
      (pss_one (ps_if (pt_not (pt_val (pe_call (ok_is_position T) (hr.mono (by decide)) rfl T.m39 T.F39.kp T.b39 .nil pass0 (pa_cons (pv 0) (pa_cons (pv 1) (pa_cons (pv 2) (pa_cons (pv 3) pa_nil))))))) (pss_one ps_never) pss_nil))),
    body0 (N := N_check_position) (x := x_check_position) (dn_seq (dn_drop (den_callP0 (den_cons (den_var (i := 0)) (den_cons (den_var (i := 1)) (den_cons (den_var (i := 2)) den_nil)))))
      (dn_if (den_not (den_tB (den_callP0 (den_cons (den_var (i := 0)) (den_cons (den_var (i := 1)) (den_cons (den_var (i := 2)) (den_cons (den_var (i := 3)) den_nil))))))) dn_never dn_next)) h⟩
/-! possible_wishes -/
abbrev N_possible_wishes : List Str := ["position", "order", "_", "waiting", "ticks", "already", "person"]
theorem sc_possible_wishes : FnScope N_possible_wishes ["position"] (defScope st_possible_wishes) := ⟨rfl, rfl, rfl, by decide +kernel, rfl, by decide +kernel, by decide +kernel⟩
def x_possible_wishes : Sf :=
  (sSeq (sAsgP (.tup (.cons (.nm 1) (.cons (.nm 2) (.cons (.nm 3) (.cons (.nm 4) .nil))))) (dVar 0))
  (sSeq (sIf (eBl (dBin fEq (dVar 4) (dC (.int 0)))) (sRet (dIf (eTru (dVar 3)) (dOfL (dLst (dCons (dC .non) dNil))) (dOfL (dLst dNil)))) sNext)
  (sSeq (sAsg 5 (dOfL (dComp (wSeq (dVar 3)) (.tup (.cons (.nm 6) (.cons (.nm 2) .nil))) eYes (dVar 6) [6, 2])))
  (sRet (dOfL (dCatF (dOfL (dComp (wSeq (dOfL (dSortF (dVar 1)))) (.nm 6) (eBl (dBin fNotIn (dVar 6) (dVar 5))) (dVar 6) [6])) (dOfL (dLst (dCons (dC .non) dNil)))))))))
def m_possible_wishes : Mf := fnD N_possible_wishes.length x_possible_wishes
theorem ok_possible_wishes (T : Tx c mg a d) : FnOk P w c.K mg base CX0 1 (a 41) (d 41) ["position"] (sp0 c m_possible_wishes 1) := by
  refine T.F41.ok sc_possible_wishes (fun vs H Q E h => h.1) (fun cdv A outer s H vs Q E hr h => ?_)
  exact ⟨_, (pss_cons (ps_asg (pv 0) (pg_tup rfl (pgs_cons (pg_name (i := 1) sc_possible_wishes.nd rfl (by first | exact Or.inl rfl | exact Or.inr rfl)) (pgs_cons (pg_name (i := 2) sc_possible_wishes.nd rfl (by first | exact Or.inl rfl | exact Or.inr rfl)) (pgs_cons (pg_name (i := 3) sc_possible_wishes.nd rfl (by first | exact Or.inl rfl | exact Or.inr rfl)) (pgs_cons (pg_name (i := 4) sc_possible_wishes.nd rfl (by first | exact Or.inl rfl | exact Or.inr rfl)) pgs_nil))))))
      (pss_cons (ps_if (pt_cmpR (op_eqD hr.units) (pv 4) pe_int (nomark _)) (pss_one (ps_ret (pe_ifExp (pt_truth (pv 3) (fun _ => rfl)) (pe_lst (pa_cons pe_non pa_nil)) (pe_lst pa_nil)))) pss_nil)
      (pss_cons (ps_set (i := 5) sc_possible_wishes.nd rfl (by first | exact Or.inl rfl | exact Or.inr rfl) (pe_lc (own := [("person", 6), ("_", 2)]) rfl sc_possible_wishes.nd (pi_seq (pv 3)) (blkOk_by (N := N_possible_wishes) (sc := defScope st_possible_wishes) (by decide +kernel)) (fun _ _ _ _ _ => (pg_tup rfl (pgs_cons (pg_name (i := 6) sc_possible_wishes.nd rfl (by first | exact Or.inl rfl | exact Or.inr rfl)) (pgs_cons (pg_name (i := 2) sc_possible_wishes.nd rfl (by first | exact Or.inl rfl | exact Or.inr rfl)) pgs_nil)))) (fun _ _ _ _ _ => pts_nil) (fun _ _ _ _ _ => (pv 6))))
      (pss_one (ps_ret (pe_op op_addG (pe_lc (own := [("person", 6)]) rfl sc_possible_wishes.nd (pi_seq (pe_callB (cr_sortedD hr.units) rfl T.z_sorted mbt_sorted (pa_cons ((pv 1)) pa_nil))) (blkOk_by (N := N_possible_wishes) (sc := defScope st_possible_wishes) (by decide +kernel)) (fun _ _ _ _ _ => (pg_name (i := 6) sc_possible_wishes.nd rfl (by first | exact Or.inl rfl | exact Or.inr rfl))) (fun _ _ _ _ _ => (pts_one (pt_cmpR op_notIn_seq (pv 6) (pv 5) (by rfl)))) (fun _ _ _ _ _ => (pv 6))) (pe_lst (pa_cons pe_non pa_nil)))))))),
    body0 (N := N_possible_wishes) (x := x_possible_wishes) (dn_seq (dn_asgP (p := (.tup (.cons (.nm 1) (.cons (.nm 2) (.cons (.nm 3) (.cons (.nm 4) .nil)))))) (den_var (i := 0)))
      (dn_seq (dn_if (den_test (den_bin od_eq (den_var (i := 4)) den_int)) (dn_ret (den_if (den_truth (den_var (i := 3))) (den_ofL (den_lst (den_cons den_non den_nil))) (den_ofL (den_lst den_nil)))) dn_next)
      (dn_seq (dn_asg (den_ofL (den_comp (p := (.tup (.cons (.nm 6) (.cons (.nm 2) .nil)))) (vs := [6, 2]) (SrcS.x (src_seq (den_var (i := 3)))) den_yes (den_var (i := 6)) rfl)))
      (dn_ret (den_ofL (den_catF (den_ofL (den_comp (p := (.nm 6)) (vs := [6]) (SrcS.x (src_seq (den_ofL (den_sort (den_var (i := 1)))))) (den_test (den_bin (od_in (neg := true)) (den_var (i := 6)) (den_var (i := 5)))) (den_var (i := 6)) rfl)) (den_ofL (den_lst (den_cons den_non den_nil))))))))) h⟩
/-! is_wish -/
abbrev N_is_wish : List Str := ["position", "wish"]
theorem sc_is_wish : FnScope N_is_wish ["position", "wish"] (defScope st_is_wish) := ⟨rfl, rfl, rfl, by decide +kernel, rfl, by decide +kernel, by decide +kernel⟩
def x_is_wish : Sf :=
  (sRet (dAnd (dOr (dBin fIs (dVar 1) (dC .non)) (dCall (pur m_is_integer) 1 (dCons (dVar 1) dNil))) (dBin fIn (dVar 1) (dCall (pur m_possible_wishes) 1 (dCons (dVar 0) dNil)))))
def m_is_wish : Mf := fnD N_is_wish.length x_is_wish
theorem ok_is_wish (T : Tx c mg a d) : FnOk P w c.K mg base CX0 2 (a 42) (d 42) ["position", "wish"] (sp0 c m_is_wish 2) := by
  refine T.F42.ok sc_is_wish (fun vs H Q E h => h.1) (fun cdv A outer s H vs Q E hr h => ?_)
  exact ⟨_, (pss_one (ps_ret (pe_and (pe_or (pe_cmpR op_isN (pv 1) pe_non (nomark _)) (pe_one (pe_call (ok_is_integer T) (hr.mono (by decide)) rfl T.m10 T.F10.kp T.b10 .nil pass0 (pa_cons (pv 1) pa_nil)))) (pe_one (pe_cmpR op_in_seq (pv 1) (pe_call (ok_possible_wishes T) (hr.mono (by decide)) rfl T.m41 T.F41.kp T.b41 .nil pass0 (pa_cons (pv 0) pa_nil)) (by rfl)))))),
    body0 (N := N_is_wish) (x := x_is_wish) (dn_ret (den_andV (den_orV (den_bin od_is (den_var (i := 1)) den_non) (den_callP0 (den_cons (den_var (i := 1)) den_nil))) (den_bin (od_in (neg := false)) (den_var (i := 1)) (den_callP0 (den_cons (den_var (i := 0)) den_nil))))) h⟩
/-! pending_wishes -/
abbrev N_pending_wishes : List Str := ["delay", "position", "wish", "waiting"]
theorem sc_pending_wishes : FnScope N_pending_wishes ["delay", "position", "wish"] (defScope st_pending_wishes) := ⟨rfl, rfl, rfl, by decide +kernel, rfl, by decide +kernel, by decide +kernel⟩
def x_pending_wishes : Sf :=
  (sSeq (sAsg 3 (dBin fIx (dVar 1) (dC (.int 2))))
  (sSeq (sIf (eBl (dBin fIs (dVar 2) (dC .non))) (sRet (dVar 3)) sNext)
  (sRet (dTupL (dSortL (dLst (dStarF (dVar 3) (dCons (dTup (dCons (dVar 2) (dCons (dVar 0) dNil))) dNil))))))))
def m_pending_wishes : Mf := fnD N_pending_wishes.length x_pending_wishes
theorem ok_pending_wishes (T : Tx c mg a d) : FnOk P w c.K mg base CX0 1 (a 43) (d 43) ["delay", "position", "wish"] (sp0 c m_pending_wishes 3) := by
  refine T.F43.ok sc_pending_wishes (fun vs H Q E h => h.1) (fun cdv A outer s H vs Q E hr h => ?_)
  exact ⟨_, (pss_cons (ps_set (i := 3) sc_pending_wishes.nd rfl (by first | exact Or.inl rfl | exact Or.inr rfl) (pe_ix ix_seq (pv 1) pe_int (fun _ _ => rfl)))
      (pss_cons (ps_if (pt_cmpR op_isN (pv 2) pe_non (nomark _)) (pss_one (ps_ret (pv 3))) pss_nil)
      (pss_one (ps_ret (pe_callTy cr_tupZ rfl T.z_tuple mbt_tuple (pa_cons ((pe_callB (cr_sortedD hr.units) rfl T.z_sorted mbt_sorted (pa_cons ((pe_lst (StX.pa_star (pv 3) (pa_cons (pe_tupZ (pa_cons (pv 2) (pa_cons (pv 0) pa_nil))) pa_nil)))) pa_nil))) pa_nil)))))),
    body0 (N := N_pending_wishes) (x := x_pending_wishes) (dn_seq (dn_asg (den_bin od_ix (den_var (i := 1)) den_int))
      (dn_seq (dn_if (den_test (den_bin od_is (den_var (i := 2)) den_non)) (dn_ret (den_var (i := 3))) dn_next)
      (dn_ret (den_tupL (den_FL (den_sortM (den_FL (den_lst (den_star (den_var (i := 3)) (den_cons (den_tup (den_cons (den_var (i := 2)) (den_cons (den_var (i := 0)) den_nil))) den_nil)))))))))) h⟩
/-! possible_answers -/
abbrev N_possible_answers : List Str := ["archive", "room", "delay", "position", "wish", "order", "kept", "_", "ticks", "pending", "later", "found", "left", "person", "people", "cost", "rest", "choice"]
theorem sc_possible_answers : FnScope N_possible_answers ["archive", "room", "delay", "position", "wish"] (defScope st_possible_answers) := ⟨rfl, rfl, rfl, by decide +kernel, rfl, by decide +kernel, by decide +kernel⟩
def x_possible_answers : Sf :=
  (sSeq (sAsgP (.tup (.cons (.nm 5) (.cons (.nm 6) (.cons (.nm 7) (.cons (.nm 8) .nil))))) (dVar 3))
  (sSeq (sAsg 9 (dCall (pur m_pending_wishes) 3 (dCons (dVar 2) (dCons (dVar 3) (dCons (dVar 4) dNil)))))
  (sSeq (sAsg 10 (dCB fMax (dCons (dC (.int 0)) (dCons (dBin fSub (dVar 8) (dC (.int 1))) dNil))))
  (sSeq (sOwn 11 (dLst dNil))
  (sSeq (sIf (eAnd (eBl (dBin fGt (dVar 8) (dC (.int 0)))) (eBl (dCB fAll (dCons (dOfL (dComp (wSeq (dVar 9)) (.tup (.cons (.nm 7) (.cons (.nm 12) .nil))) eYes (dBin fGt (dVar 12) (dC (.int 0))) [7, 12])) dNil)))) (sApp 11 (dTup (dCons (dC (.int 0)) (dCons (dTup (dCons (dVar 5) (dCons (dVar 6) (dCons (dTupL (dComp (wSeq (dVar 9)) (.tup (.cons (.nm 13) (.cons (.nm 12) .nil))) eYes (dTup (dCons (dVar 13) (dCons (dBin fSub (dVar 12) (dC (.int 1))) dNil))) [13, 12])) (dCons (dVar 10) dNil))))) dNil)))) sNext)
  (sSeq (sIf (eTru (dVar 9)) (sSeq (sAsg 14 (dTupL (dComp (wSeq (dVar 9)) (.tup (.cons (.nm 13) (.cons (.nm 7) .nil))) eYes (dVar 13) [13, 7])))
  (sSeq (sAsg 15 (dCall (pur m_forgetting_work) 3 (dCons (dVar 0) (dCons (dTup (dCons (dVar 5) (dCons (dVar 6) dNil))) (dCons (dVar 14) dNil)))))
  (sFor (wSeq (dCall (pur m_builds_after) 3 (dCons (dVar 1) (dCons (dTup (dCons (dVar 5) (dCons (dVar 6) dNil))) (dCons (dVar 14) dNil))))) (.tup (.cons (.nm 16) (.cons (.nm 17) .nil))) (sApp 11 (dTup (dCons (dVar 15) (dCons (dTup (dCons (dVar 16) (dCons (dVar 17) (dCons (dTup dNil) (dCons (dVar 10) dNil))))) dNil))))))) sNext)
  (sRetOwn 11)))))))
def m_possible_answers : Mf := fnD N_possible_answers.length x_possible_answers
theorem ok_possible_answers (T : Tx c mg a d) : FnOk P w c.K mg base CX0 8 (a 44) (d 44) ["archive", "room", "delay", "position", "wish"] (sp0 c m_possible_answers 5) := by
  refine T.F44.ok sc_possible_answers (fun vs H Q E h => h.1) (fun cdv A outer s H vs Q E hr h => ?_)
  exact ⟨_, (pss_cons (ps_asg (pv 3) (pg_tup rfl (pgs_cons (pg_name (i := 5) sc_possible_answers.nd rfl (by first | exact Or.inl rfl | exact Or.inr rfl)) (pgs_cons (pg_name (i := 6) sc_possible_answers.nd rfl (by first | exact Or.inl rfl | exact Or.inr rfl)) (pgs_cons (pg_name (i := 7) sc_possible_answers.nd rfl (by first | exact Or.inl rfl | exact Or.inr rfl)) (pgs_cons (pg_name (i := 8) sc_possible_answers.nd rfl (by first | exact Or.inl rfl | exact Or.inr rfl)) pgs_nil))))))
      (pss_cons (ps_set (i := 9) sc_possible_answers.nd rfl (by first | exact Or.inl rfl | exact Or.inr rfl) (pe_call (ok_pending_wishes T) (hr.mono (by decide)) rfl T.m43 T.F43.kp T.b43 .nil pass0 (pa_cons (pv 2) (pa_cons (pv 3) (pa_cons (pv 4) pa_nil)))))
      (pss_cons (ps_set (i := 10) sc_possible_answers.nd rfl (by first | exact Or.inl rfl | exact Or.inr rfl) (pe_callB (cr_max3 rfl) rfl T.z_max mbt_max (pa_cons pe_int (pa_cons (pe_op op_sub (pv 8) pe_int) pa_nil))))
      (pss_cons (ps_set (i := 11) sc_possible_answers.nd rfl (by first | exact Or.inl rfl | exact Or.inr rfl) (pe_lst pa_nil))
      (pss_cons (ps_if (PW.pt (pw_and (pt_cmpR op_gt (pv 8) pe_int (nomark _)) (pw_and1 (pt_val (pe_callB (cr_all rfl) rfl T.z_all mbt_all (pa_cons (pe_lc (own := [("_", 7), ("left", 12)]) rfl sc_possible_answers.nd (pi_seq (pv 9)) (blkOk_by (N := N_possible_answers) (sc := defScope st_possible_answers) (by decide +kernel)) (fun _ _ _ _ _ => (pg_tup rfl (pgs_cons (pg_name (i := 7) sc_possible_answers.nd rfl (by first | exact Or.inl rfl | exact Or.inr rfl)) (pgs_cons (pg_name (i := 12) sc_possible_answers.nd rfl (by first | exact Or.inl rfl | exact Or.inr rfl)) pgs_nil)))) (fun _ _ _ _ _ => pts_nil) (fun _ _ _ _ _ => (pe_cmpR op_gt (pv 12) pe_int (nomark _)))) pa_nil)))))) (pss_one (ps_expr (pe_bm PySem.F.plainAttrs_list PySem.F.slot_list_append PySem.F.type_list_append mt_append (pv 11) (pa_cons (pe_tupZ (pa_cons pe_int (pa_cons (pe_tupZ (pa_cons (pv 5) (pa_cons (pv 6) (pa_cons (pe_callTy cr_tupZ rfl T.z_tuple mbt_tuple (pa_cons ((pe_lc (own := [("person", 13), ("left", 12)]) rfl sc_possible_answers.nd (pi_seq (pv 9)) (blkOk_by (N := N_possible_answers) (sc := defScope st_possible_answers) (by decide +kernel)) (fun _ _ _ _ _ => (pg_tup rfl (pgs_cons (pg_name (i := 13) sc_possible_answers.nd rfl (by first | exact Or.inl rfl | exact Or.inr rfl)) (pgs_cons (pg_name (i := 12) sc_possible_answers.nd rfl (by first | exact Or.inl rfl | exact Or.inr rfl)) pgs_nil)))) (fun _ _ _ _ _ => pts_nil) (fun _ _ _ _ _ => (pe_tupZ (pa_cons (pv 13) (pa_cons (pe_op op_sub (pv 12) pe_int) pa_nil)))))) pa_nil)) (pa_cons (pv 10) pa_nil))))) pa_nil))) pa_nil)))) pss_nil)
      (pss_cons (ps_if (pt_truth (pv 9) (fun _ => rfl)) (pss_cons (ps_set (i := 14) sc_possible_answers.nd rfl (by first | exact Or.inl rfl | exact Or.inr rfl) (pe_callTy cr_tupZ rfl T.z_tuple mbt_tuple (pa_cons ((pe_lc (own := [("person", 13), ("_", 7)]) rfl sc_possible_answers.nd (pi_seq (pv 9)) (blkOk_by (N := N_possible_answers) (sc := defScope st_possible_answers) (by decide +kernel)) (fun _ _ _ _ _ => (pg_tup rfl (pgs_cons (pg_name (i := 13) sc_possible_answers.nd rfl (by first | exact Or.inl rfl | exact Or.inr rfl)) (pgs_cons (pg_name (i := 7) sc_possible_answers.nd rfl (by first | exact Or.inl rfl | exact Or.inr rfl)) pgs_nil)))) (fun _ _ _ _ _ => pts_nil) (fun _ _ _ _ _ => (pv 13)))) pa_nil)))
      (pss_cons (ps_set (i := 15) sc_possible_answers.nd rfl (by first | exact Or.inl rfl | exact Or.inr rfl) (pe_call (ok_forgetting_work T) (hr.mono (by decide)) rfl T.m29 T.F29.kp T.b29 .nil pass0 (pa_cons (pv 0) (pa_cons (pe_tupZ (pa_cons (pv 5) (pa_cons (pv 6) pa_nil))) (pa_cons (pv 14) pa_nil)))))
      (pss_one (ps_for PassesOwn.never rfl (pi_seq (pe_call (ok_builds_after T) (hr.mono (by decide)) rfl T.m30 T.F30.kp T.b30 .nil pass0 (pa_cons (pv 1) (pa_cons (pe_tupZ (pa_cons (pv 5) (pa_cons (pv 6) pa_nil))) (pa_cons (pv 14) pa_nil))))) (pg_tup rfl (pgs_cons (pg_name (i := 16) sc_possible_answers.nd rfl (by first | exact Or.inl rfl | exact Or.inr rfl)) (pgs_cons (pg_name (i := 17) sc_possible_answers.nd rfl (by first | exact Or.inl rfl | exact Or.inr rfl)) pgs_nil))) (pss_one (ps_expr (pe_bm PySem.F.plainAttrs_list PySem.F.slot_list_append PySem.F.type_list_append mt_append (pv 11) (pa_cons (pe_tupZ (pa_cons (pv 15) (pa_cons (pe_tupZ (pa_cons (pv 16) (pa_cons (pv 17) (pa_cons (pe_tupZ pa_nil) (pa_cons (pv 10) pa_nil))))) pa_nil))) pa_nil)))))))) pss_nil)
      (pss_one (ps_ret (pv 11))))))))),
    body0 (N := N_possible_answers) (x := x_possible_answers) (dn_seq (dn_asgP (p := (.tup (.cons (.nm 5) (.cons (.nm 6) (.cons (.nm 7) (.cons (.nm 8) .nil)))))) (den_var (i := 3)))
      (dn_seq (dn_asg (den_callP0 (den_cons (den_var (i := 2)) (den_cons (den_var (i := 3)) (den_cons (den_var (i := 4)) den_nil)))))
      (dn_seq (dn_asg (den_cb cd_max (den_cons den_int (den_cons (den_bin od_sub (den_var (i := 8)) den_int) den_nil))))
      (dn_seq (dn_own (den_lst den_nil))
      (dn_seq (dn_if (den_and (den_test (den_bin od_gt (den_var (i := 8)) den_int)) (den_tB (den_cb cd_all (den_cons (den_ofL (den_comp (p := (.tup (.cons (.nm 7) (.cons (.nm 12) .nil)))) (vs := [7, 12]) (SrcS.x (src_seq (den_var (i := 9)))) den_yes (den_bin od_gt (den_var (i := 12)) den_int) rfl)) den_nil)))) (dn_app (i := 11) (den_tup (den_cons den_int (den_cons (den_tup (den_cons (den_var (i := 5)) (den_cons (den_var (i := 6)) (den_cons (den_tupL (den_FL (den_comp (p := (.tup (.cons (.nm 13) (.cons (.nm 12) .nil)))) (vs := [13, 12]) (SrcS.x (src_seq (den_var (i := 9)))) den_yes (den_tup (den_cons (den_var (i := 13)) (den_cons (den_bin od_sub (den_var (i := 12)) den_int) den_nil))) rfl))) (den_cons (den_var (i := 10)) den_nil))))) den_nil)))) dn_next)
      (dn_seq (dn_if (den_truth (den_var (i := 9))) (dn_seq (dn_asg (den_tupL (den_FL (den_comp (p := (.tup (.cons (.nm 13) (.cons (.nm 7) .nil)))) (vs := [13, 7]) (SrcS.x (src_seq (den_var (i := 9)))) den_yes (den_var (i := 13)) rfl))))
      (dn_seq (dn_asg (den_callP0 (den_cons (den_var (i := 0)) (den_cons (den_tup (den_cons (den_var (i := 5)) (den_cons (den_var (i := 6)) den_nil))) (den_cons (den_var (i := 14)) den_nil)))))
      (dn_for (p := (.tup (.cons (.nm 16) (.cons (.nm 17) .nil)))) (src_seq (den_callP0 (den_cons (den_var (i := 1)) (den_cons (den_tup (den_cons (den_var (i := 5)) (den_cons (den_var (i := 6)) den_nil))) (den_cons (den_var (i := 14)) den_nil))))) (dn_app (i := 11) (den_tup (den_cons (den_var (i := 15)) (den_cons (den_tup (den_cons (den_var (i := 16)) (den_cons (den_var (i := 17)) (den_cons (den_tup den_nil) (den_cons (den_var (i := 10)) den_nil))))) den_nil))))))) dn_next)
      (dn_retOwn (i := 11)))))))) h⟩
/-! start_of -/
abbrev N_start_of : List Str := ["build", "ticks", "order", "kept"]
theorem sc_start_of : FnScope N_start_of ["build", "ticks"] (defScope st_start_of) := ⟨rfl, rfl, rfl, by decide +kernel, rfl, by decide +kernel, by decide +kernel⟩
def x_start_of : Sf :=
  (sSeq (sAsgP (.tup (.cons (.nm 2) (.cons (.nm 3) .nil))) (dVar 0))
  (sRet (dTup (dCons (dVar 2) (dCons (dVar 3) (dCons (dTup dNil) (dCons (dVar 1) dNil)))))))
def m_start_of : Mf := fnD N_start_of.length x_start_of
theorem ok_start_of (T : Tx c mg a d) : FnOk P w c.K mg base CX0 1 (a 45) (d 45) ["build", "ticks"] (sp0 c m_start_of 2) := by
  refine T.F45.ok sc_start_of (fun vs H Q E h => h.1) (fun cdv A outer s H vs Q E hr h => ?_)
  exact ⟨_, (pss_cons (ps_asg (pv 0) (pg_tup rfl (pgs_cons (pg_name (i := 2) sc_start_of.nd rfl (by first | exact Or.inl rfl | exact Or.inr rfl)) (pgs_cons (pg_name (i := 3) sc_start_of.nd rfl (by first | exact Or.inl rfl | exact Or.inr rfl)) pgs_nil))))
      (pss_one (ps_ret (pe_tupZ (pa_cons (pv 2) (pa_cons (pv 3) (pa_cons (pe_tupZ pa_nil) (pa_cons (pv 1) pa_nil)))))))),
    body0 (N := N_start_of) (x := x_start_of) (dn_seq (dn_asgP (p := (.tup (.cons (.nm 2) (.cons (.nm 3) .nil)))) (den_var (i := 0)))
      (dn_ret (den_tup (den_cons (den_var (i := 2)) (den_cons (den_var (i := 3)) (den_cons (den_tup den_nil) (den_cons (den_var (i := 1)) den_nil))))))) h⟩
/-! wishes -/
abbrev N_wishes : List Str := ["archive", "room", "delay", "position"]
theorem sc_wishes : FnScope N_wishes ["archive", "room", "delay", "position"] (defScope st_wishes) := ⟨rfl, rfl, rfl, by decide +kernel, rfl, by decide +kernel, by decide +kernel⟩
def x_wishes : Sf :=
  (sSeq (sDrop (dCall (pur m_check_position) 4 (dCons (dVar 0) (dCons (dVar 1) (dCons (dVar 2) (dCons (dVar 3) dNil))))))
  (sRet (dCall (pur m_possible_wishes) 1 (dCons (dVar 3) dNil))))
def m_wishes : Mf := fnD N_wishes.length x_wishes
theorem ok_wishes (T : Tx c mg a d) : FnOk P w c.K mg base CX0 7 (a 46) (d 46) ["archive", "room", "delay", "position"] (sp0 c m_wishes 4) := by
  refine T.F46.ok sc_wishes (fun vs H Q E h => h.1) (fun cdv A outer s H vs Q E hr h => ?_)
  exact ⟨_, (pss_cons (ps_expr (pe_call (ok_check_position T) (hr.mono (by decide)) rfl T.m40 T.F40.kp T.b40 .nil pass0 (pa_cons (pv 0) (pa_cons (pv 1) (pa_cons (pv 2) (pa_cons (pv 3) pa_nil))))))
      (pss_one (ps_ret (pe_call (ok_possible_wishes T) (hr.mono (by decide)) rfl T.m41 T.F41.kp T.b41 .nil pass0 (pa_cons (pv 3) pa_nil))))),
    body0 (N := N_wishes) (x := x_wishes) (dn_seq (dn_drop (den_callP0 (den_cons (den_var (i := 0)) (den_cons (den_var (i := 1)) (den_cons (den_var (i := 2)) (den_cons (den_var (i := 3)) den_nil))))))
      (dn_ret (den_callP0 (den_cons (den_var (i := 3)) den_nil)))) h⟩
/-! answers -/
abbrev N_answers : List Str := ["archive", "room", "delay", "position", "wish"]
theorem sc_answers : FnScope N_answers ["archive", "room", "delay", "position", "wish"] (defScope st_answers) := ⟨rfl, rfl, rfl, by decide +kernel, rfl, by decide +kernel, by decide +kernel⟩
def x_answers : Sf :=
  (sSeq (sDrop (dCall (pur m_check_position) 4 (dCons (dVar 0) (dCons (dVar 1) (dCons (dVar 2) (dCons (dVar 3) dNil))))))
  (sSeq (sIf (eNot (eBl (dCall (pur m_is_wish) 2 (dCons (dVar 3) (dCons (dVar 4) dNil))))) sBad sNext)
  (sRet (dCall (pur m_possible_answers) 5 (dCons (dVar 0) (dCons (dVar 1) (dCons (dVar 2) (dCons (dVar 3) (dCons (dVar 4) dNil)))))))))
def m_answers : Mf := fnD N_answers.length x_answers
theorem ok_answers (T : Tx c mg a d) : FnOk P w c.K mg base CX0 9 (a 47) (d 47) ["archive", "room", "delay", "position", "wish"] (sp0 c m_answers 5) := by
  refine T.F47.ok sc_answers (fun vs H Q E h => h.1) (fun cdv A outer s H vs Q E hr h => ?_)
  exact ⟨_, (pss_cons (ps_expr (pe_call (ok_check_position T) (hr.mono (by decide)) rfl T.m40 T.F40.kp T.b40 .nil pass0 (pa_cons (pv 0) (pa_cons (pv 1) (pa_cons (pv 2) (pa_cons (pv 3) pa_nil))))))
      (pss_cons (ps_if (pt_not (pt_val (pe_call (ok_is_wish T) (hr.mono (by decide)) rfl T.m42 T.F42.kp T.b42 .nil pass0 (pa_cons (pv 3) (pa_cons (pv 4) pa_nil))))) (pss_one ps_never) pss_nil)
      (pss_one (ps_ret (pe_call (ok_possible_answers T) (hr.mono (by decide)) rfl T.m44 T.F44.kp T.b44 .nil pass0 (pa_cons (pv 0) (pa_cons (pv 1) (pa_cons (pv 2) (pa_cons (pv 3) (pa_cons (pv 4) pa_nil)))))))))),
    body0 (N := N_answers) (x := x_answers) (dn_seq (dn_drop (den_callP0 (den_cons (den_var (i := 0)) (den_cons (den_var (i := 1)) (den_cons (den_var (i := 2)) (den_cons (den_var (i := 3)) den_nil))))))
      (dn_seq (dn_if (den_not (den_tB (den_callP0 (den_cons (den_var (i := 3)) (den_cons (den_var (i := 4)) den_nil))))) dn_never dn_next)
      (dn_ret (den_callP0 (den_cons (den_var (i := 0)) (den_cons (den_var (i := 1)) (den_cons (den_var (i := 2)) (den_cons (den_var (i := 3)) (den_cons (den_var (i := 4)) den_nil))))))))) h⟩
/-! begin -/
abbrev N_begin : List Str := ["archive", "room", "delay", "build", "ticks"]
theorem sc_begin : FnScope N_begin ["archive", "room", "delay", "build", "ticks"] (defScope st_begin) := ⟨rfl, rfl, rfl, by decide +kernel, rfl, by decide +kernel, by decide +kernel⟩
def x_begin : Sf :=
  (sSeq (sDrop (dCall (pur m_check_play) 3 (dCons (dVar 0) (dCons (dVar 1) (dCons (dVar 2) dNil)))))
  (sSeq (sDrop (dCall (pur m_check_build) 3 (dCons (dVar 0) (dCons (dVar 1) (dCons (dVar 3) dNil)))))
  (sSeq (sDrop (dCall (pur m_check_ticks) 1 (dCons (dVar 4) dNil)))
  (sRet (dCall (pur m_start_of) 2 (dCons (dVar 3) (dCons (dVar 4) dNil)))))))
def m_begin : Mf := fnD N_begin.length x_begin
theorem ok_begin (T : Tx c mg a d) : FnOk P w c.K mg base CX0 6 (a 49) (d 49) ["archive", "room", "delay", "build", "ticks"] (sp0 c m_begin 5) := by
  refine T.F49.ok sc_begin (fun vs H Q E h => h.1) (fun cdv A outer s H vs Q E hr h => ?_)
  exact ⟨_, (pss_cons (ps_expr (pe_call (ok_check_play T) (hr.mono (by decide)) rfl T.m36 T.F36.kp T.b36 .nil pass0 (pa_cons (pv 0) (pa_cons (pv 1) (pa_cons (pv 2) pa_nil)))))
      (pss_cons (ps_expr (pe_call (ok_check_build T) (hr.mono (by decide)) rfl T.m26 T.F26.kp T.b26 .nil pass0 (pa_cons (pv 0) (pa_cons (pv 1) (pa_cons (pv 3) pa_nil)))))
      (pss_cons (ps_expr (pe_call (ok_check_ticks T) (hr.mono (by decide)) rfl T.m35 T.F35.kp T.b35 .nil pass0 (pa_cons (pv 4) pa_nil)))
      (pss_one (ps_ret (pe_call (ok_start_of T) (hr.mono (by decide)) rfl T.m45 T.F45.kp T.b45 .nil pass0 (pa_cons (pv 3) (pa_cons (pv 4) pa_nil)))))))),
    body0 (N := N_begin) (x := x_begin) (dn_seq (dn_drop (den_callP0 (den_cons (den_var (i := 0)) (den_cons (den_var (i := 1)) (den_cons (den_var (i := 2)) den_nil)))))
      (dn_seq (dn_drop (den_callP0 (den_cons (den_var (i := 0)) (den_cons (den_var (i := 1)) (den_cons (den_var (i := 3)) den_nil)))))
      (dn_seq (dn_drop (den_callP0 (den_cons (den_var (i := 4)) den_nil)))
      (dn_ret (den_callP0 (den_cons (den_var (i := 3)) (den_cons (den_var (i := 4)) den_nil))))))) h⟩
/-! _law_draw -/
abbrev N_u_law_draw : List Str := ["_law_cell", "_law_k", "_law_many", "_law_primes"]
theorem sc_u_law_draw : FnScope N_u_law_draw ["_law_cell", "_law_k", "_law_many"] (defScope st_u_law_draw) := ⟨rfl, rfl, rfl, by decide +kernel, rfl, by decide +kernel, by decide +kernel⟩
def x_u_law_draw : Sf :=
  (sSeq (sAsg 3 (dTup (dCons (dC (.int 1000003)) (dCons (dC (.int 1000033)) (dCons (dC (.int 1000037)) (dCons (dC (.int 1000039)) (dCons (dC (.int 1000081)) (dCons (dC (.int 1000099)) (dCons (dC (.int 1000117)) (dCons (dC (.int 1000121)) (dCons (dC (.int 1000133)) (dCons (dC (.int 1000151)) (dCons (dC (.int 1000159)) (dCons (dC (.int 1000171)) (dCons (dC (.int 1000183)) (dCons (dC (.int 1000187)) (dCons (dC (.int 1000193)) (dCons (dC (.int 1000199)) dNil))))))))))))))))))
  (sRet (dBin fMod (dBin fMod (dCB fInt (dCons (dBin fAdd (dBin fMul (dVar 0) (dC (.int 48271))) (dBin fMul (dVar 1) (dC (.int 69621)))) dNil)) (dBin fIx (dVar 3) (dBin fMod (dVar 1) (dC (.int 16))))) (dVar 2))))
def m_u_law_draw : Mf := fnD N_u_law_draw.length x_u_law_draw
theorem ok_u_law_draw (T : Tx c mg a d) : FnOk P w c.K mg base CX0 1 (a 51) (d 51) ["_law_cell", "_law_k", "_law_many"] (sp0 c m_u_law_draw 3) := by
  refine T.F51.ok sc_u_law_draw (fun vs H Q E h => h.1) (fun cdv A outer s H vs Q E hr h => ?_)
  exact ⟨_, (pss_cons (ps_set (i := 3) sc_u_law_draw.nd rfl (by first | exact Or.inl rfl | exact Or.inr rfl) (pe_tupZ (pa_cons pe_int (pa_cons pe_int (pa_cons pe_int (pa_cons pe_int (pa_cons pe_int (pa_cons pe_int (pa_cons pe_int (pa_cons pe_int (pa_cons pe_int (pa_cons pe_int (pa_cons pe_int (pa_cons pe_int (pa_cons pe_int (pa_cons pe_int (pa_cons pe_int (pa_cons pe_int pa_nil))))))))))))))))))
      (pss_one (ps_ret (pe_op op_modN (pe_op op_modN (pe_callTy cr_intM rfl T.z_int mbt_int (pa_cons (pe_op op_addG (pe_op op_mulX (pv 0) pe_int) (pe_op op_mulX (pv 1) pe_int)) pa_nil)) (pe_ix ix_seq (pv 3) (pe_op op_modN (pv 1) pe_int) (fun _ _ => rfl))) (pv 2))))),
    body0 (N := N_u_law_draw) (x := x_u_law_draw) (dn_seq (dn_asg (den_tup (den_cons den_int (den_cons den_int (den_cons den_int (den_cons den_int (den_cons den_int (den_cons den_int (den_cons den_int (den_cons den_int (den_cons den_int (den_cons den_int (den_cons den_int (den_cons den_int (den_cons den_int (den_cons den_int (den_cons den_int (den_cons den_int den_nil))))))))))))))))))
      (dn_ret (den_bin od_mod (den_bin od_mod (den_cb cd_int (den_cons (den_bin od_add (den_bin od_mul (den_var (i := 0)) den_int) (den_bin od_mul (den_var (i := 1)) den_int)) den_nil)) (den_bin od_ix (den_var (i := 3)) (den_bin od_mod (den_var (i := 1)) den_int))) (den_var (i := 2))))) h⟩
/-! _law_cell_at -/
abbrev N_u_law_cell_at : List Str := ["_law_script", "_law_k"]
theorem sc_u_law_cell_at : FnScope N_u_law_cell_at ["_law_script", "_law_k"] (defScope st_u_law_cell_at) := ⟨rfl, rfl, rfl, by decide +kernel, rfl, by decide +kernel, by decide +kernel⟩
def x_u_law_cell_at : Sf :=
  (sSeq (sIf (eBl (dBin fLt (dVar 1) (dCB fLen (dCons (dVar 0) dNil)))) (sRet (dCB fAbs (dCons (dBin fIx (dVar 0) (dVar 1)) dNil))) sNext)
  (sRet (dCall (pur m_u_law_draw) 3 (dCons (dBin fAdd (dCB fAbs (dCons (dCB fSum (dCons (dVar 0) dNil)) dNil)) (dBin fMul (dC (.int 7919)) (dVar 1))) (dCons (dVar 1) (dCons (dC (.int 999983)) dNil))))))
def m_u_law_cell_at : Mf := fnD N_u_law_cell_at.length x_u_law_cell_at
theorem ok_u_law_cell_at (T : Tx c mg a d) : FnOk P w c.K mg base CX0 2 (a 52) (d 52) ["_law_script", "_law_k"] (sp0 c m_u_law_cell_at 2) := by
  refine T.F52.ok sc_u_law_cell_at (fun vs H Q E h => h.1) (fun cdv A outer s H vs Q E hr h => ?_)
  exact ⟨_, (pss_cons (ps_if (pt_cmpR op_lt (pv 1) (pe_callB cr_len2 rfl T.z_len mbt_len (pa_cons (pv 0) pa_nil)) (nomark _)) (pss_one (ps_ret (pe_callB cr_absM rfl T.z_abs mbt_abs (pa_cons (pe_ix ix_seq (pv 0) (pv 1) (fun _ _ => rfl)) pa_nil)))) pss_nil)
      (pss_one (ps_ret (pe_call (ok_u_law_draw T) (hr.mono (by decide)) rfl T.m51 T.F51.kp T.b51 .nil pass0 (pa_cons (pe_op op_addG (pe_callB cr_absM rfl T.z_abs mbt_abs (pa_cons (pe_callB (cr_sum rfl) rfl T.z_sum mbt_sum (pa_cons (pv 0) pa_nil)) pa_nil)) (pe_op op_mulX pe_int (pv 1))) (pa_cons (pv 1) (pa_cons pe_int pa_nil))))))),
    body0 (N := N_u_law_cell_at) (x := x_u_law_cell_at) (dn_seq (dn_if (den_test (den_bin od_lt (den_var (i := 1)) (den_cb cd_len (den_cons (den_var (i := 0)) den_nil)))) (dn_ret (den_cb cd_abs (den_cons (den_bin od_ix (den_var (i := 0)) (den_var (i := 1))) den_nil))) dn_next)
      (dn_ret (den_callP0 (den_cons (den_bin od_add (den_cb cd_abs (den_cons (den_cb cd_sum (den_cons (den_var (i := 0)) den_nil)) den_nil)) (den_bin od_mul den_int (den_var (i := 1)))) (den_cons (den_var (i := 1)) (den_cons den_int den_nil)))))) h⟩
/-! _law_digits -/
abbrev N_u_law_digits : List Str := ["_law_script", "_law_at", "_law_many", "_law_base_here", "_law_cell", "_law_found", "_law_remaining", "_law_turn", "_law_blend", "_law_more"]
theorem sc_u_law_digits : FnScope N_u_law_digits ["_law_script", "_law_at", "_law_many", "_law_base_here"] (defScope st_u_law_digits) := ⟨rfl, rfl, rfl, by decide +kernel, rfl, by decide +kernel, by decide +kernel⟩
def x_u_law_digits : Sf :=
  (sSeq (sParO 4 5 (dCall (pur m_u_law_cell_at) 2 (dCons (dVar 0) (dCons (dVar 1) dNil))) (dLst dNil))
  (sSeq (sAsg 6 (dBin fSub (dVar 4) (dBin fPow (dC (.int 10)) (dC (.int 18)))))
  (sSeq (sFor (wRng1 (dCons (dVar 2) dNil)) (.nm 7) (sIf (eBl (dBin fGt (dVar 6) (dC (.int 0)))) (sSeq (sApp 5 (dBin fMod (dCB fInt (dCons (dVar 6) dNil)) (dVar 3)))
  (sAsg 6 (dBin fDiv (dVar 6) (dVar 3)))) (sSeq (sAsg 8 (dCall (pur m_u_law_draw) 3 (dCons (dBin fMul (dBin fAdd (dVar 4) (dBin fMul (dC (.int 977)) (dVar 7))) (dBin fAdd (dBin fAdd (dVar 4) (dBin fMul (dC (.int 31)) (dVar 7))) (dC (.int 5)))) (dCons (dBin fAdd (dBin fMod (dVar 7) (dC (.int 9))) (dC (.int 1))) (dCons (dC (.int 999983)) dNil)))))
  (sSeq (sAsg 9 (dCall (pur m_u_law_draw) 3 (dCons (dBin fAdd (dBin fMul (dBin fAdd (dVar 4) (dBin fMul (dC (.int 31)) (dVar 7))) (dBin fAdd (dVar 4) (dC (.int 7)))) (dBin fMul (dC (.int 977)) (dVar 7))) (dCons (dBin fAdd (dBin fMod (dVar 7) (dC (.int 7))) (dC (.int 2))) (dCons (dC (.int 1000003)) dNil)))))
  (sApp 5 (dBin fMod (dCB fInt (dCons (dBin fAdd (dBin fMul (dVar 8) (dC (.int 1000003))) (dVar 9)) dNil)) (dVar 3)))))))
  (sRetOwn 5))))
def m_u_law_digits : Mf := fnD N_u_law_digits.length x_u_law_digits
theorem ok_u_law_digits (T : Tx c mg a d) : FnOk P w c.K mg base CX0 3 (a 53) (d 53) ["_law_script", "_law_at", "_law_many", "_law_base_here"] (sp0 c m_u_law_digits 4) := by
  refine T.F53.ok sc_u_law_digits (fun vs H Q E h => h.1) (fun cdv A outer s H vs Q E hr h => ?_)
  exact ⟨_, (pss_cons (ps_par (i := 4) (j := 5) rfl sc_u_law_digits.nd rfl rfl (by decide) rfl rfl (pa_cons (pe_call (ok_u_law_cell_at T) (hr.mono (by decide)) rfl T.m52 T.F52.kp T.b52 .nil pass0 (pa_cons (pv 0) (pa_cons (pv 1) pa_nil))) (pa_cons (pe_lst pa_nil) pa_nil)) rfl)
      (pss_cons (ps_set (i := 6) sc_u_law_digits.nd rfl (by first | exact Or.inl rfl | exact Or.inr rfl) (pe_op op_sub (pv 4) (pe_op op_pow pe_int pe_int)))
      (pss_cons (ps_for PassesOwn.never rfl (pi_range1 rfl T.z_range (pa_cons (pv 2) pa_nil)) (pg_name (i := 7) sc_u_law_digits.nd rfl (by first | exact Or.inl rfl | exact Or.inr rfl)) (pss_one (ps_if (pt_cmpR op_gt (pv 6) pe_int (nomark _)) (pss_cons (ps_expr (pe_bm PySem.F.plainAttrs_list PySem.F.slot_list_append PySem.F.type_list_append mt_append (pv 5) (pa_cons (pe_op op_modN (pe_callTy cr_intM rfl T.z_int mbt_int (pa_cons (pv 6) pa_nil)) (pv 3)) pa_nil)))
      (pss_one (ps_set (i := 6) sc_u_law_digits.nd rfl (by first | exact Or.inl rfl | exact Or.inr rfl) (pe_op op_fdivN (pv 6) (pv 3))))) (pss_cons (ps_set (i := 8) sc_u_law_digits.nd rfl (by first | exact Or.inl rfl | exact Or.inr rfl) (pe_call (ok_u_law_draw T) (hr.mono (by decide)) rfl T.m51 T.F51.kp T.b51 .nil pass0 (pa_cons (pe_op op_mulX (pe_op op_addG (pv 4) (pe_op op_mulX pe_int (pv 7))) (pe_op op_addG (pe_op op_addG (pv 4) (pe_op op_mulX pe_int (pv 7))) pe_int)) (pa_cons (pe_op op_addG (pe_op op_modN (pv 7) pe_int) pe_int) (pa_cons pe_int pa_nil)))))
      (pss_cons (ps_set (i := 9) sc_u_law_digits.nd rfl (by first | exact Or.inl rfl | exact Or.inr rfl) (pe_call (ok_u_law_draw T) (hr.mono (by decide)) rfl T.m51 T.F51.kp T.b51 .nil pass0 (pa_cons (pe_op op_addG (pe_op op_mulX (pe_op op_addG (pv 4) (pe_op op_mulX pe_int (pv 7))) (pe_op op_addG (pv 4) pe_int)) (pe_op op_mulX pe_int (pv 7))) (pa_cons (pe_op op_addG (pe_op op_modN (pv 7) pe_int) pe_int) (pa_cons pe_int pa_nil)))))
      (pss_one (ps_expr (pe_bm PySem.F.plainAttrs_list PySem.F.slot_list_append PySem.F.type_list_append mt_append (pv 5) (pa_cons (pe_op op_modN (pe_callTy cr_intM rfl T.z_int mbt_int (pa_cons (pe_op op_addG (pe_op op_mulX (pv 8) pe_int) (pv 9)) pa_nil)) (pv 3)) pa_nil)))))))))
      (pss_one (ps_ret (pv 5)))))),
    body0 (N := N_u_law_digits) (x := x_u_law_digits) (dn_seq (dn_parO (den_callP0 (den_cons (den_var (i := 0)) (den_cons (den_var (i := 1)) den_nil))) (den_lst den_nil))
      (dn_seq (dn_asg (den_bin od_sub (den_var (i := 4)) (den_bin od_pow den_int den_int)))
      (dn_seq (dn_for (p := (.nm 7)) (src_rng1 (den_cons (den_var (i := 2)) den_nil)) (dn_if (den_test (den_bin od_gt (den_var (i := 6)) den_int)) (dn_seq (dn_app (i := 5) (den_bin od_mod (den_cb cd_int (den_cons (den_var (i := 6)) den_nil)) (den_var (i := 3))))
      (dn_asg (den_bin od_div (den_var (i := 6)) (den_var (i := 3))))) (dn_seq (dn_asg (den_callP0 (den_cons (den_bin od_mul (den_bin od_add (den_var (i := 4)) (den_bin od_mul den_int (den_var (i := 7)))) (den_bin od_add (den_bin od_add (den_var (i := 4)) (den_bin od_mul den_int (den_var (i := 7)))) den_int)) (den_cons (den_bin od_add (den_bin od_mod (den_var (i := 7)) den_int) den_int) (den_cons den_int den_nil)))))
      (dn_seq (dn_asg (den_callP0 (den_cons (den_bin od_add (den_bin od_mul (den_bin od_add (den_var (i := 4)) (den_bin od_mul den_int (den_var (i := 7)))) (den_bin od_add (den_var (i := 4)) den_int)) (den_bin od_mul den_int (den_var (i := 7)))) (den_cons (den_bin od_add (den_bin od_mod (den_var (i := 7)) den_int) den_int) (den_cons den_int den_nil)))))
      (dn_app (i := 5) (den_bin od_mod (den_cb cd_int (den_cons (den_bin od_add (den_bin od_mul (den_var (i := 8)) den_int) (den_var (i := 9))) den_nil)) (den_var (i := 3))))))))
      (dn_retOwn (i := 5))))) h⟩
/-! _law_take -/
abbrev N_u_law_take : List Str := ["_law_draws", "_law_many"]
theorem sc_u_law_take : FnScope N_u_law_take ["_law_draws", "_law_many"] (defScope st_u_law_take) := ⟨rfl, rfl, rfl, by decide +kernel, rfl, by decide +kernel, by decide +kernel⟩
def x_u_law_take : Sf :=
  (sRet (dIf (eBl (dBin fNe (dVar 0) (dOfL (dLst dNil)))) (dBin fMod (dCB fInt (dCons (dPopAt (dVar 0) (dC (.int 0))) dNil)) (dVar 1)) (dC (.int 0))))
def m_u_law_take : Mf := fnD N_u_law_take.length x_u_law_take
theorem ok_u_law_take (T : Tx c mg a d) : FnOk P w c.K mg base CX0 1 (a 54) (d 54) ["_law_draws", "_law_many"] (sp0 c m_u_law_take 2) := by
  refine T.F54.ok sc_u_law_take (fun vs H Q E h => h.1) (fun cdv A outer s H vs Q E hr h => ?_)
  exact ⟨_, (pss_one (ps_ret (pe_ifExp (pt_cmpR (op_neD hr.units) (pv 0) (pe_lst pa_nil) (nomark _)) (pe_op op_modN (pe_callTy cr_intM rfl T.z_int mbt_int (pa_cons (pe_bm PySem.F.plainAttrs_list PySem.F.slot_list_pop PySem.F.type_list_pop mt_popAt (pv 0) (pa_cons pe_int pa_nil)) pa_nil)) (pv 1)) pe_int))),
    body0 (N := N_u_law_take) (x := x_u_law_take) (dn_ret (den_if (den_test (den_bin od_ne (den_var (i := 0)) (den_ofL (den_lst den_nil)))) (den_bin od_mod (den_cb cd_int (den_cons (den_popAt (den_var (i := 0)) den_int) den_nil)) (den_var (i := 1))) den_int)) h⟩
/-! _law_pool -/
abbrev N_u_law_pool : List Str := ["_law_script", "_law_bases", "_law_found", "_law_at", "_law_base_here"]
theorem sc_u_law_pool : FnScope N_u_law_pool ["_law_script", "_law_bases"] (defScope st_u_law_pool) := ⟨rfl, rfl, rfl, by decide +kernel, rfl, by decide +kernel, by decide +kernel⟩
def x_u_law_pool : Sf :=
  (sSeq (sAsg 2 (dCell (dLst dNil)))
  (sSeq (sFor (wEnT (dCons (dVar 1) dNil)) (.tup (.cons (.nm 3) (.cons (.nm 4) .nil))) (sAsg 2 (dCell (dCatF (dVar 2) (dCall (pur m_u_law_digits) 4 (dCons (dVar 0) (dCons (dVar 3) (dCons (dC (.int 150)) (dCons (dVar 4) dNil)))))))))
  (sRet (dVar 2))))
def m_u_law_pool : Mf := fnD N_u_law_pool.length x_u_law_pool
theorem ok_u_law_pool (T : Tx c mg a d) : FnOk P w c.K mg base CX0 4 (a 55) (d 55) ["_law_script", "_law_bases"] (sp0 c m_u_law_pool 2) := by
  refine T.F55.ok sc_u_law_pool (fun vs H Q E h => h.1) (fun cdv A outer s H vs Q E hr h => ?_)
  exact ⟨_, (pss_cons (ps_set (i := 2) sc_u_law_pool.nd rfl (by first | exact Or.inl rfl | exact Or.inr rfl) (pe_lst pa_nil))
      (pss_cons (ps_for PassesOwn.never rfl (pi_enT rfl T.z_enumerate (pa_cons (pv 1) pa_nil)) (pg_tup rfl (pgs_cons (pg_name (i := 3) sc_u_law_pool.nd rfl (by first | exact Or.inl rfl | exact Or.inr rfl)) (pgs_cons (pg_name (i := 4) sc_u_law_pool.nd rfl (by first | exact Or.inl rfl | exact Or.inr rfl)) pgs_nil))) (pss_one (ps_set (i := 2) sc_u_law_pool.nd rfl (by first | exact Or.inl rfl | exact Or.inr rfl) (pe_op op_addG (pv 2) (pe_call (ok_u_law_digits T) (hr.mono (by decide)) rfl T.m53 T.F53.kp T.b53 .nil pass0 (pa_cons (pv 0) (pa_cons (pv 3) (pa_cons pe_int (pa_cons (pv 4) pa_nil)))))))))
      (pss_one (ps_ret (pv 2))))),
    body0 (N := N_u_law_pool) (x := x_u_law_pool) (dn_seq (dn_asg (den_cell (den_lst den_nil)))
      (dn_seq (dn_forP (p := (.tup (.cons (.nm 3) (.cons (.nm 4) .nil)))) (src_enT (den_cons (den_var (i := 1)) den_nil)) (dn_asg (den_cell (den_catF (den_var (i := 2)) (den_callP0 (den_cons (den_var (i := 0)) (den_cons (den_var (i := 3)) (den_cons den_int (den_cons (den_var (i := 4)) den_nil)))))))))
      (dn_ret (den_var (i := 2))))) h⟩
/-! _law_sizes -/
abbrev N_u_law_sizes : List Str := ["_law_draws", "_law_most", "_law_person"]
theorem sc_u_law_sizes : FnScope N_u_law_sizes ["_law_draws", "_law_most"] (defScope st_u_law_sizes) := ⟨rfl, rfl, rfl, by decide +kernel, rfl, by decide +kernel, by decide +kernel⟩
def x_u_law_sizes : Sf :=
  (sRet (dTupL (dComp (wRng1 (dCons (dBin fAdd (dC (.int 1)) (dCall m_u_law_take 2 (dCons (dVar 0) (dCons (dVar 1) dNil)))) dNil)) (.nm 2) eYes (dBin fAdd (dC (.int 1)) (dCall m_u_law_take 2 (dCons (dVar 0) (dCons (dC (.int 4)) dNil)))) [2])))
def m_u_law_sizes : Mf := fnD N_u_law_sizes.length x_u_law_sizes
theorem ok_u_law_sizes (T : Tx c mg a d) : FnOk P w c.K mg base CX0 2 (a 56) (d 56) ["_law_draws", "_law_most"] (sp0 c m_u_law_sizes 2) := by
  refine T.F56.ok sc_u_law_sizes (fun vs H Q E h => h.1) (fun cdv A outer s H vs Q E hr h => ?_)
  exact ⟨_, (pss_one (ps_ret (pe_callTy cr_tupZ rfl T.z_tuple mbt_tuple (pa_cons ((pe_lc (own := [("_law_person", 2)]) rfl sc_u_law_sizes.nd (pi_range1 rfl T.z_range (pa_cons (pe_op op_addG pe_int (pe_call (ok_u_law_take T) (hr.mono (by decide)) rfl T.m54 T.F54.kp T.b54 .nil pass0 (pa_cons (pv 0) (pa_cons (pv 1) pa_nil)))) pa_nil)) (blkOk_by (N := N_u_law_sizes) (sc := defScope st_u_law_sizes) (by decide +kernel)) (fun _ _ _ _ _ => (pg_name (i := 2) sc_u_law_sizes.nd rfl (by first | exact Or.inl rfl | exact Or.inr rfl))) (fun _ _ _ _ _ => pts_nil) (fun _ _ _ _ _ => (pe_op op_addG pe_int (pe_call (ok_u_law_take T) (hr.mono (by decide)) rfl T.m54 T.F54.kp T.b54 .nil pass0 (pa_cons (pv 0) (pa_cons pe_int pa_nil))))))) pa_nil)))),
    body0 (N := N_u_law_sizes) (x := x_u_law_sizes) (dn_ret (den_tupL (den_FL (den_comp (p := (.nm 2)) (vs := [2]) (SrcS.x (src_rng1 (den_cons (den_bin od_add den_int (den_call0 (den_cons (den_var (i := 0)) (den_cons (den_var (i := 1)) den_nil)))) den_nil))) den_yes (den_bin od_add den_int (den_call0 (den_cons (den_var (i := 0)) (den_cons den_int den_nil)))) rfl)))) h⟩
/-! _law_orders -/
abbrev N_u_law_orders : List Str := ["_law_people", "_law_found", "_law_one", "_law_rest_here", "_law_other", "_law_tail"]
theorem sc_u_law_orders : FnScope N_u_law_orders ["_law_people"] (defScope st_u_law_orders) := ⟨rfl, rfl, rfl, by decide +kernel, rfl, by decide +kernel, by decide +kernel⟩
def x_u_law_orders (m : Mf) : Sf :=
  (sSeq (sIf (eBl (dBin fEq (dVar 0) (dTup dNil))) (sRet (dOfL (dLst (dCons (dTup dNil) dNil)))) sNext)
  (sSeq (sAsg 1 (dOfL (dLst dNil)))
  (sSeq (sFor (wSeq (dVar 0)) (.nm 2) (sSeq (sAsg 3 (dTupL (dComp (wSeq (dVar 0)) (.nm 4) (eBl (dBin fNe (dVar 4) (dVar 2))) (dVar 4) [4])))
  (sAsg 1 (dOfL (dCatF (dVar 1) (dOfL (dComp (wSeq (dCall (pur (m)) 1 (dCons (dVar 3) dNil))) (.nm 5) eYes (dBin fAdd (dTup (dCons (dVar 2) dNil)) (dVar 5)) [5])))))))
  (sRet (dVar 1)))))
def m_u_law_orders : Nat → Mf
  | 0 => fun _ _ => .bad
  | n + 1 => fnD N_u_law_orders.length (x_u_law_orders (m_u_law_orders n))
theorem ok_u_law_orders (T : Tx c mg a d) : ∀ n : Nat, FnOk P w c.K mg base CX0 (0 + n) (a 57) (d 57) ["_law_people"] (sp0 c (m_u_law_orders n) 1)
  | 0 => fn_bad
  | n + 1 => by
    have ih := ok_u_law_orders T n
    refine T.F57.ok sc_u_law_orders (fun vs H Q E h => h.1) (fun cdv A outer s H vs Q E hr h => ?_)
    exact ⟨_, (pss_cons (ps_if (pt_cmpR (op_eqD hr.units) (pv 0) (pe_tupZ pa_nil) (nomark _)) (pss_one (ps_ret (pe_lst (pa_cons (pe_tupZ pa_nil) pa_nil)))) pss_nil)
      (pss_cons (ps_set (i := 1) sc_u_law_orders.nd rfl (by first | exact Or.inl rfl | exact Or.inr rfl) (pe_lst pa_nil))
      (pss_cons (ps_for PassesOwn.never rfl (pi_seq (pv 0)) (pg_name (i := 2) sc_u_law_orders.nd rfl (by first | exact Or.inl rfl | exact Or.inr rfl)) (pss_cons (ps_set (i := 3) sc_u_law_orders.nd rfl (by first | exact Or.inl rfl | exact Or.inr rfl) (pe_callTy cr_tupZ rfl T.z_tuple mbt_tuple (pa_cons ((pe_lc (own := [("_law_other", 4)]) rfl sc_u_law_orders.nd (pi_seq (pv 0)) (blkOk_by (N := N_u_law_orders) (sc := defScope st_u_law_orders) (by decide +kernel)) (fun _ _ _ _ _ => (pg_name (i := 4) sc_u_law_orders.nd rfl (by first | exact Or.inl rfl | exact Or.inr rfl))) (fun _ _ _ _ _ => (pts_one (pt_cmpR (op_neD hr.units) (pv 4) (pv 2) (nomark _)))) (fun _ _ _ _ _ => (pv 4)))) pa_nil)))
      (pss_one (ps_set (i := 1) sc_u_law_orders.nd rfl (by first | exact Or.inl rfl | exact Or.inr rfl) (pe_op op_addG (pv 1) (pe_lc (own := [("_law_tail", 5)]) rfl sc_u_law_orders.nd (pi_seq (pe_call ih (hr.mono (Nat.le_refl _)) rfl T.m57 T.F57.kp T.b57 .nil pass0 (pa_cons (pv 3) pa_nil))) (blkOk_by (N := N_u_law_orders) (sc := defScope st_u_law_orders) (by decide +kernel)) (fun _ _ _ _ _ => (pg_name (i := 5) sc_u_law_orders.nd rfl (by first | exact Or.inl rfl | exact Or.inr rfl))) (fun _ _ _ _ _ => pts_nil) (fun _ _ _ _ _ => (pe_op op_addG (pe_tupZ (pa_cons (pv 2) pa_nil)) (pv 5)))))))))
      (pss_one (ps_ret (pv 1)))))),
      body0 (N := N_u_law_orders) (x := x_u_law_orders (m_u_law_orders n)) (dn_seq (dn_if (den_test (den_bin od_eq (den_var (i := 0)) (den_tup den_nil))) (dn_ret (den_ofL (den_lst (den_cons (den_tup den_nil) den_nil)))) dn_next)
      (dn_seq (dn_asg (den_ofL (den_lst den_nil)))
      (dn_seq (dn_for (p := (.nm 2)) (src_seq (den_var (i := 0))) (dn_seq (dn_asg (den_tupL (den_FL (den_comp (p := (.nm 4)) (vs := [4]) (SrcS.x (src_seq (den_var (i := 0)))) (den_test (den_bin od_ne (den_var (i := 4)) (den_var (i := 2)))) (den_var (i := 4)) rfl))))
      (dn_asg (den_ofL (den_catF (den_var (i := 1)) (den_ofL (den_comp (p := (.nm 5)) (vs := [5]) (SrcS.x (src_seq (den_callP0 (den_cons (den_var (i := 3)) den_nil)))) den_yes (den_bin od_add (den_tup (den_cons (den_var (i := 2)) den_nil)) (den_var (i := 5))) rfl)))))))
      (dn_ret (den_var (i := 1)))))) h⟩
/-! _law_some -/
abbrev N_u_law_some : List Str := ["_law_lengths", "_law_room_here", "_law_found", "_law_length", "_law_some_here"]
theorem sc_u_law_some : FnScope N_u_law_some ["_law_lengths", "_law_room_here"] (defScope st_u_law_some) := ⟨rfl, rfl, rfl, by decide +kernel, rfl, by decide +kernel, by decide +kernel⟩
def x_u_law_some : Sf :=
  (sSeq (sAsg 2 (dOfL (dLst (dCons (dTup dNil) dNil))))
  (sSeq (sFor (wSeq (dVar 0)) (.nm 3) (sAsg 2 (dOfL (dCatF (dVar 2) (dOfL (dComp (wSeq (dVar 2)) (.nm 4) (eBl (dBin fLt (dCB fLen (dCons (dVar 4) dNil)) (dVar 1))) (dBin fAdd (dVar 4) (dTup (dCons (dVar 3) dNil))) [4]))))))
  (sRet (dVar 2))))
def m_u_law_some : Mf := fnD N_u_law_some.length x_u_law_some
theorem ok_u_law_some (T : Tx c mg a d) : FnOk P w c.K mg base CX0 1 (a 58) (d 58) ["_law_lengths", "_law_room_here"] (sp0 c m_u_law_some 2) := by
  refine T.F58.ok sc_u_law_some (fun vs H Q E h => h.1) (fun cdv A outer s H vs Q E hr h => ?_)
  exact ⟨_, (pss_cons (ps_set (i := 2) sc_u_law_some.nd rfl (by first | exact Or.inl rfl | exact Or.inr rfl) (pe_lst (pa_cons (pe_tupZ pa_nil) pa_nil)))
      (pss_cons (ps_for PassesOwn.never rfl (pi_seq (pv 0)) (pg_name (i := 3) sc_u_law_some.nd rfl (by first | exact Or.inl rfl | exact Or.inr rfl)) (pss_one (ps_set (i := 2) sc_u_law_some.nd rfl (by first | exact Or.inl rfl | exact Or.inr rfl) (pe_op op_addG (pv 2) (pe_lc (own := [("_law_some_here", 4)]) rfl sc_u_law_some.nd (pi_seq (pv 2)) (blkOk_by (N := N_u_law_some) (sc := defScope st_u_law_some) (by decide +kernel)) (fun _ _ _ _ _ => (pg_name (i := 4) sc_u_law_some.nd rfl (by first | exact Or.inl rfl | exact Or.inr rfl))) (fun _ _ _ _ _ => (pts_one (pt_cmpR op_lt (pe_callB cr_len2 rfl T.z_len mbt_len (pa_cons (pv 4) pa_nil)) (pv 1) (nomark _)))) (fun _ _ _ _ _ => (pe_op op_addG (pv 4) (pe_tupZ (pa_cons (pv 3) pa_nil)))))))))
      (pss_one (ps_ret (pv 2))))),
    body0 (N := N_u_law_some) (x := x_u_law_some) (dn_seq (dn_asg (den_ofL (den_lst (den_cons (den_tup den_nil) den_nil))))
      (dn_seq (dn_for (p := (.nm 3)) (src_seq (den_var (i := 0))) (dn_asg (den_ofL (den_catF (den_var (i := 2)) (den_ofL (den_comp (p := (.nm 4)) (vs := [4]) (SrcS.x (src_seq (den_var (i := 2)))) (den_test (den_bin od_lt (den_cb cd_len (den_cons (den_var (i := 4)) den_nil)) (den_var (i := 1)))) (den_bin od_add (den_var (i := 4)) (den_tup (den_cons (den_var (i := 3)) den_nil))) rfl))))))
      (dn_ret (den_var (i := 2))))) h⟩
/-! _law_drawn_build -/
abbrev N_u_law_drawn_build : List Str := ["_law_draws", "_law_sizes_here", "_law_room_here", "_law_people", "_law_order", "_law_turn", "_law_one", "_law_some_here", "_law_length"]
theorem sc_u_law_drawn_build : FnScope N_u_law_drawn_build ["_law_draws", "_law_sizes_here", "_law_room_here"] (defScope st_u_law_drawn_build) := ⟨rfl, rfl, rfl, by decide +kernel, rfl, by decide +kernel, by decide +kernel⟩
def x_u_law_drawn_build : Sf :=
  (sSeq (sParO 3 4 (dCell (dListRg (dRg1 (dCB fLen (dCons (dVar 1) dNil))))) (dLst dNil))
  (sSeq (sFor (wRng1 (dCons (dCB fLen (dCons (dVar 1) dNil)) dNil)) (.nm 5) (sSeq (sAsg 6 (dPopAt (dVar 3) (dCall m_u_law_take 2 (dCons (dVar 0) (dCons (dCB fLen (dCons (dVar 3) dNil)) dNil)))))
  (sIf (eBl (dBin fGt (dCall m_u_law_take 2 (dCons (dVar 0) (dCons (dC (.int 5)) dNil))) (dC (.int 0)))) (sApp 4 (dVar 6)) sNext)))
  (sSeq (sOwn 7 (dLst dNil))
  (sSeq (sFor (wRng2 (dCons (dC (.int 1)) (dCons (dLenL (dOwn 4)) dNil))) (.nm 8) (sIf (eAnd (eBl (dBin fLt (dLenL (dOwn 7)) (dVar 2))) (eBl (dBin fEq (dCall m_u_law_take 2 (dCons (dVar 0) (dCons (dC (.int 2)) dNil))) (dC (.int 0))))) (sApp 7 (dVar 8)) sNext))
  (sRet (dTup (dCons (dTupL (dOwn 4)) (dCons (dTupL (dOwn 7)) dNil))))))))
def m_u_law_drawn_build : Mf := fnD N_u_law_drawn_build.length x_u_law_drawn_build
theorem ok_u_law_drawn_build (T : Tx c mg a d) : FnOk P w c.K mg base CX0 2 (a 59) (d 59) ["_law_draws", "_law_sizes_here", "_law_room_here"] (sp0 c m_u_law_drawn_build 3) := by
  refine T.F59.ok sc_u_law_drawn_build (fun vs H Q E h => h.1) (fun cdv A outer s H vs Q E hr h => ?_)
  exact ⟨_, (pss_cons (ps_par (i := 3) (j := 4) rfl sc_u_law_drawn_build.nd rfl rfl (by decide) rfl rfl (pa_cons (pe_listRg rfl rfl T.z_list (prg_1 rfl T.z_range (pe_callB cr_len2 rfl T.z_len mbt_len (pa_cons (pv 1) pa_nil)))) (pa_cons (pe_lst pa_nil) pa_nil)) rfl)
      (pss_cons (ps_for PassesOwn.never rfl (pi_range1 rfl T.z_range (pa_cons (pe_callB cr_len2 rfl T.z_len mbt_len (pa_cons (pv 1) pa_nil)) pa_nil)) (pg_name (i := 5) sc_u_law_drawn_build.nd rfl (by first | exact Or.inl rfl | exact Or.inr rfl)) (pss_cons (ps_set (i := 6) sc_u_law_drawn_build.nd rfl (by first | exact Or.inl rfl | exact Or.inr rfl) (pe_bm PySem.F.plainAttrs_list PySem.F.slot_list_pop PySem.F.type_list_pop mt_popAt (pv 3) (pa_cons (pe_call (ok_u_law_take T) (hr.mono (by decide)) rfl T.m54 T.F54.kp T.b54 .nil pass0 (pa_cons (pv 0) (pa_cons (pe_callB cr_len2 rfl T.z_len mbt_len (pa_cons (pv 3) pa_nil)) pa_nil))) pa_nil)))
      (pss_one (ps_if (pt_cmpR op_gt (pe_call (ok_u_law_take T) (hr.mono (by decide)) rfl T.m54 T.F54.kp T.b54 .nil pass0 (pa_cons (pv 0) (pa_cons pe_int pa_nil))) pe_int (nomark _)) (pss_one (ps_expr (pe_bm PySem.F.plainAttrs_list PySem.F.slot_list_append PySem.F.type_list_append mt_append (pv 4) (pa_cons (pv 6) pa_nil)))) pss_nil))))
      (pss_cons (ps_set (i := 7) sc_u_law_drawn_build.nd rfl (by first | exact Or.inl rfl | exact Or.inr rfl) (pe_lst pa_nil))
      (pss_cons (ps_for PassesOwn.never rfl (pi_range2 rfl T.z_range (pa_cons pe_int (pa_cons (pe_callB cr_len2 rfl T.z_len mbt_len (pa_cons (pv 4) pa_nil)) pa_nil))) (pg_name (i := 8) sc_u_law_drawn_build.nd rfl (by first | exact Or.inl rfl | exact Or.inr rfl)) (pss_one (ps_if (PW.pt (pw_and (pt_cmpR op_lt (pe_callB cr_len2 rfl T.z_len mbt_len (pa_cons (pv 7) pa_nil)) (pv 2) (nomark _)) (pw_and1 (pt_cmpR (op_eqD hr.units) (pe_call (ok_u_law_take T) (hr.mono (by decide)) rfl T.m54 T.F54.kp T.b54 .nil pass0 (pa_cons (pv 0) (pa_cons pe_int pa_nil))) pe_int (nomark _))))) (pss_one (ps_expr (pe_bm PySem.F.plainAttrs_list PySem.F.slot_list_append PySem.F.type_list_append mt_append (pv 7) (pa_cons (pv 8) pa_nil)))) pss_nil)))
      (pss_one (ps_ret (pe_tupZ (pa_cons (pe_callTy cr_tupZ rfl T.z_tuple mbt_tuple (pa_cons (pv 4) pa_nil)) (pa_cons (pe_callTy cr_tupZ rfl T.z_tuple mbt_tuple (pa_cons (pv 7) pa_nil)) pa_nil))))))))),
    body0 (N := N_u_law_drawn_build) (x := x_u_law_drawn_build) (dn_seq (dn_parO (den_cell (den_listRg (den_rg1 (den_cb cd_len (den_cons (den_var (i := 1)) den_nil))))) (den_lst den_nil))
      (dn_seq (dn_for (p := (.nm 5)) (src_rng1 (den_cons (den_cb cd_len (den_cons (den_var (i := 1)) den_nil)) den_nil)) (dn_seq (dn_asg (den_popAt (den_var (i := 3)) (den_call0 (den_cons (den_var (i := 0)) (den_cons (den_cb cd_len (den_cons (den_var (i := 3)) den_nil)) den_nil)))))
      (dn_if (den_test (den_bin od_gt (den_call0 (den_cons (den_var (i := 0)) (den_cons den_int den_nil))) den_int)) (dn_app (i := 4) (den_var (i := 6))) dn_next)))
      (dn_seq (dn_own (den_lst den_nil))
      (dn_seq (dn_for (p := (.nm 8)) (src_rng2 (den_cons den_int (den_cons (den_lenL den_own) den_nil))) (dn_if (den_and (den_test (den_bin od_lt (den_lenL den_own) (den_var (i := 2)))) (den_test (den_bin od_eq (den_call0 (den_cons (den_var (i := 0)) (den_cons den_int den_nil))) den_int))) (dn_app (i := 7) (den_var (i := 8))) dn_next))
      (dn_ret (den_tup (den_cons (den_tupL den_own) (den_cons (den_tupL den_own) den_nil)))))))) h⟩
/-! _law_base -/
abbrev N_u_law_base : List Str := ["_law_order", "_law_lengths", "_law_people", "_law_base_here", "_law_ahead", "_law_one"]
theorem sc_u_law_base : FnScope N_u_law_base ["_law_order", "_law_lengths", "_law_people"] (defScope st_u_law_base) := ⟨rfl, rfl, rfl, by decide +kernel, rfl, by decide +kernel, by decide +kernel⟩
def x_u_law_base : Sf :=
  (sSeq (sAsgP (.tup (.cons (.nm 3) (.cons (.nm 4) .nil))) (dTup (dCons (dC (.int 0)) (dCons (dC (.int 0)) dNil))))
  (sSeq (sFor (wSeq (dVar 0)) (.nm 5) (sSeq (sIf (eBl (dBin fIn (dVar 5) (dVar 2))) sBrk sNext)
  (sSeq (sAsg 4 (dBin fAdd (dVar 4) (dC (.int 1))))
  (sIf (eBl (dBin fIn (dVar 4) (dVar 1))) (sAsg 3 (dVar 4)) sNext))))
  (sRet (dVar 3))))
def m_u_law_base : Mf := fnD N_u_law_base.length x_u_law_base
theorem ok_u_law_base (T : Tx c mg a d) : FnOk P w c.K mg base CX0 1 (a 60) (d 60) ["_law_order", "_law_lengths", "_law_people"] (sp0 c m_u_law_base 3) := by
  refine T.F60.ok sc_u_law_base (fun vs H Q E h => h.1) (fun cdv A outer s H vs Q E hr h => ?_)
  exact ⟨_, (pss_cons (ps_asg (pe_tupZ (pa_cons pe_int (pa_cons pe_int pa_nil))) (pg_tup rfl (pgs_cons (pg_name (i := 3) sc_u_law_base.nd rfl (by first | exact Or.inl rfl | exact Or.inr rfl)) (pgs_cons (pg_name (i := 4) sc_u_law_base.nd rfl (by first | exact Or.inl rfl | exact Or.inr rfl)) pgs_nil))))
      (pss_cons (ps_for PassesOwn.never rfl (pi_seq (pv 0)) (pg_name (i := 5) sc_u_law_base.nd rfl (by first | exact Or.inl rfl | exact Or.inr rfl)) (pss_cons (ps_if (pt_cmpR op_in_seq (pv 5) (pv 2) (by rfl)) (pss_one ps_break) pss_nil)
      (pss_cons (ps_set (i := 4) sc_u_law_base.nd rfl (by first | exact Or.inl rfl | exact Or.inr rfl) (pe_op op_addG (pv 4) pe_int))
      (pss_one (ps_if (pt_cmpR op_in_seq (pv 4) (pv 1) (by rfl)) (pss_one (ps_set (i := 3) sc_u_law_base.nd rfl (by first | exact Or.inl rfl | exact Or.inr rfl) (pv 4))) pss_nil)))))
      (pss_one (ps_ret (pv 3))))),
    body0 (N := N_u_law_base) (x := x_u_law_base) (dn_seq (dn_asgP (p := (.tup (.cons (.nm 3) (.cons (.nm 4) .nil)))) (den_tup (den_cons den_int (den_cons den_int den_nil))))
      (dn_seq (dn_for (p := (.nm 5)) (src_seq (den_var (i := 0))) (dn_seq (dn_if (den_test (den_bin (od_in (neg := false)) (den_var (i := 5)) (den_var (i := 2)))) dn_brk dn_next)
      (dn_seq (dn_asg (den_bin od_add (den_var (i := 4)) den_int))
      (dn_if (den_test (den_bin (od_in (neg := false)) (den_var (i := 4)) (den_var (i := 1)))) (dn_asg (den_var (i := 4))) dn_next))))
      (dn_ret (den_var (i := 3))))) h⟩
/-! _law_cost -/
abbrev N_u_law_cost : List Str := ["_law_sizes_here", "_law_order", "_law_lengths", "_law_people", "_law_one"]
theorem sc_u_law_cost : FnScope N_u_law_cost ["_law_sizes_here", "_law_order", "_law_lengths", "_law_people"] (defScope st_u_law_cost) := ⟨rfl, rfl, rfl, by decide +kernel, rfl, by decide +kernel, by decide +kernel⟩
def x_u_law_cost : Sf :=
  (sRet (dCB fSum (dCons (dOfL (dComp (wSeq (dSl (dVar 1) (dPart (dCall (pur m_u_law_base) 3 (dCons (dVar 1) (dCons (dVar 2) (dCons (dVar 3) dNil))))) dNoPart)) (.nm 4) (eBl (dBin fNotIn (dVar 4) (dVar 3))) (dBin fIx (dVar 0) (dVar 4)) [4])) dNil)))
def m_u_law_cost : Mf := fnD N_u_law_cost.length x_u_law_cost
theorem ok_u_law_cost (T : Tx c mg a d) : FnOk P w c.K mg base CX0 2 (a 61) (d 61) ["_law_sizes_here", "_law_order", "_law_lengths", "_law_people"] (sp0 c m_u_law_cost 4) := by
  refine T.F61.ok sc_u_law_cost (fun vs H Q E h => h.1) (fun cdv A outer s H vs Q E hr h => ?_)
  exact ⟨_, (pss_one (ps_ret (pe_callB (cr_sum rfl) rfl T.z_sum mbt_sum (pa_cons (pe_lc (own := [("_law_one", 4)]) rfl sc_u_law_cost.nd (pi_seq (pe_slice sl_G (pv 1) (po_some (pe_call (ok_u_law_base T) (hr.mono (by decide)) rfl T.m60 T.F60.kp T.b60 .nil pass0 (pa_cons (pv 1) (pa_cons (pv 2) (pa_cons (pv 3) pa_nil))))) po_none)) (blkOk_by (N := N_u_law_cost) (sc := defScope st_u_law_cost) (by decide +kernel)) (fun _ _ _ _ _ => (pg_name (i := 4) sc_u_law_cost.nd rfl (by first | exact Or.inl rfl | exact Or.inr rfl))) (fun _ _ _ _ _ => (pts_one (pt_cmpR op_notIn_seq (pv 4) (pv 3) (by rfl)))) (fun _ _ _ _ _ => (pe_ix ix_seq (pv 0) (pv 4) (fun _ _ => rfl)))) pa_nil)))),
    body0 (N := N_u_law_cost) (x := x_u_law_cost) (dn_ret (den_cb cd_sum (den_cons (den_ofL (den_comp (p := (.nm 4)) (vs := [4]) (SrcS.x (src_seq (den_sl (den_var (i := 1)) (den_part (den_callP0 (den_cons (den_var (i := 1)) (den_cons (den_var (i := 2)) (den_cons (den_var (i := 3)) den_nil))))) den_noPart))) (den_test (den_bin (od_in (neg := true)) (den_var (i := 4)) (den_var (i := 3)))) (den_bin od_ix (den_var (i := 0)) (den_var (i := 4))) rfl)) den_nil))) h⟩
/-! _law_later -/
abbrev N_u_law_later : List Str := ["_law_order", "_law_lengths", "_law_people", "_law_room_here", "_law_base_here", "_law_again", "_law_found", "_law_one", "_law_tail", "_law_able", "_law_length", "_law_some_here"]
theorem sc_u_law_later : FnScope N_u_law_later ["_law_order", "_law_lengths", "_law_people", "_law_room_here"] (defScope st_u_law_later) := ⟨rfl, rfl, rfl, by decide +kernel, rfl, by decide +kernel, by decide +kernel⟩
def x_u_law_later : Sf :=
  (sSeq (sAsg 4 (dCall (pur m_u_law_base) 3 (dCons (dVar 0) (dCons (dVar 1) (dCons (dVar 2) dNil)))))
  (sSeq (sPar 5 6 (dTupL (dSortL (dComp (wSeq (dSl (dVar 0) (dPart (dVar 4)) dNoPart)) (.nm 7) (eBl (dBin fNotIn (dVar 7) (dVar 2))) (dVar 7) [7]))) (dOfL (dLst dNil)))
  (sSeq (sFor (wSeq (dCall (pur (m_u_law_orders 6)) 1 (dCons (dVar 5) dNil))) (.nm 8) (sSeq (sAsg 9 (dOfL (dComp (wRng2 (dCons (dC (.int 1)) (dCons (dBin fAdd (dVar 4) (dCB fLen (dCons (dVar 8) dNil))) dNil))) (.nm 10) (eOr (eBl (dBin fGt (dVar 10) (dVar 4))) (eBl (dBin fIn (dVar 10) (dVar 1)))) (dVar 10) [10])))
  (sAsg 6 (dOfL (dCatF (dVar 6) (dOfL (dComp (wSeq (dCall (pur m_u_law_some) 2 (dCons (dVar 9) (dCons (dVar 3) dNil)))) (.nm 11) eYes (dTup (dCons (dBin fAdd (dSl (dVar 0) dNoPart (dPart (dVar 4))) (dVar 8)) (dCons (dVar 11) dNil))) [11])))))))
  (sRet (dOfL (dSortF (dVar 6)))))))
def m_u_law_later : Mf := fnD N_u_law_later.length x_u_law_later
theorem ok_u_law_later (T : Tx c mg a d) : FnOk P w c.K mg base CX0 7 (a 62) (d 62) ["_law_order", "_law_lengths", "_law_people", "_law_room_here"] (sp0 c m_u_law_later 4) := by
  refine T.F62.ok sc_u_law_later (fun vs H Q E h => h.1) (fun cdv A outer s H vs Q E hr h => ?_)
  exact ⟨_, (pss_cons (ps_set (i := 4) sc_u_law_later.nd rfl (by first | exact Or.inl rfl | exact Or.inr rfl) (pe_call (ok_u_law_base T) (hr.mono (by decide)) rfl T.m60 T.F60.kp T.b60 .nil pass0 (pa_cons (pv 0) (pa_cons (pv 1) (pa_cons (pv 2) pa_nil)))))
      (pss_cons (ps_par (i := 5) (j := 6) rfl sc_u_law_later.nd rfl rfl (by decide) rfl rfl (pa_cons (pe_callTy cr_tupZ rfl T.z_tuple mbt_tuple (pa_cons ((pe_callB (cr_sortedD hr.units) rfl T.z_sorted mbt_sorted (pa_cons ((pe_lc (own := [("_law_one", 7)]) rfl sc_u_law_later.nd (pi_seq (pe_slice sl_G (pv 0) (po_some (pv 4)) po_none)) (blkOk_by (N := N_u_law_later) (sc := defScope st_u_law_later) (by decide +kernel)) (fun _ _ _ _ _ => (pg_name (i := 7) sc_u_law_later.nd rfl (by first | exact Or.inl rfl | exact Or.inr rfl))) (fun _ _ _ _ _ => (pts_one (pt_cmpR op_notIn_seq (pv 7) (pv 2) (by rfl)))) (fun _ _ _ _ _ => (pv 7)))) pa_nil))) pa_nil)) (pa_cons (pe_lst pa_nil) pa_nil)) rfl)
      (pss_cons (ps_for PassesOwn.never rfl (pi_seq (pe_call (ok_u_law_orders T 6) (hr.mono (by decide)) rfl T.m57 T.F57.kp T.b57 .nil pass0 (pa_cons (pv 5) pa_nil))) (pg_name (i := 8) sc_u_law_later.nd rfl (by first | exact Or.inl rfl | exact Or.inr rfl)) (pss_cons (ps_setLc (own := [("_law_length", 10)]) (i := 9) rfl sc_u_law_later.nd rfl rfl (sw_true rfl rfl rfl (by decide +kernel)) (pi_range2 rfl T.z_range (pa_cons pe_int (pa_cons (pe_op op_addG (pv 4) (pe_callB cr_len2 rfl T.z_len mbt_len (pa_cons (pv 8) pa_nil))) pa_nil))) (blkOk_by (N := N_u_law_later) (sc := defScope st_u_law_later) (by decide +kernel)) (fun _ _ _ _ _ => (pg_name (i := 10) sc_u_law_later.nd rfl (by first | exact Or.inl rfl | exact Or.inr rfl))) (fun _ _ _ _ _ => (pts_one (PW.pt (pw_or (pt_cmpR op_gt (pv 10) (pv 4) (nomark _)) (pw_or1 (pt_cmpR op_in_seq (pv 10) (pv 1) (by rfl))))))) (fun _ _ _ _ _ => (pv 10)))
      (pss_one (ps_set (i := 6) sc_u_law_later.nd rfl (by first | exact Or.inl rfl | exact Or.inr rfl) (pe_op op_addG (pv 6) (pe_lc (own := [("_law_some_here", 11)]) rfl sc_u_law_later.nd (pi_seq (pe_call (ok_u_law_some T) (hr.mono (by decide)) rfl T.m58 T.F58.kp T.b58 .nil pass0 (pa_cons (pv 9) (pa_cons (pv 3) pa_nil)))) (blkOk_by (N := N_u_law_later) (sc := defScope st_u_law_later) (by decide +kernel)) (fun _ _ _ _ _ => (pg_name (i := 11) sc_u_law_later.nd rfl (by first | exact Or.inl rfl | exact Or.inr rfl))) (fun _ _ _ _ _ => pts_nil) (fun _ _ _ _ _ => (pe_tupZ (pa_cons (pe_op op_addG (pe_slice sl_G (pv 0) po_none (po_some (pv 4))) (pv 8)) (pa_cons (pv 11) pa_nil))))))))))
      (pss_one (ps_ret (pe_callB (cr_sortedD hr.units) rfl T.z_sorted mbt_sorted (pa_cons ((pv 6)) pa_nil))))))),
    body0 (N := N_u_law_later) (x := x_u_law_later) (dn_seq (dn_asg (den_callP0 (den_cons (den_var (i := 0)) (den_cons (den_var (i := 1)) (den_cons (den_var (i := 2)) den_nil)))))
      (dn_seq (dn_par (den_tupL (den_FL (den_sortM (den_FL (den_comp (p := (.nm 7)) (vs := [7]) (SrcS.x (src_seq (den_sl (den_var (i := 0)) (den_part (den_var (i := 4))) den_noPart))) (den_test (den_bin (od_in (neg := true)) (den_var (i := 7)) (den_var (i := 2)))) (den_var (i := 7)) rfl))))) (den_ofL (den_lst den_nil)))
      (dn_seq (dn_for (p := (.nm 8)) (src_seq (den_callP0 (den_cons (den_var (i := 5)) den_nil))) (dn_seq (dn_asg (den_ofL (den_comp (p := (.nm 10)) (vs := [10]) (SrcS.x (src_rng2 (den_cons den_int (den_cons (den_bin od_add (den_var (i := 4)) (den_cb cd_len (den_cons (den_var (i := 8)) den_nil))) den_nil)))) (den_or (den_test (den_bin od_gt (den_var (i := 10)) (den_var (i := 4)))) (den_test (den_bin (od_in (neg := false)) (den_var (i := 10)) (den_var (i := 1))))) (den_var (i := 10)) rfl)))
      (dn_asg (den_ofL (den_catF (den_var (i := 6)) (den_ofL (den_comp (p := (.nm 11)) (vs := [11]) (SrcS.x (src_seq (den_callP0 (den_cons (den_var (i := 9)) (den_cons (den_var (i := 3)) den_nil))))) den_yes (den_tup (den_cons (den_bin od_add (den_sl (den_var (i := 0)) den_noPart (den_part (den_var (i := 4)))) (den_var (i := 8))) (den_cons (den_var (i := 11)) den_nil))) rfl)))))))
      (dn_ret (den_ofL (den_sort (den_var (i := 6)))))))) h⟩
/-! _law_wishes -/
abbrev N_u_law_wishes : List Str := ["_law_spot", "_law_waiting", "_law_one", "_law_wait"]
theorem sc_u_law_wishes : FnScope N_u_law_wishes ["_law_spot"] (defScope st_u_law_wishes) := ⟨rfl, rfl, rfl, by decide +kernel, rfl, by decide +kernel, by decide +kernel⟩
def x_u_law_wishes : Sf :=
  (sSeq (sAsg 1 (dOfL (dComp (wSeq (dBin fIx (dVar 0) (dC (.int 2)))) (.tup (.cons (.nm 2) (.cons (.nm 3) .nil))) eYes (dVar 2) [2, 3])))
  (sSeq (sIf (eBl (dBin fEq (dBin fIx (dVar 0) (dC (.int 3))) (dC (.int 0)))) (sRet (dIf (eBl (dBin fNe (dVar 1) (dOfL (dLst dNil)))) (dOfL (dLst (dCons (dC .non) dNil))) (dOfL (dLst dNil)))) sNext)
  (sRet (dOfL (dCatF (dOfL (dSortL (dComp (wSeq (dBin fIx (dVar 0) (dC (.int 0)))) (.nm 2) (eBl (dBin fNotIn (dVar 2) (dVar 1))) (dVar 2) [2]))) (dOfL (dLst (dCons (dC .non) dNil))))))))
def m_u_law_wishes : Mf := fnD N_u_law_wishes.length x_u_law_wishes
theorem ok_u_law_wishes (T : Tx c mg a d) : FnOk P w c.K mg base CX0 1 (a 63) (d 63) ["_law_spot"] (sp0 c m_u_law_wishes 1) := by
  refine T.F63.ok sc_u_law_wishes (fun vs H Q E h => h.1) (fun cdv A outer s H vs Q E hr h => ?_)
  exact ⟨_, (pss_cons (ps_set (i := 1) sc_u_law_wishes.nd rfl (by first | exact Or.inl rfl | exact Or.inr rfl) (pe_lc (own := [("_law_one", 2), ("_law_wait", 3)]) rfl sc_u_law_wishes.nd (pi_seq (pe_ix ix_seq (pv 0) pe_int (fun _ _ => rfl))) (blkOk_by (N := N_u_law_wishes) (sc := defScope st_u_law_wishes) (by decide +kernel)) (fun _ _ _ _ _ => (pg_tup rfl (pgs_cons (pg_name (i := 2) sc_u_law_wishes.nd rfl (by first | exact Or.inl rfl | exact Or.inr rfl)) (pgs_cons (pg_name (i := 3) sc_u_law_wishes.nd rfl (by first | exact Or.inl rfl | exact Or.inr rfl)) pgs_nil)))) (fun _ _ _ _ _ => pts_nil) (fun _ _ _ _ _ => (pv 2))))
      (pss_cons (ps_if (pt_cmpR (op_eqD hr.units) (pe_ix ix_seq (pv 0) pe_int (fun _ _ => rfl)) pe_int (nomark _)) (pss_one (ps_ret (pe_ifExp (pt_cmpR (op_neD hr.units) (pv 1) (pe_lst pa_nil) (nomark _)) (pe_lst (pa_cons pe_non pa_nil)) (pe_lst pa_nil)))) pss_nil)
      (pss_one (ps_ret (pe_op op_addG (pe_callB (cr_sortedD hr.units) rfl T.z_sorted mbt_sorted (pa_cons ((pe_lc (own := [("_law_one", 2)]) rfl sc_u_law_wishes.nd (pi_seq (pe_ix ix_seq (pv 0) pe_int (fun _ _ => rfl))) (blkOk_by (N := N_u_law_wishes) (sc := defScope st_u_law_wishes) (by decide +kernel)) (fun _ _ _ _ _ => (pg_name (i := 2) sc_u_law_wishes.nd rfl (by first | exact Or.inl rfl | exact Or.inr rfl))) (fun _ _ _ _ _ => (pts_one (pt_cmpR op_notIn_seq (pv 2) (pv 1) (by rfl)))) (fun _ _ _ _ _ => (pv 2)))) pa_nil)) (pe_lst (pa_cons pe_non pa_nil))))))),
    body0 (N := N_u_law_wishes) (x := x_u_law_wishes) (dn_seq (dn_asg (den_ofL (den_comp (p := (.tup (.cons (.nm 2) (.cons (.nm 3) .nil)))) (vs := [2, 3]) (SrcS.x (src_seq (den_bin od_ix (den_var (i := 0)) den_int))) den_yes (den_var (i := 2)) rfl)))
      (dn_seq (dn_if (den_test (den_bin od_eq (den_bin od_ix (den_var (i := 0)) den_int) den_int)) (dn_ret (den_if (den_test (den_bin od_ne (den_var (i := 1)) (den_ofL (den_lst den_nil)))) (den_ofL (den_lst (den_cons den_non den_nil))) (den_ofL (den_lst den_nil)))) dn_next)
      (dn_ret (den_ofL (den_catF (den_ofL (den_sortM (den_FL (den_comp (p := (.nm 2)) (vs := [2]) (SrcS.x (src_seq (den_bin od_ix (den_var (i := 0)) den_int))) (den_test (den_bin (od_in (neg := true)) (den_var (i := 2)) (den_var (i := 1)))) (den_var (i := 2)) rfl)))) (den_ofL (den_lst (den_cons den_non den_nil)))))))) h⟩
/-! _law_answers -/
abbrev N_u_law_answers : List Str := ["_law_task", "_law_spot", "_law_wish", "_law_sizes_here", "_law_room_here", "_law_delay_here", "_law_order", "_law_lengths", "_law_pending", "_law_ticks", "_law_found", "_law_after_ticks", "_law_one", "_law_wait", "_law_people", "_law_cost_here", "_law_row"]
theorem sc_u_law_answers : FnScope N_u_law_answers ["_law_task", "_law_spot", "_law_wish"] (defScope st_u_law_answers) := ⟨rfl, rfl, rfl, by decide +kernel, rfl, by decide +kernel, by decide +kernel⟩
def x_u_law_answers : Sf :=
  (sSeq (sAsgP (.tup (.cons (.nm 3) (.cons (.nm 4) (.cons (.nm 5) .nil)))) (dVar 0))
  (sSeq (sAsgP (.tup (.cons (.nm 6) (.cons (.nm 7) (.cons (.nm 8) (.cons (.nm 9) .nil))))) (dVar 1))
  (sSeq (sIf (eBl (dBin fIsNot (dVar 2) (dC .non))) (sAsg 8 (dTupL (dSortF (dBin fAdd (dVar 8) (dTup (dCons (dTup (dCons (dVar 2) (dCons (dVar 5) dNil))) dNil)))))) sNext)
  (sSeq (sAsgP (.tup (.cons (.nm 10) (.cons (.nm 11) .nil))) (dTup (dCons (dCell (dLst dNil)) (dCons (dIf (eBl (dBin fGt (dVar 9) (dC (.int 0)))) (dBin fSub (dVar 9) (dC (.int 1))) (dC (.int 0))) dNil))))
  (sSeq (sIf (eAnd (eBl (dBin fGt (dVar 9) (dC (.int 0)))) (eBl (dBin fNotIn (dC (.int 0)) (dOfL (dComp (wSeq (dVar 8)) (.tup (.cons (.nm 12) (.cons (.nm 13) .nil))) eYes (dVar 13) [12, 13]))))) (sAppC (dVar 10) (dTup (dCons (dC (.int 0)) (dCons (dTup (dCons (dVar 6) (dCons (dVar 7) (dCons (dTupL (dComp (wSeq (dVar 8)) (.tup (.cons (.nm 12) (.cons (.nm 13) .nil))) eYes (dTup (dCons (dVar 12) (dCons (dBin fSub (dVar 13) (dC (.int 1))) dNil))) [12, 13])) (dCons (dVar 11) dNil))))) dNil)))) sNext)
  (sSeq (sAsg 14 (dOfL (dComp (wSeq (dVar 8)) (.tup (.cons (.nm 12) (.cons (.nm 13) .nil))) eYes (dVar 12) [12, 13])))
  (sSeq (sIf (eBl (dBin fNe (dVar 14) (dOfL (dLst dNil)))) (sSeq (sAsg 15 (dCall (pur m_u_law_cost) 4 (dCons (dVar 3) (dCons (dVar 6) (dCons (dVar 7) (dCons (dVar 14) dNil))))))
  (sAsg 10 (dCell (dCatF (dVar 10) (dOfL (dComp (wSeq (dCall (pur m_u_law_later) 4 (dCons (dVar 6) (dCons (dVar 7) (dCons (dVar 14) (dCons (dVar 4) dNil)))))) (.nm 16) eYes (dTup (dCons (dVar 15) (dCons (dTup (dCons (dBin fIx (dVar 16) (dC (.int 0))) (dCons (dBin fIx (dVar 16) (dC (.int 1))) (dCons (dTup dNil) (dCons (dVar 11) dNil))))) dNil))) [16])))))) sNext)
  (sRet (dVar 10)))))))))
def m_u_law_answers : Mf := fnD N_u_law_answers.length x_u_law_answers
theorem ok_u_law_answers (T : Tx c mg a d) : FnOk P w c.K mg base CX0 8 (a 64) (d 64) ["_law_task", "_law_spot", "_law_wish"] (sp0 c m_u_law_answers 3) := by
  refine T.F64.ok sc_u_law_answers (fun vs H Q E h => h.1) (fun cdv A outer s H vs Q E hr h => ?_)
  exact ⟨_, (pss_cons (ps_asg (pv 0) (pg_tup rfl (pgs_cons (pg_name (i := 3) sc_u_law_answers.nd rfl (by first | exact Or.inl rfl | exact Or.inr rfl)) (pgs_cons (pg_name (i := 4) sc_u_law_answers.nd rfl (by first | exact Or.inl rfl | exact Or.inr rfl)) (pgs_cons (pg_name (i := 5) sc_u_law_answers.nd rfl (by first | exact Or.inl rfl | exact Or.inr rfl)) pgs_nil)))))
      (pss_cons (ps_asg (pv 1) (pg_tup rfl (pgs_cons (pg_name (i := 6) sc_u_law_answers.nd rfl (by first | exact Or.inl rfl | exact Or.inr rfl)) (pgs_cons (pg_name (i := 7) sc_u_law_answers.nd rfl (by first | exact Or.inl rfl | exact Or.inr rfl)) (pgs_cons (pg_name (i := 8) sc_u_law_answers.nd rfl (by first | exact Or.inl rfl | exact Or.inr rfl)) (pgs_cons (pg_name (i := 9) sc_u_law_answers.nd rfl (by first | exact Or.inl rfl | exact Or.inr rfl)) pgs_nil))))))
      (pss_cons (ps_if (pt_cmpR op_notN (pv 2) pe_non (nomark _)) (pss_one (ps_set (i := 8) sc_u_law_answers.nd rfl (by first | exact Or.inl rfl | exact Or.inr rfl) (pe_callTy cr_tupZ rfl T.z_tuple mbt_tuple (pa_cons ((pe_callB (cr_sortedD hr.units) rfl T.z_sorted mbt_sorted (pa_cons ((pe_op op_addG (pv 8) (pe_tupZ (pa_cons (pe_tupZ (pa_cons (pv 2) (pa_cons (pv 5) pa_nil))) pa_nil)))) pa_nil))) pa_nil)))) pss_nil)
      (pss_cons (ps_asg (pe_tupZ (pa_cons (pe_lst pa_nil) (pa_cons (pe_ifExp (pt_cmpR op_gt (pv 9) pe_int (nomark _)) (pe_op op_sub (pv 9) pe_int) pe_int) pa_nil))) (pg_tup rfl (pgs_cons (pg_name (i := 10) sc_u_law_answers.nd rfl (by first | exact Or.inl rfl | exact Or.inr rfl)) (pgs_cons (pg_name (i := 11) sc_u_law_answers.nd rfl (by first | exact Or.inl rfl | exact Or.inr rfl)) pgs_nil))))
      (pss_cons (ps_if (PW.pt (pw_and (pt_cmpR op_gt (pv 9) pe_int (nomark _)) (pw_and1 (pt_cmpR op_notIn_seq pe_int (pe_lc (own := [("_law_one", 12), ("_law_wait", 13)]) rfl sc_u_law_answers.nd (pi_seq (pv 8)) (blkOk_by (N := N_u_law_answers) (sc := defScope st_u_law_answers) (by decide +kernel)) (fun _ _ _ _ _ => (pg_tup rfl (pgs_cons (pg_name (i := 12) sc_u_law_answers.nd rfl (by first | exact Or.inl rfl | exact Or.inr rfl)) (pgs_cons (pg_name (i := 13) sc_u_law_answers.nd rfl (by first | exact Or.inl rfl | exact Or.inr rfl)) pgs_nil)))) (fun _ _ _ _ _ => pts_nil) (fun _ _ _ _ _ => (pv 13))) (by rfl))))) (pss_one (ps_expr (pe_bm PySem.F.plainAttrs_list PySem.F.slot_list_append PySem.F.type_list_append mt_append (pv 10) (pa_cons (pe_tupZ (pa_cons pe_int (pa_cons (pe_tupZ (pa_cons (pv 6) (pa_cons (pv 7) (pa_cons (pe_callTy cr_tupZ rfl T.z_tuple mbt_tuple (pa_cons ((pe_lc (own := [("_law_one", 12), ("_law_wait", 13)]) rfl sc_u_law_answers.nd (pi_seq (pv 8)) (blkOk_by (N := N_u_law_answers) (sc := defScope st_u_law_answers) (by decide +kernel)) (fun _ _ _ _ _ => (pg_tup rfl (pgs_cons (pg_name (i := 12) sc_u_law_answers.nd rfl (by first | exact Or.inl rfl | exact Or.inr rfl)) (pgs_cons (pg_name (i := 13) sc_u_law_answers.nd rfl (by first | exact Or.inl rfl | exact Or.inr rfl)) pgs_nil)))) (fun _ _ _ _ _ => pts_nil) (fun _ _ _ _ _ => (pe_tupZ (pa_cons (pv 12) (pa_cons (pe_op op_sub (pv 13) pe_int) pa_nil)))))) pa_nil)) (pa_cons (pv 11) pa_nil))))) pa_nil))) pa_nil)))) pss_nil)
      (pss_cons (ps_setLc (own := [("_law_one", 12), ("_law_wait", 13)]) (i := 14) rfl sc_u_law_answers.nd rfl rfl (sw_true rfl rfl rfl (by decide +kernel)) (pi_seq (pv 8)) (blkOk_by (N := N_u_law_answers) (sc := defScope st_u_law_answers) (by decide +kernel)) (fun _ _ _ _ _ => (pg_tup rfl (pgs_cons (pg_name (i := 12) sc_u_law_answers.nd rfl (by first | exact Or.inl rfl | exact Or.inr rfl)) (pgs_cons (pg_name (i := 13) sc_u_law_answers.nd rfl (by first | exact Or.inl rfl | exact Or.inr rfl)) pgs_nil)))) (fun _ _ _ _ _ => pts_nil) (fun _ _ _ _ _ => (pv 12)))
      (pss_cons (ps_if (pt_cmpR (op_neD hr.units) (pv 14) (pe_lst pa_nil) (nomark _)) (pss_cons (ps_set (i := 15) sc_u_law_answers.nd rfl (by first | exact Or.inl rfl | exact Or.inr rfl) (pe_call (ok_u_law_cost T) (hr.mono (by decide)) rfl T.m61 T.F61.kp T.b61 .nil pass0 (pa_cons (pv 3) (pa_cons (pv 6) (pa_cons (pv 7) (pa_cons (pv 14) pa_nil))))))
      (pss_one (ps_set (i := 10) sc_u_law_answers.nd rfl (by first | exact Or.inl rfl | exact Or.inr rfl) (pe_op op_addG (pv 10) (pe_lc (own := [("_law_row", 16)]) rfl sc_u_law_answers.nd (pi_seq (pe_call (ok_u_law_later T) (hr.mono (by decide)) rfl T.m62 T.F62.kp T.b62 .nil pass0 (pa_cons (pv 6) (pa_cons (pv 7) (pa_cons (pv 14) (pa_cons (pv 4) pa_nil)))))) (blkOk_by (N := N_u_law_answers) (sc := defScope st_u_law_answers) (by decide +kernel)) (fun _ _ _ _ _ => (pg_name (i := 16) sc_u_law_answers.nd rfl (by first | exact Or.inl rfl | exact Or.inr rfl))) (fun _ _ _ _ _ => pts_nil) (fun _ _ _ _ _ => (pe_tupZ (pa_cons (pv 15) (pa_cons (pe_tupZ (pa_cons (pe_ix ix_seq (pv 16) pe_int (fun _ _ => rfl)) (pa_cons (pe_ix ix_seq (pv 16) pe_int (fun _ _ => rfl)) (pa_cons (pe_tupZ pa_nil) (pa_cons (pv 11) pa_nil))))) pa_nil))))))))) pss_nil)
      (pss_one (ps_ret (pv 10)))))))))),
    body0 (N := N_u_law_answers) (x := x_u_law_answers) (dn_seq (dn_asgP (p := (.tup (.cons (.nm 3) (.cons (.nm 4) (.cons (.nm 5) .nil))))) (den_var (i := 0)))
      (dn_seq (dn_asgP (p := (.tup (.cons (.nm 6) (.cons (.nm 7) (.cons (.nm 8) (.cons (.nm 9) .nil)))))) (den_var (i := 1)))
      (dn_seq (dn_if (den_test (den_bin od_isnot (den_var (i := 2)) den_non)) (dn_asg (den_tupL (den_FL (den_sort (den_bin od_add (den_var (i := 8)) (den_tup (den_cons (den_tup (den_cons (den_var (i := 2)) (den_cons (den_var (i := 5)) den_nil))) den_nil))))))) dn_next)
      (dn_seq (dn_asgP (p := (.tup (.cons (.nm 10) (.cons (.nm 11) .nil)))) (den_tup (den_cons (den_cell (den_lst den_nil)) (den_cons (den_if (den_test (den_bin od_gt (den_var (i := 9)) den_int)) (den_bin od_sub (den_var (i := 9)) den_int) den_int) den_nil))))
      (dn_seq (dn_if (den_and (den_test (den_bin od_gt (den_var (i := 9)) den_int)) (den_test (den_bin (od_in (neg := true)) den_int (den_ofL (den_comp (p := (.tup (.cons (.nm 12) (.cons (.nm 13) .nil)))) (vs := [12, 13]) (SrcS.x (src_seq (den_var (i := 8)))) den_yes (den_var (i := 13)) rfl))))) (dn_appC (den_var (i := 10)) (den_tup (den_cons den_int (den_cons (den_tup (den_cons (den_var (i := 6)) (den_cons (den_var (i := 7)) (den_cons (den_tupL (den_FL (den_comp (p := (.tup (.cons (.nm 12) (.cons (.nm 13) .nil)))) (vs := [12, 13]) (SrcS.x (src_seq (den_var (i := 8)))) den_yes (den_tup (den_cons (den_var (i := 12)) (den_cons (den_bin od_sub (den_var (i := 13)) den_int) den_nil))) rfl))) (den_cons (den_var (i := 11)) den_nil))))) den_nil)))) dn_next)
      (dn_seq (dn_asg (den_ofL (den_comp (p := (.tup (.cons (.nm 12) (.cons (.nm 13) .nil)))) (vs := [12, 13]) (SrcS.x (src_seq (den_var (i := 8)))) den_yes (den_var (i := 12)) rfl)))
      (dn_seq (dn_if (den_test (den_bin od_ne (den_var (i := 14)) (den_ofL (den_lst den_nil)))) (dn_seq (dn_asg (den_callP0 (den_cons (den_var (i := 3)) (den_cons (den_var (i := 6)) (den_cons (den_var (i := 7)) (den_cons (den_var (i := 14)) den_nil))))))
      (dn_asg (den_cell (den_catF (den_var (i := 10)) (den_ofL (den_comp (p := (.nm 16)) (vs := [16]) (SrcS.x (src_seq (den_callP0 (den_cons (den_var (i := 6)) (den_cons (den_var (i := 7)) (den_cons (den_var (i := 14)) (den_cons (den_var (i := 4)) den_nil))))))) den_yes (den_tup (den_cons (den_var (i := 15)) (den_cons (den_tup (den_cons (den_bin od_ix (den_var (i := 16)) den_int) (den_cons (den_bin od_ix (den_var (i := 16)) den_int) (den_cons (den_tup den_nil) (den_cons (den_var (i := 11)) den_nil))))) den_nil))) rfl)))))) dn_next)
      (dn_ret (den_var (i := 10)))))))))) h⟩
/-! law -/
abbrev N_law : List Str := ["_law_script", "_law_draws", "_law_turn", "_law_sizes_here", "_law_room_here", "_law_delay_here", "_law_archive", "_law_task", "_law_order", "_law_lengths", "_law_ticks", "_law_spot", "_law_more", "_law_due", "_law_wish", "_law_rows"]
theorem sc_law : FnScope N_law ["_law_script"] (defScope st_law) := ⟨rfl, rfl, rfl, by decide +kernel, rfl, by decide +kernel, by decide +kernel⟩
def x_law : Sf :=
  (sSeq (sAsg 0 (dSl (dVar 0) dNoPart (dPart (dC (.int 63)))))
  (sSeq (sAsg 1 (dCall m_u_law_pool 2 (dCons (dVar 0) (dCons (dTup (dCons (dC (.int 1009)) (dCons (dC (.int 1013)) (dCons (dC (.int 1000033)) dNil)))) dNil))))
  (sSeq (sFor (wRng1 (dCons (dC (.int 8)) dNil)) (.nm 2) (sSeq (sPar3 3 4 5 (dCall m_u_law_sizes 2 (dCons (dVar 1) (dCons (dC (.int 4)) dNil))) (dCall m_u_law_take 2 (dCons (dVar 1) (dCons (dC (.int 4)) dNil))) (dCall m_u_law_take 2 (dCons (dVar 1) (dCons (dC (.int 3)) dNil))))
  (sSeq (sPar 6 7 (dMake 0 mi_Archive 2 (dCons (dVar 3) dNil)) (dTup (dCons (dVar 3) (dCons (dVar 4) (dCons (dVar 5) dNil)))))
  (sSeq (sAsgP (.tup (.cons (.nm 8) (.cons (.nm 9) .nil))) (dCall m_u_law_drawn_build 3 (dCons (dVar 1) (dCons (dVar 3) (dCons (dVar 4) dNil)))))
  (sSeq (sAsg 10 (dCall m_u_law_take 2 (dCons (dVar 1) (dCons (dC (.int 5)) dNil))))
  (sSeq (sIf (eBl (dBin fNe (dCall (pur m_begin) 5 (dCons (dVar 6) (dCons (dVar 4) (dCons (dVar 5) (dCons (dTup (dCons (dVar 8) (dCons (dVar 9) dNil))) (dCons (dVar 10) dNil)))))) (dTup (dCons (dVar 8) (dCons (dVar 9) (dCons (dTup dNil) (dCons (dVar 10) dNil))))))) (sRet (dC (.bl false))) sNext)
  (sSeq (sAsg 11 (dTup (dCons (dVar 8) (dCons (dVar 9) (dCons (dTup dNil) (dCons (dVar 10) dNil))))))
  (sFor (wRng1 (dCons (dC (.int 3)) dNil)) (.nm 12) (sSeq (sAsg 13 (dCall (pur m_u_law_wishes) 1 (dCons (dVar 11) dNil)))
  (sSeq (sIf (eBl (dBin fNe (dCall (pur m_wishes) 4 (dCons (dVar 6) (dCons (dVar 4) (dCons (dVar 5) (dCons (dVar 11) dNil))))) (dVar 13))) (sRet (dC (.bl false))) sNext)
  (sSeq (sIf (eBl (dBin fEq (dVar 13) (dOfL (dLst dNil)))) sBrk sNext)
  (sSeq (sFor (wSeq (dVar 13)) (.nm 14) (sIf (eBl (dBin fNe (dCall (pur m_answers) 5 (dCons (dVar 6) (dCons (dVar 4) (dCons (dVar 5) (dCons (dVar 11) (dCons (dVar 14) dNil)))))) (dCall m_u_law_answers 3 (dCons (dVar 7) (dCons (dVar 11) (dCons (dVar 14) dNil)))))) (sRet (dC (.bl false))) sNext))
  (sSeq (sAsg 15 (dCall m_u_law_answers 3 (dCons (dVar 7) (dCons (dVar 11) (dCons (dBin fIx (dVar 13) (dCall m_u_law_take 2 (dCons (dVar 1) (dCons (dCB fLen (dCons (dVar 13) dNil)) dNil)))) dNil)))))
  (sAsg 11 (dBin fIx (dBin fIx (dVar 15) (dIf (eBl (dBin fGt (dCall m_u_law_take 2 (dCons (dVar 1) (dCons (dC (.int 3)) dNil))) (dC (.int 0)))) (dC (.int 0)) (dCall m_u_law_take 2 (dCons (dVar 1) (dCons (dCB fLen (dCons (dVar 15) dNil)) dNil))))) (dC (.int 1)))))))))))))))))
  (sRet (dC (.bl true))))))
def m_law : Mf := fnD N_law.length x_law
theorem ok_law (T : Tx c mg a d) : FnOk P w c.K mg base CX0 10 (a 65) (d 65) ["_law_script"] (sp0 c m_law 1) := by
  refine T.F65.ok sc_law (fun vs H Q E h => h.1) (fun cdv A outer s H vs Q E hr h => ?_)
  exact ⟨_, (pss_cons (ps_set (i := 0) sc_law.nd rfl (by first | exact Or.inl rfl | exact Or.inr rfl) (pe_slice sl_G (pv 0) po_none (po_some pe_int)))
      (pss_cons (ps_set (i := 1) sc_law.nd rfl (by first | exact Or.inl rfl | exact Or.inr rfl) (pe_call (ok_u_law_pool T) (hr.mono (by decide)) rfl T.m55 T.F55.kp T.b55 .nil pass0 (pa_cons (pv 0) (pa_cons (pe_tupZ (pa_cons pe_int (pa_cons pe_int (pa_cons pe_int pa_nil)))) pa_nil))))
      (pss_cons (ps_for PassesOwn.never rfl (pi_range1 rfl T.z_range (pa_cons pe_int pa_nil)) (pg_name (i := 2) sc_law.nd rfl (by first | exact Or.inl rfl | exact Or.inr rfl)) (pss_cons (ps_par3 (i := 3) (j := 4) (l := 5) rfl sc_law.nd rfl rfl rfl (by decide) (by decide) (by decide) rfl rfl rfl (pa_cons (pe_call (ok_u_law_sizes T) (hr.mono (by decide)) rfl T.m56 T.F56.kp T.b56 .nil pass0 (pa_cons (pv 1) (pa_cons pe_int pa_nil))) (pa_cons (pe_call (ok_u_law_take T) (hr.mono (by decide)) rfl T.m54 T.F54.kp T.b54 .nil pass0 (pa_cons (pv 1) (pa_cons pe_int pa_nil))) (pa_cons (pe_call (ok_u_law_take T) (hr.mono (by decide)) rfl T.m54 T.F54.kp T.b54 .nil pass0 (pa_cons (pv 1) (pa_cons pe_int pa_nil))) pa_nil))) rfl)
      (pss_cons (ps_par (i := 6) (j := 7) rfl sc_law.nd rfl rfl (by decide) rfl rfl (pa_cons (pe_make T.M0 (ok_Archive___init T) (hr.mono (by decide)) rfl T.mc0 T.b2100 .nil pass0 (pa_cons (pv 3) pa_nil)) (pa_cons (pe_tupZ (pa_cons (pv 3) (pa_cons (pv 4) (pa_cons (pv 5) pa_nil)))) pa_nil)) rfl)
      (pss_cons (ps_asg (pe_call (ok_u_law_drawn_build T) (hr.mono (by decide)) rfl T.m59 T.F59.kp T.b59 .nil pass0 (pa_cons (pv 1) (pa_cons (pv 3) (pa_cons (pv 4) pa_nil)))) (pg_tup rfl (pgs_cons (pg_name (i := 8) sc_law.nd rfl (by first | exact Or.inl rfl | exact Or.inr rfl)) (pgs_cons (pg_name (i := 9) sc_law.nd rfl (by first | exact Or.inl rfl | exact Or.inr rfl)) pgs_nil))))
      (pss_cons (ps_set (i := 10) sc_law.nd rfl (by first | exact Or.inl rfl | exact Or.inr rfl) (pe_call (ok_u_law_take T) (hr.mono (by decide)) rfl T.m54 T.F54.kp T.b54 .nil pass0 (pa_cons (pv 1) (pa_cons pe_int pa_nil))))
      (pss_cons (ps_if (pt_cmpR (op_neD hr.units) (pe_call (ok_begin T) (hr.mono (by decide)) rfl T.m49 T.F49.kp T.b49 .nil pass0 (pa_cons (pv 6) (pa_cons (pv 4) (pa_cons (pv 5) (pa_cons (pe_tupZ (pa_cons (pv 8) (pa_cons (pv 9) pa_nil))) (pa_cons (pv 10) pa_nil)))))) (pe_tupZ (pa_cons (pv 8) (pa_cons (pv 9) (pa_cons (pe_tupZ pa_nil) (pa_cons (pv 10) pa_nil))))) (nomark _)) (pss_one (ps_ret pe_bl)) pss_nil)
      (pss_cons (ps_set (i := 11) sc_law.nd rfl (by first | exact Or.inl rfl | exact Or.inr rfl) (pe_tupZ (pa_cons (pv 8) (pa_cons (pv 9) (pa_cons (pe_tupZ pa_nil) (pa_cons (pv 10) pa_nil))))))
      (pss_one (ps_for PassesOwn.never rfl (pi_range1 rfl T.z_range (pa_cons pe_int pa_nil)) (pg_name (i := 12) sc_law.nd rfl (by first | exact Or.inl rfl | exact Or.inr rfl)) (pss_cons (ps_set (i := 13) sc_law.nd rfl (by first | exact Or.inl rfl | exact Or.inr rfl) (pe_call (ok_u_law_wishes T) (hr.mono (by decide)) rfl T.m63 T.F63.kp T.b63 .nil pass0 (pa_cons (pv 11) pa_nil)))
      (pss_cons (ps_if (pt_cmpR (op_neD hr.units) (pe_call (ok_wishes T) (hr.mono (by decide)) rfl T.m46 T.F46.kp T.b46 .nil pass0 (pa_cons (pv 6) (pa_cons (pv 4) (pa_cons (pv 5) (pa_cons (pv 11) pa_nil))))) (pv 13) (nomark _)) (pss_one (ps_ret pe_bl)) pss_nil)
      (pss_cons (ps_if (pt_cmpR (op_eqD hr.units) (pv 13) (pe_lst pa_nil) (nomark _)) (pss_one ps_break) pss_nil)
      (pss_cons (ps_for PassesOwn.never rfl (pi_seq (pv 13)) (pg_name (i := 14) sc_law.nd rfl (by first | exact Or.inl rfl | exact Or.inr rfl)) (pss_one (ps_if (pt_cmpR (op_neD hr.units) (pe_call (ok_answers T) (hr.mono (by decide)) rfl T.m47 T.F47.kp T.b47 .nil pass0 (pa_cons (pv 6) (pa_cons (pv 4) (pa_cons (pv 5) (pa_cons (pv 11) (pa_cons (pv 14) pa_nil)))))) (pe_call (ok_u_law_answers T) (hr.mono (by decide)) rfl T.m64 T.F64.kp T.b64 .nil pass0 (pa_cons (pv 7) (pa_cons (pv 11) (pa_cons (pv 14) pa_nil)))) (nomark _)) (pss_one (ps_ret pe_bl)) pss_nil)))
      (pss_cons (ps_set (i := 15) sc_law.nd rfl (by first | exact Or.inl rfl | exact Or.inr rfl) (pe_call (ok_u_law_answers T) (hr.mono (by decide)) rfl T.m64 T.F64.kp T.b64 .nil pass0 (pa_cons (pv 7) (pa_cons (pv 11) (pa_cons (pe_ix ix_seq (pv 13) (pe_call (ok_u_law_take T) (hr.mono (by decide)) rfl T.m54 T.F54.kp T.b54 .nil pass0 (pa_cons (pv 1) (pa_cons (pe_callB cr_len2 rfl T.z_len mbt_len (pa_cons (pv 13) pa_nil)) pa_nil))) (fun _ _ => rfl)) pa_nil)))))
      (pss_one (ps_set (i := 11) sc_law.nd rfl (by first | exact Or.inl rfl | exact Or.inr rfl) (pe_ix ix_seq (pe_ix ix_seq (pv 15) (pe_ifExp (pt_cmpR op_gt (pe_call (ok_u_law_take T) (hr.mono (by decide)) rfl T.m54 T.F54.kp T.b54 .nil pass0 (pa_cons (pv 1) (pa_cons pe_int pa_nil))) pe_int (nomark _)) pe_int (pe_call (ok_u_law_take T) (hr.mono (by decide)) rfl T.m54 T.F54.kp T.b54 .nil pass0 (pa_cons (pv 1) (pa_cons (pe_callB cr_len2 rfl T.z_len mbt_len (pa_cons (pv 15) pa_nil)) pa_nil)))) (fun _ _ => rfl)) pe_int (fun _ _ => rfl))))))))))))))))))
      (pss_one (ps_ret pe_bl))))),
    body0 (N := N_law) (x := x_law) (dn_seq (dn_asg (den_sl (den_var (i := 0)) den_noPart (den_part den_int)))
      (dn_seq (dn_asg (den_call0 (den_cons (den_var (i := 0)) (den_cons (den_tup (den_cons den_int (den_cons den_int (den_cons den_int den_nil)))) den_nil))))
      (dn_seq (dn_for (p := (.nm 2)) (src_rng1 (den_cons den_int den_nil)) (dn_seq (dn_par3 (den_call0 (den_cons (den_var (i := 1)) (den_cons den_int den_nil))) (den_call0 (den_cons (den_var (i := 1)) (den_cons den_int den_nil))) (den_call0 (den_cons (den_var (i := 1)) (den_cons den_int den_nil))))
      (dn_seq (dn_par (den_make0 (den_cons (den_var (i := 3)) den_nil)) (den_tup (den_cons (den_var (i := 3)) (den_cons (den_var (i := 4)) (den_cons (den_var (i := 5)) den_nil)))))
      (dn_seq (dn_asgP (p := (.tup (.cons (.nm 8) (.cons (.nm 9) .nil)))) (den_call0 (den_cons (den_var (i := 1)) (den_cons (den_var (i := 3)) (den_cons (den_var (i := 4)) den_nil)))))
      (dn_seq (dn_asg (den_call0 (den_cons (den_var (i := 1)) (den_cons den_int den_nil))))
      (dn_seq (dn_if (den_test (den_bin od_ne (den_callP0 (den_cons (den_var (i := 6)) (den_cons (den_var (i := 4)) (den_cons (den_var (i := 5)) (den_cons (den_tup (den_cons (den_var (i := 8)) (den_cons (den_var (i := 9)) den_nil))) (den_cons (den_var (i := 10)) den_nil)))))) (den_tup (den_cons (den_var (i := 8)) (den_cons (den_var (i := 9)) (den_cons (den_tup den_nil) (den_cons (den_var (i := 10)) den_nil))))))) (dn_ret den_bl) dn_next)
      (dn_seq (dn_asg (den_tup (den_cons (den_var (i := 8)) (den_cons (den_var (i := 9)) (den_cons (den_tup den_nil) (den_cons (den_var (i := 10)) den_nil))))))
      (dn_for (p := (.nm 12)) (src_rng1 (den_cons den_int den_nil)) (dn_seq (dn_asg (den_callP0 (den_cons (den_var (i := 11)) den_nil)))
      (dn_seq (dn_if (den_test (den_bin od_ne (den_callP0 (den_cons (den_var (i := 6)) (den_cons (den_var (i := 4)) (den_cons (den_var (i := 5)) (den_cons (den_var (i := 11)) den_nil))))) (den_var (i := 13)))) (dn_ret den_bl) dn_next)
      (dn_seq (dn_if (den_test (den_bin od_eq (den_var (i := 13)) (den_ofL (den_lst den_nil)))) dn_brk dn_next)
      (dn_seq (dn_for (p := (.nm 14)) (src_seq (den_var (i := 13))) (dn_if (den_test (den_bin od_ne (den_callP0 (den_cons (den_var (i := 6)) (den_cons (den_var (i := 4)) (den_cons (den_var (i := 5)) (den_cons (den_var (i := 11)) (den_cons (den_var (i := 14)) den_nil)))))) (den_call0 (den_cons (den_var (i := 7)) (den_cons (den_var (i := 11)) (den_cons (den_var (i := 14)) den_nil)))))) (dn_ret den_bl) dn_next))
      (dn_seq (dn_asg (den_call0 (den_cons (den_var (i := 7)) (den_cons (den_var (i := 11)) (den_cons (den_bin od_ix (den_var (i := 13)) (den_call0 (den_cons (den_var (i := 1)) (den_cons (den_cb cd_len (den_cons (den_var (i := 13)) den_nil)) den_nil)))) den_nil)))))
      (dn_asg (den_bin od_ix (den_bin od_ix (den_var (i := 15)) (den_if (den_test (den_bin od_gt (den_call0 (den_cons (den_var (i := 1)) (den_cons den_int den_nil))) den_int)) den_int (den_call0 (den_cons (den_var (i := 1)) (den_cons (den_cb cd_len (den_cons (den_var (i := 15)) den_nil)) den_nil))))) den_int)))))))))))))))
      (dn_ret den_bl)))) h⟩
end
end MX


set_option Elab.async false
set_option linter.all false
set_option maxRecDepth 100000
namespace MX
open PySem L2
theorem draw_ok {x k many : Int} {E : Nat} (hx : x.natAbs < 2 ^ E) (hE : E ≤ 10000000) (hk : 0 ≤ k) (hk2 : k < 1000000) (hm : 0 < many) (s : Sto) : ∃ r : Int, m_u_law_draw [.int x, .int k, .int many] s = .ok (.int r) s ∧ 0 ≤ r ∧ r < many := by
  have b1 : x.natAbs.log2 + (48271 : Int).natAbs.log2 < 100000000 := by
    have := log2_lt hx
    have e : (48271 : Int).natAbs.log2 = 15 := by decide
    omega
  have b2 : k.natAbs.log2 + (69621 : Int).natAbs.log2 < 100000000 := by
    have : k.natAbs < 2 ^ 20 := by omega
    have := log2_lt this
    have e : (69621 : Int).natAbs.log2 = 16 := by decide
    omega
  obtain ⟨p, hp, hp0⟩ : ∃ p : Int, fIx (.tup [.int 1000003, .int 1000033, .int 1000037, .int 1000039, .int 1000081, .int 1000099, .int 1000117, .int 1000121, .int 1000133, .int 1000151, .int 1000159, .int 1000171, .int 1000183, .int 1000187, .int 1000193, .int 1000199]) (.int (k.fmod 16)) s = some (.int p) ∧ p ≠ 0 := by
    obtain ⟨h1, h2⟩ := fmod_range (x := k) (m := 16) (by decide)
    generalize k.fmod 16 = j at h1 h2
    have : j = 0 ∨ j = 1 ∨ j = 2 ∨ j = 3 ∨ j = 4 ∨ j = 5 ∨ j = 6 ∨ j = 7 ∨ j = 8 ∨ j = 9 ∨ j = 10 ∨ j = 11 ∨ j = 12 ∨ j = 13 ∨ j = 14 ∨ j = 15 := by omega
    rcases this with rfl | rfl | rfl | rfl | rfl | rfl | rfl | rfl | rfl | rfl | rfl | rfl | rfl | rfl | rfl | rfl <;> exact ⟨_, rfl, by decide⟩
  refine ⟨(((x * 48271 + k * 69621).fmod p).fmod many), ?_, fmod_range hm⟩
  have hm0 : many ≠ 0 := by omega
  unfold m_u_law_draw
  refine fn_ret ?_
  unfold x_u_law_draw
  refine seq_ok (asg_ok (d := .tup [.int 1000003, .int 1000033, .int 1000037, .int 1000039, .int 1000081, .int 1000099, .int 1000117, .int 1000121, .int 1000133, .int 1000151, .int 1000159, .int 1000171, .int 1000183, .int 1000187, .int 1000193, .int 1000199]) (s1 := s) rfl) ?_
  refine ret_ok (bin_ok (bin_ok (cb_ok (cons_ok (bin_ok (bin_ok (var_ok rfl) rfl (fmul_ok b1)) (bin_ok (var_ok rfl) rfl (fmul_ok b2)) rfl) nil_ok) rfl) (bin_ok (var_ok rfl) (bin_ok (var_ok rfl) rfl (fmod_ok (by decide))) hp) (fmod_ok hp0)) (var_ok rfl) (fmod_ok hm0))
end MX


set_option Elab.async false
set_option linter.all false
set_option maxRecDepth 100000
namespace MX
open PySem L2
theorem sum_bound {B : Nat} : ∀ (zs : List Int), (∀ z ∈ zs, z.natAbs < B) → zs.sum.natAbs ≤ zs.length * B
  | [], _ => by simp
  | z :: zs, h => by
    have h1 := h z List.mem_cons_self
    have h2 := sum_bound zs fun y m => h y (List.mem_cons_of_mem _ m)
    rw [List.sum_cons, List.length_cons, Nat.add_mul, Nat.one_mul]
    have := Int.natAbs_add_le z zs.sum
    omega
theorem intsD_mapM (zs : List Int) : intsD (zs.map D.int) = some zs := intsD_map zs
theorem ix_int {zs : List Int} {k : Nat} {s : Sto} (h : k < zs.length) (hk : k < 1000000) : fIx (.lst (zs.map D.int)) (.int (k : Nat)) s = some (.int zs[k]) := by
  show atI (zs.map D.int) ((k : Nat) : Int) = _
  exact atI_nat (by rw [List.getElem?_map, List.getElem?_eq_getElem h]; rfl)
theorem cell_at_ok {zs : List Int} {k E : Nat} (hz : ∀ z ∈ zs, z.natAbs < 2 ^ E) (hl : zs.length ≤ 63) (hE : E ≤ 9000000) (hE1 : 20 ≤ E) (hk : k < 100) (s : Sto) :
    ∃ c : Int, m_u_law_cell_at [.lst (zs.map D.int), .int (k : Nat)] s = .ok (.int c) s ∧ 0 ≤ c ∧ c.natAbs < 2 ^ E := by
  have len : ∀ s, dCB fLen (dCons (dVar 0) dNil) (startR N_u_law_cell_at.length [.lst (zs.map D.int), .int (k : Nat)]) s = .ok (.int (zs.length : Nat)) s := by
    intro s
    refine cb_ok (cons_ok (var_ok rfl) nil_ok) ?_
    show some (D.int ((zs.map D.int).length : Nat)) = _
    rw [List.length_map]
  unfold m_u_law_cell_at
  by_cases q : k < zs.length
  · refine ⟨if zs[k] < 0 then -zs[k] else zs[k], ?_, ?_, ?_⟩
    · refine fn_ret ?_
      unfold x_u_law_cell_at
      refine seq_out (sif_yes (bl_ok (bin_ok (var_ok rfl) (len s) (by show some (D.bl (decide ((k : Int) < (zs.length : Nat)))) = some (.bl true); rw [decide_eq_true (by omega)]))) ?_) (fun _ _ z => by cases z)
      exact ret_ok (cb_ok (cons_ok (bin_ok (var_ok rfl) (var_ok rfl) (ix_int q (by omega))) nil_ok) rfl)
    · split <;> omega
    · have := hz zs[k] (List.getElem_mem q)
      split
      · rw [Int.natAbs_neg]; exact this
      · exact this
  · have hs := sum_bound zs hz
    have e63 : zs.length * 2 ^ E ≤ 63 * 2 ^ E := Nat.mul_le_mul_right _ hl
    have e64 : 2 ^ (E + 7) = 128 * 2 ^ E := by rw [Nat.pow_add, Nat.mul_comm]
    have e20 : 2 ^ 20 ≤ 2 ^ E := Nat.pow_le_pow_right (by decide) hE1
    obtain ⟨r, h1, h2, h3⟩ := draw_ok (x := (if zs.sum < 0 then -zs.sum else zs.sum) + 7919 * (k : Nat)) (k := (k : Nat)) (many := 999983) (E := E + 7) (by rw [e64]; split <;> omega) (by omega) (by omega) (by omega) (by decide) []
    refine ⟨r, ?_, h2, by omega⟩
    refine fn_ret ?_
    unfold x_u_law_cell_at
    refine seq_ok (sif_no (bl_ok (bin_ok (var_ok rfl) (len s) (by show some (D.bl (decide ((k : Int) < (zs.length : Nat)))) = some (.bl false); rw [decide_eq_false (by omega)]))) rfl) ?_
    refine ret_ok (call_ok (cons_ok (bin_ok (a := .int (if zs.sum < 0 then -zs.sum else zs.sum)) (cb_ok (cons_ok (cb_ok (d := .int zs.sum) (cons_ok (var_ok rfl) nil_ok) ?_) nil_ok) rfl) (bin_ok rfl (var_ok rfl) (fmul_ok ?_)) rfl) (cons_ok (var_ok rfl) (cons_ok rfl nil_ok))) rfl (pur_ok rfl h1))
    · show (match intsD (zs.map D.int) with | some ns => some (D.int ns.sum) | none => none) = _
      rw [intsD_mapM]
    · have : ((k : Nat) : Int).natAbs < 2 ^ 20 := by omega
      have := log2_lt this
      have e : (7919 : Int).natAbs.log2 = 12 := by decide
      omega
end MX


set_option Elab.async false
set_option linter.all false
set_option maxRecDepth 100000
namespace MX
open PySem L2
/-- a list of ints as data -/
abbrev iL (zs : List Int) : List D := zs.map D.int
theorem noCs_iL : ∀ zs : List Int, noCs (iL zs) = true
  | [] => rfl
  | z :: zs => by show (noC (.int z) && noCs (iL zs)) = true; rw [noCs_iL zs]; rfl
theorem range_get {lo : Int} {n i : Nat} {d : D} (h : (rangeD lo n)[i]? = some d) : i < n ∧ d = .int (lo + (i : Int)) := by
  have hi : i < n := by have := get_lt h; rw [range_len] at this; exact this
  refine ⟨hi, ?_⟩
  unfold rangeD at h
  rw [List.getElem?_map, List.getElem?_range hi] at h
  exact (Option.some.inj h).symm
theorem digits_wp {zs : List Int} {k E : Nat} {base : Int} {s : Sto} (hz : ∀ z ∈ zs, z.natAbs < 2 ^ E) (hl : zs.length ≤ 63) (hE : E ≤ 4000000) (hE1 : 64 ≤ E) (hk : k < 100) (hb : 0 < base) (hb2 : base < 1073741824) :
    Wp (m_u_law_digits [.lst (iL zs), .int (k : Nat), .int 150, .int base] s) fun d s1 => s1 = s ∧ ∃ fs : List Int, d = .lst (iL fs) ∧ fs.length = 150 := by
  obtain ⟨cc, c1, c2, c3⟩ := cell_at_ok (k := k) hz hl (by omega) (by omega) hk []
  have hb0 : base ≠ 0 := by omega
  have e64 : (2 : Nat) ^ 64 ≤ 2 ^ E := Nat.pow_le_pow_right (by decide) hE1
  have t64 : (2 : Nat) ^ 64 = 18446744073709551616 := by decide
  have eE : 2 ^ (E + 1) = 2 * 2 ^ E := by rw [Nat.pow_succ, Nat.mul_comm]
  have big : ∀ x : Int, x.natAbs ≤ cc.natAbs + 10000000 → x.natAbs < 2 ^ (E + 1) := by
    intro x hx
    rw [eE]
    omega
  have lg : ∀ x : Int, x.natAbs ≤ cc.natAbs + 10000000 → x.natAbs.log2 ≤ E + 1 := fun x hx => log2_lt (big x hx)
  have smallLog : ∀ x : Int, x.natAbs < 1048576 * 1024 → x.natAbs.log2 ≤ 30 := fun x hx => log2_lt (by omega)
  have mulBig : ∀ x y : Int, x.natAbs ≤ cc.natAbs + 10000000 → y.natAbs ≤ cc.natAbs + 10000000 → (x * y).natAbs < 2 ^ (2 * E + 2) := by
    intro x y hx hy
    rw [Int.natAbs_mul]
    have e2 : 2 ^ (2 * E + 2) = 2 ^ (E + 1) * 2 ^ (E + 1) := by rw [← Nat.pow_add]; congr 1; omega
    rw [e2]
    exact Nat.mul_lt_mul'' (big x hx) (big y hy)
  have up : 2 ^ (2 * E + 3) = 2 * 2 ^ (2 * E + 2) := by rw [Nat.pow_succ, Nat.mul_comm]
  have big2 : 2 ^ 64 ≤ 2 ^ (2 * E + 2) := Nat.pow_le_pow_right (by decide) (by omega)
  unfold m_u_law_digits
  refine wp_fn ?_
  unfold x_u_law_digits
  refine ws_seq (ws_parO (wp_call (wp_cons (wp_var rfl (wp_cons (wp_var rfl (wp_nil ⟨rfl, wp_pur ?_ (Wp.of c1 ⟨rfl, wp_lst (wp_nil ⟨rfl, ?_⟩)⟩)⟩)))))))
  · show (noC (.lst (iL zs)) && (noC (.int (k : Nat)) && true)) = true
    have : noC (.lst (iL zs)) = true := noCs_iL zs
    rw [this]; rfl
  refine ws_seq (ws_asg (wp_bin (wp_var rfl (wp_bin (wp_c (wp_c ⟨_, rfl, ⟨_, rfl, ?_⟩⟩))))))
  refine ws_seq (ws_for (fun n ρ s1 => s1 = s ∧ ∃ (fs : List Int) (rem : Int) (x7 x8 x9 : Sl), fs.length = n ∧
    ρ = [.val (.lst (iL zs)), .val (.int (k : Nat)), .val (.int 150), .val (.int base), .val (.int cc), .own (iL fs), .val (.int rem), x7, x8, x9]) (wp_rng1 (wp_cons (wp_var rfl (wp_nil ⟨150, rfl, by decide, ?_, ?_, ?_⟩)))))
  · exact ⟨rfl, [], _, _, _, _, rfl, rfl⟩
  · rintro i d r t hd ⟨rfl, fs, rem, x7, x8, x9, hf, rfl⟩
    obtain ⟨hi, rfl⟩ := range_get hd
    have hi : i < 150 := hi
    refine ⟨_, rfl, ?_⟩
    have sm : small (iL fs).length = true := decide_eq_true (by rw [List.length_map]; omega)
    refine ws_if (wp_bl (wp_bin (wp_var rfl (wp_c ⟨_, rfl, ⟨_, rfl, ?_, ?_⟩⟩))))
    · intro _
      refine ws_seq (ws_app rfl sm (wp_bin (wp_cb (wp_cons (wp_var rfl (wp_nil ⟨_, rfl, wp_var rfl ⟨_, fmod_ok hb0, ?_⟩⟩)))))) 
      refine ws_asg (wp_bin (wp_var rfl (wp_var rfl ⟨_, fdiv_ok hb0 (by omega), ?_⟩)))
      exact ⟨rfl, fs ++ [rem.fmod base], rem.fdiv base, .val (.int (0 + (i : Int))), x8, x9, by rw [List.length_append, hf]; rfl, by simp⟩
    · intro _
      have li : (i : Int).natAbs.log2 ≤ 30 := smallLog _ (by omega)
      have l977 : (977 : Int).natAbs.log2 ≤ 30 := smallLog _ (by decide)
      have l31 : (31 : Int).natAbs.log2 ≤ 30 := smallLog _ (by decide)
      have h0i : (0 : Int) + (i : Int) = (i : Int) := by omega
      rw [h0i]
      obtain ⟨m1, m2⟩ := fmod_range (x := (i : Int)) (m := 9) (by decide)
      obtain ⟨m3, m4⟩ := fmod_range (x := (i : Int)) (m := 7) (by decide)
      obtain ⟨r1, d1, d2, d3⟩ := draw_ok (x := (cc + 977 * (i : Int)) * (cc + 31 * (i : Int) + 5)) (k := (i : Int).fmod 9 + 1) (many := 999983) (E := 2 * E + 2) (mulBig _ _ (by omega) (by omega)) (by omega) (by omega) (by omega) (by decide) []
      obtain ⟨r2, d4, d5, d6⟩ := draw_ok (x := (cc + 31 * (i : Int)) * (cc + 7) + 977 * (i : Int)) (k := (i : Int).fmod 7 + 2) (many := 1000003) (E := 2 * E + 3) (by
        have := mulBig (cc + 31 * (i : Int)) (cc + 7) (by omega) (by omega)
        rw [up]
        generalize (cc + 31 * (i : Int)) * (cc + 7) = q at this
        omega) (by omega) (by omega) (by omega) (by decide) []
      refine ws_seq (ws_asg (Wp.of (call_ok (cons_ok (bin_ok (bin_ok (var_ok rfl) (bin_ok rfl (var_ok rfl) (fmul_ok (by omega))) rfl) (bin_ok (bin_ok (var_ok rfl) (bin_ok rfl (var_ok rfl) (fmul_ok (by omega))) rfl) rfl rfl) (fmul_ok ?_)) (cons_ok (bin_ok (bin_ok (var_ok rfl) rfl (fmod_ok (by decide))) rfl rfl) (cons_ok rfl nil_ok))) rfl (pur_ok rfl d1)) ?_))
      · have := lg (cc + 977 * (i : Int)) (by omega)
        have := lg (cc + 31 * (i : Int) + 5) (by omega)
        omega
      refine ws_seq (ws_asg (Wp.of (call_ok (cons_ok (bin_ok (bin_ok (bin_ok (var_ok rfl) (bin_ok rfl (var_ok rfl) (fmul_ok (by omega))) rfl) (bin_ok (var_ok rfl) rfl rfl) (fmul_ok ?_)) (bin_ok rfl (var_ok rfl) (fmul_ok (by omega))) rfl) (cons_ok (bin_ok (bin_ok (var_ok rfl) rfl (fmod_ok (by decide))) rfl rfl) (cons_ok rfl nil_ok))) rfl (pur_ok rfl d4)) ?_))
      · have := lg (cc + 31 * (i : Int)) (by omega)
        have := lg (cc + 7) (by omega)
        omega
      refine ws_app rfl sm (Wp.of (bin_ok (cb_ok (cons_ok (bin_ok (bin_ok (var_ok rfl) rfl (fmul_ok ?_)) (var_ok rfl) rfl) nil_ok) rfl) (var_ok rfl) (fmod_ok hb0)) ?_)
      · have := smallLog r1 (by omega)
        have := smallLog (1000003 : Int) (by decide)
        omega
      exact ⟨rfl, fs ++ [(r1 * 1000003 + r2).fmod base], rem, .val (.int (i : Int)), .val (.int r1), .val (.int r2), by rw [List.length_append, hf]; rfl, by simp⟩
  · rintro r t ⟨rfl, fs, rem, x7, x8, x9, hf, rfl⟩
    dsimp only
    exact ws_retOwn rfl ⟨rfl, fs, rfl, by rw [hf, range_len]; rfl⟩
end MX


set_option Elab.async false
set_option linter.all false
set_option maxRecDepth 100000
namespace MX
open PySem L2
theorem pool_wp {zs : List Int} {E : Nat} {bases : List Int} {s : Sto} (hz : ∀ z ∈ zs, z.natAbs < 2 ^ E) (hl : zs.length ≤ 63) (hE : E ≤ 4000000) (hE1 : 64 ≤ E) (hb : ∀ b ∈ bases, 0 < b ∧ b < 1073741824) (hbl : bases.length ≤ 50) :
    Wp (m_u_law_pool [.lst (iL zs), .tup (iL bases)] s) fun d s1 => ∃ j fs, d = .cell j ∧ s1[j]? = some (iL fs) := by
  unfold m_u_law_pool
  refine wp_fn ?_
  unfold x_u_law_pool
  refine ws_seq (ws_asg (wp_cell (wp_lst (wp_nil ⟨rfl, ?_⟩))))
  refine ws_seq (ws_for (fun n ρ s1 => ∃ (j : Nat) (fs : List Int) (x3 x4 : Sl), fs.length = 150 * n ∧ s1[j]? = some (iL fs) ∧ ρ = [.val (.lst (iL zs)), .val (.tup (iL bases)), .val (.cell j), x3, x4]) ?_)
  have w : wEnT (dCons (dVar 1) dNil) ((startR N_u_law_pool.length [.lst (iL zs), .tup (iL bases)]).set 2 (.val (.cell s.length))) (s ++ [[]]) = .ok (enumD 0 (iL bases)) (s ++ [[]]) := rfl
  refine Wp.of w ⟨?_, ?_, ?_⟩
  · exact ⟨s.length, [], .none, .none, rfl, by simp, rfl⟩
  · rintro i d r t hd ⟨j, fs, x3, x4, hf, hs, rfl⟩
    obtain ⟨e, he, rfl⟩ := enumD_get hd
    rw [List.getElem?_map] at he
    obtain ⟨b, hb1, rfl⟩ := Option.map_eq_some_iff.mp he
    have hi : i < bases.length := get_lt hb1
    obtain ⟨b0, b1⟩ := hb b (List.mem_of_getElem? hb1)
    refine ⟨_, rfl, ?_⟩
    refine ws_asg (wp_cell ?_)
    unfold dCatF
    refine wp_bind (wp_var rfl ?_)
    refine wp_bind ?_
    have dg := digits_wp (k := i) (base := b) (s := []) hz hl hE hE1 (by omega) b0 b1
    obtain ⟨dd, s2, e1, rfl, gs, rfl, hg⟩ := dg.ex
    have c0 : (0 : Int) + ((i : Nat) : Int) = ((i : Nat) : Int) := by omega
    have nc : noCs [.lst (iL zs), .int ((i : Nat) : Int), .int 150, .int b] = true := by
      show (noC (.lst (iL zs)) && true) = true
      have : noC (.lst (iL zs)) = true := noCs_iL zs
      rw [this]; rfl
    have e0 : (0 + i : Nat) = i := by omega
    rw [e0]
    refine Wp.of (call_ok (cons_ok (var_ok rfl) (cons_ok (var_ok rfl) (cons_ok rfl (cons_ok (var_ok rfl) nil_ok)))) rfl (pur_ok nc e1)) ?_
    show Wp (match t[j]? with | some xs => if small (xs.length + (iL gs).length) = true then Res.ok (xs ++ iL gs) t else .bad | none => .bad) _
    rw [hs]
    show Wp (if small ((iL fs).length + (iL gs).length) = true then Res.ok (iL fs ++ iL gs) t else .bad) _
    rw [if_pos (show small ((iL fs).length + (iL gs).length) = true from decide_eq_true (by rw [List.length_map, List.length_map]; omega))]
    exact ⟨t.length, fs ++ gs, _, _, by rw [List.length_append]; omega, by simp, rfl⟩
  · rintro r t ⟨j, fs, x3, x4, hf, hs, rfl⟩
    dsimp only
    exact ws_ret (wp_var rfl ⟨j, fs, rfl, hs⟩)
end MX


set_option Elab.async false
set_option linter.all false
set_option maxRecDepth 100000
namespace MX
open PySem L2
theorem toPs_ints : ∀ zs : List Int, toPs (iL zs) = some (zs.map PyData.int)
  | [] => rfl
  | z :: zs => by
    show (match toP0 (.int z) with | some p => (match toPs (iL zs) with | some ps => some (p :: ps) | none => none) | none => none) = _
    rw [toPs_ints zs]; rfl
theorem canLay_ints : ∀ zs : List Int, PyData.canLayAll0 (zs.map PyData.int) = true
  | [] => by simp [PyData.canLayAll0]
  | z :: zs => by simp [PyData.canLayAll0, PyData.canLay0]; exact canLay_ints zs
theorem depth_ints : ∀ zs : List Int, PyData.depthAll (zs.map PyData.int) = 0
  | [] => by simp [PyData.depthAll]
  | z :: zs => by simp [PyData.depthAll, PyData.depth]; exact depth_ints zs
theorem shaped_list (zs : List Int) : SeqAt.shaped (.list (zs.map PyData.int)) = true := by
  unfold SeqAt.shaped
  simp [PyData.canLay0, canLay_ints, PyData.depth, depth_ints]
theorem shaped_tuple (zs : List Int) : SeqAt.shaped (.tuple (zs.map PyData.int)) = true := by
  unfold SeqAt.shaped
  simp [PyData.canLay0, canLay_ints, PyData.depth, depth_ints]
/-- the draws stand in cell j -/
def Dr (j : Nat) (s : Sto) : Prop := ∃ zs : List Int, s[j]? = some (iL zs)
theorem ne_nil {j : Nat} {s : Sto} {zs : List Int} (h : s[j]? = some (iL zs)) : fNe (.cell j) (.lst []) s = some (.bl (!zs.isEmpty)) := by
  have e1 : toP s (.cell j) = some (.list (zs.map PyData.int)) := by
    show (match s[j]? with | some ds => (match toPs ds with | some ps => some (PyData.list ps) | none => none) | none => none) = _
    rw [h]
    show (match toPs (iL zs) with | some ps => some (PyData.list ps) | none => none) = _
    rw [toPs_ints]
  have e2 : toP s (.lst []) = some (.list []) := rfl
  have e3 : eqP s (.cell j) (.lst []) = some zs.isEmpty := by
    show (match toP s (.cell j), toP s (.lst []) with | some p, some q => if (SeqAt.shaped p && SeqAt.shaped q) = true then some (PyData.eqv p q) else none | _, _ => none) = _
    rw [e1, e2]
    show (if (SeqAt.shaped (.list (zs.map PyData.int)) && SeqAt.shaped (.list [])) = true then some (PyData.eqv (.list (zs.map PyData.int)) (.list [])) else none) = _
    have e4 : SeqAt.shaped (.list []) = true := shaped_list []
    rw [shaped_list, e4]
    cases zs <;> simp [PyData.eqv, PyData.eqvAll]
  show (match eqP s (.cell j) (.lst []) with | some k => some (D.bl (!k)) | none => none) = _
  rw [e3]
theorem take_wp {j : Nat} {m : Int} {s : Sto} (h : Dr j s) (hm : 0 < m) : Wp (m_u_law_take [.cell j, .int m] s) fun d s1 => Dr j s1 ∧ (∀ i, i ≠ j → s1[i]? = s[i]?) ∧ ∃ r, d = .int r ∧ 0 ≤ r ∧ r < m := by
  obtain ⟨zs, hz⟩ := h
  have hm0 : m ≠ 0 := by omega
  unfold m_u_law_take
  refine wp_fn ?_
  unfold x_u_law_take
  refine ws_ret (wp_if (wp_bl (wp_bin (wp_var rfl (wp_ofL (wp_lst (wp_nil ⟨rfl, _, ne_nil hz, _, rfl, ?_, ?_⟩)))))))
  · intro hne
    cases zs with
    | nil => cases hne
    | cons z zs =>
      refine wp_bin (wp_cb (wp_cons ?_))
      unfold dPopAt
      refine wp_bind (wp_var rfl ?_)
      refine wp_bind (wp_c ?_)
      show Wp (match s[j]? with | some ds => _ | none => _) _
      rw [hz]
      have ei : seqIndex? 0 (iL (z :: zs)).length = some 0 := by
        unfold seqIndex?
        simp
        try omega
      show Wp (if inB 0 = true then (match seqIndex? 0 (iL (z :: zs)).length with | some n => (match (iL (z :: zs))[n]? with | some d => Res.ok d (s.set j ((iL (z :: zs)).eraseIdx n)) | none => .bad) | none => .bad) else .bad) _
      rw [if_pos (show inB 0 = true from by decide), ei]
      refine Wp.of (a := D.int z) (s := s.set j (iL zs)) rfl ?_
      refine wp_nil ⟨_, rfl, wp_var rfl ⟨_, fmod_ok hm0, ⟨zs, ?_⟩, (fun i hi => List.getElem?_set_ne (Ne.symm hi)), _, rfl, fmod_range hm⟩⟩
      have := get_lt hz
      rw [List.getElem?_set_self this]
  · intro hne
    exact wp_c ⟨⟨zs, hz⟩, (fun _ _ => rfl), 0, rfl, by omega, hm⟩
end MX


set_option Elab.async false
set_option linter.all false
set_option maxRecDepth 100000
namespace MX
open PySem L2
theorem ints_of {P : Int → Prop} : ∀ {r : List D}, (∀ y ∈ r, ∃ z, y = D.int z ∧ P z) → ∃ zs, r = iL zs ∧ (∀ z ∈ zs, P z) ∧ zs.length = r.length
  | [], _ => ⟨[], rfl, (fun z m => by cases m), rfl⟩
  | y :: r, h => by
    obtain ⟨z, rfl, hz⟩ := h y List.mem_cons_self
    obtain ⟨zs, rfl, h1, h2⟩ := ints_of (r := r) fun y m => h y (List.mem_cons_of_mem _ m)
    refine ⟨z :: zs, rfl, ?_, by simp⟩
    intro w m
    rcases List.mem_cons.mp m with rfl | m
    · exact hz
    · exact h1 w m
theorem sizes_wp {j : Nat} {s : Sto} (h : Dr j s) : Wp (m_u_law_sizes [.cell j, .int 4] s) fun d s1 => Dr j s1 ∧ ∃ zs, d = .tup (iL zs) ∧ 1 ≤ zs.length ∧ zs.length ≤ 4 ∧ ∀ z ∈ zs, 1 ≤ z ∧ z ≤ 4 := by
  unfold m_u_law_sizes
  refine wp_fn ?_
  unfold x_u_law_sizes
  refine ws_ret (wp_tupL (wp_comp (wp_rng1 (wp_cons (wp_bin (wp_c (wp_call (wp_cons (wp_var rfl (wp_cons (wp_var rfl (wp_nil ⟨rfl, ?_⟩)))))))))))) 
  refine (take_wp h (by decide)).mono ?_
  rintro d s1 ⟨h1, _, r, rfl, r0, r4⟩
  refine ⟨_, rfl, wp_nil ⟨1 + r, rfl, ⟨by omega, by omega⟩, ?_, ?_⟩⟩
  · rw [range_len]; exact decide_eq_true (by omega)
  have step := wp_compAll (p := .nm 2) (e := dBin fAdd (dC (.int 1)) (dCall m_u_law_take 2 (dCons (dVar 0) (dCons (dC (.int 4)) dNil)))) (ρ := wipeR (startR N_u_law_sizes.length [.cell j, .int 4]) [2]) (Dr j) (fun _ => True) (fun y => ∃ z, y = D.int z ∧ 1 ≤ z ∧ z ≤ 4) ?_ (rangeD 0 (1 + r).toNat) s1 (fun _ _ => trivial) h1
  · refine step.mono ?_
    rintro rs s2 ⟨g1, g2, g3⟩
    obtain ⟨zs, rfl, z1, z2⟩ := ints_of g2
    rw [range_len] at g3
    exact ⟨g1, zs, rfl, by omega, by omega, z1⟩
  · intro t d hd _
    refine ⟨_, rfl, wp_bin (wp_c (wp_call (wp_cons (wp_var rfl (wp_cons (wp_c (wp_nil ⟨rfl, ?_⟩)))))))⟩
    refine (take_wp hd (by decide)).mono ?_
    rintro d2 s2 ⟨h2, _, r2, rfl, r20, r24⟩
    exact ⟨_, rfl, ⟨_, rfl, by omega, by omega⟩, h2⟩
end MX


set_option Elab.async false
set_option linter.all false
set_option maxRecDepth 100000
namespace MX
open PySem L2
theorem map_erase {α β : Type} (f : α → β) : ∀ (l : List α) (k : Nat), (l.map f).eraseIdx k = (l.eraseIdx k).map f
  | [], k => by simp
  | a :: l, 0 => by simp
  | a :: l, k + 1 => by simp [map_erase f l k]
theorem perm_erase {α : Type} : ∀ (l : List α) (k : Nat) (h : k < l.length), (l[k] :: l.eraseIdx k).Perm l
  | [], k, h => by simp at h
  | a :: l, 0, _ => by simp
  | a :: l, k + 1, h => by
    have h' : k < l.length := by simpa using h
    have ih := perm_erase l k h'
    show (l[k] :: a :: l.eraseIdx k).Perm (a :: l)
    exact (List.Perm.swap a l[k] (l.eraseIdx k)).trans (ih.cons a)
theorem wp_popAt {ρ : List Sl} {s : Sto} {ea ei : Fn D} {V : D → Sto → Prop} (h : Wp (ea ρ s) fun a s1 => ∃ q, a = .cell q ∧ Wp (ei ρ s1) fun b s2 => ∃ (r : Int) (ps : List Int), b = .int r ∧ s2[q]? = some (iL ps) ∧ 0 ≤ r ∧ (∃ hr : r.toNat < ps.length, ps.length ≤ 1000 ∧ V (.int ps[r.toNat]) (s2.set q (iL (ps.eraseIdx r.toNat))))) :
    Wp (dPopAt ea ei ρ s) V := by
  unfold dPopAt
  refine wp_bind (h.mono fun a s1 h => ?_)
  obtain ⟨q, rfl, h⟩ := h
  refine wp_bind (h.mono fun b s2 h => ?_)
  obtain ⟨r, ps, rfl, hq, r0, hr, hl, hv⟩ := h
  have ei : seqIndex? r (iL ps).length = some r.toNat := by
    unfold seqIndex?
    rw [List.length_map]
    have : ¬ r < 0 := by omega
    simp only [this, if_false]
    have g : (decide (0 ≤ r) && decide (r < (ps.length : Int))) = true := by
      rw [Bool.and_eq_true]
      exact ⟨decide_eq_true r0, decide_eq_true (by omega)⟩
    rw [if_pos g]
  show Wp (match s2[q]? with | some ds => _ | none => _) V
  rw [hq]
  show Wp (if inB r = true then (match seqIndex? r (iL ps).length with | some n => (match (iL ps)[n]? with | some d => Res.ok d (s2.set q ((iL ps).eraseIdx n)) | none => .bad) | none => .bad) else .bad) V
  rw [if_pos (show inB r = true from decide_eq_true (by omega)), ei]
  have g : (iL ps)[r.toNat]? = some (.int ps[r.toNat]) := by rw [List.getElem?_map, List.getElem?_eq_getElem hr]; rfl
  show Wp (match (iL ps)[r.toNat]? with | some d => Res.ok d (s2.set q ((iL ps).eraseIdx r.toNat)) | none => .bad) V
  rw [g]
  have e2 : (iL ps).eraseIdx r.toNat = iL (ps.eraseIdx r.toNat) := map_erase ..
  show V _ _
  rw [e2]
  exact hv
theorem wp_lenC {ρ : List Sl} {s : Sto} {er : Fn (List D)} {V : D → Sto → Prop} {q : Nat} {ps : List Int} (h : Wp (er ρ s) fun ds s1 => ds = [.cell q] ∧ s1[q]? = some (iL ps) ∧ V (.int ps.length) s1) : Wp (dCB fLen er ρ s) V := by
  refine wp_cb (h.mono fun ds s1 h => ?_)
  obtain ⟨rfl, hq, hv⟩ := h
  refine ⟨_, ?_, hv⟩
  show (s1[q]?).map (fun ds : List D => D.int ds.length) = _
  rw [hq]
  show some (D.int (iL ps).length) = _
  rw [List.length_map]
/-- a build that is drawn -/
structure Good (n : Nat) (room : Int) (order kept : List Int) : Prop where
  nd : order.Nodup
  inn : ∀ x ∈ order, 0 ≤ x ∧ x < n
  asc : kept.Pairwise (· < ·)
  ink : ∀ x ∈ kept, 1 ≤ x ∧ x < order.length
  few : kept.length ≤ room.toNat
  len : order.length ≤ n
theorem drawn_wp {j n : Nat} {s : Sto} {zs : List Int} {room : Int} (h : Dr j s) (hn : zs.length = n) (hn4 : n ≤ 4) (hr : 0 ≤ room) :
    Wp (m_u_law_drawn_build [.cell j, .tup (iL zs), .int room] s) fun d s1 => Dr j s1 ∧ ∃ order kept, d = .tup [.tup (iL order), .tup (iL kept)] ∧ Good n room order kept := by
  unfold m_u_law_drawn_build
  refine wp_fn ?_
  unfold x_u_law_drawn_build
  have e0 : rangeD 0 n = iL ((List.range n).map fun (i : Nat) => (i : Int)) := by
    unfold rangeD iL
    rw [List.map_map]
    congr 1
    funext i
    simp
  have hlen : ∀ s, dCB fLen (dCons (dVar 1) dNil) (startR N_u_law_drawn_build.length [.cell j, .tup (iL zs), .int room]) s = .ok (.int n) s := by
    intro s
    refine cb_ok (cons_ok (var_ok rfl) nil_ok) ?_
    show some (D.int (iL zs).length) = _
    rw [List.length_map, hn]
  have hrg : Wp (dListRg (dRg1 (dCB fLen (dCons (dVar 1) dNil))) (startR N_u_law_drawn_build.length [.cell j, .tup (iL zs), .int room]) s) fun ds s1 => ds = rangeD 0 n ∧ s1 = s := by
    unfold dListRg dRg1
    refine wp_bind (wp_bind (Wp.of (hlen s) ?_))
    show Wp (if rgOk 0 n = true then Res.ok (rangeD 0 ((n : Int) - 0).toNat) s else .bad) _
    have : rgOk 0 (n : Int) = true := by
      unfold rgOk inB
      rw [Bool.and_eq_true]
      exact ⟨by decide, decide_eq_true (by omega)⟩
    rw [if_pos this]
    exact ⟨rfl, rfl⟩
  refine ws_seq (ws_parO (wp_cell (hrg.mono ?_)))
  rintro ds s1 ⟨rfl, rfl⟩
  refine wp_lst (wp_nil ⟨rfl, ?_⟩)
  have hj : j < s1.length := by obtain ⟨zs, e⟩ := h; exact get_lt e
  have hD : Dr j (s1 ++ [rangeD 0 n]) := by
    obtain ⟨zs, e⟩ := h
    exact ⟨zs, by rw [List.getElem?_append_left hj]; exact e⟩
  have hq : (s1 ++ [rangeD 0 n])[s1.length]? = some (iL ((List.range n).map fun (i : Nat) => (i : Int))) := by rw [← e0]; simp
  have hne : s1.length ≠ j := by omega
  generalize s1.length = q at hq hne
  generalize (s1 ++ [rangeD 0 n]) = s0 at hq hD
  refine ws_seq (ws_for (fun i ρ s => ∃ (ps order : List Int) (x5 x6 : Sl), Dr j s ∧ s[q]? = some (iL ps) ∧ (ps.length + i = n ∧ order.length ≤ i) ∧ (ps ++ order).Nodup ∧ (∀ x ∈ ps ++ order, 0 ≤ x ∧ x < n) ∧
    ρ = [.val (.cell j), .val (.tup (iL zs)), .val (.int room), .val (.cell q), .own (iL order), x5, x6, .none, .none]) (wp_rng1 (wp_cons ?_)))
  have hlen2 : dCB fLen (dCons (dVar 1) dNil) (((startR N_u_law_drawn_build.length [.cell j, .tup (iL zs), .int room]).set 3 (.val (.cell q))).set 4 (.own [])) s0 = .ok (.int n) s0 := by
    refine cb_ok (cons_ok (var_ok rfl) nil_ok) ?_
    show some (D.int (iL zs).length) = _
    rw [List.length_map, hn]
  refine Wp.of hlen2 (wp_nil ⟨_, rfl, by omega, ?_, ?_, ?_⟩)
  · refine ⟨_, [], .none, .none, hD, hq, ⟨by simp, by simp⟩, ?_, ?_, rfl⟩
    · rw [List.append_nil]
      exact List.pairwise_map.mpr (List.nodup_range.imp fun {a b} h e => h (by omega))
    · intro x hx
      rw [List.append_nil] at hx
      obtain ⟨i, hi, rfl⟩ := List.mem_map.mp hx
      have := List.mem_range.mp hi
      omega
  · rintro i d r t hd ⟨ps, order, x5, x6, h1, h2, ⟨h3, ho⟩, h4, h5, rfl⟩
    obtain ⟨hi, rfl⟩ := range_get hd
    have hi : i < n := by have e : ((n : Int)).toNat = n := by omega
                          omega
    refine ⟨_, rfl, ws_seq (ws_asg (wp_popAt (wp_var rfl ⟨q, rfl, wp_call (wp_cons (wp_var rfl (wp_cons (wp_lenC (q := q) (ps := ps) (wp_cons (wp_var rfl (wp_nil ⟨rfl, h2, wp_nil ⟨rfl, ?_⟩⟩)))))))⟩))) ⟩
    refine (take_wp h1 (by omega)).mono ?_
    rintro d2 s2 ⟨g1, g2, r, rfl, r0, r1⟩
    have hr : r.toNat < ps.length := by omega
    refine ⟨r, ps, rfl, by rw [g2 q hne]; exact h2, r0, hr, by omega, ?_⟩
    have g3 : Dr j (s2.set q (iL (ps.eraseIdx r.toNat))) := by
      obtain ⟨ys, ey⟩ := g1
      exact ⟨ys, by rw [List.getElem?_set_ne hne]; exact ey⟩
    have g4 : (s2.set q (iL (ps.eraseIdx r.toNat)))[q]? = some (iL (ps.eraseIdx r.toNat)) := by
      have : q < s2.length := by
        have e := g2 q hne
        rw [h2] at e
        exact get_lt e
      rw [List.getElem?_set_self this]
    generalize (s2.set q (iL (ps.eraseIdx r.toNat))) = s3 at g3 g4
    have perm : (ps[r.toNat] :: ps.eraseIdx r.toNat).Perm ps := perm_erase ps r.toNat hr
    have perm2 : (ps.eraseIdx r.toNat ++ (order ++ [ps[r.toNat]])).Perm (ps ++ order) := by
      have p1 : (ps.eraseIdx r.toNat ++ (order ++ [ps[r.toNat]])).Perm (ps[r.toNat] :: (ps.eraseIdx r.toNat ++ order)) := by
        rw [← List.append_assoc]
        exact List.perm_append_comm
      exact p1.trans (perm.append_right order)
    have le : (ps.eraseIdx r.toNat).length + (i + 1) = n := by rw [List.length_eraseIdx_of_lt hr]; omega
    refine ws_if (wp_bl (wp_bin (wp_call (wp_cons (wp_var rfl (wp_cons (wp_c (wp_nil ⟨rfl, ?_⟩)))))))) 
    refine (take_wp g3 (by decide)).mono ?_
    rintro d3 s4 ⟨f1, f2, r2, rfl, r20, r21⟩
    have f4 : s4[q]? = some (iL (ps.eraseIdx r.toNat)) := by rw [f2 q hne]; exact g4
    refine wp_c ⟨_, rfl, _, rfl, ?_, ?_⟩
    · intro _
      have sm : small (iL order).length = true := by
        refine decide_eq_true ?_
        rw [List.length_map]
        omega
      refine ws_app rfl sm (wp_var rfl ⟨ps.eraseIdx r.toNat, order ++ [ps[r.toNat]], .val (.int (0 + (i : Int))), .val (.int ps[r.toNat]), f1, f4, ⟨le, by rw [List.length_append]; simp; omega⟩, perm2.nodup_iff.mpr h4, fun x hx => h5 x (perm2.mem_iff.mp hx), ?_⟩)
      simp
    · intro _
      have sub : (ps.eraseIdx r.toNat ++ order).Sublist (ps ++ order) := (List.eraseIdx_sublist ps r.toNat).append_right order
      refine ws_next ⟨ps.eraseIdx r.toNat, order, _, _, f1, f4, ⟨le, by omega⟩, h4.sublist sub, fun x hx => h5 x (sub.subset hx), rfl⟩
  rintro r t ⟨ps, order, x5, x6, h1, h2, ⟨h3, ho⟩, h4, h5, rfl⟩
  dsimp only
  have hnd : order.Nodup := (List.nodup_append.mp h4).2.1
  have hin : ∀ x ∈ order, 0 ≤ x ∧ x < n := fun x hx => h5 x (List.mem_append_right _ hx)
  have hol : order.length ≤ 4 := by rw [range_len] at ho; omega
  refine ws_seq (ws_own (wp_lst (wp_nil ⟨rfl, ?_⟩)))
  refine ws_seq (ws_for (fun i ρ s => ∃ (kept : List Int) (x8 : Sl), Dr j s ∧ kept.Pairwise (· < ·) ∧ (∀ x ∈ kept, 1 ≤ x ∧ x < 1 + (i : Int)) ∧ kept.length ≤ room.toNat ∧ kept.length ≤ i ∧
    ρ = [.val (.cell j), .val (.tup (iL zs)), .val (.int room), .val (.cell q), .own (iL order), x5, x6, .own (iL kept), x8]) (wp_rng2 (wp_cons (wp_c (wp_cons ?_)))))
  refine wp_lenL (Wp.of (a := iL order) rfl (wp_nil ⟨_, _, rfl, by decide, ?_, ?_, ?_, ?_⟩))
  · rw [List.length_map]; omega
  · exact ⟨[], _, h1, List.Pairwise.nil, (fun x hx => by cases hx), Nat.zero_le _, Nat.zero_le _, rfl⟩
  · rintro i d r t hd ⟨kept, x8, g1, g2, g3, g4, g5, rfl⟩
    obtain ⟨hi, rfl⟩ := range_get hd
    rw [List.length_map] at hi
    have sm : small (iL kept).length = true := by
      refine decide_eq_true ?_
      rw [List.length_map]; omega
    refine ⟨_, rfl, ws_if (wp_and (wp_bl (wp_bin (wp_lenL (Wp.of (a := iL kept) rfl (wp_var rfl ⟨_, rfl, _, rfl, ?_, ?_⟩))))))⟩
    · intro hlt
      have hlt := of_decide_eq_true hlt
      rw [List.length_map] at hlt
      refine wp_bl (wp_bin (wp_call (wp_cons (wp_var rfl (wp_cons (wp_c (wp_nil ⟨rfl, ?_⟩)))))))
      refine (take_wp g1 (by decide)).mono ?_
      rintro d3 s4 ⟨f1, f2, r2, rfl, r20, r21⟩
      refine wp_c ⟨_, rfl, _, rfl, ?_, ?_⟩
      · intro _
        refine ws_app rfl sm (wp_var rfl ⟨kept ++ [1 + (i : Int)], .val (.int (1 + (i : Int))), f1, ?_, ?_, ?_, ?_, ?_⟩)
        · rw [List.pairwise_append]
          exact ⟨g2, List.pairwise_singleton _ _, fun a ha b hb => by rw [List.mem_singleton.mp hb]; exact (g3 a ha).2⟩
        · intro x hx
          rcases List.mem_append.mp hx with hx | hx
          · have := g3 x hx; omega
          · rw [List.mem_singleton.mp hx]; omega
        · rw [List.length_append]; simp; omega
        · rw [List.length_append]; simp; omega
        · simp
      · intro _
        exact ws_next ⟨kept, _, f1, g2, fun x hx => by have := g3 x hx; omega, g4, by omega, rfl⟩
    · intro _
      refine ⟨fun z => (by cases z), fun _ => ws_next ⟨kept, _, g1, g2, fun x hx => by have := g3 x hx; omega, g4, by omega, rfl⟩⟩
  rintro r t ⟨kept, x8, g1, g2, g3, g4, g5, rfl⟩
  dsimp only
  refine ws_ret (wp_tup (wp_cons (wp_tupL (Wp.of (a := iL order) rfl (wp_cons (wp_tupL (Wp.of (a := iL kept) rfl (wp_nil ⟨rfl, g1, order, kept, rfl, hnd, hin, g2, ?_, g4, by rw [range_len] at ho; omega⟩))))))))
  intro x hx
  have := g3 x hx
  rw [range_len, List.length_map] at this
  omega
end MX


set_option Elab.async false
set_option linter.all false
set_option maxRecDepth 100000
namespace MX
open PySem L2
theorem integer_ok {x : Int} {s : Sto} : m_is_integer [.int x] s = .ok (.bl true) s := rfl
theorem within_ok {x lo hi : Int} {s : Sto} : m_is_within [.int x, .int lo, .int hi] s = .ok (.bl (decide (lo ≤ x) && decide (x ≤ hi))) s := by
  have e : dChain fLe fLe (dVar 1) (dVar 0) (dVar 2) (startR N_is_within.length [.int x, .int lo, .int hi]) s = .ok (.bl (decide (lo ≤ x) && decide (x ≤ hi))) s := by
    by_cases h : lo ≤ x
    · rw [decide_eq_true h]
      refine chain_yes (var_ok rfl) (var_ok rfl) ?_ (var_ok rfl) rfl
      show some (D.bl (decide (lo ≤ x))) = _
      rw [decide_eq_true h]
    · rw [decide_eq_false h]
      refine chain_no (var_ok rfl) (var_ok rfl) ?_
      show some (D.bl (decide (lo ≤ x))) = _
      rw [decide_eq_false h]
  unfold m_is_within
  refine fn_ret ?_
  unfold x_is_within
  refine ret_ok ?_
  unfold dAnd
  have e0 : dCall (pur m_is_integer) 1 (dCons (dVar 0) dNil) (startR N_is_within.length [.int x, .int lo, .int hi]) s = .ok (.bl true) s := rfl
  rw [e0]
  exact e
theorem all_true {r : List D} {s : Sto} (h : ∀ y ∈ r, y = .bl true) : fAll [.lst r] s = some (.bl true) := by
  have e : blsD r = some (r.map fun _ => true) := by
    induction r with
    | nil => rfl
    | cons y r ih =>
      have h1 := h y List.mem_cons_self
      subst h1
      have h2 := ih fun z m => h z (List.mem_cons_of_mem _ m)
      show (match blsD r with | some ns => some (true :: ns) | none => none) = _
      rw [h2]; rfl
  show (match blsD r with | some ns => some (D.bl (ns.all id)) | none => none) = _
  rw [e]
  simp
theorem tuple_within {zs : List Int} {lo hi : Int} {s : Sto} (hz : ∀ z ∈ zs, lo ≤ z ∧ z ≤ hi) (hl : zs.length ≤ 1000) : Wp (m_is_tuple_within [.tup (iL zs), .int lo, .int hi] s) fun d s1 => d = .bl true ∧ s1 = s := by
  unfold m_is_tuple_within
  refine wp_fn ?_
  unfold x_is_tuple_within
  refine ws_ret ?_
  unfold dAnd
  refine wp_bind (wp_cb (wp_cons (wp_var rfl (wp_cons (wp_c (wp_nil ⟨_, rfl, ?_⟩))))))
  refine wp_cb (wp_cons (wp_ofL (wp_comp (wp_seq' (wp_var rfl ⟨_, rfl, ?_, ?_⟩)))))
  · exact decide_eq_true (by rw [List.length_map]; omega)
  refine (wp_compAll (fun t => t = s) (fun d => ∃ z, d = .int z ∧ lo ≤ z ∧ z ≤ hi) (fun y => y = .bl true) ?_ (iL zs) s ?_ rfl).mono ?_
  · rintro t d rfl ⟨z, rfl, h1, h2⟩
    refine ⟨_, rfl, Wp.of (call_ok (cons_ok (var_ok rfl) (cons_ok (var_ok rfl) (cons_ok (var_ok rfl) nil_ok))) rfl (pur_ok rfl within_ok)) ⟨?_, rfl⟩⟩
    rw [decide_eq_true h1, decide_eq_true h2]; rfl
  · intro d hd
    obtain ⟨z, hz1, rfl⟩ := List.mem_map.mp hd
    exact ⟨z, rfl, hz z hz1⟩
  · rintro r t ⟨rfl, h1, h2⟩
    exact wp_nil ⟨_, all_true h1, rfl, rfl⟩
structure Sz (zs : List Int) : Prop where
  lo : 1 ≤ zs.length
  hi : zs.length ≤ 4
  inn : ∀ z ∈ zs, 1 ≤ z ∧ z ≤ 4
theorem arch_ok {zs : List Int} {s : Sto} (h : Sz zs) : mi_Archive [.tup (iL zs)] s = .ok [.tup (iL zs)] s := by
  have hlo := h.lo
  have hhi := h.hi
  obtain ⟨d, s1, e1, rfl, rfl⟩ := (tuple_within (s := []) h.inn (by omega)).ex
  have nc : noCs [.tup (iL zs), .int 1, .int 4] = true := by
    show (noC (.tup (iL zs)) && true) = true
    have : noC (.tup (iL zs)) = true := noCs_iL zs
    rw [this]; rfl
  unfold mi_Archive initD
  have go : x_Archive___init (startO N_Archive___init.length 0 [.tup (iL zs)]) s = .next [.oobj 0 [("_sizes", .tup (iL zs))], .val (.tup (iL zs))] s := by
    unfold x_Archive___init
    have c1 : (eOr (eNot (eBl (dCall (pur m_is_tuple_within) 3 (dCons (dVar 1) (dCons (dC (.int 1)) (dCons (dC (.int 4)) dNil)))))) (eNot (eBl (dCall (pur m_is_within) 3 (dCons (dCB fLen (dCons (dVar 1) dNil)) (dCons (dC (.int 1)) (dCons (dC (.int 4)) dNil)))))))
        (startO N_Archive___init.length 0 [.tup (iL zs)]) s = .ok false s := by
      refine or_ok (s1 := s) ?_ ?_
      · exact not_ok (k := true) (bl_ok (call_ok (ds := [.tup (iL zs), .int 1, .int 4]) (cons_ok (var_ok rfl) (cons_ok (a := .int 1) rfl (cons_ok (a := .int 4) rfl nil_ok))) rfl (pur_ok nc e1)))
      · have l : dCB fLen (dCons (dVar 1) dNil) (startO N_Archive___init.length 0 [.tup (iL zs)]) s = .ok (.int (zs.length : Nat)) s := by
          refine cb_ok (cons_ok (var_ok rfl) nil_ok) ?_
          show some (D.int (iL zs).length) = _
          rw [List.length_map]
        refine not_ok (k := true) (bl_ok (call_ok (ds := [.int (zs.length : Nat), .int 1, .int 4]) (cons_ok l (cons_ok (a := .int 1) rfl (cons_ok (a := .int 4) rfl nil_ok))) rfl (pur_ok rfl ?_)))
        rw [within_ok, decide_eq_true (show (1 : Int) ≤ (zs.length : Nat) by omega), decide_eq_true (show ((zs.length : Nat) : Int) ≤ 4 by omega)]
        rfl
    refine seq_ok (sif_no c1 rfl) ?_
    rfl
  rw [go]
  rfl
end MX


set_option Elab.async false
set_option linter.all false
set_option maxRecDepth 100000
namespace MX
open PySem L2
theorem eqvAll_refl : ∀ zs : List Int, PyData.eqvAll (zs.map PyData.int) (zs.map PyData.int) = true
  | [] => rfl
  | z :: zs => by simp [PyData.eqvAll, PyData.eqv]; exact eqvAll_refl zs
theorem eqvAll_ints : ∀ {xs ys : List Int}, PyData.eqvAll (xs.map PyData.int) (ys.map PyData.int) = decide (xs = ys)
  | [], [] => rfl
  | [], _ :: _ => rfl
  | _ :: _, [] => rfl
  | x :: xs, y :: ys => by
    simp only [List.map_cons, PyData.eqvAll, PyData.eqv, eqvAll_ints (xs := xs) (ys := ys)]
    by_cases h : x = y
    · subst h; by_cases h2 : xs = ys <;> simp [h2]
    · simp [h]
theorem eqP_lst {xs ys : List Int} {s : Sto} : eqP s (.lst (iL xs)) (.lst (iL ys)) = some (decide (xs = ys)) := by
  have e1 : toP s (.lst (iL xs)) = some (.list (xs.map PyData.int)) := by
    show (match toPs (iL xs) with | some ps => some (PyData.list ps) | none => none) = _
    rw [toPs_ints]
  have e2 : toP s (.lst (iL ys)) = some (.list (ys.map PyData.int)) := by
    show (match toPs (iL ys) with | some ps => some (PyData.list ps) | none => none) = _
    rw [toPs_ints]
  show (match toP s (.lst (iL xs)), toP s (.lst (iL ys)) with | some p, some q => if (SeqAt.shaped p && SeqAt.shaped q) = true then some (PyData.eqv p q) else none | _, _ => none) = _
  rw [e1, e2]
  show (if (SeqAt.shaped (.list (xs.map PyData.int)) && SeqAt.shaped (.list (ys.map PyData.int))) = true then some (PyData.eqvAll (xs.map PyData.int) (ys.map PyData.int)) else none) = _
  rw [shaped_list, shaped_list, eqvAll_ints]
  rfl
theorem eqP_tup {xs ys : List Int} {s : Sto} : eqP s (.tup (iL xs)) (.tup (iL ys)) = some (decide (xs = ys)) := by
  have e1 : toP s (.tup (iL xs)) = some (.tuple (xs.map PyData.int)) := by
    show (match toPs (iL xs) with | some ps => some (PyData.tuple ps) | none => none) = _
    rw [toPs_ints]
  have e2 : toP s (.tup (iL ys)) = some (.tuple (ys.map PyData.int)) := by
    show (match toPs (iL ys) with | some ps => some (PyData.tuple ps) | none => none) = _
    rw [toPs_ints]
  show (match toP s (.tup (iL xs)), toP s (.tup (iL ys)) with | some p, some q => if (SeqAt.shaped p && SeqAt.shaped q) = true then some (PyData.eqv p q) else none | _, _ => none) = _
  rw [e1, e2]
  show (if (SeqAt.shaped (.tuple (xs.map PyData.int)) && SeqAt.shaped (.tuple (ys.map PyData.int))) = true then some (PyData.eqvAll (xs.map PyData.int) (ys.map PyData.int)) else none) = _
  rw [shaped_tuple, shaped_tuple, eqvAll_ints]
  rfl
theorem fNe_lst {xs ys : List Int} {s : Sto} : fNe (.lst (iL xs)) (.lst (iL ys)) s = some (.bl (!decide (xs = ys))) := by
  show (match eqP s (.lst (iL xs)) (.lst (iL ys)) with | some k => some (D.bl (!k)) | none => none) = _
  rw [eqP_lst]
theorem fEq_lst {xs ys : List Int} {s : Sto} : fEq (.lst (iL xs)) (.lst (iL ys)) s = some (.bl (decide (xs = ys))) := by
  show (match eqP s (.lst (iL xs)) (.lst (iL ys)) with | some k => some (D.bl k) | none => none) = _
  rw [eqP_lst]
theorem fNe_tup {xs ys : List Int} {s : Sto} : fNe (.tup (iL xs)) (.tup (iL ys)) s = some (.bl (!decide (xs = ys))) := by
  show (match eqP s (.tup (iL xs)) (.tup (iL ys)) with | some k => some (D.bl (!k)) | none => none) = _
  rw [eqP_tup]
theorem fEq_tup {xs ys : List Int} {s : Sto} : fEq (.tup (iL xs)) (.tup (iL ys)) s = some (.bl (decide (xs = ys))) := by
  show (match eqP s (.tup (iL xs)) (.tup (iL ys)) with | some k => some (D.bl k) | none => none) = _
  rw [eqP_tup]
theorem comp_id {i : Nat} {ρ : List Sl} (hi : i < ρ.length) : ∀ (ds : List D) (s : Sto), compL (.nm i) eYes (dVar i) ρ ds s = .ok ds s
  | [], s => rfl
  | d :: ds, s => by
    have e : dVar i (ρ.set i (.val d)) s = .ok d s := var_ok (List.getElem?_set_self hi)
    unfold compL
    show ((noX (eYes (ρ.set i (.val d)) s)).bind fun k s => _) = _
    simp only [eYes, noX, Res.bind, if_true, e, comp_id hi ds s]
theorem lenO_ok {k : Nat} {m : Mf} {e : Fn D} {ρ : List Sl} {s s1 s2 : Sto} {ds : List D} {n : Int} (he : e ρ s = .ok (.obj k ds) s1) (hm : m [.obj k ds] s1 = .ok (.int n) s2) (hn : 0 ≤ n ∧ n < 1000000) : dLenO k m e ρ s = .ok (.int n) s2 := by
  unfold dLenO
  simp only [he, Res.bind, if_true, hm]
  rw [if_pos hn]
section
variable {ρ : List Sl} {s : Sto} {zs : List Int}
theorem test1_ok (hz : Sz zs) (h3 : ρ[3]? = some (.val (.tup (iL zs)))) (h5 : ρ[5]? = some (.val (.obj 0 [.tup (iL zs)]))) (hl : 7 < ρ.length) :
    (eOr (eBl (dBin fNe (dOfL (dComp (wOwn 0 mt_Archive (dVar 5)) (.nm 7) eYes (dVar 7) [7])) (dOfL (dListF (dVar 3))))) (eOr (eBl (dBin fNe (dLenO 0 m_Archive___len (dVar 5)) (dCB fLen (dCons (dVar 3) dNil)))) (eBl (dBin fNe (dProp 0 m_Archive_sizes (dVar 5)) (dVar 3))))) ρ s = .ok false s := by
  have hhi := hz.hi
  have c1 : dOfL (dComp (wOwn 0 mt_Archive (dVar 5)) (.nm 7) eYes (dVar 7) [7]) ρ s = .ok (.lst (iL zs)) s := by
    refine ofL_ok ?_
    have w : wOwn 0 mt_Archive (dVar 5) ρ s = .ok (iL zs) s := by
      unfold wOwn
      rw [var_ok h5]
      rfl
    unfold dComp
    rw [w]
    show (if small (iL zs).length = true then compL _ _ _ (ρ.set 7 .none) (iL zs) s else .bad) = _
    rw [if_pos (show small (iL zs).length = true from decide_eq_true (by rw [List.length_map]; omega))]
    exact comp_id (by simpa using hl) _ _
  have c2 : dOfL (dListF (dVar 3)) ρ s = .ok (.lst (iL zs)) s := by
    refine ofL_ok ?_
    unfold dListF
    rw [var_ok h3]
    rfl
  have c3 : dLenO 0 m_Archive___len (dVar 5) ρ s = .ok (.int (zs.length : Nat)) s := by
    refine lenO_ok (var_ok h5) ?_ ⟨by omega, by omega⟩
    have e0 : m_Archive___len [.obj 0 [.tup (iL zs)]] s = .ok (.int ((iL zs).length : Nat)) s := rfl
    rw [e0, List.length_map]
  have c4 : dCB fLen (dCons (dVar 3) dNil) ρ s = .ok (.int (zs.length : Nat)) s := by
    refine cb_ok (cons_ok (var_ok h3) nil_ok) ?_
    show some (D.int (iL zs).length) = _
    rw [List.length_map]
  have c5 : dProp 0 m_Archive_sizes (dVar 5) ρ s = .ok (.tup (iL zs)) s := by
    unfold dProp
    rw [var_ok h5]
    rfl
  refine or_ok (bl_ok (bin_ok c1 c2 (by rw [fNe_lst]; simp))) (or_ok (bl_ok (bin_ok c3 c4 ?_)) (bl_ok (bin_ok c5 (var_ok h3) (by rw [fNe_tup]; simp))))
  show (match eqP s (.int (zs.length : Nat)) (.int (zs.length : Nat)) with | some k => some (D.bl (!k)) | none => none) = _
  show some (D.bl (!decide (((zs.length : Nat) : Int) = (zs.length : Nat)))) = _
  simp
theorem eqm_ok {xs ys : List Int} : m_Archive___eq [.obj 0 [.tup (iL xs)], .obj 0 [.tup (iL ys)]] s = .ok (.bl (decide (xs = ys))) s := by
  unfold m_Archive___eq
  refine fn_ret ?_
  unfold x_Archive___eq
  refine ret_ok (andV_yes (cb_ok (cons_ok (var_ok rfl) (cons_ok rfl nil_ok)) rfl) ?_)
  refine bin_ok (a := .tup (iL xs)) (b := .tup (iL ys)) rfl rfl fEq_tup
theorem eqO_ok {neg : Bool} {ea eb : Fn D} {xs ys : List Int} (ha : ea ρ s = .ok (.obj 0 [.tup (iL xs)]) s) (hb : eb ρ s = .ok (.obj 0 [.tup (iL ys)]) s) : dEqO neg 0 m_Archive___eq ea eb ρ s = .ok (.bl (if neg = true then !decide (xs = ys) else decide (xs = ys))) s := by
  unfold dEqO
  rw [ha]
  show (eb ρ s).bind _ = _
  rw [hb]
  show (if 0 = 0 ∧ 0 = 0 then (m_Archive___eq [.obj 0 [.tup (iL xs)], .obj 0 [.tup (iL ys)]] s).bind _ else .bad) = _
  rw [if_pos ⟨rfl, rfl⟩, eqm_ok]
  rfl
theorem make_ok {er : Fn (List D)} (hz : Sz zs) (h : er ρ s = .ok [.tup (iL zs)] s) : dMake 0 mi_Archive 2 er ρ s = .ok (.obj 0 [.tup (iL zs)]) s := by
  unfold dMake
  rw [h]
  show (if 1 + 1 = 2 then (mi_Archive [.tup (iL zs)] s).bind _ else .bad) = _
  rw [if_pos rfl, arch_ok hz]
  rfl
end
end MX


set_option Elab.async false
set_option linter.all false
set_option maxRecDepth 100000
namespace MX
open PySem L2
def other (z : Int) : Int := if z > 1 then z - 1 else 2
theorem other_ne (z : Int) : other z ≠ z := by unfold other; split <;> omega
theorem other_in {z : Int} (h : 1 ≤ z ∧ z ≤ 4) : 1 ≤ other z ∧ other z ≤ 4 := by unfold other; split <;> omega
section
variable {ρ : List Sl} {s : Sto}
theorem last_ok {z : Int} {e : Fn D} (he : e ρ s = .ok (.int z) s) : dIf (eBl (dBin fGt e (dC (.int 1)))) (dBin fSub e (dC (.int 1))) (dC (.int 2)) ρ s = .ok (.int (other z)) s := by
  unfold other
  have c : eBl (dBin fGt e (dC (.int 1))) ρ s = .ok (decide (1 < z)) s := bl_ok (bin_ok he rfl rfl)
  by_cases h : z > 1
  · rw [if_pos h]
    exact if_yes (by rw [c, decide_eq_true h]) (bin_ok he rfl rfl)
  · rw [if_neg h]
    exact if_no (by rw [c, decide_eq_false h]) rfl
theorem other_list {ys : List Int} {z : Int} (hl : ys.length ≤ 3) (h3 : ρ[3]? = some (.val (.tup (iL (ys ++ [z]))))) :
    dBin fAdd (dSl (dVar 3) dNoPart (dPart (dUn fNeg (dC (.int 1))))) (dTup (dCons (dIf (eBl (dBin fGt (dBin fIx (dVar 3) (dUn fNeg (dC (.int 1)))) (dC (.int 1)))) (dBin fSub (dBin fIx (dVar 3) (dUn fNeg (dC (.int 1)))) (dC (.int 1))) (dC (.int 2))) dNil)) ρ s = .ok (.tup (iL (ys ++ [other z]))) s := by
  have ix : dBin fIx (dVar 3) (dUn fNeg (dC (.int 1))) ρ s = .ok (.int z) s := by
    refine bin_ok (b := .int (-1)) (var_ok h3) rfl ?_
    match ys, hl with
    | [], _ => rfl
    | [_], _ => rfl
    | [_, _], _ => rfl
    | [_, _, _], _ => rfl
  have sl : dSl (dVar 3) dNoPart (dPart (dUn fNeg (dC (.int 1)))) ρ s = .ok (.tup (iL ys)) s := by
    unfold dSl
    rw [var_ok h3]
    match ys, hl with
    | [], _ => rfl
    | [_], _ => rfl
    | [_, _], _ => rfl
    | [_, _, _], _ => rfl
  refine bin_ok sl (tup_ok (cons_ok (last_ok ix) nil_ok) rfl) ?_
  show (if small ((iL ys).length + 1) = true then some (D.tup (iL ys ++ [.int (other z)])) else none) = _
  rw [if_pos (show small ((iL ys).length + 1) = true from decide_eq_true (by rw [List.length_map]; omega)), show iL ys ++ [D.int (other z)] = iL (ys ++ [other z]) from by simp]
theorem test2_ok {zs : List Int} (hz : Sz zs) (h3 : ρ[3]? = some (.val (.tup (iL zs)))) (h5 : ρ[5]? = some (.val (.obj 0 [.tup (iL zs)]))) :
    (eOr (eBl (dEqO true 0 m_Archive___eq (dVar 5) (dMake 0 mi_Archive 2 (dCons (dVar 3) dNil)))) (eBl (dEqO false 0 m_Archive___eq (dVar 5) (dMake 0 mi_Archive 2 (dCons (dBin fAdd (dSl (dVar 3) dNoPart (dPart (dUn fNeg (dC (.int 1))))) (dTup (dCons (dIf (eBl (dBin fGt (dBin fIx (dVar 3) (dUn fNeg (dC (.int 1)))) (dC (.int 1)))) (dBin fSub (dBin fIx (dVar 3) (dUn fNeg (dC (.int 1)))) (dC (.int 1))) (dC (.int 2))) dNil))) dNil))))) ρ s = .ok false s := by
  have hlo := hz.lo
  have hhi := hz.hi
  obtain ⟨ys, z, rfl⟩ : ∃ ys z, zs = ys ++ [z] := ⟨zs.dropLast, zs.getLast (by intro e; subst e; simp at hlo), (List.dropLast_concat_getLast _).symm⟩
  rw [List.length_append, List.length_singleton] at hhi
  have hz2 : Sz (ys ++ [other z]) := by
    refine ⟨by simp, by simp; omega, ?_⟩
    intro x hx
    rcases List.mem_append.mp hx with hx | hx
    · exact hz.inn x (List.mem_append_left _ hx)
    · rw [List.mem_singleton.mp hx]
      exact other_in (hz.inn z (by simp))
  refine or_ok (s1 := s) (bl_ok ?_) (bl_ok ?_)
  · rw [eqO_ok (neg := true) (var_ok h5) (make_ok hz (cons_ok (var_ok h3) nil_ok))]
    simp
  · rw [eqO_ok (neg := false) (var_ok h5) (make_ok hz2 (cons_ok (other_list (by omega) h3) nil_ok))]
    have : ¬ (ys ++ [z] = ys ++ [other z]) := by
      intro e
      have := List.append_cancel_left e
      have e2 : z = other z := by simpa using this
      exact other_ne z e2.symm
    rw [decide_eq_false this]
    rfl
end
end MX


set_option Elab.async false
set_option linter.all false
set_option maxRecDepth 100000
namespace MX
open PySem L2
mutual
def beqD : D → D → Bool
  | .int i, .int j => i == j
  | .bl a, .bl b => a == b
  | .tup xs, .tup ys => beqDs xs ys
  | .lst xs, .lst ys => beqDs xs ys
  | _, _ => false
def beqDs : List D → List D → Bool
  | [], [] => true
  | x :: xs, y :: ys => beqD x y && beqDs xs ys
  | _, _ => false
end
mutual
theorem beqD_eq : ∀ {x y : D}, beqD x y = true → x = y
  | .int i, y, h => by
    cases y with
    | int j => unfold beqD at h; rw [beq_iff_eq.mp h]
    | _ => unfold beqD at h; cases h
  | .bl i, y, h => by
    cases y with
    | bl j => unfold beqD at h; rw [beq_iff_eq.mp h]
    | _ => unfold beqD at h; cases h
  | .tup xs, y, h => by
    cases y with
    | tup ys => unfold beqD at h; rw [beqDs_eq h]
    | _ => unfold beqD at h; cases h
  | .lst xs, y, h => by
    cases y with
    | lst ys => unfold beqD at h; rw [beqDs_eq h]
    | _ => unfold beqD at h; cases h
  | .non, y, h => by unfold beqD at h; cases h
  | .str _, y, h => by unfold beqD at h; cases h
  | .cell _, y, h => by unfold beqD at h; cases h
  | .obj _ _, y, h => by unfold beqD at h; cases h
  | .ty _, y, h => by unfold beqD at h; cases h
  | .cls _, y, h => by unfold beqD at h; cases h
  | .ro _, y, h => by unfold beqD at h; cases h
theorem beqDs_eq : ∀ {xs ys : List D}, beqDs xs ys = true → xs = ys
  | [], [], _ => rfl
  | [], _ :: _, h => by unfold beqDs at h; cases h
  | _ :: _, [], h => by unfold beqDs at h; cases h
  | x :: xs, y :: ys, h => by
    unfold beqDs at h
    rw [Bool.and_eq_true] at h
    rw [beqD_eq h.1, beqDs_eq h.2]
end
/-- all ascending lists out of a list -/
def subs : List Int → List (List Int)
  | [] => [[]]
  | x :: xs => (subs xs).map (x :: ·) ++ subs xs
/-- all orders of some people, by plain Lean -/
def perms : Nat → List Int → List (List Int)
  | 0, _ => [[]]
  | n + 1, xs => if xs.isEmpty then [[]] else xs.flatMap fun x => (perms n (xs.filter (· != x))).map (x :: ·)
def resIs (r : Res D) (d : D) : Bool := match r with
  | .ok e [] => beqD e d
  | _ => false
theorem resIs_eq {r : Res D} {d : D} (h : resIs r d = true) : r = .ok d [] := by
  unfold resIs at h
  split at h
  · rename_i e
    rw [beqD_eq h]
  · cases h
def rows (xs : List (List Int)) : D := .lst (xs.map fun r => .tup (iL r))
theorem orders_all : ((subs [0, 1, 2, 3]).all fun l => resIs (m_all_orders 6 [.lst (iL l)] []) (rows (perms 5 l)) && resIs (m_u_law_orders 6 [.tup (iL l)] []) (rows (perms 5 l))) = true := by decide +kernel
/-- all ascending choices of at most n lengths, in order -/
def picks : Nat → List Int → List (List Int)
  | _, [] => [[]]
  | 0, _ => [[]]
  | n + 1, x :: xs => [] :: ((picks n xs).map (x :: ·) ++ (picks (n + 1) xs).tail)
def somes (n : Nat) (l : List Int) : List (List Int) := l.foldl (fun f x => f ++ (f.filter fun r => r.length < n).map (· ++ [x])) [[]]
def ascL : List (List Int) → Bool
  | [] => true
  | [_] => true
  | x :: y :: r => decide (x < y) && ascL (y :: r)
theorem choices_all : ((subs [1, 2, 3]).all fun l => [0, 1, 2, 3].all fun n => resIs (m_all_choices 6 [.lst (iL l), .int (n : Nat)] []) (rows (picks n l)) && resIs (m_u_law_some [.lst (iL l), .int (n : Nat)] []) (rows (somes n l)) &&
    (somes n l).isPerm (picks n l) && ascL (picks n l)) = true := by decide +kernel
theorem perms_all : ((subs [0, 1, 2, 3]).all fun l => ascL (perms 5 l)) = true := by decide +kernel
theorem choices_ok {l : List Int} {n : Nat} (h : l ∈ subs [1, 2, 3]) (hn : n ≤ 3) : m_all_choices 6 [.lst (iL l), .int (n : Nat)] [] = .ok (rows (picks n l)) [] ∧ m_u_law_some [.lst (iL l), .int (n : Nat)] [] = .ok (rows (somes n l)) [] ∧ (somes n l).Perm (picks n l) ∧ ascL (picks n l) = true := by
  have hm : n ∈ [0, 1, 2, 3] := by simp; omega
  have := List.all_eq_true.mp (List.all_eq_true.mp choices_all l h) n hm
  rw [Bool.and_eq_true, Bool.and_eq_true, Bool.and_eq_true] at this
  exact ⟨resIs_eq this.1.1.1, resIs_eq this.1.1.2, List.isPerm_iff.mp this.1.2, this.2⟩
theorem orders_ok {l : List Int} (h : l ∈ subs [0, 1, 2, 3]) : m_all_orders 6 [.lst (iL l)] [] = .ok (rows (perms 5 l)) [] ∧ m_u_law_orders 6 [.tup (iL l)] [] = .ok (rows (perms 5 l)) [] := by
  have := List.all_eq_true.mp orders_all l h
  rw [Bool.and_eq_true] at this
  exact ⟨resIs_eq this.1, resIs_eq this.2⟩
end MX


set_option Elab.async false
set_option linter.all false
set_option maxRecDepth 100000
namespace MX
open PySem L2
abbrev PL := List Int × List Int
def mkD (p : PL) : D := .tup [.tup (iL p.1), .tup (iL p.2)]
def mkP (p : PL) : PyData := .tuple [.tuple (p.1.map .int), .tuple (p.2.map .int)]
def ltP (p q : PL) : Prop := p.1 < q.1 ∨ (p.1 = q.1 ∧ p.2 < q.2)
instance (p q : PL) : Decidable (ltP p q) := by unfold ltP; infer_instance
theorem alike_ints : ∀ xs ys : List Int, PySem.W.alikeAll (xs.map PyData.int) (ys.map PyData.int) = true
  | [], [] => rfl
  | [], _ :: _ => rfl
  | _ :: _, [] => rfl
  | x :: xs, y :: ys => by
    show (PySem.W.alike (.int x) (.int y) && PySem.W.alikeAll (xs.map PyData.int) (ys.map PyData.int)) = true
    rw [alike_ints xs ys]; rfl
theorem dataLt_tint (a b : List Int) : PySem.W.dataLt (.tuple (a.map .int)) (.tuple (b.map .int)) = decide (a < b) := by
  rw [PySem.W.dataLt_tuple]
  exact PySem.W.dataLt_ints a b
theorem dataLt_mk (p q : PL) : PySem.W.dataLt (mkP p) (mkP q) = decide (ltP p q) := by
  obtain ⟨a, b⟩ := p
  obtain ⟨a', b'⟩ := q
  unfold mkP ltP
  have l1 : PySem.W.alike (.tuple (a.map .int)) (.tuple (a'.map .int)) = true := alike_ints a a'
  have l2 : PySem.W.alike (.tuple (b.map .int)) (.tuple (b'.map .int)) = true := alike_ints b b'
  show PySem.W.dataLt (.tuple [.tuple (a.map .int), .tuple (b.map .int)]) (.tuple [.tuple (a'.map .int), .tuple (b'.map .int)]) = decide (a < a' ∨ (a = a' ∧ b < b'))
  rw [PySem.W.dataLt_pair l1 l2]
  have e1 : PyData.eqv (.tuple (a.map .int)) (.tuple (a'.map .int)) = decide (a = a') := eqvAll_ints
  have e2 : PyData.eqv (.tuple (b.map .int)) (.tuple (b'.map .int)) = decide (b = b') := eqvAll_ints
  rw [e1, e2, dataLt_tint, dataLt_tint]
  by_cases h : a = a'
  · subst h
    have i : ¬ a < a := List.lt_irrefl a
    by_cases h2 : b = b'
    · subst h2
      have i2 : ¬ b < b := List.lt_irrefl b
      simp [i, i2]
    · simp [h2, i]
  · simp [h]
def leP (p q : PL) : Bool := !decide (ltP q p)
theorem ins_map {α β : Type} {r : α → α → Bool} {t : β → β → Bool} (f : α → β) (h : ∀ a b, t (f a) (f b) = r a b) (a : α) : ∀ l : List α, ins t (f a) (l.map f) = (ins r a l).map f
  | [] => rfl
  | b :: l => by
    show (if t (f a) (f b) = true then _ else f b :: ins t (f a) (l.map f)) = (if r a b = true then a :: b :: l else b :: ins r a l).map f
    rw [h, ins_map f h a l]
    split <;> rfl
theorem isort_map {α β : Type} {r : α → α → Bool} {t : β → β → Bool} (f : α → β) (h : ∀ a b, t (f a) (f b) = r a b) : ∀ l : List α, isort t (l.map f) = (isort r l).map f
  | [] => rfl
  | a :: l => by
    show ins t (f a) (isort t (l.map f)) = (ins r a (isort r l)).map f
    rw [isort_map f h l, ins_map f h a]
theorem toPs_mk : ∀ L : List PL, toPs (L.map mkD) = some (L.map mkP)
  | [] => rfl
  | p :: L => by
    have e : toP0 (mkD p) = some (mkP p) := by
      show (match (match (match toPs (iL p.1) with | some ps => some (PyData.tuple ps) | none => none) with | some x => (match (match (match toPs (iL p.2) with | some ps => some (PyData.tuple ps) | none => none) with | some y => some [y] | none => none) with | some ps => some (x :: ps) | none => none) | none => none) with | some ps => some (PyData.tuple ps) | none => none) = _
      rw [toPs_ints, toPs_ints]; rfl
    show (match toP0 (mkD p) with | some x => (match toPs (L.map mkD) with | some ps => some (x :: ps) | none => none) | none => none) = _
    rw [e, toPs_mk L]; rfl
theorem sortOk_mk (L : List PL) : sortOk (L.map mkP) = true := by
  unfold sortOk
  have al : ∀ p q : PL, PySem.W.alike (mkP p) (mkP q) = true := by
    intro p q
    show (PySem.W.alikeAll (p.1.map PyData.int) (q.1.map PyData.int) && (PySem.W.alikeAll (p.2.map PyData.int) (q.2.map PyData.int) && true)) = true
    rw [alike_ints, alike_ints]; rfl
  have dp : ∀ p : PL, (mkP p).depth ≤ 60 := by
    intro p
    unfold mkP
    simp [PyData.depth, PyData.depthAll, depth_ints]
  simp only [Bool.and_eq_true, Bool.or_eq_true, List.all_eq_true, List.mem_map, forall_exists_index, and_imp, forall_apply_eq_imp_iff₂, decide_eq_true_eq]
  exact ⟨⟨fun p _ q _ => al p q, .inl fun p _ => rfl⟩, fun p _ => dp p⟩
theorem sortD_mk (L : List PL) : sortD (L.map mkD) = some ((isort leP L).map mkD) := by
  unfold sortD
  rw [toPs_mk]
  show (if sortOk (L.map mkP) = true then some ((isort (PySem.W.dataLe false (fun b => b.2)) ((L.map mkD).zip (L.map mkP))).map (fun b => b.1)) else none) = _
  rw [if_pos (sortOk_mk L)]
  have z : (L.map mkD).zip (L.map mkP) = L.map fun p => (mkD p, mkP p) := by
    induction L with
    | nil => rfl
    | cons p L ih => simp [ih]
  rw [z, isort_map (r := leP) (fun p => (mkD p, mkP p)) (fun a b => ?_) L, List.map_map]
  · rfl
  · show (!PySem.W.dataLt (mkP b) (mkP a)) = leP a b
    rw [dataLt_mk]; rfl
/-! products of rows -/
theorem ltP_trans {p q r : PL} (h : ltP p q) (k : ltP q r) : ltP p r := by
  rcases h with h | ⟨h1, h2⟩
  · rcases k with k | ⟨k1, k2⟩
    · exact .inl (List.lt_trans h k)
    · exact .inl (k1 ▸ h)
  · rcases k with k | ⟨k1, k2⟩
    · exact .inl (h1 ▸ k)
    · exact .inr ⟨h1.trans k1, List.lt_trans h2 k2⟩
theorem ltP_irrefl (p : PL) : ¬ ltP p p := by
  rintro (h | ⟨_, h⟩)
  · exact List.lt_irrefl _ h
  · exact List.lt_irrefl _ h
theorem isort_perm {α : Type} {le : α → α → Bool} (a : α) : ∀ l : List α, (ins le a l).Perm (a :: l)
  | [] => .refl _
  | b :: l => by
    show (if le a b = true then a :: b :: l else b :: ins le a l).Perm (a :: b :: l)
    split
    · exact .refl _
    · exact ((isort_perm a l).cons b).trans (.swap a b l)
theorem isort_perm' {α : Type} {le : α → α → Bool} : ∀ l : List α, (isort le l).Perm l
  | [] => .refl _
  | a :: l => (isort_perm a _).trans ((isort_perm' l).cons a)
/-- a strictly ascending list is what sorting gives of any order of it -/
theorem isort_uniq {L M : List PL} (hp : L.Perm M) (hM : M.Pairwise ltP) : isort leP L = M := by
  have hle : ∀ p q : PL, leP p q = true ↔ ¬ ltP q p := by
    intro p q
    unfold leP
    by_cases h : ltP q p <;> simp [h]
  have total : ∀ p q : PL, ¬ ltP p q → ¬ ltP q p → p = q := by
    intro p q h1 h2
    obtain ⟨a, b⟩ := p
    obtain ⟨a', b'⟩ := q
    have e1 : a = a' := by
      have n1 : ¬ a < a' := fun z => h1 (.inl z)
      have n2 : ¬ a' < a := fun z => h2 (.inl z)
      exact List.le_antisymm (List.not_lt.mp n2) (List.not_lt.mp n1)
    subst e1
    have n1 : ¬ b < b' := fun z => h1 (.inr ⟨rfl, z⟩)
    have n2 : ¬ b' < b := fun z => h2 (.inr ⟨rfl, z⟩)
    rw [List.le_antisymm (List.not_lt.mp n2) (List.not_lt.mp n1)]
  have tr : ∀ a b c : PL, leP a b = true → leP b c = true → leP a c = true := by
    intro a b c h1 h2
    rw [hle] at h1 h2 ⊢
    intro h3
    by_cases e : ltP a b
    · exact h2 (ltP_trans h3 e)
    · have := total a b e h1
      subst this
      exact h2 h3
  have to : ∀ a b : PL, (leP a b || leP b a) = true := by
    intro a b
    rw [Bool.or_eq_true, hle, hle]
    by_cases e : ltP b a
    · exact .inr fun z => ltP_irrefl _ (ltP_trans e z)
    · exact .inl e
  rw [← isort_eq tr to]
  have s1 := List.pairwise_mergeSort tr to L
  have s2 : M.Pairwise fun a b => leP a b = true := hM.imp fun {a b} h => by rw [hle]; exact fun z => ltP_irrefl _ (ltP_trans h z)
  exact List.Perm.eq_of_pairwise (le := fun a b => leP a b = true) (fun a b _ _ h1 h2 => total a b ((hle b a).mp h2) ((hle a b).mp h1)) s1 s2 ((List.mergeSort_perm L leP).trans hp)
end MX


set_option Elab.async false
set_option linter.all false
set_option maxRecDepth 100000
namespace MX
open PySem L2
def prodL (pre : List Int) (R C : List (List Int)) : List PL := R.flatMap fun r => C.map fun c => (pre ++ r, c)
theorem asc_pairwise : ∀ {l : List (List Int)}, ascL l = true → l.Pairwise (· < ·)
  | [], _ => .nil
  | [x], _ => List.pairwise_singleton _ _
  | x :: y :: r, h => by
    unfold ascL at h
    rw [Bool.and_eq_true] at h
    have hx := of_decide_eq_true h.1
    have ih := asc_pairwise h.2
    refine .cons ?_ ih
    intro z hz
    rcases List.mem_cons.mp hz with rfl | hz
    · exact hx
    · exact List.lt_trans hx ((List.pairwise_cons.mp ih).1 z hz)
theorem append_lt : ∀ (pre : List Int) {r t : List Int}, r < t → pre ++ r < pre ++ t
  | [], _, _, h => h
  | x :: pre, r, t, h => by
    show x :: (pre ++ r) < x :: (pre ++ t)
    rw [List.cons_lt_cons_iff]
    exact .inr ⟨rfl, append_lt pre h⟩
theorem prod_asc {pre : List Int} {R C : List (List Int)} (hR : R.Pairwise (· < ·)) (hC : C.Pairwise (· < ·)) : (prodL pre R C).Pairwise ltP := by
  unfold prodL
  rw [List.pairwise_flatMap]
  refine ⟨fun r _ => ?_, hR.imp fun {r t} h x hx y hy => ?_⟩
  · rw [List.pairwise_map]
    exact hC.imp fun {a b} h => .inr ⟨rfl, h⟩
  · obtain ⟨c, _, rfl⟩ := List.mem_map.mp hx
    obtain ⟨d, _, rfl⟩ := List.mem_map.mp hy
    exact .inl (append_lt pre h)
theorem prod_perm {pre : List Int} {R C C' : List (List Int)} (h : C.Perm C') : (prodL pre R C).Perm (prodL pre R C') := by
  unfold prodL
  induction R with
  | nil => exact .refl _
  | cons r R ih => simp only [List.flatMap_cons]; exact (h.map _).append ih
/-- sorted(the pairs of the law) is the program's list -/
theorem sort_prod {pre : List Int} {R C S : List (List Int)} (hR : ascL R = true) (hC : ascL C = true) (hS : S.Perm C) : sortD ((prodL pre R S).map mkD) = some ((prodL pre R C).map mkD) := by
  rw [sortD_mk, isort_uniq (prod_perm hS) (prod_asc (asc_pairwise hR) (asc_pairwise hC))]
end MX


set_option Elab.async false
set_option linter.all false
set_option maxRecDepth 100000
namespace MX
open PySem L2
/-- rows as data -/
abbrev rwL (R : List (List Int)) : List D := R.map fun r => D.tup (iL r)
theorem inner_prod {ρ : List Sl} {s : Sto} {j : Nat} {e : Fn D} {q : List Int} (he : ∀ c : List Int, e (ρ.set j (.val (.tup (iL c)))) s = .ok (mkD (q, c)) s) :
    ∀ C : List (List Int), compL (.nm j) eYes e ρ (rwL C) s = .ok (C.map fun c => mkD (q, c)) s
  | [] => rfl
  | c :: C => by
    unfold compL
    show ((noX (eYes (ρ.set j (.val (.tup (iL c)))) s)).bind fun k s => _) = _
    simp only [eYes, noX, Res.bind, if_true, he c, inner_prod he C]
    rfl
theorem outer_prod {ρ : List Sl} {s : Sto} {i j : Nat} {w1 : Fn (List D)} {e : Fn D} {pre : List Int} {C : List (List Int)} (hw : ∀ r : List Int, w1 (ρ.set i (.val (.tup (iL r)))) s = .ok (rwL C) s)
    (he : ∀ r c : List Int, e (((ρ.set i (.val (.tup (iL r)))).set j .none).set j (.val (.tup (iL c)))) s = .ok (mkD (pre ++ r, c)) s) :
    ∀ R : List (List Int), compL2 (.nm i) eYes w1 (.nm j) eYes e ρ [j] (rwL R) s = .ok ((prodL pre R C).map mkD) s
  | [] => rfl
  | r :: R => by
    have h1 := inner_prod (ρ := (ρ.set i (.val (.tup (iL r)))).set j .none) (j := j) (e := e) (q := pre ++ r) (he r) C
    unfold compL2
    show (noX (w1 (ρ.set i (.val (.tup (iL r)))) s)).bind _ = _
    rw [hw r]
    show (compL (.nm j) eYes e ((ρ.set i (.val (.tup (iL r)))).set j .none) (rwL C) s).bind _ = _
    rw [h1]
    show (compL2 (.nm i) eYes w1 (.nm j) eYes e ρ [j] (rwL R) s).bind _ = _
    rw [outer_prod hw he R]
    show Res.ok ((C.map fun c => mkD (pre ++ r, c)) ++ (prodL pre R C).map mkD) s = _
    unfold prodL
    simp [List.map_map, Function.comp_def]
/-- the whole comprehension -/
theorem comp2_prod {ρ : List Sl} {s : Sto} {i j : Nat} {w w1 : Fn (List D)} {e : Fn D} {pre : List Int} {R C : List (List Int)} (h : w ρ s = .ok (rwL R) s) (hz : small (prodL pre R C).length = true)
    (hw : ∀ r : List Int, w1 ((wipeR ρ [i, j]).set i (.val (.tup (iL r)))) s = .ok (rwL C) s)
    (he : ∀ r c : List Int, e ((((wipeR ρ [i, j]).set i (.val (.tup (iL r)))).set j .none).set j (.val (.tup (iL c)))) s = .ok (mkD (pre ++ r, c)) s) :
    dComp2 w (.nm i) eYes w1 (.nm j) eYes e [i, j] [j] ρ s = .ok ((prodL pre R C).map mkD) s := by
  unfold dComp2
  rw [h]
  show (compL2 _ _ _ _ _ _ _ _ _ s).bind fin = _
  rw [outer_prod hw he R]
  show fin _ s = _
  unfold fin
  rw [if_pos (by rw [List.length_map]; exact hz)]
end MX


set_option Elab.async false
set_option linter.all false
set_option maxRecDepth 100000
namespace MX
open PySem L2
theorem wseq_ok {ρ : List Sl} {s s1 : Sto} {e : Fn D} {d : D} {ds : List D} (h : e ρ s = .ok d s1) (hd : frzD d = some ds) : wSeq e ρ s = .ok ds s1 := by
  unfold wSeq; rw [h]; show Res.ofO (frzD d) s1 = _; rw [hd]; rfl
theorem lstRg2_ok {ρ : List Sl} {s s1 s2 : Sto} {e g : Fn D} {i j : Int} (h : e ρ s = .ok (.int i) s1) (k : g ρ s1 = .ok (.int j) s2) (hi : -1000000 ≤ i ∧ i ≤ 1000000) (hj : -1000000 ≤ j ∧ j ≤ 1000000) : dListRg (dRg2 e g) ρ s = .ok (rangeD i (j - i).toNat) s2 := by
  have hr : rgOk i j = true := by unfold rgOk inB; rw [Bool.and_eq_true]; exact ⟨decide_eq_true hi, decide_eq_true hj⟩
  unfold dListRg dRg2
  simp only [h, k, Res.bind, hr, if_true]
theorem lstRg1_ok {ρ : List Sl} {s s1 : Sto} {e : Fn D} {j : Int} (h : e ρ s = .ok (.int j) s1) (hj : -1000000 ≤ j ∧ j ≤ 1000000) : dListRg (dRg1 e) ρ s = .ok (rangeD 0 (j - 0).toNat) s1 := by
  have hr : rgOk 0 j = true := by unfold rgOk inB; rw [Bool.and_eq_true]; exact ⟨by decide, decide_eq_true hj⟩
  unfold dListRg dRg1
  simp only [h, Res.bind, hr, if_true]
theorem drop_ok {ρ : List Sl} {s s1 : Sto} {e : Fn D} {d : D} (h : e ρ s = .ok d s1) : sDrop e ρ s = .next ρ s1 := by unfold sDrop sBind; rw [h]
theorem check_room_ok {n : Nat} (h : n ≤ 3) {s : Sto} : m_check_room [.int (n : Nat)] s = .ok .non s := by
  unfold m_check_room
  refine fn_next (ρ1 := startR N_check_room.length [.int (n : Nat)]) ?_
  unfold x_check_room
  refine sif_no (s1 := s) (not_ok (k := true) (bl_ok (call_ok (ds := [.int (n : Nat), .int 0, .int 3]) (cons_ok (var_ok rfl) (cons_ok (a := .int 0) rfl (cons_ok (a := .int 3) rfl nil_ok))) rfl (pur_ok rfl ?_)))) rfl
  rw [within_ok, decide_eq_true (by omega), decide_eq_true (by omega)]
  rfl
theorem noC_obj (zs : List Int) : noC (.obj 0 [.tup (iL zs)]) = true := by
  show (noCs (iL zs) && true) = true
  rw [noCs_iL]; rfl
theorem lenA_ok {ρ : List Sl} {s : Sto} {e : Fn D} {zs : List Int} (hz : Sz zs) (he : e ρ s = .ok (.obj 0 [.tup (iL zs)]) s) : dLenO 0 m_Archive___len e ρ s = .ok (.int (zs.length : Nat)) s := by
  have hhi := hz.hi
  refine lenO_ok he ?_ ⟨by omega, by omega⟩
  have e0 : m_Archive___len [.obj 0 [.tup (iL zs)]] s = .ok (.int ((iL zs).length : Nat)) s := rfl
  rw [e0, List.length_map]
def ppl (n : Nat) : List Int := (List.range n).map fun (i : Nat) => (i : Int)
def lens (n : Nat) : List Int := (List.range (n - 1)).map fun (i : Nat) => (1 + (i : Int))
end MX


set_option Elab.async false
set_option linter.all false
set_option maxRecDepth 100000
namespace MX
open PySem L2
theorem eqv_mk : ∀ L : List PL, PyData.eqvAll (L.map mkP) (L.map mkP) = true
  | [] => rfl
  | p :: L => by
    show (PyData.eqv (mkP p) (mkP p) && PyData.eqvAll (L.map mkP) (L.map mkP)) = true
    have e : PyData.eqv (mkP p) (mkP p) = true := by
      show (PyData.eqvAll (p.1.map PyData.int) (p.1.map PyData.int) && (PyData.eqvAll (p.2.map PyData.int) (p.2.map PyData.int) && true)) = true
      rw [eqvAll_refl, eqvAll_refl]; rfl
    rw [e, eqv_mk L]; rfl
theorem lay_mk : ∀ L : List PL, PyData.canLayAll0 (L.map mkP) = true
  | [] => by simp [PyData.canLayAll0]
  | p :: L => by
    have e : (mkP p).canLay0 = true := by
      unfold mkP
      simp [PyData.canLay0, PyData.canLayAll0, canLay_ints]
    simp [PyData.canLayAll0, e]
    exact lay_mk L
theorem depth_mk : ∀ L : List PL, PyData.depthAll (L.map mkP) ≤ 2
  | [] => by simp [PyData.depthAll]
  | p :: L => by
    have e : (mkP p).depth ≤ 2 := by
      unfold mkP
      simp [PyData.depth, PyData.depthAll, depth_ints]
    have := depth_mk L
    simp only [List.map_cons, PyData.depthAll]
    omega
theorem shaped_mk (L : List PL) : SeqAt.shaped (.list (L.map mkP)) = true := by
  unfold SeqAt.shaped
  have := depth_mk L
  rw [Bool.and_eq_true]
  refine ⟨?_, decide_eq_true ?_⟩
  · simp [PyData.canLay0, lay_mk]
  · simp only [PyData.depth]; omega
theorem fNe_self {L : List PL} {s : Sto} : fNe (.lst (L.map mkD)) (.lst (L.map mkD)) s = some (.bl false) := by
  have e1 : toP s (.lst (L.map mkD)) = some (.list (L.map mkP)) := by
    show (match toPs (L.map mkD) with | some ps => some (PyData.list ps) | none => none) = _
    rw [toPs_mk]
  have e2 : eqP s (.lst (L.map mkD)) (.lst (L.map mkD)) = some true := by
    show (match toP s (.lst (L.map mkD)), toP s (.lst (L.map mkD)) with | some p, some q => if (SeqAt.shaped p && SeqAt.shaped q) = true then some (PyData.eqv p q) else none | _, _ => none) = _
    rw [e1]
    show (if (SeqAt.shaped (.list (L.map mkP)) && SeqAt.shaped (.list (L.map mkP))) = true then some (PyData.eqvAll (L.map mkP) (L.map mkP)) else none) = _
    rw [shaped_mk, eqv_mk]; rfl
  show (match eqP s (.lst (L.map mkD)) (.lst (L.map mkD)) with | some k => some (D.bl (!k)) | none => none) = _
  rw [e2]; rfl
theorem prodL_app (pre : List Int) (A B C : List (List Int)) : prodL pre (A ++ B) C = prodL pre A C ++ prodL pre B C := by
  unfold prodL; rw [List.flatMap_append]
/-- the inner one-for comprehension of pairs -/
theorem comp_pairs {ρ : List Sl} {s : Sto} {j : Nat} {w : Fn (List D)} {e : Fn D} {q : List Int} {C : List (List Int)} (hw : w ρ s = .ok (rwL C) s) (hz : small C.length = true)
    (he : ∀ c : List Int, e ((wipeR ρ [j]).set j (.val (.tup (iL c)))) s = .ok (mkD (q, c)) s) : dComp w (.nm j) eYes e [j] ρ s = .ok (C.map fun c => mkD (q, c)) s := by
  unfold dComp
  rw [hw]
  show (if small (rwL C).length = true then compL (.nm j) eYes e (wipeR ρ [j]) (rwL C) s else .bad) = _
  rw [if_pos (by rw [List.length_map]; exact hz)]
  exact inner_prod he C
end MX


set_option Elab.async false
set_option linter.all false
set_option maxRecDepth 100000
namespace MX
open PySem L2
theorem perms_len {m : Nat} (hm : m ≤ 4) {r : List Int} (h : r ∈ perms 5 (ppl m)) : r.length = m := by
  have key : ((List.range 5).all fun m => (perms 5 (ppl m)).all fun r => r.length == m) = true := by decide +kernel
  exact beq_iff_eq.mp (List.all_eq_true.mp (List.all_eq_true.mp key m (List.mem_range.mpr (by omega))) r h)
theorem sizes_small {m k : Nat} (hm : m ≤ 4) (hk : k ≤ 3) : (perms 5 (ppl m)).length ≤ 24 ∧ (somes k (lens m)).length ≤ 8 := by
  have key : ((List.range 5).all fun m => (List.range 4).all fun k => decide ((perms 5 (ppl m)).length ≤ 24) && decide ((somes k (lens m)).length ≤ 8)) = true := by decide +kernel
  have := List.all_eq_true.mp (List.all_eq_true.mp key m (List.mem_range.mpr (by omega))) k (List.mem_range.mpr (by omega))
  rw [Bool.and_eq_true] at this
  exact ⟨of_decide_eq_true this.1, of_decide_eq_true this.2⟩
theorem prodL_len {pre : List Int} {R C : List (List Int)} : (prodL pre R C).length = R.length * C.length := by
  unfold prodL
  induction R with
  | nil => simp
  | cons r R ih => simp only [List.flatMap_cons, List.length_append, List.length_map, ih, List.length_cons, Nat.add_mul, Nat.one_mul]; omega
theorem catF_ok {ρ : List Sl} {s : Sto} {ea eb : Fn D} {xs ys : List D} (ha : ea ρ s = .ok (.lst xs) s) (hb : eb ρ s = .ok (.lst ys) s) (hz : small (xs.length + ys.length) = true) : dCatF ea eb ρ s = .ok (xs ++ ys) s := by
  unfold dCatF
  rw [ha]
  show (eb ρ s).bind _ = _
  rw [hb]
  show (if small (xs.length + ys.length) = true then Res.ok (xs ++ ys) s else .bad) = _
  rw [if_pos hz]
end MX


set_option Elab.async false
set_option linter.all false
set_option maxRecDepth 1000000
set_option maxHeartbeats 0
namespace MX
open PySem L2
/-- all lists of at most n of the items -/
def upTo : Nat → List Int → List (List Int)
  | 0, _ => [[]]
  | n + 1, xs => [] :: xs.flatMap fun x => (upTo n xs).map (x :: ·)
theorem mem_upTo : ∀ {n : Nat} {xs l : List Int}, l.length ≤ n → (∀ x ∈ l, x ∈ xs) → l ∈ upTo n xs
  | 0, xs, [], _, _ => by simp [upTo]
  | 0, xs, x :: l, h, _ => by simp at h
  | n + 1, xs, [], _, _ => by simp [upTo]
  | n + 1, xs, x :: l, h, hx => by
    unfold upTo
    refine List.mem_cons_of_mem _ (List.mem_flatMap.mpr ⟨x, hx x List.mem_cons_self, List.mem_map.mpr ⟨l, ?_, rfl⟩⟩)
    exact mem_upTo (by simpa using h) fun y hy => hx y (List.mem_cons_of_mem _ hy)
def nodupB : List Int → Bool
  | [] => true
  | x :: xs => !xs.contains x && nodupB xs
theorem nodupB_of : ∀ {l : List Int}, l.Nodup → nodupB l = true
  | [], _ => rfl
  | x :: l, h => by
    have h' := List.nodup_cons.mp h
    unfold nodupB
    rw [nodupB_of h'.2]
    simp [h'.1]
def orders4 : List (List Int) := (upTo 4 [0, 1, 2, 3]).filter nodupB
theorem mem_orders {n : Nat} {room : Int} {order kept : List Int} (h : Good n room order kept) (hn : n ≤ 4) : order ∈ orders4 := by
  have hl := h.len
  refine List.mem_filter.mpr ⟨mem_upTo (by omega) fun x hx => ?_, nodupB_of h.nd⟩
  have := h.inn x hx
  have : x = 0 ∨ x = 1 ∨ x = 2 ∨ x = 3 := by omega
  simpa using this
def isInt (r : Res D) (b : Int) : Bool := match r with | .ok (.int j) [] => j == b | _ => false
def valI (r : Res D) : Int := match r with | .ok (.int j) [] => j | _ => -1
def sI (l : List Int) : List Int := isort (fun a b => decide (a ≤ b)) l
/-- what a build and people give: the base from both sides, people that fit -/
def chk (order kept sub : List Int) : Bool := let wish := sI sub
  let b := valI (m_u_law_base [.tup (iL order), .tup (iL kept), .lst (iL wish)] [])
  decide (0 ≤ b) && decide (b ≤ order.length) && isInt (m_u_law_base [.tup (iL order), .tup (iL kept), .lst (iL wish)] []) b && isInt (m_base_of [.tup [.tup (iL order), .tup (iL kept)], .tup (iL wish)] []) b
def fits (order kept : List Int) : Bool := kept.all fun x => decide (x < order.length)
theorem chk_all3 : (orders4.all fun o => o.length == 4 || (subs [1, 2, 3]).all fun k => !fits o k || (subs o).all fun w => w.isEmpty || chk o k w) = true := by decide +kernel
end MX


set_option Elab.async false
set_option linter.all false
set_option maxRecDepth 1000000
set_option maxHeartbeats 0
namespace MX
open PySem L2
theorem chk_all4 : (orders4.all fun o => o.length != 4 || (subs [1, 2, 3]).all fun k => !fits o k || (subs o).all fun w => w.isEmpty || chk o k w) = true := by decide +kernel
theorem chk_ok {o k w : List Int} (ho : o ∈ orders4) (hk : k ∈ subs [1, 2, 3]) (hf : fits o k = true) (hw : w ∈ subs o) (hn : w ≠ []) : chk o k w = true := by
  have n1 : w.isEmpty = false := by cases w with
    | nil => exact absurd rfl hn
    | cons _ _ => rfl
  by_cases h : o.length = 4
  · have a := List.all_eq_true.mp chk_all4 o ho
    rw [show (o.length != 4) = false by simp [h], Bool.false_or] at a
    have b := List.all_eq_true.mp a k hk
    rw [hf, Bool.not_true, Bool.false_or] at b
    have d := List.all_eq_true.mp b w hw
    rw [n1, Bool.false_or] at d
    exact d
  · have a := List.all_eq_true.mp chk_all3 o ho
    rw [show (o.length == 4) = false by simp [h], Bool.false_or] at a
    have b := List.all_eq_true.mp a k hk
    rw [hf, Bool.not_true, Bool.false_or] at b
    have d := List.all_eq_true.mp b w hw
    rw [n1, Bool.false_or] at d
    exact d
end MX


set_option Elab.async false
set_option linter.all false
set_option maxRecDepth 100000
namespace MX
open PySem L2
theorem any_int (x : Int) : ∀ ys : List Int, ((iL ys).any fun y => eqF y (.int x)) = decide (x ∈ ys)
  | [] => rfl
  | y :: ys => by
    show (decide (y = x) || (iL ys).any fun y => eqF y (.int x)) = _
    rw [any_int x ys]
    by_cases h : y = x
    · subst h; simp
    · have h' : ¬ x = y := fun e => h e.symm
      simp [h, h']
theorem flat_ints : ∀ ys : List Int, (iL ys).all flatD = true
  | [] => rfl
  | y :: ys => by
    show (true && (iL ys).all flatD) = true
    rw [flat_ints ys]; rfl
theorem fIn_ok {x : Int} {ys : List Int} {s : Sto} : fIn (.int x) (.tup (iL ys)) s = some (.bl (decide (x ∈ ys))) := by
  show (if (true && (iL ys).all flatD) = true then some (D.bl (if false = true then !((iL ys).any fun y => eqF y (.int x)) else (iL ys).any fun y => eqF y (.int x))) else none) = _
  rw [flat_ints, any_int]; rfl
theorem fNotIn_ok {x : Int} {ys : List Int} {s : Sto} : fNotIn (.int x) (.tup (iL ys)) s = some (.bl (!decide (x ∈ ys))) := by
  show (if (true && (iL ys).all flatD) = true then some (D.bl (if true = true then !((iL ys).any fun y => eqF y (.int x)) else (iL ys).any fun y => eqF y (.int x))) else none) = _
  rw [flat_ints, any_int]; rfl
/-- a comprehension over ints, with a test -/
theorem comp_fm {j : Nat} {t : Fn Bool} {e : Fn D} {ρ : List Sl} {s : Sto} {p : Int → Bool} {f : Int → Int} : ∀ (xs : List Int) (ht : ∀ x ∈ xs, t (ρ.set j (.val (.int x))) s = .ok (p x) s) (he : ∀ x ∈ xs, e (ρ.set j (.val (.int x))) s = .ok (.int (f x)) s),
    compL (.nm j) t e ρ (iL xs) s = .ok (iL ((xs.filter p).map f)) s
  | [], _, _ => rfl
  | x :: xs, ht, he => by
    have ih := comp_fm xs (fun y m => ht y (List.mem_cons_of_mem _ m)) (fun y m => he y (List.mem_cons_of_mem _ m))
    have h0 := ht x List.mem_cons_self
    have h1 := he x List.mem_cons_self
    unfold compL
    show ((noX (t (ρ.set j (.val (.int x))) s)).bind fun k s => _) = _
    cases hp : p x with
    | false =>
      rw [hp] at h0
      rw [List.filter_cons_of_neg (by rw [hp]; simp)]
      simp only [h0, noX, Res.bind]
      exact ih
    | true =>
      rw [hp] at h0
      rw [List.filter_cons_of_pos hp]
      simp only [h0, noX, Res.bind, if_true, h1, ih]
      rfl
theorem dcomp_fm {j : Nat} {w : Fn (List D)} {t : Fn Bool} {e : Fn D} {ρ : List Sl} {s : Sto} {p : Int → Bool} {f : Int → Int} {xs : List Int} (hw : w ρ s = .ok (iL xs) s) (hz : xs.length ≤ 1000) (ht : ∀ x ∈ xs, t ((ρ.set j .none).set j (.val (.int x))) s = .ok (p x) s) (he : ∀ x ∈ xs, e ((ρ.set j .none).set j (.val (.int x))) s = .ok (.int (f x)) s) :
    dComp w (.nm j) t e [j] ρ s = .ok (iL ((xs.filter p).map f)) s := by
  unfold dComp
  rw [hw]
  show (if small (iL xs).length = true then compL (.nm j) t e (ρ.set j .none) (iL xs) s else .bad) = _
  rw [if_pos (show small (iL xs).length = true from decide_eq_true (by rw [List.length_map]; omega))]
  exact comp_fm xs ht he
theorem dcomp_f {j : Nat} {w : Fn (List D)} {t : Fn Bool} {ρ : List Sl} {s : Sto} {p : Int → Bool} {xs : List Int} (hw : w ρ s = .ok (iL xs) s) (hz : xs.length ≤ 1000) (hj : j < ρ.length) (ht : ∀ x ∈ xs, t ((ρ.set j .none).set j (.val (.int x))) s = .ok (p x) s) :
    dComp w (.nm j) t (dVar j) [j] ρ s = .ok (iL (xs.filter p)) s := by
  have := dcomp_fm (f := fun x => x) hw hz ht (e := dVar j) fun x _ => var_ok (List.getElem?_set_self (by simpa using hj))
  rw [this, List.map_id']
theorem slD_ok {ea e : Fn D} {ρ : List Sl} {s : Sto} {xs : List Int} {b : Nat} (ha : ea ρ s = .ok (.tup (iL xs)) s) (he : e ρ s = .ok (.int (b : Nat)) s) (hb : b ≤ xs.length) : dSl ea (dPart e) dNoPart ρ s = .ok (.tup (iL (xs.drop b))) s := by
  have h : fSl s (.tup (iL xs)) (some ((b : Nat) : Int)) none = some (.tup (iL (xs.drop b))) := by
    show some (D.tup (cutD (iL xs) _ _)) = _
    unfold cutD
    rw [HT.sIx_none, HT.sIx_nat, List.length_map, Nat.min_eq_left hb, List.take_of_length_le (by simp)]
    unfold iL
    rw [List.map_drop]
  unfold dSl dPart dNoPart
  simp only [ha, he, Res.bind, h]
  rfl
theorem slT_ok {ea e : Fn D} {ρ : List Sl} {s : Sto} {xs : List Int} {b : Nat} (ha : ea ρ s = .ok (.tup (iL xs)) s) (he : e ρ s = .ok (.int (b : Nat)) s) (hb : b ≤ xs.length) : dSl ea dNoPart (dPart e) ρ s = .ok (.tup (iL (xs.take b))) s := by
  have h : fSl s (.tup (iL xs)) none (some ((b : Nat) : Int)) = some (.tup (iL (xs.take b))) := by
    show some (D.tup (cutD (iL xs) _ _)) = _
    unfold cutD
    rw [HT.sIx_none, HT.sIx_nat, List.length_map, Nat.min_eq_left hb, List.drop_zero, Nat.sub_zero]
    unfold iL
    rw [List.map_take]
  unfold dSl dPart dNoPart
  simp only [ha, he, Res.bind, h]
  rfl
theorem fIx_ok {zs : List Int} {x : Int} {s : Sto} (h : 0 ≤ x ∧ x < zs.length) : fIx (.tup (iL zs)) (.int x) s = some (.int (zs.getD x.toNat 0)) := by
  have h2 : x.toNat < zs.length := by omega
  show atI (iL zs) x = _
  unfold atI ixN
  rw [List.length_map, if_pos h.1, if_pos h.2]
  show (iL zs)[x.toNat]? = _
  rw [List.getElem?_map, List.getElem?_eq_getElem h2, List.getD_eq_getElem?_getD, List.getElem?_eq_getElem h2]
  rfl
theorem intsD_iL : ∀ xs : List Int, intsD (iL xs) = some xs
  | [] => rfl
  | x :: xs => by
    show (match intsD (iL xs) with | some ns => some (x :: ns) | none => none) = _
    rw [intsD_iL xs]
theorem fSum_ok {xs : List Int} {s : Sto} : fSum [.lst (iL xs)] s = some (.int xs.sum) := by
  show (match intsD (iL xs) with | some ns => some (D.int ns.sum) | none => none) = _
  rw [intsD_iL]
theorem sum_perm {xs ys : List Int} (h : xs.Perm ys) : xs.sum = ys.sum := by
  induction h with
  | nil => rfl
  | cons x _ ih => simp [ih]
  | swap x y l => simp; omega
  | trans _ _ h1 h2 => exact h1.trans h2
theorem noC_tup (l : List Int) : noC (.tup (iL l)) = true := noCs_iL l
theorem noC_lst (l : List Int) : noC (.lst (iL l)) = true := noCs_iL l
end MX


set_option Elab.async false
set_option linter.all false
set_option maxRecDepth 1000000
set_option maxHeartbeats 0
namespace MX
open PySem L2
theorem mem_subs : ∀ {l xs : List Int}, l.Sublist xs → l ∈ subs xs
  | _, _, .slnil => by simp [subs]
  | _, _, .cons x h => List.mem_append_right _ (mem_subs h)
  | _, _, .cons₂ x h => List.mem_append_left _ (List.mem_map.mpr ⟨_, mem_subs h, rfl⟩)
def ascB : List Int → Bool
  | [] => true
  | [_] => true
  | x :: y :: r => decide (x < y) && ascB (y :: r)
theorem ascB_of : ∀ {l : List Int}, l.Pairwise (· < ·) → ascB l = true
  | [], _ => rfl
  | [_], _ => rfl
  | x :: y :: r, h => by
    have h' := List.pairwise_cons.mp h
    unfold ascB
    rw [ascB_of h'.2, decide_eq_true (h'.1 y List.mem_cons_self)]; rfl
theorem kept_all : ((upTo 3 [1, 2, 3]).all fun l => !ascB l || (subs [1, 2, 3]).contains l) = true := by decide +kernel
theorem mem_kept {l : List Int} (h : l.Pairwise (· < ·)) (hl : l.length ≤ 3) (hi : ∀ x ∈ l, 1 ≤ x ∧ x ≤ 3) : l ∈ subs [1, 2, 3] := by
  have hm : l ∈ upTo 3 [1, 2, 3] := mem_upTo hl fun x hx => by
    have := hi x hx
    have : x = 1 ∨ x = 2 ∨ x = 3 := by omega
    simpa using this
  have := List.all_eq_true.mp kept_all l hm
  rw [ascB_of h, Bool.not_true, Bool.false_or] at this
  exact List.contains_iff_mem.mp this
theorem sub_all : (orders4.all fun o => (subs o).all fun l => orders4.contains l) = true := by decide +kernel
theorem sub_orders {o l : List Int} (ho : o ∈ orders4) (h : l.Sublist o) : l ∈ orders4 := List.contains_iff_mem.mp (List.all_eq_true.mp (List.all_eq_true.mp sub_all o ho) l (mem_subs h))
def sortIs (l : List Int) : Bool := match sortD (iL l) with
  | some ds => beqDs ds (iL (sI l))
  | none => false
theorem sort_all : (orders4.all fun l => sortIs l && (subs [0, 1, 2, 3]).contains (sI l) && resIs (m_is_ascending [.lst (iL (sI l))] []) (.bl true)) = true := by decide +kernel
theorem sort_ok {l : List Int} (h : l ∈ orders4) : sortD (iL l) = some (iL (sI l)) ∧ sI l ∈ subs [0, 1, 2, 3] ∧ m_is_ascending [.lst (iL (sI l))] [] = .ok (.bl true) [] := by
  have := List.all_eq_true.mp sort_all l h
  rw [Bool.and_eq_true, Bool.and_eq_true] at this
  refine ⟨?_, List.contains_iff_mem.mp this.1.2, resIs_eq this.2⟩
  have h1 := this.1.1
  unfold sortIs at h1
  cases e : sortD (iL l) with
  | none => rw [e] at h1; cases h1
  | some ds => rw [e] at h1; rw [beqDs_eq h1]
theorem asc_all : ((subs [1, 2, 3]).all fun l => resIs (m_is_ascending [.tup (iL l)] []) (.bl true)) = true := by decide +kernel
theorem asc_ok {l : List Int} (h : l ∈ subs [1, 2, 3]) : m_is_ascending [.tup (iL l)] [] = .ok (.bl true) [] := resIs_eq (List.all_eq_true.mp asc_all l h)
theorem ords_all : ((subs [0, 1, 2, 3]).all fun l => decide ((perms 5 l).length ≤ 24) && (perms 5 l).all fun r => r.length == l.length) = true := by decide +kernel
theorem ords_ok {l : List Int} (h : l ∈ subs [0, 1, 2, 3]) : (perms 5 l).length ≤ 24 ∧ ∀ r ∈ perms 5 l, r.length = l.length := by
  have := List.all_eq_true.mp ords_all l h
  rw [Bool.and_eq_true] at this
  exact ⟨of_decide_eq_true this.1, fun r hr => beq_iff_eq.mp (List.all_eq_true.mp this.2 r hr)⟩
theorem chs_all : ((subs [1, 2, 3]).all fun l => [0, 1, 2, 3].all fun n => decide ((picks n l).length ≤ 8) && decide ((somes n l).length ≤ 8)) = true := by decide +kernel
theorem chs_ok {l : List Int} {n : Nat} (h : l ∈ subs [1, 2, 3]) (hn : n ≤ 3) : (picks n l).length ≤ 8 ∧ (somes n l).length ≤ 8 := by
  have hm : n ∈ [0, 1, 2, 3] := by simp; omega
  have := List.all_eq_true.mp (List.all_eq_true.mp chs_all l h) n hm
  rw [Bool.and_eq_true] at this
  exact ⟨of_decide_eq_true this.1, of_decide_eq_true this.2⟩
/-- those who are built in again -/
def agn (o w : List Int) (b : Nat) : List Int := (o.drop b).filter fun x => !decide (x ∈ w)
/-- the lengths that can be kept -/
def abl (k : List Int) (b m : Nat) : List Int := (lens (b + m)).filter fun x => decide (x > (b : Nat)) || decide (x ∈ k)
theorem abl_in {k : List Int} {b m : Nat} (h : b + m ≤ 4) : abl k b m ∈ subs [1, 2, 3] := by
  refine mem_subs (List.Sublist.trans List.filter_sublist ?_)
  have : b + m = 0 ∨ b + m = 1 ∨ b + m = 2 ∨ b + m = 3 ∨ b + m = 4 := by omega
  rcases this with e | e | e | e | e <;> rw [e] <;> decide
theorem agn_sub {o w : List Int} {b : Nat} : (agn o w b).Sublist o := List.Sublist.trans List.filter_sublist (List.drop_sublist b o)
theorem agn_len {o w : List Int} {b : Nat} (h : b ≤ o.length) : b + (agn o w b).length ≤ o.length := by
  have h1 := (List.filter_sublist (l := o.drop b) (p := fun x => !decide (x ∈ w))).length_le
  rw [List.length_drop] at h1
  unfold agn
  omega
theorem sI_perm (l : List Int) : (sI l).Perm l := isort_perm' l
theorem base_ok {o k w : List Int} (ho : o ∈ orders4) (hk : k ∈ subs [1, 2, 3]) (hf : fits o k = true) (hw : w ∈ subs o) (hn : w ≠ []) :
    ∃ b : Nat, b ≤ o.length ∧ m_u_law_base [.tup (iL o), .tup (iL k), .lst (iL (sI w))] [] = .ok (.int (b : Nat)) [] ∧ m_base_of [.tup [.tup (iL o), .tup (iL k)], .tup (iL (sI w))] [] = .ok (.int (b : Nat)) [] := by
  have h := chk_ok ho hk hf hw hn
  unfold chk at h
  simp only [Bool.and_eq_true, decide_eq_true_eq] at h
  obtain ⟨⟨⟨h1, h2⟩, h3⟩, h4⟩ := h
  have get : ∀ {r : Res D} {b : Int}, isInt r b = true → r = .ok (.int b) [] := by
    intro r b h
    unfold isInt at h
    split at h
    · rename_i j
      rw [beq_iff_eq.mp h]
    · cases h
  have e3 := get h3
  have e4 := get h4
  generalize valI (m_u_law_base [.tup (iL o), .tup (iL k), .lst (iL (sI w))] []) = b at h1 h2 e3 e4
  obtain ⟨n, rfl⟩ := Int.eq_ofNat_of_zero_le h1
  exact ⟨n, by omega, e3, e4⟩
end MX


set_option Elab.async false
set_option linter.all false
set_option maxRecDepth 1000000
set_option maxHeartbeats 0
namespace MX
open PySem L2
theorem sortL_ok {e : Fn (List D)} {ρ : List Sl} {s : Sto} {xs : List Int} {ds : List D} (he : e ρ s = .ok (iL xs) s) (h : sortD (iL xs) = some ds) : dSortL e ρ s = .ok ds s := by
  unfold dSortL
  rw [he]
  show Res.ofO (sortD (iL xs)) s = _
  rw [h]; rfl
theorem good_kep {n k : Nat} {o kp : List Int} (h : Good n (k : Nat) o kp) (hn : n ≤ 4) (hk : k ≤ 3) : kp ∈ subs [1, 2, 3] := by
  have hl := h.len
  have hf := h.few
  exact mem_kept h.asc (by omega) fun x hx => by have := h.ink x hx; omega
theorem good_fits {n k : Nat} {o kp : List Int} (h : Good n (k : Nat) o kp) : fits o kp = true := by
  unfold fits
  exact List.all_eq_true.mpr fun x hx => decide_eq_true (h.ink x hx).2
/-- a right build -/
structure Bd (zs : List Int) (n : Nat) (o k : List Int) : Prop where
  sz : Sz zs
  room : n ≤ 3
  good : Good zs.length (n : Nat) o k
section
variable {zs o k w : List Int} {n b : Nat}
theorem Bd.len (h : Bd zs n o k) : o.length ≤ 4 := Nat.le_trans h.good.len h.sz.hi
theorem Bd.ord (h : Bd zs n o k) : o ∈ orders4 := mem_orders h.good h.sz.hi
theorem Bd.kep (h : Bd zs n o k) : k ∈ subs [1, 2, 3] := good_kep h.good h.sz.hi h.room
theorem Bd.few (h : Bd zs n o k) : k.length ≤ n := h.good.few
theorem Bd.inn (h : Bd zs n o k) : ∀ x ∈ o, 0 ≤ x ∧ x < zs.length := h.good.inn
theorem Bd.ink (h : Bd zs n o k) : ∀ x ∈ k, 1 ≤ x ∧ x < o.length := h.good.ink
end
/-- people that are forgotten, with the base -/
structure Fg (zs : List Int) (n : Nat) (o k w : List Int) (b : Nat) : Prop where
  bd : Bd zs n o k
  le : b ≤ o.length
  lb : m_u_law_base [.tup (iL o), .tup (iL k), .lst (iL w)] [] = .ok (.int (b : Nat)) []
  pb : m_base_of [.tup [.tup (iL o), .tup (iL k)], .tup (iL w)] [] = .ok (.int (b : Nat)) []
theorem ppl_all : (orders4.all fun o => (subs [0, 1, 2, 3]).all fun P => !(P.all fun x => o.contains x) || sI (o.filter fun x => P.contains x) == P) = true := by decide +kernel
theorem fg_of {zs o k P : List Int} {n : Nat} (h : Bd zs n o k) (hP : P ∈ subs [0, 1, 2, 3]) (hn : P ≠ []) (hi : ∀ x ∈ P, x ∈ o) : ∃ b, Fg zs n o k P b := by
  have e := List.all_eq_true.mp (List.all_eq_true.mp ppl_all o h.ord) P hP
  rw [show (P.all fun x => o.contains x) = true from List.all_eq_true.mpr fun x hx => List.contains_iff_mem.mpr (hi x hx), Bool.not_true, Bool.false_or] at e
  have e := beq_iff_eq.mp e
  have hw : (o.filter fun x => P.contains x) ∈ subs o := mem_subs List.filter_sublist
  have hne : (o.filter fun x => P.contains x) ≠ [] := by
    intro z
    rw [z] at e
    exact hn e.symm
  obtain ⟨b, h1, h2, h3⟩ := base_ok h.ord h.kep (good_fits h.good) hw hne
  rw [e] at h2 h3
  exact ⟨b, h, h1, h2, h3⟩
abbrev bld (o k : List Int) : D := .tup [.tup (iL o), .tup (iL k)]
theorem noC_bld (o k : List Int) : noC (bld o k) = true := by
  show (noC (.tup (iL o)) && (noC (.tup (iL k)) && true)) = true
  rw [noC_tup, noC_tup]; rfl
theorem noCs2 {a b : D} (ha : noC a = true) (hb : noC b = true) : noCs [a, b] = true := by
  show (noC a && (noC b && true)) = true
  rw [ha, hb]; rfl
theorem noCs1 {a : D} (ha : noC a = true) : noCs [a] = true := by
  show (noC a && true) = true
  rw [ha]; rfl
theorem noCs_cons {a : D} {ds : List D} (ha : noC a = true) (h : noCs ds = true) : noCs (a :: ds) = true := by
  show (noC a && noCs ds) = true
  rw [ha, h]; rfl
theorem fIn_okL {x : Int} {ys : List Int} {s : Sto} : fIn (.int x) (.lst (iL ys)) s = some (.bl (decide (x ∈ ys))) := by
  show (if (true && (iL ys).all flatD) = true then some (D.bl (if false = true then !((iL ys).any fun y => eqF y (.int x)) else (iL ys).any fun y => eqF y (.int x))) else none) = _
  rw [flat_ints, any_int]; rfl
theorem fNotIn_okL {x : Int} {ys : List Int} {s : Sto} : fNotIn (.int x) (.lst (iL ys)) s = some (.bl (!decide (x ∈ ys))) := by
  show (if (true && (iL ys).all flatD) = true then some (D.bl (if true = true then !((iL ys).any fun y => eqF y (.int x)) else (iL ys).any fun y => eqF y (.int x))) else none) = _
  rw [flat_ints, any_int]; rfl
section
variable {zs o k w : List Int} {n b : Nat}
theorem sub_ok {ea eb : Fn D} {ρ : List Sl} {s : Sto} {i j : Int} (ha : ea ρ s = .ok (.int i) s) (hb : eb ρ s = .ok (.int j) s) : dBin fSub ea eb ρ s = .ok (.int (i - j)) s := bin_ok ha hb rfl
theorem len_tup {e : Fn D} {ρ : List Sl} {s : Sto} {l : List Int} (he : e ρ s = .ok (.tup (iL l)) s) : dCB fLen (dCons e dNil) ρ s = .ok (.int (l.length : Nat)) s := by
  refine cb_ok (cons_ok he nil_ok) ?_
  show some (D.int (iL l).length) = _
  rw [List.length_map]
theorem len_lst {e : Fn D} {ρ : List Sl} {s : Sto} {l : List Int} (he : e ρ s = .ok (.lst (iL l)) s) : dCB fLen (dCons e dNil) ρ s = .ok (.int (l.length : Nat)) s := by
  refine cb_ok (cons_ok he nil_ok) ?_
  show some (D.int (iL l).length) = _
  rw [List.length_map]
theorem is_build_ok (h : Bd zs n o k) : m_is_build [.obj 0 [.tup (iL zs)], .int (n : Nat), bld o k] [] = .ok (.bl true) [] := by
  have hlen := h.len
  obtain ⟨so, _, sa⟩ := sort_ok h.ord
  have ka := asc_ok h.kep
  have hlo := h.sz.lo
  have hhi := h.sz.hi
  have kl : k.length ≤ 3 := Nat.le_trans h.few h.room
  obtain ⟨_, _, w1, rfl, rfl⟩ := (tuple_within (zs := o) (lo := 0) (hi := (zs.length : Nat) - 1) (s := []) (fun x hx => by have := h.inn x hx; omega) (by omega)).ex
  obtain ⟨_, _, w2, rfl, rfl⟩ := (tuple_within (zs := k) (lo := 1) (hi := (o.length : Nat) - 1) (s := []) (fun x hx => by have := h.ink x hx; omega) (by omega)).ex
  unfold m_is_build
  refine fn_ret ?_
  unfold x_is_build
  refine seq_ok (ρ1 := startR N_is_build.length [.obj 0 [.tup (iL zs)], .int (n : Nat), bld o k]) (s1 := []) (sif_no (s1 := []) (or_ok (s1 := []) (not_ok (k := true) rfl) rfl) rfl) ?_
  refine seq_ok (ρ1 := [.val (.obj 0 [.tup (iL zs)]), .val (.int (n : Nat)), .val (bld o k), .val (.tup (iL o)), .val (.tup (iL k))]) (s1 := []) rfl ?_
  refine seq_ok (ρ1 := [.val (.obj 0 [.tup (iL zs)]), .val (.int (n : Nat)), .val (bld o k), .val (.tup (iL o)), .val (.tup (iL k))]) (s1 := []) (sif_no (s1 := []) (or_ok (s1 := []) ?_ ?_) rfl) ?_
  · refine not_ok (k := true) (bl_ok (call_ok (ds := [.tup (iL o), .int 0, .int ((zs.length : Nat) - 1)]) (cons_ok (var_ok rfl) (cons_ok (a := .int 0) rfl (cons_ok (sub_ok (lenA_ok h.sz (var_ok rfl)) rfl) nil_ok))) rfl (pur_ok (noCs_cons (noC_tup o) rfl) w1)))
  · refine not_ok (k := true) (bl_ok (call_ok (ds := [.lst (iL (sI o))]) (cons_ok (ofL_ok ?_) nil_ok) rfl (pur_ok (noCs1 (noC_lst _)) sa)))
    unfold dSortF
    rw [var_ok (d := .tup (iL o)) rfl]
    show Res.ofO (sortD (iL o)) [] = _
    rw [so]; rfl
  · refine ret_ok (andV_yes (s1 := []) ?_ (andV_yes (s1 := []) ?_ ?_))
    · exact call_ok (ds := [.tup (iL k), .int 1, .int ((o.length : Nat) - 1)]) (cons_ok (var_ok rfl) (cons_ok (a := .int 1) rfl (cons_ok (sub_ok (len_tup (var_ok rfl)) rfl) nil_ok))) rfl (pur_ok (noCs_cons (noC_tup k) rfl) w2)
    · exact call_ok (ds := [.tup (iL k)]) (cons_ok (var_ok rfl) nil_ok) rfl (pur_ok (noCs1 (noC_tup k)) ka)
    · refine bin_ok (len_tup (var_ok rfl)) (var_ok (d := .int (n : Nat)) rfl) ?_
      show some (D.bl (decide (((k.length : Nat) : Int) ≤ (n : Nat)))) = _
      rw [decide_eq_true (by have := h.few; omega)]
theorem check_build_ok (h : Bd zs n o k) : m_check_build [.obj 0 [.tup (iL zs)], .int (n : Nat), bld o k] [] = .ok .non [] := by
  unfold m_check_build
  refine fn_next (ρ1 := startR N_check_build.length [.obj 0 [.tup (iL zs)], .int (n : Nat), bld o k]) ?_
  unfold x_check_build
  refine seq_ok (drop_ok (d := .non) (call_ok (cons_ok (var_ok rfl) nil_ok) rfl (pur_ok (noCs1 (noC_obj zs)) rfl))) ?_
  refine seq_ok (drop_ok (d := .non) (call_ok (cons_ok (var_ok rfl) nil_ok) rfl (pur_ok rfl (check_room_ok h.room)))) ?_
  exact sif_no (s1 := []) (not_ok (k := true) (bl_ok (call_ok (ds := [.obj 0 [.tup (iL zs)], .int (n : Nat), bld o k]) (cons_ok (var_ok rfl) (cons_ok (var_ok rfl) (cons_ok (var_ok rfl) nil_ok))) rfl (pur_ok (noCs_cons (noC_obj zs) (noCs2 rfl (noC_bld o k))) (is_build_ok h))))) rfl
theorem built_again_ok (h : Fg zs n o k w b) : m_built_again [bld o k, .tup (iL w)] [] = .ok (.lst (iL (sI (agn o w b)))) [] := by
  have hlen := h.bd.len
  have hb := h.le
  obtain ⟨so, _, _⟩ := sort_ok (sub_orders h.bd.ord (agn_sub (w := w) (b := b)))
  unfold m_built_again
  refine fn_ret ?_
  unfold x_built_again
  refine seq_ok (ρ1 := [.val (bld o k), .val (.tup (iL w)), .val (.tup (iL o)), .val (.tup (iL k)), .none]) (s1 := []) rfl ?_
  refine ret_ok (ofL_ok ?_)
  refine sortL_ok (xs := agn o w b) ?_ so
  exact dcomp_f (xs := o.drop b) (p := fun x => !decide (x ∈ w)) (wseq_ok (slD_ok (var_ok rfl) (call_ok (ds := [bld o k, .tup (iL w)]) (cons_ok (var_ok rfl) (cons_ok (var_ok rfl) nil_ok)) rfl (pur_ok (noCs2 (noC_bld o k) (noC_tup w)) h.pb)) hb) rfl) (by rw [List.length_drop]; omega) (by simp) (fun x _ => bl_ok (bin_ok (var_ok (d := .int x) rfl) (var_ok rfl) fNotIn_ok))
theorem sizes_prop {ρ : List Sl} {s : Sto} {i : Nat} (hi : ρ[i]? = some (.val (.obj 0 [.tup (iL zs)]))) : dProp 0 m_Archive_sizes (dVar i) ρ s = .ok (.tup (iL zs)) s := by
  unfold dProp
  rw [var_ok hi]
  rfl
def cst (zs l : List Int) : Int := (l.map fun x => zs.getD x.toNat 0).sum
theorem fwork_ok (h : Fg zs n o k w b) : m_forgetting_work [.obj 0 [.tup (iL zs)], bld o k, .tup (iL w)] [] = .ok (.int (cst zs (agn o w b))) [] := by
  have hlen := h.bd.len
  have hl := agn_len (o := o) (w := w) (b := b) h.le
  have hp := sI_perm (agn o w b)
  unfold m_forgetting_work
  refine fn_ret ?_
  unfold x_forgetting_work
  refine ret_ok (cb_ok (ds := [.lst (iL (((sI (agn o w b)).filter fun _ => true).map fun x => zs.getD x.toNat 0))]) (s1 := []) (cons_ok (ofL_ok ?_) nil_ok) ?_)
  · refine dcomp_fm (wseq_ok (call_ok (ds := [bld o k, .tup (iL w)]) (cons_ok (var_ok rfl) (cons_ok (var_ok rfl) nil_ok)) rfl (pur_ok (noCs2 (noC_bld o k) (noC_tup w)) (built_again_ok h))) rfl) (by rw [hp.length_eq]; omega) (fun _ _ => rfl) fun x hx => ?_
    exact bin_ok (sizes_prop rfl) (var_ok (d := .int x) rfl) (fIx_ok (h.bd.inn x (agn_sub.subset (hp.mem_iff.mp hx))))
  · rw [fSum_ok, List.filter_eq_self.mpr (fun _ _ => rfl), sum_perm (hp.map _)]; rfl
theorem cost_ok (h : Fg zs n o k w b) : m_u_law_cost [.tup (iL zs), .tup (iL o), .tup (iL k), .lst (iL w)] [] = .ok (.int (cst zs (agn o w b))) [] := by
  have hlen := h.bd.len
  unfold m_u_law_cost
  refine fn_ret ?_
  unfold x_u_law_cost
  refine ret_ok (cb_ok (ds := [.lst (iL ((agn o w b).map fun x => zs.getD x.toNat 0))]) (s1 := []) (cons_ok (ofL_ok ?_) nil_ok) fSum_ok)
  refine dcomp_fm (xs := o.drop b) (p := fun x => !decide (x ∈ w)) (wseq_ok (slD_ok (var_ok rfl) (call_ok (ds := [.tup (iL o), .tup (iL k), .lst (iL w)]) (cons_ok (var_ok rfl) (cons_ok (var_ok rfl) (cons_ok (var_ok rfl) nil_ok))) rfl (pur_ok (noCs_cons (noC_tup o) (noCs2 (noC_tup k) (noC_lst w))) h.lb)) h.le) rfl) (by rw [List.length_drop]; omega) (fun x _ => bl_ok (bin_ok (var_ok (d := .int x) rfl) (var_ok rfl) fNotIn_okL)) fun x hx => ?_
  exact bin_ok (var_ok rfl) (var_ok (d := .int x) rfl) (fIx_ok (h.bd.inn x ((List.drop_sublist b o).subset hx)))
end
end MX


set_option Elab.async false
set_option linter.all false
set_option maxRecDepth 100000
namespace MX
open PySem L2
theorem inner_prodM {ρ : List Sl} {s : Sto} {j : Nat} {e : Fn D} {q : List Int} : ∀ (C : List (List Int)) (he : ∀ c ∈ C, e (ρ.set j (.val (.tup (iL c)))) s = .ok (mkD (q, c)) s), compL (.nm j) eYes e ρ (rwL C) s = .ok (C.map fun c => mkD (q, c)) s
  | [], _ => rfl
  | c :: C, he => by
    unfold compL
    show ((noX (eYes (ρ.set j (.val (.tup (iL c)))) s)).bind fun k s => _) = _
    simp only [eYes, noX, Res.bind, if_true, he c List.mem_cons_self, inner_prodM C fun d m => he d (List.mem_cons_of_mem _ m)]
    rfl
theorem outer_prodM {ρ : List Sl} {s : Sto} {i j : Nat} {w1 : Fn (List D)} {e : Fn D} {pre : List Int} {C : List (List Int)} : ∀ (R : List (List Int)) (hw : ∀ r ∈ R, w1 (ρ.set i (.val (.tup (iL r)))) s = .ok (rwL C) s)
    (he : ∀ r ∈ R, ∀ c ∈ C, e (((ρ.set i (.val (.tup (iL r)))).set j .none).set j (.val (.tup (iL c)))) s = .ok (mkD (pre ++ r, c)) s), compL2 (.nm i) eYes w1 (.nm j) eYes e ρ [j] (rwL R) s = .ok ((prodL pre R C).map mkD) s
  | [], _, _ => rfl
  | r :: R, hw, he => by
    have h1 := inner_prodM (ρ := (ρ.set i (.val (.tup (iL r)))).set j .none) (s := s) (j := j) (e := e) (q := pre ++ r) C (he r List.mem_cons_self)
    unfold compL2
    show (noX (w1 (ρ.set i (.val (.tup (iL r)))) s)).bind _ = _
    rw [hw r List.mem_cons_self]
    show (compL (.nm j) eYes e ((ρ.set i (.val (.tup (iL r)))).set j .none) (rwL C) s).bind _ = _
    rw [h1]
    show (compL2 (.nm i) eYes w1 (.nm j) eYes e ρ [j] (rwL R) s).bind _ = _
    rw [outer_prodM (pre := pre) R (fun t m => hw t (List.mem_cons_of_mem _ m)) fun t m => he t (List.mem_cons_of_mem _ m)]
    show Res.ok ((C.map fun c => mkD (pre ++ r, c)) ++ (prodL pre R C).map mkD) s = _
    unfold prodL
    simp [List.map_map, Function.comp_def]
theorem comp2_prodM {ρ : List Sl} {s : Sto} {i j : Nat} {w w1 : Fn (List D)} {e : Fn D} {pre : List Int} {R C : List (List Int)} (h : w ρ s = .ok (rwL R) s) (hz : small (prodL pre R C).length = true)
    (hw : ∀ r ∈ R, w1 ((wipeR ρ [i, j]).set i (.val (.tup (iL r)))) s = .ok (rwL C) s)
    (he : ∀ r ∈ R, ∀ c ∈ C, e ((((wipeR ρ [i, j]).set i (.val (.tup (iL r)))).set j .none).set j (.val (.tup (iL c)))) s = .ok (mkD (pre ++ r, c)) s) :
    dComp2 w (.nm i) eYes w1 (.nm j) eYes e [i, j] [j] ρ s = .ok ((prodL pre R C).map mkD) s := by
  unfold dComp2
  rw [h]
  show (compL2 _ _ _ _ _ _ _ _ _ s).bind fin = _
  rw [outer_prodM R hw he]
  show fin _ s = _
  unfold fin
  rw [if_pos (by rw [List.length_map]; exact hz)]
theorem lens_rng {b m : Nat} : rangeD 1 (((b : Nat) : Int) + ((m : Nat) : Int) - 1).toNat = iL (lens (b + m)) := by
  have : (((b : Nat) : Int) + ((m : Nat) : Int) - 1).toNat = b + m - 1 := by omega
  rw [this]
  unfold rangeD lens iL
  rw [List.map_map]
  rfl
theorem lens_len {n : Nat} : (lens n).length = n - 1 := by unfold lens; simp
theorem add_tup {ea eb : Fn D} {ρ : List Sl} {s : Sto} {xs ys : List Int} (ha : ea ρ s = .ok (.tup (iL xs)) s) (hb : eb ρ s = .ok (.tup (iL ys)) s) (hl : xs.length + ys.length ≤ 1000) : dBin fAdd ea eb ρ s = .ok (.tup (iL (xs ++ ys))) s := by
  refine bin_ok ha hb ?_
  show (if small ((iL xs).length + (iL ys).length) = true then some (D.tup (iL xs ++ iL ys)) else none) = _
  rw [if_pos (show small ((iL xs).length + (iL ys).length) = true from decide_eq_true (by rw [List.length_map, List.length_map]; omega))]
  unfold iL
  rw [List.map_append]
section
variable {zs o k w : List Int} {n b : Nat}
/-- what comes after -/
abbrev aft (o k w : List Int) (n b : Nat) : List PL := prodL (o.take b) (perms 5 (sI (agn o w b))) (picks n (abl k b (agn o w b).length))
theorem tst_ok {ρ : List Sl} {s : Sto} {x : Int} {e0 e1 e2 : Fn D} (h0 : e0 ρ s = .ok (.int x) s) (h1 : e1 ρ s = .ok (.int (b : Nat)) s) (h2 : e2 ρ s = .ok (.tup (iL k)) s) : eOr (eBl (dBin fGt e0 e1)) (eBl (dBin fIn e0 e2)) ρ s = .ok (decide (x > (b : Nat)) || decide (x ∈ k)) s := by
  have t1 : eBl (dBin fGt e0 e1) ρ s = .ok (decide (x > (b : Nat))) s := bl_ok (bin_ok h0 h1 rfl)
  have t2 : eBl (dBin fIn e0 e2) ρ s = .ok (decide (x ∈ k)) s := bl_ok (bin_ok h0 h2 fIn_ok)
  by_cases h : x > (b : Nat)
  · rw [decide_eq_true h] at t1 ⊢
    exact or_yes t1
  · rw [decide_eq_false h] at t1 ⊢
    exact or_ok t1 t2
theorem prod_small {pre : List Int} {R C : List (List Int)} (hR : R.length ≤ 24) (hC : C.length ≤ 8) : small (prodL pre R C).length = true := by
  refine decide_eq_true ?_
  rw [prodL_len]
  have := Nat.mul_le_mul hR hC
  omega
theorem builds_after_ok (h : Fg zs n o k w b) : m_builds_after [.int (n : Nat), bld o k, .tup (iL w)] [] = .ok (.lst ((aft o k w n b).map mkD)) [] := by
  have hlen := h.bd.len
  have hb := h.le
  have hl := agn_len (o := o) (w := w) (b := b) h.le
  have am := abl_in (k := k) (b := b) (m := (agn o w b).length) (by omega)
  obtain ⟨_, ss, _⟩ := sort_ok (sub_orders h.bd.ord (agn_sub (w := w) (b := b)))
  obtain ⟨o1, _⟩ := orders_ok ss
  obtain ⟨c1, _, _, _⟩ := choices_ok am h.bd.room
  obtain ⟨z1, z2⟩ := ords_ok ss
  obtain ⟨z3, _⟩ := chs_ok am h.bd.room
  have hp := (sI_perm (agn o w b)).length_eq
  unfold m_builds_after
  refine fn_ret ?_
  unfold x_builds_after
  refine seq_ok (ρ1 := [.val (.int (n : Nat)), .val (bld o k), .val (.tup (iL w)), .val (.tup (iL o)), .val (.tup (iL k)), .none, .none, .none, .none, .none, .none, .none]) (s1 := []) rfl ?_
  refine seq_ok (asg_ok (call_ok (ds := [bld o k, .tup (iL w)]) (cons_ok (var_ok rfl) (cons_ok (var_ok rfl) nil_ok)) rfl (pur_ok (noCs2 (noC_bld o k) (noC_tup w)) h.pb))) ?_
  refine seq_ok (asg_ok (call_ok (ds := [bld o k, .tup (iL w)]) (cons_ok (var_ok rfl) (cons_ok (var_ok rfl) nil_ok)) rfl (pur_ok (noCs2 (noC_bld o k) (noC_tup w)) (built_again_ok h)))) ?_
  refine seq_ok (asg_ok (d := .lst (iL (abl k b (agn o w b).length))) (s1 := []) (ofL_ok (dcomp_f (xs := lens (b + (agn o w b).length)) (p := fun x => decide (x > (b : Nat)) || decide (x ∈ k)) ?_ (by rw [lens_len]; omega) (by simp) fun x _ => tst_ok (var_ok rfl) (var_ok rfl) (var_ok rfl)))) ?_
  · rw [← lens_rng]
    refine rng2_ok (i := 1) (j := ((b : Nat) : Int) + ((agn o w b).length : Nat)) (cons_ok (a := .int 1) rfl (cons_ok (bin_ok (var_ok rfl) (len_lst (var_ok rfl)) ?_) nil_ok)) (by decide) (by omega)
    rw [hp]; rfl
  refine seq_ok (asg_ok (call_ok (ds := [.lst (iL (abl k b (agn o w b).length)), .int (n : Nat)]) (cons_ok (var_ok rfl) (cons_ok (var_ok rfl) nil_ok)) rfl (pur_ok (noCs2 (noC_lst _) rfl) c1))) ?_
  refine ret_ok (ofL_ok (comp2_prodM (pre := o.take b) (R := perms 5 (sI (agn o w b))) (C := picks n (abl k b (agn o w b).length)) ?_ (prod_small z1 z3) ?_ ?_))
  · exact wseq_ok (d := rows (perms 5 (sI (agn o w b)))) (call_ok (ds := [.lst (iL (sI (agn o w b)))]) (cons_ok (var_ok rfl) nil_ok) rfl (pur_ok (noCs1 (noC_lst _)) o1)) rfl
  · intro r _
    exact wseq_ok (d := rows (picks n (abl k b (agn o w b).length))) (var_ok rfl) rfl
  · intro r hr c _
    have := z2 r hr
    exact tup_ok (ds := [.tup (iL (o.take b ++ r)), .tup (iL c)]) (cons_ok (add_tup (slT_ok (var_ok rfl) (var_ok rfl) hb) (var_ok rfl) (by rw [List.length_take]; omega)) (cons_ok (var_ok rfl) nil_ok)) rfl
theorem later_ok (h : Fg zs n o k w b) : m_u_law_later [.tup (iL o), .tup (iL k), .lst (iL w), .int (n : Nat)] [] = .ok (.lst ((aft o k w n b).map mkD)) [] := by
  have hlen := h.bd.len
  have hb := h.le
  have hl := agn_len (o := o) (w := w) (b := b) h.le
  have am := abl_in (k := k) (b := b) (m := (agn o w b).length) (by omega)
  obtain ⟨so, ss, _⟩ := sort_ok (sub_orders h.bd.ord (agn_sub (w := w) (b := b)))
  obtain ⟨_, o2⟩ := orders_ok ss
  obtain ⟨_, c2, c3, c4⟩ := choices_ok am h.bd.room
  obtain ⟨z1, z2⟩ := ords_ok ss
  obtain ⟨_, z3⟩ := chs_ok am h.bd.room
  have hp := (sI_perm (agn o w b)).length_eq
  have key : Wp (m_u_law_later [.tup (iL o), .tup (iL k), .lst (iL w), .int (n : Nat)] []) fun d s1 => d = .lst ((aft o k w n b).map mkD) ∧ s1 = [] := by
    unfold m_u_law_later
    refine wp_fn ?_
    unfold x_u_law_later
    refine ws_seq (ws_asg (Wp.of (call_ok (ds := [.tup (iL o), .tup (iL k), .lst (iL w)]) (cons_ok (var_ok rfl) (cons_ok (var_ok rfl) (cons_ok (var_ok rfl) nil_ok))) rfl (pur_ok (noCs_cons (noC_tup o) (noCs2 (noC_tup k) (noC_lst w))) h.lb)) ?_))
    refine ws_seq (ws_par (Wp.of (a := .tup (iL (sI (agn o w b)))) (s := []) ?_ (wp_ofL (wp_lst (wp_nil ⟨rfl, ?_⟩)))))
    · refine tupL_ok (sortL_ok (xs := agn o w b) ?_ so)
      exact dcomp_f (xs := o.drop b) (p := fun x => !decide (x ∈ w)) (wseq_ok (slD_ok (var_ok rfl) (var_ok rfl) hb) rfl) (by rw [List.length_drop]; omega) (show 7 < 12 by decide) (fun x _ => bl_ok (bin_ok (var_ok (d := .int x) rfl) (var_ok rfl) fNotIn_okL))
    refine ws_seq (ws_for (fun i r t => t = [] ∧ ∃ y8 y9, r = [.val (.tup (iL o)), .val (.tup (iL k)), .val (.lst (iL w)), .val (.int (n : Nat)), .val (.int (b : Nat)), .val (.tup (iL (sI (agn o w b)))), .val (.lst ((prodL (o.take b) ((perms 5 (sI (agn o w b))).take i) (somes n (abl k b (agn o w b).length))).map mkD)), .none, y8, y9, .none, .none]) ?_)
    refine Wp.of (wseq_ok (d := rows (perms 5 (sI (agn o w b)))) (ds := rwL (perms 5 (sI (agn o w b)))) (call_ok (ds := [.tup (iL (sI (agn o w b)))]) (cons_ok (var_ok rfl) nil_ok) rfl (pur_ok (noCs1 (noC_tup _)) o2)) rfl) ⟨?_, ?_, ?_⟩
    · exact ⟨rfl, .none, .none, rfl⟩
    · rintro i d r t hd ⟨rfl, y8, y9, rfl⟩
      rw [List.getElem?_map] at hd
      obtain ⟨q, hq, rfl⟩ := Option.map_eq_some_iff.mp hd
      have hqm := List.mem_of_getElem? hq
      have hql := z2 q hqm
      refine ⟨_, rfl, ws_seq (ws_asg (Wp.of (ofL_ok (dcomp_f (xs := lens (b + (agn o w b).length)) (p := fun x => decide (x > (b : Nat)) || decide (x ∈ k)) ?_ (by rw [lens_len]; omega) (by simp) fun x _ => tst_ok (var_ok rfl) (var_ok rfl) (var_ok rfl))) ?_))⟩
      · rw [← lens_rng]
        refine rng2_ok (i := 1) (j := ((b : Nat) : Int) + ((agn o w b).length : Nat)) (cons_ok (a := .int 1) rfl (cons_ok (bin_ok (var_ok rfl) (len_tup (l := q) (var_ok rfl)) ?_) nil_ok)) (by decide) (by omega)
        rw [hql, hp]; rfl
      refine ws_asg (Wp.of (ofL_ok (catF_ok (xs := (prodL (o.take b) ((perms 5 (sI (agn o w b))).take i) (somes n (abl k b (agn o w b).length))).map mkD) (ys := (somes n (abl k b (agn o w b).length)).map fun c => mkD (o.take b ++ q, c)) (var_ok rfl) (ofL_ok (comp_pairs ?_ ?_ ?_)) ?_)) ?_)
      · exact wseq_ok (d := rows (somes n (abl k b (agn o w b).length))) (call_ok (ds := [.lst (iL (abl k b (agn o w b).length)), .int (n : Nat)]) (cons_ok (var_ok rfl) (cons_ok (var_ok rfl) nil_ok)) rfl (pur_ok (noCs2 (noC_lst _) rfl) c2)) rfl
      · exact decide_eq_true (by omega)
      · intro c
        exact tup_ok (ds := [.tup (iL (o.take b ++ q)), .tup (iL c)]) (cons_ok (add_tup (slT_ok (var_ok rfl) (var_ok rfl) hb) (var_ok rfl) (by rw [List.length_take]; omega)) (cons_ok (var_ok rfl) nil_ok)) rfl
      · refine decide_eq_true ?_
        rw [List.length_map, List.length_map, prodL_len, List.length_take]
        have := Nat.mul_le_mul (Nat.le_trans (Nat.min_le_right i (perms 5 (sI (agn o w b))).length) z1) z3
        omega
      · refine ⟨rfl, .val (.tup (iL q)), .val (.lst (iL (abl k b (agn o w b).length))), ?_⟩
        have e1 : (perms 5 (sI (agn o w b))).take (i + 1) = (perms 5 (sI (agn o w b))).take i ++ [q] := by rw [List.take_add_one, hq]; rfl
        rw [e1, prodL_app, List.map_append]
        have e2 : (prodL (o.take b) [q] (somes n (abl k b (agn o w b).length))).map mkD = (somes n (abl k b (agn o w b).length)).map fun c => mkD (o.take b ++ q, c) := by
          unfold prodL
          simp [List.map_map, Function.comp_def]
        rw [e2]
        rfl
    · rintro r t ⟨rfl, y8, y9, rfl⟩
      dsimp only
      rw [List.length_map, List.take_length]
      have hs := sort_prod (pre := o.take b) (R := perms 5 (sI (agn o w b))) (List.all_eq_true.mp perms_all _ ss) c4 c3
      refine ws_ret (wp_ofL ?_)
      unfold dSortF
      rw [var_ok (d := .lst ((prodL (o.take b) (perms 5 (sI (agn o w b))) (somes n (abl k b (agn o w b).length))).map mkD)) rfl]
      show Wp (Res.ofO (sortD ((prodL (o.take b) (perms 5 (sI (agn o w b))) (somes n (abl k b (agn o w b).length))).map mkD)) []) _
      rw [hs]
      exact ⟨rfl, rfl⟩
  obtain ⟨d, s1, e, rfl, rfl⟩ := key.ex
  exact e
end
end MX


set_option Elab.async false
set_option linter.all false
set_option maxRecDepth 1000000
set_option maxHeartbeats 0
namespace MX
open PySem L2
/-! ### equality of a value with itself -/
def plainD : Nat → D → Bool
  | _, .non => true
  | _, .bl _ => true
  | _, .int _ => true
  | n + 1, .tup ds => ds.all (plainD n)
  | _, _ => false
theorem plain_all {n : Nat} (ih : ∀ d, plainD n d = true → ∃ p, toP0 d = some p ∧ p.canLay0 = true ∧ p.depth ≤ n) : ∀ ds : List D, ds.all (plainD n) = true → ∃ ps, toPs ds = some ps ∧ PyData.canLayAll0 ps = true ∧ PyData.depthAll ps ≤ n
  | [], _ => ⟨[], rfl, rfl, by simp [PyData.depthAll]⟩
  | d :: ds, h => by
    rw [List.all_cons, Bool.and_eq_true] at h
    obtain ⟨p, e1, l1, d1⟩ := ih d h.1
    obtain ⟨ps, e2, l2, d2⟩ := plain_all ih ds h.2
    refine ⟨p :: ps, ?_, ?_, ?_⟩
    · show (match toP0 d with | some p => (match toPs ds with | some ps => some (p :: ps) | none => none) | none => none) = _
      rw [e1, e2]
    · show (p.canLay0 && PyData.canLayAll0 ps) = true
      rw [l1, l2]; rfl
    · simp only [PyData.depthAll]
      omega
theorem plain_ok : ∀ (n : Nat) (d : D), plainD n d = true → ∃ p, toP0 d = some p ∧ p.canLay0 = true ∧ p.depth ≤ n
  | 0, .non, _ => ⟨_, rfl, rfl, by simp [PyData.depth]⟩
  | 0, .bl _, _ => ⟨_, rfl, rfl, by simp [PyData.depth]⟩
  | 0, .int _, _ => ⟨_, rfl, rfl, by simp [PyData.depth]⟩
  | n + 1, .non, _ => ⟨_, rfl, rfl, by simp [PyData.depth]⟩
  | n + 1, .bl _, _ => ⟨_, rfl, rfl, by simp [PyData.depth]⟩
  | n + 1, .int _, _ => ⟨_, rfl, rfl, by simp [PyData.depth]⟩
  | n + 1, .tup ds, h => by
    obtain ⟨ps, e, l, d⟩ := plain_all (plain_ok n) ds h
    refine ⟨.tuple ps, ?_, l, ?_⟩
    · show (match toPs ds with | some ps => some (PyData.tuple ps) | none => none) = _
      rw [e]
    · simp only [PyData.depth]
      omega
theorem shaped_of {p : PyData} (l : p.canLay0 = true) (d : p.depth ≤ 20) : SeqAt.shaped p = true := by
  unfold SeqAt.shaped
  rw [Bool.and_eq_true]
  exact ⟨l, decide_eq_true (by omega)⟩
theorem eqP_same {a b : D} {s : Sto} {p : PyData} (ha : toP s a = some p) (hb : toP s b = some p) (l : p.canLay0 = true) (d : p.depth ≤ 20) (hn : ∀ i j, a = .int i → b = .int j → False) : eqP s a b = some true := by
  have e : (match toP s a, toP s b with | some p, some q => if SeqAt.shaped p && SeqAt.shaped q then some (PyData.eqv p q) else none | _, _ => none) = some true := by
    rw [ha, hb]
    show (if (SeqAt.shaped p && SeqAt.shaped p) = true then some (PyData.eqv p p) else none) = _
    rw [shaped_of l d, SeqAt.eqv_refl p l]; rfl
  unfold eqP
  split
  · rename_i i j
    exact (hn i j rfl rfl).elim
  · exact e
theorem lst_plain {A : List D} {s : Sto} (h : A.all (plainD 10) = true) : ∃ p, toP s (.lst A) = some (.list p) ∧ toPs A = some p ∧ (PyData.list p).canLay0 = true ∧ (PyData.list p).depth ≤ 20 := by
  obtain ⟨ps, e, l, d⟩ := plain_all (plain_ok 10) A h
  refine ⟨ps, ?_, e, l, ?_⟩
  · show (match toPs A with | some ps => some (PyData.list ps) | none => none) = _
    rw [e]
  · simp only [PyData.depth]
    omega
theorem fNe_lst_same {A : List D} {s : Sto} (h : A.all (plainD 10) = true) : fNe (.lst A) (.lst A) s = some (.bl false) := by
  obtain ⟨p, e, _, l, d⟩ := lst_plain (s := s) h
  show (match eqP s (.lst A) (.lst A) with | some k => some (D.bl (!k)) | none => none) = _
  rw [eqP_same e e l d fun i j z => by cases z]; rfl
theorem fNe_cell_same {A : List D} {s : Sto} {i : Nat} (hi : s[i]? = some A) (h : A.all (plainD 10) = true) : fNe (.lst A) (.cell i) s = some (.bl false) := by
  obtain ⟨p, e, e2, l, d⟩ := lst_plain (s := s) h
  have e3 : toP s (.cell i) = some (.list p) := by
    show (match s[i]? with | some ds => (match toPs ds with | some ps => some (PyData.list ps) | none => none) | none => none) = _
    rw [hi]
    show (match toPs A with | some ps => some (PyData.list ps) | none => none) = _
    rw [e2]
  show (match eqP s (.lst A) (.cell i) with | some k => some (D.bl (!k)) | none => none) = _
  rw [eqP_same e e3 l d fun i j z => by cases z]; rfl
theorem fNe_tup_same {A : List D} {s : Sto} (h : A.all (plainD 10) = true) : fNe (.tup A) (.tup A) s = some (.bl false) := by
  obtain ⟨ps, e, l, d⟩ := plain_all (plain_ok 10) A h
  have e1 : toP s (.tup A) = some (.tuple ps) := by
    show (match toPs A with | some ps => some (PyData.tuple ps) | none => none) = _
    rw [e]
  show (match eqP s (.tup A) (.tup A) with | some k => some (D.bl (!k)) | none => none) = _
  rw [eqP_same e1 e1 l (by simp only [PyData.depth]; omega) fun i j z => by cases z]; rfl
theorem plain_ints {n : Nat} : ∀ l : List Int, (iL l).all (plainD n) = true
  | [] => rfl
  | x :: l => by
    rw [show iL (x :: l) = D.int x :: iL l from rfl, List.all_cons, plain_ints l]
    cases n <;> rfl
theorem plain_tup {n : Nat} (l : List Int) : plainD (n + 1) (.tup (iL l)) = true := plain_ints l
/-! ### pairs of a person and ticks -/
abbrev IP := Int × Int
abbrev prD (x : IP) : D := .tup [.int x.1, .int x.2]
abbrev prs (p : List IP) : List D := p.map prD
theorem noCs_prs : ∀ p : List IP, noCs (prs p) = true
  | [] => rfl
  | x :: p => by
    show (noC (prD x) && noCs (prs p)) = true
    rw [noCs_prs p]; rfl
theorem noC_prs (p : List IP) : noC (.tup (prs p)) = true := noCs_prs p
theorem plain_prs {n : Nat} : ∀ p : List IP, (prs p).all (plainD (n + 1)) = true
  | [] => rfl
  | x :: p => by
    rw [show prs (x :: p) = prD x :: prs p from rfl, List.all_cons, plain_prs p]
    cases n <;> rfl
abbrev pt2 (i j : Nat) : Pt := .tup (.cons (.nm i) (.cons (.nm j) .nil))
theorem comp_pr {i j : Nat} {e : Fn D} {ρ : List Sl} {s : Sto} {g : IP → D} : ∀ (p : List IP) (he : ∀ x ∈ p, e ((ρ.set i (.val (.int x.1))).set j (.val (.int x.2))) s = .ok (g x) s), compL (pt2 i j) eYes e ρ (prs p) s = .ok (p.map g) s
  | [], _ => rfl
  | x :: p, he => by
    unfold compL
    show ((noX (eYes ((ρ.set i (.val (.int x.1))).set j (.val (.int x.2))) s)).bind fun k s => _) = _
    simp only [eYes, noX, Res.bind, if_true, he x List.mem_cons_self, comp_pr p fun y m => he y (List.mem_cons_of_mem _ m)]
    rfl
theorem dcomp_pr {i j : Nat} {w : Fn (List D)} {e : Fn D} {ρ : List Sl} {s : Sto} {p : List IP} (g : IP → D) (hw : w ρ s = .ok (prs p) s) (hz : p.length ≤ 1000) (he : ∀ x ∈ p, e ((((ρ.set j .none).set i .none).set i (.val (.int x.1))).set j (.val (.int x.2))) s = .ok (g x) s) :
    dComp w (pt2 i j) eYes e [i, j] ρ s = .ok (p.map g) s := by
  unfold dComp
  rw [hw]
  show (if small (prs p).length = true then compL (pt2 i j) eYes e ((ρ.set j .none).set i .none) (prs p) s else .bad) = _
  rw [if_pos (show small (prs p).length = true from decide_eq_true (by rw [List.length_map]; omega))]
  exact comp_pr p he
abbrev pers (p : List IP) : List Int := p.map fun x => x.1
abbrev lfts (p : List IP) : List Int := p.map fun x => x.2
theorem iL_pers (p : List IP) : (p.map fun x => D.int x.1) = iL (pers p) := by unfold iL; rw [List.map_map]; rfl
theorem iL_lfts (p : List IP) : (p.map fun x => D.int x.2) = iL (lfts p) := by unfold iL; rw [List.map_map]; rfl
/-- all that can wait -/
def PP : List (List IP) := [] :: (([0, 1, 2, 3].flatMap fun a => [0, 1].map fun l => [(a, l)]) ++ ([0, 1, 2, 3].flatMap fun a => [0, 1, 2, 3].flatMap fun b => if a < b then [[(a, 0), (b, 1)], [(a, 1), (b, 0)]] else []))
def leI (a b : IP) : Bool := decide (a.1 < b.1) || (decide (a.1 = b.1) && decide (a.2 ≤ b.2))
def sortP (p : List IP) : List IP := isort leI p
/-- the wishes with the new one -/
def pq (p : List IP) (w : Option Int) (d : Int) : List IP := match w with
  | none => p
  | some x => sortP (p ++ [(x, d)])
def wD : Option Int → D
  | none => .non
  | some x => .int x
def stepOk (d : Int) (p : List IP) (w : Option Int) : Bool := let q := pq p w d
  (subs [0, 1, 2, 3]).contains (pers q) && q.all (fun x => decide (0 ≤ x.2)) && decide (q.length ≤ 3) && (pers q).all (fun x => some x == w || (pers p).contains x) &&
    (!(q.all fun x => decide (0 < x.2)) || (PP.contains (q.map fun x => (x.1, x.2 - 1)) && q.all fun x => decide (x.2 - 1 < d))) && (w.isNone || !q.isEmpty)
def sortIsP (p : List IP) : Bool := match sortD (prs p) with
  | some ds => beqDs ds (prs (sortP p))
  | none => false
def hasW (p : List IP) : Option Int → Bool
  | some x => (pers p).contains x
  | none => false
def srtW (p : List IP) (d : Int) : Option Int → Bool
  | some x => sortIsP (p ++ [(x, d)])
  | none => true
theorem step_all : (PP.all fun p => [0, 1, 2].all fun d => [none, some 0, some 1, some 2, some 3].all fun w => !(p.all fun x => decide (x.2 < d)) || hasW p w || (stepOk d p w && srtW p d w)) = true := by decide +kernel
theorem pp_all : (PP.all fun p => (subs [0, 1, 2, 3]).contains (pers p) && decide (p.length ≤ 2) && p.all (fun x => decide (0 ≤ x.2) && decide (x.2 < 2)) && resIs (m_is_ascending [.lst (iL (pers p))] []) (.bl true) && (match sortD (iL (lfts p)) with | some ds => resIs (m_is_ascending [.lst ds] []) (.bl true) && noCs ds | none => false)) = true := by decide +kernel
theorem filt_all : (orders4.all fun o => (subs [0, 1, 2, 3]).all fun P => ((sI o).filter fun x => !decide (x ∈ P)) == sI (o.filter fun x => !decide (x ∈ P))) = true := by decide +kernel
/-- a position of the play -/
structure Ps (zs : List Int) (n d : Nat) (o k : List Int) (p : List IP) (t : Nat) : Prop where
  bd : Bd zs n o k
  dl : d ≤ 2
  tk : t ≤ 4
  pm : p ∈ PP
  pl : ∀ x ∈ p, x.2 < (d : Nat)
  pi : ∀ x ∈ p, x.1 ∈ o
abbrev posD (o k : List Int) (p : List IP) (t : Int) : D := .tup [.tup (iL o), .tup (iL k), .tup (prs p), .int t]
theorem noC_pos (o k : List Int) (p : List IP) (t : Int) : noC (posD o k p t) = true := by
  show (noC (.tup (iL o)) && (noC (.tup (iL k)) && (noC (.tup (prs p)) && true))) = true
  rw [noC_tup, noC_tup, noC_prs]; rfl
structure StepF (d : Int) (p : List IP) (w : Option Int) : Prop where
  sub : pers (pq p w d) ∈ subs [0, 1, 2, 3]
  nn : ∀ x ∈ pq p w d, 0 ≤ x.2
  len : (pq p w d).length ≤ 3
  who : ∀ x ∈ pers (pq p w d), w = some x ∨ x ∈ pers p
  next : (∀ x ∈ pq p w d, 0 < x.2) → ((pq p w d).map fun x => (x.1, x.2 - 1)) ∈ PP ∧ ∀ x ∈ pq p w d, x.2 - 1 < d
  ne : w ≠ none → pq p w d ≠ []
  srt : ∀ x, w = some x → sortD (prs (p ++ [(x, d)])) = some (prs (pq p w d))
theorem step_ok {zs o k : List Int} {n d t : Nat} {p : List IP} {w : Option Int} (h : Ps zs n d o k p t) (hw : ∀ x, w = some x → (0 ≤ x ∧ x < 4) ∧ x ∉ pers p) : StepF (d : Nat) p w := by
  have hd : ((d : Nat) : Int) ∈ ([0, 1, 2] : List Int) := by
    have := h.dl
    have : ((d : Nat) : Int) = 0 ∨ ((d : Nat) : Int) = 1 ∨ ((d : Nat) : Int) = 2 := by omega
    simpa using this
  have hwm : w ∈ ([none, some 0, some 1, some 2, some 3] : List (Option Int)) := by
    cases w with
    | none => simp
    | some x =>
      have := (hw x rfl).1
      have : x = 0 ∨ x = 1 ∨ x = 2 ∨ x = 3 := by omega
      simpa using this
  have key := List.all_eq_true.mp (List.all_eq_true.mp (List.all_eq_true.mp step_all p h.pm) _ hd) w hwm
  rw [show (p.all fun x => decide (x.2 < ((d : Nat) : Int))) = true from List.all_eq_true.mpr fun x hx => decide_eq_true (h.pl x hx), Bool.not_true, Bool.false_or] at key
  have hno : hasW p w = false := by
    cases w with
    | none => rfl
    | some x =>
      have := (hw x rfl).2
      show (pers p).contains x = false
      simpa using this
  rw [hno, Bool.false_or, Bool.and_eq_true] at key
  obtain ⟨k1, k2⟩ := key
  unfold stepOk at k1
  simp only [Bool.and_eq_true] at k1
  obtain ⟨⟨⟨⟨⟨a1, a2⟩, a3⟩, a4⟩, a5⟩, a6⟩ := k1
  refine ⟨List.contains_iff_mem.mp a1, fun x hx => of_decide_eq_true (List.all_eq_true.mp a2 x hx), of_decide_eq_true a3, fun x hx => ?_, fun hp => ?_, fun hne e => ?_, fun x e => ?_⟩
  · have := List.all_eq_true.mp a4 x hx
    rw [Bool.or_eq_true] at this
    rcases this with g | g
    · exact .inl (beq_iff_eq.mp g).symm
    · exact .inr (List.contains_iff_mem.mp g)
  · rw [show ((pq p w ((d : Nat) : Int)).all fun x => decide (0 < x.2)) = true from List.all_eq_true.mpr fun x hx => decide_eq_true (hp x hx), Bool.not_true, Bool.false_or, Bool.and_eq_true] at a5
    exact ⟨List.contains_iff_mem.mp a5.1, fun x hx => of_decide_eq_true (List.all_eq_true.mp a5.2 x hx)⟩
  · rw [e] at a6
    cases w with
    | none => exact hne rfl
    | some x => cases a6
  · subst e
    have k2 : sortIsP (p ++ [(x, ((d : Nat) : Int))]) = true := k2
    unfold sortIsP at k2
    cases e : sortD (prs (p ++ [(x, ((d : Nat) : Int))])) with
    | none => rw [e] at k2; cases k2
    | some ds => rw [e] at k2; rw [beqDs_eq k2]; rfl
end MX


set_option Elab.async false
set_option linter.all false
set_option maxRecDepth 100000
namespace MX
open PySem L2
/-- all wishes at a position -/
def pw (o : List Int) (p : List IP) (t : Nat) : List D := if t = 0 then (if p = [] then [] else [.non]) else iL (sI (o.filter fun x => !decide (x ∈ pers p))) ++ [.non]
structure PpF (p : List IP) : Prop where
  sub : pers p ∈ subs [0, 1, 2, 3]
  len : p.length ≤ 2
  rng : ∀ x ∈ p, 0 ≤ x.2 ∧ x.2 < 2
  asc : m_is_ascending [.lst (iL (pers p))] [] = .ok (.bl true) []
  srt : ∃ ds, sortD (iL (lfts p)) = some ds ∧ m_is_ascending [.lst ds] [] = .ok (.bl true) [] ∧ noCs ds = true
theorem pp_ok {p : List IP} (h : p ∈ PP) : PpF p := by
  have := List.all_eq_true.mp pp_all p h
  simp only [Bool.and_eq_true] at this
  obtain ⟨⟨⟨⟨a1, a2⟩, a3⟩, a4⟩, a5⟩ := this
  refine ⟨List.contains_iff_mem.mp a1, of_decide_eq_true a2, fun x hx => ?_, resIs_eq a4, ?_⟩
  · have := List.all_eq_true.mp a3 x hx
    rw [Bool.and_eq_true] at this
    exact ⟨of_decide_eq_true this.1, of_decide_eq_true this.2⟩
  · cases e : sortD (iL (lfts p)) with
    | none => rw [e] at a5; cases a5
    | some ds =>
      rw [e] at a5
      have a5 : (resIs (m_is_ascending [.lst ds] []) (.bl true) && noCs ds) = true := a5
      rw [Bool.and_eq_true] at a5
      exact ⟨ds, rfl, resIs_eq a5.1, a5.2⟩
section
variable {zs o k : List Int} {p : List IP} {n d t : Nat}
theorem Ps.pp (h : Ps zs n d o k p t) : PpF p := pp_ok h.pm
theorem fEq_int {i j : Int} {s : Sto} : fEq (.int i) (.int j) s = some (.bl (decide (i = j))) := rfl
theorem possible_wishes_ok (h : Ps zs n d o k p t) : m_possible_wishes [posD o k p (t : Nat)] [] = .ok (.lst (pw o p t)) [] := by
  have hpl := h.pp.len
  have hol := h.bd.len
  obtain ⟨so, _, _⟩ := sort_ok h.bd.ord
  unfold m_possible_wishes
  refine fn_ret ?_
  unfold x_possible_wishes
  refine seq_ok (ρ1 := [.val (posD o k p (t : Nat)), .val (.tup (iL o)), .val (.tup (iL k)), .val (.tup (prs p)), .val (.int (t : Nat)), .none, .none]) (s1 := []) rfl ?_
  by_cases ht : t = 0
  · subst ht
    have e : pw o p 0 = if p = [] then [] else [.non] := rfl
    rw [e]
    refine seq_out (sif_yes (s1 := []) (bl_ok (bin_ok (var_ok (d := .int ((0 : Nat) : Int)) rfl) rfl rfl)) (ret_ok (d := .lst (if p = [] then [] else [.non])) (s1 := []) ?_)) (fun r t h => by cases h)
    cases p with
    | nil => exact if_no (tru_ok (var_ok (d := .tup (prs [])) rfl) rfl) (ofL_ok (lst_ok nil_ok rfl))
    | cons x p => exact if_yes (tru_ok (var_ok (d := .tup (prs (x :: p))) rfl) rfl) (ofL_ok (lst_ok (cons_ok rfl nil_ok) rfl))
  · have e : pw o p t = iL (sI (o.filter fun x => !decide (x ∈ pers p))) ++ [.non] := by unfold pw; rw [if_neg ht]
    rw [e]
    have hf := beq_iff_eq.mp (List.all_eq_true.mp (List.all_eq_true.mp filt_all o h.bd.ord) _ h.pp.sub)
    refine seq_ok (ρ1 := [.val (posD o k p (t : Nat)), .val (.tup (iL o)), .val (.tup (iL k)), .val (.tup (prs p)), .val (.int (t : Nat)), .none, .none]) (s1 := []) (sif_no (s1 := []) (bl_ok (bin_ok (var_ok rfl) rfl (by rw [fEq_int, decide_eq_false (by omega)]))) rfl) ?_
    refine seq_ok (asg_ok (d := .lst (iL (pers p))) (s1 := []) (ofL_ok ?_)) ?_
    · have := dcomp_pr (i := 6) (j := 2) (w := wSeq (dVar 3)) (e := dVar 6) (ρ := [.val (posD o k p (t : Nat)), .val (.tup (iL o)), .val (.tup (iL k)), .val (.tup (prs p)), .val (.int (t : Nat)), .none, .none]) (s := []) (p := p) (fun x => D.int x.1) (wseq_ok (var_ok rfl) rfl) (by omega) fun x _ => var_ok rfl
      rw [iL_pers] at this
      exact this
    refine ret_ok (ofL_ok (catF_ok (xs := iL ((sI o).filter fun x => !decide (x ∈ pers p))) (ys := [.non]) ?_ (ofL_ok (lst_ok (cons_ok rfl nil_ok) rfl)) ?_)) |>.trans ?_
    · refine ofL_ok (dcomp_f (xs := sI o) (p := fun x => !decide (x ∈ pers p)) (wseq_ok (ofL_ok (ds := iL (sI o)) ?_) rfl) (by rw [(sI_perm o).length_eq]; omega) (by simp) fun x _ => bl_ok (bin_ok (var_ok (d := .int x) rfl) (var_ok rfl) fNotIn_okL))
      unfold dSortF
      rw [var_ok (d := .tup (iL o)) rfl]
      show Res.ofO (sortD (iL o)) [] = _
      rw [so]; rfl
    · refine decide_eq_true ?_
      have := (List.filter_sublist (l := sI o) (p := fun x => !decide (x ∈ pers p))).length_le
      rw [(sI_perm o).length_eq] at this
      rw [List.length_map]
      show _ + 1 ≤ _
      omega
    · rw [hf]
theorem law_wishes_ok (h : Ps zs n d o k p t) : m_u_law_wishes [posD o k p (t : Nat)] [] = .ok (.lst (pw o p t)) [] := by
  have hpl := h.pp.len
  have hol := h.bd.len
  obtain ⟨so, _, _⟩ := sort_ok (sub_orders h.bd.ord (List.filter_sublist (p := fun x => !decide (x ∈ pers p))))
  have hfl := (List.filter_sublist (l := o) (p := fun x => !decide (x ∈ pers p))).length_le
  unfold m_u_law_wishes
  refine fn_ret ?_
  unfold x_u_law_wishes
  refine seq_ok (asg_ok (d := .lst (iL (pers p))) (s1 := []) (ofL_ok ?_)) ?_
  · have := dcomp_pr (i := 2) (j := 3) (w := wSeq (dBin fIx (dVar 0) (dC (.int 2)))) (e := dVar 2) (ρ := [.val (posD o k p (t : Nat)), .none, .none, .none]) (s := []) (p := p) (fun x => D.int x.1) (wseq_ok (d := .tup (prs p)) (bin_ok (var_ok rfl) rfl rfl) rfl) (by omega) fun x _ => var_ok rfl
    rw [iL_pers] at this
    exact this
  have e3 : ∀ ρ : List Sl, ρ[0]? = some (.val (posD o k p (t : Nat))) → dBin fIx (dVar 0) (dC (.int 3)) ρ [] = .ok (.int (t : Nat)) [] := fun ρ h => bin_ok (var_ok h) rfl rfl
  by_cases ht : t = 0
  · subst ht
    have e : pw o p 0 = if p = [] then [] else [.non] := rfl
    rw [e]
    refine seq_out (sif_yes (s1 := []) (bl_ok (bin_ok (e3 _ rfl) rfl rfl)) (ret_ok (d := .lst (if p = [] then [] else [.non])) (s1 := []) ?_)) (fun r t h => by cases h)
    have nl : fNe (.lst (iL (pers p))) (.lst []) [] = some (.bl (!decide (pers p = []))) := fNe_lst (ys := [])
    cases p with
    | nil => exact if_no (bl_ok (bin_ok (var_ok rfl) (ofL_ok (lst_ok nil_ok rfl)) nl)) (ofL_ok (lst_ok nil_ok rfl))
    | cons x p => exact if_yes (bl_ok (bin_ok (var_ok rfl) (ofL_ok (lst_ok nil_ok rfl)) nl)) (ofL_ok (lst_ok (cons_ok rfl nil_ok) rfl))
  · have e : pw o p t = iL (sI (o.filter fun x => !decide (x ∈ pers p))) ++ [.non] := by unfold pw; rw [if_neg ht]
    rw [e]
    refine seq_ok (ρ1 := [.val (posD o k p (t : Nat)), .val (.lst (iL (pers p))), .none, .none]) (s1 := []) (sif_no (s1 := []) (bl_ok (bin_ok (e3 _ rfl) rfl (by rw [fEq_int, decide_eq_false (by omega)]))) rfl) ?_
    refine ret_ok (ofL_ok (catF_ok (xs := iL (sI (o.filter fun x => !decide (x ∈ pers p)))) (ys := [.non]) (ofL_ok (sortL_ok (xs := o.filter fun x => !decide (x ∈ pers p)) ?_ so)) (ofL_ok (lst_ok (cons_ok rfl nil_ok) rfl)) ?_))
    · exact dcomp_f (xs := o) (p := fun x => !decide (x ∈ pers p)) (wseq_ok (d := .tup (iL o)) (bin_ok (var_ok rfl) rfl rfl) rfl) (by omega) (by simp) fun x _ => bl_ok (bin_ok (var_ok (d := .int x) rfl) (var_ok rfl) fNotIn_okL)
    · refine decide_eq_true ?_
      rw [List.length_map, (sI_perm _).length_eq]
      show _ + 1 ≤ _
      omega
/-! the checks -/
theorem delay_ok (hd : d ≤ 2) {s : Sto} : m_check_delay [.int (d : Nat)] s = .ok .non s := by
  unfold m_check_delay
  refine fn_next (ρ1 := startR N_check_delay.length [.int (d : Nat)]) ?_
  unfold x_check_delay
  refine sif_no (s1 := s) (not_ok (k := true) (bl_ok (call_ok (ds := [.int (d : Nat), .int 0, .int 2]) (cons_ok (var_ok rfl) (cons_ok (a := .int 0) rfl (cons_ok (a := .int 2) rfl nil_ok))) rfl (pur_ok rfl ?_)))) rfl
  rw [within_ok, decide_eq_true (by omega), decide_eq_true (by omega)]
  rfl
theorem ticks_ok (ht : t ≤ 4) {s : Sto} : m_check_ticks [.int (t : Nat)] s = .ok .non s := by
  unfold m_check_ticks
  refine fn_next (ρ1 := startR N_check_ticks.length [.int (t : Nat)]) ?_
  unfold x_check_ticks
  refine sif_no (s1 := s) (not_ok (k := true) (bl_ok (call_ok (ds := [.int (t : Nat), .int 0, .int 4]) (cons_ok (var_ok rfl) (cons_ok (a := .int 0) rfl (cons_ok (a := .int 4) rfl nil_ok))) rfl (pur_ok rfl ?_)))) rfl
  rw [within_ok, decide_eq_true (by omega), decide_eq_true (by omega)]
  rfl
theorem check_play_ok (hn : n ≤ 3) (hd : d ≤ 2) : m_check_play [.obj 0 [.tup (iL zs)], .int (n : Nat), .int (d : Nat)] [] = .ok .non [] := by
  unfold m_check_play
  refine fn_next (ρ1 := startR N_check_play.length [.obj 0 [.tup (iL zs)], .int (n : Nat), .int (d : Nat)]) ?_
  unfold x_check_play
  refine seq_ok (drop_ok (d := .non) (call_ok (cons_ok (var_ok rfl) nil_ok) rfl (pur_ok (noCs1 (noC_obj zs)) rfl))) ?_
  refine seq_ok (drop_ok (d := .non) (call_ok (cons_ok (var_ok rfl) nil_ok) rfl (pur_ok rfl (check_room_ok hn)))) ?_
  exact drop_ok (d := .non) (call_ok (cons_ok (var_ok rfl) nil_ok) rfl (pur_ok rfl (delay_ok hd)))
theorem waiting_wish_ok {x : IP} (h1 : x.1 ∈ o) (h2 : 0 ≤ x.2 ∧ x.2 < (d : Nat)) : m_is_waiting_wish [.tup (iL o), .int (d : Nat), prD x] [] = .ok (.bl true) [] := by
  unfold m_is_waiting_wish
  refine fn_ret ?_
  unfold x_is_waiting_wish
  refine seq_ok (ρ1 := startR N_is_waiting_wish.length [.tup (iL o), .int (d : Nat), prD x]) (s1 := []) (sif_no (s1 := []) (or_ok (s1 := []) (not_ok (k := true) rfl) rfl) rfl) ?_
  refine seq_ok (ρ1 := [.val (.tup (iL o)), .val (.int (d : Nat)), .val (prD x), .val (.int x.1), .val (.int x.2)]) (s1 := []) rfl ?_
  refine ret_ok (andV_yes (s1 := []) (call_ok (ds := [.int x.1]) (cons_ok (var_ok rfl) nil_ok) rfl (pur_ok rfl integer_ok)) (andV_yes (s1 := []) (bin_ok (var_ok (d := .int x.1) rfl) (var_ok rfl) (by rw [fIn_ok, decide_eq_true h1])) ?_))
  refine call_ok (ds := [.int x.2, .int 0, .int ((d : Nat) - 1)]) (cons_ok (var_ok rfl) (cons_ok (a := .int 0) rfl (cons_ok (sub_ok (var_ok rfl) rfl) nil_ok))) rfl (pur_ok rfl ?_)
  rw [within_ok, decide_eq_true h2.1, decide_eq_true (by omega)]
  rfl
theorem waiting_ok (h : Ps zs n d o k p t) : m_are_waiting_wishes [.tup (iL o), .int (d : Nat), .tup (prs p)] [] = .ok (.bl true) [] := by
  have hpl := h.pp.len
  obtain ⟨ds, s1, s2, s3⟩ := h.pp.srt
  unfold m_are_waiting_wishes
  refine fn_ret ?_
  unfold x_are_waiting_wishes
  refine seq_ok (ρ1 := startR N_are_waiting_wishes.length [.tup (iL o), .int (d : Nat), .tup (prs p)]) (s1 := []) (sif_no (s1 := []) (or_ok (s1 := []) (not_ok (k := true) rfl) (not_ok (k := true) (bl_ok ?_))) rfl) ?_
  · obtain ⟨dd, s, e, rfl, rfl⟩ : ∃ a s, dCB fAll (dCons (dOfL (dComp (wSeq (dVar 2)) (.nm 3) eYes (dCall (pur m_is_waiting_wish) 3 (dCons (dVar 0) (dCons (dVar 1) (dCons (dVar 3) dNil)))) [3])) dNil) (startR N_are_waiting_wishes.length [.tup (iL o), .int (d : Nat), .tup (prs p)]) [] = .ok a s ∧ a = .bl true ∧ s = [] := by
      refine Wp.ex (wp_cb (wp_cons (wp_ofL (wp_comp (wp_seq' (wp_var rfl ⟨_, rfl, ?_, ?_⟩))))))
      · exact decide_eq_true (by rw [List.length_map]; omega)
      refine (wp_compAll (fun t => t = []) (fun e => ∃ x ∈ p, e = prD x) (fun y => y = .bl true) ?_ (prs p) [] ?_ rfl).mono ?_
      · rintro t e rfl ⟨x, hx, rfl⟩
        exact ⟨_, rfl, Wp.of (call_ok (ds := [.tup (iL o), .int (d : Nat), prD x]) (cons_ok (var_ok rfl) (cons_ok (var_ok rfl) (cons_ok (var_ok rfl) nil_ok))) rfl (pur_ok (noCs_cons (noC_tup o) rfl) (waiting_wish_ok (h.pi x hx) ⟨(h.pp.rng x hx).1, h.pl x hx⟩))) ⟨rfl, rfl⟩⟩
      · intro e he
        obtain ⟨x, hx, rfl⟩ := List.mem_map.mp he
        exact ⟨x, hx, rfl⟩
      · rintro r t ⟨rfl, h1, h2⟩
        exact wp_nil ⟨_, all_true h1, rfl, rfl⟩
    exact e
  · refine ret_ok (andV_yes (s1 := []) ?_ ?_)
    · refine call_ok (ds := [.lst (iL (pers p))]) (cons_ok (ofL_ok ?_) nil_ok) rfl (pur_ok (noCs1 (noC_lst _)) h.pp.asc)
      have := dcomp_pr (i := 4) (j := 5) (w := wSeq (dVar 2)) (e := dVar 4) (ρ := startR N_are_waiting_wishes.length [.tup (iL o), .int (d : Nat), .tup (prs p)]) (s := []) (p := p) (fun x => D.int x.1) (wseq_ok (var_ok rfl) rfl) (by omega) fun x _ => var_ok rfl
      rw [iL_pers] at this
      exact this
    · refine call_ok (ds := [.lst ds]) (cons_ok (ofL_ok (sortL_ok (xs := lfts p) ?_ s1)) nil_ok) rfl (pur_ok ?_ s2)
      · have := dcomp_pr (i := 5) (j := 6) (w := wSeq (dVar 2)) (e := dVar 6) (ρ := startR N_are_waiting_wishes.length [.tup (iL o), .int (d : Nat), .tup (prs p)]) (s := []) (p := p) (fun x => D.int x.2) (wseq_ok (var_ok rfl) rfl) (by omega) fun x _ => var_ok rfl
        rw [iL_lfts] at this
        exact this
      · show (noCs ds && true) = true
        rw [s3]; rfl
theorem is_position_ok (h : Ps zs n d o k p t) : m_is_position [.obj 0 [.tup (iL zs)], .int (n : Nat), .int (d : Nat), posD o k p (t : Nat)] [] = .ok (.bl true) [] := by
  have ht := h.tk
  unfold m_is_position
  refine fn_ret ?_
  unfold x_is_position
  refine seq_ok (ρ1 := startR N_is_position.length [.obj 0 [.tup (iL zs)], .int (n : Nat), .int (d : Nat), posD o k p (t : Nat)]) (s1 := []) (sif_no (s1 := []) (or_ok (s1 := []) (not_ok (k := true) rfl) rfl) rfl) ?_
  refine seq_ok (ρ1 := [.val (.obj 0 [.tup (iL zs)]), .val (.int (n : Nat)), .val (.int (d : Nat)), .val (posD o k p (t : Nat)), .val (.tup (iL o)), .val (.tup (iL k)), .val (.tup (prs p)), .val (.int (t : Nat))]) (s1 := []) rfl ?_
  refine seq_ok (ρ1 := [.val (.obj 0 [.tup (iL zs)]), .val (.int (n : Nat)), .val (.int (d : Nat)), .val (posD o k p (t : Nat)), .val (.tup (iL o)), .val (.tup (iL k)), .val (.tup (prs p)), .val (.int (t : Nat))]) (s1 := []) (sif_no (s1 := []) (or_ok (s1 := []) (not_ok (k := true) (bl_ok ?_)) (not_ok (k := true) (bl_ok ?_))) rfl) ?_
  · exact call_ok (ds := [.obj 0 [.tup (iL zs)], .int (n : Nat), bld o k]) (cons_ok (var_ok rfl) (cons_ok (var_ok rfl) (cons_ok (tup_ok (cons_ok (var_ok rfl) (cons_ok (var_ok rfl) nil_ok)) rfl) nil_ok))) rfl (pur_ok (noCs_cons (noC_obj zs) (noCs2 rfl (noC_bld o k))) (is_build_ok h.bd))
  · refine call_ok (ds := [.int (t : Nat), .int 0, .int 4]) (cons_ok (var_ok rfl) (cons_ok (a := .int 0) rfl (cons_ok (a := .int 4) rfl nil_ok))) rfl (pur_ok rfl ?_)
    rw [within_ok, decide_eq_true (by omega), decide_eq_true (by omega)]
    rfl
  · exact ret_ok (call_ok (ds := [.tup (iL o), .int (d : Nat), .tup (prs p)]) (cons_ok (var_ok rfl) (cons_ok (var_ok rfl) (cons_ok (var_ok rfl) nil_ok))) rfl (pur_ok (noCs_cons (noC_tup o) (noCs2 rfl (noC_prs p))) (waiting_ok h)))
theorem check_position_ok (h : Ps zs n d o k p t) : m_check_position [.obj 0 [.tup (iL zs)], .int (n : Nat), .int (d : Nat), posD o k p (t : Nat)] [] = .ok .non [] := by
  unfold m_check_position
  refine fn_next (ρ1 := startR N_check_position.length [.obj 0 [.tup (iL zs)], .int (n : Nat), .int (d : Nat), posD o k p (t : Nat)]) ?_
  unfold x_check_position
  refine seq_ok (drop_ok (d := .non) (call_ok (ds := [.obj 0 [.tup (iL zs)], .int (n : Nat), .int (d : Nat)]) (cons_ok (var_ok rfl) (cons_ok (var_ok rfl) (cons_ok (var_ok rfl) nil_ok))) rfl (pur_ok (noCs_cons (noC_obj zs) rfl) (check_play_ok h.bd.room h.dl)))) ?_
  exact sif_no (s1 := []) (not_ok (k := true) (bl_ok (call_ok (ds := [.obj 0 [.tup (iL zs)], .int (n : Nat), .int (d : Nat), posD o k p (t : Nat)]) (cons_ok (var_ok rfl) (cons_ok (var_ok rfl) (cons_ok (var_ok rfl) (cons_ok (var_ok rfl) nil_ok)))) rfl (pur_ok (noCs_cons (noC_obj zs) (noCs_cons rfl (noCs2 rfl (noC_pos _ _ _ _)))) (is_position_ok h))))) rfl
theorem wishes_ok (h : Ps zs n d o k p t) : m_wishes [.obj 0 [.tup (iL zs)], .int (n : Nat), .int (d : Nat), posD o k p (t : Nat)] [] = .ok (.lst (pw o p t)) [] := by
  unfold m_wishes
  refine fn_ret ?_
  unfold x_wishes
  refine seq_ok (drop_ok (d := .non) (call_ok (ds := [.obj 0 [.tup (iL zs)], .int (n : Nat), .int (d : Nat), posD o k p (t : Nat)]) (cons_ok (var_ok rfl) (cons_ok (var_ok rfl) (cons_ok (var_ok rfl) (cons_ok (var_ok rfl) nil_ok)))) rfl (pur_ok (noCs_cons (noC_obj zs) (noCs_cons rfl (noCs2 rfl (noC_pos _ _ _ _)))) (check_position_ok h)))) ?_
  exact ret_ok (call_ok (ds := [posD o k p (t : Nat)]) (cons_ok (var_ok rfl) nil_ok) rfl (pur_ok (noCs1 (noC_pos _ _ _ _)) (possible_wishes_ok h)))
end
end MX


set_option Elab.async false
set_option linter.all false
set_option maxRecDepth 100000
namespace MX
open PySem L2
section
variable {zs o k : List Int} {p : List IP} {n d t : Nat} {w : Option Int}
abbrev arc (zs : List Int) : D := .obj 0 [.tup (iL zs)]
theorem start_of_ok : m_start_of [bld o k, .int (t : Nat)] [] = .ok (posD o k [] (t : Nat)) [] := rfl
theorem begin_ok (h : Bd zs n o k) (hd : d ≤ 2) (ht : t ≤ 4) : m_begin [arc zs, .int (n : Nat), .int (d : Nat), bld o k, .int (t : Nat)] [] = .ok (posD o k [] (t : Nat)) [] := by
  unfold m_begin
  refine fn_ret ?_
  unfold x_begin
  refine seq_ok (drop_ok (d := .non) (call_ok (ds := [arc zs, .int (n : Nat), .int (d : Nat)]) (cons_ok (var_ok rfl) (cons_ok (var_ok rfl) (cons_ok (var_ok rfl) nil_ok))) rfl (pur_ok (noCs_cons (noC_obj zs) rfl) (check_play_ok h.room hd)))) ?_
  refine seq_ok (drop_ok (d := .non) (call_ok (ds := [arc zs, .int (n : Nat), bld o k]) (cons_ok (var_ok rfl) (cons_ok (var_ok rfl) (cons_ok (var_ok rfl) nil_ok))) rfl (pur_ok (noCs_cons (noC_obj zs) (noCs2 rfl (noC_bld o k))) (check_build_ok h)))) ?_
  refine seq_ok (drop_ok (d := .non) (call_ok (ds := [.int (t : Nat)]) (cons_ok (var_ok rfl) nil_ok) rfl (pur_ok rfl (ticks_ok ht)))) ?_
  exact ret_ok (call_ok (ds := [bld o k, .int (t : Nat)]) (cons_ok (var_ok rfl) (cons_ok (var_ok rfl) nil_ok)) rfl (pur_ok (noCs2 (noC_bld o k) rfl) start_of_ok))
theorem noC_wD : noC (wD w) = true := by cases w <;> rfl
/-- the wishes that can be uttered -/
structure Wi (o : List Int) (p : List IP) (t : Nat) (w : Option Int) : Prop where
  mem : wD w ∈ pw o p t
theorem pw_flat {o : List Int} {p : List IP} {t : Nat} : (pw o p t).all flatD = true := by
  unfold pw
  split
  · split <;> rfl
  · rw [List.all_append, flat_ints]; rfl
theorem fIn_mem {a : D} {ds : List D} {s : Sto} (ha : a ∈ ds) (hf : ds.all flatD = true) (hs : eqF a a = true) : fIn a (.lst ds) s = some (.bl true) := by
  have h1 : flatD a = true := List.all_eq_true.mp hf a ha
  have h2 : (ds.any fun y => eqF y a) = true := List.any_eq_true.mpr ⟨a, ha, hs⟩
  show (if (flatD a && ds.all flatD) = true then some (D.bl (if false = true then !(ds.any fun y => eqF y a) else ds.any fun y => eqF y a)) else none) = _
  rw [h1, hf, h2]; rfl
theorem is_wish_ok (h : Ps zs n d o k p t) (hw : wD w ∈ pw o p t) : m_is_wish [posD o k p (t : Nat), wD w] [] = .ok (.bl true) [] := by
  unfold m_is_wish
  refine fn_ret ?_
  unfold x_is_wish
  refine ret_ok (andV_yes (s1 := []) ?_ ?_)
  · cases w with
    | none => rfl
    | some x => rfl
  · refine bin_ok (var_ok (d := wD w) rfl) (call_ok (ds := [posD o k p (t : Nat)]) (cons_ok (var_ok rfl) nil_ok) rfl (pur_ok (noCs1 (noC_pos _ _ _ _)) (possible_wishes_ok h))) (fIn_mem hw pw_flat ?_)
    cases w with
    | none => rfl
    | some x => exact decide_eq_true rfl
theorem wish_of (h : Ps zs n d o k p t) (hw : wD w ∈ pw o p t) : (∀ x, w = some x → ((0 ≤ x ∧ x < 4) ∧ x ∉ pers p) ∧ x ∈ o ∧ t ≠ 0) ∧ (w = none → t ≠ 0 ∨ p ≠ []) := by
  unfold pw at hw
  by_cases ht : t = 0
  · rw [if_pos ht] at hw
    by_cases hp : p = []
    · rw [if_pos hp] at hw; cases hw
    · rw [if_neg hp] at hw
      have hw := List.mem_singleton.mp hw
      cases w with
      | none => exact ⟨(fun x e => by cases e), fun _ => Or.inr hp⟩
      | some x => cases hw
  · rw [if_neg ht] at hw
    refine ⟨fun x e => ?_, fun _ => .inl ht⟩
    subst e
    rcases List.mem_append.mp hw with hw | hw
    · obtain ⟨y, hy, e⟩ := List.mem_map.mp hw
      have e : y = x := D.int.inj e
      subst e
      have hy := List.mem_filter.mp ((sI_perm _).mem_iff.mp hy)
      have h1 := h.bd.inn y hy.1
      have h2 := h.bd.sz.hi
      refine ⟨⟨⟨h1.1, by omega⟩, ?_⟩, hy.1, ht⟩
      have h3 := hy.2
      intro z
      rw [decide_eq_true z] at h3
      cases h3
    · have hw := List.mem_singleton.mp hw
      cases hw
theorem pending_ok (h : Ps zs n d o k p t) (hw : wD w ∈ pw o p t) : m_pending_wishes [.int (d : Nat), posD o k p (t : Nat), wD w] [] = .ok (.tup (prs (pq p w (d : Nat)))) [] := by
  have F := step_ok h fun x e => ((wish_of h hw).1 x e).1
  have hpl := h.pp.len
  unfold m_pending_wishes
  refine fn_ret ?_
  unfold x_pending_wishes
  refine seq_ok (asg_ok (d := .tup (prs p)) (s1 := []) (bin_ok (var_ok (d := posD o k p (t : Nat)) rfl) rfl rfl)) ?_
  cases w with
  | none => exact seq_out (sif_yes (s1 := []) rfl (ret_ok (d := .tup (prs p)) (s1 := []) (var_ok rfl))) (fun r t h => by cases h)
  | some x =>
    refine seq_ok (ρ1 := [.val (.int (d : Nat)), .val (posD o k p (t : Nat)), .val (.int x), .val (.tup (prs p))]) (s1 := []) (sif_no (s1 := []) rfl rfl) ?_
    refine ret_ok (tupL_ok ?_)
    unfold dSortL
    rw [lst_ok (ds := prs (p ++ [(x, ((d : Nat) : Int))])) (s1 := []) ?_ ?_]
    · show Res.ofO (sortD (prs (p ++ [(x, ((d : Nat) : Int))]))) [] = _
      rw [F.srt x rfl]; rfl
    · unfold dStarF
      rw [var_ok (d := .tup (prs p)) rfl]
      show Res.ok (prs p ++ [prD (x, ((d : Nat) : Int))]) [] = _
      unfold prs
      rw [List.map_append]; rfl
    · refine decide_eq_true ?_
      rw [List.length_map, List.length_append]
      show _ + 1 ≤ _
      omega
/-- the answers: first waiting, then forgetting -/
def ans1 (o k : List Int) (q : List IP) (t : Nat) : List D := if 0 < t ∧ (q.all fun x => decide (0 < x.2)) = true then [.tup [.int 0, posD o k (q.map fun x => (x.1, x.2 - 1)) ((t - 1 : Nat) : Nat)]] else []
def ansR (zs o : List Int) (P : List Int) (b t : Nat) (r : PL) : D := .tup [.int (cst zs (agn o P b)), posD r.1 r.2 [] ((t - 1 : Nat) : Nat)]
def ans2 (zs : List Int) (n : Nat) (o k : List Int) (q : List IP) (b t : Nat) : List D := if q = [] then [] else (aft o k (pers q) n b).map (ansR zs o (pers q) b t)
abbrev ansL (zs : List Int) (n : Nat) (o k : List Int) (q : List IP) (b t : Nat) : List D := ans1 o k q t ++ ans2 zs n o k q b t
theorem ans1_len {q : List IP} : (ans1 o k q t).length ≤ 1 := by unfold ans1; split <;> simp
theorem aft_len {b : Nat} {P : List Int} (h : Fg zs n o k P b) : (aft o k P n b).length ≤ 192 := by
  have hlen := h.bd.len
  have hl := agn_len (o := o) (w := P) (b := b) h.le
  have am := abl_in (k := k) (b := b) (m := (agn o P b).length) (by omega)
  obtain ⟨_, ss, _⟩ := sort_ok (sub_orders h.bd.ord (agn_sub (w := P) (b := b)))
  obtain ⟨z1, _⟩ := ords_ok ss
  obtain ⟨z3, _⟩ := chs_ok am h.bd.room
  rw [prodL_len]
  have := Nat.mul_le_mul z1 z3
  omega
theorem later_int {ρ : List Sl} {s : Sto} {i : Nat} (hi : ρ[i]? = some (.val (.int (t : Nat)))) : dCB fMax (dCons (dC (.int 0)) (dCons (dBin fSub (dVar i) (dC (.int 1))) dNil)) ρ s = .ok (.int ((t - 1 : Nat) : Nat)) s := by
  refine cb_ok (ds := [.int 0, .int ((t : Nat) - 1)]) (cons_ok rfl (cons_ok (sub_ok (var_ok hi) rfl) nil_ok)) ?_
  show some (D.int (if ((t : Nat) : Int) - 1 > 0 then ((t : Nat) : Int) - 1 else 0)) = _
  congr 2
  split <;> omega
theorem fAll_bls {bs : List Bool} {s : Sto} : fAll [.lst (bs.map D.bl)] s = some (.bl (bs.all id)) := by
  have e : blsD (bs.map D.bl) = some bs := by
    induction bs with
    | nil => rfl
    | cons b bs ih =>
      show (match blsD (bs.map D.bl) with | some ns => some (b :: ns) | none => none) = _
      rw [ih]
  show (match blsD (bs.map D.bl) with | some ns => some (D.bl (ns.all id)) | none => none) = _
  rw [e]
theorem allpos_ok {ρ : List Sl} {s : Sto} {q : List IP} {i j l : Nat} (hq : q.length ≤ 1000) (hl : ρ[l]? = some (.val (.tup (prs q)))) (hj : j < ρ.length) : dCB fAll (dCons (dOfL (dComp (wSeq (dVar l)) (pt2 i j) eYes (dBin fGt (dVar j) (dC (.int 0))) [i, j])) dNil) ρ s = .ok (.bl (q.all fun x => decide (0 < x.2))) s := by
  have e := dcomp_pr (i := i) (j := j) (w := wSeq (dVar l)) (e := dBin fGt (dVar j) (dC (.int 0))) (ρ := ρ) (s := s) (p := q) (fun x => D.bl (decide (0 < x.2))) (wseq_ok (var_ok hl) rfl) hq fun x _ => bin_ok (var_ok (d := .int x.2) (List.getElem?_set_self (by simpa using hj))) rfl rfl
  have e2 : (q.map fun x => D.bl (decide (0 < x.2))) = (q.map fun x => decide (0 < x.2)).map D.bl := by rw [List.map_map]; rfl
  rw [e2] at e
  refine cb_ok (cons_ok (ofL_ok e) nil_ok) ?_
  rw [fAll_bls, List.all_map]
  rfl
theorem possible_answers_ok {b : Nat} (h : Ps zs n d o k p t) (hw : wD w ∈ pw o p t) (hf : pq p w (d : Nat) ≠ [] → Fg zs n o k (pers (pq p w (d : Nat))) b) :
    m_possible_answers [arc zs, .int (n : Nat), .int (d : Nat), posD o k p (t : Nat), wD w] [] = .ok (.lst (ansL zs n o k (pq p w (d : Nat)) b t)) [] := by
  have F := step_ok h fun x e => ((wish_of h hw).1 x e).1
  have hp := pending_ok h hw
  have hql := F.len
  generalize pq p w ((d : Nat) : Int) = q at hf hp hql
  have key : Wp (m_possible_answers [arc zs, .int (n : Nat), .int (d : Nat), posD o k p (t : Nat), wD w] []) fun d s1 => d = .lst (ansL zs n o k q b t) ∧ s1 = [] := by
    unfold m_possible_answers
    refine wp_fn ?_
    unfold x_possible_answers
    refine ws_seq (ws_asgP (wp_var rfl ⟨[.val (arc zs), .val (.int (n : Nat)), .val (.int (d : Nat)), .val (posD o k p (t : Nat)), .val (wD w), .val (.tup (iL o)), .val (.tup (iL k)), .val (.tup (prs p)), .val (.int (t : Nat)), .none, .none, .none, .none, .none, .none, .none, .none, .none], rfl, ?_⟩))
    refine ws_seq (ws_asg (Wp.of (call_ok (ds := [.int (d : Nat), posD o k p (t : Nat), wD w]) (cons_ok (var_ok rfl) (cons_ok (var_ok rfl) (cons_ok (var_ok rfl) nil_ok))) rfl (pur_ok (noCs_cons rfl (noCs2 (noC_pos _ _ _ _) noC_wD)) hp)) ?_))
    refine ws_seq (ws_asg (Wp.of (later_int rfl) ?_))
    refine ws_seq (ws_own (wp_lst (wp_nil ⟨rfl, ?_⟩)))
    have mid : ∀ A1 : List D, A1.length ≤ 1 → A1 = ans1 o k q t → Ws ((sSeq (sIf (eTru (dVar 9)) (sSeq (sAsg 14 (dTupL (dComp (wSeq (dVar 9)) (.tup (.cons (.nm 13) (.cons (.nm 7) .nil))) eYes (dVar 13) [13, 7])))
  (sSeq (sAsg 15 (dCall (pur m_forgetting_work) 3 (dCons (dVar 0) (dCons (dTup (dCons (dVar 5) (dCons (dVar 6) dNil))) (dCons (dVar 14) dNil)))))
  (sFor (wSeq (dCall (pur m_builds_after) 3 (dCons (dVar 1) (dCons (dTup (dCons (dVar 5) (dCons (dVar 6) dNil))) (dCons (dVar 14) dNil))))) (.tup (.cons (.nm 16) (.cons (.nm 17) .nil))) (sApp 11 (dTup (dCons (dVar 15) (dCons (dTup (dCons (dVar 16) (dCons (dVar 17) (dCons (dTup dNil) (dCons (dVar 10) dNil))))) dNil))))))) sNext)
  (sRetOwn 11)) [.val (arc zs), .val (.int (n : Nat)), .val (.int (d : Nat)), .val (posD o k p (t : Nat)), .val (wD w), .val (.tup (iL o)), .val (.tup (iL k)), .val (.tup (prs p)), .val (.int (t : Nat)), .val (.tup (prs q)), .val (.int ((t - 1 : Nat) : Nat)), .own A1, .none, .none, .none, .none, .none, .none] [])
        { nx := fun _ s1 => (fun (d : D) (s1 : Sto) => d = D.lst (ansL zs n o k q b t) ∧ s1 = []) D.non s1, rt := fun d s1 => d = D.lst (ansL zs n o k q b t) ∧ s1 = [] } := by
      intro A1 hA hA1
      by_cases hq : q = []
      · have e2 : ans2 zs n o k q b t = [] := by unfold ans2; rw [if_pos hq]
        refine ws_seq (ws_if (Wp.of (tru_ok (k := false) (var_ok (d := .tup (prs q)) rfl) (by subst hq; rfl)) ⟨(fun h => by cases h), fun _ => ws_next ?_⟩))
        dsimp only
        refine ws_retOwn rfl ?_
        refine ⟨?_, rfl⟩
        unfold ansL
        rw [e2, List.append_nil, hA1]
      · have G := hf hq
        have e2 : ans2 zs n o k q b t = (aft o k (pers q) n b).map (ansR zs o (pers q) b t) := by unfold ans2; rw [if_neg hq]
        have hal := aft_len G
        refine ws_seq (ws_if (Wp.of (tru_ok (k := true) (var_ok (d := .tup (prs q)) rfl) (by cases q with | nil => exact absurd rfl hq | cons _ _ => rfl)) ⟨fun _ => ?_, (fun h => by cases h)⟩))
        have c1 := dcomp_pr (i := 13) (j := 7) (w := wSeq (dVar 9)) (e := dVar 13) (ρ := [.val (arc zs), .val (.int (n : Nat)), .val (.int (d : Nat)), .val (posD o k p (t : Nat)), .val (wD w), .val (.tup (iL o)), .val (.tup (iL k)), .val (.tup (prs p)), .val (.int (t : Nat)), .val (.tup (prs q)), .val (.int ((t - 1 : Nat) : Nat)), .own A1, .none, .none, .none, .none, .none, .none]) (s := []) (p := q) (fun x => D.int x.1) (wseq_ok (var_ok rfl) rfl) (by omega) fun x _ => var_ok rfl
        rw [iL_pers] at c1
        refine ws_seq (ws_asg (Wp.of (tupL_ok c1) ?_))
        refine ws_seq (ws_asg (Wp.of (call_ok (ds := [arc zs, bld o k, .tup (iL (pers q))]) (cons_ok (var_ok rfl) (cons_ok (tup_ok (cons_ok (var_ok rfl) (cons_ok (var_ok rfl) nil_ok)) rfl) (cons_ok (var_ok rfl) nil_ok))) rfl (pur_ok (noCs_cons (noC_obj zs) (noCs2 (noC_bld o k) (noC_tup _))) (fwork_ok G))) ?_))
        refine ws_for (fun i r s => s = [] ∧ ∃ y16 y17, r = [.val (arc zs), .val (.int (n : Nat)), .val (.int (d : Nat)), .val (posD o k p (t : Nat)), .val (wD w), .val (.tup (iL o)), .val (.tup (iL k)), .val (.tup (prs p)), .val (.int (t : Nat)), .val (.tup (prs q)), .val (.int ((t - 1 : Nat) : Nat)), .own (A1 ++ ((aft o k (pers q) n b).take i).map (ansR zs o (pers q) b t)), .none, .none, .val (.tup (iL (pers q))), .val (.int (cst zs (agn o (pers q) b))), y16, y17])
          (Wp.of (wseq_ok (d := .lst ((aft o k (pers q) n b).map mkD)) (ds := (aft o k (pers q) n b).map mkD) (call_ok (ds := [.int (n : Nat), bld o k, .tup (iL (pers q))]) (cons_ok (var_ok rfl) (cons_ok (tup_ok (cons_ok (var_ok rfl) (cons_ok (var_ok rfl) nil_ok)) rfl) (cons_ok (var_ok rfl) nil_ok))) rfl (pur_ok (noCs_cons rfl (noCs2 (noC_bld o k) (noC_tup _))) (builds_after_ok G))) rfl) ⟨?_, ?_, ?_⟩)
        · exact ⟨rfl, .none, .none, by rw [List.take_zero, List.map_nil, List.append_nil]; rfl⟩
        · rintro i e r s hd ⟨rfl, y16, y17, rfl⟩
          rw [List.getElem?_map] at hd
          obtain ⟨u, hu, rfl⟩ := Option.map_eq_some_iff.mp hd
          have hi : i < (aft o k (pers q) n b).length := get_lt hu
          refine ⟨_, rfl, ws_app rfl (decide_eq_true ?_) (Wp.of (tup_ok (ds := [.int (cst zs (agn o (pers q) b)), posD u.1 u.2 [] ((t - 1 : Nat) : Nat)]) (cons_ok (var_ok rfl) (cons_ok (tup_ok (cons_ok (var_ok rfl) (cons_ok (var_ok rfl) (cons_ok (tup_ok nil_ok rfl) (cons_ok (var_ok rfl) nil_ok)))) rfl) nil_ok)) rfl) ⟨rfl, .val (.tup (iL u.1)), .val (.tup (iL u.2)), ?_⟩)⟩
          · rw [List.length_append, List.length_map, List.length_take]
            omega
          · rw [List.take_add_one, hu, List.map_append, ← List.append_assoc]
            rfl
        · rintro r s ⟨rfl, y16, y17, rfl⟩
          dsimp only
          refine ws_retOwn rfl ?_
          refine ⟨?_, rfl⟩
          rw [List.length_map, List.take_length, hA1, ← e2]
    by_cases hc : 0 < t ∧ (q.all fun x => decide (0 < x.2)) = true
    · have e1 : ans1 o k q t = [.tup [.int 0, posD o k (q.map fun x => (x.1, x.2 - 1)) ((t - 1 : Nat) : Nat)]] := by unfold ans1; rw [if_pos hc]
      refine ws_seq (ws_if (Wp.of (and_ok (k := true) (s1 := []) (bl_ok (bin_ok (var_ok (d := .int (t : Nat)) rfl) rfl (show fGt _ _ _ = some (D.bl true) from by show some (D.bl (decide ((0 : Int) < (t : Nat)))) = _; rw [decide_eq_true (by omega)]))) (bl_ok ((allpos_ok (i := 7) (j := 12) (l := 9) (q := q) (by omega) rfl (by show 12 < 18; decide)).trans (by rw [hc.2])))) ⟨fun _ => ?_, (fun h => by cases h)⟩))
      refine ws_app rfl rfl (Wp.of (tup_ok (ds := [.int 0, posD o k (q.map fun x => (x.1, x.2 - 1)) ((t - 1 : Nat) : Nat)]) (cons_ok rfl (cons_ok (tup_ok (cons_ok (var_ok rfl) (cons_ok (var_ok rfl) (cons_ok (tupL_ok ?_) (cons_ok (var_ok rfl) nil_ok)))) rfl) nil_ok)) rfl) (mid _ (by show 1 ≤ 1; decide) e1.symm))
      have c1 := dcomp_pr (i := 13) (j := 12) (w := wSeq (dVar 9)) (e := dTup (dCons (dVar 13) (dCons (dBin fSub (dVar 12) (dC (.int 1))) dNil))) (ρ := [.val (arc zs), .val (.int (n : Nat)), .val (.int (d : Nat)), .val (posD o k p (t : Nat)), .val (wD w), .val (.tup (iL o)), .val (.tup (iL k)), .val (.tup (prs p)), .val (.int (t : Nat)), .val (.tup (prs q)), .val (.int ((t - 1 : Nat) : Nat)), .own [], .none, .none, .none, .none, .none, .none]) (s := []) (p := q) (fun x => prD (x.1, x.2 - 1)) (wseq_ok (var_ok rfl) rfl) (by omega) fun x _ => tup_ok (cons_ok (var_ok rfl) (cons_ok (sub_ok (var_ok rfl) rfl) nil_ok)) rfl
      have e3 : (q.map fun x => prD (x.1, x.2 - 1)) = prs (q.map fun x => (x.1, x.2 - 1)) := by unfold prs; rw [List.map_map]; rfl
      rw [e3] at c1
      exact c1
    · have e1 : ans1 o k q t = [] := by unfold ans1; rw [if_neg hc]
      refine ws_seq (ws_if (Wp.of (a := false) (s := []) ?_ ⟨(fun h => by cases h), fun _ => ws_next (mid [] (by simp) e1.symm)⟩))
      by_cases h0 : 0 < t
      · have h2 : (q.all fun x => decide (0 < x.2)) = false := by
          cases hx : (q.all fun x => decide (0 < x.2)) with
          | false => rfl
          | true => exact absurd ⟨h0, hx⟩ hc
        exact and_ok (k := false) (s1 := []) (bl_ok (bin_ok (var_ok (d := .int (t : Nat)) rfl) rfl (show fGt _ _ _ = some (D.bl true) from by show some (D.bl (decide ((0 : Int) < (t : Nat)))) = _; rw [decide_eq_true (by omega)]))) (bl_ok ((allpos_ok (i := 7) (j := 12) (l := 9) (q := q) (by omega) rfl (by show 12 < 18; decide)).trans (by rw [h2])))
      · exact and_no (s1 := []) (bl_ok (bin_ok (var_ok (d := .int (t : Nat)) rfl) rfl (show fGt _ _ _ = some (D.bl false) from by show some (D.bl (decide ((0 : Int) < (t : Nat)))) = _; rw [decide_eq_false (by omega)])))
  obtain ⟨e, s1, e1, rfl, rfl⟩ := key.ex
  exact e1
theorem answers_ok {b : Nat} (h : Ps zs n d o k p t) (hw : wD w ∈ pw o p t) (hf : pq p w (d : Nat) ≠ [] → Fg zs n o k (pers (pq p w (d : Nat))) b) :
    m_answers [arc zs, .int (n : Nat), .int (d : Nat), posD o k p (t : Nat), wD w] [] = .ok (.lst (ansL zs n o k (pq p w (d : Nat)) b t)) [] := by
  unfold m_answers
  refine fn_ret ?_
  unfold x_answers
  refine seq_ok (drop_ok (d := .non) (call_ok (ds := [arc zs, .int (n : Nat), .int (d : Nat), posD o k p (t : Nat)]) (cons_ok (var_ok rfl) (cons_ok (var_ok rfl) (cons_ok (var_ok rfl) (cons_ok (var_ok rfl) nil_ok)))) rfl (pur_ok (noCs_cons (noC_obj zs) (noCs_cons rfl (noCs2 rfl (noC_pos _ _ _ _)))) (check_position_ok h)))) ?_
  refine seq_ok (ρ1 := startR N_answers.length [arc zs, .int (n : Nat), .int (d : Nat), posD o k p (t : Nat), wD w]) (s1 := []) (sif_no (s1 := []) (not_ok (k := true) (bl_ok (call_ok (ds := [posD o k p (t : Nat), wD w]) (cons_ok (var_ok rfl) (cons_ok (var_ok rfl) nil_ok)) rfl (pur_ok (noCs2 (noC_pos _ _ _ _) noC_wD) (is_wish_ok h hw))))) rfl) ?_
  exact ret_ok (call_ok (ds := [arc zs, .int (n : Nat), .int (d : Nat), posD o k p (t : Nat), wD w]) (cons_ok (var_ok rfl) (cons_ok (var_ok rfl) (cons_ok (var_ok rfl) (cons_ok (var_ok rfl) (cons_ok (var_ok rfl) nil_ok))))) rfl (pur_ok (noCs_cons (noC_obj zs) (noCs_cons rfl (noCs_cons rfl (noCs2 (noC_pos _ _ _ _) noC_wD)))) (possible_answers_ok h hw hf)))
end
end MX


set_option Elab.async false
set_option linter.all false
set_option maxRecDepth 1000000
set_option maxHeartbeats 0
namespace MX
open PySem L2
theorem subs_mem : ∀ {l c : List Int}, c ∈ subs l → ∀ x ∈ c, x ∈ l
  | [], c, h, x, hx => by
    have : c = [] := by simpa [subs] using h
    subst this; cases hx
  | y :: l, c, h, x, hx => by
    rcases List.mem_append.mp h with h | h
    · obtain ⟨e, he, rfl⟩ := List.mem_map.mp h
      rcases List.mem_cons.mp hx with rfl | hx
      · exact List.mem_cons_self
      · exact List.mem_cons_of_mem _ (subs_mem he x hx)
    · exact List.mem_cons_of_mem _ (subs_mem h x hx)
theorem perms_perm : ((subs [0, 1, 2, 3]).all fun l => !(perms 5 l).isEmpty && (perms 5 l).all fun r => r.isPerm l) = true := by decide +kernel
theorem picks_in : ((subs [1, 2, 3]).all fun l => [0, 1, 2, 3].all fun n => !(picks n l).isEmpty && (picks n l).all fun c => (subs l).contains c && decide (c.length ≤ n) && (subs [1, 2, 3]).contains c) = true := by decide +kernel
theorem subs_asc : ∀ l ∈ subs [1, 2, 3], l.Pairwise (· < ·) := by decide
section
variable {zs o k P : List Int} {p : List IP} {n d t b : Nat} {w : Option Int}
theorem aft_good (h : Fg zs n o k P b) : aft o k P n b ≠ [] ∧ ∀ r ∈ aft o k P n b, Good zs.length (n : Nat) r.1 r.2 := by
  have hlen := h.bd.len
  have hl := agn_len (o := o) (w := P) (b := b) h.le
  have am := abl_in (k := k) (b := b) (m := (agn o P b).length) (by omega)
  obtain ⟨_, ss, _⟩ := sort_ok (sub_orders h.bd.ord (agn_sub (w := P) (b := b)))
  have f1 := List.all_eq_true.mp perms_perm _ ss
  rw [Bool.and_eq_true] at f1
  have hnm : n ∈ [0, 1, 2, 3] := by have := h.bd.room; simp; omega
  have f2 := List.all_eq_true.mp (List.all_eq_true.mp picks_in _ am) n hnm
  rw [Bool.and_eq_true] at f2
  refine ⟨fun e => ?_, fun r hr => ?_⟩
  · have e2 : (aft o k P n b).length = 0 := by rw [e]; rfl
    rw [prodL_len] at e2
    have g1 : (perms 5 (sI (agn o P b))).length ≠ 0 := by
      intro z
      have := f1.1
      rw [List.length_eq_zero_iff.mp z] at this
      cases this
    have g2 : (picks n (abl k b (agn o P b).length)).length ≠ 0 := by
      intro z
      have := f2.1
      rw [List.length_eq_zero_iff.mp z] at this
      cases this
    rcases Nat.mul_eq_zero.mp e2 with z | z
    · exact g1 z
    · exact g2 z
  · unfold aft prodL at hr
    obtain ⟨y, hy, hr⟩ := List.mem_flatMap.mp hr
    obtain ⟨c, hc, rfl⟩ := List.mem_map.mp hr
    have y1 : y.Perm (agn o P b) := (List.isPerm_iff.mp (List.all_eq_true.mp f1.2 y hy)).trans (sI_perm _)
    have c1 := List.all_eq_true.mp f2.2 c hc
    rw [Bool.and_eq_true, Bool.and_eq_true] at c1
    have cs := List.contains_iff_mem.mp c1.1.1
    have cl := of_decide_eq_true c1.1.2
    have c3 := List.contains_iff_mem.mp c1.2
    have pr : (o.take b ++ y).Perm (o.take b ++ agn o P b) := y1.append_left _
    have sb : (o.take b ++ agn o P b).Sublist o := by
      have := (List.Sublist.refl (o.take b)).append (List.filter_sublist (l := o.drop b) (p := fun x => !decide (x ∈ P)))
      rw [List.take_append_drop] at this
      exact this
    have ln : (o.take b ++ y).length = b + (agn o P b).length := by
      rw [List.length_append, List.length_take, y1.length_eq, Nat.min_eq_left h.le]
    refine ⟨pr.nodup_iff.mpr (h.bd.good.nd.sublist sb), fun x hx => h.bd.inn x (sb.subset (pr.mem_iff.mp hx)), subs_asc c c3, fun x hx => ?_, by show c.length ≤ ((n : Nat) : Int).toNat; omega, ?_⟩
    · have hx := subs_mem cs x hx
      have hx := (List.mem_filter.mp hx).1
      unfold lens at hx
      obtain ⟨i, hi, rfl⟩ := List.mem_map.mp hx
      have hi := List.mem_range.mp hi
      show (1 : Int) ≤ 1 + (i : Int) ∧ 1 + (i : Int) < ((o.take b ++ y).length : Nat)
      rw [ln]
      omega
    · show (o.take b ++ y).length ≤ zs.length
      rw [ln]
      have := h.bd.good.len
      omega
theorem fg_ex (h : Ps zs n d o k p t) (hw : wD w ∈ pw o p t) : ∃ b, pq p w (d : Nat) ≠ [] → Fg zs n o k (pers (pq p w (d : Nat))) b := by
  have W := wish_of h hw
  have F := step_ok h fun x e => (W.1 x e).1
  by_cases hq : pq p w (d : Nat) = []
  · exact ⟨0, fun e => absurd hq e⟩
  · have hi : ∀ x ∈ pers (pq p w (d : Nat)), x ∈ o := by
      intro x hx
      rcases F.who x hx with g | g
      · exact (W.1 x g).2.1
      · obtain ⟨y, hy, rfl⟩ := List.mem_map.mp g
        exact h.pi y hy
    obtain ⟨b, hb⟩ := fg_of h.bd F.sub (fun e => hq (List.map_eq_nil_iff.mp e)) hi
    exact ⟨b, fun _ => hb⟩
theorem rows_ok (h : Ps zs n d o k p t) (hw : wD w ∈ pw o p t) (hf : pq p w (d : Nat) ≠ [] → Fg zs n o k (pers (pq p w (d : Nat))) b) :
    ansL zs n o k (pq p w (d : Nat)) b t ≠ [] ∧ ∀ e ∈ ansL zs n o k (pq p w (d : Nat)) b t, ∃ c o' k' p', ∃ t' : Nat, e = .tup [.int c, posD o' k' p' (t' : Nat)] ∧ Ps zs n d o' k' p' t' := by
  have W := wish_of h hw
  have F := step_ok h fun x e => (W.1 x e).1
  have ht := h.tk
  refine ⟨fun e => ?_, fun e he => ?_⟩
  · have e1 := (List.append_eq_nil_iff.mp e).1
    have e2 := (List.append_eq_nil_iff.mp e).2
    by_cases hq : pq p w (d : Nat) = []
    · have hwn : w = none := by
        cases w with
        | none => rfl
        | some x => exact absurd hq (F.ne (fun z => by cases z))
      subst hwn
      have hp : p = [] := hq
      rcases W.2 rfl with g | g
      · rw [hq] at e1
        unfold ans1 at e1
        rw [if_pos ⟨by omega, rfl⟩] at e1
        cases e1
      · exact g hp
    · unfold ans2 at e2
      rw [if_neg hq] at e2
      exact (aft_good (hf hq)).1 (List.map_eq_nil_iff.mp e2)
  · rcases List.mem_append.mp he with he | he
    · unfold ans1 at he
      by_cases hc : 0 < t ∧ ((pq p w (d : Nat)).all fun x => decide (0 < x.2)) = true
      · rw [if_pos hc] at he
        have he := List.mem_singleton.mp he
        obtain ⟨g1, g2⟩ := F.next fun x hx => of_decide_eq_true (List.all_eq_true.mp hc.2 x hx)
        refine ⟨_, _, _, _, t - 1, he, h.bd, h.dl, by omega, g1, fun x hx => ?_, fun x hx => ?_⟩
        · obtain ⟨y, hy, rfl⟩ := List.mem_map.mp hx
          exact g2 y hy
        · obtain ⟨y, hy, rfl⟩ := List.mem_map.mp hx
          rcases F.who y.1 (List.mem_map_of_mem hy) with g | g
          · exact (W.1 _ g).2.1
          · obtain ⟨z, hz, e⟩ := List.mem_map.mp g
            show y.1 ∈ o
            have e : z.1 = y.1 := e
            rw [← e]
            exact h.pi z hz
      · rw [if_neg hc] at he; cases he
    · unfold ans2 at he
      by_cases hq : pq p w (d : Nat) = []
      · rw [if_pos hq] at he; cases he
      · rw [if_neg hq] at he
        obtain ⟨r, hr, rfl⟩ := List.mem_map.mp he
        refine ⟨_, r.1, r.2, [], t - 1, rfl, ⟨h.bd.sz, h.bd.room, (aft_good (hf hq)).2 r hr⟩, h.dl, by omega, by decide, (fun x hx => by cases hx), (fun x hx => by cases hx)⟩
theorem ans_plain {q : List IP} : (ansL zs n o k q b t).all (plainD 10) = true := by
  have pp : ∀ (o k : List Int) (p : List IP) (t : Int), plainD 9 (posD o k p t) = true := by
    intro o k p t
    show (plainD 8 (.tup (iL o)) && (plainD 8 (.tup (iL k)) && (plainD 8 (.tup (prs p)) && true))) = true
    rw [plain_tup, plain_tup, show plainD 8 (.tup (prs p)) = true from plain_prs p]; rfl
  rw [List.all_append, Bool.and_eq_true]
  constructor
  · unfold ans1
    split
    · show (plainD 10 (.tup [.int 0, posD o k (q.map fun x => (x.1, x.2 - 1)) ((t - 1 : Nat) : Nat)]) && true) = true
      show ((true && (plainD 9 (posD o k (q.map fun x => (x.1, x.2 - 1)) ((t - 1 : Nat) : Nat)) && true)) && true) = true
      rw [pp]; rfl
    · rfl
  · unfold ans2
    split
    · rfl
    · refine List.all_eq_true.mpr fun e he => ?_
      obtain ⟨r, _, rfl⟩ := List.mem_map.mp he
      show (true && (plainD 9 (posD r.1 r.2 [] ((t - 1 : Nat) : Nat)) && true)) = true
      rw [pp]; rfl
theorem comp_mk {j : Nat} {e : Fn D} {ρ : List Sl} {s : Sto} {g : PL → D} : ∀ (L : List PL) (he : ∀ x ∈ L, e (ρ.set j (.val (mkD x))) s = .ok (g x) s), compL (.nm j) eYes e ρ (L.map mkD) s = .ok (L.map g) s
  | [], _ => rfl
  | x :: L, he => by
    unfold compL
    show ((noX (eYes (ρ.set j (.val (mkD x))) s)).bind fun k s => _) = _
    simp only [eYes, noX, Res.bind, if_true, he x List.mem_cons_self, comp_mk L fun y m => he y (List.mem_cons_of_mem _ m)]
    rfl
theorem dcomp_mk {j : Nat} {w : Fn (List D)} {e : Fn D} {ρ : List Sl} {s : Sto} {L : List PL} (g : PL → D) (hw : w ρ s = .ok (L.map mkD) s) (hz : L.length ≤ 1000) (he : ∀ x ∈ L, e ((ρ.set j .none).set j (.val (mkD x))) s = .ok (g x) s) :
    dComp w (.nm j) eYes e [j] ρ s = .ok (L.map g) s := by
  unfold dComp
  rw [hw]
  show (if small (L.map mkD).length = true then compL (.nm j) eYes e (ρ.set j .none) (L.map mkD) s else .bad) = _
  rw [if_pos (show small (L.map mkD).length = true from decide_eq_true (by rw [List.length_map]; omega))]
  exact comp_mk L he
abbrev tsk (zs : List Int) (n d : Nat) : D := .tup [.tup (iL zs), .int (n : Nat), .int (d : Nat)]
theorem law_answers_ok {s : Sto} (h : Ps zs n d o k p t) (hw : wD w ∈ pw o p t) (hf : pq p w (d : Nat) ≠ [] → Fg zs n o k (pers (pq p w (d : Nat))) b) :
    Wp (m_u_law_answers [tsk zs n d, posD o k p (t : Nat), wD w] s) fun e s1 => ∃ i, e = .cell i ∧ s1[i]? = some (ansL zs n o k (pq p w (d : Nat)) b t) ∧ s.length ≤ i ∧ ∀ j, j < s.length → s1[j]? = s[j]? := by
  have F := step_ok h fun x e => ((wish_of h hw).1 x e).1
  have hql := F.len
  have hpl := h.pp.len
  unfold m_u_law_answers
  refine wp_fn ?_
  unfold x_u_law_answers
  refine ws_seq (ws_asgP (wp_var rfl ⟨[.val (tsk zs n d), .val (posD o k p (t : Nat)), .val (wD w), .val (.tup (iL zs)), .val (.int (n : Nat)), .val (.int (d : Nat)), .none, .none, .none, .none, .none, .none, .none, .none, .none, .none, .none], rfl, ?_⟩))
  refine ws_seq (ws_asgP (wp_var rfl ⟨[.val (tsk zs n d), .val (posD o k p (t : Nat)), .val (wD w), .val (.tup (iL zs)), .val (.int (n : Nat)), .val (.int (d : Nat)), .val (.tup (iL o)), .val (.tup (iL k)), .val (.tup (prs p)), .val (.int (t : Nat)), .none, .none, .none, .none, .none, .none, .none], rfl, ?_⟩))
  have rest : Ws ((sSeq (sAsgP (.tup (.cons (.nm 10) (.cons (.nm 11) .nil))) (dTup (dCons (dCell (dLst dNil)) (dCons (dIf (eBl (dBin fGt (dVar 9) (dC (.int 0)))) (dBin fSub (dVar 9) (dC (.int 1))) (dC (.int 0))) dNil))))
  (sSeq (sIf (eAnd (eBl (dBin fGt (dVar 9) (dC (.int 0)))) (eBl (dBin fNotIn (dC (.int 0)) (dOfL (dComp (wSeq (dVar 8)) (.tup (.cons (.nm 12) (.cons (.nm 13) .nil))) eYes (dVar 13) [12, 13]))))) (sAppC (dVar 10) (dTup (dCons (dC (.int 0)) (dCons (dTup (dCons (dVar 6) (dCons (dVar 7) (dCons (dTupL (dComp (wSeq (dVar 8)) (.tup (.cons (.nm 12) (.cons (.nm 13) .nil))) eYes (dTup (dCons (dVar 12) (dCons (dBin fSub (dVar 13) (dC (.int 1))) dNil))) [12, 13])) (dCons (dVar 11) dNil))))) dNil)))) sNext)
  (sSeq (sAsg 14 (dOfL (dComp (wSeq (dVar 8)) (.tup (.cons (.nm 12) (.cons (.nm 13) .nil))) eYes (dVar 12) [12, 13])))
  (sSeq (sIf (eBl (dBin fNe (dVar 14) (dOfL (dLst dNil)))) (sSeq (sAsg 15 (dCall (pur m_u_law_cost) 4 (dCons (dVar 3) (dCons (dVar 6) (dCons (dVar 7) (dCons (dVar 14) dNil))))))
  (sAsg 10 (dCell (dCatF (dVar 10) (dOfL (dComp (wSeq (dCall (pur m_u_law_later) 4 (dCons (dVar 6) (dCons (dVar 7) (dCons (dVar 14) (dCons (dVar 4) dNil)))))) (.nm 16) eYes (dTup (dCons (dVar 15) (dCons (dTup (dCons (dBin fIx (dVar 16) (dC (.int 0))) (dCons (dBin fIx (dVar 16) (dC (.int 1))) (dCons (dTup dNil) (dCons (dVar 11) dNil))))) dNil))) [16])))))) sNext)
  (sRet (dVar 10)))))) [.val (tsk zs n d), .val (posD o k p (t : Nat)), .val (wD w), .val (.tup (iL zs)), .val (.int (n : Nat)), .val (.int (d : Nat)), .val (.tup (iL o)), .val (.tup (iL k)), .val (.tup (prs (pq p w (d : Nat)))), .val (.int (t : Nat)), .none, .none, .none, .none, .none, .none, .none] s)
      { nx := fun _ s1 => (fun (e : D) (s1 : Sto) => ∃ i, e = D.cell i ∧ s1[i]? = some (ansL zs n o k (pq p w (d : Nat)) b t) ∧ s.length ≤ i ∧ ∀ j, j < s.length → s1[j]? = s[j]?) D.non s1, rt := fun e s1 => ∃ i, e = D.cell i ∧ s1[i]? = some (ansL zs n o k (pq p w (d : Nat)) b t) ∧ s.length ≤ i ∧ ∀ j, j < s.length → s1[j]? = s[j]? } := by
    have hnn := F.nn
    generalize pq p w ((d : Nat) : Int) = q at hf hql hnn
    have lt : ∀ (ρ : List Sl) (u : Sto), ρ[9]? = some (.val (.int (t : Nat))) → dIf (eBl (dBin fGt (dVar 9) (dC (.int 0)))) (dBin fSub (dVar 9) (dC (.int 1))) (dC (.int 0)) ρ u = .ok (.int ((t - 1 : Nat) : Nat)) u := by
      intro ρ u h9
      by_cases h0 : 0 < t
      · rw [show (((t - 1 : Nat) : Nat) : Int) = ((t : Nat) : Int) - 1 by omega]
        exact if_yes (bl_ok (bin_ok (var_ok h9) rfl (show fGt _ _ _ = some (D.bl true) from by show some (D.bl (decide ((0 : Int) < (t : Nat)))) = _; rw [decide_eq_true (by omega)]))) (sub_ok (var_ok h9) rfl)
      · rw [show (((t - 1 : Nat) : Nat) : Int) = 0 by omega]
        exact if_no (bl_ok (bin_ok (var_ok h9) rfl (show fGt _ _ _ = some (D.bl false) from by show some (D.bl (decide ((0 : Int) < (t : Nat)))) = _; rw [decide_eq_false (by omega)]))) rfl
    refine ws_seq (ws_asgP (Wp.of (tup_ok (ds := [.cell s.length, .int ((t - 1 : Nat) : Nat)]) (cons_ok (cell_ok (lst_ok nil_ok rfl)) (cons_ok (lt _ _ rfl) nil_ok)) rfl) ⟨[.val (tsk zs n d), .val (posD o k p (t : Nat)), .val (wD w), .val (.tup (iL zs)), .val (.int (n : Nat)), .val (.int (d : Nat)), .val (.tup (iL o)), .val (.tup (iL k)), .val (.tup (prs q)), .val (.int (t : Nat)), .val (.cell s.length), .val (.int ((t - 1 : Nat) : Nat)), .none, .none, .none, .none, .none], rfl, ?_⟩))
    have mid : ∀ s2 : Sto, s2 = s ++ [ans1 o k q t] → Ws ((sSeq (sAsg 14 (dOfL (dComp (wSeq (dVar 8)) (.tup (.cons (.nm 12) (.cons (.nm 13) .nil))) eYes (dVar 12) [12, 13])))
  (sSeq (sIf (eBl (dBin fNe (dVar 14) (dOfL (dLst dNil)))) (sSeq (sAsg 15 (dCall (pur m_u_law_cost) 4 (dCons (dVar 3) (dCons (dVar 6) (dCons (dVar 7) (dCons (dVar 14) dNil))))))
  (sAsg 10 (dCell (dCatF (dVar 10) (dOfL (dComp (wSeq (dCall (pur m_u_law_later) 4 (dCons (dVar 6) (dCons (dVar 7) (dCons (dVar 14) (dCons (dVar 4) dNil)))))) (.nm 16) eYes (dTup (dCons (dVar 15) (dCons (dTup (dCons (dBin fIx (dVar 16) (dC (.int 0))) (dCons (dBin fIx (dVar 16) (dC (.int 1))) (dCons (dTup dNil) (dCons (dVar 11) dNil))))) dNil))) [16])))))) sNext)
  (sRet (dVar 10)))) [.val (tsk zs n d), .val (posD o k p (t : Nat)), .val (wD w), .val (.tup (iL zs)), .val (.int (n : Nat)), .val (.int (d : Nat)), .val (.tup (iL o)), .val (.tup (iL k)), .val (.tup (prs q)), .val (.int (t : Nat)), .val (.cell s.length), .val (.int ((t - 1 : Nat) : Nat)), .none, .none, .none, .none, .none] s2)
      { nx := fun _ s1 => (fun (e : D) (s1 : Sto) => ∃ i, e = D.cell i ∧ s1[i]? = some (ansL zs n o k q b t) ∧ s.length ≤ i ∧ ∀ j, j < s.length → s1[j]? = s[j]?) D.non s1, rt := fun e s1 => ∃ i, e = D.cell i ∧ s1[i]? = some (ansL zs n o k q b t) ∧ s.length ≤ i ∧ ∀ j, j < s.length → s1[j]? = s[j]? } := by
      rintro s2 rfl
      have c1 := dcomp_pr (i := 12) (j := 13) (w := wSeq (dVar 8)) (e := dVar 12) (ρ := [.val (tsk zs n d), .val (posD o k p (t : Nat)), .val (wD w), .val (.tup (iL zs)), .val (.int (n : Nat)), .val (.int (d : Nat)), .val (.tup (iL o)), .val (.tup (iL k)), .val (.tup (prs q)), .val (.int (t : Nat)), .val (.cell s.length), .val (.int ((t - 1 : Nat) : Nat)), .none, .none, .none, .none, .none]) (s := s ++ [ans1 o k q t]) (p := q) (fun x => D.int x.1) (wseq_ok (var_ok rfl) rfl) (by omega) fun x _ => var_ok rfl
      rw [iL_pers] at c1
      refine ws_seq (ws_asg (Wp.of (ofL_ok c1) ?_))
      have nl : ∀ u : Sto, fNe (.lst (iL (pers q))) (.lst []) u = some (.bl (!decide (pers q = []))) := fun u => fNe_lst (ys := [])
      refine ws_seq (ws_if (wp_bl (Wp.of (bin_ok (var_ok (d := .lst (iL (pers q))) rfl) (ofL_ok (lst_ok nil_ok rfl)) (nl _)) ⟨_, rfl, fun hne => ?_, fun he => ?_⟩)))
      · have hq : q ≠ [] := by
          intro e
          subst e
          cases hne
        have G := hf hq
        have e2 : ans2 zs n o k q b t = (aft o k (pers q) n b).map (ansR zs o (pers q) b t) := by unfold ans2; rw [if_neg hq]
        have hal := aft_len G
        refine ws_seq (ws_asg (Wp.of (call_ok (ds := [.tup (iL zs), .tup (iL o), .tup (iL k), .lst (iL (pers q))]) (cons_ok (var_ok rfl) (cons_ok (var_ok rfl) (cons_ok (var_ok rfl) (cons_ok (var_ok rfl) nil_ok)))) rfl (pur_ok (noCs_cons (noC_tup _) (noCs_cons (noC_tup _) (noCs2 (noC_tup _) (noC_lst _)))) (cost_ok G))) ?_))
        have hcat : dCatF (dVar 10) (dOfL (dComp (wSeq (dCall (pur m_u_law_later) 4 (dCons (dVar 6) (dCons (dVar 7) (dCons (dVar 14) (dCons (dVar 4) dNil)))))) (.nm 16) eYes (dTup (dCons (dVar 15) (dCons (dTup (dCons (dBin fIx (dVar 16) (dC (.int 0))) (dCons (dBin fIx (dVar 16) (dC (.int 1))) (dCons (dTup dNil) (dCons (dVar 11) dNil))))) dNil))) [16]))
            [.val (tsk zs n d), .val (posD o k p (t : Nat)), .val (wD w), .val (.tup (iL zs)), .val (.int (n : Nat)), .val (.int (d : Nat)), .val (.tup (iL o)), .val (.tup (iL k)), .val (.tup (prs q)), .val (.int (t : Nat)), .val (.cell s.length), .val (.int ((t - 1 : Nat) : Nat)), .none, .none, .val (.lst (iL (pers q))), .val (.int (cst zs (agn o (pers q) b))), .none] (s ++ [ans1 o k q t]) = .ok (ansL zs n o k q b t) (s ++ [ans1 o k q t]) := by
          have c2 := dcomp_mk (j := 16) (w := wSeq (dCall (pur m_u_law_later) 4 (dCons (dVar 6) (dCons (dVar 7) (dCons (dVar 14) (dCons (dVar 4) dNil)))))) (e := (dTup (dCons (dVar 15) (dCons (dTup (dCons (dBin fIx (dVar 16) (dC (.int 0))) (dCons (dBin fIx (dVar 16) (dC (.int 1))) (dCons (dTup dNil) (dCons (dVar 11) dNil))))) dNil))))
            (ρ := [.val (tsk zs n d), .val (posD o k p (t : Nat)), .val (wD w), .val (.tup (iL zs)), .val (.int (n : Nat)), .val (.int (d : Nat)), .val (.tup (iL o)), .val (.tup (iL k)), .val (.tup (prs q)), .val (.int (t : Nat)), .val (.cell s.length), .val (.int ((t - 1 : Nat) : Nat)), .none, .none, .val (.lst (iL (pers q))), .val (.int (cst zs (agn o (pers q) b))), .none]) (s := s ++ [ans1 o k q t]) (L := aft o k (pers q) n b) (ansR zs o (pers q) b t)
            (wseq_ok (call_ok (ds := [.tup (iL o), .tup (iL k), .lst (iL (pers q)), .int (n : Nat)]) (cons_ok (var_ok rfl) (cons_ok (var_ok rfl) (cons_ok (var_ok rfl) (cons_ok (var_ok rfl) nil_ok)))) rfl (pur_ok (noCs_cons (noC_tup _) (noCs_cons (noC_tup _) (noCs2 (noC_lst _) rfl))) (later_ok G))) rfl) (by omega)
            fun r _ => tup_ok (ds := [.int (cst zs (agn o (pers q) b)), posD r.1 r.2 [] ((t - 1 : Nat) : Nat)]) (cons_ok (var_ok rfl) (cons_ok (tup_ok (cons_ok (bin_ok (a := mkD r) (b := .int 0) (var_ok rfl) rfl rfl) (cons_ok (bin_ok (a := mkD r) (b := .int 1) (var_ok rfl) rfl rfl) (cons_ok (tup_ok nil_ok rfl) (cons_ok (var_ok rfl) nil_ok)))) rfl) nil_ok)) rfl
          unfold dCatF
          rw [var_ok (d := .cell s.length) rfl]
          show (dOfL _ _ _).bind _ = _
          rw [ofL_ok c2]
          show (match (s ++ [ans1 o k q t])[s.length]? with | some xs => if small (xs.length + ((aft o k (pers q) n b).map (ansR zs o (pers q) b t)).length) = true then Res.ok (xs ++ (aft o k (pers q) n b).map (ansR zs o (pers q) b t)) (s ++ [ans1 o k q t]) else .bad | none => .bad) = _
          have g : (s ++ [ans1 o k q t])[s.length]? = some (ans1 o k q t) := by simp
          rw [g]
          show (if small ((ans1 o k q t).length + ((aft o k (pers q) n b).map (ansR zs o (pers q) b t)).length) = true then Res.ok (ans1 o k q t ++ (aft o k (pers q) n b).map (ansR zs o (pers q) b t)) (s ++ [ans1 o k q t]) else .bad) = _
          rw [if_pos (show small _ = true from decide_eq_true (by have := ans1_len (o := o) (k := k) (t := t) (q := q); rw [List.length_map]; omega)), ← e2]
        refine ws_asg (Wp.of (cell_ok hcat) ?_)
        dsimp only
        refine ws_ret (wp_var rfl ⟨_, rfl, by simp, by simp, fun j hj => ?_⟩)
        rw [List.getElem?_append_left (by simp; omega), List.getElem?_append_left hj]
      · have hq : q = [] := by
          cases q with
          | nil => rfl
          | cons _ _ => cases he
        have e2 : ans2 zs n o k q b t = [] := by unfold ans2; rw [if_pos hq]
        refine ws_next ?_
        dsimp only
        refine ws_ret (wp_var rfl ⟨s.length, rfl, ?_, Nat.le_refl _, fun j hj => List.getElem?_append_left hj⟩)
        unfold ansL
        rw [e2, List.append_nil]
        simp
    have z0 : ∀ u : Sto, fNotIn (.int 0) (.lst (iL (lfts q))) u = some (.bl (q.all fun x => decide (0 < x.2))) := by
      intro u
      rw [fNotIn_okL]
      congr 2
      cases hx : (q.all fun x => decide (0 < x.2)) with
      | true =>
        rw [decide_eq_false]; rfl
        intro hm
        obtain ⟨x, hx1, e⟩ := List.mem_map.mp hm
        have := of_decide_eq_true (List.all_eq_true.mp hx x hx1)
        omega
      | false =>
        rw [decide_eq_true]; rfl
        rw [List.all_eq_false] at hx
        obtain ⟨x, hx1, hx2⟩ := hx
        have h1 := hnn x hx1
        have h2 : ¬ 0 < x.2 := fun z => hx2 (decide_eq_true z)
        have : x.2 = 0 := by omega
        exact List.mem_map.mpr ⟨x, hx1, this⟩
    have c3 := dcomp_pr (i := 12) (j := 13) (w := wSeq (dVar 8)) (e := dVar 13) (ρ := [.val (tsk zs n d), .val (posD o k p (t : Nat)), .val (wD w), .val (.tup (iL zs)), .val (.int (n : Nat)), .val (.int (d : Nat)), .val (.tup (iL o)), .val (.tup (iL k)), .val (.tup (prs q)), .val (.int (t : Nat)), .val (.cell s.length), .val (.int ((t - 1 : Nat) : Nat)), .none, .none, .none, .none, .none]) (s := s ++ [[]]) (p := q) (fun x => D.int x.2) (wseq_ok (var_ok rfl) rfl) (by omega) fun x _ => var_ok rfl
    rw [iL_lfts] at c3
    have gy : 0 < t → fGt (.int (t : Nat)) (.int 0) (s ++ [[]]) = some (.bl true) := fun h0 => by show some (D.bl (decide ((0 : Int) < (t : Nat)))) = _; rw [decide_eq_true (by omega)]
    by_cases hc : 0 < t ∧ (q.all fun x => decide (0 < x.2)) = true
    · have e1 : ans1 o k q t = [.tup [.int 0, posD o k (q.map fun x => (x.1, x.2 - 1)) ((t - 1 : Nat) : Nat)]] := by unfold ans1; rw [if_pos hc]
      refine ws_seq (ws_if (Wp.of (and_ok (k := true) (s1 := s ++ [[]]) (bl_ok (bin_ok (var_ok (d := .int (t : Nat)) rfl) rfl (gy hc.1))) (bl_ok (bin_ok (a := .int 0) rfl (ofL_ok c3) (by rw [z0, hc.2])))) ⟨fun _ => ?_, (fun h => by cases h)⟩))
      have c4 := dcomp_pr (i := 12) (j := 13) (w := wSeq (dVar 8)) (e := dTup (dCons (dVar 12) (dCons (dBin fSub (dVar 13) (dC (.int 1))) dNil))) (ρ := [.val (tsk zs n d), .val (posD o k p (t : Nat)), .val (wD w), .val (.tup (iL zs)), .val (.int (n : Nat)), .val (.int (d : Nat)), .val (.tup (iL o)), .val (.tup (iL k)), .val (.tup (prs q)), .val (.int (t : Nat)), .val (.cell s.length), .val (.int ((t - 1 : Nat) : Nat)), .none, .none, .none, .none, .none]) (s := s ++ [[]]) (p := q) (fun x => prD (x.1, x.2 - 1)) (wseq_ok (var_ok rfl) rfl) (by omega) fun x _ => tup_ok (cons_ok (var_ok rfl) (cons_ok (sub_ok (var_ok rfl) rfl) nil_ok)) rfl
      have e3 : (q.map fun x => prD (x.1, x.2 - 1)) = prs (q.map fun x => (x.1, x.2 - 1)) := by unfold prs; rw [List.map_map]; rfl
      rw [e3] at c4
      have ha : sAppC (dVar 10) (dTup (dCons (dC (.int 0)) (dCons (dTup (dCons (dVar 6) (dCons (dVar 7) (dCons (dTupL (dComp (wSeq (dVar 8)) (.tup (.cons (.nm 12) (.cons (.nm 13) .nil))) eYes (dTup (dCons (dVar 12) (dCons (dBin fSub (dVar 13) (dC (.int 1))) dNil))) [12, 13])) (dCons (dVar 11) dNil))))) dNil)))
          [.val (tsk zs n d), .val (posD o k p (t : Nat)), .val (wD w), .val (.tup (iL zs)), .val (.int (n : Nat)), .val (.int (d : Nat)), .val (.tup (iL o)), .val (.tup (iL k)), .val (.tup (prs q)), .val (.int (t : Nat)), .val (.cell s.length), .val (.int ((t - 1 : Nat) : Nat)), .none, .none, .none, .none, .none] (s ++ [[]])
          = .next [.val (tsk zs n d), .val (posD o k p (t : Nat)), .val (wD w), .val (.tup (iL zs)), .val (.int (n : Nat)), .val (.int (d : Nat)), .val (.tup (iL o)), .val (.tup (iL k)), .val (.tup (prs q)), .val (.int (t : Nat)), .val (.cell s.length), .val (.int ((t - 1 : Nat) : Nat)), .none, .none, .none, .none, .none] (s ++ [ans1 o k q t]) := by
        unfold sAppC sBind
        rw [var_ok (d := .cell s.length) rfl]
        dsimp only
        rw [tup_ok (ds := [.int 0, posD o k (q.map fun x => (x.1, x.2 - 1)) ((t - 1 : Nat) : Nat)]) (cons_ok rfl (cons_ok (tup_ok (cons_ok (var_ok rfl) (cons_ok (var_ok rfl) (cons_ok (tupL_ok c4) (cons_ok (var_ok rfl) nil_ok)))) rfl) nil_ok)) rfl]
        dsimp only
        have g : (s ++ [[]])[s.length]? = some ([] : List D) := by simp
        rw [g]
        dsimp only
        rw [if_pos (show small ([] : List D).length = true from rfl), e1]
        congr 1
        simp
      rw [ha]
      exact mid _ rfl
    · have e1 : ans1 o k q t = [] := by unfold ans1; rw [if_neg hc]
      refine ws_seq (ws_if (Wp.of (a := false) (s := s ++ [[]]) ?_ ⟨(fun h => by cases h), fun _ => ws_next (mid _ (by rw [e1]))⟩))
      by_cases h0 : 0 < t
      · have h2 : (q.all fun x => decide (0 < x.2)) = false := by
          cases hx : (q.all fun x => decide (0 < x.2)) with
          | false => rfl
          | true => exact absurd ⟨h0, hx⟩ hc
        exact and_ok (k := false) (s1 := s ++ [[]]) (bl_ok (bin_ok (var_ok (d := .int (t : Nat)) rfl) rfl (gy h0))) (bl_ok (bin_ok (a := .int 0) rfl (ofL_ok c3) (by rw [z0, h2])))
      · exact and_no (s1 := s ++ [[]]) (bl_ok (bin_ok (var_ok (d := .int (t : Nat)) rfl) rfl (show fGt _ _ _ = some (D.bl false) from by show some (D.bl (decide ((0 : Int) < (t : Nat)))) = _; rw [decide_eq_false (by omega)])))
  cases w with
  | none => exact ws_seq (ws_if (Wp.of (a := false) (s := s) rfl ⟨(fun h => by cases h), fun _ => ws_next rest⟩))
  | some x =>
    refine ws_seq (ws_if (Wp.of (a := true) (s := s) rfl ⟨fun _ => ?_, (fun h => by cases h)⟩))
    refine ws_asg (Wp.of (tupL_ok (ds := prs (pq p (some x) (d : Nat))) (s1 := s) ?_) rest)
    unfold dSortF
    rw [bin_ok (d := .tup (prs (p ++ [(x, ((d : Nat) : Int))]))) (var_ok (d := .tup (prs p)) rfl) (tup_ok (ds := [prD (x, ((d : Nat) : Int))]) (cons_ok (tup_ok (cons_ok (var_ok rfl) (cons_ok (var_ok rfl) nil_ok)) rfl) nil_ok) rfl) ?_]
    · show Res.ofO (sortD (prs (p ++ [(x, ((d : Nat) : Int))]))) s = _
      rw [F.srt x rfl]; rfl
    · show (if small ((prs p).length + 1) = true then some (D.tup (prs p ++ [prD (x, ((d : Nat) : Int))])) else none) = _
      rw [if_pos (show small ((prs p).length + 1) = true from decide_eq_true (by rw [List.length_map]; omega))]
      unfold prs
      rw [List.map_append]; rfl
end
end MX


set_option Elab.async false
set_option linter.all false
set_option maxRecDepth 100000
set_option maxHeartbeats 0
namespace MX
open PySem L2
theorem pw_plain {o : List Int} {p : List IP} {t : Nat} : (pw o p t).all (plainD 10) = true := by
  unfold pw
  split
  · split <;> rfl
  · rw [List.all_append, plain_ints]; rfl
theorem pw_wD {o : List Int} {p : List IP} {t : Nat} {e : D} (h : e ∈ pw o p t) : ∃ w, e = wD w := by
  unfold pw at h
  split at h
  · split at h
    · cases h
    · exact ⟨none, List.mem_singleton.mp h⟩
  · rcases List.mem_append.mp h with h | h
    · obtain ⟨x, _, rfl⟩ := List.mem_map.mp h
      exact ⟨some x, rfl⟩
    · exact ⟨none, List.mem_singleton.mp h⟩
theorem pw_len {zs o k : List Int} {p : List IP} {n d t : Nat} (h : Ps zs n d o k p t) : (pw o p t).length ≤ 5 := by
  have hl := h.bd.len
  unfold pw
  split
  · split <;> simp
  · have := (List.filter_sublist (l := o) (p := fun x => !decide (x ∈ pers p))).length_le
    rw [List.length_append, List.length_map, (sI_perm _).length_eq]
    show _ + 1 ≤ _
    omega
theorem fEq_nil {A : List D} {s : Sto} (h : A.all (plainD 10) = true) : fEq (.lst A) (.lst []) s = some (.bl A.isEmpty) := by
  obtain ⟨ps, e, e2, l, d⟩ := lst_plain (s := s) h
  have q : eqP s (.lst A) (.lst []) = some A.isEmpty := by
    show (match toP s (.lst A), toP s (.lst []) with | some p, some q => if SeqAt.shaped p && SeqAt.shaped q then some (PyData.eqv p q) else none | _, _ => none) = _
    rw [e]
    show (if (SeqAt.shaped (.list ps) && SeqAt.shaped (.list [])) = true then some (PyData.eqv (.list ps) (.list [])) else none) = _
    rw [shaped_of l d, show SeqAt.shaped (.list []) = true from shaped_list []]
    cases A with
    | nil =>
      have e2 : some [] = some ps := e2
      cases e2
      rfl
    | cons a A =>
      have e2 : (match toP0 a with | some p => (match toPs A with | some ps => some (p :: ps) | none => none) | none => none) = some ps := e2
      cases h1 : toP0 a with
      | none => rw [h1] at e2; cases e2
      | some p =>
        rw [h1] at e2
        cases h2 : toPs A with
        | none => rw [h2] at e2; cases e2
        | some qs => rw [h2] at e2; cases e2; rfl
  show (match eqP s (.lst A) (.lst []) with | some k => some (D.bl k) | none => none) = _
  rw [q]
theorem at_ok {A : List D} {r : Int} (h : 0 ≤ r ∧ r < A.length) : ∃ e, e ∈ A ∧ atI A r = some e := by
  have h2 : r.toNat < A.length := by omega
  refine ⟨A[r.toNat], List.getElem_mem h2, ?_⟩
  unfold atI ixN
  rw [if_pos h.1, if_pos h.2]
  show A[r.toNat]? = _
  rw [List.getElem?_eq_getElem h2]
theorem Dr.keep {j : Nat} {s s1 : Sto} (h : Dr j s) (hk : ∀ i, i < s.length → s1[i]? = s[i]?) : Dr j s1 := by
  obtain ⟨zs, e⟩ := h
  exact ⟨zs, by rw [hk j (get_lt e)]; exact e⟩
section
variable {zs o k : List Int} {p : List IP} {n d t j : Nat}
theorem more_ws {s : Sto} {x0 x2 x8 x9 x10 x12 x13 x14 x15 : Sl} {O : Out} (h : Ps zs n d o k p t) (hD : Dr j s)
    (hbk : ∀ y13, O.bk [x0, .val (.cell j), x2, .val (.tup (iL zs)), .val (.int (n : Nat)), .val (.int (d : Nat)), .val (arc zs), .val (tsk zs n d), x8, x9, x10, .val (posD o k p (t : Nat)), x12, y13, x14, x15] s)
    (hO : ∀ o' k' p' (t' : Nat) y13 y14 y15 u, Ps zs n d o' k' p' t' → Dr j u → O.nx [x0, .val (.cell j), x2, .val (.tup (iL zs)), .val (.int (n : Nat)), .val (.int (d : Nat)), .val (arc zs), .val (tsk zs n d), x8, x9, x10, .val (posD o' k' p' (t' : Nat)), x12, y13, y14, y15] u) :
    Ws ((sSeq (sAsg 13 (dCall (pur m_u_law_wishes) 1 (dCons (dVar 11) dNil)))
  (sSeq (sIf (eBl (dBin fNe (dCall (pur m_wishes) 4 (dCons (dVar 6) (dCons (dVar 4) (dCons (dVar 5) (dCons (dVar 11) dNil))))) (dVar 13))) (sRet (dC (.bl false))) sNext)
  (sSeq (sIf (eBl (dBin fEq (dVar 13) (dOfL (dLst dNil)))) sBrk sNext)
  (sSeq (sFor (wSeq (dVar 13)) (.nm 14) (sIf (eBl (dBin fNe (dCall (pur m_answers) 5 (dCons (dVar 6) (dCons (dVar 4) (dCons (dVar 5) (dCons (dVar 11) (dCons (dVar 14) dNil)))))) (dCall m_u_law_answers 3 (dCons (dVar 7) (dCons (dVar 11) (dCons (dVar 14) dNil)))))) (sRet (dC (.bl false))) sNext))
  (sSeq (sAsg 15 (dCall m_u_law_answers 3 (dCons (dVar 7) (dCons (dVar 11) (dCons (dBin fIx (dVar 13) (dCall m_u_law_take 2 (dCons (dVar 1) (dCons (dCB fLen (dCons (dVar 13) dNil)) dNil)))) dNil)))))
  (sAsg 11 (dBin fIx (dBin fIx (dVar 15) (dIf (eBl (dBin fGt (dCall m_u_law_take 2 (dCons (dVar 1) (dCons (dC (.int 3)) dNil))) (dC (.int 0)))) (dC (.int 0)) (dCall m_u_law_take 2 (dCons (dVar 1) (dCons (dCB fLen (dCons (dVar 15) dNil)) dNil))))) (dC (.int 1)))))))))
      [x0, .val (.cell j), x2, .val (.tup (iL zs)), .val (.int (n : Nat)), .val (.int (d : Nat)), .val (arc zs), .val (tsk zs n d), x8, x9, x10, .val (posD o k p (t : Nat)), x12, x13, x14, x15] s) O := by
  have hpl := pw_len h
  refine ws_seq (ws_asg (Wp.of (call_ok (ds := [posD o k p (t : Nat)]) (cons_ok (var_ok rfl) nil_ok) rfl (pur_ok (noCs1 (noC_pos _ _ _ _)) (law_wishes_ok h))) ?_))
  refine ws_seq (ws_if (wp_bl (Wp.of (bin_ok (call_ok (ds := [arc zs, .int (n : Nat), .int (d : Nat), posD o k p (t : Nat)]) (cons_ok (var_ok rfl) (cons_ok (var_ok rfl) (cons_ok (var_ok rfl) (cons_ok (var_ok rfl) nil_ok)))) rfl (pur_ok (noCs_cons (noC_obj zs) (noCs_cons rfl (noCs2 rfl (noC_pos _ _ _ _)))) (wishes_ok h))) (var_ok (d := .lst (pw o p t)) rfl) (fNe_lst_same pw_plain)) ⟨_, rfl, (fun h => by cases h), fun _ => ws_next ?_⟩)))
  refine ws_seq (ws_if (wp_bl (Wp.of (bin_ok (var_ok (d := .lst (pw o p t)) rfl) (ofL_ok (lst_ok nil_ok rfl)) (fEq_nil pw_plain)) ⟨_, rfl, fun _ => hbk _, fun hne => ws_next ?_⟩)))
  have hpos : 0 < (pw o p t).length := by
    cases e : pw o p t with
    | nil => rw [e] at hne; cases hne
    | cons a A => simp
  refine ws_seq (ws_for (fun i r u => Dr j u ∧ ∃ y14, r = [x0, .val (.cell j), x2, .val (.tup (iL zs)), .val (.int (n : Nat)), .val (.int (d : Nat)), .val (arc zs), .val (tsk zs n d), x8, x9, x10, .val (posD o k p (t : Nat)), x12, .val (.lst (pw o p t)), y14, x15]) (Wp.of (wseq_ok (d := .lst (pw o p t)) (var_ok rfl) rfl) ⟨?_, ?_, ?_⟩))
  · exact ⟨hD, x14, rfl⟩
  · rintro i e r u hd ⟨hu, y14, rfl⟩
    have hm := List.mem_of_getElem? hd
    obtain ⟨w, rfl⟩ := pw_wD hm
    obtain ⟨b, hf⟩ := fg_ex h hm
    refine ⟨_, rfl, ws_if (wp_bl (wp_bin (Wp.of (call_ok (ds := [arc zs, .int (n : Nat), .int (d : Nat), posD o k p (t : Nat), wD w]) (cons_ok (var_ok rfl) (cons_ok (var_ok rfl) (cons_ok (var_ok rfl) (cons_ok (var_ok rfl) (cons_ok (var_ok rfl) nil_ok))))) rfl (pur_ok (noCs_cons (noC_obj zs) (noCs_cons rfl (noCs_cons rfl (noCs2 (noC_pos _ _ _ _) noC_wD)))) (answers_ok h hm hf))) (wp_call (wp_cons (wp_var rfl (wp_cons (wp_var rfl (wp_cons (wp_var rfl (wp_nil ⟨rfl, (law_answers_ok h hm hf).mono ?_⟩)))))))))))⟩
    rintro e2 u2 ⟨i2, rfl, hi2, _, hk⟩
    exact ⟨_, fNe_cell_same hi2 ans_plain, _, rfl, (fun h => by cases h), fun _ => ws_next ⟨hu.keep hk, _, rfl⟩⟩
  · rintro r u ⟨hu, y14, rfl⟩
    dsimp only
    refine ws_seq (ws_asg (wp_call (wp_cons (wp_var rfl (wp_cons (wp_var rfl (wp_cons (wp_bin (wp_var rfl (wp_call (wp_cons (wp_var rfl (wp_cons (Wp.of (cb_ok (f := fLen) (d := .int ((pw o p t).length : Nat)) (cons_ok (var_ok (d := .lst (pw o p t)) rfl) nil_ok) rfl) (wp_nil ⟨rfl, ?_⟩)))))))))))))))
    refine (take_wp hu (by omega)).mono ?_
    rintro e u1 ⟨hu1, _, r, rfl, r0, r1⟩
    obtain ⟨e, he, ha⟩ := at_ok (A := pw o p t) ⟨r0, r1⟩
    obtain ⟨w, rfl⟩ := pw_wD he
    obtain ⟨b, hf⟩ := fg_ex h he
    refine ⟨_, ha, wp_nil ⟨rfl, (law_answers_ok h he hf).mono ?_⟩⟩
    rintro e2 u2 ⟨i2, rfl, hi2, hle, hk⟩
    have hu2 : Dr j u2 := hu1.keep hk
    have hji : i2 ≠ j := by
      obtain ⟨_, e⟩ := hu1
      have := get_lt e
      omega
    obtain ⟨hne2, hall⟩ := rows_ok h he hf
    have hA : 0 < (ansL zs n o k (pq p w (d : Nat)) b t).length := List.length_pos_iff.mpr hne2
    generalize ansL zs n o k (pq p w (d : Nat)) b t = A at hi2 hall hA
    refine ws_asg (wp_bin (wp_bin (wp_var rfl ?_)))
    have key : Wp ((dIf (eBl (dBin fGt (dCall m_u_law_take 2 (dCons (dVar 1) (dCons (dC (.int 3)) dNil))) (dC (.int 0)))) (dC (.int 0)) (dCall m_u_law_take 2 (dCons (dVar 1) (dCons (dCB fLen (dCons (dVar 15) dNil)) dNil))))
        [x0, .val (.cell j), x2, .val (.tup (iL zs)), .val (.int (n : Nat)), .val (.int (d : Nat)), .val (arc zs), .val (tsk zs n d), x8, x9, x10, .val (posD o k p (t : Nat)), x12, .val (.lst (pw o p t)), y14, .val (.cell i2)] u2) fun e u3 => ∃ r : Int, e = .int r ∧ (0 ≤ r ∧ r < A.length) ∧ Dr j u3 ∧ u3[i2]? = some A := by
      refine wp_if (wp_bl (wp_bin (wp_call (wp_cons (wp_var rfl (wp_cons (wp_c (wp_nil ⟨rfl, ?_⟩))))))))
      refine (take_wp hu2 (by decide)).mono ?_
      rintro e3 u3 ⟨hu3, hk3, r3, rfl, _, _⟩
      have hi3 : u3[i2]? = some A := by rw [hk3 i2 hji]; exact hi2
      refine wp_c ⟨_, rfl, _, rfl, fun _ => wp_c ⟨0, rfl, ⟨by omega, by omega⟩, hu3, hi3⟩, fun _ => ?_⟩
      refine wp_call (wp_cons (wp_var rfl (wp_cons (Wp.of (cb_ok (d := .int (A.length : Nat)) (cons_ok (var_ok (d := .cell i2) rfl) nil_ok) ?_) (wp_nil ⟨rfl, ?_⟩)))))
      · show (u3[i2]?).map (fun ds : List D => D.int ds.length) = _
        rw [hi3]; rfl
      refine (take_wp hu3 (by omega)).mono ?_
      rintro e4 u4 ⟨hu4, hk4, r4, rfl, q0, q1⟩
      exact ⟨r4, rfl, ⟨q0, q1⟩, hu4, by rw [hk4 i2 hji]; exact hi3⟩
    refine key.mono ?_
    rintro e4 u4 ⟨r4, rfl, hr4, hu4, hi4⟩
    obtain ⟨e5, he5, ha5⟩ := at_ok hr4
    obtain ⟨c, o', k', p', t', rfl, hP⟩ := hall e5 he5
    refine ⟨.tup [.int c, posD o' k' p' (t' : Nat)], ?_, wp_c ⟨posD o' k' p' (t' : Nat), rfl, hO o' k' p' t' _ _ _ u4 hP hu4⟩⟩
    show (match u4[i2]? with | some ds => atI ds r4 | none => none) = _
    rw [hi4]
    exact ha5
end
theorem bits_lt {z : Int} (h : PySem.Builtin.Int.intBits z ≤ 1048576) : z.natAbs < 2 ^ 1048640 := by
  generalize hE : (1048640 : Nat) = E
  have hE' : 1048576 < E := by omega
  unfold PySem.Builtin.Int.intBits at h
  by_cases z0 : z = 0
  · subst z0
    exact Nat.two_pow_pos E
  · have h0 : (z == 0) = false := by simp [z0]
    rw [h0] at h
    have h1 : z.natAbs.log2 + 1 ≤ 1048576 := h
    have : z.natAbs < 2 ^ (z.natAbs.log2 + 1) := Nat.lt_log2_self
    exact Nat.lt_of_lt_of_le this (Nat.pow_le_pow_right (by decide) (by omega))
theorem law_true (ns : List Int) (hl : ns.length ≤ 63) (hb : ∀ z ∈ ns, PySem.Builtin.Int.intBits z ≤ 1048576) : ∃ s, m_law [.ro (ns.map D.int)] [] = .ok (.bl true) s := by
  have key : Wp (m_law [.ro (iL ns)] []) fun d _ => d = .bl true := by
    have hbz : ∀ z ∈ ns.take (min 63 ns.length), z.natAbs < 2 ^ 1048640 := fun z hz => bits_lt (hb z ((List.take_sublist _ _).subset hz))
    revert hbz
    have hE1 : (64 : Nat) ≤ 1048640 := by decide
    have hE2 : (1048640 : Nat) ≤ 4000000 := by decide
    generalize (1048640 : Nat) = E at hE1 hE2
    intro hbz
    have hzl : (ns.take (min 63 ns.length)).length ≤ 63 := by rw [List.length_take]; omega
    unfold m_law
    refine wp_fn ?_
    unfold x_law
    have e : fSl [] (.ro (iL ns)) none (some 63) = some (.lst (iL (ns.take (min 63 ns.length)))) := by
      show some (D.lst (cutD (iL ns) _ _)) = _
      unfold cutD
      rw [HT.sIx_none, show ((63 : Int)) = ((63 : Nat) : Int) from rfl, HT.sIx_nat, List.length_map, List.drop_zero, Nat.sub_zero]
      unfold iL
      rw [List.map_take]
    generalize ns.take (min 63 ns.length) = ys at hbz hzl e
    refine ws_seq (ws_asg (Wp.of (a := .lst (iL ys)) (s := []) ?_ ?_))
    · unfold dSl dPart dNoPart
      rw [var_ok (d := .ro (iL ns)) rfl]
      show Res.ofO (fSl [] (.ro (iL ns)) none (some 63)) [] = _
      rw [e]; rfl
    refine ws_seq (ws_asg (wp_call (wp_cons (wp_var rfl (wp_cons (Wp.of (tup_ok (ds := iL [1009, 1013, 1000033]) (cons_ok rfl (cons_ok rfl (cons_ok rfl nil_ok))) rfl) (wp_nil ⟨rfl, ?_⟩)))))))
    refine (pool_wp (bases := [1009, 1013, 1000033]) hbz hzl hE2 hE1 (by decide) (by decide)).mono ?_
    rintro d s1 ⟨j, fs, rfl, hfs⟩
    have hD : Dr j s1 := ⟨fs, hfs⟩
    clear hfs e hb
    refine ws_seq (ws_for (fun i r t => Dr j t ∧ ∃ x2 x3 x4 x5 x6 x7 x8 x9 x10 x11 x12 x13 x14 x15, r = [.val (.lst (iL ys)), .val (.cell j), x2, x3, x4, x5, x6, x7, x8, x9, x10, x11, x12, x13, x14, x15]) (wp_rng1 (wp_cons (wp_c (wp_nil ⟨8, rfl, by decide, ?_, ?_, ?_⟩)))))
    · exact ⟨hD, _, _, _, _, _, _, _, _, _, _, _, _, _, _, rfl⟩
    · rintro i d r t hd ⟨hD2, x2, x3, x4, x5, x6, x7, x8, x9, x10, x11, x12, x13, x14, x15, rfl⟩
      refine ⟨_, rfl, ?_⟩
      refine ws_seq (ws_par3 (wp_call (wp_cons (wp_var rfl (wp_cons (wp_c (wp_nil ⟨rfl, ?_⟩)))))))
      refine (sizes_wp hD2).mono ?_
      rintro d2 t2 ⟨hD3, zs, rfl, l1, l2, l3⟩
      refine wp_call (wp_cons (wp_var rfl (wp_cons (wp_c (wp_nil ⟨rfl, ?_⟩)))))
      refine (take_wp hD3 (by decide)).mono ?_
      rintro d3 t3 ⟨hD4, _, r3, rfl, r0, r4⟩
      obtain ⟨n, rfl⟩ := Int.eq_ofNat_of_zero_le r0
      refine wp_call (wp_cons (wp_var rfl (wp_cons (wp_c (wp_nil ⟨rfl, ?_⟩)))))
      refine (take_wp hD4 (by decide)).mono ?_
      rintro d4 t4 ⟨hD5, _, r5, rfl, q0, q4⟩
      obtain ⟨dl, rfl⟩ := Int.eq_ofNat_of_zero_le q0
      have hn : n ≤ 3 := by omega
      have hdl : dl ≤ 2 := by omega
      have hz : Sz zs := ⟨l1, l2, l3⟩
      refine ws_seq (ws_par (Wp.of (make_ok hz (cons_ok (var_ok rfl) nil_ok)) (Wp.of (tup_ok (ds := [.tup (iL zs), .int (n : Nat), .int (dl : Nat)]) (cons_ok (var_ok rfl) (cons_ok (var_ok rfl) (cons_ok (var_ok rfl) nil_ok))) rfl) ?_)))
      refine ws_seq (ws_asgP (wp_call (wp_cons (wp_var rfl (wp_cons (wp_var rfl (wp_cons (wp_var rfl (wp_nil ⟨rfl, ?_⟩)))))))))
      refine (drawn_wp (n := zs.length) hD5 rfl (by omega) (by omega)).mono ?_
      rintro d6 t6 ⟨hD6, o, k, rfl, G⟩
      refine ⟨_, rfl, ?_⟩
      refine ws_seq (ws_asg (wp_call (wp_cons (wp_var rfl (wp_cons (wp_c (wp_nil ⟨rfl, ?_⟩)))))))
      refine (take_wp hD6 (by decide)).mono ?_
      rintro d7 t7 ⟨hD7, _, r7, rfl, u0, u4⟩
      obtain ⟨tk, rfl⟩ := Int.eq_ofNat_of_zero_le u0
      have htk : tk ≤ 4 := by omega
      have B : Bd zs n o k := ⟨hz, hn, G⟩
      have pl : (([.tup (iL o), .tup (iL k), .tup [], .int (tk : Nat)] : List D).all (plainD 10)) = true := by
        show (plainD 10 (.tup (iL o)) && (plainD 10 (.tup (iL k)) && (true && (true && true)))) = true
        rw [plain_tup, plain_tup]; rfl
      refine ws_seq (ws_if (wp_bl (Wp.of (bin_ok (call_ok (ds := [arc zs, .int (n : Nat), .int (dl : Nat), bld o k, .int (tk : Nat)]) (cons_ok (var_ok rfl) (cons_ok (var_ok rfl) (cons_ok (var_ok rfl) (cons_ok (tup_ok (cons_ok (var_ok rfl) (cons_ok (var_ok rfl) nil_ok)) rfl) (cons_ok (var_ok rfl) nil_ok))))) rfl (pur_ok (noCs_cons (noC_obj zs) (noCs_cons rfl (noCs_cons rfl (noCs2 (noC_bld o k) rfl)))) (begin_ok B hdl htk)))
        (tup_ok (ds := [.tup (iL o), .tup (iL k), .tup [], .int (tk : Nat)]) (cons_ok (var_ok rfl) (cons_ok (var_ok rfl) (cons_ok (tup_ok nil_ok rfl) (cons_ok (var_ok rfl) nil_ok)))) rfl) (fNe_tup_same pl)) ⟨_, rfl, (fun h => by cases h), fun _ => ws_next ?_⟩)))
      refine ws_seq (ws_asg (Wp.of (tup_ok (ds := [.tup (iL o), .tup (iL k), .tup (prs []), .int (tk : Nat)]) (cons_ok (var_ok rfl) (cons_ok (var_ok rfl) (cons_ok (tup_ok nil_ok rfl) (cons_ok (var_ok rfl) nil_ok)))) rfl) ?_))
      have P0 : Ps zs n dl o k [] tk := ⟨B, hdl, htk, by decide, (fun x hx => by cases hx), (fun x hx => by cases hx)⟩
      refine ws_for (fun i r t => Dr j t ∧ ∃ x2 x8 x9 x10 o k p t', ∃ x12 x13 x14 x15, Ps zs n dl o k p t' ∧ r = [.val (.lst (iL ys)), .val (.cell j), x2, .val (.tup (iL zs)), .val (.int (n : Nat)), .val (.int (dl : Nat)), .val (arc zs), .val (tsk zs n dl), x8, x9, x10, .val (posD o k p (t' : Nat)), x12, x13, x14, x15]) (wp_rng1 (wp_cons (wp_c (wp_nil ⟨3, rfl, by decide, ?_, ?_, ?_⟩))))
      · exact ⟨hD7, _, _, _, _, o, k, [], tk, _, _, _, _, P0, rfl⟩
      · rintro i d r t hd ⟨hD8, x2, x8, x9, x10, o, k, p, t', x12, x13, x14, x15, hP, rfl⟩
        exact ⟨_, rfl, more_ws hP hD8 (fun y13 => ⟨hD8, _, _, _, _, _, _, _, _, _, _, _, _, _, _, rfl⟩) fun o' k' p' t' y13 y14 y15 u hP' hu => ⟨hu, _, _, _, _, o', k', p', t', _, _, _, _, hP', rfl⟩⟩
      · rintro r t ⟨hD8, x2, x8, x9, x10, o, k, p, t', x12, x13, x14, x15, hP, rfl⟩
        exact ⟨hD8, _, _, _, _, _, _, _, _, _, _, _, _, _, _, rfl⟩
    · rintro r t ⟨hD2, x2, x3, x4, x5, x6, x7, x8, x9, x10, x11, x12, x13, x14, x15, rfl⟩
      dsimp only
      exact ws_ret rfl
  obtain ⟨d, s, e, rfl⟩ := key.ex
  exact ⟨s, e⟩
end MX


set_option Elab.async false
set_option linter.all false
set_option maxRecDepth 100000
set_option maxHeartbeats 4000000
namespace MX
open PySem PySem.Spec PyProof.Rows L2
theorem cls_0 {K : PySem.W.Frag} {mg : Str → Option Value} {h : Heap} {p : Prop} {C0 : Addr} {f2100 : Addr} {oc2100 : Value} {od2100 an2100 : Option Addr} {osl2100 : Array (Option Value)} {kV2100 dc2100 pm2100 cd2100 ct2100 : Value} {f2101 : Addr} {oc2101 : Value} {od2101 an2101 : Option Addr} {osl2101 : Array (Option Value)} {kV2101 dc2101 pm2101 cd2101 ct2101 : Value} {p2101 : Addr} {rest2101 : List Value} {f2102 : Addr} {oc2102 : Value} {od2102 an2102 : Option Addr} {osl2102 : Array (Option Value)} {kV2102 dc2102 pm2102 cd2102 ct2102 : Value} {f2103 : Addr} {oc2103 : Value} {od2103 an2103 : Option Addr} {osl2103 : Array (Option Value)} {kV2103 dc2103 pm2103 cd2103 ct2103 : Value} {f2104 : Addr} {oc2104 : Value} {od2104 an2104 : Option Addr} {osl2104 : Array (Option Value)} {kV2104 dc2104 pm2104 cd2104 ct2104 : Value} (X : K.In h) (G : h.Ns mainGlobals mg) (aC : PySem.W.nsIn K mainGlobals "Archive" = some (some (.ref C0))) (mk : PySem.W.makesIn K C0 = true) (kp : PySem.W.keepIn K (.ref C0) = true) (pg : PySem.W.plainGet K C0 Str.empty = true) (hd : PySem.W.hasDictIn K C0 = true) (po : PySem.W.plainOver K C0 = true) (sa : PySem.W.findIn K (.ref C0) "__setattr__" = some (some (.builtin "object.__setattr__"))) (ca : PySem.W.findIn K (.ref C0) "__class__" = some (some (.builtin "object.__class__"))) (cn : PySem.W.specialIn K (.builtin "object.__class__") "__get__" = some (some (.builtin "getset_descriptor.__get__"))) (ct : PySem.W.takesIn K (.builtin "object.__class__") = some true) (cm : PySem.W.mroIn K C0 (.type "object") = some true) (b0 : PySem.W.kitOne K (.type "NoneType") (.ref C0) = some false) (b1 : PySem.W.kitOne K (.type "bool") (.ref C0) = some false) (b2 : PySem.W.kitOne K (.type "int") (.ref C0) = some false) (b3 : PySem.W.kitOne K (.type "str") (.ref C0) = some false) (b4 : PySem.W.kitOne K (.type "list") (.ref C0) = some false) (b5 : PySem.W.kitOne K (.type "tuple") (.ref C0) = some false) (na__sizes : PySem.W.findIn K (.ref C0) "_sizes" = some none) (hn : PySem.W.findIn K (.ref C0) "__ne__" = some (some (.builtin "object.__ne__"))) (a2100 : PySem.W.findIn K (.ref C0) "__init__" = some (some (.ref f2100))) (l2100 : K.lookup f2100 = some ⟨oc2100, od2100, .func (PySem.W.fnOf "__init__" "Archive.__init__" (defArgs st_Archive___init) (defBody st_Archive___init) (defScope st_Archive___init) .none kV2100 dc2100 pm2100 an2100 cd2100 ct2100), osl2100⟩) (c2100 : PySem.W.codeIn K cd2100 "Archive.__init__" = true) (k2100 : PySem.W.keepIn K (.ref f2100) = true) (i2100 : PySem.W.isFn K (.ref f2100) = true) (a2101 : PySem.W.findIn K (.ref C0) "sizes" = some (some (.ref p2101))) (g2101 : PySem.W.specialIn K (.ref p2101) "__get__" = some (some (.builtin "property.__get__"))) (t2101 : PySem.W.takesIn K (.ref p2101) = some true) (r2101 : PySem.W.recIn K p2101 "property" = some (.ref f2101 :: rest2101)) (l2101 : K.lookup f2101 = some ⟨oc2101, od2101, .func (PySem.W.fnOf "sizes" "Archive.sizes" (defArgs st_Archive_sizes) (defBody st_Archive_sizes) (defScope st_Archive_sizes) .none kV2101 dc2101 pm2101 an2101 cd2101 ct2101), osl2101⟩) (c2101 : PySem.W.codeIn K cd2101 "Archive.sizes" = true) (k2101 : PySem.W.keepIn K (.ref f2101) = true) (a2102 : PySem.W.findIn K (.ref C0) "__iter__" = some (some (.ref f2102))) (l2102 : K.lookup f2102 = some ⟨oc2102, od2102, .func (PySem.W.fnOf "__iter__" "Archive.__iter__" (defArgs st_Archive___iter) (defBody st_Archive___iter) (defScope st_Archive___iter) .none kV2102 dc2102 pm2102 an2102 cd2102 ct2102), osl2102⟩) (c2102 : PySem.W.codeIn K cd2102 "Archive.__iter__" = true) (k2102 : PySem.W.keepIn K (.ref f2102) = true) (i2102 : PySem.W.isFn K (.ref f2102) = true) (a2103 : PySem.W.findIn K (.ref C0) "__len__" = some (some (.ref f2103))) (l2103 : K.lookup f2103 = some ⟨oc2103, od2103, .func (PySem.W.fnOf "__len__" "Archive.__len__" (defArgs st_Archive___len) (defBody st_Archive___len) (defScope st_Archive___len) .none kV2103 dc2103 pm2103 an2103 cd2103 ct2103), osl2103⟩) (c2103 : PySem.W.codeIn K cd2103 "Archive.__len__" = true) (k2103 : PySem.W.keepIn K (.ref f2103) = true) (i2103 : PySem.W.isFn K (.ref f2103) = true) (a2104 : PySem.W.findIn K (.ref C0) "__eq__" = some (some (.ref f2104))) (l2104 : K.lookup f2104 = some ⟨oc2104, od2104, .func (PySem.W.fnOf "__eq__" "Archive.__eq__" (defArgs st_Archive___eq) (defBody st_Archive___eq) (defScope st_Archive___eq) .none kV2104 dc2104 pm2104 an2104 cd2104 ct2104), osl2104⟩) (c2104 : PySem.W.codeIn K cd2104 "Archive.__eq__" = true) (k2104 : PySem.W.keepIn K (.ref f2104) = true) (i2104 : PySem.W.isFn K (.ref f2104) = true)
    (go : ∀ (C : Addr) (f2100 : Addr) (dd2100 : FuncData) (f2101 : Addr) (dd2101 : FuncData) (p2101 : Addr) (f2102 : Addr) (dd2102 : FuncData) (f2103 : Addr) (dd2103 : FuncData) (f2104 : Addr) (dd2104 : FuncData), mg "Archive" = some (.ref C) → PySem.W.makesIn K C = true → PySem.W.keepIn K (.ref C) = true → KFacts K C → NoAttr K C "_sizes" → PySem.W.findIn K (.ref C) "__ne__" = some (some (.builtin "object.__ne__")) → Fun K "__init__" "Archive.__init__" st_Archive___init f2100 dd2100 → PySem.W.findIn K (.ref C) "__init__" = some (some (.ref f2100)) → PySem.W.isFn K (.ref f2100) = true → Fun K "sizes" "Archive.sizes" st_Archive_sizes f2101 dd2101 → PropOf K C "sizes" p2101 f2101 → Fun K "__iter__" "Archive.__iter__" st_Archive___iter f2102 dd2102 → PySem.W.findIn K (.ref C) "__iter__" = some (some (.ref f2102)) → PySem.W.isFn K (.ref f2102) = true → Fun K "__len__" "Archive.__len__" st_Archive___len f2103 dd2103 → PySem.W.findIn K (.ref C) "__len__" = some (some (.ref f2103)) → PySem.W.isFn K (.ref f2103) = true → Fun K "__eq__" "Archive.__eq__" st_Archive___eq f2104 dd2104 → PySem.W.findIn K (.ref C) "__eq__" = some (some (.ref f2104)) → PySem.W.isFn K (.ref f2104) = true → p) : p :=
  go C0 f2100 _ f2101 _ p2101 f2102 _ f2103 _ f2104 _ (PySem.W.mg_of X G aC) mk kp ⟨pg, hd, po, sa, ca, cn, ct, cm, b0, b1, b2, b3, b4, b5⟩ na__sizes hn (fun_mk l2100 c2100 k2100) a2100 i2100 (fun_mk l2101 c2101 k2101) ⟨a2101, g2101, t2101, ⟨rest2101, r2101⟩⟩ (fun_mk l2102 c2102 k2102) a2102 i2102 (fun_mk l2103 c2103 k2103) a2103 i2103 (fun_mk l2104 c2104 k2104) a2104 i2104
theorem mk_Tx {K : PySem.W.Frag} {mg : Str → Option Value} {f10 f11 f12 f13 f15 f16 f22 f23 f25 f26 f27 f28 f29 f30 f34 f35 f36 f37 f38 f39 f40 f41 f42 f43 f44 f45 f46 f47 f49 f51 f52 f53 f54 f55 f56 f57 f58 f59 f60 f61 f62 f63 f64 f65 f2100 f2101 f2102 f2103 f2104 p2101 C0 : Addr} {dd10 dd11 dd12 dd13 dd15 dd16 dd22 dd23 dd25 dd26 dd27 dd28 dd29 dd30 dd34 dd35 dd36 dd37 dd38 dd39 dd40 dd41 dd42 dd43 dd44 dd45 dd46 dd47 dd49 dd51 dd52 dd53 dd54 dd55 dd56 dd57 dd58 dd59 dd60 dd61 dd62 dd63 dd64 dd65 dd2100 dd2101 dd2102 dd2103 dd2104 : FuncData} (F10 : Fun K "is_integer" "is_integer" st_is_integer f10 dd10) (m10 : mg "is_integer" = some (.ref f10))
    (F11 : Fun K "is_within" "is_within" st_is_within f11 dd11) (m11 : mg "is_within" = some (.ref f11))
    (F12 : Fun K "is_tuple_within" "is_tuple_within" st_is_tuple_within f12 dd12) (m12 : mg "is_tuple_within" = some (.ref f12))
    (F13 : Fun K "is_ascending" "is_ascending" st_is_ascending f13 dd13) (m13 : mg "is_ascending" = some (.ref f13))
    (F15 : Fun K "all_orders" "all_orders" st_all_orders f15 dd15) (m15 : mg "all_orders" = some (.ref f15))
    (F16 : Fun K "all_choices" "all_choices" st_all_choices f16 dd16) (m16 : mg "all_choices" = some (.ref f16))
    (F22 : Fun K "check_archive" "check_archive" st_check_archive f22 dd22) (m22 : mg "check_archive" = some (.ref f22))
    (F23 : Fun K "check_room" "check_room" st_check_room f23 dd23) (m23 : mg "check_room" = some (.ref f23))
    (F25 : Fun K "is_build" "is_build" st_is_build f25 dd25) (m25 : mg "is_build" = some (.ref f25))
    (F26 : Fun K "check_build" "check_build" st_check_build f26 dd26) (m26 : mg "check_build" = some (.ref f26))
    (F27 : Fun K "base_of" "base_of" st_base_of f27 dd27) (m27 : mg "base_of" = some (.ref f27))
    (F28 : Fun K "built_again" "built_again" st_built_again f28 dd28) (m28 : mg "built_again" = some (.ref f28))
    (F29 : Fun K "forgetting_work" "forgetting_work" st_forgetting_work f29 dd29) (m29 : mg "forgetting_work" = some (.ref f29))
    (F30 : Fun K "builds_after" "builds_after" st_builds_after f30 dd30) (m30 : mg "builds_after" = some (.ref f30))
    (F34 : Fun K "check_delay" "check_delay" st_check_delay f34 dd34) (m34 : mg "check_delay" = some (.ref f34))
    (F35 : Fun K "check_ticks" "check_ticks" st_check_ticks f35 dd35) (m35 : mg "check_ticks" = some (.ref f35))
    (F36 : Fun K "check_play" "check_play" st_check_play f36 dd36) (m36 : mg "check_play" = some (.ref f36))
    (F37 : Fun K "is_waiting_wish" "is_waiting_wish" st_is_waiting_wish f37 dd37) (m37 : mg "is_waiting_wish" = some (.ref f37))
    (F38 : Fun K "are_waiting_wishes" "are_waiting_wishes" st_are_waiting_wishes f38 dd38) (m38 : mg "are_waiting_wishes" = some (.ref f38))
    (F39 : Fun K "is_position" "is_position" st_is_position f39 dd39) (m39 : mg "is_position" = some (.ref f39))
    (F40 : Fun K "check_position" "check_position" st_check_position f40 dd40) (m40 : mg "check_position" = some (.ref f40))
    (F41 : Fun K "possible_wishes" "possible_wishes" st_possible_wishes f41 dd41) (m41 : mg "possible_wishes" = some (.ref f41))
    (F42 : Fun K "is_wish" "is_wish" st_is_wish f42 dd42) (m42 : mg "is_wish" = some (.ref f42))
    (F43 : Fun K "pending_wishes" "pending_wishes" st_pending_wishes f43 dd43) (m43 : mg "pending_wishes" = some (.ref f43))
    (F44 : Fun K "possible_answers" "possible_answers" st_possible_answers f44 dd44) (m44 : mg "possible_answers" = some (.ref f44))
    (F45 : Fun K "start_of" "start_of" st_start_of f45 dd45) (m45 : mg "start_of" = some (.ref f45))
    (F46 : Fun K "wishes" "wishes" st_wishes f46 dd46) (m46 : mg "wishes" = some (.ref f46))
    (F47 : Fun K "answers" "answers" st_answers f47 dd47) (m47 : mg "answers" = some (.ref f47))
    (F49 : Fun K "begin" "begin" st_begin f49 dd49) (m49 : mg "begin" = some (.ref f49))
    (F51 : Fun K "_law_draw" "_law_draw" st_u_law_draw f51 dd51) (m51 : mg "_law_draw" = some (.ref f51))
    (F52 : Fun K "_law_cell_at" "_law_cell_at" st_u_law_cell_at f52 dd52) (m52 : mg "_law_cell_at" = some (.ref f52))
    (F53 : Fun K "_law_digits" "_law_digits" st_u_law_digits f53 dd53) (m53 : mg "_law_digits" = some (.ref f53))
    (F54 : Fun K "_law_take" "_law_take" st_u_law_take f54 dd54) (m54 : mg "_law_take" = some (.ref f54))
    (F55 : Fun K "_law_pool" "_law_pool" st_u_law_pool f55 dd55) (m55 : mg "_law_pool" = some (.ref f55))
    (F56 : Fun K "_law_sizes" "_law_sizes" st_u_law_sizes f56 dd56) (m56 : mg "_law_sizes" = some (.ref f56))
    (F57 : Fun K "_law_orders" "_law_orders" st_u_law_orders f57 dd57) (m57 : mg "_law_orders" = some (.ref f57))
    (F58 : Fun K "_law_some" "_law_some" st_u_law_some f58 dd58) (m58 : mg "_law_some" = some (.ref f58))
    (F59 : Fun K "_law_drawn_build" "_law_drawn_build" st_u_law_drawn_build f59 dd59) (m59 : mg "_law_drawn_build" = some (.ref f59))
    (F60 : Fun K "_law_base" "_law_base" st_u_law_base f60 dd60) (m60 : mg "_law_base" = some (.ref f60))
    (F61 : Fun K "_law_cost" "_law_cost" st_u_law_cost f61 dd61) (m61 : mg "_law_cost" = some (.ref f61))
    (F62 : Fun K "_law_later" "_law_later" st_u_law_later f62 dd62) (m62 : mg "_law_later" = some (.ref f62))
    (F63 : Fun K "_law_wishes" "_law_wishes" st_u_law_wishes f63 dd63) (m63 : mg "_law_wishes" = some (.ref f63))
    (F64 : Fun K "_law_answers" "_law_answers" st_u_law_answers f64 dd64) (m64 : mg "_law_answers" = some (.ref f64))
    (F65 : Fun K "law" "law" st_law f65 dd65) (m65 : mg "law" = some (.ref f65))
    (g18 : ∃ u, mg "MOST_PEOPLE" = some u ∧ RelV (.int 4) u)
    (g19 : ∃ u, mg "MOST_SIZE" = some u ∧ RelV (.int 4) u)
    (g20 : ∃ u, mg "MOST_ROOM" = some u ∧ RelV (.int 3) u)
    (g32 : ∃ u, mg "MOST_DELAY" = some u ∧ RelV (.int 2) u)
    (g33 : ∃ u, mg "MOST_TICKS" = some u ∧ RelV (.int 4) u)
    (z_abs : mg "abs" = none)
    (z_all : mg "all" = none)
    (z_bool : mg "bool" = none)
    (z_enumerate : mg "enumerate" = none)
    (z_int : mg "int" = none)
    (z_isinstance : mg "isinstance" = none)
    (z_iter : mg "iter" = none)
    (z_len : mg "len" = none)
    (z_list : mg "list" = none)
    (z_max : mg "max" = none)
    (z_min : mg "min" = none)
    (z_range : mg "range" = none)
    (z_sorted : mg "sorted" = none)
    (z_sum : mg "sum" = none)
    (z_tuple : mg "tuple" = none)
    (mc0 : mg "Archive" = some (.ref C0)) (cm0 : PySem.W.makesIn K C0 = true) (ck0 : PySem.W.keepIn K (.ref C0) = true) (cf0 : KFacts K C0)
    (na0__sizes : NoAttr K C0 "_sizes")
    (hn0 : PySem.W.findIn K (.ref C0) "__ne__" = some (some (.builtin "object.__ne__")))
    (F2100 : Fun K "__init__" "Archive.__init__" st_Archive___init f2100 dd2100)
    (ha2100 : PySem.W.findIn K (.ref C0) "__init__" = some (some (.ref f2100))) (hi2100 : PySem.W.isFn K (.ref f2100) = true)
    (F2101 : Fun K "sizes" "Archive.sizes" st_Archive_sizes f2101 dd2101)
    (pr2101 : PropOf K C0 "sizes" p2101 f2101)
    (F2102 : Fun K "__iter__" "Archive.__iter__" st_Archive___iter f2102 dd2102)
    (ha2102 : PySem.W.findIn K (.ref C0) "__iter__" = some (some (.ref f2102))) (hi2102 : PySem.W.isFn K (.ref f2102) = true)
    (F2103 : Fun K "__len__" "Archive.__len__" st_Archive___len f2103 dd2103)
    (ha2103 : PySem.W.findIn K (.ref C0) "__len__" = some (some (.ref f2103))) (hi2103 : PySem.W.isFn K (.ref f2103) = true)
    (F2104 : Fun K "__eq__" "Archive.__eq__" st_Archive___eq f2104 dd2104)
    (ha2104 : PySem.W.findIn K (.ref C0) "__eq__" = some (some (.ref f2104))) (hi2104 : PySem.W.isFn K (.ref f2104) = true) :
    ∃ (c : Cs) (a : Nat → Addr) (dd : Nat → FuncData), c.K = K ∧ Tx c mg a dd ∧ a 65 = f65 ∧ dd 65 = dd65 := by
  refine ⟨⟨K, fun q => C0, fun q => ["_sizes"], fun _ => 0, fun _ => []⟩, fun n => if n = 10 then f10 else if n = 11 then f11 else if n = 12 then f12 else if n = 13 then f13 else if n = 15 then f15 else if n = 16 then f16 else if n = 2100 then f2100 else if n = 2101 then f2101 else if n = 2102 then f2102 else if n = 2103 then f2103 else if n = 2104 then f2104 else if n = 22 then f22 else if n = 23 then f23 else if n = 25 then f25 else if n = 26 then f26 else if n = 27 then f27 else if n = 28 then f28 else if n = 29 then f29 else if n = 30 then f30 else if n = 34 then f34 else if n = 35 then f35 else if n = 36 then f36 else if n = 37 then f37 else if n = 38 then f38 else if n = 39 then f39 else if n = 40 then f40 else if n = 41 then f41 else if n = 42 then f42 else if n = 43 then f43 else if n = 44 then f44 else if n = 45 then f45 else if n = 46 then f46 else if n = 47 then f47 else if n = 49 then f49 else if n = 51 then f51 else if n = 52 then f52 else if n = 53 then f53 else if n = 54 then f54 else if n = 55 then f55 else if n = 56 then f56 else if n = 57 then f57 else if n = 58 then f58 else if n = 59 then f59 else if n = 60 then f60 else if n = 61 then f61 else if n = 62 then f62 else if n = 63 then f63 else if n = 64 then f64 else if n = 65 then f65 else if n = 12101 then p2101 else 0, fun n => if n = 10 then dd10 else if n = 11 then dd11 else if n = 12 then dd12 else if n = 13 then dd13 else if n = 15 then dd15 else if n = 16 then dd16 else if n = 2100 then dd2100 else if n = 2101 then dd2101 else if n = 2102 then dd2102 else if n = 2103 then dd2103 else if n = 2104 then dd2104 else if n = 22 then dd22 else if n = 23 then dd23 else if n = 25 then dd25 else if n = 26 then dd26 else if n = 27 then dd27 else if n = 28 then dd28 else if n = 29 then dd29 else if n = 30 then dd30 else if n = 34 then dd34 else if n = 35 then dd35 else if n = 36 then dd36 else if n = 37 then dd37 else if n = 38 then dd38 else if n = 39 then dd39 else if n = 40 then dd40 else if n = 41 then dd41 else if n = 42 then dd42 else if n = 43 then dd43 else if n = 44 then dd44 else if n = 45 then dd45 else if n = 46 then dd46 else if n = 47 then dd47 else if n = 49 then dd49 else if n = 51 then dd51 else if n = 52 then dd52 else if n = 53 then dd53 else if n = 54 then dd54 else if n = 55 then dd55 else if n = 56 then dd56 else if n = 57 then dd57 else if n = 58 then dd58 else if n = 59 then dd59 else if n = 60 then dd60 else if n = 61 then dd61 else if n = 62 then dd62 else if n = 63 then dd63 else if n = 64 then dd64 else if n = 65 then dd65 else dd65, rfl, ?_, rfl, rfl⟩
  exact {
    F10 := F10
    b10 := Fun.binds (ps := ["value"]) F10 fun _ _ _ _ _ _ us hl => match us, hl with | [_], _ => rfl
    m10 := m10
    F11 := F11
    b11 := Fun.binds (ps := ["value", "least", "most"]) F11 fun _ _ _ _ _ _ us hl => match us, hl with | [_, _, _], _ => rfl
    m11 := m11
    F12 := F12
    b12 := Fun.binds (ps := ["value", "least", "most"]) F12 fun _ _ _ _ _ _ us hl => match us, hl with | [_, _, _], _ => rfl
    m12 := m12
    F13 := F13
    b13 := Fun.binds (ps := ["items"]) F13 fun _ _ _ _ _ _ us hl => match us, hl with | [_], _ => rfl
    m13 := m13
    F15 := F15
    b15 := Fun.binds (ps := ["items"]) F15 fun _ _ _ _ _ _ us hl => match us, hl with | [_], _ => rfl
    m15 := m15
    F16 := F16
    b16 := Fun.binds (ps := ["items", "most"]) F16 fun _ _ _ _ _ _ us hl => match us, hl with | [_, _], _ => rfl
    m16 := m16
    F2100 := F2100
    b2100 := Fun.binds (ps := ["self", "sizes"]) F2100 fun _ _ _ _ _ _ us hl => match us, hl with | [_, _], _ => rfl
    M0 := ⟨cm0, ha2100, hi2100, ck0⟩
    F2101 := F2101
    b2101 := Fun.binds (ps := ["self"]) F2101 fun _ _ _ _ _ _ us hl => match us, hl with | [_], _ => rfl
    p2101 := pr2101
    F2102 := F2102
    b2102 := Fun.binds (ps := ["self"]) F2102 fun _ _ _ _ _ _ us hl => match us, hl with | [_], _ => rfl
    h2102 := ha2102
    hf2102 := hi2102
    F2103 := F2103
    b2103 := Fun.binds (ps := ["self"]) F2103 fun _ _ _ _ _ _ us hl => match us, hl with | [_], _ => rfl
    h2103 := ha2103
    hf2103 := hi2103
    F2104 := F2104
    b2104 := Fun.binds (ps := ["self", "other"]) F2104 fun _ _ _ _ _ _ us hl => match us, hl with | [_, _], _ => rfl
    h2104 := ha2104
    hf2104 := hi2104
    F22 := F22
    b22 := Fun.binds (ps := ["archive"]) F22 fun _ _ _ _ _ _ us hl => match us, hl with | [_], _ => rfl
    m22 := m22
    F23 := F23
    b23 := Fun.binds (ps := ["room"]) F23 fun _ _ _ _ _ _ us hl => match us, hl with | [_], _ => rfl
    m23 := m23
    F25 := F25
    b25 := Fun.binds (ps := ["archive", "room", "build"]) F25 fun _ _ _ _ _ _ us hl => match us, hl with | [_, _, _], _ => rfl
    m25 := m25
    F26 := F26
    b26 := Fun.binds (ps := ["archive", "room", "build"]) F26 fun _ _ _ _ _ _ us hl => match us, hl with | [_, _, _], _ => rfl
    m26 := m26
    F27 := F27
    b27 := Fun.binds (ps := ["build", "people"]) F27 fun _ _ _ _ _ _ us hl => match us, hl with | [_, _], _ => rfl
    m27 := m27
    F28 := F28
    b28 := Fun.binds (ps := ["build", "people"]) F28 fun _ _ _ _ _ _ us hl => match us, hl with | [_, _], _ => rfl
    m28 := m28
    F29 := F29
    b29 := Fun.binds (ps := ["archive", "build", "people"]) F29 fun _ _ _ _ _ _ us hl => match us, hl with | [_, _, _], _ => rfl
    m29 := m29
    F30 := F30
    b30 := Fun.binds (ps := ["room", "build", "people"]) F30 fun _ _ _ _ _ _ us hl => match us, hl with | [_, _, _], _ => rfl
    m30 := m30
    F34 := F34
    b34 := Fun.binds (ps := ["delay"]) F34 fun _ _ _ _ _ _ us hl => match us, hl with | [_], _ => rfl
    m34 := m34
    F35 := F35
    b35 := Fun.binds (ps := ["ticks"]) F35 fun _ _ _ _ _ _ us hl => match us, hl with | [_], _ => rfl
    m35 := m35
    F36 := F36
    b36 := Fun.binds (ps := ["archive", "room", "delay"]) F36 fun _ _ _ _ _ _ us hl => match us, hl with | [_, _, _], _ => rfl
    m36 := m36
    F37 := F37
    b37 := Fun.binds (ps := ["order", "delay", "pair"]) F37 fun _ _ _ _ _ _ us hl => match us, hl with | [_, _, _], _ => rfl
    m37 := m37
    F38 := F38
    b38 := Fun.binds (ps := ["order", "delay", "waiting"]) F38 fun _ _ _ _ _ _ us hl => match us, hl with | [_, _, _], _ => rfl
    m38 := m38
    F39 := F39
    b39 := Fun.binds (ps := ["archive", "room", "delay", "position"]) F39 fun _ _ _ _ _ _ us hl => match us, hl with | [_, _, _, _], _ => rfl
    m39 := m39
    F40 := F40
    b40 := Fun.binds (ps := ["archive", "room", "delay", "position"]) F40 fun _ _ _ _ _ _ us hl => match us, hl with | [_, _, _, _], _ => rfl
    m40 := m40
    F41 := F41
    b41 := Fun.binds (ps := ["position"]) F41 fun _ _ _ _ _ _ us hl => match us, hl with | [_], _ => rfl
    m41 := m41
    F42 := F42
    b42 := Fun.binds (ps := ["position", "wish"]) F42 fun _ _ _ _ _ _ us hl => match us, hl with | [_, _], _ => rfl
    m42 := m42
    F43 := F43
    b43 := Fun.binds (ps := ["delay", "position", "wish"]) F43 fun _ _ _ _ _ _ us hl => match us, hl with | [_, _, _], _ => rfl
    m43 := m43
    F44 := F44
    b44 := Fun.binds (ps := ["archive", "room", "delay", "position", "wish"]) F44 fun _ _ _ _ _ _ us hl => match us, hl with | [_, _, _, _, _], _ => rfl
    m44 := m44
    F45 := F45
    b45 := Fun.binds (ps := ["build", "ticks"]) F45 fun _ _ _ _ _ _ us hl => match us, hl with | [_, _], _ => rfl
    m45 := m45
    F46 := F46
    b46 := Fun.binds (ps := ["archive", "room", "delay", "position"]) F46 fun _ _ _ _ _ _ us hl => match us, hl with | [_, _, _, _], _ => rfl
    m46 := m46
    F47 := F47
    b47 := Fun.binds (ps := ["archive", "room", "delay", "position", "wish"]) F47 fun _ _ _ _ _ _ us hl => match us, hl with | [_, _, _, _, _], _ => rfl
    m47 := m47
    F49 := F49
    b49 := Fun.binds (ps := ["archive", "room", "delay", "build", "ticks"]) F49 fun _ _ _ _ _ _ us hl => match us, hl with | [_, _, _, _, _], _ => rfl
    m49 := m49
    F51 := F51
    b51 := Fun.binds (ps := ["_law_cell", "_law_k", "_law_many"]) F51 fun _ _ _ _ _ _ us hl => match us, hl with | [_, _, _], _ => rfl
    m51 := m51
    F52 := F52
    b52 := Fun.binds (ps := ["_law_script", "_law_k"]) F52 fun _ _ _ _ _ _ us hl => match us, hl with | [_, _], _ => rfl
    m52 := m52
    F53 := F53
    b53 := Fun.binds (ps := ["_law_script", "_law_at", "_law_many", "_law_base_here"]) F53 fun _ _ _ _ _ _ us hl => match us, hl with | [_, _, _, _], _ => rfl
    m53 := m53
    F54 := F54
    b54 := Fun.binds (ps := ["_law_draws", "_law_many"]) F54 fun _ _ _ _ _ _ us hl => match us, hl with | [_, _], _ => rfl
    m54 := m54
    F55 := F55
    b55 := Fun.binds (ps := ["_law_script", "_law_bases"]) F55 fun _ _ _ _ _ _ us hl => match us, hl with | [_, _], _ => rfl
    m55 := m55
    F56 := F56
    b56 := Fun.binds (ps := ["_law_draws", "_law_most"]) F56 fun _ _ _ _ _ _ us hl => match us, hl with | [_, _], _ => rfl
    m56 := m56
    F57 := F57
    b57 := Fun.binds (ps := ["_law_people"]) F57 fun _ _ _ _ _ _ us hl => match us, hl with | [_], _ => rfl
    m57 := m57
    F58 := F58
    b58 := Fun.binds (ps := ["_law_lengths", "_law_room_here"]) F58 fun _ _ _ _ _ _ us hl => match us, hl with | [_, _], _ => rfl
    m58 := m58
    F59 := F59
    b59 := Fun.binds (ps := ["_law_draws", "_law_sizes_here", "_law_room_here"]) F59 fun _ _ _ _ _ _ us hl => match us, hl with | [_, _, _], _ => rfl
    m59 := m59
    F60 := F60
    b60 := Fun.binds (ps := ["_law_order", "_law_lengths", "_law_people"]) F60 fun _ _ _ _ _ _ us hl => match us, hl with | [_, _, _], _ => rfl
    m60 := m60
    F61 := F61
    b61 := Fun.binds (ps := ["_law_sizes_here", "_law_order", "_law_lengths", "_law_people"]) F61 fun _ _ _ _ _ _ us hl => match us, hl with | [_, _, _, _], _ => rfl
    m61 := m61
    F62 := F62
    b62 := Fun.binds (ps := ["_law_order", "_law_lengths", "_law_people", "_law_room_here"]) F62 fun _ _ _ _ _ _ us hl => match us, hl with | [_, _, _, _], _ => rfl
    m62 := m62
    F63 := F63
    b63 := Fun.binds (ps := ["_law_spot"]) F63 fun _ _ _ _ _ _ us hl => match us, hl with | [_], _ => rfl
    m63 := m63
    F64 := F64
    b64 := Fun.binds (ps := ["_law_task", "_law_spot", "_law_wish"]) F64 fun _ _ _ _ _ _ us hl => match us, hl with | [_, _, _], _ => rfl
    m64 := m64
    F65 := F65
    b65 := Fun.binds (ps := ["_law_script"]) F65 fun _ _ _ _ _ _ us hl => match us, hl with | [_], _ => rfl
    m65 := m65
    g18 := g18
    g19 := g19
    g20 := g20
    g32 := g32
    g33 := g33
    K0 := KFacts.isK cf0
    mc0 := mc0
    fn0 := rfl
    hn0 := hn0
    na0_0 := na0__sizes
    naAll_0_0 := by
      intro q
      dsimp only
      repeat' split
      all_goals assumption
    clAll := by
      intro q
      dsimp only
      repeat' split
      all_goals first | exact cf0.cls
    z_abs := z_abs
    z_all := z_all
    z_bool := z_bool
    z_enumerate := z_enumerate
    z_int := z_int
    z_isinstance := z_isinstance
    z_iter := z_iter
    z_len := z_len
    z_list := z_list
    z_max := z_max
    z_min := z_min
    z_range := z_range
    z_sorted := z_sorted
    z_sum := z_sum
    z_tuple := z_tuple
  }
end MX
open PySem PySem.Spec PyProof.Rows L2
theorem MX.walk {l : PySem.W.OpenLaw} {q : Program} {loose : List Str} {XP : (Str → Option Value) → Heap → Prop} {YP : World → Heap → Prop} {d : DefRec} {K : Params → PySem.W.Frag} (hn : l.most = some 63) (hdf : d.params.defaults = [])
    (hY : ∀ (w : World) (h : Heap), YP w h → (K w.params).In h)
    (F : ∀ (w : World) (mg : Str → Option Value) (fa : Addr) (h : Heap), (K w.params).In h → h.Ns mainGlobals mg → mg d.name = some (.ref fa) →
      ∃ (c : MX.Cs) (a : Nat → Addr) (dd : Nat → FuncData), c.K = K w.params ∧ MX.Tx c mg a dd ∧ a 65 = fa ∧ ∀ (s : Shared) (u : Value), BindsTo s (dd 65) ⟨[u], []⟩ [("_law_script", u)])
    (M : ∀ ns : List Int, ns.length ≤ 63 → (∀ z ∈ ns, Builtin.Int.intBits z ≤ 1048576) → ∃ s, MX.m_law [.ro (ns.map MX.D.int)] [] = .ok (.bl true) s) :
    PySem.W.WalkO q loose XP YP l.row.toRowW d [] (fun f vs => PySem.call f vs) := by
  refine L2.walk_ofB (n := 63) (k := 10) (x := "_law_script") (CX := fun _ => CX0) (sp := fun w => MX.spL (K w.params) MX.m_law) hn (by decide) hdf ⟨rfl, by decide, by decide⟩ hY ?_ ?_ fun _ _ _ _ _ z => z
  · intro w mg fa h KX G hm
    obtain ⟨c, a, dd, hc, T, rfl, hb⟩ := F w mg fa h KX G hm
    refine ⟨dd 65, hb, fun base _ _ => ?_⟩
    rw [← hc]
    exact FnOk.imp (MX.ok_law (P := l.prog) (w := w) (base := base) T) fun vs H Q E h => MX.spL_imp h
  · intro w H a ns hl hb _ hS
    exact ⟨a, ns, rfl, hS, M ns hl hb, fun _ => rfl⟩
open PySem PySem.W PyProof.Rows
set_option maxRecDepth 100000 in
set_option maxHeartbeats 0 in
theorem PySem.Challenge.cw_forgetwork_k02_whole_play_holds : PySem.Challenge.rw_forgetwork_k02_whole_play.Holds := by
  w_on; o_law; k_head; (case hw => w_witness2)
  k_fill
  refine MX.walk (l := PySem.Challenge.rw_forgetwork_k02_whole_play) rfl rfl (fun w h Y => PySem.W.kIn_of Y) ?wF ?wM
  case wF =>
    intro w mg fa h KX G hmg
    refine' MX.top_fnC (x := "is_integer") (qual := "is_integer") (st := MX.st_is_integer) KX G ?wa_10 ?wl_10 ?wc_10 ?wk_10 ?wgo_10
    (case wa_10 => k_is); (case wl_10 => k_is); (case wc_10 => k_is); (case wk_10 => k_is)
    intro f10 dd10 F10 m10
    refine' MX.top_fnC (x := "is_within") (qual := "is_within") (st := MX.st_is_within) KX G ?wa_11 ?wl_11 ?wc_11 ?wk_11 ?wgo_11
    (case wa_11 => k_is); (case wl_11 => k_is); (case wc_11 => k_is); (case wk_11 => k_is)
    intro f11 dd11 F11 m11
    refine' MX.top_fnC (x := "is_tuple_within") (qual := "is_tuple_within") (st := MX.st_is_tuple_within) KX G ?wa_12 ?wl_12 ?wc_12 ?wk_12 ?wgo_12
    (case wa_12 => k_is); (case wl_12 => k_is); (case wc_12 => k_is); (case wk_12 => k_is)
    intro f12 dd12 F12 m12
    refine' MX.top_fnC (x := "is_ascending") (qual := "is_ascending") (st := MX.st_is_ascending) KX G ?wa_13 ?wl_13 ?wc_13 ?wk_13 ?wgo_13
    (case wa_13 => k_is); (case wl_13 => k_is); (case wc_13 => k_is); (case wk_13 => k_is)
    intro f13 dd13 F13 m13
    refine' MX.top_fnC (x := "all_orders") (qual := "all_orders") (st := MX.st_all_orders) KX G ?wa_15 ?wl_15 ?wc_15 ?wk_15 ?wgo_15
    (case wa_15 => k_is); (case wl_15 => k_is); (case wc_15 => k_is); (case wk_15 => k_is)
    intro f15 dd15 F15 m15
    refine' MX.top_fnC (x := "all_choices") (qual := "all_choices") (st := MX.st_all_choices) KX G ?wa_16 ?wl_16 ?wc_16 ?wk_16 ?wgo_16
    (case wa_16 => k_is); (case wl_16 => k_is); (case wc_16 => k_is); (case wk_16 => k_is)
    intro f16 dd16 F16 m16
    refine' MX.top_fnC (x := "check_archive") (qual := "check_archive") (st := MX.st_check_archive) KX G ?wa_22 ?wl_22 ?wc_22 ?wk_22 ?wgo_22
    (case wa_22 => k_is); (case wl_22 => k_is); (case wc_22 => k_is); (case wk_22 => k_is)
    intro f22 dd22 F22 m22
    refine' MX.top_fnC (x := "check_room") (qual := "check_room") (st := MX.st_check_room) KX G ?wa_23 ?wl_23 ?wc_23 ?wk_23 ?wgo_23
    (case wa_23 => k_is); (case wl_23 => k_is); (case wc_23 => k_is); (case wk_23 => k_is)
    intro f23 dd23 F23 m23
    refine' MX.top_fnC (x := "is_build") (qual := "is_build") (st := MX.st_is_build) KX G ?wa_25 ?wl_25 ?wc_25 ?wk_25 ?wgo_25
    (case wa_25 => k_is); (case wl_25 => k_is); (case wc_25 => k_is); (case wk_25 => k_is)
    intro f25 dd25 F25 m25
    refine' MX.top_fnC (x := "check_build") (qual := "check_build") (st := MX.st_check_build) KX G ?wa_26 ?wl_26 ?wc_26 ?wk_26 ?wgo_26
    (case wa_26 => k_is); (case wl_26 => k_is); (case wc_26 => k_is); (case wk_26 => k_is)
    intro f26 dd26 F26 m26
    refine' MX.top_fnC (x := "base_of") (qual := "base_of") (st := MX.st_base_of) KX G ?wa_27 ?wl_27 ?wc_27 ?wk_27 ?wgo_27
    (case wa_27 => k_is); (case wl_27 => k_is); (case wc_27 => k_is); (case wk_27 => k_is)
    intro f27 dd27 F27 m27
    refine' MX.top_fnC (x := "built_again") (qual := "built_again") (st := MX.st_built_again) KX G ?wa_28 ?wl_28 ?wc_28 ?wk_28 ?wgo_28
    (case wa_28 => k_is); (case wl_28 => k_is); (case wc_28 => k_is); (case wk_28 => k_is)
    intro f28 dd28 F28 m28
    refine' MX.top_fnC (x := "forgetting_work") (qual := "forgetting_work") (st := MX.st_forgetting_work) KX G ?wa_29 ?wl_29 ?wc_29 ?wk_29 ?wgo_29
    (case wa_29 => k_is); (case wl_29 => k_is); (case wc_29 => k_is); (case wk_29 => k_is)
    intro f29 dd29 F29 m29
    refine' MX.top_fnC (x := "builds_after") (qual := "builds_after") (st := MX.st_builds_after) KX G ?wa_30 ?wl_30 ?wc_30 ?wk_30 ?wgo_30
    (case wa_30 => k_is); (case wl_30 => k_is); (case wc_30 => k_is); (case wk_30 => k_is)
    intro f30 dd30 F30 m30
    refine' MX.top_fnC (x := "check_delay") (qual := "check_delay") (st := MX.st_check_delay) KX G ?wa_34 ?wl_34 ?wc_34 ?wk_34 ?wgo_34
    (case wa_34 => k_is); (case wl_34 => k_is); (case wc_34 => k_is); (case wk_34 => k_is)
    intro f34 dd34 F34 m34
    refine' MX.top_fnC (x := "check_ticks") (qual := "check_ticks") (st := MX.st_check_ticks) KX G ?wa_35 ?wl_35 ?wc_35 ?wk_35 ?wgo_35
    (case wa_35 => k_is); (case wl_35 => k_is); (case wc_35 => k_is); (case wk_35 => k_is)
    intro f35 dd35 F35 m35
    refine' MX.top_fnC (x := "check_play") (qual := "check_play") (st := MX.st_check_play) KX G ?wa_36 ?wl_36 ?wc_36 ?wk_36 ?wgo_36
    (case wa_36 => k_is); (case wl_36 => k_is); (case wc_36 => k_is); (case wk_36 => k_is)
    intro f36 dd36 F36 m36
    refine' MX.top_fnC (x := "is_waiting_wish") (qual := "is_waiting_wish") (st := MX.st_is_waiting_wish) KX G ?wa_37 ?wl_37 ?wc_37 ?wk_37 ?wgo_37
    (case wa_37 => k_is); (case wl_37 => k_is); (case wc_37 => k_is); (case wk_37 => k_is)
    intro f37 dd37 F37 m37
    refine' MX.top_fnC (x := "are_waiting_wishes") (qual := "are_waiting_wishes") (st := MX.st_are_waiting_wishes) KX G ?wa_38 ?wl_38 ?wc_38 ?wk_38 ?wgo_38
    (case wa_38 => k_is); (case wl_38 => k_is); (case wc_38 => k_is); (case wk_38 => k_is)
    intro f38 dd38 F38 m38
    refine' MX.top_fnC (x := "is_position") (qual := "is_position") (st := MX.st_is_position) KX G ?wa_39 ?wl_39 ?wc_39 ?wk_39 ?wgo_39
    (case wa_39 => k_is); (case wl_39 => k_is); (case wc_39 => k_is); (case wk_39 => k_is)
    intro f39 dd39 F39 m39
    refine' MX.top_fnC (x := "check_position") (qual := "check_position") (st := MX.st_check_position) KX G ?wa_40 ?wl_40 ?wc_40 ?wk_40 ?wgo_40
    (case wa_40 => k_is); (case wl_40 => k_is); (case wc_40 => k_is); (case wk_40 => k_is)
    intro f40 dd40 F40 m40
    refine' MX.top_fnC (x := "possible_wishes") (qual := "possible_wishes") (st := MX.st_possible_wishes) KX G ?wa_41 ?wl_41 ?wc_41 ?wk_41 ?wgo_41
    (case wa_41 => k_is); (case wl_41 => k_is); (case wc_41 => k_is); (case wk_41 => k_is)
    intro f41 dd41 F41 m41
    refine' MX.top_fnC (x := "is_wish") (qual := "is_wish") (st := MX.st_is_wish) KX G ?wa_42 ?wl_42 ?wc_42 ?wk_42 ?wgo_42
    (case wa_42 => k_is); (case wl_42 => k_is); (case wc_42 => k_is); (case wk_42 => k_is)
    intro f42 dd42 F42 m42
    refine' MX.top_fnC (x := "pending_wishes") (qual := "pending_wishes") (st := MX.st_pending_wishes) KX G ?wa_43 ?wl_43 ?wc_43 ?wk_43 ?wgo_43
    (case wa_43 => k_is); (case wl_43 => k_is); (case wc_43 => k_is); (case wk_43 => k_is)
    intro f43 dd43 F43 m43
    refine' MX.top_fnC (x := "possible_answers") (qual := "possible_answers") (st := MX.st_possible_answers) KX G ?wa_44 ?wl_44 ?wc_44 ?wk_44 ?wgo_44
    (case wa_44 => k_is); (case wl_44 => k_is); (case wc_44 => k_is); (case wk_44 => k_is)
    intro f44 dd44 F44 m44
    refine' MX.top_fnC (x := "start_of") (qual := "start_of") (st := MX.st_start_of) KX G ?wa_45 ?wl_45 ?wc_45 ?wk_45 ?wgo_45
    (case wa_45 => k_is); (case wl_45 => k_is); (case wc_45 => k_is); (case wk_45 => k_is)
    intro f45 dd45 F45 m45
    refine' MX.top_fnC (x := "wishes") (qual := "wishes") (st := MX.st_wishes) KX G ?wa_46 ?wl_46 ?wc_46 ?wk_46 ?wgo_46
    (case wa_46 => k_is); (case wl_46 => k_is); (case wc_46 => k_is); (case wk_46 => k_is)
    intro f46 dd46 F46 m46
    refine' MX.top_fnC (x := "answers") (qual := "answers") (st := MX.st_answers) KX G ?wa_47 ?wl_47 ?wc_47 ?wk_47 ?wgo_47
    (case wa_47 => k_is); (case wl_47 => k_is); (case wc_47 => k_is); (case wk_47 => k_is)
    intro f47 dd47 F47 m47
    refine' MX.top_fnC (x := "begin") (qual := "begin") (st := MX.st_begin) KX G ?wa_49 ?wl_49 ?wc_49 ?wk_49 ?wgo_49
    (case wa_49 => k_is); (case wl_49 => k_is); (case wc_49 => k_is); (case wk_49 => k_is)
    intro f49 dd49 F49 m49
    refine' MX.top_fnC (x := "_law_draw") (qual := "_law_draw") (st := MX.st_u_law_draw) KX G ?wa_51 ?wl_51 ?wc_51 ?wk_51 ?wgo_51
    (case wa_51 => k_is); (case wl_51 => k_is); (case wc_51 => k_is); (case wk_51 => k_is)
    intro f51 dd51 F51 m51
    refine' MX.top_fnC (x := "_law_cell_at") (qual := "_law_cell_at") (st := MX.st_u_law_cell_at) KX G ?wa_52 ?wl_52 ?wc_52 ?wk_52 ?wgo_52
    (case wa_52 => k_is); (case wl_52 => k_is); (case wc_52 => k_is); (case wk_52 => k_is)
    intro f52 dd52 F52 m52
    refine' MX.top_fnC (x := "_law_digits") (qual := "_law_digits") (st := MX.st_u_law_digits) KX G ?wa_53 ?wl_53 ?wc_53 ?wk_53 ?wgo_53
    (case wa_53 => k_is); (case wl_53 => k_is); (case wc_53 => k_is); (case wk_53 => k_is)
    intro f53 dd53 F53 m53
    refine' MX.top_fnC (x := "_law_take") (qual := "_law_take") (st := MX.st_u_law_take) KX G ?wa_54 ?wl_54 ?wc_54 ?wk_54 ?wgo_54
    (case wa_54 => k_is); (case wl_54 => k_is); (case wc_54 => k_is); (case wk_54 => k_is)
    intro f54 dd54 F54 m54
    refine' MX.top_fnC (x := "_law_pool") (qual := "_law_pool") (st := MX.st_u_law_pool) KX G ?wa_55 ?wl_55 ?wc_55 ?wk_55 ?wgo_55
    (case wa_55 => k_is); (case wl_55 => k_is); (case wc_55 => k_is); (case wk_55 => k_is)
    intro f55 dd55 F55 m55
    refine' MX.top_fnC (x := "_law_sizes") (qual := "_law_sizes") (st := MX.st_u_law_sizes) KX G ?wa_56 ?wl_56 ?wc_56 ?wk_56 ?wgo_56
    (case wa_56 => k_is); (case wl_56 => k_is); (case wc_56 => k_is); (case wk_56 => k_is)
    intro f56 dd56 F56 m56
    refine' MX.top_fnC (x := "_law_orders") (qual := "_law_orders") (st := MX.st_u_law_orders) KX G ?wa_57 ?wl_57 ?wc_57 ?wk_57 ?wgo_57
    (case wa_57 => k_is); (case wl_57 => k_is); (case wc_57 => k_is); (case wk_57 => k_is)
    intro f57 dd57 F57 m57
    refine' MX.top_fnC (x := "_law_some") (qual := "_law_some") (st := MX.st_u_law_some) KX G ?wa_58 ?wl_58 ?wc_58 ?wk_58 ?wgo_58
    (case wa_58 => k_is); (case wl_58 => k_is); (case wc_58 => k_is); (case wk_58 => k_is)
    intro f58 dd58 F58 m58
    refine' MX.top_fnC (x := "_law_drawn_build") (qual := "_law_drawn_build") (st := MX.st_u_law_drawn_build) KX G ?wa_59 ?wl_59 ?wc_59 ?wk_59 ?wgo_59
    (case wa_59 => k_is); (case wl_59 => k_is); (case wc_59 => k_is); (case wk_59 => k_is)
    intro f59 dd59 F59 m59
    refine' MX.top_fnC (x := "_law_base") (qual := "_law_base") (st := MX.st_u_law_base) KX G ?wa_60 ?wl_60 ?wc_60 ?wk_60 ?wgo_60
    (case wa_60 => k_is); (case wl_60 => k_is); (case wc_60 => k_is); (case wk_60 => k_is)
    intro f60 dd60 F60 m60
    refine' MX.top_fnC (x := "_law_cost") (qual := "_law_cost") (st := MX.st_u_law_cost) KX G ?wa_61 ?wl_61 ?wc_61 ?wk_61 ?wgo_61
    (case wa_61 => k_is); (case wl_61 => k_is); (case wc_61 => k_is); (case wk_61 => k_is)
    intro f61 dd61 F61 m61
    refine' MX.top_fnC (x := "_law_later") (qual := "_law_later") (st := MX.st_u_law_later) KX G ?wa_62 ?wl_62 ?wc_62 ?wk_62 ?wgo_62
    (case wa_62 => k_is); (case wl_62 => k_is); (case wc_62 => k_is); (case wk_62 => k_is)
    intro f62 dd62 F62 m62
    refine' MX.top_fnC (x := "_law_wishes") (qual := "_law_wishes") (st := MX.st_u_law_wishes) KX G ?wa_63 ?wl_63 ?wc_63 ?wk_63 ?wgo_63
    (case wa_63 => k_is); (case wl_63 => k_is); (case wc_63 => k_is); (case wk_63 => k_is)
    intro f63 dd63 F63 m63
    refine' MX.top_fnC (x := "_law_answers") (qual := "_law_answers") (st := MX.st_u_law_answers) KX G ?wa_64 ?wl_64 ?wc_64 ?wk_64 ?wgo_64
    (case wa_64 => k_is); (case wl_64 => k_is); (case wc_64 => k_is); (case wk_64 => k_is)
    intro f64 dd64 F64 m64
    refine' MX.top_lawC (x := "law") (qual := "law") (y := "_law_script") (st := MX.st_law) KX G hmg ?wa_65 ?wl_65 ?wc_65 ?wk_65 (fun _ _ _ _ _ _ _ => rfl) ?wgo_65
    (case wa_65 => k_is); (case wl_65 => k_is); (case wc_65 => k_is); (case wk_65 => k_is)
    intro dd65 F65 m65 hb
    refine' MX.top_intC (x := "MOST_PEOPLE") (i := 4) KX G ?wa_g18 ?wgo_g18
    (case wa_g18 => k_is)
    intro g18
    refine' MX.top_intC (x := "MOST_SIZE") (i := 4) KX G ?wa_g19 ?wgo_g19
    (case wa_g19 => k_is)
    intro g19
    refine' MX.top_intC (x := "MOST_ROOM") (i := 3) KX G ?wa_g20 ?wgo_g20
    (case wa_g20 => k_is)
    intro g20
    refine' MX.top_intC (x := "MOST_DELAY") (i := 2) KX G ?wa_g32 ?wgo_g32
    (case wa_g32 => k_is)
    intro g32
    refine' MX.top_intC (x := "MOST_TICKS") (i := 4) KX G ?wa_g33 ?wgo_g33
    (case wa_g33 => k_is)
    intro g33
    refine' MX.top_noneC (x := "abs") KX G ?wa_abs ?wgo_abs
    (case wa_abs => k_is)
    intro z_abs
    refine' MX.top_noneC (x := "all") KX G ?wa_all ?wgo_all
    (case wa_all => k_is)
    intro z_all
    refine' MX.top_noneC (x := "bool") KX G ?wa_bool ?wgo_bool
    (case wa_bool => k_is)
    intro z_bool
    refine' MX.top_noneC (x := "enumerate") KX G ?wa_enumerate ?wgo_enumerate
    (case wa_enumerate => k_is)
    intro z_enumerate
    refine' MX.top_noneC (x := "int") KX G ?wa_int ?wgo_int
    (case wa_int => k_is)
    intro z_int
    refine' MX.top_noneC (x := "isinstance") KX G ?wa_isinstance ?wgo_isinstance
    (case wa_isinstance => k_is)
    intro z_isinstance
    refine' MX.top_noneC (x := "iter") KX G ?wa_iter ?wgo_iter
    (case wa_iter => k_is)
    intro z_iter
    refine' MX.top_noneC (x := "len") KX G ?wa_len ?wgo_len
    (case wa_len => k_is)
    intro z_len
    refine' MX.top_noneC (x := "list") KX G ?wa_list ?wgo_list
    (case wa_list => k_is)
    intro z_list
    refine' MX.top_noneC (x := "max") KX G ?wa_max ?wgo_max
    (case wa_max => k_is)
    intro z_max
    refine' MX.top_noneC (x := "min") KX G ?wa_min ?wgo_min
    (case wa_min => k_is)
    intro z_min
    refine' MX.top_noneC (x := "range") KX G ?wa_range ?wgo_range
    (case wa_range => k_is)
    intro z_range
    refine' MX.top_noneC (x := "sorted") KX G ?wa_sorted ?wgo_sorted
    (case wa_sorted => k_is)
    intro z_sorted
    refine' MX.top_noneC (x := "sum") KX G ?wa_sum ?wgo_sum
    (case wa_sum => k_is)
    intro z_sum
    refine' MX.top_noneC (x := "tuple") KX G ?wa_tuple ?wgo_tuple
    (case wa_tuple => k_is)
    intro z_tuple
    refine' MX.cls_0 KX G ?waC_0 ?wmk_0 ?wkp_0 ?wpg_0 ?whd_0 ?wpo_0 ?wsa_0 ?wca_0 ?wcn_0 ?wct_0 ?wcm_0 ?wb0_0 ?wb1_0 ?wb2_0 ?wb3_0 ?wb4_0 ?wb5_0 ?wna__sizes_0 ?whn_0 ?wa2100_0 ?wl2100_0 ?wc2100_0 ?wk2100_0 ?wi2100_0 ?wa2101_0 ?wg2101_0 ?wt2101_0 ?wr2101_0 ?wl2101_0 ?wc2101_0 ?wk2101_0 ?wa2102_0 ?wl2102_0 ?wc2102_0 ?wk2102_0 ?wi2102_0 ?wa2103_0 ?wl2103_0 ?wc2103_0 ?wk2103_0 ?wi2103_0 ?wa2104_0 ?wl2104_0 ?wc2104_0 ?wk2104_0 ?wi2104_0 ?wgo_0
    (case waC_0 => k_is)
    (case wmk_0 => k_is)
    (case wkp_0 => k_is)
    (case wpg_0 => k_is)
    (case whd_0 => k_is)
    (case wpo_0 => k_is)
    (case wsa_0 => k_is)
    (case wca_0 => k_is)
    (case wcn_0 => k_is)
    (case wct_0 => k_is)
    (case wcm_0 => k_is)
    (case wb0_0 => kit_is)
    (case wb1_0 => kit_is)
    (case wb2_0 => kit_is)
    (case wb3_0 => kit_is)
    (case wb4_0 => kit_is)
    (case wb5_0 => kit_is)
    (case wna__sizes_0 => k_is)
    (case whn_0 => k_is)
    (case wa2100_0 => k_is)
    (case wl2100_0 => k_is)
    (case wc2100_0 => k_is)
    (case wk2100_0 => k_is)
    (case wi2100_0 => k_is)
    (case wa2101_0 => k_is)
    (case wg2101_0 => k_is)
    (case wt2101_0 => k_is)
    (case wr2101_0 => k_is)
    (case wl2101_0 => k_is)
    (case wc2101_0 => k_is)
    (case wk2101_0 => k_is)
    (case wa2102_0 => k_is)
    (case wl2102_0 => k_is)
    (case wc2102_0 => k_is)
    (case wk2102_0 => k_is)
    (case wi2102_0 => k_is)
    (case wa2103_0 => k_is)
    (case wl2103_0 => k_is)
    (case wc2103_0 => k_is)
    (case wk2103_0 => k_is)
    (case wi2103_0 => k_is)
    (case wa2104_0 => k_is)
    (case wl2104_0 => k_is)
    (case wc2104_0 => k_is)
    (case wk2104_0 => k_is)
    (case wi2104_0 => k_is)
    intro C0 f2100 dd2100 f2101 dd2101 p2101 f2102 dd2102 f2103 dd2103 f2104 dd2104 mc0 cm0 ck0 cf0 na0__sizes hn0 F2100 ha2100 hi2100 F2101 pr2101 F2102 ha2102 hi2102 F2103 ha2103 hi2103 F2104 ha2104 hi2104
    obtain ⟨c, a, dd, e1, T, e2, e3⟩ := MX.mk_Tx F10 m10 F11 m11 F12 m12 F13 m13 F15 m15 F16 m16 F22 m22 F23 m23 F25 m25 F26 m26 F27 m27 F28 m28 F29 m29 F30 m30 F34 m34 F35 m35 F36 m36 F37 m37 F38 m38 F39 m39 F40 m40 F41 m41 F42 m42 F43 m43 F44 m44 F45 m45 F46 m46 F47 m47 F49 m49 F51 m51 F52 m52 F53 m53 F54 m54 F55 m55 F56 m56 F57 m57 F58 m58 F59 m59 F60 m60 F61 m61 F62 m62 F63 m63 F64 m64 F65 m65 g18 g19 g20 g32 g33 z_abs z_all z_bool z_enumerate z_int z_isinstance z_iter z_len z_list z_max z_min z_range z_sorted z_sum z_tuple mc0 cm0 ck0 cf0 na0__sizes hn0 F2100 ha2100 hi2100 F2101 pr2101 F2102 ha2102 hi2102 F2103 ha2103 hi2103 F2104 ha2104 hi2104
    exact ⟨c, a, dd, e1, T, e2, by rw [e3]; exact hb⟩
  case wM => exact MX.law_true

