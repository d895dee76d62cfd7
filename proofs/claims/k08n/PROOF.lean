import PyProof.Rows.All
import Wide.All
import OpenK.AllK
import Wide.FinOn
import HandS.ForMost
import HandS.IsInst
import HandS.Defaults
import HandS.Wide
import HandS.ForExc
import HandS.ExcInit
import HandS.ExcField
import KE.KExcIs
import KE.KTypeName
import HandS.ClsMeth
import HandS.DictComp
import HandS.More
import PyProof.ReprRoads
import HandS.SetFor
import HandS.Strs
import HandS.TupSets
import HandS.SortRule
import HandS.Deep
import HandS.TupAny
import HandS.Style
import HandS.Zip
import HandS.Walk
import HandS.MakeKwOnly
import HandS.ExcOwn
import HandS.ExcInitHot
import HandS.SuiteRaise
import HandS.RaiseFrom
import HandS.RaiseMore
import HandS.Property
import HandS.Conv
import OpenK.KOps
import KE.KCallOwn
import KE.KOpsOwn
import HandS.FStr
import PyProof.StrBlock2
import HandS.Comp
import KE.GoesRaise
import HandS.StrMore
import KE.DataCmp
import PyProof.ReprLen
import HandS.Codes
import PySem.Challenge.RW_oddfigures_k08_schemes_as_text
set_option Elab.async false
set_option linter.all false
set_option maxRecDepth 100000
/-! What the laws of this program have in common: heaps that stay but for one box, the box that draws are taken from, calls by names alone, repr of a truth. -/
namespace OF
open PySem PySem.Spec PyProof.Rows L2

/-! ### heaps that stay but for one place -/
/-- all that was tracked, but for the box at a, is as it was -/
def But (a : Addr) (H H' : Hp) : Prop := ∀ b o, b ≠ a → H b = some o → H' b = some o
theorem But.refl {a : Addr} {H : Hp} : But a H H := fun _ _ _ h => h
theorem But.trans {a : Addr} {H H1 H2 : Hp} (x : But a H H1) (y : But a H1 H2) : But a H H2 := fun b o n h => y b o n (x b o n h)
theorem But.of_same {a : Addr} {H H' : Hp} (x : Same H H') : But a H H' := fun b o _ h => x b o h
theorem But.new {a p : Addr} {H : Hp} {o : HO} (hp : H p = none) : But a H (upd H p o) := fun b u _ h => by
  rw [upd_ne (ne_of_none h hp)]; exact h
theorem But.at_ {a : Addr} {H : Hp} {o : HO} : But a H (upd H a o) := fun b u n h => by
  rw [upd_ne n]; exact h
/-- what was none ahead of the steps is a new place: a store to it keeps all -/
theorem But.store {a p : Addr} {H H1 : Hp} {o : HO} (x : But a H H1) (hp : H p = none) : But a H (upd H1 p o) := fun b u n h => by
  rw [upd_ne (ne_of_none h hp)]; exact x b u n h
theorem But.seqL {K : PySem.W.Frag} {a p : Addr} {H H' : Hp} {xs : List V} (x : But a H H') (n : p ≠ a) (h : SqL K H p xs) : SqL K H' p xs := by
  rcases h with (h | ⟨o, h⟩) | h
  · exact .inl (.inl (x _ _ n h))
  · exact .inl (.inr ⟨o, x _ _ n h⟩)
  · exact .inr h
theorem But.seqT {K : PySem.W.Frag} {a p : Addr} {H H' : Hp} {xs : List V} (x : But a H H') (n : p ≠ a) (h : SqT K H p xs) : SqT K H' p xs := by
  rcases h with (h | ⟨o, h⟩) | h
  · exact .inl (.inl (x _ _ n h))
  · exact .inl (.inr ⟨o, x _ _ n h⟩)
  · exact .inr h
theorem same_new {H : Hp} {p : Addr} {o : HO} (h : H p = none) : Same H (upd H p o) := fun b x e => by
  rw [upd_ne (ne_of_none e h)]; exact e

/-! ### the box -/
/-- at a stands a box: what is left of a large cell, a seed, how many were mixed (at most n) -/
def Box (n : Int) (H : Hp) (a : Addr) : Prop := ∃ b0 b1 b2 : Int, H a = some (.lst [.int b0, .int b1, .int b2]) ∧ 0 ≤ b0 ∧ 0 ≤ b1 ∧ b1 < 2147483648 ∧ 0 ≤ b2 ∧ b2 ≤ n
theorem Box.mono {n m : Int} {H : Hp} {a : Addr} (h : Box n H a) (hm : n ≤ m) : Box m H a := by
  obtain ⟨b0, b1, b2, h1, h2, h3, h4, h5, h6⟩ := h
  exact ⟨b0, b1, b2, h1, h2, h3, h4, h5, by omega⟩
theorem Box.same {n : Int} {H H' : Hp} {a : Addr} (h : Box n H a) (s : Same H H') : Box n H' a := by
  obtain ⟨b0, b1, b2, h1, r⟩ := h
  exact ⟨b0, b1, b2, s _ _ h1, r⟩
theorem Box.new {n : Int} {H : Hp} {a p : Addr} {o : HO} (h : Box n H a) (hp : H p = none) : Box n (upd H p o) a := h.same (same_new hp)
theorem Box.ne {n : Int} {H : Hp} {a p : Addr} (h : Box n H a) (hp : H p = none) : p ≠ a := by
  obtain ⟨b0, b1, b2, h1, r⟩ := h
  exact (ne_of_none h1 hp).symm
theorem Box.upd {n : Int} {H : Hp} {a p : Addr} {o : HO} (h : Box n H a) (hp : p ≠ a) : Box n (L2.upd H p o) a := by
  obtain ⟨b0, b1, b2, h1, r⟩ := h
  exact ⟨b0, b1, b2, by rw [upd_ne hp.symm]; exact h1, r⟩

/-- a draw: box, many; a number from 0 to many - 1, the box goes on -/
def spTake : Sp := fun vs H Q _ => ∃ (a : Addr) (m n : Int), vs = [.ref a, .int m] ∧ Box n H a ∧ n ≤ 1000000 ∧ 0 < m ∧ m.natAbs < 2 ^ 400 ∧
  ∀ (r : Int) (H' : Hp), 0 ≤ r → r < m → But a H H' → Box (n + 1) H' a → Q (.int r) H'
/-- a cell of the script, or a number made of the place -/
def spCell (K : PySem.W.Frag) : Sp := fun vs H Q _ => ∃ (a : Addr) (ns : List Int) (k : Nat), vs = [.ref a, .int k] ∧ SqL K H a (ns.map V.int) ∧ k < 1000 ∧ ∀ c : Int, Q (.int c) H
/-- a new box of a cell -/
def spBox : Sp := fun vs H Q _ => ∃ c : Int, vs = [.int c] ∧ ∀ (p : Addr) (H' : Hp), H p = none → Same H H' → Box 0 H' p → Q (.ref p) H'
/-- a list's items in a drawn order -/
def spMixed (K : PySem.W.Frag) : Sp := fun vs H Q _ => ∃ (a p : Addr) (xs : List V) (n : Int), vs = [.ref a, .ref p] ∧ Box n H a ∧ SqL K H p xs ∧ p ≠ a ∧ xs.length ≤ 1000 ∧ n ≤ 900000 ∧
  ∀ (D : Addr) (ys : List V) (H' : Hp), H D = none → But a H H' → Box (n + xs.length) H' a → H' D = some (.lst ys) → ys.length = xs.length → (∀ y ∈ ys, y ∈ xs) → Q (.ref D) H'

/-! ### calls by names alone -/
section
variable {X : Cx} {CX : CXT} {k : Nat} {f : Addr} {fd : FuncData} {ps ks : List Str} {sp : Sp} {E : XK} {x : Str} {p pos : Pos} {kws : List Keyword} {tk : TA} {g : List Value → List Value → List Value} {gV : List V → List V → List V}
/-- f(k = v, ..) -/
theorem pe_callN0 (F : FnOk X.prog X.w X.K X.mg X.base CX k f fd ps sp) (hr : Room k X.A) (hg : Gl X x) (hm : X.mg x = some (.ref f)) (hk : PySem.W.keepIn X.K (.ref f) = true) (hb : KBn X.K fd ps 0 ks g gV) (hx : Passes CX X E)
    (hkw : PK X kws tk) (hall : (backToKw pos (keywordEach kws X.env)).all (·.1.isSome) = true := by rfl) (hks : (backToKw pos (keywordEach kws X.env)).filterMap (·.1) = ks := by rfl)
    (hdb : (x == ("__debug__" : Str)) = false := by decide)
    (hpl : ((backTo pos (starEach [] X.env)).any (·.1) || (backToKw pos (keywordEach kws X.env)).any (·.1.isNone)) = false := by rfl) :
    PE X (.Call (.Name x p) [] kws pos) (tCallN 0 ks.length sp gV E tNil tk) := by
  refine ⟨fun pins s σ H Q I h => ?_⟩
  refine wpAny_Call_Name_kw (ld_glob I hg hm ?_ hdb)
  refine PySem.W.callWith_KW0 (h₀ := X.base) I.ok.mod.kin hk hall (thn (hkw.run pos pins s σ H _ I h) fun ws s2 ⟨zs, H2, I2, rz, l1, l2, q2⟩ => ⟨I2.kIn, ?_⟩) hpl
  rw [hks]
  exact run_fnN (us := []) (vs := []) F hr hb hx I2 .nil rz l1 l2 q2
/-- % by a positive number: some rest, in its bounds -/
theorem op_modR : OpR X (binaryOp .Mod) (fun x y H Q => ∃ i j : Int, x = .int i ∧ y = .int j ∧ 0 < j ∧ ∀ r : Int, 0 ≤ r → r < j → Q (.int r) H) := by
  intro pins s σ H x y v u Q I rx ry h
  obtain ⟨i, j, e1, e2, hj, q⟩ := h
  exact op_mod pins s σ H x y v u Q I rx ry ⟨i, j, e1, e2, hj, q _ (Int.emod_nonneg _ (by omega)) (Int.emod_lt_of_pos _ hj)⟩
theorem call_repr_bool : CallR X (.builtin "repr") (fun xs H Q => ∃ b, xs = [.bl b] ∧ Q (.str (if b then "True" else "False")) H) := by
  intro pins s σ H xs us Q I r h
  obtain ⟨b, rfl, q⟩ := h
  obtain ⟨u, rfl, hu⟩ := vals1 r
  cases hu
  exact PySem.P.repr_of_bool ⟨.str _, H, I.tok _, ⟨_, rfl⟩, q⟩
end
end OF
namespace OF
open PySem PySem.Spec PyProof.Rows L2
/-- len of a list or tuple -/
abbrev rLenS (K : PySem.W.Frag) : List V → Hp → VK → Prop := fun xs H Q => ∃ p ys, xs = [.ref p] ∧ (SqL K H p ys ∨ SqT K H p ys) ∧ Q (.int ys.length) H
theorem tYes_if {σ : L2.St} {H : Hp} {A B : Hp → Prop} (h : A H) : tYes σ H (fun b H3 => if b = true then A H3 else B H3) := by
  show (if true = true then A H else B H)
  rw [if_pos rfl]
  exact h
/-- both ways of a test lead to the same rest -/
theorem iteDup {c : Bool} {A B R : Prop} (f : R → c = true → A) (g : R → c = false → B) (r : R) : if c = true then A else B := by
  cases c with
  | true => exact iteT (f r rfl)
  | false => exact iteF (g r rfl)
theorem iteAnd {c d : Bool} {A : Prop} {Q : V → Hp → Prop} {H : Hp} (hA : Q (.bl d) H → A) (h : Q (.bl (c && d)) H) : if c = true then A else Q (.bl false) H := by
  cases c with
  | true => exact iteT (hA h)
  | false => exact iteF h
theorem iteOr {c d : Bool} {A : Prop} {Q : V → Hp → Prop} {H : Hp} (hA : Q (.bl d) H → A) (h : Q (.bl (c || d)) H) : if c = true then Q (.bl true) H else A := by
  cases c with
  | true => exact iteT h
  | false => exact iteF (hA h)
/-- an if whose test is known -/
theorem iteTB {c : Bool} {A B : Prop} (e : c = true) (h : A) : if c = true then A else B := by rw [if_pos e]; exact h
theorem iteFB {c : Bool} {A B : Prop} (e : c = false) (h : B) : if c = true then A else B := by rw [if_neg (by rw [e]; exact Bool.false_ne_true)]; exact h
/-- two values that are the same: no difference -/
theorem neSame {x y : V} (h : x = y) : (!decide (x = y)) = false := by rw [decide_eq_true h]; rfl
theorem eqSame {x y : V} (h : x = y) : decide (x = y) = true := decide_eq_true h
theorem seq_past {K : PySem.W.Frag} {H H1 H2 : Hp} {a p : Addr} {xs : List V} (hp : H p = none) (s : Same H H1) (b : But p H1 H2) (h : SqL K H a xs) : SqL K H2 a xs := by
  rcases h with (h | ⟨o, h⟩) | h
  · exact .inl (.inl (b _ _ (ne_of_none h hp) (s _ _ h)))
  · exact .inl (.inr ⟨o, b _ _ (ne_of_none h hp) (s _ _ h)⟩)
  · exact .inr h
/-- an item at a place within -/
theorem pick {xs : List V} {r : Int} (h0 : 0 ≤ r) (h1 : r < xs.length) : ∃ v, atI xs r = some v ∧ v ∈ xs := by
  obtain ⟨k, rfl⟩ := Int.eq_ofNat_of_zero_le h0
  have hk : k < xs.length := by omega
  exact ⟨xs[k], atI_nat (List.getElem?_eq_getElem hk), List.getElem_mem hk⟩
theorem ixN_in {n : Nat} {r : Int} (h0 : 0 ≤ r) (h1 : r < n) : ixN n r = some r.toNat := by
  unfold ixN
  rw [if_pos h0, if_pos h1]
/-- a value of a kind that is no int, or a truth -/
inductive Odd (H : Hp) : V → Prop
  | non : Odd H .non
  | bl (b : Bool) : Odd H (.bl b)
  | str (z : Str) : Odd H (.str z)
  | lst {a : Addr} {xs : List V} (e : H a = some (.lst xs)) : Odd H (.ref a)
  | tup {a : Addr} {xs : List V} (e : H a = some (.tup xs)) : Odd H (.ref a)
  | dK {a : Addr} {kvs : List (Key × V)} (e : H a = some (.dK kvs)) : Odd H (.ref a)
theorem Odd.same {H H' : Hp} {x : V} (h : Odd H x) (s : Same H H') : Odd H' x := by
  cases h with
  | non => exact .non
  | bl b => exact .bl b
  | str z => exact .str z
  | lst e => exact .lst (s _ _ e)
  | tup e => exact .tup (s _ _ e)
  | dK e => exact .dK (s _ _ e)
theorem Odd.kit {K : PySem.W.Frag} {H : Hp} {x : V} (h : Odd H x) : ∃ (t : Value) (b : Bool), TyX K H x t ∧ PySem.W.kitOne K t (.type "int") = some b ∧ (b = true → PySem.W.kitOne K t (.type "bool") = some true) := by
  cases h with
  | non => exact ⟨_, false, .base .non, kit_ty (by decide +kernel), fun z => nomatch z⟩
  | bl b => exact ⟨_, true, .base (.bl b), kit_ty (by decide +kernel), fun _ => kit_ty (by decide +kernel)⟩
  | str z => exact ⟨_, false, .base (.str z), kit_ty (by decide +kernel), fun z => nomatch z⟩
  | lst e => exact ⟨_, false, .base (.lst e), kit_ty (by decide +kernel), fun z => nomatch z⟩
  | tup e => exact ⟨_, false, .base (.tup e), kit_ty (by decide +kernel), fun z => nomatch z⟩
  | dK e => exact ⟨_, false, .base (.dK e), kit_ty (by decide +kernel), fun z => nomatch z⟩
theorem Odd.but {a : Addr} {H H' : Hp} {x : V} (h : Odd H x) (hx : x ≠ .ref a) (t : But a H H') : Odd H' x := by
  cases h with
  | non => exact .non
  | bl b => exact .bl b
  | str z => exact .str z
  | lst e => exact .lst (t _ _ (fun z => hx (congrArg V.ref z)) e)
  | tup e => exact .tup (t _ _ (fun z => hx (congrArg V.ref z)) e)
  | dK e => exact .dK (t _ _ (fun z => hx (congrArg V.ref z)) e)
theorem Same.store {p : Addr} {H H1 : Hp} {o : HO} (x : Same H H1) (hp : H p = none) : Same H (upd H1 p o) := fun b u h => by
  rw [upd_ne (ne_of_none h hp)]; exact x b u h
theorem q_eq {Q : V → Hp → Prop} {H : Hp} {x y : V} (h : x = y) (q : Q (.bl true) H) : Q (.bl (decide (x = y))) H := by
  rw [decide_eq_true h]; exact q
end OF
/-! e.__class__.__name__ of an error that is being made. -/
namespace PySem.W
open PySem PySem.Calls PyProof.Rows PyProof.V PySem.Spec Builtin Builtin.ObjectAttr Builtin.Getset_descriptor
section
variable {prog : Program} {w : World} {A : Around} {E : Value → Shared → Prop} {s : Shared} {K : Frag} {x C : Addr} {ox : Obj} {od : Option Obj} {expr : Bool} {Q : Value → Shared → Prop} {gt : Option Value}
theorem exc_class (X : K.In s.heap) (I : InstAt s.heap x ox C od) (hga : findIn K (.ref C) "__getattribute__" = some (some (.builtin "BaseException.__getattribute__"))) (hgt : findIn K (.ref C) "__getattr__" = some gt)
    (hsub : subIn K (.ref C) (.type "BaseException") = some true) (hf : findObj K C od "__class__" = some (.bind (.builtin "getset_descriptor.__get__") (.builtin "object.__class__"))) (hm : mroIn K C (.type "object") = some true)
    (h : Q (.ref C) { s with toks := s.toks + 1 }) : wpAny (model prog w) A (getAttr (.ref x) "__class__" expr) Q E s := by
  obtain ⟨hp, g, d, t, os⟩ := s
  have L0 := I.type (M := model prog w)
  have L1 := looks_findIn (M := model prog w) X hga
  have L2 := looks_findIn (M := model prog w) X hgt
  have L3 := looks_find (M := model prog w) X I hf
  have sub : Looks (model prog w) hp (isInstance (.ref x) (.type "BaseException")) true := L0.andThen (looks_subIn X hsub)
  have hx0 : (expr && onTheHeap (Value.builtin "BaseException.__getattribute__")) = false := by cases expr <;> rfl
  have hx2 : (Value.builtin "BaseException.__getattribute__" == Value.builtin "object.__getattribute__") = false := by decide +kernel
  have hx1 : (onTheHeap (Value.ref C) && Value.builtin "BaseException.__getattribute__" == Value.builtin "object.__getattribute__") = false := by rw [hx2]; rfl
  unfold getAttr getAttrBy
  refine wpAny_bind (wpAny_mkText (wpAny_holding (wpAny_bind (L0.at (wpAny_bind (L1.at ?_))))))
  show wpAny _ _ (if (onTheHeap (Value.ref C) && Value.builtin "BaseException.__getattribute__" == Value.builtin "object.__getattribute__") = true then _ else _) _ _ _
  rw [hx1, if_neg Bool.false_ne_true]
  unfold getAttrByItsOwn hookBefore
  refine wpAny_bind ?_
  rw [if_pos (show onTheHeap (Value.ref C) = true from rfl)]
  refine L2.at ?_
  refine wpAny_bind (wpAny_attempt (wpAny_holding ?_))
  unfold callGetattribute
  rw [hx0, if_neg Bool.false_ne_true]
  unfold boundAndCalled
  rw [PySem.F.excAttr_ValueError.ga.bind (.ref x)]
  refine wpAny_bind (wpAny_pure ?_)
  show wpAny _ _ (call (.builtin "BaseException.__getattribute__") [.ref x, .str "__class__" t]) _ _ _
  refine wpAny_call (codeAny_call_builtin PySem.F.excAttr_ValueError.ga.plain PySem.F.entry_bexc_ga ?_)
  refine @PySem.W.check_slot (model prog w) _ _ ⟨hp, g, d, t + 1, os⟩ "BaseException.__getattribute__" "BaseException" "__getattribute__" (.ref x) [.str "__class__" t] [] _ (by decide +kernel) (by decide +kernel) sub (PySem.F.args_bexc_ga (.ref x) (.str "__class__" t)) ?_
  unfold Builtin.«object.__getattribute__»
  refine wpAny_bind (wpAny_of_eq (a := ((Value.ref x : Value), [Value.str "__class__" t])) (by first | rfl | (simp only [slotArgs]; rfl)) ?_)
  refine wpAny_bind (wpAny_pure (wpAny_bind (L0.at (wpAny_bind (L3.at ?_)))))
  refine wpAny_bind (wpAny_holding (wpAny_call (class_get (s := ⟨hp, g, d, t + 1, os⟩) (ox := ox) (od := od) X I hm ?_)))
  refine wpAny_pure ?_
  show wpAny _ _ (handedOut (.ref C)) _ _ _
  rw [handedOut_of (show handedIn (.ref C) = true from rfl)]
  first | exact wpAny_pure h | exact wpAny_pure (wpAny_pure h)
theorem cn_dga (d tp : Value) (a : Addr) : descrGetArgs ⟨[d, .ref a, tp], []⟩ = pure (d, some (.ref a), given tp) := by kernel_rfl
theorem cn_get {R : Result → Shared → Prop} {tp v : Value} {o : Obj} (ho : s.heap.get? C = some o) (hc : o.cls = .type "type") (hv : o.slots[2]?.join = some v) (h : R (.ok (.ret v)) s) :
    codeAny (model prog w) A (.call (.builtin "getset_descriptor.__get__") ⟨[.builtin "type.__name__", .ref C, tp], []⟩) R s := by
  obtain ⟨hh, g, dr, t, os⟩ := s
  have L0 : Looks (model prog w) hh (typeOf (.ref C)) (.type "type") := by
    rw [← hc]
    exact (Looks.ld ho).andThen .now
  have L1 : Looks (model prog w) hh (isSubtype (.type "type") (.type "type")) true := Looks.of_pure (by rw [isSubtype_type]; kernel_rfl)
  refine codeAny_call_builtin KF.slot_gs.plain KF.entry_gs (KF.slot_gs.check _ _ _ _ _ _ _ _ ktyn_type (KF.args_gs _ _ _) ?_)
  unfold Builtin.«getset_descriptor.__get__» descrGet
  rw [cn_dga]
  refine wpAny_bind (wpAny_pure ?_)
  unfold descrGetter descrCheckInstance descrNameAndClass isInstance
  simp only [ktyn_owner]
  repeat lk
  refine ⟨Code.quiet_builtin _ (by decide +kernel), codeAny_builtin ktyn_entry ?_⟩
  unfold Builtin.«type.__name__» keptObject slotAt
  dsimp only
  refine wpAny_bind (wpAny_bind (wpAny_loadPart_at ho (wpAny_pure ?_)))
  rw [hv]
  exact wpAny_pure h
theorem cn_attr {v : Value} {o : Obj} (X : K.In s.heap) (ty : typeIn K (.ref C) = some (.type "type")) (st : nsIn K cStatics "thirdparty.any" = some none)
    (e : findCls K (.ref C) (.type "type") "__name__" = some (.get (.builtin "getset_descriptor.__get__") (.builtin "type.__name__") (.ref C) (.type "type"))) (lk : K.lookup C = some o) (hc : o.cls = .type "type") (hv : o.slots[2]?.join = some v) (hh : handedIn v = true)
    (h : Q v { s with toks := s.toks + 1 }) : wpAny (model prog w) A (getAttr (.ref C) "__name__" expr) Q E s := by
  have ho := X _ _ lk
  have L0 : Looks (model prog w) s.heap (typeOf (.ref C)) (.type "type") := by
    rw [← hc]
    exact (Looks.ld ho).andThen .now
  have hg : findIn K (.type "type") "__getattribute__" = some (some (.builtin "type.__getattribute__")) := type_tga
  refine cls_open X (looks_opaque X st) L0 hg (looks_hook X (r := none) (by rfl)) (by show subIn K _ _ = _; rfl) e ?_
  show wpAny _ _ (do ret (← holding [Value.builtin "type.__name__"] (call (.builtin "getset_descriptor.__get__") [.builtin "type.__name__", .ref C, .type "type"]))) _ _ _
  refine wpAny_bind (wpAny_holding (wpAny_call (cn_get (s := { s with toks := s.toks + 1 }) ho hc hv ?_)))
  refine wpAny_pure ?_
  show wpAny _ _ (handedOut v) _ _ _
  rw [handedOut_of hh]
  first | exact wpAny_pure h | exact wpAny_pure (wpAny_pure h)
end
end PySem.W
namespace OF
open PySem PySem.Spec PyProof.Rows L2
/-- what an error class says, so that the name of its class is told -/
structure NamC (K : PySem.W.Frag) (C : Addr) (nm : Str) : Prop where
  xf : XfC K C
  cl : (PySem.W.clsIn K C).isSome = true
  ha : PySem.W.findIn K (.ref C) "__class__" = some (some (.builtin "object.__class__"))
  hn : PySem.W.specialIn K (.builtin "object.__class__") "__get__" = some (some (.builtin "getset_descriptor.__get__"))
  ht : PySem.W.takesIn K (.builtin "object.__class__") = some true
  hm : PySem.W.mroIn K C (.type "object") = some true
  ty : PySem.W.typeIn K (.ref C) = some (.type "type")
  st : PySem.W.nsIn K cStatics "thirdparty.any" = some none
  fc : PySem.W.findCls K (.ref C) (.type "type") "__name__" = some (.get (.builtin "getset_descriptor.__get__") (.builtin "type.__name__") (.ref C) (.type "type"))
  lk : ∃ (o : Obj) (t : Tok), K.lookup C = some o ∧ o.cls = .type "type" ∧ o.slots[2]?.join = some (.str nm t)
  no : PySem.W.findIn K (.ref C) "class_name" = some none
section
variable {X : Cx} {e : Expr} {te : TE} {p1 p2 : Pos}
/-- e.__class__.__name__ -/
def tCname (K : PySem.W.Frag) (te : TE) : TE := fun σ H Q => te σ H fun x H1 => ∃ (a C : Addr) (nm : Str), x = .ref a ∧ H1 a = some (exo a C none) ∧ NamC K C nm ∧ Q (.str nm) H1
theorem pe_cname (he : PE X e te) (hb : attributeBase e "__class__" X.env (eval e X.env) = eval e X.env := by rfl) (hb2 : attributeBase (.Attribute e "__class__" p1) "__name__" X.env (eval (.Attribute e "__class__" p1) X.env) = eval (.Attribute e "__class__" p1) X.env := by rfl) :
    PE X (.Attribute (.Attribute e "__class__" p1) "__name__" p2) (tCname X.K te) := by
  refine ⟨fun pins s σ H Q I h => ?_⟩
  refine attr_of hb2 (attr_of hb (thn (he.run pins s σ H _ I h) fun u s1 hh => ?_))
  obtain ⟨x, H1, I1, rx, a, C, nm, ex, ea, N, q⟩ := hh
  subst ex
  obtain rfl : u = Value.ref a := rx
  obtain ⟨t1, ho⟩ := exo_at I1.hok ea
  have J : PySem.W.InstAt s1.heap a { cls := .ref C, dict := none, data := .fields #[.ref t1, .none, .none, .none, .bool false, .none] } C none := ⟨ho, rfl, rfl, trivial⟩
  refine PySem.W.exc_class I1.kIn J N.xf.ga N.xf.gg N.xf.exC (PySem.W.findObj_dataE N.cl N.ha N.hn N.ht) N.hm ?_
  obtain ⟨o, t, lk, hc, hv⟩ := N.lk
  refine PySem.W.cn_attr (s := { s1 with toks := s1.toks + 1 }) (I1.tok _).kIn N.ty N.st N.fc lk hc hv rfl ?_
  exact ⟨.str nm, H1, (I1.tok _).tok _, ⟨_, rfl⟩, q⟩
end
end OF
/-! The errors of the program: two classes deep, each with an __init__ of its own that calls the one above by its class. -/
namespace OF
open PySem PySem.Spec PyProof.Rows L2

/-! ### C.m(e, ..), m a plain def read off the class -/
section
variable {X : Cx} {CX : CXT} {k : Nat} {C f : Addr} {fd : FuncData} {ps : List Str} {sp : Sp} {E : XK} {x m : Str} {p p1 p2 pos : Pos} {e : Expr} {es : List Expr} {t : TA} {mc : Value}
theorem pe_unb {pl : Sem Bool} (F : FnOk X.prog X.w X.K X.mg X.base CX k f fd ps sp) (hr : Room k X.A) (hg : Gl X x) (hm : X.mg x = some (.ref C)) (r : ClX.CRead X.K C mc) (c : ClX.CVal X.K C mc m (.ref f) (.ref f)) (hk : PySem.W.keepIn X.K (.ref f) = true)
    (hb : Binds X.K fd ps []) (hx : Passes CX X E) (ha : PA X (e :: es) t)
    (hc : eval (.Call (.Attribute (.Name x p1) m p2) (e :: es) [] pos) X.env = (do
      let ov ← eval (.Name x p1) X.env
      standAt p2.atName
      let (f, first) ← holding [ov] (getMethod ov m pl)
      callWith pos f first (backTo pos (starEach (e :: es) X.env)) (backToKw pos (keywordEach [] X.env))) := by rfl)
    (hdb : (x == ("__debug__" : Str)) = false := by decide) (he : starEach (e :: es) X.env = (false, eval e X.env) :: starEach es X.env := by rfl) (hpl : (backTo pos (starEach es X.env)).any (·.1) = false := by rfl) :
    PE X (.Call (.Attribute (.Name x p1) m p2) (e :: es) [] pos) (tCall sp [] E t) := by
  refine ⟨fun pins s σ H Q I h => ?_⟩
  refine PySem.W.methodCall_KW (ld_glob I hg hm ?_ hdb) hc
  refine PySem.W.method_cls I.kIn r.ga (ClX.getcval_ok I r c fun s' I' => ?_)
  show wpAny _ _ (callWith pos (Value.ref f) [] (backTo pos (starEach (e :: es) X.env)) []) _ _ _
  refine PySem.W.callWith_K (h₀ := X.base) I.ok.mod.kin hk (thn (ha.run pos pins s' σ H _ I' h) fun us s1 ⟨vs, H1, I1, r1, q⟩ => ⟨I1.kIn, ?_⟩) he hpl
  exact run_fn F hr hb .nil hx I1 r1 q
end

/-! ### promises of the makers -/
/-- FigureError.__init__: the name of the class is kept -/
def spFig (K : PySem.W.Frag) : Sp := fun vs H Q _ => ∃ (a C : Addr) (v : V) (nm : Str), vs = [.ref a, v] ∧ OexC K C ∧ NamC K C nm ∧ H a = some (exo a C none) ∧ ∀ d, H d = none → d ≠ a → Q .non (upd (upd H d (exd d [("class_name", .str nm)])) a (exo a C (some d)))
/-- X.__init__ of the class at C: one field, and what was kept -/
def spInit (K : PySem.W.Frag) (f : Str) (C : Addr) : Sp := fun vs H Q _ => ∃ (a : Addr) (v : V), vs = [.ref a, v] ∧ H a = some (exo a C none) ∧ ∀ (fs : List (Str × V)) (d : Addr), H d = none → d ≠ a → Q .non (upd (upd H d (exd d ((f, v) :: fs))) a (exo a C (some d)))
theorem upd_swap {H : Hp} {a d : Addr} {x y z : HO} (n : d ≠ a) : upd (upd (upd H d x) a y) d z = upd (upd H d z) a y := by
  funext b
  by_cases h : b = d
  · subst h
    rw [upd_same, upd_ne n, upd_same]
  · rw [upd_ne h]
    by_cases h2 : b = a
    · subst h2
      rw [upd_same, upd_same]
    · rw [upd_ne h2, upd_ne h2, upd_ne h, upd_ne h]
/-- what the top says of FigureError -/
structure FigC (K : PySem.W.Frag) (mg : Str → Option Value) (C f : Addr) : Prop where
  g : mg "FigureError" = some (.ref C)
  rd : ClX.CRead K C (.type "type")
  at_ : PySem.W.findCls K (.ref C) (.type "type") "__init__" = some (.val (.ref f))
  kp : PySem.W.keepIn K (.ref f) = true
theorem FigC.val {K : PySem.W.Frag} {mg : Str → Option Value} {C f : Addr} (T : FigC K mg C f) : ClX.CVal K C (.type "type") "__init__" (.ref f) (.ref f) := ⟨T.at_, rfl⟩
/-- what the top says of an error class below it, its field f, its maker at fI -/
structure ErrC (K : PySem.W.Frag) (mg : Str → Option Value) (x f : Str) (C fI : Addr) : Prop where
  g : mg x = some (.ref C)
  ox : OexC K C
  iC : PySem.W.findIn K (.ref C) "__init__" = some (some (.ref fI))
  tI : PySem.W.typeIn K (.ref fI) = some (.type "function")
  no : PySem.W.findIn K (.ref C) f = some none
  xf : XfC K C
  te : PySem.W.exmOne K (.ref C) (.ref C) = some true
  nam : ∃ nm, NamC K C nm
/-- a raised error of the class at C with its field -/
def Raised (C : Addr) (f : Str) (v : V) (H : Hp) (E : XK) : Prop := ∀ (fs : List (Str × V)) (d : Addr) (H' : Hp), H d = none → Same H H' → H' d = some (.xd ((f, v) :: fs)) → E (.ref C) (some d) H'
theorem raised_ok {C : Addr} {f : Str} {v : V} {H H1 : Hp} {E : XK} (q : Raised C f v H E) (s : Same H H1) {K : PySem.W.Frag} {σ : L2.St} {D : Ends} : 
    ([v].length ≤ 1000 ∧ ∀ a, H1 a = none → spInit K f C (.ref a :: ([v] ++ [])) (upd H1 a (exo a C none))
      (fun v' H2 => v' = .non ∧ ∃ (d : Addr) (fs : List (Str × V)), H2 a = some (exo a C (some d)) ∧ H2 d = some (exd d fs) ∧ H1 d = none ∧ E (.ref C) (some d) (upd (del H2 a) d (.xd fs))) (fun _ _ _ => False)) := by
  refine ⟨(by show 1 ≤ 1000; decide), fun a ha => ⟨a, v, rfl, upd_same, fun fs d hd nda => ⟨rfl, d, (f, v) :: fs, upd_same, ?_, ?_, ?_⟩⟩⟩
  · rw [upd_ne nda]
    exact upd_same
  · rw [upd_ne nda] at hd
    exact hd
  · rw [upd_ne nda] at hd
    refine q fs d _ (s.free hd) (fun b o h => ?_) upd_same
    have h1 := s b o h
    have hba : b ≠ a := ne_of_none h1 ha
    have hbd : b ≠ d := ne_of_none h1 hd
    rw [upd_ne hbd, del_ne hba, upd_ne hba, upd_ne hbd, upd_ne hba]
    exact h1
/-- dict comprehensions over a range -/
theorem dc_range {lo : Int} {n : Nat} {g : TG} {tt : TT} {tk tv : TE} {vs : List Nat} {σ : L2.St} {H1 : Hp} {D : Addr} {Qd : Hp → Prop} (Pv : Nat → Hp → Prop) (h0 : Pv 0 (upd H1 D (.dK [])))
    (hs : ∀ i H, i < n → Pv i H → g (.int (lo + i)) (wipe σ vs) H fun σ2 H2 => wipe σ2 vs = wipe σ vs ∧ tt σ2 H2 fun b H3 =>
      if b = true then tk σ2 H3 fun y H4 => tv σ2 H4 fun z H5 => ∃ kvs k, y = kV k ∧ H5 D = some (.dK kvs) ∧ kvs.length < sizeLine ∧ Pv (i + 1) (upd H5 D (.dK (putK kvs k z))) else Pv (i + 1) H3) (hd : ∀ H, Pv n H → Qd H) :
    ∃ W : Nat → Nat → Hp → Prop, (∃ m, W 0 m (upd H1 D (.dK []))) ∧ ∀ i m H, W i m H →
      ((Itr lo n).stop i H ∧ Qd H) ∨ ((Itr lo n).go i H ∧ ∃ Nx : Hp → Prop, (∀ H', Nx H' → ∃ m', m' < m ∧ W (i + 1) m' H') ∧ ∀ x H', (Itr lo n).yld i H x H' → g x (wipe σ vs) H' fun σ2 H2 => wipe σ2 vs = wipe σ vs ∧ tt σ2 H2 fun b H3 =>
        if b = true then tk σ2 H3 fun y H4 => tv σ2 H4 fun z H5 => ∃ kvs k, y = kV k ∧ H5 D = some (.dK kvs) ∧ kvs.length < sizeLine ∧ Nx (upd H5 D (.dK (putK kvs k z))) else Nx H3) := by
  refine ⟨fun i m H => m = n - i ∧ i ≤ n ∧ Pv i H, ⟨n, by simp, Nat.zero_le _, h0⟩, ?_⟩
  rintro i m H ⟨rfl, hi, p⟩
  by_cases hlt : i < n
  · refine .inr ⟨hlt, Pv (i + 1), fun H' p' => ⟨n - (i + 1), by omega, rfl, hlt, p'⟩, fun x H' y => ?_⟩
    obtain ⟨e, y⟩ := y
    subst e y
    exact hs i _ hlt p
  · have e : i = n := by omega
    subst e
    exact .inl ⟨Nat.le_refl _, hd H p⟩
/-- an error of a class is what an except clause of that class names -/
theorem exm_own {K : PySem.W.Frag} {S : Addr} (h1 : PySem.W.subIn K (.ref S) (.type "BaseException") = some true) (h2 : PySem.W.isClsIn K S = true) (h3 : PySem.W.typeIn K (.ref S) = some (.type "type")) (h4 : PySem.W.subIn K (.ref S) (.ref S) = some true) :
    PySem.W.exmOne K (.ref S) (.ref S) = some true := by
  have h2' : (PySem.W.clsIn K S).isSome = true := h2
  unfold PySem.W.exmOne
  simp only [h1, beq_self_eq_true, if_true]
  unfold PySem.W.kitCls
  simp only [h3, h4, h2', beq_self_eq_true, Bool.and_self, if_true]

/-! ### isinstance(e, C), e the error that the suite holds, with a dict of its own -/
/-- what the class D of the error says, so that it is asked rightly -/
structure AskC (K : PySem.W.Frag) (D : Addr) : Prop where
  cl : (PySem.W.clsIn K D).isSome = true
  xf : XfC K D
  ha : PySem.W.findIn K (.ref D) "__class__" = some (some (.builtin "object.__class__"))
  hn : PySem.W.specialIn K (.builtin "object.__class__") "__get__" = some (some (.builtin "getset_descriptor.__get__"))
  ht : PySem.W.takesIn K (.builtin "object.__class__") = some true
  hm : PySem.W.mroIn K D (.type "object") = some true
def rAsk (K : PySem.W.Frag) (D a : Addr) (cls : Value) (d : Option Addr) : List V → Hp → VK → Prop := fun xs H Q => ∃ (dd : Addr) (fs : List (Str × V)) (c : V) (cv : Value) (b : Bool), cls = .ref D ∧ d = some dd ∧ H dd = some (.xd fs) ∧ xs = [.ref a, c] ∧ (∀ u, RelV c u → u = cv) ∧ PySem.W.kitOne K (.ref D) cv = some b ∧ Q (.bl b) H
theorem call_ask {X : Cx} {a D : Addr} {oe : Obj} {cls : Value} {d : Option Addr} {pn : List (Addr × Obj)} (C : AskC X.K D) (hz : Zc cls d oe) (hf : ∃ vs, oe.data = .fields vs) : CallR (X.suite a ((a, oe) :: pn)) (.builtin "isinstance") (rAsk X.K D a cls d) := by
  intro pins s σ H xs us Q I r h
  obtain ⟨dd, fs, c, cv, b, ec, ed, ea, rfl, hcv, e, q⟩ := h
  obtain ⟨u1, u2, rfl, r1, r2⟩ := vals2 r
  cases r1
  cases hcv _ r2
  subst ec
  subst ed
  obtain ⟨hget, _⟩ := I.pin (a, oe) (List.mem_append_left _ List.mem_cons_self)
  obtain ⟨vs, hv⟩ := hf
  have hx : ObjOk X.prog X.w H s.heap dd (.xd fs) := I.hok dd _ ea
  obtain ⟨mA, hns, _⟩ := hx
  obtain ⟨od, ho, _⟩ := lookIn_ns hns
  have J : PySem.W.InstAt s.heap a oe D (some od) := ⟨hget, hz.1, by unfold PySem.W.notCls; rw [hv] <;> rfl, by rw [hz.2]; exact ho⟩
  exact PySem.W.kia_one (PySem.W.kitx_exc C.cl C.xf.ga C.xf.gg C.xf.exC C.ha C.hn C.ht C.hm) I.kIn J e (fun z => nomatch z) fun tk => ⟨.bl b, H, I.kept (t' := tk) fun _ _ z => z, rfl, q⟩

/-! ### lists of the same things -/
/-- l != l2, two lists of the very same things -/
def rNeSame (K : PySem.W.Frag) : R2 := fun x y H Q => ∃ (l l2 : Addr) (xs : List V), x = .ref l ∧ y = .ref l2 ∧ SqL K H l xs ∧ SqL K H l2 xs ∧ (∀ v ∈ xs, flatB v = true ∨ ∃ a, v = .ref a) ∧ Q (.bl false) H
theorem op_neSame {X : Cx} (hu : X.A.units + 64 < cLine) : OpR X (compareOp .NotEq) (rNeSame X.K) := by
  intro pins s σ H x y v u Q I rx ry h
  obtain ⟨l, l2, xs, rfl, rfl, h1, h2, hs, q⟩ := h
  cases rx
  cases ry
  obtain ⟨us, r1, p1, _⟩ := I.list h1
  obtain ⟨ws, r2, p2, _⟩ := I.list h2
  have n1 := r1.length
  have n2 := r2.length
  have hsz : us.toArray.size = ws.toArray.size := by
    rw [List.size_toArray, List.size_toArray]
    omega
  have key := SeqAt.RcNeAt.lists (A := X.A) (e := fun _ => true) p1.isList p2.isList hsz (by omega) (fun j h1 h2 => ?_)
  · refine key X.prog X.w _ _ ?_
    rw [show ((List.range us.toArray.size).all fun _ => true) = true from List.all_eq_true.mpr fun _ _ => rfl]
    exact ⟨.bl false, H, I, rfl, q⟩
  · have j1 : j < us.length := by simpa using h1
    have jx : j < xs.length := by omega
    obtain ⟨a, ea, ra⟩ := Vals.get r1 (List.getElem?_eq_getElem jx)
    obtain ⟨b, eb, rb⟩ := Vals.get r2 (List.getElem?_eq_getElem jx)
    have e1 : us.toArray[j] = a := by
      have := List.getElem?_eq_getElem j1
      rw [this] at ea
      simpa using Option.some.inj ea
    have e2 : ws.toArray[j] = b := by
      have j2 : j < ws.length := by omega
      have := List.getElem?_eq_getElem j2
      rw [this] at eb
      simpa using Option.some.inj eb
    rw [e1, e2]
    rcases hs _ (List.getElem_mem jx) with hf | ⟨p, hp⟩
    · exact eqAt_same ra rb hf
    · rw [hp] at ra rb
      cases ra
      cases rb
      exact SeqAt.EqAt.same _
/-- isinstance's answer by an own class that is the class itself or above it -/
theorem kit_own {K : PySem.W.Frag} {S C : Addr} (h2 : PySem.W.isClsIn K C = true) (h3 : PySem.W.typeIn K (.ref C) = some (.type "type")) (h4 : PySem.W.subIn K (.ref S) (.ref C) = some true) : PySem.W.kitOne K (.ref S) (.ref C) = some true := by
  have h2' : (PySem.W.clsIn K C).isSome = true := h2
  unfold PySem.W.kitOne
  split
  · rfl
  · unfold PySem.W.kitCls
    simp only [h3, h4, h2', beq_self_eq_true, Bool.and_self, if_true]
end OF
/-! Rows as texts: what read_row makes of a text. -/
namespace OF
open PySem PySem.Spec PyProof.Rows L2 TL
/-- the texts of the digits, with their digits -/
def digL : List (Key × V) := (List.range 19).map fun (i : Nat) => (Sum.inr (Str.ofString (toString ((-9 : Int) + (i : Int)))), V.int ((-9 : Int) + (i : Int)))
theorem digL_put : ∀ i : Nat, i < 19 → putK (digL.take i) (Sum.inr (Str.ofString (toString ((-9 : Int) + (i : Int))))) (V.int ((-9 : Int) + (i : Int))) = digL.take (i + 1) := by decide +kernel
theorem digL_all : digL.take 19 = digL := by decide +kernel
/-- the digit that a word is -/
def digV (w : Str) : Option V := valV digL (Sum.inr w)
/-- the digits that words are -/
def rowOf (ws : List Str) : Option (List V) := if ws.all (fun w => (digV w).isSome) = true then some (ws.map fun w => (digV w).getD .non) else none
/-- the row whose text it is -/
def readV (z : Str) : Option (List V) := if z = Str.ofString "." then some [] else rowOf (Txt.split z (Str.ofString " "))
/-- a value of a kind that is no text -/
inductive NoStr (H : Hp) : V → Prop
  | non : NoStr H .non
  | bl (b : Bool) : NoStr H (.bl b)
  | int (i : Int) : NoStr H (.int i)
  | lst {a : Addr} {xs : List V} (e : H a = some (.lst xs)) : NoStr H (.ref a)
  | tup {a : Addr} {xs : List V} (e : H a = some (.tup xs)) : NoStr H (.ref a)
  | dK {a : Addr} {kvs : List (Key × V)} (e : H a = some (.dK kvs)) : NoStr H (.ref a)
theorem NoStr.kit {K : PySem.W.Frag} {H : Hp} {x : V} (h : NoStr H x) : ∃ t : Value, TyX K H x t ∧ PySem.W.kitOne K t (.type "str") = some false := by
  cases h with
  | non => exact ⟨_, .base .non, kit_ty (by decide +kernel)⟩
  | bl b => exact ⟨_, .base (.bl b), kit_ty (by decide +kernel)⟩
  | int z => exact ⟨_, .base (.int z), kit_ty (by decide +kernel)⟩
  | lst e => exact ⟨_, .base (.lst e), kit_ty (by decide +kernel)⟩
  | tup e => exact ⟨_, .base (.tup e), kit_ty (by decide +kernel)⟩
  | dK e => exact ⟨_, .base (.dK e), kit_ty (by decide +kernel)⟩
theorem NoStr.same {H H' : Hp} {x : V} (h : NoStr H x) (s : Same H H') : NoStr H' x := by
  cases h with
  | non => exact .non
  | bl b => exact .bl b
  | int z => exact .int z
  | lst e => exact .lst (s _ _ e)
  | tup e => exact .tup (s _ _ e)
  | dK e => exact .dK (s _ _ e)
/-- read_row: the row, or an error with the very value -/
def spRead (C : Addr) : Sp := fun vs H Q E => ∃ x : V, vs = [x] ∧
  ((∃ z : Str, x = .str z ∧ z.length ≤ 100000 ∧ (∀ ds, readV z = some ds → ∀ p H', H p = none → Same H H' → H' p = some (.tup ds) → Q (.ref p) H') ∧ (readV z = none → Raised C "text" (.str z) H E)) ∨
    (NoStr H x ∧ Raised C "text" x H E))
theorem take_more {α : Type} : ∀ {l : List α} {i : Nat} {x : α}, l[i]? = some x → l.take (i + 1) = l.take i ++ [x]
  | [], i, x, h => by simp at h
  | a :: l, 0, x, h => by
    have e : a = x := Option.some.inj h
    subst e
    rfl
  | a :: l, i + 1, x, h => by
    have ih := take_more (l := l) (i := i) (x := x) h
    show a :: l.take (i + 1) = a :: l.take i ++ [x]
    rw [ih]
    rfl
theorem get_map {α β : Type} {f : α → β} {l : List α} {i : Nat} {y : β} (h : (l.map f)[i]? = some y) : ∃ x, l[i]? = some x ∧ y = f x := by
  rw [List.getElem?_map] at h
  cases e : l[i]? with
  | none => rw [e] at h; cases h
  | some x => rw [e] at h; exact ⟨x, rfl, (Option.some.inj h).symm⟩
theorem log_le {n : Int} (h : n.natAbs ≤ 1000) : n.natAbs.log2 < 1920 := Nat.lt_of_le_of_lt (Nat.log2_le_self _) (by omega)
theorem vals_signs : ∀ (L : List Nat) (l : List Value), l.length = L.length → (∀ (j : Nat) (v : Value), l[j]? = some v → ∃ (c : Nat) (u : Tok), L[j]? = some c ∧ v = Value.str ⟨#[c]⟩ u) → Vals (L.map fun c => V.str ⟨#[c]⟩) l
  | [], [], _, _ => .nil
  | c :: L, v :: l, hl, h => by
    obtain ⟨c', u, e1, e2⟩ := h 0 v rfl
    cases (show c = c' from Option.some.inj e1)
    exact .cons ⟨u, e2⟩ (vals_signs L l (Nat.succ.inj hl) fun j w hw => h (j + 1) w hw)
/-- list(text) -/
theorem call_list_signs {X : Cx} (hc : X.calm = true) : CallR X (.type "list") (fun xs H Q => ∃ z : Str, xs = [.str z] ∧ z.length ≤ sizeLine ∧ ∀ l, H l = none → Q (.ref l) (upd H l (.lst ((tl z).map fun c => V.str ⟨#[c]⟩)))) := by
  intro pins s σ H xs us Q I r h
  obtain ⟨z, rfl, hz, q⟩ := h
  obtain ⟨u, rfl, t, rfl⟩ := vals1 r
  refine PySem.call_list_str (I.ok.hd hc) z t (fun h' tk acc' c' hk hS' hacc => ?_) (by exact hz)
  have hl : acc'.toList.length = (tl z).length := by
    rw [Array.length_toList, hacc.1]
    rfl
  refine ⟨.ref s.heap.objs.size, _, I.laid (t' := tk) hk (Nat.le_refl _) (show ObjOk X.prog X.w _ h' _ (.lst ((tl z).map fun c => V.str ⟨#[c]⟩)) from ⟨?_, acc'.toList, c', ?_, ?_⟩), rfl, q _ (I.hok.fresh (Nat.le_refl _))⟩
  · rw [List.length_map, ← len_tl]
    exact hz
  · refine vals_signs _ _ hl fun j v hv => ?_
    obtain ⟨c, u, e1, e2⟩ := hacc.2 j v (by rw [← Array.getElem?_toList]; exact hv)
    exact ⟨c, u, by rw [Array.getElem?_toList]; exact e1, e2⟩
  · rw [Array.toArray_toList]
    exact hS'

/-! ### a word as the law reads it -/
def sgB (w : Str) : Bool := decide (V.str (cutS w none (some 1)) = V.str (Str.ofString "-"))
def sgI (w : Str) : Int := if sgB w then 1 else 0
def restS (w : Str) : Str := cutS w (some (sgI w)) none
def figs : List V := (tl (Str.ofString "0123456789")).map fun c => V.str ⟨#[c]⟩
def figVal (w : Str) : Int := Txt.find (Str.ofString "0123456789") (restS w) * (1 - 2 * sgI w)
theorem digV_is {w : Str} {v : V} (h : digV w = some v) : ∃ i : Nat, i < 19 ∧ w = Str.ofString (toString ((-9 : Int) + (i : Int))) ∧ v = V.int ((-9 : Int) + (i : Int)) := by
  unfold digV valV digL at h
  rw [List.find?_map] at h
  cases e : List.find? ((fun kv : Key × V => decide (kv.1 = Sum.inr w)) ∘ fun (i : Nat) => ((Sum.inr (Str.ofString (toString ((-9 : Int) + (i : Int)))), V.int ((-9 : Int) + (i : Int))) : Key × V)) (List.range 19) with
  | none => rw [e] at h; cases h
  | some i =>
    rw [e] at h
    have p := List.find?_some e
    have m := List.mem_of_find?_eq_some e
    refine ⟨i, List.mem_range.mp m, ?_, (Option.some.inj h).symm⟩
    exact (Sum.inr.inj (of_decide_eq_true p)).symm
theorem digs_ok : ∀ i : Nat, i < 19 → inV (.str (restS (Str.ofString (toString ((-9 : Int) + (i : Int)))))) figs = true ∧ decide (V.str (Str.ofString (toString ((-9 : Int) + (i : Int)))) = V.str (Str.ofString "-0")) = false ∧
    figVal (Str.ofString (toString ((-9 : Int) + (i : Int)))) = (-9 : Int) + (i : Int) := by decide +kernel
theorem word_some {w : Str} {v : V} (h : digV w = some v) : inV (.str (restS w)) figs = true ∧ decide (V.str w = V.str (Str.ofString "-0")) = false ∧ v = V.int (figVal w) := by
  obtain ⟨i, hi, rfl, rfl⟩ := digV_is h
  obtain ⟨h1, h2, h3⟩ := digs_ok i hi
  exact ⟨h1, h2, by rw [h3]⟩
theorem figs_words : ∀ c ∈ tl (Str.ofString "0123456789"), (digV ⟨#[c]⟩).isSome = true ∧ ((digV (⟨(45 :: [c]).toArray⟩ : Str)).isSome = true ∨ (⟨(45 :: [c]).toArray⟩ : Str) = Str.ofString "-0") := by decide +kernel
theorem cut_rest {w : Str} (h : sgB w = true) : tl w = 45 :: tl (cutS w (some 1) none) := by
  have e : cutS w none (some 1) = Str.ofString "-" := V.str.inj (of_decide_eq_true h)
  have e2 : tl (cutS w none (some 1)) = [45] := by rw [e]; decide +kernel
  have hL : ∀ lo hi, tl (cutS w lo hi) = ((tl w).drop (HT.sIx w.length 0 lo)).take (HT.sIx w.length w.length hi - HT.sIx w.length 0 lo) := fun lo hi => by
    unfold cutS
    exact List.toList_toArray ..
  rw [hL] at e2 ⊢
  rw [HT.sIx_none, show HT.sIx w.length w.length (some 1) = min 1 w.length from HT.sIx_nat w.length w.length 1] at e2
  rw [HT.sIx_none, show HT.sIx w.length 0 (some 1) = min 1 w.length from HT.sIx_nat w.length 0 1]
  have el := len_tl w
  cases hw : tl w with
  | nil => rw [hw] at e2; simp at e2
  | cons a r =>
    rw [hw] at e2 el
    have : min 1 w.length = 1 := by rw [el, List.length_cons]; omega
    rw [this] at e2 ⊢
    have ea : a = 45 := by simpa using e2
    rw [ea, el]
    simp
theorem cut_all {w : Str} (h : sgB w = false) : restS w = w := by
  unfold restS sgI
  rw [h]
  unfold cutS
  rw [show HT.sIx w.length 0 (some (if false = true then (1 : Int) else 0)) = min 0 w.length from HT.sIx_nat w.length 0 0, HT.sIx_none, Nat.zero_min, List.drop_zero, Nat.sub_zero]
  rw [List.take_of_length_le (by rw [← len_tl]; exact Nat.le_refl _)]
theorem word_none {w : Str} (h : digV w = none) : inV (.str (restS w)) figs = false ∨ decide (V.str w = V.str (Str.ofString "-0")) = true := by
  cases hi : inV (.str (restS w)) figs with
  | false => exact .inl rfl
  | true =>
    right
    unfold inV figs at hi
    obtain ⟨y, hy, e⟩ := List.any_eq_true.mp hi
    obtain ⟨c, hc, rfl⟩ := List.mem_map.mp hy
    have er : restS w = ⟨#[c]⟩ := by
      have : (⟨#[c]⟩ : Str) = restS w := by simpa [eqV] using e
      exact this.symm
    obtain ⟨h1, h2⟩ := figs_words c hc
    cases hs : sgB w with
    | false =>
      rw [cut_all hs] at er
      rw [er] at h
      rw [h] at h1
      cases h1
    | true =>
      have e1 := cut_rest hs
      have e3 : restS w = cutS w (some 1) none := by
        unfold restS sgI
        rw [hs]
        rfl
      have ew : w = (⟨(45 :: [c]).toArray⟩ : Str) := by
        rw [← mk_tl w, e1, ← e3, er]
      rcases h2 with h2 | h2
      · rw [← ew, h] at h2
        cases h2
      · exact decide_eq_true (congrArg V.str (ew.trans h2))

/-! ### texts of few and plain signs -/
def TOk (n : Nat) (z : Str) : Prop := (tl z).length ≤ n ∧ ∀ c ∈ tl z, c < 1114112
theorem TOk.mono {n m : Nat} {z : Str} (h : TOk n z) (hm : n ≤ m) : TOk m z := ⟨Nat.le_trans h.1 hm, h.2⟩
theorem TOk.len {n : Nat} {z : Str} (h : TOk n z) : z.length ≤ n := by rw [len_tl]; exact h.1
theorem TOk.ok {n : Nat} {z : Str} (h : TOk n z) : PyData.strOk z = true := by
  unfold PyData.strOk
  rw [Array.all_eq_true']
  intro c hc
  exact decide_eq_true (h.2 c (by show c ∈ z.cps.toList; exact Array.mem_toList_iff.mpr hc))
theorem tl_cut (w : Str) (lo hi : Option Int) : tl (cutS w lo hi) = ((tl w).drop (HT.sIx w.length 0 lo)).take (HT.sIx w.length w.length hi - HT.sIx w.length 0 lo) := by
  unfold cutS
  exact List.toList_toArray ..
theorem TOk.cut {n : Nat} {z : Str} (h : TOk n z) (lo hi : Option Int) : TOk n (cutS z lo hi) := by
  unfold TOk
  rw [tl_cut]
  refine ⟨?_, fun c hc => h.2 c (List.mem_of_mem_drop (List.mem_of_mem_take hc))⟩
  refine Nat.le_trans (List.length_take_le' _ _) ?_
  rw [List.length_drop]
  exact Nat.le_trans (Nat.sub_le _ _) h.1
theorem TOk.app {n m : Nat} {x y : Str} (h : TOk n x) (k : TOk m y) : TOk (n + m) (x ++ y) := by
  unfold TOk
  rw [tl_append, List.length_append]
  refine ⟨Nat.add_le_add h.1 k.1, fun c hc => ?_⟩
  rcases List.mem_append.mp hc with hc | hc
  · exact h.2 c hc
  · exact k.2 c hc
theorem in_join {S : List Nat} : ∀ {ps : List (List Nat)} {p : List Nat}, p ∈ ps → p.length ≤ (joinL S ps).length ∧ ∀ c ∈ p, c ∈ joinL S ps
  | [q], p, h => by
    cases List.mem_singleton.mp h
    exact ⟨Nat.le_refl _, fun c hc => hc⟩
  | q :: r :: ps, p, h => by
    have e : joinL S (q :: r :: ps) = q ++ (S ++ joinL S (r :: ps)) := rfl
    rw [e]
    rcases List.mem_cons.mp h with h | h
    · rw [h]
      refine ⟨?_, fun c hc => List.mem_append_left _ hc⟩
      rw [List.length_append]
      omega
    · obtain ⟨h1, h2⟩ := in_join (S := S) h
      refine ⟨?_, fun c hc => List.mem_append_right _ (List.mem_append_right _ (h2 c hc))⟩
      rw [List.length_append, List.length_append]
      omega
theorem join_in {S : List Nat} {P : Nat → Prop} (hS : ∀ c ∈ S, P c) : ∀ {ps : List (List Nat)} {n : Nat}, (∀ p ∈ ps, p.length ≤ n ∧ ∀ c ∈ p, P c) → (joinL S ps).length ≤ ps.length * (n + S.length) ∧ ∀ c ∈ joinL S ps, P c
  | [], n, _ => ⟨Nat.zero_le _, fun c hc => by cases hc⟩
  | [q], n, h => by
    obtain ⟨h1, h2⟩ := h q (List.mem_singleton.mpr rfl)
    refine ⟨?_, h2⟩
    show q.length ≤ 1 * (n + S.length)
    omega
  | q :: r :: ps, n, h => by
    obtain ⟨h1, h2⟩ := h q (List.mem_cons_self ..)
    obtain ⟨h3, h4⟩ := join_in hS (ps := r :: ps) (n := n) fun p hp => h p (List.mem_cons_of_mem _ hp)
    have e : joinL S (q :: r :: ps) = q ++ (S ++ joinL S (r :: ps)) := rfl
    rw [e]
    refine ⟨?_, fun c hc => ?_⟩
    · rw [List.length_append, List.length_append, List.length_cons, Nat.succ_mul]
      omega
    · rcases List.mem_append.mp hc with hc | hc
      · exact h2 c hc
      · rcases List.mem_append.mp hc with hc | hc
        · exact hS c hc
        · exact h4 c hc
theorem TOk.parts {n : Nat} {z y : Str} (h : TOk n z) : ∀ w ∈ Txt.split z y, TOk n w := fun w hw => by
  have e := StrLaws.join_split z y
  have e2 := tl_join y (Txt.split z y)
  rw [e] at e2
  obtain ⟨h1, h2⟩ := in_join (S := tl y) (ps := (Txt.split z y).map tl) (List.mem_map.mpr ⟨w, hw, rfl⟩)
  rw [← e2] at h1 h2
  exact ⟨Nat.le_trans h1 h.1, fun c hc => h.2 c (h2 c hc)⟩
theorem TOk.join {n m : Nat} {y : Str} {ps : List Str} (hy : TOk m y) (h : ∀ p ∈ ps, TOk n p) : TOk (ps.length * (n + m)) (Txt.join y ps) := by
  rw [TL.join_eq]
  unfold TOk
  rw [tl_join]
  obtain ⟨h1, h2⟩ := join_in (S := tl y) (P := fun c => c < 1114112) hy.2 (ps := ps.map tl) (n := n) fun p hp => by
    obtain ⟨w, hw, rfl⟩ := List.mem_map.mp hp
    exact h w hw
  refine ⟨Nat.le_trans h1 ?_, h2⟩
  rw [List.length_map]
  exact Nat.mul_le_mul_left _ (Nat.add_le_add_left hy.1 _)
theorem sum_len {n : Nat} : ∀ {ps : List Str}, (∀ p ∈ ps, TOk n p) → (ps.map (·.length)).sum ≤ ps.length * n
  | [], _ => Nat.zero_le _
  | p :: ps, h => by
    have h1 := (h p (List.mem_cons_self ..)).len
    have h2 := sum_len (ps := ps) fun q hq => h q (List.mem_cons_of_mem _ hq)
    rw [List.map_cons, List.sum_cons, List.length_cons, Nat.succ_mul]
    omega
theorem join_pos {y : Str} {ps : List Str} {p : Str} (hp : p ∈ ps) (h : 1 ≤ p.length) : 1 ≤ (Txt.join y ps).length := by
  rw [TL.join_eq, len_tl, tl_join]
  have h1 := (in_join (S := tl y) (ps := ps.map tl) (List.mem_map.mpr ⟨p, hp, rfl⟩)).1
  rw [← len_tl] at h1
  omega
instance (n : Nat) (z : Str) : Decidable (TOk n z) := inferInstanceAs (Decidable (_ ∧ _))
theorem digit_texts : ∀ i : Nat, i < 19 → TOk 2 (Str.ofString (toString ((-9 : Int) + (i : Int)))) ∧ 1 ≤ (Str.ofString (toString ((-9 : Int) + (i : Int)))).length := by decide +kernel
/-- text data that may be compared -/
theorem shaped_str {z : Str} (h : PyData.strOk z = true) : SeqAt.shaped (.str z) = true := by
  unfold SeqAt.shaped
  rw [show PyData.canLay0 (.str z) = PyData.strOk z by simp only [PyData.canLay0], h]
  rfl

/-! ### data that may be compared -/
theorem dp_ints {K : PySem.W.Frag} {H : Hp} : ∀ is : List Int, DpAll K H (is.map V.int) (is.map PyData.int)
  | [] => .nil
  | i :: is => .cons (.int i) (dp_ints is)
theorem can_ints : ∀ is : List Int, PyData.canLayAll0 (is.map PyData.int) = true
  | [] => by simp only [List.map_nil, PyData.canLayAll0]
  | i :: is => by
    rw [List.map_cons, PyData.canLayAll0, can_ints is]
    simp only [PyData.canLay0, Bool.and_true]
theorem dep_ints : ∀ is : List Int, PyData.depthAll (is.map PyData.int) = 0
  | [] => by simp only [List.map_nil, PyData.depthAll]
  | i :: is => by
    rw [List.map_cons, PyData.depthAll, dep_ints is]
    simp only [PyData.depth, Nat.max_self]
theorem shaped_of {d : PyData} (h : d.canLay0 = true) (k : d.depth ≤ 64) : SeqAt.shaped d = true := by
  unfold SeqAt.shaped
  rw [h, decide_eq_true k]
  rfl
theorem can_pair {z : Str} {d : PyData} (hz : PyData.strOk z = true) (hd : d.canLay0 = true) : (PyData.list [.str z, d]).canLay0 = true := by
  simp only [PyData.canLay0, PyData.canLayAll0, hz, hd, Bool.and_true]
theorem dep_pair {z : Str} {d : PyData} {n : Nat} (hd : d.depth ≤ n) : (PyData.list [.str z, d]).depth ≤ n + 1 := by
  simp only [PyData.depth, PyData.depthAll]
  omega
/-- the item's own data: what stands at it reads so, whatever is made later -/
structure DatOf (K : PySem.W.Frag) (H : Hp) (x : V) (d : PyData) : Prop where
  dp : ∀ H', Same H H' → Dp K H' x d
  can : d.canLay0 = true
  dep : d.depth ≤ 10
theorem DatOf.same {K : PySem.W.Frag} {H H1 : Hp} {x : V} {d : PyData} (h : DatOf K H x d) (s : Same H H1) : DatOf K H1 x d := ⟨fun H' s' => h.dp H' (s.trans s'), h.can, h.dep⟩
theorem DatOf.str {K : PySem.W.Frag} {H : Hp} {z : Str} (hz : PyData.strOk z = true) : DatOf K H (.str z) (.str z) := ⟨fun _ _ => .str z, by simp only [PyData.canLay0, hz], by simp only [PyData.depth]; omega⟩
theorem DatOf.non {K : PySem.W.Frag} {H : Hp} : DatOf K H .non .none := ⟨fun _ _ => .non, by simp only [PyData.canLay0], by simp only [PyData.depth]; omega⟩
theorem DatOf.bl {K : PySem.W.Frag} {H : Hp} {b : Bool} : DatOf K H (.bl b) (.bool b) := ⟨fun _ _ => .bl b, by simp only [PyData.canLay0], by simp only [PyData.depth]; omega⟩
theorem DatOf.int {K : PySem.W.Frag} {H : Hp} {i : Int} : DatOf K H (.int i) (.int i) := ⟨fun _ _ => .int i, by simp only [PyData.canLay0], by simp only [PyData.depth]; omega⟩
theorem DatOf.tup {K : PySem.W.Frag} {H : Hp} {p : Addr} {is : List Int} (e : H p = some (.tup (is.map V.int))) : DatOf K H (.ref p) (.tuple (is.map PyData.int)) :=
  ⟨fun _ s => .tup (SqT.of (s _ _ e)) (dp_ints is), by simp only [PyData.canLay0, can_ints], by simp only [PyData.depth, dep_ints]; omega⟩
theorem DatOf.lst1 {K : PySem.W.Frag} {H : Hp} {p : Addr} {z : Str} (hz : PyData.strOk z = true) (e : H p = some (.lst [.str z])) : DatOf K H (.ref p) (.list [.str z]) :=
  ⟨fun _ s => .lst (SqL.of (s _ _ e)) (.cons (.str z) .nil), by simp only [PyData.canLay0, PyData.canLayAll0, hz, Bool.and_true], by simp only [PyData.depth, PyData.depthAll]; omega⟩
/-- two lists of a word and the same thing: equal -/
theorem pair_eqv {z : Str} {d : PyData} (hz : PyData.strOk z = true) (hd : d.canLay0 = true) : PyData.eqv (.list [.str z, d]) (.list [.str z, d]) = true := SeqAt.eqv_refl _ (can_pair hz hd)
theorem pair_ne {K : PySem.W.Frag} {H : Hp} {l l2 : Addr} {z : Str} {x y : V} {d : PyData} {Q : V → Hp → Prop} (hz : PyData.strOk z = true) (e1 : H l = some (.lst [.str z, x])) (e2 : H l2 = some (.lst [.str z, y])) (h1 : Dp K H x d) (h2 : Dp K H y d) (hc : d.canLay0 = true) (hd : d.depth ≤ 10)
    (q : Q (.bl false) H) : rNeD K (.ref l) (.ref l2) H Q := by
  have sh := shaped_of (can_pair hz hc) (Nat.le_trans (dep_pair hd) (by decide))
  refine ⟨_, _, Dp.lst (SqL.of e1) (.cons (.str z) (.cons h1 .nil)), Dp.lst (SqL.of e2) (.cons (.str z) (.cons h2 .nil)), sh, sh, ?_⟩
  rw [pair_eqv hz hc]
  exact q
theorem pair_eq {K : PySem.W.Frag} {H : Hp} {l l2 : Addr} {z : Str} {x y : V} {d : PyData} {Q : V → Hp → Prop} (hz : PyData.strOk z = true) (e1 : H l = some (.lst [.str z, x])) (e2 : H l2 = some (.lst [.str z, y])) (h1 : Dp K H x d) (h2 : Dp K H y d) (hc : d.canLay0 = true) (hd : d.depth ≤ 10)
    (q : Q (.bl true) H) : rEqD K (.ref l) (.ref l2) H Q := by
  have sh := shaped_of (can_pair hz hc) (Nat.le_trans (dep_pair hd) (by decide))
  refine ⟨_, _, Dp.lst (SqL.of e1) (.cons (.str z) (.cons h1 .nil)), Dp.lst (SqL.of e2) (.cons (.str z) (.cons h2 .nil)), sh, sh, ?_⟩
  rw [pair_eqv hz hc]
  exact q
/-- the digits of a text are ints -/
theorem readV_ints {z : Str} {ds : List V} (h : readV z = some ds) : ∃ is : List Int, ds = is.map V.int := by
  unfold readV at h
  split at h
  · cases Option.some.inj h
    exact ⟨[], rfl⟩
  · unfold rowOf at h
    split at h
    · rename_i hall
      have e := Option.some.inj h
      refine ⟨(Txt.split z (Str.ofString " ")).map fun w => match digV w with | some (.int i) => i | _ => 0, ?_⟩
      rw [← e, List.map_map]
      refine List.map_congr_left fun w hw => ?_
      have hs := List.all_eq_true.mp hall w hw
      obtain ⟨v, hv⟩ := Option.isSome_iff_exists.mp hs
      obtain ⟨i, _, _, rfl⟩ := digV_is hv
      simp only [Function.comp, hv, Option.getD_some]
    · cases h
theorem read_empty : readV (Str.ofString "") = none := by decide +kernel
theorem read_dot : readV (Str.ofString ".") = some [] := by decide +kernel
/-- two ways, heaps behind them of their own, one rest -/
theorem iteDupH {c : Bool} {A B : Prop} {G : Hp} {S : Hp → Prop} (f : (∀ H', Same G H' → S H') → c = true → A) (g : (∀ H', Same G H' → S H') → c = false → B) (r : ∀ H', Same G H' → S H') : if c = true then A else B := by
  cases c with
  | true => exact iteT (f r rfl)
  | false => exact iteF (g r rfl)

/-! ### rows as texts -/
/-- a value of a kind that is no tuple -/
inductive NoTup (H : Hp) : V → Prop
  | non : NoTup H .non
  | bl (b : Bool) : NoTup H (.bl b)
  | int (i : Int) : NoTup H (.int i)
  | str (z : Str) : NoTup H (.str z)
  | lst {a : Addr} {xs : List V} (e : H a = some (.lst xs)) : NoTup H (.ref a)
  | dK {a : Addr} {kvs : List (Key × V)} (e : H a = some (.dK kvs)) : NoTup H (.ref a)
theorem NoTup.kit {K : PySem.W.Frag} {H : Hp} {x : V} (h : NoTup H x) : ∃ t : Value, TyX K H x t ∧ PySem.W.kitOne K t (.type "tuple") = some false := by
  cases h with
  | non => exact ⟨_, .base .non, kit_ty (by decide +kernel)⟩
  | bl b => exact ⟨_, .base (.bl b), kit_ty (by decide +kernel)⟩
  | int z => exact ⟨_, .base (.int z), kit_ty (by decide +kernel)⟩
  | str z => exact ⟨_, .base (.str z), kit_ty (by decide +kernel)⟩
  | lst e => exact ⟨_, .base (.lst e), kit_ty (by decide +kernel)⟩
  | dK e => exact ⟨_, .base (.dK e), kit_ty (by decide +kernel)⟩
theorem NoTup.same {H H' : Hp} {x : V} (h : NoTup H x) (s : Same H H') : NoTup H' x := by
  cases h with
  | non => exact .non
  | bl b => exact .bl b
  | int z => exact .int z
  | str z => exact .str z
  | lst e => exact .lst (s _ _ e)
  | dK e => exact .dK (s _ _ e)
/-- an int, or a value of another kind -/
def IntOdd (H : Hp) (x : V) : Prop := (∃ n : Int, x = .int n) ∨ Odd H x
theorem IntOdd.same {H H' : Hp} {x : V} (h : IntOdd H x) (s : Same H H') : IntOdd H' x := by
  rcases h with h | h
  · exact .inl h
  · exact .inr (h.same s)
def digI (n : Int) : Bool := decide (-9 ≤ n) && decide (n ≤ 9)
/-- a digit -/
def digB : V → Bool
  | .int n => digI n
  | _ => false
theorem digB_odd {H : Hp} {x : V} (h : Odd H x) : digB x = false := by cases h <;> rfl
theorem digs_ints : ∀ {xs : List V}, xs.all digB = true → ∃ is : List Int, xs = is.map V.int ∧ ∀ i ∈ is, -9 ≤ i ∧ i ≤ 9
  | [], _ => ⟨[], rfl, fun i h => by cases h⟩
  | x :: xs, h => by
    rw [List.all_cons, Bool.and_eq_true] at h
    obtain ⟨is, e, k⟩ := digs_ints h.2
    cases x with
    | int n =>
      have h1 : digI n = true := h.1
      unfold digI at h1
      rw [Bool.and_eq_true, decide_eq_true_eq, decide_eq_true_eq] at h1
      refine ⟨n :: is, by rw [e]; rfl, fun i hi => ?_⟩
      rcases List.mem_cons.mp hi with hi | hi
      · rw [hi]; exact h1
      · exact k i hi
    | non => exact absurd h.1 Bool.false_ne_true
    | bl b => exact absurd h.1 Bool.false_ne_true
    | str z => exact absurd h.1 Bool.false_ne_true
    | byt z => exact absurd h.1 Bool.false_ne_true
    | flt z => exact absurd h.1 Bool.false_ne_true
    | ref a => exact absurd h.1 Bool.false_ne_true
    | ty n => exact absurd h.1 Bool.false_ne_true
theorem ints_digs {is : List Int} (h : ∀ i ∈ is, -9 ≤ i ∧ i ≤ 9) : (is.map V.int).all digB = true := by
  rw [List.all_map]
  refine List.all_eq_true.mpr fun i hi => ?_
  obtain ⟨h1, h2⟩ := h i hi
  show digI i = true
  unfold digI
  rw [decide_eq_true h1, decide_eq_true h2]
  rfl
/-- the text of a digit -/
def strI (i : Int) : Str := Str.ofString (toString i)
theorem strI_ok {i : Int} (h : -9 ≤ i ∧ i ≤ 9) : TOk 2 (strI i) ∧ 1 ≤ (strI i).length := by
  obtain ⟨h1, h2⟩ := h
  have e : i = (-9 : Int) + (((i + 9).toNat : Nat) : Int) := by omega
  have := digit_texts (i + 9).toNat (by omega)
  rw [← e] at this
  exact this
theorem digV_all : ∀ k : Nat, k < 19 → digV (Str.ofString (toString ((-9 : Int) + (k : Int)))) = some (V.int ((-9 : Int) + (k : Int))) ∧ (32 : Nat) ∉ tl (Str.ofString (toString ((-9 : Int) + (k : Int)))) ∧ Str.ofString (toString ((-9 : Int) + (k : Int))) ≠ Str.ofString "." ∧ (46 : Nat) ∉ tl (Str.ofString (toString ((-9 : Int) + (k : Int)))) := by decide +kernel
theorem digV_of {i : Int} (h : -9 ≤ i ∧ i ≤ 9) : digV (strI i) = some (V.int i) ∧ (32 : Nat) ∉ tl (strI i) ∧ (46 : Nat) ∉ tl (strI i) := by
  obtain ⟨h1, h2⟩ := h
  have e : i = (-9 : Int) + (((i + 9).toNat : Nat) : Int) := by omega
  obtain ⟨k1, k2, _, k4⟩ := digV_all (i + 9).toNat (by omega)
  rw [← e] at k1 k2 k4
  exact ⟨k1, k2, k4⟩
/-- the text of a row -/
def textOf (is : List Int) : Str := if is = [] then Str.ofString "." else Txt.join (Str.ofString " ") (is.map strI)
theorem textOf_ok {is : List Int} (h : ∀ i ∈ is, -9 ≤ i ∧ i ≤ 9) (hl : is.length ≤ 200) : TOk 600 (textOf is) := by
  unfold textOf
  split
  · decide +kernel
  · refine (TOk.join blankOk (n := 2) fun p hp => ?_).mono ?_
    · obtain ⟨i, hi, rfl⟩ := List.mem_map.mp hp
      exact (strI_ok (h i hi)).1
    · rw [List.length_map]
      omega
where blankOk : TOk 1 (Str.ofString " ") := by decide +kernel
theorem not_dot {is : List Int} (h : ∀ i ∈ is, -9 ≤ i ∧ i ≤ 9) (hn : is ≠ []) : Txt.join (Str.ofString " ") (is.map strI) ≠ Str.ofString "." := fun e => by
  cases is with
  | nil => exact hn rfl
  | cons i r =>
    have hp : strI i ∈ (i :: r).map strI := List.mem_map.mpr ⟨i, List.mem_cons_self .., rfl⟩
    have hi := h i (List.mem_cons_self ..)
    have h2 := (in_join (S := tl (Str.ofString " ")) (ps := ((i :: r).map strI).map tl) (List.mem_map.mpr ⟨_, hp, rfl⟩)).2
    have e2 := congrArg tl e
    rw [TL.join_eq, tl_join] at e2
    rw [e2] at h2
    have hpos := (strI_ok hi).2
    rw [len_tl] at hpos
    cases hs : tl (strI i) with
    | nil => rw [hs] at hpos; exact absurd hpos (by decide)
    | cons c cs =>
      have hc := h2 c (by rw [hs]; exact List.mem_cons_self ..)
      have : c = 46 := by
        have e3 : tl (Str.ofString ".") = [46] := by decide +kernel
        rw [e3] at hc
        exact List.mem_singleton.mp hc
      exact (digV_of hi).2.2 (by rw [hs, this]; exact List.mem_cons_self ..)
/-- a row's text is read as the row -/
theorem read_text {is : List Int} (h : ∀ i ∈ is, -9 ≤ i ∧ i ≤ 9) : readV (textOf is) = some (is.map V.int) := by
  unfold textOf
  by_cases hn : is = []
  · rw [if_pos hn, hn]
    exact read_dot
  · rw [if_neg hn]
    unfold readV
    rw [if_neg (not_dot h hn)]
    have e : Txt.split (Txt.join (Str.ofString " ") (is.map strI)) (Str.ofString " ") = is.map strI := by
      refine TL.split_join (s := 32) (S := []) (by decide +kernel) (by decide +kernel) (fun z => hn (List.map_eq_nil_iff.mp z)) fun p hp => ?_
      obtain ⟨i, hi, rfl⟩ := List.mem_map.mp hp
      exact (digV_of (h i hi)).2.1
    rw [e]
    unfold rowOf
    rw [if_pos]
    · rw [List.map_map]
      congr 1
      refine List.map_congr_left fun i hi => ?_
      show (digV (strI i)).getD .non = V.int i
      rw [(digV_of (h i hi)).1]
      rfl
    · rw [List.all_map]
      refine List.all_eq_true.mpr fun i hi => ?_
      show (digV (strI i)).isSome = true
      rw [(digV_of (h i hi)).1]
      rfl
end OF
/-! Defs that are promised only where no repr is under way, the law among them; repr of lists. -/
namespace OF
open PySem PySem.Spec PyProof.Rows L2

/-! ### promises where no repr is under way -/
structure FnG (P : Program) (w : World) (K : PySem.W.Frag) (mg : Str → Option Value) (base : Heap) (n : Nat) (f : Addr) (fd : FuncData) (ps : List Str) (sp : Sp) : Prop where
  len : ∀ vs H Q E, sp vs H Q E → vs.length = ps.length
  go : ∀ (A : Around) (fr : List Env) (s : Shared) (H : Hp) (ar : Args) (us : List Value) (vs : List V) (Q : VK) (E : XK), A.guards = some [] → Room n A → Env0 P w K mg base A fr s H → BindsTo s fd ar (ps.zip us) → Vals vs us → sp vs H Q E →
    codeAny (model P w) A (.call (.ref f) ar) (CR CX0 fr P w H s Q E) s
section
variable {P : Program} {w : World} {K : PySem.W.Frag} {mg : Str → Option Value} {base : Heap}
theorem guards_in {A : Around} {e : Env} (h : A.guards = some []) : (A.deeper e).guards = some [] := by
  first | exact h | simpa [Around.deeper] using h
theorem okG {x q : Str} {st : Stmt} {f : Addr} {fd : FuncData} {N ps : List Str} {n : Nat} {sp : Sp} (F : Fun K x q st f fd) (S : FnScope N ps (defScope st)) (len : ∀ vs H Q E, sp vs H Q E → vs.length = ps.length)
    (body : ∀ (cv : Value) (A : Around) (fr : List Env) (s : Shared) (H : Hp) (vs : List V) (Q : VK) (E : XK), (A.deeper (envOfC q (defScope st) s.heap.objs.size f cv)).guards = some [] → Room n (A.deeper (envOfC q (defScope st) s.heap.objs.size f cv)) → sp vs H Q E →
      ∃ t, PSs (cxOf CX0 P w K mg base N q (defScope st) f cv A fr s H E).nox (defBody st) t ∧ t { nx := fun _ H' => Q .non H', rt := Q } (start N vs) H) : FnG P w K mg base (n + 1) f fd ps sp := by
  obtain ⟨_, _, kV, dc, pm, an, cv, ct, _, e, lk, cc⟩ := F.ex
  subst e
  constructor
  · exact len
  · intro A fr s H ar us vs Q E gu room e0 bn rel hsp
    have keep := fun b o z => (e0.bs b o z).1
    have inHeap := e0.mod.kin.keeps keep
    have noLim := e0.mod.nolimit.keeps keep
    apply codeAny_call_function room.depth (inHeap _ _ lk) rfl S.co S.gen rfl (PySem.W.codeRec_of inHeap cc)
    apply bn
    apply wpAny_newFunctionEnv_cells S.kind
    · rintro ⟨y, v⟩ hy
      rcases S.par y (List.of_mem_zip hy).1 with p | p
      · exact Or.inl p
      · exact Or.inr ⟨p, PySem.W.cellsFrom_some _ _ _ (Or.inl p)⟩
    · intro env he s1 inc
      subst he
      constructor
      · exact noLim.keeps inc.toInCall.keep
      · apply codeAny_func
        obtain ⟨t, pss, rd⟩ := body cv A fr s H vs Q E (guards_in gu) (room.deeper _) hsp
        have inv := inv_start (CX := CX0) (P := P) (w := w) (E := E) S room.hd e0 (len _ _ _ _ hsp) rel inc
        apply wpAny_mono (pss.nox.run [] s1 (start N vs) H _ inv rd) (hE := fun _ _ z => z)
        intro fl s2 z
        cases fl with
        | ret u => obtain ⟨v, _, H2, J, rv, qv⟩ := z; exact ⟨v, H2, J.os, J.bare, J.base, J.hok, rv, qv⟩
        | next => obtain ⟨_, H2, J, qv⟩ := z; exact ⟨V.non, H2, J.os, J.bare, J.base, J.hok, rfl, qv⟩
        | brk => obtain ⟨_, _, _, no⟩ := z; cases no
        | cont => obtain ⟨_, _, _, no⟩ := z; cases no
end
section
variable {X : Cx} {n : Nat} {f : Addr} {fd : FuncData} {ps : List Str} {sp : Sp} {E : XK} {x : Str} {p pos : Pos} {e : Expr} {es : List Expr} {t : TA}
theorem pe_callG (F : FnG X.prog X.w X.K X.mg X.base n f fd ps sp) (gu : X.A.guards = some []) (room : Room n X.A) (hg : Gl X x) (hm : X.mg x = some (.ref f)) (kp : PySem.W.keepIn X.K (.ref f) = true) (hb : Binds X.K fd ps []) (hx : Passes CX0 X E) (ha : PA X (e :: es) t)
    (hdb : (x == ("__debug__" : Str)) = false := by decide) (he : starEach (e :: es) X.env = (false, eval e X.env) :: starEach es X.env := by rfl) (hpl : (backTo pos (starEach es X.env)).any (·.1) = false := by rfl) :
    PE X (.Call (.Name x p) (e :: es) [] pos) (tCall sp [] E t) := by
  constructor
  intro pins s σ H Q I h
  refine wpAny_Call_Name_kw (ld_glob I hg hm ?_ hdb)
  refine PySem.W.callWith_K (h₀ := X.base) I.ok.mod.kin kp (thn (ha.run pos pins s σ H _ I h) ?_) he hpl
  rintro us s1 ⟨vs, H1, I1, r1, q⟩
  refine ⟨I1.kIn, ?_⟩
  rw [List.append_nil] at q
  have bn := hb s1 us I1.kIn (by rw [List.append_nil, ← r1.length]; exact F.len _ _ _ _ q)
  rw [List.append_nil] at bn
  apply wpAny_call
  apply codeAny_mono (F.go X.A X.stack s1 H1 ⟨us, []⟩ us vs Q E gu room I1.env0 bn r1 q)
  intro r s2 z
  cases r with
  | error er => exact hx pins σ H1 s1 er s2 I1 z
  | ok fl =>
    cases fl with
    | ret u => exact I1.after z
    | next => cases z
    | brk => cases z
    | cont => cases z
end
end OF
namespace OF
open PySem PySem.Spec PyProof.Rows L2
section
variable {P : Program} {w : World} {K : PySem.W.Frag} {mg mb : Str → Option Value}
/-- namespaces stand in what is left where a list alone is hidden -/
theorem ns_left {h : Heap} {H : Hp} {a b : Addr} {xs : Array Value} {m : Str → Option Value} (ha : h.get? a = some { cls := .type "list", data := .seq xs }) (near : ∀ c, H c ≠ none → c = a) (z : h.Ns b m) : (hidT h H).Ns b m := by
  obtain ⟨o, es, ep, eo, ed, rest⟩ := z
  have free : H b = none := Classical.byContradiction fun no => by
    have := near b no
    subst this
    rw [eo] at ha
    have e2 := Option.some.inj ha
    subst e2
    cases ed
  exact ⟨o, es, ep, hidT_get eo free, ed, rest⟩
/-- what is tracked at the law's start -/
theorem script_heap {h : Heap} {a : Addr} {vs : List Value} {ns : List Int} (KX : K.In h) (ha : h.get? a = some { cls := .type "list", data := .seq vs.toArray }) (hi : IntsAre vs ns) (hl : ns.length ≤ sizeLine) :
    ∃ H : Hp, Only H ∧ SqL K H a (ns.map V.int) ∧ HOk P w H h ∧ (∀ c, H c ≠ none → c = a) ∧ (H a ≠ none → K.lookup a = none) := by
  have rel := vals_ints hi
  have n1 : vs.length = ns.length := hi.length
  cases known : K.lookup a with
  | some o =>
    have same := KX a o known
    rw [ha] at same
    have := Option.some.inj same
    subst this
    refine ⟨fun _ => none, fun c => Or.inl rfl, ?_, ?_, fun c z => absurd rfl z, fun z => absurd rfl z⟩
    case refine_2 =>
      intro c o z
      have z2 : (none : Option HO) = some o := z
      cases z2
    right
    refine ⟨_, vs.toArray, _, known, rfl, rfl, rfl, ?_, ?_⟩
    · rw [List.size_toArray, n1]; exact hl
    · rw [List.toList_toArray]; exact rel
  | none =>
    refine ⟨fun c => if c = a then some (.frz { cls := .type "list", data := .seq vs.toArray } (.lst (ns.map V.int))) else none, ?_, ?_, ?_, ?_, fun _ => rfl⟩
    · intro c
      by_cases z : c = a
      · right; exact ⟨_, _, if_pos z⟩
      · left; exact if_neg z
    · left; right; exact ⟨_, if_pos rfl⟩
    · intro c o z
      by_cases y : c = a
      · subst y
        have := (if_pos rfl).symm.trans z
        cases this
        refine ⟨ha, ?_, vs, _, rel, ha⟩
        rw [List.length_map]; exact hl
      · have := (if_neg y).symm.trans z
        cases this
    · intro c z
      exact Classical.byContradiction fun y => z (if_neg y)
theorem law_callG {n : Nat} {fa a : Addr} {fd : FuncData} {x : Str} {sp : Sp} {s : Shared} {vs : List Value} {ns : List Int} (KX : K.In s.heap) (hg : s.heap.Ns mainGlobals mg) (hb : s.heap.Ns builtinsNs mb) (hbb : ∀ y : Str, y ≠ "__name__" → mb y = bootBuiltins y)
    (hlim : s.heap.NoLimit) (he : s.gens = #[]) (ha : s.heap.get? a = some { cls := .type "list", data := .seq vs.toArray }) (hi : IntsAre vs ns) (hl : ns.length ≤ sizeLine) (room : Room n callerA)
    (F : ∀ base : Heap, K.In base → base.Ns mainGlobals mg → FnG P w K mg base n fa fd [x] sp) (bind : ∀ (s : Shared) (u : Value), BindsTo s fd ⟨[u], []⟩ [(x, u)])
    (hsp : ∀ H : Hp, SqL K H a (ns.map V.int) → sp [.ref a] H (fun v _ => v = .bl true) fun _ _ _ => False) :
    codeAny (model P w) callerA (.call (.ref fa) ⟨[.ref a], []⟩) (fun r s' => r = .ok (.ret (.bool true)) ∧ OldK s.heap s'.heap ∧ s'.os = s.os ∧ AllBare s'.gens) s := by
  obtain ⟨H, only, seq, hok, near, out⟩ := script_heap (P := P) (w := w) KX ha hi hl
  have KB : K.In (hidT s.heap H) := by
    intro c o z
    refine hidT_get (KX c o z) (Classical.byContradiction fun no => ?_)
    have := near c no
    subst this
    rw [out no] at z
    cases z
  have lim : (hidT s.heap H).NoLimit := by
    obtain ⟨mc, h1, h2⟩ := hlim
    exact ⟨mc, ns_left ha near h1, h2⟩
  have M : Mod K mg (hidT s.heap H) := { kin := KB, glob := ns_left ha near hg, blt := ⟨mb, ns_left ha near hb, hbb⟩, nolimit := lim }
  have E0 : Env0 P w K mg (hidT s.heap H) callerA [] s H := {
    frames := rfl, mod := M, bs := fun c o z => of_hidT z, bsz := Nat.le_of_eq (hidT_size _ _), funs := trivial
    frf := fun c z => (by cases z), hok := hok, bare := AllBare.of_eq he }
  have main := (F _ KB (ns_left ha near hg)).go callerA [] s H ⟨[.ref a], []⟩ [.ref a] [.ref a] _ _ rfl room E0 (bind s (.ref a)) (.cons rfl .nil) (hsp H seq)
  apply codeAny_mono main
  intro r s' z
  cases r with
  | error er => cases z
  | ok fl =>
    cases fl with
    | next => cases z
    | brk => cases z
    | cont => cases z
    | ret u =>
      obtain ⟨v, H', sameOs, bare, un, hok', rv, ev⟩ := z
      have ev2 : v = .bl true := ev
      subst ev2
      have eu : u = Value.bool true := rv
      subst eu
      refine ⟨rfl, OldK.of_keep ?_, sameOs, bare⟩
      intro c o z
      rcases only c with fr | ⟨o2, xs, fr⟩
      · apply un.keep c o z fr
        · intro y; cases y
        · intro y; cases y
      · have fr2 := un.frzs c o2 _ fr
        have g1 := (hok c _ fr).1
        have g2 := (hok' c _ fr2).1
        rw [z] at g1
        rw [g2, ← Option.some.inj g1]
theorem walkG {l : PySem.W.OpenLaw} {m n : Nat} {q : Program} {loose : List Str} {XP : (Str → Option Value) → Heap → Prop} {YP : World → Heap → Prop} {d : DefRec} {K : Params → PySem.W.Frag} {sp : World → Sp} {x : Str}
    (hm : l.most = some m) (hm2 : m ≤ sizeLine) (hdf : d.params.defaults = []) (room : Room n callerA) (hY : ∀ (w : World) (h : Heap), YP w h → (K w.params).In h)
    (F : ∀ (w : World) (mg : Str → Option Value) (fa : Addr) (h : Heap), (K w.params).In h → h.Ns mainGlobals mg → mg d.name = some (.ref fa) →
      ∃ fd : FuncData, (∀ (s : Shared) (u : Value), BindsTo s fd ⟨[u], []⟩ [(x, u)]) ∧ ∀ base : Heap, (K w.params).In base → base.Ns mainGlobals mg → FnG l.prog w (K w.params) mg base n fa fd [x] (sp w))
    (hsp : ∀ (w : World) (H : Hp) (a : Addr) (ns : List Int), ns.length ≤ m → SqL (K w.params) H a (ns.map V.int) → sp w [.ref a] H (fun v _ => v = .bl true) fun _ _ _ => False) :
    PySem.W.WalkO q loose XP YP l.row.toRowW d [] (fun f vs => PySem.call f vs) := by
  apply Att.attach_call hm hdf
  intro w s₀ s₁ mg mb fa o pm cd doc a vs ns G Y ho hd hcd hmg hobj hints hlen hg
  obtain ⟨fd, bind, FF⟩ := F w mg fa _ (hY w _ Y) G.T.g hmg
  exact law_callG (hY w _ Y) G.T.g G.T.b G.T.builtins G.T.nolimit hg hobj hints (Nat.le_trans hlen hm2) room FF bind fun H => hsp w H a ns hlen
end
end OF
/-! What repr shows: plain values, tuples and lists of such, dicts of ints; repr of a list of these. -/
namespace OF
open PySem PySem.Spec PyProof.Rows L2
section
variable {X : Cx} {H : Hp}
/-- v reads as d and is shown so, wherever the heap is tracked by H -/
def Rp (X : Cx) (H : Hp) (v : V) (d : PyData) : Prop := ∀ (pins : List (Addr × Obj)) (σ : L2.St) (s : Shared) (u : Value), Inv X pins σ H s → RelV v u →
  (∃ as, Reads s.heap u d as) ∧ ∃ bs, ReadAtMost s.heap d.depth bs ∧ ReprK X.prog X.w bs s.heap d.depth u d.shown
inductive RpAll (X : Cx) (H : Hp) : List V → List PyData → Prop
  | nil : RpAll X H [] []
  | cons {v : V} {d : PyData} {vs : List V} {ds : List PyData} : Rp X H v d → RpAll X H vs ds → RpAll X H (v :: vs) (d :: ds)
theorem RpAll.reads {vs : List V} {ds : List PyData} (h : RpAll X H vs ds) : ∀ {pins : List (Addr × Obj)} {σ : L2.St} {s : Shared} {us : List Value}, Inv X pins σ H s → Vals vs us →
    (∃ as, ReadsAll s.heap us ds as) ∧ ∃ bs, ReadAtMost s.heap (PyData.depthAll ds) bs ∧ ReprAllK X.prog X.w bs s.heap (PyData.depthAll ds) us (PyData.shownAll ds) := by
  induction h with
  | nil =>
    intro pins σ s us I r
    cases r
    refine ⟨⟨[], .nil⟩, [], ?_, ?_⟩
    · intro c z
      cases z
    · simp only [PyData.shownAll]
      exact .nil
  | cons h1 _ ih =>
    intro pins σ s us I r
    cases r with
    | cons r1 r2 =>
      obtain ⟨⟨as, q1⟩, b1, m1, k1⟩ := h1 pins σ s _ I r1
      obtain ⟨⟨cs, q2⟩, b2, m2, k2⟩ := ih I r2
      simp only [PyData.depthAll, PyData.shownAll]
      refine ⟨⟨as ++ cs, .cons q1 q2⟩, b1 ++ b2, (m1.mono (Nat.le_max_left _ _)).append (m2.mono (Nat.le_max_right _ _)), .cons ?_ ?_⟩
      · exact (k1.more fun c z => List.mem_append_left _ z).level_le (Nat.le_max_left _ _)
      · exact k2.more_le (fun c z => List.mem_append_right _ z) (Nat.le_max_right _ _)
/-- what the library reads -/
theorem Rp.dp {v : V} {d : PyData} (h : Dp X.K H v d) (hs : d.showable = true) (hn : d.hasDict = false) (hz : d.shown.length ≤ sizeLine) : Rp X H v d := fun pins σ s u I r => by
  obtain ⟨as, q⟩ := Dp.reads I d v u h r
  exact ⟨⟨as, q⟩, ReprK.of_reads q hs (PyData.noDict_hsm hn) hz⟩
theorem Rp.tup {a : Addr} {xs : List V} {ds : List PyData} (h : SqT X.K H a xs) (ha : RpAll X H xs ds) : Rp X H (.ref a) (.tuple ds) := fun pins σ s u I r => by
  cases r
  obtain ⟨its, rv, ⟨o, ho, hc, n, hd⟩, _⟩ := I.tuple h
  obtain ⟨⟨as, q⟩, bs, m, k⟩ := ha.reads I rv
  have R : Reads s.heap (.ref a) (.tuple ds) as := .tuple ho hc hd q
  have out : a ∉ bs := not_mem_of_deeper R (by simp only [PyData.depth]; omega) m
  refine ⟨⟨as, R⟩, a :: bs, ReadAtMost.cons R (by simp only [PyData.depth]; omega) m, ?_⟩
  simp only [PyData.depth, PyData.shown]
  exact ReprK.tuple ho hc hd out k
def keyD : Key → PyData
  | .inl i => .int i
  | .inr z => .str z
theorem pairs_read {P : Program} {w : World} {h : Heap} : ∀ (kvs : List (Key × Int)) (vs : List (Key × Value)) (es : List DictEntry), KV (kvs.map fun p => (p.1, V.int p.2)) vs → Pairs (mixKind P w) es vs →
    ReadsAll h (es.map (·.key)) ((kvs.map fun p => (keyD p.1, PyData.int p.2)).map (·.1)) [] ∧ ReadsAll h (es.map (·.val)) ((kvs.map fun p => (keyD p.1, PyData.int p.2)).map (·.2)) []
  | [], _, _, r, q => by
    cases r
    cases q
    exact ⟨.nil, .nil⟩
  | p :: kvs, _, _, r, q => by
    cases r with
    | cons r1 r2 =>
      cases q with
      | @cons en _ _ _ k1 v1 q2 =>
        obtain ⟨h1, h2⟩ := pairs_read (h := h) kvs _ _ r2 q2
        obtain ⟨e1, t, e2⟩ := r1
        constructor
        · refine ReadsAll.cons (as := []) (bs := []) ?_ h1
          rw [← e1] at k1
          rcases keyIs_shape k1 with ⟨i, t, x1, x2⟩ | ⟨z, t, x1, x2⟩
          · show Reads h en.key (keyD p.1) []
            rw [x2, show p.1 = Sum.inl i from x1]
            exact .int i t
          · show Reads h en.key (keyD p.1) []
            rw [x2, show p.1 = Sum.inr z from x1]
            exact .str z t
        · refine ReadsAll.cons (as := []) (bs := []) ?_ h2
          show Reads h en.val (.int p.2) []
          rw [v1, e2]
          exact .int _ _
theorem Rp.dct {a : Addr} {kvs : List (Key × Int)} (h : H a = some (.dK (kvs.map fun p => (p.1, V.int p.2)))) (hs : (PyData.dict (kvs.map fun p => (keyD p.1, PyData.int p.2))).showable = true) (hz : (PyData.dict (kvs.map fun p => (keyD p.1, PyData.int p.2))).shown.length ≤ sizeLine) :
    Rp X H (.ref a) (.dict (kvs.map fun p => (keyD p.1, .int p.2))) := fun pins σ s u I r => by
  cases r
  obtain ⟨_, hm, vs, rel, o, es, ep, ho, hx, hd, _, hp, _⟩ := dk_of I.hok h
  obtain ⟨h1, h2⟩ := pairs_read (h := s.heap) kvs vs es.toList rel hp
  have R : Reads s.heap (.ref a) (.dict (kvs.map fun p => (keyD p.1, .int p.2))) (a :: [] ++ []) := .dict ho hx.1 hd h1 h2
  refine ⟨⟨_, R⟩, ReprK.of_reads R hs (fun _ z => ?_) hz⟩
  have z2 : sysModules ∈ [a] := z
  rw [List.mem_singleton] at z2
  rw [← z2] at hm
  exact absurd hm (by decide)
/-- repr of a list -/
def rRepr (X : Cx) : List V → Hp → VK → Prop := fun xs H Q => ∃ (a : Addr) (ys : List V) (ds : List PyData), xs = [.ref a] ∧ SqL X.K H a ys ∧ RpAll X H ys ds ∧ PyData.depthAll ds ≤ 40 ∧ (PyData.list ds).shown.length ≤ sizeLine ∧ Q (.str (PyData.list ds).shown) H
theorem call_reprL (gu : X.A.guards = some []) (hu : X.A.units + 64 < cLine) : CallR X (.builtin "repr") (rRepr X) := by
  intro pins s σ H xs us Q I r h
  obtain ⟨a, ys, ds, rfl, hl, hd, dep, hz, q⟩ := h
  obtain ⟨u, rfl, ru⟩ := vals1 r
  cases ru
  obtain ⟨its, rv, ⟨o, n, ho, hc, _, hdat⟩, _⟩ := I.list hl
  obtain ⟨⟨as, rd⟩, bs, m, k⟩ := hd.reads I rv
  have R : Reads s.heap (.ref a) (.list ds) (a :: as) := .list ho hc hdat rd
  have out : a ∉ bs := not_mem_of_deeper R (by simp only [PyData.depth]; omega) m
  refine call_repr_slot (by omega) ⟨o, ho, hc⟩ F.slot_list_repr.toG ?_
  have fin : ∀ (h' : Heap) (t tk : Nat), (∀ c o, s.heap.get? c = some o → h'.get? c = some o) → ∃ x u, Value.str (PyData.list ds).shown t = Value.str x u ∧ EP X pins σ Q (Value.str (PyData.list ds).shown t) { s with heap := h', toks := tk } := fun h' t tk kp =>
    ⟨_, _, rfl, .str _, H, I.kept kp, ⟨_, rfl⟩, q⟩
  simp only [PyData.shown] at fin hz
  cases its with
  | nil =>
    cases rd
    simp only [PyData.shownAll, listText_nil] at fin
    exact call_list_repr_empty ⟨o, ho, hc⟩ ho hdat (fin s.heap _ _ fun _ _ z => z)
  | cons x l =>
    exact call_list_reprK (s := s) ho hc hdat out (by simpa using k.length_eq) (fun i y z => k.item i y (by simpa using z)) gu (fun b _ => Clear.nil b) (show X.A.units + 1 + (PyData.depthAll ds + 1) < cLine by omega) (fun _ _ z => z) fin hz
end
end OF
set_option maxHeartbeats 4000000
/-! Errors of the program's own classes as values: made by position and by names. -/
namespace OF
open PySem PySem.Spec PyProof.Rows L2 PySem.HandSPX
section
variable {prog : Program} {w : World} {A : Around} {E : Value → Shared → Prop} {h : Heap} {g : Array GenState} {d : Drawn} {t : Nat} {os : OsState} {nm q : Str} {C N : Addr} {bs bm bmB : List Value} {hdct ab : Bool} {sn : List Str} {sub rest : List Value} {col : Option Bool} {dd : Option Addr}
  {k0 k1 k2 k3 k5 : Option Value} {B newId initId : String} {kw : List (Str × Value)}
theorem kw_new_ok {M : Model} {Q : Unit → Shared → Prop} (F : ExcBaseFacts B newId initId bmB) (same : ∀ T : String, bm.contains (.type T) = bmB.contains (.type T)) (hC : h.get? C = some (excClassObj nm q C N bs bm hdct sn sub ab col dd k0 k1 k2 k3 k5 newId))
    (fin : Q () ⟨h, g, d, t, os⟩) : wpAny M A (checkBuiltinCall newId ⟨.ref C :: rest, kw⟩) Q E ⟨h, g, d, t, os⟩ := by
  have below : (Value.ref C :: bm).contains (.type B) = true := by
    rw [List.contains_cons, same, F.hasB]
    exact Bool.or_true _
  have short := F.noStar
  simp only [checkBuiltinCall, F.newSplit, F.newKind, F.newRow]
  repeat first
    | refine wpAny_loadPart_at hC ?_
    | (refine wpAny_isSubtype_exc hC ?_; rw [below])
    | refine wpAny_staticBase_exc hC ?_
    | refine wpAny_madeBy_exc hC ?_
    | simp only [Bool.false_eq_true, bne_self_eq_false, if_false]
    | wp_step
  exact fin

theorem kw_new_run {R : Result → Shared → Prop} (F : ExcBaseFacts B newId initId bmB) (same : ∀ T : String, bm.contains (.type T) = bmB.contains (.type T)) (hC : h.get? C = some (excClassObj nm q C N bs bm hdct sn sub ab col dd k0 k1 k2 k3 k5 newId)) (small : rest.length ≤ sizeLine)
    (fin : R (.ok (.ret (.ref (h.objs.size + 1)))) ⟨(h.push (PySem.W.kdv_tup rest)).push (excO C h.objs.size), g, d, t, os⟩) : codeAny (model prog w) A (.builtin newId ⟨.ref C :: rest, kw⟩) R ⟨h, g, d, t, os⟩ := by
  have ends := F.ends
  have inB : (Value.ref C :: bm).contains (.type B) = true := by
    rw [List.contains_cons, same, F.hasB]
    exact Bool.or_true _
  have outA : (Value.ref C :: bm).contains (.type "AttributeError") = false := by
    rw [List.contains_cons, same, F.noAttr] <;> rfl
  have outN : (Value.ref C :: bm).contains (.type "NameError") = false := by
    rw [List.contains_cons, same, F.noName] <;> rfl
  apply codeAny_builtinAt F.entry
  unfold Builtin.«BaseException.__new__»
  apply PySem.wpAt_bind
  show PySem.wpAt _ _ _ (stack >>= _) _ _ _
  apply PySem.wpAt_bind
  apply PySem.wpAt_stack
  intro p rest'
  apply PySem.wpAt_of_wpAny
  wp_walk
  apply PySem.wpAt_of_wpAny
  rw [F.owner]
  repeat first
    | with_reducible refine wpAny_madeHere_exc F.canon hC ?_
    | with_reducible refine wpAny_loadPart_at hC ?_
    | (with_reducible refine wpAny_isSubtype_exc hC ?_
       first | rw [inB] | rw [outA] | rw [outN])
    | wp_step
  show R _ _
  rw [Heap.size_push]
  exact fin
theorem kw_call_run {fI : Addr} {Q : Fin → Shared → Prop} (F : ExcBaseFacts B newId initId bmB) (same : ∀ T : String, bm.contains (.type T) = bmB.contains (.type T)) (hC : h.get? C = some (excClassObj nm q C N bs bm hdct sn sub ab col dd k0 k1 k2 k3 k5 newId)) (small : rest.length ≤ sizeLine)
    (li : PySem.W.Looks (model prog w) h (typeLookup (.ref C) "__init__") (some (.ref fI))) (lb : ∀ v, PySem.W.Looks (model prog w) h (bindSpecial (.ref fI) v) (.ref fI, [v]))
    (fin : codeAny (model prog w) A (.call (.ref fI) ⟨.ref (h.objs.size + 1) :: rest, kw⟩) (fun r s' => match r with | .ok (.ret v) => v = .none ∧ Q (.done (.ret (.ref (h.objs.size + 1)))) s' | .ok _ => False | .error e => E e s')
      ⟨(h.push (PySem.W.kdv_tup rest)).push (excO C h.objs.size), g, d, t, os⟩) : wpAny (model prog w) A (Builtin.«type.__call__» ⟨.ref C :: rest, kw⟩) Q E ⟨h, g, d, t, os⟩ := by
  repeat first
    | with_reducible refine wpAny_loadPart_at hC ?_
    | with_reducible refine wpAny_madeBy_exc hC ?_
    | wp_step
  apply codeAny_call_builtin_code (Code.quiet_builtin _ F.quiet) (kw_new_ok F same hC _)
  apply kw_new_run F same hC small
  show wpAny _ _ _ _ _ _
  have keep : ∀ c o, h.get? c = some o → ((h.push (PySem.W.kdv_tup rest)).push (excO C h.objs.size)).get? c = some o := by
    intro c o z
    exact Heap.get?_push_of_some _ (Heap.get?_push_of_some _ z)
  have hC2 := keep _ _ hC
  have there : ((h.push (PySem.W.kdv_tup rest)).push (excO C h.objs.size)).get? (h.objs.size + 1) = some (excO C h.objs.size) := by heap_get
  have self : (Value.ref C :: bm).contains (.ref C) = true := by simp
  have li2 := li.keeps keep
  have lb2 := (lb (.ref (h.objs.size + 1))).keeps keep
  unfold isInstance
  repeat first
    | with_reducible refine wpAny_loadPart_at there ?_
    | (with_reducible refine wpAny_isSubtype_exc hC2 ?_
       rw [self])
    | wp_step
  show wpAny _ _ (typeLookup (.ref C) _) _ _ _
  apply li2.at
  apply wpAny_holding
  apply wpAny_bind
  apply lb2.at
  apply wpAny_bind
  apply wpAny_call
  apply codeAny_mono fin
  intro r s' z
  cases r with
  | error e => exact z
  | ok fl =>
    cases fl with
    | next => exact z.elim
    | brk => exact z.elim
    | cont => exact z.elim
    | ret v =>
      obtain ⟨ev, z⟩ := z
      subst ev
      first
        | exact wpAny_pure (wpAny_pure z)
        | (wp_walk; exact z)
theorem kw_call {fI : Addr} {R : Result → Shared → Prop} (F : ExcBaseFacts B newId initId bmB) (same : ∀ T : String, bm.contains (.type T) = bmB.contains (.type T)) (hC : h.get? C = some (excClassObj nm q C N bs bm hdct sn sub ab col dd k0 k1 k2 k3 k5 newId)) (small : rest.length ≤ sizeLine)
    (li : PySem.W.Looks (model prog w) h (typeLookup (.ref C) "__init__") (some (.ref fI))) (lb : ∀ v, PySem.W.Looks (model prog w) h (bindSpecial (.ref fI) v) (.ref fI, [v]))
    (fin : codeAny (model prog w) (A.under (.builtin "type.__call__" ⟨.ref C :: rest, kw⟩)) (.call (.ref fI) ⟨.ref (h.objs.size + 1) :: rest, kw⟩) (PySem.W.InitBack (h.objs.size + 1) R)
      ⟨(h.push (PySem.W.kdv_tup rest)).push (excO C h.objs.size), g, d, t, os⟩) : codeAny (model prog w) A (.call (.ref C) ⟨rest, kw⟩) R ⟨h, g, d, t, os⟩ := by
  have f1 := tc_lookup
  have f2 := tc_bind (.ref C)
  have isT : (⟨h, g, d, t, os⟩ : Shared).TypeIs (.ref C) "type" := ⟨_, hC, rfl⟩
  apply codeAny_of_tree
  show wpAny _ _ (callAny (.ref C) _) _ _ _
  repeat any_goals first
    | assumption
    | with_reducible refine wpAny_loadPart_at hC ?_
    | wp_step
  constructor
  · rfl
  have typ : PySem.W.Looks (model prog w) h (isInstance (.ref C) (.type "type")) true := by
    unfold isInstance
    have ty : PySem.W.Looks (model prog w) h (typeOf (.ref C)) (.type "type") := (PySem.W.Looks.ld hC).andThen .now
    exact ty.andThen (PySem.W.Looks.of_pure tc_sub)
  apply codeAny_call_builtin_at (Code.quiet_builtin _ (by decide +kernel)) entry_typeCall
  apply PySem.W.check_slot tc_kind tc_split typ (PySem.W.tc_args _ _ _)
  apply kw_call_run F same hC small li lb
  apply codeAny_mono fin
  intro r s' z
  cases r with
  | error e => exact z
  | ok fl => cases fl <;> exact z
end
end OF
/-! Errors of the program's own classes as values: the rules. -/
namespace OF
open PySem PySem.Spec PyProof.Rows L2
/-- what the maker of an error must do, and what then holds -/
def MadeBy (C : Addr) (sp : Sp) (xs : Addr → List V) (H : Hp) (Q : VK) : Prop := ∀ a, H a = none → sp (xs a) (upd H a (exo a C none)) (fun v H2 => v = .non ∧ Q (.ref a) H2) (fun _ _ _ => False)
def tMadeP (C : Addr) (sp : Sp) (ta : TA) : TE := fun σ H Q => ta σ H fun vs H1 => vs.length ≤ 1000 ∧ MadeBy C sp (fun a => .ref a :: vs) H1 Q
def tMadeN (C : Addr) (m : Nat) (sp : Sp) (gV : List V → List V → List V) (tk : TA) : TE := fun σ H Q => tk σ H fun zs H1 => zs.length = m ∧ MadeBy C sp (fun a => gV [.ref a] zs) H1 Q
section
variable {X : Cx} {CX : CXT} {x : Str} {C fI : Addr} {k n : Nat} {fd : FuncData} {ps ks : List Str} {sp : Sp} {e : Expr} {es : List Expr} {kws : List Keyword} {ta tk : TA} {p pos : Pos} {g : List Value → List Value → List Value} {gV : List V → List V → List V}
theorem run_made {pins : List (Addr × Obj)} {σ : L2.St} {H : Hp} {s : Shared} {us ws : List Value} {vs zs : List V} {Q : VK} (T : OexC X.K C) (iC : PySem.W.findIn X.K (.ref C) "__init__" = some (some (.ref fI))) (tI : PySem.W.typeIn X.K (.ref fI) = some (.type "function"))
    (F1 : FnOk X.prog X.w X.K X.mg X.base CX k fI fd ps sp) (room : Room (k + 1) X.A) (hb : KBn X.K fd ps (n + 1) ks g gV) (hx : Passes CX X (fun _ _ _ => False)) (I : Inv X pins σ H s) (r : Vals vs us) (rz : Vals zs ws) (l1 : vs.length = n) (l2 : zs.length = ks.length) (small : vs.length ≤ 1000)
    (h : MadeBy C sp (fun a => gV (.ref a :: vs) zs) H Q) : wpAny (model X.prog X.w) X.A (call (.ref C) us (ks.zip ws)) (EP X pins σ Q) X.xe s := by
  obtain ⟨nm, q, N, bs, bm, sn, sub, ab, col, dd, k0, k1, k2, k3, k5, hC, hbm⟩ := T.cls
  obtain ⟨hp, gn, dr, t, os⟩ := s
  have le : hp.objs.size ≤ hp.objs.size + 1 := Nat.le_succ _
  have hq := h (hp.objs.size + 1) (I.hok.fresh le)
  have keep : ∀ c o, hp.get? c = some o → ((hp.push (PySem.W.kdv_tup us)).push (PySem.HandSPX.excO C hp.objs.size)).get? c = some o := by
    intro c o z
    exact Heap.get?_push_of_some _ (Heap.get?_push_of_some _ z)
  have there : ((hp.push (PySem.W.kdv_tup us)).push (PySem.HandSPX.excO C hp.objs.size)).get? (hp.objs.size + 1) = some (PySem.HandSPX.excO C hp.objs.size) := by heap_get
  have J : Inv X pins σ (upd H (hp.objs.size + 1) (exo (hp.objs.size + 1) C none)) ⟨(hp.push (PySem.W.kdv_tup us)).push (PySem.HandSPX.excO C hp.objs.size), gn, dr, t, os⟩ :=
    I.laid (t' := t) keep le (exo_ok there)
  have r1 : Vals (V.ref (hp.objs.size + 1) :: vs) (Value.ref (hp.objs.size + 1) :: us) := .cons rfl r
  have n1 : (Value.ref (hp.objs.size + 1) :: us).length = n + 1 := by rw [List.length_cons, ← r.length, l1]
  have n2 : us.length ≤ sizeLine := by
    rw [← r.length, sizeLine_eq]
    omega
  apply wpAny_call
  apply kw_call F.excBase_ValueError (fun Y => PySem.HandSPX.refsVE_contains Y bm hbm) (I.kIn _ _ hC) n2 (PySem.W.looks_findIn I.kIn iC) (fun v => PySem.W.bind_fn I.kIn v tI)
  apply codeAny_mono (F1.run _ X.stack _ _ ⟨Value.ref (hp.objs.size + 1) :: us, ks.zip ws⟩ (g (Value.ref (hp.objs.size + 1) :: us) ws) _ _ (fun _ _ _ => False) (room.make C us (ks.zip ws)) (J.env0.make C us (ks.zip ws))
    (hb.to _ (Value.ref (hp.objs.size + 1) :: us) ws J.kIn n1 (rz.length.symm.trans l2)) (hb.rel r1 rz) hq)
  intro res s' z
  cases res with
  | error er => exact hx pins σ _ _ er s' J z
  | ok fl =>
    cases fl with
    | next => cases z
    | brk => cases z
    | cont => cases z
    | ret u =>
      obtain ⟨v, H', J2, rv, ev, q2⟩ := J.after z
      subst ev
      exact ⟨rv, V.ref (hp.objs.size + 1), H', J2, rfl, q2⟩
/-- positions alone are names of none -/
theorem kb_pos (b : Binds X.K fd ps []) : KBn X.K fd ps ps.length [] (fun us _ => us) (fun vs _ => vs) := by
  constructor
  · intro s us ws KX l1 l2
    have := b s us KX (by rw [List.append_nil]; exact l1)
    rw [List.append_nil] at this
    exact this
  · intro vs us zs ws r _
    exact r
/-- C(e, ..) -/
theorem pe_madeP (T : OexC X.K C) (iC : PySem.W.findIn X.K (.ref C) "__init__" = some (some (.ref fI))) (tI : PySem.W.typeIn X.K (.ref fI) = some (.type "function")) (F1 : FnOk X.prog X.w X.K X.mg X.base CX k fI fd ps sp) (room : Room (k + 1) X.A) (b : Binds X.K fd ps [])
    (hx : Passes CX X (fun _ _ _ => False)) (hg : Gl X x) (hm : X.mg x = some (.ref C)) (ha : PA X (e :: es) ta)
    (hdb : (x == ("__debug__" : Str)) = false := by decide) (he : starEach (e :: es) X.env = (false, eval e X.env) :: starEach es X.env := by rfl) (hpl : (backTo pos (starEach es X.env)).any (·.1) = false := by rfl) :
    PE X (.Call (.Name x p) (e :: es) [] pos) (tMadeP C sp ta) := by
  constructor
  intro pins s σ H Q I h
  refine wpAny_Call_Name_kw (ld_glob I hg hm ?_ hdb)
  refine PySem.W.callWith_K (h₀ := X.base) I.ok.mod.kin T.kC (thn (ha.run pos pins s σ H _ I h) ?_) he hpl
  rintro us s1 ⟨vs, H1, I1, r1, small, q⟩
  refine ⟨I1.kIn, ?_⟩
  have hl : ps.length = vs.length + 1 := by
    have z := F1.len _ _ _ _ (q (s1.heap.objs.size + 1) (I1.hok.fresh (Nat.le_succ _)))
    rw [← z]
    rfl
  have kb := kb_pos (X := X) b
  rw [hl] at kb
  exact run_made (zs := []) (ws := []) T iC tI F1 room kb hx I1 r1 .nil rfl rfl small q
/-- C() -/
theorem pe_made0 (T : OexC X.K C) (iC : PySem.W.findIn X.K (.ref C) "__init__" = some (some (.ref fI))) (tI : PySem.W.typeIn X.K (.ref fI) = some (.type "function")) (F1 : FnOk X.prog X.w X.K X.mg X.base CX k fI fd ["self"] sp) (room : Room (k + 1) X.A) (b : Binds X.K fd ["self"] [])
    (hx : Passes CX X (fun _ _ _ => False)) (hg : Gl X x) (hm : X.mg x = some (.ref C)) (hdb : (x == ("__debug__" : Str)) = false := by decide) :
    PE X (.Call (.Name x p) [] [] pos) (tMadeP C sp tNil) := by
  constructor
  intro pins s σ H Q I h
  refine wpAny_Call_Name_kw (ld_glob I hg hm ?_ hdb)
  exact PySem.W.callWith_K0 I.kIn T.kC (run_made (n := 0) (us := []) (vs := []) (zs := []) (ws := []) T iC tI F1 room (kb_pos (X := X) b) hx I .nil .nil rfl rfl (Nat.zero_le _) h.2)
/-- C(k = e, ..) -/
theorem pe_madeN (T : OexC X.K C) (iC : PySem.W.findIn X.K (.ref C) "__init__" = some (some (.ref fI))) (tI : PySem.W.typeIn X.K (.ref fI) = some (.type "function")) (F1 : FnOk X.prog X.w X.K X.mg X.base CX k fI fd ps sp) (room : Room (k + 1) X.A) (kb : KBn X.K fd ps 1 ks g gV)
    (hx : Passes CX X (fun _ _ _ => False)) (hg : Gl X x) (hm : X.mg x = some (.ref C)) (hkw : PK X kws tk) (hall : (backToKw pos (keywordEach kws X.env)).all (·.1.isSome) = true := by rfl) (hks : (backToKw pos (keywordEach kws X.env)).filterMap (·.1) = ks := by rfl)
    (hdb : (x == ("__debug__" : Str)) = false := by decide) (hpl : ((backTo pos (starEach [] X.env)).any (·.1) || (backToKw pos (keywordEach kws X.env)).any (·.1.isNone)) = false := by rfl) :
    PE X (.Call (.Name x p) [] kws pos) (tMadeN C ks.length sp gV tk) := by
  constructor
  intro pins s σ H Q I h
  refine wpAny_Call_Name_kw (ld_glob I hg hm ?_ hdb)
  refine PySem.W.callWith_KW0 (h₀ := X.base) I.ok.mod.kin T.kC hall (thn (hkw.run pos pins s σ H _ I h) ?_) hpl
  rintro ws s2 ⟨zs, H2, I2, rz, l2, q⟩
  refine ⟨I2.kIn, ?_⟩
  rw [hks]
  exact run_made (n := 0) (us := []) (vs := []) T iC tI F1 room kb hx I2 .nil rz rfl l2 (Nat.zero_le _) q
/-- e.f of such a value -/
def tFldC (K : PySem.W.Frag) (f : Str) (te : TE) : TE := fun σ H Q => te σ H fun x H1 => ∃ (a d C : Addr) (fs : List (Str × V)) (v : V), x = .ref a ∧ XfC K C ∧ PySem.W.findIn K (.ref C) f = some none ∧ H1 a = some (exo a C (some d)) ∧ H1 d = some (exd d fs) ∧ fs.lookup f = some v ∧ Q v H1
theorem pe_fldV {f : Str} {te : TE} (he : PE X e te) (hb : attributeBase e f X.env (eval e X.env) = eval e X.env := by rfl) : PE X (.Attribute e f pos) (tFldC X.K f te) := by
  constructor
  intro pins s σ H Q I h
  refine attr_of hb (thn (he.run pins s σ H _ I h) ?_)
  rintro u s1 ⟨y, H1, I1, ru, a, d, C, fs, v, ey, T, no, ea, ed, l, q⟩
  subst ey
  cases ru
  obtain ⟨t1, ho⟩ := exo_at I1.hok ea
  obtain ⟨mA, hns, rel⟩ := exd_at I1.hok ed
  obtain ⟨od, hod, hl⟩ := lookIn_ns hns
  obtain ⟨u, hu, rv⟩ := RelO.some_of (v := v) (o := mA f) (by rw [← l]; exact rel f)
  have J : PySem.W.InstAt s1.heap a _ C (some od) := ⟨ho, rfl, rfl, hod⟩
  exact PySem.HandSPX.exc_get I1.kIn J T.ga T.gg T.exC (PySem.W.findObj_own T.hdC no rfl (by rw [hl, hu])) (handed_of rv) ⟨v, H1, I1.tok _, rv, q⟩
/-- isinstance(e, C) of such a value -/
def rAskV (K : PySem.W.Frag) : List V → Hp → VK → Prop := fun xs H Q => ∃ (a D : Addr) (d : Option Addr) (c : V) (cv : Value) (b : Bool), xs = [.ref a, c] ∧ AskC K D ∧ H a = some (exo a D d) ∧ (∀ d', d = some d' → ∃ fs, H d' = some (exd d' fs)) ∧ (∀ u, RelV c u → u = cv) ∧ PySem.W.kitOne K (.ref D) cv = some b ∧ Q (.bl b) H
theorem call_askV : CallR X (.builtin "isinstance") (rAskV X.K) := by
  intro pins s σ H xs us Q I r h
  obtain ⟨a, D, d, c, cv, b, rfl, T, ea, ed, hcv, kit, q⟩ := h
  obtain ⟨u1, u2, rfl, r1, r2⟩ := vals2 r
  cases r1
  cases hcv _ r2
  obtain ⟨t1, ho⟩ := exo_at I.hok ea
  have J : ∃ ox od, PySem.W.InstAt s.heap a ox D od := by
    cases d with
    | none => exact ⟨_, none, ho, rfl, rfl, trivial⟩
    | some d' =>
      obtain ⟨fs, e'⟩ := ed d' rfl
      obtain ⟨mA, hns, _⟩ := exd_at I.hok e'
      obtain ⟨od, hod, _⟩ := lookIn_ns hns
      exact ⟨_, some od, ho, rfl, rfl, hod⟩
  obtain ⟨ox, od, J⟩ := J
  exact PySem.W.kia_one (PySem.W.kitx_exc T.cl T.xf.ga T.xf.gg T.xf.exC T.ha T.hn T.ht T.hm) I.kIn J kit (fun z => nomatch z) fun tk => ⟨.bl b, H, I.kept (t' := tk) fun _ _ z => z, rfl, q⟩
end
end OF
/-! The error classes of the program, one promise a kind: one field, two fields, none. -/
namespace OF
open PySem PySem.Spec PyProof.Rows L2
def bmF : List Value := [.type "ValueError", .type "Exception", .type "BaseException", .type "object"]
def bmE (CF : Addr) : List Value := .ref CF :: bmF
/-- what the top says of an error class: C under the name x, its maker st at fI, bm above it -/
structure Kl (K : PySem.W.Frag) (mg : Str → Option Value) (x q : Str) (st : Stmt) (C fI : Addr) (bm : List Value) : Prop where
  g : mg x = some (.ref C)
  cls : ∃ nm q N bs sn sub ab col dd k0 k1 k2 k3 k5, K.lookup C = some (excClassObj nm q C N bs bm true sn sub ab col dd k0 k1 k2 k3 k5 "ValueError.__new__")
  sa : PySem.W.findIn K (.ref C) "__setattr__" = some (some (.builtin "object.__setattr__"))
  kC : PySem.W.keepIn K (.ref C) = true
  iC : PySem.W.findIn K (.ref C) "__init__" = some (some (.ref fI))
  tI : PySem.W.typeIn K (.ref fI) = some (.type "function")
  ga : PySem.W.findIn K (.ref C) "__getattribute__" = some (some (.builtin "BaseException.__getattribute__"))
  gg : PySem.W.findIn K (.ref C) "__getattr__" = some none
  ha : PySem.W.findIn K (.ref C) "__class__" = some (some (.builtin "object.__class__"))
  fn : ∃ fd, Fun K "__init__" q st fI fd
  fc : PySem.W.findCls K (.ref C) (.type "type") "__name__" = some (.get (.builtin "getset_descriptor.__get__") (.builtin "type.__name__") (.ref C) (.type "type"))
  nn : PySem.W.findIn K (.ref C) "class_name" = some none
  nk : ∃ (nm : Str) (o : Obj) (t : Tok), K.lookup C = some o ∧ o.cls = .type "type" ∧ o.slots[2]?.join = some (.str nm t)
section
variable {K : PySem.W.Frag} {mg : Str → Option Value} {x q : Str} {st : Stmt} {C fI : Addr} {bm : List Value}
theorem Kl.cd (T : Kl K mg x q st C fI bm) : ∃ cd, PySem.W.clsIn K C = some cd ∧ cd.mro = .ref C :: bm ∧ cd.hasDict = true := by
  obtain ⟨nm, q, N, bs, sn, sub, ab, col, dd, k0, k1, k2, k3, k5, h⟩ := T.cls
  have e : PySem.W.clsIn K C = some { name := nm, bases := bs, mro := .ref C :: bm, ns := N, qualname := q, hasDict := true, slotNames := sn, subclasses := sub, abstract := ab, collection := col, hasDel := false } := by
    unfold PySem.W.clsIn
    rw [h] <;> rfl
  exact ⟨_, e, rfl, rfl⟩
theorem Kl.sub (T : Kl K mg x q st C fI bm) (b : Value) : PySem.W.subIn K (.ref C) b = some ((Value.ref C :: bm).contains b) := by
  obtain ⟨cd, h, hm, _⟩ := T.cd
  show PySem.W.mroIn K C b = _
  unfold PySem.W.mroIn
  rw [h, Option.bind_some, hm]
  rfl
theorem Kl.ty (T : Kl K mg x q st C fI bm) : PySem.W.typeIn K (.ref C) = some (.type "type") := by
  obtain ⟨nm, q, N, bs, sn, sub, ab, col, dd, k0, k1, k2, k3, k5, h⟩ := T.cls
  show (K.lookup C).map (·.cls) = _
  rw [h] <;> rfl
theorem Kl.dic (T : Kl K mg x q st C fI bm) : PySem.W.hasDictIn K C = true := by
  obtain ⟨cd, h, _, hd⟩ := T.cd
  unfold PySem.W.hasDictIn
  rw [h]
  exact hd
/-- what stands above every error -/
structure Above (bm : List Value) : Prop where
  ve : PySem.HandSPX.refsVE bm = true
  be : ∀ C : Addr, (Value.ref C :: bm).contains (.type "BaseException") = true
  ob : ∀ C : Addr, (Value.ref C :: bm).contains (.type "object") = true
  va : ∀ C : Addr, (Value.ref C :: bm).contains (.type "ValueError") = true
theorem above_F : Above bmF := ⟨by decide +kernel, fun C => by simp [bmF], fun C => by simp [bmF], fun C => by simp [bmF]⟩
theorem above_E (CF : Addr) : Above (bmE CF) := ⟨by show PySem.HandSPX.refsVE bmF = true; decide +kernel, fun C => by simp [bmF, bmE], fun C => by simp [bmF, bmE], fun C => by simp [bmF, bmE]⟩
theorem Kl.ox (T : Kl K mg x q st C fI bm) (B : Above bm) : OexC K C := by
  obtain ⟨nm, q, N, bs, sn, sub, ab, col, dd, k0, k1, k2, k3, k5, h⟩ := T.cls
  exact ⟨⟨_, _, _, _, _, _, _, _, _, _, _, _, _, _, _, h, B.ve⟩, T.sa, (T.sub _).trans (congrArg some (B.be C)), T.ty, T.kC⟩
theorem Kl.xf (T : Kl K mg x q st C fI bm) (B : Above bm) : XfC K C := ⟨T.ga, T.gg, (T.sub _).trans (congrArg some (B.be C)), T.dic⟩
theorem Kl.ask (T : Kl K mg x q st C fI bm) (B : Above bm) (hn : PySem.W.specialIn K (.builtin "object.__class__") "__get__" = some (some (.builtin "getset_descriptor.__get__"))) (ht : PySem.W.takesIn K (.builtin "object.__class__") = some true) : AskC K C := by
  obtain ⟨cd, h, _, _⟩ := T.cd
  exact ⟨by rw [h]; rfl, T.xf B, T.ha, hn, ht, (T.sub _).trans (congrArg some (B.ob C))⟩
theorem Kl.nam (T : Kl K mg x q st C fI bm) (B : Above bm) (hn : PySem.W.specialIn K (.builtin "object.__class__") "__get__" = some (some (.builtin "getset_descriptor.__get__"))) (ht : PySem.W.takesIn K (.builtin "object.__class__") = some true) (st' : PySem.W.nsIn K cStatics "thirdparty.any" = some none) : ∃ nm, NamC K C nm := by
  obtain ⟨cd, h, _, _⟩ := T.cd
  obtain ⟨nm, o, t, lk⟩ := T.nk
  exact ⟨nm, ⟨T.xf B, by rw [h]; rfl, T.ha, hn, ht, (T.sub _).trans (congrArg some (B.ob C)), T.ty, st', T.fc, ⟨o, t, lk⟩, T.nn⟩⟩
/-- isinstance of an error of the class D, by the class C -/
theorem Kl.kit {x2 q2 : Str} {st2 : Stmt} {D fD : Addr} {bm2 : List Value} (T : Kl K mg x q st C fI bm) (U : Kl K mg x2 q2 st2 D fD bm2) : PySem.W.kitOne K (.ref D) (.ref C) = some ((Value.ref D :: bm2).contains (.ref C)) := by
  obtain ⟨cd, h, _, _⟩ := T.cd
  unfold PySem.W.kitOne
  split
  · rename_i e
    have e2 : Value.ref D = Value.ref C := eq_of_beq e
    rw [e2]
    simp
  · unfold PySem.W.kitCls
    simp only [T.ty, h, Option.isSome_some, beq_self_eq_true, Bool.and_self, if_true]
    exact U.sub _
theorem Kl.kitV (U : Kl K mg x q st C fI bm) (B : Above bm) : PySem.W.kitOne K (.ref C) (.type "ValueError") = some true := by
  unfold PySem.W.kitOne
  split
  · rfl
  · unfold PySem.W.kitCls
    simp only [show PySem.W.kitMeta "ValueError" = true by decide +kernel, if_true]
    exact (U.sub _).trans (congrArg some (B.va C))
theorem kl_mk {h : Heap} {nm q' : Str} {N : Addr} {bs sub : List Value} {sn : List Str} {ab : Bool} {col : Option Bool} {dd od an : Option Addr} {cn : Str} {tk : Tok} {k0 k1 k3 k5 : Option Value} {oc kV dc pm cd ct : Value} {sl : Array (Option Value)} (X : K.In h) (G : h.Ns mainGlobals mg)
    (a : PySem.W.nsIn K mainGlobals x = some (some (.ref C))) (l : K.lookup C = some (excClassObj nm q' C N bs bm true sn sub ab col dd k0 k1 (some (.str cn tk)) k3 k5 "ValueError.__new__"))
    (sa : PySem.W.findIn K (.ref C) "__setattr__" = some (some (.builtin "object.__setattr__"))) (kC : PySem.W.keepIn K (.ref C) = true) (iC : PySem.W.findIn K (.ref C) "__init__" = some (some (.ref fI))) (tI : PySem.W.typeIn K (.ref fI) = some (.type "function"))
    (ga : PySem.W.findIn K (.ref C) "__getattribute__" = some (some (.builtin "BaseException.__getattribute__"))) (gg : PySem.W.findIn K (.ref C) "__getattr__" = some none) (ha : PySem.W.findIn K (.ref C) "__class__" = some (some (.builtin "object.__class__")))
    (lI : K.lookup fI = some ⟨oc, od, .func (PySem.W.fnOf "__init__" q (defArgs st) (defBody st) (defScope st) .none kV dc pm an cd ct), sl⟩) (cI : PySem.W.codeIn K cd q = true) (kI : PySem.W.keepIn K (.ref fI) = true)
    (fc : PySem.W.findCls K (.ref C) (.type "type") "__name__" = some (.get (.builtin "getset_descriptor.__get__") (.builtin "type.__name__") (.ref C) (.type "type"))) (nn : PySem.W.findIn K (.ref C) "class_name" = some none) : Kl K mg x q st C fI bm :=
  ⟨PySem.W.mg_of X G a, ⟨_, _, _, _, _, _, _, _, _, _, _, _, _, _, l⟩, sa, kC, iC, tI, ga, gg, ha, ⟨_, fun_mk lI cI kI⟩, fc, nn, ⟨cn, _, tk, l, rfl, rfl⟩⟩
end

/-! ### errors in the heap -/
/-- an error of the class C with the fields fs -/
def IsE (C : Addr) (fs : List (Str × V)) (H : Hp) (a : Addr) : Prop := ∃ d rest, H a = some (exo a C (some d)) ∧ H d = some (exd d (fs ++ rest))
/-- an error of the class C -/
def Err (C : Addr) (H : Hp) (a : Addr) : Prop := ∃ d, H a = some (exo a C d) ∧ ∀ d', d = some d' → ∃ fs, H d' = some (exd d' fs)
theorem IsE.same {C a : Addr} {fs : List (Str × V)} {H H' : Hp} (h : IsE C fs H a) (s : Same H H') : IsE C fs H' a := by
  obtain ⟨d, r, h1, h2⟩ := h
  exact ⟨d, r, s _ _ h1, s _ _ h2⟩
theorem IsE.err {C a : Addr} {fs : List (Str × V)} {H : Hp} (h : IsE C fs H a) : Err C H a := by
  obtain ⟨d, r, h1, h2⟩ := h
  exact ⟨some d, h1, fun d' e => by cases e; exact ⟨_, h2⟩⟩
theorem Err.same {C a : Addr} {H H' : Hp} (h : Err C H a) (s : Same H H') : Err C H' a := by
  obtain ⟨d, h1, h2⟩ := h
  refine ⟨d, s _ _ h1, fun d' e => ?_⟩
  obtain ⟨fs, h3⟩ := h2 d' e
  exact ⟨fs, s _ _ h3⟩
/-- X.__init__ of two fields -/
def spInit2 (f g : Str) (C : Addr) : Sp := fun vs H Q _ => ∃ (a : Addr) (v u : V), vs = [.ref a, v, u] ∧ H a = some (exo a C none) ∧ ∀ (fs : List (Str × V)) (d : Addr), H d = none → d ≠ a → Q .non (upd (upd H d (exd d ((g, u) :: (f, v) :: fs))) a (exo a C (some d)))
/-- X.__init__ of none -/
def spInit0 (C : Addr) : Sp := fun vs H Q _ => ∃ a : Addr, vs = [.ref a] ∧ H a = some (exo a C none) ∧ ∀ (fs : List (Str × V)) (d : Addr), H d = none → d ≠ a → Q .non (upd (upd H d (exd d fs)) a (exo a C (some d)))
section
variable {K : PySem.W.Frag} {C : Addr} {f g : Str} {v u : V} {H : Hp} {Q : VK}
theorem same_two {H : Hp} {a d : Addr} {x y z : HO} (ha : H a = none) (hd : upd H a z d = none) (ne : d ≠ a) : Same H (upd (upd (upd H a z) d x) a y) := by
  rw [upd_ne ne] at hd
  intro b o hb
  rw [upd_ne (ne_of_none hb ha), upd_ne (ne_of_none hb hd), upd_ne (ne_of_none hb ha)]
  exact hb
theorem made1 (h : ∀ a H', Same H H' → IsE C [(f, v)] H' a → Q (.ref a) H') : MadeBy C (spInit K f C) (fun a => [.ref a, v]) H Q := fun a ha => by
  refine ⟨a, v, rfl, upd_same, fun fs d hd ne => ⟨rfl, h a _ (same_two ha hd ne) ⟨d, fs, upd_same, ?_⟩⟩⟩
  rw [upd_ne ne]
  exact upd_same
theorem made2 (h : ∀ a H', Same H H' → IsE C [(g, u), (f, v)] H' a → Q (.ref a) H') : MadeBy C (spInit2 f g C) (fun a => [.ref a, v, u]) H Q := fun a ha => by
  refine ⟨a, v, u, rfl, upd_same, fun fs d hd ne => ⟨rfl, h a _ (same_two ha hd ne) ⟨d, fs, upd_same, ?_⟩⟩⟩
  rw [upd_ne ne]
  exact upd_same
theorem made0 (h : ∀ a H', Same H H' → Err C H' a → Q (.ref a) H') : MadeBy C (spInit0 C) (fun a => [.ref a]) H Q := fun a ha => by
  refine ⟨a, rfl, upd_same, fun fs d hd ne => ⟨rfl, h a _ (same_two ha hd ne) ⟨some d, upd_same, fun d' e => ?_⟩⟩⟩
  cases e
  exact ⟨fs, by rw [upd_ne ne]; exact upd_same⟩
theorem made_F {nm : Str} (T : OexC K C) (N : NamC K C nm) (h : ∀ a H', Same H H' → Err C H' a → Q (.ref a) H') : MadeBy C (spFig K) (fun a => [.ref a, v]) H Q := fun a ha => by
  refine ⟨a, C, v, nm, rfl, T, N, upd_same, fun d hd ne => ⟨rfl, h a _ (same_two ha hd ne) ⟨some d, upd_same, fun d' e => ?_⟩⟩⟩
  cases e
  exact ⟨_, by rw [upd_ne ne]; exact upd_same⟩
end

/-! ### lists of the same things -/
/-- l == l2, two lists of the very same things -/
def rEqSame (K : PySem.W.Frag) : R2 := fun x y H Q => ∃ (l l2 : Addr) (xs : List V), x = .ref l ∧ y = .ref l2 ∧ SqL K H l xs ∧ SqL K H l2 xs ∧ (∀ v ∈ xs, flatB v = true ∨ ∃ a, v = .ref a) ∧ Q (.bl true) H
theorem op_eqSame {X : Cx} (hu : X.A.units + 64 < cLine) : OpR X (compareOp .Eq) (rEqSame X.K) := by
  intro pins s σ H x y v u Q I rx ry h
  obtain ⟨l, l2, xs, rfl, rfl, h1, h2, hs, q⟩ := h
  cases rx
  cases ry
  obtain ⟨us, r1, p1, _⟩ := I.list h1
  obtain ⟨ws, r2, p2, _⟩ := I.list h2
  have n1 := r1.length
  have n2 := r2.length
  have hsz : us.toArray.size = ws.toArray.size := by
    rw [List.size_toArray, List.size_toArray]
    omega
  have key := SeqAt.RcAt.lists (A := X.A) (e := fun _ => true) p1.isList p2.isList hsz (by omega) (fun j h1 h2 => ?_)
  · refine key X.prog X.w _ _ ?_
    rw [show ((List.range us.toArray.size).all fun _ => true) = true from List.all_eq_true.mpr fun _ _ => rfl]
    exact ⟨.bl true, H, I, rfl, q⟩
  · have j1 : j < us.length := by simpa using h1
    have jx : j < xs.length := by omega
    obtain ⟨a, ea, ra⟩ := Vals.get r1 (List.getElem?_eq_getElem jx)
    obtain ⟨b, eb, rb⟩ := Vals.get r2 (List.getElem?_eq_getElem jx)
    have e1 : us.toArray[j] = a := by
      have := List.getElem?_eq_getElem j1
      rw [this] at ea
      simpa using Option.some.inj ea
    have e2 : ws.toArray[j] = b := by
      have j2 : j < ws.length := by omega
      have := List.getElem?_eq_getElem j2
      rw [this] at eb
      simpa using Option.some.inj eb
    rw [e1, e2]
    rcases hs _ (List.getElem_mem jx) with hf | ⟨p, hp⟩
    · exact eqAt_same ra rb hf
    · rw [hp] at ra rb
      cases ra
      cases rb
      exact SeqAt.EqAt.same _
/-- comprehensions over enumerate of a list that stays -/
theorem lc_enum {K : PySem.W.Frag} {a : Addr} {xs : List V} {g : TG} {tt : TT} {te : TE} {vs : List Nat} {σ : L2.St} {H1 : Hp} {D : Addr} {Qd : Hp → Prop} (Pv : Nat → Hp → Prop) (h0 : Pv 0 (upd H1 D (.lst []))) (hl : ∀ i H, i ≤ xs.length → Pv i H → SqL K H a xs)
    (hs : ∀ (i : Nat) x H T, xs[i]? = some x → Pv i H → H T = none → g (.ref T) (wipe σ vs) (upd H T (.tup [.int (i : Int), x])) fun σ2 H2 => wipe σ2 vs = wipe σ vs ∧ tt σ2 H2 fun b H3 =>
      if b = true then te σ2 H3 fun y H4 => ∃ acc, H4 D = some (.lst acc) ∧ acc.length < sizeLine ∧ Pv (i + 1) (upd H4 D (.lst (acc ++ [y]))) else Pv (i + 1) H3) (hd : ∀ H, Pv xs.length H → Qd H) :
    ∃ W : Nat → Nat → Hp → Prop, (∃ m, W 0 m (upd H1 D (.lst []))) ∧ ∀ i m H, W i m H →
      ((Ite K a).stop i H ∧ Qd H) ∨ ((Ite K a).go i H ∧ ∃ Nx : Hp → Prop, (∀ H', Nx H' → ∃ m', m' < m ∧ W (i + 1) m' H') ∧ ∀ x H', (Ite K a).yld i H x H' → g x (wipe σ vs) H' fun σ2 H2 => wipe σ2 vs = wipe σ vs ∧ tt σ2 H2 fun b H3 =>
        if b = true then te σ2 H3 fun y H4 => ∃ acc, H4 D = some (.lst acc) ∧ acc.length < sizeLine ∧ Nx (upd H4 D (.lst (acc ++ [y]))) else Nx H3) := by
  refine ⟨fun i m H => m = xs.length - i ∧ i ≤ xs.length ∧ Pv i H, ⟨xs.length, by simp, Nat.zero_le _, h0⟩, ?_⟩
  rintro i m H ⟨em, hi, p⟩
  subst em
  have q := hl i H hi p
  rcases Nat.lt_or_ge i xs.length with hlt | hge
  · right
    refine ⟨⟨xs, xs[i], q, List.getElem?_eq_getElem hlt⟩, Pv (i + 1), fun H' p' => ⟨xs.length - (i + 1), by omega, rfl, hlt, p'⟩, ?_⟩
    rintro z H' ⟨T, x, ez, hT, eH, hx⟩
    subst ez
    subst eH
    exact hs i x H T (hx xs q) p hT
  · left
    have e : i = xs.length := by omega
    subst e
    exact ⟨⟨xs, q, Nat.le_refl _⟩, hd H p⟩
end OF
set_option maxHeartbeats 4000000
/-! set(xs) of a list or tuple of ints, sorted of it. -/
namespace OF
open PySem PySem.Spec PyProof.Rows L2
/-- an empty set, just made -/
abbrev setObj0 (w : World) : Obj := { cls := .type "set", dict := none, data := .set #[] 0 (.fresh 0 0 (!w.params.followText "set-order")) }
section
variable {P : Program} {w : World} {A : Around} {E : Value → Shared → Prop}
theorem set_of_list {h : Heap} {g : Array GenState} {d : Drawn} {t : Nat} {os : OsState} {l : Addr} {xs : Array Value} (ns : List Int) {Q : Value → Shared → Prop} (calm : A.handled = none) (lst : h.IsList l xs) (allInt : IntsAre xs.toList ns) (few : ns.length + 1 < scanBound)
    (fin : ∀ (h' : Heap) (tk c : Nat), SetR w h' h.objs.size (fun j => decide (j ∈ ns)) c → c ≤ ns.length → (∀ b o, h.get? b = some o → h'.get? b = some o) → Q (.ref h.objs.size) ⟨h', g, d, tk, os⟩) :
    wpAny (model P w) A (call (.type "set") [.ref l]) Q E ⟨h, g, d, t, os⟩ := by
  have size : xs.size = ns.length := by
    rw [← Array.length_toList]
    exact allInt.length
  obtain ⟨c, tl, hmro⟩ := F.called_set.mro
  have f1 := F.called_set.made
  have f2 := F.called_set.sub
  have f3 := F.called_set.notType
  have f4 := F.called_set.canCreate
  have f5 := F.typeCall_set_1 (.ref l)
  apply wpAny_call
  apply codeAny_of_tree
  show wpAny _ _ (callAny (.type "set") _) _ _ _
  apply wpAny_pure
  refine ⟨Code.quiet_builtin _ (by decide +kernel), codeAny_builtin F.entry_type_call ?_⟩
  rw [Around.under_plain (weight_type_call_type "set" [.ref l] []) rfl]
  repeat any_goals first
    | assumption
    | wp_step
  refine codeAny_mono (code_set_led1 (s := ⟨h, g, d, t, os⟩) (.ref l) (E := E) (Q₁ := fun v s1 => v = .ref h.objs.size ∧ s1 = ⟨h.push (setObj0 w), g, d, t, os⟩) ⟨rfl, rfl⟩) ?_
  intro r s1 z
  cases r with
  | error e => exact z
  | ok fl =>
    cases fl with
    | next => exact z.elim
    | brk => exact z.elim
    | cont => exact z.elim
    | ret v =>
      obtain ⟨ev, es⟩ := z
      subst ev es
      have there : (h.push (setObj0 w)).get? h.objs.size = some (setObj0 w) := Heap.get?_push_size _ rfl
      have isSet : Shared.TypeIs ⟨h.push (setObj0 w), g, d, t, os⟩ (.ref h.objs.size) "set" := ⟨_, there, rfl⟩
      have i1 := F.called_set.init.lookup
      have i2 := F.called_set.init.bind (.ref h.objs.size)
      repeat any_goals first
        | assumption
        | wp_step
      refine codeAny_mono (codeAny_call_builtin (R := wants (fun r s2 => r = .none ∧ ∃ h' tk c, s2 = ⟨h', g, d, tk, os⟩ ∧ SetR w h' h.objs.size (fun j => decide (j ∈ ns)) c ∧ c ≤ ns.length ∧ (∀ b o, h.get? b = some o → h'.get? b = some o)) E)
        F.called_set.init.plain F.entry_set_init (check_set_init_1 isSet ?inner)) ?outer
      case outer =>
        intro r2 s2 z2
        cases r2 with
        | error e => exact z2
        | ok fl2 =>
          cases fl2 with
          | next => exact z2.elim
          | brk => exact z2.elim
          | cont => exact z2.elim
          | ret v2 =>
            obtain ⟨ev, h', tk, c', es, hS, hc, hk⟩ := z2
            subst ev es
            repeat any_goals first
              | assumption
              | wp_step
            exact fin _ _ _ hS hc hk
      case inner =>
        obtain ⟨o1, ho1, hc1, m1, hd1⟩ := lst
        obtain ⟨k1, k2, k3, k4⟩ := o1
        simp only at hc1 hd1
        subst hc1 hd1
        have there2 : (h.push (setObj0 w)).get? l = some { cls := .type "list", dict := k2, data := .seq xs m1, slots := k4 } := Heap.get?_push_of_some _ ho1
        have s1 := F.sub_list_set
        have s2 := F.sub_list_frozenset
        have apart : (Value.type "list" == Value.type "dict") = false := by decide
        have lst1 : (h.push (setObj0 w)).IsList l xs := ⟨_, there2, rfl, m1, rfl⟩
        unfold Builtin.«set.__init__» noKeywords Builtin.Frozenset.updateFrom
        generalize same : pyIter = PI
        wp_walk
        subst same
        apply wpAny_pyIter_list lst1
        apply wpAny_bind
        apply wpAny_runValue
        have below : l < h.objs.size := Heap.lt_size ho1
        have calm3 : A.in1.in1.in1.handled = none := by simp [calm]
        have sz : (h.push (setObj0 w)).objs.size = h.objs.size + 1 := Heap.size_push ..
        have ne1 : l ≠ (h.push (setObj0 w)).objs.size := by
          rw [sz]
          exact Nat.ne_of_lt (Nat.lt_succ_of_lt below)
        have ne2 : h.objs.size ∉ [(h.push (setObj0 w)).objs.size, l] := by
          rw [sz]
          simp only [List.mem_cons, List.not_mem_nil, or_false, not_or]
          exact ⟨Nat.ne_of_lt (Nat.lt_succ_self _), Nat.ne_of_gt below⟩
        have vals : ∀ (i : Nat) (v : Value), xs[i]? = some v → ∃ k t, ns[i]? = some k ∧ v = .int k t := by
          intro i v hv
          have hi : i < ns.length := by
            rw [← size]
            exact (Array.getElem?_eq_some_iff.mp hv).1
          obtain ⟨t, e⟩ := PyProof.Rows.IntsAre.int_at allInt i v (by rw [Array.getElem?_toList]; exact hv)
          rw [List.getD_eq_getElem?_getD, List.getElem?_eq_getElem hi] at e
          exact ⟨ns[i], t, List.getElem?_eq_getElem hi, e⟩
        refine set_update_ints ((Walks.list calm3 _ l ne1 xs).toS) h.objs.size ne2 ns size few vals (xs.size - 0) 0 _ (by omega) (Nat.zero_le _) ⟨⟨_, Heap.get?_push_size _ rfl, rfl, rfl⟩, (lst1.push _)⟩ ?start ?stop
        case start =>
          have got : ((h.push (setObj0 w)).push { cls := .type "list_iterator", data := .fields #[.ref l, .int 0 0] }).get? h.objs.size = some (setObj0 w) := Heap.get?_push_of_some _ there
          exact ⟨0, Nat.le_refl 0, setR_new_at got⟩
        case stop =>
          intro s' c' hm hc' hS
          obtain ⟨h', g2, d2, tk, os2⟩ := s'
          have eg : g2 = g := hm.gens
          have ed : d2 = d := hm.drawn
          have eo : os2 = os := hm.os
          subst eg ed eo
          show wpAny _ _ _ _ _ _
          apply wpAny_pure
          show wpAny _ _ (ret Value.none) _ _ _
          rw [size] at hc'
          apply wpAny_pure
          refine ⟨rfl, h', tk, c', rfl, hS, hc', fun b o z => ?_⟩
          have b0 : b < h.objs.size := Heap.lt_size z
          refine hm.heap b o ?_ (Heap.get?_push_of_some _ (Heap.get?_push_of_some _ z))
          simp only [List.mem_cons, List.not_mem_nil, or_false, not_or]
          rw [sz]
          exact ⟨Nat.ne_of_lt b0, Nat.ne_of_lt (Nat.lt_succ_of_lt b0)⟩
end
section
variable {X : Cx}
/-- set(xs): xs a list or tuple of ints -/
def rSetB (K : PySem.W.Frag) (w : World) : List V → Hp → VK → Prop := fun xs H Q => ∃ (l : Addr) (ns : List Int), xs = [.ref l] ∧ (SqL K H l (ns.map V.int) ∨ SqT K H l (ns.map V.int)) ∧ ns.length ≤ 4000 ∧
  ∀ (p : Addr) (ks : List Int), H p = none → ks.Nodup → (∀ k, k ∈ ks ↔ k ∈ ns) → Q (.ref p) (upd H p (SetO w p (fun j => decide (j ∈ ns)) ks.length))
theorem ints_vals : ∀ {ns : List Int} {us : List Value}, Vals (ns.map V.int) us → IntsAre us ns
  | [], _, .nil => .nil
  | _ :: ns, _, .cons r t => by
    obtain ⟨k, rfl⟩ := r
    exact .cons _ k (ints_vals t)
theorem cr_setB (hc : X.calm = true) : CallR X (.type "set") (rSetB X.K X.w) := by
  intro pins s σ H xs us Q I r h
  obtain ⟨l, ns, rfl, hl, few, q⟩ := h
  obtain ⟨u, rfl, ru⟩ := vals1 r
  cases ru
  have hn : H s.heap.objs.size = none := I.hok.fresh (Nat.le_refl _)
  have room : ns.length + 1 < scanBound := by
    unfold scanBound
    omega
  have fin : ∀ (h' : Heap) (tk c : Nat), SetR X.w h' s.heap.objs.size (fun j => decide (j ∈ ns)) c → c ≤ ns.length → (∀ b o, s.heap.get? b = some o → h'.get? b = some o) → EP X pins σ Q (.ref s.heap.objs.size) { s with heap := h', toks := tk } := by
    intro h' tk c R hc2 k
    have R2 := R
    obtain ⟨o, es, ep, st, _, _, _, _, nd, mem, _, _, ec, _⟩ := R2
    have e : (es.toList.map keyOf).length = c := by rw [List.length_map, Array.length_toList, ec]
    have q2 := q s.heap.objs.size (es.toList.map keyOf) hn nd fun k => ⟨fun z => of_decide_eq_true ((mem k).mpr z), fun z => (mem k).mp (decide_eq_true z)⟩
    rw [e] at q2
    exact ⟨.ref s.heap.objs.size, _, I.laid (t' := tk) k (Nat.le_refl _) (setO_new R), rfl, q2⟩
  rcases hl with hl | hl
  · obtain ⟨its, rv, pl, _⟩ := I.list hl
    obtain ⟨hp, g, d, t, os⟩ := s
    exact set_of_list ns (I.ok.hd hc) pl.isList (by simpa using ints_vals rv) room fin
  · obtain ⟨its, rv, pl, _⟩ := I.tuple hl
    exact call_set_tupI ns (I.ok.hd hc) pl (by simpa using ints_vals rv) room fin
/-- .. of few ints -/
def rSetI (K : PySem.W.Frag) (w : World) : List V → Hp → VK → Prop := fun xs H Q => ∃ (l : Addr) (ns : List Int), xs = [.ref l] ∧ (SqL K H l (ns.map V.int) ∨ SqT K H l (ns.map V.int)) ∧ ns.length ≤ 60 ∧
  ∀ (p : Addr) (ks : List Int), H p = none → ks.Nodup → (∀ k, k ∈ ks ↔ k ∈ ns) → Q (.ref p) (upd H p (SetO w p (fun j => decide (j ∈ ns)) ks.length))
theorem cr_setI (hc : X.calm = true) : CallR X (.type "set") (rSetI X.K X.w) := fun pins s σ H xs us Q I r ⟨l, ns, e, hl, few, q⟩ => cr_setB hc pins s σ H xs us Q I r ⟨l, ns, e, hl, Nat.le_trans few (by decide), q⟩
/-- len of such a set -/
def rLenSetO (w : World) : List V → Hp → VK → Prop := fun xs H Q => ∃ (a : Addr) (S : Int → Bool) (n : Nat), xs = [.ref a] ∧ H a = some (SetO w a S n) ∧ Q (.int n) H
theorem call_lenSetO : CallR X (.builtin "len") (rLenSetO X.w) := by
  intro pins s σ H xs us Q I r h
  obtain ⟨a, S, n, rfl, ha, q⟩ := h
  obtain ⟨u, rfl, ru⟩ := vals1 r
  cases ru
  obtain ⟨o, es, ep, t, ho, hx, hd, _, _, _, fits, small, en, _⟩ := setO_get I ha
  refine call_len_set ho hx hd small (by unfold scanBound at fits; omega) ⟨.int n, H, I.tok _, ⟨_, by rw [en]⟩, q⟩
end
end OF
set_option maxHeartbeats 4000000
/-! sorted(set(..)) of pairs of any ints. -/
namespace OF
open PySem PySem.Spec PyProof.Rows L2
theorem perm_back {α β : Type} {f : α → β} {l m : List β} (h : l.Perm m) : ∀ L : List α, m = L.map f → ∃ L' : List α, L'.Perm L ∧ l = L'.map f := by
  induction h with
  | nil =>
    intro L e
    exact ⟨L, List.Perm.refl _, e⟩
  | cons x _ ih =>
    intro L e
    cases L with
    | nil => cases e
    | cons y L =>
      have e2 := List.cons.inj e
      obtain ⟨L', p, q⟩ := ih L e2.2
      exact ⟨y :: L', p.cons y, by rw [q, e2.1]; rfl⟩
  | swap x y l =>
    intro L e
    match L, e with
    | [], e => cases e
    | [_], e => cases (List.cons.inj e).2
    | a :: b :: L, e =>
      obtain ⟨e1, e2⟩ := List.cons.inj e
      obtain ⟨e3, e4⟩ := List.cons.inj e2
      exact ⟨b :: a :: L, List.Perm.swap _ _ _, by rw [e1, e3, e4]; rfl⟩
  | trans _ _ ih1 ih2 =>
    intro L e
    obtain ⟨L2, p2, q2⟩ := ih2 L e
    obtain ⟨L1, p1, q1⟩ := ih1 L2 q2
    exact ⟨L1, p1.trans p2, q1⟩
/-- a list of two ints as a pair -/
def duo : List Int → Int × Int
  | [x, y] => (x, y)
  | _ => (0, 0)
section
variable {P : Program} {w : World} {A : Around} {E : Value → Shared → Prop} {s : Shared}
theorem sorted_set_duos {a : Addr} {L : List (Addr × List Int)} {es : Array (Int × Value)} {ep : Nat} {t : SetTable} {Q : Value → Shared → Prop} (R : SetTR P w s.heap a L es ep t) (calm : A.handled = none) (two : ∀ p ∈ L, p.2.length = 2)
    (fin : ∀ (s' : Shared) (p : Addr) (out : List Value) (c : Nat) (L' : List (Addr × List Int)), (∀ b o, s.heap.get? b = some o → s'.heap.get? b = some o) → s'.gens = s.gens → s'.os = s.os → s.heap.objs.size ≤ p →
      s'.heap.get? p = some (seqObj "list" out.toArray c) → out = L'.map (fun q => Value.ref q.1) → L'.Perm L → L'.Pairwise (fun q r => SrtO.lexB (duo r.2) (duo q.2) = false) → Q (.ref p) s') : wpAny (model P w) A (call (.builtin "sorted") [.ref a]) Q E s := by
  obtain ⟨o, ho, hx, hd⟩ := R.ob
  have hsz := R.size
  have few := R.few
  apply Calls.call_function_entry kind_sorted plain_sorted entry_sorted (args_sorted1 _)
  unfold Builtin.«sorted»
  refine wpAny_bind (m := checkCount "sorted" 1 1 _) (wpAny_pure ?_)
  apply wpAny_bind
  apply collect_set (A := A.in1) calm ⟨o, ho, hx.1, hd⟩ R.fits (by unfold scanBound; omega) R.tab.ris R.led
  intro s1 vs k1 z1 g1 o1 pm
  have rows : es.toList.map (·.2) = L.map fun q => Value.ref q.1 := by
    rw [R.rows]
    unfold rowsOf
    rw [List.map_map] <;> rfl
  rw [rows] at pm
  have short : vs.length < 64 := by
    rw [pm.length_eq, List.length_map]
    exact few
  have room : vs.length ≤ sizeLine := by
    rw [sizeLine_eq]
    omega
  refine wpAny_bind (wpAny_newList ?_ room)
  have laid : (s1.heap.push (seqObj "list" vs.toArray 0)).get? s1.heap.objs.size = some (seqObj "list" vs.toArray 0) := Heap.get?_push_size _ rfl
  have tup : ∀ q ∈ L, TS.TupInts (s1.heap.push (seqObj "list" vs.toArray 0)) (.ref q.1) q.2 := by
    intro q hq
    exact tupInts_of (P := P) (w := w) (isT_keep (R.tup q hq) fun b u e => Heap.get?_push_of_some _ (k1 b u e))
  have pair : ∀ v ∈ vs, Srt.IsPair (s1.heap.push (seqObj "list" vs.toArray 0)) v (duo (TS.intsOf (s1.heap.push (seqObj "list" vs.toArray 0)) v)).1 (duo (TS.intsOf (s1.heap.push (seqObj "list" vs.toArray 0)) v)).2 := by
    intro v hv
    obtain ⟨q, hq, e⟩ := List.mem_map.mp (pm.mem_iff.mp hv)
    subst e
    rw [(tup q hq).ints]
    obtain ⟨b, xs, e1, ⟨u, hu, hc, m, hd2⟩, ii⟩ := tup q hq
    have l2 := two q hq
    match hq2 : q.2, l2 with
    | [x, y], _ =>
      rw [hq2] at ii
      obtain ⟨xl⟩ := xs
      cases ii with
      | cons t1 k1' r1 => cases r1 with
        | cons t2 k2' r2 => cases r2 with
          | nil => exact ⟨b, u, _, _, m, e1, hu, hc, hd2⟩
  refine wpAny_bind (wpAny_holding (wpAny_call_entry slot_list_sort ⟨_, laid, rfl⟩ entry_list_sort (SrtO.list_sort_ord (s := { s1 with heap := s1.heap.push (seqObj "list" vs.toArray 0) }) (SrtO.swo_lex fun v => duo (TS.intsOf (s1.heap.push (seqObj "list" vs.toArray 0)) v)) laid room (fun h2 => ?sorts) fun out hs hb => ⟨_, rfl, ?done⟩) (args_list_sort _)))
  case sorts =>
    refine SrtO.pairs_sortableO (by omega) pair ?_
    intro u hu c
    rw [laid] at hu
    have := Option.some.inj hu
    subst this
    exact absurd (Value.type.inj c) (by decide)
  case done =>
    obtain ⟨c, hc⟩ := sortedHeap_at (vs := vs) (out := out.toArray) laid
    obtain ⟨L', pL, eL⟩ := perm_back (hb.perm.trans pm) L rfl
    refine wpAny_pure ⟨_, rfl, fin _ s1.heap.objs.size out c L' ?_ g1 o1 z1 hc eL pL ?_⟩
    · intro b u e
      have q := k1 b u e
      have lt := Heap.lt_size q
      show (sortedHeap (s1.heap.push (seqObj "list" vs.toArray 0)) s1.heap.objs.size vs out.toArray).get? b = some u
      rw [sortedHeap_old (Nat.ne_of_lt lt) (by rw [size_push']; exact Nat.lt_succ_of_lt lt)]
      exact Heap.get?_push_of_some _ q
    · have hs2 := hs
      rw [eL] at hs2
      refine List.Pairwise.imp_of_mem (fun {q r} hq hr z => ?_) (List.pairwise_map.mp hs2)
      have z2 : SrtO.lexB (duo (TS.intsOf (s1.heap.push (seqObj "list" vs.toArray 0)) (.ref r.1))) (duo (TS.intsOf (s1.heap.push (seqObj "list" vs.toArray 0)) (.ref q.1))) = false := z
      rw [(tup q (pL.mem_iff.mp hq)).ints, (tup r (pL.mem_iff.mp hr)).ints] at z2
      exact z2
end
section
variable {X : Cx}
/-- sorted of a set of pairs of ints -/
def rSortedDuo (K : PySem.W.Frag) (P : Program) (w : World) : List V → Hp → VK → Prop := fun vs H Q => ∃ (a : Addr) (L : List (Addr × List Int)), vs = [V.ref a] ∧ H a = some (SetTO P w a L) ∧ (∀ p ∈ L, SqT K H p.1 (p.2.map V.int)) ∧ (∀ p ∈ L, p.2.length = 2) ∧
  ∀ (L' : List (Addr × List Int)) (p : Addr), L'.Perm L → (L'.map (·.2)).Nodup → L'.length < 64 → L'.Pairwise (fun q r => SrtO.lexB (duo r.2) (duo q.2) = false) → H p = none → Q (.ref p) (upd H p (.lst (L'.map fun q => V.ref q.1)))
theorem cr_sortedDuo (hc : X.calm = true) : CallR X (.builtin "sorted") (rSortedDuo X.K X.prog X.w) := by
  intro pins s σ H vs us Q I r h
  obtain ⟨a, L, rfl, ha, hk, two, q⟩ := h
  obtain ⟨u, rfl, ru⟩ := vals1 r
  cases ru
  have R0 : SetT0 X.prog X.w s.heap a L := (I.hok a _ ha).1
  obtain ⟨es, ep, t, R⟩ := R0.full fun p hp => I.isT (hk p hp)
  apply sorted_set_duos R (I.ok.hd hc) two
  intro s' p out c L' k g o hp hg eo pm pw
  have short : L'.length < 64 := by
    rw [pm.length_eq]
    exact R.few
  have room : (L'.map fun q => V.ref q.1).length ≤ sizeLine := by
    rw [List.length_map, sizeLine_eq]
    omega
  have free : H p = none := I.hok.fresh hp
  subst eo
  have vals : Vals (L'.map fun q => V.ref q.1) (L'.map fun q => Value.ref q.1) := vals_of_refs L'
  obtain ⟨h', g', d', t', o'⟩ := s'
  have e1 : g' = s.gens := g
  have e2 : o' = s.os := o
  subst e1 e2
  have J : Inv X pins σ (upd H p (.lst (L'.map fun q => V.ref q.1))) ⟨h', s.gens, d', t', s.os⟩ :=
    I.call (ch := []) (Un.laid k hp free) (I.hok.laid k hp ⟨room, _, c, vals, hg⟩) I.bare (fun _ z => nomatch z)
  exact ⟨.ref p, _, J, rfl, q L' p pm ((pm.map (·.2)).nodup_iff.mpr R.nd) short pw free⟩
end
end OF
namespace OF
open PySem PySem.Spec PyProof.Rows L2
section
variable {X : Cx}
/-- x not in a tuple of data -/
def rNotInT (K : PySem.W.Frag) : R2 := fun x y H Q => ∃ d ds, Dp K H x d ∧ Dp K H y (.tuple ds) ∧ SeqAt.shaped d = true ∧ SeqAt.shaped (.tuple ds) = true ∧ Q (.bl (!ds.any fun z => PyData.eqv z d)) H
theorem op_notInT (hu : X.A.units + 65 < cLine) : OpR X (compareOp .NotIn) (rNotInT X.K) := by
  intro pins s σ H x y v u Q I rx ry h
  obtain ⟨d, ds, hd, he, sd, se, q⟩ := h
  obtain ⟨as, r1⟩ := Dp.reads I d x v hd rx
  obtain ⟨bs, r2⟩ := Dp.reads I (.tuple ds) y u he ry
  exact SeqAt.notIn_tuple_reads r2 r1 (SeqAt.canLay_of_shaped se) (SeqAt.canLay_of_shaped sd) (room_in_shaped sd hu) ⟨.bl _, H, I, rfl, q⟩
end
end OF
/-! x in o and o == p of instances of an own class with __contains__, __eq__ of its own. -/
namespace OF
open PySem PySem.Spec PyProof.Rows L2
section
variable {M : Model} {A : Around} {E : Value → Shared → Prop} {s : Shared} {K : PySem.W.Frag} {x C f : Addr} {ox : Obj} {od : Option Obj} {v : Value}
theorem contains_own {Q : Bool → Shared → Prop} (X : K.In s.heap) (I : PySem.W.InstAt s.heap x ox C od) (hs : PySem.W.findIn K (.ref C) "__contains__" = some (some (.ref f))) (hf : PySem.W.isFn K (.ref f) = true)
    (h : wpAny M A (call (.ref f) [.ref x, v]) (fun r s' => ∃ b, r = .bool b ∧ Q b s') E s) : wpAny M A (contains (.ref x) v) Q E s := by
  unfold contains
  refine wpAny_holding ?_
  rw [show stdlibNamesSay? (.ref x) v = none from by unfold stdlibNamesSay?; split <;> simp_all]
  refine wpAny_bind (m := specialOf (.ref x) (Str.ofString "__contains__")) (wpAny_bind (I.type.here ((PySem.W.looks_findIn X hs).here ?_)))
  show wpAny M A (if (some (Value.ref f) == some Value.none) = true then _ else _) Q E s
  rw [if_neg (by simp)]
  refine wpAny_bind (m := callSpecialUnlessNone? (.ref x) (Str.ofString "__contains__") [v] _) ?_
  unfold callSpecialUnlessNone?
  refine wpAny_bind (m := specialOf (.ref x) (Str.ofString "__contains__")) (wpAny_bind (I.type.here ((PySem.W.looks_findIn X hs).here ?_)))
  refine wpAny_holding (wpAny_bind ((PySem.W.bind_fn X _ (beq_iff_eq.mp hf)).here ?_))
  show wpAny M A (if (Value.ref f == Value.none) = true then _ else _) _ E s
  rw [if_neg (by simp)]
  refine wpAny_bind (wpAny_mono h (fun r s' hr => ?_) fun _ _ e => e)
  obtain ⟨b, rfl, q⟩ := hr
  exact wpAny_pure (wpAny_pure q)
end
section
variable {X : Cx} {CX : CXT} {n : Nat} {f C : Addr} {fd : FuncData} {ps : List Str} {sp : Sp} {E : XK}
/-- x in o, o an instance of the class at C with its own __contains__ -/
def rInOwn (C : Addr) (sp : Sp) (E : XK) (neg : Bool) : R2 := fun x y H Q => ∃ a dx fs, y = .ref a ∧ H a = some (.ins C dx fs) ∧ sp [y, x] H (fun z H' => ∃ b : Bool, z = .bl b ∧ Q (.bl (if neg then !b else b)) H') E
theorem op_inOwn (hs : PySem.W.findIn X.K (.ref C) "__contains__" = some (some (.ref f))) (hf : PySem.W.isFn X.K (.ref f) = true) (F : FnOk X.prog X.w X.K X.mg X.base CX n f fd ps sp) (hb : Binds X.K fd ps []) (hr : Room n X.A) (hx : Passes CX X E) :
    OpR X (compareOp .In) (rInOwn C sp E false) := by
  intro pins s σ H x y v u Q I rx ry h
  obtain ⟨a, dx, fs, rfl, ha, q⟩ := h
  cases (show u = Value.ref a from ry)
  obtain ⟨mA, J, _⟩ := ins_get I.hok ha
  obtain ⟨od, J, _⟩ := J.look
  show wpAny _ _ (do return Value.bool (← contains (.ref a) v)) _ _ _
  refine wpAny_bind (contains_own I.kIn J hs hf (wpAny_mono (run_fn (us := [.ref a, v]) (vs := [.ref a, x]) F hr hb .nil hx I (.cons rfl (.cons rx .nil)) q) (fun r s' z => ?_) fun _ _ e => e))
  obtain ⟨z', H', I', rz, b, rfl, q'⟩ := z
  cases rz
  exact ⟨b, rfl, wpAny_pure ⟨.bl b, H', I', rfl, q'⟩⟩
theorem op_notInOwn (hs : PySem.W.findIn X.K (.ref C) "__contains__" = some (some (.ref f))) (hf : PySem.W.isFn X.K (.ref f) = true) (F : FnOk X.prog X.w X.K X.mg X.base CX n f fd ps sp) (hb : Binds X.K fd ps []) (hr : Room n X.A) (hx : Passes CX X E) :
    OpR X (compareOp .NotIn) (rInOwn C sp E true) := by
  intro pins s σ H x y v u Q I rx ry h
  obtain ⟨a, dx, fs, rfl, ha, q⟩ := h
  cases (show u = Value.ref a from ry)
  obtain ⟨mA, J, _⟩ := ins_get I.hok ha
  obtain ⟨od, J, _⟩ := J.look
  show wpAny _ _ (do return Value.bool (!(← contains (.ref a) v))) _ _ _
  refine wpAny_bind (contains_own I.kIn J hs hf (wpAny_mono (run_fn (us := [.ref a, v]) (vs := [.ref a, x]) F hr hb .nil hx I (.cons rfl (.cons rx .nil)) q) (fun r s' z => ?_) fun _ _ e => e))
  obtain ⟨z', H', I', rz, b, rfl, q'⟩ := z
  cases rz
  exact ⟨b, rfl, wpAny_pure ⟨.bl (!b), H', I', rfl, q'⟩⟩
/-- o == p, two instances of the class at C with its own __eq__ -/
def rEqOwn (C : Addr) (sp : Sp) (E : XK) : R2 := fun x y H Q => ∃ a dx fs b dy gs, x = .ref a ∧ y = .ref b ∧ H a = some (.ins C dx fs) ∧ H b = some (.ins C dy gs) ∧ sp [x, y] H (fun z H' => ∃ b : Bool, z = .bl b ∧ Q z H') E
theorem op_eqOwn (hs : PySem.W.findIn X.K (.ref C) "__eq__" = some (some (.ref f))) (hf : PySem.W.isFn X.K (.ref f) = true) (F : FnOk X.prog X.w X.K X.mg X.base CX n f fd ps sp) (hb : Binds X.K fd ps []) (hr : Room n X.A) (hx : Passes CX X E) :
    OpR X (compareOp .Eq) (rEqOwn C sp E) := by
  intro pins s σ H x y v u Q I rx ry h
  obtain ⟨a, dx, fs, b, dy, gs, rfl, rfl, ha, hb', q⟩ := h
  cases (show v = Value.ref a from rx)
  cases (show u = Value.ref b from ry)
  obtain ⟨mA, J, _⟩ := ins_get I.hok ha
  obtain ⟨od, J, _⟩ := J.look
  obtain ⟨mB, J', _⟩ := ins_get I.hok hb'
  obtain ⟨od', J', _⟩ := J'.look
  obtain ⟨m, hF⟩ := I.fr
  refine PySem.W.cmp_K (op := .Eq) (tb := .ref C) hr.units0 hF I.ok.mod.kin J J'.type (by simp [PySem.W.notFirst]) hs hf ?_
  refine wpAny_mono (run_fn (us := [.ref a, .ref b]) (vs := [.ref a, .ref b]) F hr hb .nil hx I (.cons rfl (.cons rfl .nil)) q) (fun w s' z => ?_) fun _ _ e => e
  obtain ⟨z', H', I', rz, c, rfl, q'⟩ := z
  cases rz
  exact ⟨.bl c, H', I', rfl, q'⟩
end
end OF
/-! tuples: t + u, t[lo:hi], t[::-1] where the answer may be an operand itself; zip of tuples walked. -/
namespace OF
open PySem PySem.Spec PyProof.Rows L2
section
variable {X : Cx}
/-- t + u -/
def rCat2 : R2 := fun x y H Q => ∃ a b xs ys, x = .ref a ∧ y = .ref b ∧ H a = some (.tup xs) ∧ H b = some (.tup ys) ∧ xs.length + ys.length ≤ sizeLine ∧ ∀ p H', Same H H' → H' p = some (.tup (xs ++ ys)) → Q (.ref p) H'
theorem op_cat2 : OpR X (binaryOp .Add) rCat2 := by
  intro pins s σ H x y v u Q I rx ry h
  obtain ⟨a, b, xs, ys, rfl, rfl, ha, hb, hz, q⟩ := h
  refine op_catA pins s σ H _ _ v u Q I rx ry ⟨a, b, xs, ys, rfl, rfl, SqT.of ha, SqT.of hb, hz, fun e => ?_, fun _ e => ?_, fun _ _ p hp => q p _ (same_new hp) upd_same⟩
  · subst e
    exact q b H (Same.refl H) hb
  · subst e
    exact q a H (Same.refl H) (by rw [List.append_nil]; exact ha)
theorem cutV_whole (xs : List V) (lo hi : Option Int) (h : HT.sIx xs.length 0 lo = 0 ∧ HT.sIx xs.length xs.length hi = xs.length) : cutV xs lo hi = xs := by
  unfold cutV
  rw [h.1, h.2, List.drop_zero, Nat.sub_zero, List.take_length]
/-- t[lo:hi] -/
def rSl2 : V → Option Int → Option Int → Hp → VK → Prop := fun x lo hi H Q => ∃ a xs, x = .ref a ∧ H a = some (.tup xs) ∧ ∀ p H', Same H H' → H' p = some (.tup (cutV xs lo hi)) → Q (.ref p) H'
theorem sl_tup2 : SlR X rSl2 := by
  intro pins s σ H x v vl vu lo hi sl Q I rx hs pl pu h
  obtain ⟨a, xs, rfl, hx, q⟩ := h
  refine sl_tupA pins s σ H _ v vl vu lo hi sl Q I rx hs pl pu ⟨a, xs, rfl, SqT.of hx, fun e => q a H (Same.refl H) (by rw [cutV_whole xs lo hi e]; exact hx), fun _ p hp => q p _ (same_new hp) upd_same⟩
end
/-! ### t[::-1] -/
section
variable {prog : Program} {w : World} {A : Around} {E : Value → Shared → Prop} {s : Shared}
theorem sliceApplied_rev {sl : Addr} {vs : Value} {n : Nat} {Q : Int × Int × Nat → Shared → Prop} (hs : s.heap.IsSliceOf sl .none .none vs) (ps : PySem.IsPart vs (some (-1)))
    (h : Q ((n : Int) - 1, -1, n) s) : wpAny (model prog w) A (Builtin.Slice.sliceApplied (.ref sl) (pure (n : Int))) Q E s := by
  obtain ⟨os, hos, hcs, hds⟩ := id hs
  unfold Builtin.Slice.sliceApplied Builtin.Slice.sliceFields
  refine wpAny_bind (wpAny_bind (wpAny_field hos hds (x := .none) rfl (wpAny_bind (wpAny_field hos hds (x := .none) rfl (wpAny_bind (wpAny_field hos hds (x := vs) rfl (wpAny_pure ?_)))))))
  refine wpAny_bind (HT.slicePart_ ps ?_)
  show wpAny _ _ (if ((-1 : Int) == 0) = true then _ else _) _ _ s
  rw [if_neg (by decide)]
  refine wpAny_bind (slicePart_none (wpAny_bind (slicePart_none (wpAny_bind (wpAny_pure ?_)))))
  show wpAny _ _ (pure ((n : Int) - 1, (-1 : Int), Builtin.Slice.slicePlaces ((n : Int) - 1) (-1) (-1))) _ _ s
  have e : Builtin.Slice.slicePlaces ((n : Int) - 1) (-1) (-1) = n := by
    unfold Builtin.Slice.slicePlaces
    have h1 : ¬ ((-1 : Int) > 0) := by decide
    simp only [h1, if_false]
    split
    · rw [show (- -1 : Int) = 1 by decide, Int.ediv_one]
      omega
    · omega
  rw [e]
  exact wpAny_pure h
theorem fm_congr {α β : Type} {f g : α → Option β} : ∀ {l : List α}, (∀ x ∈ l, f x = g x) → l.filterMap f = l.filterMap g
  | [], _ => rfl
  | x :: l, h => by
    rw [List.filterMap_cons, List.filterMap_cons, h x List.mem_cons_self, fm_congr fun y hy => h y (List.mem_cons_of_mem _ hy)]
theorem pick_rev (xs : Array Value) : ((List.range xs.size).filterMap fun (k : Nat) => xs[(((xs.size : Int) - 1) + (k : Int) * (-1)).toNat]?).toArray = xs.toList.reverse.toArray := by
  have e : (List.range xs.size).filterMap (fun (k : Nat) => xs[(((xs.size : Int) - 1) + (k : Int) * (-1)).toNat]?) = ((List.range xs.size).map fun k => xs.size - 1 - k).filterMap (xs[·]?) := by
    rw [List.filterMap_map]
    refine fm_congr fun k hk => ?_
    have := List.mem_range.mp hk
    have e2 : (((xs.size : Int) - 1) + (k : Int) * (-1)).toNat = xs.size - 1 - k := by omega
    show _ = xs[xs.size - 1 - k]?
    rw [e2]
  rw [e, PySem.W.krv_range, List.filterMap_reverse, PySem.W.krv_all]
theorem getItem_tuple_rev {t sl : Addr} {items : Array Value} {vs : Value} {Q : Value → Shared → Prop} (ht : IsTup s.heap t items) (hs : s.heap.IsSliceOf sl .none .none vs) (ps : PySem.IsPart vs (some (-1)))
    (h : Q (.ref s.heap.objs.size) { s with heap := s.heap.push { cls := .type "tuple", data := .seq items.toList.reverse.toArray } })
    (hsz : items.size ≤ sizeLine) : wpAny (model prog w) A (getItem (.ref t) (.ref sl)) Q E s := by
  have htake : sizeOk (.seq items.toList.reverse.toArray) := by
    show items.toList.reverse.toArray.size ≤ sizeLine
    rw [List.size_toArray, List.length_reverse, Array.length_toList]
    exact hsz
  obtain ⟨os, hos, hcs, hds⟩ := id hs
  have hTs : s.TypeIs (.ref sl) "slice" := ⟨os, hos, hcs⟩
  unfold getItem
  try with_reducible refine wpAny_holding ?_
  first | refine wpAny_bind (wpAny_pure ?_) | skip
  refine wpAny_bind (wpAny_sequenceKey ht.typeIs (by decide) ?_)
  refine wpAny_bind (wpAny_callSpecial?_slot (name := Str.ofString "__getitem__") ht.typeIs PyProof.Rows.slot_tuple_getitem
    (wpAny_call_entry PyProof.Rows.slot_tuple_getitem ht.typeIs entry_tuple_getitem ?_ (args_tuple_getitem _ _)))
  show wpAny _ _ (Builtin.Tuple.tupleItemsOf (.ref t) >>= _) _ _ s
  refine wpAny_bind (tupleItemsOf_ ht ?_)
  refine wpAny_bind (wpAny_typeOf hTs ?_)
  rw [if_pos (by decide)]
  refine wpAny_bind (sliceApplied_rev hs ps ?_)
  have hno : ¬ ((((items.size : Int) - 1) == 0 && (-1 : Int) == 1 && items.size == items.size) = true) := by
    intro q
    rw [Bool.and_eq_true, Bool.and_eq_true] at q
    exact absurd q.1.2 (by decide)
  show wpAny _ _ (if (((items.size : Int) - 1) == 0 && (-1 : Int) == 1 && items.size == items.size) = true then _ else _) _ _ s
  rw [if_neg hno, pick_rev]
  first
    | exact wpAny_bind (m := Builtin.Tuple.tupleExact _) (wpAny_newObj_type (wpAny_pure ⟨_, rfl, wpAny_pure h⟩) htake)
    | exact wpAny_bind (m := Builtin.Tuple.tupleExact _) (wpAny_newObj_type (wpAny_bind (wpAny_pure (wpAny_pure ⟨_, rfl, wpAny_pure h⟩))) htake)
    | exact wpAny_bind (wpAny_bind (m := Builtin.Tuple.tupleExact _) (wpAny_newObj_type (wpAny_pure (wpAny_pure ⟨_, rfl, wpAny_pure h⟩)) htake))
    | exact wpAny_bind (wpAny_bind (m := Builtin.Tuple.tupleExact _) (wpAny_newObj_type (wpAny_pure ⟨_, rfl, wpAny_pure h⟩) htake))
end
section
variable {X : Cx}
def tRevT (K : PySem.W.Frag) (te : TE) : TE := fun σ H Q => te σ H fun x H1 => ∃ a xs, x = .ref a ∧ SqT K H1 a xs ∧ ∀ p, H1 p = none → Q (.ref p) (upd H1 p (.tup xs.reverse))
theorem pe_revT {e : Expr} {te : TE} {k : Nat} {p1 p2 p3 pos : Pos} (he : PE X e te) : PE X (.Subscript e (.Slice none none (some (.UnaryOp .USub (.Constant (.int 1) k p1) p2)) p3) pos) (tRevT X.K te) := by
  refine ⟨fun pins s σ H Q I h => ?_⟩
  refine Subscript_ (thn (he.run pins s σ H _ I h) fun v s1 ⟨x, H1, I1, r1, q1⟩ => ?_)
  obtain ⟨a, xs, ex, hx, q⟩ := q1
  subst ex
  cases r1
  have hst : PO X (some (.UnaryOp .USub (.Constant (.int 1) k p1) p2)) (tPart (tUn (rU fun i => .int (-i)) (tC (.int 1)))) := po_some (pe_un un_neg pe_int)
  refine wpAny_Slice (thn (po_none.run pins s1 σ H1 (fun o H2 => o = none ∧ H2 = H1) I1 ⟨rfl, rfl⟩) fun vl s2 ⟨l, H2, I2, pl, el, e2⟩ => ?_)
  subst el e2
  refine thn (po_none.run pins s2 σ H2 (fun o H3 => o = none ∧ H3 = H2) I2 ⟨rfl, rfl⟩) fun vu s3 ⟨u, H3, I3, pu, eu, e3⟩ => ?_
  subst eu e3
  cases pl
  cases pu
  refine thn (hst.run pins s3 σ H3 (fun o H4 => o = some (-1) ∧ H4 = H3) I3 ⟨1, rfl, -1, rfl, rfl, rfl⟩) fun vs s4 ⟨o, H4, I4, ps, eo, e4⟩ => ?_
  subst eo e4
  have I5 : Inv X pins σ H4 { s4 with heap := s4.heap.push { cls := .type "slice", data := .fields #[.none, .none, vs] } } := I4.kept (t' := s4.toks) fun b ob q => Heap.get?_push_of_some _ q
  obtain ⟨its, r, ht, hz⟩ := I5.tuple hx
  have hlen := r.length
  show wpAny (model X.prog X.w) X.A (subscriptTail e (.Slice none none (some (.UnaryOp .USub (.Constant (.int 1) k p1) p2)) p3) (.ref a) (.ref s4.heap.objs.size)) (EP X pins σ Q) X.xe { s4 with heap := s4.heap.push { cls := .type "slice", data := .fields #[.none, .none, vs] } }
  refine tail_any (ops := [.ref a, .ref s4.heap.objs.size]) ht.typeIs (PyProof.Rows.slot_tuple_getitem.lookup) ?_ (by with_unfolding_all rfl)
  refine getItem_tuple_rev ht (Heap.IsSliceOf.new _ .none .none vs) ps ?_ (by rw [List.size_toArray]; omega)
  refine ⟨.ref _, _, I5.laid (t' := s4.toks) (o := .tup xs.reverse) (fun b ob q => Heap.get?_push_of_some _ q) (Nat.le_refl _) ?_, rfl, q _ (I5.hok.fresh (Nat.le_refl _))⟩
  exact ⟨by rw [List.length_reverse]; exact hz, _, r.reverse, _, Heap.get?_push_size _ rfl, rfl, _, rfl⟩
end
/-- zip of two tuples of one length -/
theorem walk_zipT {K : PySem.W.Frag} {a b : Addr} {xs ys : List V} {n : Nat} (h1 : xs.length = n) (h2 : n ≤ ys.length) : Walk (RZ.ItzT K a b) n (fun H => SqT K H a xs ∧ SqT K H b ys) (YPair (fun i => xs[i]?) (fun i => ys[i]?)) :=
  ⟨fun i _ hi q => ⟨xs, ys, xs[i]'(by omega), ys[i]'(by omega), q.1, q.2, List.getElem?_eq_getElem _, List.getElem?_eq_getElem _⟩, fun _ q => ⟨xs, ys, q.1, q.2, .inl (by omega)⟩, fun _ _ _ _ _ q ⟨T, x, y, e, hT, eH, hx, hy⟩ => ⟨T, x, y, e, hT, eH, hx xs q.1, hy ys q.2⟩⟩
end OF
/-! o.m(k = v, ..) by names alone; o.m(e) within a try, m may raise. -/
namespace OF
open PySem PySem.Spec PyProof.Rows L2
section
variable {X : Cx} {CX : CXT} {k n : Nat} {f C : Addr} {fd : FuncData} {ps ks : List Str} {sp : Sp} {E : XK} {m : Str} {p apos pos : Pos} {o e : Expr} {es : List Expr} {kws : List Keyword} {ta : TE} {t tk : TA} {g : List Value → List Value → List Value} {gV : List V → List V → List V}
def tMethN (C : Addr) (m : Str) (j : Nat) (sp : Sp) (gV : List V → List V → List V) (E : XK) (ta : TE) (tk : TA) : TE := fun σ H Q => ta σ H fun x H1 => ∃ a dx fs, x = .ref a ∧ H1 a = some (.ins C dx fs) ∧ fs.lookup m = none ∧
  tk σ H1 fun zs H2 => zs.length = j ∧ sp (gV [x] zs) H2 Q E
theorem pe_methN0 {pl : Sem Bool} (he : PE X o ta) (c : Cls X.K C) (hm : Meth X.K C m f) (F : FnOk X.prog X.w X.K X.mg X.base CX k f fd ps sp) (hr : Room k X.A) (hb : KBn X.K fd ps 1 ks g gV) (hx : Passes CX X E) (hkw : PK X kws tk)
    (hall : (backToKw pos (keywordEach kws X.env)).all (·.1.isSome) = true := by rfl) (hks : (backToKw pos (keywordEach kws X.env)).filterMap (·.1) = ks := by rfl)
    (hpl : ((backTo pos (starEach [] X.env)).any (·.1) || (backToKw pos (keywordEach kws X.env)).any (·.1.isNone)) = false := by rfl)
    (ht : eval (.Call (.Attribute o m apos) [] kws pos) X.env = (do
      let ov ← eval o X.env
      standAt apos.atName
      let (f, first) ← holding [ov] (getMethod ov m pl)
      callWith pos f first (backTo pos (starEach [] X.env)) (backToKw pos (keywordEach kws X.env))) := by rfl) :
    PE X (.Call (.Attribute o m apos) [] kws pos) (tMethN C m ks.length sp gV E ta tk) := by
  refine ⟨fun pins s σ H Q I h => ?_⟩
  refine PySem.W.methodCall_KW (pl := pl) (thn (he.run pins s σ H _ I h) fun u s1 ⟨x, H1, I1, rx, a, dx, fs, ex, ea, l, q⟩ => ?_) ht
  subst ex
  obtain rfl : u = Value.ref a := rx
  refine getmeth_ok I1 ea c hm l ?_
  refine PySem.W.callWith_KW0 (first := [.ref a]) (h₀ := X.base) I.ok.mod.kin hm.kp hall (thn (hkw.run pos pins s1 σ H1 _ I1 q) fun ws s2 ⟨zs, H2, I2, rz, l2, q2⟩ => ⟨I2.kIn, ?_⟩) hpl
  rw [hks]
  exact run_fnN (us := [.ref a]) (vs := [.ref a]) F hr hb hx I2 (.cons rfl .nil) rz rfl l2 q2
def tMethS (C : Addr) (m : Str) (sp : Sp) (E : L2.St → XK) (ta : TE) (t : TA) : TE := fun σ H Q => ta σ H fun x H1 => ∃ a dx fs, x = .ref a ∧ H1 a = some (.ins C dx fs) ∧ fs.lookup m = none ∧
  t σ H1 fun vs H2 => sp (x :: vs) H2 Q (E σ)
theorem pe_methSX {pl : Sem Bool} {E : L2.St → XK} (he : PE X o ta) (c : Cls X.K C) (hm : Meth X.K C m f) (F : FnOk X.prog X.w X.K X.mg X.base CX k f fd ps sp) (hr : Room k X.A) (hb : Binds X.K fd ps []) (hx : ∀ σ, PassesAt CX X σ (E σ)) (ha : PA X (e :: es) t)
    (hst : starEach (e :: es) X.env = (false, eval e X.env) :: starEach es X.env := by rfl) (hpl : (backTo pos (starEach es X.env)).any (·.1) = false := by rfl)
    (ht : eval (.Call (.Attribute o m apos) (e :: es) [] pos) X.env = (do
      let ov ← eval o X.env
      standAt apos.atName
      let (f, first) ← holding [ov] (getMethod ov m pl)
      callWith pos f first (backTo pos (starEach (e :: es) X.env)) (backToKw pos (keywordEach [] X.env))) := by rfl) :
    PE X (.Call (.Attribute o m apos) (e :: es) [] pos) (tMethS C m sp E ta t) := by
  refine ⟨fun pins s σ H Q I h => ?_⟩
  refine PySem.W.methodCall_KW (pl := pl) (thn (he.run pins s σ H _ I h) fun u s1 ⟨x, H1, I1, rx, a, dx, fs, ex, ea, l, q⟩ => ?_) ht
  subst ex
  obtain rfl : u = Value.ref a := rx
  refine getmeth_ok I1 ea c hm l ?_
  refine PySem.W.callWith_K (first := [.ref a]) (h₀ := X.base) I.ok.mod.kin hm.kp (thn (ha.run pos pins s1 σ H1 _ I1 q) fun us s2 ⟨vs, H2, I2, r, q2⟩ => ⟨I2.kIn, ?_⟩) hst hpl
  exact run_fnS (us := .ref a :: us) (vs := .ref a :: vs) F hr hb (hx σ) I2 (.cons rfl r) q2
end
end OF
/-! try: .. with several clauses «except X as n». -/
namespace OF
open PySem PySem.Spec PyProof.Rows L2
/-- behind a clause its name (slot i) is gone -/
def dropE (i : Nat) (D : Ends) : Ends := ⟨fun τ J => D.nx (τ.set i none) J, D.rt, fun τ J => D.bk (τ.set i none) J, fun τ J => D.ct (τ.set i none) J⟩
/-- the clauses: class, the name's slot, the suite's reading -/
abbrev Clauses := List (Value × Nat × (Addr → Value → Option Addr → TS))
def wManyA (K : PySem.W.Frag) (Wout : WX) (D : Ends) : Clauses → WX
  | [] => Wout
  | t :: rest => fun kl d τ J => ∃ b, PySem.W.exmOne K kl t.1 = some b ∧ (b = true → ∀ q, J q = none → t.2.2 q kl d (dropE t.2.1 D) (τ.set t.2.1 (some (.ref q))) J) ∧ (b = false → wManyA K Wout D rest kl d τ J)
inductive HdA (X : Cx) : List ExceptHandler → Clauses → Prop
  | nil : HdA X [] []
  | cons {x m : Str} {c : Value} {i : Nat} {ts : Addr → Value → Option Addr → TS} {first : Stmt} {suite : List Stmt} {p1 p2 : Pos} {more : List ExceptHandler} {l : Clauses} (named : Names X x c) (slot : X.N[i]? = some m) (own : X.env.kindOf m = some .local)
      (run : ∀ (q : Addr) (oe : Obj) (kl : Value) (d : Option Addr) (pn : List (Addr × Obj)), Zc kl d oe → (∃ vs, oe.data = .fields vs) → PSs (X.suite q ((q, oe) :: pn)) (first :: suite) (ts q kl d)) (rest : HdA X more l) :
      HdA X (.ExceptHandler (some (.Name x p1)) (some m) (first :: suite) p2 :: more) ((c, i, ts) :: l)
section
variable {X : Cx} {body : List Stmt} {h0 : ExceptHandler} {more : List ExceptHandler} {l : Clauses} {pos : Pos} {tb : WX → TS} {Wout : WX}
theorem not_frame {a : Addr} {B : Heap} {L : List Env} {h : Heap} {o : Obj} {vs : Array Value} (ff : h.FunFrames B L) (e : h.get? a = some o) (dd : o.data = .fields vs) : a ∉ frs L := by
  intro hm
  obtain ⟨_, o2, e2, no⟩ := ff.mem hm
  rw [e] at e2
  cases e2
  exact no _ dd
theorem ps_try_manyA (hs : X.stack = X.env :: X.outer) (hf : X.env.frame = some X.env.locals) (nd : X.N.Nodup) (tk : Takes X Wout)
    (hb : ∀ (W : WX) (pn : List (Addr × Obj)) (xe : Value → Shared → Prop), Takes (X.tr pn xe) W → PassesOwn (model X.prog X.w) X.A X.env xe → PSs (X.tr pn xe) body (tb W))
    (hh : HdA X (h0 :: more) l) : PS X (.Try body (h0 :: more) [] [] pos) (fun D τ J => tb (wManyA X.K Wout D l) D τ J) := by
  constructor
  intro pins s τ J D I reading
  have fine := I.ok
  have frames : X.A.frames = some (X.env :: X.outer) := fine.frames.trans (by rw [hs])
  refine wpAny_Try_except ?_
  refine wpAny_mono ((hb (wManyA X.K Wout D l) (X.pn ++ pins) (fun e t1 => wpAny (model X.prog X.w) X.A (noteFrame e X.env)
      (fun _ t2 => wpAny (model X.prog X.w) X.A (setFlight e none) (fun _ t3 => wpAny (model X.prog X.w) X.A (handleBy e X.env (h0 :: more)) (SP X pins D) X.xe t3) X.xe t2) X.xe t1) ?caught PassesOwn.looking).run [] s τ J D (I.toTry _) reading) ?through fun _ _ z => z
  case through =>
    intro fl t1 w
    cases fl with
    | next =>
      obtain ⟨τ1, J1, I1, z⟩ := w
      exact wpAny_execs_nil ⟨τ1, J1, I1.ofTry fine, z⟩
    | brk => exact let ⟨τ1, J1, I1, z⟩ := w; ⟨τ1, J1, I1.ofTry fine, z⟩
    | cont => exact let ⟨τ1, J1, I1, z⟩ := w; ⟨τ1, J1, I1.ofTry fine, z⟩
    | ret u => exact let ⟨v, τ1, J1, I1, r, z⟩ := w; ⟨v, τ1, J1, I1.ofTry fine, r, z⟩
  case caught =>
    intro u t1 raised
    obtain ⟨a, B, sI, pins2, τ1, J1, kl, d, rfl, I0, nb, up, sky, na, os, ag, wish⟩ := raised
    have I1 : Inv X pins τ1 J1 sI := I0.ofTry fine
    have sky1 : Sky B (X.env :: X.outer) a (Zc kl d) X.env.locals t1.heap := hs ▸ sky
    show wpAny (model X.prog X.w) X.A (noteFrame (.ref a) X.env) _ _ _
    refine Sky.land Zc.steady frames hf sky1 fun g fl up2 => ?_
    have I2 : Inv X pins τ1 J1 { t1 with heap := g } := I1.landed nb fl.1 (up.trans up2) os ag
    obtain ⟨oe, vs, at_e, ze, fe⟩ := fl.there
    have nf := not_frame fl.2.2.1 at_e fe
    have aL : a ≠ X.env.locals := fun z => nf (List.mem_filterMap.mpr ⟨X.env, List.mem_cons_self, hf.trans (congrArg some z.symm)⟩)
    have aF : a ∉ X.fs := fun hm => by
      obtain ⟨en, hen, q⟩ := List.mem_filterMap.mp hm
      exact nf (List.mem_filterMap.mpr ⟨en, List.mem_cons_of_mem _ hen, q⟩)
    have inSuite := I2.suite at_e fe na aL aF
    suffices go : ∀ {hds : List ExceptHandler} {cl : Clauses}, HdA X hds cl → wManyA X.K Wout D cl kl d τ1 J1 → wpAny (model X.prog X.w) X.A (handleBy (.ref a) X.env hds) (SP X pins D) X.xe { t1 with heap := g } from go hh wish
    intro hds cl hk
    induction hk with
    | nil =>
      intro out
      refine wpAny_handleBy_nil ?_
      obtain ⟨_, _, _, o1, _, T, _, _, at1, _, f1, i1, _⟩ := id fl
      unfold PySem.passOn
      refine wpAny_bind (wpAny_field at1 f1 i1 ?_)
      rw [if_neg (fun z => by simp at z)]
      have last : wpAny (model X.prog X.w) X.A (setFlight (.ref a) X.env.frame) (fun _ t4 => wpAny (model X.prog X.w) X.A (throw (.ref a) : Sem Flow) (SP X pins D) X.xe t4) X.xe { t1 with heap := g } := by
        rw [hf]
        refine HandSPX.setFlight_upZ fl fun g2 hg2 up3 => wpAny_throw (tk _ _ ⟨a, B, sI, pins, τ1, J1, kl, d, rfl, I1, nb, (up.trans up2).trans up3, .inr (.inr ?_), na, os, ag, out⟩)
        rw [hs]
        exact hg2
      first
        | exact wpAny_bind (wpAny_pure (wpAny_bind last))
        | exact wpAny_bind last
    | @cons x m c i ts first suite p1 p2 more2 l2 named slot own run _ ih =>
      intro w
      obtain ⟨b, asked, yes, no⟩ := w
      refine wpAny_handleBy_cons (codeAny_handlers_test ?_) (fun z => nomatch z)
      have isT : PySem.W.Looks (model X.prog X.w) g (typeOf (.ref a)) kl := fun _ _ _ t4 k z => wpAny_typeOf_ref (k _ _ at_e) (by rw [ze.1]; exact z)
      have isM := PySem.W.exm_one (M := model X.prog X.w) (I2.kIn) isT asked
      have name : ∀ {R E : Value → Shared → Prop}, R c { t1 with heap := g } → wpAny (model X.prog X.w) (X.A.mark (some (.ref a))) (eval (.Name x p1) X.env) R E { t1 with heap := g } := by
        intro R E z
        obtain ⟨gl, nodbg, mine | ⟨free, boot, nn⟩⟩ := named
        · exact ld_glob (X := X.suite a ((a, oe) :: (X.pn ++ pins))) inSuite gl mine z nodbg
        · exact ld_blt (X := X.suite a ((a, oe) :: (X.pn ++ pins))) inSuite gl free boot z nn nodbg
      refine name (isM.here ?_)
      cases b with
      | false =>
        show wpAny _ X.A (handleBy (.ref a) X.env more2) _ _ _
        exact ih (no rfl)
      | true =>
        refine codeAny_handlers_suite_as (HandSPX.lands_againZ fl fun g2 fl2 up3 => ?_)
        have I3 : Inv X pins τ1 J1 { t1 with heap := g2 } := I1.landed nb fl2.1 ((up.trans up2).trans up3) os ag
        obtain ⟨oe2, vs2, at2, ze2, fe2⟩ := fl2.there
        have S := I3.suite at2 fe2 na aL aF
        refine store_ok (X := X.suite a ((a, oe2) :: (X.pn ++ pins))) (v := .ref a) S nd slot (.inl own) rfl (fun t5 S5 => ?_) (.inr own)
        refine wpAny_mono ((run a oe2 kl d (X.pn ++ pins) ze2 ⟨_, fe2⟩).run [] t5 _ J1 _ S5 (yes rfl a na)) ?_ fun _ _ z => z.elim
        intro fl6 t6 w6
        have gone : ∀ {τ6 : L2.St} {J6 : Hp} {R : Shared → Prop}, Inv (X.suite a ((a, oe2) :: (X.pn ++ pins))) [] τ6 J6 t6 → (∀ t7, Inv X pins (τ6.set i none) J6 t7 → R t7) →
            wpAny (model X.prog X.w) X.A (do bindName X.env m .none; unbindBehindTheSuite X.env m p2) (fun _ t7 => R t7) X.xe t6 := fun S6 z => gone_ok (S6.unsuite fine) nd slot own z
        cases fl6 with
        | next => exact let ⟨τ6, J6, S6, z⟩ := w6; gone S6 fun _ I7 => ⟨_, _, I7, z⟩
        | brk => exact let ⟨τ6, J6, S6, z⟩ := w6; gone S6 fun _ I7 => ⟨_, _, I7, z⟩
        | cont => exact let ⟨τ6, J6, S6, z⟩ := w6; gone S6 fun _ I7 => ⟨_, _, I7, z⟩
        | ret u => exact let ⟨v6, τ6, J6, S6, r6, z⟩ := w6; gone S6 fun _ I7 => ⟨_, _, _, I7, r6, z⟩
end
end OF
/-! C(e, .., k = v, ..) within a try: __init__ may raise. -/
namespace OF
open PySem PySem.Spec PyProof.Rows L2
section
variable {X : Cx} {CX : CXT} {k n : Nat} {f C : Addr} {fd : FuncData} {ps ks : List Str} {sp : Sp} {E : L2.St → XK} {x : Str} {p pos : Pos} {e : Expr} {es : List Expr} {kws : List Keyword} {t tk : TA} {g : List Value → List Value → List Value} {gV : List V → List V → List V}
def tMakeS (C : Addr) (n m : Nat) (sp : Sp) (gV : List V → List V → List V) (E : L2.St → XK) (t tk : TA) : TE := fun σ H Q =>
  t σ H fun vs H1 => tk σ H1 fun zs H2 => vs.length = n ∧ zs.length = m ∧ ∀ o d, H2 o = none → H2 d = none → d ≠ o →
    sp (gV (.ref o :: vs) zs) (upd (upd H2 d (.own o)) o (.ins C d [])) (fun v H3 => v = .non ∧ Q (.ref o) H3) (E σ)
theorem pe_makeS (M : Mk X.K C f) (F : FnOk X.prog X.w X.K X.mg X.base CX k f fd ps sp) (hr : Room (k + 1) X.A) (hg : Gl X x) (hm : X.mg x = some (.ref C)) (hb : KBn X.K fd ps (n + 1) ks g gV)
    (hx : ∀ σ, PassesAt CX X σ (E σ)) (ha : PA X (e :: es) t) (hkw : PK X kws tk)
    (named : (backToKw pos (keywordEach kws X.env)).all (·.1.isSome) = true := by rfl) (names : (backToKw pos (keywordEach kws X.env)).filterMap (·.1) = ks := by rfl) (nodbg : (x == ("__debug__" : Str)) = false := by decide)
    (st : starEach (e :: es) X.env = (false, eval e X.env) :: starEach es X.env := by rfl) (nostar : ((backTo pos (starEach (e :: es) X.env)).any (·.1) || (backToKw pos (keywordEach kws X.env)).any (·.1.isNone)) = false := by rfl) :
    PE X (.Call (.Name x p) (e :: es) kws pos) (tMakeS C n ks.length sp gV E t tk) := by
  constructor
  intro pins s σ H Q I reading
  apply wpAny_Call_Name_kw
  refine ld_glob I hg hm ?_ nodbg
  refine PySem.W.callWith_KW (h₀ := X.base) I.ok.mod.kin M.kp named (thn (ha.run pos pins s σ H _ I reading) ?_) nostar st
  rintro us sA ⟨vs, HA, IA, rv, qA⟩
  refine thn (hkw.run pos pins sA σ HA _ IA qA) ?_
  rintro ws sB ⟨zs, HB, IB, rw_, l1, l2, qB⟩
  refine ⟨IB.kIn, ?_⟩
  rw [names]
  have below : HB sB.heap.objs.size = none := IB.hok.fresh (Nat.le_refl _)
  have above : HB (sB.heap.objs.size + 1) = none := IB.hok.fresh (Nat.le_succ _)
  have want := qB (sB.heap.objs.size + 1) sB.heap.objs.size above below (Nat.ne_of_lt (Nat.lt_succ_self _))
  have IC := Inv.made (C := C) IB
  have r1 : Vals (V.ref (sB.heap.objs.size + 1) :: vs) (Value.ref (sB.heap.objs.size + 1) :: us) := .cons rfl rv
  have r2 := hb.rel r1 rw_
  have many : (Value.ref (sB.heap.objs.size + 1) :: us).length = n + 1 := by
    rw [List.length_cons, ← rv.length, l1]
  have bound := hb.to _ (Value.ref (sB.heap.objs.size + 1) :: us) ws IC.kIn many (rw_.length.symm.trans l2)
  have ran := F.run _ X.stack _ _ ⟨Value.ref (sB.heap.objs.size + 1) :: us, ks.zip ws⟩ (g (Value.ref (sB.heap.objs.size + 1) :: us) ws) _ _ (E σ) (hr.make C us (ks.zip ws)) (IC.env0.make C us (ks.zip ws)) bound r2 want
  refine wpAny_call (make_map (f := f) IB.kIn M.makes M.init (beq_iff_eq.mp M.fn) (codeAny_mono ran ?_))
  intro r sC got
  match r, got with
  | .error er, got => exact hx σ pins _ _ er sC IC got
  | .ok (.ret u), got =>
    obtain ⟨v, HC, ID, rv2, ev, q3⟩ := IC.after got
    subst ev
    exact ⟨rv2, V.ref (sB.heap.objs.size + 1), HC, ID, rfl, q3⟩
  | .ok .next, got => exact got.elim
  | .ok .brk, got => exact got.elim
  | .ok .cont, got => exact got.elim
end
end OF
/-! f(k = v, ..) and o.m(k = v, ..) by names alone, within a try; f, m may raise. -/
namespace OF
open PySem PySem.Spec PyProof.Rows L2
section
variable {X : Cx} {CX : CXT} {k n : Nat} {f C : Addr} {fd : FuncData} {ps ks : List Str} {sp : Sp} {E : L2.St → XK} {x m : Str} {p apos pos : Pos} {o : Expr} {kws : List Keyword} {ta : TE} {tk : TA} {g : List Value → List Value → List Value} {gV : List V → List V → List V}
theorem run_fnNS {pins : List (Addr × Obj)} {σ : L2.St} {H : Hp} {s : Shared} {Q : VK} {us ws : List Value} {vs zs : List V} (F : FnOk X.prog X.w X.K X.mg X.base CX k f fd ps sp) (hr : Room k X.A) (hb : KBn X.K fd ps n ks g gV) (hx : PassesAt CX X σ (E σ))
    (I : Inv X pins σ H s) (r : Vals vs us) (rz : Vals zs ws) (l1 : vs.length = n) (l2 : zs.length = ks.length) (h : sp (gV vs zs) H Q (E σ)) : wpAny (model X.prog X.w) X.A (call (.ref f) us (ks.zip ws)) (EP X pins σ Q) X.xe s := by
  have r2 := hb.rel r rz
  refine wpAny_call (codeAny_mono (F.run X.A X.stack s H ⟨us, ks.zip ws⟩ (g us ws) (gV vs zs) Q (E σ) hr I.env0 (hb.to s us ws I.kIn (r.length.symm.trans l1) (rz.length.symm.trans l2)) r2 h) fun r s' hq => ?_)
  cases r with
  | error e => exact hx pins H s e s' I hq
  | ok fl =>
    cases fl with
    | ret u => exact I.after hq
    | next => exact False.elim hq
    | brk => exact False.elim hq
    | cont => exact False.elim hq
def tCallNS (j : Nat) (sp : Sp) (gV : List V → List V → List V) (E : L2.St → XK) (tk : TA) : TE := fun σ H Q => tk σ H fun zs H2 => zs.length = j ∧ sp (gV [] zs) H2 Q (E σ)
theorem pe_callNS (F : FnOk X.prog X.w X.K X.mg X.base CX k f fd ps sp) (hr : Room k X.A) (hg : Gl X x) (hm : X.mg x = some (.ref f)) (hk : PySem.W.keepIn X.K (.ref f) = true) (hb : KBn X.K fd ps 0 ks g gV) (hx : ∀ σ, PassesAt CX X σ (E σ))
    (hkw : PK X kws tk) (hall : (backToKw pos (keywordEach kws X.env)).all (·.1.isSome) = true := by rfl) (hks : (backToKw pos (keywordEach kws X.env)).filterMap (·.1) = ks := by rfl)
    (hdb : (x == ("__debug__" : Str)) = false := by decide)
    (hpl : ((backTo pos (starEach [] X.env)).any (·.1) || (backToKw pos (keywordEach kws X.env)).any (·.1.isNone)) = false := by rfl) :
    PE X (.Call (.Name x p) [] kws pos) (tCallNS ks.length sp gV E tk) := by
  refine ⟨fun pins s σ H Q I h => ?_⟩
  refine wpAny_Call_Name_kw (ld_glob I hg hm ?_ hdb)
  refine PySem.W.callWith_KW0 (h₀ := X.base) I.ok.mod.kin hk hall (thn (hkw.run pos pins s σ H _ I h) fun ws s2 ⟨zs, H2, I2, rz, l2, q2⟩ => ⟨I2.kIn, ?_⟩) hpl
  rw [hks]
  exact run_fnNS (us := []) (vs := []) F hr hb (hx σ) I2 .nil rz rfl l2 q2
def tMethNS (C : Addr) (m : Str) (j : Nat) (sp : Sp) (gV : List V → List V → List V) (E : L2.St → XK) (ta : TE) (tk : TA) : TE := fun σ H Q => ta σ H fun x H1 => ∃ a dx fs, x = .ref a ∧ H1 a = some (.ins C dx fs) ∧ fs.lookup m = none ∧
  tk σ H1 fun zs H2 => zs.length = j ∧ sp (gV [x] zs) H2 Q (E σ)
theorem pe_methNS {pl : Sem Bool} (he : PE X o ta) (c : Cls X.K C) (hm : Meth X.K C m f) (F : FnOk X.prog X.w X.K X.mg X.base CX k f fd ps sp) (hr : Room k X.A) (hb : KBn X.K fd ps 1 ks g gV) (hx : ∀ σ, PassesAt CX X σ (E σ)) (hkw : PK X kws tk)
    (hall : (backToKw pos (keywordEach kws X.env)).all (·.1.isSome) = true := by rfl) (hks : (backToKw pos (keywordEach kws X.env)).filterMap (·.1) = ks := by rfl)
    (hpl : ((backTo pos (starEach [] X.env)).any (·.1) || (backToKw pos (keywordEach kws X.env)).any (·.1.isNone)) = false := by rfl)
    (ht : eval (.Call (.Attribute o m apos) [] kws pos) X.env = (do
      let ov ← eval o X.env
      standAt apos.atName
      let (f, first) ← holding [ov] (getMethod ov m pl)
      callWith pos f first (backTo pos (starEach [] X.env)) (backToKw pos (keywordEach kws X.env))) := by rfl) :
    PE X (.Call (.Attribute o m apos) [] kws pos) (tMethNS C m ks.length sp gV E ta tk) := by
  refine ⟨fun pins s σ H Q I h => ?_⟩
  refine PySem.W.methodCall_KW (pl := pl) (thn (he.run pins s σ H _ I h) fun u s1 ⟨x, H1, I1, rx, a, dx, fs, ex, ea, l, q⟩ => ?_) ht
  subst ex
  obtain rfl : u = Value.ref a := rx
  refine getmeth_ok I1 ea c hm l ?_
  refine PySem.W.callWith_KW0 (first := [.ref a]) (h₀ := X.base) I.ok.mod.kin hm.kp hall (thn (hkw.run pos pins s1 σ H1 _ I1 q) fun ws s2 ⟨zs, H2, I2, rz, l2, q2⟩ => ⟨I2.kIn, ?_⟩) hpl
  rw [hks]
  exact run_fnNS (us := [.ref a]) (vs := [.ref a]) F hr hb (hx σ) I2 (.cons rfl .nil) rz rfl l2 q2
end
end OF
/-! Errors whose context is known to be None; what is made and called while one is handled; methods of a class. -/
namespace OF
open PySem PySem.Spec PyProof.Rows L2 HotX L2H

section
variable {P : Program} {w : World} {K : PySem.W.Frag} {mg : Str → Option Value} {base : Heap} {k : Nat} {f : Addr} {fd : FuncData} {ps : List Str} {sp : Sp}
/-- a def that may raise, the errors' context None -/
theorem okXN {x qual : Str} {st : Stmt} {N : List Str} (F : Fun K x qual st f fd) (S : FnScope N ps (defScope st)) (len : ∀ vs H Q E, sp vs H Q E → vs.length = ps.length)
    (body : ∀ (cdv : Value) (A : Around) (outer : List Env) (s : Shared) (H : Hp) (vs : List V) (Q : VK) (E : XK), Room k (A.deeper (envOfC qual (defScope st) s.heap.objs.size f cdv)) → sp vs H Q E →
      ∃ t, PSs (cxOf (L2N.CX P w) P w K mg base N qual (defScope st) f cdv A outer s H E) (defBody st) t ∧ t { nx := fun _ H' => Q .non H', rt := Q } (L2.start N vs) H) : FnOk P w K mg base (L2N.CX P w) (k + 1) f fd ps sp := by
  obtain ⟨oc, od, kV, doc, pm, an, cdv, ct, osl, rfl, lk, hcd⟩ := F.ex
  exact fn_of lk hcd S len fun A outer s H vs Q E hr hsp => body cdv A outer s H vs Q E hr hsp
/-- .. called where nothing is said of the context -/
theorem softN (F : FnOk P w K mg base (L2N.CX P w) k f fd ps sp) : FnOk P w K mg base (L2.CX P w) k f fd ps sp := by
  refine ⟨F.len, fun A outer s H args us vs Q E hr e0 hb r h => codeAny_mono (F.run A outer s H args us vs Q E hr e0 hb r h) fun r s' hq => ?_⟩
  cases r with
  | error e =>
    obtain ⟨a, B, H', cls, d, e1, fl, rest⟩ := hq
    exact ⟨a, B, H', cls, d, e1, flyingZ_imp (fun _ z => z.zc) fl, rest⟩
  | ok fl => cases fl <;> exact hq
/-- a def called while an error is handled -/
theorem okH {x qual : Str} {st : Stmt} {N : List Str} {CX : CXT} (F : Fun K x qual st f fd) (S : FnScope N ps (defScope st)) (len : ∀ vs H Q E, sp vs H Q E → vs.length = ps.length)
    (body : ∀ (cdv : Value) (A : Around) (outer : List Env) (s : Shared) (H : Hp) (vs : List V) (Q : VK) (E : XK) (p : Addr × Obj), Hot1 A p → RoomH k (A.deeper (envOfC qual (defScope st) s.heap.objs.size f cdv)) → sp vs H Q E →
      ∃ t, PSs (cxH CX P w K mg base N qual (defScope st) f cdv A outer s H E p) (defBody st) t ∧ t { nx := fun _ H' => Q .non H', rt := Q } (L2.start N vs) H) : FnH P w K mg base CX (k + 1) f fd ps sp := by
  obtain ⟨oc, od, kV, doc, pm, an, cdv, ct, osl, rfl, lk, hcd⟩ := F.ex
  exact fn_ofH lk hcd S len fun A outer s H vs Q E p hot hr hsp => body cdv A outer s H vs Q E p hot hr hsp
end
section
variable {X : Cx} {CX : CXT} {k : Nat} {C f fI : Addr} {fd : FuncData} {ps : List Str} {sp : Sp} {x m : Str} {p p1 p2 pos : Pos} {e : Expr} {es : List Expr} {ta t : TA} {mc : Value}
theorem passN {P' : Program} {w' : World} : Passes (L2N.CX P' w') X (fun _ _ _ => False) := fun _ _ _ _ _ _ _ h => by
  obtain ⟨_, _, _, _, _, _, _, _, _, _, _, _, z⟩ := h
  exact z.elim
/-- C(e, ..), an error class with its own __init__: the context is None -/
theorem pmk_oexN (T : OexC X.K C) (iC : PySem.W.findIn X.K (.ref C) "__init__" = some (some (.ref fI))) (tI : PySem.W.typeIn X.K (.ref fI) = some (.type "function"))
    (G : FnOk X.prog X.w X.K X.mg X.base CX k fI fd ps sp) (hr : Room (k + 1) X.A) (hb : Binds X.K fd ps []) (hx : Passes CX X (fun _ _ _ => False)) (hg : Gl X x) (hm : X.mg x = some (.ref C)) (ha : PA X (e :: es) ta)
    (nodbg : (x == ("__debug__" : Str)) = false := by decide) (st : starEach (e :: es) X.env = (false, eval e X.env) :: starEach es X.env := by rfl) (nostar : (backTo pos (starEach es X.env)).any (·.1) = false := by rfl) :
    L2N.PMk X (.Call (.Name x p) (e :: es) [] pos) (tMkO C sp [] ta) := by
  intro pins s σ H Q I reading
  obtain ⟨c1, c2, c3, c4, c5, c6, c7, c8, c9, d0, d1, d2, d3, d4, d5, hC, above⟩ := T.cls
  refine wpAny_Call_Name_kw (ld_glob I hg hm ?_ nodbg)
  refine PySem.W.callWith_K (h₀ := X.base) I.ok.mod.kin T.kC (thn (ha.run pos pins s σ H _ I reading) ?_) st nostar
  rintro us sA ⟨vs, HA, IA, rv, few, want⟩
  refine ⟨IA.kIn, ?_⟩
  show wpAny _ _ (call (.ref C) us) _ _ _
  obtain ⟨h, g, dr, tk, os⟩ := sA
  have up : h.objs.size ≤ h.objs.size + 1 := Nat.le_succ _
  have want2 := want (h.objs.size + 1) (IA.hok.fresh up)
  rw [List.append_nil] at want2
  have kept : ∀ b o, h.get? b = some o → ((h.push (PySem.W.kdv_tup us)).push (PySem.HandSPX.excO C h.objs.size)).get? b = some o := fun b o z => Heap.get?_push_of_some _ (Heap.get?_push_of_some _ z)
  have laid : ((h.push (PySem.W.kdv_tup us)).push (PySem.HandSPX.excO C h.objs.size)).get? (h.objs.size + 1) = some (PySem.HandSPX.excO C h.objs.size) := by heap_get
  have IB : Inv X pins σ (upd HA (h.objs.size + 1) (exo (h.objs.size + 1) C none)) ⟨(h.push (PySem.W.kdv_tup us)).push (PySem.HandSPX.excO C h.objs.size), g, dr, tk, os⟩ :=
    IA.laid (t' := tk) (a := h.objs.size + 1) (o := exo (h.objs.size + 1) C none) (h' := (h.push (PySem.W.kdv_tup us)).push (PySem.HandSPX.excO C h.objs.size)) kept up (exo_ok laid)
  have rv2 : Vals (V.ref (h.objs.size + 1) :: vs) (Value.ref (h.objs.size + 1) :: us) := .cons rfl rv
  have many : (Value.ref (h.objs.size + 1) :: us ++ []).length = ps.length := by
    rw [List.append_nil, ← rv2.length]
    exact G.len _ _ _ _ want2
  have room : us.length ≤ sizeLine := by
    rw [← Paired.length rv, sizeLine_eq]
    omega
  have bound := hb _ (Value.ref (h.objs.size + 1) :: us) IB.kIn many
  rw [List.append_nil] at bound
  have ran := G.run _ X.stack _ _ ⟨Value.ref (h.objs.size + 1) :: us, []⟩ (Value.ref (h.objs.size + 1) :: us) _ _ (fun _ _ _ => False) (hr.make C us []) (IB.env0.make C us []) bound rv2 want2
  refine wpAny_call (PySem.HandSPX.call_own F.excBase_ValueError (fun Y => PySem.HandSPX.refsVE_contains Y c5 above) (IA.kIn _ _ hC) (PySem.W.looks_findIn IA.kIn iC) (fun self => PySem.W.bind_fn IA.kIn self tI) room (codeAny_mono ran ?_))
  intro r s' got
  match r, got with
  | .error er, got => exact hx pins σ _ _ er s' IB got
  | .ok (.ret u), got =>
    obtain ⟨v, H2, os2, bare2, un2, hok2, rv3, ev, d, fs, ea, ed, hd1, q2⟩ := got
    subst ev
    obtain ⟨h2, g2, dr2, t2, os'⟩ := s'
    obtain ⟨t0, Gr, J, kG, ge, hoe, na⟩ := mk_end0 (d2 := dr2) (t2 := t2) IA up kept un2 hok2 os2 bare2 ea ed hd1
    refine ⟨rv3, ⟨h.objs.size + 1, _, _, ⟨Gr, g2, dr2, t2, os'⟩, _, .ref C, some d, rfl, J, kG, ge, hoe, ⟨rfl, rfl, fun vs hv => ?_⟩, rfl, rfl, na, rfl, bare2, raises_own T.exC T.tyC, q2⟩⟩
    cases hv
    rfl
  | .ok .next, got => exact got.elim
  | .ok .brk, got => exact got.elim
  | .ok .cont, got => exact got.elim
/-- C.m(e, ..), m read off the class, while an error is handled -/
theorem pe_unbH {pl : Sem Bool} (G : FnH X.prog X.w X.K X.mg X.base CX k f fd ps sp) (hr : RoomH k X.A) (hc : HotC X) (hg : Gl X x) (hm : X.mg x = some (.ref C)) (r : ClX.CRead X.K C mc) (c : ClX.CVal X.K C mc m (.ref f) (.ref f)) (hk : PySem.W.keepIn X.K (.ref f) = true)
    (hb : Binds X.K fd ps []) {E : L2.St → XK} (hx : ∀ σ, PassesAt CX X σ (E σ)) (ha : PA X (e :: es) t)
    (shape : eval (.Call (.Attribute (.Name x p1) m p2) (e :: es) [] pos) X.env = (do
      let ov ← eval (.Name x p1) X.env
      standAt p2.atName
      let (f, first) ← holding [ov] (getMethod ov m pl)
      callWith pos f first (backTo pos (starEach (e :: es) X.env)) (backToKw pos (keywordEach [] X.env))) := by rfl)
    (nodbg : (x == ("__debug__" : Str)) = false := by decide) (st : starEach (e :: es) X.env = (false, eval e X.env) :: starEach es X.env := by rfl) (nostar : (backTo pos (starEach es X.env)).any (·.1) = false := by rfl) :
    PE X (.Call (.Attribute (.Name x p1) m p2) (e :: es) [] pos) (tCallS sp E t) := by
  constructor
  intro pins s σ H Q I reading
  refine PySem.W.methodCall_KW (ld_glob I hg hm ?_ nodbg) shape
  refine PySem.W.method_cls I.kIn r.ga (ClX.getcval_ok I r c fun sA IA => ?_)
  show wpAny _ _ (callWith pos (Value.ref f) [] (backTo pos (starEach (e :: es) X.env)) []) _ _ _
  refine PySem.W.callWith_K (h₀ := X.base) I.ok.mod.kin hk (thn (ha.run pos pins sA σ H _ IA reading) fun us sB ⟨vs, HB, IB, rv, q⟩ => ⟨IB.kIn, ?_⟩) st nostar
  exact run_fnH G hr hc hb (hx σ) IB rv q
end

/-! ### cls(e, .., k = v, ..), cls a local name, within a try -/
section
variable {X : Cx} {CX : CXT} {k n i : Nat} {f C : Addr} {fd : FuncData} {ps ks : List Str} {sp : Sp} {E : L2.St → XK} {x : Str} {p pos : Pos} {e : Expr} {es : List Expr} {kws : List Keyword} {t tk : TA} {g : List Value → List Value → List Value} {gV : List V → List V → List V}
def tMakeLS (i : Nat) (C : Addr) (n m : Nat) (sp : Sp) (gV : List V → List V → List V) (E : L2.St → XK) (t tk : TA) : TE := fun σ H Q => σ[i]? = some (some (.ref C)) ∧
  t σ H fun vs H1 => tk σ H1 fun zs H2 => vs.length = n ∧ zs.length = m ∧ ∀ o d, H2 o = none → H2 d = none → d ≠ o →
    sp (gV (.ref o :: vs) zs) (upd (upd H2 d (.own o)) o (.ins C d [])) (fun v H3 => v = .non ∧ Q (.ref o) H3) (E σ)
theorem pe_makeLS (M : Mk X.K C f) (G : FnOk X.prog X.w X.K X.mg X.base CX k f fd ps sp) (hr : Room (k + 1) X.A) (hN : X.N[i]? = some x) (hv : Vis X.env.scope x) (hb : KBn X.K fd ps (n + 1) ks g gV)
    (hx : ∀ σ, PassesAt CX X σ (E σ)) (ha : PA X (e :: es) t) (hkw : PK X kws tk)
    (named : (backToKw pos (keywordEach kws X.env)).all (·.1.isSome) = true := by rfl) (names : (backToKw pos (keywordEach kws X.env)).filterMap (·.1) = ks := by rfl) (nodbg : (x == ("__debug__" : Str)) = false := by decide) (nocd : (x == ("__classdict__" : Str)) = false := by decide)
    (st : starEach (e :: es) X.env = (false, eval e X.env) :: starEach es X.env := by rfl) (nostar : ((backTo pos (starEach (e :: es) X.env)).any (·.1) || (backToKw pos (keywordEach kws X.env)).any (·.1.isNone)) = false := by rfl) :
    PE X (.Call (.Name x p) (e :: es) kws pos) (tMakeLS i C n ks.length sp gV E t tk) := by
  constructor
  rintro pins s σ H Q I ⟨there, reading⟩
  refine wpAny_Call_Name_kw (thn ((pe_var (pos := p) hN hv nodbg nocd).run pins s σ H (fun v H1 => v = .ref C ∧ H1 = H) I ⟨.ref C, there, rfl, rfl⟩) ?_)
  rintro u s0 ⟨v, H0, I0, r0, q0⟩
  obtain ⟨rfl, rfl⟩ := q0
  cases r0
  refine PySem.W.callWith_KW (h₀ := X.base) I.ok.mod.kin M.kp named (thn (ha.run pos pins s0 σ _ _ I0 reading) ?_) nostar st
  rintro us sA ⟨vs, HA, IA, rv, qA⟩
  refine thn (hkw.run pos pins sA σ HA _ IA qA) ?_
  rintro ws sB ⟨zs, HB, IB, rw_, l1, l2, qB⟩
  refine ⟨IB.kIn, ?_⟩
  rw [names]
  have below : HB sB.heap.objs.size = none := IB.hok.fresh (Nat.le_refl _)
  have above : HB (sB.heap.objs.size + 1) = none := IB.hok.fresh (Nat.le_succ _)
  have want := qB (sB.heap.objs.size + 1) sB.heap.objs.size above below (Nat.ne_of_lt (Nat.lt_succ_self _))
  have IC := Inv.made (C := C) IB
  have r1 : Vals (V.ref (sB.heap.objs.size + 1) :: vs) (Value.ref (sB.heap.objs.size + 1) :: us) := .cons rfl rv
  have r2 := hb.rel r1 rw_
  have many : (Value.ref (sB.heap.objs.size + 1) :: us).length = n + 1 := by
    rw [List.length_cons, ← rv.length, l1]
  have bound := hb.to _ (Value.ref (sB.heap.objs.size + 1) :: us) ws IC.kIn many (rw_.length.symm.trans l2)
  have ran := G.run _ X.stack _ _ ⟨Value.ref (sB.heap.objs.size + 1) :: us, ks.zip ws⟩ (g (Value.ref (sB.heap.objs.size + 1) :: us) ws) _ _ (E σ) (hr.make C us (ks.zip ws)) (IC.env0.make C us (ks.zip ws)) bound r2 want
  refine wpAny_call (make_map (f := f) IB.kIn M.makes M.init (beq_iff_eq.mp M.fn) (codeAny_mono ran ?_))
  intro r sC got
  match r, got with
  | .error er, got => exact hx σ pins _ _ er sC IC got
  | .ok (.ret u), got =>
    obtain ⟨v, HC, ID, rv2, ev, q3⟩ := IC.after got
    subst ev
    exact ⟨rv2, V.ref (sB.heap.objs.size + 1), HC, ID, rfl, q3⟩
  | .ok .next, got => exact got.elim
  | .ok .brk, got => exact got.elim
  | .ok .cont, got => exact got.elim
end

/-! ### C.m(e), C.m(k = v), m a classmethod -/
section
variable {X : Cx} {CX : CXT} {k n : Nat} {C p g : Addr} {mc : Value} {sp : Sp} {o e : Expr} {es : List Expr} {m : Str} {pos apos : Pos} {ta : TE} {t tk : TA} {pl : Sem Bool} {fd : FuncData} {ps ks : List Str} {gq : List Value → List Value → List Value} {gV : List V → List V → List V} {kws : List Keyword}
/-- .. within a try -/
def tCMethS (C : Addr) (sp : Sp) (E : L2.St → XK) (ta : TE) (t : TA) : TE := fun σ H Q => ta σ H fun x H1 => x = .ref C ∧ t σ H1 fun vs H2 => sp (.ref C :: vs) H2 Q (E σ)
theorem pe_cmethS {E : L2.St → XK} (he : PE X o ta) (r : ClX.CRead X.K C mc) (c : ClX.CMet X.K C mc m p g) (G : FnOk X.prog X.w X.K X.mg X.base CX k g fd ps sp) (hr : Room k X.A) (hb : Binds X.K fd ps []) (hx : ∀ σ, PassesAt CX X σ (E σ)) (ha : PA X (e :: es) t)
    (st : starEach (e :: es) X.env = (false, eval e X.env) :: starEach es X.env := by rfl) (nostar : (backTo pos (starEach es X.env)).any (·.1) = false := by rfl)
    (shape : eval (.Call (.Attribute o m apos) (e :: es) [] pos) X.env = (do
      let ov ← eval o X.env
      standAt apos.atName
      let (f, first) ← holding [ov] (getMethod ov m pl)
      callWith pos f first (backTo pos (starEach (e :: es) X.env)) (backToKw pos (keywordEach [] X.env))) := by rfl) :
    PE X (.Call (.Attribute o m apos) (e :: es) [] pos) (tCMethS C sp E ta t) := by
  constructor
  intro pins s σ H Q I reading
  refine PySem.W.methodCall_KW (pl := pl) (thn (he.run pins s σ H _ I reading) ?_) shape
  rintro u sA ⟨x, HA, IA, rx, rfl, q⟩
  obtain rfl : u = Value.ref C := rx
  refine ClX.getmethcm_ok IA r c fun sB IB => ?_
  refine ClX.callwith_cm IB (ClX.base_none IA (Nat.le_refl _)) c.fi (thn (ha.run pos _ sB σ HA _ IB q) ?_) st nostar
  rintro us sC ⟨vs, HC, IC, rv, q2⟩
  refine ⟨⟨ClX.pin_at IC, IC.kIn⟩, ?_⟩
  refine thn (Q := EP X ((sA.heap.objs.size, PySem.W.methodObj (.ref g) (.ref C)) :: pins) σ Q) (wpAny_call (PySem.W.method_call (ClX.pin_at IC) ?_)) fun _ _ y => ClX.unpinE y
  have r2 : Vals (V.ref C :: vs) (Value.ref C :: us) := .cons rfl rv
  have many : (Value.ref C :: us).length = ps.length := by
    rw [← r2.length]
    exact G.len _ _ _ _ q2
  have bound := hb sC (Value.ref C :: us) IC.kIn (by rw [List.append_nil]; exact many)
  rw [List.append_nil] at bound
  refine codeAny_mono (G.run X.A X.stack sC HC ⟨Value.ref C :: us, []⟩ (Value.ref C :: us) (V.ref C :: vs) Q (E σ) hr IC.env0 bound r2 q2) ?_
  intro r s' got
  match r, got with
  | .error er, got => exact hx σ _ _ _ er s' IC got
  | .ok (.ret u), got => exact IC.after got
  | .ok .next, got => exact got.elim
  | .ok .brk, got => exact got.elim
  | .ok .cont, got => exact got.elim
/-- .. by names alone -/
def tCMethN (C : Addr) (j : Nat) (sp : Sp) (gV : List V → List V → List V) (E : XK) (ta : TE) (tk : TA) : TE := fun σ H Q => ta σ H fun x H1 => x = .ref C ∧ tk σ H1 fun zs H2 => zs.length = j ∧ sp (gV [x] zs) H2 Q E
theorem pe_cmethN {E : XK} (he : PE X o ta) (r : ClX.CRead X.K C mc) (c : ClX.CMet X.K C mc m p g) (G : FnOk X.prog X.w X.K X.mg X.base CX k g fd ps sp) (hr : Room k X.A) (hb : KBn X.K fd ps 1 ks gq gV) (hx : Passes CX X E) (hkw : PK X kws tk)
    (named : (backToKw pos (keywordEach kws X.env)).all (·.1.isSome) = true := by rfl) (names : (backToKw pos (keywordEach kws X.env)).filterMap (·.1) = ks := by rfl)
    (nostar : ((backTo pos (starEach [] X.env)).any (·.1) || (backToKw pos (keywordEach kws X.env)).any (·.1.isNone)) = false := by rfl)
    (shape : eval (.Call (.Attribute o m apos) [] kws pos) X.env = (do
      let ov ← eval o X.env
      standAt apos.atName
      let (f, first) ← holding [ov] (getMethod ov m pl)
      callWith pos f first (backTo pos (starEach [] X.env)) (backToKw pos (keywordEach kws X.env))) := by rfl) :
    PE X (.Call (.Attribute o m apos) [] kws pos) (tCMethN C ks.length sp gV E ta tk) := by
  constructor
  intro pins s σ H Q I reading
  refine PySem.W.methodCall_KW (pl := pl) (thn (he.run pins s σ H _ I reading) ?_) shape
  rintro u sA ⟨x, HA, IA, rx, rfl, q⟩
  obtain rfl : u = Value.ref C := rx
  refine ClX.getmethcm_ok IA r c fun sB IB => ?_
  refine PySem.W.callWith_of nostar (PySem.W.keeps_M (q := sA.heap.objs.size) (self := .ref C) c.fi) (evalArgs_kw2_nil named (thn (hkw.run pos _ sB σ HA _ IB q) ?_))
  rintro ws sC ⟨zs, HC, IC, rz, l2, q2⟩
  refine ⟨⟨ClX.pin_at IC, IC.kIn⟩, ?_⟩
  rw [names]
  refine thn (Q := EP X ((sA.heap.objs.size, PySem.W.methodObj (.ref g) (.ref C)) :: pins) σ Q) (wpAny_call (PySem.W.method_call (ClX.pin_at IC) ?_)) fun _ _ y => ClX.unpinE y
  have r1 : Vals [V.ref C] [Value.ref C] := .cons rfl .nil
  refine codeAny_mono (G.run X.A X.stack sC HC ⟨[Value.ref C], ks.zip ws⟩ (gq [Value.ref C] ws) (gV [V.ref C] zs) Q E hr IC.env0 (hb.to sC [Value.ref C] ws IC.kIn rfl (rz.length.symm.trans l2)) (hb.rel r1 rz) q2) ?_
  intro r s' got
  match r, got with
  | .error er, got => exact hx _ σ _ _ er s' IC got
  | .ok (.ret u), got => exact IC.after got
  | .ok .next, got => exact got.elim
  | .ok .brk, got => exact got.elim
  | .ok .cont, got => exact got.elim
end
end OF
namespace K08
open PySem PySem.Spec PyProof.Rows L2 OF
def topS (i : Nat) : Stmt := PySem.Challenge.pw_oddfigures_k08_schemes_as_text.main.body.getD i (.Pass ⟨0, 0, 0, 0⟩)
abbrev sWhole : Stmt := topS 13
abbrev sIsInt : Stmt := topS 14
abbrev sIsBase : Stmt := topS 15
abbrev sIsDigit : Stmt := topS 16
abbrev sAre : Stmt := topS 17
abbrev sRowText : Stmt := topS 18
abbrev sRead : Stmt := topS 19
abbrev sOneOf : Stmt := topS 21
abbrev sIsPair : Stmt := topS 22
abbrev sDigList : Stmt := topS 23
abbrev sDiffDig : Stmt := topS 24
abbrev sDiffPair : Stmt := topS 25
abbrev sInit : Stmt := inClass (topS 27) 0
abbrev sAllows : Stmt := inClass (topS 27) 9
section
variable {P : Program} {w : World} {K : PySem.W.Frag} {mg : Str → Option Value} {base : Heap}

/-- is_whole -/
def spWhole : Sp := fun vs H Q _ => ∃ x : V, vs = [x] ∧ ((∃ n : Int, x = .int n ∧ Q (.bl true) H) ∨ (Odd H x ∧ Q (.bl false) H))
theorem scWh : FnScope ["value"] ["value"] (defScope sWhole) := ⟨rfl, rfl, rfl, by decide +kernel, rfl, by decide +kernel, by decide +kernel⟩
theorem ok_whole {f : Addr} {fd : FuncData} (F : Fun K "is_whole" "is_whole" sWhole f fd) (ms : mg "isinstance" = none) (mi : mg "int" = none) (mb : mg "bool" = none) : FnOk P w K mg base CX0 1 f fd ["value"] spWhole := by
  refine F.ok scWh (fun vs H Q E h => ?_) (fun cdv A outer s H vs Q E hr h => ?_)
  · obtain ⟨x, rfl, _⟩ := h
    rfl
  · obtain ⟨x, rfl, h⟩ := h
    refine ⟨_, pss_one (ps_ret (pe_and (pe_callB call_isi (by rfl) ms PyProof.Rows.boot_isinstance (pa_cons (pv 0) (pa_cons (pe_bltn (v := .ty "int") (by rfl) mi PyProof.Rows.boot_int rfl) pa_nil)))
      (pe_one (pe_not (pe_callB call_isi (by rfl) ms PyProof.Rows.boot_isinstance (pa_cons (pv 0) (pa_cons (pe_bltn (v := .ty "bool") (by rfl) mb PyProof.Rows.boot_bool rfl) pa_nil))))))), ?_⟩
    rcases h with ⟨n, rfl, q⟩ | ⟨o, q⟩
    · refine ⟨.int n, rfl, .int n, .ty "int", .type "int", .type "int", true, rfl, .ty _, .base (.int n), kit_ty (by decide +kernel), true, rfl, iteT ?_⟩
      exact ⟨.int n, rfl, .int n, .ty "bool", .type "int", .type "bool", false, rfl, .ty _, .base (.int n), kit_ty (by decide +kernel), false, rfl, q⟩
    · obtain ⟨t, b, ty, k1, k2⟩ := o.kit (K := K)
      refine ⟨x, rfl, x, .ty "int", t, .type "int", b, rfl, .ty _, ty, k1, b, rfl, ?_⟩
      cases b with
      | false => exact iteF q
      | true => exact iteT ⟨x, rfl, x, .ty "bool", t, .type "bool", true, rfl, .ty _, ty, k2 rfl, true, rfl, q⟩
/-- is_integer -/
def spIsInt : Sp := fun vs H Q _ => ∃ (x : V) (lo hi : Int), vs = [x, .int lo, .int hi] ∧ ((∃ n : Int, x = .int n ∧ Q (.bl (decide (lo ≤ n) && decide (n ≤ hi))) H) ∨ (Odd H x ∧ Q (.bl false) H))
def spIsDigit : Sp := fun vs H Q _ => ∃ (x : V), vs = [x] ∧ ((∃ n : Int, x = .int n ∧ Q (.bl (decide (-9 ≤ n) && decide (n ≤ 9))) H) ∨ (Odd H x ∧ Q (.bl false) H))
theorem scI : FnScope ["value", "low", "high"] ["value", "low", "high"] (defScope sIsInt) := ⟨rfl, rfl, rfl, by decide +kernel, rfl, by decide +kernel, by decide +kernel⟩
theorem ok_isint {f fW : Addr} {fd fdW : FuncData} (F : Fun K "is_integer" "is_integer" sIsInt f fd) (GW : FnOk P w K mg base CX0 1 fW fdW ["value"] spWhole) (gW : mg "is_whole" = some (.ref fW)) (kW : PySem.W.keepIn K (.ref fW) = true) (bW : Binds K fdW ["value"] []) : FnOk P w K mg base CX0 2 f fd ["value", "low", "high"] spIsInt := by
  refine F.ok scI (fun vs H Q E h => ?_) (fun cdv A outer s H vs Q E hr h => ?_)
  · obtain ⟨x, lo, hi, rfl, _⟩ := h
    rfl
  · obtain ⟨x, lo, hi, rfl, h⟩ := h
    refine ⟨_, pss_one (ps_ret (pe_and (pe_call GW hr (by rfl) gW kW bW .nil pass0 (pa_cons (pv 0) pa_nil)) (pe_one (pe_chain op_le op_le (pv 1) (pv 0) (pv 2))))), ?_⟩
    rcases h with ⟨n, rfl, q⟩ | ⟨o, q⟩
    · exact ⟨.int n, rfl, .int n, rfl, .inl ⟨n, rfl, true, rfl, iteT ⟨.int lo, rfl, .int n, rfl, lo, n, rfl, rfl, _, rfl, iteAnd (fun z => ⟨.int hi, rfl, n, hi, rfl, rfl, z⟩) q⟩⟩⟩
    · exact ⟨x, rfl, x, rfl, .inr ⟨o, false, rfl, iteF q⟩⟩
def isBase (n : Int) : Bool := (decide (2 ≤ n) && decide (n ≤ 6)) || (decide (-6 ≤ n) && decide (n ≤ -2))
def spIsBase : Sp := fun vs H Q _ => ∃ (x : V), vs = [x] ∧ ((∃ n : Int, x = .int n ∧ Q (.bl (isBase n)) H) ∨ (Odd H x ∧ Q (.bl false) H))
theorem scIB : FnScope ["value"] ["value"] (defScope sIsBase) := ⟨rfl, rfl, rfl, by decide +kernel, rfl, by decide +kernel, by decide +kernel⟩
theorem ok_isbase {f fI : Addr} {fd fdI : FuncData} {t : Tok} (F : Fun K "is_base" "is_base" sIsBase f fd) (GI : FnOk P w K mg base CX0 2 fI fdI ["value", "low", "high"] spIsInt) (gI : mg "is_integer" = some (.ref fI)) (kI : PySem.W.keepIn K (.ref fI) = true) (bI : Binds K fdI ["value", "low", "high"] [])
    (gG : mg "GREATEST_BASE" = some (.int 6 t)) : FnOk P w K mg base CX0 3 f fd ["value"] spIsBase := by
  refine F.ok scIB (fun vs H Q E h => ?_) (fun cdv A outer s H vs Q E hr h => ?_)
  · obtain ⟨x, rfl, _⟩ := h
    rfl
  · obtain ⟨x, rfl, h⟩ := h
    refine ⟨_, pss_one (ps_ret (pe_or (pe_call GI hr (by rfl) gI kI bI .nil pass0 (pa_cons (pv 0) (pa_cons pe_int (pa_cons (pe_glob (v := .int 6) rfl gG ⟨_, rfl⟩) pa_nil))))
      (pe_one (pe_call GI hr (by rfl) gI kI bI .nil pass0 (pa_cons (pv 0) (pa_cons (pe_un un_neg (pe_glob (v := .int 6) rfl gG ⟨_, rfl⟩)) (pa_cons (pe_un un_neg pe_int) pa_nil))))))), ?_⟩
    rcases h with ⟨n, rfl, q⟩ | ⟨o, q⟩
    · exact ⟨.int n, rfl, _, 2, 6, rfl, .inl ⟨n, rfl, _, rfl, iteOr (fun z => ⟨.int n, rfl, 6, rfl, 2, rfl, _, -6, -2, rfl, .inl ⟨n, rfl, z⟩⟩) q⟩⟩
    · exact ⟨x, rfl, _, 2, 6, rfl, .inr ⟨o, _, rfl, iteF ⟨x, rfl, 6, rfl, 2, rfl, _, -6, -2, rfl, .inr ⟨o, q⟩⟩⟩⟩
theorem scID : FnScope ["value"] ["value"] (defScope sIsDigit) := ⟨rfl, rfl, rfl, by decide +kernel, rfl, by decide +kernel, by decide +kernel⟩
theorem ok_isdigit {f fI : Addr} {fd fdI : FuncData} {t : Tok} (F : Fun K "is_digit" "is_digit" sIsDigit f fd) (GI : FnOk P w K mg base CX0 2 fI fdI ["value", "low", "high"] spIsInt) (gI : mg "is_integer" = some (.ref fI)) (kI : PySem.W.keepIn K (.ref fI) = true) (bI : Binds K fdI ["value", "low", "high"] [])
    (gG : mg "GREATEST_DIGIT" = some (.int 9 t)) : FnOk P w K mg base CX0 3 f fd ["value"] spIsDigit := by
  refine F.ok scID (fun vs H Q E h => ?_) (fun cdv A outer s H vs Q E hr h => ?_)
  · obtain ⟨x, rfl, _⟩ := h
    rfl
  · obtain ⟨x, rfl, h⟩ := h
    refine ⟨_, pss_one (ps_ret (pe_call GI hr (by rfl) gI kI bI .nil pass0 (pa_cons (pv 0) (pa_cons (pe_un un_neg (pe_glob (v := .int 9) rfl gG ⟨_, rfl⟩)) (pa_cons (pe_glob (v := .int 9) rfl gG ⟨_, rfl⟩) pa_nil))))), ?_⟩
    rcases h with ⟨n, rfl, q⟩ | ⟨o, q⟩
    · exact ⟨.int n, rfl, 9, rfl, _, -9, 9, rfl, .inl ⟨n, rfl, q⟩⟩
    · exact ⟨x, rfl, 9, rfl, _, -9, 9, rfl, .inr ⟨o, q⟩⟩
/-- a digit -/
def dig (n : Int) : Bool := decide (-9 ≤ n) && decide (n ≤ 9)
theorem same_seqT {K : PySem.W.Frag} {H H' : Hp} {a : Addr} {xs : List V} (s : Same H H') (h : SqT K H a xs) : SqT K H' a xs := by
  rcases h with (h | ⟨o, h⟩) | h
  · exact .inl (.inl (s _ _ h))
  · exact .inl (.inr ⟨o, s _ _ h⟩)
  · exact .inr h

/-! ### values of any kind -/
def ItemOk (H : Hp) (x : V) : Prop := (∃ n : Int, x = .int n) ∨ Odd H x
theorem ItemOk.same {H H' : Hp} {x : V} (h : ItemOk H x) (s : Same H H') : ItemOk H' x := h.imp id fun o => o.same s
def digV : V → Bool
  | .int n => dig n
  | _ => false
theorem digV_odd {H : Hp} {x : V} (o : Odd H x) : digV x = false := by cases o <;> rfl
/-- no list, no tuple -/
inductive NoSeq (H : Hp) : V → Prop
  | int (n : Int) : NoSeq H (.int n)
  | non : NoSeq H .non
  | bl (b : Bool) : NoSeq H (.bl b)
  | str (z : Str) : NoSeq H (.str z)
  | dK {a : Addr} {kvs : List (Key × V)} (e : H a = some (.dK kvs)) : NoSeq H (.ref a)
theorem NoSeq.same {H H' : Hp} {x : V} (h : NoSeq H x) (s : Same H H') : NoSeq H' x := by
  cases h with
  | int n => exact .int n
  | non => exact .non
  | bl b => exact .bl b
  | str z => exact .str z
  | dK e => exact .dK (s _ _ e)
theorem NoSeq.kit {K : PySem.W.Frag} {H : Hp} {x : V} (h : NoSeq H x) : ∃ t, TyX K H x t ∧ PySem.W.kitAny K t [.type "list", .type "tuple"] = some false := by
  have go : ∀ a : String, kitB a "list" = some false → kitB a "tuple" = some false → PySem.W.kitAny K (.type a) [.type "list", .type "tuple"] = some false := fun a h1 h2 =>
    kitAny_cons (b := false) (kit_ty h1) (fun _ => kitAny_cons (b := false) (kit_ty h2) (fun _ => kitAny_nil) fun z => nomatch z) fun z => nomatch z
  cases h with
  | int n => exact ⟨_, .base (.int n), go "int" (by decide +kernel) (by decide +kernel)⟩
  | non => exact ⟨_, .base .non, go "NoneType" (by decide +kernel) (by decide +kernel)⟩
  | bl b => exact ⟨_, .base (.bl b), go "bool" (by decide +kernel) (by decide +kernel)⟩
  | str z => exact ⟨_, .base (.str z), go "str" (by decide +kernel) (by decide +kernel)⟩
  | dK e => exact ⟨_, .base (.dK e), go "dict" (by decide +kernel) (by decide +kernel)⟩
/-- a list or tuple, a tuple that the text has written too -/
inductive IsSeq (K : PySem.W.Frag) (H : Hp) (p : Addr) (xs : List V) : Prop
  | lst (e : H p = some (.lst xs)) : IsSeq K H p xs
  | tup (e : H p = some (.tup xs)) : IsSeq K H p xs
  | kt {o : Obj} (e : K.lookup p = some o) (c : o.cls = .type "tuple") (h : SqT K H p xs) : IsSeq K H p xs
theorem IsSeq.same {K : PySem.W.Frag} {H H' : Hp} {p : Addr} {xs : List V} (h : IsSeq K H p xs) (s : Same H H') : IsSeq K H' p xs := by
  cases h with
  | lst e => exact .lst (s _ _ e)
  | tup e => exact .tup (s _ _ e)
  | kt e c h => exact .kt e c (same_seqT s h)
theorem IsSeq.sq {K : PySem.W.Frag} {H : Hp} {p : Addr} {xs : List V} (h : IsSeq K H p xs) : SqL K H p xs ∨ SqT K H p xs := by
  cases h with
  | lst e => exact .inl (SqL.of e)
  | tup e => exact .inr (SqT.of e)
  | kt e c h => exact .inr h
theorem IsSeq.lt {K : PySem.W.Frag} {H : Hp} {p : Addr} {xs : List V} (h : IsSeq K H p xs) : ∃ t, TyX K H (.ref p) t ∧ PySem.W.kitAny K t [.type "list", .type "tuple"] = some true := by
  have tu : PySem.W.kitAny K (.type "tuple") [.type "list", .type "tuple"] = some true := kitAny_cons (b := false) (kit_ty (by decide +kernel)) (fun _ => kitAny_cons (b := true) (kit_ty (by decide +kernel)) (fun z => nomatch z) fun _ => rfl) fun z => nomatch z
  cases h with
  | lst e => exact ⟨_, .base (.lst e), kitAny_cons (b := true) (kit_ty (by decide +kernel)) (fun z => nomatch z) fun _ => rfl⟩
  | tup e => exact ⟨_, .base (.tup e), tu⟩
  | kt e c h => exact ⟨_, .kTuple e c, tu⟩
/-- are_digits of a list or tuple of any items -/
def spAre (K : PySem.W.Frag) : Sp := fun vs H Q _ => ∃ (p : Addr) (xs : List V), vs = [.ref p] ∧ (SqL K H p xs ∨ SqT K H p xs) ∧ (∀ x ∈ xs, ItemOk H x) ∧ xs.length ≤ 1000 ∧ ∀ H', Same H H' → Q (.bl (xs.all digV)) H'
theorem scAr : FnScope ["items", "item"] ["items"] (defScope sAre) := ⟨rfl, rfl, rfl, by decide +kernel, rfl, by decide +kernel, by decide +kernel⟩
theorem ok_are {f fD : Addr} {fd fdD : FuncData} (F : Fun K "are_digits" "are_digits" sAre f fd) (GD : FnOk P w K mg base CX0 3 fD fdD ["value"] spIsDigit) (gD : mg "is_digit" = some (.ref fD)) (kD : PySem.W.keepIn K (.ref fD) = true) (bD : Binds K fdD ["value"] [])
    (mall : mg "all" = none) : FnOk P w K mg base CX0 4 f fd ["items"] (spAre K) := by
  refine F.ok scAr (fun vs H Q E h => ?_) (fun cdv A outer s H vs Q E hr h => ?_)
  · obtain ⟨p, xs, rfl, _⟩ := h
    rfl
  · obtain ⟨p, xs, rfl, hp, it, hl, q⟩ := h
    have turn : ∀ (i : Nat) (x : V) (H' : Hp) (D : Addr), H D = none → xs[i]? = some x → (Same H H' ∧ H' D = some (.lst ((xs.take i).map fun x => V.bl (digV x)))) →
        tCall spIsDigit [] E0 (tCons (tVar 1) tNil) [some (.ref p), some x] H' (fun v H2 => ∃ acc, H2 D = some (.lst acc) ∧ acc.length < sizeLine ∧ (Same H (upd H2 D (.lst (acc ++ [v]))) ∧ (upd H2 D (.lst (acc ++ [v]))) D = some (.lst ((xs.take (i + 1)).map fun x => V.bl (digV x))))) := by
      intro i x H' D hD hx ⟨s1, e1⟩
      have fin : ∃ acc, H' D = some (.lst acc) ∧ acc.length < sizeLine ∧ (Same H (upd H' D (.lst (acc ++ [.bl (digV x)]))) ∧ (upd H' D (.lst (acc ++ [.bl (digV x)]))) D = some (.lst ((xs.take (i + 1)).map fun x => V.bl (digV x)))) := by
        refine ⟨_, e1, ?_, Same.store s1 hD, ?_⟩
        · rw [List.length_map]
          exact Nat.lt_of_le_of_lt (List.length_take_le' _ _) (small1000 hl)
        · rw [upd_same, take_more hx, List.map_append]
          rfl
      rcases it x (List.mem_of_getElem? hx) with ⟨n, rfl⟩ | o
      · exact ⟨.int n, rfl, .int n, rfl, .inl ⟨n, rfl, fin⟩⟩
      · rw [digV_odd o] at fin
        exact ⟨x, rfl, x, rfl, .inr ⟨o.same s1, fin⟩⟩
    have done : ∀ (D : Addr) (H' : Hp), H' D = some (.lst ((xs.take xs.length).map fun x => V.bl (digV x))) → H' D = some (.lst ((xs.map digV).map V.bl)) ∧ (xs.map digV).all id = xs.all digV := by
      intro D H' e
      rw [List.take_length] at e
      refine ⟨by rw [e, List.map_map]; rfl, ?_⟩
      rw [List.all_map]
      rfl
    rcases hp with hp | hp
    · refine ⟨_, pss_one (ps_ret (pe_callB (cr_all rfl) (by rfl) mall (by decide +kernel) (pa_cons (pe_lc (own := [("item", 1)]) (g := gName 1) (tt := tYes) (te := tCall spIsDigit [] E0 (tCons (tVar 1) tNil)) rfl scAr.nd (pi_list (pv 0))
            (blkOk_by (own := [("item", 1)]) (N := ["items", "item"]) (sc := defScope sAre) (by decide +kernel)) (fun _ _ _ _ _ => pg_name (i := 1) scAr.nd rfl (Or.inl rfl)) (fun _ _ _ _ _ => pts_nil)
            (fun _ _ _ _ _ => by exact (pe_call GD hr (by rfl) gD kD bD .nil pass0 (pa_cons (pv 1) pa_nil)))) pa_nil))), ?_⟩
      refine ⟨.ref p, rfl, p, rfl, ⟨_, hp⟩, fun D hD => ?_⟩
      refine lc_list (K := K) (a := p) (xs := xs) (fun i H' => Same H H' ∧ H' D = some (.lst ((xs.take i).map fun x => V.bl (digV x)))) ⟨same_new hD, upd_same⟩ (fun i H' _ h => h.1.seq hp) ?_ ?_
      · rintro i x H' hx h
        exact ⟨rfl, tYes_if (turn i x H' D hD hx h)⟩
      · rintro H' ⟨s1, e1⟩
        obtain ⟨e2, e3⟩ := done D H' e1
        exact ⟨D, xs.map digV, rfl, SqL.of e2, by rw [e3]; exact q H' s1⟩
    · refine ⟨_, pss_one (ps_ret (pe_callB (cr_all rfl) (by rfl) mall (by decide +kernel) (pa_cons (pe_lc (own := [("item", 1)]) (g := gName 1) (tt := tYes) (te := tCall spIsDigit [] E0 (tCons (tVar 1) tNil)) rfl scAr.nd (pi_tup (pv 0))
            (blkOk_by (own := [("item", 1)]) (N := ["items", "item"]) (sc := defScope sAre) (by decide +kernel)) (fun _ _ _ _ _ => pg_name (i := 1) scAr.nd rfl (Or.inl rfl)) (fun _ _ _ _ _ => pts_nil)
            (fun _ _ _ _ _ => by exact (pe_call GD hr (by rfl) gD kD bD .nil pass0 (pa_cons (pv 1) pa_nil)))) pa_nil))), ?_⟩
      refine ⟨.ref p, rfl, p, rfl, ⟨_, hp⟩, fun D hD => ?_⟩
      refine lc_tup (K := K) (a := p) (xs := xs) (fun i H' => Same H H' ∧ H' D = some (.lst ((xs.take i).map fun x => V.bl (digV x)))) ⟨same_new hD, upd_same⟩ (fun i H' _ h => same_seqT h.1 hp) ?_ ?_
      · rintro i x H' hx h
        exact ⟨rfl, tYes_if (turn i x H' D hD hx h)⟩
      · rintro H' ⟨s1, e1⟩
        obtain ⟨e2, e3⟩ := done D H' e1
        exact ⟨D, xs.map digV, rfl, SqL.of e2, by rw [e3]; exact q H' s1⟩

/-- _is_digit_list of any value -/
def spDigList (K : PySem.W.Frag) : Sp := fun vs H Q _ => ∃ x : V, vs = [x] ∧ ((NoSeq H x ∧ ∀ H', Same H H' → Q (.bl false) H') ∨ ∃ (p : Addr) (xs : List V), x = .ref p ∧ IsSeq K H p xs ∧ (∀ y ∈ xs, ItemOk H y) ∧ xs.length ≤ 1000 ∧ ∀ H', Same H H' → Q (.bl (xs.all digV)) H')
theorem scDl : FnScope ["value"] ["value"] (defScope sDigList) := ⟨rfl, rfl, rfl, by decide +kernel, rfl, by decide +kernel, by decide +kernel⟩
theorem ok_diglist {f fA : Addr} {fd fdA : FuncData} (F : Fun K "_is_digit_list" "_is_digit_list" sDigList f fd) (GA : FnOk P w K mg base CX0 4 fA fdA ["items"] (spAre K)) (gA : mg "are_digits" = some (.ref fA)) (kA : PySem.W.keepIn K (.ref fA) = true) (bA : Binds K fdA ["items"] [])
    (mis : mg "isinstance" = none) (ml : mg "list" = none) (mt : mg "tuple" = none) : FnOk P w K mg base CX0 5 f fd ["value"] (spDigList K) := by
  refine F.ok scDl (fun vs H Q E h => ?_) (fun cdv A outer s H vs Q E hr h => ?_)
  · obtain ⟨x, rfl, _⟩ := h
    rfl
  · obtain ⟨x, rfl, h⟩ := h
    refine ⟨_, pss_one (ps_ret (pe_and (pe_callB call_isiT (by rfl) mis PyProof.Rows.boot_isinstance (pa_cons (pv 0) (pa_cons (pe_tup (pa_cons (pe_bltn (v := .ty "list") (by rfl) ml PyProof.Rows.boot_list rfl) (pa_cons (pe_bltn (v := .ty "tuple") (by rfl) mt (by decide +kernel) rfl) pa_nil))) pa_nil)))
      (pe_one (pe_call GA hr (by rfl) gA kA bA .nil pass0 (pa_cons (pv 0) pa_nil))))), ?_⟩
    refine ⟨x, rfl, (by show 2 ≤ sizeLine; decide), fun T hT => ?_⟩
    have s1 := same_new (o := .tup [.ty "list", .ty "tuple"]) hT
    rcases h with ⟨no, q⟩ | ⟨p, xs, rfl, hp, it, hl, q⟩
    · obtain ⟨t, ty, k⟩ := (no.same s1).kit (K := K)
      exact ⟨x, T, _, t, _, false, rfl, upd_same, .cons (.ty _) (.cons (.ty _) .nil), ty, k, false, rfl, iteF (q _ s1)⟩
    · obtain ⟨t, ty, k⟩ := (hp.same s1).lt (K := K)
      exact ⟨.ref p, T, _, t, _, true, rfl, upd_same, .cons (.ty _) (.cons (.ty _) .nil), ty, k, true, rfl, iteT ⟨.ref p, rfl, p, xs, rfl, (hp.same s1).sq, (fun y hy => (it y hy).same s1), hl, fun H' s2 => q H' (s1.trans s2)⟩⟩
theorem all_ints {xs : List V} (h : xs.all digV = true) : ∃ ns : List Int, xs = ns.map V.int ∧ ns.all dig = true := by
  induction xs with
  | nil => exact ⟨[], rfl, rfl⟩
  | cons x l ih =>
    rw [List.all_cons, Bool.and_eq_true] at h
    obtain ⟨ns, rfl, h2⟩ := ih h.2
    cases x with
    | int n => exact ⟨n :: ns, rfl, by rw [List.all_cons, h2, Bool.and_true]; exact h.1⟩
    | _ => exact absurd (show false = true from h.1) Bool.false_ne_true
/-- _different_digits of any value -/
def spDiffDig (K : PySem.W.Frag) (C : Addr) : Sp := fun vs H Q E => ∃ x : V, vs = [x] ∧ ((NoSeq H x ∧ Raised C "value" x H E) ∨ ∃ (p : Addr) (xs : List V), x = .ref p ∧ IsSeq K H p xs ∧ (∀ y ∈ xs, ItemOk H y) ∧ xs.length ≤ 900 ∧ (xs.all digV = false → Raised C "value" x H E) ∧
  ∀ ns : List Int, xs = ns.map V.int → ns.all dig = true → ∃ six : Bool, (∀ ks : List Int, ks.Nodup → (∀ k, k ∈ ks ↔ k ∈ ns) → (decide (1 ≤ ks.length) && decide (ks.length ≤ 6)) = six) ∧ (six = false → Raised C "value" x H E) ∧
    (six = true → ∀ (ds : List Int) (t : Addr) (H' : Hp), ds.Pairwise (· < ·) → (∀ k, k ∈ ds ↔ k ∈ ns) → Same H H' → H t = none → H' t = some (.tup (ds.map V.int)) → Q (.ref t) H'))
theorem scDd : FnScope ["digits"] ["digits"] (defScope sDiffDig) := ⟨rfl, rfl, rfl, by decide +kernel, rfl, by decide +kernel, by decide +kernel⟩
theorem ok_diffdig {f fL fI C : Addr} {fd fdL fdI : FuncData} {t6 : Tok} (F : Fun K "_different_digits" "_different_digits" sDiffDig f fd) (GL : FnOk P w K mg base CX0 5 fL fdL ["value"] (spDigList K)) (gL : mg "_is_digit_list" = some (.ref fL)) (kL : PySem.W.keepIn K (.ref fL) = true) (bL : Binds K fdL ["value"] [])
    (GI : FnOk P w K mg base CX0 3 fI fdI ["self", "value"] (spInit K "value" C)) (T : ErrC K mg "InvalidDigits" "value" C fI) (bI : Binds K fdI ["self", "value"] [])
    (g6 : mg "MOST_DIGITS" = some (.int 6 t6)) (ml : mg "len" = none) (ms : mg "set" = none) (mso : mg "sorted" = none) (mt : mg "tuple" = none) : FnOk P w K mg base (L2N.CX P w) 6 f fd ["digits"] (spDiffDig K C) := by
  refine okXN F scDd (fun vs H Q E h => ?_) (fun cdv A outer s H vs Q E hr h => ?_)
  · obtain ⟨x, rfl, _⟩ := h
    rfl
  · obtain ⟨x, rfl, h⟩ := h
    have hr3 : Room 4 _ := hr.mono (by decide)
    apply Exists.intro
    apply And.intro
    · apply pss_cons
      · exact ps_if (PW.pt (pw_or (pt_not (pt_val (pe_call GL hr (by rfl) gL kL bL .nil pass0 (pa_cons (pv 0) pa_nil))))
            (pw_or1 (pt_not (pt_chain op_le op_le pe_int (pe_callB call_lenSetO (by rfl) ml PySem.boot_len (pa_cons (pe_callTy (cr_setB rfl) (by rfl) ms PyProof.Rows.boot_set (pa_cons (pv 0) pa_nil)) pa_nil)) (pe_glob (v := .int 6) (by rfl) g6 ⟨_, rfl⟩))))))
          (pss_one (L2N.ps_raise rfl (L2N.takes_of rfl rfl rfl rfl) (pmk_oexN T.ox T.iC T.tI GI hr3 bI pass0 (by rfl) T.g (pa_cons (pv 0) pa_nil)))) pss_nil
      apply pss_one
      · exact ps_ret (pe_callTy call_tuple_of (by rfl) mt (by decide +kernel) (pa_cons (pe_callB (cr_sortedSet rfl) (by rfl) mso (by decide +kernel) (pa_cons (pe_callTy (cr_setB rfl) (by rfl) ms PyProof.Rows.boot_set (pa_cons (pv 0) pa_nil)) pa_nil)) pa_nil))
    have raise : ∀ {H1 : Hp}, Raised C "value" x H E → Same H H1 → _ := fun {H1} hE s1 => raised_ok (K := K) (σ := start ["digits"] [x]) (D := { nx := fun _ H' => Q .non H', rt := Q }) hE s1
    rcases h with ⟨no, hE⟩ | ⟨p, xs, rfl, hp, it, hl, hE, hq⟩
    · exact ⟨x, rfl, x, rfl, .inl ⟨no, fun H1 s1 => ⟨false, rfl, iteT ⟨x, rfl, raise hE s1⟩⟩⟩⟩
    · refine ⟨.ref p, rfl, .ref p, rfl, .inr ⟨p, xs, rfl, hp, it, by omega, fun H1 s1 => ?_⟩⟩
      cases hd : xs.all digV with
      | false => exact ⟨false, rfl, iteT ⟨.ref p, rfl, raise (hE hd) s1⟩⟩
      | true =>
        obtain ⟨ns, rfl, hn⟩ := all_ints hd
        obtain ⟨six, h6, hE6, q⟩ := hq ns rfl hn
        rw [List.length_map] at hl
        refine ⟨true, rfl, iteF ?_⟩
        refine ⟨.ref p, rfl, p, ns, rfl, (hp.same s1).sq, (Nat.le_trans hl (by decide)), fun S1 ks hS1 nd mem => ?_⟩
        have h66 := h6 ks nd mem
        have s2 : Same H (upd H1 S1 (SetO w S1 (fun j => decide (j ∈ ns)) ks.length)) := s1.trans (same_new hS1)
        refine ⟨S1, _, ks.length, rfl, upd_same, 1, (ks.length : Int), rfl, rfl, _, rfl, ?_⟩
        have e1 : decide ((1 : Int) ≤ (ks.length : Int)) = decide (1 ≤ ks.length) := by
          rw [decide_eq_decide]
          omega
        have e6 : decide ((ks.length : Int) ≤ 6) = decide (ks.length ≤ 6) := by
          rw [decide_eq_decide]
          omega
        cases six with
        | false =>
          cases h1 : decide ((1 : Int) ≤ (ks.length : Int)) with
          | false => exact iteFB rfl ⟨_, rfl, iteTB rfl ⟨.ref p, rfl, raise (hE6 rfl) s2⟩⟩
          | true =>
            refine iteTB rfl ⟨(ks.length : Int), 6, rfl, rfl, _, rfl, ?_⟩
            rw [← e1, h1, Bool.true_and, ← e6] at h66
            exact iteTB (by rw [h66]; rfl) ⟨.ref p, rfl, raise (hE6 rfl) s2⟩
        | true =>
          rw [← e1, ← e6, Bool.and_eq_true] at h66
          refine iteTB h66.1 ⟨(ks.length : Int), 6, rfl, rfl, _, rfl, iteFB (by rw [h66.2]; rfl) ?_⟩
          refine ⟨.ref p, rfl, p, ns, rfl, (hp.same s2).sq, (Nat.le_trans hl (by decide)), fun S2 ks2 hS2 nd2 mem2 => ?_⟩
          have k66 := h6 ks2 nd2 mem2
          rw [Bool.and_eq_true, decide_eq_true_eq, decide_eq_true_eq] at k66
          refine ⟨S2, _, _, rfl, upd_same, by omega, fun ds D asc mds lds hD => ?_⟩
          have s3 : Same H (upd (upd (upd H1 S1 (SetO w S1 (fun j => decide (j ∈ ns)) ks.length)) S2 (SetO w S2 (fun j => decide (j ∈ ns)) ks2.length)) D (.lst (ds.map V.int))) := s2.trans ((same_new hS2).trans (same_new hD))
          refine ⟨D, _, rfl, .inl ⟨SqL.of upd_same, fun t ht => ?_⟩⟩
          exact q rfl ds t _ asc (fun k => (mds k).trans ⟨fun z => of_decide_eq_true z, fun z => decide_eq_true z⟩) (Same.store s3 (s3.free ht)) (s3.free ht) upd_same
end
end K08
set_option maxHeartbeats 4000000
/-! set(xs) of a tuple of tuples of ints. -/
namespace OF
open PySem PySem.Spec PyProof.Rows L2
section
variable {P : Program} {w : World} {A : Around} {E : Value → Shared → Prop}
theorem set_of_tuple2 {h : Heap} {g : Array GenState} {d : Drawn} {t : Nat} {os : OsState} {l : Addr} {xs : Array Value} (ks : List (Addr × List Int)) {Q : Value → Shared → Prop} (calm : A.handled = none) (tpl : h.IsTuple l xs)
    (refs : xs.toList = ks.map fun p => Value.ref p.1) (each : ∀ p ∈ ks, IsT P w h p.2 p.1) (few : ks.length < 64) (room : A.units + 3 < cLine)
    (fin : ∀ (h' : Heap) (tk : Nat) L es ep t', SetTR P w h' h.objs.size L es ep t' → Got ks ks.length L → (∀ b o, h.get? b = some o → h'.get? b = some o) → Q (.ref h.objs.size) ⟨h', g, d, tk, os⟩) :
    wpAny (model P w) A (call (.type "set") [.ref l]) Q E ⟨h, g, d, t, os⟩ := by
  have size : xs.size = ks.length := by
    rw [← Array.length_toList, refs, List.length_map]
  obtain ⟨c, tl, hmro⟩ := F.called_set.mro
  have f1 := F.called_set.made
  have f2 := F.called_set.sub
  have f3 := F.called_set.notType
  have f4 := F.called_set.canCreate
  have f5 := F.typeCall_set_1 (.ref l)
  apply wpAny_call
  apply codeAny_of_tree
  show wpAny _ _ (callAny (.type "set") _) _ _ _
  apply wpAny_pure
  refine ⟨Code.quiet_builtin _ (by decide +kernel), codeAny_builtin F.entry_type_call ?_⟩
  rw [Around.under_plain (weight_type_call_type "set" [.ref l] []) rfl]
  repeat any_goals first
    | assumption
    | wp_step
  refine codeAny_mono (code_set_led1 (s := ⟨h, g, d, t, os⟩) (.ref l) (E := E) (Q₁ := fun v s1 => v = .ref h.objs.size ∧ s1 = ⟨h.push (setObj0 w), g, d, t, os⟩) ⟨rfl, rfl⟩) ?_
  intro r s1 z
  cases r with
  | error e => exact z
  | ok fl =>
    cases fl with
    | next => exact z.elim
    | brk => exact z.elim
    | cont => exact z.elim
    | ret v =>
      obtain ⟨ev, es⟩ := z
      subst ev es
      have there : (h.push (setObj0 w)).get? h.objs.size = some (setObj0 w) := Heap.get?_push_size _ rfl
      have isSet : Shared.TypeIs ⟨h.push (setObj0 w), g, d, t, os⟩ (.ref h.objs.size) "set" := ⟨_, there, rfl⟩
      have i1 := F.called_set.init.lookup
      have i2 := F.called_set.init.bind (.ref h.objs.size)
      repeat any_goals first
        | assumption
        | wp_step
      refine codeAny_mono (codeAny_call_builtin (R := wants (fun r s2 => r = .none ∧ ∃ h' tk L es ep t', s2 = ⟨h', g, d, tk, os⟩ ∧ SetTR P w h' h.objs.size L es ep t' ∧ Got ks ks.length L ∧ (∀ b o, h.get? b = some o → h'.get? b = some o)) E)
        F.called_set.init.plain F.entry_set_init (check_set_init_1 isSet ?inner)) ?outer
      case outer =>
        intro r2 s2 z2
        cases r2 with
        | error e => exact z2
        | ok fl2 =>
          cases fl2 with
          | next => exact z2.elim
          | brk => exact z2.elim
          | cont => exact z2.elim
          | ret v2 =>
            obtain ⟨ev, h', tk, L, es, ep, t', e2, hS, hc, hk⟩ := z2
            subst ev e2
            repeat any_goals first
              | assumption
              | wp_step
            exact fin _ _ _ _ _ _ hS hc hk
      case inner =>
        obtain ⟨o1, ho1, hc1, m1, hd1⟩ := tpl
        obtain ⟨k1, k2, k3, k4⟩ := o1
        simp only at hc1 hd1
        subst hc1 hd1
        have there2 : (h.push (setObj0 w)).get? l = some { cls := .type "tuple", dict := k2, data := .seq xs m1, slots := k4 } := Heap.get?_push_of_some _ ho1
        have s1 := F.sub_tuple_set
        have s2 := F.sub_tuple_frozenset
        have apart : (Value.type "tuple" == Value.type "dict") = false := by decide
        have tpl1 : (h.push (setObj0 w)).IsTuple l xs := ⟨_, there2, rfl, m1, rfl⟩
        unfold Builtin.«set.__init__» noKeywords Builtin.Frozenset.updateFrom
        generalize same : pyIter = PI
        wp_walk
        subst same
        apply wpAny_pyIter_tuple tpl1
        apply wpAny_bind
        apply wpAny_runValue
        have below : l < h.objs.size := Heap.lt_size ho1
        have calm3 : A.in1.in1.in1.handled = none := by simp [calm]
        have sz : (h.push (setObj0 w)).objs.size = h.objs.size + 1 := Heap.size_push ..
        have ne1 : l ≠ (h.push (setObj0 w)).objs.size := by
          rw [sz]
          exact Nat.ne_of_lt (Nat.lt_succ_of_lt below)
        have ne2 : h.objs.size ∉ [(h.push (setObj0 w)).objs.size, l] := by
          rw [sz]
          simp only [List.mem_cons, List.not_mem_nil, or_false, not_or]
          exact ⟨Nat.ne_of_lt (Nat.lt_succ_self _), Nat.ne_of_gt below⟩
        have vals : ∀ (i : Nat) (v : Value), xs[i]? = some v → ∃ p, ks[i]? = some p ∧ v = .ref p.1 := by
          intro i v hv
          have e : xs.toList[i]? = some v := by
            rw [Array.getElem?_toList]
            exact hv
          rw [refs, List.getElem?_map] at e
          obtain ⟨p, hp, rfl⟩ := Option.map_eq_some_iff.mp e
          exact ⟨p, hp, rfl⟩
        have nothing : ∀ b, h.objs.size ≤ b → h.get? b = none := by
          intro b hb
          rcases Option.eq_none_or_eq_some (h.get? b) with z | ⟨o, z⟩
          · exact z
          · exact absurd (Nat.lt_of_lt_of_le (Heap.lt_size z) hb) (Nat.lt_irrefl _)
        refine set_update_tups ((Walks.tuple calm3 _ l ne1 xs).toS) h.objs.size ne2 ks size few vals h each (nothing _ (Nat.le_refl _)) (fun b hb => ?_) room (xs.size - 0) 0 _ (by omega) (Nat.zero_le _) ⟨⟨_, Heap.get?_push_size _ rfl, rfl, rfl⟩, (tpl1.push _)⟩ (fun b o e => Heap.get?_push_of_some _ (Heap.get?_push_of_some _ e)) ?start ?stop
        · rw [List.mem_singleton.mp hb, sz]
          exact nothing _ (Nat.le_succ _)
        case start =>
          have got : ((h.push (setObj0 w)).push { cls := .type "tuple_iterator", data := .fields #[.ref l, .int 0 0] }).get? h.objs.size = some (setObj0 w) := Heap.get?_push_of_some _ there
          exact ⟨[], #[], 0, _, setTR_fresh got, Got.zero ks⟩
        case stop =>
          intro s' L es ep t' hm hS hc hk
          obtain ⟨h', g2, d2, tk, os2⟩ := s'
          have eg : g2 = g := hm.gens
          have ed : d2 = d := hm.drawn
          have eo : os2 = os := hm.os
          subst eg ed eo
          show wpAny _ _ _ _ _ _
          apply wpAny_pure
          show wpAny _ _ (ret Value.none) _ _ _
          rw [size] at hc
          exact wpAny_pure ⟨rfl, h', tk, L, es, ep, t', rfl, hS, hc, hk⟩
end
section
variable {X : Cx}
/-- set(xs): xs a list or a tuple of tuples of ints -/
def rSetOfA (K : PySem.W.Frag) (P : Program) (w : World) : List V → Hp → VK → Prop := fun xs H Q => ∃ (l : Addr) (ks : List (Addr × List Int)), xs = [V.ref l] ∧ (SqL K H l (ks.map fun p => V.ref p.1) ∨ SqT K H l (ks.map fun p => V.ref p.1)) ∧ (∀ p ∈ ks, SqT K H p.1 (p.2.map V.int)) ∧ ks.length < 64 ∧
  ∀ a L, H a = none → (∀ p ∈ L, p ∈ ks) → (∀ p ∈ ks, p.2 ∈ L.map (·.2)) → Q (.ref a) (upd H a (SetTO P w a L))
theorem refs_vals : ∀ {ks : List (Addr × List Int)} {us : List Value}, Vals (ks.map fun p => V.ref p.1) us → us = ks.map fun p => Value.ref p.1
  | [], _, .nil => rfl
  | p :: ks, _, .cons r t => by
    cases r
    rw [refs_vals t, List.map_cons]
theorem cr_setOfA (hc : X.calm = true) (hu : X.A.units + 64 < cLine) : CallR X (.type "set") (rSetOfA X.K X.prog X.w) := by
  intro pins s σ H xs us Q I r h
  obtain ⟨l, ks, rfl, hl, hk, few, q⟩ := h
  rcases hl with hl | hl
  · exact cr_setOfT hc hu pins s σ H _ us Q I r ⟨l, ks, rfl, hl, hk, few, q⟩
  · obtain ⟨u, rfl, ru⟩ := vals1 r
    cases ru
    have hn : H s.heap.objs.size = none := I.hok.fresh (Nat.le_refl _)
    obtain ⟨its, rv, pl, _⟩ := I.tuple hl
    have each : ∀ p ∈ ks, IsT X.prog X.w s.heap p.2 p.1 := fun p hp => I.isT (hk p hp)
    have hd := I.ok.hd hc
    have rv2 := refs_vals rv
    obtain ⟨hp, g, d, t, os⟩ := s
    refine set_of_tuple2 ks hd pl (by simpa using rv2) each few (by omega) fun h' tk L es ep t' R gt k => ?_
    refine ⟨.ref hp.objs.size, upd H hp.objs.size (SetTO X.prog X.w hp.objs.size L), I.laid (t' := tk) k (Nat.le_refl _) (setTO_new R.t0), rfl, q _ L hn (fun p hp => ?_) fun p hp => ?_⟩
    · exact List.mem_of_mem_take (gt.sub p hp)
    · exact gt.all p (by rw [List.take_length]; exact hp)
end
end OF
/-! repr of any data without dicts; a value equal to itself; what an except clause does not take. -/
namespace OF
open PySem PySem.Spec PyProof.Rows L2
/-- repr of data -/
def rReprD (K : PySem.W.Frag) : List V → Hp → VK → Prop := fun xs H Q => ∃ (v : V) (d : PyData), xs = [v] ∧ Dp K H v d ∧ d.showable = true ∧ d.hasDict = false ∧ d.shown.length ≤ sizeLine ∧ d.depth ≤ 40 ∧ Q (.str d.shown) H
theorem call_reprD {X : Cx} (gu : X.A.guards = some []) (hu : X.A.units + 64 < cLine) : CallR X (.builtin "repr") (rReprD X.K) := by
  intro pins s σ H xs us Q I r h
  obtain ⟨v, d, rfl, hd, sh, nd, len, dep, q⟩ := h
  obtain ⟨u, rfl, ru⟩ := vals1 r
  have big : ∀ {p : Addr}, v = .ref p → wpAny (model X.prog X.w) X.A (call (.builtin "repr") [u]) (EP X pins σ Q) X.xe s := fun {p} e => by
    subst e
    cases ru
    obtain ⟨as, rd⟩ := Dp.reads I d _ _ hd rfl
    exact PySem.repr_of_reads' rd sh (fun z => by rw [nd] at z; cases z) gu (by omega) (fun _ _ z => z) (fun h' t tk kp => ⟨.str _, H, I.kept kp, ⟨_, rfl⟩, q⟩) len
  cases hd with
  | non =>
    cases ru
    exact PySem.P.repr_of_none ⟨.str _, H, I.tok _, ⟨_, rfl⟩, q⟩
  | bl b =>
    cases ru
    exact PySem.P.repr_of_bool ⟨.str _, H, I.tok _, ⟨_, rfl⟩, by cases b <;> exact q⟩
  | int i =>
    obtain ⟨t, rfl⟩ := ru
    exact PySem.P.repr_of_int (of_decide_eq_true sh) ⟨.str _, H, I.tok _, ⟨_, rfl⟩, q⟩
  | str z =>
    obtain ⟨t, rfl⟩ := ru
    exact PySem.P.repr_of_str ⟨.str _, H, I.tok _, ⟨_, rfl⟩, q⟩ len
  | lst h1 h2 => exact big rfl
  | tup h1 h2 => exact big rfl
/-- a value is equal to itself -/
def rEqSelf (K : PySem.W.Frag) : R2 := fun x y H Q => x = y ∧ ((∃ d, Dp K H x d ∧ SeqAt.shaped d = true) ∨ ∃ p, x = .ref p ∧ H p = some (.dK [])) ∧ Q (.bl true) H
theorem op_eqSelf {X : Cx} (hu : X.A.units + 64 < cLine) : OpR X (compareOp .Eq) (rEqSelf X.K) := by
  intro pins s σ H x y v u Q I rx ry h
  obtain ⟨rfl, h, q⟩ := h
  rcases h with ⟨d, hd, sh⟩ | ⟨p, rfl, hp⟩
  · refine op_eqD hu pins s σ H x x v u Q I rx ry ⟨d, d, hd, hd, sh, sh, ?_⟩
    rw [SeqAt.eqv_refl d (SeqAt.canLay_of_shaped sh)]
    exact q
  · exact op_eq_dictA (by omega) pins s σ H _ _ v u Q I rx ry ⟨p, p, [], [], rfl, rfl, hp, hp, rfl, (fun z hz => by cases hz), q⟩
/-- an error of another class -/
theorem exm_other {K : PySem.W.Frag} {S D : Addr} (h1 : PySem.W.subIn K (.ref D) (.type "BaseException") = some true) (h2 : PySem.W.isClsIn K D = true) (h3 : PySem.W.typeIn K (.ref D) = some (.type "type")) (h4 : PySem.W.subIn K (.ref S) (.ref D) = some false) (ne : S ≠ D) :
    PySem.W.exmOne K (.ref S) (.ref D) = some false := by
  have h2' : (PySem.W.clsIn K D).isSome = true := h2
  unfold PySem.W.exmOne
  simp only [h1, beq_self_eq_true, if_true]
  unfold PySem.W.kitCls
  simp only [h3, h4, h2', beq_self_eq_true, Bool.and_self, if_true]
end OF
namespace K08
open PySem PySem.Spec PyProof.Rows L2 OF
section
variable {P : Program} {w : World} {K : PySem.W.Frag} {mg : Str → Option Value} {base : Heap}
def spOneOf (K : PySem.W.Frag) : Sp := fun vs H Q _ => ∃ (t : Addr) (ds : List Int) (x : V), vs = [.ref t, x] ∧ SqT K H t (ds.map V.int) ∧ ((∃ n : Int, x = .int n ∧ Q (.bl (dig n && decide (n ∈ ds))) H) ∨ (Odd H x ∧ Q (.bl false) H))
theorem in_ints (n : Int) : ∀ ds : List Int, inV (.int n) (ds.map V.int) = decide (n ∈ ds)
  | [] => by
    show false = _
    rw [decide_eq_false (List.not_mem_nil)]
  | d :: ds => by
    show ((d == n) || inV (.int n) (ds.map V.int)) = _
    rw [in_ints n ds, Bool.eq_iff_iff]
    simp only [Bool.or_eq_true, beq_iff_eq, decide_eq_true_eq, List.mem_cons]
    constructor
    · rintro (h | h)
      · exact .inl h.symm
      · exact .inr h
    · rintro (h | h)
      · exact .inl h.symm
      · exact .inr h
theorem flat_ints : ∀ ds : List Int, (ds.map V.int).all flatV = true
  | [] => rfl
  | _ :: ds => flat_ints ds
theorem scOn : FnScope ["digits", "value"] ["digits", "value"] (defScope sOneOf) := ⟨rfl, rfl, rfl, by decide +kernel, rfl, by decide +kernel, by decide +kernel⟩
theorem ok_oneof {f fD : Addr} {fd fdD : FuncData} (F : Fun K "_is_one_of" "_is_one_of" sOneOf f fd) (GD : FnOk P w K mg base CX0 3 fD fdD ["value"] spIsDigit) (gD : mg "is_digit" = some (.ref fD)) (kD : PySem.W.keepIn K (.ref fD) = true) (bD : Binds K fdD ["value"] []) :
    FnOk P w K mg base CX0 4 f fd ["digits", "value"] (spOneOf K) := by
  refine F.ok scOn (fun vs H Q E h => ?_) (fun cdv A outer s H vs Q E hr h => ?_)
  · obtain ⟨t, ds, x, rfl, _⟩ := h
    rfl
  · obtain ⟨t, ds, x, rfl, ht, h⟩ := h
    refine ⟨_, pss_one (ps_ret (pe_and (pe_call GD hr (by rfl) gD kD bD .nil pass0 (pa_cons (pv 1) pa_nil)) (pe_one (pe_cmpR op_in_seq (pv 1) (pv 0) rfl)))), ?_⟩
    rcases h with ⟨n, rfl, q⟩ | ⟨o, q⟩
    · refine ⟨.int n, rfl, .int n, rfl, .inl ⟨n, rfl, _, rfl, iteAnd (fun z => ?_) q⟩⟩
      refine ⟨.int n, rfl, .ref t, rfl, t, _, rfl, .inr ht, rfl, flat_ints ds, ?_⟩
      have z2 := z
      rw [← in_ints n ds] at z2
      exact z2
    · exact ⟨x, rfl, x, rfl, .inr ⟨o, _, rfl, iteF q⟩⟩
theorem passNo {X : Cx} {P' : Program} {w' : World} : Passes (L2.CX P' w') X E0 := fun _ _ _ _ _ _ _ h => by
  obtain ⟨_, _, _, _, _, _, _, _, _, _, _, _, z⟩ := h
  exact z.elim

def isOne (ds : List Int) (n : Int) : Bool := dig n && decide (n ∈ ds)
def oneV (ds : List Int) : V → Bool
  | .int n => isOne ds n
  | _ => false
theorem oneV_odd {H : Hp} {ds : List Int} {x : V} (o : Odd H x) : oneV ds x = false := by cases o <;> rfl
/-- no tuple -/
inductive NoTup (H : Hp) : V → Prop
  | no {x : V} (h : NoSeq H x) : NoTup H x
  | lst {a : Addr} {xs : List V} (e : H a = some (.lst xs)) : NoTup H (.ref a)
theorem NoTup.same {H H' : Hp} {x : V} (h : NoTup H x) (s : Same H H') : NoTup H' x := by
  cases h with
  | no h => exact .no (h.same s)
  | lst e => exact .lst (s _ _ e)
theorem NoTup.kit {K : PySem.W.Frag} {H : Hp} {x : V} (h : NoTup H x) : ∃ t, TyX K H x t ∧ PySem.W.kitOne K t (.type "tuple") = some false := by
  cases h with
  | lst e => exact ⟨_, .base (.lst e), kit_ty (by decide +kernel)⟩
  | no h =>
    cases h with
    | int n => exact ⟨_, .base (.int n), kit_ty (by decide +kernel)⟩
    | non => exact ⟨_, .base .non, kit_ty (by decide +kernel)⟩
    | bl b => exact ⟨_, .base (.bl b), kit_ty (by decide +kernel)⟩
    | str z => exact ⟨_, .base (.str z), kit_ty (by decide +kernel)⟩
    | dK e => exact ⟨_, .base (.dK e), kit_ty (by decide +kernel)⟩
def pairB (ds : List Int) (xs : List V) : Bool := decide (xs.length = 2) && xs.all (oneV ds)
/-- _is_pair of any value -/
def spIsPair (K : PySem.W.Frag) : Sp := fun vs H Q _ => ∃ (t : Addr) (ds : List Int) (x : V), vs = [.ref t, x] ∧ SqT K H t (ds.map V.int) ∧ ((NoTup H x ∧ Q (.bl false) H) ∨ ∃ (p : Addr) (xs : List V), x = .ref p ∧ H p = some (.tup xs) ∧ xs.length ≤ 1000 ∧ (∀ y ∈ xs, ItemOk H y) ∧ ∀ H', Same H H' → Q (.bl (pairB ds xs)) H')
abbrev nIp : List Str := ["digits", "value", "item"]
theorem scIp : FnScope nIp ["digits", "value"] (defScope sIsPair) := ⟨rfl, rfl, rfl, by decide +kernel, rfl, by decide +kernel, by decide +kernel⟩
theorem ok_ispair {f fO : Addr} {fd fdO : FuncData} (F : Fun K "_is_pair" "_is_pair" sIsPair f fd) (GO : FnOk P w K mg base CX0 4 fO fdO ["digits", "value"] (spOneOf K)) (gO : mg "_is_one_of" = some (.ref fO)) (kO : PySem.W.keepIn K (.ref fO) = true) (bO : Binds K fdO ["digits", "value"] [])
    (mis : mg "isinstance" = none) (ml : mg "len" = none) (mall : mg "all" = none) (mt : mg "tuple" = none) : FnOk P w K mg base CX0 5 f fd ["digits", "value"] (spIsPair K) := by
  refine F.ok scIp (fun vs H Q E h => ?_) (fun cdv A outer s H vs Q E hr h => ?_)
  · obtain ⟨t, ds, x, rfl, _⟩ := h
    rfl
  · obtain ⟨t, ds, x, rfl, ht, h⟩ := h
    refine ⟨_, pss_one (ps_ret (pe_and (pe_callB call_isi (by rfl) mis PyProof.Rows.boot_isinstance (pa_cons (pv 1) (pa_cons (pe_bltn (v := .ty "tuple") (by rfl) mt (by decide +kernel) rfl) pa_nil)))
      (pe_and (pe_cmpR op_eq (pe_callB call_len_seq (by rfl) ml PySem.boot_len (pa_cons (pv 1) pa_nil)) pe_int (nomark _))
      (pe_one (pe_callB (cr_all rfl) (by rfl) mall (by decide +kernel) (pa_cons (pe_lc (own := [("item", 2)]) (g := gName 2) (tt := tYes) (te := tCall (spOneOf K) [] E0 (tCons (tVar 0) (tCons (tVar 2) tNil))) rfl scIp.nd (pi_tup (pv 1))
            (blkOk_by (own := [("item", 2)]) (N := nIp) (sc := defScope sIsPair) (by decide +kernel)) (fun _ _ _ _ _ => pg_name (i := 2) scIp.nd rfl (Or.inl rfl)) (fun _ _ _ _ _ => pts_nil)
            (fun _ _ _ _ _ => by exact (pe_call GO hr (by rfl) gO kO bO .nil pass0 (pa_cons (pv 0) (pa_cons (pv 2) pa_nil))))) pa_nil)))))), ?_⟩
    rcases h with ⟨no, q⟩ | ⟨p, xs, rfl, hp, hl, it, q⟩
    · obtain ⟨ty, tyx, k⟩ := no.kit (K := K)
      exact ⟨x, rfl, x, .ty "tuple", ty, .type "tuple", false, rfl, .ty _, tyx, k, false, rfl, iteF q⟩
    refine ⟨.ref p, rfl, .ref p, .ty "tuple", .type "tuple", .type "tuple", true, rfl, .ty _, .base (.tup hp), kit_ty (by decide +kernel), true, rfl, iteT ?_⟩
    refine ⟨.ref p, rfl, p, _, rfl, .inr (SqT.of hp), rfl, _, rfl, ?_⟩
    by_cases c : xs.length = 2
    · refine iteTB (decide_eq_true (congrArg (fun n : Nat => V.int (n : Int)) c)) ⟨.ref p, rfl, p, rfl, ⟨_, SqT.of hp⟩, fun D hD => ?_⟩
      refine lc_tup (K := K) (a := p) (xs := xs) (fun i H' => Same H H' ∧ H' D = some (.lst ((xs.take i).map fun x => V.bl (oneV ds x)))) ⟨same_new hD, upd_same⟩ (fun i H' _ h => SqT.of (h.1 _ _ hp)) ?_ ?_
      · rintro i z H' hi ⟨s1, e1⟩
        have fin : ∃ acc, H' D = some (.lst acc) ∧ acc.length < sizeLine ∧ (Same H (upd H' D (.lst (acc ++ [.bl (oneV ds z)]))) ∧ (upd H' D (.lst (acc ++ [.bl (oneV ds z)]))) D = some (.lst ((xs.take (i + 1)).map fun x => V.bl (oneV ds x)))) := by
          refine ⟨_, e1, ?_, Same.store s1 hD, ?_⟩
          · rw [List.length_map]
            exact Nat.lt_of_le_of_lt (List.length_take_le' _ _) (small1000 hl)
          · rw [upd_same, take_more hi, List.map_append]
            rfl
        refine ⟨rfl, tYes_if ⟨.ref t, rfl, z, rfl, t, ds, z, rfl, same_seqT s1 ht, ?_⟩⟩
        rcases it z (List.mem_of_getElem? hi) with ⟨n, rfl⟩ | o
        · exact .inl ⟨n, rfl, fin⟩
        · rw [oneV_odd o] at fin
          exact .inr ⟨o.same s1, fin⟩
      · rintro H' ⟨s1, e1⟩
        rw [List.take_length] at e1
        have z := q H' s1
        have e : pairB ds xs = (xs.map (oneV ds)).all id := by
          unfold pairB
          rw [decide_eq_true c, Bool.true_and, List.all_map]
          rfl
        rw [e] at z
        exact ⟨D, xs.map (oneV ds), rfl, SqL.of (by rw [e1, List.map_map]; rfl), z⟩
    · have z := q H (Same.refl H)
      have e : pairB ds xs = false := by
        unfold pairB
        rw [decide_eq_false c, Bool.false_and]
      rw [e] at z
      refine iteFB (decide_eq_false fun y => c ?_) z
      have y2 : ((xs.length : Nat) : Int) = 2 := V.int.inj y
      omega

/-- bars of a list or tuple: two of the digits each -/
def BarOk (H : Hp) (ds : List Int) (p : Addr × List Int) : Prop := ∃ x y, p.2 = [x, y] ∧ H p.1 = some (.tup [.int x, .int y]) ∧ isOne ds x = true ∧ isOne ds y = true
/-- an item that is no pair of the digits -/
def BadBar (H : Hp) (ds : List Int) (x : V) : Prop := NoTup H x ∨ ∃ (p : Addr) (xs : List V), x = .ref p ∧ H p = some (.tup xs) ∧ xs.length ≤ 1000 ∧ (∀ y ∈ xs, ItemOk H y) ∧ pairB ds xs = false
theorem BadBar.same {H H' : Hp} {ds : List Int} {x : V} (h : BadBar H ds x) (s : Same H H') : BadBar H' ds x := by
  rcases h with h | ⟨p, xs, e, hp, l, it, b⟩
  · exact .inl (h.same s)
  · exact .inr ⟨p, xs, e, s _ _ hp, l, fun y hy => (it y hy).same s, b⟩
/-- _different_pairs of any value: no list; a first bar that is none behind good ones; good ones alone -/
def spDiffPair (K : PySem.W.Frag) (C : Addr) : Sp := fun vs H Q E => ∃ (t : Addr) (ds : List Int) (x : V), vs = [.ref t, x] ∧ SqT K H t (ds.map V.int) ∧ ((NoSeq H x ∧ Raised C "value" x H E) ∨ ∃ (l : Addr) (ks : List (Addr × List Int)) (rest : List V), x = .ref l ∧ IsSeq K H l (ks.map (fun p => V.ref p.1) ++ rest) ∧ ks.length < 64 ∧ (∀ p ∈ ks, BarOk H ds p) ∧
  ((∃ (y : V) (more : List V), rest = y :: more ∧ BadBar H ds y ∧ Raised C "value" y H E) ∨ (rest = [] ∧
    ∀ (L : List (Addr × List Int)) (r : Addr) (H' : Hp), (∀ p ∈ L, p ∈ ks) → (∀ p ∈ ks, p.2 ∈ L.map (·.2)) → (L.map (·.2)).Nodup → L.Pairwise (fun q r => SrtO.lexB (duo r.2) (duo q.2) = false) → Same H H' → H' r = some (.tup (L.map fun q => V.ref q.1)) → Q (.ref r) H')))
abbrev nDp : List Str := ["digits", "bars", "item"]
theorem scDp : FnScope nDp ["digits", "bars"] (defScope sDiffPair) := ⟨rfl, rfl, rfl, by decide +kernel, rfl, by decide +kernel, by decide +kernel⟩
theorem barOk_pair {H : Hp} {ds : List Int} {p : Addr × List Int} (h : BarOk H ds p) : ∃ xs : List V, H p.1 = some (.tup xs) ∧ xs.length ≤ 1000 ∧ (∀ y ∈ xs, ItemOk H y) ∧ pairB ds xs = true := by
  obtain ⟨x, y, _, e, hx, hy⟩ := h
  refine ⟨_, e, (by show 2 ≤ 1000; decide), fun z hz => ?_, ?_⟩
  · simp only [List.mem_cons, List.not_mem_nil, or_false] at hz
    rcases hz with rfl | rfl
    · exact .inl ⟨_, rfl⟩
    · exact .inl ⟨_, rfl⟩
  · show (decide (2 = 2) && (isOne ds x && (isOne ds y && true))) = true
    rw [hx, hy]
    rfl
set_option maxHeartbeats 2000000 in
theorem ok_diffpair {f fO fI C : Addr} {fd fdO fdI : FuncData} (F : Fun K "_different_pairs" "_different_pairs" sDiffPair f fd) (GO : FnOk P w K mg base CX0 5 fO fdO ["digits", "value"] (spIsPair K)) (gO : mg "_is_pair" = some (.ref fO)) (kO : PySem.W.keepIn K (.ref fO) = true) (bO : Binds K fdO ["digits", "value"] [])
    (GI : FnOk P w K mg base CX0 3 fI fdI ["self", "value"] (spInit K "value" C)) (T : ErrC K mg "InvalidBars" "value" C fI) (bI : Binds K fdI ["self", "value"] [])
    (mis : mg "isinstance" = none) (mli : mg "list" = none) (ms : mg "set" = none) (mso : mg "sorted" = none) (mt : mg "tuple" = none) : FnOk P w K mg base (L2N.CX P w) 6 f fd ["digits", "bars"] (spDiffPair K C) := by
  refine okXN F scDp (fun vs H Q E h => ?_) (fun cdv A outer s H vs Q E hr h => ?_)
  · obtain ⟨t, ds, x, rfl, _⟩ := h
    rfl
  · obtain ⟨t, ds, x, rfl, ht, h⟩ := h
    have hr3 : Room 4 _ := hr.mono (by decide)
    rcases h with ⟨no, hE⟩ | ⟨l, ks, rest, rfl, hl, few, hk, h⟩
    · refine ⟨_, pss_cons (ps_if (pt_not (pt_val (pe_callB call_isiT (by rfl) mis PyProof.Rows.boot_isinstance (pa_cons (pv 1) (pa_cons (pe_tup (pa_cons (pe_bltn (v := .ty "list") (by rfl) mli PyProof.Rows.boot_list rfl) (pa_cons (pe_bltn (v := .ty "tuple") (by rfl) mt (by decide +kernel) rfl) pa_nil))) pa_nil)))))
          (pss_one (L2N.ps_raise rfl (L2N.takes_of rfl rfl rfl rfl) (pmk_oexN T.ox T.iC T.tI GI hr3 bI pass0 (by rfl) T.g (pa_cons (pv 1) pa_nil)))) pss_nil)
        (pss_cons (ps_for (passes_of rfl) rfl (pi_list (pv 1)) (pg_name (i := 2) scDp.nd rfl (.inl rfl))
          (pss_one (ps_if (pt_not (pt_val (pe_call GO hr (by rfl) gO kO bO .nil pass0 (pa_cons (pv 0) (pa_cons (pv 2) pa_nil)))))
            (pss_one (L2N.ps_raise rfl (L2N.takes_of rfl rfl rfl rfl) (pmk_oexN T.ox T.iC T.tI GI hr3 bI pass0 (by rfl) T.g (pa_cons (pv 2) pa_nil)))) pss_nil)))
        (pss_one (ps_ret (pe_callTy call_tuple_of (by rfl) mt (by decide +kernel) (pa_cons (pe_callB (cr_sortedDuo rfl) (by rfl) mso (by decide +kernel) (pa_cons (pe_callTy (cr_setOfA rfl hr.units) (by rfl) ms PyProof.Rows.boot_set (pa_cons (pv 1) pa_nil)) pa_nil)) pa_nil))))), ?_⟩
      refine ⟨x, rfl, (by show 2 ≤ sizeLine; decide), fun U hU => ?_⟩
      have s1 : Same H (upd H U (.tup [.ty "list", .ty "tuple"])) := same_new hU
      obtain ⟨ty, hty, k⟩ := (no.same s1).kit (K := K)
      exact ⟨x, U, _, ty, _, false, rfl, upd_same, .cons (.ty _) (.cons (.ty _) .nil), hty, k, false, rfl, iteT ⟨x, rfl, raised_ok (K := K) (σ := start nDp [.ref t, x]) (D := { nx := fun _ H' => Q .non H', rt := Q }) hE s1⟩⟩
    have each : ∀ (i : Nat) (z : V), (ks.map (fun p => V.ref p.1) ++ rest)[i]? = some z → (i < ks.length ∧ ∃ p ∈ ks, z = .ref p.1) ∨ (∃ (more : List V), rest = z :: more) ∨ (ks.length < i) := fun i z hz => by
      rcases Nat.lt_trichotomy i ks.length with c | c | c
      · rw [List.getElem?_append_left (by rw [List.length_map]; exact c)] at hz
        obtain ⟨p, hp, e⟩ := get_map hz
        exact .inl ⟨c, p, List.mem_of_getElem? hp, e⟩
      · rw [List.getElem?_append_right (by rw [List.length_map, c]; exact Nat.le_refl _), List.length_map, c, Nat.sub_self] at hz
        cases rest with
        | nil => cases hz
        | cons y m =>
          cases Option.some.inj hz
          exact .inr (.inl ⟨m, rfl⟩)
      · exact .inr (.inr c)
    have tups : ∀ (H2 : Hp), Same H H2 → ∀ p ∈ ks, SqT K H2 p.1 (p.2.map V.int) := by
      intro H2 s3 p hp
      obtain ⟨x, y, e, ep, _⟩ := hk p hp
      rw [e]
      exact SqT.of (s3 _ _ ep)
    rcases hl.sq with sq | sq
    · refine ⟨_, pss_cons (ps_if (pt_not (pt_val (pe_callB call_isiT (by rfl) mis PyProof.Rows.boot_isinstance (pa_cons (pv 1) (pa_cons (pe_tup (pa_cons (pe_bltn (v := .ty "list") (by rfl) mli PyProof.Rows.boot_list rfl) (pa_cons (pe_bltn (v := .ty "tuple") (by rfl) mt (by decide +kernel) rfl) pa_nil))) pa_nil)))))
          (pss_one (L2N.ps_raise rfl (L2N.takes_of rfl rfl rfl rfl) (pmk_oexN T.ox T.iC T.tI GI hr3 bI pass0 (by rfl) T.g (pa_cons (pv 1) pa_nil)))) pss_nil)
        (pss_cons (ps_for (passes_of rfl) rfl (pi_list (pv 1)) (pg_name (i := 2) scDp.nd rfl (.inl rfl))
          (pss_one (ps_if (pt_not (pt_val (pe_call GO hr (by rfl) gO kO bO .nil pass0 (pa_cons (pv 0) (pa_cons (pv 2) pa_nil)))))
            (pss_one (L2N.ps_raise rfl (L2N.takes_of rfl rfl rfl rfl) (pmk_oexN T.ox T.iC T.tI GI hr3 bI pass0 (by rfl) T.g (pa_cons (pv 2) pa_nil)))) pss_nil)))
        (pss_one (ps_ret (pe_callTy call_tuple_of (by rfl) mt (by decide +kernel) (pa_cons (pe_callB (cr_sortedDuo rfl) (by rfl) mso (by decide +kernel) (pa_cons (pe_callTy (cr_setOfA rfl hr.units) (by rfl) ms PyProof.Rows.boot_set (pa_cons (pv 1) pa_nil)) pa_nil)) pa_nil))))), ?_⟩
      refine ⟨.ref l, rfl, (by show 2 ≤ sizeLine; decide), fun U hU => ?_⟩
      have s1 : Same H (upd H U (.tup [.ty "list", .ty "tuple"])) := same_new hU
      obtain ⟨ty, hty, k⟩ := (hl.same s1).lt
      refine ⟨.ref l, U, _, ty, _, true, rfl, upd_same, .cons (.ty _) (.cons (.ty _) .nil), hty, k, true, rfl, iteF ?_⟩
      generalize upd H U (.tup [.ty "list", .ty "tuple"]) = H1 at s1 ⊢
      refine ⟨.ref l, rfl, l, rfl, ⟨_, s1.seq sq⟩, for_list (K := K) (a := l) (xs := ks.map (fun p => V.ref p.1) ++ rest) (fun i σ H' => (∃ v, σ = [some (.ref t), some (.ref l), v]) ∧ Same H H' ∧ i ≤ ks.length) ⟨⟨none, rfl⟩, s1, Nat.zero_le _⟩ (fun i σ H' _ h => h.2.1.seq sq) ?_ ?_⟩
      · rintro i z σ H' hz ⟨⟨v, rfl⟩, s2, hi⟩
        rcases each i z hz with ⟨hi2, p, hp, rfl⟩ | ⟨more, er⟩ | c
        · obtain ⟨xs, e, l1, it, b⟩ := barOk_pair (hk p hp)
          refine ⟨.ref t, rfl, .ref p.1, rfl, t, ds, .ref p.1, rfl, same_seqT s2 ht, .inr ⟨p.1, xs, rfl, s2 _ _ e, l1, (fun y hy => (it y hy).same s2), fun H3 s3 => ⟨_, rfl, ?_⟩⟩⟩
          rw [b]
          exact iteF ⟨⟨_, rfl⟩, s2.trans s3, hi2⟩
        · rcases h with ⟨y, m2, e2, bad, hE⟩ | ⟨e2, _⟩
          · rw [er] at e2
            cases e2
            refine ⟨.ref t, rfl, z, rfl, t, ds, z, rfl, same_seqT s2 ht, ?_⟩
            have go : ∀ {H3 : Hp}, Same H H3 → _ := fun {H3} s3 => raised_ok (K := K) (σ := [some (.ref t), some (.ref l), some z]) (D := { nx := fun _ H' => Q .non H', rt := Q }) hE s3
            rcases bad with no | ⟨p, xs, rfl, hp, l1, it, b⟩
            · exact .inl ⟨no.same s2, false, rfl, iteT ⟨z, rfl, go s2⟩⟩
            · refine .inr ⟨p, xs, rfl, s2 _ _ hp, l1, (fun y hy => (it y hy).same s2), fun H3 s3 => ⟨_, rfl, ?_⟩⟩
              rw [b]
              exact iteT ⟨.ref p, rfl, go (s2.trans s3)⟩
          · rw [er] at e2
            cases e2
        · omega
      · rintro σ H' ⟨⟨v, rfl⟩, s2, hi⟩
        rw [List.length_append, List.length_map] at hi
        have er : rest = [] := List.eq_nil_of_length_eq_zero (by omega)
        rcases h with ⟨y, m2, e2, _⟩ | ⟨_, q⟩
        · rw [er] at e2
          cases e2
        subst er
        rw [List.append_nil] at sq
        refine ⟨.ref l, rfl, l, ks, rfl, .inl (s2.seq sq), tups H' s2, few, fun S L hS sub all => ?_⟩
        have s3 : Same H (upd H' S (SetTO P w S L)) := s2.trans (same_new hS)
        refine ⟨S, L, rfl, upd_same, fun p hp => tups _ s3 p (sub p hp), fun p hp => ?_, fun L' D pm nd sh pw hD => ?_⟩
        · obtain ⟨x, y, e, _⟩ := hk p (sub p hp)
          rw [e]
          rfl
        have s4 : Same H (upd (upd H' S (SetTO P w S L)) D (.lst (L'.map fun q => V.ref q.1))) := s3.trans (same_new hD)
        refine ⟨D, _, rfl, .inl ⟨SqL.of upd_same, fun r hr2 => ?_⟩⟩
        exact q L' r _ (fun p hp => sub p (pm.mem_iff.mp hp)) (fun p hp => (pm.map (·.2)).mem_iff.mpr (all p hp)) nd pw (Same.store s4 (s4.free hr2)) upd_same
    · refine ⟨_, pss_cons (ps_if (pt_not (pt_val (pe_callB call_isiT (by rfl) mis PyProof.Rows.boot_isinstance (pa_cons (pv 1) (pa_cons (pe_tup (pa_cons (pe_bltn (v := .ty "list") (by rfl) mli PyProof.Rows.boot_list rfl) (pa_cons (pe_bltn (v := .ty "tuple") (by rfl) mt (by decide +kernel) rfl) pa_nil))) pa_nil)))))
          (pss_one (L2N.ps_raise rfl (L2N.takes_of rfl rfl rfl rfl) (pmk_oexN T.ox T.iC T.tI GI hr3 bI pass0 (by rfl) T.g (pa_cons (pv 1) pa_nil)))) pss_nil)
        (pss_cons (ps_for (passes_of rfl) rfl (pi_tup (pv 1)) (pg_name (i := 2) scDp.nd rfl (.inl rfl))
          (pss_one (ps_if (pt_not (pt_val (pe_call GO hr (by rfl) gO kO bO .nil pass0 (pa_cons (pv 0) (pa_cons (pv 2) pa_nil)))))
            (pss_one (L2N.ps_raise rfl (L2N.takes_of rfl rfl rfl rfl) (pmk_oexN T.ox T.iC T.tI GI hr3 bI pass0 (by rfl) T.g (pa_cons (pv 2) pa_nil)))) pss_nil)))
        (pss_one (ps_ret (pe_callTy call_tuple_of (by rfl) mt (by decide +kernel) (pa_cons (pe_callB (cr_sortedDuo rfl) (by rfl) mso (by decide +kernel) (pa_cons (pe_callTy (cr_setOfA rfl hr.units) (by rfl) ms PyProof.Rows.boot_set (pa_cons (pv 1) pa_nil)) pa_nil)) pa_nil))))), ?_⟩
      refine ⟨.ref l, rfl, (by show 2 ≤ sizeLine; decide), fun U hU => ?_⟩
      have s1 : Same H (upd H U (.tup [.ty "list", .ty "tuple"])) := same_new hU
      obtain ⟨ty, hty, k⟩ := (hl.same s1).lt
      refine ⟨.ref l, U, _, ty, _, true, rfl, upd_same, .cons (.ty _) (.cons (.ty _) .nil), hty, k, true, rfl, iteF ?_⟩
      generalize upd H U (.tup [.ty "list", .ty "tuple"]) = H1 at s1 ⊢
      refine ⟨.ref l, rfl, l, rfl, ⟨_, same_seqT s1 sq⟩, for_tup (K := K) (a := l) (xs := ks.map (fun p => V.ref p.1) ++ rest) (fun i σ H' => (∃ v, σ = [some (.ref t), some (.ref l), v]) ∧ Same H H' ∧ i ≤ ks.length) ⟨⟨none, rfl⟩, s1, Nat.zero_le _⟩ (fun i σ H' _ h => same_seqT h.2.1 sq) ?_ ?_⟩
      · rintro i z σ H' hz ⟨⟨v, rfl⟩, s2, hi⟩
        rcases each i z hz with ⟨hi2, p, hp, rfl⟩ | ⟨more, er⟩ | c
        · obtain ⟨xs, e, l1, it, b⟩ := barOk_pair (hk p hp)
          refine ⟨.ref t, rfl, .ref p.1, rfl, t, ds, .ref p.1, rfl, same_seqT s2 ht, .inr ⟨p.1, xs, rfl, s2 _ _ e, l1, (fun y hy => (it y hy).same s2), fun H3 s3 => ⟨_, rfl, ?_⟩⟩⟩
          rw [b]
          exact iteF ⟨⟨_, rfl⟩, s2.trans s3, hi2⟩
        · rcases h with ⟨y, m2, e2, bad, hE⟩ | ⟨e2, _⟩
          · rw [er] at e2
            cases e2
            refine ⟨.ref t, rfl, z, rfl, t, ds, z, rfl, same_seqT s2 ht, ?_⟩
            have go : ∀ {H3 : Hp}, Same H H3 → _ := fun {H3} s3 => raised_ok (K := K) (σ := [some (.ref t), some (.ref l), some z]) (D := { nx := fun _ H' => Q .non H', rt := Q }) hE s3
            rcases bad with no | ⟨p, xs, rfl, hp, l1, it, b⟩
            · exact .inl ⟨no.same s2, false, rfl, iteT ⟨z, rfl, go s2⟩⟩
            · refine .inr ⟨p, xs, rfl, s2 _ _ hp, l1, (fun y hy => (it y hy).same s2), fun H3 s3 => ⟨_, rfl, ?_⟩⟩
              rw [b]
              exact iteT ⟨.ref p, rfl, go (s2.trans s3)⟩
          · rw [er] at e2
            cases e2
        · omega
      · rintro σ H' ⟨⟨v, rfl⟩, s2, hi⟩
        rw [List.length_append, List.length_map] at hi
        have er : rest = [] := List.eq_nil_of_length_eq_zero (by omega)
        rcases h with ⟨y, m2, e2, _⟩ | ⟨_, q⟩
        · rw [er] at e2
          cases e2
        subst er
        rw [List.append_nil] at sq
        refine ⟨.ref l, rfl, l, ks, rfl, .inr (same_seqT s2 sq), tups H' s2, few, fun S L hS sub all => ?_⟩
        have s3 : Same H (upd H' S (SetTO P w S L)) := s2.trans (same_new hS)
        refine ⟨S, L, rfl, upd_same, fun p hp => tups _ s3 p (sub p hp), fun p hp => ?_, fun L' D pm nd sh pw hD => ?_⟩
        · obtain ⟨x, y, e, _⟩ := hk p (sub p hp)
          rw [e]
          rfl
        have s4 : Same H (upd (upd H' S (SetTO P w S L)) D (.lst (L'.map fun q => V.ref q.1))) := s3.trans (same_new hD)
        refine ⟨D, _, rfl, .inl ⟨SqL.of upd_same, fun r hr2 => ?_⟩⟩
        exact q L' r _ (fun p hp => sub p (pm.mem_iff.mp hp)) (fun p hp => (pm.map (·.2)).mem_iff.mpr (all p hp)) nd pw (Same.store s4 (s4.free hr2)) upd_same
end
end K08
namespace K08
open PySem PySem.Spec PyProof.Rows L2 OF
section
variable {P : Program} {w : World} {K : PySem.W.Frag} {mg : Str → Option Value} {base : Heap}

/-! ### what stays while a new instance is filled -/
/-- an instance of the class stands at a -/
def InsAt (H : Hp) (a : Addr) : Prop := ∃ C dx fs, H a = some (.ins C dx fs)
theorem InsAt.ne {H : Hp} {a p : Addr} {o : HO} (h : InsAt H a) (e : H p = some o) (n : ∀ C dx fs, o ≠ .ins C dx fs) : p ≠ a := fun z => by
  obtain ⟨C, dx, fs, i⟩ := h
  rw [z, i] at e
  exact n _ _ _ (Option.some.inj e).symm
section
variable {a : Addr} {H H' : Hp} (I : InsAt H a) (t : But a H H')
include I t
theorem odd_but {x : V} (h : Odd H x) : Odd H' x := by
  cases h with
  | non => exact .non
  | bl b => exact .bl b
  | str z => exact .str z
  | lst e => exact .lst (t _ _ (I.ne e fun _ _ _ z => by cases z) e)
  | tup e => exact .tup (t _ _ (I.ne e fun _ _ _ z => by cases z) e)
  | dK e => exact .dK (t _ _ (I.ne e fun _ _ _ z => by cases z) e)
theorem item_but {x : V} (h : ItemOk H x) : ItemOk H' x := h.imp id fun o => odd_but I t o
theorem noseq_but {x : V} (h : NoSeq H x) : NoSeq H' x := by
  cases h with
  | int n => exact .int n
  | non => exact .non
  | bl b => exact .bl b
  | str z => exact .str z
  | dK e => exact .dK (t _ _ (I.ne e fun _ _ _ z => by cases z) e)
theorem notup_but {x : V} (h : NoTup H x) : NoTup H' x := by
  cases h with
  | no h => exact .no (noseq_but I t h)
  | lst e => exact .lst (t _ _ (I.ne e fun _ _ _ z => by cases z) e)
theorem seqT_but {p : Addr} {xs : List V} (h : SqT K H p xs) : SqT K H' p xs := by
  rcases h with (h | ⟨o, h⟩) | h
  · exact .inl (.inl (t _ _ (I.ne h fun _ _ _ z => by cases z) h))
  · exact .inl (.inr ⟨o, t _ _ (I.ne h fun _ _ _ z => by cases z) h⟩)
  · exact .inr h
theorem isseq_but {p : Addr} {xs : List V} (h : IsSeq K H p xs) : IsSeq K H' p xs := by
  cases h with
  | lst e => exact .lst (t _ _ (I.ne e fun _ _ _ z => by cases z) e)
  | tup e => exact .tup (t _ _ (I.ne e fun _ _ _ z => by cases z) e)
  | kt e c h => exact .kt e c (seqT_but I t h)
theorem bad_but {ds : List Int} {x : V} (h : BadBar H ds x) : BadBar H' ds x := by
  rcases h with h | ⟨p, xs, e, hp, l, it, b⟩
  · exact .inl (notup_but I t h)
  · exact .inr ⟨p, xs, e, t _ _ (I.ne hp fun _ _ _ z => by cases z) hp, l, fun y hy => item_but I t (it y hy), b⟩
theorem bar_but {ds : List Int} {p : Addr × List Int} (h : BarOk H ds p) : BarOk H' ds p := by
  obtain ⟨x, y, e, hp, z⟩ := h
  exact ⟨x, y, e, t _ _ (I.ne hp fun _ _ _ z => by cases z) hp, z⟩
end
/-- a raised error while the instance at a is being filled -/
def RaisedA (a C : Addr) (f : Str) (v : V) (H : Hp) (E : XK) : Prop := ∀ (fs : List (Str × V)) (d : Addr) (H' : Hp), H d = none → But a H H' → H' d = some (.xd ((f, v) :: fs)) → E (.ref C) (some d) H'
theorem RaisedA.at_ {a C : Addr} {f : Str} {v : V} {H H1 : Hp} {E : XK} (h : RaisedA a C f v H E) (I : InsAt H1 a) (t : But a H H1) : Raised C f v H1 E := fun fs d H' hd s ed => by
  have nd : H d = none := by
    by_cases e : d = a
    · obtain ⟨C2, dx, fs, i⟩ := I
      rw [e, i] at hd
      cases hd
    · rcases Option.eq_none_or_eq_some (H d) with z | ⟨o, z⟩
      · exact z
      · rw [t d o e z] at hd
        cases hd
  exact h fs d H' nd (t.trans (But.of_same s)) ed
theorem isOne_mem {ds ns : List Int} (m : ∀ k, k ∈ ds ↔ k ∈ ns) (n : Int) : isOne ds n = isOne ns n := by
  unfold isOne
  rw [decide_eq_decide.mpr (m n)]
theorem oneV_mem {ds ns : List Int} (m : ∀ k, k ∈ ds ↔ k ∈ ns) (x : V) : oneV ds x = oneV ns x := by
  cases x <;> first | rfl | exact isOne_mem m _
theorem pairB_mem {ds ns : List Int} (m : ∀ k, k ∈ ds ↔ k ∈ ns) (xs : List V) : pairB ds xs = pairB ns xs := by
  unfold pairB
  rw [show oneV ds = oneV ns from funext fun x => oneV_mem m x]
theorem BarOk.mem_ {H : Hp} {ds ns : List Int} {p : Addr × List Int} (m : ∀ k, k ∈ ds ↔ k ∈ ns) (h : BarOk H ns p) : BarOk H ds p := by
  obtain ⟨x, y, e, hp, h1, h2⟩ := h
  exact ⟨x, y, e, hp, by rw [isOne_mem m, h1], by rw [isOne_mem m, h2]⟩
theorem BadBar.mem_ {H : Hp} {ds ns : List Int} {x : V} (m : ∀ k, k ∈ ds ↔ k ∈ ns) (h : BadBar H ns x) : BadBar H ds x := by
  rcases h with h | ⟨p, xs, e, hp, l, it, b⟩
  · exact .inl h
  · exact .inr ⟨p, xs, e, hp, l, it, by rw [pairB_mem m, b]⟩
def baseV : V → Bool
  | .int n => isBase n
  | _ => false
/-- the number of different ones is from 1 to 6 -/
def SixOf (ns : List Int) (six : Bool) : Prop := ∀ ks : List Int, ks.Nodup → (∀ k, k ∈ ks ↔ k ∈ ns) → (decide (1 ≤ ks.length) && decide (ks.length ≤ 6)) = six
/-- Scheme.__init__ of any values -/
def spNew (K : PySem.W.Frag) (C CB CD CP : Addr) : Sp := fun vs H Q E => ∃ (a dx : Addr) (x y z : V), vs = [.ref a, x, y, z] ∧ H a = some (.ins C dx []) ∧ ((ItemOk H x ∧ baseV x = false ∧ RaisedA a CB "value" x H E) ∨ ∃ b : Int, x = .int b ∧ isBase b = true ∧
  ((NoSeq H y ∧ RaisedA a CD "value" y H E) ∨ ∃ (p : Addr) (xs : List V), y = .ref p ∧ IsSeq K H p xs ∧ (∀ v ∈ xs, ItemOk H v) ∧ xs.length ≤ 900 ∧ (xs.all digV = false → RaisedA a CD "value" y H E) ∧
    ∀ ns : List Int, xs = ns.map V.int → ns.all dig = true → ∃ six : Bool, SixOf ns six ∧ (six = false → RaisedA a CD "value" y H E) ∧ (six = true →
      ((NoSeq H z ∧ RaisedA a CP "value" z H E) ∨ ∃ (l : Addr) (ks : List (Addr × List Int)) (rest : List V), z = .ref l ∧ IsSeq K H l (ks.map (fun p => V.ref p.1) ++ rest) ∧ ks.length < 64 ∧ (∀ p ∈ ks, BarOk H ns p) ∧
        ((∃ (u : V) (more : List V), rest = u :: more ∧ BadBar H ns u ∧ RaisedA a CP "value" u H E) ∨ (rest = [] ∧
          ∀ (ds : List Int) (L : List (Addr × List Int)) (t r : Addr) (H' : Hp), ds.Pairwise (· < ·) → (∀ k, k ∈ ds ↔ k ∈ ns) → (∀ p ∈ L, p ∈ ks) → (∀ p ∈ ks, p.2 ∈ L.map (·.2)) → (L.map (·.2)).Nodup → L.Pairwise (fun q r => SrtO.lexB (duo r.2) (duo q.2) = false) →
            But a H H' → H' a = some (.ins C dx [("_base", .int b), ("_digits", .ref t), ("_bars", .ref r)]) → H' t = some (.tup (ds.map V.int)) → H' r = some (.tup (L.map fun q => V.ref q.1)) → Q .non H'))))))
theorem scNew : FnScope ["self", "base", "digits", "bars"] ["self", "base", "digits", "bars"] (defScope sInit) := ⟨rfl, rfl, rfl, by decide +kernel, rfl, by decide +kernel, by decide +kernel⟩
set_option maxHeartbeats 2000000 in
theorem ok_new {f fB fD fP fI C CB CD CP : Addr} {fd fdB fdD fdP fdI : FuncData} (G : ∃ kws, FunD K "__init__" "Scheme.__init__" (defArgs sInit) (defBody sInit) (defScope sInit) [] kws f fd) (c : Cls K C) (n1 : NoAttr K C "_base") (n2 : NoAttr K C "_digits") (n3 : NoAttr K C "_bars")
    (GB : FnOk P w K mg base CX0 3 fB fdB ["value"] spIsBase) (gB : mg "is_base" = some (.ref fB)) (kB : PySem.W.keepIn K (.ref fB) = true) (bB : Binds K fdB ["value"] [])
    (GD : FnOk P w K mg base (L2N.CX P w) 6 fD fdD ["digits"] (spDiffDig K CD)) (gD : mg "_different_digits" = some (.ref fD)) (kD : PySem.W.keepIn K (.ref fD) = true) (bD : Binds K fdD ["digits"] [])
    (GP : FnOk P w K mg base (L2N.CX P w) 6 fP fdP ["digits", "bars"] (spDiffPair K CP)) (gP : mg "_different_pairs" = some (.ref fP)) (kP : PySem.W.keepIn K (.ref fP) = true) (bP : Binds K fdP ["digits", "bars"] [])
    (GI : FnOk P w K mg base CX0 3 fI fdI ["self", "value"] (spInit K "value" CB)) (T : ErrC K mg "InvalidBase" "value" CB fI) (bI : Binds K fdI ["self", "value"] []) :
    FnOk P w K mg base (L2N.CX P w) 7 f fd ["self", "base", "digits", "bars"] (spNew K C CB CD CP) := by
  obtain ⟨kws, F⟩ := G
  refine F.ok scNew (fun vs H Q E h => ?_) (fun cdv A outer s H vs Q E hr h => ?_)
  · obtain ⟨a, dx, x, y, z, rfl, _⟩ := h
    rfl
  · obtain ⟨a, dx, x, y, z, rfl, ha, h⟩ := h
    have hr2 : Room 3 _ := hr.mono (by decide)
    have hr3 : Room 4 _ := hr.mono (by decide)
    have I0 : InsAt H a := ⟨_, _, _, ha⟩
    apply Exists.intro
    apply And.intro
    · apply pss_cons
      · exact ps_if (pt_not (pt_val (pe_call GB hr2 (by rfl) gB kB bB .nil pass0 (pa_cons (pv 1) pa_nil))))
          (pss_one (L2N.ps_raise rfl (L2N.takes_of rfl rfl rfl rfl) (pmk_oexN T.ox T.iC T.tI GI hr3 bI pass0 (by rfl) T.g (pa_cons (pv 1) pa_nil)))) pss_nil
      apply pss_cons
      · exact ps_fld (pv 0) (pv 1) rfl
      apply pss_cons
      · exact ps_fld (pv 0) (pe_call GD hr (by rfl) gD kD bD .nil (L2N.passes_call (W := fun cl d _ J => E cl d J) (L2N.takes_of rfl rfl rfl rfl) (fun _ _ _ _ z => z)) (pa_cons (pv 2) pa_nil)) rfl
      apply pss_one
      · exact ps_fld (pv 0) (pe_call GP hr (by rfl) gP kP bP .nil (L2N.passes_call (W := fun cl d _ J => E cl d J) (L2N.takes_of rfl rfl rfl rfl) (fun _ _ _ _ z => z)) (pa_cons (pe_fld (pv 0) rfl) (pa_cons (pv 3) pa_nil))) rfl
    rcases h with ⟨ix, bx, hE⟩ | ⟨b, rfl, hb, h⟩
    · have go := raised_ok (K := K) (σ := start ["self", "base", "digits", "bars"] [.ref a, x, y, z]) (D := { nx := fun _ H' => Q .non H', rt := Q }) (hE.at_ I0 But.refl) (Same.refl H)
      rcases ix with ⟨n, rfl⟩ | o
      · refine ⟨.int n, rfl, .int n, rfl, .inl ⟨n, rfl, ?_⟩⟩
        rw [show isBase n = false from bx]
        exact ⟨false, rfl, iteT ⟨.int n, rfl, go⟩⟩
      · exact ⟨x, rfl, x, rfl, .inr ⟨o, false, rfl, iteT ⟨x, rfl, go⟩⟩⟩
    refine ⟨.int b, rfl, .int b, rfl, .inl ⟨b, rfl, ?_⟩⟩
    rw [hb]
    refine ⟨true, rfl, iteF ?_⟩
    refine ⟨.int b, rfl, .ref a, rfl, a, C, dx, [], rfl, ha, c, n1, (by show 0 < 1000; decide), ?_⟩
    have t1 : But a H (upd H a (.ins C dx (putF "_base" (.int b) []))) := But.at_
    have e1 : (upd H a (.ins C dx (putF "_base" (.int b) []))) a = some (.ins C dx [("_base", .int b)]) := upd_same
    generalize upd H a (.ins C dx (putF "_base" (.int b) [])) = H1 at t1 e1 ⊢
    have I1 : InsAt H1 a := ⟨_, _, _, e1⟩
    rcases h with ⟨no, hE⟩ | ⟨p, xs, rfl, hp, it, hl, hE, h⟩
    · exact ⟨y, rfl, y, rfl, .inl ⟨noseq_but I0 t1 no, hE.at_ I1 t1⟩⟩
    refine ⟨.ref p, rfl, .ref p, rfl, .inr ⟨p, xs, rfl, isseq_but I0 t1 hp, (fun v hv => item_but I0 t1 (it v hv)), hl, (fun e => (hE e).at_ I1 t1), fun ns en hn => ?_⟩⟩
    obtain ⟨six, h6, hE6, h⟩ := h ns en hn
    refine ⟨six, h6, (fun e => (hE6 e).at_ I1 t1), fun e6 ds t H2 asc mds s2 ht et => ?_⟩
    have e2 : H2 a = some (.ins C dx [("_base", .int b)]) := s2 _ _ e1
    have nt : t ≠ a := fun z => by
      rw [z, e2] at et
      cases et
    refine ⟨.ref a, rfl, a, C, dx, _, rfl, e2, c, n2, (by show 1 < 1000; decide), ?_⟩
    have t3 : But a H (upd H2 a (.ins C dx (putF "_digits" (.ref t) [("_base", .int b)]))) := t1.trans ((But.of_same s2).trans But.at_)
    have e3 : (upd H2 a (.ins C dx (putF "_digits" (.ref t) [("_base", .int b)]))) a = some (.ins C dx (putF "_digits" (.ref t) [("_base", .int b)])) := upd_same
    have et3 : (upd H2 a (.ins C dx (putF "_digits" (.ref t) [("_base", .int b)]))) t = some (.tup (ds.map V.int)) := by rw [upd_ne nt]; exact et
    generalize upd H2 a (.ins C dx (putF "_digits" (.ref t) [("_base", .int b)])) = H3 at t3 e3 et3 ⊢
    have I3 : InsAt H3 a := ⟨_, _, _, e3⟩
    refine ⟨.ref a, rfl, a, C, dx, _, .ref t, rfl, e3, c, n2, (by rw [lookup_putF, if_pos rfl]), z, rfl, t, ds, z, rfl, SqT.of et3, ?_⟩
    rcases h e6 with ⟨no, hP⟩ | ⟨l, ks, rest, rfl, hl2, few, hk, h⟩
    · exact .inl ⟨noseq_but I0 t3 no, hP.at_ I3 t3⟩
    refine .inr ⟨l, ks, rest, rfl, isseq_but I0 t3 hl2, few, (fun p hp => (bar_but I0 t3 (hk p hp)).mem_ mds), ?_⟩
    rcases h with ⟨u, more, er, bad, hP⟩ | ⟨er, q⟩
    · exact .inl ⟨u, more, er, (bad_but I0 t3 bad).mem_ mds, hP.at_ I3 t3⟩
    refine .inr ⟨er, fun L r H4 sub all nd pw s4 er2 => ?_⟩
    have e4 := s4 _ _ e3
    have nr : r ≠ a := fun z => by
      rw [z, e4] at er2
      cases er2
    refine ⟨.ref a, rfl, a, C, dx, _, rfl, e4, c, n3, (by show 2 < 1000; decide), ?_⟩
    exact q ds L t r _ asc mds sub all nd pw (t3.trans ((But.of_same s4).trans But.at_)) upd_same (by rw [upd_ne nt]; exact s4 _ _ et3) (by rw [upd_ne nr]; exact er2)
end
end K08
namespace K08
open PySem PySem.Spec PyProof.Rows L2 OF
abbrev sPBase : Stmt := inClass (topS 27) 1
abbrev sPDigits : Stmt := inClass (topS 27) 2
abbrev sPBars : Stmt := inClass (topS 27) 3
abbrev sEq : Stmt := inClass (topS 27) 4
abbrev sLen : Stmt := inClass (topS 27) 5
section
variable {P : Program} {w : World} {K : PySem.W.Frag} {mg : Str → Option Value} {base : Heap}
/-! ### a scheme that stands in the heap -/
def pd2 (p : Int × Int) : PyData := .tuple [.int p.1, .int p.2]
structure SchemeAt (C : Addr) (H : Hp) (a t r : Addr) (b : Int) (ds : List Int) (ks : List (Addr × (Int × Int))) : Prop where
  ins : ∃ dx, H a = some (.ins C dx [("_base", .int b), ("_digits", .ref t), ("_bars", .ref r)])
  dig : H t = some (.tup (ds.map V.int))
  bar : H r = some (.tup (ks.map fun p => V.ref p.1))
  prs : ∀ p ∈ ks, H p.1 = some (.tup [.int p.2.1, .int p.2.2])
theorem SchemeAt.same {C : Addr} {H H' : Hp} {a t r : Addr} {b : Int} {ds : List Int} {ks : List (Addr × (Int × Int))} (h : SchemeAt C H a t r b ds ks) (s : Same H H') : SchemeAt C H' a t r b ds ks := by
  obtain ⟨⟨dx, h1⟩, h2, h3, h4⟩ := h
  exact ⟨⟨dx, s _ _ h1⟩, s _ _ h2, s _ _ h3, fun p hp => s _ _ (h4 p hp)⟩
theorem bars_dp {K : PySem.W.Frag} {H : Hp} : ∀ ks : List (Addr × (Int × Int)), (∀ p ∈ ks, H p.1 = some (.tup [.int p.2.1, .int p.2.2])) → DpAll K H (ks.map fun p => V.ref p.1) (ks.map fun p => pd2 p.2)
  | [], _ => .nil
  | p :: ks, h => .cons (.tup (SqT.of (h p List.mem_cons_self)) (.cons (.int _) (.cons (.int _) .nil))) (bars_dp ks fun q hq => h q (List.mem_cons_of_mem _ hq))
theorem bars_can : ∀ ks : List (Addr × (Int × Int)), PyData.canLayAll0 (ks.map fun p => pd2 p.2) = true ∧ PyData.depthAll (ks.map fun p => pd2 p.2) ≤ 1
  | [] => ⟨by simp only [List.map_nil, PyData.canLayAll0], by simp only [List.map_nil, PyData.depthAll]; omega⟩
  | p :: ks => by
    obtain ⟨h1, h2⟩ := bars_can ks
    refine ⟨?_, ?_⟩
    · rw [List.map_cons, PyData.canLayAll0, h1]
      simp only [pd2, PyData.canLay0, PyData.canLayAll0, Bool.and_true]
    · rw [List.map_cons, PyData.depthAll]
      simp only [pd2, PyData.depth, PyData.depthAll] at h2 ⊢
      omega
theorem bars_shaped (ks : List (Addr × (Int × Int))) : SeqAt.shaped (.tuple (ks.map fun p => pd2 p.2)) = true := by
  obtain ⟨h1, h2⟩ := bars_can ks
  refine shaped_of ?_ ?_
  · simp only [PyData.canLay0, h1]
  · simp only [PyData.depth]
    omega
theorem pd2_shaped (p : Int × Int) : SeqAt.shaped (pd2 p) = true := by
  refine shaped_of ?_ ?_
  · simp only [pd2, PyData.canLay0, PyData.canLayAll0, Bool.and_true]
  · simp only [pd2, PyData.depth, PyData.depthAll]
    omega
/-- whether a pair stands among the bars -/
def hasBar (ks : List (Addr × (Int × Int))) (n m : Int) : Bool := (ks.map fun p => pd2 p.2).any fun z => PyData.eqv z (pd2 (n, m))
theorem lk_digits {b : Int} {t r : Addr} : ([("_base", V.int b), ("_digits", .ref t), ("_bars", .ref r)] : List (Str × V)).lookup ("_digits" : Str) = some (.ref t) := by
  rw [lookup_put, if_neg (by decide), lookup_put, if_pos rfl]
theorem lk_bars {b : Int} {t r : Addr} : ([("_base", V.int b), ("_digits", .ref t), ("_bars", .ref r)] : List (Str × V)).lookup ("_bars" : Str) = some (.ref r) := by
  rw [lookup_put, if_neg (by decide), lookup_put, if_neg (by decide), lookup_put, if_pos rfl]
theorem lk_base {b : Int} {t r : Addr} : ([("_base", V.int b), ("_digits", .ref t), ("_bars", .ref r)] : List (Str × V)).lookup ("_base" : Str) = some (.int b) := by
  rw [lookup_put, if_pos rfl]
/-- what isinstance asks of the class -/
structure IsC (K : PySem.W.Frag) (C : Addr) : Prop where
  cl : Cls K C
  ha : PySem.W.findIn K (.ref C) "__class__" = some (some (.builtin "object.__class__"))
  hn : PySem.W.specialIn K (.builtin "object.__class__") "__get__" = some (some (.builtin "getset_descriptor.__get__"))
  ht : PySem.W.takesIn K (.builtin "object.__class__") = some true
  hm : PySem.W.mroIn K C (.type "object") = some true
  own : PySem.W.kitOne K (.ref C) (.ref C) = some true

/-- no built-in kind is of the class -/
def NotOf (K : PySem.W.Frag) (C : Addr) (H : Hp) (x : V) : Prop := ∃ t : Value, TyX K H x t ∧ PySem.W.kitOne K t (.ref C) = some false
def spEqS (C : Addr) : Sp := fun vs H Q _ => ∃ (a t r a2 t2 r2 : Addr) (b b2 : Int) (ds ds2 : List Int) (ks ks2 : List (Addr × (Int × Int))), vs = [.ref a, .ref a2] ∧ SchemeAt C H a t r b ds ks ∧ SchemeAt C H a2 t2 r2 b2 ds2 ks2 ∧ ds.length ≤ 900 ∧ ds2.length ≤ 900 ∧
  Q (.bl (decide (b = b2) && (PyData.eqv (.tuple (ds.map .int)) (.tuple (ds2.map .int)) && PyData.eqv (.tuple (ks.map fun p => pd2 p.2)) (.tuple (ks2.map fun p => pd2 p.2))))) H

/-- == of a scheme and any value -/
def spEqA (K : PySem.W.Frag) (C : Addr) : Sp := fun vs H Q E => spEqS C vs H Q E ∨ ∃ (a t r : Addr) (b : Int) (ds : List Int) (ks : List (Addr × (Int × Int))) (x : V), vs = [.ref a, x] ∧ SchemeAt C H a t r b ds ks ∧ NotOf K C H x ∧ Q (.bl false) H
theorem scEq : FnScope ["self", "other"] ["self", "other"] (defScope sEq) := ⟨rfl, rfl, rfl, by decide +kernel, rfl, by decide +kernel, by decide +kernel⟩
theorem dp_ints {K : PySem.W.Frag} {H : Hp} : ∀ ds : List Int, DpAll K H (ds.map V.int) (ds.map PyData.int)
  | [] => .nil
  | d :: ds => .cons (.int d) (dp_ints ds)
theorem ints_can : ∀ ds : List Int, PyData.canLayAll0 (ds.map PyData.int) = true ∧ PyData.depthAll (ds.map PyData.int) = 0
  | [] => ⟨by simp only [List.map_nil, PyData.canLayAll0], by simp only [List.map_nil, PyData.depthAll]⟩
  | d :: ds => by
    obtain ⟨h1, h2⟩ := ints_can ds
    refine ⟨?_, ?_⟩
    · rw [List.map_cons, PyData.canLayAll0, h1]
      simp only [PyData.canLay0, Bool.and_true]
    · rw [List.map_cons, PyData.depthAll, h2]
      simp only [PyData.depth, Nat.max_self]
theorem ints_shapedT (ds : List Int) : SeqAt.shaped (.tuple (ds.map .int)) = true := by
  obtain ⟨h1, h2⟩ := ints_can ds
  refine shaped_of ?_ ?_
  · simp only [PyData.canLay0, h1]
  · simp only [PyData.depth, h2]
    omega
theorem ints_shapedL (ds : List Int) : SeqAt.shaped (.list (ds.map .int)) = true := by
  obtain ⟨h1, h2⟩ := ints_can ds
  refine shaped_of ?_ ?_
  · simp only [PyData.canLay0, h1]
  · simp only [PyData.depth, h2]
    omega
set_option maxHeartbeats 1000000 in
theorem ok_eq {f C : Addr} {fd : FuncData} (F : Fun K "__eq__" "Scheme.__eq__" sEq f fd) (I : IsC K C) (n1 : NoAttr K C "_base") (n2 : NoAttr K C "_digits") (n3 : NoAttr K C "_bars") (gC : mg "Scheme" = some (.ref C)) (mis : mg "isinstance" = none) :
    FnOk P w K mg base CX0 1 f fd ["self", "other"] (spEqA K C) := by
  refine F.ok scEq (fun vs H Q E h => ?_) (fun cdv A outer s H vs Q E hr h => ?_)
  · rcases h with ⟨a, t, r, a2, t2, r2, b, b2, ds, ds2, ks, ks2, rfl, _⟩ | ⟨a, t, r, b, ds, ks, x, rfl, _⟩
    · rfl
    · rfl
  · apply Exists.intro
    apply And.intro
    · apply pss_one
      · exact ps_ret (pe_and (pe_callB call_isi (by rfl) mis PyProof.Rows.boot_isinstance (pa_cons (pv 1) (pa_cons (pe_glob (v := .ref C) (by rfl) gC rfl) pa_nil)))
          (pe_and (pe_cmpR op_eq (pe_fld (pv 0) rfl) (pe_fld (pv 1) rfl) (nomark _)) (pe_and (pe_cmpR (op_eqD hr.units) (pe_fld (pv 0) rfl) (pe_fld (pv 1) rfl) (nomark _)) (pe_one (pe_cmpR (op_eqD hr.units) (pe_fld (pv 0) rfl) (pe_fld (pv 1) rfl) (nomark _))))))
    rcases h with ⟨a, t, r, a2, t2, r2, b, b2, ds, ds2, ks, ks2, rfl, ⟨⟨dx, ha⟩, ht, hrr, hks⟩, ⟨⟨dx2, ha2⟩, ht2, hrr2, hks2⟩, l1, l2, q⟩ | ⟨a, t, r, b, ds, ks, x, rfl, S, ⟨ty, tyx, k⟩, q⟩
    case' inr => exact ⟨x, rfl, x, .ref C, ty, .ref C, false, rfl, .own C, tyx, k, false, rfl, iteF q⟩
    refine ⟨.ref a2, rfl, .ref a2, .ref C, .ref C, .ref C, true, rfl, .own C, .base (.ins ha2 I.cl I.ha I.hn I.ht I.hm), I.own, true, rfl, iteT ?_⟩
    refine ⟨.ref a, rfl, a, C, dx, _, .int b, rfl, ha, I.cl, n1, lk_base, .ref a2, rfl, a2, C, dx2, _, .int b2, rfl, ha2, I.cl, n1, lk_base, rfl, ?_⟩
    by_cases hb : b = b2
    · subst hb
      refine ⟨_, rfl, iteTB (decide_eq_true rfl) ?_⟩
      refine ⟨.ref a, rfl, a, C, dx, _, .ref t, rfl, ha, I.cl, n2, lk_digits, .ref a2, rfl, a2, C, dx2, _, .ref t2, rfl, ha2, I.cl, n2, lk_digits, .tuple (ds.map .int), .tuple (ds2.map .int), .tup (SqT.of ht) (dp_ints ds), .tup (SqT.of ht2) (dp_ints ds2), ints_shapedT ds, ints_shapedT ds2, _, rfl, ?_⟩
      rw [decide_eq_true rfl, Bool.true_and] at q
      refine iteAnd (fun z => ?_) q
      exact ⟨.ref a, rfl, a, C, dx, _, .ref r, rfl, ha, I.cl, n3, lk_bars, .ref a2, rfl, a2, C, dx2, _, .ref r2, rfl, ha2, I.cl, n3, lk_bars, .tuple (ks.map fun p => pd2 p.2), .tuple (ks2.map fun p => pd2 p.2), .tup (SqT.of hrr) (bars_dp ks hks), .tup (SqT.of hrr2) (bars_dp ks2 hks2), bars_shaped ks, bars_shaped ks2, z⟩
    · refine ⟨_, rfl, iteFB (decide_eq_false fun z => hb (V.int.inj z)) ?_⟩
      rw [decide_eq_false hb, Bool.false_and] at q
      exact q

/-! ### the properties, len -/
def spPB (C : Addr) : Sp := fun vs H Q _ => ∃ (a t r : Addr) (b : Int) (ds : List Int) (ks : List (Addr × (Int × Int))), vs = [.ref a] ∧ SchemeAt C H a t r b ds ks ∧ Q (.int b) H
def spPD (C : Addr) : Sp := fun vs H Q _ => ∃ (a t r : Addr) (b : Int) (ds : List Int) (ks : List (Addr × (Int × Int))), vs = [.ref a] ∧ SchemeAt C H a t r b ds ks ∧ Q (.ref t) H
def spPR (C : Addr) : Sp := fun vs H Q _ => ∃ (a t r : Addr) (b : Int) (ds : List Int) (ks : List (Addr × (Int × Int))), vs = [.ref a] ∧ SchemeAt C H a t r b ds ks ∧ Q (.ref r) H
def spLn (C : Addr) : Sp := fun vs H Q _ => ∃ (a t r : Addr) (b : Int) (ds : List Int) (ks : List (Addr × (Int × Int))), vs = [.ref a] ∧ SchemeAt C H a t r b ds ks ∧ Q (.int ds.length) H
theorem scPb : FnScope ["self"] ["self"] (defScope sPBase) := ⟨rfl, rfl, rfl, by decide +kernel, rfl, by decide +kernel, by decide +kernel⟩
theorem ok_pbase {f C : Addr} {fd : FuncData} (F : Fun K "base" "Scheme.base" sPBase f fd) (c : Cls K C) (n : NoAttr K C "_base") : FnOk P w K mg base CX0 1 f fd ["self"] (spPB C) := by
  refine F.ok scPb (fun vs H Q E h => ?_) (fun cdv A outer s H vs Q E hr h => ?_)
  · obtain ⟨a, t, r, b, ds, ks, rfl, _⟩ := h
    rfl
  · obtain ⟨a, t, r, b, ds, ks, rfl, S, q⟩ := h
    obtain ⟨⟨dx, hins⟩, _⟩ := id S
    exact ⟨_, pss_one (ps_ret (pe_fld (pv 0) rfl)), .ref a, rfl, a, C, dx, _, .int b, rfl, hins, c, n, lk_base, q⟩
theorem scPd : FnScope ["self"] ["self"] (defScope sPDigits) := ⟨rfl, rfl, rfl, by decide +kernel, rfl, by decide +kernel, by decide +kernel⟩
theorem ok_pdigits {f C : Addr} {fd : FuncData} (F : Fun K "digits" "Scheme.digits" sPDigits f fd) (c : Cls K C) (n : NoAttr K C "_digits") : FnOk P w K mg base CX0 1 f fd ["self"] (spPD C) := by
  refine F.ok scPd (fun vs H Q E h => ?_) (fun cdv A outer s H vs Q E hr h => ?_)
  · obtain ⟨a, t, r, b, ds, ks, rfl, _⟩ := h
    rfl
  · obtain ⟨a, t, r, b, ds, ks, rfl, S, q⟩ := h
    obtain ⟨⟨dx, hins⟩, _⟩ := id S
    exact ⟨_, pss_one (ps_ret (pe_fld (pv 0) rfl)), .ref a, rfl, a, C, dx, _, .ref t, rfl, hins, c, n, lk_digits, q⟩
theorem scPr : FnScope ["self"] ["self"] (defScope sPBars) := ⟨rfl, rfl, rfl, by decide +kernel, rfl, by decide +kernel, by decide +kernel⟩
theorem ok_pbars {f C : Addr} {fd : FuncData} (F : Fun K "bars" "Scheme.bars" sPBars f fd) (c : Cls K C) (n : NoAttr K C "_bars") : FnOk P w K mg base CX0 1 f fd ["self"] (spPR C) := by
  refine F.ok scPr (fun vs H Q E h => ?_) (fun cdv A outer s H vs Q E hr h => ?_)
  · obtain ⟨a, t, r, b, ds, ks, rfl, _⟩ := h
    rfl
  · obtain ⟨a, t, r, b, ds, ks, rfl, S, q⟩ := h
    obtain ⟨⟨dx, hins⟩, _⟩ := id S
    exact ⟨_, pss_one (ps_ret (pe_fld (pv 0) rfl)), .ref a, rfl, a, C, dx, _, .ref r, rfl, hins, c, n, lk_bars, q⟩
theorem scLn : FnScope ["self"] ["self"] (defScope sLen) := ⟨rfl, rfl, rfl, by decide +kernel, rfl, by decide +kernel, by decide +kernel⟩
theorem ok_len {f C : Addr} {fd : FuncData} (F : Fun K "__len__" "Scheme.__len__" sLen f fd) (c : Cls K C) (n : NoAttr K C "_digits") (ml : mg "len" = none) : FnOk P w K mg base CX0 1 f fd ["self"] (spLn C) := by
  refine F.ok scLn (fun vs H Q E h => ?_) (fun cdv A outer s H vs Q E hr h => ?_)
  · obtain ⟨a, t, r, b, ds, ks, rfl, _⟩ := h
    rfl
  · obtain ⟨a, t, r, b, ds, ks, rfl, S, q⟩ := h
    obtain ⟨⟨dx, hins⟩, ht, _⟩ := id S
    refine ⟨_, pss_one (ps_ret (pe_callB call_len_seq (by rfl) ml PySem.boot_len (pa_cons (pe_fld (pv 0) rfl) pa_nil))), .ref a, rfl, a, C, dx, _, .ref t, rfl, hins, c, n, lk_digits, t, _, rfl, .inr (SqT.of ht), ?_⟩
    rw [List.length_map]
    exact q
end
end K08
namespace K08
open PySem PySem.Spec PyProof.Rows L2 OF
abbrev sCell : Stmt := topS 29
abbrev sBox : Stmt := topS 30
abbrev sTake : Stmt := topS 31
abbrev sMixed : Stmt := topS 32
abbrev sDigits : Stmt := topS 33
abbrev sPairs : Stmt := topS 34
abbrev sScheme : Stmt := topS 35
abbrev sMade : Stmt := topS 36
abbrev sWords : Stmt := topS 37
abbrev sText : Stmt := topS 38
abbrev sNumber : Stmt := topS 39
abbrev sNumbers : Stmt := topS 40
abbrev sDue : Stmt := topS 41
abbrev sTold : Stmt := topS 42
abbrev sSpoilt : Stmt := topS 43
abbrev sRight : Stmt := topS 44
abbrev sLaw : Stmt := topS 45


section
variable {P : Program} {w : World} {K : PySem.W.Frag} {mg : Str → Option Value} {base : Heap}
theorem scC : FnScope ["_law_script", "_law_k"] ["_law_script", "_law_k"] (defScope sCell) := ⟨rfl, rfl, rfl, by decide +kernel, rfl, by decide +kernel, by decide +kernel⟩
theorem ok_cell {f : Addr} {fd : FuncData} (F : Fun K "_law_cell" "_law_cell" sCell f fd) (ml : mg "len" = none) : FnOk P w K mg base CX0 1 f fd ["_law_script", "_law_k"] (OF.spCell K) := by
  refine F.ok scC (fun vs H Q E h => ?_) (fun cdv A outer s H vs Q E hr h => ?_)
  · obtain ⟨a, ns, k, rfl, _⟩ := h
    rfl
  · obtain ⟨a, ns, k, rfl, hS, hk, q⟩ := h
    refine ⟨_, pss_cons (ps_if (pt_cmpR op_lt (pv 1) (pe_callB call_len_seq (by rfl) ml PySem.boot_len (pa_cons (pv 0) pa_nil)) (nomark _))
        (pss_one (ps_ret (pe_ix ix_list (pv 0) (pv 1) (fun _ _ => rfl)))) pss_nil)
      (pss_one (ps_ret (pe_op op_add (pe_op op_mul pe_int (pv 1)) pe_int))), ?_⟩
    refine ⟨.int k, rfl, .ref a, rfl, a, ns.map V.int, rfl, .inl hS, k, _, rfl, rfl, _, rfl, ite2 (fun c => ?_) (fun c => ?_)⟩
    · have c1 : k < ns.length := by
        have c2 := of_decide_eq_true c
        rw [List.length_map] at c2
        omega
      have g : (ns.map V.int)[k]? = some (.int ns[k]) := by
        rw [List.getElem?_map, List.getElem?_eq_getElem c1]
        rfl
      exact ⟨.ref a, rfl, .int k, rfl, a, _, k, .int ns[k], rfl, rfl, hS, atI_nat g, q _⟩
    · exact ⟨.int k, rfl, _, _, rfl, rfl, .inl ⟨by decide, by decide⟩, _, _, rfl, rfl, q _⟩
theorem scB : FnScope ["_law_cell_here"] ["_law_cell_here"] (defScope sBox) := ⟨rfl, rfl, rfl, by decide +kernel, rfl, by decide +kernel, by decide +kernel⟩
theorem ok_box {f : Addr} {fd : FuncData} (F : Fun K "_law_box" "_law_box" sBox f fd) (mi : mg "int" = none) (mm : mg "max" = none) : FnOk P w K mg base CX0 1 f fd ["_law_cell_here"] spBox := by
  refine F.ok scB (fun vs H Q E h => ?_) (fun cdv A outer s H vs Q E hr h => ?_)
  · obtain ⟨c, rfl, _⟩ := h
    rfl
  · obtain ⟨c, rfl, q⟩ := h
    refine ⟨_, pss_one (ps_ret (pe_lst (pa_cons (pe_callB (call_max2 rfl) (by rfl) mm PyProof.Rows.boot_max (pa_cons pe_int (pa_cons (pe_op op_sub (pv 0) (pe_op op_pow pe_int pe_int)) pa_nil)))
      (pa_cons (pe_op op_modR (pe_callTy call_int1 (by rfl) mi PyProof.Rows.boot_int (pa_cons (pv 0) pa_nil)) pe_int) (pa_cons pe_int pa_nil))))), ?_⟩
    refine ⟨.int c, rfl, _, _, rfl, rfl, ⟨by decide, by decide, by decide⟩, _, _, rfl, rfl, _, _, rfl, .int c, rfl, .inl ⟨_, rfl, _, _, rfl, rfl, by decide, fun r r0 r1 => ?_⟩⟩
    refine ⟨by show 3 ≤ sizeLine; decide, fun p hp => ?_⟩
    refine q p _ hp (same_new hp) ⟨_, r, 0, upd_same, ?_, r0, by omega, by decide, by decide⟩
    split <;> omega
theorem scT : FnScope ["_law_box_here", "_law_many", "_law_digit", "_law_number_here"] ["_law_box_here", "_law_many"] (defScope sTake) := ⟨rfl, rfl, rfl, by decide +kernel, rfl, by decide +kernel, by decide +kernel⟩
theorem ok_take {f : Addr} {fd : FuncData} (F : Fun K "_law_take" "_law_take" sTake f fd) (mi : mg "int" = none) : FnOk P w K mg base CX0 1 f fd ["_law_box_here", "_law_many"] spTake := by
  refine F.ok scT (fun vs H Q E h => ?_) (fun cdv A outer s H vs Q E hr h => ?_)
  · obtain ⟨a, m, n, rfl, _⟩ := h
    rfl
  · obtain ⟨a, m, n, rfl, ⟨b0, b1, b2, hH, p0, p1, q1, p2, q2⟩, hn, hm, hmb, q⟩ := h
    refine ⟨_, pss_cons (ps_if (pt_cmpR op_gt (pe_ix ix_list (pv 0) pe_int (fun _ _ => rfl)) pe_int (nomark _))
        (pss_cons (ps_set (i := 2) scT.nd rfl (.inl rfl) (pe_op op_modR (pe_callTy call_int1 (by rfl) mi PyProof.Rows.boot_int (pa_cons (pe_ix ix_list (pv 0) pe_int (fun _ _ => rfl)) pa_nil)) (pv 1)))
        (pss_cons (ps_asg (pe_op op_fdivW (pe_ix ix_list (pv 0) pe_int (fun _ _ => rfl)) (pv 1)) (pg_sub (pv 0) pe_int set_list))
        (pss_one (ps_ret (pv 2))))) pss_nil)
      (pss_cons (ps_asg (pe_op op_add (pe_ix ix_list (pv 0) pe_int (fun _ _ => rfl)) pe_int) (pg_sub (pv 0) pe_int set_list))
      (pss_cons (ps_set (i := 3) scT.nd rfl (.inl rfl) (pe_op op_modR (pe_op op_pow (pe_callTy call_int1 (by rfl) mi PyProof.Rows.boot_int
          (pa_cons (pe_op op_add (pe_op op_add (pe_ix ix_list (pv 0) pe_int (fun _ _ => rfl)) (pe_op op_mul pe_int (pe_ix ix_list (pv 0) pe_int (fun _ _ => rfl)))) pe_int) pa_nil)) pe_int) pe_int))
      (pss_cons (ps_set (i := 3) scT.nd rfl (.inl rfl) (pe_op op_modR (pe_op op_pow (pe_callTy call_int1 (by rfl) mi PyProof.Rows.boot_int
          (pa_cons (pe_op op_add (pv 3) (pe_op op_mul pe_int (pe_ix ix_list (pv 0) pe_int (fun _ _ => rfl)))) pa_nil)) pe_int) pe_int))
      (pss_one (ps_ret (pe_op op_modR (pe_callTy call_int1 (by rfl) mi PyProof.Rows.boot_int (pa_cons (pe_op op_fdiv (pv 3) pe_int) pa_nil)) (pv 1))))))), ?_⟩
    refine ⟨.ref a, rfl, a, _, 0, .int b0, rfl, rfl, SqL.of hH, atI_nat (j := 0) rfl, b0, 0, rfl, rfl, _, rfl, ite2 (fun c => ?_) (fun c => ?_)⟩
    · refine ⟨.ref a, rfl, a, _, 0, .int b0, rfl, rfl, SqL.of hH, atI_nat (j := 0) rfl, .inl ⟨b0, rfl, .int m, rfl, b0, m, rfl, rfl, hm, fun r r0 r1 => ?_⟩⟩
      refine ⟨.ref a, rfl, a, _, 0, .int b0, rfl, rfl, SqL.of hH, atI_nat (j := 0) rfl, .int m, rfl, b0, m, rfl, rfl, wide_div hm hmb (by decide) (by decide), ?_⟩
      refine ⟨.ref a, rfl, a, _, 0, 0, rfl, rfl, hH, rfl, ?_⟩
      refine ⟨.int r, rfl, q r _ r0 r1 But.at_ ⟨b0 / m, b1, b2, upd_same, Int.ediv_nonneg p0 (by omega), p1, q1, p2, by omega⟩⟩
    · refine ⟨.ref a, rfl, a, _, 2, .int b2, rfl, rfl, SqL.of hH, atI_nat (j := 2) rfl, b2, 1, rfl, rfl, .ref a, rfl, a, _, 2, 2, rfl, rfl, hH, rfl, ?_⟩
      have hH1 : (upd H a (.lst [.int b0, .int b1, .int (b2 + 1)])) a = some (.lst [.int b0, .int b1, .int (b2 + 1)]) := upd_same
      refine ⟨.ref a, rfl, a, _, 1, .int b1, rfl, rfl, SqL.of hH1, atI_nat (j := 1) rfl, .ref a, rfl, a, _, 2, .int (b2 + 1), rfl, rfl, SqL.of hH1, atI_nat (j := 2) rfl,
        _, _, rfl, rfl, .inl ⟨by decide, by decide⟩, _, _, rfl, rfl, _, _, rfl, rfl, .inl ⟨_, rfl, _, _, rfl, rfl, ⟨by decide, by decide, by omega⟩, _, _, rfl, rfl, by decide, fun r r0 r1 => ?_⟩⟩
      refine ⟨.int r, rfl, .ref a, rfl, a, _, 2, .int (b2 + 1), rfl, rfl, SqL.of hH1, atI_nat (j := 2) rfl,
        _, _, rfl, rfl, .inl ⟨by decide, by decide⟩, _, _, rfl, rfl, .inl ⟨_, rfl, _, _, rfl, rfl, ⟨by decide, by decide, by omega⟩, _, _, rfl, rfl, by decide, fun r' r0' r1' => ?_⟩⟩
      refine ⟨.int r', rfl, _, _, rfl, rfl, ⟨by decide, by decide⟩, .inl ⟨_, rfl, .int m, rfl, _, _, rfl, rfl, hm, fun r2 h0 h1 => ?_⟩⟩
      exact q r2 _ h0 h1 But.at_ ⟨b0, b1, b2 + 1, upd_same, p0, p1, q1, by omega, by omega⟩
theorem scM : FnScope ["_law_box_here", "_law_some", "_law_left", "_law_k"] ["_law_box_here", "_law_some"] (defScope sMixed) := ⟨rfl, rfl, rfl, by decide +kernel, rfl, by decide +kernel, by decide +kernel⟩
theorem ok_mixed {f fT : Addr} {fd fdT : FuncData} (F : Fun K "_law_mixed" "_law_mixed" sMixed f fd) (FT : Fun K "_law_take" "_law_take" sTake fT fdT) (gT : mg "_law_take" = some (.ref fT)) (bT : Binds K fdT ["_law_box_here", "_law_many"] [])
    (mi : mg "int" = none) (ml : mg "len" = none) (mr : mg "range" = none) (ms : mg "list" = none) : FnOk P w K mg base CX0 2 f fd ["_law_box_here", "_law_some"] (spMixed K) := by
  have GT : FnOk P w K mg base CX0 1 fT fdT ["_law_box_here", "_law_many"] spTake := ok_take FT mi
  refine F.ok scM (fun vs H Q E h => ?_) (fun cdv A outer s H vs Q E hr h => ?_)
  · obtain ⟨a, p, xs, n, rfl, _⟩ := h
    rfl
  · obtain ⟨a, p, xs, n, rfl, hB, hS, npa, hlen, hn, q⟩ := h
    refine ⟨_, pss_cons (ps_set (i := 2) scM.nd rfl (.inr rfl) (pe_callTy call_list_of (by rfl) ms PyProof.Rows.boot_list (pa_cons (pv 1) pa_nil)))
      (pss_one (ps_ret (pe_lc (own := [("_law_k", 3)]) (g := gName 3) (tt := tYes) (te := tBM K "list" rPopAt (tVar 2) (tCons (tCall spTake [] E0 (tCons (tVar 0) (tCons (tCB (rLenS K) (tCons (tVar 2) tNil)) tNil))) tNil)) rfl scM.nd (pi_range1 rfl mr (pa_cons (pe_callB call_len_seq (by rfl) ml PySem.boot_len (pa_cons (pv 1) pa_nil)) pa_nil))
        (blkOk_by (own := [("_law_k", 3)]) (N := ["_law_box_here", "_law_some", "_law_left", "_law_k"]) (sc := defScope sMixed) (by decide +kernel)) (fun _ _ _ _ _ => pg_name (i := 3) scM.nd rfl (Or.inl rfl)) (fun _ _ _ _ _ => pts_nil)
        (fun _ _ _ _ _ => by exact (pe_bm PySem.F.plainAttrs_list PySem.F.slot_list_pop PySem.F.type_list_pop mt_popAt (pv 2)
          (pa_cons (pe_call GT hr (by rfl) gT FT.kp bT .nil pass0 (pa_cons (pv 0) (pa_cons (pe_callB call_len_seq (by rfl) ml PySem.boot_len (pa_cons (pv 2) pa_nil)) pa_nil))) pa_nil)))))), ?_⟩
    refine ⟨.ref p, rfl, p, xs, rfl, .inl hS, fun l hl => ?_⟩
    have nla : l ≠ a := hB.ne hl
    have s1 : Same H (upd H l (.lst xs)) := same_new hl
    refine ⟨.ref p, rfl, p, xs, rfl, .inl (s1.seq hS), _, rfl, by omega, by omega, fun D hD => ?_⟩
    have hDl : D ≠ l := fun e => by rw [e, upd_same] at hD; cases hD
    have hD0 : H D = none := s1.free hD
    have nDa : D ≠ a := hB.ne hD0
    refine lc_range (lo := 0) (n := xs.length) (fun i H' => But a H H' ∧ Box (n + i) H' a ∧ (∃ ls, H' l = some (.lst ls) ∧ ls.length + i = xs.length ∧ ∀ y ∈ ls, y ∈ xs) ∧ ∃ acc, H' D = some (.lst acc) ∧ acc.length = i ∧ ∀ y ∈ acc, y ∈ xs) ?_ ?_ ?_
    · refine ⟨(But.new hl).trans (But.new hD), ?_, ⟨xs, ?_, rfl, fun _ h => h⟩, [], upd_same, rfl, fun y h => by cases h⟩
      · exact (((hB.upd nla).upd nDa).mono (by omega))
      · rw [upd_ne hDl.symm]
        exact upd_same
    · rintro i H' hi ⟨t, B, ⟨ls, el, ll, ml2⟩, acc, ea, la, ma⟩
      refine ⟨rfl, tYes_if ?_⟩
      refine ⟨.ref l, rfl, .inl ⟨rfl, _, SqL.of el⟩, .ref a, rfl, .ref l, rfl, l, ls, rfl, .inl (SqL.of el), a, ls.length, n + i, rfl, B, by omega, by omega, by omega, fun r H4 r0 r1 t4 B4 => ?_⟩
      have e4 : H4 l = some (.lst ls) := t4 _ _ nla el
      have hk : r.toNat < ls.length := by omega
      refine ⟨l, ls, r, r.toNat, ls[r.toNat], rfl, rfl, e4, by omega, by omega, (ixN_seq (ixN_in r0 r1)).1, List.getElem?_eq_getElem hk, ?_⟩
      refine ⟨acc, ?_, by rw [la]; exact small1000 (by omega), ?_⟩
      · rw [upd_ne hDl]
        exact t4 _ _ nDa ea
      · refine ⟨((t.trans t4).store hl).store hD0, (((B4.upd nla).upd nDa).mono (by omega)), ⟨ls.eraseIdx r.toNat, ?_, ?_, fun y hy => ml2 y (List.mem_of_mem_eraseIdx hy)⟩, _, upd_same, ?_, fun y hy => ?_⟩
        · rw [upd_ne hDl.symm]
          exact upd_same
        · rw [List.length_eraseIdx, if_pos hk]
          omega
        · rw [List.length_append, la]
          rfl
        · rcases List.mem_append.mp hy with h | h
          · exact ma y h
          · cases List.mem_singleton.mp h
            exact ml2 _ (List.getElem_mem hk)
    · rintro H' ⟨t, B, _, acc, ea, la, ma⟩
      exact q D acc H' hD0 t B ea la ma

theorem _root_.OF.But.free_ {a p : Addr} {H H' : Hp} (t : OF.But a H H') (n : p ≠ a) (h : H' p = none) : H p = none := by
  rcases Option.eq_none_or_eq_some (H p) with z | ⟨o, z⟩
  · exact z
  · rw [t p o n z] at h
    cases h
/-! ### lists in order -/
theorem sorted_ext {α : Type} {r : α → α → Prop} (as : ∀ a b, r a b → ¬ r b a) : ∀ {l m : List α}, l.Pairwise r → m.Pairwise r → (∀ x, x ∈ l ↔ x ∈ m) → l = m
  | [], [], _, _, _ => rfl
  | [], y :: m, _, _, h => absurd ((h y).mpr List.mem_cons_self) List.not_mem_nil
  | x :: l, [], _, _, h => absurd ((h x).mp List.mem_cons_self) List.not_mem_nil
  | x :: l, y :: m, h1, h2, h => by
    obtain ⟨a1, b1⟩ := List.pairwise_cons.mp h1
    obtain ⟨a2, b2⟩ := List.pairwise_cons.mp h2
    have e : x = y := by
      rcases List.mem_cons.mp ((h x).mp List.mem_cons_self) with z | z
      · exact z
      · rcases List.mem_cons.mp ((h y).mpr List.mem_cons_self) with z2 | z2
        · exact z2.symm
        · exact absurd (a1 y z2) (as _ _ (a2 x z))
    subst e
    have e2 : l = m := sorted_ext as b1 b2 fun z => by
      constructor
      · intro hz
        rcases List.mem_cons.mp ((h z).mp (List.mem_cons_of_mem _ hz)) with q | q
        · subst q
          exact absurd (a1 z hz) (as _ _ (a1 z hz))
        · exact q
      · intro hz
        rcases List.mem_cons.mp ((h z).mpr (List.mem_cons_of_mem _ hz)) with q | q
        · subst q
          exact absurd (a2 z hz) (as _ _ (a2 z hz))
        · exact q
    rw [e2]
theorem erase_map {α β : Type} (f : α → β) : ∀ (l : List α) (k : Nat), (l.map f).eraseIdx k = (l.eraseIdx k).map f
  | [], _ => rfl
  | _ :: _, 0 => rfl
  | x :: l, k + 1 => by
    show f x :: (l.map f).eraseIdx k = f x :: (l.eraseIdx k).map f
    rw [erase_map f l k]
theorem erase_perm {α : Type} : ∀ (l : List α) (k : Nat) (h : k < l.length), (l[k] :: l.eraseIdx k).Perm l
  | x :: l, 0, _ => List.Perm.refl _
  | x :: l, k + 1, h => by
    have h2 : k < l.length := Nat.lt_of_succ_lt_succ h
    show (l[k] :: x :: l.eraseIdx k).Perm (x :: l)
    exact (List.Perm.swap _ _ _).trans ((erase_perm l k h2).cons x)
/-- pairs by their order -/
def lexP (p q : Int × Int) : Prop := p.1 < q.1 ∨ (p.1 = q.1 ∧ p.2 < q.2)
theorem lexP_as (p q : Int × Int) (h : lexP p q) : ¬ lexP q p := by
  intro z
  unfold lexP at h z
  omega
/-- all pairs, in order -/
def prod (ns : List Int) : List (Int × Int) := ns.flatMap fun x => ns.map fun y => (x, y)
theorem prod_aux {ms : List Int} (hm : ms.Pairwise (· < ·)) : ∀ {ns : List Int}, ns.Pairwise (· < ·) → (ns.flatMap fun x => ms.map fun y => (x, y)).Pairwise lexP
  | [], _ => List.Pairwise.nil
  | x :: ns, h => by
    obtain ⟨a, b⟩ := List.pairwise_cons.mp h
    rw [List.flatMap_cons, List.pairwise_append]
    refine ⟨?_, prod_aux hm b, fun p hp q hq => ?_⟩
    · rw [List.pairwise_map]
      exact hm.imp fun z => .inr ⟨rfl, z⟩
    · obtain ⟨y, _, rfl⟩ := List.mem_map.mp hp
      obtain ⟨x2, hx2, hq⟩ := List.mem_flatMap.mp hq
      obtain ⟨y2, _, rfl⟩ := List.mem_map.mp hq
      exact .inl (a x2 hx2)
theorem prod_mem {ns : List Int} {p : Int × Int} (h : p ∈ prod ns) : p.1 ∈ ns ∧ p.2 ∈ ns := by
  obtain ⟨x, hx, hp⟩ := List.mem_flatMap.mp h
  obtain ⟨y, hy, rfl⟩ := List.mem_map.mp hp
  exact ⟨hx, hy⟩
theorem flat_len {ms : List Int} : ∀ (ns : List Int), (ns.flatMap fun x => ms.map fun y => (x, y)).length = ns.length * ms.length
  | [] => by simp
  | x :: ns => by
    rw [List.flatMap_cons, List.length_append, flat_len ns, List.length_map, List.length_cons, Nat.succ_mul]
    omega
/-- the parts of a scheme that a law draws -/
structure Good (b : Int) (ns : List Int) (ps : List (Int × Int)) : Prop where
  b : isBase b = true
  asc : ns.Pairwise (· < ·)
  one : 1 ≤ ns.length
  six : ns.length ≤ 6
  dg : ∀ n ∈ ns, dig n = true
  mem : ∀ p ∈ ps, p.1 ∈ ns ∧ p.2 ∈ ns
  lex : ps.Pairwise lexP
  few : ps.length ≤ 36
/-- the list of these parts in the heap -/
structure ModAt (H : Hp) (m dl pl : Addr) (b : Int) (ns : List Int) (ks : List (Addr × (Int × Int))) : Prop where
  mo : H m = some (.lst [.int b, .ref dl, .ref pl])
  di : H dl = some (.lst (ns.map V.int))
  pa : H pl = some (.lst (ks.map fun p => V.ref p.1))
  pr : ∀ p ∈ ks, H p.1 = some (.tup [.int p.2.1, .int p.2.2])
theorem ModAt.same {H H' : Hp} {m dl pl : Addr} {b : Int} {ns : List Int} {ks : List (Addr × (Int × Int))} (h : ModAt H m dl pl b ns ks) (s : Same H H') : ModAt H' m dl pl b ns ks :=
  ⟨s _ _ h.mo, s _ _ h.di, s _ _ h.pa, fun p hp => s _ _ (h.pr p hp)⟩
/-- the law's parts of a scheme at m, wherever but the box at a may change -/
def Model (a : Addr) (H : Hp) (m : Addr) (b : Int) (ns : List Int) (ps : List (Int × Int)) : Prop := ∃ (dl pl : Addr) (ks : List (Addr × (Int × Int))), ks.map (·.2) = ps ∧ ∀ H', But a H H' → ModAt H' m dl pl b ns ks
theorem Model.but {a m : Addr} {H H' : Hp} {b : Int} {ns : List Int} {ps : List (Int × Int)} (h : Model a H m b ns ps) (t : But a H H') : Model a H' m b ns ps := by
  obtain ⟨dl, pl, ks, e, z⟩ := h
  exact ⟨dl, pl, ks, e, fun H2 t2 => z H2 (t.trans t2)⟩

/-! ### digits, drawn -/
def mA (b : Int) : Int := if b < 0 then -b else b
theorem mA_cases {b : Int} (h : isBase b = true) : mA b = 2 ∨ mA b = 3 ∨ mA b = 4 ∨ mA b = 5 ∨ mA b = 6 := by
  unfold isBase at h
  unfold mA
  simp only [Bool.or_eq_true, Bool.and_eq_true, decide_eq_true_eq] at h
  split <;> omega
def spDigits : Sp := fun vs H Q _ => ∃ (a : Addr) (b n : Int), vs = [.ref a, .int b] ∧ Box n H a ∧ n ≤ 800000 ∧ isBase b = true ∧
  ∀ (D : Addr) (ns : List Int) (H' : Hp), H D = none → But a H H' → Box (n + 30) H' a → H' D = some (.lst (ns.map V.int)) → ns.Nodup → 1 ≤ ns.length → ns.length ≤ 6 → (∀ k ∈ ns, dig k = true) → Q (.ref D) H'
abbrev nDi : List Str := ["_law_box_here", "_law_base", "_law_way", "_law_many", "_law_first", "_law_some", "_law_pool", "_law_k", "_law_digit"]
theorem scDi : FnScope nDi ["_law_box_here", "_law_base"] (defScope sDigits) := ⟨rfl, rfl, rfl, by decide +kernel, rfl, by decide +kernel, by decide +kernel⟩
theorem rg_ints (a b : Int) : rgV a b = ((List.range (b - a).toNat).map fun (i : Nat) => a + (i : Int)).map V.int := by
  unfold rgV
  rw [List.map_map]
  rfl
theorem rg_nodup (a : Int) (n : Nat) : ((List.range n).map fun (i : Nat) => a + (i : Int)).Nodup := by
  rw [List.nodup_iff_pairwise_ne, List.pairwise_map]
  refine List.nodup_range.imp fun {i j} h e => h ?_
  omega
theorem dig_of {k : Int} (h : -9 ≤ k) (h2 : k ≤ 9) : dig k = true := by
  unfold dig
  rw [decide_eq_true h, decide_eq_true h2]
  rfl
/-- what the second way makes: one number for each remainder -/
def Spread (m : Int) (vs : List Int) (lo hi : Int) : Prop := ∀ (j : Nat) (v : Int), vs[j]? = some v → ∃ c : Int, v = j + m * c ∧ lo ≤ c ∧ c ≤ hi
theorem spread_push {m lo hi c : Int} {vs : List Int} (h : Spread m vs lo hi) (h0 : lo ≤ c) (h1 : c ≤ hi) : Spread m (vs ++ [vs.length + m * c]) lo hi := by
  intro j v e
  rcases Nat.lt_trichotomy j vs.length with z | z | z
  · rw [List.getElem?_append_left z] at e
    exact h j v e
  · subst z
    rw [List.getElem?_append_right (Nat.le_refl _), Nat.sub_self] at e
    cases Option.some.inj e
    exact ⟨c, rfl, h0, h1⟩
  · rw [List.getElem?_eq_none (by rw [List.length_append]; show vs.length + 1 ≤ j; omega)] at e
    cases e
theorem spread_nodup {m lo hi : Int} {vs : List Int} (h : Spread m vs lo hi) (hm : m = 2 ∨ m = 3 ∨ m = 4 ∨ m = 5 ∨ m = 6) (hl : (vs.length : Int) ≤ m) : vs.Nodup := by
  rw [List.nodup_iff_pairwise_ne, List.pairwise_iff_getElem]
  intro i j hi hj hij e
  obtain ⟨c, e1, _⟩ := h i _ (List.getElem?_eq_getElem hi)
  obtain ⟨d, e2, _⟩ := h j _ (List.getElem?_eq_getElem hj)
  rw [e1, e2] at e
  rcases hm with rfl | rfl | rfl | rfl | rfl <;> omega
set_option maxHeartbeats 2000000 in
theorem ok_digits {f fT : Addr} {fd fdT : FuncData} (F : Fun K "_law_digits" "_law_digits" sDigits f fd) (FT : Fun K "_law_take" "_law_take" sTake fT fdT) (gT : mg "_law_take" = some (.ref fT)) (bT : Binds K fdT ["_law_box_here", "_law_many"] [])
    (mi : mg "int" = none) (ml : mg "len" = none) (mr : mg "range" = none) (ms : mg "list" = none) (ma : mg "abs" = none) : FnOk P w K mg base CX0 2 f fd ["_law_box_here", "_law_base"] spDigits := by
  have GT : FnOk P w K mg base CX0 1 fT fdT ["_law_box_here", "_law_many"] spTake := ok_take FT mi
  refine F.ok scDi (fun vs H Q E h => ?_) (fun cdv A outer s H vs Q E hr h => ?_)
  · obtain ⟨a, b, n, rfl, _⟩ := h
    rfl
  · obtain ⟨a, b, n, rfl, hB, hn, hb, q⟩ := h
    apply Exists.intro
    apply And.intro
    · apply pss_cons
      · exact ps_par (i := 2) (j := 3) rfl scDi.nd rfl rfl (by decide) rfl rfl (pa_cons (pe_call GT hr (by rfl) gT FT.kp bT .nil pass0 (pa_cons (pv 0) (pa_cons pe_int pa_nil))) (pa_cons (pe_op op_add pe_int (pe_call GT hr (by rfl) gT FT.kp bT .nil pass0 (pa_cons (pv 0) (pa_cons pe_int pa_nil)))) pa_nil)) (by rfl)
      apply pss_cons
      · exact ps_if (pt_cmpR op_eq (pv 2) pe_int (nomark _)) (pss_cons (ps_set (i := 4) scDi.nd rfl (.inl rfl) (pe_op op_sub (pe_call GT hr (by rfl) gT FT.kp bT .nil pass0 (pa_cons (pv 0) (pa_cons pe_int pa_nil))) pe_int))
          (pss_one (ps_ret (pe_listRg rfl (by rfl) ms (prg_2 (by rfl) mr (pv 4) (pe_op op_add (pv 4) (pv 3))))))) pss_nil
      apply pss_cons
      · exact ps_if (pt_cmpR op_eq (pv 2) pe_int (nomark _)) (pss_cons (ps_setLc (i := 5) (own := [("_law_k", 7)]) (g := gName 7) (tt := tYes) rfl scDi.nd rfl rfl (sw_true rfl rfl rfl (by decide +kernel)) (pi_range1 rfl mr (pa_cons (pe_callB call_abs (by rfl) ma (by decide +kernel) (pa_cons (pv 1) pa_nil)) pa_nil))
              (blkOk_by (own := [("_law_k", 7)]) (N := nDi) (sc := defScope sDigits) (by decide +kernel)) (fun _ _ _ _ _ => pg_name (i := 7) scDi.nd rfl (Or.inl rfl)) (fun _ _ _ _ _ => pts_nil)
              (fun _ _ _ _ _ => by exact (pe_op op_add (pv 7) (pe_op op_mul (pe_callB call_abs (by rfl) ma (by decide +kernel) (pa_cons (pv 1) pa_nil)) (pe_op op_sub (pe_call GT hr (by rfl) gT FT.kp bT .nil pass0 (pa_cons (pv 0) (pa_cons pe_int pa_nil))) pe_int)))))
          (pss_one (ps_ret (pe_lc (own := [("_law_digit", 8)]) (g := gName 8) (tt := tYes) rfl scDi.nd (pi_list (pv 5)) (blkOk_by (own := [("_law_digit", 8)]) (N := nDi) (sc := defScope sDigits) (by decide +kernel)) (fun _ _ _ _ _ => pg_name (i := 8) scDi.nd rfl (Or.inl rfl)) (fun _ _ _ _ _ => pts_nil)
              (fun _ _ _ _ _ => by exact (pe_op op_sub (pv 8) (pe_op op_mul (pe_callB call_abs (by rfl) ma (by decide +kernel) (pa_cons (pv 1) pa_nil)) (pe_callTy call_int1 (by rfl) mi PyProof.Rows.boot_int (pa_cons (pe_cmpR op_gt (pv 8) pe_int (nomark _)) pa_nil)))))))) ) pss_nil
      apply pss_cons
      · exact ps_set (i := 6) scDi.nd rfl (.inr rfl) (pe_listRg rfl (by rfl) ms (prg_2 (by rfl) mr (pe_un un_neg pe_int) pe_int))
      apply pss_one
      · exact ps_ret (pe_lc (own := [("_law_k", 7)]) (g := gName 7) (tt := tYes) (te := tBM K "list" rPopAt (tVar 6) (tCons (tCall spTake [] E0 (tCons (tVar 0) (tCons (tCB (rLenS K) (tCons (tVar 6) tNil)) tNil))) tNil)) rfl scDi.nd (pi_range1 rfl mr (pa_cons (pv 3) pa_nil))
        (blkOk_by (own := [("_law_k", 7)]) (N := nDi) (sc := defScope sDigits) (by decide +kernel)) (fun _ _ _ _ _ => pg_name (i := 7) scDi.nd rfl (Or.inl rfl)) (fun _ _ _ _ _ => pts_nil)
        (fun _ _ _ _ _ => by exact (pe_bm PySem.F.plainAttrs_list PySem.F.slot_list_pop PySem.F.type_list_pop mt_popAt (pv 6)
          (pa_cons (pe_call GT hr (by rfl) gT FT.kp bT .nil pass0 (pa_cons (pv 0) (pa_cons (pe_callB call_len_seq (by rfl) ml PySem.boot_len (pa_cons (pv 6) pa_nil)) pa_nil))) pa_nil))))
    refine ⟨.ref a, rfl, a, 4, n, rfl, hB, by omega, by decide, by decide, fun wy H1 w0 w1 t1 B1 => ?_⟩
    refine ⟨.ref a, rfl, a, 6, n + 1, rfl, B1, by omega, by decide, by decide, fun mm H2 m0 m1 t2 B2 => ?_⟩
    have T2 := t1.trans t2
    refine ⟨1, mm, rfl, rfl, .int wy, .int (1 + mm), rfl, ?_⟩
    refine ⟨.int wy, rfl, rfl, _, rfl, ite2 (fun c => ?_) (fun c => ?_)⟩
    · refine ⟨.ref a, rfl, a, 4, n + 1 + 1, rfl, B2, by omega, by decide, by decide, fun r H3 r0 r1 t3 B3 => ?_⟩
      refine ⟨r, 3, rfl, rfl, .int (r - 3), rfl, .int (r - 3), rfl, .int (1 + mm), rfl, r - 3, 1 + mm, rfl, rfl, r - 3, r - 3 + (1 + mm), rfl, rfl, ⟨by omega, by omega, by omega, by omega, by omega⟩, fun D hD => ?_⟩
      have nDa := B3.ne hD
      have hD0 : H D = none := (T2.trans t3).free_ nDa hD
      refine q D ((List.range (r - 3 + (1 + mm) - (r - 3)).toNat).map fun (i : Nat) => (r - 3) + (i : Int)) _ hD0 ((T2.trans t3).trans (But.new hD)) ((B3.new hD).mono (by omega)) ?_ (rg_nodup _ _) ?_ ?_ fun k hk => ?_
      · rw [upd_same, rg_ints]
      · rw [List.length_map, List.length_range]
        omega
      · rw [List.length_map, List.length_range]
        omega
      · obtain ⟨i, hi, rfl⟩ := List.mem_map.mp hk
        have := List.mem_range.mp hi
        exact dig_of (by omega) (by omega)
    · refine ⟨.int wy, rfl, rfl, _, rfl, ite2 (fun c1 => ?_) (fun c1 => ?_)⟩
      · have hm := mA_cases hb
        refine ⟨.int b, rfl, b, rfl, mA b, rfl, by omega, by omega, fun D hD => ?_⟩
        have nDa := B2.ne hD
        refine lc_range (lo := 0) (n := (mA b).toNat) (fun i H' => But a H2 H' ∧ Box (n + 2 + i) H' a ∧ ∃ ws : List Int, H' D = some (.lst (ws.map V.int)) ∧ ws.length = i ∧ Spread (mA b) ws (-1) 1) ⟨But.new hD, (B2.new hD).mono (by omega), [], upd_same, rfl, fun j v e => by simp at e⟩ ?_ ?_
        · rintro i H' hi ⟨t, B, ws, eD, lw, hs⟩
          refine ⟨rfl, tYes_if ⟨.int (0 + i), rfl, .int b, rfl, b, rfl, .ref a, rfl, a, 3, n + 2 + i, rfl, B, by omega, by decide, by decide, fun r H3 r0 r1 t3 B3 => ?_⟩⟩
          refine ⟨r, 1, rfl, rfl, mA b, r - 1, rfl, rfl, .inl ⟨by omega, by omega⟩, 0 + i, mA b * (r - 1), rfl, rfl, _, t3 _ _ nDa eD, ?_, (t.trans t3).store hD, (B3.upd nDa).mono (by omega), ws ++ [(ws.length : Int) + mA b * (r - 1)], ?_, ?_, spread_push hs (by omega) (by omega)⟩
          · rw [List.length_map, lw]
            exact small1000 (by omega)
          · rw [upd_same, List.map_append, lw, Int.zero_add]
            rfl
          · rw [List.length_append, lw]
            rfl
        · rintro H3 ⟨t, B, ws, eD, lw, hs⟩
          refine ⟨.ref D, rfl, D, rfl, ⟨_, SqL.of eD⟩, fun D2 hD2 => ?_⟩
          have nD2a := B.ne hD2
          have hD20 : H D2 = none := (T2.trans t).free_ nD2a hD2
          refine lc_list (K := K) (a := D) (xs := ws.map V.int) (fun i H' => Same H3 H' ∧ ∃ ms : List Int, H' D2 = some (.lst (ms.map V.int)) ∧ ms.length = i ∧ Spread (mA b) ms (-2) 1 ∧ ∀ k ∈ ms, dig k = true) ⟨same_new hD2, [], upd_same, rfl, (fun j v e => by simp at e), fun k h => by cases h⟩ (fun i H' _ h => SqL.of (h.1 _ _ eD)) ?_ ?_
          · rintro i x H' hx ⟨s3, ms, e2, lm, sp, dg⟩
            obtain ⟨v, hv, rfl⟩ := get_map hx
            obtain ⟨c0, ev, c1', c2'⟩ := hs i v hv
            have hi : i < ws.length := (List.getElem?_eq_some_iff.mp hv).1
            have key : ∃ cc : Int, v - mA b * (if (decide ((9 : Int) < v)) = true then 1 else 0) = (i : Int) + mA b * cc ∧ -2 ≤ cc ∧ cc ≤ 1 ∧ -9 ≤ (i : Int) + mA b * cc ∧ (i : Int) + mA b * cc ≤ 9 := by
              by_cases h9 : (9 : Int) < v
              · rw [decide_eq_true h9, if_pos rfl]
                refine ⟨c0 - 1, ?_, by omega, by omega, ?_, ?_⟩ <;> rcases hm with e | e | e | e | e <;> rw [e] at ev lw ⊢ <;> omega
              · rw [decide_eq_false h9, if_neg (by decide)]
                refine ⟨c0, ?_, by omega, by omega, ?_, ?_⟩ <;> rcases hm with e | e | e | e | e <;> rw [e] at ev lw ⊢ <;> omega
            obtain ⟨cc, ek, k1, k2, k3, k4⟩ := key
            refine ⟨rfl, tYes_if ⟨.int v, rfl, .int b, rfl, b, rfl, .int v, rfl, v, 9, rfl, rfl, .inr ⟨_, rfl, mA b, (if (decide ((9 : Int) < v)) = true then 1 else 0), rfl, rfl, .inl ⟨by omega, by omega⟩, v, mA b * (if (decide ((9 : Int) < v)) = true then 1 else 0), rfl, rfl, _, e2, ?_, Same.store s3 hD2, ms ++ [(ms.length : Int) + mA b * cc], ?_, ?_, spread_push sp k1 k2, fun k hk => ?_⟩⟩⟩
            · rw [List.length_map, lm]
              exact small1000 (by omega)
            · rw [upd_same, List.map_append, lm, ← ek]
              rfl
            · rw [List.length_append, lm]
              rfl
            · rcases List.mem_append.mp hk with z | z
              · exact dg k z
              · cases List.mem_singleton.mp z
                rw [lm]
                exact dig_of k3 k4
          · rintro H4 ⟨s4, ms, e2, lm, sp, dg⟩
            rw [List.length_map] at lm
            refine q D2 ms H4 hD20 ((T2.trans t).trans (But.of_same s4)) ((B.same s4).mono (by omega)) e2 (spread_nodup sp hm (by omega)) (by omega) (by omega) dg
      · refine ⟨9, rfl, -9, 10, rfl, rfl, ⟨by decide, by decide, by decide, by decide, by decide⟩, fun l hl => ?_⟩
        have nla := B2.ne hl
        have hl0 : H l = none := T2.free_ nla hl
        have el : (upd H2 l (.lst (rgV (-9) 10))) l = some (.lst (((List.range 19).map fun (i : Nat) => (-9 : Int) + (i : Int)).map V.int)) := by
          rw [upd_same, rg_ints]
          rfl
        have tn : But a H2 (upd H2 l (.lst (rgV (-9) 10))) := But.new hl
        have Bn : Box (n + 2) (upd H2 l (.lst (rgV (-9) 10))) a := (B2.new hl).mono (by omega)
        have nfull : ((List.range 19).map fun (i : Nat) => (-9 : Int) + (i : Int)).Nodup := rg_nodup _ _
        have dfull : ∀ k ∈ ((List.range 19).map fun (i : Nat) => (-9 : Int) + (i : Int)), dig k = true := by decide +kernel
        have lfull : ((List.range 19).map fun (i : Nat) => (-9 : Int) + (i : Int)).length = 19 := by decide +kernel
        generalize ((List.range 19).map fun (i : Nat) => (-9 : Int) + (i : Int)) = full at el nfull dfull lfull
        generalize upd H2 l (.lst (rgV (-9) 10)) = H3 at el tn Bn ⊢
        refine ⟨.int (1 + mm), rfl, 1 + mm, rfl, by omega, by omega, fun D hD => ?_⟩
        have hDl : D ≠ l := fun e => by rw [e, el] at hD; cases hD
        have nDa := Bn.ne hD
        have hD0 : H D = none := (T2.trans tn).free_ nDa hD
        refine lc_range (lo := 0) (n := (1 + mm).toNat) (fun i H' => But a H H' ∧ Box (n + 2 + i) H' a ∧ ∃ ls acc : List Int, H' l = some (.lst (ls.map V.int)) ∧ H' D = some (.lst (acc.map V.int)) ∧ acc.length = i ∧ (acc ++ ls).Perm full) ?_ ?_ ?_
        · exact ⟨(T2.trans tn).trans (But.new hD), (Bn.new hD).mono (by omega), full, [], by rw [upd_ne hDl.symm]; exact el, upd_same, rfl, List.Perm.refl _⟩
        · rintro i H' hi ⟨t, B, ls, acc, el2, ea, la, pm⟩
          have ll : ls.length + i = 19 := by
            have := pm.length_eq
            rw [List.length_append, lfull] at this
            omega
          refine ⟨rfl, tYes_if ?_⟩
          refine ⟨.ref l, rfl, .inl ⟨rfl, _, SqL.of el2⟩, .ref a, rfl, .ref l, rfl, l, _, rfl, .inl (SqL.of el2), a, ((ls.map V.int).length : Int), n + 2 + i, rfl, B, by omega, by rw [List.length_map]; omega, by rw [List.length_map, Int.natAbs_natCast]; exact Nat.lt_of_le_of_lt (by omega : ls.length ≤ 19) (by decide), fun r H4 r0 r1 t4 B4 => ?_⟩
          rw [List.length_map] at r1
          have e4 : H4 l = some (.lst (ls.map V.int)) := t4 _ _ nla el2
          have hk : r.toNat < ls.length := by omega
          have hk2 : (ls.map V.int)[r.toNat]? = some (.int ls[r.toNat]) := by
            rw [List.getElem?_map, List.getElem?_eq_getElem hk]
            rfl
          refine ⟨l, ls.map V.int, r, r.toNat, .int ls[r.toNat], rfl, rfl, e4, by omega, by omega, (ixN_seq (ixN_in r0 (by rw [List.length_map]; omega))).1, hk2, ?_⟩
          refine ⟨acc.map V.int, ?_, by rw [List.length_map, la]; exact small1000 (by omega), ?_⟩
          · rw [upd_ne hDl]
            exact t4 _ _ nDa ea
          · refine ⟨((t.trans t4).store hl0).store hD0, ((B4.upd nla).upd nDa).mono (by omega), ls.eraseIdx r.toNat, acc ++ [ls[r.toNat]], ?_, ?_, ?_, ?_⟩
            · rw [upd_ne hDl.symm, upd_same, erase_map]
            · rw [upd_same, List.map_append]
              rfl
            · rw [List.length_append, la]
              rfl
            · rw [List.append_assoc]
              exact (List.Perm.append_left acc (erase_perm ls r.toNat hk)).trans pm
        · rintro H' ⟨t, B, ls, acc, el2, ea, la, pm⟩
          have nd : acc.Nodup := (List.nodup_append.mp (pm.nodup_iff.mpr nfull)).1
          refine q D acc H' hD0 t (B.mono (by omega)) ea nd (by omega) (by omega) fun k hk => dfull k (pm.mem_iff.mp (List.mem_append_left _ hk))

/-! ### pairs -/
def spPairs (K : PySem.W.Frag) : Sp := fun vs H Q _ => ∃ (dl : Addr) (ns : List Int), vs = [.ref dl] ∧ SqL K H dl (ns.map V.int) ∧ ns.length ≤ 6 ∧
  ∀ (pl : Addr) (ks : List (Addr × (Int × Int))) (H' : Hp), Same H H' → H pl = none → H' pl = some (.lst (ks.map fun p => V.ref p.1)) → (∀ p ∈ ks, H p.1 = none ∧ H' p.1 = some (.tup [.int p.2.1, .int p.2.2])) → ks.map (·.2) = prod ns → Q (.ref pl) H'
abbrev nPa : List Str := ["_law_digits_here", "_law_found", "_law_left", "_law_right_here"]
theorem scPa : FnScope nPa ["_law_digits_here"] (defScope sPairs) := ⟨rfl, rfl, rfl, by decide +kernel, rfl, by decide +kernel, by decide +kernel⟩
theorem ok_pairs {f : Addr} {fd : FuncData} (F : Fun K "_law_pairs" "_law_pairs" sPairs f fd) : FnOk P w K mg base CX0 1 f fd ["_law_digits_here"] (spPairs K) := by
  refine F.ok scPa (fun vs H Q E h => ?_) (fun cdv A outer s H vs Q E hr h => ?_)
  · obtain ⟨dl, ns, rfl, _⟩ := h
    rfl
  · obtain ⟨dl, ns, rfl, hd, h6, q⟩ := h
    apply Exists.intro
    apply And.intro
    · apply pss_cons
      · exact ps_set (i := 1) scPa.nd rfl (.inl rfl) (pe_lst pa_nil)
      apply pss_cons
      · exact ps_for PassesOwn.never rfl (pi_list (pv 0)) (pg_name (i := 2) scPa.nd rfl (.inr rfl))
          (pss_one (ps_set (i := 1) scPa.nd rfl (.inl rfl) (pe_op op_cat (pv 1) (pe_lc (own := [("_law_right_here", 3)]) (g := gName 3) (tt := tYes) rfl scPa.nd (pi_list (pv 0)) (blkOk_by (own := [("_law_right_here", 3)]) (N := nPa) (sc := defScope sPairs) (by decide +kernel)) (fun _ _ _ _ _ => pg_name (i := 3) scPa.nd rfl (Or.inl rfl)) (fun _ _ _ _ _ => pts_nil)
            (fun _ _ _ _ _ => by exact (pe_tup (pa_cons (pv 2) (pa_cons (pv 3) pa_nil))))))))
      apply pss_one
      · exact ps_ret (pv 1)
    refine ⟨(by show 0 ≤ sizeLine; decide), fun p0 hp0 => ?_⟩
    have s0 := same_new (o := .lst []) hp0
    refine ⟨.ref dl, rfl, dl, rfl, ⟨_, s0.seq hd⟩, for_list (K := K) (a := dl) (xs := ns.map V.int) (fun i σ H' => ∃ (p : Addr) (v : Option V) (ks : List (Addr × (Int × Int))), σ = [some (.ref dl), some (.ref p), v, none] ∧ Same H H' ∧ H p = none ∧ H' p = some (.lst (ks.map fun p => V.ref p.1)) ∧ (∀ p ∈ ks, H p.1 = none ∧ H' p.1 = some (.tup [.int p.2.1, .int p.2.2])) ∧ ks.map (·.2) = (ns.take i).flatMap fun x => ns.map fun y => (x, y))
      ⟨p0, none, [], rfl, s0, hp0, upd_same, (fun p h => by cases h), rfl⟩ (fun i σ H' _ h => by obtain ⟨_, _, _, _, s, _⟩ := h; exact s.seq hd) ?_ ?_⟩
    · rintro i x σ H1 hx ⟨p, v, ks, rfl, s1, hp, ep, ek, em⟩
      obtain ⟨n, hn, rfl⟩ := get_map hx
      have hlk : ks.length ≤ 36 := by
        have e := congrArg List.length em
        rw [List.length_map, flat_len] at e
        have h1 : (ns.take i).length ≤ 6 := Nat.le_trans (List.length_take_le' _ _) h6
        rw [e]
        exact Nat.le_trans (Nat.mul_le_mul h1 h6) (by decide)
      refine ⟨.ref p, rfl, .ref dl, rfl, dl, rfl, ⟨_, s1.seq hd⟩, fun D hD => ?_⟩
      refine lc_list (K := K) (a := dl) (xs := ns.map V.int) (fun j H' => Same H1 H' ∧ ∃ kk : List (Addr × (Int × Int)), H' D = some (.lst (kk.map fun p => V.ref p.1)) ∧ kk.length = j ∧ (∀ p ∈ kk, H1 p.1 = none ∧ H' p.1 = some (.tup [.int p.2.1, .int p.2.2])) ∧ kk.map (·.2) = (ns.take j).map fun y => (n, y)) ⟨same_new hD, [], upd_same, rfl, (fun p h => by cases h), rfl⟩ (fun j H' _ h => (s1.trans h.1).seq hd) ?_ ?_
      · rintro j y H2 hy ⟨s2, kk, eD, lk, ekk, emk⟩
        obtain ⟨m, hm, rfl⟩ := get_map hy
        have hj : j < ns.length := (List.getElem?_eq_some_iff.mp hm).1
        refine ⟨rfl, tYes_if ⟨.int n, rfl, .int m, rfl, (by show 2 ≤ sizeLine; decide), fun T hT => ?_⟩⟩
        have s3 := same_new (o := .tup [.int n, .int m]) hT
        have hT1 : H1 T = none := s2.free hT
        refine ⟨kk.map (fun p => V.ref p.1), s3 _ _ eD, ?_, Same.store (s2.trans s3) hD, kk ++ [(T, (n, m))], ?_, ?_, fun p hp => ?_, ?_⟩
        · rw [List.length_map, lk]
          exact small1000 (by omega)
        · rw [upd_same, List.map_append]
          rfl
        · rw [List.length_append, lk]
          rfl
        · have nTD : p.1 = T → p.1 ≠ D := fun e z => by
            have h1 := s3 _ _ eD
            rw [← z, e, upd_same] at h1
            cases h1
          rcases List.mem_append.mp hp with h | h
          · obtain ⟨h1, h2⟩ := ekk p h
            refine ⟨h1, ?_⟩
            have h3 := s3 _ _ h2
            rw [upd_ne (fun z => by rw [z] at h2; rw [eD] at h2; cases h2)]
            exact h3
          · cases List.mem_singleton.mp h
            refine ⟨hT1, ?_⟩
            rw [upd_ne (nTD rfl)]
            exact upd_same
        · rw [List.map_append, take_more hm, List.map_append, emk]
          rfl
      · rintro H2 ⟨s2, kk, eD, lk, ekk, emk⟩
        rw [List.length_map] at lk emk
        rw [List.take_length] at emk
        have ep2 := s2 _ _ ep
        refine ⟨p, D, _, _, rfl, rfl, ep2, eD, ?_, fun p3 hp3 => ?_⟩
        · rw [List.length_map, List.length_map, sizeLine_eq]
          omega
        have s4 := same_new (o := .lst ((ks.map fun p => V.ref p.1) ++ kk.map fun p => V.ref p.1)) hp3
        have s14 := s1.trans (s2.trans s4)
        refine ⟨p3, some (.int n), ks ++ kk, rfl, s14, (s1.trans s2).free hp3, ?_, fun r hr2 => ?_, ?_⟩
        · rw [upd_same, List.map_append]
        · rcases List.mem_append.mp hr2 with h | h
          · exact ⟨(ek r h).1, (s2.trans s4) _ _ (ek r h).2⟩
          · exact ⟨s1.free (ekk r h).1, s4 _ _ (ekk r h).2⟩
        · rw [List.map_append, em, emk, take_more hn, List.flatMap_append]
          simp only [List.flatMap_cons, List.flatMap_nil, List.append_nil]
    · rintro σ H1 ⟨p, v, ks, rfl, s1, hp, ep, ek, em⟩
      rw [List.length_map, List.take_length] at em
      exact ⟨_, rfl, q p ks H1 s1 hp ep ek em⟩

/-! ### a scheme's parts, drawn -/
def spScheme : Sp := fun vs H Q _ => ∃ (a : Addr) (n : Int), vs = [.ref a] ∧ Box n H a ∧ n ≤ 700000 ∧
  ∀ (m : Addr) (b : Int) (ns : List Int) (ps : List (Int × Int)) (H' : Hp), But a H H' → Box (n + 100) H' a → Good b ns ps → Model a H' m b ns ps → Q (.ref m) H'
abbrev nSc : List Str := ["_law_box_here", "_law_base", "_law_digits_here", "_law_way", "_law_pairs_here", "_law_pair"]
theorem scSc : FnScope nSc ["_law_box_here"] (defScope sScheme) := ⟨rfl, rfl, rfl, by decide +kernel, rfl, by decide +kernel, by decide +kernel⟩
theorem bases_ok : ∀ b ∈ ([2, -2, 3, -3, 2, -4, 4, 5, -5, 6, -6] : List Int), isBase b = true := by decide
theorem strict_of {ns : List Int} (h : ns.Pairwise (· ≤ ·)) (nd : ns.Nodup) : ns.Pairwise (· < ·) := by
  rw [List.nodup_iff_pairwise_ne] at nd
  exact (h.and nd).imp fun ⟨h1, h2⟩ => by omega
theorem good_of {b : Int} {ns : List Int} {ps : List (Int × Int)} (hb : isBase b = true) (asc : ns.Pairwise (· < ·)) (h1 : 1 ≤ ns.length) (h6 : ns.length ≤ 6) (dg : ∀ n ∈ ns, dig n = true) (sub : ps.Sublist (prod ns)) : Good b ns ps := by
  refine ⟨hb, asc, h1, h6, dg, fun p hp => prod_mem (sub.subset hp), (prod_aux asc asc).sublist sub, ?_⟩
  have e : (prod ns).length = ns.length * ns.length := flat_len ns
  exact Nat.le_trans sub.length_le (by rw [e]; exact Nat.le_trans (Nat.mul_le_mul h6 h6) (by decide))
set_option maxHeartbeats 2000000 in
theorem ok_scheme {f fT fD fP : Addr} {fd fdT fdD fdP : FuncData} (F : Fun K "_law_scheme" "_law_scheme" sScheme f fd) (FT : Fun K "_law_take" "_law_take" sTake fT fdT) (gT : mg "_law_take" = some (.ref fT)) (bT : Binds K fdT ["_law_box_here", "_law_many"] [])
    (GD : FnOk P w K mg base CX0 2 fD fdD ["_law_box_here", "_law_base"] spDigits) (gD : mg "_law_digits" = some (.ref fD)) (kD : PySem.W.keepIn K (.ref fD) = true) (bD : Binds K fdD ["_law_box_here", "_law_base"] [])
    (GP : FnOk P w K mg base CX0 1 fP fdP ["_law_digits_here"] (spPairs K)) (gP : mg "_law_pairs" = some (.ref fP)) (kP : PySem.W.keepIn K (.ref fP) = true) (bP : Binds K fdP ["_law_digits_here"] [])
    (mi : mg "int" = none) (mso : mg "sorted" = none) : FnOk P w K mg base CX0 3 f fd ["_law_box_here"] spScheme := by
  have GT : FnOk P w K mg base CX0 1 fT fdT ["_law_box_here", "_law_many"] spTake := ok_take FT mi
  refine F.ok scSc (fun vs H Q E h => ?_) (fun cdv A outer s H vs Q E hr2 h => ?_)
  · obtain ⟨a, n, rfl, _⟩ := h
    rfl
  · obtain ⟨a, n, rfl, hB, hn, q⟩ := h
    have hr : Room 1 _ := hr2.mono (by decide)
    apply Exists.intro
    apply And.intro
    · apply pss_cons
      · exact ps_set (i := 1) scSc.nd rfl (.inl rfl) (pe_ix ix_list (pe_lst (pa_cons pe_int (pa_cons (pe_un un_neg pe_int) (pa_cons pe_int (pa_cons (pe_un un_neg pe_int) (pa_cons pe_int (pa_cons (pe_un un_neg pe_int) (pa_cons pe_int (pa_cons pe_int (pa_cons (pe_un un_neg pe_int) (pa_cons pe_int (pa_cons (pe_un un_neg pe_int) pa_nil))))))))))))
          (pe_call GT hr (by rfl) gT FT.kp bT .nil pass0 (pa_cons (pv 0) (pa_cons pe_int pa_nil))) (fun _ _ => rfl))
      apply pss_cons
      · exact ps_par (i := 2) (j := 3) rfl scSc.nd rfl rfl (by decide) rfl rfl (pa_cons (pe_callB cr_sorted (by rfl) mso (by decide +kernel) (pa_cons (pe_call GD hr2 (by rfl) gD kD bD .nil pass0 (pa_cons (pv 0) (pa_cons (pv 1) pa_nil))) pa_nil)) (pa_cons (pe_call GT hr (by rfl) gT FT.kp bT .nil pass0 (pa_cons (pv 0) (pa_cons pe_int pa_nil))) pa_nil)) (by rfl)
      apply pss_cons
      · exact ps_set (i := 4) scSc.nd rfl (.inl rfl) (pe_call GP hr (by rfl) gP kP bP .nil pass0 (pa_cons (pv 2) pa_nil))
      apply pss_cons
      · exact ps_if (pt_cmpR op_eq (pv 3) pe_int (nomark _)) (pss_one (ps_ret (pe_lst (pa_cons (pv 1) (pa_cons (pv 2) (pa_cons (pe_lst pa_nil) pa_nil)))))) pss_nil
      apply pss_cons
      · exact ps_if (pt_cmpR op_eq (pv 3) pe_int (nomark _)) (pss_one (ps_ret (pe_lst (pa_cons (pv 1) (pa_cons (pv 2) (pa_cons (pe_lc (own := [("_law_pair", 5)]) (g := gName 5)
            (tt := tAnd (tTest (tOp rNe (tOp (rIxT K) (tVar 5) (tC (.int 0))) (tC (.int 0)))) (tTest (tOp rNe (tOp (rIxT K) (tVar 5) (tC (.int 1))) (tC (.int 0))))) (te := tVar 5) rfl scSc.nd (pi_list (pv 4)) (blkOk_by (own := [("_law_pair", 5)]) (N := nSc) (sc := defScope sScheme) (by decide +kernel)) (fun _ _ _ _ _ => pg_name (i := 5) scSc.nd rfl (Or.inl rfl))
            (fun _ _ _ _ _ => by exact (pts_one (PW.pt (pw_and (pt_cmpR op_ne (pe_ix ix_tup (pv 5) pe_int (fun _ _ => rfl)) pe_int (nomark _)) (pw_and1 (pt_cmpR op_ne (pe_ix ix_tup (pv 5) pe_int (fun _ _ => rfl)) pe_int (nomark _))))))) (fun _ _ _ _ _ => by exact (pv 5))) pa_nil)))))) pss_nil
      apply pss_cons
      · exact ps_if (pt_cmpR op_eq (pv 3) pe_int (nomark _)) (pss_one (ps_ret (pe_lst (pa_cons (pv 1) (pa_cons (pv 2) (pa_cons (pe_lc (own := [("_law_pair", 5)]) (g := gName 5)
            (tt := tTest (tOp rEq (tOp (rIxT K) (tVar 5) (tC (.int 0))) (tOp (rIxT K) (tVar 5) (tC (.int 1))))) (te := tVar 5) rfl scSc.nd (pi_list (pv 4)) (blkOk_by (own := [("_law_pair", 5)]) (N := nSc) (sc := defScope sScheme) (by decide +kernel)) (fun _ _ _ _ _ => pg_name (i := 5) scSc.nd rfl (Or.inl rfl))
            (fun _ _ _ _ _ => by exact (pts_one (pt_cmpR op_eq (pe_ix ix_tup (pv 5) pe_int (fun _ _ => rfl)) (pe_ix ix_tup (pv 5) pe_int (fun _ _ => rfl)) (nomark _)))) (fun _ _ _ _ _ => by exact (pv 5))) pa_nil)))))) pss_nil
      apply pss_one
      · exact ps_ret (pe_lst (pa_cons (pv 1) (pa_cons (pv 2) (pa_cons (pe_lc (own := [("_law_pair", 5)]) (g := gName 5)
            (tt := tTest (tOp rEq (tCall spTake [] E0 (tCons (tVar 0) (tCons (tC (.int 4)) tNil))) (tC (.int 0)))) (te := tVar 5) rfl scSc.nd (pi_list (pv 4)) (blkOk_by (own := [("_law_pair", 5)]) (N := nSc) (sc := defScope sScheme) (by decide +kernel)) (fun _ _ _ _ _ => pg_name (i := 5) scSc.nd rfl (Or.inl rfl))
            (fun _ _ _ _ _ => by exact (pts_one (pt_cmpR op_eq (pe_call GT hr (by rfl) gT FT.kp bT .nil pass0 (pa_cons (pv 0) (pa_cons pe_int pa_nil))) pe_int (nomark _)))) (fun _ _ _ _ _ => by exact (pv 5))) pa_nil))))
    -- the base
    refine ⟨2, rfl, 3, rfl, 4, rfl, 5, rfl, 6, rfl, (by show 11 ≤ sizeLine; decide), fun l0 hl0 => ?_⟩
    have n0 := hB.ne hl0
    refine ⟨.ref a, rfl, a, 11, n, rfl, hB.new hl0, by omega, by decide, by decide, fun r H1 r0 r1 t1 B1 => ?_⟩
    have e0 := t1 _ _ n0 upd_same
    obtain ⟨v, hv, mv⟩ := pick (xs := ([2, -2, 3, -3, 2, -4, 4, 5, -5, 6, -6] : List Int).map V.int) r0 r1
    obtain ⟨b, mb, rfl⟩ := List.mem_map.mp mv
    have hb := bases_ok b mb
    refine ⟨l0, _, r, .int b, rfl, rfl, SqL.of e0, hv, ?_⟩
    have T1 : But a H H1 := (But.new hl0).trans t1
    clear e0 hv mv mb
    -- the digits
    refine ⟨.ref a, rfl, .int b, rfl, a, b, n + 1, rfl, B1, by omega, hb, fun D ns H2 hD t2 B2 eD nd l1 l6 dg => ?_⟩
    refine ⟨D, ns, rfl, SqL.of eD, by omega, fun ns' dl pm srt hdl => ?_⟩
    have ndl := B2.ne hdl
    have asc := strict_of srt (pm.nodup_iff.mpr nd)
    have dg' : ∀ k ∈ ns', dig k = true := fun k hk => dg k (pm.mem_iff.mp hk)
    have l1' : 1 ≤ ns'.length := by rw [pm.length_eq]; exact l1
    have l6' : ns'.length ≤ 6 := by rw [pm.length_eq]; exact l6
    have T2 : But a H (upd H2 dl (.lst (ns'.map V.int))) := (T1.trans t2).trans (But.new hdl)
    refine ⟨.ref a, rfl, a, 4, n + 1 + 30, rfl, B2.new hdl, by omega, by decide, by decide, fun wy H3 w0 w1 t3 B3 => ?_⟩
    have ed := t3 _ _ ndl upd_same
    have T3 := T2.trans t3
    clear pm srt nd dg l1 l6 eD
    refine ⟨.ref dl, .int wy, rfl, ?_⟩
    -- the pairs
    refine ⟨.ref dl, rfl, dl, ns', rfl, SqL.of ed, l6', fun pl ks H4 s4 npl epl ek em => ?_⟩
    have B4 := B3.same s4
    have T4 := T3.trans (But.of_same s4)
    have ed4 := s4 _ _ ed
    have pair : ∀ p ∈ ks, p.1 ≠ a := fun p hp z => by
      obtain ⟨b0, b1, b2, hb0, _⟩ := B3
      have := (ek p hp).1
      rw [z, hb0] at this
      cases this
    have fin : ∀ (H5 : Hp) (fl : Addr) (kk : List (Addr × (Int × Int))) (mo : Addr), But a H4 H5 → Box (n + 90) H5 a → fl ≠ a → H5 fl = some (.lst (kk.map fun p => V.ref p.1)) → kk.Sublist ks → H5 mo = none → Q (.ref mo) (upd H5 mo (.lst [.int b, .ref dl, .ref fl])) := by
      intro H5 fl kk mo t5 B5 nfl efl sub hmo
      have nmo := B5.ne hmo
      have ed5 := t5 _ _ ndl ed4
      have ek5 : ∀ p ∈ kk, H5 p.1 = some (.tup [.int p.2.1, .int p.2.2]) := fun p hp => t5 _ _ (pair p (sub.subset hp)) (ek p (sub.subset hp)).2
      have sub2 : (kk.map (·.2)).Sublist (prod ns') := em ▸ sub.map (·.2)
      refine q mo b ns' (kk.map (·.2)) _ ((T4.trans t5).trans (But.new hmo)) ((B5.new hmo).mono (by omega)) (good_of hb asc l1' l6' dg' sub2) ⟨dl, fl, kk, rfl, fun H6 t6 => ⟨t6 _ _ nmo upd_same, t6 _ _ ndl (same_new hmo _ _ ed5), t6 _ _ nfl (same_new hmo _ _ efl), fun p hp => t6 _ _ (pair p (sub.subset hp)) (same_new hmo _ _ (ek5 p hp))⟩⟩
    have lks : ks.length ≤ 36 := by
      have e := congrArg List.length em
      rw [List.length_map] at e
      have e2 : (prod ns').length = ns'.length * ns'.length := flat_len ns'
      rw [e, e2]
      exact Nat.le_trans (Nat.mul_le_mul l6' l6') (by decide)
    have sub_more : ∀ {i : Nat} {p : Addr × (Int × Int)} {kk : List (Addr × (Int × Int))}, ks[i]? = some p → kk.Sublist (ks.take i) → (kk ++ [p]).Sublist (ks.take (i + 1)) ∧ kk.Sublist (ks.take (i + 1)) := fun {i p kk} hp hs => by
      rw [take_more hp]
      exact ⟨List.Sublist.append hs (List.Sublist.refl _), hs.trans (List.sublist_append_left _ _)⟩
    have small : ∀ {i : Nat} {kk : List (Addr × (Int × Int))}, kk.Sublist (ks.take i) → (kk.map fun p => V.ref p.1).length < sizeLine := fun {i kk} hs => by
      rw [List.length_map]
      have := hs.length_le
      have h2 : (ks.take i).length ≤ ks.length := List.length_take_le' _ _
      exact small1000 (by omega)
    refine ⟨.int wy, rfl, rfl, _, rfl, ite2 (fun c => ?_) (fun c => ?_)⟩
    · refine ⟨.int b, rfl, .ref dl, rfl, (by show 0 ≤ sizeLine; decide), fun fl hfl => ⟨(by show 3 ≤ sizeLine; decide), fun mo hmo => ?_⟩⟩
      exact fin _ fl [] mo (But.new hfl) ((B4.new hfl).mono (by omega)) (B4.ne hfl) upd_same (List.nil_sublist _) hmo
    · refine ⟨.int wy, rfl, rfl, _, rfl, ite2 (fun c1 => ?_) (fun c1 => ?_)⟩
      · refine ⟨.int b, rfl, .ref dl, rfl, .ref pl, rfl, pl, rfl, ⟨_, SqL.of epl⟩, fun D2 hD2 => ?_⟩
        have nD2 := B4.ne hD2
        refine lc_list (K := K) (a := pl) (xs := ks.map fun p => V.ref p.1) (fun i H' => Same H4 H' ∧ ∃ kk, H' D2 = some (.lst (kk.map fun p => V.ref p.1)) ∧ kk.Sublist (ks.take i)) ⟨same_new hD2, [], upd_same, List.nil_sublist _⟩ (fun i H' _ h => SqL.of (h.1 _ _ epl)) ?_ ?_
        · rintro i x H' hx ⟨s5, kk, e5, sub⟩
          obtain ⟨p, hp, rfl⟩ := get_map hx
          have tp := s5 _ _ (ek p (List.mem_of_getElem? hp)).2
          have more := sub_more hp sub
          refine ⟨rfl, .ref p.1, rfl, p.1, _, 0, .int p.2.1, rfl, rfl, SqT.of tp, atI_nat (j := 0) rfl, rfl, _, rfl, ite2 (fun z => ?_) (fun z => ?_)⟩
          · refine ⟨.ref p.1, rfl, p.1, _, 1, .int p.2.2, rfl, rfl, SqT.of tp, atI_nat (j := 1) rfl, rfl, _, rfl, ite2 (fun z2 => ?_) (fun z2 => ?_)⟩
            · exact ⟨.ref p.1, rfl, _, e5, small sub, Same.store s5 hD2, kk ++ [p], by rw [upd_same, List.map_append]; rfl, more.1⟩
            · exact ⟨s5, kk, e5, more.2⟩
          · exact iteF ⟨s5, kk, e5, more.2⟩
        · rintro H' ⟨s5, kk, e5, sub⟩
          refine ⟨(by show 3 ≤ sizeLine; decide), fun mo hmo => fin H' D2 kk mo (But.of_same s5) ((B4.same s5).mono (by omega)) nD2 e5 (sub.trans (List.take_sublist _ _)) hmo⟩
      · refine ⟨.int wy, rfl, rfl, _, rfl, ite2 (fun c2 => ?_) (fun c2 => ?_)⟩
        · refine ⟨.int b, rfl, .ref dl, rfl, .ref pl, rfl, pl, rfl, ⟨_, SqL.of epl⟩, fun D2 hD2 => ?_⟩
          have nD2 := B4.ne hD2
          refine lc_list (K := K) (a := pl) (xs := ks.map fun p => V.ref p.1) (fun i H' => Same H4 H' ∧ ∃ kk, H' D2 = some (.lst (kk.map fun p => V.ref p.1)) ∧ kk.Sublist (ks.take i)) ⟨same_new hD2, [], upd_same, List.nil_sublist _⟩ (fun i H' _ h => SqL.of (h.1 _ _ epl)) ?_ ?_
          · rintro i x H' hx ⟨s5, kk, e5, sub⟩
            obtain ⟨p, hp, rfl⟩ := get_map hx
            have tp := s5 _ _ (ek p (List.mem_of_getElem? hp)).2
            have more := sub_more hp sub
            refine ⟨rfl, .ref p.1, rfl, p.1, _, 0, .int p.2.1, rfl, rfl, SqT.of tp, atI_nat (j := 0) rfl, .ref p.1, rfl, p.1, _, 1, .int p.2.2, rfl, rfl, SqT.of tp, atI_nat (j := 1) rfl, rfl, _, rfl, ite2 (fun z => ?_) (fun z => ?_)⟩
            · exact ⟨.ref p.1, rfl, _, e5, small sub, Same.store s5 hD2, kk ++ [p], by rw [upd_same, List.map_append]; rfl, more.1⟩
            · exact ⟨s5, kk, e5, more.2⟩
          · rintro H' ⟨s5, kk, e5, sub⟩
            refine ⟨(by show 3 ≤ sizeLine; decide), fun mo hmo => fin H' D2 kk mo (But.of_same s5) ((B4.same s5).mono (by omega)) nD2 e5 (sub.trans (List.take_sublist _ _)) hmo⟩
        · refine ⟨.int b, rfl, .ref dl, rfl, .ref pl, rfl, pl, rfl, ⟨_, SqL.of epl⟩, fun D2 hD2 => ?_⟩
          have nD2 := B4.ne hD2
          have npa : pl ≠ a := fun z => by
            obtain ⟨b0, b1, b2, hb0, _⟩ := B3
            rw [z, hb0] at npl
            cases npl
          refine lc_list (K := K) (a := pl) (xs := ks.map fun p => V.ref p.1) (fun i H' => But a H4 H' ∧ Box (n + 32 + i) H' a ∧ ∃ kk, H' D2 = some (.lst (kk.map fun p => V.ref p.1)) ∧ kk.Sublist (ks.take i)) ⟨But.new hD2, (B4.new hD2).mono (by omega), [], upd_same, List.nil_sublist _⟩ (fun i H' _ h => SqL.of (h.1 _ _ npa epl)) ?_ ?_
          · rintro i x H' hx ⟨t5, B5, kk, e5, sub⟩
            obtain ⟨p, hp, rfl⟩ := get_map hx
            have hi : i < ks.length := (List.getElem?_eq_some_iff.mp hp).1
            have more := sub_more hp sub
            refine ⟨rfl, .ref a, rfl, a, 4, n + 32 + i, rfl, B5, by omega, by decide, by decide, fun r2 H6 k0 k1 t6 B6 => ⟨rfl, _, rfl, ite2 (fun z => ?_) (fun z => ?_)⟩⟩
            · exact ⟨.ref p.1, rfl, _, t6 _ _ nD2 e5, small sub, (t5.trans t6).store hD2, (B6.upd nD2).mono (by omega), kk ++ [p], by rw [upd_same, List.map_append]; rfl, more.1⟩
            · exact ⟨t5.trans t6, B6.mono (by omega), kk, t6 _ _ nD2 e5, more.2⟩
          · rintro H' ⟨t5, B5, kk, e5, sub⟩
            rw [List.length_map] at B5
            refine ⟨(by show 3 ≤ sizeLine; decide), fun mo hmo => fin H' D2 kk mo t5 (B5.mono (by omega)) nD2 e5 (sub.trans (List.take_sublist _ _)) hmo⟩
end
end K08
/-! len(o) of an own class with __len__; o == x, x an int or a tuple. -/
namespace OF
open PySem PySem.Spec PyProof.Rows L2
section
variable {X : Cx} {CX : CXT} {n : Nat} {f C : Addr} {fd : FuncData} {ps : List Str} {sp : Sp} {E : XK}
def rLenOwn (C : Addr) (sp : Sp) (E : XK) : List V → Hp → VK → Prop := fun xs H Q => ∃ a dx fs, xs = [.ref a] ∧ H a = some (.ins C dx fs) ∧ sp [.ref a] H (fun z H' => ∃ m : Nat, z = .int m ∧ m < 1000 ∧ Q (.int m) H') E
theorem call_lenOwn (hs : PySem.W.findIn X.K (.ref C) "__len__" = some (some (.ref f))) (hf : PySem.W.isFn X.K (.ref f) = true) (F : FnOk X.prog X.w X.K X.mg X.base CX n f fd ps sp) (hb : Binds X.K fd ps []) (hr : Room (n + 1) X.A) (hx : Passes CX X E) :
    CallR X (.builtin "len") (rLenOwn C sp E) := by
  intro pins s σ H xs us Q I r h
  obtain ⟨a, dx, fs, rfl, ha, q⟩ := h
  obtain ⟨u, rfl, ru⟩ := vals1 r
  cases ru
  obtain ⟨mA, J, _⟩ := ins_get I.hok ha
  obtain ⟨od, J, _⟩ := J.look
  obtain ⟨m, hF⟩ := I.fr
  refine PySem.W.len_K hF I.ok.mod.kin J hs hf ?_
  have bn := hb s [.ref a] I.kIn (F.len _ _ _ _ q)
  refine wpAny_call (codeAny_mono (F.run X.A.in1 X.stack s H ⟨[.ref a], []⟩ [.ref a] [.ref a] _ E hr.in1 I.env0.in1 bn (.cons rfl .nil) q) fun r s' hq => ?_)
  cases r with
  | error e => exact hx pins σ H s e s' I hq
  | ok fl =>
    cases fl with
    | ret u =>
      obtain ⟨z, H', I', rz, k, rfl, hk, q'⟩ := I.after hq
      obtain ⟨t, rfl⟩ := rz
      exact ⟨⟨by omega, by omega⟩, .int k, H', I'.tok _, ⟨_, rfl⟩, q'⟩
    | next => exact hq.elim
    | brk => exact hq.elim
    | cont => exact hq.elim
/-- o == x, x an int or a tuple -/
def rEqOther (C : Addr) (sp : Sp) (E : XK) : R2 := fun x y H Q => ∃ a dx fs, x = .ref a ∧ H a = some (.ins C dx fs) ∧ ((∃ n : Int, y = .int n) ∨ ∃ t ys, y = .ref t ∧ H t = some (.tup ys)) ∧ sp [x, y] H (fun z H' => ∃ b : Bool, z = .bl b ∧ Q z H') E
theorem op_eqOther (hs : PySem.W.findIn X.K (.ref C) "__eq__" = some (some (.ref f))) (hf : PySem.W.isFn X.K (.ref f) = true) (n1 : PySem.W.subIn X.K (.type "int") (.ref C) = some false) (n2 : PySem.W.subIn X.K (.type "tuple") (.ref C) = some false)
    (F : FnOk X.prog X.w X.K X.mg X.base CX n f fd ps sp) (hb : Binds X.K fd ps []) (hr : Room n X.A) (hx : Passes CX X E) : OpR X (compareOp .Eq) (rEqOther C sp E) := by
  intro pins s σ H x y v u Q I rx ry h
  obtain ⟨a, dx, fs, rfl, ha, hy, q⟩ := h
  cases (show v = Value.ref a from rx)
  obtain ⟨mA, J, _⟩ := ins_get I.hok ha
  obtain ⟨od, J, _⟩ := J.look
  obtain ⟨m, hF⟩ := I.fr
  have main : ∀ {tb : Value}, PySem.W.Looks (model X.prog X.w) s.heap (typeOf u) tb → PySem.W.notFirst X.K C tb = true → wpAny (model X.prog X.w) X.A (compareOp .Eq (.ref a) u) (EP X pins σ Q) X.xe s := fun {tb} lk nf => by
    refine PySem.W.cmp_K (op := .Eq) (tb := tb) hr.units0 hF I.ok.mod.kin J lk nf hs hf ?_
    refine wpAny_mono (run_fn (us := [.ref a, u]) (vs := [.ref a, y]) F hr hb .nil hx I (.cons rfl (.cons ry .nil)) q) (fun w s' z => ?_) fun _ _ e => e
    obtain ⟨z', H', I', rz, c, rfl, q'⟩ := z
    cases rz
    exact ⟨.bl c, H', I', rfl, q'⟩
  rcases hy with ⟨k, rfl⟩ | ⟨t, ys, rfl, ht⟩
  · obtain ⟨tk, rfl⟩ := ry
    exact main (tb := .type "int") (PySem.W.Looks.of_pure rfl) (by unfold PySem.W.notFirst; rw [n1]; rfl)
  · cases (show u = Value.ref t from ry)
    obtain ⟨its, _, ⟨o, ho, hc, _⟩, _⟩ := I.tuple (SqT.of ht)
    have lk : PySem.W.Looks (model X.prog X.w) s.heap (typeOf (.ref t)) (.type "tuple") := by
      rw [← hc]
      exact (PySem.W.Looks.ld ho).andThen .now
    exact main lk (by unfold PySem.W.notFirst; rw [n2]; rfl)
end
end OF
/-! -o and str(o) of an own class with __neg__, __str__. -/
namespace OF
open PySem PySem.Spec PyProof.Rows L2
section
variable {X : Cx} {CX : CXT} {n : Nat} {f C : Addr} {fd : FuncData} {ps : List Str} {sp : Sp} {E : XK}
def rNegOwn (C : Addr) (sp : Sp) (E : XK) : V → Hp → VK → Prop := fun x H Q => ∃ a dx fs, x = .ref a ∧ H a = some (.ins C dx fs) ∧ sp [.ref a] H Q E
theorem un_negOwn (hs : PySem.W.findIn X.K (.ref C) "__neg__" = some (some (.ref f))) (hf : PySem.W.isFn X.K (.ref f) = true) (F : FnOk X.prog X.w X.K X.mg X.base CX n f fd ps sp) (hb : Binds X.K fd ps []) (hr : Room n X.A) (hx : Passes CX X E) :
    UnR X (unaryOp .USub) (rNegOwn C sp E) := by
  intro pins s σ H x v Q I rx h
  obtain ⟨a, dx, fs, rfl, ha, q⟩ := h
  cases (show v = Value.ref a from rx)
  obtain ⟨mA, J, _⟩ := ins_get I.hok ha
  obtain ⟨od, J, _⟩ := J.look
  obtain ⟨m, hF⟩ := I.fr
  exact PySem.W.ksp_neg hF I.ok.mod.kin J hs hf (run_fn (us := [.ref a]) (vs := [.ref a]) F hr hb .nil hx I (.cons rfl .nil) q)
def rStrOwn (C : Addr) (sp : Sp) (E : XK) : List V → Hp → VK → Prop := fun xs H Q => ∃ a dx fs, xs = [.ref a] ∧ H a = some (.ins C dx fs) ∧ sp [.ref a] H (fun z H' => ∃ y : Str, z = .str y ∧ Q z H') E
theorem call_strOwn (hs : PySem.W.findIn X.K (.ref C) "__str__" = some (some (.ref f))) (hf : PySem.W.isFn X.K (.ref f) = true) (F : FnOk X.prog X.w X.K X.mg X.base CX n f fd ps sp) (hb : Binds X.K fd ps []) (hr : Room (n + 2) X.A) (hx : Passes CX X E) :
    CallR X (.type "str") (rStrOwn C sp E) := by
  intro pins s σ H xs us Q I r h
  obtain ⟨a, dx, fs, rfl, ha, q⟩ := h
  obtain ⟨u, rfl, ru⟩ := vals1 r
  cases ru
  obtain ⟨mA, J, _⟩ := ins_get I.hok ha
  obtain ⟨od, J, _⟩ := J.look
  obtain ⟨m, hF⟩ := I.fr
  refine PySem.W.kso_call hr.in1.in1.units0 I.kIn J hs hf ?_
  have bn := hb s [.ref a] I.kIn (F.len _ _ _ _ q)
  refine wpAny_call (codeAny_mono (F.run X.A.in1.in1 X.stack s H ⟨[.ref a], []⟩ [.ref a] [.ref a] _ E hr.in1.in1 I.env0.in1.in1 bn (.cons rfl .nil) q) fun r s' hq => ?_)
  cases r with
  | error e => exact hx pins σ H s e s' I hq
  | ok fl =>
    cases fl with
    | ret u =>
      obtain ⟨z, H', I', rz, y, rfl, q'⟩ := I.after hq
      obtain ⟨t, rfl⟩ := rz
      exact ⟨.str y, H', I', ⟨_, rfl⟩, q'⟩
    | next => exact hq.elim
    | brk => exact hq.elim
    | cont => exact hq.elim
end
end OF
namespace K08
open PySem PySem.Spec PyProof.Rows L2 OF
section
variable {P : Program} {w : World} {K : PySem.W.Frag} {mg : Str → Option Value} {base : Heap}
/-! ### what is due -/
inductive Ver
  | base (x : V)
  | dig (x : V)
  | bar (x : V)
  | made (b : Int) (ns : List Int) (ks : List (Addr × List Int))
inductive Due (K : PySem.W.Frag) (H : Hp) : V → V → V → Ver → Prop
  | base {x y z : V} (ix : ItemOk H x) (bx : baseV x = false) : Due K H x y z (.base x)
  | digN {b : Int} {y z : V} (hb : isBase b = true) (n : NoSeq H y) : Due K H (.int b) y z (.dig y)
  | digA {b : Int} {p : Addr} {xs : List V} {z : V} (hb : isBase b = true) (s : IsSeq K H p xs) (it : ∀ v ∈ xs, ItemOk H v) (l : xs.length ≤ 900) (bad : xs.all digV = false) : Due K H (.int b) (.ref p) z (.dig (.ref p))
  | digS {b : Int} {p : Addr} {ns : List Int} {z : V} (hb : isBase b = true) (s : IsSeq K H p (ns.map V.int)) (l : ns.length ≤ 900) (ok : ns.all dig = true) (six : SixOf ns false) : Due K H (.int b) (.ref p) z (.dig (.ref p))
  | barN {b : Int} {p : Addr} {ns : List Int} {z : V} (hb : isBase b = true) (s : IsSeq K H p (ns.map V.int)) (l : ns.length ≤ 900) (ok : ns.all dig = true) (six : SixOf ns true) (n : NoSeq H z) : Due K H (.int b) (.ref p) z (.bar z)
  | barB {b : Int} {p q : Addr} {ns : List Int} {ks : List (Addr × List Int)} {u : V} {more : List V} (hb : isBase b = true) (s : IsSeq K H p (ns.map V.int)) (l : ns.length ≤ 900) (ok : ns.all dig = true) (six : SixOf ns true) (t : IsSeq K H q (ks.map (fun p => V.ref p.1) ++ u :: more)) (few : ks.length < 64) (hk : ∀ p ∈ ks, BarOk H ns p) (bad : BadBar H ns u) : Due K H (.int b) (.ref p) (.ref q) (.bar u)
  | made {b : Int} {p q : Addr} {ns : List Int} {ks : List (Addr × List Int)} (hb : isBase b = true) (s : IsSeq K H p (ns.map V.int)) (l : ns.length ≤ 900) (ok : ns.all dig = true) (six : SixOf ns true) (t : IsSeq K H q (ks.map fun p => V.ref p.1)) (few : ks.length < 64) (hk : ∀ p ∈ ks, BarOk H ns p) : Due K H (.int b) (.ref p) (.ref q) (.made b ns ks)
theorem ints_item {H : Hp} (ns : List Int) : ∀ v ∈ ns.map V.int, ItemOk H v := fun v hv => by
  obtain ⟨n, _, rfl⟩ := List.mem_map.mp hv
  exact .inl ⟨n, rfl⟩
theorem ints_digV (ns : List Int) : (ns.map V.int).all digV = ns.all dig := by
  rw [List.all_map]
  rfl
theorem ints_inj : ∀ {ns ms : List Int}, ns.map V.int = ms.map V.int → ns = ms
  | [], [], _ => rfl
  | [], _ :: _, e => by cases e
  | _ :: _, [], e => by cases e
  | a :: l, b :: m, e => by
    rw [List.map_cons, List.map_cons, List.cons.injEq] at e
    rw [V.int.inj e.1, ints_inj e.2]
/-- a new instance's heap -/
abbrev newAt (H : Hp) (C a dx : Addr) : Hp := upd (upd H dx (.own a)) a (.ins C dx [])
theorem newAt_same {H : Hp} {C a dx : Addr} (ha : H a = none) (hd : H dx = none) : Same H (newAt H C a dx) := fun c o hc => by
  show upd (upd H dx (.own a)) a (.ins C dx []) c = some o
  rw [upd_ne (ne_of_none hc ha), upd_ne (ne_of_none hc hd)]
  exact hc
theorem IsSeq.pairs {H H' : Hp} {ns : List Int} {ks : List (Addr × List Int)} (h : ∀ p ∈ ks, BarOk H ns p) (s : Same H H') : ∀ p ∈ ks, BarOk H' ns p := fun p hp => by
  obtain ⟨x, y, e, hp2, z⟩ := h p hp
  exact ⟨x, y, e, s _ _ hp2, z⟩
/-- Scheme(..) of any values, by what is due: the errors, or the parts -/
theorem new_due {C CB CD CP a dx : Addr} {H : Hp} {x y z : V} {v : Ver} {Q : VK} {E : XK} (d : Due K H x y z v) (ha : H a = none) (hd : H dx = none)
    (qe : ∀ (C' : Addr) (f : Str) (u : V), (v = .base u ∧ C' = CB ∨ v = .dig u ∧ C' = CD ∨ v = .bar u ∧ C' = CP) → ∀ (fs : List (Str × V)) (d : Addr) (H' : Hp), Same H H' → H' d = some (.xd (("value", u) :: fs)) → E (.ref C') (some d) H')
    (qm : ∀ (b : Int) (ns : List Int) (ks : List (Addr × List Int)), v = .made b ns ks → ∀ (ds : List Int) (L : List (Addr × List Int)) (t r : Addr) (H' : Hp), ds.Pairwise (· < ·) → (∀ k, k ∈ ds ↔ k ∈ ns) → (∀ p ∈ L, p ∈ ks) → (∀ p ∈ ks, p.2 ∈ L.map (·.2)) → (L.map (·.2)).Nodup → L.Pairwise (fun q r => SrtO.lexB (duo r.2) (duo q.2) = false) →
      Same H H' → H' a = some (.ins C dx [("_base", .int b), ("_digits", .ref t), ("_bars", .ref r)]) → H' t = some (.tup (ds.map V.int)) → H' r = some (.tup (L.map fun q => V.ref q.1)) → Q .non H') :
    spNew K C CB CD CP [.ref a, x, y, z] (newAt H C a dx) Q E := by
  have s0 := newAt_same (C := C) ha hd
  have ea : (newAt H C a dx) a = some (.ins C dx []) := upd_same
  have up : ∀ {H'}, But a (newAt H C a dx) H' → Same H H' := fun t c o hc => t c o (ne_of_none hc ha) (s0 c o hc)
  have er : ∀ (C' : Addr) (u : V), (v = .base u ∧ C' = CB ∨ v = .dig u ∧ C' = CD ∨ v = .bar u ∧ C' = CP) → RaisedA a C' "value" u (newAt H C a dx) E := fun C' u hv fs d H' _ t ed => qe C' "value" u hv fs d H' (up t) ed
  refine ⟨a, dx, x, y, z, rfl, ea, ?_⟩
  cases d with
  | base ix bx => exact .inl ⟨ix.same s0, bx, er CB x (.inl ⟨rfl, rfl⟩)⟩
  | digN hb n => exact .inr ⟨_, rfl, hb, .inl ⟨n.same s0, er CD y (.inr (.inl ⟨rfl, rfl⟩))⟩⟩
  | digA hb s it l bad =>
    refine .inr ⟨_, rfl, hb, .inr ⟨_, _, rfl, s.same s0, fun v hv => (it v hv).same s0, l, fun _ => er CD _ (.inr (.inl ⟨rfl, rfl⟩)), fun ns e ok => ?_⟩⟩
    rw [e, ints_digV, ok] at bad
    cases bad
  | @digS b p ns _ hb s l ok six =>
    refine .inr ⟨_, rfl, hb, .inr ⟨_, _, rfl, s.same s0, ints_item ns, (by rw [List.length_map]; exact l), fun _ => er CD _ (.inr (.inl ⟨rfl, rfl⟩)), fun ns2 e _ => ⟨false, ?_, fun _ => er CD _ (.inr (.inl ⟨rfl, rfl⟩)), fun z => nomatch z⟩⟩⟩
    cases ints_inj e
    exact six
  | @barN b p ns _ hb s l ok six n =>
    refine .inr ⟨_, rfl, hb, .inr ⟨_, _, rfl, s.same s0, ints_item ns, (by rw [List.length_map]; exact l), (fun h => by rw [ints_digV, ok] at h; cases h), fun ns2 e _ => ⟨true, ?_, (fun z => nomatch z), fun _ => .inl ⟨n.same s0, er CP _ (.inr (.inr ⟨rfl, rfl⟩))⟩⟩⟩⟩
    cases ints_inj e
    exact six
  | @barB b p q ns ks u more hb s l ok six t few hk bad =>
    refine .inr ⟨_, rfl, hb, .inr ⟨_, _, rfl, s.same s0, ints_item ns, (by rw [List.length_map]; exact l), (fun h => by rw [ints_digV, ok] at h; cases h), fun ns2 e _ => ?_⟩⟩
    cases ints_inj e
    exact ⟨true, six, (fun z => nomatch z), fun _ => .inr ⟨_, ks, u :: more, rfl, t.same s0, few, IsSeq.pairs hk s0, .inl ⟨u, more, rfl, bad.same s0, er CP _ (.inr (.inr ⟨rfl, rfl⟩))⟩⟩⟩
  | @made b p q ns ks hb s l ok six t few hk =>
    refine .inr ⟨_, rfl, hb, .inr ⟨_, _, rfl, s.same s0, ints_item ns, (by rw [List.length_map]; exact l), (fun h => by rw [ints_digV, ok] at h; cases h), fun ns2 e _ => ?_⟩⟩
    cases ints_inj e
    refine ⟨true, six, (fun z => nomatch z), fun _ => .inr ⟨_, ks, [], rfl, by rw [List.append_nil]; exact t.same s0, few, IsSeq.pairs hk s0, .inr ⟨rfl, fun ds L t r H' asc m sub all nd pw tb e1 e2 e3 => ?_⟩⟩⟩
    exact qm _ _ _ rfl ds L t r H' asc m sub all nd pw (up tb) e1 e2 e3


/-! ### a scheme, whole -/
def IsS (C : Addr) (H : Hp) (a : Addr) (b : Int) (ds : List Int) (ps : List (Int × Int)) : Prop := Good b ds ps ∧ ∃ (t r : Addr) (ks : List (Addr × (Int × Int))), ks.map (·.2) = ps ∧ SchemeAt C H a t r b ds ks
theorem IsS.same {C a : Addr} {H H' : Hp} {b : Int} {ds : List Int} {ps : List (Int × Int)} (h : IsS C H a b ds ps) (s : Same H H') : IsS C H' a b ds ps := by
  obtain ⟨G, t, r, ks, e, S⟩ := h
  exact ⟨G, t, r, ks, e, S.same s⟩
theorem lexP_tot {p q : Int × Int} (h : SrtO.lexB q p = false) (n : p ≠ q) : lexP p q := by
  have h2 : ¬ (q.1 < p.1 ∨ (q.1 = p.1 ∧ q.2 < p.2)) := fun z => by
    rw [SrtO.lexB_iff.mpr z] at h
    cases h
  unfold lexP
  rcases p with ⟨p1, p2⟩
  rcases q with ⟨q1, q2⟩
  have h3 : ¬ (p1 = q1 ∧ p2 = q2) := fun z => n (by rw [z.1, z.2])
  simp only at h2 ⊢
  omega
/-- the pairs of a list, as the program holds them -/
def asL (p : Addr × (Int × Int)) : Addr × List Int := (p.1, [p.2.1, p.2.2])
/-- Scheme(..) of good parts in any order, twice told or not -/
theorem new_made {C CB CD CP a dx p q : Addr} {H : Hp} {b : Int} {ns ds : List Int} {ks : List (Addr × (Int × Int))} {ps : List (Int × Int)} {Q : VK} {E : XK} (hb : isBase b = true) (s : IsSeq K H p (ns.map V.int)) (l : ns.length ≤ 900) (ok : ns.all dig = true)
    (t : IsSeq K H q (ks.map fun p => V.ref p.1)) (few : ks.length < 64) (hk : ∀ p ∈ ks, H p.1 = some (.tup [.int p.2.1, .int p.2.2])) (G : Good b ds ps) (md : ∀ k, k ∈ ds ↔ k ∈ ns) (mp : ∀ z, z ∈ ps ↔ z ∈ ks.map (·.2))
    (ha : H a = none) (hd : H dx = none) (qm : ∀ H', Same H H' → IsS C H' a b ds ps → Q .non H') : spNew K C CB CD CP [.ref a, .int b, .ref p, .ref q] (newAt H C a dx) Q E := by
  have six : SixOf ns true := fun k nd mem => by
    have pm : k.Perm ds := (List.perm_ext_iff_of_nodup nd (by rw [List.nodup_iff_pairwise_ne]; exact G.asc.imp fun h => by omega)).mpr fun z => (mem z).trans (md z).symm
    rw [pm.length_eq, decide_eq_true G.one, decide_eq_true G.six]
    rfl
  have one : ∀ n ∈ ds, isOne ns n = true := fun n hn => by
    unfold isOne
    rw [G.dg n hn, decide_eq_true ((md n).mp hn)]
    rfl
  have hk2 : ∀ z ∈ ks.map asL, BarOk H ns z := fun z hz => by
    obtain ⟨y, hy, rfl⟩ := List.mem_map.mp hz
    obtain ⟨m1, m2⟩ := G.mem y.2 ((mp _).mpr (List.mem_map.mpr ⟨y, hy, rfl⟩))
    exact ⟨_, _, rfl, hk y hy, one _ m1, one _ m2⟩
  have t2 : IsSeq K H q ((ks.map asL).map fun p => V.ref p.1) := by
    rw [List.map_map]
    exact t
  refine new_due (.made hb s l ok six t2 (by rw [List.length_map]; exact few) hk2) ha hd (fun C' f u z => ?_) fun b2 ns2 ks2 e => ?_
  · rcases z with ⟨z, _⟩ | ⟨z, _⟩ | ⟨z, _⟩ <;> cases z
  cases e
  intro ds2 L t3 r3 H' asc mds sub all nd pw s2 e1 e2 e3
  have eds : ds2 = ds := sorted_ext (r := (· < ·)) (fun a b h => by omega) asc G.asc fun x => (mds x).trans (md x).symm
  subst eds
  have two : ∀ p ∈ L, p.2 = [(duo p.2).1, (duo p.2).2] := fun p hp => by
    obtain ⟨z, _, rfl⟩ := List.mem_map.mp (sub p hp)
    rfl
  have eL : (L.map fun p => (p.1, duo p.2)).map (·.2) = ps := by
    refine sorted_ext lexP_as ?_ G.lex fun z => ?_
    · rw [List.map_map, List.pairwise_map]
      rw [List.nodup_iff_pairwise_ne, List.pairwise_map] at nd
      refine List.Pairwise.imp_of_mem (fun {q1 q2} h1 h2 ⟨z1, z2⟩ => ?_) (pw.and nd)
      refine lexP_tot z1 fun e => z2 ?_
      have e2 : duo q1.2 = duo q2.2 := e
      rw [two q1 h1, two q2 h2, e2]
    · rw [mp]
      constructor
      · intro hz
        rw [List.map_map] at hz
        obtain ⟨y, hy, rfl⟩ := List.mem_map.mp hz
        obtain ⟨x, hx, rfl⟩ := List.mem_map.mp (sub y hy)
        exact List.mem_map.mpr ⟨x, hx, rfl⟩
      · intro hz
        obtain ⟨x, hx, rfl⟩ := List.mem_map.mp hz
        obtain ⟨y, hy, e⟩ := List.mem_map.mp (all (asL x) (List.mem_map.mpr ⟨x, hx, rfl⟩))
        rw [List.map_map]
        refine List.mem_map.mpr ⟨y, hy, ?_⟩
        show duo y.2 = x.2
        rw [e]
        rfl
  refine qm H' s2 ⟨G, t3, r3, L.map fun p => (p.1, duo p.2), eL, ⟨⟨dx, e1⟩, e2, ?_, fun z hz => ?_⟩⟩
  · rw [e3, List.map_map]
    rfl
  · obtain ⟨y, hy, rfl⟩ := List.mem_map.mp hz
    obtain ⟨x, hx, rfl⟩ := List.mem_map.mp (sub y hy)
    exact s2 _ _ (hk x hx)

/-! ### the text of a row of digits -/
def spRowI : Sp := fun vs H Q _ => ∃ (p : Addr) (is : List Int), vs = [.ref p] ∧ H p = some (.tup (is.map V.int)) ∧ is.length ≤ 200 ∧ (∀ i ∈ is, dig i = true) ∧ ∀ H', Same H H' → Q (.str (textOf is)) H'
theorem dig_in {i : Int} (h : dig i = true) : -9 ≤ i ∧ i ≤ 9 := by
  unfold dig at h
  rw [Bool.and_eq_true, decide_eq_true_eq, decide_eq_true_eq] at h
  exact h
theorem scRT : FnScope ["row", "digit"] ["row"] (defScope sRowText) := ⟨rfl, rfl, rfl, by decide +kernel, rfl, by decide +kernel, by decide +kernel⟩
theorem eqv_nil : ∀ is : List Int, PyData.eqv (.tuple (is.map PyData.int)) (.tuple []) = decide (is = [])
  | [] => by decide +kernel
  | i :: is => by
    rw [decide_eq_false (List.cons_ne_nil i is)]
    simp only [PyData.eqv, List.map_cons, PyData.eqvAll]
set_option maxHeartbeats 2000000 in
theorem ok_rowtext {f fA fI C : Addr} {fd fdA fdI : FuncData} {tE : Tok} (F : Fun K "row_text" "row_text" sRowText f fd) (GA : FnOk P w K mg base CX0 4 fA fdA ["items"] (spAre K)) (gA : mg "are_digits" = some (.ref fA)) (kA : PySem.W.keepIn K (.ref fA) = true) (bA : Binds K fdA ["items"] [])
    (GI : FnOk P w K mg base CX0 3 fI fdI ["self", "row"] (spInit K "row" C)) (T : ErrC K mg "InvalidRow" "row" C fI) (bI : Binds K fdI ["self", "row"] [])
    (gE : mg "EMPTY_TEXT" = some (.str "." tE)) (mis : mg "isinstance" = none) (mt : mg "tuple" = none) (ms : mg "str" = none) : FnOk P w K mg base (L2.CX P w) 5 f fd ["row"] spRowI := by
  refine F.okX scRT (fun vs H Q E h => ?_) (fun cdv A outer s H vs Q E hr h => ?_)
  · obtain ⟨p, is, rfl, _⟩ := h
    rfl
  · obtain ⟨p, is, rfl, ep, hl, hdg, q⟩ := h
    have hd : ∀ i ∈ is, -9 ≤ i ∧ i ≤ 9 := fun i hi => dig_in (hdg i hi)
    apply Exists.intro
    apply And.intro
    · apply pss_cons
      · exact ps_if (PW.pt (pw_or (pt_not (pt_val (pe_callB call_isi (by rfl) mis PyProof.Rows.boot_isinstance (pa_cons (pv 0) (pa_cons (pe_bltn (v := .ty "tuple") (by rfl) mt (by decide +kernel) rfl) pa_nil)))))
            (pw_or1 (pt_not (pt_val (pe_call GA hr (by rfl) gA kA bA .nil pass0 (pa_cons (pv 0) pa_nil)))))))
          (pss_one (ps_raise rfl (takes_of rfl rfl rfl rfl) (pmk_oex T.ox T.iC T.tI GI hr bI .nil pass0 (by rfl) T.g (pa_cons (pv 0) pa_nil)))) pss_nil
      apply pss_cons
      · exact ps_if (pt_cmpR (op_eqD hr.units) (pv 0) (pe_tup pa_nil) (nomark _)) (pss_one (ps_ret (pe_glob (v := .str ".") rfl gE ⟨_, rfl⟩))) pss_nil
      apply pss_one
      · exact ps_ret (pe_join pe_str (pe_lc (own := [("digit", 1)]) (g := gName 1) (tt := tYes) rfl scRT.nd (pi_tup (pv 0)) (blkOk_by (own := [("digit", 1)]) (N := ["row", "digit"]) (sc := defScope sRowText) (by decide +kernel))
            (fun _ _ _ _ _ => pg_name (i := 1) scRT.nd rfl (Or.inl rfl)) (fun _ _ _ _ _ => pts_nil) (fun _ _ _ _ _ => by exact (pe_callTy call_str_int (by rfl) ms PyProof.Rows.boot_str (pa_cons (pv 1) pa_nil)))))
    refine ⟨.ref p, rfl, .ref p, .ty "tuple", .type "tuple", .type "tuple", true, rfl, .ty _, .base (.tup ep), kit_ty (by decide +kernel), true, rfl, iteF ?_⟩
    refine ⟨.ref p, rfl, p, _, rfl, .inr (SqT.of ep), ints_item is, by rw [List.length_map]; omega, fun H1 s1 => ⟨_, rfl, ?_⟩⟩
    rw [ints_digV, List.all_eq_true.mpr hdg]
    refine iteF ?_
    have ep1 := s1 _ _ ep
    refine ⟨.ref p, rfl, (by show 0 ≤ sizeLine; decide), fun t ht => ?_⟩
    have s2 := same_new (o := .tup []) ht
    have d1 := DatOf.tup (K := K) (s2 _ _ ep1)
    have d2 := DatOf.tup (K := K) (is := []) (upd_same (H := H1) (a := t) (o := .tup []))
    refine ⟨_, _, d1.dp _ (Same.refl _), d2.dp _ (Same.refl _), shaped_of d1.can (Nat.le_trans d1.dep (by decide)), shaped_of d2.can (Nat.le_trans d2.dep (by decide)), _, rfl, ?_⟩
    rw [show PyData.eqv (.tuple (is.map PyData.int)) (.tuple (([] : List Int).map PyData.int)) = decide (is = []) from eqv_nil is]
    have sA := s1.trans s2
    by_cases hn : is = []
    · refine iteTB (decide_eq_true hn) ?_
      have e : textOf is = Str.ofString "." := if_pos hn
      rw [e] at q
      exact q _ sA
    · refine iteFB (decide_eq_false hn) ?_
      have e : textOf is = Txt.join (Str.ofString " ") (is.map strI) := if_neg hn
      rw [e] at q
      have ep2 := s2 _ _ ep1
      generalize upd H1 t (.tup []) = H2 at sA ep2 ⊢
      refine ⟨⟨_, rfl⟩, .ref p, rfl, p, rfl, ⟨_, SqT.of ep2⟩, fun D hD => ?_⟩
      refine lc_tup (K := K) (a := p) (xs := is.map V.int) (fun i H' => Same H2 H' ∧ H' D = some (.lst ((is.take i).map fun k => V.str (strI k)))) ⟨same_new hD, upd_same⟩ (fun i H' _ h => SqT.of (h.1 _ _ ep2)) ?_ ?_
      · rintro i x H' hi ⟨s3, e3⟩
        obtain ⟨k, hk, rfl⟩ := get_map hi
        have hk2 := hd k (List.mem_of_getElem? hk)
        refine ⟨rfl, tYes_if ⟨_, rfl, _, rfl, log_le (by omega), _, e3, ?_, Same.store s3 hD, ?_⟩⟩
        · rw [List.length_map]
          exact Nat.lt_of_le_of_lt (List.length_take_le' _ _) (small1000 (by omega))
        · rw [upd_same, take_more hk, List.map_append]
          rfl
      · rintro H3 ⟨s3, e3⟩
        rw [List.length_map, List.take_length] at e3
        have em : (is.map fun k => V.str (strI k)) = (is.map strI).map V.str := by
          rw [List.map_map]
          rfl
        rw [em] at e3
        refine ⟨_, D, is.map strI, rfl, rfl, .inl (SqL.of e3), ?_, q _ (sA.trans s3)⟩
        have h1 := sum_len (n := 2) (ps := is.map strI) fun y hy => by
          obtain ⟨i, hi, rfl⟩ := List.mem_map.mp hy
          exact (strI_ok (hd i hi)).1
        have h2 : (Str.ofString " ").length = 1 := by decide +kernel
        rw [h2]
        rw [List.length_map] at h1 ⊢
        omega
end
end K08
namespace K08
open PySem PySem.Spec PyProof.Rows L2 OF
section
variable {P : Program} {w : World} {K : PySem.W.Frag} {mg : Str → Option Value} {base : Heap}

/-! ### str(scheme) -/
def headS (b : Int) (ds : List Int) : List Str := [Str.ofString "base " ++ strI b, Str.ofString "digits " ++ textOf ds]
def pairS (p : Int × Int) : Str := textOf [p.1, p.2]
def barsS (ps : List (Int × Int)) : Str := Str.ofString "bars " ++ Txt.join (Str.ofString ", ") (ps.map pairS)
def strS (b : Int) (ds : List Int) (ps : List (Int × Int)) : Str := Txt.join (Str.ofString "; ") (headS b ds ++ if ps = [] then [] else [barsS ps])
theorem base_dig {b : Int} (h : isBase b = true) : -9 ≤ b ∧ b ≤ 9 := by
  unfold isBase at h
  rw [Bool.or_eq_true, Bool.and_eq_true, Bool.and_eq_true, decide_eq_true_eq, decide_eq_true_eq, decide_eq_true_eq, decide_eq_true_eq] at h
  omega
theorem wBase : TOk 5 (Str.ofString "base ") := by decide +kernel
theorem wDigits : TOk 7 (Str.ofString "digits ") := by decide +kernel
theorem wBars : TOk 5 (Str.ofString "bars ") := by decide +kernel
theorem wSemi : TOk 2 (Str.ofString "; ") := by decide +kernel
theorem wComma : TOk 2 (Str.ofString ", ") := by decide +kernel
theorem Good.digs {b : Int} {ds : List Int} {ps : List (Int × Int)} (G : Good b ds ps) : ∀ i ∈ ds, -9 ≤ i ∧ i ≤ 9 := fun i hi => dig_in (G.dg i hi)
theorem Good.tDs {b : Int} {ds : List Int} {ps : List (Int × Int)} (G : Good b ds ps) : TOk 600 (textOf ds) := textOf_ok G.digs (by have := G.six; omega)
theorem Good.two {b : Int} {ds : List Int} {ps : List (Int × Int)} (G : Good b ds ps) {p : Int × Int} (hp : p ∈ ps) : ∀ i ∈ [p.1, p.2], dig i = true := fun i hi => by
  obtain ⟨m1, m2⟩ := G.mem p hp
  rcases List.mem_cons.mp hi with rfl | hi
  · exact G.dg _ m1
  · rw [List.mem_singleton.mp hi]
    exact G.dg _ m2
theorem Good.tPair {b : Int} {ds : List Int} {ps : List (Int × Int)} (G : Good b ds ps) : ∀ z ∈ ps.map pairS, TOk 600 z := fun z hz => by
  obtain ⟨p, hp, rfl⟩ := List.mem_map.mp hz
  exact textOf_ok (fun i hi => dig_in (G.two hp i hi)) (by show 2 ≤ 200; omega)
theorem Good.tJoin {b : Int} {ds : List Int} {ps : List (Int × Int)} (G : Good b ds ps) : TOk 21672 (Txt.join (Str.ofString ", ") (ps.map pairS)) := by
  refine (TOk.join wComma G.tPair).mono ?_
  rw [List.length_map]
  have := G.few
  omega
theorem Good.tBars {b : Int} {ds : List Int} {ps : List (Int × Int)} (G : Good b ds ps) : TOk 21677 (barsS ps) := (wBars.app G.tJoin).mono (by decide)
theorem Good.tParts {b : Int} {ds : List Int} {ps : List (Int × Int)} (G : Good b ds ps) : ∀ z ∈ headS b ds ++ (if ps = [] then [] else [barsS ps]), TOk 21677 z := fun z hz => by
  rcases List.mem_append.mp hz with h | h
  · unfold headS at h
    rcases List.mem_cons.mp h with rfl | h
    · exact (wBase.app (strI_ok (base_dig G.b)).1).mono (by decide)
    · rw [List.mem_singleton.mp h]
      exact (wDigits.app G.tDs).mono (by decide)
  · split at h
    · cases h
    · rw [List.mem_singleton.mp h]
      exact G.tBars
theorem Good.tAll {b : Int} {ds : List Int} {ps : List (Int × Int)} (G : Good b ds ps) : TOk 65037 (strS b ds ps) := by
  refine (TOk.join wSemi G.tParts).mono ?_
  rw [List.length_append]
  show ((2 : Nat) + _) * _ ≤ _
  split
  · show (2 + 0) * _ ≤ _
    decide
  · show (2 + 1) * _ ≤ _
    decide
theorem eqv_nilT : ∀ ds : List PyData, PyData.eqv (.tuple ds) (.tuple []) = ds.isEmpty
  | [] => by decide +kernel
  | i :: is => by simp only [PyData.eqv, PyData.eqvAll, List.isEmpty_cons]
def spStr (C : Addr) : Sp := fun vs H Q _ => ∃ (a : Addr) (b : Int) (ds : List Int) (ps : List (Int × Int)), vs = [.ref a] ∧ IsS C H a b ds ps ∧ ∀ H', Same H H' → Q (.str (strS b ds ps)) H'
abbrev sStr : Stmt := inClass (topS 27) 6
abbrev nStr : List Str := ["self", "parts", "pairs", "pair"]
theorem scStr : FnScope nStr ["self"] (defScope sStr) := ⟨rfl, rfl, rfl, by decide +kernel, rfl, by decide +kernel, by decide +kernel⟩
theorem small21 {n : Nat} (h : n ≤ 100000) : n ≤ sizeLine := by
  rw [sizeLine_eq]
  omega
set_option maxHeartbeats 2000000 in
theorem ok_str {f fR C : Addr} {fd fdR : FuncData} (F : Fun K "__str__" "Scheme.__str__" sStr f fd) (c : Cls K C) (n1 : NoAttr K C "_base") (n2 : NoAttr K C "_digits") (n3 : NoAttr K C "_bars")
    (GR : FnOk P w K mg base (L2.CX P w) 5 fR fdR ["row"] spRowI) (gR : mg "row_text" = some (.ref fR)) (kR : PySem.W.keepIn K (.ref fR) = true) (bR : Binds K fdR ["row"] []) :
    FnOk P w K mg base CX0 6 f fd ["self"] (spStr C) := by
  refine F.ok scStr (fun vs H Q E h => ?_) (fun cdv A outer s H vs Q E hr h => ?_)
  · obtain ⟨a, b, ds, ps, rfl, _⟩ := h
    rfl
  · obtain ⟨a, b, ds, ps, rfl, ⟨G, t, r, ks, rfl, S⟩, q⟩ := h
    apply Exists.intro
    apply And.intro
    · apply pss_cons
      · exact ps_set (i := 1) scStr.nd rfl (.inl rfl) (pe_lst (pa_cons (pe_joined (.cons pe_str (.cons (pe_fmt (pe_fld (pv 0) rfl)) .nil))) (pa_cons (pe_joined (.cons pe_str (.cons (pe_fmt (pe_call GR hr (by rfl) gR kR bR .nil passNo (pa_cons (pe_fld (pv 0) rfl) pa_nil))) .nil))) pa_nil)))
      apply pss_cons
      · exact ps_if (pt_cmpR (op_neD hr.units) (pe_fld (pv 0) rfl) (pe_tup pa_nil) (nomark _))
          (pss_cons (ps_setLc (i := 2) (own := [("pair", 3)]) (g := gName 3) (tt := tYes) (te := tCall spRowI [] E0 (tCons (tVar 3) tNil)) rfl scStr.nd rfl rfl (sw_true rfl rfl rfl (by decide +kernel)) (pi_tup (pe_fld (pv 0) rfl))
              (blkOk_by (own := [("pair", 3)]) (N := nStr) (sc := defScope sStr) (by decide +kernel)) (fun _ _ _ _ _ => pg_name (i := 3) scStr.nd rfl (Or.inl rfl)) (fun _ _ _ _ _ => pts_nil)
              (fun _ _ _ _ _ => by exact (pe_call GR hr (by rfl) gR kR bR .nil passNo (pa_cons (pv 3) pa_nil))))
          (pss_one (ps_expr (pe_bm PySem.F.plainAttrs_list PySem.F.slot_list_append PySem.F.type_list_append mt_append (pv 1) (pa_cons (pe_op op_add_str pe_str (pe_join pe_str (pv 2))) pa_nil))))) pss_nil
      apply pss_one
      · exact ps_ret (pe_join pe_str (pv 1))
    have S0 := S
    obtain ⟨⟨dx, ha⟩, ht, hb, hp⟩ := S0
    have lb : (Str.empty ++ Str.ofString "base ") = Str.ofString "base " := Str.empty_append _
    have ld : (Str.empty ++ Str.ofString "digits ") = Str.ofString "digits " := Str.empty_append _
    refine ⟨_, rfl, (by rw [lb]; exact small21 (Nat.le_trans wBase.len (by decide))), ?_⟩
    refine ⟨.ref a, rfl, a, C, dx, _, .int b, rfl, ha, c, n1, lk_base, .inr ⟨b, rfl, log_le (by have := base_dig G.b; omega), _, rfl, ?_, ?_⟩⟩
    · rw [lb]
      exact small21 (Nat.le_trans (wBase.app (strI_ok (base_dig G.b)).1).len (by decide))
    refine ⟨_, rfl, (by rw [ld]; exact small21 (Nat.le_trans wDigits.len (by decide))), ?_⟩
    refine ⟨.ref a, rfl, a, C, dx, _, .ref t, rfl, ha, c, n2, lk_digits, t, ds, rfl, ht, (by have := G.six; omega), G.dg, fun H1 s1 => .inl ⟨_, rfl, small21 (Nat.le_trans G.tDs.len (by decide)), _, rfl, ?_, ?_⟩⟩
    · rw [ld]
      exact small21 (Nat.le_trans (wDigits.app G.tDs).len (by decide))
    rw [lb, ld]
    refine ⟨(by show 2 ≤ sizeLine; decide), fun l hl => ?_⟩
    have hl0 := s1.free hl
    have s2 : Same H (upd H1 l (.lst [.str (Str.ofString "base " ++ Str.ofString (toString b)), .str (Str.ofString "digits " ++ textOf ds)])) := s1.trans (same_new hl)
    have e2 : (upd H1 l (.lst [.str (Str.ofString "base " ++ Str.ofString (toString b)), .str (Str.ofString "digits " ++ textOf ds)])) l = some (.lst ((headS b ds).map V.str)) := upd_same
    generalize upd H1 l (.lst [.str (Str.ofString "base " ++ Str.ofString (toString b)), .str (Str.ofString "digits " ++ textOf ds)]) = H2 at s2 e2 ⊢
    obtain ⟨⟨dx2, ha2⟩, _, hb2, hp2⟩ := S.same s2
    refine ⟨.ref a, rfl, a, C, dx2, _, .ref r, rfl, ha2, c, n3, lk_bars, (by show 0 ≤ sizeLine; decide), fun t0 ht0 => ?_⟩
    have s3 : Same H (upd H2 t0 (.tup [])) := s2.trans (same_new ht0)
    have e3 := same_new (o := .tup []) ht0 _ _ e2
    refine ⟨.tuple (ks.map fun p => pd2 p.2), .tuple (([] : List (Addr × (Int × Int))).map fun p => pd2 p.2), .tup (SqT.of (same_new ht0 _ _ hb2)) (bars_dp ks fun p hp => same_new ht0 _ _ (hp2 p hp)), .tup (SqT.of upd_same) .nil, bars_shaped ks, bars_shaped [], _, rfl, ?_⟩
    rw [show PyData.eqv (.tuple (ks.map fun p => pd2 p.2)) (.tuple (([] : List (Addr × (Int × Int))).map fun p => pd2 p.2)) = (ks.map fun p => pd2 p.2).isEmpty from eqv_nilT _]
    generalize upd H2 t0 (.tup []) = H3 at s3 e3 ⊢
    have fin : ∀ (σ : L2.St) (H4 : Hp) (zs : List Str), σ[1]? = some (some (.ref l)) → Same H H4 → H4 l = some (.lst (zs.map V.str)) → zs = headS b ds ++ (if ks.map (·.2) = [] then [] else [barsS (ks.map (·.2))]) → (tM1 (fun x xs H Q => ∃ a p, ∃ ys : List Str, x = .str a ∧ xs = [.ref p] ∧ (SqL K H p (ys.map V.str) ∨ SqT K H p (ys.map V.str)) ∧ (ys.map (·.length)).sum + ys.length * a.length ≤ 16777216 ∧ Q (.str (Txt.join a ys)) H) (tC (.str "; ")) (tVar 1)) σ H4 Q := by
      intro σ H4 zs g s4 e4 ez
      have g : σ[1]? = some (some (V.ref l)) := g
      refine ⟨⟨_, rfl⟩, .ref l, g, _, l, zs, rfl, rfl, .inl (SqL.of e4), ?_, ?_⟩
      · have h1 := sum_len (n := 21677) (ps := zs) (by rw [ez]; exact G.tParts)
        have h2 : (Str.ofString "; ").length = 2 := by decide +kernel
        have h3 : zs.length ≤ 3 := by
          rw [ez, List.length_append]
          show 2 + _ ≤ 3
          split
          · exact (by decide)
          · exact (by show 2 + 1 ≤ 3; decide)
        show _ + zs.length * (Str.ofString "; ").length ≤ _
        rw [h2]
        omega
      · rw [ez]
        exact q _ s4
    cases hk : (ks.map fun p => pd2 p.2).isEmpty with
    | true =>
      have kn : ks = [] := by
        cases ks with
        | nil => rfl
        | cons p l => cases hk
      refine iteF ?_
      exact fin _ _ _ rfl s3 e3 (by rw [kn]; rfl)
    | false =>
      have kn : ks.map (·.2) ≠ [] := fun z => by
        have kz : ks = [] := List.map_eq_nil_iff.mp z
        rw [kz] at hk
        cases hk
      refine iteT ?_
      obtain ⟨⟨dx3, ha3⟩, _, hb3, hp3⟩ := S.same s3
      refine ⟨.ref a, rfl, a, C, dx3, _, .ref r, rfl, ha3, c, n3, lk_bars, r, rfl, ⟨_, SqT.of hb3⟩, fun D hD => ?_⟩
      have nDl : D ≠ l := fun z => by
        rw [z, e3] at hD
        cases hD
      refine lc_tup (K := K) (a := r) (xs := ks.map fun p => V.ref p.1) (fun i H' => Same H3 H' ∧ H' D = some (.lst ((ks.take i).map fun p => V.str (pairS p.2)))) ⟨same_new hD, upd_same⟩ (fun i H' _ h => SqT.of (h.1 _ _ hb3)) ?_ ?_
      · rintro i x H' hi ⟨s5, e5⟩
        obtain ⟨p, hp, rfl⟩ := get_map hi
        have mp := List.mem_of_getElem? hp
        have mp2 : p.2 ∈ ks.map (·.2) := List.mem_map.mpr ⟨p, mp, rfl⟩
        refine ⟨rfl, tYes_if ⟨.ref p.1, rfl, p.1, [p.2.1, p.2.2], rfl, s5 _ _ (hp3 p mp), (by show 2 ≤ 200; omega), G.two mp2, fun H6 s6 => ⟨_, s6 _ _ e5, ?_, Same.store (s5.trans s6) hD, ?_⟩⟩⟩
        · rw [List.length_map]
          refine Nat.lt_of_le_of_lt (List.length_take_le' _ _) (small1000 ?_)
          have := G.few
          rw [List.length_map] at this
          omega
        · rw [upd_same, take_more hp, List.map_append]
          rfl
      · rintro H5 ⟨s5, e5⟩
        rw [List.length_map, List.take_length] at e5
        have em : (ks.map fun p => V.str (pairS p.2)) = ((ks.map (·.2)).map pairS).map V.str := by
          rw [List.map_map, List.map_map]
          rfl
        rw [em] at e5
        have el := s5 _ _ e3
        have h1 := sum_len (n := 600) (ps := (ks.map (·.2)).map pairS) G.tPair
        have h2 : (Str.ofString ", ").length = 2 := by decide +kernel
        have h3 : ((ks.map (·.2)).map pairS).length ≤ 36 := by
          rw [List.length_map]
          exact G.few
        refine ⟨.ref l, rfl, .inl ⟨rfl, _, SqL.of el⟩, ⟨_, rfl⟩, .ref D, rfl, _, D, (ks.map (·.2)).map pairS, rfl, rfl, .inl (SqL.of e5), ?_, ?_⟩
        · show _ + _ * (Str.ofString ", ").length ≤ _
          rw [h2]
          omega
        refine ⟨_, _, rfl, rfl, ?_, ?_⟩
        · have k1 := wBars.len
          have k2 := G.tJoin.len
          rw [sizeLine_eq]
          omega
        refine ⟨l, _, _, rfl, rfl, el, (by rw [List.length_map]; exact small1000 (show 2 ≤ 1000 by decide)), ?_⟩
        refine fin _ _ (headS b ds ++ [barsS (ks.map (·.2))]) rfl (Same.store (s3.trans s5) hl0) (by rw [upd_same, List.map_append]; rfl) (by rw [if_neg kn])
end
end K08
/-! A list of whatever items against the empty list; an int sought among whatever items. -/
namespace OF
open PySem PySem.Spec PyProof.Rows L2
section
variable {X : Cx}
/-- xs == [] -/
def rEqNil (K : PySem.W.Frag) : R2 := fun x y H Q => ∃ (p q : Addr) (xs : List V), x = .ref p ∧ y = .ref q ∧ SqL K H p xs ∧ SqL K H q [] ∧ Q (.bl xs.isEmpty) H
def rNeNil (K : PySem.W.Frag) : R2 := fun x y H Q => ∃ (p q : Addr) (xs : List V), x = .ref p ∧ y = .ref q ∧ SqL K H p xs ∧ SqL K H q [] ∧ Q (.bl (!xs.isEmpty)) H
theorem vals_nil {us : List Value} (h : Vals [] us) : us = [] := by cases h; rfl
theorem vals_empty {xs : List V} {us : List Value} (h : Vals xs us) : xs.isEmpty = us.isEmpty := by cases h <;> rfl
theorem op_eqNil (hu : X.A.units + 64 < cLine) : OpR X (compareOp .Eq) (rEqNil X.K) := by
  intro pins s σ H x y v u Q I rx ry h
  obtain ⟨p, q, xs, rfl, rfl, hp, hq, z⟩ := h
  cases rx
  cases ry
  obtain ⟨its, r1, l1, _⟩ := I.list hp
  obtain ⟨its2, r2, l2, _⟩ := I.list hq
  cases vals_nil r2
  rw [vals_empty r1] at z
  cases its with
  | nil => exact SeqAt.eq_listAt (e := fun _ => true) l1.isList l2.isList rfl (by omega) (fun j h1 => absurd h1 (Nat.not_lt_zero j)) ⟨.bl true, H, I, rfl, z⟩
  | cons a m => exact SeqAt.eq_list_lengthsAt l1.isList l2.isList (by simp) (by omega) ⟨.bl false, H, I, rfl, z⟩
theorem op_neNil (hu : X.A.units + 64 < cLine) : OpR X (compareOp .NotEq) (rNeNil X.K) := by
  intro pins s σ H x y v u Q I rx ry h
  obtain ⟨p, q, xs, rfl, rfl, hp, hq, z⟩ := h
  cases rx
  cases ry
  obtain ⟨its, r1, l1, _⟩ := I.list hp
  obtain ⟨its2, r2, l2, _⟩ := I.list hq
  cases vals_nil r2
  rw [vals_empty r1] at z
  cases its with
  | nil => exact SeqAt.RcNeAt.lists (e := fun _ => true) l1.isList l2.isList rfl (by omega) (fun j h1 => absurd h1 (Nat.not_lt_zero j)) X.prog X.w X.xe _ ⟨.bl false, H, I, rfl, z⟩
  | cons a m => exact SeqAt.RcNeAt.lists_lengths l1.isList l2.isList (by simp) (by omega) X.prog X.w X.xe _ ⟨.bl true, H, I, rfl, z⟩
end
end OF
namespace K08
open PySem PySem.Spec PyProof.Rows L2 OF
section
variable {P : Program} {w : World} {K : PySem.W.Frag} {mg : Str → Option Value} {base : Heap}
def gDef {α : Type} (us ms ws : List α) : List α := us ++ ms
theorem kbDef {f T : Addr} {fd : FuncData} (F : FunD K "__init__" "Scheme.__init__" (defArgs sInit) (defBody sInit) (defScope sInit) [] [("bars", .ref T)] f fd) : ∃ mv : List Value, KBn K fd ["self", "base", "digits", "bars"] 3 [] (fun us ws => gDef us mv ws) (fun vs zs => gDef vs [.ref T] zs) :=
  F.kbinds0 (ps := ["self", "base", "digits", "bars"]) 3 [] [("bars", .ref T)] gDef (fun z => by cases z) (fun q hq => hq) (fun r1 r2 _ => r1.append r2) (fun D doc pm an cdv ct us mv ws l1 l2 l3 => by
    match us, mv, ws, l1, l2, l3 with
    | [x, y, z], [d], [], _, _, _ => exact ⟨_, _, _, _, _, _, rfl, rfl, rfl⟩)

def gApp {α : Type} (us ws : List α) : List α := us ++ ws
theorem kbNew {f : Addr} {fd : FuncData} (G : ∃ kws, FunD K "__init__" "Scheme.__init__" (defArgs sInit) (defBody sInit) (defScope sInit) [] kws f fd) : KBn K fd ["self", "base", "digits", "bars"] 3 ["bars"] gApp gApp := by
  obtain ⟨kws, F⟩ := G
  obtain ⟨oc, od, dV, kV, doc, pm, an, cdv, ct, osl, rfl, lk, hcd, hD, _⟩ := F.ex
  rcases hD with ⟨_, rfl⟩ | ⟨e, _⟩
  · refine ⟨fun s us ws X l1 l2 => ?_, fun {vs us zs ws} r1 r2 => r1.append r2⟩
    match us, ws, l1, l2 with
    | [x, y, z], [v], _, _ => exact .of_eq rfl
  · exact absurd rfl e

/-! ### schemes that come of others -/
theorem made_ok {C CB CD CP p q : Addr} {H : Hp} {b : Int} {ns ds : List Int} {ks : List (Addr × (Int × Int))} {ps : List (Int × Int)} {Q : VK} {E : XK} (hb : isBase b = true) (s : IsSeq K H p (ns.map V.int)) (l : ns.length ≤ 900) (ok : ns.all dig = true)
    (t : IsSeq K H q (ks.map fun p => V.ref p.1)) (few : ks.length < 64) (hk : ∀ p ∈ ks, H p.1 = some (.tup [.int p.2.1, .int p.2.2])) (G : Good b ds ps) (md : ∀ k, k ∈ ds ↔ k ∈ ns) (mp : ∀ z, z ∈ ps ↔ z ∈ ks.map (·.2))
    (qm : ∀ o H', Same H H' → IsS C H' o b ds ps → Q (.ref o) H') : ∀ o d, H o = none → H d = none → d ≠ o → spNew K C CB CD CP [.ref o, .int b, .ref p, .ref q] (upd (upd H d (.own o)) o (.ins C d [])) (fun v H3 => v = .non ∧ Q (.ref o) H3) E :=
  fun o d ho hd _ => new_made hb s l ok t few hk G md mp ho hd fun H' s' S => ⟨rfl, qm o H' s' S⟩
theorem Good.all {b : Int} {ds : List Int} {ps : List (Int × Int)} (G : Good b ds ps) : ds.all dig = true := List.all_eq_true.mpr G.dg
/-! ### the law's own text -/
theorem op_mul_txt {X : Cx} : OpR X (binaryOp .Mult) (fun x y H Q => ∃ (z : Str) (n : Int), x = .str z ∧ y = .int n ∧ MulOk z n ∧ Q (.str (Txt.mul z n)) H) := by
  intro pins s σ H x y v u Q I rx ry h
  obtain ⟨z, n, rfl, rfl, hk, q⟩ := h
  obtain ⟨t, rfl⟩ := rx
  obtain ⟨t', rfl⟩ := ry
  exact PySem.SB.mul hk fun t2 k => ⟨.str _, H, I.tok k, ⟨t2, rfl⟩, q⟩
theorem mulok (k : Bool) : MulOk (Str.ofString "; bars ") (if k then 1 else 0) := by
  cases k with
  | true => exact ⟨by decide +kernel, fun _ h => absurd h (by decide +kernel), fun _ h => absurd h (by decide +kernel)⟩
  | false => exact ⟨by decide +kernel, fun h => absurd (show (0 : Int) < 1 by decide) h, fun h => absurd (show (0 : Int) < 1 by decide) h⟩
theorem wSemiD : TOk 9 (Str.ofString "; digits ") := by decide +kernel
theorem wBlank : TOk 1 (Str.ofString " ") := by decide +kernel
def wordS (p : Int × Int) : Str := strI p.1 ++ Str.ofString " " ++ strI p.2
theorem pair_word (p : Int × Int) : pairS p = wordS p := by
  unfold pairS textOf
  rw [if_neg (List.cons_ne_nil _ _), TL.join_eq]
  rfl
theorem mul_ok (k : Bool) : TOk 7 (Txt.mul (Str.ofString "; bars ") (if k then 1 else 0)) := by
  cases k <;> decide +kernel
theorem Good.tWord {b : Int} {ds : List Int} {ps : List (Int × Int)} (G : Good b ds ps) : ∀ z ∈ ps.map wordS, TOk 600 z := by
  rw [← List.map_congr_left (f := pairS) fun z _ => pair_word z]
  exact G.tPair
theorem Good.tJoinW {b : Int} {ds : List Int} {ps : List (Int × Int)} (G : Good b ds ps) : TOk 21672 (Txt.join (Str.ofString ", ") (ps.map wordS)) := by
  rw [← List.map_congr_left (f := pairS) fun z _ => pair_word z]
  exact G.tJoin
def lawText (b : Int) (ds : List Int) : Str := Str.ofString "base " ++ strI b ++ Str.ofString "; digits " ++ Txt.join (Str.ofString " ") (ds.map strI)
theorem law_text {b : Int} {ds : List Int} {ps : List (Int × Int)} (G : Good b ds ps) : strS b ds ps = lawText b ds ++ Txt.mul (Str.ofString "; bars ") (if (!(ps.map wordS).isEmpty) then 1 else 0) ++ Txt.join (Str.ofString ", ") (ps.map wordS) := by
  have hn : ds ≠ [] := fun z => by
    have := G.one
    rw [z] at this
    cases this
  have e1 : Str.ofString "; " ++ Str.ofString "digits " = Str.ofString "; digits " := by decide +kernel
  have e2 : Str.ofString "; " ++ Str.ofString "bars " = Str.ofString "; bars " := by decide +kernel
  have ht : textOf ds = Txt.join (Str.ofString " ") (ds.map strI) := if_neg hn
  unfold strS lawText headS
  rw [ht]
  cases ps with
  | nil =>
    have m0 : Txt.mul (Str.ofString "; bars ") 0 = Str.empty := by decide +kernel
    have j0 : Txt.join (Str.ofString ", ") [] = Str.empty := by decide +kernel
    rw [if_pos rfl, List.append_nil, TL.join_eq, show (if (!(([] : List (Int × Int)).map wordS).isEmpty) = true then (1 : Int) else 0) = 0 from rfl, m0, List.map_nil, j0, Str.append_empty, Str.append_empty, ← e1]
    show (_ ++ Str.ofString "; " ++ (_ ++ _)) = _
    simp only [Str.append_assoc]
  | cons p l =>
    have m1 : Txt.mul (Str.ofString "; bars ") 1 = Str.ofString "; bars " := by decide +kernel
    rw [if_neg (List.cons_ne_nil _ _), TL.join_eq, show (if (!((p :: l).map wordS).isEmpty) = true then (1 : Int) else 0) = 1 from rfl, m1, ← e1, ← e2]
    show (_ ++ Str.ofString "; " ++ ((_ ++ _) ++ Str.ofString "; " ++ barsS (p :: l))) = _
    unfold barsS
    rw [List.map_congr_left (g := wordS) fun z _ => pair_word z]
    simp only [Str.append_assoc]

/-! ### a scheme made of the law's parts -/
def spMadeL (C : Addr) : Sp := fun vs H Q _ => ∃ (m dl pl : Addr) (b : Int) (ds : List Int) (ks : List (Addr × (Int × Int))), vs = [.ref m] ∧ ModAt H m dl pl b ds ks ∧ Good b ds (ks.map (·.2)) ∧ ∀ o H', Same H H' → IsS C H' o b ds (ks.map (·.2)) → Q (.ref o) H'
theorem scMd : FnScope ["_law_model"] ["_law_model"] (defScope sMade) := ⟨rfl, rfl, rfl, by decide +kernel, rfl, by decide +kernel, by decide +kernel⟩
theorem ok_madeL {f fN C CB CD CP T : Addr} {fd fdN : FuncData} (F : Fun K "_law_made" "_law_made" sMade f fd) 
    (FN : FunD K "__init__" "Scheme.__init__" (defArgs sInit) (defBody sInit) (defScope sInit) [] [("bars", .ref T)] fN fdN) (M : Mk K C fN) (gC : mg "Scheme" = some (.ref C)) (GN0 : FnOk P w K mg base (L2N.CX P w) 7 fN fdN ["self", "base", "digits", "bars"] (spNew K C CB CD CP)) :
    FnOk P w K mg base CX0 9 f fd ["_law_model"] (spMadeL C) := by
  have GN := softN GN0
  have kbN := kbNew ⟨_, FN⟩
  refine F.ok scMd (fun vs H Q E h => ?_) (fun cdv A outer s H vs Q E hr h => ?_)
  · obtain ⟨m, dl, pl, b, ns, ks, rfl, _⟩ := h
    rfl
  · obtain ⟨m, dl, pl, b, ns, ks, rfl, ⟨hm, hd, hp, hk⟩, G, q⟩ := h
    apply Exists.intro
    apply And.intro
    · apply pss_one
      · exact ps_ret (pe_makeK M GN hr (by rfl) gC kbN passNo (pa_cons (pe_ix ix_list (pv 0) pe_int (fun _ _ => rfl)) (pa_cons (pe_ix ix_list (pv 0) pe_int (fun _ _ => rfl)) pa_nil)) (pk_cons (pe_ix ix_list (pv 0) pe_int (fun _ _ => rfl)) pk_nil))
    refine ⟨.ref m, rfl, m, _, 0, .int b, rfl, rfl, SqL.of hm, atI_nat (j := 0) rfl, .ref m, rfl, m, _, 1, .ref dl, rfl, rfl, SqL.of hm, atI_nat (j := 1) rfl, .ref m, rfl, m, _, 2, .ref pl, rfl, rfl, SqL.of hm, atI_nat (j := 2) rfl, rfl, rfl, ?_⟩
    have h6 := G.six
    have h36 := G.few
    rw [List.length_map] at h36
    exact made_ok G.b (.lst hd) (by omega) G.all (.lst hp) (by omega) hk G (fun _ => .rfl) (fun _ => .rfl) q

/-! ### the law's text -/
def rowS (is : List Int) : Str := Txt.join (Str.ofString " ") (is.map strI)
def spWords (K : PySem.W.Frag) : Sp := fun vs H Q _ => ∃ (p : Addr) (is : List Int), vs = [.ref p] ∧ (H p = some (.lst (is.map V.int)) ∨ H p = some (.tup (is.map V.int))) ∧ is.length ≤ 200 ∧ (∀ i ∈ is, dig i = true) ∧ ∀ H', Same H H' → Q (.str (rowS is)) H'
abbrev nWo : List Str := ["_law_row", "_law_digit"]
theorem scWo : FnScope nWo ["_law_row"] (defScope sWords) := ⟨rfl, rfl, rfl, by decide +kernel, rfl, by decide +kernel, by decide +kernel⟩
theorem ok_words {f : Addr} {fd : FuncData} (F : Fun K "_law_words" "_law_words" sWords f fd) (ms : mg "str" = none) : FnOk P w K mg base CX0 1 f fd ["_law_row"] (spWords K) := by
  refine F.ok scWo (fun vs H Q E h => ?_) (fun cdv A outer s H vs Q E hr h => ?_)
  · obtain ⟨p, is, rfl, _⟩ := h
    rfl
  · obtain ⟨p, is, rfl, hp, hl, hdg, q⟩ := h
    have hd : ∀ i ∈ is, -9 ≤ i ∧ i ≤ 9 := fun i hi => dig_in (hdg i hi)
    have turn : ∀ (D : Addr), H D = none → ∀ (i : Nat) (x : V) (H' : Hp), (is.map V.int)[i]? = some x → (Same H H' ∧ H' D = some (.lst ((is.take i).map fun k => V.str (strI k)))) → ∃ k : Int, x = .int k ∧ k.natAbs.log2 < 1920 ∧ ∃ acc, H' D = some (.lst acc) ∧ acc.length < sizeLine ∧ (Same H (upd H' D (.lst (acc ++ [.str (toString k)]))) ∧ (upd H' D (.lst (acc ++ [.str (toString k)]))) D = some (.lst ((is.take (i + 1)).map fun k => V.str (strI k)))) := fun D hD i x H' hi ⟨s3, e3⟩ => by
      obtain ⟨k, hk, rfl⟩ := get_map hi
      have hk2 := hd k (List.mem_of_getElem? hk)
      refine ⟨k, rfl, log_le (by omega), _, e3, ?_, Same.store s3 hD, ?_⟩
      · rw [List.length_map]
        exact Nat.lt_of_le_of_lt (List.length_take_le' _ _) (small1000 (by omega))
      · rw [upd_same, take_more hk, List.map_append]
        rfl
    have fin : ∀ (D : Addr) (H3 : Hp), Same H H3 → H3 D = some (.lst ((is.take is.length).map fun k => V.str (strI k))) → H3 D = some (.lst ((is.map strI).map V.str)) ∧ ((is.map strI).map (·.length)).sum + (is.map strI).length * (Str.ofString " ").length ≤ 16777216 := fun D H3 s3 e3 => by
      rw [List.take_length] at e3
      refine ⟨by rw [e3, List.map_map]; rfl, ?_⟩
      have h1 := sum_len (n := 2) (ps := is.map strI) fun y hy => by
        obtain ⟨i, hi, rfl⟩ := List.mem_map.mp hy
        exact (strI_ok (hd i hi)).1
      have h2 : (Str.ofString " ").length = 1 := by decide +kernel
      rw [h2]
      rw [List.length_map] at h1 ⊢
      omega
    rcases hp with hp | hp
    · refine ⟨_, pss_one (ps_ret (pe_join pe_str (pe_lc (own := [("_law_digit", 1)]) (g := gName 1) (tt := tYes) rfl scWo.nd (pi_list (pv 0)) (blkOk_by (own := [("_law_digit", 1)]) (N := nWo) (sc := defScope sWords) (by decide +kernel))
            (fun _ _ _ _ _ => pg_name (i := 1) scWo.nd rfl (Or.inl rfl)) (fun _ _ _ _ _ => pts_nil) (fun _ _ _ _ _ => by exact (pe_callTy call_str_int (by rfl) ms PyProof.Rows.boot_str (pa_cons (pv 1) pa_nil)))))), ?_⟩
      refine ⟨⟨_, rfl⟩, .ref p, rfl, p, rfl, ⟨_, SqL.of hp⟩, fun D hD => ?_⟩
      refine lc_list (K := K) (a := p) (xs := is.map V.int) (fun i H' => Same H H' ∧ H' D = some (.lst ((is.take i).map fun k => V.str (strI k)))) ⟨same_new hD, upd_same⟩ (fun i H' _ h => SqL.of (h.1 _ _ hp)) ?_ ?_
      · rintro i x H' hi h
        obtain ⟨k, rfl, lg, r⟩ := turn D hD i x H' hi h
        exact ⟨rfl, tYes_if ⟨_, rfl, _, rfl, lg, r⟩⟩
      · rintro H3 ⟨s3, e3⟩
        rw [List.length_map] at e3
        obtain ⟨e4, hz⟩ := fin D H3 s3 e3
        exact ⟨_, D, is.map strI, rfl, rfl, .inl (SqL.of e4), hz, q _ s3⟩
    · refine ⟨_, pss_one (ps_ret (pe_join pe_str (pe_lc (own := [("_law_digit", 1)]) (g := gName 1) (tt := tYes) rfl scWo.nd (pi_tup (pv 0)) (blkOk_by (own := [("_law_digit", 1)]) (N := nWo) (sc := defScope sWords) (by decide +kernel))
            (fun _ _ _ _ _ => pg_name (i := 1) scWo.nd rfl (Or.inl rfl)) (fun _ _ _ _ _ => pts_nil) (fun _ _ _ _ _ => by exact (pe_callTy call_str_int (by rfl) ms PyProof.Rows.boot_str (pa_cons (pv 1) pa_nil)))))), ?_⟩
      refine ⟨⟨_, rfl⟩, .ref p, rfl, p, rfl, ⟨_, SqT.of hp⟩, fun D hD => ?_⟩
      refine lc_tup (K := K) (a := p) (xs := is.map V.int) (fun i H' => Same H H' ∧ H' D = some (.lst ((is.take i).map fun k => V.str (strI k)))) ⟨same_new hD, upd_same⟩ (fun i H' _ h => SqT.of (h.1 _ _ hp)) ?_ ?_
      · rintro i x H' hi h
        obtain ⟨k, rfl, lg, r⟩ := turn D hD i x H' hi h
        exact ⟨rfl, tYes_if ⟨_, rfl, _, rfl, lg, r⟩⟩
      · rintro H3 ⟨s3, e3⟩
        rw [List.length_map] at e3
        obtain ⟨e4, hz⟩ := fin D H3 s3 e3
        exact ⟨_, D, is.map strI, rfl, rfl, .inl (SqL.of e4), hz, q _ s3⟩
end
end K08
namespace K08
open PySem PySem.Spec PyProof.Rows L2 OF
section
variable {P : Program} {w : World} {K : PySem.W.Frag} {mg : Str → Option Value} {base : Heap}

/-! ### the text of a base, digits and pairs in any order -/
def textL (b : Int) (ds : List Int) (ps : List (Int × Int)) : Str := lawText b ds ++ Txt.mul (Str.ofString "; bars ") (if (!(ps.map wordS).isEmpty) then 1 else 0) ++ Txt.join (Str.ofString ", ") (ps.map wordS)
theorem row_word (p : Int × Int) : rowS [p.1, p.2] = wordS p := by
  unfold rowS
  rw [TL.join_eq]
  rfl
/-- digits and pairs that a text may have -/
structure Fit (b : Int) (ds : List Int) (ps : List (Int × Int)) : Prop where
  b : isBase b = true
  n : ds.length ≤ 6
  d : ∀ n ∈ ds, dig n = true
  m : ps.length ≤ 36
  p : ∀ z ∈ ps, dig z.1 = true ∧ dig z.2 = true
theorem Fit.word {b : Int} {ds : List Int} {ps : List (Int × Int)} (G : Fit b ds ps) : ∀ z ∈ ps.map wordS, TOk 5 z := fun z hz => by
  obtain ⟨p, hp, rfl⟩ := List.mem_map.mp hz
  obtain ⟨h1, h2⟩ := G.p p hp
  exact (((strI_ok (dig_in h1)).1.app wBlank).app (strI_ok (dig_in h2)).1).mono (by decide)
theorem Fit.tRow {b : Int} {ds : List Int} {ps : List (Int × Int)} (G : Fit b ds ps) : TOk 18 (rowS ds) := by
  have := G.n
  refine (TOk.join wBlank (n := 2) fun z hz => ?_).mono ?_
  · obtain ⟨i, hi, rfl⟩ := List.mem_map.mp hz
    exact (strI_ok (dig_in (G.d i hi))).1
  · rw [List.length_map]
    omega
theorem Fit.tJoin {b : Int} {ds : List Int} {ps : List (Int × Int)} (G : Fit b ds ps) : TOk 252 (Txt.join (Str.ofString ", ") (ps.map wordS)) := by
  have := G.m
  refine (TOk.join wComma G.word).mono ?_
  rw [List.length_map]
  omega
theorem Fit.tHead {b : Int} {ds : List Int} {ps : List (Int × Int)} (G : Fit b ds ps) : TOk 34 (lawText b ds) := (((wBase.app (strI_ok (base_dig G.b)).1).app wSemiD).app G.tRow).mono (by decide)
theorem Fit.tAll {b : Int} {ds : List Int} {ps : List (Int × Int)} (G : Fit b ds ps) : TOk 293 (textL b ds ps) := ((G.tHead.app (mul_ok _)).app G.tJoin).mono (by decide)
theorem Good.fit {b : Int} {ds : List Int} {ps : List (Int × Int)} (G : Good b ds ps) : Fit b ds ps := ⟨G.b, G.six, G.dg, G.few, fun z hz => ⟨G.dg _ (G.mem z hz).1, G.dg _ (G.mem z hz).2⟩⟩
def spText : Sp := fun vs H Q _ => ∃ (dl pl : Addr) (b : Int) (ds : List Int) (ks : List (Addr × (Int × Int))), vs = [.int b, .ref dl, .ref pl] ∧ H dl = some (.lst (ds.map V.int)) ∧ H pl = some (.lst (ks.map fun p => V.ref p.1)) ∧ (∀ p ∈ ks, H p.1 = some (.tup [.int p.2.1, .int p.2.2])) ∧ Fit b ds (ks.map (·.2)) ∧ ∀ H', Same H H' → Q (.str (textL b ds (ks.map (·.2)))) H'
abbrev nTx : List Str := ["_law_base", "_law_digits_here", "_law_shut", "_law_wording", "_law_pair"]
theorem scTx : FnScope nTx ["_law_base", "_law_digits_here", "_law_shut"] (defScope sText) := ⟨rfl, rfl, rfl, by decide +kernel, rfl, by decide +kernel, by decide +kernel⟩
set_option maxHeartbeats 4000000 in
theorem ok_text {f fW : Addr} {fd fdW : FuncData} (F : Fun K "_law_text" "_law_text" sText f fd) (GW : FnOk P w K mg base CX0 1 fW fdW ["_law_row"] (spWords K)) (gW : mg "_law_words" = some (.ref fW)) (kW : PySem.W.keepIn K (.ref fW) = true) (bW : Binds K fdW ["_law_row"] [])
    (ms : mg "str" = none) (mi : mg "int" = none) : FnOk P w K mg base CX0 2 f fd ["_law_base", "_law_digits_here", "_law_shut"] spText := by
  refine F.ok scTx (fun vs H Q E h => ?_) (fun cdv A outer s H vs Q E hr h => ?_)
  · obtain ⟨dl, pl, b, ds, ks, rfl, _⟩ := h
    rfl
  · obtain ⟨dl, pl, b, ds, ks, rfl, hd, hp, hk, G, q⟩ := h
    apply Exists.intro
    apply And.intro
    · apply pss_cons
      · exact ps_set (i := 3) scTx.nd rfl (.inl rfl) (pe_op op_add_str (pe_op op_add_str (pe_op op_add_str pe_str (pe_callTy call_str_int (by rfl) ms PyProof.Rows.boot_str (pa_cons (pv 0) pa_nil))) pe_str) (pe_call GW hr (by rfl) gW kW bW .nil pass0 (pa_cons (pv 1) pa_nil)))
      apply pss_one
      · exact ps_ret (pe_op op_add_str (pe_op op_add_str (pv 3) (pe_op op_mul_txt pe_str (pe_callTy call_int1 (by rfl) mi PyProof.Rows.boot_int (pa_cons (pe_cmpR (op_neNil hr.units) (pv 2) (pe_lst pa_nil) (nomark _)) pa_nil))))
          (pe_join pe_str (pe_lc (own := [("_law_pair", 4)]) (g := gName 4) (tt := tYes) (te := tCall (spWords K) [] E0 (tCons (tVar 4) tNil)) rfl scTx.nd (pi_list (pv 2)) (blkOk_by (own := [("_law_pair", 4)]) (N := nTx) (sc := defScope sText) (by decide +kernel))
            (fun _ _ _ _ _ => pg_name (i := 4) scTx.nd rfl (Or.inl rfl)) (fun _ _ _ _ _ => pts_nil) (fun _ _ _ _ _ => by exact (pe_call GW hr (by rfl) gW kW bW .nil pass0 (pa_cons (pv 4) pa_nil))))))
    have tI := (strI_ok (base_dig G.b)).1
    have gn := G.n
    have gm := G.m
    rw [List.length_map] at gm
    refine ⟨.int b, rfl, b, rfl, log_le (by have := base_dig G.b; omega), _, _, rfl, rfl, ?_, _, _, rfl, rfl, ?_, ?_⟩
    · have k1 := wBase.len
      have k2 := tI.len
      rw [sizeLine_eq]
      exact Nat.le_trans (Nat.add_le_add k1 k2) (by decide)
    · have k1 := (wBase.app tI).len
      have k2 := wSemiD.len
      rw [sizeLine_eq]
      exact Nat.le_trans (Nat.add_le_add k1 k2) (by decide)
    refine ⟨.ref dl, rfl, dl, ds, rfl, .inl hd, by omega, G.d, fun H1 s1 => ⟨_, _, rfl, rfl, ?_, ?_⟩⟩
    · have k1 := ((wBase.app tI).app wSemiD).len
      have k2 := G.tRow.len
      rw [sizeLine_eq]
      exact Nat.le_trans (Nat.add_le_add k1 k2) (by decide)
    have hp1 := s1 _ _ hp
    refine ⟨_, rfl, .ref pl, rfl, (by show 0 ≤ sizeLine; decide), fun g hg => ?_⟩
    have s2 := same_new (o := .lst []) hg
    have hp2 := s2 _ _ hp1
    have sA := s1.trans s2
    refine ⟨pl, g, _, rfl, rfl, SqL.of hp2, SqL.of upd_same, ?_⟩
    rw [List.isEmpty_map]
    generalize upd H1 g (.lst []) = H2 at s2 hp2 sA ⊢
    have em0 : ks.isEmpty = ((ks.map (·.2)).map wordS).isEmpty := by rw [List.isEmpty_map, List.isEmpty_map]
    rw [em0]
    refine .inr ⟨_, rfl, _, _, rfl, rfl, mulok _, _, _, rfl, rfl, ?_, ⟨_, rfl⟩, .ref pl, rfl, pl, rfl, ⟨_, SqL.of hp2⟩, fun D hD => ?_⟩
    · have k1 := G.tHead.len
      have k2 := (mul_ok (!((ks.map (·.2)).map wordS).isEmpty)).len
      rw [sizeLine_eq]
      exact Nat.le_trans (Nat.add_le_add k1 k2) (by decide)
    refine lc_list (K := K) (a := pl) (xs := ks.map fun p => V.ref p.1) (fun i H' => Same H2 H' ∧ H' D = some (.lst ((ks.take i).map fun p => V.str (wordS p.2)))) ⟨same_new hD, upd_same⟩ (fun i H' _ h => SqL.of (h.1 _ _ hp2)) ?_ ?_
    · rintro i x H' hi ⟨s5, e5⟩
      obtain ⟨p, hpi, rfl⟩ := get_map hi
      have mp := List.mem_of_getElem? hpi
      obtain ⟨g1, g2⟩ := G.p p.2 (List.mem_map.mpr ⟨p, mp, rfl⟩)
      refine ⟨rfl, tYes_if ⟨.ref p.1, rfl, p.1, [p.2.1, p.2.2], rfl, .inr ((sA.trans s5) _ _ (hk p mp)), (by show 2 ≤ 200; omega), (fun i hi => ?_), fun H6 s6 => ⟨_, s6 _ _ e5, ?_, Same.store (s5.trans s6) hD, ?_⟩⟩⟩
      · rcases List.mem_cons.mp hi with rfl | hi
        · exact g1
        · rw [List.mem_singleton.mp hi]
          exact g2
      · rw [List.length_map]
        exact Nat.lt_of_le_of_lt (List.length_take_le' _ _) (small1000 (by omega))
      · rw [upd_same, take_more hpi, List.map_append, row_word]
        rfl
    · rintro H5 ⟨s5, e5⟩
      rw [List.length_map, List.take_length] at e5
      have em : (ks.map fun p => V.str (wordS p.2)) = ((ks.map (·.2)).map wordS).map V.str := by
        rw [List.map_map, List.map_map]
        rfl
      rw [em] at e5
      refine ⟨_, D, (ks.map (·.2)).map wordS, rfl, rfl, .inl (SqL.of e5), ?_, _, _, rfl, rfl, ?_, ?_⟩
      · have h1 := sum_len (n := 5) (ps := (ks.map (·.2)).map wordS) G.word
        have h2 : (Str.ofString ", ").length = 2 := by decide +kernel
        show _ + _ * (Str.ofString ", ").length ≤ _
        rw [h2]
        rw [List.length_map, List.length_map] at h1 ⊢
        omega
      · have k1 := (G.tHead.app (mul_ok (!((ks.map (·.2)).map wordS).isEmpty))).len
        have k2 := G.tJoin.len
        rw [sizeLine_eq]
        exact Nat.le_trans (Nat.add_le_add k1 k2) (by decide)
      · exact q _ (sA.trans s5)
theorem Good.text {b : Int} {ds : List Int} {ps : List (Int × Int)} (G : Good b ds ps) : strS b ds ps = textL b ds ps := law_text G
end
end K08
namespace K08
open PySem PySem.Spec PyProof.Rows L2 OF
section
variable {P : Program} {w : World} {K : PySem.W.Frag} {mg : Str → Option Value} {base : Heap}
abbrev nRead : List Str := ["text", "digits", "words", "digit", "word"]
theorem scRd : FnScope nRead ["text"] (defScope sRead) := ⟨rfl, rfl, rfl, by decide +kernel, rfl, by decide +kernel, by decide +kernel⟩
theorem ok_read {f fI C : Addr} {fd fdI : FuncData} {tE t9 : Tok} (F : Fun K "read_row" "read_row" sRead f fd) (GI : FnOk P w K mg base CX0 2 fI fdI ["self", "text"] (spInit K "text" C)) (T : ErrC K mg "InvalidText" "text" C fI) (bI : Binds K fdI ["self", "text"] [])
    (gE : mg "EMPTY_TEXT" = some (.str "." tE)) (g9 : mg "GREATEST_DIGIT" = some (.int 9 t9)) (mi : mg "isinstance" = none) (ms : mg "str" = none) (mr : mg "range" = none) (mall : mg "all" = none) (mtu : mg "tuple" = none) :
    FnOk P w K mg base (L2N.CX P w) 4 f fd ["text"] (OF.spRead C) := by
  refine okXN F scRd (fun vs H Q E h => ?_) (fun cdv A outer s H vs Q E hr h => ?_)
  · obtain ⟨x, rfl, _⟩ := h
    rfl
  · obtain ⟨x, rfl, h⟩ := h
    apply Exists.intro
    apply And.intro
    · apply pss_cons
      · exact ps_if (pt_not (pt_val (pe_callB call_isi (by rfl) mi PyProof.Rows.boot_isinstance (pa_cons (pv 0) (pa_cons (pe_bltn (v := .ty "str") (by rfl) ms PyProof.Rows.boot_str rfl) pa_nil)))))
          (pss_one (L2N.ps_raise rfl (L2N.takes_of rfl rfl rfl rfl) (pmk_oexN T.ox T.iC T.tI GI hr bI pass0 (by rfl) T.g (pa_cons (pv 0) pa_nil)))) pss_nil
      apply pss_cons
      · exact ps_if (pt_cmpR op_eq (pv 0) (pe_glob (v := .str ".") rfl gE ⟨_, rfl⟩) (nomark _)) (pss_one (ps_ret (pe_tup pa_nil))) pss_nil
      apply pss_cons
      · exact ps_set (i := 1) scRd.nd rfl (.inr rfl) (pe_dc (own := [("digit", 3)]) (g := gName 3) (tt := tYes) rfl scRd.nd
          (pi_range2 rfl mr (pa_cons (pe_un un_neg (pe_glob (v := .int 9) rfl g9 ⟨_, rfl⟩)) (pa_cons (pe_op op_add (pe_glob (v := .int 9) rfl g9 ⟨_, rfl⟩) pe_int) pa_nil)))
          (blkOk_by (own := [("digit", 3)]) (N := nRead) (sc := defScope sRead) (by decide +kernel)) (fun _ _ _ _ _ => pg_name (i := 3) scRd.nd rfl (Or.inl rfl)) (fun _ _ _ _ _ => pts_nil)
          (fun _ _ _ _ _ => by exact (pe_callTy call_str_int (by rfl) ms PyProof.Rows.boot_str (pa_cons (pv 3) pa_nil))) (fun _ _ _ _ _ => by exact (pv 3)))
      apply pss_cons
      · exact ps_set (i := 2) scRd.nd rfl (.inl rfl) (pe_split (pv 0) pe_str)
      apply pss_cons
      · exact ps_if (pt_not (pt_val (pe_callB (cr_all rfl) (by rfl) mall (by decide +kernel) (pa_cons (pe_lc (own := [("word", 4)]) (g := gName 4) (tt := tYes) (te := tDIn (tVar 4) (tVar 1)) rfl scRd.nd (pi_list (pv 2))
            (blkOk_by (own := [("word", 4)]) (N := nRead) (sc := defScope sRead) (by decide +kernel)) (fun _ _ _ _ _ => pg_name (i := 4) scRd.nd rfl (Or.inl rfl)) (fun _ _ _ _ _ => pts_nil)
            (fun _ _ _ _ _ => by exact (pe_cmp (pc_din (hu_of hr) (pv 4) (pv 1))))) pa_nil))))
          (pss_one (L2N.ps_raise rfl (L2N.takes_of rfl rfl rfl rfl) (pmk_oexN T.ox T.iC T.tI GI hr bI pass0 (by rfl) T.g (pa_cons (pv 0) pa_nil)))) pss_nil
      apply pss_one
      · exact ps_ret (pe_callTy call_tuple_of (by rfl) mtu (by decide +kernel) (pa_cons (pe_lc (own := [("word", 4)]) (g := gName 4) (tt := tYes) (te := tDGet (tVar 1) (tVar 4)) rfl scRd.nd (pi_list (pv 2))
            (blkOk_by (own := [("word", 4)]) (N := nRead) (sc := defScope sRead) (by decide +kernel)) (fun _ _ _ _ _ => pg_name (i := 4) scRd.nd rfl (Or.inl rfl)) (fun _ _ _ _ _ => pts_nil)
            (fun _ _ _ _ _ => by exact (pe_dget (hu_of hr) (pv 1) (pv 4) (fun _ _ => rfl)))) pa_nil))
    rcases h with ⟨z, rfl, hz, hok, hno⟩ | ⟨o, hE⟩
    · refine ⟨.str z, rfl, .str z, .ty "str", .type "str", .type "str", true, rfl, .ty _, .base (.str z), kit_ty (by decide +kernel), true, rfl, iteF ?_⟩
      refine ⟨.str z, rfl, rfl, _, rfl, ite2 (fun c => ?_) (fun c => ?_)⟩
      · have ez : z = Str.ofString "." := V.str.inj (of_decide_eq_true c)
        exact ⟨(by show 0 ≤ sizeLine; decide), fun p hp => hok [] (if_pos ez) p _ hp (same_new hp) upd_same⟩
      · have ez : z ≠ Str.ofString "." := fun e => c (decide_eq_true (congrArg V.str e))
        have er : readV z = rowOf (Txt.split z (Str.ofString " ")) := if_neg ez
        have hlen : (Txt.split z (Str.ofString " ")).length < sizeLine := by
          have := PyProof.Rows.split_le z (Str.ofString " ")
          rw [sizeLine_eq]
          omega
        refine ⟨9, rfl, _, _, rfl, rfl, -9, _, rfl, ⟨by decide, by decide, by decide, by decide⟩, fun D hD => ?_⟩
        refine dc_range (lo := -9) (n := 19) (fun i H' => Same H H' ∧ H' D = some (.dK (digL.take i))) ⟨same_new hD, upd_same⟩ ?_ ?_
        · rintro i H' hi ⟨s1, e1⟩
          refine ⟨rfl, tYes_if ⟨_, rfl, _, rfl, log_le (by omega), _, rfl, _, Sum.inr _, rfl, e1, ?_, Same.store s1 hD, ?_⟩⟩
          · rw [sizeLine_eq]
            exact Nat.lt_of_le_of_lt (List.length_take_le _ _) (by omega)
          · rw [upd_same, digL_put i hi]
        · rintro H1 ⟨s1, e1⟩
          rw [digL_all] at e1
          refine ⟨.str z, rfl, ⟨z, rfl⟩, z, Str.ofString " ", rfl, rfl, by decide +kernel, (by rw [sizeLine_eq]; omega), fun p hp => ?_⟩
          generalize hws : Txt.split z (Str.ofString " ") = ws at hlen er ⊢
          have s2 : Same H1 (upd H1 p (.lst (ws.map V.str))) := same_new hp
          have eD := s2 _ _ e1
          have ep : (upd H1 p (.lst (ws.map V.str))) p = some (.lst (ws.map V.str)) := upd_same
          generalize upd H1 p (.lst (ws.map V.str)) = H2 at s2 eD ep ⊢
          refine ⟨.ref p, rfl, p, rfl, ⟨_, SqL.of ep⟩, fun D2 n2 => ?_⟩
          refine lc_list (K := K) (a := p) (xs := ws.map V.str) (fun i H' => Same H2 H' ∧ H' D2 = some (.lst ((ws.take i).map fun w => V.bl (OF.digV w).isSome))) ⟨same_new n2, upd_same⟩ (fun i H' _ h => SqL.of (h.1 _ _ ep)) ?_ ?_
          · rintro i x H' hx ⟨s3, e3⟩
            obtain ⟨u, hu, rfl⟩ := get_map hx
            refine ⟨rfl, tYes_if ⟨.str u, rfl, .ref D, rfl, D, _, rfl, DGet.k (k := Sum.inr u) (s3 _ _ eD), _, e3, ?_, Same.store s3 n2, ?_⟩⟩
            · rw [List.length_map]
              exact Nat.lt_of_le_of_lt (List.length_take_le' _ _) hlen
            · rw [upd_same, take_more hu, List.map_append]
              rfl
          · rintro H3 ⟨s3, e3⟩
            rw [List.length_map, List.take_length] at e3
            refine ⟨D2, ws.map fun w => (OF.digV w).isSome, rfl, SqL.of (by rw [e3, List.map_map]; rfl), _, rfl, ?_⟩
            have eall : (ws.map fun w => (OF.digV w).isSome).all id = ws.all (fun w => (OF.digV w).isSome) := by
              rw [List.all_map]
              rfl
            rw [eall]
            by_cases hb : ws.all (fun w => (OF.digV w).isSome) = true
            · refine iteFB (by rw [hb]; rfl) ?_
              refine ⟨.ref p, rfl, p, rfl, ⟨_, SqL.of (s3 _ _ ep)⟩, fun D3 n3 => ?_⟩
              refine lc_list (K := K) (a := p) (xs := ws.map V.str) (fun i H' => Same H3 H' ∧ H' D3 = some (.lst ((ws.take i).map fun w => (OF.digV w).getD .non))) ⟨same_new n3, upd_same⟩ (fun i H' _ h => SqL.of (h.1 _ _ (s3 _ _ ep))) ?_ ?_
              · rintro i x H' hx ⟨s4, e4⟩
                obtain ⟨u, hu, rfl⟩ := get_map hx
                have hs : (OF.digV u).isSome = true := List.all_eq_true.mp hb u (List.mem_of_getElem? hu)
                obtain ⟨v, hv⟩ := Option.isSome_iff_exists.mp hs
                have dg : DGet H' D (.str u) (some v) := by
                  have q := DGet.k (k := Sum.inr u) (s4 _ _ (s3 _ _ eD))
                  have q2 : valV digL (Sum.inr u) = some v := hv
                  rw [q2] at q
                  exact q
                refine ⟨rfl, tYes_if ⟨.ref D, rfl, .str u, rfl, D, v, rfl, dg, _, e4, ?_, Same.store s4 n3, ?_⟩⟩
                · rw [List.length_map]
                  exact Nat.lt_of_le_of_lt (List.length_take_le' _ _) hlen
                · rw [upd_same, take_more hu, List.map_append]
                  show _ = some (HO.lst (_ ++ [(OF.digV u).getD .non]))
                  rw [hv]
                  rfl
              · rintro H4 ⟨s4, e4⟩
                rw [List.length_map, List.take_length] at e4
                have sAll : Same H H4 := s1.trans (s2.trans (s3.trans s4))
                refine ⟨D3, _, rfl, .inl ⟨SqL.of e4, fun l hl => ?_⟩⟩
                refine hok _ ?_ l _ (sAll.free hl) (Same.store sAll (sAll.free hl)) upd_same
                rw [er]
                exact if_pos hb
            · refine iteTB (by rw [Bool.eq_false_iff.mpr hb]; rfl) ?_
              have hn : readV z = none := by
                rw [er]
                exact if_neg hb
              exact ⟨.str z, rfl, raised_ok (σ := start nRead [.str z]) (D := { nx := fun _ H' => Q .non H', rt := Q }) (hno hn) (s1.trans (s2.trans s3))⟩
    · obtain ⟨t, ty, k1⟩ := o.kit (K := K)
      refine ⟨x, rfl, x, .ty "str", t, .type "str", false, rfl, .ty _, ty, k1, false, rfl, iteT ?_⟩
      exact ⟨x, rfl, raised_ok (σ := start nRead [x]) (D := { nx := fun _ H' => Q .non H', rt := Q }) hE (Same.refl H)⟩
end
end K08
/-! A list comprehension of two clauses whose element is a call that may raise. -/
namespace OF
open PySem PySem.Spec PyProof.Rows L2

theorem hid_none {h : Heap} {l : List Addr} {b : Addr} (e : h.get? b = none) : (PySem.W.hideAll h l).get? b = none := by
  cases q : (PySem.W.hideAll h l).get? b with
  | none => rfl
  | some o =>
    have z := PySem.W.of_hideAll l q
    rw [e] at z
    cases z
/-- the block's names let go: what is held stays held, over the ground without the block -/
theorem held_but {base h h' : Heap} {l : List Env} {a L C : Addr} {Z : Obj → Prop} {m m' : Str → Option Value} (x : HandSPX.HeldZ base l a Z L h) (hn : h.Ns C m) (hn' : h'.Ns C m') (sb : Heap.SameBut C h h') :
    HandSPX.HeldZ (PySem.W.hideAll base [C]) l a Z L h' := by
  obtain ⟨k1, k2, k3, oe, vs, T, oT, ts, he, hz, hd, h1, hnT, hTe, hT, hdT, h3⟩ := x
  obtain ⟨oL, es, ep, hoL, hdL, _⟩ := hn
  have neA : a ≠ C := fun q => by
    subst q
    cases he.symm.trans hoL
    cases hd.symm.trans hdL
  have neT : T ≠ C := fun q => by
    subst q
    cases hT.symm.trans hoL
    cases hdT.symm.trans hdL
  refine ⟨fun b o e => ?_, hid_none k2, ?_, oe, vs, T, oT, ts, (sb.2 a neA).trans he, hz, hd, h1, hid_none hnT, hTe, (sb.2 T neT).trans hT, hdT, h3⟩
  · have n : b ≠ C := fun z => by
      rw [z, PySem.W.hideAll_none [C] (List.mem_singleton.mpr rfl)] at e
      cases e
    exact (sb.2 b n).trans (k1 b o (PySem.W.of_hideAll [C] e))
  · exact L2.funFrames_none (Heap.FunFrames.sameBut sb hn' k3) fun b hb => hid_none (k3.mem hb).1

section
variable {X : Cx} {pins pins' : List (Addr × Obj)} {σ σ' : L2.St} {H3 H' H1 : Hp} {s3 s s' : Shared} {B : Heap} {W : WX} {E : XK} {scope : Scope} {ce : Env} {fp : List Addr} {a : Addr} {cls : Value} {d : Option Addr}
/-- behind the notes, the exception leaves the block -/
theorem comp_fails (hf : X.env.frame = some X.env.locals) (tk : Takes X W) (hW : ∀ cls d H, E cls d H → W cls d σ H) (I3 : Inv X pins σ H3 s3) (f3 : ∀ b ∈ fp, FpOk X pins H3 b) (hce : ce.frame = X.env.frame)
    (J : Inv (X.blk s3 H3 scope ce fp) pins' σ' H' s) (hok : HOk X.prog X.w H1 B) (ub : UB (frs X.stack) H' H1 s.heap B s'.heap) (na : H1 a = none) (os : s'.os = s.os) (ag : AllBare s'.gens) (hE : E cls d H1)
    {h1 : Heap} (hl : HandSPX.HeldZ B X.stack a (Zc cls d) X.env.locals h1) (up : s'.heap.UpToSlots h1) : CompFails (model X.prog X.w) X.A X.xe ce (.ref a) { s' with heap := h1 } := by
  obtain ⟨mJ, hnJ, _⟩ := J.loc
  have hnJ : s.heap.Ns ce.locals mJ := hnJ
  have nC : H' ce.locals = none := J.free
  have above : s3.heap.objs.size ≤ ce.locals := J.ok.above
  have under : ∀ {b o}, s3.heap.get? b = some o → b ≠ ce.locals := fun {b o} e z => by
    have q := Heap.lt_size e
    rw [z] at q
    exact absurd (Nat.lt_of_lt_of_le q above) (Nat.lt_irrefl _)
  have fr : ∀ b ∈ frs X.stack, ∃ o, s3.heap.get? b = some o ∧ ∀ vs, o.data ≠ .fields vs := fun b hb => by
    obtain ⟨_, o, e, nf⟩ := I3.stack.mem hb
    exact ⟨o, e, nf⟩
  have cst : ce.locals ∉ frs X.stack := fun hb => by
    obtain ⟨o, e, _⟩ := fr _ hb
    exact under e rfl
  obtain ⟨oC, es, ep, hoC, rC⟩ := hnJ
  have nC1 : H1 ce.locals = none := ub.free _ _ hoC nC
  have hnB : B.Ns ce.locals mJ := ⟨oC, es, ep, ub.keep _ _ hoC nC cst, rC⟩
  have hn1 : h1.Ns ce.locals mJ := hnB.keeps hl.1
  refine ⟨mJ, hn1, fun h2 m2 hn2 sb => ?_⟩
  have hl2 := held_but hl hn1 hn2 sb
  obtain ⟨oe, vs, T, oT, ts, he, hz, hd, hT1, _⟩ := hl2.2.2.2
  unfold PySem.passOn
  refine wpAny_bind (wpAny_field he hd hT1 ?_)
  rw [if_neg (show ¬ ((Value.ref T == Value.none) = true) from by simp), hce, hf]
  refine wpAny_bind (HandSPX.setFlight_onZ hl2 fun h3 hl3 up3 => ?_)
  refine wpAny_throw (tk _ _ ?_)
  obtain ⟨G, g1, g2⟩ := L2.restrict h3 fun b => ((PySem.W.hideAll B [ce.locals]).get? b).isSome || decide (b ∈ frs X.stack)
  have gB : ∀ b o, B.get? b = some o → b ≠ ce.locals → G.get? b = some o := fun b o e n => by
    have e' := PySem.W.hideAll_get [ce.locals] e fun z => n (List.mem_singleton.mp z)
    rw [g1 b (by simp [e'])]
    exact hl3.1 b o e'
  have gF : ∀ b, b ∈ frs X.stack → G.get? b = h3.get? b := fun b hb => g1 b (by simp [hb])
  have og : ∀ b o, G.get? b = some o → h3.get? b = some o ∧ (((PySem.W.hideAll B [ce.locals]).get? b).isSome = true ∨ b ∈ frs X.stack) := fun b o e => by
    cases q : (((PySem.W.hideAll B [ce.locals]).get? b).isSome || decide (b ∈ frs X.stack)) with
    | false =>
      rw [g2 b q] at e
      cases e
    | true =>
      rw [g1 b q] at e
      exact ⟨e, by simpa [Bool.or_eq_true] using q⟩
  have slots : ∀ b o, s3.heap.get? b = some o → b ∈ frs X.stack → H3 b = none → b ∉ fp → ∃ sl, G.get? b = some { o with slots := sl } := fun b o e hb n hx => by
    obtain ⟨o', e', nf⟩ := fr b hb
    cases e.symm.trans e'
    obtain ⟨sl, e1⟩ := J.base.slot b o e n hb hx
    obtain ⟨sl2, e2⟩ := ub.slot b _ e1 hb
    obtain ⟨sl3, e3⟩ := up b _ e2 nf
    obtain ⟨sl4, e4⟩ := up3 b _ ((sb.2 b (under e)).trans e3) nf
    exact ⟨sl4, (gF b hb).trans e4⟩
  have u : Un (frs X.stack) fp H3 H1 s3.heap G := by
    refine ⟨fun b o e n hb hx => ?_, fun b o e n hb hx => slots b o e hb n hx, fun b o e n hx => ?_, fun b o e hx => ?_, fun b xs e => ub.tups b xs (J.base.tups b xs e), fun b o v e => ub.frzs b o v (J.base.frzs b o v e), fun b ps e => ?_⟩
    · exact gB b o (ub.keep b o (J.base.keep b o e n hb hx) (J.base.free b o e n hx) hb) (under e)
    · obtain ⟨sl, e1⟩ := J.base.any e n hx
      exact ub.free b _ e1 (J.base.free b o e n hx)
    · by_cases hb : b ∈ frs X.stack
      · obtain ⟨sl, q⟩ := slots b o e hb (I3.stkFree b hb) hx
        exact ⟨_, q⟩
      · obtain ⟨o1, e1⟩ := J.base.there b o e hx
        obtain ⟨o2, e2⟩ := ub.there b o1 e1 hb
        exact ⟨o2, gB b o2 e2 (under e)⟩
    · obtain ⟨m1, e1⟩ := J.base.tbls b ps e
      obtain ⟨m2, e2⟩ := ub.tbls b _ e1
      exact ⟨m1 ++ m2, by rw [e2, Array.append_assoc]⟩
  have hG : HOk X.prog X.w H1 G := fun b o q => (hok b o q).stay (fun c v hc r => gB c v r fun z => by
    rcases hc with hc | hc
    · rw [← hc, z, nC1] at q
      cases q
    · rw [z, nC1] at hc
      cases hc) (fun _ r => r) fun _ _ r => r
  have IX : Inv X pins σ H1 { s with heap := G, gens := s'.gens, drawn := s'.drawn, toks := s'.toks } := I3.call' (ch := fp) J.os u hG ag fun b hb => ⟨(f3 b hb).2.2.2.1, (f3 b hb).2.1, (f3 b hb).2.2.2.2.1, (f3 b hb).2.2.2.2.2⟩
  refine ⟨a, PySem.W.hideAll B [ce.locals], _, pins, σ, H1, cls, d, rfl, IX, fun b o e hb => ?_, Heap.UpToSlots.of_keeps fun b o e => (og b o e).1, .inr (.inr hl3), na, os, ag, hW _ _ _ hE⟩
  obtain ⟨e', h⟩ := og b o e
  rcases h with h | h
  · obtain ⟨o', q⟩ := Option.isSome_iff_exists.mp h
    have z := hl3.1 b o' q
    cases e'.symm.trans z
    exact q
  · exact absurd h hb

/-- what a raise in the inner loop of a block owes -/
abbrev owes2 (X : Cx) (ce : Env) : Value → Shared → Prop := notedBy (model X.prog X.w) X.A ce (cameBackBy (model X.prog X.w) X.A ce (notedBy (model X.prog X.w) X.A ce (CompFails (model X.prog X.w) X.A X.xe ce)))
theorem owes2_call (hs : X.stack = X.env :: X.outer) (hf : X.env.frame = some X.env.locals) (tk : Takes X W) (hW : ∀ cls d H, E cls d H → W cls d σ H) (I3 : Inv X pins σ H3 s3) (f3 : ∀ b ∈ fp, FpOk X pins H3 b) (hce : ce.frame = X.env.frame) :
    Passes (L2.CX X.prog X.w) ((X.blk s3 H3 scope ce fp).wish (owes2 X ce)) E := by
  intro pins' σ' H' s e s' J c
  have J : Inv (X.blk s3 H3 scope ce fp) pins' σ' H' s := J.unwish
  obtain ⟨a, B, H1, cls, d, rfl, fl, hok, ub, na, os, ag, hE⟩ := c
  have fl : HandSPX.FlyingZ B X.stack a (Zc cls d) s'.heap := fl
  have ub : UB (frs X.stack) H' H1 s.heap B s'.heap := ub
  have hfr : X.A.frames = some (X.env :: X.outer) := by rw [I3.ok.frames, hs]
  show wpAny (model X.prog X.w) X.A (noteFrame (.ref a) ce) _ _ s'
  rw [noteFrame_env _ hce]
  rw [hs] at fl
  refine HandSPX.looks_onZ Zc.steady hfr hf fl fun h1 hl1 up1 => ?_
  obtain ⟨oe, vs, T, oT, ts, he, hz, hd, hT1, _⟩ := hl1.2.2.2
  show wpAny (model X.prog X.w) X.A (do
    if (← field (.ref a) 1) == .none then unsupported "frame.own-activation:exception-without-traceback"
    setFlight (.ref a) ce.frame) _ _ _
  refine wpAny_bind (wpAny_field he hd hT1 ?_)
  rw [if_neg (show ¬ ((Value.ref T == Value.none) = true) from by simp), hce, hf]
  refine HandSPX.setFlight_onZ hl1 fun h2 hl2 up2 => ?_
  show wpAny (model X.prog X.w) X.A (noteFrame (.ref a) ce) _ _ _
  rw [noteFrame_env _ hce]
  refine HandSPX.againZ hf hl2.2.2.2 ?_
  rw [← hs] at hl2
  exact comp_fails hf tk hW I3 f3 hce J hok ub na os ag hE hl2 (up1.trans up2)
end
end OF
namespace OF
open PySem PySem.Spec PyProof.Rows L2

section
variable {prog : Program} {w : World} {A : Around} {R : Result → Shared → Prop} {s : Shared} {elt ta ia tb ib : Expr} {ifa ifb : List Expr} {scope : Scope} {pos : Pos} {it acc : Value} {env : Env}
/-- the first clause's loop, where the second one's may be left by an error -/
theorem outerX (fold : ∀ x, foldedSetIterable ib env x = pure x) (I : Nat → Shared → Prop) {Er : Value → Shared → Prop} (hEr : Er = notedBy (model prog w) A env fun e s' => R (.error e) s')
    (turn : ∀ n s, I n s → wpAny (model prog w) A (pyNext it) (fun r sa => match r with
      | none => R (.ok .next) sa
      | some v => wpAny (model prog w) A (letOwnedTupleGo ta it v) (fun _ sb => wpAny (model prog w) A (assign ta env v) (fun _ sc =>
          wpAny (model prog w) A (forIn ifa true fun c r => if r = true then do let ok ← isTrue c env (eval c env); pure (ForInStep.yield ok) else pure (ForInStep.yield r)) (fun good sd =>
            if good = true then wpAny (model prog w) A (eval ib env) (fun x se => wpAny (model prog w) A (pyIter x) (fun itb sf =>
              codeAny (model prog w) A (.compStart (.ListComp elt [⟨ta, ia, ifa, 0⟩, ⟨tb, ib, ifb, 0⟩] scope pos) 1 itb acc env) (fun r s' => match r with
                | .ok _ => ∃ m, m < n ∧ I m s'
                | .error e => cameBackBy (model prog w) A env Er e s') sf) Er se) Er sd
            else ∃ m, m < n ∧ I m sd) Er sc) Er sb) Er sa) Er s)
    (n : Nat) (h : I n s) : codeAny (model prog w) A (.compLoop (.ListComp elt [⟨ta, ia, ifa, 0⟩, ⟨tb, ib, ifb, 0⟩] scope pos) 0 it acc env) R s := by
  subst hEr
  refine codeAny_loop rfl I (fun k sk hk => ?_) n h
  show wpAny _ A ((compTurn (.ListComp elt [⟨ta, ia, ifa, 0⟩, ⟨tb, ib, ifb, 0⟩] scope pos) 0 it acc env).onRaise (fun x => do noteFrame x env; theTreesLotGoes x)) _ _ sk
  refine wpAny_noted ?_
  rw [compTurn2_out]
  refine wpAny_bind (wpAny_standAt (wpAny_bind (wpAny_mono (turn k sk hk) (fun r sa qa => ?_) fun _ _ z => z)))
  cases r with
  | none => exact wpAny_pure qa
  | some v =>
    refine wpAny_bind (wpAny_mono qa (fun _ sb qb => wpAny_bind (wpAny_mono qb (fun _ sc qc => wpAny_bind (wpAny_mono qc (fun good sd qd => ?_) fun _ _ z => z)) fun _ _ z => z)) fun _ _ z => z)
    cases good with
    | false => exact wpAny_pure ⟨rfl, qd⟩
    | true =>
      refine wpAny_bind (wpAny_mono qd (fun x se qe => ?_) fun _ _ z => z)
      refine wpAny_bind (wpAny_standAt (wpAny_bind (wpAny_of_eq (fold x) (wpAny_bind (wpAny_holding (wpAny_mono qe (fun itb sf qf => ?_) fun _ _ z => z))))))
      refine wpAny_bind (wpAny_runOwn ?_)
      rw [Around.mark_none]
      refine codeAny_mono qf fun r s' hr => ?_
      cases r with
      | error e => exact hr
      | ok f =>
        first
          | exact wpAny_pure ⟨rfl, hr⟩
          | exact wpAny_bind (wpAny_pure (wpAny_pure ⟨rfl, hr⟩))
end

section
variable {X : Cx}
theorem lc2X_core {pins : List (Addr × Obj)} {s : Shared} {σ : L2.St} {H : Hp} {Q : VK} {elt ta ia tb ib : Expr} {ifa ifb : List Expr} {scope : Scope} {own : List (Str × Nat)} {vb : List Nat} {pos pos' : Pos} {wa wb : TI} {ga gb : TG} {qa qb : TT} {te : TE} {W : WX} {E : XK} {use : Option (Value → Sem Unit)} {Qf : Value → Shared → Prop}
    (hc : X.calm = true) (hN : X.N.Nodup) (I : Inv X pins σ H s) (hs : X.stack = X.env :: X.outer) (hf : X.env.frame = some X.env.locals) (tk : Takes X W) (hW : ∀ cls d σ H, E cls d H → W cls d σ H)
    (hi : PI X ta ia wa) (ok : BlkOk X.N X.env.scope scope own) (hv : ∀ i ∈ vb, i ∈ own.map (·.2))
    (hga : ∀ s H C cl fp, PG (X.blk s H scope (compEnvC scope cl C X.env) fp) ta ga) (hqa : ∀ s H C cl fp, PTs (X.blk s H scope (compEnvC scope cl C X.env) fp) ifa qa)
    (hib : ∀ s H C cl fp, PI (X.blk s H scope (compEnvC scope cl C X.env) fp) tb ib wb) (hgb : ∀ s H C cl fp, PG (X.blk s H scope (compEnvC scope cl C X.env) fp) tb gb) (hqb : ∀ s H C cl fp, PTs (X.blk s H scope (compEnvC scope cl C X.env) fp) ifb qb)
    (he : ∀ s H C cl fp F, Passes (L2.CX X.prog X.w) ((X.blk s H scope (compEnvC scope cl C X.env) fp).wish F) E → PE ((X.blk s H scope (compEnvC scope cl C X.env) fp).wish F) elt te)
    (folda : ∀ x, foldedSetIterable ia X.env x = pure x) (foldb : ∀ env x, foldedSetIterable ib env x = pure x)
    (h : tLc2 wa ga qa wb gb qb te (own.map (·.2)) vb σ H Q)
    (fin : ∀ D C s' m H', Inv X pins σ H' s' → Q (.ref D) H' → s'.heap.Ns C m → FpOk X pins H' C → ∀ ce : Env, ce.locals = C → compEnds (model X.prog X.w) X.A X.xe use Qf (.ref D) ce (.ok .next) s') :
    wpAny (model X.prog X.w) X.A (comprehension (.ListComp elt [⟨ta, ia, ifa, 0⟩, ⟨tb, ib, ifb, 0⟩] scope pos) scope X.env pos' (newList []) false (eval ia X.env) use) Qf X.xe s := by
  have caught : ∀ y ∈ scope.names, y.2 = .free → ∃ c, X.env.cells.lookup y.1 = some c := fun y hy e => (ok.free y hy e).elim (fun k => I.ok.has _ (.inl k)) fun k => I.ok.has _ (.inr k)
  refine comprehension_at (use := use) rfl folda (closure_ok caught) ok.kind (fun y hy e => by rw [ok.uniq y hy, e]) (thn (hi.run pins s σ H _ I h) fun xv sa hx => thn hx fun itv sb hb => ?_)
  obtain ⟨ita, fa, tna, J, Hb, rfl, Ib, T, stb, fb, q⟩ := hb
  refine wpAny_newObj_type (newEnv_comp ?_) (by show 0 ≤ sizeLine; decide)
  generalize hD : sb.heap.objs.size = D
  have nD : Hb D = none := Ib.hok.fresh (Nat.le_of_eq hD)
  obtain ⟨V0, ⟨m0, w0⟩, turn⟩ := q D nD
  generalize hsc : ({ sb with heap := sb.heap.push { cls := .type "list", data := .seq ([] : List Value).toArray } } : Shared) = sc
  have hsc' : sc.heap = sb.heap.push { cls := .type "list", data := .seq ([] : List Value).toArray } := by rw [← hsc]
  have Ic : Inv X pins σ (upd Hb D (.lst [])) sc := by
    rw [← hsc]
    refine Ib.laid (t' := sb.toks) (fun b o e => Heap.get?_push_of_some _ e) (Nat.le_of_eq hD) ⟨Nat.zero_le _, [], 0, .nil, ?_⟩
    rw [← hD]
    exact Heap.get?_push_size _ rfl
  have small : ∀ b ∈ fa, b < sb.heap.objs.size := fun b hb => by
    obtain ⟨o, e, _⟩ := T.obj _ _ stb b hb
    exact Heap.lt_size e
  have fc : ∀ b ∈ fa, FpOk X pins (upd Hb D (.lst [])) b ∧ b < sc.heap.objs.size := fun b hb => by
    have lt := small b hb
    refine ⟨⟨?_, (fb b hb).2⟩, by rw [hsc', Heap.size_push]; exact Nat.lt_succ_of_lt lt⟩
    rw [upd_ne (by rw [← hD]; exact Nat.ne_of_lt lt)]
    exact (fb b hb).1
  have stc : tna 0 sc.heap := T.keep _ _ _ stb fun b _ o e => by
    rw [hsc']
    exact Heap.get?_push_of_some _ e
  have Id := block_start Ic ok hN fc
  have Ga := hga sc (upd Hb D (.lst [])) sc.heap.objs.size (cellsFrom (sc.heap.objs.size + 1) scope.names (cloFrom X.env.cells scope.names [])) fa
  have Ta := hqa sc (upd Hb D (.lst [])) sc.heap.objs.size (cellsFrom (sc.heap.objs.size + 1) scope.names (cloFrom X.env.cells scope.names [])) fa
  have Wb := hib sc (upd Hb D (.lst [])) sc.heap.objs.size (cellsFrom (sc.heap.objs.size + 1) scope.names (cloFrom X.env.cells scope.names [])) fa
  have Gb := hgb sc (upd Hb D (.lst [])) sc.heap.objs.size (cellsFrom (sc.heap.objs.size + 1) scope.names (cloFrom X.env.cells scope.names [])) fa
  have Tb := hqb sc (upd Hb D (.lst [])) sc.heap.objs.size (cellsFrom (sc.heap.objs.size + 1) scope.names (cloFrom X.env.cells scope.names [])) fa
  have Pe := fun F => he sc (upd Hb D (.lst [])) sc.heap.objs.size (cellsFrom (sc.heap.objs.size + 1) scope.names (cloFrom X.env.cells scope.names [])) fa F
  show codeAny _ _ (.compStart (.ListComp elt [⟨ta, ia, ifa, 0⟩, ⟨tb, ib, ifb, 0⟩] scope pos) 0 (.ref ita) (.ref D) (compEnvC scope (cellsFrom (sc.heap.objs.size + 1) scope.names (cloFrom X.env.cells scope.names [])) sc.heap.objs.size X.env))
    (compEnds (model X.prog X.w) X.A X.xe use Qf (.ref D) (compEnvC scope (cellsFrom (sc.heap.objs.size + 1) scope.names (cloFrom X.env.cells scope.names [])) sc.heap.objs.size X.env)) { sc with heap := pushCells (sc.heap.push { cls := .type "dict", data := .dict #[] }) scope.names }
  have none_c : ∀ b ∈ fa, (upd Hb D (.lst [])) b = none := fun b hb => (fc b hb).1.1
  generalize hce : compEnvC scope (cellsFrom (sc.heap.objs.size + 1) scope.names (cloFrom X.env.cells scope.names [])) sc.heap.objs.size X.env = ce at Id Ga Ta Wb Gb Tb Pe ⊢
  have cL : ce.locals = sc.heap.objs.size := by subst hce; rfl
  have cF : ce.frame = X.env.frame := by subst hce; rfl
  generalize hHc : upd Hb D (.lst []) = Hc at Ic Id Ga Ta Wb Gb Tb Pe w0 none_c fc
  have Pe := Pe _ (owes2_call hs hf tk (fun cls d H z => hW cls d σ H z) Ic (fun b hb => (fc b hb).1) cF)
  generalize hsd : ({ sc with heap := pushCells (sc.heap.push { cls := .type "dict", data := .dict #[] }) scope.names } : Shared) = sd at Id ⊢
  have std : tna 0 sd.heap := T.keep _ _ _ stc fun b _ o e => by
    rw [← hsd]
    exact pushCells_keeps _ _ _ _ (Heap.get?_push_of_some _ e)
  have still : ∀ {σ' : L2.St} {H' : Hp} {s' : Shared}, Inv (X.blk sc Hc scope ce fa) [] σ' H' s' → (∀ b ∈ fa, H' b = none) → ∀ b ∈ fa, FpOk (X.blk sc Hc scope ce fa) [] H' b := fun {σ' H' s'} I' nn b hb =>
    ⟨nn b hb, (I'.ok.exf b hb).1, I'.ok.exfs b hb, .inl hb, fun x c e => (I'.ok.exf b hb).2 x c e, fun p hp => absurd (show p ∈ ([] : List (Addr × Obj)) ++ [] from hp) (by simp)⟩
  have failE : ∀ e s', CompFails (model X.prog X.w) X.A X.xe ce e s' → compEnds (model X.prog X.w) X.A X.xe use Qf (.ref D) ce (.error e) s' := fun e s' z => by
    cases use <;> exact z
  have eF : (fun e s' => compEnds (model X.prog X.w) X.A X.xe use Qf (.ref D) ce (.error e) s') = CompFails (model X.prog X.w) X.A X.xe ce := by
    funext e s'
    cases use <;> rfl
  have loop : codeAny (model X.prog X.w) X.A (.compLoop (.ListComp elt [⟨ta, ia, ifa, 0⟩, ⟨tb, ib, ifb, 0⟩] scope pos) 0 (.ref ita) (.ref D) ce) (compEnds (model X.prog X.w) X.A X.xe use Qf (.ref D) ce) sd := by
    refine outerX (foldb ce) (fun n s' => ∃ i H', Inv (X.blk sc Hc scope ce fa) [] (wipe σ (own.map (·.2))) H' s' ∧ tna i s'.heap ∧ (∀ b ∈ fa, H' b = none) ∧ V0 i n H') (Er := notedBy (model X.prog X.w) X.A ce (CompFails (model X.prog X.w) X.A X.xe ce)) (by rw [eF]) ?_ m0 ⟨0, Hc, Id, std, none_c, w0⟩
    rintro n s5 ⟨i, H5, I5, st5, n5, w5⟩
    rcases turn i n H5 w5 with ⟨stop, qq⟩ | ⟨go, Nx, hNx, step⟩
    · refine thnF (T.done (X.blk sc Hc scope ce fa) rfl rfl rfl hc i [] s5 _ H5 (fun _ _ => False) I5 (still I5 n5) st5 stop) fun r s6 ⟨hr, I6⟩ => ?_
      subst hr
      have I7 : Inv X pins σ H5 s6 := Ic.call' (ch := fa) I6.os I6.base I6.hok I6.bare fun b hb => ⟨(fc b hb).1.2.2.2.1, (fc b hb).1.2.1, (fc b hb).1.2.2.2.2.1, (fc b hb).1.2.2.2.2.2⟩
      have nC : H5 sc.heap.objs.size = none := by
        rw [← cL]
        exact I6.free
      obtain ⟨m, hn, _⟩ := I6.loc
      have hn : s6.heap.Ns ce.locals m := hn
      rw [cL] at hn
      exact fin D sc.heap.objs.size s6 m H5 I7 qq hn (Ic.fpOk (Nat.le_refl _) nC) ce cL
    · refine thnF (T.item (X.blk sc Hc scope ce fa) rfl rfl rfl hc i [] s5 _ H5 (fun _ _ => False) I5 (still I5 n5) st5 go) fun r s6 ⟨u, hr, h6⟩ => ?_
      subst hr
      refine thnF h6 fun _ s7 ⟨x, H7, I7, r7, y7, st7, n7⟩ => ?_
      refine thnF (Ga.run _ s7 _ H7 x u _ (I7.pinned (still I7 n7) (T.obj _ _ st7)) r7 (step x H7 y7)) fun _ s8 ⟨σ8, H8, I8, hw8, q8⟩ => ?_
      refine thnF (Ta.run _ s8 σ8 H8 _ I8 q8) fun b s9 ⟨H9, I9, q9⟩ => ?_
      have next : ∀ {σ9 : L2.St} {s' : Shared} {H' : Hp}, Inv (X.blk sc Hc scope ce fa) ([] ++ pinsAt fa s7.heap) σ9 H' s' → (wipe σ (own.map (·.2))).length = σ9.length → (∀ (j : Nat) v, (wipe σ (own.map (·.2)))[j]? = some (some v) → σ9[j]? = some (some v)) → Nx H' →
          ∃ m, m < n ∧ ∃ i H', Inv (X.blk sc Hc scope ce fa) [] (wipe σ (own.map (·.2))) H' s' ∧ tna i s'.heap ∧ (∀ b ∈ fa, H' b = none) ∧ V0 i m H' := fun {σ9 s' H'} I' hl hk nx => by
        obtain ⟨m', hm, w'⟩ := hNx H' nx
        have pinned : ∀ b ∈ fa, ∀ o, s7.heap.get? b = some o → s'.heap.get? b = some o ∧ H' b = none := fun b hb o e =>
          have z := I'.pin (b, o) (List.mem_append_right _ (List.mem_append_right _ (mem_pinsAt hb e)))
          ⟨z.1, z.2.1⟩
        refine ⟨m', hm, i + 1, H', (I'.unpinned (pins := [])).weak hl hk, T.keep _ _ _ st7 fun b hb o e => (pinned b hb o e).1, fun b hb => ?_, w'⟩
        obtain ⟨o, e, _⟩ := T.obj _ _ st7 b hb
        exact (pinned b hb o e).2
      have len8 : (wipe σ (own.map (·.2))).length = σ8.length := by rw [← hw8, wipe_length]
      have know8 : ∀ (j : Nat) v, (wipe σ (own.map (·.2)))[j]? = some (some v) → σ8[j]? = some (some v) := fun j v e => by
        rw [← hw8] at e
        exact (wipe_some e).1
      have know9 : ∀ (j : Nat) v, (wipe σ (own.map (·.2)))[j]? = some (some v) → (wipe σ8 vb)[j]? = some (some v) := fun j v e => by
        rw [← hw8] at e
        obtain ⟨e1, e2⟩ := wipe_some e
        rw [wipe_out fun z => e2 (hv j z)]
        exact e1
      cases b with
      | false => exact next I9 len8 know8 q9
      | true =>
        refine thnF (Wb.run _ s9 σ8 H9 _ I9 q9) fun xv s10 hx => thnF hx fun itv s11 h11 => ?_
        obtain ⟨itb, fb1, tnb, J1, H11, rfl, I11, T1, st11, f11, V1, ⟨m1, w1⟩, turn1⟩ := h11
        have still1 : ∀ {H' : Hp}, (∀ b ∈ fb1, H' b = none) → ∀ b ∈ fb1, FpOk (X.blk sc Hc scope ce fa) ([] ++ pinsAt fa s7.heap) H' b := fun nn b hb => ⟨nn b hb, (f11 b hb).2⟩
        have inner : codeAny (model X.prog X.w) X.A (.compLoop (.ListComp elt [⟨ta, ia, ifa, 0⟩, ⟨tb, ib, ifb, 0⟩] scope pos) 1 (.ref itb) (.ref D) ce)
            (fun r s' => match r with
              | .ok _ => ∃ m, m < n ∧ ∃ i H', Inv (X.blk sc Hc scope ce fa) [] (wipe σ (own.map (·.2))) H' s' ∧ tna i s'.heap ∧ (∀ b ∈ fa, H' b = none) ∧ V0 i m H'
              | .error e => cameBackBy (model X.prog X.w) X.A ce (notedBy (model X.prog X.w) X.A ce (CompFails (model X.prog X.w) X.A X.xe ce)) e s') s11 := by
          refine compLoop2_in (fun k s' => ∃ j H', Inv (X.blk sc Hc scope ce fa) ([] ++ pinsAt fa s7.heap) (wipe σ8 vb) H' s' ∧ tnb j s'.heap ∧ (∀ b ∈ fb1, H' b = none) ∧ V1 j k H') ?_ m1 ⟨0, H11, I11.weak (wipe_length _ _) (fun j v e => (wipe_some e).1), st11, fun b hb => (f11 b hb).1, w1⟩
          rintro k s12 ⟨j, H12, I12, st12, n12, w12⟩
          rcases turn1 j k H12 w12 with ⟨stop1, nx1⟩ | ⟨go1, Nx1, hNx1, step1⟩
          · refine thnF (T1.done (X.blk sc Hc scope ce fa) rfl rfl rfl hc j _ s12 (wipe σ8 vb) H12 (fun _ _ => False) I12 (still1 n12) st12 stop1) fun r s13 ⟨hr, I13⟩ => ?_
            subst hr
            exact next I13 (len8.trans (wipe_length σ8 vb).symm) know9 nx1
          · refine thnF (T1.item (X.blk sc Hc scope ce fa) rfl rfl rfl hc j _ s12 (wipe σ8 vb) H12 (fun _ _ => False) I12 (still1 n12) st12 go1) fun r s13 ⟨u1, hr, h13⟩ => ?_
            subst hr
            refine thnF h13 fun _ s14 ⟨x1, H14, I14, r14, y14, st14, n14⟩ => ?_
            refine thnF (Gb.run _ s14 (wipe σ8 vb) H14 x1 u1 _ (I14.pinned (still1 n14) (T1.obj _ _ st14)) r14 (step1 x1 H14 y14)) fun _ s15 ⟨σ15, H15, I15, hw15, q15⟩ => ?_
            refine thnF (Tb.run _ s15 σ15 H15 _ I15 q15) fun b1 s16 ⟨H16, I16, q16⟩ => ?_
            have next1 : ∀ {s' : Shared} {H' : Hp}, Inv (X.blk sc Hc scope ce fa) (([] ++ pinsAt fa s7.heap) ++ pinsAt fb1 s14.heap) σ15 H' s' → Nx1 H' → ∃ m, m < k ∧ ∃ j H', Inv (X.blk sc Hc scope ce fa) ([] ++ pinsAt fa s7.heap) (wipe σ8 vb) H' s' ∧ tnb j s'.heap ∧ (∀ b ∈ fb1, H' b = none) ∧ V1 j m H' := fun {s' H'} I' nx => by
              obtain ⟨m', hm, w'⟩ := hNx1 H' nx
              have pinned : ∀ b ∈ fb1, ∀ o, s14.heap.get? b = some o → s'.heap.get? b = some o ∧ H' b = none := fun b hb o e =>
                have z := I'.pin (b, o) (List.mem_append_right _ (List.mem_append_right _ (mem_pinsAt hb e)))
                ⟨z.1, z.2.1⟩
              refine ⟨m', hm, j + 1, H', I'.unpinned.weak (by rw [← hw15, wipe_length]) (fun j v e => by rw [← hw15] at e; exact (wipe_some e).1), T1.keep _ _ _ st14 fun b hb o e => (pinned b hb o e).1, fun b hb => ?_, w'⟩
              obtain ⟨o, e, _⟩ := T1.obj _ _ st14 b hb
              exact (pinned b hb o e).2
            cases b1 with
            | false => exact next1 I16 q16
            | true =>
              refine thn (Pe.run _ s16 σ15 H16 _ (I16.wish _) q16) fun z s17 ⟨yv, H17, I17, r17, acc, hD17, hz17, nx⟩ => ?_
              exact app_ok (X := X.blk sc Hc scope ce fa) I17.unwish hD17 hz17 r17 fun s18 I18 => next1 I18 nx
        exact compStart1_ok inner (T1.self X.A 0 _ _ _ st11 inner)
  exact codeAny_compStart_list loop (T.self X.A 0 _ _ _ std loop)
/-- name = [e for a in .. for b in ..], the element e a call that may raise -/
theorem ps_setLc2X {i : Nat} {y : Str} {py : Pos} {elt ta ia tb ib : Expr} {ifa ifb : List Expr} {scope : Scope} {own : List (Str × Nat)} {vb : List Nat} {pos spos : Pos} {wa wb : TI} {ga gb : TG} {qa qb : TT} {te : TE} {W : WX} {E : XK} (hc : X.calm = true) (hN : X.N.Nodup) (hy : X.N[i]? = some y) (hyl : X.env.scope.names.lookup y = some .local)
    (hsw : swapsWith (.ListComp elt [⟨ta, ia, ifa, 0⟩, ⟨tb, ib, ifb, 0⟩] scope pos) (some (.Name y py)) spos.line X.env = pure true) (hs : X.stack = X.env :: X.outer) (hf : X.env.frame = some X.env.locals) (tk : Takes X W) (hW : ∀ cls d σ H, E cls d H → W cls d σ H)
    (hi : PI X ta ia wa) (ok : BlkOk X.N X.env.scope scope own) (hv : ∀ i ∈ vb, i ∈ own.map (·.2))
    (hga : ∀ s H C cl fp, PG (X.blk s H scope (compEnvC scope cl C X.env) fp) ta ga) (hqa : ∀ s H C cl fp, PTs (X.blk s H scope (compEnvC scope cl C X.env) fp) ifa qa)
    (hib : ∀ s H C cl fp, PI (X.blk s H scope (compEnvC scope cl C X.env) fp) tb ib wb) (hgb : ∀ s H C cl fp, PG (X.blk s H scope (compEnvC scope cl C X.env) fp) tb gb) (hqb : ∀ s H C cl fp, PTs (X.blk s H scope (compEnvC scope cl C X.env) fp) ifb qb)
    (he : ∀ s H C cl fp F, Passes (L2.CX X.prog X.w) ((X.blk s H scope (compEnvC scope cl C X.env) fp).wish F) E → PE ((X.blk s H scope (compEnvC scope cl C X.env) fp).wish F) elt te)
    (folda : ∀ x, foldedSetIterable ia X.env x = pure x := by intro _; rfl) (foldb : ∀ env x, foldedSetIterable ib env x = pure x := by intro _ _; rfl) :
    PS X (.Assign [.Name y py] (.ListComp elt [⟨ta, ia, ifa, 0⟩, ⟨tb, ib, ifb, 0⟩] scope pos) spos) (tAsg (tLc2 wa ga qa wb gb qb te (own.map (·.2)) vb) (gName i)) := by
  refine ⟨fun pins s σ H D I h => ?_⟩
  rw [exec_Assign_Name_used _ _ _ _ hsw]
  refine wpAny_bind (wpAny_standAt (wpAny_bind ?_))
  show wpAny _ X.A (do let _ ← comprehension (.ListComp elt [⟨ta, ia, ifa, 0⟩, ⟨tb, ib, ifb, 0⟩] scope pos) scope X.env (firstIterPos [⟨ta, ia, ifa, 0⟩, ⟨tb, ib, ifb, 0⟩] pos) (newList []) false (eval ia X.env) (some (assign (.Name y py) X.env))) _ _ s
  have h : tLc2 wa ga qa wb gb qb te (own.map (·.2)) vb σ H (fun x H1 => gName i x σ H1 D.nx) := h
  refine wpAny_bind (thn (lc2X_core (Qf := fun _ s' => SP X pins D .next s') hc hN I hs hf tk hW hi ok hv hga hqa hib hgb hqb he folda foldb h fun L C s' m H' I' q hn f ce hC => ?_) fun _ s' hq => wpAny_pure (wpAny_pure hq))
  show wpAny _ _ (assign (.Name y py) X.env (.ref L)) _ _ _
  refine wpAny_assign_Name (store_ok2 (v := V.ref L) I' hN hy (.inl hyl) rfl (fun s2 I2 ⟨a, sb, ha⟩ => ?_) (.inr hyl))
  subst hC
  obtain ⟨f0, f1, f2, f3, f4, f5⟩ := f
  have haC : ce.locals ≠ a := by
    rcases ha with z | z
    · rw [z]
      exact f1
    · exact fun e => f4 y a z e.symm
  refine ⟨m, hn.sameBut sb haC, fun h3 sb3 => ?_⟩
  exact ⟨_, H', I2.turned (t' := s2.toks) (fun b o hb e => (sb3.2 b hb).trans e) f0 f1 f3 f4 f5, q⟩
end
end OF
/-! The same, the errors' context None. -/
namespace OF
open PySem PySem.Spec PyProof.Rows L2
section
variable {X : Cx} {pins pins' : List (Addr × Obj)} {σ σ' : L2.St} {H3 H' H1 : Hp} {s3 s s' : Shared} {B : Heap} {W : WX} {E : XK} {scope : Scope} {ce : Env} {fp : List Addr} {a : Addr} {cls : Value} {d : Option Addr}
/-- behind the notes, the exception leaves the block -/
theorem comp_failsN (hf : X.env.frame = some X.env.locals) (tk : L2N.Takes X W) (hW : ∀ cls d H, E cls d H → W cls d σ H) (I3 : Inv X pins σ H3 s3) (f3 : ∀ b ∈ fp, FpOk X pins H3 b) (hce : ce.frame = X.env.frame)
    (J : Inv (X.blk s3 H3 scope ce fp) pins' σ' H' s) (hok : HOk X.prog X.w H1 B) (ub : UB (frs X.stack) H' H1 s.heap B s'.heap) (na : H1 a = none) (os : s'.os = s.os) (ag : AllBare s'.gens) (hE : E cls d H1)
    {h1 : Heap} (hl : HandSPX.HeldZ B X.stack a (L2N.Zn cls d) X.env.locals h1) (up : s'.heap.UpToSlots h1) : CompFails (model X.prog X.w) X.A X.xe ce (.ref a) { s' with heap := h1 } := by
  obtain ⟨mJ, hnJ, _⟩ := J.loc
  have hnJ : s.heap.Ns ce.locals mJ := hnJ
  have nC : H' ce.locals = none := J.free
  have above : s3.heap.objs.size ≤ ce.locals := J.ok.above
  have under : ∀ {b o}, s3.heap.get? b = some o → b ≠ ce.locals := fun {b o} e z => by
    have q := Heap.lt_size e
    rw [z] at q
    exact absurd (Nat.lt_of_lt_of_le q above) (Nat.lt_irrefl _)
  have fr : ∀ b ∈ frs X.stack, ∃ o, s3.heap.get? b = some o ∧ ∀ vs, o.data ≠ .fields vs := fun b hb => by
    obtain ⟨_, o, e, nf⟩ := I3.stack.mem hb
    exact ⟨o, e, nf⟩
  have cst : ce.locals ∉ frs X.stack := fun hb => by
    obtain ⟨o, e, _⟩ := fr _ hb
    exact under e rfl
  obtain ⟨oC, es, ep, hoC, rC⟩ := hnJ
  have nC1 : H1 ce.locals = none := ub.free _ _ hoC nC
  have hnB : B.Ns ce.locals mJ := ⟨oC, es, ep, ub.keep _ _ hoC nC cst, rC⟩
  have hn1 : h1.Ns ce.locals mJ := hnB.keeps hl.1
  refine ⟨mJ, hn1, fun h2 m2 hn2 sb => ?_⟩
  have hl2 := held_but hl hn1 hn2 sb
  obtain ⟨oe, vs, T, oT, ts, he, hz, hd, hT1, _⟩ := hl2.2.2.2
  unfold PySem.passOn
  refine wpAny_bind (wpAny_field he hd hT1 ?_)
  rw [if_neg (show ¬ ((Value.ref T == Value.none) = true) from by simp), hce, hf]
  refine wpAny_bind (HandSPX.setFlight_onZ hl2 fun h3 hl3 up3 => ?_)
  refine wpAny_throw (tk _ _ ?_)
  obtain ⟨G, g1, g2⟩ := L2.restrict h3 fun b => ((PySem.W.hideAll B [ce.locals]).get? b).isSome || decide (b ∈ frs X.stack)
  have gB : ∀ b o, B.get? b = some o → b ≠ ce.locals → G.get? b = some o := fun b o e n => by
    have e' := PySem.W.hideAll_get [ce.locals] e fun z => n (List.mem_singleton.mp z)
    rw [g1 b (by simp [e'])]
    exact hl3.1 b o e'
  have gF : ∀ b, b ∈ frs X.stack → G.get? b = h3.get? b := fun b hb => g1 b (by simp [hb])
  have og : ∀ b o, G.get? b = some o → h3.get? b = some o ∧ (((PySem.W.hideAll B [ce.locals]).get? b).isSome = true ∨ b ∈ frs X.stack) := fun b o e => by
    cases q : (((PySem.W.hideAll B [ce.locals]).get? b).isSome || decide (b ∈ frs X.stack)) with
    | false =>
      rw [g2 b q] at e
      cases e
    | true =>
      rw [g1 b q] at e
      exact ⟨e, by simpa [Bool.or_eq_true] using q⟩
  have slots : ∀ b o, s3.heap.get? b = some o → b ∈ frs X.stack → H3 b = none → b ∉ fp → ∃ sl, G.get? b = some { o with slots := sl } := fun b o e hb n hx => by
    obtain ⟨o', e', nf⟩ := fr b hb
    cases e.symm.trans e'
    obtain ⟨sl, e1⟩ := J.base.slot b o e n hb hx
    obtain ⟨sl2, e2⟩ := ub.slot b _ e1 hb
    obtain ⟨sl3, e3⟩ := up b _ e2 nf
    obtain ⟨sl4, e4⟩ := up3 b _ ((sb.2 b (under e)).trans e3) nf
    exact ⟨sl4, (gF b hb).trans e4⟩
  have u : Un (frs X.stack) fp H3 H1 s3.heap G := by
    refine ⟨fun b o e n hb hx => ?_, fun b o e n hb hx => slots b o e hb n hx, fun b o e n hx => ?_, fun b o e hx => ?_, fun b xs e => ub.tups b xs (J.base.tups b xs e), fun b o v e => ub.frzs b o v (J.base.frzs b o v e), fun b ps e => ?_⟩
    · exact gB b o (ub.keep b o (J.base.keep b o e n hb hx) (J.base.free b o e n hx) hb) (under e)
    · obtain ⟨sl, e1⟩ := J.base.any e n hx
      exact ub.free b _ e1 (J.base.free b o e n hx)
    · by_cases hb : b ∈ frs X.stack
      · obtain ⟨sl, q⟩ := slots b o e hb (I3.stkFree b hb) hx
        exact ⟨_, q⟩
      · obtain ⟨o1, e1⟩ := J.base.there b o e hx
        obtain ⟨o2, e2⟩ := ub.there b o1 e1 hb
        exact ⟨o2, gB b o2 e2 (under e)⟩
    · obtain ⟨m1, e1⟩ := J.base.tbls b ps e
      obtain ⟨m2, e2⟩ := ub.tbls b _ e1
      exact ⟨m1 ++ m2, by rw [e2, Array.append_assoc]⟩
  have hG : HOk X.prog X.w H1 G := fun b o q => (hok b o q).stay (fun c v hc r => gB c v r fun z => by
    rcases hc with hc | hc
    · rw [← hc, z, nC1] at q
      cases q
    · rw [z, nC1] at hc
      cases hc) (fun _ r => r) fun _ _ r => r
  have IX : Inv X pins σ H1 { s with heap := G, gens := s'.gens, drawn := s'.drawn, toks := s'.toks } := I3.call' (ch := fp) J.os u hG ag fun b hb => ⟨(f3 b hb).2.2.2.1, (f3 b hb).2.1, (f3 b hb).2.2.2.2.1, (f3 b hb).2.2.2.2.2⟩
  refine ⟨a, PySem.W.hideAll B [ce.locals], _, pins, σ, H1, cls, d, rfl, IX, fun b o e hb => ?_, Heap.UpToSlots.of_keeps fun b o e => (og b o e).1, .inr (.inr hl3), na, os, ag, hW _ _ _ hE⟩
  obtain ⟨e', h⟩ := og b o e
  rcases h with h | h
  · obtain ⟨o', q⟩ := Option.isSome_iff_exists.mp h
    have z := hl3.1 b o' q
    cases e'.symm.trans z
    exact q
  · exact absurd h hb

/-- what a raise in the inner loop of a block owes -/
abbrev owes2N (X : Cx) (ce : Env) : Value → Shared → Prop := notedBy (model X.prog X.w) X.A ce (cameBackBy (model X.prog X.w) X.A ce (notedBy (model X.prog X.w) X.A ce (CompFails (model X.prog X.w) X.A X.xe ce)))
theorem owes2N_call (hs : X.stack = X.env :: X.outer) (hf : X.env.frame = some X.env.locals) (tk : L2N.Takes X W) (hW : ∀ cls d H, E cls d H → W cls d σ H) (I3 : Inv X pins σ H3 s3) (f3 : ∀ b ∈ fp, FpOk X pins H3 b) (hce : ce.frame = X.env.frame) :
    Passes (L2N.CX X.prog X.w) ((X.blk s3 H3 scope ce fp).wish (owes2N X ce)) E := by
  intro pins' σ' H' s e s' J c
  have J : Inv (X.blk s3 H3 scope ce fp) pins' σ' H' s := J.unwish
  obtain ⟨a, B, H1, cls, d, rfl, fl, hok, ub, na, os, ag, hE⟩ := c
  have fl : HandSPX.FlyingZ B X.stack a (L2N.Zn cls d) s'.heap := fl
  have ub : UB (frs X.stack) H' H1 s.heap B s'.heap := ub
  have hfr : X.A.frames = some (X.env :: X.outer) := by rw [I3.ok.frames, hs]
  show wpAny (model X.prog X.w) X.A (noteFrame (.ref a) ce) _ _ s'
  rw [noteFrame_env _ hce]
  rw [hs] at fl
  refine PXN.looks_onZ L2N.Zn.steady hfr hf fl fun h1 hl1 up1 => ?_
  obtain ⟨oe, vs, T, oT, ts, he, hz, hd, hT1, _⟩ := hl1.2.2.2
  show wpAny (model X.prog X.w) X.A (do
    if (← field (.ref a) 1) == .none then unsupported "frame.own-activation:exception-without-traceback"
    setFlight (.ref a) ce.frame) _ _ _
  refine wpAny_bind (wpAny_field he hd hT1 ?_)
  rw [if_neg (show ¬ ((Value.ref T == Value.none) = true) from by simp), hce, hf]
  refine HandSPX.setFlight_onZ hl1 fun h2 hl2 up2 => ?_
  show wpAny (model X.prog X.w) X.A (noteFrame (.ref a) ce) _ _ _
  rw [noteFrame_env _ hce]
  refine HandSPX.againZ hf hl2.2.2.2 ?_
  rw [← hs] at hl2
  exact comp_failsN hf tk hW I3 f3 hce J hok ub na os ag hE hl2 (up1.trans up2)
end
section
variable {X : Cx}
theorem lc2N_core {pins : List (Addr × Obj)} {s : Shared} {σ : L2.St} {H : Hp} {Q : VK} {elt ta ia tb ib : Expr} {ifa ifb : List Expr} {scope : Scope} {own : List (Str × Nat)} {vb : List Nat} {pos pos' : Pos} {wa wb : TI} {ga gb : TG} {qa qb : TT} {te : TE} {W : WX} {E : XK} {use : Option (Value → Sem Unit)} {Qf : Value → Shared → Prop}
    (hc : X.calm = true) (hN : X.N.Nodup) (I : Inv X pins σ H s) (hs : X.stack = X.env :: X.outer) (hf : X.env.frame = some X.env.locals) (tk : L2N.Takes X W) (hW : ∀ cls d σ H, E cls d H → W cls d σ H)
    (hi : PI X ta ia wa) (ok : BlkOk X.N X.env.scope scope own) (hv : ∀ i ∈ vb, i ∈ own.map (·.2))
    (hga : ∀ s H C cl fp, PG (X.blk s H scope (compEnvC scope cl C X.env) fp) ta ga) (hqa : ∀ s H C cl fp, PTs (X.blk s H scope (compEnvC scope cl C X.env) fp) ifa qa)
    (hib : ∀ s H C cl fp, PI (X.blk s H scope (compEnvC scope cl C X.env) fp) tb ib wb) (hgb : ∀ s H C cl fp, PG (X.blk s H scope (compEnvC scope cl C X.env) fp) tb gb) (hqb : ∀ s H C cl fp, PTs (X.blk s H scope (compEnvC scope cl C X.env) fp) ifb qb)
    (he : ∀ s H C cl fp F, Passes (L2N.CX X.prog X.w) ((X.blk s H scope (compEnvC scope cl C X.env) fp).wish F) E → PE ((X.blk s H scope (compEnvC scope cl C X.env) fp).wish F) elt te)
    (folda : ∀ x, foldedSetIterable ia X.env x = pure x) (foldb : ∀ env x, foldedSetIterable ib env x = pure x)
    (h : tLc2 wa ga qa wb gb qb te (own.map (·.2)) vb σ H Q)
    (fin : ∀ D C s' m H', Inv X pins σ H' s' → Q (.ref D) H' → s'.heap.Ns C m → FpOk X pins H' C → ∀ ce : Env, ce.locals = C → compEnds (model X.prog X.w) X.A X.xe use Qf (.ref D) ce (.ok .next) s') :
    wpAny (model X.prog X.w) X.A (comprehension (.ListComp elt [⟨ta, ia, ifa, 0⟩, ⟨tb, ib, ifb, 0⟩] scope pos) scope X.env pos' (newList []) false (eval ia X.env) use) Qf X.xe s := by
  have caught : ∀ y ∈ scope.names, y.2 = .free → ∃ c, X.env.cells.lookup y.1 = some c := fun y hy e => (ok.free y hy e).elim (fun k => I.ok.has _ (.inl k)) fun k => I.ok.has _ (.inr k)
  refine comprehension_at (use := use) rfl folda (closure_ok caught) ok.kind (fun y hy e => by rw [ok.uniq y hy, e]) (thn (hi.run pins s σ H _ I h) fun xv sa hx => thn hx fun itv sb hb => ?_)
  obtain ⟨ita, fa, tna, J, Hb, rfl, Ib, T, stb, fb, q⟩ := hb
  refine wpAny_newObj_type (newEnv_comp ?_) (by show 0 ≤ sizeLine; decide)
  generalize hD : sb.heap.objs.size = D
  have nD : Hb D = none := Ib.hok.fresh (Nat.le_of_eq hD)
  obtain ⟨V0, ⟨m0, w0⟩, turn⟩ := q D nD
  generalize hsc : ({ sb with heap := sb.heap.push { cls := .type "list", data := .seq ([] : List Value).toArray } } : Shared) = sc
  have hsc' : sc.heap = sb.heap.push { cls := .type "list", data := .seq ([] : List Value).toArray } := by rw [← hsc]
  have Ic : Inv X pins σ (upd Hb D (.lst [])) sc := by
    rw [← hsc]
    refine Ib.laid (t' := sb.toks) (fun b o e => Heap.get?_push_of_some _ e) (Nat.le_of_eq hD) ⟨Nat.zero_le _, [], 0, .nil, ?_⟩
    rw [← hD]
    exact Heap.get?_push_size _ rfl
  have small : ∀ b ∈ fa, b < sb.heap.objs.size := fun b hb => by
    obtain ⟨o, e, _⟩ := T.obj _ _ stb b hb
    exact Heap.lt_size e
  have fc : ∀ b ∈ fa, FpOk X pins (upd Hb D (.lst [])) b ∧ b < sc.heap.objs.size := fun b hb => by
    have lt := small b hb
    refine ⟨⟨?_, (fb b hb).2⟩, by rw [hsc', Heap.size_push]; exact Nat.lt_succ_of_lt lt⟩
    rw [upd_ne (by rw [← hD]; exact Nat.ne_of_lt lt)]
    exact (fb b hb).1
  have stc : tna 0 sc.heap := T.keep _ _ _ stb fun b _ o e => by
    rw [hsc']
    exact Heap.get?_push_of_some _ e
  have Id := block_start Ic ok hN fc
  have Ga := hga sc (upd Hb D (.lst [])) sc.heap.objs.size (cellsFrom (sc.heap.objs.size + 1) scope.names (cloFrom X.env.cells scope.names [])) fa
  have Ta := hqa sc (upd Hb D (.lst [])) sc.heap.objs.size (cellsFrom (sc.heap.objs.size + 1) scope.names (cloFrom X.env.cells scope.names [])) fa
  have Wb := hib sc (upd Hb D (.lst [])) sc.heap.objs.size (cellsFrom (sc.heap.objs.size + 1) scope.names (cloFrom X.env.cells scope.names [])) fa
  have Gb := hgb sc (upd Hb D (.lst [])) sc.heap.objs.size (cellsFrom (sc.heap.objs.size + 1) scope.names (cloFrom X.env.cells scope.names [])) fa
  have Tb := hqb sc (upd Hb D (.lst [])) sc.heap.objs.size (cellsFrom (sc.heap.objs.size + 1) scope.names (cloFrom X.env.cells scope.names [])) fa
  have Pe := fun F => he sc (upd Hb D (.lst [])) sc.heap.objs.size (cellsFrom (sc.heap.objs.size + 1) scope.names (cloFrom X.env.cells scope.names [])) fa F
  show codeAny _ _ (.compStart (.ListComp elt [⟨ta, ia, ifa, 0⟩, ⟨tb, ib, ifb, 0⟩] scope pos) 0 (.ref ita) (.ref D) (compEnvC scope (cellsFrom (sc.heap.objs.size + 1) scope.names (cloFrom X.env.cells scope.names [])) sc.heap.objs.size X.env))
    (compEnds (model X.prog X.w) X.A X.xe use Qf (.ref D) (compEnvC scope (cellsFrom (sc.heap.objs.size + 1) scope.names (cloFrom X.env.cells scope.names [])) sc.heap.objs.size X.env)) { sc with heap := pushCells (sc.heap.push { cls := .type "dict", data := .dict #[] }) scope.names }
  have none_c : ∀ b ∈ fa, (upd Hb D (.lst [])) b = none := fun b hb => (fc b hb).1.1
  generalize hce : compEnvC scope (cellsFrom (sc.heap.objs.size + 1) scope.names (cloFrom X.env.cells scope.names [])) sc.heap.objs.size X.env = ce at Id Ga Ta Wb Gb Tb Pe ⊢
  have cL : ce.locals = sc.heap.objs.size := by subst hce; rfl
  have cF : ce.frame = X.env.frame := by subst hce; rfl
  generalize hHc : upd Hb D (.lst []) = Hc at Ic Id Ga Ta Wb Gb Tb Pe w0 none_c fc
  have Pe := Pe _ (owes2N_call hs hf tk (fun cls d H z => hW cls d σ H z) Ic (fun b hb => (fc b hb).1) cF)
  generalize hsd : ({ sc with heap := pushCells (sc.heap.push { cls := .type "dict", data := .dict #[] }) scope.names } : Shared) = sd at Id ⊢
  have std : tna 0 sd.heap := T.keep _ _ _ stc fun b _ o e => by
    rw [← hsd]
    exact pushCells_keeps _ _ _ _ (Heap.get?_push_of_some _ e)
  have still : ∀ {σ' : L2.St} {H' : Hp} {s' : Shared}, Inv (X.blk sc Hc scope ce fa) [] σ' H' s' → (∀ b ∈ fa, H' b = none) → ∀ b ∈ fa, FpOk (X.blk sc Hc scope ce fa) [] H' b := fun {σ' H' s'} I' nn b hb =>
    ⟨nn b hb, (I'.ok.exf b hb).1, I'.ok.exfs b hb, .inl hb, fun x c e => (I'.ok.exf b hb).2 x c e, fun p hp => absurd (show p ∈ ([] : List (Addr × Obj)) ++ [] from hp) (by simp)⟩
  have failE : ∀ e s', CompFails (model X.prog X.w) X.A X.xe ce e s' → compEnds (model X.prog X.w) X.A X.xe use Qf (.ref D) ce (.error e) s' := fun e s' z => by
    cases use <;> exact z
  have eF : (fun e s' => compEnds (model X.prog X.w) X.A X.xe use Qf (.ref D) ce (.error e) s') = CompFails (model X.prog X.w) X.A X.xe ce := by
    funext e s'
    cases use <;> rfl
  have loop : codeAny (model X.prog X.w) X.A (.compLoop (.ListComp elt [⟨ta, ia, ifa, 0⟩, ⟨tb, ib, ifb, 0⟩] scope pos) 0 (.ref ita) (.ref D) ce) (compEnds (model X.prog X.w) X.A X.xe use Qf (.ref D) ce) sd := by
    refine outerX (foldb ce) (fun n s' => ∃ i H', Inv (X.blk sc Hc scope ce fa) [] (wipe σ (own.map (·.2))) H' s' ∧ tna i s'.heap ∧ (∀ b ∈ fa, H' b = none) ∧ V0 i n H') (Er := notedBy (model X.prog X.w) X.A ce (CompFails (model X.prog X.w) X.A X.xe ce)) (by rw [eF]) ?_ m0 ⟨0, Hc, Id, std, none_c, w0⟩
    rintro n s5 ⟨i, H5, I5, st5, n5, w5⟩
    rcases turn i n H5 w5 with ⟨stop, qq⟩ | ⟨go, Nx, hNx, step⟩
    · refine thnF (T.done (X.blk sc Hc scope ce fa) rfl rfl rfl hc i [] s5 _ H5 (fun _ _ => False) I5 (still I5 n5) st5 stop) fun r s6 ⟨hr, I6⟩ => ?_
      subst hr
      have I7 : Inv X pins σ H5 s6 := Ic.call' (ch := fa) I6.os I6.base I6.hok I6.bare fun b hb => ⟨(fc b hb).1.2.2.2.1, (fc b hb).1.2.1, (fc b hb).1.2.2.2.2.1, (fc b hb).1.2.2.2.2.2⟩
      have nC : H5 sc.heap.objs.size = none := by
        rw [← cL]
        exact I6.free
      obtain ⟨m, hn, _⟩ := I6.loc
      have hn : s6.heap.Ns ce.locals m := hn
      rw [cL] at hn
      exact fin D sc.heap.objs.size s6 m H5 I7 qq hn (Ic.fpOk (Nat.le_refl _) nC) ce cL
    · refine thnF (T.item (X.blk sc Hc scope ce fa) rfl rfl rfl hc i [] s5 _ H5 (fun _ _ => False) I5 (still I5 n5) st5 go) fun r s6 ⟨u, hr, h6⟩ => ?_
      subst hr
      refine thnF h6 fun _ s7 ⟨x, H7, I7, r7, y7, st7, n7⟩ => ?_
      refine thnF (Ga.run _ s7 _ H7 x u _ (I7.pinned (still I7 n7) (T.obj _ _ st7)) r7 (step x H7 y7)) fun _ s8 ⟨σ8, H8, I8, hw8, q8⟩ => ?_
      refine thnF (Ta.run _ s8 σ8 H8 _ I8 q8) fun b s9 ⟨H9, I9, q9⟩ => ?_
      have next : ∀ {σ9 : L2.St} {s' : Shared} {H' : Hp}, Inv (X.blk sc Hc scope ce fa) ([] ++ pinsAt fa s7.heap) σ9 H' s' → (wipe σ (own.map (·.2))).length = σ9.length → (∀ (j : Nat) v, (wipe σ (own.map (·.2)))[j]? = some (some v) → σ9[j]? = some (some v)) → Nx H' →
          ∃ m, m < n ∧ ∃ i H', Inv (X.blk sc Hc scope ce fa) [] (wipe σ (own.map (·.2))) H' s' ∧ tna i s'.heap ∧ (∀ b ∈ fa, H' b = none) ∧ V0 i m H' := fun {σ9 s' H'} I' hl hk nx => by
        obtain ⟨m', hm, w'⟩ := hNx H' nx
        have pinned : ∀ b ∈ fa, ∀ o, s7.heap.get? b = some o → s'.heap.get? b = some o ∧ H' b = none := fun b hb o e =>
          have z := I'.pin (b, o) (List.mem_append_right _ (List.mem_append_right _ (mem_pinsAt hb e)))
          ⟨z.1, z.2.1⟩
        refine ⟨m', hm, i + 1, H', (I'.unpinned (pins := [])).weak hl hk, T.keep _ _ _ st7 fun b hb o e => (pinned b hb o e).1, fun b hb => ?_, w'⟩
        obtain ⟨o, e, _⟩ := T.obj _ _ st7 b hb
        exact (pinned b hb o e).2
      have len8 : (wipe σ (own.map (·.2))).length = σ8.length := by rw [← hw8, wipe_length]
      have know8 : ∀ (j : Nat) v, (wipe σ (own.map (·.2)))[j]? = some (some v) → σ8[j]? = some (some v) := fun j v e => by
        rw [← hw8] at e
        exact (wipe_some e).1
      have know9 : ∀ (j : Nat) v, (wipe σ (own.map (·.2)))[j]? = some (some v) → (wipe σ8 vb)[j]? = some (some v) := fun j v e => by
        rw [← hw8] at e
        obtain ⟨e1, e2⟩ := wipe_some e
        rw [wipe_out fun z => e2 (hv j z)]
        exact e1
      cases b with
      | false => exact next I9 len8 know8 q9
      | true =>
        refine thnF (Wb.run _ s9 σ8 H9 _ I9 q9) fun xv s10 hx => thnF hx fun itv s11 h11 => ?_
        obtain ⟨itb, fb1, tnb, J1, H11, rfl, I11, T1, st11, f11, V1, ⟨m1, w1⟩, turn1⟩ := h11
        have still1 : ∀ {H' : Hp}, (∀ b ∈ fb1, H' b = none) → ∀ b ∈ fb1, FpOk (X.blk sc Hc scope ce fa) ([] ++ pinsAt fa s7.heap) H' b := fun nn b hb => ⟨nn b hb, (f11 b hb).2⟩
        have inner : codeAny (model X.prog X.w) X.A (.compLoop (.ListComp elt [⟨ta, ia, ifa, 0⟩, ⟨tb, ib, ifb, 0⟩] scope pos) 1 (.ref itb) (.ref D) ce)
            (fun r s' => match r with
              | .ok _ => ∃ m, m < n ∧ ∃ i H', Inv (X.blk sc Hc scope ce fa) [] (wipe σ (own.map (·.2))) H' s' ∧ tna i s'.heap ∧ (∀ b ∈ fa, H' b = none) ∧ V0 i m H'
              | .error e => cameBackBy (model X.prog X.w) X.A ce (notedBy (model X.prog X.w) X.A ce (CompFails (model X.prog X.w) X.A X.xe ce)) e s') s11 := by
          refine compLoop2_in (fun k s' => ∃ j H', Inv (X.blk sc Hc scope ce fa) ([] ++ pinsAt fa s7.heap) (wipe σ8 vb) H' s' ∧ tnb j s'.heap ∧ (∀ b ∈ fb1, H' b = none) ∧ V1 j k H') ?_ m1 ⟨0, H11, I11.weak (wipe_length _ _) (fun j v e => (wipe_some e).1), st11, fun b hb => (f11 b hb).1, w1⟩
          rintro k s12 ⟨j, H12, I12, st12, n12, w12⟩
          rcases turn1 j k H12 w12 with ⟨stop1, nx1⟩ | ⟨go1, Nx1, hNx1, step1⟩
          · refine thnF (T1.done (X.blk sc Hc scope ce fa) rfl rfl rfl hc j _ s12 (wipe σ8 vb) H12 (fun _ _ => False) I12 (still1 n12) st12 stop1) fun r s13 ⟨hr, I13⟩ => ?_
            subst hr
            exact next I13 (len8.trans (wipe_length σ8 vb).symm) know9 nx1
          · refine thnF (T1.item (X.blk sc Hc scope ce fa) rfl rfl rfl hc j _ s12 (wipe σ8 vb) H12 (fun _ _ => False) I12 (still1 n12) st12 go1) fun r s13 ⟨u1, hr, h13⟩ => ?_
            subst hr
            refine thnF h13 fun _ s14 ⟨x1, H14, I14, r14, y14, st14, n14⟩ => ?_
            refine thnF (Gb.run _ s14 (wipe σ8 vb) H14 x1 u1 _ (I14.pinned (still1 n14) (T1.obj _ _ st14)) r14 (step1 x1 H14 y14)) fun _ s15 ⟨σ15, H15, I15, hw15, q15⟩ => ?_
            refine thnF (Tb.run _ s15 σ15 H15 _ I15 q15) fun b1 s16 ⟨H16, I16, q16⟩ => ?_
            have next1 : ∀ {s' : Shared} {H' : Hp}, Inv (X.blk sc Hc scope ce fa) (([] ++ pinsAt fa s7.heap) ++ pinsAt fb1 s14.heap) σ15 H' s' → Nx1 H' → ∃ m, m < k ∧ ∃ j H', Inv (X.blk sc Hc scope ce fa) ([] ++ pinsAt fa s7.heap) (wipe σ8 vb) H' s' ∧ tnb j s'.heap ∧ (∀ b ∈ fb1, H' b = none) ∧ V1 j m H' := fun {s' H'} I' nx => by
              obtain ⟨m', hm, w'⟩ := hNx1 H' nx
              have pinned : ∀ b ∈ fb1, ∀ o, s14.heap.get? b = some o → s'.heap.get? b = some o ∧ H' b = none := fun b hb o e =>
                have z := I'.pin (b, o) (List.mem_append_right _ (List.mem_append_right _ (mem_pinsAt hb e)))
                ⟨z.1, z.2.1⟩
              refine ⟨m', hm, j + 1, H', I'.unpinned.weak (by rw [← hw15, wipe_length]) (fun j v e => by rw [← hw15] at e; exact (wipe_some e).1), T1.keep _ _ _ st14 fun b hb o e => (pinned b hb o e).1, fun b hb => ?_, w'⟩
              obtain ⟨o, e, _⟩ := T1.obj _ _ st14 b hb
              exact (pinned b hb o e).2
            cases b1 with
            | false => exact next1 I16 q16
            | true =>
              refine thn (Pe.run _ s16 σ15 H16 _ (I16.wish _) q16) fun z s17 ⟨yv, H17, I17, r17, acc, hD17, hz17, nx⟩ => ?_
              exact app_ok (X := X.blk sc Hc scope ce fa) I17.unwish hD17 hz17 r17 fun s18 I18 => next1 I18 nx
        exact compStart1_ok inner (T1.self X.A 0 _ _ _ st11 inner)
  exact codeAny_compStart_list loop (T.self X.A 0 _ _ _ std loop)
/-- name = [e for a in .. for b in ..], the element e a call that may raise -/
theorem ps_setLc2N {i : Nat} {y : Str} {py : Pos} {elt ta ia tb ib : Expr} {ifa ifb : List Expr} {scope : Scope} {own : List (Str × Nat)} {vb : List Nat} {pos spos : Pos} {wa wb : TI} {ga gb : TG} {qa qb : TT} {te : TE} {W : WX} {E : XK} (hc : X.calm = true) (hN : X.N.Nodup) (hy : X.N[i]? = some y) (hyl : X.env.scope.names.lookup y = some .local)
    (hsw : swapsWith (.ListComp elt [⟨ta, ia, ifa, 0⟩, ⟨tb, ib, ifb, 0⟩] scope pos) (some (.Name y py)) spos.line X.env = pure true) (hs : X.stack = X.env :: X.outer) (hf : X.env.frame = some X.env.locals) (tk : L2N.Takes X W) (hW : ∀ cls d σ H, E cls d H → W cls d σ H)
    (hi : PI X ta ia wa) (ok : BlkOk X.N X.env.scope scope own) (hv : ∀ i ∈ vb, i ∈ own.map (·.2))
    (hga : ∀ s H C cl fp, PG (X.blk s H scope (compEnvC scope cl C X.env) fp) ta ga) (hqa : ∀ s H C cl fp, PTs (X.blk s H scope (compEnvC scope cl C X.env) fp) ifa qa)
    (hib : ∀ s H C cl fp, PI (X.blk s H scope (compEnvC scope cl C X.env) fp) tb ib wb) (hgb : ∀ s H C cl fp, PG (X.blk s H scope (compEnvC scope cl C X.env) fp) tb gb) (hqb : ∀ s H C cl fp, PTs (X.blk s H scope (compEnvC scope cl C X.env) fp) ifb qb)
    (he : ∀ s H C cl fp F, Passes (L2N.CX X.prog X.w) ((X.blk s H scope (compEnvC scope cl C X.env) fp).wish F) E → PE ((X.blk s H scope (compEnvC scope cl C X.env) fp).wish F) elt te)
    (folda : ∀ x, foldedSetIterable ia X.env x = pure x := by intro _; rfl) (foldb : ∀ env x, foldedSetIterable ib env x = pure x := by intro _ _; rfl) :
    PS X (.Assign [.Name y py] (.ListComp elt [⟨ta, ia, ifa, 0⟩, ⟨tb, ib, ifb, 0⟩] scope pos) spos) (tAsg (tLc2 wa ga qa wb gb qb te (own.map (·.2)) vb) (gName i)) := by
  refine ⟨fun pins s σ H D I h => ?_⟩
  rw [exec_Assign_Name_used _ _ _ _ hsw]
  refine wpAny_bind (wpAny_standAt (wpAny_bind ?_))
  show wpAny _ X.A (do let _ ← comprehension (.ListComp elt [⟨ta, ia, ifa, 0⟩, ⟨tb, ib, ifb, 0⟩] scope pos) scope X.env (firstIterPos [⟨ta, ia, ifa, 0⟩, ⟨tb, ib, ifb, 0⟩] pos) (newList []) false (eval ia X.env) (some (assign (.Name y py) X.env))) _ _ s
  have h : tLc2 wa ga qa wb gb qb te (own.map (·.2)) vb σ H (fun x H1 => gName i x σ H1 D.nx) := h
  refine wpAny_bind (thn (lc2N_core (Qf := fun _ s' => SP X pins D .next s') hc hN I hs hf tk hW hi ok hv hga hqa hib hgb hqb he folda foldb h fun L C s' m H' I' q hn f ce hC => ?_) fun _ s' hq => wpAny_pure (wpAny_pure hq))
  show wpAny _ _ (assign (.Name y py) X.env (.ref L)) _ _ _
  refine wpAny_assign_Name (store_ok2 (v := V.ref L) I' hN hy (.inl hyl) rfl (fun s2 I2 ⟨a, sb, ha⟩ => ?_) (.inr hyl))
  subst hC
  obtain ⟨f0, f1, f2, f3, f4, f5⟩ := f
  have haC : ce.locals ≠ a := by
    rcases ha with z | z
    · rw [z]
      exact f1
    · exact fun e => f4 y a z e.symm
  refine ⟨m, hn.sameBut sb haC, fun h3 sb3 => ?_⟩
  exact ⟨_, H', I2.turned (t' := s2.toks) (fun b o hb e => (sb3.2 b hb).trans e) f0 f1 f3 f4 f5, q⟩
end
end OF
namespace K08
open PySem PySem.Spec PyProof.Rows L2 OF
section
variable {P : Program} {w : World} {K : PySem.W.Frag} {mg : Str → Option Value} {base : Heap}

/-! ### what a text is read as -/
abbrev Dgs (is : List Int) : Prop := ∀ i ∈ is, -9 ≤ i ∧ i ≤ 9
theorem read_some {z : Str} {ds : List V} (h : readV z = some ds) : ∃ is : List Int, Dgs is ∧ ds = is.map V.int ∧ z = textOf is := by
  by_cases hz : z = Str.ofString "."
  · rw [hz, read_dot] at h
    cases h
    exact ⟨[], (fun i hi => by cases hi), rfl, hz⟩
  · unfold readV rowOf at h
    rw [if_neg hz] at h
    split at h
    · rename_i hall
      have key : ∀ ws : List Str, ws.all (fun w => (OF.digV w).isSome) = true → ∃ is : List Int, Dgs is ∧ ws = is.map strI ∧ (ws.map fun w => (OF.digV w).getD .non) = is.map V.int := by
        intro ws
        induction ws with
        | nil => exact fun _ => ⟨[], (fun i hi => by cases hi), rfl, rfl⟩
        | cons u ws ih =>
          intro ha
          rw [List.all_cons, Bool.and_eq_true] at ha
          obtain ⟨is, hd, e1, e2⟩ := ih ha.2
          obtain ⟨v, hv⟩ := Option.isSome_iff_exists.mp ha.1
          obtain ⟨i, hi, eu, ev⟩ := digV_is hv
          refine ⟨((-9 : Int) + (i : Int)) :: is, fun k hk => ?_, ?_, ?_⟩
          · rcases List.mem_cons.mp hk with rfl | hk
            · omega
            · exact hd k hk
          · rw [e1, eu]
            rfl
          · rw [List.map_cons, e2, hv, ev]
            rfl
      obtain ⟨is, hd, e1, e2⟩ := key _ hall
      refine ⟨is, hd, (Option.some.inj h).symm.trans e2, ?_⟩
      have j := StrLaws.join_split z (Str.ofString " ")
      rw [e1] at j
      have hn : is ≠ [] := fun en => by
        rw [en] at j
        have e0 : z = Str.empty := j.symm
        rw [e0] at hall
        exact absurd hall (by decide +kernel)
      unfold textOf
      rw [if_neg hn, TL.join_eq]
      exact j.symm
    · cases h
theorem read_row_of {is : List Int} (h : Dgs is) : readV (textOf is) = some (is.map V.int) := read_text h
theorem textOf_inj {is js : List Int} (h1 : Dgs is) (h2 : Dgs js) (e : textOf is = textOf js) : is = js := by
  have a := read_row_of h1
  rw [e, read_row_of h2] at a
  exact (ints_inj (Option.some.inj a)).symm
/-- the parts that a text is read as -/
def Read (z : Str) (b : Int) (ds : List Int) (rows : List (List Int)) : Prop := ∃ (x y : Str) (more : List Str), Txt.split z (Str.ofString "; ") = x :: y :: more ∧ more.length ≤ 1 ∧ Txt.removeprefix x (Str.ofString "base ") = textOf [b] ∧ Txt.removeprefix y (Str.ofString "digits ") = textOf ds ∧
  (more.flatMap fun p => Txt.split (Txt.removeprefix p (Str.ofString "bars ")) (Str.ofString ", ")) = rows.map textOf ∧ Dgs [b] ∧ Dgs ds ∧ ∀ r ∈ rows, Dgs r
theorem rows_inj : ∀ {a b : List (List Int)}, (∀ r ∈ a, Dgs r) → (∀ r ∈ b, Dgs r) → a.map textOf = b.map textOf → a = b
  | [], [], _, _, _ => rfl
  | [], _ :: _, _, _, e => by cases e
  | _ :: _, [], _, _, e => by cases e
  | x :: a, y :: b, h1, h2, e => by
    rw [List.map_cons, List.map_cons, List.cons.injEq] at e
    rw [textOf_inj (h1 x List.mem_cons_self) (h2 y List.mem_cons_self) e.1, rows_inj (fun r hr => h1 r (List.mem_cons_of_mem _ hr)) (fun r hr => h2 r (List.mem_cons_of_mem _ hr)) e.2]
theorem Read.one {z : Str} {b b2 : Int} {ds ds2 : List Int} {rows rows2 : List (List Int)} (h : Read z b ds rows) (k : Read z b2 ds2 rows2) : b = b2 ∧ ds = ds2 ∧ rows = rows2 := by
  obtain ⟨x, y, more, e1, l1, e2, e3, e4, d1, d2, d3⟩ := h
  obtain ⟨x', y', more', f1, m1, f2, f3, f4, g1, g2, g3⟩ := k
  rw [e1] at f1
  cases f1
  rw [e2] at f2
  rw [e3] at f3
  rw [e4] at f4
  have a := textOf_inj d1 g1 f2
  exact ⟨(List.cons.inj a).1, textOf_inj d2 g2 f3, rows_inj d3 g3 f4⟩

/-! ### _read_parts -/
/-- a text that is short enough to be read -/
structure Fine (z : Str) : Prop where
  tok : TOk 1000 z
  part : ∀ p ∈ Txt.split z (Str.ofString "; "), p.length ≤ 317
abbrev sParts : Stmt := topS 26
abbrev nRp : List Str := ["text", "parts", "bases", "digits", "bars", "part", "pair"]
theorem scRp : FnScope nRp ["text"] (defScope sParts) := ⟨rfl, rfl, rfl, by decide +kernel, rfl, by decide +kernel, by decide +kernel⟩
abbrev rSplit : V → List V → Hp → VK → Prop := fun x xs H Q => ∃ a b, x = .str a ∧ xs = [.str b] ∧ (b.length == 0) = false ∧ a.length + 2 ≤ sizeLine ∧ rNewStrs (Txt.split a b) H Q
abbrev rRm : V → List V → Hp → VK → Prop := fun x xs H Q => ∃ a b, x = .str a ∧ xs = [.str b] ∧ a.length ≤ sizeLine ∧ Q (.str (Txt.removeprefix a b)) H
/-- an error of the class at C, whatever it keeps -/
def Fails (C : Addr) (H : Hp) (E : XK) : Prop := ∀ u : V, Raised C "text" u H E
theorem Fails.same {C : Addr} {H H1 : Hp} {E : XK} (h : Fails C H E) (s : Same H H1) (u : V) : Raised C "text" u H1 E := fun fs d H' hd s1 ed => h u fs d H' (s.free hd) (s.trans s1) ed
def spPartsR (C : Addr) : Sp := fun vs H Q E => ∃ z : Str, vs = [.str z] ∧ Fine z ∧
  (∀ b ds rows, Read z b ds rows → ∀ (t td tb : Addr) (ks : List (Addr × List Int)) H', Same H H' → H' t = some (.tup [.int b, .ref td, .ref tb]) → H' td = some (.tup (ds.map V.int)) → H' tb = some (.lst (ks.map fun p => V.ref p.1)) → ks.map (·.2) = rows → (∀ p ∈ ks, H' p.1 = some (.tup (p.2.map V.int))) → Q (.ref t) H') ∧
  ((∀ b ds rows, ¬ Read z b ds rows) → Fails C H E)
theorem rp_len (x y : Str) : (Txt.removeprefix x y).length ≤ x.length := by
  rw [StrLaws.removeprefix_eq]
  split
  · show ((_ : List Nat).toArray).size ≤ _
    rw [List.size_toArray]
    refine Nat.le_trans (List.length_take_le _ _) ?_
    exact Nat.sub_le _ _
  · exact Nat.le_refl _
end
end K08
namespace K08
open PySem PySem.Spec PyProof.Rows L2 OF
section
variable {P : Program} {w : World} {K : PySem.W.Frag} {mg : Str → Option Value} {base : Heap}
/-! ### comprehensions of two fors over lists -/
theorem lc2_out {K : PySem.W.Frag} {a : Addr} {xs : List V} {g g1 : TG} {tt tt1 : TT} {wi1 : TI} {te : TE} {vs vs1 : List Nat} {σ : L2.St} {H1 : Hp} {D : Addr} {Qd : Hp → Prop} (Pv : Nat → Hp → Prop) (h0 : Pv 0 (upd H1 D (.lst []))) (hl : ∀ i H, i ≤ xs.length → Pv i H → SqL K H a xs)
    (hs : ∀ i x H, xs[i]? = some x → Pv i H → g x (wipe σ vs) H fun σ2 H2 => wipe σ2 vs = wipe σ vs ∧ tt σ2 H2 fun b H3 => if b = true then wi1 σ2 H3 fun J1 H4 => ∃ W1 : Nat → Nat → Hp → Prop, (∃ m, W1 0 m H4) ∧ ∀ j k H, W1 j k H →
      (J1.stop j H ∧ Pv (i + 1) H) ∨ (J1.go j H ∧ ∃ Nx1 : Hp → Prop, (∀ H', Nx1 H' → ∃ k', k' < k ∧ W1 (j + 1) k' H') ∧ ∀ x H', J1.yld j H x H' → g1 x (wipe σ2 vs1) H' fun σ3 H5 => wipe σ3 vs1 = wipe σ2 vs1 ∧ tt1 σ3 H5 fun b H6 =>
        if b = true then te σ3 H6 fun y H7 => ∃ acc, H7 D = some (.lst acc) ∧ acc.length < sizeLine ∧ Nx1 (upd H7 D (.lst (acc ++ [y]))) else Nx1 H6) else Pv (i + 1) H3) (hd : ∀ H, Pv xs.length H → Qd H) :
    ∃ W : Nat → Nat → Hp → Prop, (∃ m, W 0 m (upd H1 D (.lst []))) ∧ ∀ i m H, W i m H →
      ((Itl K a).stop i H ∧ Qd H) ∨ ((Itl K a).go i H ∧ ∃ Nx : Hp → Prop, (∀ H', Nx H' → ∃ m', m' < m ∧ W (i + 1) m' H') ∧ ∀ x H', (Itl K a).yld i H x H' → g x (wipe σ vs) H' fun σ2 H2 => wipe σ2 vs = wipe σ vs ∧ tt σ2 H2 fun b H3 =>
        if b = true then wi1 σ2 H3 fun J1 H4 => ∃ W1 : Nat → Nat → Hp → Prop, (∃ m, W1 0 m H4) ∧ ∀ j k H, W1 j k H →
          (J1.stop j H ∧ Nx H) ∨ (J1.go j H ∧ ∃ Nx1 : Hp → Prop, (∀ H', Nx1 H' → ∃ k', k' < k ∧ W1 (j + 1) k' H') ∧ ∀ x H', J1.yld j H x H' → g1 x (wipe σ2 vs1) H' fun σ3 H5 => wipe σ3 vs1 = wipe σ2 vs1 ∧ tt1 σ3 H5 fun b H6 =>
            if b = true then te σ3 H6 fun y H7 => ∃ acc, H7 D = some (.lst acc) ∧ acc.length < sizeLine ∧ Nx1 (upd H7 D (.lst (acc ++ [y]))) else Nx1 H6)
        else Nx H3) := by
  refine ⟨fun i m H => m = xs.length - i ∧ i ≤ xs.length ∧ Pv i H, ⟨_, rfl, Nat.zero_le _, h0⟩, ?_⟩
  rintro i m H ⟨rfl, hi, p⟩
  have q := hl i H hi p
  by_cases lt : i < xs.length
  · refine .inr ⟨⟨xs, xs[i], q, List.getElem?_eq_getElem lt⟩, Pv (i + 1), fun H' p' => ⟨_, by omega, rfl, lt, p'⟩, fun x H' y => ?_⟩
    obtain ⟨rfl, y⟩ := y
    exact hs i x _ (y xs q) p
  · have e : i = xs.length := by omega
    subst e
    exact .inl ⟨⟨xs, q, Nat.le_refl _⟩, hd H p⟩
theorem lc2_in {K : PySem.W.Frag} {a : Addr} {xs : List V} {g1 : TG} {tt1 : TT} {te : TE} {vs1 : List Nat} {σ2 : L2.St} {H4 : Hp} {D : Addr} {Nx : Hp → Prop} (Pv : Nat → Hp → Prop) (h0 : Pv 0 H4) (hl : ∀ i H, i ≤ xs.length → Pv i H → SqL K H a xs)
    (hs : ∀ j x H, xs[j]? = some x → Pv j H → g1 x (wipe σ2 vs1) H fun σ3 H5 => wipe σ3 vs1 = wipe σ2 vs1 ∧ tt1 σ3 H5 fun b H6 =>
        if b = true then te σ3 H6 fun y H7 => ∃ acc, H7 D = some (.lst acc) ∧ acc.length < sizeLine ∧ Pv (j + 1) (upd H7 D (.lst (acc ++ [y]))) else Pv (j + 1) H6) (hd : ∀ H, Pv xs.length H → Nx H) :
    ∃ W1 : Nat → Nat → Hp → Prop, (∃ m, W1 0 m H4) ∧ ∀ j k H, W1 j k H →
      ((Itl K a).stop j H ∧ Nx H) ∨ ((Itl K a).go j H ∧ ∃ Nx1 : Hp → Prop, (∀ H', Nx1 H' → ∃ k', k' < k ∧ W1 (j + 1) k' H') ∧ ∀ x H', (Itl K a).yld j H x H' → g1 x (wipe σ2 vs1) H' fun σ3 H5 => wipe σ3 vs1 = wipe σ2 vs1 ∧ tt1 σ3 H5 fun b H6 =>
        if b = true then te σ3 H6 fun y H7 => ∃ acc, H7 D = some (.lst acc) ∧ acc.length < sizeLine ∧ Nx1 (upd H7 D (.lst (acc ++ [y]))) else Nx1 H6) := by
  refine ⟨fun i m H => m = xs.length - i ∧ i ≤ xs.length ∧ Pv i H, ⟨_, rfl, Nat.zero_le _, h0⟩, ?_⟩
  rintro i m H ⟨rfl, hi, p⟩
  have q := hl i H hi p
  by_cases lt : i < xs.length
  · refine .inr ⟨⟨xs, xs[i], q, List.getElem?_eq_getElem lt⟩, Pv (i + 1), fun H' p' => ⟨_, by omega, rfl, lt, p'⟩, fun x H' y => ?_⟩
    obtain ⟨rfl, y⟩ := y
    exact hs i x _ (y xs q) p
  · have e : i = xs.length := by omega
    subst e
    exact .inl ⟨⟨xs, q, Nat.le_refl _⟩, hd H p⟩
abbrev barsOf (p : Str) : List Str := Txt.split (Txt.removeprefix p (Str.ofString "bars ")) (Str.ofString ", ")
theorem cut2 (x y : V) (l : List V) : cutV (x :: y :: l) (some 2) none = l := by
  unfold cutV
  have e : HT.sIx (x :: y :: l).length 0 (some 2) = 2 := by
    have h := HT.sIx_nat (x :: y :: l).length 0 2
    rw [show ((2 : Nat) : Int) = 2 from rfl] at h
    rw [h, List.length_cons, List.length_cons]
    omega
  rw [HT.sIx_none, e]
  exact List.take_of_length_le (by simp)
set_option maxHeartbeats 2000000 in
theorem ok_readparts {f fR fI C : Addr} {fd fdR fdI : FuncData} (F : Fun K "_read_parts" "_read_parts" sParts f fd) (GR : FnOk P w K mg base (L2N.CX P w) 4 fR fdR ["text"] (OF.spRead C)) (gR : mg "read_row" = some (.ref fR)) (kR : PySem.W.keepIn K (.ref fR) = true) (bR : Binds K fdR ["text"] [])
    (GI : FnOk P w K mg base CX0 2 fI fdI ["self", "text"] (spInit K "text" C)) (T : ErrC K mg "InvalidText" "text" C fI) (bI : Binds K fdI ["self", "text"] []) (ml : mg "len" = none) : FnOk P w K mg base (L2N.CX P w) 5 f fd ["text"] (spPartsR C) := by
  refine okXN F scRp (fun vs H Q E h => ?_) (fun cdv A outer s H vs Q E hr h => ?_)
  · obtain ⟨z, rfl, _⟩ := h
    rfl
  · obtain ⟨z, rfl, fz, good, bad⟩ := h
    have hr2 : Room 3 _ := hr.mono (by decide)
    apply Exists.intro
    apply And.intro
    · apply pss_cons
      · exact ps_set (i := 1) scRp.nd rfl (.inl rfl) (pe_split (pv 0) pe_str)
      apply pss_cons
      · exact ps_if (pt_cmpR op_notIn_seq (pe_callB call_len_seq (by rfl) ml PySem.boot_len (pa_cons (pv 1) pa_nil)) (pe_tup (pa_cons pe_int (pa_cons pe_int pa_nil))) rfl)
          (pss_one (L2N.ps_raise rfl (L2N.takes_of rfl rfl rfl rfl) (pmk_oexN T.ox T.iC T.tI GI hr2 bI pass0 (by rfl) T.g (pa_cons (pv 0) pa_nil)))) pss_nil
      apply pss_cons
      · exact ps_set (i := 2) scRp.nd rfl (.inl rfl) (pe_call GR hr (by rfl) gR kR bR .nil (L2N.passes_call (W := fun cl d _ J => E cl d J) (L2N.takes_of rfl rfl rfl rfl) (fun _ _ _ _ z => z))
          (pa_cons (pe_bm PySem.F.plainAttrs_str PySem.F.slot_str_removeprefix PySem.F.type_str_removeprefix mt_removeprefix (pe_ix ix_list (pv 1) pe_int (fun _ _ => rfl)) (pa_cons pe_str pa_nil)) pa_nil))
      apply pss_cons
      · exact ps_if (pt_cmpR op_ne (pe_callB call_len_seq (by rfl) ml PySem.boot_len (pa_cons (pv 2) pa_nil)) pe_int (nomark _))
          (pss_one (L2N.ps_raise rfl (L2N.takes_of rfl rfl rfl rfl) (pmk_oexN T.ox T.iC T.tI GI hr2 bI pass0 (by rfl) T.g (pa_cons (pv 0) pa_nil)))) pss_nil
      apply pss_cons
      · exact ps_set (i := 3) scRp.nd rfl (.inl rfl) (pe_call GR hr (by rfl) gR kR bR .nil (L2N.passes_call (W := fun cl d _ J => E cl d J) (L2N.takes_of rfl rfl rfl rfl) (fun _ _ _ _ z => z))
          (pa_cons (pe_bm PySem.F.plainAttrs_str PySem.F.slot_str_removeprefix PySem.F.type_str_removeprefix mt_removeprefix (pe_ix ix_list (pv 1) pe_int (fun _ _ => rfl)) (pa_cons pe_str pa_nil)) pa_nil))
      apply pss_cons
      · exact ps_setLc2N (i := 4) (own := [("part", 5), ("pair", 6)]) (vb := [6]) (ga := gName 5) (qa := tYes) (gb := gName 6) (qb := tYes) (E := fun cl d J => E cl d J) (wb := iList K (tM1 rSplit (tBM K "str" rRm (tVar 5) (tCons (tC (.str "bars ")) tNil)) (tC (.str ", ")))) (te := tCall (OF.spRead C) [] (fun cl d J => E cl d J) (tCons (tVar 6) tNil))
          rfl scRp.nd rfl rfl (sw_true rfl rfl rfl (by decide +kernel)) rfl rfl (L2N.takes_of rfl rfl rfl rfl) (fun _ _ _ _ z => z) (pi_list (pe_slice sl_list (pv 1) (po_some pe_int) po_none))
          (blkOk_by (own := [("part", 5), ("pair", 6)]) (N := nRp) (sc := defScope sParts) (by decide +kernel)) (by decide) (fun _ _ _ _ _ => pg_name (i := 5) scRp.nd rfl (Or.inl rfl)) (fun _ _ _ _ _ => pts_nil)
          (fun _ _ _ _ _ => by exact (pi_list (pe_split (pe_bm PySem.F.plainAttrs_str PySem.F.slot_str_removeprefix PySem.F.type_str_removeprefix mt_removeprefix (pv 5) (pa_cons pe_str pa_nil)) pe_str))) (fun _ _ _ _ _ => pg_name (i := 6) scRp.nd rfl (Or.inl rfl)) (fun _ _ _ _ _ => pts_nil)
          (fun _ _ _ _ _ _ px => by exact (pe_call GR hr (by rfl) gR kR bR .nil px (pa_cons (pv 6) pa_nil)))
      apply pss_one
      · exact ps_ret (pe_tup (pa_cons (pe_ix ix_tup (pv 2) pe_int (fun _ _ => rfl)) (pa_cons (pv 3) (pa_cons (pv 4) pa_nil))))
    refine ⟨.str z, rfl, ⟨z, rfl⟩, z, Str.ofString "; ", rfl, rfl, by decide +kernel, (by have := fz.tok.len; rw [sizeLine_eq]; omega), fun l hl => ?_⟩
    generalize hxs : Txt.split z (Str.ofString "; ") = xs
    have nf : ∀ {H1 : Hp}, Same H H1 → (∀ b ds rows, ¬ Read z b ds rows) → ∀ u : V, Raised C "text" u H1 E := fun s1 no u => (bad no).same s1 u
    have s1 : Same H (upd H l (.lst (xs.map V.str))) := same_new hl
    have e1 : (upd H l (.lst (xs.map V.str))) l = some (.lst (xs.map V.str)) := upd_same
    generalize upd H l (.lst (xs.map V.str)) = H1 at s1 e1 ⊢
    refine ⟨.ref l, rfl, l, _, rfl, .inl (SqL.of e1), (by show 2 ≤ sizeLine; decide), fun t0 ht0 => ?_⟩
    have s2 : Same H (upd H1 t0 (.tup [.int 2, .int 3])) := s1.trans (same_new ht0)
    have e2 := same_new (o := .tup [.int 2, .int 3]) ht0 _ _ e1
    refine ⟨t0, _, rfl, .inr (SqT.of upd_same), rfl, rfl, _, rfl, ?_⟩
    generalize upd H1 t0 (.tup [.int 2, .int 3]) = H2 at s2 e2 ⊢
    by_cases hm : ∃ (x y : Str) (more : List Str), xs = x :: y :: more ∧ more.length ≤ 1
    case neg =>
      have no : ∀ b ds rows, ¬ Read z b ds rows := fun b ds rows hR => by
        obtain ⟨x, y, more, e, lm, _⟩ := hR
        exact hm ⟨x, y, more, hxs.symm.trans e, lm⟩
      have hin : inV (.int ((xs.map V.str).length : Int)) [.int 2, .int 3] = false := by
        rw [List.length_map]
        match xs, hm with
        | [], _ => rfl
        | [_], _ => rfl
        | [x, y], hm => exact absurd ⟨x, y, [], rfl, Nat.zero_le _⟩ hm
        | [x, y, m], hm => exact absurd ⟨x, y, [m], rfl, Nat.le_refl _⟩ hm
        | _ :: _ :: _ :: _ :: r, _ =>
          have a1 : (((r.length + 1 + 1 + 1 + 1 : Nat) : Int) = 2) = False := eq_false (by omega)
          have a2 : (((r.length + 1 + 1 + 1 + 1 : Nat) : Int) = 3) = False := eq_false (by omega)
          unfold inV
          simp only [List.length_cons, List.any_cons, List.any_nil, Bool.or_false, Bool.or_eq_false_iff]
          constructor <;> (simp only [eqV]; apply decide_eq_false; intro q; omega)
      refine iteTB (by rw [hin]; rfl) ?_
      exact ⟨.str z, rfl, raised_ok (σ := start nRp [.str z]) (D := { nx := fun _ H' => Q .non H', rt := Q }) (bad no (.str z)) s2⟩
    obtain ⟨x, y, more, rfl, lm⟩ := hm
    have hin : inV (.int (((x :: y :: more).map V.str).length : Int)) [.int 2, .int 3] = true := by
      match more, lm with
      | [], _ => rfl
      | [_], _ => rfl
    refine iteFB (by rw [hin]; rfl) ?_
    have len : ∀ p ∈ x :: y :: more, p.length ≤ 317 := fun p hp => fz.part p (by rw [hxs]; exact hp)
    have lx := len x List.mem_cons_self
    have ly := len y (List.mem_cons_of_mem _ List.mem_cons_self)
    have big : ∀ {n : Nat}, n ≤ 317 → n ≤ sizeLine := fun {n} h => by rw [sizeLine_eq]; omega
    refine ⟨.ref l, rfl, l, _, 0, .str x, rfl, rfl, SqL.of e2, atI_nat (j := 0) rfl, rfl, x, Str.ofString "base ", rfl, rfl, big lx, ?_⟩
    refine ⟨_, rfl, .inl ⟨_, rfl, Nat.le_trans (rp_len x _) (by omega), fun dv hdv tb H3 htb s3 eb => ?_, fun hn => ?_⟩⟩
    case refine_2 =>
      have no : ∀ b ds rows, ¬ Read z b ds rows := fun b ds rows hR => by
        obtain ⟨x', y', more', e, _, e2', _, _, d1, _⟩ := hR
        rw [hxs] at e
        cases e
        rw [e2', read_row_of d1] at hn
        cases hn
      exact (bad no).same s2 _
    obtain ⟨bs, dbs, rfl, ebs⟩ := read_some hdv
    have e3 := s3 _ _ e2
    have s3' := s2.trans s3
    refine ⟨.ref tb, rfl, tb, _, rfl, .inr (SqT.of eb), rfl, _, rfl, ?_⟩
    rw [List.length_map]
    by_cases hb1 : bs.length = 1
    case neg =>
      have no : ∀ b ds rows, ¬ Read z b ds rows := fun b ds rows hR => by
        obtain ⟨x', y', more', e, _, e2', _, _, d1, _⟩ := hR
        rw [hxs] at e
        cases e
        rw [ebs] at e2'
        exact hb1 (by rw [textOf_inj dbs d1 e2']; rfl)
      have nq : (!decide (V.int (bs.length : Int) = V.int 1)) = true := by
        rw [decide_eq_false (fun q => hb1 (by have := V.int.inj q; omega))]
        rfl
      refine iteTB nq ?_
      exact ⟨.str z, rfl, raised_ok (σ := start nRp [.str z]) (D := { nx := fun _ H' => Q .non H', rt := Q }) (bad no (.str z)) s3'⟩
    obtain ⟨b, rfl⟩ : ∃ b, bs = [b] := by
      match bs, hb1 with
      | [b], _ => exact ⟨b, rfl⟩
    refine iteFB rfl ?_
    refine ⟨.ref l, rfl, l, _, 1, .str y, rfl, rfl, SqL.of e3, atI_nat (j := 1) rfl, rfl, y, Str.ofString "digits ", rfl, rfl, big ly, ?_⟩
    refine ⟨_, rfl, .inl ⟨_, rfl, Nat.le_trans (rp_len y _) (by omega), fun dv hdv2 td H4 htd s4 ed => ?_, fun hn => ?_⟩⟩
    case refine_2 =>
      have no : ∀ b ds rows, ¬ Read z b ds rows := fun b ds rows hR => by
        obtain ⟨x', y', more', e, _, _, e2', _, _, d1, _⟩ := hR
        rw [hxs] at e
        cases e
        rw [e2', read_row_of d1] at hn
        cases hn
      exact (bad no).same s3' _
    obtain ⟨ds, dds, rfl, eds⟩ := read_some hdv2
    have e4 := s4 _ _ e3
    have eb4 := s4 _ _ eb
    have s4' := s3'.trans s4
    refine ⟨.ref l, rfl, 2, rfl, l, _, rfl, SqL.of e4, fun ls hls => ?_⟩
    have ecut : cutV ((x :: y :: more).map V.str) (some 2) none = more.map V.str := cut2 _ _ _
    rw [ecut]
    have s5 : Same H (upd H4 ls (.lst (more.map V.str))) := s4'.trans (same_new hls)
    have e5 : (upd H4 ls (.lst (more.map V.str))) ls = some (.lst (more.map V.str)) := upd_same
    have eb5 := same_new (o := .lst (more.map V.str)) hls _ _ eb4
    have ed5 := same_new (o := .lst (more.map V.str)) hls _ _ ed
    generalize upd H4 ls (.lst (more.map V.str)) = H5 at s5 e5 eb5 ed5 ⊢
    refine ⟨ls, rfl, ⟨_, SqL.of e5⟩, fun D hD => ?_⟩
    have nls : ls ≠ D := ne_of_none e5 hD
    refine lc2_out (K := K) (a := ls) (xs := more.map V.str) (fun i H' => Same H5 H' ∧ ∃ ks : List (Addr × List Int), H' D = some (.lst (ks.map fun p => V.ref p.1)) ∧ (more.take i).flatMap barsOf = (ks.map (·.2)).map textOf ∧ ∀ p ∈ ks, Dgs p.2 ∧ H' p.1 = some (.tup (p.2.map V.int)))
      ⟨same_new hD, [], upd_same, rfl, fun p hp => by cases hp⟩ (fun i H' _ h => SqL.of (h.1 _ _ e5)) ?_ ?_
    · rintro i v H' hi ⟨s6, ks, eD, eks, tks⟩
      obtain ⟨p, hp, rfl⟩ := get_map hi
      have mp : p ∈ more := List.mem_of_getElem? hp
      have lp := len p (List.mem_cons_of_mem _ (List.mem_cons_of_mem _ mp))
      have lrp := rp_len p (Str.ofString "bars ")
      refine ⟨rfl, tYes_if ⟨.str p, rfl, rfl, p, Str.ofString "bars ", rfl, rfl, big lp, ⟨_, rfl⟩, _, Str.ofString ", ", rfl, rfl, by decide +kernel, (by rw [sizeLine_eq]; omega), fun lq hlq => ?_⟩⟩
      have eys : Txt.split (Txt.removeprefix p (Str.ofString "bars ")) (Str.ofString ", ") = barsOf p := rfl
      rw [eys]
      have few : (barsOf p).length ≤ 400 := by
        have h1 := PyProof.Rows.split_le (Txt.removeprefix p (Str.ofString "bars ")) (Str.ofString ", ")
        show (Txt.split _ _).length ≤ 400
        omega
      have s7 : Same H5 (upd H' lq (.lst ((barsOf p).map V.str))) := s6.trans (same_new hlq)
      have eq7 : (upd H' lq (.lst ((barsOf p).map V.str))) lq = some (.lst ((barsOf p).map V.str)) := upd_same
      have eD7 := same_new (o := .lst ((barsOf p).map V.str)) hlq _ _ eD
      have tks7 : ∀ r ∈ ks, Dgs r.2 ∧ (upd H' lq (.lst ((barsOf p).map V.str))) r.1 = some (.tup (r.2.map V.int)) := fun r hr => ⟨(tks r hr).1, same_new hlq _ _ (tks r hr).2⟩
      generalize upd H' lq (.lst ((barsOf p).map V.str)) = H7 at s7 eq7 eD7 tks7 ⊢
      have nlq : lq ≠ D := fun z => by
        rw [z, eD] at hlq
        cases hlq
      refine ⟨lq, rfl, ⟨_, SqL.of eq7⟩, ?_⟩
      refine lc2_in (K := K) (a := lq) (xs := (barsOf p).map V.str) (fun j H' => Same H5 H' ∧ H' lq = some (.lst ((barsOf p).map V.str)) ∧ ∃ ks : List (Addr × List Int), H' D = some (.lst (ks.map fun p => V.ref p.1)) ∧ (more.take i).flatMap barsOf ++ (barsOf p).take j = (ks.map (·.2)).map textOf ∧ ∀ p ∈ ks, Dgs p.2 ∧ H' p.1 = some (.tup (p.2.map V.int)))
        ⟨s7, eq7, ks, eD7, by rw [List.take_zero, List.append_nil]; exact eks, tks7⟩ (fun i H' _ h => SqL.of h.2.1) ?_ ?_
      · rintro j v H8 hj ⟨s8, eq8, ks8, eD8, eks8, tks8⟩
        obtain ⟨u, hu, rfl⟩ := get_map hj
        have mu : u ∈ barsOf p := List.mem_of_getElem? hu
        have lu : u.length ≤ 100000 := by
          have j := StrLaws.join_split (Txt.removeprefix p (Str.ofString "bars ")) (Str.ofString ", ")
          have j2 := TL.tl_join (Str.ofString ", ") (barsOf p)
          have h1 := (in_join (S := TL.tl (Str.ofString ", ")) (ps := (barsOf p).map TL.tl) (List.mem_map.mpr ⟨u, mu, rfl⟩)).1
          have j3 : Str.join (Str.ofString ", ") (barsOf p) = Txt.removeprefix p (Str.ofString "bars ") := j
          rw [← j2, j3, ← TL.len_tl, ← TL.len_tl] at h1
          omega
        have i0 : i = 0 := by
          have h1 := (List.getElem?_eq_some_iff.mp hp).1
          omega
        refine ⟨rfl, tYes_if ⟨.str u, rfl, _, rfl, .inl ⟨u, rfl, lu, fun dv hdv pt H9 hpt s9 ept => ?_, fun hn => ?_⟩⟩⟩
        · obtain ⟨r, dr, rfl, er⟩ := read_some hdv
          have eD9 := s9 _ _ eD8
          refine ⟨_, eD9, ?_, Same.store (s8.trans s9) hD, ?_, ks8 ++ [(pt, r)], ?_, ?_, ?_⟩
          · have h1 := congrArg List.length eks8
            rw [i0, List.take_zero, List.flatMap_nil, List.nil_append, List.length_map, List.length_map, List.length_take] at h1
            rw [List.length_map, sizeLine_eq]
            omega
          · rw [upd_ne nlq]
            exact s9 _ _ eq8
          · rw [upd_same, List.map_append]
            rfl
          · rw [take_more hu, ← List.append_assoc, eks8, List.map_append, List.map_append, er]
            rfl
          · intro q hq
            rcases List.mem_append.mp hq with hq | hq
            · obtain ⟨d1, d2⟩ := tks8 q hq
              have ne : q.1 ≠ D := fun z => by
                rw [z, eD8] at d2
                cases d2
              exact ⟨d1, by rw [upd_ne ne]; exact s9 _ _ d2⟩
            · cases List.mem_singleton.mp hq
              have ne : pt ≠ D := fun z => by
                rw [z, eD9] at ept
                cases ept
              exact ⟨dr, by rw [upd_ne ne]; exact ept⟩
        · have no : ∀ b ds rows, ¬ Read z b ds rows := fun b ds rows hR => by
            obtain ⟨x', y', more', e, _, _, _, e2', _, _, d3⟩ := hR
            rw [hxs] at e
            cases e
            have mem : u ∈ rows.map textOf := by
              rw [← e2']
              exact List.mem_flatMap.mpr ⟨p, mp, mu⟩
            obtain ⟨r, hr, er⟩ := List.mem_map.mp mem
            rw [← er, read_row_of (d3 r hr)] at hn
            cases hn
          exact (bad no).same (s5.trans s8) _
      · rintro H8 ⟨s8, eq8, ks8, eD8, eks8, tks8⟩
        rw [List.length_map, List.take_length] at eks8
        refine ⟨s8, ks8, eD8, ?_, tks8⟩
        rw [take_more hp, List.flatMap_append, ← eks8]
        simp
    · rintro H' ⟨s6, ks, eD, eks, tks⟩
      rw [List.length_map, List.take_length] at eks
      have s7 := s5.trans s6
      have hR : Read z b ds (ks.map (·.2)) := ⟨x, y, more, hxs, lm, ebs, eds, eks, dbs, dds, fun r hr => by
        obtain ⟨q, hq, rfl⟩ := List.mem_map.mp hr
        exact (tks q hq).1⟩
      refine ⟨.ref tb, rfl, tb, _, 0, .int b, rfl, rfl, SqT.of (s6 _ _ eb5), atI_nat (j := 0) rfl, .ref td, rfl, .ref D, rfl, (by show 3 ≤ sizeLine; decide), fun t ht => ?_⟩
      have s8 := s7.trans (same_new (o := .tup [.int b, .ref td, .ref D]) ht)
      exact good b ds _ hR t td D ks _ s8 upd_same (same_new ht _ _ (s6 _ _ ed5)) (same_new ht _ _ eD) rfl (fun q hq => same_new ht _ _ (tks q hq).2)
end
end K08
namespace K08
open PySem PySem.Spec PyProof.Rows L2 OF TL
/-! ### the text of a scheme is read as its parts -/
theorem nc_app {c : Nat} {x y : Str} (h1 : c ∉ tl x) (h2 : c ∉ tl y) : c ∉ tl (x ++ y) := by
  rw [tl_append]
  intro h
  rcases List.mem_append.mp h with h | h
  · exact h1 h
  · exact h2 h
theorem nc_joinL {c : Nat} {S : List Nat} (hS : c ∉ S) : ∀ {ps : List (List Nat)}, (∀ p ∈ ps, c ∉ p) → c ∉ joinL S ps
  | [], _ => by
    intro h
    cases h
  | [q], h => h q List.mem_cons_self
  | q :: r :: ps, h => by
    intro hc
    have ih := nc_joinL hS (ps := r :: ps) fun p hp => h p (List.mem_cons_of_mem _ hp)
    rw [show joinL S (q :: r :: ps) = q ++ (S ++ joinL S (r :: ps)) from rfl] at hc
    rcases List.mem_append.mp hc with hc | hc
    · exact h q List.mem_cons_self hc
    · rcases List.mem_append.mp hc with hc | hc
      · exact hS hc
      · exact ih hc
theorem nc_join {c : Nat} {y : Str} (hy : c ∉ tl y) {ps : List Str} (h : ∀ p ∈ ps, c ∉ tl p) : c ∉ tl (Txt.join y ps) := by
  rw [TL.join_eq, tl_join]
  refine nc_joinL hy fun p hp => ?_
  obtain ⟨q, hq, rfl⟩ := List.mem_map.mp hp
  exact h q hq
theorem nc_digits : ∀ k : Nat, k < 19 → (59 : Nat) ∉ tl (Str.ofString (toString ((-9 : Int) + (k : Int)))) ∧ (44 : Nat) ∉ tl (Str.ofString (toString ((-9 : Int) + (k : Int)))) := by decide +kernel
theorem nc_strI {i : Int} (h : -9 ≤ i ∧ i ≤ 9) : (59 : Nat) ∉ tl (strI i) ∧ (44 : Nat) ∉ tl (strI i) := by
  have e : i = (-9 : Int) + (((i + 9).toNat : Nat) : Int) := by omega
  have := nc_digits (i + 9).toNat (by omega)
  rw [← e] at this
  exact this
theorem nc_textOf {is : List Int} (h : Dgs is) : (59 : Nat) ∉ tl (textOf is) ∧ (44 : Nat) ∉ tl (textOf is) := by
  unfold textOf
  split
  · decide +kernel
  · refine ⟨nc_join (by decide +kernel) fun p hp => ?_, nc_join (by decide +kernel) fun p hp => ?_⟩
    · obtain ⟨i, hi, rfl⟩ := List.mem_map.mp hp
      exact (nc_strI (h i hi)).1
    · obtain ⟨i, hi, rfl⟩ := List.mem_map.mp hp
      exact (nc_strI (h i hi)).2
theorem pre_self (a b : List Nat) : pre a (a ++ b) = true := by
  unfold pre
  rw [List.take_left]
  exact beq_self_eq_true a
theorem rp_app (y w : Str) (hy : tl y ≠ []) : Txt.removeprefix (y ++ w) y = w := by
  have at0 : Builtin.Str.subAt (y ++ w) y 0 = true := ((at_iff hy 0).mpr (by rw [tl_append, List.drop_zero]; exact pre_self _ _)).2
  have hl : (y ++ w).length = y.length + w.length := by rw [len_tl, tl_append, List.length_append, ← len_tl, ← len_tl]
  rw [StrLaws.removeprefix_eq, at0, decide_eq_true (show 0 + y.length ≤ (y ++ w).length by omega), if_pos (by rfl)]
  refine ext_tl ?_
  rw [tl_mk]
  show ((tl (y ++ w)).drop y.length).take ((y ++ w).length - y.length) = tl w
  rw [tl_append, hl, show y.length + w.length - y.length = w.length by omega, len_tl y, List.drop_left, List.take_of_length_le (by rw [len_tl w]; exact Nat.le_refl _)]
/-- the parts of the text -/
def partsS (b : Int) (ds : List Int) (ps : List (Int × Int)) : List Str := headS b ds ++ if ps = [] then [] else [barsS ps]
theorem Good.dd {b : Int} {ds : List Int} {ps : List (Int × Int)} (G : Good b ds ps) : Dgs ds := G.digs
theorem Good.dp {b : Int} {ds : List Int} {ps : List (Int × Int)} (G : Good b ds ps) {p : Int × Int} (hp : p ∈ ps) : Dgs [p.1, p.2] := fun i hi => dig_in (G.two hp i hi)
theorem Good.db {b : Int} {ds : List Int} {ps : List (Int × Int)} (G : Good b ds ps) : Dgs [b] := fun i hi => by
  rw [List.mem_singleton.mp hi]
  exact base_dig G.b
theorem nc_parts {b : Int} {ds : List Int} {ps : List (Int × Int)} (G : Good b ds ps) : ∀ p ∈ partsS b ds ps, (59 : Nat) ∉ tl p := by
  intro p hp
  rcases List.mem_append.mp hp with h | h
  · unfold headS at h
    rcases List.mem_cons.mp h with rfl | h
    · exact nc_app (by decide +kernel) (nc_strI (base_dig G.b)).1
    · rw [List.mem_singleton.mp h]
      exact nc_app (by decide +kernel) (nc_textOf G.dd).1
  · split at h
    · cases h
    · rw [List.mem_singleton.mp h]
      refine nc_app (by decide +kernel) (nc_join (by decide +kernel) fun q hq => ?_)
      obtain ⟨r, hr, rfl⟩ := List.mem_map.mp hq
      exact (nc_textOf (G.dp hr)).1
theorem split_parts {xs : List Str} (hn : xs ≠ []) (h : ∀ p ∈ xs, (59 : Nat) ∉ tl p) : Txt.split (Txt.join (Str.ofString "; ") xs) (Str.ofString "; ") = xs :=
  TL.split_join (s := 59) (S := [32]) (by decide +kernel) (by decide +kernel) hn h
theorem split_text {b : Int} {ds : List Int} {ps : List (Int × Int)} (G : Good b ds ps) : Txt.split (strS b ds ps) (Str.ofString "; ") = partsS b ds ps := split_parts (List.cons_ne_nil _ _) (nc_parts G)
theorem one_text (b : Int) : textOf [b] = strI b := by
  unfold textOf
  rw [if_neg (List.cons_ne_nil _ _), TL.join_eq]
  rfl
def rowP (p : Int × Int) : List Int := [p.1, p.2]
theorem Good.read {b : Int} {ds : List Int} {ps : List (Int × Int)} (G : Good b ds ps) : Read (strS b ds ps) b ds (ps.map rowP) := by
  refine ⟨_, _, if ps = [] then [] else [barsS ps], split_text G, ?_, ?_, ?_, ?_, G.db, G.dd, fun r hr => ?_⟩
  · split <;> simp
  · rw [rp_app _ _ (by decide +kernel), one_text]
  · exact rp_app _ _ (by decide +kernel)
  · by_cases hp : ps = []
    · rw [if_pos hp, hp]
      rfl
    · rw [if_neg hp, List.flatMap_cons, List.flatMap_nil, List.append_nil]
      show Txt.split (Txt.removeprefix (Str.ofString "bars " ++ _) _) _ = _
      rw [rp_app _ _ (by decide +kernel), List.map_map]
      refine TL.split_join (s := 44) (S := [32]) (by decide +kernel) (by decide +kernel) (fun z => hp (List.map_eq_nil_iff.mp z)) fun q hq => ?_
      obtain ⟨r, hr, rfl⟩ := List.mem_map.mp hq
      exact (nc_textOf (G.dp hr)).2
  · obtain ⟨p, hp, rfl⟩ := List.mem_map.mp hr
    exact G.dp hp
theorem rowP_inj : ∀ {a b : List (Int × Int)}, a.map rowP = b.map rowP → a = b
  | [], [], _ => rfl
  | [], _ :: _, e => by cases e
  | _ :: _, [], e => by cases e
  | (x, x') :: a, (y, y') :: b, e => by
    rw [List.map_cons, List.map_cons, List.cons.injEq] at e
    obtain ⟨e1, e2⟩ := e
    have h := List.cons.inj e1
    rw [show x = y from h.1, show x' = y' from (List.cons.inj h.2).1, rowP_inj e2]
/-- the text tells the scheme -/
theorem Good.text_one {b b2 : Int} {ds ds2 : List Int} {ps ps2 : List (Int × Int)} (G : Good b ds ps) (G2 : Good b2 ds2 ps2) (e : strS b ds ps = strS b2 ds2 ps2) : b = b2 ∧ ds = ds2 ∧ ps = ps2 := by
  have h := G.read
  rw [e] at h
  obtain ⟨e1, e2, e3⟩ := h.one G2.read
  exact ⟨e1, e2, rowP_inj e3⟩
end K08
namespace K08
open PySem PySem.Spec PyProof.Rows L2 OF TL
/-! ### digits and pairs in order, each once -/
def allD : List Int := (List.range 19).map fun (i : Nat) => (-9 : Int) + (i : Int)
theorem allD_asc : allD.Pairwise (· < ·) := by decide +kernel
theorem allD_mem {n : Int} (h : -9 ≤ n ∧ n ≤ 9) : n ∈ allD := List.mem_map.mpr ⟨(n + 9).toNat, List.mem_range.mpr (by omega), by omega⟩
def sortD (ns : List Int) : List Int := allD.filter fun n => decide (n ∈ ns)
theorem sortD_mem {ns : List Int} (h : Dgs ns) (n : Int) : n ∈ sortD ns ↔ n ∈ ns := by
  unfold sortD
  rw [List.mem_filter, decide_eq_true_eq]
  exact ⟨fun z => z.2, fun z => ⟨allD_mem (h n z), z⟩⟩
theorem sortD_asc (ns : List Int) : (sortD ns).Pairwise (· < ·) := allD_asc.filter _
theorem six_sort {ns : List Int} (h : Dgs ns) : SixOf ns (decide (1 ≤ (sortD ns).length) && decide ((sortD ns).length ≤ 6)) := fun ks nd mem => by
  have pm : ks.Perm (sortD ns) := (List.perm_ext_iff_of_nodup nd (by rw [List.nodup_iff_pairwise_ne]; exact (sortD_asc ns).imp fun h => by omega)).mpr fun z => (mem z).trans (sortD_mem h z).symm
  rw [pm.length_eq]
def sortP (ds : List Int) (bs : List (Int × Int)) : List (Int × Int) := (ds.flatMap fun x => ds.map fun y => (x, y)).filter fun p => decide (p ∈ bs)
theorem sq_len (ms : List Int) : ∀ ds : List Int, (ds.flatMap fun x => ms.map fun y => (x, y)).length = ds.length * ms.length
  | [] => by simp
  | d :: ds => by
    rw [List.flatMap_cons, List.length_append, sq_len ms ds, List.length_map, List.length_cons, Nat.succ_mul]
    omega
theorem good_sort {b : Int} {ns : List Int} {bs : List (Int × Int)} (hb : isBase b = true) (h : Dgs ns) (six : (decide (1 ≤ (sortD ns).length) && decide ((sortD ns).length ≤ 6)) = true) (hp : ∀ p ∈ bs, p.1 ∈ ns ∧ p.2 ∈ ns) : Good b (sortD ns) (sortP (sortD ns) bs) := by
  rw [Bool.and_eq_true, decide_eq_true_eq, decide_eq_true_eq] at six
  refine ⟨hb, sortD_asc ns, six.1, six.2, fun n hn => dig_of (h n ((sortD_mem h n).mp hn)).1 (h n ((sortD_mem h n).mp hn)).2, fun p hp2 => ?_, (prod_aux (sortD_asc ns) (sortD_asc ns)).filter _, ?_⟩
  · obtain ⟨m, _⟩ := List.mem_filter.mp hp2
    obtain ⟨x, hx, m⟩ := List.mem_flatMap.mp m
    obtain ⟨y, hy, rfl⟩ := List.mem_map.mp m
    exact ⟨hx, hy⟩
  · refine Nat.le_trans (List.length_filter_le _ _) ?_
    rw [sq_len]
    exact Nat.le_trans (Nat.mul_le_mul six.2 six.2) (by decide)
theorem sortP_mem {ns : List Int} {bs : List (Int × Int)} (h : Dgs ns) (hp : ∀ p ∈ bs, p.1 ∈ ns ∧ p.2 ∈ ns) (z : Int × Int) : z ∈ sortP (sortD ns) bs ↔ z ∈ bs := by
  unfold sortP
  rw [List.mem_filter, decide_eq_true_eq]
  refine ⟨fun q => q.2, fun q => ⟨List.mem_flatMap.mpr ⟨z.1, (sortD_mem h _).mpr (hp z q).1, List.mem_map.mpr ⟨z.2, (sortD_mem h _).mpr (hp z q).2, rfl⟩⟩, q⟩⟩

/-! ### how many a short text tells -/
theorem joinL_len (S : List Nat) : ∀ (p : List Nat) (ps : List (List Nat)), (joinL S (p :: ps)).length + S.length = ((p :: ps).map fun q => q.length + S.length).sum
  | p, [] => by
    show p.length + S.length = _
    simp
  | p, q :: ps => by
    have ih := joinL_len S q ps
    rw [show joinL S (p :: q :: ps) = p ++ (S ++ joinL S (q :: ps)) from rfl, List.length_append, List.length_append, List.map_cons, List.sum_cons, ← ih]
    omega
theorem sum_ge {n : Nat} : ∀ {l : List Nat}, (∀ k ∈ l, n ≤ k) → n * l.length ≤ l.sum
  | [], _ => by simp
  | k :: l, h => by
    have ih := sum_ge (l := l) fun j hj => h j (List.mem_cons_of_mem _ hj)
    have := h k List.mem_cons_self
    rw [List.length_cons, List.sum_cons, Nat.mul_succ]
    omega
theorem join_len {y : Str} {m : Nat} {ps : List Str} (h : ∀ p ∈ ps, m ≤ p.length) (hn : ps ≠ []) : (m + y.length) * ps.length ≤ (Txt.join y ps).length + y.length := by
  obtain ⟨p, l, rfl⟩ : ∃ p l, ps = p :: l := by
    cases ps with
    | nil => exact absurd rfl hn
    | cons p l => exact ⟨p, l, rfl⟩
  have e := joinL_len (tl y) (tl p) (l.map tl)
  have e2 : (Txt.join y (p :: l)).length = (joinL (tl y) (tl p :: l.map tl)).length := by rw [TL.join_eq, len_tl, tl_join]; rfl
  rw [e2, len_tl y, e]
  have g := sum_ge (n := m + (tl y).length) (l := (tl p :: l.map tl).map fun q => q.length + (tl y).length) (fun k hk => by
    obtain ⟨q, hq, rfl⟩ := List.mem_map.mp hk
    have : m ≤ q.length := by
      rcases List.mem_cons.mp hq with rfl | hq
      · rw [← len_tl]
        exact h p List.mem_cons_self
      · obtain ⟨r, hr, rfl⟩ := List.mem_map.mp hq
        rw [← len_tl]
        exact h r (List.mem_cons_of_mem _ hr)
    omega)
  rw [List.length_map, List.length_cons, List.length_map] at g
  exact g
theorem textOf_len {is : List Int} (h : Dgs is) : 2 * is.length ≤ (textOf is).length + 1 := by
  by_cases hn : is = []
  · rw [hn]
    simp
  · unfold textOf
    rw [if_neg hn]
    have hb : (Str.ofString " ").length = 1 := by decide +kernel
    have g := join_len (y := Str.ofString " ") (m := 1) (ps := is.map strI) (fun p hp => by
      obtain ⟨i, hi, rfl⟩ := List.mem_map.mp hp
      exact (strI_ok (h i hi)).2) (fun z => hn (List.map_eq_nil_iff.mp z))
    rw [hb, List.length_map] at g
    exact g
theorem Read.lens {z : Str} {b : Int} {ds : List Int} {rows : List (List Int)} (f : Fine z) (h : Read z b ds rows) : ds.length ≤ 900 ∧ (∀ r ∈ rows, r.length ≤ 1000) ∧ ∀ pre post, rows = pre ++ post → (∀ r ∈ pre, r.length = 2) → pre.length < 64 := by
  obtain ⟨x, y, more, e1, l1, e2, e3, e4, d1, d2, d3⟩ := h
  have ly := f.part y (by rw [e1]; exact List.mem_cons_of_mem _ List.mem_cons_self)
  have h1 := textOf_len d2
  have h2 := rp_len y (Str.ofString "digits ")
  rw [e3] at h2
  have e5 : more = [] ∨ ∃ p, more = [p] := by
    match more, l1 with
    | [], _ => exact .inl rfl
    | [p], _ => exact .inr ⟨p, rfl⟩
  rcases e5 with rfl | ⟨p, rfl⟩
  · have e6 : rows = [] := List.map_eq_nil_iff.mp e4.symm
    subst e6
    refine ⟨by omega, (fun r hr => by cases hr), fun pre post e _ => ?_⟩
    have : pre = [] := (List.append_eq_nil_iff.mp e.symm).1
    rw [this]
    decide
  · rw [List.flatMap_cons, List.flatMap_nil, List.append_nil] at e4
    have lp := f.part p (by rw [e1]; exact List.mem_cons_of_mem _ (List.mem_cons_of_mem _ List.mem_cons_self))
    have lr := rp_len p (Str.ofString "bars ")
    have j := StrLaws.join_split (Txt.removeprefix p (Str.ofString "bars ")) (Str.ofString ", ")
    rw [e4] at j
    have hc : (Str.ofString ", ").length = 2 := by decide +kernel
    have each : ∀ r ∈ rows, (textOf r).length ≤ 317 := fun r hr => by
      have h3 := (in_join (S := tl (Str.ofString ", ")) (ps := (rows.map textOf).map tl) (List.mem_map.mpr ⟨_, List.mem_map.mpr ⟨r, hr, rfl⟩, rfl⟩)).1
      rw [← tl_join, j, ← len_tl, ← len_tl] at h3
      omega
    refine ⟨by omega, fun r hr => ?_, fun pre post e hp => ?_⟩
    · have := each r hr
      have := textOf_len (d3 r hr)
      omega
    · by_cases hn : pre = []
      · rw [hn]
        decide
      · have j3 : joinL (tl (Str.ofString ", ")) ((rows.map textOf).map tl) = tl (Txt.removeprefix p (Str.ofString "bars ")) := by rw [← tl_join, j]
        have hl : tl (Str.ofString ", ") = [44, 32] := by decide +kernel
        obtain ⟨r0, l0, er⟩ : ∃ r0 l0, rows = r0 :: l0 := by
          cases rows with
          | nil => exact absurd (List.append_eq_nil_iff.mp e.symm).1 hn
          | cons r0 l0 => exact ⟨r0, l0, rfl⟩
        have s0 := joinL_len (tl (Str.ofString ", ")) (tl (textOf r0)) ((l0.map textOf).map tl)
        rw [show tl (textOf r0) :: (l0.map textOf).map tl = (rows.map textOf).map tl by rw [er]; rfl, j3, ← len_tl, hl] at s0
        have s1 : (((rows.map textOf).map tl).map fun q => q.length + [44, 32].length).sum = ((pre.map fun r => (textOf r).length + 2).sum) + ((post.map fun r => (textOf r).length + 2).sum) := by
          rw [e, List.map_append, List.map_append, List.map_append, List.sum_append, List.map_map, List.map_map, List.map_map, List.map_map]
          congr 1 <;> (congr 1; refine List.map_congr_left fun r _ => ?_; show (tl (textOf r)).length + 2 = _; rw [← len_tl])
        rw [s1] at s0
        have g := sum_ge (n := 5) (l := pre.map fun r => (textOf r).length + 2) (fun k hk => by
          obtain ⟨r, hr, rfl⟩ := List.mem_map.mp hk
          have h4 := textOf_len (d3 r (by rw [e]; exact List.mem_append_left _ hr))
          rw [hp r hr] at h4
          omega)
        rw [List.length_map] at g
        have : [44, 32].length = 2 := rfl
        omega
end K08
namespace K08
open PySem PySem.Spec PyProof.Rows L2 OF TL
section
variable {P : Program} {w : World} {K : PySem.W.Frag} {mg : Str → Option Value} {base : Heap}
/-! ### Scheme(..) of what was read -/
theorem isOne_of {ds : List Int} (h : Dgs ds) {n : Int} (m : n ∈ ds) : isOne ds n = true := by
  unfold isOne
  rw [dig_of (h n m).1 (h n m).2, decide_eq_true m]
  rfl
theorem pair_cases (ds : List Int) (h : Dgs ds) : ∀ ks : List (Addr × List Int), (∃ k2 : List (Addr × (Int × Int)), ks = k2.map asL ∧ ∀ p ∈ k2, p.2.1 ∈ ds ∧ p.2.2 ∈ ds) ∨
    ∃ pre p post, ks = pre ++ p :: post ∧ (∀ q ∈ pre, ∃ x y, q.2 = [x, y] ∧ x ∈ ds ∧ y ∈ ds) ∧ pairB ds (p.2.map V.int) = false
  | [] => .inl ⟨[], rfl, fun p hp => by cases hp⟩
  | (a, r) :: ks => by
    by_cases hr : ∃ x y, r = [x, y] ∧ x ∈ ds ∧ y ∈ ds
    · obtain ⟨x, y, rfl, hx, hy⟩ := hr
      rcases pair_cases ds h ks with ⟨k2, e, hk⟩ | ⟨pre, p, post, e, hk, bad⟩
      · refine .inl ⟨(a, (x, y)) :: k2, by rw [e]; rfl, fun p hp => ?_⟩
        rcases List.mem_cons.mp hp with rfl | hp
        · exact ⟨hx, hy⟩
        · exact hk p hp
      · refine .inr ⟨(a, [x, y]) :: pre, p, post, by rw [e]; rfl, fun q hq => ?_, bad⟩
        rcases List.mem_cons.mp hq with rfl | hq
        · exact ⟨x, y, rfl, hx, hy⟩
        · exact hk q hq
    · refine .inr ⟨[], (a, r), ks, rfl, (fun q hq => by cases hq), ?_⟩
      unfold pairB
      rw [Bool.and_eq_false_iff]
      match r, hr with
      | [], _ => exact .inl rfl
      | [_], _ => exact .inl rfl
      | _ :: _ :: _ :: l, _ =>
        refine .inl (decide_eq_false ?_)
        simp
      | [x, y], hr =>
        right
        show (oneV ds (.int x) && (oneV ds (.int y) && true)) = false
        have ex : oneV ds (.int x) = (dig x && decide (x ∈ ds)) := rfl
        have ey : oneV ds (.int y) = (dig y && decide (y ∈ ds)) := rfl
        rw [ex, ey]
        by_cases hx : x ∈ ds
        · have hy : y ∉ ds := fun hy => hr ⟨x, y, rfl, hx, hy⟩
          rw [decide_eq_false hy]
          simp
        · rw [decide_eq_false hx]
          simp
theorem new_any {C CB CD CP o d td tb : Addr} {H : Hp} {b : Int} {ds : List Int} {ks : List (Addr × List Int)} {Q : VK} {E : XK} (dd : Dgs ds) (l : ds.length ≤ 900) (dr : ∀ p ∈ ks, Dgs p.2) (rl : ∀ p ∈ ks, p.2.length ≤ 1000) (few : ∀ pre post, ks = pre ++ post → (∀ r ∈ pre, r.2.length = 2) → pre.length < 64)
    (s : H td = some (.tup (ds.map V.int))) (t : H tb = some (.lst (ks.map fun p => V.ref p.1))) (hk : ∀ p ∈ ks, H p.1 = some (.tup (p.2.map V.int))) (ho : H o = none) (hd : H d = none)
    (qe : ∀ (C' : Addr) (u : V), (C' = CB ∨ C' = CD ∨ C' = CP) → ∀ (fs : List (Str × V)) (d' : Addr) (H' : Hp), Same H H' → H' d' = some (.xd (("value", u) :: fs)) → E (.ref C') (some d') H')
    (qm : ∀ ds' ps' H', Same H H' → IsS C H' o b ds' ps' → Q .non H') : spNew K C CB CD CP [.ref o, .int b, .ref td, .ref tb] (newAt H C o d) Q E := by
  have ok : ds.all dig = true := List.all_eq_true.mpr fun n hn => dig_of (dd n hn).1 (dd n hn).2
  have qe' : ∀ (C' : Addr) (f : Str) (u : V) {v : Ver}, (v = .base u ∧ C' = CB ∨ v = .dig u ∧ C' = CD ∨ v = .bar u ∧ C' = CP) → ∀ (fs : List (Str × V)) (d : Addr) (H' : Hp), Same H H' → H' d = some (.xd (("value", u) :: fs)) → E (.ref C') (some d) H' := fun C' f u v h => qe C' u (by
    rcases h with ⟨_, h⟩ | ⟨_, h⟩ | ⟨_, h⟩
    · exact .inl h
    · exact .inr (.inl h)
    · exact .inr (.inr h))
  cases hb : isBase b with
  | false => exact new_due (.base (.inl ⟨b, rfl⟩) hb) ho hd (fun C' f u z => qe' C' f u z) fun b2 ns2 ks2 e => nomatch e
  | true =>
    have six := six_sort dd
    cases h6 : (decide (1 ≤ (sortD ds).length) && decide ((sortD ds).length ≤ 6)) with
    | false =>
      rw [h6] at six
      exact new_due (.digS hb (.tup s) l ok six) ho hd (fun C' f u z => qe' C' f u z) fun b2 ns2 ks2 e => nomatch e
    | true =>
      rw [h6] at six
      rcases pair_cases ds dd ks with ⟨k2, rfl, hp⟩ | ⟨pre, p, post, rfl, hp, bad⟩
      · have hbs : ∀ z ∈ k2.map (·.2), z.1 ∈ ds ∧ z.2 ∈ ds := fun z hz => by
          obtain ⟨q, hq, rfl⟩ := List.mem_map.mp hz
          exact hp q hq
        have G : Good b (sortD ds) (sortP (sortD ds) (k2.map (·.2))) := good_sort hb dd h6 hbs
        refine new_made hb (.tup s) l ok (.lst (by rw [t, List.map_map]; rfl)) ?_ (fun q hq => hk (asL q) (List.mem_map.mpr ⟨q, hq, rfl⟩)) G (fun k => sortD_mem dd k) (fun z => sortP_mem dd hbs z) ho hd fun H' s' S => qm _ _ H' s' S
        have f := few (k2.map asL) [] (by rw [List.append_nil]) (fun r hr => by
          obtain ⟨q, _, rfl⟩ := List.mem_map.mp hr
          rfl)
        rw [List.length_map] at f
        exact f
      · have hpm : p ∈ pre ++ p :: post := List.mem_append_right _ List.mem_cons_self
        refine new_due (.barB (u := .ref p.1) (more := post.map fun p => V.ref p.1) (ks := pre) hb (.tup s) l ok six (.lst (by rw [t, List.map_append]; rfl)) (few pre _ rfl fun r hr => ?_) (fun q hq => ?_) (.inr ⟨p.1, p.2.map V.int, rfl, hk p hpm, by rw [List.length_map]; exact rl p hpm, ints_item _, bad⟩)) ho hd (fun C' f u z => qe' C' f u z) fun b2 ns2 ks2 e => nomatch e
        · obtain ⟨x, y, e, _⟩ := hp r hr
          rw [e]
          rfl
        · obtain ⟨x, y, e, hx, hy⟩ := hp q hq
          refine ⟨x, y, e, ?_, isOne_of dd hx, isOne_of dd hy⟩
          have := hk q (List.mem_append_left _ hq)
          rw [e] at this
          exact this
end
end K08
namespace K08
open PySem PySem.Spec PyProof.Rows L2 OF TL HotX L2H
section
variable {P : Program} {w : World} {K : PySem.W.Frag} {mg : Str → Option Value} {base : Heap}
/-! ### InvalidText made while another error is handled -/
abbrev sFig : Stmt := inClass (topS 2) 0
abbrev sInText : Stmt := inClass (topS 7) 0
theorem scFig : FnScope ["self", "text"] ["self", "text"] (defScope sFig) := ⟨rfl, rfl, rfl, by decide +kernel, rfl, by decide +kernel, by decide +kernel⟩
theorem scInText : FnScope ["self", "text"] ["self", "text"] (defScope sInText) := ⟨rfl, rfl, rfl, by decide +kernel, rfl, by decide +kernel, by decide +kernel⟩
theorem ok_figH {f : Addr} {fd : FuncData} (F : Fun K "__init__" "FigureError.__init__" sFig f fd) (mV : mg "ValueError" = none) (vV : PySem.W.findCls K (.type "ValueError") (.type "type") "__init__" = some (.val (.builtin "ValueError.__init__"))) :
    FnH P w K mg base CX0 1 f fd ["self", "text"] (spFig K) := by
  refine okH F scFig (fun vs H Q E h => ?_) (fun cdv A outer s H vs Q E p hot hr h => ?_)
  · obtain ⟨a, C, v, nm, rfl, _⟩ := h
    rfl
  · obtain ⟨a, C, v, nm, rfl, T, N, ha, q⟩ := h
    refine ⟨_, pss_cons (ps_expr (pe_veinit (by rfl) mV vV (pa_cons (pv 0) (pa_cons (pv 1) pa_nil)))) (pss_one (ps_ost (pv 0) (pe_cname (pv 0)))), ?_⟩
    exact ⟨.ref a, rfl, v, rfl, a, C, [v], rfl, (by show 1 ≤ 1000; decide), T, ha, .ref a, rfl, a, C, nm, rfl, ha, N, .ref a, rfl, a, C, rfl, T, N.no, .inl ⟨ha, fun d hd nd => q d hd nd⟩⟩
theorem ok_InTextH {f f0 C C0 : Addr} {fd fd0 : FuncData} (F : Fun K "__init__" "InvalidText.__init__" sInText f fd) (F0 : Fun K "__init__" "FigureError.__init__" sFig f0 fd0) (T0 : FigC K mg C0 f0) (b0 : Binds K fd0 ["self", "text"] []) (T : ErrC K mg "InvalidText" "text" C f)
    (mV : mg "ValueError" = none) (vV : PySem.W.findCls K (.type "ValueError") (.type "type") "__init__" = some (.val (.builtin "ValueError.__init__"))) :
    FnH P w K mg base CX0 2 f fd ["self", "text"] (spInit K "text" C) := by
  have G0 : FnH P w K mg base CX0 1 f0 fd0 ["self", "text"] (spFig K) := ok_figH F0 mV vV
  refine okH F scInText (fun vs H Q E h => ?_) (fun cdv A outer s H vs Q E p hot hr h => ?_)
  · obtain ⟨a, v, rfl, _⟩ := h
    rfl
  · obtain ⟨a, v, rfl, ha, q⟩ := h
    refine ⟨_, pss_cons (ps_expr (pe_unbH (E := fun _ => E0) G0 hr ⟨p, hot, List.mem_singleton.mpr rfl⟩ (by rfl) T0.g T0.rd T0.val T0.kp b0 (fun _ _ _ _ _ _ _ z => z.elim) (pa_cons (pv 0) (pa_cons pe_str pa_nil)))) (pss_one (ps_ost (pv 0) (pv 1))), ?_⟩
    obtain ⟨nm, N⟩ := T.nam
    refine ⟨.ref a, rfl, a, C, _, nm, rfl, T.ox, N, ha, fun d hd nd => ?_⟩
    refine ⟨v, rfl, .ref a, rfl, a, C, rfl, T.ox, T.no, .inr ⟨d, _, upd_same, by rw [upd_ne nd]; exact upd_same, (by show 1 ≤ 900; decide), ?_⟩⟩
    rw [upd_swap nd]
    exact q _ d hd nd

/-! ### Scheme.read -/
abbrev sSRead : Stmt := inClass (topS 27) 16
abbrev nSr : List Str := ["cls", "text", "base", "digits", "bars", "scheme"]
theorem scSr : FnScope nSr ["cls", "text"] (defScope sSRead) := ⟨rfl, rfl, rfl, by decide +kernel, rfl, by decide +kernel, by decide +kernel⟩
theorem unrow : ∀ {ks : List (Addr × List Int)} {ps : List (Int × Int)}, ks.map (·.2) = ps.map rowP → ∃ k2 : List (Addr × (Int × Int)), ks = k2.map asL ∧ k2.map (·.2) = ps
  | [], [], _ => ⟨[], rfl, rfl⟩
  | [], _ :: _, e => by cases e
  | _ :: _, [], e => by cases e
  | (a, r) :: ks, p :: ps, e => by
    rw [List.map_cons, List.map_cons, List.cons.injEq] at e
    obtain ⟨k2, e1, e2⟩ := unrow e.2
    have er : r = rowP p := e.1
    exact ⟨(a, p) :: k2, by rw [e1, er]; rfl, by rw [List.map_cons, e2]⟩
def spSRead (C CT : Addr) : Sp := fun vs H Q E => ∃ x : V, vs = [.ref C, x] ∧
  ((∃ z : Str, x = .str z ∧ Fine z ∧ (∀ b ds ps, Good b ds ps → strS b ds ps = z → ∀ o H', Same H H' → IsS C H' o b ds ps → Q (.ref o) H') ∧ ((∀ b ds ps, Good b ds ps → strS b ds ps ≠ z) → Raised CT "text" (.str z) H E)) ∨ (NoStr H x ∧ Raised CT "text" x H E))
set_option maxHeartbeats 2000000 in
theorem ok_sread {f fP fN fS fI C CB CD CP CT CF T0 : Addr} {fd fdP fdN fdS fdI : FuncData} (F : Fun K "read" "Scheme.read" sSRead f fd) (M : Mk K C fN) (sS : PySem.W.findIn K (.ref C) "__str__" = some (some (.ref fS))) (hS : PySem.W.isFn K (.ref fS) = true)
    (GP : FnOk P w K mg base (L2N.CX P w) 5 fP fdP ["text"] (spPartsR CT)) (gP : mg "_read_parts" = some (.ref fP)) (kP : PySem.W.keepIn K (.ref fP) = true) (bP : Binds K fdP ["text"] [])
    (FN : FunD K "__init__" "Scheme.__init__" (defArgs sInit) (defBody sInit) (defScope sInit) [] [("bars", .ref T0)] fN fdN) (GN : FnOk P w K mg base (L2N.CX P w) 7 fN fdN ["self", "base", "digits", "bars"] (spNew K C CB CD CP))
    (GS : FnOk P w K mg base CX0 6 fS fdS ["self"] (spStr C)) (bS : Binds K fdS ["self"] [])
    (GI : FnOk P w K mg base CX0 2 fI fdI ["self", "text"] (spInit K "text" CT)) (GH : FnH P w K mg base CX0 2 fI fdI ["self", "text"] (spInit K "text" CT)) (T : ErrC K mg "InvalidText" "text" CT fI) (bI : Binds K fdI ["self", "text"] [])
    (gF : mg "FigureError" = some (.ref CF)) (xT : PySem.W.exmOne K (.ref CT) (.ref CF) = some true) (xB : PySem.W.exmOne K (.ref CB) (.ref CF) = some true) (xD : PySem.W.exmOne K (.ref CD) (.ref CF) = some true) (xP : PySem.W.exmOne K (.ref CP) (.ref CF) = some true)
    (mi : mg "isinstance" = none) (ms : mg "str" = none) : FnOk P w K mg base (L2.CX P w) 9 f fd ["cls", "text"] (spSRead C CT) := by
  have kbN := kbNew ⟨_, FN⟩
  refine F.okX scSr (fun vs H Q E h => ?_) (fun cdv A outer s H vs Q E hr h => ?_)
  · obtain ⟨x, rfl, _⟩ := h
    rfl
  · obtain ⟨x, rfl, h⟩ := h
    have hr2 : Room 3 _ := hr.mono (by decide)
    have hr5 : Room 5 _ := hr.mono (by decide)
    apply Exists.intro
    apply And.intro
    · apply pss_cons
      · exact ps_if (pt_not (pt_val (pe_callB call_isi (by rfl) mi PyProof.Rows.boot_isinstance (pa_cons (pv 1) (pa_cons (pe_bltn (v := .ty "str") (by rfl) ms PyProof.Rows.boot_str rfl) pa_nil)))))
          (pss_one (ps_raise rfl (takes_of rfl rfl rfl rfl) (pmk_oex T.ox T.iC T.tI GI hr2 bI .nil pass0 (by rfl) T.g (pa_cons (pv 1) pa_nil)))) pss_nil
      apply pss_cons
      · exact ps_try_onlyX rfl rfl ⟨rfl, by decide, .inl gF⟩ (fun hd => passesAt_of rfl hd) (takes_of rfl rfl rfl rfl)
          (fun W pn xe tk _ _ => by
            apply pss_cons
            · exact ps_asg (g := gTup K 3 (gCons (gName 2) (gCons (gName 3) (gCons (gName 4) gNil)))) (pe_callS (E := L2.WE W) GP hr5 (by rfl) gP kP bP (fun σ => L2N.passAt tk σ) (pa_cons (pv 1) pa_nil)) (pg_tup rfl (pgs_cons (pg_name (i := 2) scSr.nd rfl (.inl rfl)) (pgs_cons (pg_name (i := 3) scSr.nd rfl (.inl rfl)) (pgs_cons (pg_name (i := 4) scSr.nd rfl (.inl rfl)) pgs_nil))))
            apply pss_one
            exact ps_set (i := 5) scSr.nd rfl (.inl rfl) (pe_makeLS (i := 0) (E := L2.WE W) M GN hr rfl (.inl rfl) kbN (fun σ => L2N.passAt tk σ) (pa_cons (pv 2) (pa_cons (pv 3) pa_nil)) (pk_cons (pv 4) pk_nil)))
          (fun a oe cls d pn hz hv tks hot => pss_one (ps_raiseHN hot tks (pmk5_oexH T.ox T.iC T.tI GH (roomH_mark hr2 _) hot bI pass0 (by rfl) T.g (pa_cons (pv 1) pa_nil))))
      apply pss_cons
      · exact ps_if (pt_cmpR op_ne (pe_callTy (call_strOwn sS hS GS bS hr pass0) (by rfl) ms PyProof.Rows.boot_str (pa_cons (pv 5) pa_nil)) (pv 1) (nomark _))
          (pss_one (ps_raise rfl (takes_of rfl rfl rfl rfl) (pmk_oex T.ox T.iC T.tI GI hr2 bI .nil pass0 (by rfl) T.g (pa_cons (pv 1) pa_nil)))) pss_nil
      apply pss_one
      · exact ps_ret (pv 5)
    rcases h with ⟨z, rfl, fz, good, bad⟩ | ⟨o, hE⟩
    · refine ⟨.str z, rfl, .str z, .ty "str", .type "str", .type "str", true, rfl, .ty _, .base (.str z), kit_ty (by decide +kernel), true, rfl, iteF ?_⟩
      by_cases hT : ∃ (b : Int) (ds : List Int) (ps : List (Int × Int)), Good b ds ps ∧ strS b ds ps = z
      · obtain ⟨b, ds, ps, G, ez⟩ := hT
        refine ⟨.str z, rfl, z, rfl, fz, ?_, fun no => absurd (by rw [← ez]; exact G.read) (no b ds (ps.map rowP))⟩
        intro b' ds' rows hR t td tb ks H1 s1 et etd etb ek tks
        have one := G.read
        rw [ez] at one
        obtain ⟨rfl, rfl, er⟩ := one.one hR
        rw [← er] at ek
        obtain ⟨k2, rfl, ep⟩ := unrow ek
        refine ⟨t, _, rfl, SqT.of et, rfl, _, _, rfl, _, _, rfl, _, _, rfl, rfl, ?_⟩
        refine ⟨rfl, .int b, rfl, .ref td, rfl, .ref tb, rfl, rfl, rfl, ?_⟩
        have h6 := G.six
        have h36 := G.few
        refine fun o d ho hd ne => new_made G.b (.tup etd) (by omega) G.all (.lst (by rw [etb, List.map_map]; rfl)) (by rw [← List.length_map (f := (·.2)), ep]; omega) (fun p hp => tks (asL p) (List.mem_map.mpr ⟨p, hp, rfl⟩)) G (fun _ => .rfl) (fun _ => by rw [ep]) ho hd fun H2 s2 S => ⟨rfl, ?_⟩
        have S' := S
        obtain ⟨_, t2, r2, ks2, e2, ⟨dx, ha⟩, _⟩ := S'
        refine ⟨.ref o, rfl, o, dx, _, rfl, ha, o, b, ds, ps, rfl, S, fun H3 s3 => ⟨_, rfl, .str z, rfl, rfl, _, rfl, iteFB (by rw [ez]; exact neSame rfl) ?_⟩⟩
        exact ⟨.ref o, rfl, good b ds ps G ez o H3 ((s1.trans s2).trans s3) (S.same s3)⟩
      · have bad := bad fun b ds ps G e => hT ⟨b, ds, ps, G, e⟩
        have raise : ∀ {H1 : Hp} {σ : L2.St} {D : Ends}, Same H H1 → _ := fun {H1 σ D} s1 => raised_ok (K := K) (σ := σ) (D := D) bad s1
        refine ⟨.str z, rfl, z, rfl, fz, ?_, ?_⟩
        · intro b ds rows hR t td tb ks H1 s1 et etd etb ek tks
          obtain ⟨l1, l2, l3⟩ := hR.lens fz
          have hR0 := hR
          obtain ⟨_, _, _, _, _, _, _, _, _, dds, drs⟩ := hR0
          refine ⟨t, _, rfl, SqT.of et, rfl, _, _, rfl, _, _, rfl, _, _, rfl, rfl, ?_⟩
          refine ⟨rfl, .int b, rfl, .ref td, rfl, .ref tb, rfl, rfl, rfl, fun o d ho hd ne => ?_⟩
          have inr : ∀ p ∈ ks, p.2 ∈ rows := fun p hp => by
            rw [← ek]
            exact List.mem_map.mpr ⟨p, hp, rfl⟩
          refine new_any dds l1 (fun p hp => drs _ (inr p hp)) (fun p hp => l2 _ (inr p hp)) (fun pre post e h2 => ?_) etd etb tks ho hd (fun C' u hC fs d' H2 s2 ed => ?_) fun ds' ps' H2 s2 S => ⟨rfl, ?_⟩
          · have := l3 (pre.map (·.2)) (post.map (·.2)) (by rw [← ek, e, List.map_append]) (fun r hr => by
              obtain ⟨q, hq, rfl⟩ := List.mem_map.mp hr
              exact h2 q hq)
            rw [List.length_map] at this
            exact this
          · have x : PySem.W.exmOne K (.ref C') (.ref CF) = some true := by
              rcases hC with rfl | rfl | rfl
              · exact xB
              · exact xD
              · exact xP
            exact ⟨true, x, (fun _ a ha => ⟨.str z, rfl, raised_ok (K := K) (σ := start nSr [.ref C, .str z]) (D := { nx := fun _ H' => Q .non H', rt := Q }) bad (s1.trans s2)⟩), fun q => nomatch q⟩
          · have S' := S
            obtain ⟨G2, t2, r2, ks2, e2, ⟨dx, ha⟩, _⟩ := S'
            have nz : strS b ds' ps' ≠ z := fun e => hT ⟨_, _, _, G2, e⟩
            refine ⟨.ref o, rfl, o, dx, _, rfl, ha, o, b, ds', ps', rfl, S, fun H3 s3 => ⟨_, rfl, .str z, rfl, rfl, _, rfl, iteTB (by rw [decide_eq_false (fun q => nz (V.str.inj q))]; rfl) ?_⟩⟩
            exact ⟨.str z, rfl, raised_ok (K := K) (σ := start nSr [.ref C, .str z]) (D := { nx := fun _ H' => Q .non H', rt := Q }) bad ((s1.trans s2).trans s3)⟩
        · intro no u fs d H1 hd s1 ed
          exact ⟨true, xT, (fun _ a ha => ⟨.str z, rfl, raised_ok (K := K) (σ := start nSr [.ref C, .str z]) (D := { nx := fun _ H' => Q .non H', rt := Q }) bad s1⟩), fun q => nomatch q⟩
    · obtain ⟨t, ty, k1⟩ := o.kit (K := K)
      refine ⟨x, rfl, x, .ty "str", t, .type "str", false, rfl, .ty _, ty, k1, false, rfl, iteT ?_⟩
      exact ⟨x, rfl, raised_ok (σ := start nSr [.ref C, x]) (D := { nx := fun _ H' => Q .non H', rt := Q }) hE (Same.refl H)⟩
end
end K08
/-! x >= y, both ints, or both lists of two ints. -/
namespace OF
open PySem PySem.Spec PyProof.Rows L2
/-- an int, or two of them -/
inductive One2 (K : PySem.W.Frag) (H : Hp) : V → List Int → Prop
  | one (n : Int) : One2 K H (.int n) [n]
  | two {a : Addr} {x y : Int} (h : SqL K H a [.int x, .int y]) : One2 K H (.ref a) [x, y]
/-- a comes before b, of one length -/
def ahead : List Int → List Int → Bool
  | [], _ => false
  | _ :: _, [] => false
  | x :: xs, y :: ys => if x = y then ahead xs ys else decide (x < y)
def rGe2 (K : PySem.W.Frag) : R2 := fun x y H Q => ∃ a b : List Int, One2 K H x a ∧ One2 K H y b ∧ a.length = b.length ∧ Q (.bl (!ahead a b)) H
section
variable {X : Cx}
theorem int_eqAt {A : Around} {s : Shared} (a b : Int) (t u : Tok) : SeqAt.EqAt A s (.int a t) (.int b u) (decide (a = b)) := by
  have z : (a == b) = decide (a = b) := by
    by_cases q : a = b
    · rw [decide_eq_true q]
      exact beq_iff_eq.mpr q
    · rw [decide_eq_false q]
      exact beq_eq_false_iff_ne.mpr q
  rw [← z]
  exact SeqAt.EqAt.int_int _ _ _ _
theorem op_ge2 (hu : X.A.units < cLine) : OpR X (compareOp .GtE) (rGe2 X.K) := by
  intro pins s σ H x y v u Q I rx ry h
  obtain ⟨a, b, oa, ob, hl, q⟩ := h
  cases oa with
  | one n =>
    cases ob with
    | one m =>
      obtain ⟨t, rfl⟩ := rx
      obtain ⟨t', rfl⟩ := ry
      refine PyProof.Rows.ge_int ⟨.bl _, H, I, rfl, ?_⟩
      have e : (!ahead [n] [m]) = decide (m ≤ n) := by
        unfold ahead ahead
        by_cases h1 : n = m
        · rw [if_pos h1, decide_eq_true (by omega)]
          rfl
        · rw [if_neg h1]
          by_cases h2 : n < m
          · rw [decide_eq_true h2, decide_eq_false (by omega)]
            rfl
          · rw [decide_eq_false h2, decide_eq_true (by omega)]
            rfl
      rw [e] at q
      exact q
    | two h => cases hl
  | @two a' x y ha =>
    cases ob with
    | one m => cases hl
    | @two b' x2 y2 hb =>
      cases rx
      cases ry
      obtain ⟨its, r1, p1, _⟩ := I.list ha
      obtain ⟨its2, r2, p2, _⟩ := I.list hb
      obtain ⟨u1, u2, rfl, ⟨t1, rfl⟩, ⟨t2, rfl⟩⟩ := vals2 r1
      obtain ⟨w1, w2, rfl, ⟨t3, rfl⟩, ⟨t4, rfl⟩⟩ := vals2 r2
      have R := SeqAt.RcOp.lists_ge (A := X.A) (s := s) (e := fun j => if j = 0 then decide (x = x2) else decide (y = y2)) (r := fun j => if j = 0 then decide (x2 ≤ x) else decide (y2 ≤ y)) p1.isList p2.isList hu (fun j h1 h2 => ?_) (fun j h1 h2 _ => ?_)
      · refine R X.prog X.w X.xe (EP X pins σ Q) ⟨.bl _, H, I, rfl, ?_⟩
        have e : SeqAt.firstLt (fun j => if j = 0 then decide (x = x2) else decide (y = y2)) (fun j => if j = 0 then decide (x2 ≤ x) else decide (y2 ≤ y)) true [0, 1] = !ahead [x, y] [x2, y2] := by
          show (if decide (x = x2) = true then (if decide (y = y2) = true then true else decide (y2 ≤ y)) else decide (x2 ≤ x)) = !(if x = x2 then (if y = y2 then false else decide (y < y2)) else decide (x < x2))
          by_cases h1 : x = x2
          · rw [if_pos (decide_eq_true h1), if_pos h1]
            by_cases h2 : y = y2
            · rw [if_pos (decide_eq_true h2), if_pos h2]
              rfl
            · rw [if_neg (by rw [decide_eq_false h2]; exact Bool.false_ne_true), if_neg h2]
              by_cases h3 : y < y2
              · rw [decide_eq_true h3, decide_eq_false (show ¬ y2 ≤ y by omega)]
                rfl
              · rw [decide_eq_false h3, decide_eq_true (show y2 ≤ y by omega)]
                rfl
          · rw [if_neg (by rw [decide_eq_false h1]; exact Bool.false_ne_true), if_neg h1]
            by_cases h3 : x < x2
            · rw [decide_eq_true h3, decide_eq_false (show ¬ x2 ≤ x by omega)]
              rfl
            · rw [decide_eq_false h3, decide_eq_true (show x2 ≤ x by omega)]
              rfl
        rw [← e] at q
        exact q
      · have hj : j < 2 := h1
        match j, hj with
        | 0, _ => exact int_eqAt _ _ _ _
        | 1, _ => exact int_eqAt _ _ _ _
      · have hj : j < 2 := h1
        match j, hj with
        | 0, _ => exact fun _ _ _ _ q => PyProof.Rows.ge_int q
        | 1, _ => exact fun _ _ _ _ q => PyProof.Rows.ge_int q
end
end OF
namespace K08
open PySem PySem.Spec PyProof.Rows L2 OF TL
section
variable {P : Program} {w : World} {K : PySem.W.Frag} {mg : Str → Option Value} {base : Heap}
/-! ### a word, words of the law -/
theorem strI_inj {i j : Int} (h1 : -9 ≤ i ∧ i ≤ 9) (h2 : -9 ≤ j ∧ j ≤ 9) (e : strI i = strI j) : i = j := by
  have a := (digV_of h1).1
  rw [e, (digV_of h2).1] at a
  exact (V.int.inj (Option.some.inj a)).symm
def spNumber : Sp := fun vs H Q _ => ∃ (u : Str) (lo hi : Int), vs = [.str u, .int lo, .int hi] ∧ -9 ≤ lo ∧ lo ≤ hi ∧ hi ≤ 9 ∧ (∀ n, lo ≤ n → n ≤ hi → strI n = u → Q (.int n) H) ∧ ((∀ n, lo ≤ n → n ≤ hi → strI n ≠ u) → Q .non H)
abbrev nNu : List Str := ["_law_word", "_law_low", "_law_high", "_law_number_here"]
theorem scNu : FnScope nNu ["_law_word", "_law_low", "_law_high"] (defScope sNumber) := ⟨rfl, rfl, rfl, by decide +kernel, rfl, by decide +kernel, by decide +kernel⟩
theorem ok_number {f : Addr} {fd : FuncData} (F : Fun K "_law_number" "_law_number" sNumber f fd) (ms : mg "str" = none) (mr : mg "range" = none) : FnOk P w K mg base CX0 1 f fd ["_law_word", "_law_low", "_law_high"] spNumber := by
  refine F.ok scNu (fun vs H Q E h => ?_) (fun cdv A outer s H vs Q E hr h => ?_)
  · obtain ⟨u, lo, hi, rfl, _⟩ := h
    rfl
  · obtain ⟨u, lo, hi, rfl, h1, h2, h3, yes, no⟩ := h
    apply Exists.intro
    apply And.intro
    · apply pss_cons
      · exact ps_for PassesOwn.never rfl (pi_range2 rfl mr (pa_cons (pv 1) (pa_cons (pe_op op_add (pv 2) pe_int) pa_nil))) (pg_name (i := 3) scNu.nd rfl (.inl rfl))
          (pss_one (ps_if (pt_cmpR op_eq (pe_callTy call_str_int (by rfl) ms PyProof.Rows.boot_str (pa_cons (pv 3) pa_nil)) (pv 0) (nomark _)) (pss_one (ps_ret (pv 3))) pss_nil))
      apply pss_one
      · exact ps_ret pe_non
    refine ⟨.int lo, rfl, .int hi, rfl, hi, 1, rfl, rfl, lo, hi + 1, rfl, ⟨by omega, by omega, by omega, by omega⟩, ?_⟩
    refine for_range (lo := lo) (n := (hi + 1 - lo).toNat) (fun i σ H' => H' = H ∧ (∃ v, σ = [some (.str u), some (.int lo), some (.int hi), v]) ∧ ∀ k : Nat, k < i → strI (lo + k) ≠ u) ⟨rfl, ⟨none, rfl⟩, fun k hk => absurd hk (Nat.not_lt_zero k)⟩ ?_ ?_
    · rintro i σ H' hi' ⟨rfl, ⟨v, rfl⟩, hk⟩
      refine ⟨_, rfl, _, rfl, log_le (by omega), .str u, rfl, rfl, _, rfl, ite2 (fun c => ?_) (fun c => ?_)⟩
      · have e : strI (lo + i) = u := V.str.inj (of_decide_eq_true c)
        exact ⟨_, rfl, yes _ (by omega) (by omega) e⟩
      · refine ⟨rfl, ⟨_, rfl⟩, fun k hk' => ?_⟩
        by_cases hki : k < i
        · exact hk k hki
        · have : k = i := by omega
          subst this
          exact fun e => c (decide_eq_true (congrArg V.str e))
    · rintro σ H' ⟨rfl, _, hk⟩
      refine no fun n hn1 hn2 => ?_
      have := hk (n - lo).toNat (by omega)
      rw [show lo + (((n - lo).toNat : Nat) : Int) = n by omega] at this
      exact this

def numV (u : Str) : V := (OF.digV u).getD .non
theorem numV_flat (u : Str) : flatV (numV u) = true := by
  unfold numV
  cases h : OF.digV u with
  | none => rfl
  | some v =>
    obtain ⟨i, _, _, rfl⟩ := digV_is h
    rfl
theorem words_ints : ∀ ws : List Str, ws.all (fun w => (OF.digV w).isSome) = true → ∃ is : List Int, Dgs is ∧ ws = is.map strI ∧ ws.map numV = is.map V.int
  | [], _ => ⟨[], (fun i hi => by cases hi), rfl, rfl⟩
  | u :: ws, ha => by
    rw [List.all_cons, Bool.and_eq_true] at ha
    obtain ⟨is, hd, e1, e2⟩ := words_ints ws ha.2
    obtain ⟨v, hv⟩ := Option.isSome_iff_exists.mp ha.1
    obtain ⟨i, hi, eu, ev⟩ := digV_is hv
    refine ⟨((-9 : Int) + (i : Int)) :: is, fun k hk => ?_, ?_, ?_⟩
    · rcases List.mem_cons.mp hk with rfl | hk
      · omega
      · exact hd k hk
    · rw [e1, eu]
      rfl
    · have en : numV u = .int ((-9 : Int) + (i : Int)) := by
        unfold numV
        rw [hv, ev]
        rfl
      rw [List.map_cons, e2, en]
      rfl
theorem none_in (ws : List Str) : inV .non (ws.map numV) = !ws.all (fun w => (OF.digV w).isSome) := by
  unfold inV
  induction ws with
  | nil => rfl
  | cons u ws ih =>
    rw [List.map_cons, List.any_cons, List.all_cons, ih]
    unfold numV
    cases h : OF.digV u with
    | none => rfl
    | some v =>
      obtain ⟨i, _, _, rfl⟩ := digV_is h
      rfl
theorem int_in (n : Int) : ∀ ms : List Int, inV (.int n) (ms.map V.int) = decide (n ∈ ms)
  | [] => rfl
  | m :: ms => by
    have ih := int_in n ms
    unfold inV at ih ⊢
    rw [List.map_cons, List.any_cons, ih]
    have e : eqV (.int m) (.int n) = decide (n = m) := by
      show (m == n) = decide (n = m)
      by_cases h : n = m
      · rw [decide_eq_true h]
        exact beq_iff_eq.mpr h.symm
      · rw [decide_eq_false h]
        exact beq_eq_false_iff_ne.mpr fun z => h z.symm
    rw [e]
    by_cases h1 : n = m <;> by_cases h2 : n ∈ ms <;> simp [h1, h2]
theorem ints_flat (ms : List Int) : (ms.map V.int).all flatV = true := by
  rw [List.all_map]
  exact List.all_eq_true.mpr fun _ _ => rfl
theorem join_words {z : Str} {is : List Int} (e : Txt.split z (Str.ofString " ") = is.map strI) : z = rowS is := by
  have j := StrLaws.join_split z (Str.ofString " ")
  rw [e] at j
  unfold rowS
  rw [TL.join_eq]
  exact j.symm
theorem split_row {is : List Int} (h : Dgs is) (hn : is ≠ []) : Txt.split (rowS is) (Str.ofString " ") = is.map strI := by
  refine TL.split_join (s := 32) (S := []) (by decide +kernel) (by decide +kernel) (fun z => hn (List.map_eq_nil_iff.mp z)) fun p hp => ?_
  obtain ⟨i, hi, rfl⟩ := List.mem_map.mp hp
  exact (digV_of (h i hi)).2.1
theorem words_all {is : List Int} (h : Dgs is) : (is.map strI).all (fun w => (OF.digV w).isSome) = true := by
  rw [List.all_map]
  refine List.all_eq_true.mpr fun i hi => ?_
  show (OF.digV (strI i)).isSome = true
  rw [(digV_of (h i hi)).1]
  rfl
def spNumbers (K : PySem.W.Frag) : Sp := fun vs H Q _ => ∃ (z : Str) (m : Addr) (ms : List Int), vs = [.str z, .ref m] ∧ z.length ≤ 1000 ∧ SqL K H m (ms.map V.int) ∧
  (∀ is, Dgs is → is ≠ [] → (is.length : Int) ∈ ms → z = rowS is → ∀ p H', Same H H' → H p = none → H' p = some (.lst (is.map V.int)) → Q (.ref p) H') ∧ ((∀ is, Dgs is → is ≠ [] → (is.length : Int) ∈ ms → z ≠ rowS is) → ∀ H', Same H H' → Q .non H')
abbrev nNs : List Str := ["_law_wording", "_law_many", "_law_found", "_law_word"]
theorem scNs : FnScope nNs ["_law_wording", "_law_many"] (defScope sNumbers) := ⟨rfl, rfl, rfl, by decide +kernel, rfl, by decide +kernel, by decide +kernel⟩
theorem ok_numbers {f fN : Addr} {fd fdN : FuncData} (F : Fun K "_law_numbers" "_law_numbers" sNumbers f fd) (GN : FnOk P w K mg base CX0 1 fN fdN ["_law_word", "_law_low", "_law_high"] spNumber) (gN : mg "_law_number" = some (.ref fN)) (kN : PySem.W.keepIn K (.ref fN) = true) (bN : Binds K fdN ["_law_word", "_law_low", "_law_high"] [])
    (ml : mg "len" = none) : FnOk P w K mg base CX0 2 f fd ["_law_wording", "_law_many"] (spNumbers K) := by
  refine F.ok scNs (fun vs H Q E h => ?_) (fun cdv A outer s H vs Q E hr h => ?_)
  · obtain ⟨z, m, ms, rfl, _⟩ := h
    rfl
  · obtain ⟨z, m, ms, rfl, hz, hm, yes, no⟩ := h
    apply Exists.intro
    apply And.intro
    · apply pss_cons
      · exact ps_setLc (i := 2) (own := [("_law_word", 3)]) (g := gName 3) (tt := tYes) (te := tCall spNumber [] E0 (tCons (tVar 3) (tCons (tUn (rU fun i => .int (-i)) (tC (.int 9))) (tCons (tC (.int 9)) tNil)))) rfl scNs.nd rfl rfl (sw_true rfl rfl rfl (by decide +kernel)) (pi_list (pe_split (pv 0) pe_str))
          (blkOk_by (own := [("_law_word", 3)]) (N := nNs) (sc := defScope sNumbers) (by decide +kernel)) (fun _ _ _ _ _ => pg_name (i := 3) scNs.nd rfl (Or.inl rfl)) (fun _ _ _ _ _ => pts_nil)
          (fun _ _ _ _ _ => by exact (pe_call GN hr (by rfl) gN kN bN .nil pass0 (pa_cons (pv 3) (pa_cons (pe_un un_neg pe_int) (pa_cons pe_int pa_nil)))))
      apply pss_one
      · exact ps_ret (pe_ifExp (PW.pt (pw_or (pt_cmpR op_in_seq pe_non (pv 2) rfl) (pw_or1 (pt_cmpR op_notIn_seq (pe_callB call_len_seq (by rfl) ml PySem.boot_len (pa_cons (pv 2) pa_nil)) (pv 1) rfl)))) pe_non (pv 2))
    refine ⟨.str z, rfl, ⟨z, rfl⟩, z, Str.ofString " ", rfl, rfl, by decide +kernel, (by rw [sizeLine_eq]; omega), fun l hl => ?_⟩
    have hlen : (Txt.split z (Str.ofString " ")).length ≤ 2000 := by
      have := PyProof.Rows.split_le z (Str.ofString " ")
      omega
    have eno : (∀ is, Dgs is → is ≠ [] → (is.length : Int) ∈ ms → Txt.split z (Str.ofString " ") ≠ is.map strI) → ∀ H', Same H H' → Q .non H' := fun h => no fun is hd hn hi e => h is hd hn hi (by rw [e]; exact split_row hd hn)
    have eyes : ∀ is, Dgs is → is ≠ [] → (is.length : Int) ∈ ms → Txt.split z (Str.ofString " ") = is.map strI → ∀ p H', Same H H' → H p = none → H' p = some (.lst (is.map V.int)) → Q (.ref p) H' := fun is hd hn hi e => yes is hd hn hi (join_words e)
    have hw1 : Txt.split z (Str.ofString " ") ≠ [] := fun e => by
      have j := StrLaws.join_split z (Str.ofString " ")
      rw [e] at j
      have e0 : z = Str.empty := j.symm
      rw [e0] at e
      exact absurd e (by decide +kernel)
    generalize Txt.split z (Str.ofString " ") = ws at hlen eno eyes hw1 ⊢
    have s1 : Same H (upd H l (.lst (ws.map V.str))) := same_new hl
    have e1 : (upd H l (.lst (ws.map V.str))) l = some (.lst (ws.map V.str)) := upd_same
    generalize upd H l (.lst (ws.map V.str)) = H1 at s1 e1 ⊢
    refine ⟨l, rfl, ⟨_, SqL.of e1⟩, fun D hD => ?_⟩
    refine lc_list (K := K) (a := l) (xs := ws.map V.str) (fun i H' => Same H1 H' ∧ H' D = some (.lst ((ws.take i).map numV))) ⟨same_new hD, upd_same⟩ (fun i H' _ h => SqL.of (h.1 _ _ e1)) ?_ ?_
    · rintro i x H' hi ⟨s2, e2⟩
      obtain ⟨u, hu, rfl⟩ := get_map hi
      have fin : ∀ v : V, v = numV u → ∃ acc, H' D = some (.lst acc) ∧ acc.length < sizeLine ∧ (Same H1 (upd H' D (.lst (acc ++ [v]))) ∧ (upd H' D (.lst (acc ++ [v]))) D = some (.lst ((ws.take (i + 1)).map numV))) := fun v hv => by
        refine ⟨_, e2, ?_, Same.store s2 hD, ?_⟩
        · rw [List.length_map]
          exact Nat.lt_of_le_of_lt (List.length_take_le' _ _) (by rw [sizeLine_eq]; omega)
        · rw [upd_same, take_more hu, List.map_append, hv]
          rfl
      refine ⟨rfl, tYes_if ⟨.str u, rfl, 9, rfl, u, -9, 9, rfl, by decide, by decide, by decide, fun n h1 h2 e => ?_, fun h => ?_⟩⟩
      · refine fin _ ?_
        unfold numV
        rw [← e, (digV_of ⟨h1, h2⟩).1]
        rfl
      · refine fin _ ?_
        unfold numV
        cases hv : OF.digV u with
        | none => rfl
        | some v =>
          obtain ⟨i, hi, eu, ev⟩ := digV_is hv
          exact absurd eu.symm (h ((-9 : Int) + (i : Int)) (by omega) (by omega))
    · rintro H2 ⟨s2, e2⟩
      rw [List.length_map, List.take_length] at e2
      have sA := s1.trans s2
      have hD0 := s1.free hD
      refine ⟨.ref D, rfl, D, _, rfl, .inl (SqL.of e2), rfl, (by rw [List.all_map]; exact List.all_eq_true.mpr fun u _ => numV_flat u), _, rfl, ?_⟩
      show if (inV .non (ws.map numV)) = true then _ else _
      rw [none_in]
      by_cases ha : ws.all (fun w => (OF.digV w).isSome) = true
      · refine iteFB (by rw [ha]; rfl) ?_
        obtain ⟨is, hd, e3, e4⟩ := words_ints ws ha
        rw [e4] at e2
        have hn : is ≠ [] := fun z => hw1 (by rw [e3, z]; rfl)
        refine ⟨.ref D, rfl, D, _, rfl, .inl (SqL.of e2), .ref m, rfl, m, ms.map V.int, rfl, .inl (sA.seq hm), rfl, ints_flat ms, _, rfl, ?_⟩
        show if (!inV (.int ((is.map V.int).length : Int)) (ms.map V.int)) = true then _ else _
        rw [int_in, List.length_map]
        by_cases hi : (is.length : Int) ∈ ms
        · refine iteFB (by rw [decide_eq_true hi]; rfl) ?_
          exact ⟨.ref D, rfl, eyes is hd hn hi e3 D H2 sA hD0 e2⟩
        · refine iteTB (by rw [decide_eq_false hi]; rfl) ?_
          refine eno (fun js hdj hnj hj ej => ?_) H2 sA
          have : is.map strI = js.map strI := e3.symm.trans ej
          have hl2 := congrArg List.length this
          rw [List.length_map, List.length_map] at hl2
          rw [hl2] at hi
          exact hi hj
      · refine iteTB (by rw [Bool.eq_false_iff.mpr ha]; rfl) ?_
        refine eno (fun js hdj hnj hj ej => ha ?_) H2 sA
        rw [ej]
        exact words_all hdj
end
end K08
namespace K08
open PySem PySem.Spec PyProof.Rows L2 OF TL
/-! ### a text cut at a place -/
theorem cut_head {y w : Str} {n : Nat} (hn : y.length = n) : cutS (y ++ w) none (some (n : Int)) = y := by
  refine ext_tl ?_
  rw [tl_cut, HT.sIx_none, HT.sIx_nat, List.drop_zero, Nat.sub_zero, tl_append]
  have hl : (y ++ w).length = y.length + w.length := by rw [len_tl, tl_append, List.length_append, ← len_tl, ← len_tl]
  rw [hl, hn, Nat.min_eq_left (by omega), ← hn, len_tl y, List.take_left]
theorem cut_tail {y w : Str} {n : Nat} (hn : y.length = n) : cutS (y ++ w) (some (n : Int)) none = w := by
  refine ext_tl ?_
  have hl : (y ++ w).length = y.length + w.length := by rw [len_tl, tl_append, List.length_append, ← len_tl, ← len_tl]
  rw [tl_cut, HT.sIx_none, HT.sIx_nat, tl_append, hl, hn, Nat.min_eq_left (by omega), ← hn, len_tl y, List.drop_left, List.take_of_length_le (by rw [len_tl w]; omega)]
theorem cut_glue (z : Str) (n : Nat) : cutS z none (some (n : Int)) ++ cutS z (some (n : Int)) none = z := by
  refine ext_tl ?_
  rw [tl_append, tl_cut, tl_cut, HT.sIx_none, HT.sIx_none, HT.sIx_nat, HT.sIx_nat, List.drop_zero, Nat.sub_zero]
  have e : List.take (z.length - min n z.length) (List.drop (min n z.length) (tl z)) = List.drop (min n z.length) (tl z) := List.take_of_length_le (by rw [List.length_drop, len_tl z]; exact Nat.le_refl _)
  rw [e, List.take_append_drop]
theorem glue5 {z : Str} {y : Str} (h : cutS z none (some 5) = y) : z = y ++ cutS z (some 5) none := by
  rw [← h]
  exact (cut_glue z 5).symm
theorem glue7 {z : Str} {y : Str} (h : cutS z none (some 7) = y) : z = y ++ cutS z (some 7) none := by
  rw [← h]
  exact (cut_glue z 7).symm
theorem head5 {y w : Str} (hn : y.length = 5) : cutS (y ++ w) none (some 5) = y := cut_head (n := 5) hn
theorem tail5 {y w : Str} (hn : y.length = 5) : cutS (y ++ w) (some 5) none = w := cut_tail (n := 5) hn
theorem head7 {y w : Str} (hn : y.length = 7) : cutS (y ++ w) none (some 7) = y := cut_head (n := 7) hn
theorem tail7 {y w : Str} (hn : y.length = 7) : cutS (y ++ w) (some 7) none = w := cut_tail (n := 7) hn
theorem cut_len (z : Str) (lo hi : Option Int) : (cutS z lo hi).length ≤ z.length := by
  rw [len_tl, tl_cut, len_tl]
  refine Nat.le_trans (List.length_take_le' _ _) ?_
  rw [List.length_drop]
  exact Nat.sub_le _ _
theorem lBase : (Str.ofString "base ").length = 5 := by decide +kernel
theorem lDigits : (Str.ofString "digits ").length = 7 := by decide +kernel
theorem lBars : (Str.ofString "bars ").length = 5 := by decide +kernel

/-! ### the text of a scheme, part by part -/
theorem text_row {ds : List Int} (hn : ds ≠ []) : textOf ds = rowS ds := if_neg hn
theorem Good.ne {b : Int} {ds : List Int} {ps : List (Int × Int)} (G : Good b ds ps) : ds ≠ [] := fun z => by
  have := G.one
  rw [z] at this
  cases this
def moreS (ps : List (Int × Int)) : List Str := if ps = [] then [] else [Str.ofString "bars " ++ Txt.join (Str.ofString ", ") (ps.map wordS)]
theorem Good.split {b : Int} {ds : List Int} {ps : List (Int × Int)} (G : Good b ds ps) : Txt.split (strS b ds ps) (Str.ofString "; ") = (Str.ofString "base " ++ strI b) :: (Str.ofString "digits " ++ rowS ds) :: moreS ps := by
  rw [split_text G]
  unfold partsS headS moreS barsS
  rw [text_row G.ne, List.map_congr_left (g := wordS) fun z _ => pair_word z]
  rfl
theorem Good.of_split {z : Str} {b : Int} {ds : List Int} {ps : List (Int × Int)} (G : Good b ds ps) (e : Txt.split z (Str.ofString "; ") = (Str.ofString "base " ++ strI b) :: (Str.ofString "digits " ++ rowS ds) :: moreS ps) : strS b ds ps = z := by
  have j := StrLaws.join_split z (Str.ofString "; ")
  have j2 := StrLaws.join_split (strS b ds ps) (Str.ofString "; ")
  rw [e] at j
  rw [G.split] at j2
  exact j2.symm.trans j
theorem rowS_inj {is js : List Int} (h1 : Dgs is) (h2 : Dgs js) (n1 : is ≠ []) (n2 : js ≠ []) (e : rowS is = rowS js) : is = js := textOf_inj h1 h2 (by rw [text_row n1, text_row n2, e])
theorem app_inj {y a b : Str} (h : y ++ a = y ++ b) : a = b := by
  have e := congrArg tl h
  rw [tl_append, tl_append] at e
  exact ext_tl (List.append_cancel_left e)
theorem word_inj {p q : Int × Int} (h1 : Dgs [p.1, p.2]) (h2 : Dgs [q.1, q.2]) (e : wordS p = wordS q) : p = q := by
  rw [← row_word, ← row_word] at e
  have h := rowS_inj h1 h2 (List.cons_ne_nil _ _) (List.cons_ne_nil _ _) e
  have a := List.cons.inj h
  obtain ⟨p1, p2⟩ := p
  obtain ⟨q1, q2⟩ := q
  rw [show p1 = q1 from a.1, show p2 = q2 from (List.cons.inj a.2).1]
theorem words_inj : ∀ {a b : List (Int × Int)}, (∀ p ∈ a, Dgs [p.1, p.2]) → (∀ p ∈ b, Dgs [p.1, p.2]) → a.map wordS = b.map wordS → a = b
  | [], [], _, _, _ => rfl
  | [], _ :: _, _, _, e => by cases e
  | _ :: _, [], _, _, e => by cases e
  | x :: a, y :: b, h1, h2, e => by
    rw [List.map_cons, List.map_cons, List.cons.injEq] at e
    rw [word_inj (h1 x List.mem_cons_self) (h2 y List.mem_cons_self) e.1, words_inj (fun r hr => h1 r (List.mem_cons_of_mem _ hr)) (fun r hr => h2 r (List.mem_cons_of_mem _ hr)) e.2]
/-- the words of the bars -/
theorem split_words {ps : List (Int × Int)} (h : ∀ p ∈ ps, Dgs [p.1, p.2]) (hn : ps ≠ []) : Txt.split (Txt.join (Str.ofString ", ") (ps.map wordS)) (Str.ofString ", ") = ps.map wordS := by
  refine TL.split_join (s := 44) (S := [32]) (by decide +kernel) (by decide +kernel) (fun z => hn (List.map_eq_nil_iff.mp z)) fun q hq => ?_
  obtain ⟨r, hr, rfl⟩ := List.mem_map.mp hq
  rw [← pair_word]
  exact (nc_textOf (h r hr)).2

/-! ### lists of pairs as they are read -/
abbrev Slot := Option (Addr × (Int × Int))
def slotV : Slot → V
  | none => .non
  | some q => .ref q.1
def slotD : Slot → PyData
  | none => .none
  | some q => .list [.int q.2.1, .int q.2.2]
/-- the list stands for the words read so far -/
structure Slots (H : Hp) (ws : List Str) (os : List Slot) : Prop where
  len : os.length = ws.length
  at_ : ∀ (j : Nat) (u : Str) (o : Slot), ws[j]? = some u → os[j]? = some o → (∀ q, o = some q → H q.1 = some (.lst [.int q.2.1, .int q.2.2]) ∧ Dgs [q.2.1, q.2.2] ∧ u = wordS q.2) ∧ (o = none → ∀ p : Int × Int, Dgs [p.1, p.2] → u ≠ wordS p)
theorem Slots.nil (H : Hp) : Slots H [] [] := ⟨rfl, fun j u o h => by cases h⟩
theorem Slots.snoc {H H' : Hp} {ws : List Str} {os : List Slot} {u : Str} {o : Slot} (h : Slots H ws os) (k : ∀ o ∈ os, ∀ q, o = some q → H q.1 = some (.lst [.int q.2.1, .int q.2.2]) → H' q.1 = some (.lst [.int q.2.1, .int q.2.2]))
    (h1 : ∀ q, o = some q → H' q.1 = some (.lst [.int q.2.1, .int q.2.2]) ∧ Dgs [q.2.1, q.2.2] ∧ u = wordS q.2) (h2 : o = none → ∀ p : Int × Int, Dgs [p.1, p.2] → u ≠ wordS p) : Slots H' (ws ++ [u]) (os ++ [o]) := by
  refine ⟨by rw [List.length_append, List.length_append, h.len]; rfl, fun j u' o' e1 e2 => ?_⟩
  by_cases hj : j < ws.length
  · rw [List.getElem?_append_left hj] at e1
    rw [List.getElem?_append_left (by rw [h.len]; exact hj)] at e2
    obtain ⟨a, b⟩ := h.at_ j u' o' e1 e2
    exact ⟨fun q hq => ⟨k o' (List.mem_of_getElem? e2) q hq (a q hq).1, (a q hq).2⟩, b⟩
  · rw [List.getElem?_append_right (by omega)] at e1
    rw [List.getElem?_append_right (by rw [h.len]; omega)] at e2
    rw [h.len] at e2
    have hz : j - ws.length = 0 := by
      have h5 := (List.getElem?_eq_some_iff.mp e1).1
      rw [List.length_singleton] at h5
      omega
    rw [hz] at e1 e2
    cases e1
    cases e2
    exact ⟨h1, h2⟩
theorem Slots.all : ∀ {H : Hp} {ws : List Str} {os : List Slot}, Slots H ws os → none ∉ os → ∃ ks : List (Addr × (Int × Int)), os = ks.map some ∧ ws = (ks.map (·.2)).map wordS ∧ ∀ q ∈ ks, H q.1 = some (.lst [.int q.2.1, .int q.2.2]) ∧ Dgs [q.2.1, q.2.2] := by
  intro H ws
  induction ws with
  | nil =>
    intro os h _
    have := List.length_eq_zero_iff.mp h.len
    exact ⟨[], this, rfl, fun q hq => by cases hq⟩
  | cons u ws ih =>
    intro os h hn
    cases os with
    | nil => cases h.len
    | cons o os =>
      have h' : Slots H ws os := ⟨Nat.succ.inj h.len, fun j u o e1 e2 => h.at_ (j + 1) u o e1 e2⟩
      obtain ⟨ks, e1, e2, e3⟩ := ih h' fun m => hn (List.mem_cons_of_mem _ m)
      cases o with
      | none => exact absurd List.mem_cons_self hn
      | some q =>
        obtain ⟨a, b, c⟩ := (h.at_ 0 u (some q) rfl rfl).1 q rfl
        refine ⟨q :: ks, by rw [e1]; rfl, by rw [c, e2]; rfl, fun r hr => ?_⟩
        rcases List.mem_cons.mp hr with rfl | hr
        · exact ⟨a, b⟩
        · exact e3 r hr
theorem Slots.bad {H : Hp} {ws : List Str} {os : List Slot} (h : Slots H ws os) (hn : none ∈ os) : ∃ u ∈ ws, ∀ p : Int × Int, Dgs [p.1, p.2] → u ≠ wordS p := by
  obtain ⟨j, hj, e⟩ := List.mem_iff_getElem.mp hn
  have e2 : os[j]? = some none := by rw [List.getElem?_eq_getElem hj, e]
  have hj2 : j < ws.length := by rw [← h.len]; exact hj
  exact ⟨ws[j], List.getElem_mem hj2, (h.at_ j ws[j] none (List.getElem?_eq_getElem hj2) e2).2 rfl⟩
theorem slots_any (os : List Slot) : ((os.map slotD).any fun z => PyData.eqv z .none) = decide (none ∈ os) := by
  induction os with
  | nil => rfl
  | cons o os ih =>
    rw [List.map_cons, List.any_cons, ih]
    cases o with
    | none =>
      rw [show PyData.eqv (slotD none) .none = true by decide +kernel]
      simp
    | some q =>
      rw [show PyData.eqv (slotD (some q)) .none = false by simp [slotD, PyData.eqv]]
      simp
end K08
namespace K08
open PySem PySem.Spec PyProof.Rows L2 OF TL
/-! ### in ascending order -/
theorem chain_pair {α : Type} {R : α → α → Prop} (tr : ∀ a b c, R a b → R b c → R a c) : ∀ {l : List α}, (∀ (k : Nat) (a b : α), l[k]? = some a → l[k + 1]? = some b → R a b) → l.Pairwise R
  | [], _ => .nil
  | [x], _ => List.pairwise_singleton _ _
  | x :: y :: l, h => by
    have ih : (y :: l).Pairwise R := chain_pair tr fun k a b e1 e2 => h (k + 1) a b e1 e2
    have h1 := h 0 x y rfl rfl
    refine List.pairwise_cons.mpr ⟨fun z hz => ?_, ih⟩
    rcases List.mem_cons.mp hz with rfl | hz
    · exact h1
    · exact tr _ _ _ h1 ((List.pairwise_cons.mp ih).1 z hz)
theorem pair_chain {α : Type} {R : α → α → Prop} {l : List α} (h : l.Pairwise R) (k : Nat) (a b : α) (e1 : l[k]? = some a) (e2 : l[k + 1]? = some b) : R a b := by
  obtain ⟨h1, rfl⟩ := List.getElem?_eq_some_iff.mp e1
  obtain ⟨h2, rfl⟩ := List.getElem?_eq_some_iff.mp e2
  exact List.pairwise_iff_getElem.mp h k (k + 1) h1 h2 (by omega)
theorem ahead_one (x y : Int) : ahead [x] [y] = true ↔ x < y := by
  show (if x = y then false else decide (x < y)) = true ↔ _
  by_cases h : x = y
  · rw [if_pos h]
    constructor
    · intro z
      cases z
    · intro z
      omega
  · rw [if_neg h, decide_eq_true_eq]
theorem ahead_two (p q : Int × Int) : ahead [p.1, p.2] [q.1, q.2] = true ↔ lexP p q := by
  show (if p.1 = q.1 then (if p.2 = q.2 then false else decide (p.2 < q.2)) else decide (p.1 < q.1)) = true ↔ (p.1 < q.1 ∨ (p.1 = q.1 ∧ p.2 < q.2))
  by_cases h : p.1 = q.1
  · rw [if_pos h]
    by_cases h2 : p.2 = q.2
    · rw [if_pos h2]
      constructor
      · intro z
        cases z
      · intro z
        omega
    · rw [if_neg h2, decide_eq_true_eq]
      omega
  · rw [if_neg h, decide_eq_true_eq]
    omega
theorem lexP_tr (a b c : Int × Int) (h1 : lexP a b) (h2 : lexP b c) : lexP a c := by
  unfold lexP at h1 h2 ⊢
  omega
/-- the places where the order is broken -/
def broken (as : List (List Int)) (n : Nat) : List Nat := (List.range n).filter fun k => !ahead (as.getD k []) (as.getD (k + 1) [])
theorem broken_nil {as : List (List Int)} {n : Nat} : broken as n = [] ↔ ∀ k, k < n → ahead (as.getD k []) (as.getD (k + 1) []) = true := by
  unfold broken
  rw [List.filter_eq_nil_iff]
  constructor
  · intro h k hk
    have := h k (List.mem_range.mpr hk)
    simpa using this
  · intro h k hk
    rw [h k (List.mem_range.mp hk)]
    exact Bool.false_ne_true
theorem broken_succ (as : List (List Int)) (n : Nat) : broken as (n + 1) = broken as n ++ (if ahead (as.getD n []) (as.getD (n + 1) []) = true then [] else [n]) := by
  unfold broken
  rw [List.range_succ, List.filter_append]
  congr 1
  by_cases h : ahead (as.getD n []) (as.getD (n + 1) []) = true
  · rw [if_pos h, List.filter_cons, if_neg (by rw [h]; exact Bool.false_ne_true)]
    rfl
  · rw [if_neg h, List.filter_cons, if_pos (by rw [Bool.eq_false_iff.mpr h]; rfl)]
    rfl
theorem digs_order {ds : List Int} : broken (ds.map fun n => [n]) (ds.length - 1) = [] ↔ ds.Pairwise (· < ·) := by
  rw [broken_nil]
  have e : ∀ k, k < ds.length → (ds.map fun n => [n]).getD k [] = [ds.getD k 0] := fun k hk => by
    rw [List.getD_eq_getElem?_getD, List.getElem?_map, List.getD_eq_getElem?_getD, List.getElem?_eq_getElem hk]
    rfl
  constructor
  · intro h
    refine chain_pair (fun a b c h1 h2 => by omega) fun k a b e1 e2 => ?_
    have h2 := (List.getElem?_eq_some_iff.mp e2).1
    have := h k (by omega)
    rw [e k (by omega), e (k + 1) h2, ahead_one, List.getD_eq_getElem?_getD, List.getD_eq_getElem?_getD, e1, e2] at this
    exact this
  · intro h k hk
    rw [e k (by omega), e (k + 1) (by omega), ahead_one, List.getD_eq_getElem?_getD, List.getD_eq_getElem?_getD]
    have h1 : k < ds.length := by omega
    have h2 : k + 1 < ds.length := by omega
    have := pair_chain h k _ _ (List.getElem?_eq_getElem h1) (List.getElem?_eq_getElem h2)
    rw [List.getElem?_eq_getElem h1, List.getElem?_eq_getElem h2]
    exact this
theorem pairs_order {ps : List (Int × Int)} : broken (ps.map fun p => [p.1, p.2]) (ps.length - 1) = [] ↔ ps.Pairwise lexP := by
  rw [broken_nil]
  have e : ∀ k, k < ps.length → (ps.map fun p => [p.1, p.2]).getD k [] = [(ps.getD k (0, 0)).1, (ps.getD k (0, 0)).2] := fun k hk => by
    rw [List.getD_eq_getElem?_getD, List.getElem?_map, List.getD_eq_getElem?_getD, List.getElem?_eq_getElem hk]
    rfl
  constructor
  · intro h
    refine chain_pair lexP_tr fun k a b e1 e2 => ?_
    have h2 := (List.getElem?_eq_some_iff.mp e2).1
    have := h k (by omega)
    rw [e k (by omega), e (k + 1) h2, ahead_two, List.getD_eq_getElem?_getD, List.getD_eq_getElem?_getD, e1, e2] at this
    exact this
  · intro h k hk
    rw [e k (by omega), e (k + 1) (by omega), ahead_two, List.getD_eq_getElem?_getD, List.getD_eq_getElem?_getD]
    have h1 : k < ps.length := by omega
    have h2 : k + 1 < ps.length := by omega
    have := pair_chain h k _ _ (List.getElem?_eq_getElem h1) (List.getElem?_eq_getElem h2)
    rw [List.getElem?_eq_getElem h1, List.getElem?_eq_getElem h2]
    exact this
theorem good_of2 {b : Int} {ds : List Int} {ps : List (Int × Int)} (hb : isBase b = true) (hd : Dgs ds) (h1 : 1 ≤ ds.length) (h6 : ds.length ≤ 6) (hp : ∀ p ∈ ps, p.1 ∈ ds ∧ p.2 ∈ ds) (a1 : ds.Pairwise (· < ·)) (a2 : ps.Pairwise lexP) : Good b ds ps := by
  refine ⟨hb, a1, h1, h6, fun n hn => dig_of (hd n hn).1 (hd n hn).2, hp, a2, ?_⟩
  have e : ps = sortP ds ps := sorted_ext lexP_as a2 ((prod_aux a1 a1).filter _) fun z => by
    unfold sortP
    rw [List.mem_filter, decide_eq_true_eq]
    exact ⟨fun q => ⟨List.mem_flatMap.mpr ⟨z.1, (hp z q).1, List.mem_map.mpr ⟨z.2, (hp z q).2, rfl⟩⟩, q⟩, fun q => q.2⟩
  rw [e]
  refine Nat.le_trans (List.length_filter_le _ _) ?_
  rw [sq_len]
  exact Nat.le_trans (Nat.mul_le_mul h6 h6) (by decide)
end K08
namespace K08
open PySem PySem.Spec PyProof.Rows L2 OF TL
section
variable {P : Program} {w : World} {K : PySem.W.Frag} {mg : Str → Option Value} {base : Heap}
abbrev nDu : List Str := ["_law_wording", "_law_parts", "_law_base", "_law_digits_here", "_law_shut", "_law_strange", "_law_row", "_law_word", "_law_pair", "_law_k"]
theorem scDu : FnScope nDu ["_law_wording"] (defScope sDue) := ⟨rfl, rfl, rfl, by decide +kernel, rfl, by decide +kernel, by decide +kernel⟩
def rTupL (K : PySem.W.Frag) : List V → Hp → VK → Prop := fun xs H Q => ∃ p ys, xs = [.ref p] ∧ ((SqL K H p ys ∧ ∀ l, H l = none → Q (.ref l) (upd H l (.tup ys))) ∨ (SqT K H p ys ∧ Q (.ref p) H))
/-- the items of a row, as lists of ints of one length -/
structure RowIs (K : PySem.W.Frag) (H : Hp) (r : Addr) (vs : List V) (as : List (List Int)) (c : Nat) : Prop where
  sq : SqL K H r vs
  len : vs.length = as.length
  at_ : ∀ (j : Nat) (v : V) (a : List Int), vs[j]? = some v → as[j]? = some a → One2 K H v a ∧ a.length = c
  few : vs.length ≤ 2000
set_option maxHeartbeats 4000000 in
theorem due_tail {f : Addr} (ml : mg "len" = none) (mr : mg "range" = none) (mt : mg "tuple" = none) {cdv : Value} {A : Around} {outer : List Env} {s : Shared} {H : Hp} {Q : VK} {E : XK} (hr : Room 2 (A.deeper (envOfC "_law_due" (defScope sDue) s.heap.objs.size f cdv))) :
    ∃ u, PSs (cxOf CX0 P w K mg base nDu "_law_due" (defScope sDue) f cdv A outer s H E).nox ((defBody sDue).drop 5) u ∧ ∀ σ' H',
      (∃ (z : Str) (b : Int) (ds : List Int) (x1 x5 x6 x7 x8 x9 : Option V) (dl sl : Addr) (ks : List (Addr × (Int × Int))), σ' = [some (.str z), x1, some (.int b), some (.ref dl), some (.ref sl), x5, x6, x7, x8, x9] ∧ Same H H' ∧ H' dl = some (.lst (ds.map V.int)) ∧ H' sl = some (.lst (ks.map fun q => V.ref q.1)) ∧ (∀ q ∈ ks, H' q.1 = some (.lst [.int q.2.1, .int q.2.2])) ∧ ds.length ≤ 6 ∧ ks.length ≤ 2000 ∧
        (ds.Pairwise (· < ·) → (ks.map (·.2)).Pairwise lexP → ∀ (p td tp : Addr) (k2 : List (Addr × (Int × Int))) H', Same H H' → H' p = some (.lst [.int b, .ref td, .ref tp]) → H' td = some (.tup (ds.map V.int)) → H' tp = some (.tup (k2.map fun q => V.ref q.1)) → k2.map (·.2) = ks.map (·.2) → (∀ q ∈ k2, H' q.1 = some (.tup [.int q.2.1, .int q.2.2])) → Q (.ref p) H') ∧
        (¬ (ds.Pairwise (· < ·) ∧ (ks.map (·.2)).Pairwise lexP) → ∀ H', Same H H' → Q .non H')) → u { nx := fun _ H' => Q .non H', rt := Q } σ' H' := by
  have hr1 : Room 1 _ := hr.mono (by decide)
  have hu0 := hr.un
  have hu1 : (A.deeper (envOfC "_law_due" (defScope sDue) s.heap.objs.size f cdv)).units < cLine := by omega
  apply Exists.intro
  apply And.intro
  · apply pss_cons
    · exact ps_for PassesOwn.never rfl (pi_list (pe_lst (pa_cons (pv 3) (pa_cons (pv 4) pa_nil)))) (pg_name (i := 6) scDu.nd rfl (.inr rfl))
        (pss_one (ps_if (pt_cmpR (op_neNil hr.units) (pe_lc (own := [("_law_k", 9)]) (g := gName 9) (tt := tTest (tOp (rGe2 K) (tOp (rIxL K) (tVar 6) (tOp (rI0 fun i j => .int (i - j)) (tVar 9) (tC (.int 1)))) (tOp (rIxL K) (tVar 6) (tVar 9)))) (te := tVar 9) rfl scDu.nd (pi_range2 rfl mr (pa_cons pe_int (pa_cons (pe_callB call_len_seq (by rfl) ml PySem.boot_len (pa_cons (pv 6) pa_nil)) pa_nil)))
            (blkOk_by (own := [("_law_k", 9)]) (N := nDu) (sc := defScope sDue) (by decide +kernel)) (fun _ _ _ _ _ => pg_name (i := 9) scDu.nd rfl (Or.inl rfl))
            (fun _ _ _ _ _ => pts_one (pt_cmpR (op_ge2 hu1) (pe_ix ix_list (pv 6) (pe_op op_sub (pv 9) pe_int) (fun _ _ => rfl)) (pe_ix ix_list (pv 6) (pv 9) (fun _ _ => rfl)) (nomark _)))
            (fun _ _ _ _ _ => by exact (pv 9))) (pe_lst pa_nil) (nomark _)) (pss_one (ps_ret pe_non)) pss_nil))
    apply pss_one
    · exact ps_ret (pe_lst (pa_cons (pv 2) (pa_cons (pe_callTy call_tuple_of (by rfl) mt (by decide +kernel) (pa_cons (pv 3) pa_nil))
        (pa_cons (pe_callTy call_tuple_of (by rfl) mt (by decide +kernel) (pa_cons (pe_lc (own := [("_law_pair", 8)]) (g := gName 8) (tt := tYes) (te := tCB (rTupL K) (tCons (tVar 8) tNil)) rfl scDu.nd (pi_list (pv 4))
            (blkOk_by (own := [("_law_pair", 8)]) (N := nDu) (sc := defScope sDue) (by decide +kernel)) (fun _ _ _ _ _ => pg_name (i := 8) scDu.nd rfl (Or.inl rfl)) (fun _ _ _ _ _ => pts_nil)
            (fun _ _ _ _ _ => by exact (pe_callTy call_tuple_of (by rfl) mt (by decide +kernel) (pa_cons (pv 8) pa_nil)))) pa_nil)) pa_nil))))
  · rintro σ' H1 ⟨z, b, ds, x1, x5, x6, x7, x8, x9, dl, sl, ks, rfl, s1, edl, esl, eks, h6, few, yes, no⟩
    refine ⟨.ref dl, rfl, .ref sl, rfl, (by show 2 ≤ sizeLine; decide), fun r hr2 => ⟨r, rfl, ⟨_, SqL.of upd_same⟩, ?_⟩⟩
    have s2 : Same H1 (upd H1 r (.lst [.ref dl, .ref sl])) := same_new hr2
    have er : (upd H1 r (.lst [.ref dl, .ref sl])) r = some (.lst [.ref dl, .ref sl]) := upd_same
    generalize upd H1 r (.lst [.ref dl, .ref sl]) = H2 at s2 er ⊢
    refine for_list (K := K) (a := r) (xs := [.ref dl, .ref sl]) (fun i σ H' => (∃ x6, σ = [some (.str z), x1, some (.int b), some (.ref dl), some (.ref sl), x5, x6, x7, x8, x9]) ∧ Same H2 H' ∧ (1 ≤ i → ds.Pairwise (· < ·)) ∧ (2 ≤ i → (ks.map (·.2)).Pairwise lexP))
      ⟨⟨x6, rfl⟩, Same.refl _, (fun h => absurd h (by decide)), fun h => absurd h (by decide)⟩ (fun i σ H' _ h => SqL.of (h.2.1 _ _ er)) ?_ ?_
    · rintro i x σ H3 hi ⟨⟨x6, rfl⟩, s3, o1, o2⟩
      have s23 := s2.trans s3
      obtain ⟨ra, vs, as, c, rfl, R, fin, bad⟩ : ∃ ra vs as c, x = .ref ra ∧ (∀ H4, Same H3 H4 → RowIs K H4 ra vs as c) ∧ (broken as (as.length - 1) = [] → ((1 ≤ i + 1 → ds.Pairwise (· < ·)) ∧ (2 ≤ i + 1 → (ks.map (·.2)).Pairwise lexP))) ∧ (broken as (as.length - 1) ≠ [] → ¬ (ds.Pairwise (· < ·) ∧ (ks.map (·.2)).Pairwise lexP)) := by
        match i, hi with
        | 0, hi =>
          cases hi
          refine ⟨dl, ds.map V.int, ds.map fun n => [n], 1, rfl, fun H4 s4 => ⟨SqL.of (s4 _ _ (s23 _ _ edl)), by rw [List.length_map, List.length_map], fun j v a ev ea => ?_, by rw [List.length_map]; omega⟩, fun h => ?_, fun h => ?_⟩
          · obtain ⟨n, hn, rfl⟩ := get_map ev
            rw [List.getElem?_map, hn] at ea
            cases ea
            exact ⟨.one n, rfl⟩
          · rw [List.length_map] at h
            exact ⟨fun _ => digs_order.mp h, fun h => absurd h (by decide)⟩
          · rw [List.length_map] at h
            exact fun k => h (digs_order.mpr k.1)
        | 1, hi =>
          cases hi
          refine ⟨sl, ks.map fun q => V.ref q.1, (ks.map (·.2)).map fun p => [p.1, p.2], 2, rfl, fun H4 s4 => ⟨SqL.of (s4 _ _ (s23 _ _ esl)), by rw [List.length_map, List.length_map, List.length_map], fun j v a ev ea => ?_, by rw [List.length_map]; exact few⟩, fun h => ?_, fun h => ?_⟩
          · obtain ⟨q, hq, rfl⟩ := get_map ev
            rw [List.getElem?_map, List.getElem?_map, hq] at ea
            cases ea
            exact ⟨.two (SqL.of (s4 _ _ (s23 _ _ (eks q (List.mem_of_getElem? hq))))), rfl⟩
          · rw [List.length_map] at h
            exact ⟨fun _ => o1 (Nat.le_refl _), fun _ => pairs_order.mp h⟩
          · rw [List.length_map] at h
            exact fun k => h (pairs_order.mpr k.2)
        | i + 2, hi => cases hi
      have R3 := R H3 (Same.refl _)
      have hn : ((vs.length : Int) - 1).toNat = as.length - 1 := by
        rw [← R3.len]
        omega
      refine ⟨.ref ra, rfl, ra, vs, rfl, .inl R3.sq, 1, (vs.length : Int), rfl, ⟨by decide, by decide, by have := R3.few; omega, by have := R3.few; omega⟩, fun D hD => ?_⟩
      refine lc_range (lo := 1) (n := ((vs.length : Int) - 1).toNat) (fun k H' => Same H3 H' ∧ H' D = some (.lst ((broken as k).map fun (j : Nat) => V.int (1 + (j : Int))))) ⟨same_new hD, upd_same⟩ ?_ ?_
      · rintro k H4 hk ⟨s4, e4⟩
        have R4 := R H4 s4
        have k1 : k < vs.length := by omega
        have k2 : k + 1 < vs.length := by omega
        have k3 : k < as.length := by rw [← R3.len]; exact k1
        have k4 : k + 1 < as.length := by rw [← R3.len]; exact k2
        obtain ⟨oa, la⟩ := R4.at_ k _ _ (List.getElem?_eq_getElem k1) (List.getElem?_eq_getElem k3)
        obtain ⟨ob, lb⟩ := R4.at_ (k + 1) _ _ (List.getElem?_eq_getElem k2) (List.getElem?_eq_getElem k4)
        have ga : as.getD k [] = as[k] := by rw [List.getD_eq_getElem?_getD, List.getElem?_eq_getElem k3]; rfl
        have gb : as.getD (k + 1) [] = as[k + 1] := by rw [List.getD_eq_getElem?_getD, List.getElem?_eq_getElem k4]; rfl
        have t1 : atI vs ((1 : Int) + (k : Int) - 1) = some vs[k] := by
          rw [show (1 : Int) + (k : Int) - 1 = (k : Int) by omega]
          exact atI_nat (List.getElem?_eq_getElem k1)
        have t2 : atI vs ((1 : Int) + (k : Int)) = some vs[k + 1] := by
          rw [show (1 : Int) + (k : Int) = ((k + 1 : Nat) : Int) by omega]
          exact atI_nat (List.getElem?_eq_getElem k2)
        refine ⟨rfl, .ref ra, rfl, .int (1 + (k : Int)), rfl, _, _, rfl, rfl, ra, vs, _, _, rfl, rfl, R4.sq, t1, .ref ra, rfl, .int (1 + (k : Int)), rfl, ra, vs, _, _, rfl, rfl, R4.sq, t2, _, _, oa, ob, la.trans lb.symm, _, rfl, ?_⟩
        by_cases ha : ahead as[k] as[k + 1] = true
        · refine iteFB (by rw [ha]; rfl) ⟨s4, ?_⟩
          rw [e4, broken_succ, ga, gb, if_pos ha, List.append_nil]
        · refine iteTB (by rw [Bool.eq_false_iff.mpr ha]; rfl) ⟨.int (1 + (k : Int)), rfl, _, e4, ?_, Same.store s4 hD, ?_⟩
          · rw [List.length_map]
            refine Nat.lt_of_le_of_lt (List.length_filter_le _ _) ?_
            rw [List.length_range, sizeLine_eq]
            have := R3.few
            omega
          · rw [upd_same, broken_succ, ga, gb, if_neg ha, List.map_append]
            rfl
      · rintro H4 ⟨s4, e4⟩
        rw [hn] at e4
        refine ⟨(by show 0 ≤ sizeLine; decide), fun nl hnl => ?_⟩
        have s5 := same_new (o := .lst []) hnl
        refine ⟨D, nl, _, rfl, rfl, SqL.of (s5 _ _ e4), SqL.of upd_same, _, rfl, ?_⟩
        by_cases hb : broken as (as.length - 1) = []
        · refine iteFB (by rw [hb]; rfl) ⟨⟨_, rfl⟩, s3.trans (s4.trans s5), fin hb⟩
        · refine iteTB (by cases hq : broken as (as.length - 1) with | nil => exact absurd hq hb | cons q l => rfl) ?_
          exact no (bad hb) _ ((s1.trans s23).trans (s4.trans s5))
    · rintro σ H3 ⟨⟨x6, rfl⟩, s3, o1, o2⟩
      have o1 := o1 (show 1 ≤ 2 by decide)
      have o2 := o2 (show 2 ≤ 2 by decide)
      have s23 := s2.trans s3
      refine ⟨.int b, rfl, .ref dl, rfl, dl, _, rfl, .inl ⟨SqL.of (s23 _ _ edl), fun td htd => ?_⟩⟩
      have s4 : Same H1 (upd H3 td (.tup (ds.map V.int))) := s23.trans (same_new htd)
      have e4 : (upd H3 td (.tup (ds.map V.int))) td = some (.tup (ds.map V.int)) := upd_same
      generalize upd H3 td (.tup (ds.map V.int)) = H4 at s4 e4 ⊢
      refine ⟨.ref sl, rfl, sl, rfl, ⟨_, SqL.of (s4 _ _ esl)⟩, fun D hD => ?_⟩
      refine lc_list (K := K) (a := sl) (xs := ks.map fun q => V.ref q.1) (fun i H' => Same H4 H' ∧ ∃ k2 : List (Addr × (Int × Int)), H' D = some (.lst (k2.map fun q => V.ref q.1)) ∧ k2.map (·.2) = (ks.take i).map (·.2) ∧ ∀ q ∈ k2, H' q.1 = some (.tup [.int q.2.1, .int q.2.2]))
        ⟨same_new hD, [], upd_same, rfl, fun q hq => by cases hq⟩ (fun i H' _ h => SqL.of (h.1 _ _ (s4 _ _ esl))) ?_ ?_
      · rintro i x H5 hi ⟨s5, k2, e5, m5, t5⟩
        obtain ⟨q, hq, rfl⟩ := get_map hi
        refine ⟨rfl, tYes_if ⟨.ref q.1, rfl, q.1, _, rfl, .inl ⟨SqL.of (s5 _ _ (s4 _ _ (eks q (List.mem_of_getElem? hq)))), fun pt hpt => ?_⟩⟩⟩
        have nD : pt ≠ D := fun z => by
          rw [z, e5] at hpt
          cases hpt
        have s6 : Same H5 (upd H5 pt (.tup [.int q.2.1, .int q.2.2])) := same_new hpt
        refine ⟨_, s6 _ _ e5, ?_, Same.store (s5.trans s6) hD, k2 ++ [(pt, q.2)], ?_, ?_, ?_⟩
        · have hl := congrArg List.length m5
          rw [List.length_map, List.length_map, List.length_take] at hl
          rw [List.length_map, sizeLine_eq]
          omega
        · rw [upd_same, List.map_append]
          rfl
        · rw [take_more hq, List.map_append, List.map_append, m5]
          rfl
        · intro r hr
          rcases List.mem_append.mp hr with hr | hr
          · have tr := t5 r hr
            have nr : r.1 ≠ D := fun z => by
              rw [z, e5] at tr
              cases tr
            rw [upd_ne nr]
            exact s6 _ _ tr
          · cases List.mem_singleton.mp hr
            rw [upd_ne nD]
            exact upd_same
      · rintro H5 ⟨s5, k2, e5, m5, t5⟩
        rw [List.length_map, List.take_length] at m5
        refine ⟨D, _, rfl, .inl ⟨SqL.of e5, fun tp htp => ⟨(by show 3 ≤ sizeLine; decide), fun p hp => ?_⟩⟩⟩
        have s6 := same_new (o := .tup (k2.map fun q => V.ref q.1)) htp
        have s7 := same_new (o := .lst [.int b, .ref td, .ref tp]) hp
        have s67 := s6.trans s7
        exact yes o1 o2 p td tp k2 _ ((s1.trans s4).trans (s5.trans s67)) upd_same (s67 _ _ (s5 _ _ e4)) (s7 _ _ upd_same) m5 fun q hq => s67 _ _ (t5 q hq)
end
end K08
namespace K08
open PySem PySem.Spec PyProof.Rows L2 OF TL
section
variable {P : Program} {w : World} {K : PySem.W.Frag} {mg : Str → Option Value} {base : Heap}
def spDue : Sp := fun vs H Q _ => ∃ z : Str, vs = [.str z] ∧ z.length ≤ 1000 ∧
  (∀ b ds ps, Good b ds ps → strS b ds ps = z → ∀ (p td tp : Addr) (ks : List (Addr × (Int × Int))) H', Same H H' → H' p = some (.lst [.int b, .ref td, .ref tp]) → H' td = some (.tup (ds.map V.int)) → H' tp = some (.tup (ks.map fun q => V.ref q.1)) → ks.map (·.2) = ps → (∀ q ∈ ks, H' q.1 = some (.tup [.int q.2.1, .int q.2.2])) → Q (.ref p) H') ∧
  ((∀ b ds ps, Good b ds ps → strS b ds ps ≠ z) → ∀ H', Same H H' → Q .non H')
theorem slots_dp {K : PySem.W.Frag} {H : Hp} : ∀ os : List Slot, (∀ o ∈ os, ∀ q, o = some q → H q.1 = some (.lst [.int q.2.1, .int q.2.2])) → DpAll K H (os.map slotV) (os.map slotD)
  | [], _ => .nil
  | none :: os, h => .cons .non (slots_dp os fun o ho => h o (List.mem_cons_of_mem _ ho))
  | some q :: os, h => .cons (.lst (SqL.of (h _ List.mem_cons_self q rfl)) (.cons (.int _) (.cons (.int _) .nil))) (slots_dp os fun o ho => h o (List.mem_cons_of_mem _ ho))
theorem slots_can : ∀ os : List Slot, PyData.canLayAll0 (os.map slotD) = true ∧ PyData.depthAll (os.map slotD) ≤ 1
  | [] => ⟨by simp only [List.map_nil, PyData.canLayAll0], by simp only [List.map_nil, PyData.depthAll]; omega⟩
  | none :: os => by
    obtain ⟨h1, h2⟩ := slots_can os
    refine ⟨?_, ?_⟩
    · rw [List.map_cons, PyData.canLayAll0, h1]
      simp only [slotD, PyData.canLay0, Bool.and_true]
    · rw [List.map_cons, PyData.depthAll]
      simp only [slotD, PyData.depth]
      omega
  | some q :: os => by
    obtain ⟨h1, h2⟩ := slots_can os
    refine ⟨?_, ?_⟩
    · rw [List.map_cons, PyData.canLayAll0, h1]
      simp only [slotD, PyData.canLay0, PyData.canLayAll0, Bool.and_true]
    · rw [List.map_cons, PyData.depthAll]
      simp only [slotD, PyData.depth, PyData.depthAll]
      omega
theorem slots_shaped (os : List Slot) : SeqAt.shaped (.list (os.map slotD)) = true := by
  obtain ⟨h1, h2⟩ := slots_can os
  refine shaped_of ?_ ?_
  · simp only [PyData.canLay0, h1]
  · simp only [PyData.depth]
    omega
theorem slot_not {os : List Slot} {x y : Int} : os.map slotV ≠ [.int x, .int y] := by
  intro e
  match os, e with
  | o :: _, e =>
    have h := (List.cons.inj e).1
    cases o <;> cases h
set_option maxHeartbeats 4000000 in
theorem ok_due {f fN fM : Addr} {fd fdN fdM : FuncData} (F : Fun K "_law_due" "_law_due" sDue f fd) (GN : FnOk P w K mg base CX0 1 fN fdN ["_law_word", "_law_low", "_law_high"] spNumber) (gN : mg "_law_number" = some (.ref fN)) (kN : PySem.W.keepIn K (.ref fN) = true) (bN : Binds K fdN ["_law_word", "_law_low", "_law_high"] [])
    (GM : FnOk P w K mg base CX0 2 fM fdM ["_law_wording", "_law_many"] (spNumbers K)) (gM : mg "_law_numbers" = some (.ref fM)) (kM : PySem.W.keepIn K (.ref fM) = true) (bM : Binds K fdM ["_law_wording", "_law_many"] [])
    (ml : mg "len" = none) (ma : mg "abs" = none) (mr : mg "range" = none) (mt : mg "tuple" = none) : FnOk P w K mg base CX0 3 f fd ["_law_wording"] spDue := by
  refine F.ok scDu (fun vs H Q E h => ?_) (fun cdv A outer s H vs Q E hr h => ?_)
  · obtain ⟨z, rfl, _⟩ := h
    rfl
  · obtain ⟨z, rfl, hz, yes, no⟩ := h
    have hr1 : Room 1 _ := hr.mono (by decide)
    have hu0 := hr.un
    have hu65 : (A.deeper (envOfC "_law_due" (defScope sDue) s.heap.objs.size f cdv)).units + 65 < cLine := by omega
    have hu1 : (A.deeper (envOfC "_law_due" (defScope sDue) s.heap.objs.size f cdv)).units < cLine := by omega
    obtain ⟨u, hu, hq⟩ := due_tail (f := f) (cdv := cdv) (A := A) (outer := outer) (s := s) (H := H) (Q := Q) (E := E) ml mr mt hr
    apply Exists.intro
    apply And.intro
    · apply pss_cons
      · exact ps_set (i := 1) scDu.nd rfl (.inl rfl) (pe_split (pv 0) pe_str)
      apply pss_cons
      · exact ps_if (PW.pt (pw_or (pt_cmpR op_lt (pe_callB call_len_seq (by rfl) ml PySem.boot_len (pa_cons (pv 1) pa_nil)) pe_int (nomark _)) (pw_or (pt_cmpR op_gt (pe_callB call_len_seq (by rfl) ml PySem.boot_len (pa_cons (pv 1) pa_nil)) pe_int (nomark _))
            (pw_or (pt_cmpR op_ne (pe_slice sl_str (pe_ix ix_list (pv 1) pe_int (fun _ _ => rfl)) po_none (po_some pe_int)) pe_str (nomark _)) (pw_or1 (pt_cmpR op_ne (pe_slice sl_str (pe_ix ix_list (pv 1) pe_int (fun _ _ => rfl)) po_none (po_some pe_int)) pe_str (nomark _)))))))
          (pss_one (ps_ret pe_non)) pss_nil
      apply pss_cons
      · exact ps_asg (pe_tup (pa_cons (pe_call GN hr1 (by rfl) gN kN bN .nil pass0 (pa_cons (pe_slice sl_str (pe_ix ix_list (pv 1) pe_int (fun _ _ => rfl)) (po_some pe_int) po_none) (pa_cons (pe_un un_neg pe_int) (pa_cons pe_int pa_nil))))
          (pa_cons (pe_call GM hr (by rfl) gM kM bM .nil pass0 (pa_cons (pe_slice sl_str (pe_ix ix_list (pv 1) pe_int (fun _ _ => rfl)) (po_some pe_int) po_none) (pa_cons (pe_lst (pa_cons pe_int (pa_cons pe_int (pa_cons pe_int (pa_cons pe_int (pa_cons pe_int (pa_cons pe_int pa_nil))))))) pa_nil))) (pa_cons (pe_lst pa_nil) pa_nil))))
          (pg_tup rfl (pgs_cons (pg_name (i := 2) scDu.nd rfl (.inl rfl)) (pgs_cons (pg_name (i := 3) scDu.nd rfl (.inr rfl)) (pgs_cons (pg_name (i := 4) scDu.nd rfl (.inl rfl)) pgs_nil))))
      apply pss_cons
      · exact ps_if (PW.pt (pw_or (pt_cmpR op_isN (pv 2) pe_non (nomark _)) (pw_or (pt_cmpR op_lt (pe_callB call_abs (by rfl) ma (by decide +kernel) (pa_cons (pv 2) pa_nil)) pe_int (nomark _)) (pw_or1 (pt_cmpR op_isN (pv 3) pe_non (nomark _))))))
          (pss_one (ps_ret pe_non)) pss_nil
      apply pss_cons
      · exact ps_if (pt_cmpR op_eq (pe_callB call_len_seq (by rfl) ml PySem.boot_len (pa_cons (pv 1) pa_nil)) pe_int (nomark _))
          (pss_cons (ps_if (pt_cmpR op_ne (pe_slice sl_str (pe_ix ix_list (pv 1) pe_int (fun _ _ => rfl)) po_none (po_some pe_int)) pe_str (nomark _)) (pss_one (ps_ret pe_non)) pss_nil)
          (pss_cons (ps_setLc (i := 4) (own := [("_law_word", 7)]) (g := gName 7) (tt := tYes) (te := tCall (spNumbers K) [] E0 (tCons (tVar 7) (tCons (tLst (tCons (tC (.int 2)) tNil)) tNil))) rfl scDu.nd rfl rfl (sw_true rfl rfl rfl (by decide +kernel))
              (pi_list (pe_split (pe_slice sl_str (pe_ix ix_list (pv 1) pe_int (fun _ _ => rfl)) (po_some pe_int) po_none) pe_str))
              (blkOk_by (own := [("_law_word", 7)]) (N := nDu) (sc := defScope sDue) (by decide +kernel)) (fun _ _ _ _ _ => pg_name (i := 7) scDu.nd rfl (Or.inl rfl)) (fun _ _ _ _ _ => pts_nil)
              (fun _ _ _ _ _ => by exact (pe_call GM hr (by rfl) gM kM bM .nil pass0 (pa_cons (pv 7) (pa_cons (pe_lst (pa_cons pe_int pa_nil)) pa_nil)))))
          (pss_cons (ps_if (pt_cmpR (op_inD hu65) pe_non (pv 4) rfl) (pss_one (ps_ret pe_non)) pss_nil)
          (pss_cons (ps_setLc (i := 5) (own := [("_law_pair", 8)]) (g := gName 8) (tt := tOr (tTest (tOp (rIn K true) (tOp (rIxL K) (tVar 8) (tC (.int 0))) (tVar 3))) (tTest (tOp (rIn K true) (tOp (rIxL K) (tVar 8) (tC (.int 1))) (tVar 3)))) (te := tVar 8) rfl scDu.nd rfl rfl (sw_true rfl rfl rfl (by decide +kernel))
              (pi_list (pv 4))
              (blkOk_by (own := [("_law_pair", 8)]) (N := nDu) (sc := defScope sDue) (by decide +kernel)) (fun _ _ _ _ _ => pg_name (i := 8) scDu.nd rfl (Or.inl rfl))
              (fun _ _ _ _ _ => pts_one (PW.pt (pw_or (pt_cmpR op_notIn_seq (pe_ix ix_list (pv 8) pe_int (fun _ _ => rfl)) (pv 3) rfl) (pw_or1 (pt_cmpR op_notIn_seq (pe_ix ix_list (pv 8) pe_int (fun _ _ => rfl)) (pv 3) rfl)))))
              (fun _ _ _ _ _ => by exact (pv 8)))
          (pss_one (ps_if (pt_cmpR (op_neNil hr.units) (pv 5) (pe_lst pa_nil) (nomark _)) (pss_one (ps_ret pe_non)) pss_nil)))))) pss_nil
      exact hu
    refine ⟨.str z, rfl, ⟨z, rfl⟩, z, Str.ofString "; ", rfl, rfl, by decide +kernel, (by rw [sizeLine_eq]; omega), fun l hl => ?_⟩
    have lens : ∀ p ∈ Txt.split z (Str.ofString "; "), p.length ≤ 1000 := fun p hp => by
      have j := StrLaws.join_split z (Str.ofString "; ")
      have h1 := (in_join (S := TL.tl (Str.ofString "; ")) (ps := (Txt.split z (Str.ofString "; ")).map TL.tl) (List.mem_map.mpr ⟨p, hp, rfl⟩)).1
      rw [← TL.tl_join, j, ← TL.len_tl, ← TL.len_tl] at h1
      omega
    generalize hxs : Txt.split z (Str.ofString "; ") = xs at lens
    have stop : (∀ b ds ps, Good b ds ps → xs ≠ (Str.ofString "base " ++ strI b) :: (Str.ofString "digits " ++ rowS ds) :: moreS ps) → ∀ H', Same H H' → Q .non H' := fun h => no fun b ds ps G e => h b ds ps G (by rw [← hxs, ← e]; exact G.split)
    have s1 : Same H (upd H l (.lst (xs.map V.str))) := same_new hl
    have e1 : (upd H l (.lst (xs.map V.str))) l = some (.lst (xs.map V.str)) := upd_same
    generalize upd H l (.lst (xs.map V.str)) = H1 at s1 e1 ⊢
    have big : ∀ {n : Nat}, n ≤ 1000 → n ≤ sizeLine := fun {n} h => by rw [sizeLine_eq]; omega
    refine ⟨.ref l, rfl, l, _, rfl, .inl (SqL.of e1), _, _, rfl, rfl, _, rfl, ?_⟩
    rw [List.length_map]
    by_cases hm : ∃ (x y : Str) (more : List Str), xs = x :: y :: more ∧ more.length ≤ 1
    case neg =>
      have out : ∀ H', Same H H' → Q .non H' := stop fun b ds ps G e => hm ⟨_, _, _, e, by unfold moreS; split <;> simp⟩
      by_cases h2 : (xs.length : Int) < 2
      · exact iteTB (decide_eq_true h2) (iteT (out _ s1))
      · have h3 : (xs.length : Int) > 3 := by
          match xs, hm, h2 with
          | [], _, h2 => exact absurd (show ((0 : Nat) : Int) < 2 by decide) h2
          | [_], _, h2 => exact absurd (show ((1 : Nat) : Int) < 2 by decide) h2
          | [x, y], hm, _ => exact absurd ⟨x, y, [], rfl, Nat.zero_le _⟩ hm
          | [x, y, m], hm, _ => exact absurd ⟨x, y, [m], rfl, Nat.le_refl _⟩ hm
          | _ :: _ :: _ :: _ :: r, _, _ =>
            simp only [List.length_cons]
            omega
        refine iteFB (decide_eq_false h2) ⟨.ref l, rfl, l, _, rfl, .inl (SqL.of e1), _, _, rfl, rfl, _, rfl, ?_⟩
        rw [List.length_map]
        exact iteTB (decide_eq_true h3) (iteT (out _ s1))
    obtain ⟨x, y, more, rfl, lm⟩ := hm
    have hlen : ((x :: y :: more).length : Int) = 2 + more.length := by
      simp only [List.length_cons]
      omega
    refine iteFB (decide_eq_false (by rw [hlen]; omega)) ⟨.ref l, rfl, l, _, rfl, .inl (SqL.of e1), _, _, rfl, rfl, _, rfl, ?_⟩
    rw [List.length_map]
    refine iteFB (decide_eq_false (by rw [hlen]; omega)) ?_
    have lx := lens x List.mem_cons_self
    have ly := lens y (List.mem_cons_of_mem _ List.mem_cons_self)
    -- the words ahead
    refine ⟨.ref l, rfl, l, _, 0, .str x, rfl, rfl, SqL.of e1, atI_nat (j := 0) rfl, 5, rfl, x, rfl, big lx, rfl, _, rfl, ?_⟩
    by_cases cx : cutS x none (some 5) = Str.ofString "base "
    case neg =>
      refine iteTB (by rw [decide_eq_false (fun q => cx (V.str.inj q))]; rfl) (iteT (stop (fun b ds ps G e => cx ?_) _ s1))
      cases e
      exact head5 lBase
    refine iteFB (by rw [cx]; exact neSame rfl) ?_
    refine ⟨.ref l, rfl, l, _, 1, .str y, rfl, rfl, SqL.of e1, atI_nat (j := 1) rfl, 7, rfl, y, rfl, big ly, rfl, _, rfl, ?_⟩
    by_cases cy : cutS y none (some 7) = Str.ofString "digits "
    case neg =>
      refine iteTB (by rw [decide_eq_false (fun q => cy (V.str.inj q))]; rfl) ((stop (fun b ds ps G e => cy ?_) _ s1))
      cases e
      exact head7 lDigits
    refine iteFB (by rw [cy]; exact neSame rfl) ?_
    have gx := glue5 cx
    have gy := glue7 cy
    -- the base and the digits
    by_cases hb : ∃ b : Int, -6 ≤ b ∧ b ≤ 6 ∧ strI b = cutS x (some 5) none
    case neg =>
      have out : ∀ H', Same H H' → Q .non H' := stop fun b ds ps G e => by
        cases e
        have := G.b
        unfold isBase at this
        rw [Bool.or_eq_true, Bool.and_eq_true, Bool.and_eq_true, decide_eq_true_eq, decide_eq_true_eq, decide_eq_true_eq, decide_eq_true_eq] at this
        exact hb ⟨b, by omega, by omega, (tail5 lBase).symm⟩
      refine ⟨.ref l, rfl, l, _, 0, .str x, rfl, rfl, SqL.of e1, atI_nat (j := 0) rfl, 5, rfl, x, rfl, big lx, 6, rfl, _, -6, 6, rfl, by decide, by decide, by decide, (fun n n1 n2 e => absurd ⟨n, n1, n2, e⟩ hb), fun _ => ?_⟩
      refine ⟨.ref l, rfl, l, _, 1, .str y, rfl, rfl, SqL.of e1, atI_nat (j := 1) rfl, 7, rfl, y, rfl, big ly, (by show 6 ≤ sizeLine; decide), fun m hm => ?_⟩
      refine ⟨_, m, [1, 2, 3, 4, 5, 6], rfl, Nat.le_trans (cut_len _ _ _) ly, SqL.of upd_same, fun is hd hn hi ez p H2 s2 hp ep => ?_, fun hno H2 s2 => ?_⟩
      · exact ⟨(by show 0 ≤ sizeLine; decide), fun ls hls => ⟨(by show 3 ≤ sizeLine; decide), fun t ht => ⟨t, _, rfl, SqT.of upd_same, rfl, _, _, rfl, _, _, rfl, _, _, rfl, rfl, .non, rfl, rfl, _, rfl, iteTB (decide_eq_true rfl) (iteT (out _ ((((s1.trans (same_new hm)).trans s2).trans (same_new hls)).trans (same_new ht))))⟩⟩⟩
      · exact ⟨(by show 0 ≤ sizeLine; decide), fun ls hls => ⟨(by show 3 ≤ sizeLine; decide), fun t ht => ⟨t, _, rfl, SqT.of upd_same, rfl, _, _, rfl, _, _, rfl, _, _, rfl, rfl, .non, rfl, rfl, _, rfl, iteTB (decide_eq_true rfl) (iteT (out _ ((((s1.trans (same_new hm)).trans s2).trans (same_new hls)).trans (same_new ht))))⟩⟩⟩
    obtain ⟨b, b1, b2, eb⟩ := hb
    refine ⟨.ref l, rfl, l, _, 0, .str x, rfl, rfl, SqL.of e1, atI_nat (j := 0) rfl, 5, rfl, x, rfl, big lx, 6, rfl, _, -6, 6, rfl, by decide, by decide, by decide, (fun n n1 n2 e => ?_), fun hno => absurd eb (hno b b1 b2)⟩
    have en : n = b := strI_inj ⟨by omega, by omega⟩ ⟨by omega, by omega⟩ (e.trans eb.symm)
    subst en
    have hbb : isBase n = false ∨ isBase n = true := by cases isBase n <;> simp
    rcases hbb with hbb | hbb
    · have out : ∀ H', Same H H' → Q .non H' := stop fun b ds ps G e => by
        cases e
        have := G.b
        rw [tail5 lBase] at eb
        have e2 := strI_inj (base_dig G.b) ⟨by omega, by omega⟩ eb.symm
        rw [e2, hbb] at this
        cases this
      have small : (if n < 0 then -n else n) < 2 := by
        unfold isBase at hbb
        rw [Bool.or_eq_false_iff, Bool.and_eq_false_iff, Bool.and_eq_false_iff, decide_eq_false_iff_not, decide_eq_false_iff_not, decide_eq_false_iff_not, decide_eq_false_iff_not] at hbb
        split <;> omega
      refine ⟨.ref l, rfl, l, _, 1, .str y, rfl, rfl, SqL.of e1, atI_nat (j := 1) rfl, 7, rfl, y, rfl, big ly, (by show 6 ≤ sizeLine; decide), fun m hm => ?_⟩
      refine ⟨_, m, [1, 2, 3, 4, 5, 6], rfl, Nat.le_trans (cut_len _ _ _) ly, SqL.of upd_same, fun is hd hn hi ez p H2 s2 hp ep => ?_, fun hno H2 s2 => ?_⟩
      · exact ⟨(by show 0 ≤ sizeLine; decide), fun ls hls => ⟨(by show 3 ≤ sizeLine; decide), fun t ht => ⟨t, _, rfl, SqT.of upd_same, rfl, _, _, rfl, _, _, rfl, _, _, rfl, rfl, .int n, rfl, rfl, _, rfl, iteFB (decide_eq_false nofun) ⟨.int n, rfl, n, rfl, _, _, rfl, rfl, _, rfl, iteTB (decide_eq_true small) (iteT (out _ ((((s1.trans (same_new hm)).trans s2).trans (same_new hls)).trans (same_new ht))))⟩⟩⟩⟩
      · exact ⟨(by show 0 ≤ sizeLine; decide), fun ls hls => ⟨(by show 3 ≤ sizeLine; decide), fun t ht => ⟨t, _, rfl, SqT.of upd_same, rfl, _, _, rfl, _, _, rfl, _, _, rfl, rfl, .int n, rfl, rfl, _, rfl, iteFB (decide_eq_false nofun) ⟨.int n, rfl, n, rfl, _, _, rfl, rfl, _, rfl, iteTB (decide_eq_true small) (iteT (out _ ((((s1.trans (same_new hm)).trans s2).trans (same_new hls)).trans (same_new ht))))⟩⟩⟩⟩
    have great : ¬ (if n < 0 then -n else n) < 2 := by
      unfold isBase at hbb
      rw [Bool.or_eq_true, Bool.and_eq_true, Bool.and_eq_true, decide_eq_true_eq, decide_eq_true_eq, decide_eq_true_eq, decide_eq_true_eq] at hbb
      split <;> omega
    refine ⟨.ref l, rfl, l, _, 1, .str y, rfl, rfl, SqL.of e1, atI_nat (j := 1) rfl, 7, rfl, y, rfl, big ly, (by show 6 ≤ sizeLine; decide), fun m hm => ?_⟩
    refine ⟨_, m, [1, 2, 3, 4, 5, 6], rfl, Nat.le_trans (cut_len _ _ _) ly, SqL.of upd_same, fun ds hd hn hi ez dl H2 s2 hdl edl => ?_, fun hno H2 s2 => ?_⟩
    case refine_2 =>
      have out : ∀ H', Same H H' → Q .non H' := stop fun b ds ps G e => by
        cases e
        rw [tail7 lDigits] at hno
        refine hno ds G.dd G.ne ?_ rfl
        have h1 := G.one
        have h6 := G.six
        have : ds.length = 1 ∨ ds.length = 2 ∨ ds.length = 3 ∨ ds.length = 4 ∨ ds.length = 5 ∨ ds.length = 6 := by omega
        rcases this with h | h | h | h | h | h <;> rw [h] <;> decide
      exact ⟨(by show 0 ≤ sizeLine; decide), fun ls hls => ⟨(by show 3 ≤ sizeLine; decide), fun t ht => ⟨t, _, rfl, SqT.of upd_same, rfl, _, _, rfl, _, _, rfl, _, _, rfl, rfl, .int n, rfl, rfl, _, rfl, iteFB (decide_eq_false nofun) ⟨.int n, rfl, n, rfl, _, _, rfl, rfl, _, rfl, iteFB (decide_eq_false great) ⟨.non, rfl, rfl, _, rfl, iteTB (decide_eq_true rfl) (out _ ((((s1.trans (same_new hm)).trans s2).trans (same_new hls)).trans (same_new ht)))⟩⟩⟩⟩⟩
    have hl6 : 1 ≤ ds.length ∧ ds.length ≤ 6 := by
      simp only [List.mem_cons, List.not_mem_nil, or_false] at hi
      omega
    have gyd : y = Str.ofString "digits " ++ rowS ds := by rw [← ez]; exact gy
    have gxb : x = Str.ofString "base " ++ strI n := by rw [eb]; exact gx
    refine ⟨(by show 0 ≤ sizeLine; decide), fun ls hls => ⟨(by show 3 ≤ sizeLine; decide), fun t ht => ⟨t, _, rfl, SqT.of upd_same, rfl, _, _, rfl, _, _, rfl, _, _, rfl, rfl, .int n, rfl, rfl, _, rfl, iteFB (decide_eq_false nofun) ⟨.int n, rfl, n, rfl, _, _, rfl, rfl, _, rfl, iteFB (decide_eq_false great) ⟨.ref dl, rfl, rfl, _, rfl, iteFB (decide_eq_false nofun) ?_⟩⟩⟩⟩⟩
    have s5 : Same H1 (upd (upd H2 ls (.lst [])) t (.tup [.int n, .ref dl, .ref ls])) := (((same_new hm).trans s2).trans (same_new hls)).trans (same_new ht)
    have e5 : (upd (upd H2 ls (.lst [])) t (.tup [.int n, .ref dl, .ref ls])) dl = some (.lst (ds.map V.int)) := same_new ht _ _ (same_new hls _ _ edl)
    have els : (upd (upd H2 ls (.lst [])) t (.tup [.int n, .ref dl, .ref ls])) ls = some (.lst []) := same_new ht _ _ upd_same
    generalize upd (upd H2 ls (.lst [])) t (.tup [.int n, .ref dl, .ref ls]) = H5 at s5 e5 els ⊢
    have el5 := s5 _ _ e1
    have sA := s1.trans s5
    refine ⟨.ref l, rfl, l, _, rfl, .inl (SqL.of el5), rfl, _, rfl, ?_⟩
    rw [List.length_map]
    have e5' : more = [] ∨ ∃ p, more = [p] := by
      match more, lm with
      | [], _ => exact .inl rfl
      | [p], _ => exact .inr ⟨p, rfl⟩
    have same : ∀ b2 ds2 ps2, Good b2 ds2 ps2 → x :: y :: more = (Str.ofString "base " ++ strI b2) :: (Str.ofString "digits " ++ rowS ds2) :: moreS ps2 → b2 = n ∧ ds = ds2 ∧ more = moreS ps2 := fun b2 ds2 ps2 G e => by
      rw [List.cons.injEq, List.cons.injEq] at e
      obtain ⟨a1, a2, a3⟩ := e
      rw [gxb] at a1
      rw [gyd] at a2
      exact ⟨(strI_inj ⟨by omega, by omega⟩ (base_dig G.b) (app_inj a1)).symm, rowS_inj hd G.dd hn G.ne (app_inj a2), a3⟩
    rcases e5' with rfl | ⟨p, rfl⟩
    · refine iteFB rfl ?_
      refine hq _ _ ⟨z, n, ds, _, _, _, _, _, _, dl, ls, [], rfl, sA, e5, els, (fun q hq => by cases hq), hl6.2, Nat.zero_le _, fun a1 _ p td tp k2 H' s' q1 q2 q3 q4 q5 => ?_, fun no => ?_⟩
      · have G : Good n ds [] := good_of2 hbb hd hl6.1 hl6.2 (fun p hp => by cases hp) a1 .nil
        exact yes n ds [] G (G.of_split (by rw [hxs, gxb, gyd]; rfl)) p td tp k2 H' s' q1 q2 q3 q4 q5
      · refine stop fun b2 ds2 ps2 G e => no ⟨?_, .nil⟩
        obtain ⟨_, e2, _⟩ := same b2 ds2 ps2 G e
        rw [e2]
        exact G.asc
    refine iteTB rfl ?_
    have lp := lens p (List.mem_cons_of_mem _ (List.mem_cons_of_mem _ List.mem_cons_self))
    refine ⟨.ref l, rfl, l, _, 2, .str p, rfl, rfl, SqL.of el5, atI_nat (j := 2) rfl, 5, rfl, p, rfl, big lp, rfl, _, rfl, ?_⟩
    by_cases cp : cutS p none (some 5) = Str.ofString "bars "
    case neg =>
      refine iteTB (by rw [decide_eq_false (fun q => cp (V.str.inj q))]; rfl) (stop (fun b ds ps G e => cp ?_) _ sA)
      obtain ⟨_, _, e3⟩ := same _ _ _ G e
      unfold moreS at e3
      split at e3
      · cases e3
      · cases e3
        exact head5 lBars
    refine iteFB (by rw [cp]; exact neSame rfl) ?_
    have gp := glue5 cp
    have lq := cut_len p (some 5) none
    refine ⟨.ref l, rfl, l, _, 2, .str p, rfl, rfl, SqL.of el5, atI_nat (j := 2) rfl, 5, rfl, p, rfl, big lp, ⟨_, rfl⟩, _, Str.ofString ", ", rfl, rfl, by decide +kernel, (by rw [sizeLine_eq]; omega), fun lw hlw => ?_⟩
    have hw1 : (Txt.split (cutS p (some 5) none) (Str.ofString ", ")).length ≤ 2000 := by
      have := PyProof.Rows.split_le (cutS p (some 5) none) (Str.ofString ", ")
      omega
    have hw2 : ∀ u ∈ Txt.split (cutS p (some 5) none) (Str.ofString ", "), u.length ≤ 1000 := fun u hu => by
      have j := StrLaws.join_split (cutS p (some 5) none) (Str.ofString ", ")
      have h1 := (in_join (S := TL.tl (Str.ofString ", ")) (ps := (Txt.split (cutS p (some 5) none) (Str.ofString ", ")).map TL.tl) (List.mem_map.mpr ⟨u, hu, rfl⟩)).1
      rw [← TL.tl_join, j, ← TL.len_tl, ← TL.len_tl] at h1
      omega
    have hw3 : Txt.split (cutS p (some 5) none) (Str.ofString ", ") ≠ [] := fun e => by
      have j := StrLaws.join_split (cutS p (some 5) none) (Str.ofString ", ")
      rw [e] at j
      have e0 : cutS p (some 5) none = Str.empty := j.symm
      rw [e0] at e
      exact absurd e (by decide +kernel)
    -- a text of a scheme has just these words
    have words : ∀ b2 ds2 ps2, Good b2 ds2 ps2 → x :: y :: [p] = (Str.ofString "base " ++ strI b2) :: (Str.ofString "digits " ++ rowS ds2) :: moreS ps2 → ps2 ≠ [] ∧ Txt.split (cutS p (some 5) none) (Str.ofString ", ") = ps2.map wordS := fun b2 ds2 ps2 G e => by
      obtain ⟨_, _, e3⟩ := same _ _ _ G e
      unfold moreS at e3
      split at e3
      · cases e3
      · rename_i hn2
        cases e3
        rw [tail5 lBars]
        exact ⟨hn2, split_words (fun q hq => G.dp hq) hn2⟩
    have back : ∀ ps : List (Int × Int), Txt.split (cutS p (some 5) none) (Str.ofString ", ") = ps.map wordS → [p] = moreS ps := fun ps e => by
      have j := StrLaws.join_split (cutS p (some 5) none) (Str.ofString ", ")
      rw [e] at j
      have hn2 : ps ≠ [] := fun z => hw3 (by rw [e, z]; rfl)
      unfold moreS
      rw [if_neg hn2, TL.join_eq, j, ← gp]
    generalize Txt.split (cutS p (some 5) none) (Str.ofString ", ") = ws at hw1 hw2 hw3 words back ⊢
    have s6 : Same H5 (upd H5 lw (.lst (ws.map V.str))) := same_new hlw
    have ew6 : (upd H5 lw (.lst (ws.map V.str))) lw = some (.lst (ws.map V.str)) := upd_same
    have ed6 := s6 _ _ e5
    generalize upd H5 lw (.lst (ws.map V.str)) = H6 at s6 ew6 ed6 ⊢
    have sB := sA.trans s6
    refine ⟨lw, rfl, ⟨_, SqL.of ew6⟩, fun D hD => ?_⟩
    refine lc_list (K := K) (a := lw) (xs := ws.map V.str) (fun i H' => Same H6 H' ∧ ∃ os : List Slot, H' D = some (.lst (os.map slotV)) ∧ Slots H' (ws.take i) os) ⟨same_new hD, [], upd_same, by rw [List.take_zero]; exact Slots.nil _⟩ (fun i H' _ h => SqL.of (h.1 _ _ ew6)) ?_ ?_
    · rintro i v H7 hi ⟨s7, os, e7, S7⟩
      obtain ⟨u, hu, rfl⟩ := get_map hi
      have mu := List.mem_of_getElem? hu
      have room : (os.map slotV).length < sizeLine := by
        have h1 := S7.len
        rw [List.length_take] at h1
        rw [List.length_map, sizeLine_eq]
        omega
      refine ⟨rfl, tYes_if ⟨.str u, rfl, (by show 1 ≤ sizeLine; decide), fun m2 hm2 => ?_⟩⟩
      refine ⟨u, m2, [2], rfl, hw2 u mu, SqL.of upd_same, fun is hdi hni hii eu pp H8 s8 hpp epp => ?_, fun hno H8 s8 => ?_⟩
      · have e78 := s8 _ _ (same_new hm2 _ _ e7)
        obtain ⟨a1, a2, rfl⟩ : ∃ a1 a2, is = [a1, a2] := by
          have h2 : is.length = 2 := by
            have := List.mem_singleton.mp hii
            omega
          match is, h2 with
          | [a1, a2], _ => exact ⟨a1, a2, rfl⟩
        have nD : pp ≠ D := fun z => by
          rw [z, same_new (o := .lst [.int 2]) hm2 _ _ e7] at hpp
          cases hpp
        refine ⟨_, e78, room, Same.store (s7.trans ((same_new hm2).trans s8)) hD, os ++ [some (pp, (a1, a2))], ?_, ?_⟩
        · rw [upd_same, List.map_append]
          rfl
        · rw [take_more hu]
          refine S7.snoc (fun o ho q hq e => ?_) (fun q hq => ?_) nofun
          · have nq : q.1 ≠ D := fun z => by
              rw [z, e7] at e
              exact slot_not (HO.lst.inj (Option.some.inj e))
            rw [upd_ne nq]
            exact s8 _ _ (same_new hm2 _ _ e)
          · cases hq
            exact ⟨by rw [upd_ne nD]; exact epp, hdi, by rw [eu]; exact row_word (a1, a2)⟩
      · have e78 := s8 _ _ (same_new hm2 _ _ e7)
        refine ⟨_, e78, room, Same.store (s7.trans ((same_new hm2).trans s8)) hD, os ++ [none], ?_, ?_⟩
        · rw [upd_same, List.map_append]
          rfl
        · rw [take_more hu]
          refine S7.snoc (fun o ho q hq e => ?_) (fun q hq => nomatch hq) fun _ q dq => ?_
          · have nq : q.1 ≠ D := fun z => by
              rw [z, e7] at e
              exact slot_not (HO.lst.inj (Option.some.inj e))
            rw [upd_ne nq]
            exact s8 _ _ (same_new hm2 _ _ e)
          · rw [← row_word]
            exact hno [q.1, q.2] dq (List.cons_ne_nil _ _) (List.mem_singleton.mpr rfl)
    · rintro H7 ⟨s7, os, e7, S7⟩
      rw [List.length_map, List.take_length] at S7
      have sC := sB.trans s7
      have at7 : ∀ o ∈ os, ∀ q, o = some q → H7 q.1 = some (.lst [.int q.2.1, .int q.2.2]) := fun o ho q hq => by
        obtain ⟨j, hj, e⟩ := List.mem_iff_getElem.mp ho
        have hj2 : j < ws.length := by rw [← S7.len]; exact hj
        exact ((S7.at_ j ws[j] o (List.getElem?_eq_getElem hj2) (by rw [List.getElem?_eq_getElem hj, e])).1 q hq).1
      refine ⟨.ref D, rfl, .none, os.map slotD, .non, .lst (SqL.of e7) (slots_dp os at7), shaped_of (by simp only [PyData.canLay0]) (by simp only [PyData.depth]; omega), slots_shaped os, _, rfl, ?_⟩
      rw [slots_any]
      by_cases hno : none ∈ os
      · refine iteTB (decide_eq_true hno) (stop (fun b2 ds2 ps2 G e => ?_) _ sC)
        obtain ⟨u, hu, hb⟩ := S7.bad hno
        obtain ⟨_, ew⟩ := words b2 ds2 ps2 G e
        rw [ew] at hu
        obtain ⟨q, hq, rfl⟩ := List.mem_map.mp hu
        exact hb q (G.dp hq) rfl
      refine iteFB (decide_eq_false hno) ?_
      obtain ⟨ks, rfl, ews, tks⟩ := S7.all hno
      rw [List.map_map] at e7
      have lks : ks.length ≤ 2000 := by
        have := congrArg List.length ews
        rw [List.length_map, List.length_map] at this
        omega
      have hks : ks.map (·.2) ≠ [] := fun z => hw3 (by rw [ews, z]; rfl)
      have ed7 := s7 _ _ ed6
      refine ⟨.ref D, rfl, D, rfl, ⟨_, SqL.of e7⟩, fun D2 hD2 => ?_⟩
      refine lc_list (K := K) (a := D) (xs := ks.map (slotV ∘ some)) (fun i H' => Same H7 H' ∧ H' D2 = some (.lst (((ks.take i).filter fun q => !(decide (q.2.1 ∈ ds) && decide (q.2.2 ∈ ds))).map fun q => V.ref q.1))) ⟨same_new hD2, upd_same⟩ (fun i H' _ h => SqL.of (h.1 _ _ e7)) ?_ ?_
      · rintro i v H8 hi ⟨s8, e8⟩
        obtain ⟨q, hq, rfl⟩ := get_map hi
        obtain ⟨tq, dq⟩ := tks q (List.mem_of_getElem? hq)
        have room : (((ks.take i).filter fun q => !(decide (q.2.1 ∈ ds) && decide (q.2.2 ∈ ds))).map fun q => V.ref q.1).length < sizeLine := by
          rw [List.length_map]
          refine Nat.lt_of_le_of_lt (List.length_filter_le _ _) (Nat.lt_of_le_of_lt (List.length_take_le' _ _) ?_)
          rw [sizeLine_eq]
          omega
        have grow : (fun q : Addr × (Int × Int) => !(decide (q.2.1 ∈ ds) && decide (q.2.2 ∈ ds))) q = true → Same H7 (upd H8 D2 (.lst ((((ks.take i).filter fun q => !(decide (q.2.1 ∈ ds) && decide (q.2.2 ∈ ds))).map fun q => V.ref q.1) ++ [.ref q.1]))) ∧ (upd H8 D2 (.lst ((((ks.take i).filter fun q => !(decide (q.2.1 ∈ ds) && decide (q.2.2 ∈ ds))).map fun q => V.ref q.1) ++ [.ref q.1]))) D2 = some (.lst (((ks.take (i + 1)).filter fun q => !(decide (q.2.1 ∈ ds) && decide (q.2.2 ∈ ds))).map fun q => V.ref q.1)) := fun h => by
          refine ⟨Same.store s8 hD2, ?_⟩
          rw [upd_same, take_more hq, List.filter_append, List.map_append, List.filter_cons, if_pos h]
          rfl
        refine ⟨rfl, .ref q.1, rfl, q.1, _, 0, .int q.2.1, rfl, rfl, SqL.of (s8 _ _ tq), atI_nat (j := 0) rfl, .ref dl, rfl, dl, ds.map V.int, rfl, .inl (SqL.of (s8 _ _ ed7)), rfl, ints_flat ds, _, rfl, ?_⟩
        show if (!inV (.int q.2.1) (ds.map V.int)) = true then _ else _
        rw [int_in]
        by_cases h1 : q.2.1 ∈ ds
        · refine iteFB (by rw [decide_eq_true h1]; rfl) ?_
          refine ⟨.ref q.1, rfl, q.1, _, 1, .int q.2.2, rfl, rfl, SqL.of (s8 _ _ tq), atI_nat (j := 1) rfl, .ref dl, rfl, dl, ds.map V.int, rfl, .inl (SqL.of (s8 _ _ ed7)), rfl, ints_flat ds, _, rfl, ?_⟩
          show if (!inV (.int q.2.2) (ds.map V.int)) = true then _ else _
          rw [int_in]
          by_cases h2 : q.2.2 ∈ ds
          · refine iteFB (by rw [decide_eq_true h2]; rfl) ⟨s8, ?_⟩
            rw [e8, take_more hq, List.filter_append, List.filter_cons, if_neg (by show ¬ (!(decide (q.2.1 ∈ ds) && decide (q.2.2 ∈ ds))) = true; rw [decide_eq_true h1, decide_eq_true h2]; exact Bool.false_ne_true), List.filter_nil, List.append_nil]
          · exact iteTB (by rw [decide_eq_false h2]; rfl) ⟨.ref q.1, rfl, _, e8, room, grow (by show (!(decide (q.2.1 ∈ ds) && decide (q.2.2 ∈ ds))) = true; rw [decide_eq_false h2, Bool.and_false]; rfl)⟩
        · exact iteTB (by rw [decide_eq_false h1]; rfl) (iteT ⟨.ref q.1, rfl, _, e8, room, grow (by show (!(decide (q.2.1 ∈ ds) && decide (q.2.2 ∈ ds))) = true; rw [decide_eq_false h1, Bool.false_and]; rfl)⟩)
      · rintro H8 ⟨s8, e8⟩
        rw [List.length_map, List.take_length] at e8
        refine ⟨.ref D2, rfl, (by show 0 ≤ sizeLine; decide), fun nl hnl => ?_⟩
        have s9 := same_new (o := .lst []) hnl
        refine ⟨D2, nl, _, rfl, rfl, SqL.of (s9 _ _ e8), SqL.of upd_same, _, rfl, ?_⟩
        have sD := sC.trans (s8.trans s9)
        by_cases hin : ∀ q ∈ ks, q.2.1 ∈ ds ∧ q.2.2 ∈ ds
        · have fe : (ks.filter fun q => !(decide (q.2.1 ∈ ds) && decide (q.2.2 ∈ ds))) = [] := List.filter_eq_nil_iff.mpr fun q hq => by
            rw [decide_eq_true (hin q hq).1, decide_eq_true (hin q hq).2]
            exact Bool.false_ne_true
          refine iteFB (by rw [fe]; rfl) ?_
          have hps : ∀ q ∈ ks.map (·.2), q.1 ∈ ds ∧ q.2 ∈ ds := fun q hq => by
            obtain ⟨r, hr, rfl⟩ := List.mem_map.mp hq
            exact hin r hr
          refine hq _ _ ⟨z, n, ds, _, _, _, _, _, _, dl, D, ks, rfl, sD, s9 _ _ (s8 _ _ ed7), s9 _ _ (s8 _ _ e7), (fun q hq => s9 _ _ (s8 _ _ (tks q hq).1)), hl6.2, lks, fun a1 a2 p1 td tp k2 H' s' q1 q2 q3 q4 q5 => ?_, fun no => ?_⟩
          · have G : Good n ds (ks.map (·.2)) := good_of2 hbb hd hl6.1 hl6.2 hps a1 a2
            exact yes n ds _ G (G.of_split (by rw [hxs, gxb, gyd, ← back _ ews])) p1 td tp k2 H' s' q1 q2 q3 q4 q5
          · refine stop fun b2 ds2 ps2 G e => no ?_
            obtain ⟨_, e2, _⟩ := same b2 ds2 ps2 G e
            obtain ⟨_, ew⟩ := words b2 ds2 ps2 G e
            have ep : ks.map (·.2) = ps2 := words_inj (fun q hq => by
              obtain ⟨r, hr, rfl⟩ := List.mem_map.mp hq
              exact (tks r hr).2) (fun q hq => G.dp hq) (ews.symm.trans ew)
            rw [e2, ep]
            exact ⟨G.asc, G.lex⟩
        · have fe : (ks.filter fun q => !(decide (q.2.1 ∈ ds) && decide (q.2.2 ∈ ds))) ≠ [] := fun h => hin fun q hq => by
            have := List.filter_eq_nil_iff.mp h q hq
            simpa using this
          refine iteTB (by cases hq2 : (ks.filter fun q => !(decide (q.2.1 ∈ ds) && decide (q.2.2 ∈ ds))) with | nil => exact absurd hq2 fe | cons q l => rfl) (stop (fun b2 ds2 ps2 G e => hin ?_) _ sD)
          obtain ⟨_, e2, _⟩ := same b2 ds2 ps2 G e
          obtain ⟨_, ew⟩ := words b2 ds2 ps2 G e
          have ep : ks.map (·.2) = ps2 := words_inj (fun q hq => by
            obtain ⟨r, hr, rfl⟩ := List.mem_map.mp hq
            exact (tks r hr).2) (fun q hq => G.dp hq) (ews.symm.trans ew)
          intro q hq
          rw [e2]
          exact G.mem q.2 (by rw [← ep]; exact List.mem_map.mpr ⟨q, hq, rfl⟩)
end
end K08
namespace K08
open PySem PySem.Spec PyProof.Rows L2 OF TL
section
variable {P : Program} {w : World} {K : PySem.W.Frag} {mg : Str → Option Value} {base : Heap}
/-! ### what Scheme.read tells -/
def spTold (C : Addr) : Sp := fun vs H Q _ => ∃ x : V, vs = [x] ∧
  ((∃ z : Str, x = .str z ∧ Fine z ∧ (∀ b ds ps, Good b ds ps → strS b ds ps = z → ∀ (l t r : Addr) (ks : List (Addr × (Int × Int))) H', Same H H' → H' l = some (.lst [.int b, .ref t, .ref r]) → H' t = some (.tup (ds.map V.int)) → H' r = some (.tup (ks.map fun q => V.ref q.1)) → ks.map (·.2) = ps → (∀ q ∈ ks, H' q.1 = some (.tup [.int q.2.1, .int q.2.2])) → Q (.ref l) H') ∧
      ((∀ b ds ps, Good b ds ps → strS b ds ps ≠ z) → ∀ l H', Same H H' → H' l = some (.lst [.str "text", .str z]) → Q (.ref l) H')) ∨
    (NoStr H x ∧ ∀ l H', Same H H' → H' l = some (.lst [.str "text", x]) → Q (.ref l) H'))
theorem scTo : FnScope ["_law_wording", "_law_made_here", "e"] ["_law_wording"] (defScope sTold) := ⟨rfl, rfl, rfl, by decide +kernel, rfl, by decide +kernel, by decide +kernel⟩
def t_told (C CT : Addr) (W : WX) : TS := tAsg (tCMethS C (spSRead C CT) (WE W) (tC (.ref C)) (tCons (tVar 0) tNil)) (gName 1)
def t_toldS (CT : Addr) : Addr → Value → Option Addr → TS := fun a cls d => tRet (tLst (tCons (tC (.str "text")) (tCons (tXf a cls d CT "text" (tVar 2)) tNil)))
theorem ok_told {f fR fI C CT p pB pD pR gB gD gR : Addr} {mc : Value} {fd fdR fdB fdD fdP : FuncData} (F : Fun K "_law_told" "_law_told" sTold f fd) (c : Cls K C) (gC : mg "Scheme" = some (.ref C)) (rd : ClX.CRead K C mc) (cm : ClX.CMet K C mc "read" p fR) (GR : FnOk P w K mg base (L2.CX P w) 9 fR fdR ["cls", "text"] (spSRead C CT)) (bR : Binds K fdR ["cls", "text"] [])
    (qB : PropOf K C "base" pB gB) (GB : FnOk P w K mg base CX0 1 gB fdB ["self"] (spPB C)) (bB : Binds K fdB ["self"] []) (qD : PropOf K C "digits" pD gD) (GD : FnOk P w K mg base CX0 1 gD fdD ["self"] (spPD C)) (bD : Binds K fdD ["self"] []) (qR : PropOf K C "bars" pR gR) (GP : FnOk P w K mg base CX0 1 gR fdP ["self"] (spPR C)) (bP : Binds K fdP ["self"] [])
    (T : ErrC K mg "InvalidText" "text" CT fI) : FnOk P w K mg base CX0 10 f fd ["_law_wording"] (spTold C) := by
  refine F.ok scTo (fun vs H Q E h => ?_) (fun cdv A outer s H vs Q E hr h => ⟨tSeq (fun D σ H => t_told C CT (wAs K (.ref CT) 2 (t_toldS CT) (fun _ _ _ _ => False) D) D σ H) (tRet (tLst (tCons (tProp C (spPB C) [] E0 (tVar 1)) (tCons (tProp C (spPD C) [] E0 (tVar 1)) (tCons (tProp C (spPR C) [] E0 (tVar 1)) tNil))))), ?_, ?_⟩)
  · obtain ⟨x, rfl, _⟩ := h
    rfl
  · have hr2 : Room 2 _ := hr.mono (by decide)
    exact pss_cons (ps_try_as (i := 2) (tb := t_told C CT) (ts := t_toldS CT) (Wout := fun _ _ _ _ => False) rfl rfl scTo.nd rfl rfl ⟨rfl, by decide, Or.inl T.g⟩ takes0
      (fun W pn xe tk _ => pss_one (ps_set (i := 1) scTo.nd rfl (.inl rfl) (by exact (pe_cmethS (E := WE W) (pe_glob (v := .ref C) rfl gC rfl) rd cm GR hr bR (fun σ => passAt tk σ) (by exact (pa_cons (pv 0) pa_nil))))))
      (fun a oe cls d pn hz hf => pss_one (ps_ret (by exact (pe_lst (pa_cons pe_str (pa_cons (pe_xf T.xf T.no hz hf (pv 2)) pa_nil)))))))
      (pss_one (ps_ret (pe_lst (pa_cons (pe_prop (pv 1) c qB GB hr2 bB .nil pass0 (by rfl)) (pa_cons (pe_prop (pv 1) c qD GD hr2 bD .nil pass0 (by rfl)) (pa_cons (pe_prop (pv 1) c qR GP hr2 bP .nil pass0 (by rfl)) pa_nil))))))
  · obtain ⟨x, rfl, h⟩ := h
    have suite : ∀ {D : Ends} (v : V), D.rt = Q → (∀ l H', Same H H' → H' l = some (.lst [.str "text", v]) → Q (.ref l) H') → Raised CT "text" v H
        (WE (wAs K (.ref CT) 2 (t_toldS CT) (fun _ _ _ _ => False) D) (start ["_law_wording", "_law_made_here", "e"] [x])) := fun {D} v hD hq fs d H' hd s1 ed =>
      ⟨true, T.te, fun _ a ha => ⟨.ref a, rfl, rfl, rfl, d, _, v, rfl, ed, by simp [List.lookup], (by show 2 ≤ sizeLine; decide), fun l hl => by rw [hD]; exact hq l _ (Same.store s1 (s1.free hl)) upd_same⟩, fun q => nomatch q⟩
    rcases h with ⟨z, rfl, fz, yes, no⟩ | ⟨o, hE⟩
    · refine ⟨rfl, .str z, rfl, .str z, rfl, .inl ⟨z, rfl, fz, fun b ds ps G e o H1 s1 S => ?_, fun h => suite _ rfl (no h)⟩⟩
      have S' := S
      obtain ⟨_, t, r, ks, ek, S2⟩ := S'
      obtain ⟨⟨dx, ha⟩, ht, hb, hp⟩ := id S2
      refine ⟨.ref o, rfl, o, dx, _, rfl, ha, o, t, r, b, ds, ks, rfl, S2, ?_⟩
      refine ⟨.ref o, rfl, o, dx, _, rfl, ha, o, t, r, b, ds, ks, rfl, S2, ?_⟩
      refine ⟨.ref o, rfl, o, dx, _, rfl, ha, o, t, r, b, ds, ks, rfl, S2, ?_⟩
      refine ⟨(by show 3 ≤ sizeLine; decide), fun l hl => ?_⟩
      have s2 := same_new (o := .lst [.int b, .ref t, .ref r]) hl
      exact yes b ds ps G e l t r ks _ (s1.trans s2) upd_same (s2 _ _ ht) (s2 _ _ hb) ek fun q hq => s2 _ _ (hp q hq)
    · exact ⟨rfl, x, rfl, x, rfl, .inr ⟨o, suite _ rfl hE⟩⟩
end
end K08
namespace K08
open PySem PySem.Spec PyProof.Rows L2 OF TL
section
variable {P : Program} {w : World} {K : PySem.W.Frag} {mg : Str → Option Value} {base : Heap}
/-! ### a text spoilt -/
theorem Fine.of {z : Str} (h : TOk 317 z) : Fine z := ⟨h.mono (by decide), fun p hp => (h.parts p hp).len⟩
theorem fine_join {qs : List Str} (hn : qs ≠ []) (h : ∀ p ∈ qs, (59 : Nat) ∉ tl p ∧ TOk 317 p) (t : TOk 1000 (Txt.join (Str.ofString "; ") qs)) : Fine (Txt.join (Str.ofString "; ") qs) :=
  ⟨t, fun p hp => by
    rw [split_parts hn fun p hp => (h p hp).1] at hp
    exact (h p hp).2.len⟩
theorem two_len {z : Str} {a b : Int} (h0 : 0 ≤ a) (hab : a ≤ b) : (tl (cutS z none (some a))).length + (tl (cutS z (some b) none)).length ≤ z.length := by
  obtain ⟨k, rfl⟩ := Int.eq_ofNat_of_zero_le h0
  obtain ⟨j, rfl⟩ := Int.eq_ofNat_of_zero_le (Int.le_trans h0 hab)
  rw [tl_cut, tl_cut, HT.sIx_none, HT.sIx_none, HT.sIx_nat, HT.sIx_nat, List.drop_zero, Nat.sub_zero, List.length_take, List.length_take, List.length_drop, ← len_tl]
  have : k ≤ j := by omega
  omega
theorem tok_two {n m : Nat} {z s : Str} (h : TOk n z) (hs : TOk m s) {a b : Int} (h0 : 0 ≤ a) (hab : a ≤ b) : TOk (n + m) (cutS z none (some a) ++ s ++ cutS z (some b) none) := by
  have h1 := two_len (z := z) h0 hab
  have h2 := h.len
  have h3 := hs.1
  refine ⟨?_, (((h.cut none (some a)).app hs).app (h.cut (some b) none)).2⟩
  rw [tl_append, tl_append, List.length_append, List.length_append]
  omega
theorem tok_two0 {n : Nat} {z : Str} (h : TOk n z) {a b : Int} (h0 : 0 ≤ a) (hab : a ≤ b) : TOk n (cutS z none (some a) ++ cutS z (some b) none) := by
  have h1 := two_len (z := z) h0 hab
  have h2 := h.len
  refine ⟨?_, ((h.cut none (some a)).app (h.cut (some b) none)).2⟩
  rw [tl_append, List.length_append]
  omega
theorem join_snoc (S : List Nat) (q : List Nat) : ∀ ps : List (List Nat), (joinL S (ps ++ [q])).length ≤ (joinL S ps).length + S.length + q.length
  | [] => by
    show q.length ≤ 0 + S.length + q.length
    omega
  | [p] => by
    show (p ++ (S ++ q)).length ≤ p.length + S.length + q.length
    rw [List.length_append, List.length_append]
    omega
  | p :: r :: ps => by
    have ih := join_snoc S q (r :: ps)
    rw [show joinL S (p :: r :: ps ++ [q]) = p ++ (S ++ joinL S (r :: ps ++ [q])) from rfl, show joinL S (p :: r :: ps) = p ++ (S ++ joinL S (r :: ps)) from rfl]
    simp only [List.length_append] at ih ⊢
    omega
theorem tok_snoc {n m k : Nat} {y q : Str} {ps : List Str} (h : TOk n (Txt.join y ps)) (hy : TOk m y) (hq : TOk k q) : TOk (n + m + k) (Txt.join y (ps ++ [q])) := by
  have h1 := h
  unfold TOk at h1 ⊢
  rw [TL.join_eq, tl_join] at h1 ⊢
  rw [List.map_append]
  have h2 := join_snoc (tl y) (tl q) (ps.map tl)
  refine ⟨Nat.le_trans h2 (Nat.add_le_add (Nat.add_le_add h1.1 hy.1) hq.1), ?_⟩
  refine (join_in (S := tl y) (P := fun c => c < 1114112) hy.2 (n := n + k) fun p hp => ?_).2
  rcases List.mem_append.mp hp with hp | hp
  · obtain ⟨a, b⟩ := in_join (S := tl y) hp
    exact ⟨by have := h1.1; omega, fun c hc => h1.2 c (b c hc)⟩
  · cases List.mem_singleton.mp hp
    exact ⟨by have := hq.1; omega, hq.2⟩
theorem semi_ok : TOk 2 (Str.ofString "; ") := by decide +kernel
theorem semiB_ok : TOk 7 (Str.ofString "; bars ") := by decide +kernel
theorem pickS {P : Str → Prop} {ss : List Str} (h : ∀ s ∈ ss, P s) {r : Int} (h0 : 0 ≤ r) (h1 : r < ss.length) : ∃ y, atI (ss.map V.str) r = some (.str y) ∧ P y := by
  obtain ⟨v, hv, mv⟩ := pick (xs := ss.map V.str) h0 (by rw [List.length_map]; exact h1)
  obtain ⟨y, hy, rfl⟩ := List.mem_map.mp mv
  exact ⟨y, hv, h y hy⟩
/-- the parts of a scheme's text: two or three, without the sign that parts them -/
structure Parts (z : Str) (l : List Str) : Prop where
  two : (∃ x y, l = [x, y]) ∨ ∃ x y u, l = [x, y, u]
  no : ∀ p ∈ l, (59 : Nat) ∉ tl p ∧ TOk 293 p
  jo : Txt.join (Str.ofString "; ") l = z
theorem Good.parts {b : Int} {ds : List Int} {ps : List (Int × Int)} (G : Good b ds ps) : Parts (strS b ds ps) (Txt.split (strS b ds ps) (Str.ofString "; ")) := by
  have t : TOk 293 (strS b ds ps) := by
    rw [G.text]
    exact G.fit.tAll
  refine ⟨?_, fun p hp => ⟨?_, t.parts p hp⟩, by rw [TL.join_eq]; exact StrLaws.join_split _ _⟩
  · rw [G.split]
    unfold moreS
    split
    · exact .inl ⟨_, _, rfl⟩
    · exact .inr ⟨_, _, _, rfl⟩
  · rw [split_text G] at hp
    exact nc_parts G p hp
theorem Parts.len {z : Str} {l : List Str} (h : Parts z l) : 2 ≤ l.length ∧ l.length ≤ 3 := by
  rcases h.two with ⟨x, y, rfl⟩ | ⟨x, y, u, rfl⟩ <;> exact ⟨by simp, by simp⟩
theorem Parts.head {z : Str} {l : List Str} (h : Parts z l) : ∃ qs : List Str, cutV (l.map V.str) none (some 2) = qs.map V.str ∧ qs.length = 2 ∧ ∀ q ∈ qs, q ∈ l := by
  rcases h.two with ⟨x, y, rfl⟩ | ⟨x, y, u, rfl⟩
  · exact ⟨[x, y], rfl, rfl, fun q h => h⟩
  · exact ⟨[x, y], rfl, rfl, fun q h => by
      rcases List.mem_cons.mp h with rfl | h
      · exact List.mem_cons_self
      · exact List.mem_cons_of_mem _ (by cases List.mem_singleton.mp h; exact List.mem_cons_self)⟩
theorem Parts.last {z : Str} {l : List Str} (h : Parts z l) : ∃ q, cutV (l.map V.str) (some (-1)) none = [V.str q] ∧ q ∈ l := by
  rcases h.two with ⟨x, y, rfl⟩ | ⟨x, y, u, rfl⟩
  · exact ⟨y, rfl, by simp⟩
  · exact ⟨u, rfl, by simp⟩
theorem strs_of {l : List Str} : ∀ {ys : List V}, (∀ y ∈ ys, y ∈ l.map V.str) → ∃ qs : List Str, ys = qs.map V.str ∧ ∀ q ∈ qs, q ∈ l
  | [], _ => ⟨[], rfl, fun q h => by cases h⟩
  | y :: ys, h => by
    obtain ⟨q, hq, e⟩ := List.mem_map.mp (h y List.mem_cons_self)
    obtain ⟨qs, e2, h2⟩ := strs_of (ys := ys) fun y hy => h y (List.mem_cons_of_mem _ hy)
    refine ⟨q :: qs, by rw [← e, e2]; rfl, fun r hr => ?_⟩
    rcases List.mem_cons.mp hr with rfl | hr
    · exact hq
    · exact h2 r hr
theorem ints_of {l : List Int} : ∀ {ys : List V}, (∀ y ∈ ys, y ∈ l.map V.int) → ∃ qs : List Int, ys = qs.map V.int ∧ ∀ q ∈ qs, q ∈ l
  | [], _ => ⟨[], rfl, fun q h => by cases h⟩
  | y :: ys, h => by
    obtain ⟨q, hq, e⟩ := List.mem_map.mp (h y List.mem_cons_self)
    obtain ⟨qs, e2, h2⟩ := ints_of (ys := ys) fun y hy => h y (List.mem_cons_of_mem _ hy)
    refine ⟨q :: qs, by rw [← e, e2]; rfl, fun r hr => ?_⟩
    rcases List.mem_cons.mp hr with rfl | hr
    · exact hq
    · exact h2 r hr
theorem refs_of {l : List (Addr × (Int × Int))} : ∀ {ys : List V}, (∀ y ∈ ys, y ∈ l.map fun p => V.ref p.1) → ∃ qs : List (Addr × (Int × Int)), ys = (qs.map fun p => V.ref p.1) ∧ ∀ q ∈ qs, q ∈ l
  | [], _ => ⟨[], rfl, fun q h => by cases h⟩
  | y :: ys, h => by
    obtain ⟨q, hq, e⟩ := List.mem_map.mp (h y List.mem_cons_self)
    obtain ⟨qs, e2, h2⟩ := refs_of (ys := ys) fun y hy => h y (List.mem_cons_of_mem _ hy)
    refine ⟨q :: qs, by rw [← e, e2]; rfl, fun r hr => ?_⟩
    rcases List.mem_cons.mp hr with rfl | hr
    · exact hq
    · exact h2 r hr
theorem Parts.fine {z : Str} {l qs : List Str} (h : Parts z l) (hn : qs ≠ []) (h3 : qs.length ≤ 3) (hq : ∀ q ∈ qs, q ∈ l) : Fine (Txt.join (Str.ofString "; ") qs) := by
  refine fine_join hn (fun p hp => ⟨(h.no p (hq p hp)).1, (h.no p (hq p hp)).2.mono (by decide)⟩) ?_
  refine (TOk.join semi_ok (n := 293) fun p hp => (h.no p (hq p hp)).2).mono ?_
  exact Nat.le_trans (Nat.mul_le_mul_right _ h3) (by decide)
theorem Parts.fineL {z : Str} {l : List Str} {q : Str} (h : Parts z l) (hz : TOk 293 z) (hq : q ∈ l) : Fine (Txt.join (Str.ofString "; ") (l ++ [q])) := by
  refine fine_join (by simp) (fun p hp => ?_) ?_
  · have : p ∈ l := by
      rcases List.mem_append.mp hp with hp | hp
      · exact hp
      · cases List.mem_singleton.mp hp
        exact hq
    exact ⟨(h.no p this).1, (h.no p this).2.mono (by decide)⟩
  · have h1 : TOk 293 (Txt.join (Str.ofString "; ") l) := by
      rw [h.jo]
      exact hz
    exact (tok_snoc h1 semi_ok (h.no q hq).2).mono (by decide)
theorem Model.off {a m : Addr} {H : Hp} {b : Int} {ns : List Int} {dl pl : Addr} {ks : List (Addr × (Int × Int))} (h : ∀ H', But a H H' → ModAt H' m dl pl b ns ks) : dl ≠ a ∧ pl ≠ a := by
  have h1 := h (upd H a (.tup [])) But.at_
  refine ⟨fun e => ?_, fun e => ?_⟩
  · have := h1.di
    rw [e, upd_same] at this
    cases this
  · have := h1.pa
    rw [e, upd_same] at this
    cases this
def spSpoilt : Sp := fun vs H Q _ => ∃ (a m : Addr) (n b : Int) (ds : List Int) (ps : List (Int × Int)), vs = [.ref a, .str (strS b ds ps), .ref m] ∧ Box n H a ∧ n ≤ 800000 ∧ Good b ds ps ∧ Model a H m b ds ps ∧ ∀ (y : Str) (H' : Hp), Fine y → But a H H' → Box (n + 60) H' a → Q (.str y) H'
abbrev nSpo : List Str := ["_law_box_here", "_law_wording", "_law_model", "_law_way", "_law_at", "_law_sign", "_law_parts", "_law_some"]
theorem scSpo : FnScope nSpo ["_law_box_here", "_law_wording", "_law_model"] (defScope sSpoilt) := ⟨rfl, rfl, rfl, by decide +kernel, rfl, by decide +kernel, by decide +kernel⟩
def signsL : List Str := [" ", "-", ";", ",", "0", "7", "a", "."]
theorem signs_ok : ∀ s ∈ signsL, TOk 3 s := by decide +kernel
set_option maxHeartbeats 8000000 in
theorem ok_spoilt {f fT fM fX : Addr} {fd fdT fdM fdX : FuncData} (F : Fun K "_law_spoilt" "_law_spoilt" sSpoilt f fd) (FT : Fun K "_law_take" "_law_take" sTake fT fdT) (gT : mg "_law_take" = some (.ref fT)) (bT : Binds K fdT ["_law_box_here", "_law_many"] [])
    (GM : FnOk P w K mg base CX0 2 fM fdM ["_law_box_here", "_law_some"] (spMixed K)) (gM : mg "_law_mixed" = some (.ref fM)) (kM : PySem.W.keepIn K (.ref fM) = true) (bM : Binds K fdM ["_law_box_here", "_law_some"] [])
    (GX : FnOk P w K mg base CX0 2 fX fdX ["_law_base", "_law_digits_here", "_law_shut"] spText) (gX : mg "_law_text" = some (.ref fX)) (kX : PySem.W.keepIn K (.ref fX) = true) (bX : Binds K fdX ["_law_base", "_law_digits_here", "_law_shut"] [])
    (mi : mg "int" = none) (ml : mg "len" = none) : FnOk P w K mg base CX0 3 f fd ["_law_box_here", "_law_wording", "_law_model"] spSpoilt := by
  have GT : FnOk P w K mg base CX0 1 fT fdT ["_law_box_here", "_law_many"] spTake := ok_take FT mi
  refine F.ok scSpo (fun vs H Q E h => ?_) (fun cdv A outer s H vs Q E hr2 h => ?_)
  · obtain ⟨a, m, n, b, ds, ps, rfl, _⟩ := h
    rfl
  · obtain ⟨a, m, n, b, ds, ps, rfl, hB, hn, G, M, q⟩ := h
    have hr : Room 1 _ := hr2.mono (by decide)
    apply Exists.intro
    apply And.intro
    · apply pss_cons
      · exact ps_par (i := 3) (j := 4) rfl scSpo.nd rfl rfl (by decide) rfl rfl (pa_cons (pe_call GT hr (by rfl) gT FT.kp bT .nil pass0 (pa_cons (pv 0) (pa_cons pe_int pa_nil))) (pa_cons (pe_call GT hr (by rfl) gT FT.kp bT .nil pass0 (pa_cons (pv 0) (pa_cons (pe_callB call_len_str (by rfl) ml PySem.boot_len (pa_cons (pv 1) pa_nil)) pa_nil))) pa_nil)) (by rfl)
      apply pss_cons
      · exact ps_set (i := 5) scSpo.nd rfl (.inl rfl) (pe_ix ix_list (pe_lst (pa_cons pe_str (pa_cons pe_str (pa_cons pe_str (pa_cons pe_str (pa_cons pe_str (pa_cons pe_str (pa_cons pe_str (pa_cons pe_str pa_nil))))))))) (pe_call GT hr (by rfl) gT FT.kp bT .nil pass0 (pa_cons (pv 0) (pa_cons pe_int pa_nil))) (fun _ _ => rfl))
      apply pss_cons
      · exact ps_set (i := 6) scSpo.nd rfl (.inl rfl) (pe_split (pv 1) pe_str)
      apply pss_cons
      · exact ps_set (i := 7) scSpo.nd rfl (.inl rfl) (pe_lst (pa_cons (pe_op op_add_str (pe_slice sl_str (pv 1) po_none (po_some (pv 4))) (pe_slice sl_str (pv 1) (po_some (pe_op op_add (pv 4) pe_int)) po_none)) (pa_cons (pe_op op_add_str (pe_op op_add_str (pe_slice sl_str (pv 1) po_none (po_some (pv 4))) (pv 5)) (pe_slice sl_str (pv 1) (po_some (pv 4)) po_none)) (pa_cons (pe_op op_add_str (pe_op op_add_str (pe_slice sl_str (pv 1) po_none (po_some (pv 4))) (pv 5)) (pe_slice sl_str (pv 1) (po_some (pe_op op_add (pv 4) pe_int)) po_none)) pa_nil))))
      apply pss_cons
      · exact ps_set (i := 7) scSpo.nd rfl (.inl rfl) (pe_op op_cat (pv 7) (pe_lst (pa_cons (pe_join pe_str (pe_slice sl_list (pv 6) po_none (po_some pe_int))) (pa_cons (pe_join pe_str (pe_op op_cat (pv 6) (pe_slice sl_list (pv 6) (po_some (pe_un un_neg pe_int)) po_none))) (pa_cons (pe_join pe_str (pe_call GM hr2 (by rfl) gM kM bM .nil pass0 (pa_cons (pv 0) (pa_cons (pv 6) pa_nil)))) pa_nil)))))
      apply pss_cons
      · exact ps_set (i := 7) scSpo.nd rfl (.inl rfl) (pe_op op_cat (pv 7) (pe_lst (pa_cons (pe_call GX hr2 (by rfl) gX kX bX .nil pass0 (pa_cons (pe_ix ix_list (pv 2) pe_int (fun _ _ => rfl)) (pa_cons (pe_call GM hr2 (by rfl) gM kM bM .nil pass0 (pa_cons (pv 0) (pa_cons (pe_ix ix_list (pv 2) pe_int (fun _ _ => rfl)) pa_nil))) (pa_cons (pe_ix ix_list (pv 2) pe_int (fun _ _ => rfl)) pa_nil)))) (pa_cons (pe_op op_add_str (pv 1) pe_str) pa_nil))))
      apply pss_one
      · exact ps_ret (pe_ix ix_list (pe_op op_cat (pv 7) (pe_lst (pa_cons (pe_call GX hr2 (by rfl) gX kX bX .nil pass0 (pa_cons (pe_ix ix_list (pv 2) pe_int (fun _ _ => rfl)) (pa_cons (pe_ix ix_list (pv 2) pe_int (fun _ _ => rfl)) (pa_cons (pe_call GM hr2 (by rfl) gM kM bM .nil pass0 (pa_cons (pv 0) (pa_cons (pe_ix ix_list (pv 2) pe_int (fun _ _ => rfl)) pa_nil))) pa_nil)))) pa_nil))) (pv 3) (fun _ _ => rfl))
    have Pt := G.parts
    have hz : TOk 293 (strS b ds ps) := by
      rw [G.text]
      exact G.fit.tAll
    have hz1 : 1 ≤ (strS b ds ps).length := by
      rcases Nat.lt_or_ge 0 (strS b ds ps).length with h | h
      · exact h
      · exfalso
        have e0 : strS b ds ps = Str.empty := ext_tl (List.length_eq_zero_iff.mp (by rw [← len_tl]; omega))
        have l2 := Pt.len
        rw [e0, show Txt.split Str.empty (Str.ofString "; ") = [Str.empty] by decide +kernel] at l2
        exact absurd l2.1 (by decide)
    have FG := G.fit
    obtain ⟨dl, pl, ks, ek, MA⟩ := M
    subst ek
    obtain ⟨ndl, npl⟩ := Model.off MA
    generalize strS b ds (ks.map (·.2)) = z at Pt hz hz1 q ⊢
    have zl : z.length ≤ sizeLine := by
      have := hz.len
      rw [sizeLine_eq]
      omega
    refine ⟨.ref a, rfl, a, 9, n, rfl, hB, by omega, by decide, by decide, fun way H1 w0 w1 t1 B1 => ?_⟩
    refine ⟨.ref a, rfl, .str z, rfl, z, rfl, zl, a, z.length, n + 1, rfl, B1, by omega, by omega, Nat.lt_of_le_of_lt (by have := hz.len; omega : ((z.length : Int)).natAbs ≤ 293) (by decide), fun at_ H2 a0 a1 t2 B2 => ?_⟩
    refine ⟨_, _, rfl, ?_⟩
    -- sign
    refine ⟨(by show 8 ≤ sizeLine; decide), fun l hl => ?_⟩
    refine ⟨.ref a, rfl, a, 8, n + 1 + 1, rfl, B2.new hl, by omega, by decide, by decide, fun r3 H3 k0 k1 t3 B3 => ?_⟩
    have el := t3 _ _ (B2.ne hl) upd_same
    obtain ⟨sg, esg, osg⟩ := pickS signs_ok k0 k1
    refine ⟨l, signsL.map V.str, r3, _, rfl, rfl, SqL.of el, esg, ?_⟩
    have T3 : But a H H3 := t1.trans (t2.trans ((But.new hl).trans t3))
    -- parts
    refine ⟨.str z, rfl, ⟨z, rfl⟩, z, Str.ofString "; ", rfl, rfl, by decide +kernel, (by have := hz.len; rw [sizeLine_eq]; omega), fun p hp => ?_⟩
    have npa := B3.ne hp
    generalize Txt.split z (Str.ofString "; ") = ws at Pt hp ⊢
    have B3p := B3.new (o := .lst (ws.map V.str)) hp
    have ep : (upd H3 p (.lst (ws.map V.str))) p = some (.lst (ws.map V.str)) := upd_same
    have T3p : But a H (upd H3 p (.lst (ws.map V.str))) := T3.trans (But.new hp)
    generalize upd H3 p (.lst (ws.map V.str)) = H5 at B3p ep T3p ⊢
    clear t1 t2 t3 B1 B2 B3 T3 el esg
    obtain ⟨pn1, pn2⟩ := Pt.len
    have hA := hz.cut none (some at_)
    have hB' := hz.cut (some (at_ + 1)) none
    have hC := hz.cut (some at_) none
    have two : ∀ {n m : Nat} {x y : Str}, TOk n x → TOk m y → n + m ≤ 10000 → x.length + y.length ≤ sizeLine := fun h k hm => by
      have h1 := h.len
      have h2 := k.len
      rw [sizeLine_eq]
      omega
    refine ⟨.str z, rfl, .int at_, rfl, at_, rfl, z, rfl, zl, .str z, rfl, .int at_, rfl, _, _, rfl, rfl, _, rfl, z, rfl, zl, _, _, rfl, rfl, two hA hB' (by decide), ?_⟩
    refine ⟨.str z, rfl, .int at_, rfl, at_, rfl, z, rfl, zl, .str sg, rfl, _, _, rfl, rfl, two hA osg (by decide), .str z, rfl, .int at_, rfl, at_, rfl, z, rfl, zl, _, _, rfl, rfl, two (hA.app osg) hC (by decide), ?_⟩
    refine ⟨.str z, rfl, .int at_, rfl, at_, rfl, z, rfl, zl, .str sg, rfl, _, _, rfl, rfl, two hA osg (by decide), .str z, rfl, .int at_, rfl, _, _, rfl, rfl, _, rfl, z, rfl, zl, _, _, rfl, rfl, two (hA.app osg) hB' (by decide), ?_⟩
    have o2 := Fine.of ((tok_two0 hz a0 (show at_ ≤ at_ + 1 by omega)).mono (by decide : 293 ≤ 317))
    have o3 := Fine.of ((tok_two hz osg a0 (Int.le_refl at_)).mono (by decide : 293 + 3 ≤ 317))
    have o4 := Fine.of ((tok_two hz osg a0 (show at_ ≤ at_ + 1 by omega)).mono (by decide : 293 + 3 ≤ 317))
    generalize cutS z none (some at_) ++ cutS z (some (at_ + 1)) none = y2 at o2 ⊢
    generalize cutS z none (some at_) ++ sg ++ cutS z (some at_) none = y3 at o3 ⊢
    generalize cutS z none (some at_) ++ sg ++ cutS z (some (at_ + 1)) none = y4 at o4 ⊢
    refine ⟨(by show 3 ≤ sizeLine; decide), fun l1 hl1 => ?_⟩
    have s6 := same_new (o := .lst [.str y2, .str y3, .str y4]) hl1
    have el1 : (upd H5 l1 (.lst [.str y2, .str y3, .str y4])) l1 = some (.lst [.str y2, .str y3, .str y4]) := upd_same
    have ep6 := s6 _ _ ep
    have nl1 := B3p.ne hl1
    have B6 := B3p.same s6
    have T6 := T3p.trans (But.of_same s6)
    generalize upd H5 l1 (.lst [.str y2, .str y3, .str y4]) = H6 at s6 el1 ep6 B6 T6 ⊢
    -- the first joined text
    obtain ⟨ps1, c1e, c1l, c1o⟩ := Pt.head
    obtain ⟨lst, c2e, c2o⟩ := Pt.last
    have jl : ∀ {x : Str} {n : Nat}, TOk n x → n ≤ 5000 → x.length ≤ sizeLine := fun h hm => by
      have h1 := h.len
      rw [sizeLine_eq]
      omega
    have js : ∀ {qs : List Str}, (∀ q ∈ qs, q ∈ ws) → qs.length ≤ 4 → (qs.map (·.length)).sum + qs.length * (Str.ofString "; ").length ≤ sizeLine := fun {qs} h h4 => by
      have h1 := sum_len (n := 293) (ps := qs) fun x hx => (Pt.no x (h x hx)).2
      have h2 := semi_ok.len
      have h3 : qs.length * (Str.ofString "; ").length ≤ qs.length * 2 := Nat.mul_le_mul_left _ h2
      rw [sizeLine_eq]
      omega
    refine ⟨.ref l1, rfl, ⟨_, rfl⟩, .ref p, rfl, 2, rfl, p, _, rfl, SqL.of ep6, fun c1 hc1 => ?_⟩
    rw [c1e]
    have d1 := same_new (o := .lst (ps1.map V.str)) hc1
    have ec1 : (upd H6 c1 (.lst (ps1.map V.str))) c1 = some (.lst (ps1.map V.str)) := upd_same
    generalize upd H6 c1 (.lst (ps1.map V.str)) = G1 at d1 ec1 ⊢
    refine ⟨_, c1, ps1, rfl, rfl, .inl (SqL.of ec1), js c1o (by omega), ?_⟩
    have f4 : Fine (Txt.join (Str.ofString "; ") ps1) := Pt.fine (fun e => by rw [e] at c1l; cases c1l) (by omega) c1o
    generalize Txt.join (Str.ofString "; ") ps1 = y5 at f4 ⊢
    -- the second
    refine ⟨⟨_, rfl⟩, .ref p, rfl, .ref p, rfl, 1, rfl, -1, rfl, p, _, rfl, SqL.of (d1 _ _ ep6), fun c2 hc2 => ?_⟩
    rw [c2e]
    have d2 := d1.trans (same_new (o := .lst [V.str lst]) hc2)
    have ec2 : (upd G1 c2 (.lst [V.str lst])) c2 = some (.lst [V.str lst]) := upd_same
    generalize upd G1 c2 (.lst [V.str lst]) = G2 at d2 ec2 ⊢
    refine ⟨p, c2, _, _, rfl, rfl, d2 _ _ ep6, ec2, ?_, fun c3 hc3 => ?_⟩
    · rw [List.length_map, sizeLine_eq]
      show ws.length + 1 ≤ _
      omega
    have e3 : ws.map V.str ++ [V.str lst] = (ws ++ [lst]).map V.str := by rw [List.map_append]; rfl
    rw [e3]
    have d3 := d2.trans (same_new (o := .lst ((ws ++ [lst]).map V.str)) hc3)
    have ec3 : (upd G2 c3 (.lst ((ws ++ [lst]).map V.str))) c3 = some (.lst ((ws ++ [lst]).map V.str)) := upd_same
    generalize upd G2 c3 (.lst ((ws ++ [lst]).map V.str)) = G3 at d3 ec3 ⊢
    refine ⟨_, c3, _, rfl, rfl, .inl (SqL.of ec3), js (fun q hq => ?_) (by rw [List.length_append]; show ws.length + 1 ≤ 4; omega), ?_⟩
    · rcases List.mem_append.mp hq with h | h
      · exact h
      · cases List.mem_singleton.mp h
        exact c2o
    have f5 := Pt.fineL hz c2o
    generalize Txt.join (Str.ofString "; ") (ws ++ [lst]) = y6 at f5 ⊢
    -- the third
    refine ⟨⟨_, rfl⟩, .ref a, rfl, .ref p, rfl, a, p, _, _, rfl, B6.same d3, SqL.of (d3 _ _ ep6), npa, (by rw [List.length_map]; omega), by omega, fun D ys H7 hD t7 B7 eD yl ym => ?_⟩
    obtain ⟨qs, rfl, qo⟩ := strs_of ym
    rw [List.length_map, List.length_map] at yl
    refine ⟨_, D, qs, rfl, rfl, .inl (SqL.of eD), js qo (by omega), ?_⟩
    have f6 : Fine (Txt.join (Str.ofString "; ") qs) := Pt.fine (fun e => by rw [e] at yl; exact absurd yl.symm (by show ¬ ws.length = 0; omega)) (by omega) qo
    generalize Txt.join (Str.ofString "; ") qs = y7 at f6 ⊢
    have el7 := t7 _ _ nl1 (d3 _ _ el1)
    have T7 := T6.trans ((But.of_same d3).trans t7)
    rw [List.length_map] at B7
    clear d1 d2 d3 ec1 ec2 ec3 hc1 hc2 hc3 e3 hD t7 eD
    refine ⟨(by show 3 ≤ sizeLine; decide), fun l2 hl2 => ?_⟩
    have s8 := same_new (o := .lst [.str y5, .str y6, .str y7]) hl2
    have el8 := s8 _ _ el7
    have em8 : (upd H7 l2 (.lst [.str y5, .str y6, .str y7])) l2 = some (.lst [.str y5, .str y6, .str y7]) := upd_same
    have B8 := B7.same s8
    have T8 := T7.trans (But.of_same s8)
    generalize upd H7 l2 (.lst [.str y5, .str y6, .str y7]) = H8 at s8 el8 em8 B8 T8 ⊢
    refine ⟨l1, l2, _, _, rfl, rfl, el8, em8, (by show 3 + 3 ≤ sizeLine; decide), fun l3 hl3 => ?_⟩
    have s9 := same_new (o := .lst ([V.str y2, V.str y3, V.str y4] ++ [V.str y5, V.str y6, V.str y7])) hl3
    have el9 : (upd H8 l3 (.lst ([V.str y2, V.str y3, V.str y4] ++ [V.str y5, V.str y6, V.str y7]))) l3 = some (.lst ([V.str y2, V.str y3, V.str y4] ++ [V.str y5, V.str y6, V.str y7])) := upd_same
    have nl3 := B8.ne hl3
    have B9 := B8.same s9
    have T9 := T8.trans (But.of_same s9)
    generalize upd H8 l3 (.lst ([V.str y2, V.str y3, V.str y4] ++ [V.str y5, V.str y6, V.str y7])) = H9 at s9 el9 B9 T9 ⊢
    clear s8 s9 el8 em8 el7 hl2 hl3 T8 B8 B7 T7
    -- digits in another order
    have M9 := MA H9 T9
    refine ⟨.ref l3, rfl, .ref m, rfl, m, _, 0, .int b, rfl, rfl, SqL.of M9.mo, atI_nat (j := 0) rfl, ?_⟩
    have hds := FG.n
    have hks := FG.m
    rw [List.length_map] at hks
    refine ⟨.ref a, rfl, .ref m, rfl, m, _, 1, .ref dl, rfl, rfl, SqL.of M9.mo, atI_nat (j := 1) rfl, a, dl, ds.map V.int, _, rfl, B9, SqL.of M9.di, ndl, (by rw [List.length_map]; omega), by omega, fun D1 ys H10 hD t10 B10 eD yl ym => ?_⟩
    obtain ⟨ms, rfl, mo⟩ := ints_of ym
    rw [List.length_map, List.length_map] at yl
    rw [List.length_map] at B10
    have T10 := T9.trans t10
    have el10 := t10 _ _ nl3 el9
    have M10 := MA H10 T10
    have F1 : Fit b ms (ks.map (·.2)) := ⟨FG.b, by omega, fun n hn => FG.d n (mo n hn), FG.m, FG.p⟩
    refine ⟨.ref m, rfl, m, _, 2, .ref pl, rfl, rfl, SqL.of M10.mo, atI_nat (j := 2) rfl, D1, pl, b, ms, ks, rfl, eD, M10.pa, M10.pr, F1, fun H11 s11 => ?_⟩
    have f7 := Fine.of (F1.tAll.mono (by decide : 293 ≤ 317))
    generalize textL b ms (ks.map (·.2)) = y8 at f7 ⊢
    have f8 := Fine.of ((hz.app semiB_ok).mono (by decide : 293 + 7 ≤ 317))
    refine ⟨.str z, rfl, _, _, rfl, rfl, two hz semiB_ok (by decide), ?_⟩
    generalize z ++ Str.ofString "; bars " = y9 at f8 ⊢
    have T11 := T10.trans (But.of_same s11)
    have B11 := B10.same s11
    have el11 := s11 _ _ el10
    clear t10 s11 B10 T10 el10 eD hD B9 T9 el9 M9 M10
    refine ⟨(by show 2 ≤ sizeLine; decide), fun l4 hl4 => ?_⟩
    have s12 := same_new (o := .lst [.str y8, .str y9]) hl4
    have el12 := s12 _ _ el11
    have em12 : (upd H11 l4 (.lst [.str y8, .str y9])) l4 = some (.lst [.str y8, .str y9]) := upd_same
    have B12 := B11.same s12
    have T12 := T11.trans (But.of_same s12)
    generalize upd H11 l4 (.lst [.str y8, .str y9]) = H12 at s12 el12 em12 B12 T12 ⊢
    refine ⟨l3, l4, _, _, rfl, rfl, el12, em12, (by show 6 + 2 ≤ sizeLine; decide), fun l5 hl5 => ?_⟩
    have s13 := same_new (o := .lst (([V.str y2, V.str y3, V.str y4] ++ [V.str y5, V.str y6, V.str y7]) ++ [V.str y8, V.str y9])) hl5
    have el13 : (upd H12 l5 (.lst (([V.str y2, V.str y3, V.str y4] ++ [V.str y5, V.str y6, V.str y7]) ++ [V.str y8, V.str y9]))) l5 = some (.lst (([V.str y2, V.str y3, V.str y4] ++ [V.str y5, V.str y6, V.str y7]) ++ [V.str y8, V.str y9])) := upd_same
    have nl5 := B12.ne hl5
    have B13 := B12.same s13
    have T13 := T12.trans (But.of_same s13)
    generalize upd H12 l5 (.lst (([V.str y2, V.str y3, V.str y4] ++ [V.str y5, V.str y6, V.str y7]) ++ [V.str y8, V.str y9])) = H13 at s13 el13 B13 T13 ⊢
    clear s12 s13 el12 em12 B12 T12 el11 B11 T11 hl4 hl5
    -- bars in another order
    have M13 := MA H13 T13
    refine ⟨.ref l5, rfl, .ref m, rfl, m, _, 0, .int b, rfl, rfl, SqL.of M13.mo, atI_nat (j := 0) rfl, ?_⟩
    refine ⟨.ref m, rfl, m, _, 1, .ref dl, rfl, rfl, SqL.of M13.mo, atI_nat (j := 1) rfl, ?_⟩
    refine ⟨.ref a, rfl, .ref m, rfl, m, _, 2, .ref pl, rfl, rfl, SqL.of M13.mo, atI_nat (j := 2) rfl, a, pl, _, _, rfl, B13, SqL.of M13.pa, npl, (by rw [List.length_map]; omega), by omega, fun D2 ys H14 hD t14 B14 eD yl2 ym2 => ?_⟩
    obtain ⟨kk, rfl, ko⟩ := refs_of ym2
    rw [List.length_map, List.length_map] at yl2
    rw [List.length_map] at B14
    have T14 := T13.trans t14
    have el14 := t14 _ _ nl5 el13
    have M14 := MA H14 T14
    have F2 : Fit b ds (kk.map (·.2)) := ⟨FG.b, FG.n, FG.d, by rw [List.length_map]; omega, fun z hz => by
      obtain ⟨y, hy, rfl⟩ := List.mem_map.mp hz
      exact FG.p _ (List.mem_map.mpr ⟨y, ko y hy, rfl⟩)⟩
    refine ⟨dl, D2, b, ds, kk, rfl, M14.di, eD, fun q hq => M14.pr q (ko q hq), F2, fun H15 s15 => ?_⟩
    have f9 := Fine.of (F2.tAll.mono (by decide : 293 ≤ 317))
    generalize textL b ds (kk.map (·.2)) = y10 at f9 ⊢
    have T15 := T14.trans (But.of_same s15)
    have B15 := B14.same s15
    have el15 := s15 _ _ el14
    refine ⟨(by show 1 ≤ sizeLine; decide), fun l6 hl6 => ?_⟩
    have s16 := same_new (o := .lst [.str y10]) hl6
    refine ⟨l5, l6, _, _, rfl, rfl, s16 _ _ el15, upd_same, (by show 8 + 1 ≤ sizeLine; decide), fun l7 hl7 => ?_⟩
    have s17 := same_new (o := .lst ((([V.str y2, V.str y3, V.str y4] ++ [V.str y5, V.str y6, V.str y7]) ++ [V.str y8, V.str y9]) ++ [V.str y10])) hl7
    have all_ok : ∀ x ∈ [y2, y3, y4, y5, y6, y7, y8, y9, y10], Fine x := fun x hx => by
      simp only [List.mem_cons, List.not_mem_nil, or_false] at hx
      rcases hx with rfl | rfl | rfl | rfl | rfl | rfl | rfl | rfl | rfl <;> assumption
    obtain ⟨y, ey, oy⟩ := pickS all_ok w0 w1
    exact ⟨.int way, rfl, l7, _, way, .str y, rfl, rfl, SqL.of upd_same, ey, q y _ oy (T15.trans (But.of_same (s16.trans s17))) (((B15.same s16).same s17).mono (by omega))⟩
end
end K08
namespace K08
open PySem PySem.Spec PyProof.Rows L2 OF TL
/-! ### texts that are no scheme's -/
def NoText (z : Str) : Prop := ∀ b ds ps, Good b ds ps → strS b ds ps ≠ z
theorem nl_digits : ∀ k : Nat, k < 19 → (10 : Nat) ∉ tl (Str.ofString (toString ((-9 : Int) + (k : Int)))) := by decide +kernel
theorem nl_strI {i : Int} (h : -9 ≤ i ∧ i ≤ 9) : (10 : Nat) ∉ tl (strI i) := by
  have e : i = (-9 : Int) + (((i + 9).toNat : Nat) : Int) := by omega
  have := nl_digits (i + 9).toNat (by omega)
  rw [← e] at this
  exact this
theorem nl_textOf {is : List Int} (h : Dgs is) : (10 : Nat) ∉ tl (textOf is) := by
  unfold textOf
  split
  · decide +kernel
  · refine nc_join (by decide +kernel) fun p hp => ?_
    obtain ⟨i, hi, rfl⟩ := List.mem_map.mp hp
    exact nl_strI (h i hi)
theorem nl_parts {b : Int} {ds : List Int} {ps : List (Int × Int)} (G : Good b ds ps) : ∀ p ∈ partsS b ds ps, (10 : Nat) ∉ tl p := by
  intro p hp
  rcases List.mem_append.mp hp with h | h
  · unfold headS at h
    rcases List.mem_cons.mp h with rfl | h
    · exact nc_app (by decide +kernel) (nl_strI (base_dig G.b))
    · rw [List.mem_singleton.mp h]
      exact nc_app (by decide +kernel) (nl_textOf G.dd)
  · split at h
    · cases h
    · rw [List.mem_singleton.mp h]
      refine nc_app (by decide +kernel) (nc_join (by decide +kernel) fun q hq => ?_)
      obtain ⟨r, hr, rfl⟩ := List.mem_map.mp hq
      exact nl_textOf (G.dp hr)
theorem nl_text {b : Int} {ds : List Int} {ps : List (Int × Int)} (G : Good b ds ps) : (10 : Nat) ∉ tl (strS b ds ps) := nc_join (by decide +kernel) (nl_parts G)
theorem head_text {b : Int} {ds : List Int} {ps : List (Int × Int)} (G : Good b ds ps) : ∃ r, tl (strS b ds ps) = 98 :: r := by
  rw [G.text]
  unfold textL lawText
  rw [tl_append, tl_append, tl_append, tl_append, tl_append, show tl (Str.ofString "base ") = [98, 97, 115, 101, 32] by decide +kernel]
  simp only [List.append_assoc, List.cons_append, List.nil_append]
  exact ⟨_, rfl⟩
theorem no_empty : NoText (Str.ofString "") := fun b ds ps G e => by
  obtain ⟨r, h⟩ := head_text G
  rw [e, show tl (Str.ofString "") = [] by decide +kernel] at h
  cases h
theorem no_feed (z : Str) : NoText (z ++ Str.ofString "\n") := fun b ds ps G e => by
  have h := nl_text G
  rw [e, tl_append, show tl (Str.ofString "\n") = [10] by decide +kernel] at h
  exact h (List.mem_append_right _ List.mem_cons_self)
theorem no_blank (z : Str) : NoText (Str.ofString " " ++ z) := fun b ds ps G e => by
  obtain ⟨r, h⟩ := head_text G
  rw [e, tl_append, show tl (Str.ofString " ") = [32] by decide +kernel] at h
  cases h
theorem Good.tok {b : Int} {ds : List Int} {ps : List (Int × Int)} (G : Good b ds ps) : TOk 293 (strS b ds ps) := by
  rw [G.text]
  exact G.fit.tAll

/-! ### what is shown -/
def toldD (b : Int) (ds : List Int) (ps : List (Int × Int)) : PyData := .list [.int b, .tuple (ds.map .int), .tuple (ps.map pd2)]
structure Shows (d : PyData) : Prop where
  sh : d.showable = true
  nd : d.hasDict = false
  len : d.shown.length ≤ sizeLine
  dep : d.depth ≤ 40
def okInt (n : Int) : Bool := PyData.showable (.int n) && (PyData.leavesShort 60 (.int n) && decide (PyData.weight (.int n) ≤ 4))
theorem okInt_dig {n : Int} (h : -9 ≤ n ∧ n ≤ 9) : PyData.showable (.int n) = true ∧ PyData.leavesShort 60 (.int n) = true ∧ PyData.weight (.int n) ≤ 4 := by
  have all : ∀ k : Nat, k < 19 → okInt ((-9 : Int) + (k : Int)) = true := by decide +kernel
  have z := all (n + 9).toNat (by omega)
  have e : (-9 : Int) + (((n + 9).toNat : Nat) : Int) = n := by omega
  rw [e] at z
  unfold okInt at z
  simp only [Bool.and_eq_true, decide_eq_true_eq] at z
  exact ⟨z.1, z.2.1, z.2.2⟩
theorem ints_show : ∀ {ds : List Int}, Dgs ds → PyData.showableAll (ds.map .int) = true ∧ PyData.hasDictAll (ds.map .int) = false ∧ PyData.leavesShortAll 60 (ds.map .int) = true ∧ PyData.weightAll (ds.map .int) ≤ 5 * ds.length ∧ PyData.depthAll (ds.map PyData.int) ≤ 0
  | [], _ => ⟨rfl, rfl, rfl, Nat.le_refl _, Nat.le_refl _⟩
  | d :: ds, h => by
    obtain ⟨h1, h2, h3, h4, h5⟩ := ints_show (ds := ds) fun i hi => h i (List.mem_cons_of_mem _ hi)
    obtain ⟨k1, k2, k3⟩ := okInt_dig (h d List.mem_cons_self)
    refine ⟨?_, ?_, ?_, ?_, ?_⟩
    · rw [List.map_cons, PyData.showableAll, h1, k1]
      rfl
    · rw [List.map_cons, PyData.hasDictAll, h2]
      rfl
    · rw [List.map_cons, PyData.leavesShortAll, h3, k2]
      rfl
    · rw [List.map_cons, PyData.weightAll, List.length_cons]
      omega
    · rw [List.map_cons, PyData.depthAll]
      simp only [PyData.depth]
      omega
theorem pairs_show : ∀ {ps : List (Int × Int)}, (∀ p ∈ ps, Dgs [p.1, p.2]) → PyData.showableAll (ps.map pd2) = true ∧ PyData.hasDictAll (ps.map pd2) = false ∧ PyData.leavesShortAll 60 (ps.map pd2) = true ∧ PyData.weightAll (ps.map pd2) ≤ 11 * ps.length ∧ PyData.depthAll (ps.map pd2) ≤ 1
  | [], _ => ⟨rfl, rfl, rfl, Nat.le_refl _, by decide⟩
  | p :: ps, h => by
    obtain ⟨h1, h2, h3, h4, h5⟩ := pairs_show (ps := ps) fun q hq => h q (List.mem_cons_of_mem _ hq)
    obtain ⟨k1, k2, k3, k4, k5⟩ := ints_show (h p List.mem_cons_self)
    have e : pd2 p = .tuple ([p.1, p.2].map PyData.int) := rfl
    refine ⟨?_, ?_, ?_, ?_, ?_⟩
    · rw [List.map_cons, PyData.showableAll, h1, e, PyData.showable, k1]
      rfl
    · rw [List.map_cons, PyData.hasDictAll, h2, e, PyData.hasDict, k2]
      rfl
    · rw [List.map_cons, PyData.leavesShortAll, h3, e, PyData.leavesShort, k3]
      rfl
    · rw [List.map_cons, PyData.weightAll, List.length_cons, e, PyData.weight]
      have : [p.1, p.2].length = 2 := rfl
      omega
    · rw [List.map_cons, PyData.depthAll, e, PyData.depth]
      omega
theorem Good.shows {b : Int} {ds : List Int} {ps : List (Int × Int)} (G : Good b ds ps) : Shows (toldD b ds ps) := by
  obtain ⟨h1, h2, h3, h4, h5⟩ := ints_show G.dd
  obtain ⟨k1, k2, k3, k4, k5⟩ := pairs_show (ps := ps) fun p hp => G.dp hp
  obtain ⟨j1, j2, j3⟩ := okInt_dig (base_dig G.b)
  have n6 := G.six
  have n36 := G.few
  refine ⟨?_, ?_, ?_, ?_⟩
  · unfold toldD
    simp only [PyData.showable, PyData.showableAll] at j1 ⊢
    rw [h1, k1, j1]
    rfl
  · unfold toldD
    simp only [PyData.hasDict, PyData.hasDictAll]
    rw [h2, k2]
    rfl
  · have ls : PyData.leavesShort 60 (toldD b ds ps) = true := by
      unfold toldD
      rw [PyData.leavesShort, PyData.leavesShortAll, PyData.leavesShortAll, PyData.leavesShortAll, PyData.leavesShortAll, j2, PyData.leavesShort, PyData.leavesShort, h3, k3]
      rfl
    have := PyData.shown_le 60 (by decide) _ ls
    have w : PyData.weight (toldD b ds ps) ≤ 1000 := by
      unfold toldD
      rw [PyData.weight, PyData.weightAll, PyData.weightAll, PyData.weightAll, PyData.weightAll, PyData.weight, PyData.weight]
      omega
    rw [sizeLine_eq]
    omega
  · unfold toldD
    simp only [PyData.depth, PyData.depthAll]
    omega
def textD (z : Str) : PyData := .list [.str "text", .str z]
theorem text_shows {z : Str} (h : TOk 1000 z) : Shows (textD z) := by
  have hl : PyData.leavesShort 60 (.str z) = true := by
    simp only [PyData.leavesShort, List.all_eq_true, decide_eq_true_eq]
    exact fun c hc => Nat.lt_of_lt_of_le (h.2 c hc) (by decide)
  have ht : PyData.leavesShort 60 (.str "text") = true := by decide +kernel
  refine ⟨rfl, rfl, ?_, ?_⟩
  · have ls : PyData.leavesShort 60 (textD z) = true := by
      unfold textD
      rw [PyData.leavesShort, PyData.leavesShortAll, PyData.leavesShortAll, PyData.leavesShortAll, hl, ht]
      rfl
    have := PyData.shown_le 60 (by decide) _ ls
    have w : PyData.weight (textD z) ≤ 2000 := by
      unfold textD
      rw [PyData.weight, PyData.weightAll, PyData.weightAll, PyData.weightAll, PyData.weight, PyData.weight]
      have h1 := h.len
      have h2 : z.length = z.cps.size := rfl
      have h3 : (Str.ofString "text").cps.size = 4 := by decide +kernel
      have h4 : ("text" : Str).cps.size = 4 := h3
      omega
    rw [sizeLine_eq]
    omega
  · unfold textD
    simp only [PyData.depth, PyData.depthAll]
    decide
section
variable {K : PySem.W.Frag}
theorem told_dp {H : Hp} {l t r : Addr} {b : Int} {ds : List Int} {ks : List (Addr × (Int × Int))} (e : H l = some (.lst [.int b, .ref t, .ref r])) (et : H t = some (.tup (ds.map V.int))) (er : H r = some (.tup (ks.map fun q => V.ref q.1))) (hk : ∀ q ∈ ks, H q.1 = some (.tup [.int q.2.1, .int q.2.2])) : Dp K H (.ref l) (toldD b ds (ks.map (·.2))) := by
  unfold toldD
  rw [List.map_map]
  exact .lst (SqL.of e) (.cons (.int b) (.cons (.tup (SqT.of et) (dp_ints ds)) (.cons (.tup (SqT.of er) (bars_dp ks hk)) .nil)))
theorem text_dp {H : Hp} {l : Addr} {z : Str} (e : H l = some (.lst [.str "text", .str z])) : Dp K H (.ref l) (textD z) := .lst (SqL.of e) (.cons (.str _) (.cons (.str z) .nil))
theorem Shows.rep {d : PyData} (S : Shows d) {H : Hp} {v : V} {Q : VK} (h : Dp K H v d) (q : Q (.str d.shown) H) : rReprD K [v] H Q := ⟨v, d, rfl, h, S.sh, S.nd, S.len, S.dep, q⟩
end
def LstAt (H : Hp) (a : Addr) : Prop := ∃ xs, H a = some (.lst xs)
theorem box_lst {n : Int} {H : Hp} {a : Addr} (h : Box n H a) : LstAt H a := by
  obtain ⟨b0, b1, b2, h1, _⟩ := h
  exact ⟨_, h1⟩
theorem LstAt.ne {H : Hp} {a p : Addr} {o : HO} (h : LstAt H a) (e : H p = some o) (n : ∀ xs, o ≠ .lst xs) : p ≠ a := fun z => by
  obtain ⟨xs, i⟩ := h
  rw [z, i] at e
  exact n _ (Option.some.inj e).symm
theorem IsS.stay {C s a : Addr} {H H' : Hp} {b : Int} {ds : List Int} {ps : List (Int × Int)} (h : IsS C H s b ds ps) (l : LstAt H a) (z : But a H H') : IsS C H' s b ds ps := by
  obtain ⟨G, t, r, ks, e, ⟨⟨dx, h1⟩, h2, h3, h4⟩⟩ := h
  exact ⟨G, t, r, ks, e, ⟨dx, z _ _ (l.ne h1 fun _ y => by cases y) h1⟩, z _ _ (l.ne h2 fun _ y => by cases y) h2, z _ _ (l.ne h3 fun _ y => by cases y) h3, fun p hp => z _ _ (l.ne (h4 p hp) fun _ y => by cases y) (h4 p hp)⟩
theorem eq_same {K : PySem.W.Frag} {C : Addr} {J : Hp} {o3 o : Addr} {b : Int} {ds : List Int} {ps : List (Int × Int)} {Q : VK} {E : XK} (I3 : IsS C J o3 b ds ps) (I : IsS C J o b ds ps) (q : Q (.bl true) J) : spEqA K C [.ref o3, .ref o] J Q E := by
  obtain ⟨G, t3, r3, ks3, e3, S3⟩ := I3
  obtain ⟨_, t, r, ks, e, S⟩ := I
  have h6 := G.six
  refine .inl ⟨o3, t3, r3, o, t, r, b, b, ds, ds, ks3, ks, rfl, S3, S, by omega, by omega, ?_⟩
  have k3 : (ks3.map fun p => pd2 p.2) = ps.map pd2 := by
    rw [← e3, List.map_map]
    rfl
  have k4 : (ks.map fun p => pd2 p.2) = ps.map pd2 := by
    rw [← e, List.map_map]
    rfl
  have c1 : PyData.canLay0 (.tuple (ds.map .int)) = true := by
    simp only [PyData.canLay0, (ints_can ds).1]
  have c2 : PyData.canLay0 (.tuple (ps.map pd2)) = true := by
    have h := (bars_can ks).1
    rw [k4] at h
    simp only [PyData.canLay0, h]
  rw [k3, k4, SeqAt.eqv_refl _ c1, SeqAt.eqv_refl _ c2, decide_eq_true rfl]
  exact q
end K08
namespace K08
open PySem PySem.Spec PyProof.Rows L2 OF TL
section
variable {P : Program} {w : World} {K : PySem.W.Frag} {mg : Str → Option Value} {base : Heap}
theorem kbSRead {f : Addr} {fd : FuncData} (F : Fun K "read" "Scheme.read" sSRead f fd) : KBn K fd ["cls", "text"] 1 ["text"] gApp gApp := by
  obtain ⟨oc, od, kV, doc, pm, an, cdv, ct, osl, rfl, lk, hcd⟩ := F.ex
  refine ⟨fun s us ws X l1 l2 => ?_, fun {vs us zs ws} r1 r2 => r1.append r2⟩
  match us, ws, l1, l2 with
  | [x], [v], _, _ => exact .of_eq rfl
theorem passE {X : Cx} {P' : Program} {w' : World} (σ : L2.St) : PassesAt (L2.CX P' w') X σ E0 := fun pins H s e s' I c => passNo pins σ H s e s' I c
/-- what the law's own reader tells -/
def DueAt (z : Str) (v : V) (H : Hp) : Prop := (∃ b ds ps, Good b ds ps ∧ strS b ds ps = z ∧ ∃ (p td tp : Addr) (ks : List (Addr × (Int × Int))), v = .ref p ∧ H p = some (.lst [.int b, .ref td, .ref tp]) ∧ H td = some (.tup (ds.map V.int)) ∧ H tp = some (.tup (ks.map fun q => V.ref q.1)) ∧ ks.map (·.2) = ps ∧ ∀ q ∈ ks, H q.1 = some (.tup [.int q.2.1, .int q.2.2])) ∨ (NoText z ∧ v = .non)
def spDue2 : Sp := fun vs H Q _ => ∃ z : Str, vs = [.str z] ∧ z.length ≤ 1000 ∧ ∀ v H', Same H H' → DueAt z v H' → Q v H'
theorem due_imp (vs : List V) (H : Hp) (Q : VK) (E : XK) (h : spDue2 vs H Q E) : spDue vs H Q E := by
  obtain ⟨z, rfl, hz, q⟩ := h
  exact ⟨z, rfl, hz, fun b ds ps G e p td tp ks H' s e1 e2 e3 e4 e5 => q _ H' s (.inl ⟨b, ds, ps, G, e, p, td, tp, ks, rfl, e1, e2, e3, e4, e5⟩), fun no H' s => q _ H' s (.inr ⟨no, rfl⟩)⟩
def spRight : Sp := fun vs H Q _ => ∃ (a : Addr) (n : Int), vs = [.ref a] ∧ Box n H a ∧ n ≤ 600000 ∧ ∀ H', But a H H' → Box (n + 200) H' a → Q (.bl true) H'
abbrev nRi : List Str := ["_law_box_here", "_law_model", "_law_scheme_here", "_law_wording", "_law_odd", "_law_due_here", "_law_other"]
theorem scRi : FnScope nRi ["_law_box_here"] (defScope sRight) := ⟨rfl, rfl, rfl, by decide +kernel, rfl, by decide +kernel, by decide +kernel⟩
set_option maxHeartbeats 8000000 in
theorem ok_right {f fD fO fM fS fX fP fR fE fZ C CT p : Addr} {mc : Value} {fd fdD fdO fdM fdS fdX fdP fdR fdE fdZ : FuncData} (F : Fun K "_law_right" "_law_right" sRight f fd) (c : Cls K C)
    (GS : FnOk P w K mg base CX0 3 fS fdS ["_law_box_here"] spScheme) (gS : mg "_law_scheme" = some (.ref fS)) (kS : PySem.W.keepIn K (.ref fS) = true) (bS : Binds K fdS ["_law_box_here"] [])
    (GM : FnOk P w K mg base CX0 9 fM fdM ["_law_model"] (spMadeL C)) (gM : mg "_law_made" = some (.ref fM)) (kM : PySem.W.keepIn K (.ref fM) = true) (bM : Binds K fdM ["_law_model"] [])
    (GX : FnOk P w K mg base CX0 2 fX fdX ["_law_base", "_law_digits_here", "_law_shut"] spText) (gX : mg "_law_text" = some (.ref fX)) (kX : PySem.W.keepIn K (.ref fX) = true) (bX : Binds K fdX ["_law_base", "_law_digits_here", "_law_shut"] [])
    (GP : FnOk P w K mg base CX0 3 fP fdP ["_law_box_here", "_law_wording", "_law_model"] spSpoilt) (gP : mg "_law_spoilt" = some (.ref fP)) (kP : PySem.W.keepIn K (.ref fP) = true) (bP : Binds K fdP ["_law_box_here", "_law_wording", "_law_model"] [])
    (GD : FnOk P w K mg base CX0 3 fD fdD ["_law_wording"] spDue) (gD : mg "_law_due" = some (.ref fD)) (kD : PySem.W.keepIn K (.ref fD) = true) (bD : Binds K fdD ["_law_wording"] [])
    (GO : FnOk P w K mg base CX0 10 fO fdO ["_law_wording"] (spTold C)) (gO : mg "_law_told" = some (.ref fO)) (kO : PySem.W.keepIn K (.ref fO) = true) (bO : Binds K fdO ["_law_wording"] [])
    (gC : mg "Scheme" = some (.ref C)) (rd : ClX.CRead K C mc) (cm : ClX.CMet K C mc "read" p fR) (FR : Fun K "read" "Scheme.read" sSRead fR fdR) (GR : FnOk P w K mg base (L2.CX P w) 9 fR fdR ["cls", "text"] (spSRead C CT)) (bR : Binds K fdR ["cls", "text"] [])
    (sE : PySem.W.findIn K (.ref C) "__eq__" = some (some (.ref fE))) (hE : PySem.W.isFn K (.ref fE) = true) (GE : FnOk P w K mg base CX0 1 fE fdE ["self", "other"] (spEqA K C)) (bE : Binds K fdE ["self", "other"] [])
    (sZ : PySem.W.findIn K (.ref C) "__str__" = some (some (.ref fZ))) (hZ : PySem.W.isFn K (.ref fZ) = true) (GZ : FnOk P w K mg base CX0 6 fZ fdZ ["self"] (spStr C)) (bZ : Binds K fdZ ["self"] [])
    (ms : mg "str" = none) (mrp : mg "repr" = none) :
    FnG P w K mg base 11 f fd ["_law_box_here"] spRight := by
  refine okG F scRi (fun vs H Q E h => ?_) (fun cdv A outer s H vs Q E gu hr h => ?_)
  · obtain ⟨a, n, rfl, _⟩ := h
    rfl
  · obtain ⟨a, n, rfl, hB, hn, q⟩ := h
    have GD2 := GD.imp due_imp
    have hr1 : Room 1 _ := hr.mono (by decide)
    have hr2 : Room 2 _ := hr.mono (by decide)
    have hr3 : Room 3 _ := hr.mono (by decide)
    have hr8 : Room 8 _ := hr.mono (by decide)
    have hr9 : Room 9 _ := hr.mono (by decide)
    apply Exists.intro
    apply And.intro
    · apply pss_cons
      · exact ps_set (i := 1) scRi.nd rfl (.inl rfl) (pe_call GS hr3 (by rfl) gS kS bS .nil pass0 (pa_cons (pv 0) pa_nil))
      apply pss_cons
      · exact ps_par (i := 2) (j := 3) rfl scRi.nd rfl rfl (by decide) rfl rfl (pa_cons (pe_call GM hr9 (by rfl) gM kM bM .nil pass0 (pa_cons (pv 1) pa_nil)) (pa_cons (pe_call GX hr2 (by rfl) gX kX bX .nil pass0 (pa_cons (pe_ix ix_list (pv 1) pe_int (fun _ _ => rfl)) (pa_cons (pe_ix ix_list (pv 1) pe_int (fun _ _ => rfl)) (pa_cons (pe_ix ix_list (pv 1) pe_int (fun _ _ => rfl)) pa_nil)))) pa_nil)) (by rfl)
      apply pss_cons
      · exact ps_if (PW.pt (pw_or (pt_cmpR op_ne (pe_callTy (call_strOwn sZ hZ GZ bZ hr8 pass0) (by rfl) ms PyProof.Rows.boot_str (pa_cons (pv 2) pa_nil)) (pv 3) (nomark _))
          (pw_or (pt_not (pt_cmpR (op_eqOwn sE hE GE bE hr1 pass0) (pe_cmethS (E := fun _ => E0) (pe_glob (v := .ref C) rfl gC rfl) rd cm GR hr9 bR passE (by exact (pa_cons (pv 3) pa_nil))) (pv 2) (nomark _)))
            (pw_or1 (pt_not (pt_cmpR (op_eqOwn sE hE GE bE hr1 pass0) (pe_cmethN (pe_glob (v := .ref C) rfl gC rfl) rd cm GR hr9 (kbSRead FR) passNo (pk_cons (pv 3) pk_nil)) (pv 2) (nomark _))))))) (pss_one (ps_ret pe_bl)) pss_nil
      apply pss_cons
      · exact ps_set (i := 4) scRi.nd rfl (.inl rfl) (pe_call GP hr3 (by rfl) gP kP bP .nil pass0 (pa_cons (pv 0) (pa_cons (pv 3) (pa_cons (pv 1) pa_nil))))
      apply pss_cons
      · exact ps_set (i := 5) scRi.nd rfl (.inl rfl) (pe_call GD2 hr3 (by rfl) gD kD bD .nil pass0 (pa_cons (pv 4) pa_nil))
      apply C8.pss_cut
      · exact ps_if (pt_cmpR op_ne (pe_callB (call_reprD gu hr.units) (by rfl) mrp PyProof.Rows.boot_repr (pa_cons (pe_call GO hr (by rfl) gO kO bO .nil pass0 (pa_cons (pv 4) pa_nil)) pa_nil)) (pe_callB (call_reprD gu hr.units) (by rfl) mrp PyProof.Rows.boot_repr (pa_cons (pe_ifExp (pt_cmpR op_isN (pv 5) pe_non (nomark _)) (pe_lst (pa_cons pe_str (pa_cons (pv 4) pa_nil))) (pv 5)) pa_nil)) (nomark _)) (pss_one (ps_ret pe_bl)) pss_nil
      apply pss_cons
      · exact ps_for PassesOwn.never rfl (pi_list (pe_lst (pa_cons pe_str (pa_cons pe_non (pa_cons pe_int (pa_cons (pe_lst (pa_cons (pv 3) pa_nil)) (pa_cons pe_bl (pa_cons (pe_op op_add_str (pv 3) pe_str) (pa_cons (pe_op op_add_str pe_str (pv 3)) pa_nil))))))))) (pg_name (i := 6) scRi.nd rfl (.inl rfl))
          (pss_one (ps_if (pt_cmpR (op_neD hr.units) (pe_call GO hr (by rfl) gO kO bO .nil pass0 (pa_cons (pv 6) pa_nil)) (pe_lst (pa_cons pe_str (pa_cons (pv 6) pa_nil))) (nomark _)) (pss_one (ps_ret pe_bl)) pss_nil))
      apply pss_one
      · exact ps_ret (pe_cmpR op_eq (pe_callTy (call_strOwn sZ hZ GZ bZ hr8 pass0) (by rfl) ms PyProof.Rows.boot_str (pa_cons (pv 2) pa_nil)) (pv 3) (nomark _))
    have dx : ∀ {J : Hp} {o : Addr} {b : Int} {ds : List Int} {ps : List (Int × Int)}, IsS C J o b ds ps → ∃ dx t r, J o = some (.ins C dx [("_base", .int b), ("_digits", .ref t), ("_bars", .ref r)]) := fun I => by
      obtain ⟨_, _, _, _, _, ⟨⟨d, h⟩, _, _, _⟩⟩ := I
      exact ⟨d, _, _, h⟩
    refine ⟨.ref a, rfl, a, n, rfl, hB, by omega, fun m b ds ps H1 t1 B1 G Mm => ?_⟩
    have Mm0 := Mm
    obtain ⟨dl, pl, ks, rfl, M⟩ := Mm
    have M1 := M H1 But.refl
    refine ⟨.ref m, rfl, m, dl, pl, b, ds, ks, rfl, M1, G, fun o H2 s2 I2 => ?_⟩
    have M2 := M1.same s2
    refine ⟨.ref m, rfl, m, _, 0, .int b, rfl, rfl, SqL.of M2.mo, atI_nat (j := 0) rfl, ?_⟩
    refine ⟨.ref m, rfl, m, _, 1, .ref dl, rfl, rfl, SqL.of M2.mo, atI_nat (j := 1) rfl, ?_⟩
    refine ⟨.ref m, rfl, m, _, 2, .ref pl, rfl, rfl, SqL.of M2.mo, atI_nat (j := 2) rfl, dl, pl, b, ds, ks, rfl, M2.di, M2.pa, M2.pr, G.fit, fun H3 s3 => ?_⟩
    rw [← G.text]
    have eW := G
    refine ⟨_, _, rfl, ?_⟩
    have I3 := I2.same s3
    obtain ⟨d3, _, _, h3⟩ := dx I3
    have hW : ∃ W, W = strS b ds (ks.map (·.2)) := ⟨_, rfl⟩
    obtain ⟨W, eW⟩ := hW
    rw [← eW]
    refine ⟨.ref o, rfl, o, d3, _, rfl, h3, o, b, ds, _, rfl, I3, fun H4 s4 => ⟨_, rfl, .str W, rfl, rfl, _, rfl, iteFB (by rw [eW]; exact neSame rfl) ?_⟩⟩
    have I4 := I3.same s4
    have tW : TOk 293 W := by
      rw [eW]
      exact G.tok
    have fW : Fine W := Fine.of (tW.mono (by decide))
    have only : ∀ {b' ds' ps'}, Good b' ds' ps' → strS b' ds' ps' = W → b' = b ∧ ds' = ds ∧ ps' = ks.map (·.2) := fun G' e => G'.text_one G (e.trans eW)
    refine ⟨rfl, .str W, rfl, .str W, rfl, .inl ⟨W, rfl, fW, fun b' ds' ps' G' e o5 H5 s5 I5 => ?_, fun no => absurd eW.symm (no _ _ _ G)⟩⟩
    obtain ⟨q1, q2, q3⟩ := only G' e
    rw [q1, q2, q3] at I5
    have I6 := I4.same s5
    obtain ⟨d5, _, _, h5⟩ := dx I5
    obtain ⟨d6, _, _, h6⟩ := dx I6
    refine ⟨.ref o, rfl, o5, d5, _, o, d6, _, rfl, rfl, h5, h6, eq_same I5 I6 ?_⟩
    refine ⟨true, rfl, _, rfl, iteF ?_⟩
    refine ⟨rfl, .str W, rfl, rfl, .str W, rfl, .inl ⟨W, rfl, fW, fun b' ds' ps' G' e o7 H7 s7 I7 => ?_, fun no => absurd eW.symm (no _ _ _ G)⟩⟩
    obtain ⟨q4, q5, q6⟩ := only G' e
    rw [q4, q5, q6] at I7
    have I8 := I6.same s7
    obtain ⟨d7, _, _, h7⟩ := dx I7
    obtain ⟨d8, _, _, h8⟩ := dx I8
    refine ⟨.ref o, rfl, o7, d7, _, o, d8, _, rfl, rfl, h7, h8, eq_same I7 I8 ?_⟩
    refine ⟨true, rfl, _, rfl, iteF ?_⟩
    have sA := s2.trans (s3.trans (s4.trans (s5.trans s7)))
    have B8 := B1.same sA
    have T8 := t1.trans (But.of_same sA)
    have Mm8 := Mm0.but (But.of_same sA)
    clear h3 h5 h6 h7 h8 I2 I3 I4 I5 I6 I7 M1 M2
    -- spoilt
    refine ⟨.ref a, rfl, .str W, rfl, .ref m, rfl, a, m, _, b, ds, ks.map (·.2), by rw [← eW]; rfl, B8, by omega, G, Mm8, fun y H9 fy t9 B9 => ?_⟩
    have I9 := I8.stay (box_lst B8) t9
    have T9 := T8.trans t9
    have ly : y.length ≤ 1000 := fy.tok.len
    refine ⟨.str y, rfl, y, rfl, ly, fun v5 H10 s10 due => ?_⟩
    -- told of it
    refine ⟨fun σ' H' => σ' = [some (.ref a), some (.ref m), some (.ref o), some (.str W), some (.str y), some v5, none] ∧ Same H9 H', ?_, ?_⟩
    · rcases due with ⟨b2, ds2, ps2, G2, e2, p2, td, tp, k2, rfl, ep, etd, etp, ek, ekk⟩ | ⟨no, rfl⟩
      · refine ⟨.str y, rfl, .str y, rfl, .inl ⟨y, rfl, fy, fun b3 ds3 ps3 G3 e3 l t r k3 H11 s11 el et er ek3 ekk3 => ?_, fun no => absurd e2 (no _ _ _ G2)⟩⟩
        obtain ⟨q1, q2, q3⟩ := G3.text_one G2 (e3.trans e2.symm)
        rw [q1] at el
        rw [q2] at et
        rw [q3] at ek3
        have d1 := told_dp (K := K) el et er ekk3
        have d2 := told_dp (K := K) (s11 _ _ ep) (s11 _ _ etd) (s11 _ _ etp) fun q hq => s11 _ _ (ekk q hq)
        rw [ek3] at d1
        rw [ek] at d2
        dsimp only [tNil]
        refine G2.shows.rep d1 ?_
        refine ⟨.ref p2, rfl, rfl, _, rfl, iteFB (decide_eq_false fun h => by cases h) ⟨.ref p2, rfl, ?_⟩⟩
        dsimp only [tNil]
        refine G2.shows.rep d2 ?_
        exact ⟨rfl, _, rfl, iteFB (by rw [decide_eq_true rfl]; rfl) ⟨rfl, s10.trans s11⟩⟩
      · refine ⟨.str y, rfl, .str y, rfl, .inl ⟨y, rfl, fy, fun b3 ds3 ps3 G3 e3 => absurd e3 (no _ _ _ G3), fun _ l H11 s11 el => ?_⟩⟩
        dsimp only [tNil]
        refine (text_shows fy.tok).rep (text_dp el) ?_
        refine ⟨.non, rfl, rfl, _, rfl, iteTB (decide_eq_true rfl) ⟨.str y, rfl, (by show 2 ≤ sizeLine; decide), fun l2 hl2 => ?_⟩⟩
        have s12 := same_new (o := .lst [.str "text", .str y]) hl2
        dsimp only [tNil]
        refine (text_shows fy.tok).rep (text_dp upd_same) ?_
        exact ⟨rfl, _, rfl, iteFB (by rw [decide_eq_true rfl]; rfl) ⟨rfl, s10.trans (s11.trans s12)⟩⟩
    clear due s10 H10
    rintro σ' H10 ⟨rfl, s10⟩
    have T10 := T9.trans (But.of_same s10)
    have I10 := I9.same s10
    have B10 := B9.same s10
    -- what is no text, and texts with a sign more
    refine ⟨.str W, rfl, (by show 1 ≤ sizeLine; decide), fun pw hpw => ?_⟩
    have s11 := same_new (o := .lst [.str W]) hpw
    have e11 : (upd H10 pw (.lst [.str W])) pw = some (.lst [.str W]) := upd_same
    generalize upd H10 pw (.lst [.str W]) = H11 at s11 e11 ⊢
    have feed_ok : TOk 1 (Str.ofString "\n") := by decide +kernel
    have two : ∀ {n m : Nat} {x y : Str}, TOk n x → TOk m y → n + m ≤ 10000 → x.length + y.length ≤ sizeLine := fun h k hm => by
      have h1 := h.len
      have h2 := k.len
      rw [sizeLine_eq]
      omega
    refine ⟨.str W, rfl, _, _, rfl, rfl, two tW feed_ok (by decide), .str W, rfl, _, _, rfl, rfl, two wBlank tW (by decide), (by show 7 ≤ sizeLine; decide), fun L hL => ?_⟩
    have f1 : Fine (W ++ Str.ofString "\n") := Fine.of ((tW.app feed_ok).mono (by decide))
    have f2 : Fine (Str.ofString " " ++ W) := Fine.of ((wBlank.app tW).mono (by decide))
    have g1 := no_feed W
    have g2 := no_blank W
    generalize W ++ Str.ofString "\n" = W1 at f1 g1 hL ⊢
    generalize Str.ofString " " ++ W = W2 at f2 g2 hL ⊢
    have s12 := same_new (o := .lst [.str "", .non, .int 3, .ref pw, .bl true, .str W1, .str W2]) hL
    have e12 : (upd H11 L (.lst [.str "", .non, .int 3, .ref pw, .bl true, .str W1, .str W2])) L = some (.lst [.str "", .non, .int 3, .ref pw, .bl true, .str W1, .str W2]) := upd_same
    have e11 := s12 _ _ e11
    have s12 := s11.trans s12
    generalize upd H11 L (.lst [.str "", .non, .int 3, .ref pw, .bl true, .str W1, .str W2]) = H12 at s12 e12 e11 ⊢
    have all : ∀ x ∈ [V.str "", .non, .int 3, .ref pw, .bl true, .str W1, .str W2], ((∃ z, x = .str z ∧ Fine z ∧ NoText z) ∨ NoStr H12 x) ∧ ∃ d, DatOf K H12 x d := fun x hx => by
      simp only [List.mem_cons, List.not_mem_nil, or_false] at hx
      rcases hx with rfl | rfl | rfl | rfl | rfl | rfl | rfl
      · exact ⟨.inl ⟨_, rfl, Fine.of (by decide +kernel), no_empty⟩, _, .str (by decide +kernel)⟩
      · exact ⟨.inr .non, _, .non⟩
      · exact ⟨.inr (.int 3), _, .int⟩
      · exact ⟨.inr (.lst e11), _, .lst1 tW.ok e11⟩
      · exact ⟨.inr (.bl true), _, .bl⟩
      · exact ⟨.inl ⟨_, rfl, f1, g1⟩, _, .str f1.tok.ok⟩
      · exact ⟨.inl ⟨_, rfl, f2, g2⟩, _, .str f2.tok.ok⟩
    have text_ok : PyData.strOk (Str.ofString "text") = true := by decide +kernel
    refine ⟨L, rfl, ⟨_, SqL.of e12⟩, for_list (K := K) (a := L) (xs := [V.str "", .non, .int 3, .ref pw, .bl true, .str W1, .str W2]) (fun i σ H' => (∃ v6, σ = [some (.ref a), some (.ref m), some (.ref o), some (.str W), some (.str y), some v5, v6]) ∧ Same H12 H') ⟨⟨none, rfl⟩, Same.refl _⟩ (fun i σ H' _ h => SqL.of (h.2 _ _ e12)) ?_ ?_⟩
    · rintro i x σ H' hx ⟨⟨v6, rfl⟩, s13⟩
      obtain ⟨kind, d, dat⟩ := all x (List.mem_of_getElem? hx)
      rcases kind with ⟨z, rfl, fz, nz⟩ | no
      · refine ⟨.str z, rfl, .str z, rfl, .inl ⟨z, rfl, fz, fun b3 ds3 ps3 G3 e3 => absurd e3 (nz _ _ _ G3), fun _ l H14 s14 el => ?_⟩⟩
        refine ⟨.str z, rfl, (by show 2 ≤ sizeLine; decide), fun l2 hl2 => ?_⟩
        have s15 := same_new (o := .lst [.str "text", .str z]) hl2
        have sA := s13.trans (s14.trans s15)
        exact pair_ne text_ok (s15 _ _ el) upd_same (dat.dp _ sA) (dat.dp _ sA) dat.can dat.dep ⟨_, rfl, iteF ⟨⟨some (.str z), rfl⟩, sA⟩⟩
      · refine ⟨x, rfl, x, rfl, .inr ⟨no.same s13, fun l H14 s14 el => ?_⟩⟩
        refine ⟨x, rfl, (by show 2 ≤ sizeLine; decide), fun l2 hl2 => ?_⟩
        have s15 := same_new (o := .lst [.str "text", x]) hl2
        have sA := s13.trans (s14.trans s15)
        exact pair_ne text_ok (s15 _ _ el) upd_same (dat.dp _ sA) (dat.dp _ sA) dat.can dat.dep ⟨_, rfl, iteF ⟨⟨some (x), rfl⟩, sA⟩⟩
    · rintro σ H' ⟨⟨v6, rfl⟩, s13⟩
      have sB := s12.trans s13
      have I13 := I10.same sB
      obtain ⟨d13, _, _, h13⟩ := dx I13
      refine ⟨.ref o, rfl, o, d13, _, rfl, h13, o, b, ds, _, rfl, I13, fun H14 s14 => ⟨_, rfl, .str W, rfl, ?_⟩⟩
      have T14 := T10.trans (But.of_same (sB.trans s14))
      have B14 := (B10.same (sB.trans s14)).mono (m := n + 200) (by omega)
      have fin := q H14 T14 B14
      rw [← decide_eq_true (show (V.str (strS b ds (ks.map (·.2))) = V.str W) from by rw [eW])] at fin
      exact ⟨rfl, fin⟩
end
end K08
namespace K08
open PySem PySem.Spec PyProof.Rows L2 OF
abbrev sInBase : Stmt := inClass (topS 3) 0
abbrev sInDig : Stmt := inClass (topS 4) 0
abbrev sInBars : Stmt := inClass (topS 5) 0
abbrev sInRow : Stmt := inClass (topS 6) 0
section
variable {P : Program} {w : World} {K : PySem.W.Frag} {mg : Str → Option Value} {base : Heap}

/-- an error of a class below -/
theorem exm_sub {S D : Addr} (h1 : PySem.W.subIn K (.ref D) (.type "BaseException") = some true) (h2 : PySem.W.isClsIn K D = true) (h3 : PySem.W.typeIn K (.ref D) = some (.type "type")) (h4 : PySem.W.subIn K (.ref S) (.ref D) = some true) : PySem.W.exmOne K (.ref S) (.ref D) = some true := by
  have h2' : (PySem.W.clsIn K D).isSome = true := h2
  unfold PySem.W.exmOne
  simp only [h1, beq_self_eq_true, if_true]
  unfold PySem.W.kitCls
  simp only [h3, h4, h2', beq_self_eq_true, Bool.and_self, if_true]
theorem ok_fig {f : Addr} {fd : FuncData} (F : Fun K "__init__" "FigureError.__init__" sFig f fd) (mV : mg "ValueError" = none) (vV : PySem.W.findCls K (.type "ValueError") (.type "type") "__init__" = some (.val (.builtin "ValueError.__init__"))) :
    FnOk P w K mg base CX0 1 f fd ["self", "text"] (spFig K) := by
  refine F.ok scFig (fun vs H Q E h => ?_) (fun cdv A outer s H vs Q E hr h => ?_)
  · obtain ⟨a, C, v, nm, rfl, _⟩ := h
    rfl
  · obtain ⟨a, C, v, nm, rfl, T, N, ha, q⟩ := h
    refine ⟨_, pss_cons (ps_expr (pe_veinit (by rfl) mV vV (pa_cons (pv 0) (pa_cons (pv 1) pa_nil)))) (pss_one (ps_ost (pv 0) (pe_cname (pv 0)))), ?_⟩
    exact ⟨.ref a, rfl, v, rfl, a, C, [v], rfl, (by show 1 ≤ 1000; decide), T, ha, .ref a, rfl, a, C, nm, rfl, ha, N, .ref a, rfl, a, C, rfl, T, N.no, .inl ⟨ha, fun d hd nd => q d hd nd⟩⟩
theorem sc_InvalidBase : FnScope ["self", "value"] ["self", "value"] (defScope sInBase) := ⟨rfl, rfl, rfl, by decide +kernel, rfl, by decide +kernel, by decide +kernel⟩
theorem ok_InvalidBase {f f0 C C0 : Addr} {fd fd0 : FuncData} (F : Fun K "__init__" "InvalidBase.__init__" sInBase f fd) (F0 : Fun K "__init__" "FigureError.__init__" sFig f0 fd0) (T0 : FigC K mg C0 f0) (b0 : Binds K fd0 ["self", "text"] []) (T : ErrC K mg "InvalidBase" "value" C f)
    (mV : mg "ValueError" = none) (vV : PySem.W.findCls K (.type "ValueError") (.type "type") "__init__" = some (.val (.builtin "ValueError.__init__"))) :
    FnOk P w K mg base CX0 2 f fd ["self", "value"] (spInit K "value" C) := by
  have G0 : FnOk P w K mg base CX0 1 f0 fd0 ["self", "text"] (spFig K) := ok_fig F0 mV vV
  refine F.ok sc_InvalidBase (fun vs H Q E h => ?_) (fun cdv A outer s H vs Q E hr h => ?_)
  · obtain ⟨a, v, rfl, _⟩ := h
    rfl
  · obtain ⟨a, v, rfl, ha, q⟩ := h
    refine ⟨_, pss_cons (ps_expr (pe_unb G0 hr (by rfl) T0.g T0.rd T0.val T0.kp b0 pass0 (pa_cons (pv 0) (pa_cons pe_str pa_nil)))) (pss_one (ps_ost (pv 0) (pv 1))), ?_⟩
    obtain ⟨nm, N⟩ := T.nam
    refine ⟨.ref a, rfl, a, C, _, nm, rfl, T.ox, N, ha, fun d hd nd => ?_⟩
    refine ⟨v, rfl, .ref a, rfl, a, C, rfl, T.ox, T.no, .inr ⟨d, _, upd_same, by rw [upd_ne nd]; exact upd_same, (by show 1 ≤ 900; decide), ?_⟩⟩
    rw [upd_swap nd]
    exact q _ d hd nd

theorem sc_InvalidDigits : FnScope ["self", "value"] ["self", "value"] (defScope sInDig) := ⟨rfl, rfl, rfl, by decide +kernel, rfl, by decide +kernel, by decide +kernel⟩
theorem ok_InvalidDigits {f f0 C C0 : Addr} {fd fd0 : FuncData} (F : Fun K "__init__" "InvalidDigits.__init__" sInDig f fd) (F0 : Fun K "__init__" "FigureError.__init__" sFig f0 fd0) (T0 : FigC K mg C0 f0) (b0 : Binds K fd0 ["self", "text"] []) (T : ErrC K mg "InvalidDigits" "value" C f)
    (mV : mg "ValueError" = none) (vV : PySem.W.findCls K (.type "ValueError") (.type "type") "__init__" = some (.val (.builtin "ValueError.__init__"))) :
    FnOk P w K mg base CX0 2 f fd ["self", "value"] (spInit K "value" C) := by
  have G0 : FnOk P w K mg base CX0 1 f0 fd0 ["self", "text"] (spFig K) := ok_fig F0 mV vV
  refine F.ok sc_InvalidDigits (fun vs H Q E h => ?_) (fun cdv A outer s H vs Q E hr h => ?_)
  · obtain ⟨a, v, rfl, _⟩ := h
    rfl
  · obtain ⟨a, v, rfl, ha, q⟩ := h
    refine ⟨_, pss_cons (ps_expr (pe_unb G0 hr (by rfl) T0.g T0.rd T0.val T0.kp b0 pass0 (pa_cons (pv 0) (pa_cons pe_str pa_nil)))) (pss_one (ps_ost (pv 0) (pv 1))), ?_⟩
    obtain ⟨nm, N⟩ := T.nam
    refine ⟨.ref a, rfl, a, C, _, nm, rfl, T.ox, N, ha, fun d hd nd => ?_⟩
    refine ⟨v, rfl, .ref a, rfl, a, C, rfl, T.ox, T.no, .inr ⟨d, _, upd_same, by rw [upd_ne nd]; exact upd_same, (by show 1 ≤ 900; decide), ?_⟩⟩
    rw [upd_swap nd]
    exact q _ d hd nd

theorem sc_InvalidBars : FnScope ["self", "value"] ["self", "value"] (defScope sInBars) := ⟨rfl, rfl, rfl, by decide +kernel, rfl, by decide +kernel, by decide +kernel⟩
theorem ok_InvalidBars {f f0 C C0 : Addr} {fd fd0 : FuncData} (F : Fun K "__init__" "InvalidBars.__init__" sInBars f fd) (F0 : Fun K "__init__" "FigureError.__init__" sFig f0 fd0) (T0 : FigC K mg C0 f0) (b0 : Binds K fd0 ["self", "text"] []) (T : ErrC K mg "InvalidBars" "value" C f)
    (mV : mg "ValueError" = none) (vV : PySem.W.findCls K (.type "ValueError") (.type "type") "__init__" = some (.val (.builtin "ValueError.__init__"))) :
    FnOk P w K mg base CX0 2 f fd ["self", "value"] (spInit K "value" C) := by
  have G0 : FnOk P w K mg base CX0 1 f0 fd0 ["self", "text"] (spFig K) := ok_fig F0 mV vV
  refine F.ok sc_InvalidBars (fun vs H Q E h => ?_) (fun cdv A outer s H vs Q E hr h => ?_)
  · obtain ⟨a, v, rfl, _⟩ := h
    rfl
  · obtain ⟨a, v, rfl, ha, q⟩ := h
    refine ⟨_, pss_cons (ps_expr (pe_unb G0 hr (by rfl) T0.g T0.rd T0.val T0.kp b0 pass0 (pa_cons (pv 0) (pa_cons pe_str pa_nil)))) (pss_one (ps_ost (pv 0) (pv 1))), ?_⟩
    obtain ⟨nm, N⟩ := T.nam
    refine ⟨.ref a, rfl, a, C, _, nm, rfl, T.ox, N, ha, fun d hd nd => ?_⟩
    refine ⟨v, rfl, .ref a, rfl, a, C, rfl, T.ox, T.no, .inr ⟨d, _, upd_same, by rw [upd_ne nd]; exact upd_same, (by show 1 ≤ 900; decide), ?_⟩⟩
    rw [upd_swap nd]
    exact q _ d hd nd

theorem sc_InvalidRow : FnScope ["self", "row"] ["self", "row"] (defScope sInRow) := ⟨rfl, rfl, rfl, by decide +kernel, rfl, by decide +kernel, by decide +kernel⟩
theorem ok_InvalidRow {f f0 C C0 : Addr} {fd fd0 : FuncData} (F : Fun K "__init__" "InvalidRow.__init__" sInRow f fd) (F0 : Fun K "__init__" "FigureError.__init__" sFig f0 fd0) (T0 : FigC K mg C0 f0) (b0 : Binds K fd0 ["self", "text"] []) (T : ErrC K mg "InvalidRow" "row" C f)
    (mV : mg "ValueError" = none) (vV : PySem.W.findCls K (.type "ValueError") (.type "type") "__init__" = some (.val (.builtin "ValueError.__init__"))) :
    FnOk P w K mg base CX0 2 f fd ["self", "row"] (spInit K "row" C) := by
  have G0 : FnOk P w K mg base CX0 1 f0 fd0 ["self", "text"] (spFig K) := ok_fig F0 mV vV
  refine F.ok sc_InvalidRow (fun vs H Q E h => ?_) (fun cdv A outer s H vs Q E hr h => ?_)
  · obtain ⟨a, v, rfl, _⟩ := h
    rfl
  · obtain ⟨a, v, rfl, ha, q⟩ := h
    refine ⟨_, pss_cons (ps_expr (pe_unb G0 hr (by rfl) T0.g T0.rd T0.val T0.kp b0 pass0 (pa_cons (pv 0) (pa_cons pe_str pa_nil)))) (pss_one (ps_ost (pv 0) (pv 1))), ?_⟩
    obtain ⟨nm, N⟩ := T.nam
    refine ⟨.ref a, rfl, a, C, _, nm, rfl, T.ox, N, ha, fun d hd nd => ?_⟩
    refine ⟨v, rfl, .ref a, rfl, a, C, rfl, T.ox, T.no, .inr ⟨d, _, upd_same, by rw [upd_ne nd]; exact upd_same, (by show 1 ≤ 900; decide), ?_⟩⟩
    rw [upd_swap nd]
    exact q _ d hd nd

theorem sc_InvalidText : FnScope ["self", "text"] ["self", "text"] (defScope sInText) := ⟨rfl, rfl, rfl, by decide +kernel, rfl, by decide +kernel, by decide +kernel⟩
theorem ok_InvalidText {f f0 C C0 : Addr} {fd fd0 : FuncData} (F : Fun K "__init__" "InvalidText.__init__" sInText f fd) (F0 : Fun K "__init__" "FigureError.__init__" sFig f0 fd0) (T0 : FigC K mg C0 f0) (b0 : Binds K fd0 ["self", "text"] []) (T : ErrC K mg "InvalidText" "text" C f)
    (mV : mg "ValueError" = none) (vV : PySem.W.findCls K (.type "ValueError") (.type "type") "__init__" = some (.val (.builtin "ValueError.__init__"))) :
    FnOk P w K mg base CX0 2 f fd ["self", "text"] (spInit K "text" C) := by
  have G0 : FnOk P w K mg base CX0 1 f0 fd0 ["self", "text"] (spFig K) := ok_fig F0 mV vV
  refine F.ok sc_InvalidText (fun vs H Q E h => ?_) (fun cdv A outer s H vs Q E hr h => ?_)
  · obtain ⟨a, v, rfl, _⟩ := h
    rfl
  · obtain ⟨a, v, rfl, ha, q⟩ := h
    refine ⟨_, pss_cons (ps_expr (pe_unb G0 hr (by rfl) T0.g T0.rd T0.val T0.kp b0 pass0 (pa_cons (pv 0) (pa_cons pe_str pa_nil)))) (pss_one (ps_ost (pv 0) (pv 1))), ?_⟩
    obtain ⟨nm, N⟩ := T.nam
    refine ⟨.ref a, rfl, a, C, _, nm, rfl, T.ox, N, ha, fun d hd nd => ?_⟩
    refine ⟨v, rfl, .ref a, rfl, a, C, rfl, T.ox, T.no, .inr ⟨d, _, upd_same, by rw [upd_ne nd]; exact upd_same, (by show 1 ≤ 900; decide), ?_⟩⟩
    rw [upd_swap nd]
    exact q _ d hd nd


def spLaw (K : PySem.W.Frag) : Sp := fun vs H Q _ => ∃ (a : Addr) (ns : List Int), vs = [.ref a] ∧ SqL K H a (ns.map V.int) ∧ ns.length ≤ 63 ∧ ∀ H', Q (.bl true) H'
theorem scL : FnScope ["_law_script", "_law_k"] ["_law_script"] (defScope sLaw) := ⟨rfl, rfl, rfl, by decide +kernel, rfl, by decide +kernel, by decide +kernel⟩
theorem ok_law {f fC fX fR : Addr} {fd fdC fdX fdR : FuncData} (F : Fun K "law" "law" sLaw f fd)
    (FC : Fun K "_law_cell" "_law_cell" sCell fC fdC) (gC : mg "_law_cell" = some (.ref fC)) (bC : Binds K fdC ["_law_script", "_law_k"] [])
    (FX : Fun K "_law_box" "_law_box" sBox fX fdX) (gX : mg "_law_box" = some (.ref fX)) (bX : Binds K fdX ["_law_cell_here"] [])
    (GR : FnG P w K mg base 11 fR fdR ["_law_box_here"] spRight) (gR : mg "_law_right" = some (.ref fR)) (kR : PySem.W.keepIn K (.ref fR) = true) (bR : Binds K fdR ["_law_box_here"] [])
    (mi : mg "int" = none) (ml : mg "len" = none) (mr : mg "range" = none) (mx : mg "max" = none) (mn : mg "min" = none) : FnG P w K mg base 12 f fd ["_law_script"] (spLaw K) := by
  have GC : FnOk P w K mg base CX0 1 fC fdC ["_law_script", "_law_k"] (OF.spCell K) := ok_cell FC ml
  have GX : FnOk P w K mg base CX0 1 fX fdX ["_law_cell_here"] spBox := ok_box FX mi mx
  refine okG F scL (fun vs H Q E h => ?_) (fun cdv A outer s H vs Q E gu hr h => ?_)
  · obtain ⟨a, ns, rfl, _⟩ := h
    rfl
  · obtain ⟨a, ns, rfl, hS, hlen, q⟩ := h
    have hr1 : Room 1 _ := hr.mono (by decide)
    apply Exists.intro
    apply And.intro
    · apply pss_cons
      · exact ps_for PassesOwn.never rfl (pi_range1 rfl mr (pa_cons (pe_callB (call_max2 rfl) (by rfl) mx PyProof.Rows.boot_max (pa_cons pe_int (pa_cons
            (pe_callB (call_min2 rfl) (by rfl) mn PyProof.Rows.boot_min (pa_cons pe_int (pa_cons (pe_callB call_len_seq (by rfl) ml PySem.boot_len (pa_cons (pv 0) pa_nil)) pa_nil))) pa_nil))) pa_nil))
          (pg_name (i := 1) scL.nd rfl (.inl rfl))
          (pss_one (ps_if (pt_not (pt_val (pe_callG GR gu hr (by rfl) gR kR bR pass0 (pa_cons (pe_call GX hr1 (by rfl) gX FX.kp bX .nil pass0 (pa_cons (pe_call GC hr1 (by rfl) gC FC.kp bC .nil pass0 (pa_cons (pv 0) (pa_cons (pv 1) pa_nil))) pa_nil)) pa_nil))))
            (pss_one (ps_ret pe_bl)) pss_nil))
      apply pss_one
      · exact ps_ret pe_bl
    refine ⟨.ref a, rfl, a, _, rfl, .inl hS, _, _, rfl, _, _, rfl, _, rfl, ?_, ?_, for_range (lo := 0) (n := _) (fun i σ H' => ∃ v, σ = [some (.ref a), v] ∧ SqL K H' a (ns.map V.int)) ⟨none, rfl, hS⟩ ?_ ?_⟩
    · rw [List.length_map]
      split <;> split <;> omega
    · rw [List.length_map]
      split <;> split <;> omega
    · rintro i σ H' hi ⟨v, rfl, hS'⟩
      have hi' : i < 1000 := by
        rw [List.length_map] at hi
        split at hi <;> split at hi <;> omega
      refine ⟨.ref a, rfl, .int (0 + i), rfl, a, ns, i, ?_, hS', hi', fun c => ?_⟩
      · rw [Int.zero_add]
        rfl
      refine ⟨c, rfl, fun p H1 hp s1 B1 => ?_⟩
      refine ⟨p, 0, rfl, B1, by decide, fun H2 t2 _ => ⟨true, rfl, iteF ?_⟩⟩
      exact ⟨some (.int (0 + i)), rfl, seq_past hp s1 t2 hS'⟩
    · rintro σ H' ⟨v, rfl, hS'⟩
      exact q H'
end
end K08
namespace K08
open PySem PySem.Spec PyProof.Rows L2 OF
set_option maxHeartbeats 4000000 in
theorem all_mk {l : PySem.W.OpenLaw} {w : World} {K : PySem.W.Frag} {h : Heap} {mg : Str → Option Value} {fa f1 f2 f3 f4 f5 f6 f7 f8 f9 f10 f11 f12 f13 f14 f15 f16 f17 f18 f19 f20 f21 f22 f23 f24 f25 f26 f27 f28 f29 f30 CF fF CS h1 h2 C1 fI1 C2 fI2 C3 fI3 C4 fI4 C5 fI5 : Addr}
    {od1 an1 od2 an2 od3 an3 od4 an4 od5 an5 od6 an6 od7 an7 od8 an8 od9 an9 od10 an10 od11 an11 od12 an12 od13 an13 od14 an14 od15 an15 od16 an16 od17 an17 od18 an18 od19 an19 od20 an20 od21 an21 od22 an22 od23 an23 od24 an24 od25 an25 od26 an26 od27 an27 od28 an28 od29 an29 od30 an30 odF anF odM1 anM1 odM2 anM2 odI1 anI1 odI2 anI2 odI3 anI3 odI4 anI4 odI5 anI5 : Option Addr}
    {sl1 sl2 sl3 sl4 sl5 sl6 sl7 sl8 sl9 sl10 sl11 sl12 sl13 sl14 sl15 sl16 sl17 sl18 sl19 sl20 sl21 sl22 sl23 sl24 sl25 sl26 sl27 sl28 sl29 sl30 slF slM1 slM2 slI1 slI2 slI3 slI4 slI5 : Array (Option Value)}
    {oc1 kV1 dc1 pm1 cd1 ct1 oc2 kV2 dc2 pm2 cd2 ct2 oc3 kV3 dc3 pm3 cd3 ct3 oc4 kV4 dc4 pm4 cd4 ct4 oc5 kV5 dc5 pm5 cd5 ct5 oc6 kV6 dc6 pm6 cd6 ct6 oc7 kV7 dc7 pm7 cd7 ct7 oc8 kV8 dc8 pm8 cd8 ct8 oc9 kV9 dc9 pm9 cd9 ct9 oc10 kV10 dc10 pm10 cd10 ct10 oc11 kV11 dc11 pm11 cd11 ct11 oc12 kV12 dc12 pm12 cd12 ct12 oc13 kV13 dc13 pm13 cd13 ct13 oc14 kV14 dc14 pm14 cd14 ct14 oc15 kV15 dc15 pm15 cd15 ct15 oc16 kV16 dc16 pm16 cd16 ct16 oc17 kV17 dc17 pm17 cd17 ct17 oc18 kV18 dc18 pm18 cd18 ct18 oc19 kV19 dc19 pm19 cd19 ct19 oc20 kV20 dc20 pm20 cd20 ct20 oc21 kV21 dc21 pm21 cd21 ct21 oc22 kV22 dc22 pm22 cd22 ct22 oc23 kV23 dc23 pm23 cd23 ct23 oc24 kV24 dc24 pm24 cd24 ct24 oc25 kV25 dc25 pm25 cd25 ct25 oc26 kV26 dc26 pm26 cd26 ct26 oc27 kV27 dc27 pm27 cd27 ct27 oc28 kV28 dc28 pm28 cd28 ct28 oc29 kV29 dc29 pm29 cd29 ct29 oc30 kV30 dc30 pm30 cd30 ct30 ocF kVF dcF pmF cdF ctF ocM1 kVM1 dcM1 pmM1 cdM1 ctM1 ocM2 kVM2 dcM2 pmM2 cdM2 ctM2 ocI1 kVI1 dcI1 pmI1 cdI1 ctI1 ocI2 kVI2 dcI2 pmI2 cdI2 ctI2 ocI3 kVI3 dcI3 pmI3 cdI3 ctI3 ocI4 kVI4 dcI4 pmI4 cdI4 ctI4 ocI5 kVI5 dcI5 pmI5 cdI5 ctI5 : Value}
    {t6 t9 tb tE : Tok}
    {hN pB pD pR gB gD gR TD DK : Addr}
    {odPB anPB odPD anPD odPR anPR odIn anIn odT : Option Addr}
    {slPB slPD slPR slIn slT : Array (Option Value)}
    {ocPB kVPB dcPB pmPB cdPB ctPB ocPD kVPD dcPD pmPD cdPD ctPD ocPR kVPR dcPR pmPR cdPR ctPR ocIn dcIn pmIn cdIn ctIn : Value}
    {restB restD restR : List Value}
    {nT : Nat}
    {pX gX : Addr}
    {odRX anRX : Option Addr}
    {slRX : Array (Option Value)}
    {ocRX kVRX dcRX pmRX cdRX ctRX : Value}
    {restX : List Value}
    {nm1 q1 : Str} {N1 : Addr} {bs1 : List Value} {sn1 : List Str} {sub1 : List Value} {ab1 : Bool} {col1 : Option Bool} {dd1 : Option Addr} {m01 m11 m31 m51 : Option Value} {cn1 : Str} {tkE1 : Tok}
    {nm2 q2 : Str} {N2 : Addr} {bs2 : List Value} {sn2 : List Str} {sub2 : List Value} {ab2 : Bool} {col2 : Option Bool} {dd2 : Option Addr} {m02 m12 m32 m52 : Option Value} {cn2 : Str} {tkE2 : Tok}
    {nm3 q3 : Str} {N3 : Addr} {bs3 : List Value} {sn3 : List Str} {sub3 : List Value} {ab3 : Bool} {col3 : Option Bool} {dd3 : Option Addr} {m03 m13 m33 m53 : Option Value} {cn3 : Str} {tkE3 : Tok}
    {nm4 q4 : Str} {N4 : Addr} {bs4 : List Value} {sn4 : List Str} {sub4 : List Value} {ab4 : Bool} {col4 : Option Bool} {dd4 : Option Addr} {m04 m14 m34 m54 : Option Value} {cn4 : Str} {tkE4 : Tok}
    {nm5 q5 : Str} {N5 : Addr} {bs5 : List Value} {sn5 : List Str} {sub5 : List Value} {ab5 : Bool} {col5 : Option Bool} {dd5 : Option Addr} {m05 m15 m35 m55 : Option Value} {cn5 : Str} {tkE5 : Tok}
    (X : K.In h) (G : h.Ns mainGlobals mg) (hfa : mg "law" = some (.ref fa))
    (a1 : PySem.W.nsIn K mainGlobals "is_whole" = some (some (.ref f1)))
    (l1 : K.lookup f1 = some ⟨oc1, od1, .func (PySem.W.fnOf "is_whole" "is_whole" (defArgs sWhole) (defBody sWhole) (defScope sWhole) .none kV1 dc1 pm1 an1 cd1 ct1), sl1⟩)
    (c1 : PySem.W.codeIn K cd1 "is_whole" = true)
    (k1 : PySem.W.keepIn K (.ref f1) = true)
    (a2 : PySem.W.nsIn K mainGlobals "is_integer" = some (some (.ref f2)))
    (l2 : K.lookup f2 = some ⟨oc2, od2, .func (PySem.W.fnOf "is_integer" "is_integer" (defArgs sIsInt) (defBody sIsInt) (defScope sIsInt) .none kV2 dc2 pm2 an2 cd2 ct2), sl2⟩)
    (c2 : PySem.W.codeIn K cd2 "is_integer" = true)
    (k2 : PySem.W.keepIn K (.ref f2) = true)
    (a3 : PySem.W.nsIn K mainGlobals "is_base" = some (some (.ref f3)))
    (l3 : K.lookup f3 = some ⟨oc3, od3, .func (PySem.W.fnOf "is_base" "is_base" (defArgs sIsBase) (defBody sIsBase) (defScope sIsBase) .none kV3 dc3 pm3 an3 cd3 ct3), sl3⟩)
    (c3 : PySem.W.codeIn K cd3 "is_base" = true)
    (k3 : PySem.W.keepIn K (.ref f3) = true)
    (a4 : PySem.W.nsIn K mainGlobals "is_digit" = some (some (.ref f4)))
    (l4 : K.lookup f4 = some ⟨oc4, od4, .func (PySem.W.fnOf "is_digit" "is_digit" (defArgs sIsDigit) (defBody sIsDigit) (defScope sIsDigit) .none kV4 dc4 pm4 an4 cd4 ct4), sl4⟩)
    (c4 : PySem.W.codeIn K cd4 "is_digit" = true)
    (k4 : PySem.W.keepIn K (.ref f4) = true)
    (a5 : PySem.W.nsIn K mainGlobals "are_digits" = some (some (.ref f5)))
    (l5 : K.lookup f5 = some ⟨oc5, od5, .func (PySem.W.fnOf "are_digits" "are_digits" (defArgs sAre) (defBody sAre) (defScope sAre) .none kV5 dc5 pm5 an5 cd5 ct5), sl5⟩)
    (c5 : PySem.W.codeIn K cd5 "are_digits" = true)
    (k5 : PySem.W.keepIn K (.ref f5) = true)
    (a6 : PySem.W.nsIn K mainGlobals "_is_one_of" = some (some (.ref f6)))
    (l6 : K.lookup f6 = some ⟨oc6, od6, .func (PySem.W.fnOf "_is_one_of" "_is_one_of" (defArgs sOneOf) (defBody sOneOf) (defScope sOneOf) .none kV6 dc6 pm6 an6 cd6 ct6), sl6⟩)
    (c6 : PySem.W.codeIn K cd6 "_is_one_of" = true)
    (k6 : PySem.W.keepIn K (.ref f6) = true)
    (a7 : PySem.W.nsIn K mainGlobals "_is_pair" = some (some (.ref f7)))
    (l7 : K.lookup f7 = some ⟨oc7, od7, .func (PySem.W.fnOf "_is_pair" "_is_pair" (defArgs sIsPair) (defBody sIsPair) (defScope sIsPair) .none kV7 dc7 pm7 an7 cd7 ct7), sl7⟩)
    (c7 : PySem.W.codeIn K cd7 "_is_pair" = true)
    (k7 : PySem.W.keepIn K (.ref f7) = true)
    (a8 : PySem.W.nsIn K mainGlobals "_is_digit_list" = some (some (.ref f8)))
    (l8 : K.lookup f8 = some ⟨oc8, od8, .func (PySem.W.fnOf "_is_digit_list" "_is_digit_list" (defArgs sDigList) (defBody sDigList) (defScope sDigList) .none kV8 dc8 pm8 an8 cd8 ct8), sl8⟩)
    (c8 : PySem.W.codeIn K cd8 "_is_digit_list" = true)
    (k8 : PySem.W.keepIn K (.ref f8) = true)
    (a9 : PySem.W.nsIn K mainGlobals "_different_digits" = some (some (.ref f9)))
    (l9 : K.lookup f9 = some ⟨oc9, od9, .func (PySem.W.fnOf "_different_digits" "_different_digits" (defArgs sDiffDig) (defBody sDiffDig) (defScope sDiffDig) .none kV9 dc9 pm9 an9 cd9 ct9), sl9⟩)
    (c9 : PySem.W.codeIn K cd9 "_different_digits" = true)
    (k9 : PySem.W.keepIn K (.ref f9) = true)
    (a10 : PySem.W.nsIn K mainGlobals "_different_pairs" = some (some (.ref f10)))
    (l10 : K.lookup f10 = some ⟨oc10, od10, .func (PySem.W.fnOf "_different_pairs" "_different_pairs" (defArgs sDiffPair) (defBody sDiffPair) (defScope sDiffPair) .none kV10 dc10 pm10 an10 cd10 ct10), sl10⟩)
    (c10 : PySem.W.codeIn K cd10 "_different_pairs" = true)
    (k10 : PySem.W.keepIn K (.ref f10) = true)
    (a11 : PySem.W.nsIn K mainGlobals "row_text" = some (some (.ref f11)))
    (l11 : K.lookup f11 = some ⟨oc11, od11, .func (PySem.W.fnOf "row_text" "row_text" (defArgs sRowText) (defBody sRowText) (defScope sRowText) .none kV11 dc11 pm11 an11 cd11 ct11), sl11⟩)
    (c11 : PySem.W.codeIn K cd11 "row_text" = true)
    (k11 : PySem.W.keepIn K (.ref f11) = true)
    (a12 : PySem.W.nsIn K mainGlobals "read_row" = some (some (.ref f12)))
    (l12 : K.lookup f12 = some ⟨oc12, od12, .func (PySem.W.fnOf "read_row" "read_row" (defArgs sRead) (defBody sRead) (defScope sRead) .none kV12 dc12 pm12 an12 cd12 ct12), sl12⟩)
    (c12 : PySem.W.codeIn K cd12 "read_row" = true)
    (k12 : PySem.W.keepIn K (.ref f12) = true)
    (a13 : PySem.W.nsIn K mainGlobals "_read_parts" = some (some (.ref f13)))
    (l13 : K.lookup f13 = some ⟨oc13, od13, .func (PySem.W.fnOf "_read_parts" "_read_parts" (defArgs sParts) (defBody sParts) (defScope sParts) .none kV13 dc13 pm13 an13 cd13 ct13), sl13⟩)
    (c13 : PySem.W.codeIn K cd13 "_read_parts" = true)
    (k13 : PySem.W.keepIn K (.ref f13) = true)
    (a14 : PySem.W.nsIn K mainGlobals "_law_cell" = some (some (.ref f14)))
    (l14 : K.lookup f14 = some ⟨oc14, od14, .func (PySem.W.fnOf "_law_cell" "_law_cell" (defArgs sCell) (defBody sCell) (defScope sCell) .none kV14 dc14 pm14 an14 cd14 ct14), sl14⟩)
    (c14 : PySem.W.codeIn K cd14 "_law_cell" = true)
    (k14 : PySem.W.keepIn K (.ref f14) = true)
    (a15 : PySem.W.nsIn K mainGlobals "_law_box" = some (some (.ref f15)))
    (l15 : K.lookup f15 = some ⟨oc15, od15, .func (PySem.W.fnOf "_law_box" "_law_box" (defArgs sBox) (defBody sBox) (defScope sBox) .none kV15 dc15 pm15 an15 cd15 ct15), sl15⟩)
    (c15 : PySem.W.codeIn K cd15 "_law_box" = true)
    (k15 : PySem.W.keepIn K (.ref f15) = true)
    (a16 : PySem.W.nsIn K mainGlobals "_law_take" = some (some (.ref f16)))
    (l16 : K.lookup f16 = some ⟨oc16, od16, .func (PySem.W.fnOf "_law_take" "_law_take" (defArgs sTake) (defBody sTake) (defScope sTake) .none kV16 dc16 pm16 an16 cd16 ct16), sl16⟩)
    (c16 : PySem.W.codeIn K cd16 "_law_take" = true)
    (k16 : PySem.W.keepIn K (.ref f16) = true)
    (a17 : PySem.W.nsIn K mainGlobals "_law_mixed" = some (some (.ref f17)))
    (l17 : K.lookup f17 = some ⟨oc17, od17, .func (PySem.W.fnOf "_law_mixed" "_law_mixed" (defArgs sMixed) (defBody sMixed) (defScope sMixed) .none kV17 dc17 pm17 an17 cd17 ct17), sl17⟩)
    (c17 : PySem.W.codeIn K cd17 "_law_mixed" = true)
    (k17 : PySem.W.keepIn K (.ref f17) = true)
    (a18 : PySem.W.nsIn K mainGlobals "_law_digits" = some (some (.ref f18)))
    (l18 : K.lookup f18 = some ⟨oc18, od18, .func (PySem.W.fnOf "_law_digits" "_law_digits" (defArgs sDigits) (defBody sDigits) (defScope sDigits) .none kV18 dc18 pm18 an18 cd18 ct18), sl18⟩)
    (c18 : PySem.W.codeIn K cd18 "_law_digits" = true)
    (k18 : PySem.W.keepIn K (.ref f18) = true)
    (a19 : PySem.W.nsIn K mainGlobals "_law_pairs" = some (some (.ref f19)))
    (l19 : K.lookup f19 = some ⟨oc19, od19, .func (PySem.W.fnOf "_law_pairs" "_law_pairs" (defArgs sPairs) (defBody sPairs) (defScope sPairs) .none kV19 dc19 pm19 an19 cd19 ct19), sl19⟩)
    (c19 : PySem.W.codeIn K cd19 "_law_pairs" = true)
    (k19 : PySem.W.keepIn K (.ref f19) = true)
    (a20 : PySem.W.nsIn K mainGlobals "_law_scheme" = some (some (.ref f20)))
    (l20 : K.lookup f20 = some ⟨oc20, od20, .func (PySem.W.fnOf "_law_scheme" "_law_scheme" (defArgs sScheme) (defBody sScheme) (defScope sScheme) .none kV20 dc20 pm20 an20 cd20 ct20), sl20⟩)
    (c20 : PySem.W.codeIn K cd20 "_law_scheme" = true)
    (k20 : PySem.W.keepIn K (.ref f20) = true)
    (a21 : PySem.W.nsIn K mainGlobals "_law_made" = some (some (.ref f21)))
    (l21 : K.lookup f21 = some ⟨oc21, od21, .func (PySem.W.fnOf "_law_made" "_law_made" (defArgs sMade) (defBody sMade) (defScope sMade) .none kV21 dc21 pm21 an21 cd21 ct21), sl21⟩)
    (c21 : PySem.W.codeIn K cd21 "_law_made" = true)
    (k21 : PySem.W.keepIn K (.ref f21) = true)
    (a22 : PySem.W.nsIn K mainGlobals "_law_words" = some (some (.ref f22)))
    (l22 : K.lookup f22 = some ⟨oc22, od22, .func (PySem.W.fnOf "_law_words" "_law_words" (defArgs sWords) (defBody sWords) (defScope sWords) .none kV22 dc22 pm22 an22 cd22 ct22), sl22⟩)
    (c22 : PySem.W.codeIn K cd22 "_law_words" = true)
    (k22 : PySem.W.keepIn K (.ref f22) = true)
    (a23 : PySem.W.nsIn K mainGlobals "_law_text" = some (some (.ref f23)))
    (l23 : K.lookup f23 = some ⟨oc23, od23, .func (PySem.W.fnOf "_law_text" "_law_text" (defArgs sText) (defBody sText) (defScope sText) .none kV23 dc23 pm23 an23 cd23 ct23), sl23⟩)
    (c23 : PySem.W.codeIn K cd23 "_law_text" = true)
    (k23 : PySem.W.keepIn K (.ref f23) = true)
    (a24 : PySem.W.nsIn K mainGlobals "_law_number" = some (some (.ref f24)))
    (l24 : K.lookup f24 = some ⟨oc24, od24, .func (PySem.W.fnOf "_law_number" "_law_number" (defArgs sNumber) (defBody sNumber) (defScope sNumber) .none kV24 dc24 pm24 an24 cd24 ct24), sl24⟩)
    (c24 : PySem.W.codeIn K cd24 "_law_number" = true)
    (k24 : PySem.W.keepIn K (.ref f24) = true)
    (a25 : PySem.W.nsIn K mainGlobals "_law_numbers" = some (some (.ref f25)))
    (l25 : K.lookup f25 = some ⟨oc25, od25, .func (PySem.W.fnOf "_law_numbers" "_law_numbers" (defArgs sNumbers) (defBody sNumbers) (defScope sNumbers) .none kV25 dc25 pm25 an25 cd25 ct25), sl25⟩)
    (c25 : PySem.W.codeIn K cd25 "_law_numbers" = true)
    (k25 : PySem.W.keepIn K (.ref f25) = true)
    (a26 : PySem.W.nsIn K mainGlobals "_law_due" = some (some (.ref f26)))
    (l26 : K.lookup f26 = some ⟨oc26, od26, .func (PySem.W.fnOf "_law_due" "_law_due" (defArgs sDue) (defBody sDue) (defScope sDue) .none kV26 dc26 pm26 an26 cd26 ct26), sl26⟩)
    (c26 : PySem.W.codeIn K cd26 "_law_due" = true)
    (k26 : PySem.W.keepIn K (.ref f26) = true)
    (a27 : PySem.W.nsIn K mainGlobals "_law_told" = some (some (.ref f27)))
    (l27 : K.lookup f27 = some ⟨oc27, od27, .func (PySem.W.fnOf "_law_told" "_law_told" (defArgs sTold) (defBody sTold) (defScope sTold) .none kV27 dc27 pm27 an27 cd27 ct27), sl27⟩)
    (c27 : PySem.W.codeIn K cd27 "_law_told" = true)
    (k27 : PySem.W.keepIn K (.ref f27) = true)
    (a28 : PySem.W.nsIn K mainGlobals "_law_spoilt" = some (some (.ref f28)))
    (l28 : K.lookup f28 = some ⟨oc28, od28, .func (PySem.W.fnOf "_law_spoilt" "_law_spoilt" (defArgs sSpoilt) (defBody sSpoilt) (defScope sSpoilt) .none kV28 dc28 pm28 an28 cd28 ct28), sl28⟩)
    (c28 : PySem.W.codeIn K cd28 "_law_spoilt" = true)
    (k28 : PySem.W.keepIn K (.ref f28) = true)
    (a29 : PySem.W.nsIn K mainGlobals "_law_right" = some (some (.ref f29)))
    (l29 : K.lookup f29 = some ⟨oc29, od29, .func (PySem.W.fnOf "_law_right" "_law_right" (defArgs sRight) (defBody sRight) (defScope sRight) .none kV29 dc29 pm29 an29 cd29 ct29), sl29⟩)
    (c29 : PySem.W.codeIn K cd29 "_law_right" = true)
    (k29 : PySem.W.keepIn K (.ref f29) = true)
    (a30 : PySem.W.nsIn K mainGlobals "law" = some (some (.ref f30)))
    (l30 : K.lookup f30 = some ⟨oc30, od30, .func (PySem.W.fnOf "law" "law" (defArgs sLaw) (defBody sLaw) (defScope sLaw) .none kV30 dc30 pm30 an30 cd30 ct30), sl30⟩)
    (c30 : PySem.W.codeIn K cd30 "law" = true)
    (k30 : PySem.W.keepIn K (.ref f30) = true)
    (aF : PySem.W.nsIn K mainGlobals "FigureError" = some (some (.ref CF)))
    (rF : PySem.W.readsIn K CF (.type "type") = true)
    (gaF : PySem.W.specialIn K (.ref CF) "__getattribute__" = some (some (.builtin "type.__getattribute__")))
    (atF : PySem.W.findCls K (.ref CF) (.type "type") "__init__" = some (.val (.ref fF)))
    (lF : K.lookup fF = some ⟨ocF, odF, .func (PySem.W.fnOf "__init__" "FigureError.__init__" (defArgs sFig) (defBody sFig) (defScope sFig) .none kVF dcF pmF anF cdF ctF), slF⟩)
    (cF : PySem.W.codeIn K cdF "FigureError.__init__" = true)
    (kF : PySem.W.keepIn K (.ref fF) = true)
    (vV : PySem.W.findCls K (.type "ValueError") (.type "type") "__init__" = some (.val (.builtin "ValueError.__init__")))
    (aC1 : PySem.W.nsIn K mainGlobals "InvalidBase" = some (some (.ref C1)))
    (xC1 : K.lookup C1 = some (excClassObj nm1 q1 C1 N1 bs1 [.ref CF, .type "ValueError", .type "Exception", .type "BaseException", .type "object"] true sn1 sub1 ab1 col1 dd1 m01 m11 (some (.str cn1 tkE1)) m31 m51 "ValueError.__new__"))
    (sa1 : PySem.W.findIn K (.ref C1) "__setattr__" = some (some (.builtin "object.__setattr__")))
    (ex1 : PySem.W.subIn K (.ref C1) (.type "BaseException") = some true)
    (ty1 : PySem.W.typeIn K (.ref C1) = some (.type "type"))
    (kC1 : PySem.W.keepIn K (.ref C1) = true)
    (iC1 : PySem.W.findIn K (.ref C1) "__init__" = some (some (.ref fI1)))
    (tI1 : PySem.W.typeIn K (.ref fI1) = some (.type "function"))
    (no1 : PySem.W.findIn K (.ref C1) "value" = some none)
    (ga1 : PySem.W.findIn K (.ref C1) "__getattribute__" = some (some (.builtin "BaseException.__getattribute__")))
    (gg1 : PySem.W.findIn K (.ref C1) "__getattr__" = some none)
    (hd1 : PySem.W.hasDictIn K C1 = true)
    (sb1 : PySem.W.subIn K (.ref C1) (.ref C1) = some true)
    (ic1 : PySem.W.isClsIn K C1 = true)
    (lI1 : K.lookup fI1 = some ⟨ocI1, odI1, .func (PySem.W.fnOf "__init__" "InvalidBase.__init__" (defArgs sInBase) (defBody sInBase) (defScope sInBase) .none kVI1 dcI1 pmI1 anI1 cdI1 ctI1), slI1⟩)
    (cI1 : PySem.W.codeIn K cdI1 "InvalidBase.__init__" = true)
    (kI1 : PySem.W.keepIn K (.ref fI1) = true)
    (aC2 : PySem.W.nsIn K mainGlobals "InvalidDigits" = some (some (.ref C2)))
    (xC2 : K.lookup C2 = some (excClassObj nm2 q2 C2 N2 bs2 [.ref CF, .type "ValueError", .type "Exception", .type "BaseException", .type "object"] true sn2 sub2 ab2 col2 dd2 m02 m12 (some (.str cn2 tkE2)) m32 m52 "ValueError.__new__"))
    (sa2 : PySem.W.findIn K (.ref C2) "__setattr__" = some (some (.builtin "object.__setattr__")))
    (ex2 : PySem.W.subIn K (.ref C2) (.type "BaseException") = some true)
    (ty2 : PySem.W.typeIn K (.ref C2) = some (.type "type"))
    (kC2 : PySem.W.keepIn K (.ref C2) = true)
    (iC2 : PySem.W.findIn K (.ref C2) "__init__" = some (some (.ref fI2)))
    (tI2 : PySem.W.typeIn K (.ref fI2) = some (.type "function"))
    (no2 : PySem.W.findIn K (.ref C2) "value" = some none)
    (ga2 : PySem.W.findIn K (.ref C2) "__getattribute__" = some (some (.builtin "BaseException.__getattribute__")))
    (gg2 : PySem.W.findIn K (.ref C2) "__getattr__" = some none)
    (hd2 : PySem.W.hasDictIn K C2 = true)
    (sb2 : PySem.W.subIn K (.ref C2) (.ref C2) = some true)
    (ic2 : PySem.W.isClsIn K C2 = true)
    (lI2 : K.lookup fI2 = some ⟨ocI2, odI2, .func (PySem.W.fnOf "__init__" "InvalidDigits.__init__" (defArgs sInDig) (defBody sInDig) (defScope sInDig) .none kVI2 dcI2 pmI2 anI2 cdI2 ctI2), slI2⟩)
    (cI2 : PySem.W.codeIn K cdI2 "InvalidDigits.__init__" = true)
    (kI2 : PySem.W.keepIn K (.ref fI2) = true)
    (aC3 : PySem.W.nsIn K mainGlobals "InvalidBars" = some (some (.ref C3)))
    (xC3 : K.lookup C3 = some (excClassObj nm3 q3 C3 N3 bs3 [.ref CF, .type "ValueError", .type "Exception", .type "BaseException", .type "object"] true sn3 sub3 ab3 col3 dd3 m03 m13 (some (.str cn3 tkE3)) m33 m53 "ValueError.__new__"))
    (sa3 : PySem.W.findIn K (.ref C3) "__setattr__" = some (some (.builtin "object.__setattr__")))
    (ex3 : PySem.W.subIn K (.ref C3) (.type "BaseException") = some true)
    (ty3 : PySem.W.typeIn K (.ref C3) = some (.type "type"))
    (kC3 : PySem.W.keepIn K (.ref C3) = true)
    (iC3 : PySem.W.findIn K (.ref C3) "__init__" = some (some (.ref fI3)))
    (tI3 : PySem.W.typeIn K (.ref fI3) = some (.type "function"))
    (no3 : PySem.W.findIn K (.ref C3) "value" = some none)
    (ga3 : PySem.W.findIn K (.ref C3) "__getattribute__" = some (some (.builtin "BaseException.__getattribute__")))
    (gg3 : PySem.W.findIn K (.ref C3) "__getattr__" = some none)
    (hd3 : PySem.W.hasDictIn K C3 = true)
    (sb3 : PySem.W.subIn K (.ref C3) (.ref C3) = some true)
    (ic3 : PySem.W.isClsIn K C3 = true)
    (lI3 : K.lookup fI3 = some ⟨ocI3, odI3, .func (PySem.W.fnOf "__init__" "InvalidBars.__init__" (defArgs sInBars) (defBody sInBars) (defScope sInBars) .none kVI3 dcI3 pmI3 anI3 cdI3 ctI3), slI3⟩)
    (cI3 : PySem.W.codeIn K cdI3 "InvalidBars.__init__" = true)
    (kI3 : PySem.W.keepIn K (.ref fI3) = true)
    (aC4 : PySem.W.nsIn K mainGlobals "InvalidRow" = some (some (.ref C4)))
    (xC4 : K.lookup C4 = some (excClassObj nm4 q4 C4 N4 bs4 [.ref CF, .type "ValueError", .type "Exception", .type "BaseException", .type "object"] true sn4 sub4 ab4 col4 dd4 m04 m14 (some (.str cn4 tkE4)) m34 m54 "ValueError.__new__"))
    (sa4 : PySem.W.findIn K (.ref C4) "__setattr__" = some (some (.builtin "object.__setattr__")))
    (ex4 : PySem.W.subIn K (.ref C4) (.type "BaseException") = some true)
    (ty4 : PySem.W.typeIn K (.ref C4) = some (.type "type"))
    (kC4 : PySem.W.keepIn K (.ref C4) = true)
    (iC4 : PySem.W.findIn K (.ref C4) "__init__" = some (some (.ref fI4)))
    (tI4 : PySem.W.typeIn K (.ref fI4) = some (.type "function"))
    (no4 : PySem.W.findIn K (.ref C4) "row" = some none)
    (ga4 : PySem.W.findIn K (.ref C4) "__getattribute__" = some (some (.builtin "BaseException.__getattribute__")))
    (gg4 : PySem.W.findIn K (.ref C4) "__getattr__" = some none)
    (hd4 : PySem.W.hasDictIn K C4 = true)
    (sb4 : PySem.W.subIn K (.ref C4) (.ref C4) = some true)
    (ic4 : PySem.W.isClsIn K C4 = true)
    (lI4 : K.lookup fI4 = some ⟨ocI4, odI4, .func (PySem.W.fnOf "__init__" "InvalidRow.__init__" (defArgs sInRow) (defBody sInRow) (defScope sInRow) .none kVI4 dcI4 pmI4 anI4 cdI4 ctI4), slI4⟩)
    (cI4 : PySem.W.codeIn K cdI4 "InvalidRow.__init__" = true)
    (kI4 : PySem.W.keepIn K (.ref fI4) = true)
    (aC5 : PySem.W.nsIn K mainGlobals "InvalidText" = some (some (.ref C5)))
    (xC5 : K.lookup C5 = some (excClassObj nm5 q5 C5 N5 bs5 [.ref CF, .type "ValueError", .type "Exception", .type "BaseException", .type "object"] true sn5 sub5 ab5 col5 dd5 m05 m15 (some (.str cn5 tkE5)) m35 m55 "ValueError.__new__"))
    (sa5 : PySem.W.findIn K (.ref C5) "__setattr__" = some (some (.builtin "object.__setattr__")))
    (ex5 : PySem.W.subIn K (.ref C5) (.type "BaseException") = some true)
    (ty5 : PySem.W.typeIn K (.ref C5) = some (.type "type"))
    (kC5 : PySem.W.keepIn K (.ref C5) = true)
    (iC5 : PySem.W.findIn K (.ref C5) "__init__" = some (some (.ref fI5)))
    (tI5 : PySem.W.typeIn K (.ref fI5) = some (.type "function"))
    (no5 : PySem.W.findIn K (.ref C5) "text" = some none)
    (ga5 : PySem.W.findIn K (.ref C5) "__getattribute__" = some (some (.builtin "BaseException.__getattribute__")))
    (gg5 : PySem.W.findIn K (.ref C5) "__getattr__" = some none)
    (hd5 : PySem.W.hasDictIn K C5 = true)
    (sb5 : PySem.W.subIn K (.ref C5) (.ref C5) = some true)
    (ic5 : PySem.W.isClsIn K C5 = true)
    (lI5 : K.lookup fI5 = some ⟨ocI5, odI5, .func (PySem.W.fnOf "__init__" "InvalidText.__init__" (defArgs sInText) (defBody sInText) (defScope sInText) .none kVI5 dcI5 pmI5 anI5 cdI5 ctI5), slI5⟩)
    (cI5 : PySem.W.codeIn K cdI5 "InvalidText.__init__" = true)
    (kI5 : PySem.W.keepIn K (.ref fI5) = true)
    (aS : PySem.W.nsIn K mainGlobals "Scheme" = some (some (.ref CS)))
    (pgS : PySem.W.plainGet K CS Str.empty = true)
    (hdS : PySem.W.hasDictIn K CS = true)
    (poS : PySem.W.plainOver K CS = true)
    (saS : PySem.W.findIn K (.ref CS) "__setattr__" = some (some (.builtin "object.__setattr__")))
    (mkS : PySem.W.makesIn K CS = true)
    (nB : PySem.W.findIn K (.ref CS) "_base" = some none)
    (nD : PySem.W.findIn K (.ref CS) "_digits" = some none)
    (nR : PySem.W.findIn K (.ref CS) "_bars" = some none)
    (haS : PySem.W.findIn K (.ref CS) "__class__" = some (some (.builtin "object.__class__")))
    (xn : PySem.W.specialIn K (.builtin "object.__class__") "__get__" = some (some (.builtin "getset_descriptor.__get__")))
    (xt : PySem.W.takesIn K (.builtin "object.__class__") = some true)
    (hmS : PySem.W.mroIn K CS (.type "object") = some true)
    (sbS : PySem.W.subIn K (.ref CS) (.ref CS) = some true)
    (icS : PySem.W.isClsIn K CS = true)
    (tyS : PySem.W.typeIn K (.ref CS) = some (.type "type"))
    (kpS : PySem.W.keepIn K (.ref CS) = true)
    (at1 : PySem.W.findIn K (.ref CS) "__eq__" = some (some (.ref h1)))
    (fn1 : PySem.W.isFn K (.ref h1) = true)
    (lM1 : K.lookup h1 = some ⟨ocM1, odM1, .func (PySem.W.fnOf "__eq__" "Scheme.__eq__" (defArgs sEq) (defBody sEq) (defScope sEq) .none kVM1 dcM1 pmM1 anM1 cdM1 ctM1), slM1⟩)
    (cM1 : PySem.W.codeIn K cdM1 "Scheme.__eq__" = true)
    (kM1 : PySem.W.keepIn K (.ref h1) = true)
    (at2 : PySem.W.findIn K (.ref CS) "__str__" = some (some (.ref h2)))
    (fn2 : PySem.W.isFn K (.ref h2) = true)
    (lM2 : K.lookup h2 = some ⟨ocM2, odM2, .func (PySem.W.fnOf "__str__" "Scheme.__str__" (defArgs sStr) (defBody sStr) (defScope sStr) .none kVM2 dcM2 pmM2 anM2 cdM2 ctM2), slM2⟩)
    (cM2 : PySem.W.codeIn K cdM2 "Scheme.__str__" = true)
    (kM2 : PySem.W.keepIn K (.ref h2) = true)
    (exF : PySem.W.subIn K (.ref CF) (.type "BaseException") = some true)
    (icF : PySem.W.isClsIn K CF = true)
    (tyF : PySem.W.typeIn K (.ref CF) = some (.type "type"))
    (sF1 : PySem.W.subIn K (.ref C1) (.ref CF) = some true)
    (sF2 : PySem.W.subIn K (.ref C2) (.ref CF) = some true)
    (sF3 : PySem.W.subIn K (.ref C3) (.ref CF) = some true)
    (sF5 : PySem.W.subIn K (.ref C5) (.ref CF) = some true)
    (rdS : PySem.W.readsIn K CS (.type "type") = true)
    (gaS : PySem.W.specialIn K (.ref CS) "__getattribute__" = some (some (.builtin "type.__getattribute__")))
    (atX : PySem.W.findCls K (.ref CS) (.type "type") "read" = some (.get (.builtin "classmethod.__get__") (.ref pX) .none (.ref CS)))
    (rcX : PySem.W.recIn K pX "classmethod" = some (.ref gX :: restX))
    (fiX : PySem.W.fnIn K gX = true)
    (apB : PySem.W.findIn K (.ref CS) "base" = some (some (.ref pB)))
    (gtB : PySem.W.specialIn K (.ref pB) "__get__" = some (some (.builtin "property.__get__")))
    (tkB : PySem.W.takesIn K (.ref pB) = some true)
    (rcB : PySem.W.recIn K pB "property" = some (.ref gB :: restB))
    (apD : PySem.W.findIn K (.ref CS) "digits" = some (some (.ref pD)))
    (gtD : PySem.W.specialIn K (.ref pD) "__get__" = some (some (.builtin "property.__get__")))
    (tkD : PySem.W.takesIn K (.ref pD) = some true)
    (rcD : PySem.W.recIn K pD "property" = some (.ref gD :: restD))
    (apR : PySem.W.findIn K (.ref CS) "bars" = some (some (.ref pR)))
    (gtR : PySem.W.specialIn K (.ref pR) "__get__" = some (some (.builtin "property.__get__")))
    (tkR : PySem.W.takesIn K (.ref pR) = some true)
    (rcR : PySem.W.recIn K pR "property" = some (.ref gR :: restR))
    (atN : PySem.W.findIn K (.ref CS) "__init__" = some (some (.ref hN)))
    (fnN : PySem.W.isFn K (.ref hN) = true)
    (lIn : K.lookup hN = some ⟨ocIn, odIn, .func (PySem.W.fnOf "__init__" "Scheme.__init__" (defArgs sInit) (defBody sInit) (defScope sInit) .none (.ref DK) dcIn pmIn anIn cdIn ctIn), slIn⟩)
    (cIn : PySem.W.codeIn K cdIn "Scheme.__init__" = true)
    (kIn : PySem.W.keepIn K (.ref hN) = true)
    (nsB : PySem.W.nsIn K DK "bars" = some (some (.ref TD)))
    (lT : K.lookup TD = some ⟨.type "tuple", odT, .seq #[] nT, slT⟩)
    (lPB : K.lookup gB = some ⟨ocPB, odPB, .func (PySem.W.fnOf "base" "Scheme.base" (defArgs sPBase) (defBody sPBase) (defScope sPBase) .none kVPB dcPB pmPB anPB cdPB ctPB), slPB⟩)
    (cPB : PySem.W.codeIn K cdPB "Scheme.base" = true)
    (kPB : PySem.W.keepIn K (.ref gB) = true)
    (lPD : K.lookup gD = some ⟨ocPD, odPD, .func (PySem.W.fnOf "digits" "Scheme.digits" (defArgs sPDigits) (defBody sPDigits) (defScope sPDigits) .none kVPD dcPD pmPD anPD cdPD ctPD), slPD⟩)
    (cPD : PySem.W.codeIn K cdPD "Scheme.digits" = true)
    (kPD : PySem.W.keepIn K (.ref gD) = true)
    (lPR : K.lookup gR = some ⟨ocPR, odPR, .func (PySem.W.fnOf "bars" "Scheme.bars" (defArgs sPBars) (defBody sPBars) (defScope sPBars) .none kVPR dcPR pmPR anPR cdPR ctPR), slPR⟩)
    (cPR : PySem.W.codeIn K cdPR "Scheme.bars" = true)
    (kPR : PySem.W.keepIn K (.ref gR) = true)
    (lRX : K.lookup gX = some ⟨ocRX, odRX, .func (PySem.W.fnOf "read" "Scheme.read" (defArgs sSRead) (defBody sSRead) (defScope sSRead) .none kVRX dcRX pmRX anRX cdRX ctRX), slRX⟩)
    (cRX : PySem.W.codeIn K cdRX "Scheme.read" = true)
    (kRX : PySem.W.keepIn K (.ref gX) = true)
    (z1 : PySem.W.nsIn K mainGlobals "len" = some none)
    (z2 : PySem.W.nsIn K mainGlobals "range" = some none)
    (z3 : PySem.W.nsIn K mainGlobals "int" = some none)
    (z4 : PySem.W.nsIn K mainGlobals "bool" = some none)
    (z5 : PySem.W.nsIn K mainGlobals "isinstance" = some none)
    (z6 : PySem.W.nsIn K mainGlobals "repr" = some none)
    (z7 : PySem.W.nsIn K mainGlobals "list" = some none)
    (z8 : PySem.W.nsIn K mainGlobals "tuple" = some none)
    (z9 : PySem.W.nsIn K mainGlobals "set" = some none)
    (z10 : PySem.W.nsIn K mainGlobals "sorted" = some none)
    (z11 : PySem.W.nsIn K mainGlobals "all" = some none)
    (z12 : PySem.W.nsIn K mainGlobals "max" = some none)
    (z13 : PySem.W.nsIn K mainGlobals "min" = some none)
    (z14 : PySem.W.nsIn K mainGlobals "abs" = some none)
    (z15 : PySem.W.nsIn K mainGlobals "ValueError" = some none)
    (z16 : PySem.W.nsIn K mainGlobals "str" = some none)
    (v1 : PySem.W.nsIn K mainGlobals "MOST_DIGITS" = some (some (.int 6 t6)))
    (v2 : PySem.W.nsIn K mainGlobals "GREATEST_DIGIT" = some (some (.int 9 t9)))
    (v3 : PySem.W.nsIn K mainGlobals "GREATEST_BASE" = some (some (.int 6 tb)))
    (v4 : PySem.W.nsIn K mainGlobals "EMPTY_TEXT" = some (some (.str "." tE)))
    (haE1 : PySem.W.findIn K (.ref C1) "__class__" = some (some (.builtin "object.__class__")))
    (hmE1 : PySem.W.mroIn K C1 (.type "object") = some true)
    (fcE1 : PySem.W.findCls K (.ref C1) (.type "type") "__name__" = some (.get (.builtin "getset_descriptor.__get__") (.builtin "type.__name__") (.ref C1) (.type "type")))
    (nnE1 : PySem.W.findIn K (.ref C1) "class_name" = some none)
    (haE2 : PySem.W.findIn K (.ref C2) "__class__" = some (some (.builtin "object.__class__")))
    (hmE2 : PySem.W.mroIn K C2 (.type "object") = some true)
    (fcE2 : PySem.W.findCls K (.ref C2) (.type "type") "__name__" = some (.get (.builtin "getset_descriptor.__get__") (.builtin "type.__name__") (.ref C2) (.type "type")))
    (nnE2 : PySem.W.findIn K (.ref C2) "class_name" = some none)
    (haE3 : PySem.W.findIn K (.ref C3) "__class__" = some (some (.builtin "object.__class__")))
    (hmE3 : PySem.W.mroIn K C3 (.type "object") = some true)
    (fcE3 : PySem.W.findCls K (.ref C3) (.type "type") "__name__" = some (.get (.builtin "getset_descriptor.__get__") (.builtin "type.__name__") (.ref C3) (.type "type")))
    (nnE3 : PySem.W.findIn K (.ref C3) "class_name" = some none)
    (haE4 : PySem.W.findIn K (.ref C4) "__class__" = some (some (.builtin "object.__class__")))
    (hmE4 : PySem.W.mroIn K C4 (.type "object") = some true)
    (fcE4 : PySem.W.findCls K (.ref C4) (.type "type") "__name__" = some (.get (.builtin "getset_descriptor.__get__") (.builtin "type.__name__") (.ref C4) (.type "type")))
    (nnE4 : PySem.W.findIn K (.ref C4) "class_name" = some none)
    (haE5 : PySem.W.findIn K (.ref C5) "__class__" = some (some (.builtin "object.__class__")))
    (hmE5 : PySem.W.mroIn K C5 (.type "object") = some true)
    (fcE5 : PySem.W.findCls K (.ref C5) (.type "type") "__name__" = some (.get (.builtin "getset_descriptor.__get__") (.builtin "type.__name__") (.ref C5) (.type "type")))
    (nnE5 : PySem.W.findIn K (.ref C5) "class_name" = some none)
    (xnE : PySem.W.specialIn K (.builtin "object.__class__") "__get__" = some (some (.builtin "getset_descriptor.__get__")))
    (xtE : PySem.W.takesIn K (.builtin "object.__class__") = some true)
    (stE : PySem.W.nsIn K cStatics "thirdparty.any" = some none)
    : ∃ fd : FuncData, (∀ (s : Shared) (v : Value), BindsTo s fd ⟨[v], []⟩ [("_law_script", v)]) ∧ ∀ base : Heap, K.In base → base.Ns mainGlobals mg → FnG l.prog w K mg base 12 fa fd ["_law_script"] (spLaw K) := by
  have e := hfa.symm.trans (PySem.W.mg_of X G a30)
  cases e
  have F1 := fun_mk (st := sWhole) l1 c1 k1
  have g1 := PySem.W.mg_of X G a1
  have b1 := F1.binds (ps := ["value"]) fun _ _ _ _ _ _ us hl => match us, hl with | [_], _ => rfl
  have F2 := fun_mk (st := sIsInt) l2 c2 k2
  have g2 := PySem.W.mg_of X G a2
  have b2 := F2.binds (ps := ["value", "low", "high"]) fun _ _ _ _ _ _ us hl => match us, hl with | [_, _, _], _ => rfl
  have F3 := fun_mk (st := sIsBase) l3 c3 k3
  have g3 := PySem.W.mg_of X G a3
  have b3 := F3.binds (ps := ["value"]) fun _ _ _ _ _ _ us hl => match us, hl with | [_], _ => rfl
  have F4 := fun_mk (st := sIsDigit) l4 c4 k4
  have g4 := PySem.W.mg_of X G a4
  have b4 := F4.binds (ps := ["value"]) fun _ _ _ _ _ _ us hl => match us, hl with | [_], _ => rfl
  have F5 := fun_mk (st := sAre) l5 c5 k5
  have g5 := PySem.W.mg_of X G a5
  have b5 := F5.binds (ps := ["items"]) fun _ _ _ _ _ _ us hl => match us, hl with | [_], _ => rfl
  have F6 := fun_mk (st := sOneOf) l6 c6 k6
  have g6 := PySem.W.mg_of X G a6
  have b6 := F6.binds (ps := ["digits", "value"]) fun _ _ _ _ _ _ us hl => match us, hl with | [_, _], _ => rfl
  have F7 := fun_mk (st := sIsPair) l7 c7 k7
  have g7 := PySem.W.mg_of X G a7
  have b7 := F7.binds (ps := ["digits", "value"]) fun _ _ _ _ _ _ us hl => match us, hl with | [_, _], _ => rfl
  have F8 := fun_mk (st := sDigList) l8 c8 k8
  have g8 := PySem.W.mg_of X G a8
  have b8 := F8.binds (ps := ["value"]) fun _ _ _ _ _ _ us hl => match us, hl with | [_], _ => rfl
  have F9 := fun_mk (st := sDiffDig) l9 c9 k9
  have g9 := PySem.W.mg_of X G a9
  have b9 := F9.binds (ps := ["digits"]) fun _ _ _ _ _ _ us hl => match us, hl with | [_], _ => rfl
  have F10 := fun_mk (st := sDiffPair) l10 c10 k10
  have g10 := PySem.W.mg_of X G a10
  have b10 := F10.binds (ps := ["digits", "bars"]) fun _ _ _ _ _ _ us hl => match us, hl with | [_, _], _ => rfl
  have F11 := fun_mk (st := sRowText) l11 c11 k11
  have g11 := PySem.W.mg_of X G a11
  have b11 := F11.binds (ps := ["row"]) fun _ _ _ _ _ _ us hl => match us, hl with | [_], _ => rfl
  have F12 := fun_mk (st := sRead) l12 c12 k12
  have g12 := PySem.W.mg_of X G a12
  have b12 := F12.binds (ps := ["text"]) fun _ _ _ _ _ _ us hl => match us, hl with | [_], _ => rfl
  have F13 := fun_mk (st := sParts) l13 c13 k13
  have g13 := PySem.W.mg_of X G a13
  have b13 := F13.binds (ps := ["text"]) fun _ _ _ _ _ _ us hl => match us, hl with | [_], _ => rfl
  have F14 := fun_mk (st := sCell) l14 c14 k14
  have g14 := PySem.W.mg_of X G a14
  have b14 := F14.binds (ps := ["_law_script", "_law_k"]) fun _ _ _ _ _ _ us hl => match us, hl with | [_, _], _ => rfl
  have F15 := fun_mk (st := sBox) l15 c15 k15
  have g15 := PySem.W.mg_of X G a15
  have b15 := F15.binds (ps := ["_law_cell_here"]) fun _ _ _ _ _ _ us hl => match us, hl with | [_], _ => rfl
  have F16 := fun_mk (st := sTake) l16 c16 k16
  have g16 := PySem.W.mg_of X G a16
  have b16 := F16.binds (ps := ["_law_box_here", "_law_many"]) fun _ _ _ _ _ _ us hl => match us, hl with | [_, _], _ => rfl
  have F17 := fun_mk (st := sMixed) l17 c17 k17
  have g17 := PySem.W.mg_of X G a17
  have b17 := F17.binds (ps := ["_law_box_here", "_law_some"]) fun _ _ _ _ _ _ us hl => match us, hl with | [_, _], _ => rfl
  have F18 := fun_mk (st := sDigits) l18 c18 k18
  have g18 := PySem.W.mg_of X G a18
  have b18 := F18.binds (ps := ["_law_box_here", "_law_base"]) fun _ _ _ _ _ _ us hl => match us, hl with | [_, _], _ => rfl
  have F19 := fun_mk (st := sPairs) l19 c19 k19
  have g19 := PySem.W.mg_of X G a19
  have b19 := F19.binds (ps := ["_law_digits_here"]) fun _ _ _ _ _ _ us hl => match us, hl with | [_], _ => rfl
  have F20 := fun_mk (st := sScheme) l20 c20 k20
  have g20 := PySem.W.mg_of X G a20
  have b20 := F20.binds (ps := ["_law_box_here"]) fun _ _ _ _ _ _ us hl => match us, hl with | [_], _ => rfl
  have F21 := fun_mk (st := sMade) l21 c21 k21
  have g21 := PySem.W.mg_of X G a21
  have b21 := F21.binds (ps := ["_law_model"]) fun _ _ _ _ _ _ us hl => match us, hl with | [_], _ => rfl
  have F22 := fun_mk (st := sWords) l22 c22 k22
  have g22 := PySem.W.mg_of X G a22
  have b22 := F22.binds (ps := ["_law_row"]) fun _ _ _ _ _ _ us hl => match us, hl with | [_], _ => rfl
  have F23 := fun_mk (st := sText) l23 c23 k23
  have g23 := PySem.W.mg_of X G a23
  have b23 := F23.binds (ps := ["_law_base", "_law_digits_here", "_law_shut"]) fun _ _ _ _ _ _ us hl => match us, hl with | [_, _, _], _ => rfl
  have F24 := fun_mk (st := sNumber) l24 c24 k24
  have g24 := PySem.W.mg_of X G a24
  have b24 := F24.binds (ps := ["_law_word", "_law_low", "_law_high"]) fun _ _ _ _ _ _ us hl => match us, hl with | [_, _, _], _ => rfl
  have F25 := fun_mk (st := sNumbers) l25 c25 k25
  have g25 := PySem.W.mg_of X G a25
  have b25 := F25.binds (ps := ["_law_wording", "_law_many"]) fun _ _ _ _ _ _ us hl => match us, hl with | [_, _], _ => rfl
  have F26 := fun_mk (st := sDue) l26 c26 k26
  have g26 := PySem.W.mg_of X G a26
  have b26 := F26.binds (ps := ["_law_wording"]) fun _ _ _ _ _ _ us hl => match us, hl with | [_], _ => rfl
  have F27 := fun_mk (st := sTold) l27 c27 k27
  have g27 := PySem.W.mg_of X G a27
  have b27 := F27.binds (ps := ["_law_wording"]) fun _ _ _ _ _ _ us hl => match us, hl with | [_], _ => rfl
  have F28 := fun_mk (st := sSpoilt) l28 c28 k28
  have g28 := PySem.W.mg_of X G a28
  have b28 := F28.binds (ps := ["_law_box_here", "_law_wording", "_law_model"]) fun _ _ _ _ _ _ us hl => match us, hl with | [_, _, _], _ => rfl
  have F29 := fun_mk (st := sRight) l29 c29 k29
  have g29 := PySem.W.mg_of X G a29
  have b29 := F29.binds (ps := ["_law_box_here"]) fun _ _ _ _ _ _ us hl => match us, hl with | [_], _ => rfl
  have F30 := fun_mk (st := sLaw) l30 c30 k30
  have g30 := PySem.W.mg_of X G a30
  have b30 := F30.binds (ps := ["_law_script"]) fun _ _ _ _ _ _ us hl => match us, hl with | [_], _ => rfl
  have FF := fun_mk (st := sFig) lF cF kF
  have bF := FF.binds (ps := ["self", "text"]) fun _ _ _ _ _ _ us hl => match us, hl with | [_, _], _ => rfl
  have TF : FigC K mg CF fF := ⟨PySem.W.mg_of X G aF, ⟨rF, gaF⟩, atF, kF⟩
  have FI1 := fun_mk (st := sInBase) lI1 cI1 kI1
  have bI1 := FI1.binds (ps := ["self", "value"]) fun _ _ _ _ _ _ us hl => match us, hl with | [_, _], _ => rfl
  have T1 : ErrC K mg "InvalidBase" "value" C1 fI1 := ⟨PySem.W.mg_of X G aC1, ⟨⟨_, _, _, _, _, _, _, _, _, _, _, _, _, _, _, xC1, by first | rfl | decide +kernel⟩, sa1, ex1, ty1, kC1⟩, iC1, tI1, no1, ⟨ga1, gg1, ex1, hd1⟩, exm_own ex1 ic1 ty1 sb1, ⟨cn1, ⟨⟨ga1, gg1, ex1, hd1⟩, by simpa [PySem.W.isClsIn] using ic1, haE1, xnE, xtE, hmE1, ty1, stE, fcE1, ⟨_, tkE1, xC1, rfl, rfl⟩, nnE1⟩⟩⟩
  have FI2 := fun_mk (st := sInDig) lI2 cI2 kI2
  have bI2 := FI2.binds (ps := ["self", "value"]) fun _ _ _ _ _ _ us hl => match us, hl with | [_, _], _ => rfl
  have T2 : ErrC K mg "InvalidDigits" "value" C2 fI2 := ⟨PySem.W.mg_of X G aC2, ⟨⟨_, _, _, _, _, _, _, _, _, _, _, _, _, _, _, xC2, by first | rfl | decide +kernel⟩, sa2, ex2, ty2, kC2⟩, iC2, tI2, no2, ⟨ga2, gg2, ex2, hd2⟩, exm_own ex2 ic2 ty2 sb2, ⟨cn2, ⟨⟨ga2, gg2, ex2, hd2⟩, by simpa [PySem.W.isClsIn] using ic2, haE2, xnE, xtE, hmE2, ty2, stE, fcE2, ⟨_, tkE2, xC2, rfl, rfl⟩, nnE2⟩⟩⟩
  have FI3 := fun_mk (st := sInBars) lI3 cI3 kI3
  have bI3 := FI3.binds (ps := ["self", "value"]) fun _ _ _ _ _ _ us hl => match us, hl with | [_, _], _ => rfl
  have T3 : ErrC K mg "InvalidBars" "value" C3 fI3 := ⟨PySem.W.mg_of X G aC3, ⟨⟨_, _, _, _, _, _, _, _, _, _, _, _, _, _, _, xC3, by first | rfl | decide +kernel⟩, sa3, ex3, ty3, kC3⟩, iC3, tI3, no3, ⟨ga3, gg3, ex3, hd3⟩, exm_own ex3 ic3 ty3 sb3, ⟨cn3, ⟨⟨ga3, gg3, ex3, hd3⟩, by simpa [PySem.W.isClsIn] using ic3, haE3, xnE, xtE, hmE3, ty3, stE, fcE3, ⟨_, tkE3, xC3, rfl, rfl⟩, nnE3⟩⟩⟩
  have FI4 := fun_mk (st := sInRow) lI4 cI4 kI4
  have bI4 := FI4.binds (ps := ["self", "row"]) fun _ _ _ _ _ _ us hl => match us, hl with | [_, _], _ => rfl
  have T4 : ErrC K mg "InvalidRow" "row" C4 fI4 := ⟨PySem.W.mg_of X G aC4, ⟨⟨_, _, _, _, _, _, _, _, _, _, _, _, _, _, _, xC4, by first | rfl | decide +kernel⟩, sa4, ex4, ty4, kC4⟩, iC4, tI4, no4, ⟨ga4, gg4, ex4, hd4⟩, exm_own ex4 ic4 ty4 sb4, ⟨cn4, ⟨⟨ga4, gg4, ex4, hd4⟩, by simpa [PySem.W.isClsIn] using ic4, haE4, xnE, xtE, hmE4, ty4, stE, fcE4, ⟨_, tkE4, xC4, rfl, rfl⟩, nnE4⟩⟩⟩
  have FI5 := fun_mk (st := sInText) lI5 cI5 kI5
  have bI5 := FI5.binds (ps := ["self", "text"]) fun _ _ _ _ _ _ us hl => match us, hl with | [_, _], _ => rfl
  have T5 : ErrC K mg "InvalidText" "text" C5 fI5 := ⟨PySem.W.mg_of X G aC5, ⟨⟨_, _, _, _, _, _, _, _, _, _, _, _, _, _, _, xC5, by first | rfl | decide +kernel⟩, sa5, ex5, ty5, kC5⟩, iC5, tI5, no5, ⟨ga5, gg5, ex5, hd5⟩, exm_own ex5 ic5 ty5 sb5, ⟨cn5, ⟨⟨ga5, gg5, ex5, hd5⟩, by simpa [PySem.W.isClsIn] using ic5, haE5, xnE, xtE, hmE5, ty5, stE, fcE5, ⟨_, tkE5, xC5, rfl, rfl⟩, nnE5⟩⟩⟩
  have cS : Cls K CS := ⟨pgS, hdS, poS, saS⟩
  have iS : IsC K CS := ⟨cS, haS, xn, xt, hmS, kit_own icS tyS sbS⟩
  have gS := PySem.W.mg_of X G aS
  have FM1 := fun_mk (st := sEq) lM1 cM1 kM1
  have bM1 := FM1.binds (ps := ["self", "other"]) fun _ _ _ _ _ _ us hl => match us, hl with | [_, _], _ => rfl
  have mm1 : Meth K CS "__eq__" h1 := ⟨at1, fn1, kM1⟩
  have FM2 := fun_mk (st := sStr) lM2 cM2 kM2
  have bM2 := FM2.binds (ps := ["self"]) fun _ _ _ _ _ _ us hl => match us, hl with | [_], _ => rfl
  have mm2 : Meth K CS "__str__" h2 := ⟨at2, fn2, kM2⟩
  have FPB := fun_mk (st := sPBase) lPB cPB kPB
  have bPB := FPB.binds (ps := ["self"]) fun _ _ _ _ _ _ us hl => match us, hl with | [_], _ => rfl
  have FPD := fun_mk (st := sPDigits) lPD cPD kPD
  have bPD := FPD.binds (ps := ["self"]) fun _ _ _ _ _ _ us hl => match us, hl with | [_], _ => rfl
  have FPR := fun_mk (st := sPBars) lPR cPR kPR
  have bPR := FPR.binds (ps := ["self"]) fun _ _ _ _ _ _ us hl => match us, hl with | [_], _ => rfl
  have pb : PropOf K CS "base" pB gB := ⟨apB, gtB, tkB, ⟨_, rcB⟩⟩
  have pd : PropOf K CS "digits" pD gD := ⟨apD, gtD, tkD, ⟨_, rcD⟩⟩
  have pr : PropOf K CS "bars" pR gR := ⟨apR, gtR, tkR, ⟨_, rcR⟩⟩
  have FIn : FunD K "__init__" "Scheme.__init__" (defArgs sInit) (defBody sInit) (defScope sInit) [] [("bars", .ref TD)] hN _ := ⟨⟨_, _, _, _, _, _, _, _, _, _, rfl, lIn, cIn, .inl ⟨rfl, rfl⟩, .inr ⟨DK, rfl, fun q hq => by cases List.mem_singleton.mp hq; exact ⟨_, nsB, rfl⟩⟩⟩, kIn⟩
  have hT : ∀ H, IsSeq K H TD [] := fun H => .kt lT rfl (.inr ⟨_, #[], nT, lT, rfl, rfl, by decide, .nil⟩)
  have FRX := fun_mk (st := sSRead) lRX cRX kRX
  have bRX := FRX.binds (ps := ["cls", "text"]) fun _ _ _ _ _ _ us hl => match us, hl with | [_, _], _ => rfl
  have y_len := PySem.W.mg_none_of X G z1
  have y_range := PySem.W.mg_none_of X G z2
  have y_int := PySem.W.mg_none_of X G z3
  have y_bool := PySem.W.mg_none_of X G z4
  have y_isinstance := PySem.W.mg_none_of X G z5
  have y_repr := PySem.W.mg_none_of X G z6
  have y_list := PySem.W.mg_none_of X G z7
  have y_tuple := PySem.W.mg_none_of X G z8
  have y_set := PySem.W.mg_none_of X G z9
  have y_sorted := PySem.W.mg_none_of X G z10
  have y_all := PySem.W.mg_none_of X G z11
  have y_max := PySem.W.mg_none_of X G z12
  have y_min := PySem.W.mg_none_of X G z13
  have y_abs := PySem.W.mg_none_of X G z14
  have y_ValueError := PySem.W.mg_none_of X G z15
  have y_str := PySem.W.mg_none_of X G z16
  have u_MOST_DIGITS := PySem.W.mg_of X G v1
  have u_GREATEST_DIGIT := PySem.W.mg_of X G v2
  have u_GREATEST_BASE := PySem.W.mg_of X G v3
  have u_EMPTY_TEXT := PySem.W.mg_of X G v4
  refine ⟨PySem.W.fnOf "law" "law" (defArgs sLaw) (defBody sLaw) (defScope sLaw) .none kV30 dc30 pm30 an30 cd30 ct30, fun s v => .of_eq rfl, fun base _ _ => ?_⟩
  have E0x := ok_InvalidText (P := l.prog) (w := w) (base := base) FI5 FF TF bF T5 y_ValueError vV
  have EHx := ok_InTextH (P := l.prog) (w := w) (base := base) FI5 FF TF bF T5 y_ValueError vV
  have E1 := (ok_InvalidBase (P := l.prog) (w := w) (base := base) FI1 FF TF bF T1 y_ValueError vV).mono (by decide : 2 ≤ 3)
  have E2 := (ok_InvalidDigits (P := l.prog) (w := w) (base := base) FI2 FF TF bF T2 y_ValueError vV).mono (by decide : 2 ≤ 3)
  have E3 := (ok_InvalidBars (P := l.prog) (w := w) (base := base) FI3 FF TF bF T3 y_ValueError vV).mono (by decide : 2 ≤ 3)
  have E4 := (ok_InvalidRow (P := l.prog) (w := w) (base := base) FI4 FF TF bF T4 y_ValueError vV).mono (by decide : 2 ≤ 3)
  have G1 := ok_whole (P := l.prog) (w := w) (base := base) F1 y_isinstance y_int y_bool
  have G2 := ok_isint (P := l.prog) (w := w) (base := base) F2 G1 g1 F1.kp b1
  have G3 := ok_isbase (P := l.prog) (w := w) (base := base) F3 G2 g2 F2.kp b2 u_GREATEST_BASE
  have G4 := ok_isdigit (P := l.prog) (w := w) (base := base) F4 G2 g2 F2.kp b2 u_GREATEST_DIGIT
  have G5 := ok_are (P := l.prog) (w := w) (base := base) F5 G4 g4 F4.kp b4 y_all
  have G6 := ok_oneof (P := l.prog) (w := w) (base := base) F6 G4 g4 F4.kp b4
  have G7 := ok_ispair (P := l.prog) (w := w) (base := base) F7 G6 g6 F6.kp b6 y_isinstance y_len y_all y_tuple
  have G8 := ok_diglist (P := l.prog) (w := w) (base := base) F8 G5 g5 F5.kp b5 y_isinstance y_list y_tuple
  have G9 := ok_diffdig (P := l.prog) (w := w) (base := base) F9 G8 g8 F8.kp b8 E2 T2 bI2 u_MOST_DIGITS y_len y_set y_sorted y_tuple
  have G10 := ok_diffpair (P := l.prog) (w := w) (base := base) F10 G7 g7 F7.kp b7 E3 T3 bI3 y_isinstance y_list y_set y_sorted y_tuple
  have GN := ok_new (P := l.prog) (w := w) (base := base) ⟨_, FIn⟩ cS nB nD nR G3 g3 F3.kp b3 G9 g9 F9.kp b9 G10 g10 F10.kp b10 E1 T1 bI1
  have MK : Mk K CS hN := ⟨mkS, atN, fnN, kpS⟩
  have GE := ok_eq (P := l.prog) (w := w) (base := base) FM1 iS nB nD nR gS y_isinstance
  have PBx := ok_pbase (mg := mg) (P := l.prog) (w := w) (base := base) FPB cS nB
  have PDx := ok_pdigits (mg := mg) (P := l.prog) (w := w) (base := base) FPD cS nD
  have PRx := ok_pbars (mg := mg) (P := l.prog) (w := w) (base := base) FPR cS nR
  have GRT := ok_rowtext (P := l.prog) (w := w) (base := base) F11 G5 g5 F5.kp b5 E4 T4 bI4 u_EMPTY_TEXT y_isinstance y_tuple y_str
  have GSt := ok_str (P := l.prog) (w := w) (base := base) FM2 cS nB nD nR GRT g11 F11.kp b11
  have GRD := ok_read (P := l.prog) (w := w) (base := base) F12 E0x T5 bI5 u_EMPTY_TEXT u_GREATEST_DIGIT y_isinstance y_str y_range y_all y_tuple
  have GPT := ok_readparts (P := l.prog) (w := w) (base := base) F13 GRD g12 F12.kp b12 E0x T5 bI5 y_len
  have rd : ClX.CRead K CS (.type "type") := ⟨rdS, gaS⟩
  have cm : ClX.CMet K CS (.type "type") "read" pX gX := ⟨atX, ⟨_, rcX⟩, fiX⟩
  have GSR := ok_sread (P := l.prog) (w := w) (base := base) FRX MK at2 fn2 GPT g13 F13.kp b13 FIn GN GSt bM2 E0x EHx T5 bI5 TF.g (exm_sub exF icF tyF sF5) (exm_sub exF icF tyF sF1) (exm_sub exF icF tyF sF2) (exm_sub exF icF tyF sF3) y_isinstance y_str
  have DG := ok_digits (P := l.prog) (w := w) (base := base) F18 F16 g16 b16 y_int y_len y_range y_list y_abs
  have PR := ok_pairs (mg := mg) (P := l.prog) (w := w) (base := base) F19
  have SC := ok_scheme (P := l.prog) (w := w) (base := base) F20 F16 g16 b16 DG g18 F18.kp b18 PR g19 F19.kp b19 y_int y_sorted
  have MX := ok_mixed (P := l.prog) (w := w) (base := base) F17 F16 g16 b16 y_int y_len y_range y_list
  have MD := ok_madeL (P := l.prog) (w := w) (base := base) F21 FIn MK gS GN
  have WD := ok_words (P := l.prog) (w := w) (base := base) F22 y_str
  have TX := ok_text (P := l.prog) (w := w) (base := base) F23 WD g22 F22.kp b22 y_str y_int
  have NU := ok_number (P := l.prog) (w := w) (base := base) F24 y_str y_range
  have NS := ok_numbers (P := l.prog) (w := w) (base := base) F25 NU g24 F24.kp b24 y_len
  have DU := ok_due (P := l.prog) (w := w) (base := base) F26 NU g24 F24.kp b24 NS g25 F25.kp b25 y_len y_abs y_range y_tuple
  have TO := ok_told (P := l.prog) (w := w) (base := base) F27 cS gS rd cm GSR bRX pb PBx bPB pd PDx bPD pr PRx bPR T5
  have SP := ok_spoilt (P := l.prog) (w := w) (base := base) F28 F16 g16 b16 MX g17 F17.kp b17 TX g23 F23.kp b23 y_int y_len
  have R := ok_right (P := l.prog) (w := w) (base := base) F29 cS SC g20 F20.kp b20 MD g21 F21.kp b21 TX g23 F23.kp b23 SP g28 F28.kp b28 DU g26 F26.kp b26 TO g27 F27.kp b27 gS rd cm FRX GSR bRX at1 fn1 GE bM1 at2 fn2 GSt bM2 y_str y_repr
  exact ok_law F30 F14 g14 b14 F15 g15 b15 R g29 F29.kp b29 y_int y_len y_range y_max y_min
end K08
open PySem PySem.W PyProof.Rows
set_option maxRecDepth 100000 in
set_option maxHeartbeats 0 in
theorem PySem.Challenge.cw_oddfigures_k08_schemes_as_text_holds : PySem.Challenge.rw_oddfigures_k08_schemes_as_text.Holds := by
  w_on; o_law; k_head; (case hw => w_witness2)
  k_fill
  refine OF.walkG (l := PySem.Challenge.rw_oddfigures_k08_schemes_as_text) (m := 63) (n := 12) (x := "_law_script") (sp := fun w => K08.spLaw _) rfl (by decide) rfl ⟨rfl, by decide, by decide⟩ (fun w h Y => PySem.W.kIn_of Y) ?F (fun _ _ a ns hl hS => ⟨a, ns, rfl, hS, hl, fun _ => rfl⟩)
  case F =>
    intro w mg fa h KX G hmg
    refine' K08.all_mk KX G hmg ?a1 ?l1 ?c1 ?k1 ?a2 ?l2 ?c2 ?k2 ?a3 ?l3 ?c3 ?k3 ?a4 ?l4 ?c4 ?k4 ?a5 ?l5 ?c5 ?k5 ?a6 ?l6 ?c6 ?k6 ?a7 ?l7 ?c7 ?k7 ?a8 ?l8 ?c8 ?k8 ?a9 ?l9 ?c9 ?k9 ?a10 ?l10 ?c10 ?k10 ?a11 ?l11 ?c11 ?k11 ?a12 ?l12 ?c12 ?k12 ?a13 ?l13 ?c13 ?k13 ?a14 ?l14 ?c14 ?k14 ?a15 ?l15 ?c15 ?k15 ?a16 ?l16 ?c16 ?k16 ?a17 ?l17 ?c17 ?k17 ?a18 ?l18 ?c18 ?k18 ?a19 ?l19 ?c19 ?k19 ?a20 ?l20 ?c20 ?k20 ?a21 ?l21 ?c21 ?k21 ?a22 ?l22 ?c22 ?k22 ?a23 ?l23 ?c23 ?k23 ?a24 ?l24 ?c24 ?k24 ?a25 ?l25 ?c25 ?k25 ?a26 ?l26 ?c26 ?k26 ?a27 ?l27 ?c27 ?k27 ?a28 ?l28 ?c28 ?k28 ?a29 ?l29 ?c29 ?k29 ?a30 ?l30 ?c30 ?k30 ?aF ?rF ?gaF ?atF ?lF ?cF ?kF ?vV ?aC1 ?xC1 ?sa1 ?ex1 ?ty1 ?kC1 ?iC1 ?tI1 ?no1 ?ga1 ?gg1 ?hd1 ?sb1 ?ic1 ?lI1 ?cI1 ?kI1 ?aC2 ?xC2 ?sa2 ?ex2 ?ty2 ?kC2 ?iC2 ?tI2 ?no2 ?ga2 ?gg2 ?hd2 ?sb2 ?ic2 ?lI2 ?cI2 ?kI2 ?aC3 ?xC3 ?sa3 ?ex3 ?ty3 ?kC3 ?iC3 ?tI3 ?no3 ?ga3 ?gg3 ?hd3 ?sb3 ?ic3 ?lI3 ?cI3 ?kI3 ?aC4 ?xC4 ?sa4 ?ex4 ?ty4 ?kC4 ?iC4 ?tI4 ?no4 ?ga4 ?gg4 ?hd4 ?sb4 ?ic4 ?lI4 ?cI4 ?kI4 ?aC5 ?xC5 ?sa5 ?ex5 ?ty5 ?kC5 ?iC5 ?tI5 ?no5 ?ga5 ?gg5 ?hd5 ?sb5 ?ic5 ?lI5 ?cI5 ?kI5 ?aS ?pgS ?hdS ?poS ?saS ?mkS ?nB ?nD ?nR ?haS ?xn ?xt ?hmS ?sbS ?icS ?tyS ?kpS ?at1 ?fn1 ?lM1 ?cM1 ?kM1 ?at2 ?fn2 ?lM2 ?cM2 ?kM2 ?exF ?icF ?tyF ?sF1 ?sF2 ?sF3 ?sF5 ?rdS ?gaS ?atX ?rcX ?fiX ?apB ?gtB ?tkB ?rcB ?apD ?gtD ?tkD ?rcD ?apR ?gtR ?tkR ?rcR ?atN ?fnN ?lIn ?cIn ?kIn ?nsB ?lT ?lPB ?cPB ?kPB ?lPD ?cPD ?kPD ?lPR ?cPR ?kPR ?lRX ?cRX ?kRX ?z1 ?z2 ?z3 ?z4 ?z5 ?z6 ?z7 ?z8 ?z9 ?z10 ?z11 ?z12 ?z13 ?z14 ?z15 ?z16 ?v1 ?v2 ?v3 ?v4 ?haE1 ?hmE1 ?fcE1 ?nnE1 ?haE2 ?hmE2 ?fcE2 ?nnE2 ?haE3 ?hmE3 ?fcE3 ?nnE3 ?haE4 ?hmE4 ?fcE4 ?nnE4 ?haE5 ?hmE5 ?fcE5 ?nnE5 ?xnE ?xtE ?stE
    (case a1 => k_is)
    (case l1 => k_is)
    (case c1 => k_is)
    (case k1 => k_is)
    (case a2 => k_is)
    (case l2 => k_is)
    (case c2 => k_is)
    (case k2 => k_is)
    (case a3 => k_is)
    (case l3 => k_is)
    (case c3 => k_is)
    (case k3 => k_is)
    (case a4 => k_is)
    (case l4 => k_is)
    (case c4 => k_is)
    (case k4 => k_is)
    (case a5 => k_is)
    (case l5 => k_is)
    (case c5 => k_is)
    (case k5 => k_is)
    (case a6 => k_is)
    (case l6 => k_is)
    (case c6 => k_is)
    (case k6 => k_is)
    (case a7 => k_is)
    (case l7 => k_is)
    (case c7 => k_is)
    (case k7 => k_is)
    (case a8 => k_is)
    (case l8 => k_is)
    (case c8 => k_is)
    (case k8 => k_is)
    (case a9 => k_is)
    (case l9 => k_is)
    (case c9 => k_is)
    (case k9 => k_is)
    (case a10 => k_is)
    (case l10 => k_is)
    (case c10 => k_is)
    (case k10 => k_is)
    (case a11 => k_is)
    (case l11 => k_is)
    (case c11 => k_is)
    (case k11 => k_is)
    (case a12 => k_is)
    (case l12 => k_is)
    (case c12 => k_is)
    (case k12 => k_is)
    (case a13 => k_is)
    (case l13 => k_is)
    (case c13 => k_is)
    (case k13 => k_is)
    (case a14 => k_is)
    (case l14 => k_is)
    (case c14 => k_is)
    (case k14 => k_is)
    (case a15 => k_is)
    (case l15 => k_is)
    (case c15 => k_is)
    (case k15 => k_is)
    (case a16 => k_is)
    (case l16 => k_is)
    (case c16 => k_is)
    (case k16 => k_is)
    (case a17 => k_is)
    (case l17 => k_is)
    (case c17 => k_is)
    (case k17 => k_is)
    (case a18 => k_is)
    (case l18 => k_is)
    (case c18 => k_is)
    (case k18 => k_is)
    (case a19 => k_is)
    (case l19 => k_is)
    (case c19 => k_is)
    (case k19 => k_is)
    (case a20 => k_is)
    (case l20 => k_is)
    (case c20 => k_is)
    (case k20 => k_is)
    (case a21 => k_is)
    (case l21 => k_is)
    (case c21 => k_is)
    (case k21 => k_is)
    (case a22 => k_is)
    (case l22 => k_is)
    (case c22 => k_is)
    (case k22 => k_is)
    (case a23 => k_is)
    (case l23 => k_is)
    (case c23 => k_is)
    (case k23 => k_is)
    (case a24 => k_is)
    (case l24 => k_is)
    (case c24 => k_is)
    (case k24 => k_is)
    (case a25 => k_is)
    (case l25 => k_is)
    (case c25 => k_is)
    (case k25 => k_is)
    (case a26 => k_is)
    (case l26 => k_is)
    (case c26 => k_is)
    (case k26 => k_is)
    (case a27 => k_is)
    (case l27 => k_is)
    (case c27 => k_is)
    (case k27 => k_is)
    (case a28 => k_is)
    (case l28 => k_is)
    (case c28 => k_is)
    (case k28 => k_is)
    (case a29 => k_is)
    (case l29 => k_is)
    (case c29 => k_is)
    (case k29 => k_is)
    (case a30 => k_is)
    (case l30 => k_is)
    (case c30 => k_is)
    (case k30 => k_is)
    (case aF => k_is)
    (case rF => k_is)
    (case gaF => k_is)
    (case atF => k_is)
    (case lF => k_is)
    (case cF => k_is)
    (case kF => k_is)
    (case vV => k_is)
    (case aC1 => k_is)
    (case xC1 => k_is)
    (case sa1 => k_is)
    (case ex1 => k_is)
    (case ty1 => k_is)
    (case kC1 => k_is)
    (case iC1 => k_is)
    (case tI1 => k_is)
    (case no1 => k_is)
    (case ga1 => k_is)
    (case gg1 => k_is)
    (case hd1 => k_is)
    (case sb1 => k_is)
    (case ic1 => k_is)
    (case lI1 => k_is)
    (case cI1 => k_is)
    (case kI1 => k_is)
    (case aC2 => k_is)
    (case xC2 => k_is)
    (case sa2 => k_is)
    (case ex2 => k_is)
    (case ty2 => k_is)
    (case kC2 => k_is)
    (case iC2 => k_is)
    (case tI2 => k_is)
    (case no2 => k_is)
    (case ga2 => k_is)
    (case gg2 => k_is)
    (case hd2 => k_is)
    (case sb2 => k_is)
    (case ic2 => k_is)
    (case lI2 => k_is)
    (case cI2 => k_is)
    (case kI2 => k_is)
    (case aC3 => k_is)
    (case xC3 => k_is)
    (case sa3 => k_is)
    (case ex3 => k_is)
    (case ty3 => k_is)
    (case kC3 => k_is)
    (case iC3 => k_is)
    (case tI3 => k_is)
    (case no3 => k_is)
    (case ga3 => k_is)
    (case gg3 => k_is)
    (case hd3 => k_is)
    (case sb3 => k_is)
    (case ic3 => k_is)
    (case lI3 => k_is)
    (case cI3 => k_is)
    (case kI3 => k_is)
    (case aC4 => k_is)
    (case xC4 => k_is)
    (case sa4 => k_is)
    (case ex4 => k_is)
    (case ty4 => k_is)
    (case kC4 => k_is)
    (case iC4 => k_is)
    (case tI4 => k_is)
    (case no4 => k_is)
    (case ga4 => k_is)
    (case gg4 => k_is)
    (case hd4 => k_is)
    (case sb4 => k_is)
    (case ic4 => k_is)
    (case lI4 => k_is)
    (case cI4 => k_is)
    (case kI4 => k_is)
    (case aC5 => k_is)
    (case xC5 => k_is)
    (case sa5 => k_is)
    (case ex5 => k_is)
    (case ty5 => k_is)
    (case kC5 => k_is)
    (case iC5 => k_is)
    (case tI5 => k_is)
    (case no5 => k_is)
    (case ga5 => k_is)
    (case gg5 => k_is)
    (case hd5 => k_is)
    (case sb5 => k_is)
    (case ic5 => k_is)
    (case lI5 => k_is)
    (case cI5 => k_is)
    (case kI5 => k_is)
    (case aS => k_is)
    (case pgS => k_is)
    (case hdS => k_is)
    (case poS => k_is)
    (case saS => k_is)
    (case mkS => k_is)
    (case nB => k_is)
    (case nD => k_is)
    (case nR => k_is)
    (case haS => k_is)
    (case xn => k_is)
    (case xt => k_is)
    (case hmS => k_is)
    (case sbS => k_is)
    (case icS => k_is)
    (case tyS => k_is)
    (case kpS => k_is)
    (case at1 => k_is)
    (case fn1 => k_is)
    (case lM1 => k_is)
    (case cM1 => k_is)
    (case kM1 => k_is)
    (case at2 => k_is)
    (case fn2 => k_is)
    (case lM2 => k_is)
    (case cM2 => k_is)
    (case kM2 => k_is)
    (case exF => k_is)
    (case icF => k_is)
    (case tyF => k_is)
    (case sF1 => k_is)
    (case sF2 => k_is)
    (case sF3 => k_is)
    (case sF5 => k_is)
    (case rdS => k_is)
    (case gaS => k_is)
    (case atX => k_is)
    (case rcX => k_is)
    (case fiX => k_is)
    (case apB => k_is)
    (case gtB => k_is)
    (case tkB => k_is)
    (case rcB => k_is)
    (case apD => k_is)
    (case gtD => k_is)
    (case tkD => k_is)
    (case rcD => k_is)
    (case apR => k_is)
    (case gtR => k_is)
    (case tkR => k_is)
    (case rcR => k_is)
    (case atN => k_is)
    (case fnN => k_is)
    (case lIn => k_is)
    (case cIn => k_is)
    (case kIn => k_is)
    (case nsB => k_is)
    (case lT => k_is)
    (case lPB => k_is)
    (case cPB => k_is)
    (case kPB => k_is)
    (case lPD => k_is)
    (case cPD => k_is)
    (case kPD => k_is)
    (case lPR => k_is)
    (case cPR => k_is)
    (case kPR => k_is)
    (case lRX => k_is)
    (case cRX => k_is)
    (case kRX => k_is)
    (case z1 => k_is)
    (case z2 => k_is)
    (case z3 => k_is)
    (case z4 => k_is)
    (case z5 => k_is)
    (case z6 => k_is)
    (case z7 => k_is)
    (case z8 => k_is)
    (case z9 => k_is)
    (case z10 => k_is)
    (case z11 => k_is)
    (case z12 => k_is)
    (case z13 => k_is)
    (case z14 => k_is)
    (case z15 => k_is)
    (case z16 => k_is)
    (case v1 => k_is)
    (case v2 => k_is)
    (case v3 => k_is)
    (case v4 => k_is)
    (case haE1 => k_is)
    (case hmE1 => k_is)
    (case fcE1 => k_is)
    (case nnE1 => k_is)
    (case haE2 => k_is)
    (case hmE2 => k_is)
    (case fcE2 => k_is)
    (case nnE2 => k_is)
    (case haE3 => k_is)
    (case hmE3 => k_is)
    (case fcE3 => k_is)
    (case nnE3 => k_is)
    (case haE4 => k_is)
    (case hmE4 => k_is)
    (case fcE4 => k_is)
    (case nnE4 => k_is)
    (case haE5 => k_is)
    (case hmE5 => k_is)
    (case fcE5 => k_is)
    (case nnE5 => k_is)
    (case xnE => k_is)
    (case xtE => k_is)
    (case stE => k_is)
