import PyProof.Rows.All
import Wide.All
import OpenK.AllK
import Wide.FinOn
import HandS.ForMost
import HandS.IsInst
import HandS.Defaults
import HandS.Wide
import HandS.ForExc
import HandS.ExcInit
import HandS.ExcField
import KE.KExcIs
import KE.KTypeName
import HandS.ClsMeth
import HandS.DictComp
import HandS.More
import PyProof.ReprRoads
import HandS.Head2
import HandS.HeadNt
import HandS.HeadHook4
import HandS.HeadWalk
import HandS.SetFor
import HandS.Strs
import HandS.TupSets
import HandS.SortRule
import HandS.Deep
import HandS.TupAny
import HandS.Style
import HandS.Zip
import HandS.Walk
import HandS.MakeKwOnly
import HandS.RaiseMore
import HandS.Property
import HandS.Small
import KE.KDictDisplayH
import HandS.Conv
import HandS.Iter
import HandS.TupLen
import PyProof.DictTruth
import HandS.Nested
import HandS.CallLocal
import OpenK.KOps
import KE.KCallOwn
import KE.KOpsOwn
import HandS.FStr
import KE.KRevSl
import HandS.TupMul
import HandS.ExcOwn
import HandS.TryOnly
import HandS.TupLe
import HandS.MakeKw
import HandS.NestedK
import PySem.Challenge.RW_oddfigures_k19_loops_judged
set_option Elab.async false
set_option linter.all false
set_option maxRecDepth 100000
/-! What the laws of this program have in common: heaps that stay but for one box, the box that draws are taken from, calls by names alone, repr of a truth. -/
namespace OF
open PySem PySem.Spec PyProof.Rows L2

/-! ### heaps that stay but for one place -/
/-- all that was tracked, but for the box at a, is as it was -/
def But (a : Addr) (H H' : Hp) : Prop := ∀ b o, b ≠ a → H b = some o → H' b = some o
theorem But.refl {a : Addr} {H : Hp} : But a H H := fun _ _ _ h => h
theorem But.trans {a : Addr} {H H1 H2 : Hp} (x : But a H H1) (y : But a H1 H2) : But a H H2 := fun b o n h => y b o n (x b o n h)
theorem But.of_same {a : Addr} {H H' : Hp} (x : Same H H') : But a H H' := fun b o _ h => x b o h
theorem But.new {a p : Addr} {H : Hp} {o : HO} (hp : H p = none) : But a H (upd H p o) := fun b u _ h => by
  rw [upd_ne (ne_of_none h hp)]; exact h
theorem But.at_ {a : Addr} {H : Hp} {o : HO} : But a H (upd H a o) := fun b u n h => by
  rw [upd_ne n]; exact h
/-- what was none ahead of the steps is a new place: a store to it keeps all -/
theorem But.store {a p : Addr} {H H1 : Hp} {o : HO} (x : But a H H1) (hp : H p = none) : But a H (upd H1 p o) := fun b u n h => by
  rw [upd_ne (ne_of_none h hp)]; exact x b u n h
theorem But.seqL {K : PySem.W.Frag} {a p : Addr} {H H' : Hp} {xs : List V} (x : But a H H') (n : p ≠ a) (h : SqL K H p xs) : SqL K H' p xs := by
  rcases h with (h | ⟨o, h⟩) | h
  · exact .inl (.inl (x _ _ n h))
  · exact .inl (.inr ⟨o, x _ _ n h⟩)
  · exact .inr h
theorem But.seqT {K : PySem.W.Frag} {a p : Addr} {H H' : Hp} {xs : List V} (x : But a H H') (n : p ≠ a) (h : SqT K H p xs) : SqT K H' p xs := by
  rcases h with (h | ⟨o, h⟩) | h
  · exact .inl (.inl (x _ _ n h))
  · exact .inl (.inr ⟨o, x _ _ n h⟩)
  · exact .inr h
theorem same_new {H : Hp} {p : Addr} {o : HO} (h : H p = none) : Same H (upd H p o) := fun b x e => by
  rw [upd_ne (ne_of_none e h)]; exact e

/-! ### the box -/
/-- at a stands a box: what is left of a large cell, a seed, how many were mixed (at most n) -/
def Box (n : Int) (H : Hp) (a : Addr) : Prop := ∃ b0 b1 b2 : Int, H a = some (.lst [.int b0, .int b1, .int b2]) ∧ 0 ≤ b0 ∧ 0 ≤ b1 ∧ b1 < 2147483648 ∧ 0 ≤ b2 ∧ b2 ≤ n
theorem Box.mono {n m : Int} {H : Hp} {a : Addr} (h : Box n H a) (hm : n ≤ m) : Box m H a := by
  obtain ⟨b0, b1, b2, h1, h2, h3, h4, h5, h6⟩ := h
  exact ⟨b0, b1, b2, h1, h2, h3, h4, h5, by omega⟩
theorem Box.same {n : Int} {H H' : Hp} {a : Addr} (h : Box n H a) (s : Same H H') : Box n H' a := by
  obtain ⟨b0, b1, b2, h1, r⟩ := h
  exact ⟨b0, b1, b2, s _ _ h1, r⟩
theorem Box.new {n : Int} {H : Hp} {a p : Addr} {o : HO} (h : Box n H a) (hp : H p = none) : Box n (upd H p o) a := h.same (same_new hp)
theorem Box.ne {n : Int} {H : Hp} {a p : Addr} (h : Box n H a) (hp : H p = none) : p ≠ a := by
  obtain ⟨b0, b1, b2, h1, r⟩ := h
  exact (ne_of_none h1 hp).symm
theorem Box.upd {n : Int} {H : Hp} {a p : Addr} {o : HO} (h : Box n H a) (hp : p ≠ a) : Box n (L2.upd H p o) a := by
  obtain ⟨b0, b1, b2, h1, r⟩ := h
  exact ⟨b0, b1, b2, by rw [upd_ne hp.symm]; exact h1, r⟩

/-- a draw: box, many; a number from 0 to many - 1, the box goes on -/
def spTake : Sp := fun vs H Q _ => ∃ (a : Addr) (m n : Int), vs = [.ref a, .int m] ∧ Box n H a ∧ n ≤ 1000000 ∧ 0 < m ∧ m.natAbs < 2 ^ 400 ∧
  ∀ (r : Int) (H' : Hp), 0 ≤ r → r < m → But a H H' → Box (n + 1) H' a → Q (.int r) H'
/-- a cell of the script, or a number made of the place -/
def spCell (K : PySem.W.Frag) : Sp := fun vs H Q _ => ∃ (a : Addr) (ns : List Int) (k : Nat), vs = [.ref a, .int k] ∧ SqL K H a (ns.map V.int) ∧ k < 1000 ∧ ∀ c : Int, Q (.int c) H
/-- a new box of a cell -/
def spBox : Sp := fun vs H Q _ => ∃ c : Int, vs = [.int c] ∧ ∀ (p : Addr) (H' : Hp), H p = none → Same H H' → Box 0 H' p → Q (.ref p) H'
/-- a list's items in a drawn order -/
def spMixed (K : PySem.W.Frag) : Sp := fun vs H Q _ => ∃ (a p : Addr) (xs : List V) (n : Int), vs = [.ref a, .ref p] ∧ Box n H a ∧ SqL K H p xs ∧ p ≠ a ∧ xs.length ≤ 1000 ∧ n ≤ 900000 ∧
  ∀ (D : Addr) (ys : List V) (H' : Hp), H D = none → But a H H' → Box (n + xs.length) H' a → H' D = some (.lst ys) → ys.length = xs.length → (∀ y ∈ ys, y ∈ xs) → Q (.ref D) H'

/-! ### calls by names alone -/
section
variable {X : Cx} {CX : CXT} {k : Nat} {f : Addr} {fd : FuncData} {ps ks : List Str} {sp : Sp} {E : XK} {x : Str} {p pos : Pos} {kws : List Keyword} {tk : TA} {g : List Value → List Value → List Value} {gV : List V → List V → List V}
/-- f(k = v, ..) -/
theorem pe_callN0 (F : FnOk X.prog X.w X.K X.mg X.base CX k f fd ps sp) (hr : Room k X.A) (hg : Gl X x) (hm : X.mg x = some (.ref f)) (hk : PySem.W.keepIn X.K (.ref f) = true) (hb : KBn X.K fd ps 0 ks g gV) (hx : Passes CX X E)
    (hkw : PK X kws tk) (hall : (backToKw pos (keywordEach kws X.env)).all (·.1.isSome) = true := by rfl) (hks : (backToKw pos (keywordEach kws X.env)).filterMap (·.1) = ks := by rfl)
    (hdb : (x == ("__debug__" : Str)) = false := by decide)
    (hpl : ((backTo pos (starEach [] X.env)).any (·.1) || (backToKw pos (keywordEach kws X.env)).any (·.1.isNone)) = false := by rfl) :
    PE X (.Call (.Name x p) [] kws pos) (tCallN 0 ks.length sp gV E tNil tk) := by
  refine ⟨fun pins s σ H Q I h => ?_⟩
  refine wpAny_Call_Name_kw (ld_glob I hg hm ?_ hdb)
  refine PySem.W.callWith_KW0 (h₀ := X.base) I.ok.mod.kin hk hall (thn (hkw.run pos pins s σ H _ I h) fun ws s2 ⟨zs, H2, I2, rz, l1, l2, q2⟩ => ⟨I2.kIn, ?_⟩) hpl
  rw [hks]
  exact run_fnN (us := []) (vs := []) F hr hb hx I2 .nil rz l1 l2 q2
/-- % by a positive number: some rest, in its bounds -/
theorem op_modR : OpR X (binaryOp .Mod) (fun x y H Q => ∃ i j : Int, x = .int i ∧ y = .int j ∧ 0 < j ∧ ∀ r : Int, 0 ≤ r → r < j → Q (.int r) H) := by
  intro pins s σ H x y v u Q I rx ry h
  obtain ⟨i, j, e1, e2, hj, q⟩ := h
  exact op_mod pins s σ H x y v u Q I rx ry ⟨i, j, e1, e2, hj, q _ (Int.emod_nonneg _ (by omega)) (Int.emod_lt_of_pos _ hj)⟩
theorem call_repr_bool : CallR X (.builtin "repr") (fun xs H Q => ∃ b, xs = [.bl b] ∧ Q (.str (if b then "True" else "False")) H) := by
  intro pins s σ H xs us Q I r h
  obtain ⟨b, rfl, q⟩ := h
  obtain ⟨u, rfl, hu⟩ := vals1 r
  cases hu
  exact PySem.P.repr_of_bool ⟨.str _, H, I.tok _, ⟨_, rfl⟩, q⟩
end
end OF
namespace OF
open PySem PySem.Spec PyProof.Rows L2
/-- len of a list or tuple -/
abbrev rLenS (K : PySem.W.Frag) : List V → Hp → VK → Prop := fun xs H Q => ∃ p ys, xs = [.ref p] ∧ (SqL K H p ys ∨ SqT K H p ys) ∧ Q (.int ys.length) H
theorem tYes_if {σ : L2.St} {H : Hp} {A B : Hp → Prop} (h : A H) : tYes σ H (fun b H3 => if b = true then A H3 else B H3) := by
  show (if true = true then A H else B H)
  rw [if_pos rfl]
  exact h
/-- both ways of a test lead to the same rest -/
theorem iteDup {c : Bool} {A B R : Prop} (f : R → c = true → A) (g : R → c = false → B) (r : R) : if c = true then A else B := by
  cases c with
  | true => exact iteT (f r rfl)
  | false => exact iteF (g r rfl)
theorem iteAnd {c d : Bool} {A : Prop} {Q : V → Hp → Prop} {H : Hp} (hA : Q (.bl d) H → A) (h : Q (.bl (c && d)) H) : if c = true then A else Q (.bl false) H := by
  cases c with
  | true => exact iteT (hA h)
  | false => exact iteF h
theorem iteOr {c d : Bool} {A : Prop} {Q : V → Hp → Prop} {H : Hp} (hA : Q (.bl d) H → A) (h : Q (.bl (c || d)) H) : if c = true then Q (.bl true) H else A := by
  cases c with
  | true => exact iteT h
  | false => exact iteF (hA h)
/-- an if whose test is known -/
theorem iteTB {c : Bool} {A B : Prop} (e : c = true) (h : A) : if c = true then A else B := by rw [if_pos e]; exact h
theorem iteFB {c : Bool} {A B : Prop} (e : c = false) (h : B) : if c = true then A else B := by rw [if_neg (by rw [e]; exact Bool.false_ne_true)]; exact h
/-- two values that are the same: no difference -/
theorem neSame {x y : V} (h : x = y) : (!decide (x = y)) = false := by rw [decide_eq_true h]; rfl
theorem eqSame {x y : V} (h : x = y) : decide (x = y) = true := decide_eq_true h
theorem seq_past {K : PySem.W.Frag} {H H1 H2 : Hp} {a p : Addr} {xs : List V} (hp : H p = none) (s : Same H H1) (b : But p H1 H2) (h : SqL K H a xs) : SqL K H2 a xs := by
  rcases h with (h | ⟨o, h⟩) | h
  · exact .inl (.inl (b _ _ (ne_of_none h hp) (s _ _ h)))
  · exact .inl (.inr ⟨o, b _ _ (ne_of_none h hp) (s _ _ h)⟩)
  · exact .inr h
/-- an item at a place within -/
theorem pick {xs : List V} {r : Int} (h0 : 0 ≤ r) (h1 : r < xs.length) : ∃ v, atI xs r = some v ∧ v ∈ xs := by
  obtain ⟨k, rfl⟩ := Int.eq_ofNat_of_zero_le h0
  have hk : k < xs.length := by omega
  exact ⟨xs[k], atI_nat (List.getElem?_eq_getElem hk), List.getElem_mem hk⟩
theorem ixN_in {n : Nat} {r : Int} (h0 : 0 ≤ r) (h1 : r < n) : ixN n r = some r.toNat := by
  unfold ixN
  rw [if_pos h0, if_pos h1]
/-- a value of a kind that is no int, or a truth -/
inductive Odd (H : Hp) : V → Prop
  | non : Odd H .non
  | bl (b : Bool) : Odd H (.bl b)
  | str (z : Str) : Odd H (.str z)
  | lst {a : Addr} {xs : List V} (e : H a = some (.lst xs)) : Odd H (.ref a)
  | tup {a : Addr} {xs : List V} (e : H a = some (.tup xs)) : Odd H (.ref a)
  | dK {a : Addr} {kvs : List (Key × V)} (e : H a = some (.dK kvs)) : Odd H (.ref a)
theorem Odd.same {H H' : Hp} {x : V} (h : Odd H x) (s : Same H H') : Odd H' x := by
  cases h with
  | non => exact .non
  | bl b => exact .bl b
  | str z => exact .str z
  | lst e => exact .lst (s _ _ e)
  | tup e => exact .tup (s _ _ e)
  | dK e => exact .dK (s _ _ e)
theorem Odd.kit {K : PySem.W.Frag} {H : Hp} {x : V} (h : Odd H x) : ∃ (t : Value) (b : Bool), TyX K H x t ∧ PySem.W.kitOne K t (.type "int") = some b ∧ (b = true → PySem.W.kitOne K t (.type "bool") = some true) := by
  cases h with
  | non => exact ⟨_, false, .base .non, kit_ty (by decide +kernel), fun z => nomatch z⟩
  | bl b => exact ⟨_, true, .base (.bl b), kit_ty (by decide +kernel), fun _ => kit_ty (by decide +kernel)⟩
  | str z => exact ⟨_, false, .base (.str z), kit_ty (by decide +kernel), fun z => nomatch z⟩
  | lst e => exact ⟨_, false, .base (.lst e), kit_ty (by decide +kernel), fun z => nomatch z⟩
  | tup e => exact ⟨_, false, .base (.tup e), kit_ty (by decide +kernel), fun z => nomatch z⟩
  | dK e => exact ⟨_, false, .base (.dK e), kit_ty (by decide +kernel), fun z => nomatch z⟩
theorem Odd.but {a : Addr} {H H' : Hp} {x : V} (h : Odd H x) (hx : x ≠ .ref a) (t : But a H H') : Odd H' x := by
  cases h with
  | non => exact .non
  | bl b => exact .bl b
  | str z => exact .str z
  | lst e => exact .lst (t _ _ (fun z => hx (congrArg V.ref z)) e)
  | tup e => exact .tup (t _ _ (fun z => hx (congrArg V.ref z)) e)
  | dK e => exact .dK (t _ _ (fun z => hx (congrArg V.ref z)) e)
theorem Same.store {p : Addr} {H H1 : Hp} {o : HO} (x : Same H H1) (hp : H p = none) : Same H (upd H1 p o) := fun b u h => by
  rw [upd_ne (ne_of_none h hp)]; exact x b u h
theorem q_eq {Q : V → Hp → Prop} {H : Hp} {x y : V} (h : x = y) (q : Q (.bl true) H) : Q (.bl (decide (x = y))) H := by
  rw [decide_eq_true h]; exact q
end OF
/-! e.__class__.__name__ of an error that is being made. -/
namespace PySem.W
open PySem PySem.Calls PyProof.Rows PyProof.V PySem.Spec Builtin Builtin.ObjectAttr Builtin.Getset_descriptor
section
variable {prog : Program} {w : World} {A : Around} {E : Value → Shared → Prop} {s : Shared} {K : Frag} {x C : Addr} {ox : Obj} {od : Option Obj} {expr : Bool} {Q : Value → Shared → Prop} {gt : Option Value}
theorem exc_class (X : K.In s.heap) (I : InstAt s.heap x ox C od) (hga : findIn K (.ref C) "__getattribute__" = some (some (.builtin "BaseException.__getattribute__"))) (hgt : findIn K (.ref C) "__getattr__" = some gt)
    (hsub : subIn K (.ref C) (.type "BaseException") = some true) (hf : findObj K C od "__class__" = some (.bind (.builtin "getset_descriptor.__get__") (.builtin "object.__class__"))) (hm : mroIn K C (.type "object") = some true)
    (h : Q (.ref C) { s with toks := s.toks + 1 }) : wpAny (model prog w) A (getAttr (.ref x) "__class__" expr) Q E s := by
  obtain ⟨hp, g, d, t, os⟩ := s
  have L0 := I.type (M := model prog w)
  have L1 := looks_findIn (M := model prog w) X hga
  have L2 := looks_findIn (M := model prog w) X hgt
  have L3 := looks_find (M := model prog w) X I hf
  have sub : Looks (model prog w) hp (isInstance (.ref x) (.type "BaseException")) true := L0.andThen (looks_subIn X hsub)
  have hx0 : (expr && onTheHeap (Value.builtin "BaseException.__getattribute__")) = false := by cases expr <;> rfl
  have hx2 : (Value.builtin "BaseException.__getattribute__" == Value.builtin "object.__getattribute__") = false := by decide +kernel
  have hx1 : (onTheHeap (Value.ref C) && Value.builtin "BaseException.__getattribute__" == Value.builtin "object.__getattribute__") = false := by rw [hx2]; rfl
  unfold getAttr getAttrBy
  refine wpAny_bind (wpAny_mkText (wpAny_holding (wpAny_bind (L0.at (wpAny_bind (L1.at ?_))))))
  show wpAny _ _ (if (onTheHeap (Value.ref C) && Value.builtin "BaseException.__getattribute__" == Value.builtin "object.__getattribute__") = true then _ else _) _ _ _
  rw [hx1, if_neg Bool.false_ne_true]
  unfold getAttrByItsOwn hookBefore
  refine wpAny_bind ?_
  rw [if_pos (show onTheHeap (Value.ref C) = true from rfl)]
  refine L2.at ?_
  refine wpAny_bind (wpAny_attempt (wpAny_holding ?_))
  unfold callGetattribute
  rw [hx0, if_neg Bool.false_ne_true]
  unfold boundAndCalled
  rw [PySem.F.excAttr_ValueError.ga.bind (.ref x)]
  refine wpAny_bind (wpAny_pure ?_)
  show wpAny _ _ (call (.builtin "BaseException.__getattribute__") [.ref x, .str "__class__" t]) _ _ _
  refine wpAny_call (codeAny_call_builtin PySem.F.excAttr_ValueError.ga.plain PySem.F.entry_bexc_ga ?_)
  refine @PySem.W.check_slot (model prog w) _ _ ⟨hp, g, d, t + 1, os⟩ "BaseException.__getattribute__" "BaseException" "__getattribute__" (.ref x) [.str "__class__" t] [] _ (by decide +kernel) (by decide +kernel) sub (PySem.F.args_bexc_ga (.ref x) (.str "__class__" t)) ?_
  unfold Builtin.«object.__getattribute__»
  refine wpAny_bind (wpAny_of_eq (a := ((Value.ref x : Value), [Value.str "__class__" t])) (by first | rfl | (simp only [slotArgs]; rfl)) ?_)
  refine wpAny_bind (wpAny_pure (wpAny_bind (L0.at (wpAny_bind (L3.at ?_)))))
  refine wpAny_bind (wpAny_holding (wpAny_call (class_get (s := ⟨hp, g, d, t + 1, os⟩) (ox := ox) (od := od) X I hm ?_)))
  refine wpAny_pure ?_
  show wpAny _ _ (handedOut (.ref C)) _ _ _
  rw [handedOut_of (show handedIn (.ref C) = true from rfl)]
  first | exact wpAny_pure h | exact wpAny_pure (wpAny_pure h)
theorem cn_dga (d tp : Value) (a : Addr) : descrGetArgs ⟨[d, .ref a, tp], []⟩ = pure (d, some (.ref a), given tp) := by kernel_rfl
theorem cn_get {R : Result → Shared → Prop} {tp v : Value} {o : Obj} (ho : s.heap.get? C = some o) (hc : o.cls = .type "type") (hv : o.slots[2]?.join = some v) (h : R (.ok (.ret v)) s) :
    codeAny (model prog w) A (.call (.builtin "getset_descriptor.__get__") ⟨[.builtin "type.__name__", .ref C, tp], []⟩) R s := by
  obtain ⟨hh, g, dr, t, os⟩ := s
  have L0 : Looks (model prog w) hh (typeOf (.ref C)) (.type "type") := by
    rw [← hc]
    exact (Looks.ld ho).andThen .now
  have L1 : Looks (model prog w) hh (isSubtype (.type "type") (.type "type")) true := Looks.of_pure (by rw [isSubtype_type]; kernel_rfl)
  refine codeAny_call_builtin KF.slot_gs.plain KF.entry_gs (KF.slot_gs.check _ _ _ _ _ _ _ _ ktyn_type (KF.args_gs _ _ _) ?_)
  unfold Builtin.«getset_descriptor.__get__» descrGet
  rw [cn_dga]
  refine wpAny_bind (wpAny_pure ?_)
  unfold descrGetter descrCheckInstance descrNameAndClass isInstance
  simp only [ktyn_owner]
  repeat lk
  refine ⟨Code.quiet_builtin _ (by decide +kernel), codeAny_builtin ktyn_entry ?_⟩
  unfold Builtin.«type.__name__» keptObject slotAt
  dsimp only
  refine wpAny_bind (wpAny_bind (wpAny_loadPart_at ho (wpAny_pure ?_)))
  rw [hv]
  exact wpAny_pure h
theorem cn_attr {v : Value} {o : Obj} (X : K.In s.heap) (ty : typeIn K (.ref C) = some (.type "type")) (st : nsIn K cStatics "thirdparty.any" = some none)
    (e : findCls K (.ref C) (.type "type") "__name__" = some (.get (.builtin "getset_descriptor.__get__") (.builtin "type.__name__") (.ref C) (.type "type"))) (lk : K.lookup C = some o) (hc : o.cls = .type "type") (hv : o.slots[2]?.join = some v) (hh : handedIn v = true)
    (h : Q v { s with toks := s.toks + 1 }) : wpAny (model prog w) A (getAttr (.ref C) "__name__" expr) Q E s := by
  have ho := X _ _ lk
  have L0 : Looks (model prog w) s.heap (typeOf (.ref C)) (.type "type") := by
    rw [← hc]
    exact (Looks.ld ho).andThen .now
  have hg : findIn K (.type "type") "__getattribute__" = some (some (.builtin "type.__getattribute__")) := type_tga
  refine cls_open X (looks_opaque X st) L0 hg (looks_hook X (r := none) (by rfl)) (by show subIn K _ _ = _; rfl) e ?_
  show wpAny _ _ (do ret (← holding [Value.builtin "type.__name__"] (call (.builtin "getset_descriptor.__get__") [.builtin "type.__name__", .ref C, .type "type"]))) _ _ _
  refine wpAny_bind (wpAny_holding (wpAny_call (cn_get (s := { s with toks := s.toks + 1 }) ho hc hv ?_)))
  refine wpAny_pure ?_
  show wpAny _ _ (handedOut v) _ _ _
  rw [handedOut_of hh]
  first | exact wpAny_pure h | exact wpAny_pure (wpAny_pure h)
end
end PySem.W
namespace OF
open PySem PySem.Spec PyProof.Rows L2
/-- what an error class says, so that the name of its class is told -/
structure NamC (K : PySem.W.Frag) (C : Addr) (nm : Str) : Prop where
  xf : XfC K C
  cl : (PySem.W.clsIn K C).isSome = true
  ha : PySem.W.findIn K (.ref C) "__class__" = some (some (.builtin "object.__class__"))
  hn : PySem.W.specialIn K (.builtin "object.__class__") "__get__" = some (some (.builtin "getset_descriptor.__get__"))
  ht : PySem.W.takesIn K (.builtin "object.__class__") = some true
  hm : PySem.W.mroIn K C (.type "object") = some true
  ty : PySem.W.typeIn K (.ref C) = some (.type "type")
  st : PySem.W.nsIn K cStatics "thirdparty.any" = some none
  fc : PySem.W.findCls K (.ref C) (.type "type") "__name__" = some (.get (.builtin "getset_descriptor.__get__") (.builtin "type.__name__") (.ref C) (.type "type"))
  lk : ∃ (o : Obj) (t : Tok), K.lookup C = some o ∧ o.cls = .type "type" ∧ o.slots[2]?.join = some (.str nm t)
  no : PySem.W.findIn K (.ref C) "class_name" = some none
section
variable {X : Cx} {e : Expr} {te : TE} {p1 p2 : Pos}
/-- e.__class__.__name__ -/
def tCname (K : PySem.W.Frag) (te : TE) : TE := fun σ H Q => te σ H fun x H1 => ∃ (a C : Addr) (nm : Str), x = .ref a ∧ H1 a = some (exo a C none) ∧ NamC K C nm ∧ Q (.str nm) H1
theorem pe_cname (he : PE X e te) (hb : attributeBase e "__class__" X.env (eval e X.env) = eval e X.env := by rfl) (hb2 : attributeBase (.Attribute e "__class__" p1) "__name__" X.env (eval (.Attribute e "__class__" p1) X.env) = eval (.Attribute e "__class__" p1) X.env := by rfl) :
    PE X (.Attribute (.Attribute e "__class__" p1) "__name__" p2) (tCname X.K te) := by
  refine ⟨fun pins s σ H Q I h => ?_⟩
  refine attr_of hb2 (attr_of hb (thn (he.run pins s σ H _ I h) fun u s1 hh => ?_))
  obtain ⟨x, H1, I1, rx, a, C, nm, ex, ea, N, q⟩ := hh
  subst ex
  obtain rfl : u = Value.ref a := rx
  obtain ⟨t1, ho⟩ := exo_at I1.hok ea
  have J : PySem.W.InstAt s1.heap a { cls := .ref C, dict := none, data := .fields #[.ref t1, .none, .none, .none, .bool false, .none] } C none := ⟨ho, rfl, rfl, trivial⟩
  refine PySem.W.exc_class I1.kIn J N.xf.ga N.xf.gg N.xf.exC (PySem.W.findObj_dataE N.cl N.ha N.hn N.ht) N.hm ?_
  obtain ⟨o, t, lk, hc, hv⟩ := N.lk
  refine PySem.W.cn_attr (s := { s1 with toks := s1.toks + 1 }) (I1.tok _).kIn N.ty N.st N.fc lk hc hv rfl ?_
  exact ⟨.str nm, H1, (I1.tok _).tok _, ⟨_, rfl⟩, q⟩
end
end OF
/-! The errors of the program: two classes deep, each with an __init__ of its own that calls the one above by its class. -/
namespace OF
open PySem PySem.Spec PyProof.Rows L2

/-! ### C.m(e, ..), m a plain def read off the class -/
section
variable {X : Cx} {CX : CXT} {k : Nat} {C f : Addr} {fd : FuncData} {ps : List Str} {sp : Sp} {E : XK} {x m : Str} {p p1 p2 pos : Pos} {e : Expr} {es : List Expr} {t : TA} {mc : Value}
theorem pe_unb {pl : Sem Bool} (F : FnOk X.prog X.w X.K X.mg X.base CX k f fd ps sp) (hr : Room k X.A) (hg : Gl X x) (hm : X.mg x = some (.ref C)) (r : ClX.CRead X.K C mc) (c : ClX.CVal X.K C mc m (.ref f) (.ref f)) (hk : PySem.W.keepIn X.K (.ref f) = true)
    (hb : Binds X.K fd ps []) (hx : Passes CX X E) (ha : PA X (e :: es) t)
    (hc : eval (.Call (.Attribute (.Name x p1) m p2) (e :: es) [] pos) X.env = (do
      let ov ← eval (.Name x p1) X.env
      standAt p2.atName
      let (f, first) ← holding [ov] (getMethod ov m pl)
      callWith pos f first (backTo pos (starEach (e :: es) X.env)) (backToKw pos (keywordEach [] X.env))) := by rfl)
    (hdb : (x == ("__debug__" : Str)) = false := by decide) (he : starEach (e :: es) X.env = (false, eval e X.env) :: starEach es X.env := by rfl) (hpl : (backTo pos (starEach es X.env)).any (·.1) = false := by rfl) :
    PE X (.Call (.Attribute (.Name x p1) m p2) (e :: es) [] pos) (tCall sp [] E t) := by
  refine ⟨fun pins s σ H Q I h => ?_⟩
  refine PySem.W.methodCall_KW (ld_glob I hg hm ?_ hdb) hc
  refine PySem.W.method_cls I.kIn r.ga (ClX.getcval_ok I r c fun s' I' => ?_)
  show wpAny _ _ (callWith pos (Value.ref f) [] (backTo pos (starEach (e :: es) X.env)) []) _ _ _
  refine PySem.W.callWith_K (h₀ := X.base) I.ok.mod.kin hk (thn (ha.run pos pins s' σ H _ I' h) fun us s1 ⟨vs, H1, I1, r1, q⟩ => ⟨I1.kIn, ?_⟩) he hpl
  exact run_fn F hr hb .nil hx I1 r1 q
end

/-! ### promises of the makers -/
/-- FigureError.__init__: the name of the class is kept -/
def spFig (K : PySem.W.Frag) : Sp := fun vs H Q _ => ∃ (a C : Addr) (v : V) (nm : Str), vs = [.ref a, v] ∧ OexC K C ∧ NamC K C nm ∧ H a = some (exo a C none) ∧ ∀ d, H d = none → d ≠ a → Q .non (upd (upd H d (exd d [("class_name", .str nm)])) a (exo a C (some d)))
/-- X.__init__ of the class at C: one field, and what was kept -/
def spInit (K : PySem.W.Frag) (f : Str) (C : Addr) : Sp := fun vs H Q _ => ∃ (a : Addr) (v : V), vs = [.ref a, v] ∧ H a = some (exo a C none) ∧ ∀ (fs : List (Str × V)) (d : Addr), H d = none → d ≠ a → Q .non (upd (upd H d (exd d ((f, v) :: fs))) a (exo a C (some d)))
theorem upd_swap {H : Hp} {a d : Addr} {x y z : HO} (n : d ≠ a) : upd (upd (upd H d x) a y) d z = upd (upd H d z) a y := by
  funext b
  by_cases h : b = d
  · subst h
    rw [upd_same, upd_ne n, upd_same]
  · rw [upd_ne h]
    by_cases h2 : b = a
    · subst h2
      rw [upd_same, upd_same]
    · rw [upd_ne h2, upd_ne h2, upd_ne h, upd_ne h]
/-- what the top says of FigureError -/
structure FigC (K : PySem.W.Frag) (mg : Str → Option Value) (C f : Addr) : Prop where
  g : mg "FigureError" = some (.ref C)
  rd : ClX.CRead K C (.type "type")
  at_ : PySem.W.findCls K (.ref C) (.type "type") "__init__" = some (.val (.ref f))
  kp : PySem.W.keepIn K (.ref f) = true
theorem FigC.val {K : PySem.W.Frag} {mg : Str → Option Value} {C f : Addr} (T : FigC K mg C f) : ClX.CVal K C (.type "type") "__init__" (.ref f) (.ref f) := ⟨T.at_, rfl⟩
/-- what the top says of an error class below it, its field f, its maker at fI -/
structure ErrC (K : PySem.W.Frag) (mg : Str → Option Value) (x f : Str) (C fI : Addr) : Prop where
  g : mg x = some (.ref C)
  ox : OexC K C
  iC : PySem.W.findIn K (.ref C) "__init__" = some (some (.ref fI))
  tI : PySem.W.typeIn K (.ref fI) = some (.type "function")
  no : PySem.W.findIn K (.ref C) f = some none
  xf : XfC K C
  te : PySem.W.exmOne K (.ref C) (.ref C) = some true
  nam : ∃ nm, NamC K C nm
/-- a raised error of the class at C with its field -/
def Raised (C : Addr) (f : Str) (v : V) (H : Hp) (E : XK) : Prop := ∀ (fs : List (Str × V)) (d : Addr) (H' : Hp), H d = none → Same H H' → H' d = some (.xd ((f, v) :: fs)) → E (.ref C) (some d) H'
theorem raised_ok {C : Addr} {f : Str} {v : V} {H H1 : Hp} {E : XK} (q : Raised C f v H E) (s : Same H H1) {K : PySem.W.Frag} {σ : L2.St} {D : Ends} : 
    ([v].length ≤ 1000 ∧ ∀ a, H1 a = none → spInit K f C (.ref a :: ([v] ++ [])) (upd H1 a (exo a C none))
      (fun v' H2 => v' = .non ∧ ∃ (d : Addr) (fs : List (Str × V)), H2 a = some (exo a C (some d)) ∧ H2 d = some (exd d fs) ∧ H1 d = none ∧ E (.ref C) (some d) (upd (del H2 a) d (.xd fs))) (fun _ _ _ => False)) := by
  refine ⟨(by show 1 ≤ 1000; decide), fun a ha => ⟨a, v, rfl, upd_same, fun fs d hd nda => ⟨rfl, d, (f, v) :: fs, upd_same, ?_, ?_, ?_⟩⟩⟩
  · rw [upd_ne nda]
    exact upd_same
  · rw [upd_ne nda] at hd
    exact hd
  · rw [upd_ne nda] at hd
    refine q fs d _ (s.free hd) (fun b o h => ?_) upd_same
    have h1 := s b o h
    have hba : b ≠ a := ne_of_none h1 ha
    have hbd : b ≠ d := ne_of_none h1 hd
    rw [upd_ne hbd, del_ne hba, upd_ne hba, upd_ne hbd, upd_ne hba]
    exact h1
/-- dict comprehensions over a range -/
theorem dc_range {lo : Int} {n : Nat} {g : TG} {tt : TT} {tk tv : TE} {vs : List Nat} {σ : L2.St} {H1 : Hp} {D : Addr} {Qd : Hp → Prop} (Pv : Nat → Hp → Prop) (h0 : Pv 0 (upd H1 D (.dK [])))
    (hs : ∀ i H, i < n → Pv i H → g (.int (lo + i)) (wipe σ vs) H fun σ2 H2 => wipe σ2 vs = wipe σ vs ∧ tt σ2 H2 fun b H3 =>
      if b = true then tk σ2 H3 fun y H4 => tv σ2 H4 fun z H5 => ∃ kvs k, y = kV k ∧ H5 D = some (.dK kvs) ∧ kvs.length < sizeLine ∧ Pv (i + 1) (upd H5 D (.dK (putK kvs k z))) else Pv (i + 1) H3) (hd : ∀ H, Pv n H → Qd H) :
    ∃ W : Nat → Nat → Hp → Prop, (∃ m, W 0 m (upd H1 D (.dK []))) ∧ ∀ i m H, W i m H →
      ((Itr lo n).stop i H ∧ Qd H) ∨ ((Itr lo n).go i H ∧ ∃ Nx : Hp → Prop, (∀ H', Nx H' → ∃ m', m' < m ∧ W (i + 1) m' H') ∧ ∀ x H', (Itr lo n).yld i H x H' → g x (wipe σ vs) H' fun σ2 H2 => wipe σ2 vs = wipe σ vs ∧ tt σ2 H2 fun b H3 =>
        if b = true then tk σ2 H3 fun y H4 => tv σ2 H4 fun z H5 => ∃ kvs k, y = kV k ∧ H5 D = some (.dK kvs) ∧ kvs.length < sizeLine ∧ Nx (upd H5 D (.dK (putK kvs k z))) else Nx H3) := by
  refine ⟨fun i m H => m = n - i ∧ i ≤ n ∧ Pv i H, ⟨n, by simp, Nat.zero_le _, h0⟩, ?_⟩
  rintro i m H ⟨rfl, hi, p⟩
  by_cases hlt : i < n
  · refine .inr ⟨hlt, Pv (i + 1), fun H' p' => ⟨n - (i + 1), by omega, rfl, hlt, p'⟩, fun x H' y => ?_⟩
    obtain ⟨e, y⟩ := y
    subst e y
    exact hs i _ hlt p
  · have e : i = n := by omega
    subst e
    exact .inl ⟨Nat.le_refl _, hd H p⟩
/-- an error of a class is what an except clause of that class names -/
theorem exm_own {K : PySem.W.Frag} {S : Addr} (h1 : PySem.W.subIn K (.ref S) (.type "BaseException") = some true) (h2 : PySem.W.isClsIn K S = true) (h3 : PySem.W.typeIn K (.ref S) = some (.type "type")) (h4 : PySem.W.subIn K (.ref S) (.ref S) = some true) :
    PySem.W.exmOne K (.ref S) (.ref S) = some true := by
  have h2' : (PySem.W.clsIn K S).isSome = true := h2
  unfold PySem.W.exmOne
  simp only [h1, beq_self_eq_true, if_true]
  unfold PySem.W.kitCls
  simp only [h3, h4, h2', beq_self_eq_true, Bool.and_self, if_true]

/-! ### isinstance(e, C), e the error that the suite holds, with a dict of its own -/
/-- what the class D of the error says, so that it is asked rightly -/
structure AskC (K : PySem.W.Frag) (D : Addr) : Prop where
  cl : (PySem.W.clsIn K D).isSome = true
  xf : XfC K D
  ha : PySem.W.findIn K (.ref D) "__class__" = some (some (.builtin "object.__class__"))
  hn : PySem.W.specialIn K (.builtin "object.__class__") "__get__" = some (some (.builtin "getset_descriptor.__get__"))
  ht : PySem.W.takesIn K (.builtin "object.__class__") = some true
  hm : PySem.W.mroIn K D (.type "object") = some true
def rAsk (K : PySem.W.Frag) (D a : Addr) (cls : Value) (d : Option Addr) : List V → Hp → VK → Prop := fun xs H Q => ∃ (dd : Addr) (fs : List (Str × V)) (c : V) (cv : Value) (b : Bool), cls = .ref D ∧ d = some dd ∧ H dd = some (.xd fs) ∧ xs = [.ref a, c] ∧ (∀ u, RelV c u → u = cv) ∧ PySem.W.kitOne K (.ref D) cv = some b ∧ Q (.bl b) H
theorem call_ask {X : Cx} {a D : Addr} {oe : Obj} {cls : Value} {d : Option Addr} {pn : List (Addr × Obj)} (C : AskC X.K D) (hz : Zc cls d oe) (hf : ∃ vs, oe.data = .fields vs) : CallR (X.suite a ((a, oe) :: pn)) (.builtin "isinstance") (rAsk X.K D a cls d) := by
  intro pins s σ H xs us Q I r h
  obtain ⟨dd, fs, c, cv, b, ec, ed, ea, rfl, hcv, e, q⟩ := h
  obtain ⟨u1, u2, rfl, r1, r2⟩ := vals2 r
  cases r1
  cases hcv _ r2
  subst ec
  subst ed
  obtain ⟨hget, _⟩ := I.pin (a, oe) (List.mem_append_left _ List.mem_cons_self)
  obtain ⟨vs, hv⟩ := hf
  have hx : ObjOk X.prog X.w H s.heap dd (.xd fs) := I.hok dd _ ea
  obtain ⟨mA, hns, _⟩ := hx
  obtain ⟨od, ho, _⟩ := lookIn_ns hns
  have J : PySem.W.InstAt s.heap a oe D (some od) := ⟨hget, hz.1, by unfold PySem.W.notCls; rw [hv] <;> rfl, by rw [hz.2]; exact ho⟩
  exact PySem.W.kia_one (PySem.W.kitx_exc C.cl C.xf.ga C.xf.gg C.xf.exC C.ha C.hn C.ht C.hm) I.kIn J e (fun z => nomatch z) fun tk => ⟨.bl b, H, I.kept (t' := tk) fun _ _ z => z, rfl, q⟩

/-! ### lists of the same things -/
/-- l != l2, two lists of the very same things -/
def rNeSame (K : PySem.W.Frag) : R2 := fun x y H Q => ∃ (l l2 : Addr) (xs : List V), x = .ref l ∧ y = .ref l2 ∧ SqL K H l xs ∧ SqL K H l2 xs ∧ (∀ v ∈ xs, flatB v = true ∨ ∃ a, v = .ref a) ∧ Q (.bl false) H
theorem op_neSame {X : Cx} (hu : X.A.units + 64 < cLine) : OpR X (compareOp .NotEq) (rNeSame X.K) := by
  intro pins s σ H x y v u Q I rx ry h
  obtain ⟨l, l2, xs, rfl, rfl, h1, h2, hs, q⟩ := h
  cases rx
  cases ry
  obtain ⟨us, r1, p1, _⟩ := I.list h1
  obtain ⟨ws, r2, p2, _⟩ := I.list h2
  have n1 := r1.length
  have n2 := r2.length
  have hsz : us.toArray.size = ws.toArray.size := by
    rw [List.size_toArray, List.size_toArray]
    omega
  have key := SeqAt.RcNeAt.lists (A := X.A) (e := fun _ => true) p1.isList p2.isList hsz (by omega) (fun j h1 h2 => ?_)
  · refine key X.prog X.w _ _ ?_
    rw [show ((List.range us.toArray.size).all fun _ => true) = true from List.all_eq_true.mpr fun _ _ => rfl]
    exact ⟨.bl false, H, I, rfl, q⟩
  · have j1 : j < us.length := by simpa using h1
    have jx : j < xs.length := by omega
    obtain ⟨a, ea, ra⟩ := Vals.get r1 (List.getElem?_eq_getElem jx)
    obtain ⟨b, eb, rb⟩ := Vals.get r2 (List.getElem?_eq_getElem jx)
    have e1 : us.toArray[j] = a := by
      have := List.getElem?_eq_getElem j1
      rw [this] at ea
      simpa using Option.some.inj ea
    have e2 : ws.toArray[j] = b := by
      have j2 : j < ws.length := by omega
      have := List.getElem?_eq_getElem j2
      rw [this] at eb
      simpa using Option.some.inj eb
    rw [e1, e2]
    rcases hs _ (List.getElem_mem jx) with hf | ⟨p, hp⟩
    · exact eqAt_same ra rb hf
    · rw [hp] at ra rb
      cases ra
      cases rb
      exact SeqAt.EqAt.same _
/-- isinstance's answer by an own class that is the class itself or above it -/
theorem kit_own {K : PySem.W.Frag} {S C : Addr} (h2 : PySem.W.isClsIn K C = true) (h3 : PySem.W.typeIn K (.ref C) = some (.type "type")) (h4 : PySem.W.subIn K (.ref S) (.ref C) = some true) : PySem.W.kitOne K (.ref S) (.ref C) = some true := by
  have h2' : (PySem.W.clsIn K C).isSome = true := h2
  unfold PySem.W.kitOne
  split
  · rfl
  · unfold PySem.W.kitCls
    simp only [h3, h4, h2', beq_self_eq_true, Bool.and_self, if_true]
end OF
/-! Rows as texts: what read_row makes of a text. -/
namespace OF
open PySem PySem.Spec PyProof.Rows L2 TL
/-- the texts of the digits, with their digits -/
def digL : List (Key × V) := (List.range 19).map fun (i : Nat) => (Sum.inr (Str.ofString (toString ((-9 : Int) + (i : Int)))), V.int ((-9 : Int) + (i : Int)))
theorem digL_put : ∀ i : Nat, i < 19 → putK (digL.take i) (Sum.inr (Str.ofString (toString ((-9 : Int) + (i : Int))))) (V.int ((-9 : Int) + (i : Int))) = digL.take (i + 1) := by decide +kernel
theorem digL_all : digL.take 19 = digL := by decide +kernel
/-- the digit that a word is -/
def digV (w : Str) : Option V := valV digL (Sum.inr w)
/-- the digits that words are -/
def rowOf (ws : List Str) : Option (List V) := if ws.all (fun w => (digV w).isSome) = true then some (ws.map fun w => (digV w).getD .non) else none
/-- the row whose text it is -/
def readV (z : Str) : Option (List V) := if z = Str.ofString "." then some [] else rowOf (Txt.split z (Str.ofString " "))
/-- a value of a kind that is no text -/
inductive NoStr (H : Hp) : V → Prop
  | non : NoStr H .non
  | bl (b : Bool) : NoStr H (.bl b)
  | int (i : Int) : NoStr H (.int i)
  | lst {a : Addr} {xs : List V} (e : H a = some (.lst xs)) : NoStr H (.ref a)
  | tup {a : Addr} {xs : List V} (e : H a = some (.tup xs)) : NoStr H (.ref a)
  | dK {a : Addr} {kvs : List (Key × V)} (e : H a = some (.dK kvs)) : NoStr H (.ref a)
theorem NoStr.kit {K : PySem.W.Frag} {H : Hp} {x : V} (h : NoStr H x) : ∃ t : Value, TyX K H x t ∧ PySem.W.kitOne K t (.type "str") = some false := by
  cases h with
  | non => exact ⟨_, .base .non, kit_ty (by decide +kernel)⟩
  | bl b => exact ⟨_, .base (.bl b), kit_ty (by decide +kernel)⟩
  | int z => exact ⟨_, .base (.int z), kit_ty (by decide +kernel)⟩
  | lst e => exact ⟨_, .base (.lst e), kit_ty (by decide +kernel)⟩
  | tup e => exact ⟨_, .base (.tup e), kit_ty (by decide +kernel)⟩
  | dK e => exact ⟨_, .base (.dK e), kit_ty (by decide +kernel)⟩
theorem NoStr.same {H H' : Hp} {x : V} (h : NoStr H x) (s : Same H H') : NoStr H' x := by
  cases h with
  | non => exact .non
  | bl b => exact .bl b
  | int z => exact .int z
  | lst e => exact .lst (s _ _ e)
  | tup e => exact .tup (s _ _ e)
  | dK e => exact .dK (s _ _ e)
/-- read_row: the row, or an error with the very value -/
def spRead (C : Addr) : Sp := fun vs H Q E => ∃ x : V, vs = [x] ∧
  ((∃ z : Str, x = .str z ∧ z.length ≤ 100000 ∧ (∀ ds, readV z = some ds → ∀ p H', H p = none → Same H H' → H' p = some (.tup ds) → Q (.ref p) H') ∧ (readV z = none → Raised C "text" (.str z) H E)) ∨
    (NoStr H x ∧ Raised C "text" x H E))
theorem take_more {α : Type} : ∀ {l : List α} {i : Nat} {x : α}, l[i]? = some x → l.take (i + 1) = l.take i ++ [x]
  | [], i, x, h => by simp at h
  | a :: l, 0, x, h => by
    have e : a = x := Option.some.inj h
    subst e
    rfl
  | a :: l, i + 1, x, h => by
    have ih := take_more (l := l) (i := i) (x := x) h
    show a :: l.take (i + 1) = a :: l.take i ++ [x]
    rw [ih]
    rfl
theorem get_map {α β : Type} {f : α → β} {l : List α} {i : Nat} {y : β} (h : (l.map f)[i]? = some y) : ∃ x, l[i]? = some x ∧ y = f x := by
  rw [List.getElem?_map] at h
  cases e : l[i]? with
  | none => rw [e] at h; cases h
  | some x => rw [e] at h; exact ⟨x, rfl, (Option.some.inj h).symm⟩
theorem log_le {n : Int} (h : n.natAbs ≤ 1000) : n.natAbs.log2 < 1920 := Nat.lt_of_le_of_lt (Nat.log2_le_self _) (by omega)
theorem vals_signs : ∀ (L : List Nat) (l : List Value), l.length = L.length → (∀ (j : Nat) (v : Value), l[j]? = some v → ∃ (c : Nat) (u : Tok), L[j]? = some c ∧ v = Value.str ⟨#[c]⟩ u) → Vals (L.map fun c => V.str ⟨#[c]⟩) l
  | [], [], _, _ => .nil
  | c :: L, v :: l, hl, h => by
    obtain ⟨c', u, e1, e2⟩ := h 0 v rfl
    cases (show c = c' from Option.some.inj e1)
    exact .cons ⟨u, e2⟩ (vals_signs L l (Nat.succ.inj hl) fun j w hw => h (j + 1) w hw)
/-- list(text) -/
theorem call_list_signs {X : Cx} (hc : X.calm = true) : CallR X (.type "list") (fun xs H Q => ∃ z : Str, xs = [.str z] ∧ z.length ≤ sizeLine ∧ ∀ l, H l = none → Q (.ref l) (upd H l (.lst ((tl z).map fun c => V.str ⟨#[c]⟩)))) := by
  intro pins s σ H xs us Q I r h
  obtain ⟨z, rfl, hz, q⟩ := h
  obtain ⟨u, rfl, t, rfl⟩ := vals1 r
  refine PySem.call_list_str (I.ok.hd hc) z t (fun h' tk acc' c' hk hS' hacc => ?_) (by exact hz)
  have hl : acc'.toList.length = (tl z).length := by
    rw [Array.length_toList, hacc.1]
    rfl
  refine ⟨.ref s.heap.objs.size, _, I.laid (t' := tk) hk (Nat.le_refl _) (show ObjOk X.prog X.w _ h' _ (.lst ((tl z).map fun c => V.str ⟨#[c]⟩)) from ⟨?_, acc'.toList, c', ?_, ?_⟩), rfl, q _ (I.hok.fresh (Nat.le_refl _))⟩
  · rw [List.length_map, ← len_tl]
    exact hz
  · refine vals_signs _ _ hl fun j v hv => ?_
    obtain ⟨c, u, e1, e2⟩ := hacc.2 j v (by rw [← Array.getElem?_toList]; exact hv)
    exact ⟨c, u, by rw [Array.getElem?_toList]; exact e1, e2⟩
  · rw [Array.toArray_toList]
    exact hS'

/-! ### a word as the law reads it -/
def sgB (w : Str) : Bool := decide (V.str (cutS w none (some 1)) = V.str (Str.ofString "-"))
def sgI (w : Str) : Int := if sgB w then 1 else 0
def restS (w : Str) : Str := cutS w (some (sgI w)) none
def figs : List V := (tl (Str.ofString "0123456789")).map fun c => V.str ⟨#[c]⟩
def figVal (w : Str) : Int := Txt.find (Str.ofString "0123456789") (restS w) * (1 - 2 * sgI w)
theorem digV_is {w : Str} {v : V} (h : digV w = some v) : ∃ i : Nat, i < 19 ∧ w = Str.ofString (toString ((-9 : Int) + (i : Int))) ∧ v = V.int ((-9 : Int) + (i : Int)) := by
  unfold digV valV digL at h
  rw [List.find?_map] at h
  cases e : List.find? ((fun kv : Key × V => decide (kv.1 = Sum.inr w)) ∘ fun (i : Nat) => ((Sum.inr (Str.ofString (toString ((-9 : Int) + (i : Int)))), V.int ((-9 : Int) + (i : Int))) : Key × V)) (List.range 19) with
  | none => rw [e] at h; cases h
  | some i =>
    rw [e] at h
    have p := List.find?_some e
    have m := List.mem_of_find?_eq_some e
    refine ⟨i, List.mem_range.mp m, ?_, (Option.some.inj h).symm⟩
    exact (Sum.inr.inj (of_decide_eq_true p)).symm
theorem digs_ok : ∀ i : Nat, i < 19 → inV (.str (restS (Str.ofString (toString ((-9 : Int) + (i : Int)))))) figs = true ∧ decide (V.str (Str.ofString (toString ((-9 : Int) + (i : Int)))) = V.str (Str.ofString "-0")) = false ∧
    figVal (Str.ofString (toString ((-9 : Int) + (i : Int)))) = (-9 : Int) + (i : Int) := by decide +kernel
theorem word_some {w : Str} {v : V} (h : digV w = some v) : inV (.str (restS w)) figs = true ∧ decide (V.str w = V.str (Str.ofString "-0")) = false ∧ v = V.int (figVal w) := by
  obtain ⟨i, hi, rfl, rfl⟩ := digV_is h
  obtain ⟨h1, h2, h3⟩ := digs_ok i hi
  exact ⟨h1, h2, by rw [h3]⟩
theorem figs_words : ∀ c ∈ tl (Str.ofString "0123456789"), (digV ⟨#[c]⟩).isSome = true ∧ ((digV (⟨(45 :: [c]).toArray⟩ : Str)).isSome = true ∨ (⟨(45 :: [c]).toArray⟩ : Str) = Str.ofString "-0") := by decide +kernel
theorem cut_rest {w : Str} (h : sgB w = true) : tl w = 45 :: tl (cutS w (some 1) none) := by
  have e : cutS w none (some 1) = Str.ofString "-" := V.str.inj (of_decide_eq_true h)
  have e2 : tl (cutS w none (some 1)) = [45] := by rw [e]; decide +kernel
  have hL : ∀ lo hi, tl (cutS w lo hi) = ((tl w).drop (HT.sIx w.length 0 lo)).take (HT.sIx w.length w.length hi - HT.sIx w.length 0 lo) := fun lo hi => by
    unfold cutS
    exact List.toList_toArray ..
  rw [hL] at e2 ⊢
  rw [HT.sIx_none, show HT.sIx w.length w.length (some 1) = min 1 w.length from HT.sIx_nat w.length w.length 1] at e2
  rw [HT.sIx_none, show HT.sIx w.length 0 (some 1) = min 1 w.length from HT.sIx_nat w.length 0 1]
  have el := len_tl w
  cases hw : tl w with
  | nil => rw [hw] at e2; simp at e2
  | cons a r =>
    rw [hw] at e2 el
    have : min 1 w.length = 1 := by rw [el, List.length_cons]; omega
    rw [this] at e2 ⊢
    have ea : a = 45 := by simpa using e2
    rw [ea, el]
    simp
theorem cut_all {w : Str} (h : sgB w = false) : restS w = w := by
  unfold restS sgI
  rw [h]
  unfold cutS
  rw [show HT.sIx w.length 0 (some (if false = true then (1 : Int) else 0)) = min 0 w.length from HT.sIx_nat w.length 0 0, HT.sIx_none, Nat.zero_min, List.drop_zero, Nat.sub_zero]
  rw [List.take_of_length_le (by rw [← len_tl]; exact Nat.le_refl _)]
theorem word_none {w : Str} (h : digV w = none) : inV (.str (restS w)) figs = false ∨ decide (V.str w = V.str (Str.ofString "-0")) = true := by
  cases hi : inV (.str (restS w)) figs with
  | false => exact .inl rfl
  | true =>
    right
    unfold inV figs at hi
    obtain ⟨y, hy, e⟩ := List.any_eq_true.mp hi
    obtain ⟨c, hc, rfl⟩ := List.mem_map.mp hy
    have er : restS w = ⟨#[c]⟩ := by
      have : (⟨#[c]⟩ : Str) = restS w := by simpa [eqV] using e
      exact this.symm
    obtain ⟨h1, h2⟩ := figs_words c hc
    cases hs : sgB w with
    | false =>
      rw [cut_all hs] at er
      rw [er] at h
      rw [h] at h1
      cases h1
    | true =>
      have e1 := cut_rest hs
      have e3 : restS w = cutS w (some 1) none := by
        unfold restS sgI
        rw [hs]
        rfl
      have ew : w = (⟨(45 :: [c]).toArray⟩ : Str) := by
        rw [← mk_tl w, e1, ← e3, er]
      rcases h2 with h2 | h2
      · rw [← ew, h] at h2
        cases h2
      · exact decide_eq_true (congrArg V.str (ew.trans h2))

/-! ### texts of few and plain signs -/
def TOk (n : Nat) (z : Str) : Prop := (tl z).length ≤ n ∧ ∀ c ∈ tl z, c < 1114112
theorem TOk.mono {n m : Nat} {z : Str} (h : TOk n z) (hm : n ≤ m) : TOk m z := ⟨Nat.le_trans h.1 hm, h.2⟩
theorem TOk.len {n : Nat} {z : Str} (h : TOk n z) : z.length ≤ n := by rw [len_tl]; exact h.1
theorem TOk.ok {n : Nat} {z : Str} (h : TOk n z) : PyData.strOk z = true := by
  unfold PyData.strOk
  rw [Array.all_eq_true']
  intro c hc
  exact decide_eq_true (h.2 c (by show c ∈ z.cps.toList; exact Array.mem_toList_iff.mpr hc))
theorem tl_cut (w : Str) (lo hi : Option Int) : tl (cutS w lo hi) = ((tl w).drop (HT.sIx w.length 0 lo)).take (HT.sIx w.length w.length hi - HT.sIx w.length 0 lo) := by
  unfold cutS
  exact List.toList_toArray ..
theorem TOk.cut {n : Nat} {z : Str} (h : TOk n z) (lo hi : Option Int) : TOk n (cutS z lo hi) := by
  unfold TOk
  rw [tl_cut]
  refine ⟨?_, fun c hc => h.2 c (List.mem_of_mem_drop (List.mem_of_mem_take hc))⟩
  refine Nat.le_trans (List.length_take_le' _ _) ?_
  rw [List.length_drop]
  exact Nat.le_trans (Nat.sub_le _ _) h.1
theorem TOk.app {n m : Nat} {x y : Str} (h : TOk n x) (k : TOk m y) : TOk (n + m) (x ++ y) := by
  unfold TOk
  rw [tl_append, List.length_append]
  refine ⟨Nat.add_le_add h.1 k.1, fun c hc => ?_⟩
  rcases List.mem_append.mp hc with hc | hc
  · exact h.2 c hc
  · exact k.2 c hc
theorem in_join {S : List Nat} : ∀ {ps : List (List Nat)} {p : List Nat}, p ∈ ps → p.length ≤ (joinL S ps).length ∧ ∀ c ∈ p, c ∈ joinL S ps
  | [q], p, h => by
    cases List.mem_singleton.mp h
    exact ⟨Nat.le_refl _, fun c hc => hc⟩
  | q :: r :: ps, p, h => by
    have e : joinL S (q :: r :: ps) = q ++ (S ++ joinL S (r :: ps)) := rfl
    rw [e]
    rcases List.mem_cons.mp h with h | h
    · rw [h]
      refine ⟨?_, fun c hc => List.mem_append_left _ hc⟩
      rw [List.length_append]
      omega
    · obtain ⟨h1, h2⟩ := in_join (S := S) h
      refine ⟨?_, fun c hc => List.mem_append_right _ (List.mem_append_right _ (h2 c hc))⟩
      rw [List.length_append, List.length_append]
      omega
theorem join_in {S : List Nat} {P : Nat → Prop} (hS : ∀ c ∈ S, P c) : ∀ {ps : List (List Nat)} {n : Nat}, (∀ p ∈ ps, p.length ≤ n ∧ ∀ c ∈ p, P c) → (joinL S ps).length ≤ ps.length * (n + S.length) ∧ ∀ c ∈ joinL S ps, P c
  | [], n, _ => ⟨Nat.zero_le _, fun c hc => by cases hc⟩
  | [q], n, h => by
    obtain ⟨h1, h2⟩ := h q (List.mem_singleton.mpr rfl)
    refine ⟨?_, h2⟩
    show q.length ≤ 1 * (n + S.length)
    omega
  | q :: r :: ps, n, h => by
    obtain ⟨h1, h2⟩ := h q (List.mem_cons_self ..)
    obtain ⟨h3, h4⟩ := join_in hS (ps := r :: ps) (n := n) fun p hp => h p (List.mem_cons_of_mem _ hp)
    have e : joinL S (q :: r :: ps) = q ++ (S ++ joinL S (r :: ps)) := rfl
    rw [e]
    refine ⟨?_, fun c hc => ?_⟩
    · rw [List.length_append, List.length_append, List.length_cons, Nat.succ_mul]
      omega
    · rcases List.mem_append.mp hc with hc | hc
      · exact h2 c hc
      · rcases List.mem_append.mp hc with hc | hc
        · exact hS c hc
        · exact h4 c hc
theorem TOk.parts {n : Nat} {z y : Str} (h : TOk n z) : ∀ w ∈ Txt.split z y, TOk n w := fun w hw => by
  have e := StrLaws.join_split z y
  have e2 := tl_join y (Txt.split z y)
  rw [e] at e2
  obtain ⟨h1, h2⟩ := in_join (S := tl y) (ps := (Txt.split z y).map tl) (List.mem_map.mpr ⟨w, hw, rfl⟩)
  rw [← e2] at h1 h2
  exact ⟨Nat.le_trans h1 h.1, fun c hc => h.2 c (h2 c hc)⟩
theorem TOk.join {n m : Nat} {y : Str} {ps : List Str} (hy : TOk m y) (h : ∀ p ∈ ps, TOk n p) : TOk (ps.length * (n + m)) (Txt.join y ps) := by
  rw [TL.join_eq]
  unfold TOk
  rw [tl_join]
  obtain ⟨h1, h2⟩ := join_in (S := tl y) (P := fun c => c < 1114112) hy.2 (ps := ps.map tl) (n := n) fun p hp => by
    obtain ⟨w, hw, rfl⟩ := List.mem_map.mp hp
    exact h w hw
  refine ⟨Nat.le_trans h1 ?_, h2⟩
  rw [List.length_map]
  exact Nat.mul_le_mul_left _ (Nat.add_le_add_left hy.1 _)
theorem sum_len {n : Nat} : ∀ {ps : List Str}, (∀ p ∈ ps, TOk n p) → (ps.map (·.length)).sum ≤ ps.length * n
  | [], _ => Nat.zero_le _
  | p :: ps, h => by
    have h1 := (h p (List.mem_cons_self ..)).len
    have h2 := sum_len (ps := ps) fun q hq => h q (List.mem_cons_of_mem _ hq)
    rw [List.map_cons, List.sum_cons, List.length_cons, Nat.succ_mul]
    omega
theorem join_pos {y : Str} {ps : List Str} {p : Str} (hp : p ∈ ps) (h : 1 ≤ p.length) : 1 ≤ (Txt.join y ps).length := by
  rw [TL.join_eq, len_tl, tl_join]
  have h1 := (in_join (S := tl y) (ps := ps.map tl) (List.mem_map.mpr ⟨p, hp, rfl⟩)).1
  rw [← len_tl] at h1
  omega
instance (n : Nat) (z : Str) : Decidable (TOk n z) := inferInstanceAs (Decidable (_ ∧ _))
theorem digit_texts : ∀ i : Nat, i < 19 → TOk 2 (Str.ofString (toString ((-9 : Int) + (i : Int)))) ∧ 1 ≤ (Str.ofString (toString ((-9 : Int) + (i : Int)))).length := by decide +kernel
/-- text data that may be compared -/
theorem shaped_str {z : Str} (h : PyData.strOk z = true) : SeqAt.shaped (.str z) = true := by
  unfold SeqAt.shaped
  rw [show PyData.canLay0 (.str z) = PyData.strOk z by simp only [PyData.canLay0], h]
  rfl

/-! ### data that may be compared -/
theorem dp_ints {K : PySem.W.Frag} {H : Hp} : ∀ is : List Int, DpAll K H (is.map V.int) (is.map PyData.int)
  | [] => .nil
  | i :: is => .cons (.int i) (dp_ints is)
theorem can_ints : ∀ is : List Int, PyData.canLayAll0 (is.map PyData.int) = true
  | [] => by simp only [List.map_nil, PyData.canLayAll0]
  | i :: is => by
    rw [List.map_cons, PyData.canLayAll0, can_ints is]
    simp only [PyData.canLay0, Bool.and_true]
theorem dep_ints : ∀ is : List Int, PyData.depthAll (is.map PyData.int) = 0
  | [] => by simp only [List.map_nil, PyData.depthAll]
  | i :: is => by
    rw [List.map_cons, PyData.depthAll, dep_ints is]
    simp only [PyData.depth, Nat.max_self]
theorem shaped_of {d : PyData} (h : d.canLay0 = true) (k : d.depth ≤ 64) : SeqAt.shaped d = true := by
  unfold SeqAt.shaped
  rw [h, decide_eq_true k]
  rfl
theorem can_pair {z : Str} {d : PyData} (hz : PyData.strOk z = true) (hd : d.canLay0 = true) : (PyData.list [.str z, d]).canLay0 = true := by
  simp only [PyData.canLay0, PyData.canLayAll0, hz, hd, Bool.and_true]
theorem dep_pair {z : Str} {d : PyData} {n : Nat} (hd : d.depth ≤ n) : (PyData.list [.str z, d]).depth ≤ n + 1 := by
  simp only [PyData.depth, PyData.depthAll]
  omega
/-- the item's own data: what stands at it reads so, whatever is made later -/
structure DatOf (K : PySem.W.Frag) (H : Hp) (x : V) (d : PyData) : Prop where
  dp : ∀ H', Same H H' → Dp K H' x d
  can : d.canLay0 = true
  dep : d.depth ≤ 10
theorem DatOf.same {K : PySem.W.Frag} {H H1 : Hp} {x : V} {d : PyData} (h : DatOf K H x d) (s : Same H H1) : DatOf K H1 x d := ⟨fun H' s' => h.dp H' (s.trans s'), h.can, h.dep⟩
theorem DatOf.str {K : PySem.W.Frag} {H : Hp} {z : Str} (hz : PyData.strOk z = true) : DatOf K H (.str z) (.str z) := ⟨fun _ _ => .str z, by simp only [PyData.canLay0, hz], by simp only [PyData.depth]; omega⟩
theorem DatOf.non {K : PySem.W.Frag} {H : Hp} : DatOf K H .non .none := ⟨fun _ _ => .non, by simp only [PyData.canLay0], by simp only [PyData.depth]; omega⟩
theorem DatOf.bl {K : PySem.W.Frag} {H : Hp} {b : Bool} : DatOf K H (.bl b) (.bool b) := ⟨fun _ _ => .bl b, by simp only [PyData.canLay0], by simp only [PyData.depth]; omega⟩
theorem DatOf.int {K : PySem.W.Frag} {H : Hp} {i : Int} : DatOf K H (.int i) (.int i) := ⟨fun _ _ => .int i, by simp only [PyData.canLay0], by simp only [PyData.depth]; omega⟩
theorem DatOf.tup {K : PySem.W.Frag} {H : Hp} {p : Addr} {is : List Int} (e : H p = some (.tup (is.map V.int))) : DatOf K H (.ref p) (.tuple (is.map PyData.int)) :=
  ⟨fun _ s => .tup (SqT.of (s _ _ e)) (dp_ints is), by simp only [PyData.canLay0, can_ints], by simp only [PyData.depth, dep_ints]; omega⟩
theorem DatOf.lst1 {K : PySem.W.Frag} {H : Hp} {p : Addr} {z : Str} (hz : PyData.strOk z = true) (e : H p = some (.lst [.str z])) : DatOf K H (.ref p) (.list [.str z]) :=
  ⟨fun _ s => .lst (SqL.of (s _ _ e)) (.cons (.str z) .nil), by simp only [PyData.canLay0, PyData.canLayAll0, hz, Bool.and_true], by simp only [PyData.depth, PyData.depthAll]; omega⟩
/-- two lists of a word and the same thing: equal -/
theorem pair_eqv {z : Str} {d : PyData} (hz : PyData.strOk z = true) (hd : d.canLay0 = true) : PyData.eqv (.list [.str z, d]) (.list [.str z, d]) = true := SeqAt.eqv_refl _ (can_pair hz hd)
theorem pair_ne {K : PySem.W.Frag} {H : Hp} {l l2 : Addr} {z : Str} {x y : V} {d : PyData} {Q : V → Hp → Prop} (hz : PyData.strOk z = true) (e1 : H l = some (.lst [.str z, x])) (e2 : H l2 = some (.lst [.str z, y])) (h1 : Dp K H x d) (h2 : Dp K H y d) (hc : d.canLay0 = true) (hd : d.depth ≤ 10)
    (q : Q (.bl false) H) : rNeD K (.ref l) (.ref l2) H Q := by
  have sh := shaped_of (can_pair hz hc) (Nat.le_trans (dep_pair hd) (by decide))
  refine ⟨_, _, Dp.lst (SqL.of e1) (.cons (.str z) (.cons h1 .nil)), Dp.lst (SqL.of e2) (.cons (.str z) (.cons h2 .nil)), sh, sh, ?_⟩
  rw [pair_eqv hz hc]
  exact q
theorem pair_eq {K : PySem.W.Frag} {H : Hp} {l l2 : Addr} {z : Str} {x y : V} {d : PyData} {Q : V → Hp → Prop} (hz : PyData.strOk z = true) (e1 : H l = some (.lst [.str z, x])) (e2 : H l2 = some (.lst [.str z, y])) (h1 : Dp K H x d) (h2 : Dp K H y d) (hc : d.canLay0 = true) (hd : d.depth ≤ 10)
    (q : Q (.bl true) H) : rEqD K (.ref l) (.ref l2) H Q := by
  have sh := shaped_of (can_pair hz hc) (Nat.le_trans (dep_pair hd) (by decide))
  refine ⟨_, _, Dp.lst (SqL.of e1) (.cons (.str z) (.cons h1 .nil)), Dp.lst (SqL.of e2) (.cons (.str z) (.cons h2 .nil)), sh, sh, ?_⟩
  rw [pair_eqv hz hc]
  exact q
/-- the digits of a text are ints -/
theorem readV_ints {z : Str} {ds : List V} (h : readV z = some ds) : ∃ is : List Int, ds = is.map V.int := by
  unfold readV at h
  split at h
  · cases Option.some.inj h
    exact ⟨[], rfl⟩
  · unfold rowOf at h
    split at h
    · rename_i hall
      have e := Option.some.inj h
      refine ⟨(Txt.split z (Str.ofString " ")).map fun w => match digV w with | some (.int i) => i | _ => 0, ?_⟩
      rw [← e, List.map_map]
      refine List.map_congr_left fun w hw => ?_
      have hs := List.all_eq_true.mp hall w hw
      obtain ⟨v, hv⟩ := Option.isSome_iff_exists.mp hs
      obtain ⟨i, _, _, rfl⟩ := digV_is hv
      simp only [Function.comp, hv, Option.getD_some]
    · cases h
theorem read_empty : readV (Str.ofString "") = none := by decide +kernel
theorem read_dot : readV (Str.ofString ".") = some [] := by decide +kernel
/-- two ways, heaps behind them of their own, one rest -/
theorem iteDupH {c : Bool} {A B : Prop} {G : Hp} {S : Hp → Prop} (f : (∀ H', Same G H' → S H') → c = true → A) (g : (∀ H', Same G H' → S H') → c = false → B) (r : ∀ H', Same G H' → S H') : if c = true then A else B := by
  cases c with
  | true => exact iteT (f r rfl)
  | false => exact iteF (g r rfl)

/-! ### rows as texts -/
/-- a value of a kind that is no tuple -/
inductive NoTup (H : Hp) : V → Prop
  | non : NoTup H .non
  | bl (b : Bool) : NoTup H (.bl b)
  | int (i : Int) : NoTup H (.int i)
  | str (z : Str) : NoTup H (.str z)
  | lst {a : Addr} {xs : List V} (e : H a = some (.lst xs)) : NoTup H (.ref a)
  | dK {a : Addr} {kvs : List (Key × V)} (e : H a = some (.dK kvs)) : NoTup H (.ref a)
theorem NoTup.kit {K : PySem.W.Frag} {H : Hp} {x : V} (h : NoTup H x) : ∃ t : Value, TyX K H x t ∧ PySem.W.kitOne K t (.type "tuple") = some false := by
  cases h with
  | non => exact ⟨_, .base .non, kit_ty (by decide +kernel)⟩
  | bl b => exact ⟨_, .base (.bl b), kit_ty (by decide +kernel)⟩
  | int z => exact ⟨_, .base (.int z), kit_ty (by decide +kernel)⟩
  | str z => exact ⟨_, .base (.str z), kit_ty (by decide +kernel)⟩
  | lst e => exact ⟨_, .base (.lst e), kit_ty (by decide +kernel)⟩
  | dK e => exact ⟨_, .base (.dK e), kit_ty (by decide +kernel)⟩
theorem NoTup.same {H H' : Hp} {x : V} (h : NoTup H x) (s : Same H H') : NoTup H' x := by
  cases h with
  | non => exact .non
  | bl b => exact .bl b
  | int z => exact .int z
  | str z => exact .str z
  | lst e => exact .lst (s _ _ e)
  | dK e => exact .dK (s _ _ e)
/-- an int, or a value of another kind -/
def IntOdd (H : Hp) (x : V) : Prop := (∃ n : Int, x = .int n) ∨ Odd H x
theorem IntOdd.same {H H' : Hp} {x : V} (h : IntOdd H x) (s : Same H H') : IntOdd H' x := by
  rcases h with h | h
  · exact .inl h
  · exact .inr (h.same s)
def digI (n : Int) : Bool := decide (-9 ≤ n) && decide (n ≤ 9)
/-- a digit -/
def digB : V → Bool
  | .int n => digI n
  | _ => false
theorem digB_odd {H : Hp} {x : V} (h : Odd H x) : digB x = false := by cases h <;> rfl
theorem digs_ints : ∀ {xs : List V}, xs.all digB = true → ∃ is : List Int, xs = is.map V.int ∧ ∀ i ∈ is, -9 ≤ i ∧ i ≤ 9
  | [], _ => ⟨[], rfl, fun i h => by cases h⟩
  | x :: xs, h => by
    rw [List.all_cons, Bool.and_eq_true] at h
    obtain ⟨is, e, k⟩ := digs_ints h.2
    cases x with
    | int n =>
      have h1 : digI n = true := h.1
      unfold digI at h1
      rw [Bool.and_eq_true, decide_eq_true_eq, decide_eq_true_eq] at h1
      refine ⟨n :: is, by rw [e]; rfl, fun i hi => ?_⟩
      rcases List.mem_cons.mp hi with hi | hi
      · rw [hi]; exact h1
      · exact k i hi
    | non => exact absurd h.1 Bool.false_ne_true
    | bl b => exact absurd h.1 Bool.false_ne_true
    | str z => exact absurd h.1 Bool.false_ne_true
    | byt z => exact absurd h.1 Bool.false_ne_true
    | flt z => exact absurd h.1 Bool.false_ne_true
    | ref a => exact absurd h.1 Bool.false_ne_true
    | ty n => exact absurd h.1 Bool.false_ne_true
theorem ints_digs {is : List Int} (h : ∀ i ∈ is, -9 ≤ i ∧ i ≤ 9) : (is.map V.int).all digB = true := by
  rw [List.all_map]
  refine List.all_eq_true.mpr fun i hi => ?_
  obtain ⟨h1, h2⟩ := h i hi
  show digI i = true
  unfold digI
  rw [decide_eq_true h1, decide_eq_true h2]
  rfl
/-- the text of a digit -/
def strI (i : Int) : Str := Str.ofString (toString i)
theorem strI_ok {i : Int} (h : -9 ≤ i ∧ i ≤ 9) : TOk 2 (strI i) ∧ 1 ≤ (strI i).length := by
  obtain ⟨h1, h2⟩ := h
  have e : i = (-9 : Int) + (((i + 9).toNat : Nat) : Int) := by omega
  have := digit_texts (i + 9).toNat (by omega)
  rw [← e] at this
  exact this
theorem digV_all : ∀ k : Nat, k < 19 → digV (Str.ofString (toString ((-9 : Int) + (k : Int)))) = some (V.int ((-9 : Int) + (k : Int))) ∧ (32 : Nat) ∉ tl (Str.ofString (toString ((-9 : Int) + (k : Int)))) ∧ Str.ofString (toString ((-9 : Int) + (k : Int))) ≠ Str.ofString "." ∧ (46 : Nat) ∉ tl (Str.ofString (toString ((-9 : Int) + (k : Int)))) := by decide +kernel
theorem digV_of {i : Int} (h : -9 ≤ i ∧ i ≤ 9) : digV (strI i) = some (V.int i) ∧ (32 : Nat) ∉ tl (strI i) ∧ (46 : Nat) ∉ tl (strI i) := by
  obtain ⟨h1, h2⟩ := h
  have e : i = (-9 : Int) + (((i + 9).toNat : Nat) : Int) := by omega
  obtain ⟨k1, k2, _, k4⟩ := digV_all (i + 9).toNat (by omega)
  rw [← e] at k1 k2 k4
  exact ⟨k1, k2, k4⟩
/-- the text of a row -/
def textOf (is : List Int) : Str := if is = [] then Str.ofString "." else Txt.join (Str.ofString " ") (is.map strI)
theorem textOf_ok {is : List Int} (h : ∀ i ∈ is, -9 ≤ i ∧ i ≤ 9) (hl : is.length ≤ 200) : TOk 600 (textOf is) := by
  unfold textOf
  split
  · decide +kernel
  · refine (TOk.join blankOk (n := 2) fun p hp => ?_).mono ?_
    · obtain ⟨i, hi, rfl⟩ := List.mem_map.mp hp
      exact (strI_ok (h i hi)).1
    · rw [List.length_map]
      omega
where blankOk : TOk 1 (Str.ofString " ") := by decide +kernel
theorem not_dot {is : List Int} (h : ∀ i ∈ is, -9 ≤ i ∧ i ≤ 9) (hn : is ≠ []) : Txt.join (Str.ofString " ") (is.map strI) ≠ Str.ofString "." := fun e => by
  cases is with
  | nil => exact hn rfl
  | cons i r =>
    have hp : strI i ∈ (i :: r).map strI := List.mem_map.mpr ⟨i, List.mem_cons_self .., rfl⟩
    have hi := h i (List.mem_cons_self ..)
    have h2 := (in_join (S := tl (Str.ofString " ")) (ps := ((i :: r).map strI).map tl) (List.mem_map.mpr ⟨_, hp, rfl⟩)).2
    have e2 := congrArg tl e
    rw [TL.join_eq, tl_join] at e2
    rw [e2] at h2
    have hpos := (strI_ok hi).2
    rw [len_tl] at hpos
    cases hs : tl (strI i) with
    | nil => rw [hs] at hpos; exact absurd hpos (by decide)
    | cons c cs =>
      have hc := h2 c (by rw [hs]; exact List.mem_cons_self ..)
      have : c = 46 := by
        have e3 : tl (Str.ofString ".") = [46] := by decide +kernel
        rw [e3] at hc
        exact List.mem_singleton.mp hc
      exact (digV_of hi).2.2 (by rw [hs, this]; exact List.mem_cons_self ..)
/-- a row's text is read as the row -/
theorem read_text {is : List Int} (h : ∀ i ∈ is, -9 ≤ i ∧ i ≤ 9) : readV (textOf is) = some (is.map V.int) := by
  unfold textOf
  by_cases hn : is = []
  · rw [if_pos hn, hn]
    exact read_dot
  · rw [if_neg hn]
    unfold readV
    rw [if_neg (not_dot h hn)]
    have e : Txt.split (Txt.join (Str.ofString " ") (is.map strI)) (Str.ofString " ") = is.map strI := by
      refine TL.split_join (s := 32) (S := []) (by decide +kernel) (by decide +kernel) (fun z => hn (List.map_eq_nil_iff.mp z)) fun p hp => ?_
      obtain ⟨i, hi, rfl⟩ := List.mem_map.mp hp
      exact (digV_of (h i hi)).2.1
    rw [e]
    unfold rowOf
    rw [if_pos]
    · rw [List.map_map]
      congr 1
      refine List.map_congr_left fun i hi => ?_
      show (digV (strI i)).getD .non = V.int i
      rw [(digV_of (h i hi)).1]
      rfl
    · rw [List.all_map]
      refine List.all_eq_true.mpr fun i hi => ?_
      show (digV (strI i)).isSome = true
      rw [(digV_of (h i hi)).1]
      rfl
end OF
/-! Defs that are promised only where no repr is under way, the law among them; repr of lists. -/
namespace OF
open PySem PySem.Spec PyProof.Rows L2

/-! ### promises where no repr is under way -/
structure FnG (P : Program) (w : World) (K : PySem.W.Frag) (mg : Str → Option Value) (base : Heap) (n : Nat) (f : Addr) (fd : FuncData) (ps : List Str) (sp : Sp) : Prop where
  len : ∀ vs H Q E, sp vs H Q E → vs.length = ps.length
  go : ∀ (A : Around) (fr : List Env) (s : Shared) (H : Hp) (ar : Args) (us : List Value) (vs : List V) (Q : VK) (E : XK), A.guards = some [] → Room n A → Env0 P w K mg base A fr s H → BindsTo s fd ar (ps.zip us) → Vals vs us → sp vs H Q E →
    codeAny (model P w) A (.call (.ref f) ar) (CR CX0 fr P w H s Q E) s
section
variable {P : Program} {w : World} {K : PySem.W.Frag} {mg : Str → Option Value} {base : Heap}
theorem guards_in {A : Around} {e : Env} (h : A.guards = some []) : (A.deeper e).guards = some [] := by
  first | exact h | simpa [Around.deeper] using h
theorem okG {x q : Str} {st : Stmt} {f : Addr} {fd : FuncData} {N ps : List Str} {n : Nat} {sp : Sp} (F : Fun K x q st f fd) (S : FnScope N ps (defScope st)) (len : ∀ vs H Q E, sp vs H Q E → vs.length = ps.length)
    (body : ∀ (cv : Value) (A : Around) (fr : List Env) (s : Shared) (H : Hp) (vs : List V) (Q : VK) (E : XK), (A.deeper (envOfC q (defScope st) s.heap.objs.size f cv)).guards = some [] → Room n (A.deeper (envOfC q (defScope st) s.heap.objs.size f cv)) → sp vs H Q E →
      ∃ t, PSs (cxOf CX0 P w K mg base N q (defScope st) f cv A fr s H E).nox (defBody st) t ∧ t { nx := fun _ H' => Q .non H', rt := Q } (start N vs) H) : FnG P w K mg base (n + 1) f fd ps sp := by
  obtain ⟨_, _, kV, dc, pm, an, cv, ct, _, e, lk, cc⟩ := F.ex
  subst e
  constructor
  · exact len
  · intro A fr s H ar us vs Q E gu room e0 bn rel hsp
    have keep := fun b o z => (e0.bs b o z).1
    have inHeap := e0.mod.kin.keeps keep
    have noLim := e0.mod.nolimit.keeps keep
    apply codeAny_call_function room.depth (inHeap _ _ lk) rfl S.co S.gen rfl (PySem.W.codeRec_of inHeap cc)
    apply bn
    apply wpAny_newFunctionEnv_cells S.kind
    · rintro ⟨y, v⟩ hy
      rcases S.par y (List.of_mem_zip hy).1 with p | p
      · exact Or.inl p
      · exact Or.inr ⟨p, PySem.W.cellsFrom_some _ _ _ (Or.inl p)⟩
    · intro env he s1 inc
      subst he
      constructor
      · exact noLim.keeps inc.toInCall.keep
      · apply codeAny_func
        obtain ⟨t, pss, rd⟩ := body cv A fr s H vs Q E (guards_in gu) (room.deeper _) hsp
        have inv := inv_start (CX := CX0) (P := P) (w := w) (E := E) S room.hd e0 (len _ _ _ _ hsp) rel inc
        apply wpAny_mono (pss.nox.run [] s1 (start N vs) H _ inv rd) (hE := fun _ _ z => z)
        intro fl s2 z
        cases fl with
        | ret u => obtain ⟨v, _, H2, J, rv, qv⟩ := z; exact ⟨v, H2, J.os, J.bare, J.base, J.hok, rv, qv⟩
        | next => obtain ⟨_, H2, J, qv⟩ := z; exact ⟨V.non, H2, J.os, J.bare, J.base, J.hok, rfl, qv⟩
        | brk => obtain ⟨_, _, _, no⟩ := z; cases no
        | cont => obtain ⟨_, _, _, no⟩ := z; cases no
end
section
variable {X : Cx} {n : Nat} {f : Addr} {fd : FuncData} {ps : List Str} {sp : Sp} {E : XK} {x : Str} {p pos : Pos} {e : Expr} {es : List Expr} {t : TA}
theorem pe_callG (F : FnG X.prog X.w X.K X.mg X.base n f fd ps sp) (gu : X.A.guards = some []) (room : Room n X.A) (hg : Gl X x) (hm : X.mg x = some (.ref f)) (kp : PySem.W.keepIn X.K (.ref f) = true) (hb : Binds X.K fd ps []) (hx : Passes CX0 X E) (ha : PA X (e :: es) t)
    (hdb : (x == ("__debug__" : Str)) = false := by decide) (he : starEach (e :: es) X.env = (false, eval e X.env) :: starEach es X.env := by rfl) (hpl : (backTo pos (starEach es X.env)).any (·.1) = false := by rfl) :
    PE X (.Call (.Name x p) (e :: es) [] pos) (tCall sp [] E t) := by
  constructor
  intro pins s σ H Q I h
  refine wpAny_Call_Name_kw (ld_glob I hg hm ?_ hdb)
  refine PySem.W.callWith_K (h₀ := X.base) I.ok.mod.kin kp (thn (ha.run pos pins s σ H _ I h) ?_) he hpl
  rintro us s1 ⟨vs, H1, I1, r1, q⟩
  refine ⟨I1.kIn, ?_⟩
  rw [List.append_nil] at q
  have bn := hb s1 us I1.kIn (by rw [List.append_nil, ← r1.length]; exact F.len _ _ _ _ q)
  rw [List.append_nil] at bn
  apply wpAny_call
  apply codeAny_mono (F.go X.A X.stack s1 H1 ⟨us, []⟩ us vs Q E gu room I1.env0 bn r1 q)
  intro r s2 z
  cases r with
  | error er => exact hx pins σ H1 s1 er s2 I1 z
  | ok fl =>
    cases fl with
    | ret u => exact I1.after z
    | next => cases z
    | brk => cases z
    | cont => cases z
end
end OF
namespace OF
open PySem PySem.Spec PyProof.Rows L2
section
variable {P : Program} {w : World} {K : PySem.W.Frag} {mg mb : Str → Option Value}
/-- namespaces stand in what is left where a list alone is hidden -/
theorem ns_left {h : Heap} {H : Hp} {a b : Addr} {xs : Array Value} {m : Str → Option Value} (ha : h.get? a = some { cls := .type "list", data := .seq xs }) (near : ∀ c, H c ≠ none → c = a) (z : h.Ns b m) : (hidT h H).Ns b m := by
  obtain ⟨o, es, ep, eo, ed, rest⟩ := z
  have free : H b = none := Classical.byContradiction fun no => by
    have := near b no
    subst this
    rw [eo] at ha
    have e2 := Option.some.inj ha
    subst e2
    cases ed
  exact ⟨o, es, ep, hidT_get eo free, ed, rest⟩
/-- what is tracked at the law's start -/
theorem script_heap {h : Heap} {a : Addr} {vs : List Value} {ns : List Int} (KX : K.In h) (ha : h.get? a = some { cls := .type "list", data := .seq vs.toArray }) (hi : IntsAre vs ns) (hl : ns.length ≤ sizeLine) :
    ∃ H : Hp, Only H ∧ SqL K H a (ns.map V.int) ∧ HOk P w H h ∧ (∀ c, H c ≠ none → c = a) ∧ (H a ≠ none → K.lookup a = none) := by
  have rel := vals_ints hi
  have n1 : vs.length = ns.length := hi.length
  cases known : K.lookup a with
  | some o =>
    have same := KX a o known
    rw [ha] at same
    have := Option.some.inj same
    subst this
    refine ⟨fun _ => none, fun c => Or.inl rfl, ?_, ?_, fun c z => absurd rfl z, fun z => absurd rfl z⟩
    case refine_2 =>
      intro c o z
      have z2 : (none : Option HO) = some o := z
      cases z2
    right
    refine ⟨_, vs.toArray, _, known, rfl, rfl, rfl, ?_, ?_⟩
    · rw [List.size_toArray, n1]; exact hl
    · rw [List.toList_toArray]; exact rel
  | none =>
    refine ⟨fun c => if c = a then some (.frz { cls := .type "list", data := .seq vs.toArray } (.lst (ns.map V.int))) else none, ?_, ?_, ?_, ?_, fun _ => rfl⟩
    · intro c
      by_cases z : c = a
      · right; exact ⟨_, _, if_pos z⟩
      · left; exact if_neg z
    · left; right; exact ⟨_, if_pos rfl⟩
    · intro c o z
      by_cases y : c = a
      · subst y
        have := (if_pos rfl).symm.trans z
        cases this
        refine ⟨ha, ?_, vs, _, rel, ha⟩
        rw [List.length_map]; exact hl
      · have := (if_neg y).symm.trans z
        cases this
    · intro c z
      exact Classical.byContradiction fun y => z (if_neg y)
theorem law_callG {n : Nat} {fa a : Addr} {fd : FuncData} {x : Str} {sp : Sp} {s : Shared} {vs : List Value} {ns : List Int} (KX : K.In s.heap) (hg : s.heap.Ns mainGlobals mg) (hb : s.heap.Ns builtinsNs mb) (hbb : ∀ y : Str, y ≠ "__name__" → mb y = bootBuiltins y)
    (hlim : s.heap.NoLimit) (he : s.gens = #[]) (ha : s.heap.get? a = some { cls := .type "list", data := .seq vs.toArray }) (hi : IntsAre vs ns) (hl : ns.length ≤ sizeLine) (room : Room n callerA)
    (F : ∀ base : Heap, K.In base → base.Ns mainGlobals mg → FnG P w K mg base n fa fd [x] sp) (bind : ∀ (s : Shared) (u : Value), BindsTo s fd ⟨[u], []⟩ [(x, u)])
    (hsp : ∀ H : Hp, SqL K H a (ns.map V.int) → sp [.ref a] H (fun v _ => v = .bl true) fun _ _ _ => False) :
    codeAny (model P w) callerA (.call (.ref fa) ⟨[.ref a], []⟩) (fun r s' => r = .ok (.ret (.bool true)) ∧ OldK s.heap s'.heap ∧ s'.os = s.os ∧ AllBare s'.gens) s := by
  obtain ⟨H, only, seq, hok, near, out⟩ := script_heap (P := P) (w := w) KX ha hi hl
  have KB : K.In (hidT s.heap H) := by
    intro c o z
    refine hidT_get (KX c o z) (Classical.byContradiction fun no => ?_)
    have := near c no
    subst this
    rw [out no] at z
    cases z
  have lim : (hidT s.heap H).NoLimit := by
    obtain ⟨mc, h1, h2⟩ := hlim
    exact ⟨mc, ns_left ha near h1, h2⟩
  have M : Mod K mg (hidT s.heap H) := { kin := KB, glob := ns_left ha near hg, blt := ⟨mb, ns_left ha near hb, hbb⟩, nolimit := lim }
  have E0 : Env0 P w K mg (hidT s.heap H) callerA [] s H := {
    frames := rfl, mod := M, bs := fun c o z => of_hidT z, bsz := Nat.le_of_eq (hidT_size _ _), funs := trivial
    frf := fun c z => (by cases z), hok := hok, bare := AllBare.of_eq he }
  have main := (F _ KB (ns_left ha near hg)).go callerA [] s H ⟨[.ref a], []⟩ [.ref a] [.ref a] _ _ rfl room E0 (bind s (.ref a)) (.cons rfl .nil) (hsp H seq)
  apply codeAny_mono main
  intro r s' z
  cases r with
  | error er => cases z
  | ok fl =>
    cases fl with
    | next => cases z
    | brk => cases z
    | cont => cases z
    | ret u =>
      obtain ⟨v, H', sameOs, bare, un, hok', rv, ev⟩ := z
      have ev2 : v = .bl true := ev
      subst ev2
      have eu : u = Value.bool true := rv
      subst eu
      refine ⟨rfl, OldK.of_keep ?_, sameOs, bare⟩
      intro c o z
      rcases only c with fr | ⟨o2, xs, fr⟩
      · apply un.keep c o z fr
        · intro y; cases y
        · intro y; cases y
      · have fr2 := un.frzs c o2 _ fr
        have g1 := (hok c _ fr).1
        have g2 := (hok' c _ fr2).1
        rw [z] at g1
        rw [g2, ← Option.some.inj g1]
theorem walkG {l : PySem.W.OpenLaw} {m n : Nat} {q : Program} {loose : List Str} {XP : (Str → Option Value) → Heap → Prop} {YP : World → Heap → Prop} {d : DefRec} {K : Params → PySem.W.Frag} {sp : World → Sp} {x : Str}
    (hm : l.most = some m) (hm2 : m ≤ sizeLine) (hdf : d.params.defaults = []) (room : Room n callerA) (hY : ∀ (w : World) (h : Heap), YP w h → (K w.params).In h)
    (F : ∀ (w : World) (mg : Str → Option Value) (fa : Addr) (h : Heap), (K w.params).In h → h.Ns mainGlobals mg → mg d.name = some (.ref fa) →
      ∃ fd : FuncData, (∀ (s : Shared) (u : Value), BindsTo s fd ⟨[u], []⟩ [(x, u)]) ∧ ∀ base : Heap, (K w.params).In base → base.Ns mainGlobals mg → FnG l.prog w (K w.params) mg base n fa fd [x] (sp w))
    (hsp : ∀ (w : World) (H : Hp) (a : Addr) (ns : List Int), ns.length ≤ m → SqL (K w.params) H a (ns.map V.int) → sp w [.ref a] H (fun v _ => v = .bl true) fun _ _ _ => False) :
    PySem.W.WalkO q loose XP YP l.row.toRowW d [] (fun f vs => PySem.call f vs) := by
  apply Att.attach_call hm hdf
  intro w s₀ s₁ mg mb fa o pm cd doc a vs ns G Y ho hd hcd hmg hobj hints hlen hg
  obtain ⟨fd, bind, FF⟩ := F w mg fa _ (hY w _ Y) G.T.g hmg
  exact law_callG (hY w _ Y) G.T.g G.T.b G.T.builtins G.T.nolimit hg hobj hints (Nat.le_trans hlen hm2) room FF bind fun H => hsp w H a ns hlen
end
end OF
/-! A head by one run of the kernel: what is read of the top behind it. -/
namespace OF
open PySem PySem.Spec PyProof.Rows L2
open He5 (DefA fnA)
/-! ### what is told of the top: the defs, a list of truths, the tables of code objects -/
structure Says (fn : List DefA) (tf : List He.Defn) (ex : PySem.W.Frag → List Bool) (h : Heap) (K : PySem.W.Frag) : Prop where
  fn_ : fn.map (fun d => fnA K (d.at_ K)) = fn.map DefA.val
  ok_ : (fn.all fun d => d.ok K) = true
  more : (ex K).all id = true
  hd : ∀ p ∈ tf, PySem.W.codeHdIn K (He.cT K p).1 (He.cT K p).2 = true
  out : ∀ p ∈ tf, K.lookup (He.cT K p).2 = none
  empty : ∀ p ∈ tf, h.get? (He.cT K p).2 = some { cls := .none, data := .fields #[] }
abbrev Al : Type := List He5.FnW × Bool
def obsL (n : Nat) (fn : List DefA) (tf : List He.Defn) (ex : PySem.W.Frag → List Bool) (g : Addr → Option Obj) : Al :=
  (fn.map (fun d => fnA (He.frT g (List.range n)) (d.at_ (He.frT g (List.range n)))), (fn.all fun d => d.ok (He.frT g (List.range n))) && ((ex (He.frT g (List.range n))).all id && He.tabsB g tf (He.frT g (List.range n))))
theorem says_of {n : Nat} {fn : List DefA} {tf : List He.Defn} {ex : PySem.W.Frag → List Bool} {h : Heap} (e : obsL n fn tf ex h.get? = (fn.map DefA.val, true)) : Says fn tf ex h (He.frT h.get? (List.range n)) := by
  have e1 := congrArg Prod.fst e
  have e2 := congrArg Prod.snd e
  have q := Bool.and_eq_true_iff.mp e2
  have q2 := Bool.and_eq_true_iff.mp q.2
  have each : ∀ p ∈ tf, PySem.W.codeHdIn (He.frT h.get? (List.range n)) (He.cT (He.frT h.get? (List.range n)) p).1 (He.cT (He.frT h.get? (List.range n)) p).2 = true ∧ ∃ o, h.get? (He.cT (He.frT h.get? (List.range n)) p).2 = some o ∧ He.emptyTab o = true := fun p hp => by
    have z := Bool.and_eq_true_iff.mp (List.all_eq_true.mp q2.2 p hp)
    refine ⟨z.1, ?_⟩
    have z2 := z.2
    revert z2
    cases h.get? (He.cT (He.frT h.get? (List.range n)) p).2 with
    | none => exact fun y => absurd y Bool.false_ne_true
    | some o => exact fun y => ⟨o, rfl, y⟩
  refine ⟨e1, q.1, q2.1, fun p hp => (each p hp).1, fun p hp => ?_, fun p hp => ?_⟩
  · obtain ⟨_, o, a, b⟩ := each p hp
    exact He.frT_none a b
  · obtain ⟨_, o, a, b⟩ := each p hp
    rw [a, He.emptyTab_eq b]
def hookL (n : Nat) (fn : List DefA) (tf : List He.Defn) (ex : PySem.W.Frag → List Bool) : PySem.W.Hook where
  α := Al
  obs := fun s => obsL n fn tf ex s.heap.get?
  val := fun _ => (fn.map DefA.val, true)
  says := fun _ h => ∃ K : PySem.W.Frag, K.In h ∧ Says fn tf ex h K
  of := fun _ _ e => ⟨_, He.frT_in, says_of e⟩
  keeps := fun _ _ _ ⟨K, hK, c⟩ k => ⟨K, PySem.W.Frag.In.keeps hK k, ⟨c.fn_, c.ok_, c.more, c.hd, c.out, fun p hp => k _ _ (c.empty p hp)⟩⟩
theorem obsL_eq {n : Nat} {fn : List DefA} {tf : List He.Defn} {ex : PySem.W.Frag → List Bool} {g : Addr → Option Obj} {s : Shared} (h : ∀ a, g a = s.heap.get? a) : obsL n fn tf ex g = (hookL n fn tf ex).obs s := by
  rw [show g = s.heap.get? from funext h] <;> rfl
section
variable {fn : List DefA} {tf : List He.Defn} {ex : PySem.W.Frag → List Bool} {h : Heap} {K : PySem.W.Frag}
theorem nthB {l : List Bool} (a : l.all id = true) (i : Nat) {b : Bool} (e : l[i]? = some b) : b = true := List.all_eq_true.mp a b (List.mem_of_getElem? e)
theorem Says.def_ (c : Says fn tf ex h K) (i : Nat) {d : DefA} (e : fn[i]? = some d) : ∃ fd, FunD K d.name d.qual d.params d.body d.scope (d.dvs K) (d.kws K) (d.at_ K) fd := by
  have z : (fn.map fun d => fnA K (d.at_ K))[i]? = (fn.map DefA.val)[i]? := by rw [c.fn_]
  rw [List.getElem?_map, List.getElem?_map, e] at z
  exact DefA.funD (Option.some.inj z) (List.all_eq_true.mp c.ok_ d (List.mem_of_getElem? e))
end
/-- what a def of no default leaves -/
theorem fun_parts {K : PySem.W.Frag} {x q : Str} {st : Stmt} {f : Addr} {kws : List (Str × V)} (F : ∃ fd, FunD K x q (defArgs st) (defBody st) (defScope st) [] kws f fd) :
    ∃ (oc : Value) (od : Option Addr) (kV dc pm : Value) (an : Option Addr) (cd ct : Value) (sl : Array (Option Value)), K.lookup f = some ⟨oc, od, .func (PySem.W.fnOf x q (defArgs st) (defBody st) (defScope st) .none kV dc pm an cd ct), sl⟩ ∧ PySem.W.codeIn K cd q = true ∧ PySem.W.keepIn K (.ref f) = true := by
  obtain ⟨fd, F⟩ := F
  have kp := F.kp
  obtain ⟨oc, od, dV, kV, dc, pm, an, cd, ct, sl, rfl, l, c, d, _⟩ := F.ex
  rcases d with ⟨_, rfl⟩ | ⟨z, _⟩
  · exact ⟨oc, od, kV, dc, pm, an, cd, ct, sl, l, c, kp⟩
  · exact absurd rfl z
/-- a def that is no method: f at the name x -/
abbrev dfn (f : PySem.W.Frag → Addr) (x q : Str) (st : Stmt) : DefA := { at_ := f, name := x, qual := q, params := defArgs st, body := defBody st, scope := defScope st }
/-! ### truths and what they tell -/
def intB (K : PySem.W.Frag) (x : Str) (i : Int) : Bool := match PySem.W.nsIn K mainGlobals x with
  | some (some (.int j _)) => decide (j = i)
  | _ => false
theorem intB_ok {K : PySem.W.Frag} {x : Str} {i : Int} (h : intB K x i = true) : ∃ t, PySem.W.nsIn K mainGlobals x = some (some (.int i t)) := by
  unfold intB at h
  split at h
  · rename_i j t e
    rw [e, of_decide_eq_true h]
    exact ⟨t, rfl⟩
  · cases h
def strB (K : PySem.W.Frag) (x z : Str) : Bool := match PySem.W.nsIn K mainGlobals x with
  | some (some (.str j _)) => decide (j = z)
  | _ => false
theorem strB_ok {K : PySem.W.Frag} {x z : Str} (h : strB K x z = true) : ∃ t, PySem.W.nsIn K mainGlobals x = some (some (.str z t)) := by
  unfold strB at h
  split at h
  · rename_i j t e
    rw [e, of_decide_eq_true h]
    exact ⟨t, rfl⟩
  · cases h
def recA (K : PySem.W.Frag) (p : Addr) (T : String) : Addr := match PySem.W.recIn K p T with
  | some (.ref g :: _) => g
  | _ => 0
def recB (K : PySem.W.Frag) (p : Addr) (T : String) : Bool := match PySem.W.recIn K p T with
  | some (.ref _ :: _) => true
  | _ => false
theorem recB_ok {K : PySem.W.Frag} {p : Addr} {T : String} (h : recB K p T = true) : ∃ r, PySem.W.recIn K p T = some (.ref (recA K p T) :: r) := by
  unfold recB at h
  unfold recA
  split at h
  · rename_i g r e
    rw [e]
    exact ⟨r, rfl⟩
  · cases h
def fcVal (K : PySem.W.Frag) (a b : Value) (x : Str) : Option Value := match PySem.W.findCls K a b x with
  | some (.val v) => some v
  | _ => none
theorem fcVal_ok {K : PySem.W.Frag} {a b v : Value} {x : Str} (h : fcVal K a b x = some v) : PySem.W.findCls K a b x = some (.val v) := by
  unfold fcVal at h
  split at h
  · rename_i u e
    rw [e, Option.some.inj h]
  · cases h
def fcAd (K : PySem.W.Frag) (a b : Value) (x : Str) : Addr := match fcVal K a b x with
  | some (.ref f) => f
  | _ => 0
def fcGet (K : PySem.W.Frag) (a b : Value) (x : Str) : Option (Value × Value × Value × Value) := match PySem.W.findCls K a b x with
  | some (.get g v o t) => some (g, v, o, t)
  | _ => none
theorem fcGet_ok {K : PySem.W.Frag} {a b g v o t : Value} {x : Str} (h : fcGet K a b x = some (g, v, o, t)) : PySem.W.findCls K a b x = some (.get g v o t) := by
  unfold fcGet at h
  split at h
  · rename_i e
    have z := Option.some.inj h
    simp only [Prod.mk.injEq] at z
    obtain ⟨rfl, rfl, rfl, rfl⟩ := z
    exact e
  · cases h
/-- an error class, its mro -/
def excB (K : PySem.W.Frag) (C : Addr) (bm : List Value) : Bool := match K.lookup C with
  | some ⟨.type t, _, .cls ⟨_, _, mro, _, _, hd, _, _, _, _, del⟩, sl⟩ => decide (t = "type") && (decide (mro = .ref C :: bm) && (hd && (!del && (match sl.toList with
    | [_, _, some (.str _ _), _, some (.builtin n), _] => decide (n = "ValueError.__new__")
    | _ => false))))
  | _ => false
theorem excB_ok {K : PySem.W.Frag} {C : Addr} {bm : List Value} (h : excB K C bm = true) : ∃ (nm q : Str) (N : Addr) (bs : List Value) (sn : List Str) (sub : List Value) (ab : Bool) (col : Option Bool) (dd : Option Addr) (m0 m1 m3 m5 : Option Value) (cn : Str) (tk : Tok),
    K.lookup C = some (excClassObj nm q C N bs (bm) true sn sub ab col dd m0 m1 (some (.str cn tk)) m3 m5 "ValueError.__new__") := by
  unfold excB at h
  split at h
  · rename_i t dd nm bs mro N q hd sn sub ab col del sl e
    have h1 := Bool.and_eq_true_iff.mp h
    have h2 := Bool.and_eq_true_iff.mp h1.2
    have h3 := Bool.and_eq_true_iff.mp h2.2
    have h4 := Bool.and_eq_true_iff.mp h3.2
    have e1 := of_decide_eq_true h1.1
    have e2 := of_decide_eq_true h2.1
    have e3 := h3.1
    have e4 : del = false := by simpa using h4.1
    have h5 := h4.2
    split at h5
    · rename_i m0 m1 cn tk m3 n m5 es
      have e5 := of_decide_eq_true h5
      obtain ⟨l⟩ := sl
      have es2 : l = _ := es
      subst e1 e2 e3 e4 e5 es2
      exact ⟨_, _, _, _, _, _, _, _, _, _, _, _, _, _, _, e⟩
    · cases h5
  · cases h
/-- an empty tuple -/
def tup0B (K : PySem.W.Frag) (T : Addr) : Bool := match K.lookup T with
  | some ⟨.type t, _, .seq its _, _⟩ => decide (t = "tuple") && its.isEmpty
  | _ => false
theorem tup0B_ok {K : PySem.W.Frag} {T : Addr} (h : tup0B K T = true) : ∃ (od : Option Addr) (n : Nat) (sl : Array (Option Value)), K.lookup T = some ⟨.type "tuple", od, .seq #[] n, sl⟩ := by
  unfold tup0B at h
  split at h
  · rename_i t od its n sl e
    have h1 := Bool.and_eq_true_iff.mp h
    have e1 := of_decide_eq_true h1.1
    have e2 : its = #[] := by simpa using h1.2
    subst e1 e2
    exact ⟨_, _, _, e⟩
  · cases h
/-- the dict of a def's keyword-only defaults -/
def kwdA (K : PySem.W.Frag) (f : Addr) : Addr := match K.lookup f with
  | some ⟨_, _, .func fd, _⟩ => (match fd.kwdefaults with
    | .ref d => d
    | _ => 0)
  | _ => 0
def kwdR (K : PySem.W.Frag) (f : Addr) : Bool := match K.lookup f with
  | some ⟨_, _, .func fd, _⟩ => (match fd.kwdefaults with
    | .ref _ => true
    | _ => false)
  | _ => false
theorem kwdR_ok {K : PySem.W.Frag} {f : Addr} {oc : Value} {od : Option Addr} {x q : Str} {a : Arguments} {b : List Stmt} {s : Scope} {dV kV dc pm cd ct : Value} {an : Option Addr} {sl : Array (Option Value)} (h : kwdR K f = true)
    (l : K.lookup f = some ⟨oc, od, .func (PySem.W.fnOf x q a b s dV kV dc pm an cd ct), sl⟩) : kV = .ref (kwdA K f) := by
  unfold kwdR at h
  unfold kwdA
  rw [l] at h ⊢
  cases kV with
  | ref d => rfl
  | _ => exact absurd h Bool.false_ne_true
def nsA (K : PySem.W.Frag) (D : Addr) (x : Str) : Addr := match PySem.W.nsIn K D x with
  | some (some (.ref a)) => a
  | _ => 0
end OF
namespace OF
open PySem PySem.Spec PyProof.Rows L2
theorem Says.fun_ {fn : List He5.DefA} {tf : List He.Defn} {ex : PySem.W.Frag → List Bool} {h : Heap} {K : PySem.W.Frag} (c : Says fn tf ex h K) (i : Nat) {f : PySem.W.Frag → Addr} {x q : Str} {st : Stmt} (e : fn[i]? = some (dfn f x q st)) :
    ∃ (oc : Value) (od : Option Addr) (kV dc pm : Value) (an : Option Addr) (cd ct : Value) (sl : Array (Option Value)), K.lookup (f K) = some ⟨oc, od, .func (PySem.W.fnOf x q (defArgs st) (defBody st) (defScope st) .none kV dc pm an cd ct), sl⟩ ∧ PySem.W.codeIn K cd q = true ∧ PySem.W.keepIn K (.ref (f K)) = true :=
  fun_parts (K := K) (x := x) (q := q) (st := st) (f := f K) (kws := []) (c.def_ i e)
end OF
namespace OF
open PySem PySem.Spec PyProof.Rows L2
/-- the end of a row over such a head, guards known -/
theorem walkGE {l : PySem.W.OpenLaw} {m n : Nat} {q : Program} {loose : List Str} {XP : (Str → Option Value) → Heap → Prop} {YP : World → Heap → Prop} {d : DefRec} {x : Str}
    (hm : l.most = some m) (hm2 : m ≤ sizeLine) (hdf : d.params.defaults = []) (room : Room n callerA)
    (F : ∀ (w : World) (mg : Str → Option Value) (fa : Addr) (h : Heap), YP w h → h.Ns mainGlobals mg → mg d.name = some (.ref fa) →
      ∃ (K : PySem.W.Frag) (sp : Sp), K.In h ∧ (∃ fd : FuncData, (∀ (s : Shared) (u : Value), BindsTo s fd ⟨[u], []⟩ [(x, u)]) ∧ ∀ base : Heap, K.In base → base.Ns mainGlobals mg → FnG l.prog w K mg base n fa fd [x] sp) ∧
        ∀ (H : Hp) (a : Addr) (ns : List Int), ns.length ≤ m → SqL K H a (ns.map V.int) → sp [.ref a] H (fun v _ => v = .bl true) fun _ _ _ => False) :
    PySem.W.WalkO q loose XP YP l.row.toRowW d [] (fun f vs => PySem.call f vs) := by
  apply Att.attach_call hm hdf
  intro w s₀ s₁ mg mb fa o pm cd doc a vs ns G Y ho hd hcd hmg hobj hints hlen hg
  obtain ⟨K, sp, KX, ⟨fd, bind, FF⟩, hsp⟩ := F w mg fa _ Y G.T.g hmg
  exact law_callG KX G.T.g G.T.b G.T.builtins G.T.nolimit hg hobj hints (Nat.le_trans hlen hm2) room FF bind fun H => hsp H a ns hlen
end OF
set_option maxHeartbeats 0
namespace K19H
open PySem PySem.Spec PyProof.Rows L2 OF
/-! ### the head: one run of the kernel -/
abbrev topS (i : Nat) : Stmt := PySem.Challenge.pw_oddfigures_k19_loops_judged.main.body.getD i (.Pass ⟨0, 0, 0, 0⟩)
abbrev sWhole : Stmt := topS 16
abbrev sIsInt : Stmt := topS 17
abbrev sIsBase : Stmt := topS 18
abbrev sIsDigit : Stmt := topS 19
abbrev sAre : Stmt := topS 20
abbrev sOneOf : Stmt := topS 37
abbrev sIsPair : Stmt := topS 38
abbrev sDigList : Stmt := topS 39
abbrev sDiffDig : Stmt := topS 40
abbrev sDiffPair : Stmt := topS 41
abbrev sInit : Stmt := inClass (topS 43) 0
abbrev sAllows : Stmt := inClass (topS 43) 9
abbrev sPBase : Stmt := inClass (topS 43) 1
abbrev sPDigits : Stmt := inClass (topS 43) 2
abbrev sLeft : Stmt := topS 24
abbrev sAllLeft : Stmt := topS 25
abbrev sBehind : Stmt := topS 26
abbrev sFollow : Stmt := topS 27
abbrev sGraph : Stmt := topS 29
abbrev sIsSch : Stmt := topS 45
abbrev sCheckS : Stmt := topS 46
abbrev sCheckN : Stmt := topS 47
abbrev sCell : Stmt := topS 56
abbrev sBox : Stmt := topS 57
abbrev sTake : Stmt := topS 58
abbrev sDigits : Stmt := topS 60
abbrev sPairs : Stmt := topS 61
abbrev sScheme : Stmt := topS 62
abbrev sMade : Stmt := topS 63
abbrev sRight : Stmt := topS 72
abbrev sLaw : Stmt := topS 73
abbrev sPGraph : Stmt := topS 30
abbrev sIsEnd : Stmt := topS 28
abbrev sTurned : Stmt := topS 31
abbrev sLive : Stmt := topS 32
abbrev sPlain : Stmt := topS 49
abbrev sUnt : Stmt := topS 33
abbrev sWay : Stmt := topS 34
abbrev sBack : Stmt := topS 35
abbrev sRowB : Stmt := topS 50
abbrev sMid : Stmt := topS 51
abbrev sLoop : Stmt := topS 52
abbrev sIsRow : Stmt := topS 65
abbrev sValue : Stmt := topS 64
abbrev sHas : Stmt := inClass (topS 43) 7
abbrev sValueOf : Stmt := inClass (topS 43) 10
abbrev sIsPR : Stmt := topS 53
abbrev sIsLoop : Stmt := topS 54
abbrev sMixed : Stmt := topS 59
abbrev sIsPart : Stmt := topS 66
abbrev sSomeD : Stmt := topS 69
abbrev sDrawn : Stmt := topS 70
abbrev sDue : Stmt := topS 67
abbrev sSpoilt : Stmt := topS 68
abbrev sRefused : Stmt := topS 71
abbrev sFig : Stmt := inClass (topS 2) 0
abbrev sInBase : Stmt := inClass (topS 3) 0
abbrev sInDig : Stmt := inClass (topS 4) 0
abbrev sInBars : Stmt := inClass (topS 5) 0
abbrev sInNum : Stmt := inClass (topS 8) 0
abbrev sInR : Stmt := inClass (topS 6) 0
abbrev sNotS : Stmt := inClass (topS 10) 0
def l_f1 (K : PySem.W.Frag) : Addr := He.ga K "is_whole"
def l_f2 (K : PySem.W.Frag) : Addr := He.ga K "is_integer"
def l_f3 (K : PySem.W.Frag) : Addr := He.ga K "is_base"
def l_f4 (K : PySem.W.Frag) : Addr := He.ga K "is_digit"
def l_f5 (K : PySem.W.Frag) : Addr := He.ga K "are_digits"
def l_f6 (K : PySem.W.Frag) : Addr := He.ga K "_is_one_of"
def l_f7 (K : PySem.W.Frag) : Addr := He.ga K "_is_pair"
def l_f8 (K : PySem.W.Frag) : Addr := He.ga K "_is_digit_list"
def l_f9 (K : PySem.W.Frag) : Addr := He.ga K "_different_digits"
def l_f10 (K : PySem.W.Frag) : Addr := He.ga K "_different_pairs"
def l_f11 (K : PySem.W.Frag) : Addr := He.ga K "left_digits"
def l_f12 (K : PySem.W.Frag) : Addr := He.ga K "all_left_digits"
def l_f13 (K : PySem.W.Frag) : Addr := He.ga K "places_behind"
def l_f14 (K : PySem.W.Frag) : Addr := He.ga K "follower"
def l_f15 (K : PySem.W.Frag) : Addr := He.ga K "is_end"
def l_f16 (K : PySem.W.Frag) : Addr := He.ga K "graph_from"
def l_f17 (K : PySem.W.Frag) : Addr := He.ga K "place_graph"
def l_f18 (K : PySem.W.Frag) : Addr := He.ga K "turned"
def l_f19 (K : PySem.W.Frag) : Addr := He.ga K "live_graph"
def l_f20 (K : PySem.W.Frag) : Addr := He.ga K "untangled"
def l_f21 (K : PySem.W.Frag) : Addr := He.ga K "way"
def l_f22 (K : PySem.W.Frag) : Addr := He.ga K "_way_back"
def l_f23 (K : PySem.W.Frag) : Addr := He.ga K "is_scheme"
def l_f24 (K : PySem.W.Frag) : Addr := He.ga K "check_scheme"
def l_f25 (K : PySem.W.Frag) : Addr := He.ga K "check_number"
def l_f26 (K : PySem.W.Frag) : Addr := He.ga K "_plain_graph"
def l_f27 (K : PySem.W.Frag) : Addr := He.ga K "_row_between"
def l_f28 (K : PySem.W.Frag) : Addr := He.ga K "_middle"
def l_f29 (K : PySem.W.Frag) : Addr := He.ga K "loop"
def l_f30 (K : PySem.W.Frag) : Addr := He.ga K "is_plain_row_of"
def l_f31 (K : PySem.W.Frag) : Addr := He.ga K "is_loop"
def l_f32 (K : PySem.W.Frag) : Addr := He.ga K "_law_cell"
def l_f33 (K : PySem.W.Frag) : Addr := He.ga K "_law_box"
def l_f34 (K : PySem.W.Frag) : Addr := He.ga K "_law_take"
def l_f35 (K : PySem.W.Frag) : Addr := He.ga K "_law_mixed"
def l_f36 (K : PySem.W.Frag) : Addr := He.ga K "_law_digits"
def l_f37 (K : PySem.W.Frag) : Addr := He.ga K "_law_pairs"
def l_f38 (K : PySem.W.Frag) : Addr := He.ga K "_law_scheme"
def l_f39 (K : PySem.W.Frag) : Addr := He.ga K "_law_made"
def l_f40 (K : PySem.W.Frag) : Addr := He.ga K "_law_value"
def l_f41 (K : PySem.W.Frag) : Addr := He.ga K "_law_is_row"
def l_f42 (K : PySem.W.Frag) : Addr := He.ga K "_law_is_part"
def l_f43 (K : PySem.W.Frag) : Addr := He.ga K "_law_due"
def l_f44 (K : PySem.W.Frag) : Addr := He.ga K "_law_spoilt"
def l_f45 (K : PySem.W.Frag) : Addr := He.ga K "_law_some_digit"
def l_f46 (K : PySem.W.Frag) : Addr := He.ga K "_law_drawn"
def l_f47 (K : PySem.W.Frag) : Addr := He.ga K "_law_refused"
def l_f48 (K : PySem.W.Frag) : Addr := He.ga K "_law_right"
def l_f49 (K : PySem.W.Frag) : Addr := He.ga K "law"
def l_CF (K : PySem.W.Frag) : Addr := He.ga K "FigureError"
def l_fF (K : PySem.W.Frag) : Addr := OF.fcAd K (.ref (l_CF K)) (.type "type") "__init__"
def l_C1 (K : PySem.W.Frag) : Addr := He.ga K "InvalidBase"
def l_fI1 (K : PySem.W.Frag) : Addr := He.ma K (l_C1 K) "__init__"
def l_C2 (K : PySem.W.Frag) : Addr := He.ga K "InvalidDigits"
def l_fI2 (K : PySem.W.Frag) : Addr := He.ma K (l_C2 K) "__init__"
def l_C3 (K : PySem.W.Frag) : Addr := He.ga K "InvalidBars"
def l_fI3 (K : PySem.W.Frag) : Addr := He.ma K (l_C3 K) "__init__"
def l_C4 (K : PySem.W.Frag) : Addr := He.ga K "NotScheme"
def l_fI4 (K : PySem.W.Frag) : Addr := He.ma K (l_C4 K) "__init__"
def l_C5 (K : PySem.W.Frag) : Addr := He.ga K "InvalidNumber"
def l_fI5 (K : PySem.W.Frag) : Addr := He.ma K (l_C5 K) "__init__"
def l_C6 (K : PySem.W.Frag) : Addr := He.ga K "InvalidRow"
def l_fI6 (K : PySem.W.Frag) : Addr := He.ma K (l_C6 K) "__init__"
def l_CS (K : PySem.W.Frag) : Addr := He.ga K "Scheme"
def l_h1 (K : PySem.W.Frag) : Addr := He.ma K (l_CS K) "allows"
def l_h2 (K : PySem.W.Frag) : Addr := He.ma K (l_CS K) "__contains__"
def l_h3 (K : PySem.W.Frag) : Addr := He.ma K (l_CS K) "value_of"
def l_pB (K : PySem.W.Frag) : Addr := He.ma K (l_CS K) "base"
def l_gB (K : PySem.W.Frag) : Addr := OF.recA K (l_pB K) "property"
def l_pD (K : PySem.W.Frag) : Addr := He.ma K (l_CS K) "digits"
def l_gD (K : PySem.W.Frag) : Addr := OF.recA K (l_pD K) "property"
def l_hN (K : PySem.W.Frag) : Addr := He.ma K (l_CS K) "__init__"
def l_DK (K : PySem.W.Frag) : Addr := OF.kwdA K (l_hN K)
def l_TD (K : PySem.W.Frag) : Addr := OF.nsA K (l_DK K) "bars"
def hfn : List He5.DefA := [OF.dfn l_f1 "is_whole" "is_whole" sWhole,
  OF.dfn l_f2 "is_integer" "is_integer" sIsInt,
  OF.dfn l_f3 "is_base" "is_base" sIsBase,
  OF.dfn l_f4 "is_digit" "is_digit" sIsDigit,
  OF.dfn l_f5 "are_digits" "are_digits" sAre,
  OF.dfn l_f6 "_is_one_of" "_is_one_of" sOneOf,
  OF.dfn l_f7 "_is_pair" "_is_pair" sIsPair,
  OF.dfn l_f8 "_is_digit_list" "_is_digit_list" sDigList,
  OF.dfn l_f9 "_different_digits" "_different_digits" sDiffDig,
  OF.dfn l_f10 "_different_pairs" "_different_pairs" sDiffPair,
  OF.dfn l_f11 "left_digits" "left_digits" sLeft,
  OF.dfn l_f12 "all_left_digits" "all_left_digits" sAllLeft,
  OF.dfn l_f13 "places_behind" "places_behind" sBehind,
  OF.dfn l_f14 "follower" "follower" sFollow,
  OF.dfn l_f15 "is_end" "is_end" sIsEnd,
  OF.dfn l_f16 "graph_from" "graph_from" sGraph,
  OF.dfn l_f17 "place_graph" "place_graph" sPGraph,
  OF.dfn l_f18 "turned" "turned" sTurned,
  OF.dfn l_f19 "live_graph" "live_graph" sLive,
  OF.dfn l_f20 "untangled" "untangled" sUnt,
  OF.dfn l_f21 "way" "way" sWay,
  OF.dfn l_f22 "_way_back" "_way_back" sBack,
  OF.dfn l_f23 "is_scheme" "is_scheme" sIsSch,
  OF.dfn l_f24 "check_scheme" "check_scheme" sCheckS,
  OF.dfn l_f25 "check_number" "check_number" sCheckN,
  OF.dfn l_f26 "_plain_graph" "_plain_graph" sPlain,
  OF.dfn l_f27 "_row_between" "_row_between" sRowB,
  OF.dfn l_f28 "_middle" "_middle" sMid,
  OF.dfn l_f29 "loop" "loop" sLoop,
  OF.dfn l_f30 "is_plain_row_of" "is_plain_row_of" sIsPR,
  OF.dfn l_f31 "is_loop" "is_loop" sIsLoop,
  OF.dfn l_f32 "_law_cell" "_law_cell" sCell,
  OF.dfn l_f33 "_law_box" "_law_box" sBox,
  OF.dfn l_f34 "_law_take" "_law_take" sTake,
  OF.dfn l_f35 "_law_mixed" "_law_mixed" sMixed,
  OF.dfn l_f36 "_law_digits" "_law_digits" sDigits,
  OF.dfn l_f37 "_law_pairs" "_law_pairs" sPairs,
  OF.dfn l_f38 "_law_scheme" "_law_scheme" sScheme,
  OF.dfn l_f39 "_law_made" "_law_made" sMade,
  OF.dfn l_f40 "_law_value" "_law_value" sValue,
  OF.dfn l_f41 "_law_is_row" "_law_is_row" sIsRow,
  OF.dfn l_f42 "_law_is_part" "_law_is_part" sIsPart,
  OF.dfn l_f43 "_law_due" "_law_due" sDue,
  OF.dfn l_f44 "_law_spoilt" "_law_spoilt" sSpoilt,
  OF.dfn l_f45 "_law_some_digit" "_law_some_digit" sSomeD,
  OF.dfn l_f46 "_law_drawn" "_law_drawn" sDrawn,
  OF.dfn l_f47 "_law_refused" "_law_refused" sRefused,
  OF.dfn l_f48 "_law_right" "_law_right" sRight,
  OF.dfn l_f49 "law" "law" sLaw,
  OF.dfn l_fF "__init__" "FigureError.__init__" sFig,
  OF.dfn l_fI1 "__init__" "InvalidBase.__init__" sInBase,
  OF.dfn l_fI2 "__init__" "InvalidDigits.__init__" sInDig,
  OF.dfn l_fI3 "__init__" "InvalidBars.__init__" sInBars,
  OF.dfn l_fI4 "__init__" "NotScheme.__init__" sNotS,
  OF.dfn l_fI5 "__init__" "InvalidNumber.__init__" sInNum,
  OF.dfn l_fI6 "__init__" "InvalidRow.__init__" sInR,
  OF.dfn l_h1 "allows" "Scheme.allows" sAllows,
  OF.dfn l_h2 "__contains__" "Scheme.__contains__" sHas,
  OF.dfn l_h3 "value_of" "Scheme.value_of" sValueOf,
  OF.dfn l_hN "__init__" "Scheme.__init__" sInit,
  OF.dfn l_gB "base" "Scheme.base" sPBase,
  OF.dfn l_gD "digits" "Scheme.digits" sPDigits]
def hex (K : PySem.W.Frag) : List Bool := [OF.kwdR K (l_hN K),
  decide (PySem.W.nsIn K mainGlobals "is_whole" = some (some (.ref (l_f1 K)))),
  decide (PySem.W.nsIn K mainGlobals "is_integer" = some (some (.ref (l_f2 K)))),
  decide (PySem.W.nsIn K mainGlobals "is_base" = some (some (.ref (l_f3 K)))),
  decide (PySem.W.nsIn K mainGlobals "is_digit" = some (some (.ref (l_f4 K)))),
  decide (PySem.W.nsIn K mainGlobals "are_digits" = some (some (.ref (l_f5 K)))),
  decide (PySem.W.nsIn K mainGlobals "_is_one_of" = some (some (.ref (l_f6 K)))),
  decide (PySem.W.nsIn K mainGlobals "_is_pair" = some (some (.ref (l_f7 K)))),
  decide (PySem.W.nsIn K mainGlobals "_is_digit_list" = some (some (.ref (l_f8 K)))),
  decide (PySem.W.nsIn K mainGlobals "_different_digits" = some (some (.ref (l_f9 K)))),
  decide (PySem.W.nsIn K mainGlobals "_different_pairs" = some (some (.ref (l_f10 K)))),
  decide (PySem.W.nsIn K mainGlobals "left_digits" = some (some (.ref (l_f11 K)))),
  decide (PySem.W.nsIn K mainGlobals "all_left_digits" = some (some (.ref (l_f12 K)))),
  decide (PySem.W.nsIn K mainGlobals "places_behind" = some (some (.ref (l_f13 K)))),
  decide (PySem.W.nsIn K mainGlobals "follower" = some (some (.ref (l_f14 K)))),
  decide (PySem.W.nsIn K mainGlobals "is_end" = some (some (.ref (l_f15 K)))),
  decide (PySem.W.nsIn K mainGlobals "graph_from" = some (some (.ref (l_f16 K)))),
  decide (PySem.W.nsIn K mainGlobals "place_graph" = some (some (.ref (l_f17 K)))),
  decide (PySem.W.nsIn K mainGlobals "turned" = some (some (.ref (l_f18 K)))),
  decide (PySem.W.nsIn K mainGlobals "live_graph" = some (some (.ref (l_f19 K)))),
  decide (PySem.W.nsIn K mainGlobals "untangled" = some (some (.ref (l_f20 K)))),
  decide (PySem.W.nsIn K mainGlobals "way" = some (some (.ref (l_f21 K)))),
  decide (PySem.W.nsIn K mainGlobals "_way_back" = some (some (.ref (l_f22 K)))),
  decide (PySem.W.nsIn K mainGlobals "is_scheme" = some (some (.ref (l_f23 K)))),
  decide (PySem.W.nsIn K mainGlobals "check_scheme" = some (some (.ref (l_f24 K)))),
  decide (PySem.W.nsIn K mainGlobals "check_number" = some (some (.ref (l_f25 K)))),
  decide (PySem.W.nsIn K mainGlobals "_plain_graph" = some (some (.ref (l_f26 K)))),
  decide (PySem.W.nsIn K mainGlobals "_row_between" = some (some (.ref (l_f27 K)))),
  decide (PySem.W.nsIn K mainGlobals "_middle" = some (some (.ref (l_f28 K)))),
  decide (PySem.W.nsIn K mainGlobals "loop" = some (some (.ref (l_f29 K)))),
  decide (PySem.W.nsIn K mainGlobals "is_plain_row_of" = some (some (.ref (l_f30 K)))),
  decide (PySem.W.nsIn K mainGlobals "is_loop" = some (some (.ref (l_f31 K)))),
  decide (PySem.W.nsIn K mainGlobals "_law_cell" = some (some (.ref (l_f32 K)))),
  decide (PySem.W.nsIn K mainGlobals "_law_box" = some (some (.ref (l_f33 K)))),
  decide (PySem.W.nsIn K mainGlobals "_law_take" = some (some (.ref (l_f34 K)))),
  decide (PySem.W.nsIn K mainGlobals "_law_mixed" = some (some (.ref (l_f35 K)))),
  decide (PySem.W.nsIn K mainGlobals "_law_digits" = some (some (.ref (l_f36 K)))),
  decide (PySem.W.nsIn K mainGlobals "_law_pairs" = some (some (.ref (l_f37 K)))),
  decide (PySem.W.nsIn K mainGlobals "_law_scheme" = some (some (.ref (l_f38 K)))),
  decide (PySem.W.nsIn K mainGlobals "_law_made" = some (some (.ref (l_f39 K)))),
  decide (PySem.W.nsIn K mainGlobals "_law_value" = some (some (.ref (l_f40 K)))),
  decide (PySem.W.nsIn K mainGlobals "_law_is_row" = some (some (.ref (l_f41 K)))),
  decide (PySem.W.nsIn K mainGlobals "_law_is_part" = some (some (.ref (l_f42 K)))),
  decide (PySem.W.nsIn K mainGlobals "_law_due" = some (some (.ref (l_f43 K)))),
  decide (PySem.W.nsIn K mainGlobals "_law_spoilt" = some (some (.ref (l_f44 K)))),
  decide (PySem.W.nsIn K mainGlobals "_law_some_digit" = some (some (.ref (l_f45 K)))),
  decide (PySem.W.nsIn K mainGlobals "_law_drawn" = some (some (.ref (l_f46 K)))),
  decide (PySem.W.nsIn K mainGlobals "_law_refused" = some (some (.ref (l_f47 K)))),
  decide (PySem.W.nsIn K mainGlobals "_law_right" = some (some (.ref (l_f48 K)))),
  decide (PySem.W.nsIn K mainGlobals "law" = some (some (.ref (l_f49 K)))),
  decide (PySem.W.nsIn K mainGlobals "FigureError" = some (some (.ref (l_CF K)))),
  PySem.W.readsIn K (l_CF K) (.type "type"),
  decide (PySem.W.specialIn K (.ref (l_CF K)) "__getattribute__" = some (some (.builtin "type.__getattribute__"))),
  decide (OF.fcVal K (.ref (l_CF K)) (.type "type") "__init__" = some (.ref (l_fF K))),
  decide (OF.fcVal K (.type "ValueError") (.type "type") "__init__" = some (.builtin "ValueError.__init__")),
  decide (PySem.W.nsIn K mainGlobals "InvalidBase" = some (some (.ref (l_C1 K)))),
  OF.excB K (l_C1 K) [.ref (l_CF K), .type "ValueError", .type "Exception", .type "BaseException", .type "object"],
  decide (PySem.W.findIn K (.ref (l_C1 K)) "__setattr__" = some (some (.builtin "object.__setattr__"))),
  decide (PySem.W.subIn K (.ref (l_C1 K)) (.type "BaseException") = some true),
  decide (PySem.W.typeIn K (.ref (l_C1 K)) = some (.type "type")),
  PySem.W.keepIn K (.ref (l_C1 K)),
  decide (PySem.W.findIn K (.ref (l_C1 K)) "__init__" = some (some (.ref (l_fI1 K)))),
  decide (PySem.W.typeIn K (.ref (l_fI1 K)) = some (.type "function")),
  decide (PySem.W.findIn K (.ref (l_C1 K)) "value" = some none),
  decide (PySem.W.findIn K (.ref (l_C1 K)) "__getattribute__" = some (some (.builtin "BaseException.__getattribute__"))),
  decide (PySem.W.findIn K (.ref (l_C1 K)) "__getattr__" = some none),
  PySem.W.hasDictIn K (l_C1 K),
  decide (PySem.W.subIn K (.ref (l_C1 K)) (.ref (l_C1 K)) = some true),
  PySem.W.isClsIn K (l_C1 K),
  decide (PySem.W.nsIn K mainGlobals "InvalidDigits" = some (some (.ref (l_C2 K)))),
  OF.excB K (l_C2 K) [.ref (l_CF K), .type "ValueError", .type "Exception", .type "BaseException", .type "object"],
  decide (PySem.W.findIn K (.ref (l_C2 K)) "__setattr__" = some (some (.builtin "object.__setattr__"))),
  decide (PySem.W.subIn K (.ref (l_C2 K)) (.type "BaseException") = some true),
  decide (PySem.W.typeIn K (.ref (l_C2 K)) = some (.type "type")),
  PySem.W.keepIn K (.ref (l_C2 K)),
  decide (PySem.W.findIn K (.ref (l_C2 K)) "__init__" = some (some (.ref (l_fI2 K)))),
  decide (PySem.W.typeIn K (.ref (l_fI2 K)) = some (.type "function")),
  decide (PySem.W.findIn K (.ref (l_C2 K)) "value" = some none),
  decide (PySem.W.findIn K (.ref (l_C2 K)) "__getattribute__" = some (some (.builtin "BaseException.__getattribute__"))),
  decide (PySem.W.findIn K (.ref (l_C2 K)) "__getattr__" = some none),
  PySem.W.hasDictIn K (l_C2 K),
  decide (PySem.W.subIn K (.ref (l_C2 K)) (.ref (l_C2 K)) = some true),
  PySem.W.isClsIn K (l_C2 K),
  decide (PySem.W.nsIn K mainGlobals "InvalidBars" = some (some (.ref (l_C3 K)))),
  OF.excB K (l_C3 K) [.ref (l_CF K), .type "ValueError", .type "Exception", .type "BaseException", .type "object"],
  decide (PySem.W.findIn K (.ref (l_C3 K)) "__setattr__" = some (some (.builtin "object.__setattr__"))),
  decide (PySem.W.subIn K (.ref (l_C3 K)) (.type "BaseException") = some true),
  decide (PySem.W.typeIn K (.ref (l_C3 K)) = some (.type "type")),
  PySem.W.keepIn K (.ref (l_C3 K)),
  decide (PySem.W.findIn K (.ref (l_C3 K)) "__init__" = some (some (.ref (l_fI3 K)))),
  decide (PySem.W.typeIn K (.ref (l_fI3 K)) = some (.type "function")),
  decide (PySem.W.findIn K (.ref (l_C3 K)) "value" = some none),
  decide (PySem.W.findIn K (.ref (l_C3 K)) "__getattribute__" = some (some (.builtin "BaseException.__getattribute__"))),
  decide (PySem.W.findIn K (.ref (l_C3 K)) "__getattr__" = some none),
  PySem.W.hasDictIn K (l_C3 K),
  decide (PySem.W.subIn K (.ref (l_C3 K)) (.ref (l_C3 K)) = some true),
  PySem.W.isClsIn K (l_C3 K),
  decide (PySem.W.nsIn K mainGlobals "NotScheme" = some (some (.ref (l_C4 K)))),
  OF.excB K (l_C4 K) [.ref (l_CF K), .type "ValueError", .type "Exception", .type "BaseException", .type "object"],
  decide (PySem.W.findIn K (.ref (l_C4 K)) "__setattr__" = some (some (.builtin "object.__setattr__"))),
  decide (PySem.W.subIn K (.ref (l_C4 K)) (.type "BaseException") = some true),
  decide (PySem.W.typeIn K (.ref (l_C4 K)) = some (.type "type")),
  PySem.W.keepIn K (.ref (l_C4 K)),
  decide (PySem.W.findIn K (.ref (l_C4 K)) "__init__" = some (some (.ref (l_fI4 K)))),
  decide (PySem.W.typeIn K (.ref (l_fI4 K)) = some (.type "function")),
  decide (PySem.W.findIn K (.ref (l_C4 K)) "value" = some none),
  decide (PySem.W.findIn K (.ref (l_C4 K)) "__getattribute__" = some (some (.builtin "BaseException.__getattribute__"))),
  decide (PySem.W.findIn K (.ref (l_C4 K)) "__getattr__" = some none),
  PySem.W.hasDictIn K (l_C4 K),
  decide (PySem.W.subIn K (.ref (l_C4 K)) (.ref (l_C4 K)) = some true),
  PySem.W.isClsIn K (l_C4 K),
  decide (PySem.W.nsIn K mainGlobals "InvalidNumber" = some (some (.ref (l_C5 K)))),
  OF.excB K (l_C5 K) [.ref (l_CF K), .type "ValueError", .type "Exception", .type "BaseException", .type "object"],
  decide (PySem.W.findIn K (.ref (l_C5 K)) "__setattr__" = some (some (.builtin "object.__setattr__"))),
  decide (PySem.W.subIn K (.ref (l_C5 K)) (.type "BaseException") = some true),
  decide (PySem.W.typeIn K (.ref (l_C5 K)) = some (.type "type")),
  PySem.W.keepIn K (.ref (l_C5 K)),
  decide (PySem.W.findIn K (.ref (l_C5 K)) "__init__" = some (some (.ref (l_fI5 K)))),
  decide (PySem.W.typeIn K (.ref (l_fI5 K)) = some (.type "function")),
  decide (PySem.W.findIn K (.ref (l_C5 K)) "number" = some none),
  decide (PySem.W.findIn K (.ref (l_C5 K)) "__getattribute__" = some (some (.builtin "BaseException.__getattribute__"))),
  decide (PySem.W.findIn K (.ref (l_C5 K)) "__getattr__" = some none),
  PySem.W.hasDictIn K (l_C5 K),
  decide (PySem.W.subIn K (.ref (l_C5 K)) (.ref (l_C5 K)) = some true),
  PySem.W.isClsIn K (l_C5 K),
  decide (PySem.W.nsIn K mainGlobals "InvalidRow" = some (some (.ref (l_C6 K)))),
  OF.excB K (l_C6 K) [.ref (l_CF K), .type "ValueError", .type "Exception", .type "BaseException", .type "object"],
  decide (PySem.W.findIn K (.ref (l_C6 K)) "__setattr__" = some (some (.builtin "object.__setattr__"))),
  decide (PySem.W.subIn K (.ref (l_C6 K)) (.type "BaseException") = some true),
  decide (PySem.W.typeIn K (.ref (l_C6 K)) = some (.type "type")),
  PySem.W.keepIn K (.ref (l_C6 K)),
  decide (PySem.W.findIn K (.ref (l_C6 K)) "__init__" = some (some (.ref (l_fI6 K)))),
  decide (PySem.W.typeIn K (.ref (l_fI6 K)) = some (.type "function")),
  decide (PySem.W.findIn K (.ref (l_C6 K)) "row" = some none),
  decide (PySem.W.findIn K (.ref (l_C6 K)) "__getattribute__" = some (some (.builtin "BaseException.__getattribute__"))),
  decide (PySem.W.findIn K (.ref (l_C6 K)) "__getattr__" = some none),
  PySem.W.hasDictIn K (l_C6 K),
  decide (PySem.W.subIn K (.ref (l_C6 K)) (.ref (l_C6 K)) = some true),
  PySem.W.isClsIn K (l_C6 K),
  decide (PySem.W.nsIn K mainGlobals "Scheme" = some (some (.ref (l_CS K)))),
  PySem.W.plainGet K (l_CS K) Str.empty,
  PySem.W.hasDictIn K (l_CS K),
  PySem.W.plainOver K (l_CS K),
  decide (PySem.W.findIn K (.ref (l_CS K)) "__setattr__" = some (some (.builtin "object.__setattr__"))),
  PySem.W.makesIn K (l_CS K),
  decide (PySem.W.findIn K (.ref (l_CS K)) "_base" = some none),
  decide (PySem.W.findIn K (.ref (l_CS K)) "_digits" = some none),
  decide (PySem.W.findIn K (.ref (l_CS K)) "_bars" = some none),
  decide (PySem.W.findIn K (.ref (l_CS K)) "__class__" = some (some (.builtin "object.__class__"))),
  decide (PySem.W.specialIn K (.builtin "object.__class__") "__get__" = some (some (.builtin "getset_descriptor.__get__"))),
  decide (PySem.W.takesIn K (.builtin "object.__class__") = some true),
  decide (PySem.W.mroIn K (l_CS K) (.type "object") = some true),
  decide (PySem.W.subIn K (.ref (l_CS K)) (.ref (l_CS K)) = some true),
  PySem.W.isClsIn K (l_CS K),
  decide (PySem.W.typeIn K (.ref (l_CS K)) = some (.type "type")),
  PySem.W.keepIn K (.ref (l_CS K)),
  decide (PySem.W.findIn K (.ref (l_CS K)) "allows" = some (some (.ref (l_h1 K)))),
  PySem.W.isFn K (.ref (l_h1 K)),
  decide (PySem.W.findIn K (.ref (l_CS K)) "__contains__" = some (some (.ref (l_h2 K)))),
  PySem.W.isFn K (.ref (l_h2 K)),
  decide (PySem.W.findIn K (.ref (l_CS K)) "value_of" = some (some (.ref (l_h3 K)))),
  PySem.W.isFn K (.ref (l_h3 K)),
  decide (PySem.W.findIn K (.ref (l_CS K)) "base" = some (some (.ref (l_pB K)))),
  decide (PySem.W.specialIn K (.ref (l_pB K)) "__get__" = some (some (.builtin "property.__get__"))),
  decide (PySem.W.takesIn K (.ref (l_pB K)) = some true),
  OF.recB K (l_pB K) "property",
  decide (PySem.W.findIn K (.ref (l_CS K)) "digits" = some (some (.ref (l_pD K)))),
  decide (PySem.W.specialIn K (.ref (l_pD K)) "__get__" = some (some (.builtin "property.__get__"))),
  decide (PySem.W.takesIn K (.ref (l_pD K)) = some true),
  OF.recB K (l_pD K) "property",
  decide (PySem.W.findIn K (.ref (l_CS K)) "__init__" = some (some (.ref (l_hN K)))),
  PySem.W.isFn K (.ref (l_hN K)),
  decide (PySem.W.nsIn K (l_DK K) "bars" = some (some (.ref (l_TD K)))),
  OF.tup0B K (l_TD K),
  decide (((He.cT K ("follower", none)).2 == (He.cT K ("live_graph", none)).2) = false),
  decide (PySem.W.findIn K (.ref (l_C4 K)) "__class__" = some (some (.builtin "object.__class__"))),
  decide (PySem.W.mroIn K (l_C4 K) (.type "object") = some true),
  decide (PySem.W.subIn K (.ref (l_C4 K)) (.ref (l_CF K)) = some true),
  PySem.W.isClsIn K (l_CF K),
  decide (PySem.W.typeIn K (.ref (l_CF K)) = some (.type "type")),
  decide (PySem.W.subIn K (.ref (l_C5 K)) (.ref (l_C4 K)) = some false),
  decide (PySem.W.nsIn K mainGlobals "len" = some none),
  decide (PySem.W.nsIn K mainGlobals "range" = some none),
  decide (PySem.W.nsIn K mainGlobals "int" = some none),
  decide (PySem.W.nsIn K mainGlobals "bool" = some none),
  decide (PySem.W.nsIn K mainGlobals "isinstance" = some none),
  decide (PySem.W.nsIn K mainGlobals "repr" = some none),
  decide (PySem.W.nsIn K mainGlobals "list" = some none),
  decide (PySem.W.nsIn K mainGlobals "tuple" = some none),
  decide (PySem.W.nsIn K mainGlobals "set" = some none),
  decide (PySem.W.nsIn K mainGlobals "sorted" = some none),
  decide (PySem.W.nsIn K mainGlobals "all" = some none),
  decide (PySem.W.nsIn K mainGlobals "max" = some none),
  decide (PySem.W.nsIn K mainGlobals "min" = some none),
  decide (PySem.W.nsIn K mainGlobals "abs" = some none),
  decide (PySem.W.nsIn K mainGlobals "ValueError" = some none),
  decide (PySem.W.nsIn K mainGlobals "zip" = some none),
  OF.intB K "MOST_DIGITS" 6,
  OF.intB K "GREATEST_DIGIT" 9,
  OF.intB K "GREATEST_BASE" 6,
  decide (PySem.W.findIn K (.ref (l_C1 K)) "__class__" = some (some (.builtin "object.__class__"))),
  decide (PySem.W.mroIn K (l_C1 K) (.type "object") = some true),
  decide (OF.fcGet K (.ref (l_C1 K)) (.type "type") "__name__" = some ((.builtin "getset_descriptor.__get__"), (.builtin "type.__name__"), (.ref (l_C1 K)), (.type "type"))),
  decide (PySem.W.findIn K (.ref (l_C1 K)) "class_name" = some none),
  decide (PySem.W.findIn K (.ref (l_C2 K)) "__class__" = some (some (.builtin "object.__class__"))),
  decide (PySem.W.mroIn K (l_C2 K) (.type "object") = some true),
  decide (OF.fcGet K (.ref (l_C2 K)) (.type "type") "__name__" = some ((.builtin "getset_descriptor.__get__"), (.builtin "type.__name__"), (.ref (l_C2 K)), (.type "type"))),
  decide (PySem.W.findIn K (.ref (l_C2 K)) "class_name" = some none),
  decide (PySem.W.findIn K (.ref (l_C3 K)) "__class__" = some (some (.builtin "object.__class__"))),
  decide (PySem.W.mroIn K (l_C3 K) (.type "object") = some true),
  decide (OF.fcGet K (.ref (l_C3 K)) (.type "type") "__name__" = some ((.builtin "getset_descriptor.__get__"), (.builtin "type.__name__"), (.ref (l_C3 K)), (.type "type"))),
  decide (PySem.W.findIn K (.ref (l_C3 K)) "class_name" = some none),
  decide (PySem.W.findIn K (.ref (l_C4 K)) "__class__" = some (some (.builtin "object.__class__"))),
  decide (PySem.W.mroIn K (l_C4 K) (.type "object") = some true),
  decide (OF.fcGet K (.ref (l_C4 K)) (.type "type") "__name__" = some ((.builtin "getset_descriptor.__get__"), (.builtin "type.__name__"), (.ref (l_C4 K)), (.type "type"))),
  decide (PySem.W.findIn K (.ref (l_C4 K)) "class_name" = some none),
  decide (PySem.W.findIn K (.ref (l_C5 K)) "__class__" = some (some (.builtin "object.__class__"))),
  decide (PySem.W.mroIn K (l_C5 K) (.type "object") = some true),
  decide (OF.fcGet K (.ref (l_C5 K)) (.type "type") "__name__" = some ((.builtin "getset_descriptor.__get__"), (.builtin "type.__name__"), (.ref (l_C5 K)), (.type "type"))),
  decide (PySem.W.findIn K (.ref (l_C5 K)) "class_name" = some none),
  decide (PySem.W.findIn K (.ref (l_C6 K)) "__class__" = some (some (.builtin "object.__class__"))),
  decide (PySem.W.mroIn K (l_C6 K) (.type "object") = some true),
  decide (OF.fcGet K (.ref (l_C6 K)) (.type "type") "__name__" = some ((.builtin "getset_descriptor.__get__"), (.builtin "type.__name__"), (.ref (l_C6 K)), (.type "type"))),
  decide (PySem.W.findIn K (.ref (l_C6 K)) "class_name" = some none),
  decide (PySem.W.specialIn K (.builtin "object.__class__") "__get__" = some (some (.builtin "getset_descriptor.__get__"))),
  decide (PySem.W.takesIn K (.builtin "object.__class__") = some true),
  decide (PySem.W.nsIn K cStatics "thirdparty.any" = some none)]
def htf : List He.Defn := [("follower", none), ("live_graph", none)]
def hn0 : List Str := ["_wall", "FigureError", "InvalidBase", "InvalidDigits", "InvalidBars", "InvalidRow", "InvalidText", "InvalidNumber", "UnknownDigit", "NotScheme", "MOST_DIGITS", "GREATEST_DIGIT", "GREATEST_BASE", "EMPTY_TEXT", "is_whole", "is_integer", "is_base", "is_digit", "are_digits", "row_text", "read_row", "left_digits", "all_left_digits", "places_behind", "follower", "is_end", "graph_from", "place_graph", "turned", "live_graph"]
def hn1 : List Str := ["untangled", "way", "_way_back", "_is_one_of", "_is_pair", "_is_digit_list", "_different_digits", "_different_pairs", "_read_parts", "Scheme", "is_scheme", "check_scheme", "check_number", "_plain_graph", "_row_between", "_middle", "loop", "is_plain_row_of", "is_loop", "_law_cell", "_law_box", "_law_take", "_law_mixed", "_law_digits", "_law_pairs", "_law_scheme", "_law_made", "_law_value", "_law_is_row", "_law_is_part"]
def hn2 : List Str := ["_law_due", "_law_spoilt", "_law_some_digit", "_law_drawn", "_law_refused", "_law_right"]
def hNames : List Str := hn0 ++ hn1 ++ hn2
abbrev hR : PySem.W.OpenRow := PySem.W.OpenLaw.row PySem.Challenge.rw_oddfigures_k19_loops_judged
abbrev hk : PySem.W.Hook := OF.hookL 1100 hfn htf hex
def hob (s : PySem.W.SharedT) : OF.Al := OF.obsL 1100 hfn htf hex (HandSHeadRun.getT s)
theorem hob_eq (s : PySem.W.SharedT) : hob s = hk.obs s.abs := OF.obsL_eq (HandSHeadRun.getT_eq s)
end K19H
set_option maxHeartbeats 0
namespace K19H
open PySem PySem.Spec PyProof.Rows L2 OF
theorem hrun (w : World) : HandSHeadRun.RunEq hR (PySem.W.view hR.prog [73]) hk hob 9000 hNames w := by
  intro os
  kernel_rfl
end K19H
/-! What repr shows: plain values, tuples and lists of such, dicts of ints; repr of a list of these. -/
namespace OF
open PySem PySem.Spec PyProof.Rows L2
section
variable {X : Cx} {H : Hp}
/-- v reads as d and is shown so, wherever the heap is tracked by H -/
def Rp (X : Cx) (H : Hp) (v : V) (d : PyData) : Prop := ∀ (pins : List (Addr × Obj)) (σ : L2.St) (s : Shared) (u : Value), Inv X pins σ H s → RelV v u →
  (∃ as, Reads s.heap u d as) ∧ ∃ bs, ReadAtMost s.heap d.depth bs ∧ ReprK X.prog X.w bs s.heap d.depth u d.shown
inductive RpAll (X : Cx) (H : Hp) : List V → List PyData → Prop
  | nil : RpAll X H [] []
  | cons {v : V} {d : PyData} {vs : List V} {ds : List PyData} : Rp X H v d → RpAll X H vs ds → RpAll X H (v :: vs) (d :: ds)
theorem RpAll.reads {vs : List V} {ds : List PyData} (h : RpAll X H vs ds) : ∀ {pins : List (Addr × Obj)} {σ : L2.St} {s : Shared} {us : List Value}, Inv X pins σ H s → Vals vs us →
    (∃ as, ReadsAll s.heap us ds as) ∧ ∃ bs, ReadAtMost s.heap (PyData.depthAll ds) bs ∧ ReprAllK X.prog X.w bs s.heap (PyData.depthAll ds) us (PyData.shownAll ds) := by
  induction h with
  | nil =>
    intro pins σ s us I r
    cases r
    refine ⟨⟨[], .nil⟩, [], ?_, ?_⟩
    · intro c z
      cases z
    · simp only [PyData.shownAll]
      exact .nil
  | cons h1 _ ih =>
    intro pins σ s us I r
    cases r with
    | cons r1 r2 =>
      obtain ⟨⟨as, q1⟩, b1, m1, k1⟩ := h1 pins σ s _ I r1
      obtain ⟨⟨cs, q2⟩, b2, m2, k2⟩ := ih I r2
      simp only [PyData.depthAll, PyData.shownAll]
      refine ⟨⟨as ++ cs, .cons q1 q2⟩, b1 ++ b2, (m1.mono (Nat.le_max_left _ _)).append (m2.mono (Nat.le_max_right _ _)), .cons ?_ ?_⟩
      · exact (k1.more fun c z => List.mem_append_left _ z).level_le (Nat.le_max_left _ _)
      · exact k2.more_le (fun c z => List.mem_append_right _ z) (Nat.le_max_right _ _)
/-- what the library reads -/
theorem Rp.dp {v : V} {d : PyData} (h : Dp X.K H v d) (hs : d.showable = true) (hn : d.hasDict = false) (hz : d.shown.length ≤ sizeLine) : Rp X H v d := fun pins σ s u I r => by
  obtain ⟨as, q⟩ := Dp.reads I d v u h r
  exact ⟨⟨as, q⟩, ReprK.of_reads q hs (PyData.noDict_hsm hn) hz⟩
theorem Rp.tup {a : Addr} {xs : List V} {ds : List PyData} (h : SqT X.K H a xs) (ha : RpAll X H xs ds) : Rp X H (.ref a) (.tuple ds) := fun pins σ s u I r => by
  cases r
  obtain ⟨its, rv, ⟨o, ho, hc, n, hd⟩, _⟩ := I.tuple h
  obtain ⟨⟨as, q⟩, bs, m, k⟩ := ha.reads I rv
  have R : Reads s.heap (.ref a) (.tuple ds) as := .tuple ho hc hd q
  have out : a ∉ bs := not_mem_of_deeper R (by simp only [PyData.depth]; omega) m
  refine ⟨⟨as, R⟩, a :: bs, ReadAtMost.cons R (by simp only [PyData.depth]; omega) m, ?_⟩
  simp only [PyData.depth, PyData.shown]
  exact ReprK.tuple ho hc hd out k
def keyD : Key → PyData
  | .inl i => .int i
  | .inr z => .str z
theorem pairs_read {P : Program} {w : World} {h : Heap} : ∀ (kvs : List (Key × Int)) (vs : List (Key × Value)) (es : List DictEntry), KV (kvs.map fun p => (p.1, V.int p.2)) vs → Pairs (mixKind P w) es vs →
    ReadsAll h (es.map (·.key)) ((kvs.map fun p => (keyD p.1, PyData.int p.2)).map (·.1)) [] ∧ ReadsAll h (es.map (·.val)) ((kvs.map fun p => (keyD p.1, PyData.int p.2)).map (·.2)) []
  | [], _, _, r, q => by
    cases r
    cases q
    exact ⟨.nil, .nil⟩
  | p :: kvs, _, _, r, q => by
    cases r with
    | cons r1 r2 =>
      cases q with
      | @cons en _ _ _ k1 v1 q2 =>
        obtain ⟨h1, h2⟩ := pairs_read (h := h) kvs _ _ r2 q2
        obtain ⟨e1, t, e2⟩ := r1
        constructor
        · refine ReadsAll.cons (as := []) (bs := []) ?_ h1
          rw [← e1] at k1
          rcases keyIs_shape k1 with ⟨i, t, x1, x2⟩ | ⟨z, t, x1, x2⟩
          · show Reads h en.key (keyD p.1) []
            rw [x2, show p.1 = Sum.inl i from x1]
            exact .int i t
          · show Reads h en.key (keyD p.1) []
            rw [x2, show p.1 = Sum.inr z from x1]
            exact .str z t
        · refine ReadsAll.cons (as := []) (bs := []) ?_ h2
          show Reads h en.val (.int p.2) []
          rw [v1, e2]
          exact .int _ _
theorem Rp.dct {a : Addr} {kvs : List (Key × Int)} (h : H a = some (.dK (kvs.map fun p => (p.1, V.int p.2)))) (hs : (PyData.dict (kvs.map fun p => (keyD p.1, PyData.int p.2))).showable = true) (hz : (PyData.dict (kvs.map fun p => (keyD p.1, PyData.int p.2))).shown.length ≤ sizeLine) :
    Rp X H (.ref a) (.dict (kvs.map fun p => (keyD p.1, .int p.2))) := fun pins σ s u I r => by
  cases r
  obtain ⟨_, hm, vs, rel, o, es, ep, ho, hx, hd, _, hp, _⟩ := dk_of I.hok h
  obtain ⟨h1, h2⟩ := pairs_read (h := s.heap) kvs vs es.toList rel hp
  have R : Reads s.heap (.ref a) (.dict (kvs.map fun p => (keyD p.1, .int p.2))) (a :: [] ++ []) := .dict ho hx.1 hd h1 h2
  refine ⟨⟨_, R⟩, ReprK.of_reads R hs (fun _ z => ?_) hz⟩
  have z2 : sysModules ∈ [a] := z
  rw [List.mem_singleton] at z2
  rw [← z2] at hm
  exact absurd hm (by decide)
/-- repr of a list -/
def rRepr (X : Cx) : List V → Hp → VK → Prop := fun xs H Q => ∃ (a : Addr) (ys : List V) (ds : List PyData), xs = [.ref a] ∧ SqL X.K H a ys ∧ RpAll X H ys ds ∧ PyData.depthAll ds ≤ 40 ∧ (PyData.list ds).shown.length ≤ sizeLine ∧ Q (.str (PyData.list ds).shown) H
theorem call_reprL (gu : X.A.guards = some []) (hu : X.A.units + 64 < cLine) : CallR X (.builtin "repr") (rRepr X) := by
  intro pins s σ H xs us Q I r h
  obtain ⟨a, ys, ds, rfl, hl, hd, dep, hz, q⟩ := h
  obtain ⟨u, rfl, ru⟩ := vals1 r
  cases ru
  obtain ⟨its, rv, ⟨o, n, ho, hc, _, hdat⟩, _⟩ := I.list hl
  obtain ⟨⟨as, rd⟩, bs, m, k⟩ := hd.reads I rv
  have R : Reads s.heap (.ref a) (.list ds) (a :: as) := .list ho hc hdat rd
  have out : a ∉ bs := not_mem_of_deeper R (by simp only [PyData.depth]; omega) m
  refine call_repr_slot (by omega) ⟨o, ho, hc⟩ F.slot_list_repr.toG ?_
  have fin : ∀ (h' : Heap) (t tk : Nat), (∀ c o, s.heap.get? c = some o → h'.get? c = some o) → ∃ x u, Value.str (PyData.list ds).shown t = Value.str x u ∧ EP X pins σ Q (Value.str (PyData.list ds).shown t) { s with heap := h', toks := tk } := fun h' t tk kp =>
    ⟨_, _, rfl, .str _, H, I.kept kp, ⟨_, rfl⟩, q⟩
  simp only [PyData.shown] at fin hz
  cases its with
  | nil =>
    cases rd
    simp only [PyData.shownAll, listText_nil] at fin
    exact call_list_repr_empty ⟨o, ho, hc⟩ ho hdat (fin s.heap _ _ fun _ _ z => z)
  | cons x l =>
    exact call_list_reprK (s := s) ho hc hdat out (by simpa using k.length_eq) (fun i y z => k.item i y (by simpa using z)) gu (fun b _ => Clear.nil b) (show X.A.units + 1 + (PyData.depthAll ds + 1) < cLine by omega) (fun _ _ z => z) fin hz
end
end OF
set_option maxHeartbeats 4000000
/-! Errors of the program's own classes as values: made by position and by names. -/
namespace OF
open PySem PySem.Spec PyProof.Rows L2 PySem.HandSPX
section
variable {prog : Program} {w : World} {A : Around} {E : Value → Shared → Prop} {h : Heap} {g : Array GenState} {d : Drawn} {t : Nat} {os : OsState} {nm q : Str} {C N : Addr} {bs bm bmB : List Value} {hdct ab : Bool} {sn : List Str} {sub rest : List Value} {col : Option Bool} {dd : Option Addr}
  {k0 k1 k2 k3 k5 : Option Value} {B newId initId : String} {kw : List (Str × Value)}
theorem kw_new_ok {M : Model} {Q : Unit → Shared → Prop} (F : ExcBaseFacts B newId initId bmB) (same : ∀ T : String, bm.contains (.type T) = bmB.contains (.type T)) (hC : h.get? C = some (excClassObj nm q C N bs bm hdct sn sub ab col dd k0 k1 k2 k3 k5 newId))
    (fin : Q () ⟨h, g, d, t, os⟩) : wpAny M A (checkBuiltinCall newId ⟨.ref C :: rest, kw⟩) Q E ⟨h, g, d, t, os⟩ := by
  have below : (Value.ref C :: bm).contains (.type B) = true := by
    rw [List.contains_cons, same, F.hasB]
    exact Bool.or_true _
  have short := F.noStar
  simp only [checkBuiltinCall, F.newSplit, F.newKind, F.newRow]
  repeat first
    | refine wpAny_loadPart_at hC ?_
    | (refine wpAny_isSubtype_exc hC ?_; rw [below])
    | refine wpAny_staticBase_exc hC ?_
    | refine wpAny_madeBy_exc hC ?_
    | simp only [Bool.false_eq_true, bne_self_eq_false, if_false]
    | wp_step
  exact fin

theorem kw_new_run {R : Result → Shared → Prop} (F : ExcBaseFacts B newId initId bmB) (same : ∀ T : String, bm.contains (.type T) = bmB.contains (.type T)) (hC : h.get? C = some (excClassObj nm q C N bs bm hdct sn sub ab col dd k0 k1 k2 k3 k5 newId)) (small : rest.length ≤ sizeLine)
    (fin : R (.ok (.ret (.ref (h.objs.size + 1)))) ⟨(h.push (PySem.W.kdv_tup rest)).push (excO C h.objs.size), g, d, t, os⟩) : codeAny (model prog w) A (.builtin newId ⟨.ref C :: rest, kw⟩) R ⟨h, g, d, t, os⟩ := by
  have ends := F.ends
  have inB : (Value.ref C :: bm).contains (.type B) = true := by
    rw [List.contains_cons, same, F.hasB]
    exact Bool.or_true _
  have outA : (Value.ref C :: bm).contains (.type "AttributeError") = false := by
    rw [List.contains_cons, same, F.noAttr] <;> rfl
  have outN : (Value.ref C :: bm).contains (.type "NameError") = false := by
    rw [List.contains_cons, same, F.noName] <;> rfl
  apply codeAny_builtinAt F.entry
  unfold Builtin.«BaseException.__new__»
  apply PySem.wpAt_bind
  show PySem.wpAt _ _ _ (stack >>= _) _ _ _
  apply PySem.wpAt_bind
  apply PySem.wpAt_stack
  intro p rest'
  apply PySem.wpAt_of_wpAny
  wp_walk
  apply PySem.wpAt_of_wpAny
  rw [F.owner]
  repeat first
    | with_reducible refine wpAny_madeHere_exc F.canon hC ?_
    | with_reducible refine wpAny_loadPart_at hC ?_
    | (with_reducible refine wpAny_isSubtype_exc hC ?_
       first | rw [inB] | rw [outA] | rw [outN])
    | wp_step
  show R _ _
  rw [Heap.size_push]
  exact fin
theorem kw_call_run {fI : Addr} {Q : Fin → Shared → Prop} (F : ExcBaseFacts B newId initId bmB) (same : ∀ T : String, bm.contains (.type T) = bmB.contains (.type T)) (hC : h.get? C = some (excClassObj nm q C N bs bm hdct sn sub ab col dd k0 k1 k2 k3 k5 newId)) (small : rest.length ≤ sizeLine)
    (li : PySem.W.Looks (model prog w) h (typeLookup (.ref C) "__init__") (some (.ref fI))) (lb : ∀ v, PySem.W.Looks (model prog w) h (bindSpecial (.ref fI) v) (.ref fI, [v]))
    (fin : codeAny (model prog w) A (.call (.ref fI) ⟨.ref (h.objs.size + 1) :: rest, kw⟩) (fun r s' => match r with | .ok (.ret v) => v = .none ∧ Q (.done (.ret (.ref (h.objs.size + 1)))) s' | .ok _ => False | .error e => E e s')
      ⟨(h.push (PySem.W.kdv_tup rest)).push (excO C h.objs.size), g, d, t, os⟩) : wpAny (model prog w) A (Builtin.«type.__call__» ⟨.ref C :: rest, kw⟩) Q E ⟨h, g, d, t, os⟩ := by
  repeat first
    | with_reducible refine wpAny_loadPart_at hC ?_
    | with_reducible refine wpAny_madeBy_exc hC ?_
    | wp_step
  apply codeAny_call_builtin_code (Code.quiet_builtin _ F.quiet) (kw_new_ok F same hC _)
  apply kw_new_run F same hC small
  show wpAny _ _ _ _ _ _
  have keep : ∀ c o, h.get? c = some o → ((h.push (PySem.W.kdv_tup rest)).push (excO C h.objs.size)).get? c = some o := by
    intro c o z
    exact Heap.get?_push_of_some _ (Heap.get?_push_of_some _ z)
  have hC2 := keep _ _ hC
  have there : ((h.push (PySem.W.kdv_tup rest)).push (excO C h.objs.size)).get? (h.objs.size + 1) = some (excO C h.objs.size) := by heap_get
  have self : (Value.ref C :: bm).contains (.ref C) = true := by simp
  have li2 := li.keeps keep
  have lb2 := (lb (.ref (h.objs.size + 1))).keeps keep
  unfold isInstance
  repeat first
    | with_reducible refine wpAny_loadPart_at there ?_
    | (with_reducible refine wpAny_isSubtype_exc hC2 ?_
       rw [self])
    | wp_step
  show wpAny _ _ (typeLookup (.ref C) _) _ _ _
  apply li2.at
  apply wpAny_holding
  apply wpAny_bind
  apply lb2.at
  apply wpAny_bind
  apply wpAny_call
  apply codeAny_mono fin
  intro r s' z
  cases r with
  | error e => exact z
  | ok fl =>
    cases fl with
    | next => exact z.elim
    | brk => exact z.elim
    | cont => exact z.elim
    | ret v =>
      obtain ⟨ev, z⟩ := z
      subst ev
      first
        | exact wpAny_pure (wpAny_pure z)
        | (wp_walk; exact z)
theorem kw_call {fI : Addr} {R : Result → Shared → Prop} (F : ExcBaseFacts B newId initId bmB) (same : ∀ T : String, bm.contains (.type T) = bmB.contains (.type T)) (hC : h.get? C = some (excClassObj nm q C N bs bm hdct sn sub ab col dd k0 k1 k2 k3 k5 newId)) (small : rest.length ≤ sizeLine)
    (li : PySem.W.Looks (model prog w) h (typeLookup (.ref C) "__init__") (some (.ref fI))) (lb : ∀ v, PySem.W.Looks (model prog w) h (bindSpecial (.ref fI) v) (.ref fI, [v]))
    (fin : codeAny (model prog w) (A.under (.builtin "type.__call__" ⟨.ref C :: rest, kw⟩)) (.call (.ref fI) ⟨.ref (h.objs.size + 1) :: rest, kw⟩) (PySem.W.InitBack (h.objs.size + 1) R)
      ⟨(h.push (PySem.W.kdv_tup rest)).push (excO C h.objs.size), g, d, t, os⟩) : codeAny (model prog w) A (.call (.ref C) ⟨rest, kw⟩) R ⟨h, g, d, t, os⟩ := by
  have f1 := tc_lookup
  have f2 := tc_bind (.ref C)
  have isT : (⟨h, g, d, t, os⟩ : Shared).TypeIs (.ref C) "type" := ⟨_, hC, rfl⟩
  apply codeAny_of_tree
  show wpAny _ _ (callAny (.ref C) _) _ _ _
  repeat any_goals first
    | assumption
    | with_reducible refine wpAny_loadPart_at hC ?_
    | wp_step
  constructor
  · rfl
  have typ : PySem.W.Looks (model prog w) h (isInstance (.ref C) (.type "type")) true := by
    unfold isInstance
    have ty : PySem.W.Looks (model prog w) h (typeOf (.ref C)) (.type "type") := (PySem.W.Looks.ld hC).andThen .now
    exact ty.andThen (PySem.W.Looks.of_pure tc_sub)
  apply codeAny_call_builtin_at (Code.quiet_builtin _ (by decide +kernel)) entry_typeCall
  apply PySem.W.check_slot tc_kind tc_split typ (PySem.W.tc_args _ _ _)
  apply kw_call_run F same hC small li lb
  apply codeAny_mono fin
  intro r s' z
  cases r with
  | error e => exact z
  | ok fl => cases fl <;> exact z
end
end OF
/-! Errors of the program's own classes as values: the rules. -/
namespace OF
open PySem PySem.Spec PyProof.Rows L2
/-- what the maker of an error must do, and what then holds -/
def MadeBy (C : Addr) (sp : Sp) (xs : Addr → List V) (H : Hp) (Q : VK) : Prop := ∀ a, H a = none → sp (xs a) (upd H a (exo a C none)) (fun v H2 => v = .non ∧ Q (.ref a) H2) (fun _ _ _ => False)
def tMadeP (C : Addr) (sp : Sp) (ta : TA) : TE := fun σ H Q => ta σ H fun vs H1 => vs.length ≤ 1000 ∧ MadeBy C sp (fun a => .ref a :: vs) H1 Q
def tMadeN (C : Addr) (m : Nat) (sp : Sp) (gV : List V → List V → List V) (tk : TA) : TE := fun σ H Q => tk σ H fun zs H1 => zs.length = m ∧ MadeBy C sp (fun a => gV [.ref a] zs) H1 Q
section
variable {X : Cx} {CX : CXT} {x : Str} {C fI : Addr} {k n : Nat} {fd : FuncData} {ps ks : List Str} {sp : Sp} {e : Expr} {es : List Expr} {kws : List Keyword} {ta tk : TA} {p pos : Pos} {g : List Value → List Value → List Value} {gV : List V → List V → List V}
theorem run_made {pins : List (Addr × Obj)} {σ : L2.St} {H : Hp} {s : Shared} {us ws : List Value} {vs zs : List V} {Q : VK} (T : OexC X.K C) (iC : PySem.W.findIn X.K (.ref C) "__init__" = some (some (.ref fI))) (tI : PySem.W.typeIn X.K (.ref fI) = some (.type "function"))
    (F1 : FnOk X.prog X.w X.K X.mg X.base CX k fI fd ps sp) (room : Room (k + 1) X.A) (hb : KBn X.K fd ps (n + 1) ks g gV) (hx : Passes CX X (fun _ _ _ => False)) (I : Inv X pins σ H s) (r : Vals vs us) (rz : Vals zs ws) (l1 : vs.length = n) (l2 : zs.length = ks.length) (small : vs.length ≤ 1000)
    (h : MadeBy C sp (fun a => gV (.ref a :: vs) zs) H Q) : wpAny (model X.prog X.w) X.A (call (.ref C) us (ks.zip ws)) (EP X pins σ Q) X.xe s := by
  obtain ⟨nm, q, N, bs, bm, sn, sub, ab, col, dd, k0, k1, k2, k3, k5, hC, hbm⟩ := T.cls
  obtain ⟨hp, gn, dr, t, os⟩ := s
  have le : hp.objs.size ≤ hp.objs.size + 1 := Nat.le_succ _
  have hq := h (hp.objs.size + 1) (I.hok.fresh le)
  have keep : ∀ c o, hp.get? c = some o → ((hp.push (PySem.W.kdv_tup us)).push (PySem.HandSPX.excO C hp.objs.size)).get? c = some o := by
    intro c o z
    exact Heap.get?_push_of_some _ (Heap.get?_push_of_some _ z)
  have there : ((hp.push (PySem.W.kdv_tup us)).push (PySem.HandSPX.excO C hp.objs.size)).get? (hp.objs.size + 1) = some (PySem.HandSPX.excO C hp.objs.size) := by heap_get
  have J : Inv X pins σ (upd H (hp.objs.size + 1) (exo (hp.objs.size + 1) C none)) ⟨(hp.push (PySem.W.kdv_tup us)).push (PySem.HandSPX.excO C hp.objs.size), gn, dr, t, os⟩ :=
    I.laid (t' := t) keep le (exo_ok there)
  have r1 : Vals (V.ref (hp.objs.size + 1) :: vs) (Value.ref (hp.objs.size + 1) :: us) := .cons rfl r
  have n1 : (Value.ref (hp.objs.size + 1) :: us).length = n + 1 := by rw [List.length_cons, ← r.length, l1]
  have n2 : us.length ≤ sizeLine := by
    rw [← r.length, sizeLine_eq]
    omega
  apply wpAny_call
  apply kw_call F.excBase_ValueError (fun Y => PySem.HandSPX.refsVE_contains Y bm hbm) (I.kIn _ _ hC) n2 (PySem.W.looks_findIn I.kIn iC) (fun v => PySem.W.bind_fn I.kIn v tI)
  apply codeAny_mono (F1.run _ X.stack _ _ ⟨Value.ref (hp.objs.size + 1) :: us, ks.zip ws⟩ (g (Value.ref (hp.objs.size + 1) :: us) ws) _ _ (fun _ _ _ => False) (room.make C us (ks.zip ws)) (J.env0.make C us (ks.zip ws))
    (hb.to _ (Value.ref (hp.objs.size + 1) :: us) ws J.kIn n1 (rz.length.symm.trans l2)) (hb.rel r1 rz) hq)
  intro res s' z
  cases res with
  | error er => exact hx pins σ _ _ er s' J z
  | ok fl =>
    cases fl with
    | next => cases z
    | brk => cases z
    | cont => cases z
    | ret u =>
      obtain ⟨v, H', J2, rv, ev, q2⟩ := J.after z
      subst ev
      exact ⟨rv, V.ref (hp.objs.size + 1), H', J2, rfl, q2⟩
/-- positions alone are names of none -/
theorem kb_pos (b : Binds X.K fd ps []) : KBn X.K fd ps ps.length [] (fun us _ => us) (fun vs _ => vs) := by
  constructor
  · intro s us ws KX l1 l2
    have := b s us KX (by rw [List.append_nil]; exact l1)
    rw [List.append_nil] at this
    exact this
  · intro vs us zs ws r _
    exact r
/-- C(e, ..) -/
theorem pe_madeP (T : OexC X.K C) (iC : PySem.W.findIn X.K (.ref C) "__init__" = some (some (.ref fI))) (tI : PySem.W.typeIn X.K (.ref fI) = some (.type "function")) (F1 : FnOk X.prog X.w X.K X.mg X.base CX k fI fd ps sp) (room : Room (k + 1) X.A) (b : Binds X.K fd ps [])
    (hx : Passes CX X (fun _ _ _ => False)) (hg : Gl X x) (hm : X.mg x = some (.ref C)) (ha : PA X (e :: es) ta)
    (hdb : (x == ("__debug__" : Str)) = false := by decide) (he : starEach (e :: es) X.env = (false, eval e X.env) :: starEach es X.env := by rfl) (hpl : (backTo pos (starEach es X.env)).any (·.1) = false := by rfl) :
    PE X (.Call (.Name x p) (e :: es) [] pos) (tMadeP C sp ta) := by
  constructor
  intro pins s σ H Q I h
  refine wpAny_Call_Name_kw (ld_glob I hg hm ?_ hdb)
  refine PySem.W.callWith_K (h₀ := X.base) I.ok.mod.kin T.kC (thn (ha.run pos pins s σ H _ I h) ?_) he hpl
  rintro us s1 ⟨vs, H1, I1, r1, small, q⟩
  refine ⟨I1.kIn, ?_⟩
  have hl : ps.length = vs.length + 1 := by
    have z := F1.len _ _ _ _ (q (s1.heap.objs.size + 1) (I1.hok.fresh (Nat.le_succ _)))
    rw [← z]
    rfl
  have kb := kb_pos (X := X) b
  rw [hl] at kb
  exact run_made (zs := []) (ws := []) T iC tI F1 room kb hx I1 r1 .nil rfl rfl small q
/-- C() -/
theorem pe_made0 (T : OexC X.K C) (iC : PySem.W.findIn X.K (.ref C) "__init__" = some (some (.ref fI))) (tI : PySem.W.typeIn X.K (.ref fI) = some (.type "function")) (F1 : FnOk X.prog X.w X.K X.mg X.base CX k fI fd ["self"] sp) (room : Room (k + 1) X.A) (b : Binds X.K fd ["self"] [])
    (hx : Passes CX X (fun _ _ _ => False)) (hg : Gl X x) (hm : X.mg x = some (.ref C)) (hdb : (x == ("__debug__" : Str)) = false := by decide) :
    PE X (.Call (.Name x p) [] [] pos) (tMadeP C sp tNil) := by
  constructor
  intro pins s σ H Q I h
  refine wpAny_Call_Name_kw (ld_glob I hg hm ?_ hdb)
  exact PySem.W.callWith_K0 I.kIn T.kC (run_made (n := 0) (us := []) (vs := []) (zs := []) (ws := []) T iC tI F1 room (kb_pos (X := X) b) hx I .nil .nil rfl rfl (Nat.zero_le _) h.2)
/-- C(k = e, ..) -/
theorem pe_madeN (T : OexC X.K C) (iC : PySem.W.findIn X.K (.ref C) "__init__" = some (some (.ref fI))) (tI : PySem.W.typeIn X.K (.ref fI) = some (.type "function")) (F1 : FnOk X.prog X.w X.K X.mg X.base CX k fI fd ps sp) (room : Room (k + 1) X.A) (kb : KBn X.K fd ps 1 ks g gV)
    (hx : Passes CX X (fun _ _ _ => False)) (hg : Gl X x) (hm : X.mg x = some (.ref C)) (hkw : PK X kws tk) (hall : (backToKw pos (keywordEach kws X.env)).all (·.1.isSome) = true := by rfl) (hks : (backToKw pos (keywordEach kws X.env)).filterMap (·.1) = ks := by rfl)
    (hdb : (x == ("__debug__" : Str)) = false := by decide) (hpl : ((backTo pos (starEach [] X.env)).any (·.1) || (backToKw pos (keywordEach kws X.env)).any (·.1.isNone)) = false := by rfl) :
    PE X (.Call (.Name x p) [] kws pos) (tMadeN C ks.length sp gV tk) := by
  constructor
  intro pins s σ H Q I h
  refine wpAny_Call_Name_kw (ld_glob I hg hm ?_ hdb)
  refine PySem.W.callWith_KW0 (h₀ := X.base) I.ok.mod.kin T.kC hall (thn (hkw.run pos pins s σ H _ I h) ?_) hpl
  rintro ws s2 ⟨zs, H2, I2, rz, l2, q⟩
  refine ⟨I2.kIn, ?_⟩
  rw [hks]
  exact run_made (n := 0) (us := []) (vs := []) T iC tI F1 room kb hx I2 .nil rz rfl l2 (Nat.zero_le _) q
/-- e.f of such a value -/
def tFldC (K : PySem.W.Frag) (f : Str) (te : TE) : TE := fun σ H Q => te σ H fun x H1 => ∃ (a d C : Addr) (fs : List (Str × V)) (v : V), x = .ref a ∧ XfC K C ∧ PySem.W.findIn K (.ref C) f = some none ∧ H1 a = some (exo a C (some d)) ∧ H1 d = some (exd d fs) ∧ fs.lookup f = some v ∧ Q v H1
theorem pe_fldV {f : Str} {te : TE} (he : PE X e te) (hb : attributeBase e f X.env (eval e X.env) = eval e X.env := by rfl) : PE X (.Attribute e f pos) (tFldC X.K f te) := by
  constructor
  intro pins s σ H Q I h
  refine attr_of hb (thn (he.run pins s σ H _ I h) ?_)
  rintro u s1 ⟨y, H1, I1, ru, a, d, C, fs, v, ey, T, no, ea, ed, l, q⟩
  subst ey
  cases ru
  obtain ⟨t1, ho⟩ := exo_at I1.hok ea
  obtain ⟨mA, hns, rel⟩ := exd_at I1.hok ed
  obtain ⟨od, hod, hl⟩ := lookIn_ns hns
  obtain ⟨u, hu, rv⟩ := RelO.some_of (v := v) (o := mA f) (by rw [← l]; exact rel f)
  have J : PySem.W.InstAt s1.heap a _ C (some od) := ⟨ho, rfl, rfl, hod⟩
  exact PySem.HandSPX.exc_get I1.kIn J T.ga T.gg T.exC (PySem.W.findObj_own T.hdC no rfl (by rw [hl, hu])) (handed_of rv) ⟨v, H1, I1.tok _, rv, q⟩
/-- isinstance(e, C) of such a value -/
def rAskV (K : PySem.W.Frag) : List V → Hp → VK → Prop := fun xs H Q => ∃ (a D : Addr) (d : Option Addr) (c : V) (cv : Value) (b : Bool), xs = [.ref a, c] ∧ AskC K D ∧ H a = some (exo a D d) ∧ (∀ d', d = some d' → ∃ fs, H d' = some (exd d' fs)) ∧ (∀ u, RelV c u → u = cv) ∧ PySem.W.kitOne K (.ref D) cv = some b ∧ Q (.bl b) H
theorem call_askV : CallR X (.builtin "isinstance") (rAskV X.K) := by
  intro pins s σ H xs us Q I r h
  obtain ⟨a, D, d, c, cv, b, rfl, T, ea, ed, hcv, kit, q⟩ := h
  obtain ⟨u1, u2, rfl, r1, r2⟩ := vals2 r
  cases r1
  cases hcv _ r2
  obtain ⟨t1, ho⟩ := exo_at I.hok ea
  have J : ∃ ox od, PySem.W.InstAt s.heap a ox D od := by
    cases d with
    | none => exact ⟨_, none, ho, rfl, rfl, trivial⟩
    | some d' =>
      obtain ⟨fs, e'⟩ := ed d' rfl
      obtain ⟨mA, hns, _⟩ := exd_at I.hok e'
      obtain ⟨od, hod, _⟩ := lookIn_ns hns
      exact ⟨_, some od, ho, rfl, rfl, hod⟩
  obtain ⟨ox, od, J⟩ := J
  exact PySem.W.kia_one (PySem.W.kitx_exc T.cl T.xf.ga T.xf.gg T.xf.exC T.ha T.hn T.ht T.hm) I.kIn J kit (fun z => nomatch z) fun tk => ⟨.bl b, H, I.kept (t' := tk) fun _ _ z => z, rfl, q⟩
end
end OF
/-! The error classes of the program, one promise a kind: one field, two fields, none. -/
namespace OF
open PySem PySem.Spec PyProof.Rows L2
def bmF : List Value := [.type "ValueError", .type "Exception", .type "BaseException", .type "object"]
def bmE (CF : Addr) : List Value := .ref CF :: bmF
/-- what the top says of an error class: C under the name x, its maker st at fI, bm above it -/
structure Kl (K : PySem.W.Frag) (mg : Str → Option Value) (x q : Str) (st : Stmt) (C fI : Addr) (bm : List Value) : Prop where
  g : mg x = some (.ref C)
  cls : ∃ nm q N bs sn sub ab col dd k0 k1 k2 k3 k5, K.lookup C = some (excClassObj nm q C N bs bm true sn sub ab col dd k0 k1 k2 k3 k5 "ValueError.__new__")
  sa : PySem.W.findIn K (.ref C) "__setattr__" = some (some (.builtin "object.__setattr__"))
  kC : PySem.W.keepIn K (.ref C) = true
  iC : PySem.W.findIn K (.ref C) "__init__" = some (some (.ref fI))
  tI : PySem.W.typeIn K (.ref fI) = some (.type "function")
  ga : PySem.W.findIn K (.ref C) "__getattribute__" = some (some (.builtin "BaseException.__getattribute__"))
  gg : PySem.W.findIn K (.ref C) "__getattr__" = some none
  ha : PySem.W.findIn K (.ref C) "__class__" = some (some (.builtin "object.__class__"))
  fn : ∃ fd, Fun K "__init__" q st fI fd
  fc : PySem.W.findCls K (.ref C) (.type "type") "__name__" = some (.get (.builtin "getset_descriptor.__get__") (.builtin "type.__name__") (.ref C) (.type "type"))
  nn : PySem.W.findIn K (.ref C) "class_name" = some none
  nk : ∃ (nm : Str) (o : Obj) (t : Tok), K.lookup C = some o ∧ o.cls = .type "type" ∧ o.slots[2]?.join = some (.str nm t)
section
variable {K : PySem.W.Frag} {mg : Str → Option Value} {x q : Str} {st : Stmt} {C fI : Addr} {bm : List Value}
theorem Kl.cd (T : Kl K mg x q st C fI bm) : ∃ cd, PySem.W.clsIn K C = some cd ∧ cd.mro = .ref C :: bm ∧ cd.hasDict = true := by
  obtain ⟨nm, q, N, bs, sn, sub, ab, col, dd, k0, k1, k2, k3, k5, h⟩ := T.cls
  have e : PySem.W.clsIn K C = some { name := nm, bases := bs, mro := .ref C :: bm, ns := N, qualname := q, hasDict := true, slotNames := sn, subclasses := sub, abstract := ab, collection := col, hasDel := false } := by
    unfold PySem.W.clsIn
    rw [h] <;> rfl
  exact ⟨_, e, rfl, rfl⟩
theorem Kl.sub (T : Kl K mg x q st C fI bm) (b : Value) : PySem.W.subIn K (.ref C) b = some ((Value.ref C :: bm).contains b) := by
  obtain ⟨cd, h, hm, _⟩ := T.cd
  show PySem.W.mroIn K C b = _
  unfold PySem.W.mroIn
  rw [h, Option.bind_some, hm]
  rfl
theorem Kl.ty (T : Kl K mg x q st C fI bm) : PySem.W.typeIn K (.ref C) = some (.type "type") := by
  obtain ⟨nm, q, N, bs, sn, sub, ab, col, dd, k0, k1, k2, k3, k5, h⟩ := T.cls
  show (K.lookup C).map (·.cls) = _
  rw [h] <;> rfl
theorem Kl.dic (T : Kl K mg x q st C fI bm) : PySem.W.hasDictIn K C = true := by
  obtain ⟨cd, h, _, hd⟩ := T.cd
  unfold PySem.W.hasDictIn
  rw [h]
  exact hd
/-- what stands above every error -/
structure Above (bm : List Value) : Prop where
  ve : PySem.HandSPX.refsVE bm = true
  be : ∀ C : Addr, (Value.ref C :: bm).contains (.type "BaseException") = true
  ob : ∀ C : Addr, (Value.ref C :: bm).contains (.type "object") = true
  va : ∀ C : Addr, (Value.ref C :: bm).contains (.type "ValueError") = true
theorem above_F : Above bmF := ⟨by decide +kernel, fun C => by simp [bmF], fun C => by simp [bmF], fun C => by simp [bmF]⟩
theorem above_E (CF : Addr) : Above (bmE CF) := ⟨by show PySem.HandSPX.refsVE bmF = true; decide +kernel, fun C => by simp [bmF, bmE], fun C => by simp [bmF, bmE], fun C => by simp [bmF, bmE]⟩
theorem Kl.ox (T : Kl K mg x q st C fI bm) (B : Above bm) : OexC K C := by
  obtain ⟨nm, q, N, bs, sn, sub, ab, col, dd, k0, k1, k2, k3, k5, h⟩ := T.cls
  exact ⟨⟨_, _, _, _, _, _, _, _, _, _, _, _, _, _, _, h, B.ve⟩, T.sa, (T.sub _).trans (congrArg some (B.be C)), T.ty, T.kC⟩
theorem Kl.xf (T : Kl K mg x q st C fI bm) (B : Above bm) : XfC K C := ⟨T.ga, T.gg, (T.sub _).trans (congrArg some (B.be C)), T.dic⟩
theorem Kl.ask (T : Kl K mg x q st C fI bm) (B : Above bm) (hn : PySem.W.specialIn K (.builtin "object.__class__") "__get__" = some (some (.builtin "getset_descriptor.__get__"))) (ht : PySem.W.takesIn K (.builtin "object.__class__") = some true) : AskC K C := by
  obtain ⟨cd, h, _, _⟩ := T.cd
  exact ⟨by rw [h]; rfl, T.xf B, T.ha, hn, ht, (T.sub _).trans (congrArg some (B.ob C))⟩
theorem Kl.nam (T : Kl K mg x q st C fI bm) (B : Above bm) (hn : PySem.W.specialIn K (.builtin "object.__class__") "__get__" = some (some (.builtin "getset_descriptor.__get__"))) (ht : PySem.W.takesIn K (.builtin "object.__class__") = some true) (st' : PySem.W.nsIn K cStatics "thirdparty.any" = some none) : ∃ nm, NamC K C nm := by
  obtain ⟨cd, h, _, _⟩ := T.cd
  obtain ⟨nm, o, t, lk⟩ := T.nk
  exact ⟨nm, ⟨T.xf B, by rw [h]; rfl, T.ha, hn, ht, (T.sub _).trans (congrArg some (B.ob C)), T.ty, st', T.fc, ⟨o, t, lk⟩, T.nn⟩⟩
/-- isinstance of an error of the class D, by the class C -/
theorem Kl.kit {x2 q2 : Str} {st2 : Stmt} {D fD : Addr} {bm2 : List Value} (T : Kl K mg x q st C fI bm) (U : Kl K mg x2 q2 st2 D fD bm2) : PySem.W.kitOne K (.ref D) (.ref C) = some ((Value.ref D :: bm2).contains (.ref C)) := by
  obtain ⟨cd, h, _, _⟩ := T.cd
  unfold PySem.W.kitOne
  split
  · rename_i e
    have e2 : Value.ref D = Value.ref C := eq_of_beq e
    rw [e2]
    simp
  · unfold PySem.W.kitCls
    simp only [T.ty, h, Option.isSome_some, beq_self_eq_true, Bool.and_self, if_true]
    exact U.sub _
theorem Kl.kitV (U : Kl K mg x q st C fI bm) (B : Above bm) : PySem.W.kitOne K (.ref C) (.type "ValueError") = some true := by
  unfold PySem.W.kitOne
  split
  · rfl
  · unfold PySem.W.kitCls
    simp only [show PySem.W.kitMeta "ValueError" = true by decide +kernel, if_true]
    exact (U.sub _).trans (congrArg some (B.va C))
theorem kl_mk {h : Heap} {nm q' : Str} {N : Addr} {bs sub : List Value} {sn : List Str} {ab : Bool} {col : Option Bool} {dd od an : Option Addr} {cn : Str} {tk : Tok} {k0 k1 k3 k5 : Option Value} {oc kV dc pm cd ct : Value} {sl : Array (Option Value)} (X : K.In h) (G : h.Ns mainGlobals mg)
    (a : PySem.W.nsIn K mainGlobals x = some (some (.ref C))) (l : K.lookup C = some (excClassObj nm q' C N bs bm true sn sub ab col dd k0 k1 (some (.str cn tk)) k3 k5 "ValueError.__new__"))
    (sa : PySem.W.findIn K (.ref C) "__setattr__" = some (some (.builtin "object.__setattr__"))) (kC : PySem.W.keepIn K (.ref C) = true) (iC : PySem.W.findIn K (.ref C) "__init__" = some (some (.ref fI))) (tI : PySem.W.typeIn K (.ref fI) = some (.type "function"))
    (ga : PySem.W.findIn K (.ref C) "__getattribute__" = some (some (.builtin "BaseException.__getattribute__"))) (gg : PySem.W.findIn K (.ref C) "__getattr__" = some none) (ha : PySem.W.findIn K (.ref C) "__class__" = some (some (.builtin "object.__class__")))
    (lI : K.lookup fI = some ⟨oc, od, .func (PySem.W.fnOf "__init__" q (defArgs st) (defBody st) (defScope st) .none kV dc pm an cd ct), sl⟩) (cI : PySem.W.codeIn K cd q = true) (kI : PySem.W.keepIn K (.ref fI) = true)
    (fc : PySem.W.findCls K (.ref C) (.type "type") "__name__" = some (.get (.builtin "getset_descriptor.__get__") (.builtin "type.__name__") (.ref C) (.type "type"))) (nn : PySem.W.findIn K (.ref C) "class_name" = some none) : Kl K mg x q st C fI bm :=
  ⟨PySem.W.mg_of X G a, ⟨_, _, _, _, _, _, _, _, _, _, _, _, _, _, l⟩, sa, kC, iC, tI, ga, gg, ha, ⟨_, fun_mk lI cI kI⟩, fc, nn, ⟨cn, _, tk, l, rfl, rfl⟩⟩
end

/-! ### errors in the heap -/
/-- an error of the class C with the fields fs -/
def IsE (C : Addr) (fs : List (Str × V)) (H : Hp) (a : Addr) : Prop := ∃ d rest, H a = some (exo a C (some d)) ∧ H d = some (exd d (fs ++ rest))
/-- an error of the class C -/
def Err (C : Addr) (H : Hp) (a : Addr) : Prop := ∃ d, H a = some (exo a C d) ∧ ∀ d', d = some d' → ∃ fs, H d' = some (exd d' fs)
theorem IsE.same {C a : Addr} {fs : List (Str × V)} {H H' : Hp} (h : IsE C fs H a) (s : Same H H') : IsE C fs H' a := by
  obtain ⟨d, r, h1, h2⟩ := h
  exact ⟨d, r, s _ _ h1, s _ _ h2⟩
theorem IsE.err {C a : Addr} {fs : List (Str × V)} {H : Hp} (h : IsE C fs H a) : Err C H a := by
  obtain ⟨d, r, h1, h2⟩ := h
  exact ⟨some d, h1, fun d' e => by cases e; exact ⟨_, h2⟩⟩
theorem Err.same {C a : Addr} {H H' : Hp} (h : Err C H a) (s : Same H H') : Err C H' a := by
  obtain ⟨d, h1, h2⟩ := h
  refine ⟨d, s _ _ h1, fun d' e => ?_⟩
  obtain ⟨fs, h3⟩ := h2 d' e
  exact ⟨fs, s _ _ h3⟩
/-- X.__init__ of two fields -/
def spInit2 (f g : Str) (C : Addr) : Sp := fun vs H Q _ => ∃ (a : Addr) (v u : V), vs = [.ref a, v, u] ∧ H a = some (exo a C none) ∧ ∀ (fs : List (Str × V)) (d : Addr), H d = none → d ≠ a → Q .non (upd (upd H d (exd d ((g, u) :: (f, v) :: fs))) a (exo a C (some d)))
/-- X.__init__ of none -/
def spInit0 (C : Addr) : Sp := fun vs H Q _ => ∃ a : Addr, vs = [.ref a] ∧ H a = some (exo a C none) ∧ ∀ (fs : List (Str × V)) (d : Addr), H d = none → d ≠ a → Q .non (upd (upd H d (exd d fs)) a (exo a C (some d)))
section
variable {K : PySem.W.Frag} {C : Addr} {f g : Str} {v u : V} {H : Hp} {Q : VK}
theorem same_two {H : Hp} {a d : Addr} {x y z : HO} (ha : H a = none) (hd : upd H a z d = none) (ne : d ≠ a) : Same H (upd (upd (upd H a z) d x) a y) := by
  rw [upd_ne ne] at hd
  intro b o hb
  rw [upd_ne (ne_of_none hb ha), upd_ne (ne_of_none hb hd), upd_ne (ne_of_none hb ha)]
  exact hb
theorem made1 (h : ∀ a H', Same H H' → IsE C [(f, v)] H' a → Q (.ref a) H') : MadeBy C (spInit K f C) (fun a => [.ref a, v]) H Q := fun a ha => by
  refine ⟨a, v, rfl, upd_same, fun fs d hd ne => ⟨rfl, h a _ (same_two ha hd ne) ⟨d, fs, upd_same, ?_⟩⟩⟩
  rw [upd_ne ne]
  exact upd_same
theorem made2 (h : ∀ a H', Same H H' → IsE C [(g, u), (f, v)] H' a → Q (.ref a) H') : MadeBy C (spInit2 f g C) (fun a => [.ref a, v, u]) H Q := fun a ha => by
  refine ⟨a, v, u, rfl, upd_same, fun fs d hd ne => ⟨rfl, h a _ (same_two ha hd ne) ⟨d, fs, upd_same, ?_⟩⟩⟩
  rw [upd_ne ne]
  exact upd_same
theorem made0 (h : ∀ a H', Same H H' → Err C H' a → Q (.ref a) H') : MadeBy C (spInit0 C) (fun a => [.ref a]) H Q := fun a ha => by
  refine ⟨a, rfl, upd_same, fun fs d hd ne => ⟨rfl, h a _ (same_two ha hd ne) ⟨some d, upd_same, fun d' e => ?_⟩⟩⟩
  cases e
  exact ⟨fs, by rw [upd_ne ne]; exact upd_same⟩
theorem made_F {nm : Str} (T : OexC K C) (N : NamC K C nm) (h : ∀ a H', Same H H' → Err C H' a → Q (.ref a) H') : MadeBy C (spFig K) (fun a => [.ref a, v]) H Q := fun a ha => by
  refine ⟨a, C, v, nm, rfl, T, N, upd_same, fun d hd ne => ⟨rfl, h a _ (same_two ha hd ne) ⟨some d, upd_same, fun d' e => ?_⟩⟩⟩
  cases e
  exact ⟨_, by rw [upd_ne ne]; exact upd_same⟩
end

/-! ### lists of the same things -/
/-- l == l2, two lists of the very same things -/
def rEqSame (K : PySem.W.Frag) : R2 := fun x y H Q => ∃ (l l2 : Addr) (xs : List V), x = .ref l ∧ y = .ref l2 ∧ SqL K H l xs ∧ SqL K H l2 xs ∧ (∀ v ∈ xs, flatB v = true ∨ ∃ a, v = .ref a) ∧ Q (.bl true) H
theorem op_eqSame {X : Cx} (hu : X.A.units + 64 < cLine) : OpR X (compareOp .Eq) (rEqSame X.K) := by
  intro pins s σ H x y v u Q I rx ry h
  obtain ⟨l, l2, xs, rfl, rfl, h1, h2, hs, q⟩ := h
  cases rx
  cases ry
  obtain ⟨us, r1, p1, _⟩ := I.list h1
  obtain ⟨ws, r2, p2, _⟩ := I.list h2
  have n1 := r1.length
  have n2 := r2.length
  have hsz : us.toArray.size = ws.toArray.size := by
    rw [List.size_toArray, List.size_toArray]
    omega
  have key := SeqAt.RcAt.lists (A := X.A) (e := fun _ => true) p1.isList p2.isList hsz (by omega) (fun j h1 h2 => ?_)
  · refine key X.prog X.w _ _ ?_
    rw [show ((List.range us.toArray.size).all fun _ => true) = true from List.all_eq_true.mpr fun _ _ => rfl]
    exact ⟨.bl true, H, I, rfl, q⟩
  · have j1 : j < us.length := by simpa using h1
    have jx : j < xs.length := by omega
    obtain ⟨a, ea, ra⟩ := Vals.get r1 (List.getElem?_eq_getElem jx)
    obtain ⟨b, eb, rb⟩ := Vals.get r2 (List.getElem?_eq_getElem jx)
    have e1 : us.toArray[j] = a := by
      have := List.getElem?_eq_getElem j1
      rw [this] at ea
      simpa using Option.some.inj ea
    have e2 : ws.toArray[j] = b := by
      have j2 : j < ws.length := by omega
      have := List.getElem?_eq_getElem j2
      rw [this] at eb
      simpa using Option.some.inj eb
    rw [e1, e2]
    rcases hs _ (List.getElem_mem jx) with hf | ⟨p, hp⟩
    · exact eqAt_same ra rb hf
    · rw [hp] at ra rb
      cases ra
      cases rb
      exact SeqAt.EqAt.same _
/-- comprehensions over enumerate of a list that stays -/
theorem lc_enum {K : PySem.W.Frag} {a : Addr} {xs : List V} {g : TG} {tt : TT} {te : TE} {vs : List Nat} {σ : L2.St} {H1 : Hp} {D : Addr} {Qd : Hp → Prop} (Pv : Nat → Hp → Prop) (h0 : Pv 0 (upd H1 D (.lst []))) (hl : ∀ i H, i ≤ xs.length → Pv i H → SqL K H a xs)
    (hs : ∀ (i : Nat) x H T, xs[i]? = some x → Pv i H → H T = none → g (.ref T) (wipe σ vs) (upd H T (.tup [.int (i : Int), x])) fun σ2 H2 => wipe σ2 vs = wipe σ vs ∧ tt σ2 H2 fun b H3 =>
      if b = true then te σ2 H3 fun y H4 => ∃ acc, H4 D = some (.lst acc) ∧ acc.length < sizeLine ∧ Pv (i + 1) (upd H4 D (.lst (acc ++ [y]))) else Pv (i + 1) H3) (hd : ∀ H, Pv xs.length H → Qd H) :
    ∃ W : Nat → Nat → Hp → Prop, (∃ m, W 0 m (upd H1 D (.lst []))) ∧ ∀ i m H, W i m H →
      ((Ite K a).stop i H ∧ Qd H) ∨ ((Ite K a).go i H ∧ ∃ Nx : Hp → Prop, (∀ H', Nx H' → ∃ m', m' < m ∧ W (i + 1) m' H') ∧ ∀ x H', (Ite K a).yld i H x H' → g x (wipe σ vs) H' fun σ2 H2 => wipe σ2 vs = wipe σ vs ∧ tt σ2 H2 fun b H3 =>
        if b = true then te σ2 H3 fun y H4 => ∃ acc, H4 D = some (.lst acc) ∧ acc.length < sizeLine ∧ Nx (upd H4 D (.lst (acc ++ [y]))) else Nx H3) := by
  refine ⟨fun i m H => m = xs.length - i ∧ i ≤ xs.length ∧ Pv i H, ⟨xs.length, by simp, Nat.zero_le _, h0⟩, ?_⟩
  rintro i m H ⟨em, hi, p⟩
  subst em
  have q := hl i H hi p
  rcases Nat.lt_or_ge i xs.length with hlt | hge
  · right
    refine ⟨⟨xs, xs[i], q, List.getElem?_eq_getElem hlt⟩, Pv (i + 1), fun H' p' => ⟨xs.length - (i + 1), by omega, rfl, hlt, p'⟩, ?_⟩
    rintro z H' ⟨T, x, ez, hT, eH, hx⟩
    subst ez
    subst eH
    exact hs i x H T (hx xs q) p hT
  · left
    have e : i = xs.length := by omega
    subst e
    exact ⟨⟨xs, q, Nat.le_refl _⟩, hd H p⟩
end OF
set_option maxHeartbeats 4000000
/-! set(xs) of a list or tuple of ints, sorted of it. -/
namespace OF
open PySem PySem.Spec PyProof.Rows L2
/-- an empty set, just made -/
abbrev setObj0 (w : World) : Obj := { cls := .type "set", dict := none, data := .set #[] 0 (.fresh 0 0 (!w.params.followText "set-order")) }
section
variable {P : Program} {w : World} {A : Around} {E : Value → Shared → Prop}
theorem set_of_list {h : Heap} {g : Array GenState} {d : Drawn} {t : Nat} {os : OsState} {l : Addr} {xs : Array Value} (ns : List Int) {Q : Value → Shared → Prop} (calm : A.handled = none) (lst : h.IsList l xs) (allInt : IntsAre xs.toList ns) (few : ns.length + 1 < scanBound)
    (fin : ∀ (h' : Heap) (tk c : Nat), SetR w h' h.objs.size (fun j => decide (j ∈ ns)) c → c ≤ ns.length → (∀ b o, h.get? b = some o → h'.get? b = some o) → Q (.ref h.objs.size) ⟨h', g, d, tk, os⟩) :
    wpAny (model P w) A (call (.type "set") [.ref l]) Q E ⟨h, g, d, t, os⟩ := by
  have size : xs.size = ns.length := by
    rw [← Array.length_toList]
    exact allInt.length
  obtain ⟨c, tl, hmro⟩ := F.called_set.mro
  have f1 := F.called_set.made
  have f2 := F.called_set.sub
  have f3 := F.called_set.notType
  have f4 := F.called_set.canCreate
  have f5 := F.typeCall_set_1 (.ref l)
  apply wpAny_call
  apply codeAny_of_tree
  show wpAny _ _ (callAny (.type "set") _) _ _ _
  apply wpAny_pure
  refine ⟨Code.quiet_builtin _ (by decide +kernel), codeAny_builtin F.entry_type_call ?_⟩
  rw [Around.under_plain (weight_type_call_type "set" [.ref l] []) rfl]
  repeat any_goals first
    | assumption
    | wp_step
  refine codeAny_mono (code_set_led1 (s := ⟨h, g, d, t, os⟩) (.ref l) (E := E) (Q₁ := fun v s1 => v = .ref h.objs.size ∧ s1 = ⟨h.push (setObj0 w), g, d, t, os⟩) ⟨rfl, rfl⟩) ?_
  intro r s1 z
  cases r with
  | error e => exact z
  | ok fl =>
    cases fl with
    | next => exact z.elim
    | brk => exact z.elim
    | cont => exact z.elim
    | ret v =>
      obtain ⟨ev, es⟩ := z
      subst ev es
      have there : (h.push (setObj0 w)).get? h.objs.size = some (setObj0 w) := Heap.get?_push_size _ rfl
      have isSet : Shared.TypeIs ⟨h.push (setObj0 w), g, d, t, os⟩ (.ref h.objs.size) "set" := ⟨_, there, rfl⟩
      have i1 := F.called_set.init.lookup
      have i2 := F.called_set.init.bind (.ref h.objs.size)
      repeat any_goals first
        | assumption
        | wp_step
      refine codeAny_mono (codeAny_call_builtin (R := wants (fun r s2 => r = .none ∧ ∃ h' tk c, s2 = ⟨h', g, d, tk, os⟩ ∧ SetR w h' h.objs.size (fun j => decide (j ∈ ns)) c ∧ c ≤ ns.length ∧ (∀ b o, h.get? b = some o → h'.get? b = some o)) E)
        F.called_set.init.plain F.entry_set_init (check_set_init_1 isSet ?inner)) ?outer
      case outer =>
        intro r2 s2 z2
        cases r2 with
        | error e => exact z2
        | ok fl2 =>
          cases fl2 with
          | next => exact z2.elim
          | brk => exact z2.elim
          | cont => exact z2.elim
          | ret v2 =>
            obtain ⟨ev, h', tk, c', es, hS, hc, hk⟩ := z2
            subst ev es
            repeat any_goals first
              | assumption
              | wp_step
            exact fin _ _ _ hS hc hk
      case inner =>
        obtain ⟨o1, ho1, hc1, m1, hd1⟩ := lst
        obtain ⟨k1, k2, k3, k4⟩ := o1
        simp only at hc1 hd1
        subst hc1 hd1
        have there2 : (h.push (setObj0 w)).get? l = some { cls := .type "list", dict := k2, data := .seq xs m1, slots := k4 } := Heap.get?_push_of_some _ ho1
        have s1 := F.sub_list_set
        have s2 := F.sub_list_frozenset
        have apart : (Value.type "list" == Value.type "dict") = false := by decide
        have lst1 : (h.push (setObj0 w)).IsList l xs := ⟨_, there2, rfl, m1, rfl⟩
        unfold Builtin.«set.__init__» noKeywords Builtin.Frozenset.updateFrom
        generalize same : pyIter = PI
        wp_walk
        subst same
        apply wpAny_pyIter_list lst1
        apply wpAny_bind
        apply wpAny_runValue
        have below : l < h.objs.size := Heap.lt_size ho1
        have calm3 : A.in1.in1.in1.handled = none := by simp [calm]
        have sz : (h.push (setObj0 w)).objs.size = h.objs.size + 1 := Heap.size_push ..
        have ne1 : l ≠ (h.push (setObj0 w)).objs.size := by
          rw [sz]
          exact Nat.ne_of_lt (Nat.lt_succ_of_lt below)
        have ne2 : h.objs.size ∉ [(h.push (setObj0 w)).objs.size, l] := by
          rw [sz]
          simp only [List.mem_cons, List.not_mem_nil, or_false, not_or]
          exact ⟨Nat.ne_of_lt (Nat.lt_succ_self _), Nat.ne_of_gt below⟩
        have vals : ∀ (i : Nat) (v : Value), xs[i]? = some v → ∃ k t, ns[i]? = some k ∧ v = .int k t := by
          intro i v hv
          have hi : i < ns.length := by
            rw [← size]
            exact (Array.getElem?_eq_some_iff.mp hv).1
          obtain ⟨t, e⟩ := PyProof.Rows.IntsAre.int_at allInt i v (by rw [Array.getElem?_toList]; exact hv)
          rw [List.getD_eq_getElem?_getD, List.getElem?_eq_getElem hi] at e
          exact ⟨ns[i], t, List.getElem?_eq_getElem hi, e⟩
        refine set_update_ints ((Walks.list calm3 _ l ne1 xs).toS) h.objs.size ne2 ns size few vals (xs.size - 0) 0 _ (by omega) (Nat.zero_le _) ⟨⟨_, Heap.get?_push_size _ rfl, rfl, rfl⟩, (lst1.push _)⟩ ?start ?stop
        case start =>
          have got : ((h.push (setObj0 w)).push { cls := .type "list_iterator", data := .fields #[.ref l, .int 0 0] }).get? h.objs.size = some (setObj0 w) := Heap.get?_push_of_some _ there
          exact ⟨0, Nat.le_refl 0, setR_new_at got⟩
        case stop =>
          intro s' c' hm hc' hS
          obtain ⟨h', g2, d2, tk, os2⟩ := s'
          have eg : g2 = g := hm.gens
          have ed : d2 = d := hm.drawn
          have eo : os2 = os := hm.os
          subst eg ed eo
          show wpAny _ _ _ _ _ _
          apply wpAny_pure
          show wpAny _ _ (ret Value.none) _ _ _
          rw [size] at hc'
          apply wpAny_pure
          refine ⟨rfl, h', tk, c', rfl, hS, hc', fun b o z => ?_⟩
          have b0 : b < h.objs.size := Heap.lt_size z
          refine hm.heap b o ?_ (Heap.get?_push_of_some _ (Heap.get?_push_of_some _ z))
          simp only [List.mem_cons, List.not_mem_nil, or_false, not_or]
          rw [sz]
          exact ⟨Nat.ne_of_lt b0, Nat.ne_of_lt (Nat.lt_succ_of_lt b0)⟩
end
section
variable {X : Cx}
/-- set(xs): xs a list or tuple of ints -/
def rSetB (K : PySem.W.Frag) (w : World) : List V → Hp → VK → Prop := fun xs H Q => ∃ (l : Addr) (ns : List Int), xs = [.ref l] ∧ (SqL K H l (ns.map V.int) ∨ SqT K H l (ns.map V.int)) ∧ ns.length ≤ 4000 ∧
  ∀ (p : Addr) (ks : List Int), H p = none → ks.Nodup → (∀ k, k ∈ ks ↔ k ∈ ns) → Q (.ref p) (upd H p (SetO w p (fun j => decide (j ∈ ns)) ks.length))
theorem ints_vals : ∀ {ns : List Int} {us : List Value}, Vals (ns.map V.int) us → IntsAre us ns
  | [], _, .nil => .nil
  | _ :: ns, _, .cons r t => by
    obtain ⟨k, rfl⟩ := r
    exact .cons _ k (ints_vals t)
theorem cr_setB (hc : X.calm = true) : CallR X (.type "set") (rSetB X.K X.w) := by
  intro pins s σ H xs us Q I r h
  obtain ⟨l, ns, rfl, hl, few, q⟩ := h
  obtain ⟨u, rfl, ru⟩ := vals1 r
  cases ru
  have hn : H s.heap.objs.size = none := I.hok.fresh (Nat.le_refl _)
  have room : ns.length + 1 < scanBound := by
    unfold scanBound
    omega
  have fin : ∀ (h' : Heap) (tk c : Nat), SetR X.w h' s.heap.objs.size (fun j => decide (j ∈ ns)) c → c ≤ ns.length → (∀ b o, s.heap.get? b = some o → h'.get? b = some o) → EP X pins σ Q (.ref s.heap.objs.size) { s with heap := h', toks := tk } := by
    intro h' tk c R hc2 k
    have R2 := R
    obtain ⟨o, es, ep, st, _, _, _, _, nd, mem, _, _, ec, _⟩ := R2
    have e : (es.toList.map keyOf).length = c := by rw [List.length_map, Array.length_toList, ec]
    have q2 := q s.heap.objs.size (es.toList.map keyOf) hn nd fun k => ⟨fun z => of_decide_eq_true ((mem k).mpr z), fun z => (mem k).mp (decide_eq_true z)⟩
    rw [e] at q2
    exact ⟨.ref s.heap.objs.size, _, I.laid (t' := tk) k (Nat.le_refl _) (setO_new R), rfl, q2⟩
  rcases hl with hl | hl
  · obtain ⟨its, rv, pl, _⟩ := I.list hl
    obtain ⟨hp, g, d, t, os⟩ := s
    exact set_of_list ns (I.ok.hd hc) pl.isList (by simpa using ints_vals rv) room fin
  · obtain ⟨its, rv, pl, _⟩ := I.tuple hl
    exact call_set_tupI ns (I.ok.hd hc) pl (by simpa using ints_vals rv) room fin
/-- .. of few ints -/
def rSetI (K : PySem.W.Frag) (w : World) : List V → Hp → VK → Prop := fun xs H Q => ∃ (l : Addr) (ns : List Int), xs = [.ref l] ∧ (SqL K H l (ns.map V.int) ∨ SqT K H l (ns.map V.int)) ∧ ns.length ≤ 60 ∧
  ∀ (p : Addr) (ks : List Int), H p = none → ks.Nodup → (∀ k, k ∈ ks ↔ k ∈ ns) → Q (.ref p) (upd H p (SetO w p (fun j => decide (j ∈ ns)) ks.length))
theorem cr_setI (hc : X.calm = true) : CallR X (.type "set") (rSetI X.K X.w) := fun pins s σ H xs us Q I r ⟨l, ns, e, hl, few, q⟩ => cr_setB hc pins s σ H xs us Q I r ⟨l, ns, e, hl, Nat.le_trans few (by decide), q⟩
/-- len of such a set -/
def rLenSetO (w : World) : List V → Hp → VK → Prop := fun xs H Q => ∃ (a : Addr) (S : Int → Bool) (n : Nat), xs = [.ref a] ∧ H a = some (SetO w a S n) ∧ Q (.int n) H
theorem call_lenSetO : CallR X (.builtin "len") (rLenSetO X.w) := by
  intro pins s σ H xs us Q I r h
  obtain ⟨a, S, n, rfl, ha, q⟩ := h
  obtain ⟨u, rfl, ru⟩ := vals1 r
  cases ru
  obtain ⟨o, es, ep, t, ho, hx, hd, _, _, _, fits, small, en, _⟩ := setO_get I ha
  refine call_len_set ho hx hd small (by unfold scanBound at fits; omega) ⟨.int n, H, I.tok _, ⟨_, by rw [en]⟩, q⟩
end
end OF
set_option maxHeartbeats 4000000
/-! sorted(set(..)) of pairs of any ints. -/
namespace OF
open PySem PySem.Spec PyProof.Rows L2
theorem perm_back {α β : Type} {f : α → β} {l m : List β} (h : l.Perm m) : ∀ L : List α, m = L.map f → ∃ L' : List α, L'.Perm L ∧ l = L'.map f := by
  induction h with
  | nil =>
    intro L e
    exact ⟨L, List.Perm.refl _, e⟩
  | cons x _ ih =>
    intro L e
    cases L with
    | nil => cases e
    | cons y L =>
      have e2 := List.cons.inj e
      obtain ⟨L', p, q⟩ := ih L e2.2
      exact ⟨y :: L', p.cons y, by rw [q, e2.1]; rfl⟩
  | swap x y l =>
    intro L e
    match L, e with
    | [], e => cases e
    | [_], e => cases (List.cons.inj e).2
    | a :: b :: L, e =>
      obtain ⟨e1, e2⟩ := List.cons.inj e
      obtain ⟨e3, e4⟩ := List.cons.inj e2
      exact ⟨b :: a :: L, List.Perm.swap _ _ _, by rw [e1, e3, e4]; rfl⟩
  | trans _ _ ih1 ih2 =>
    intro L e
    obtain ⟨L2, p2, q2⟩ := ih2 L e
    obtain ⟨L1, p1, q1⟩ := ih1 L2 q2
    exact ⟨L1, p1.trans p2, q1⟩
/-- a list of two ints as a pair -/
def duo : List Int → Int × Int
  | [x, y] => (x, y)
  | _ => (0, 0)
section
variable {P : Program} {w : World} {A : Around} {E : Value → Shared → Prop} {s : Shared}
theorem sorted_set_duos {a : Addr} {L : List (Addr × List Int)} {es : Array (Int × Value)} {ep : Nat} {t : SetTable} {Q : Value → Shared → Prop} (R : SetTR P w s.heap a L es ep t) (calm : A.handled = none) (two : ∀ p ∈ L, p.2.length = 2)
    (fin : ∀ (s' : Shared) (p : Addr) (out : List Value) (c : Nat) (L' : List (Addr × List Int)), (∀ b o, s.heap.get? b = some o → s'.heap.get? b = some o) → s'.gens = s.gens → s'.os = s.os → s.heap.objs.size ≤ p →
      s'.heap.get? p = some (seqObj "list" out.toArray c) → out = L'.map (fun q => Value.ref q.1) → L'.Perm L → L'.Pairwise (fun q r => SrtO.lexB (duo r.2) (duo q.2) = false) → Q (.ref p) s') : wpAny (model P w) A (call (.builtin "sorted") [.ref a]) Q E s := by
  obtain ⟨o, ho, hx, hd⟩ := R.ob
  have hsz := R.size
  have few := R.few
  apply Calls.call_function_entry kind_sorted plain_sorted entry_sorted (args_sorted1 _)
  unfold Builtin.«sorted»
  refine wpAny_bind (m := checkCount "sorted" 1 1 _) (wpAny_pure ?_)
  apply wpAny_bind
  apply collect_set (A := A.in1) calm ⟨o, ho, hx.1, hd⟩ R.fits (by unfold scanBound; omega) R.tab.ris R.led
  intro s1 vs k1 z1 g1 o1 pm
  have rows : es.toList.map (·.2) = L.map fun q => Value.ref q.1 := by
    rw [R.rows]
    unfold rowsOf
    rw [List.map_map] <;> rfl
  rw [rows] at pm
  have short : vs.length < 64 := by
    rw [pm.length_eq, List.length_map]
    exact few
  have room : vs.length ≤ sizeLine := by
    rw [sizeLine_eq]
    omega
  refine wpAny_bind (wpAny_newList ?_ room)
  have laid : (s1.heap.push (seqObj "list" vs.toArray 0)).get? s1.heap.objs.size = some (seqObj "list" vs.toArray 0) := Heap.get?_push_size _ rfl
  have tup : ∀ q ∈ L, TS.TupInts (s1.heap.push (seqObj "list" vs.toArray 0)) (.ref q.1) q.2 := by
    intro q hq
    exact tupInts_of (P := P) (w := w) (isT_keep (R.tup q hq) fun b u e => Heap.get?_push_of_some _ (k1 b u e))
  have pair : ∀ v ∈ vs, Srt.IsPair (s1.heap.push (seqObj "list" vs.toArray 0)) v (duo (TS.intsOf (s1.heap.push (seqObj "list" vs.toArray 0)) v)).1 (duo (TS.intsOf (s1.heap.push (seqObj "list" vs.toArray 0)) v)).2 := by
    intro v hv
    obtain ⟨q, hq, e⟩ := List.mem_map.mp (pm.mem_iff.mp hv)
    subst e
    rw [(tup q hq).ints]
    obtain ⟨b, xs, e1, ⟨u, hu, hc, m, hd2⟩, ii⟩ := tup q hq
    have l2 := two q hq
    match hq2 : q.2, l2 with
    | [x, y], _ =>
      rw [hq2] at ii
      obtain ⟨xl⟩ := xs
      cases ii with
      | cons t1 k1' r1 => cases r1 with
        | cons t2 k2' r2 => cases r2 with
          | nil => exact ⟨b, u, _, _, m, e1, hu, hc, hd2⟩
  refine wpAny_bind (wpAny_holding (wpAny_call_entry slot_list_sort ⟨_, laid, rfl⟩ entry_list_sort (SrtO.list_sort_ord (s := { s1 with heap := s1.heap.push (seqObj "list" vs.toArray 0) }) (SrtO.swo_lex fun v => duo (TS.intsOf (s1.heap.push (seqObj "list" vs.toArray 0)) v)) laid room (fun h2 => ?sorts) fun out hs hb => ⟨_, rfl, ?done⟩) (args_list_sort _)))
  case sorts =>
    refine SrtO.pairs_sortableO (by omega) pair ?_
    intro u hu c
    rw [laid] at hu
    have := Option.some.inj hu
    subst this
    exact absurd (Value.type.inj c) (by decide)
  case done =>
    obtain ⟨c, hc⟩ := sortedHeap_at (vs := vs) (out := out.toArray) laid
    obtain ⟨L', pL, eL⟩ := perm_back (hb.perm.trans pm) L rfl
    refine wpAny_pure ⟨_, rfl, fin _ s1.heap.objs.size out c L' ?_ g1 o1 z1 hc eL pL ?_⟩
    · intro b u e
      have q := k1 b u e
      have lt := Heap.lt_size q
      show (sortedHeap (s1.heap.push (seqObj "list" vs.toArray 0)) s1.heap.objs.size vs out.toArray).get? b = some u
      rw [sortedHeap_old (Nat.ne_of_lt lt) (by rw [size_push']; exact Nat.lt_succ_of_lt lt)]
      exact Heap.get?_push_of_some _ q
    · have hs2 := hs
      rw [eL] at hs2
      refine List.Pairwise.imp_of_mem (fun {q r} hq hr z => ?_) (List.pairwise_map.mp hs2)
      have z2 : SrtO.lexB (duo (TS.intsOf (s1.heap.push (seqObj "list" vs.toArray 0)) (.ref r.1))) (duo (TS.intsOf (s1.heap.push (seqObj "list" vs.toArray 0)) (.ref q.1))) = false := z
      rw [(tup q (pL.mem_iff.mp hq)).ints, (tup r (pL.mem_iff.mp hr)).ints] at z2
      exact z2
end
section
variable {X : Cx}
/-- sorted of a set of pairs of ints -/
def rSortedDuo (K : PySem.W.Frag) (P : Program) (w : World) : List V → Hp → VK → Prop := fun vs H Q => ∃ (a : Addr) (L : List (Addr × List Int)), vs = [V.ref a] ∧ H a = some (SetTO P w a L) ∧ (∀ p ∈ L, SqT K H p.1 (p.2.map V.int)) ∧ (∀ p ∈ L, p.2.length = 2) ∧
  ∀ (L' : List (Addr × List Int)) (p : Addr), L'.Perm L → (L'.map (·.2)).Nodup → L'.length < 64 → L'.Pairwise (fun q r => SrtO.lexB (duo r.2) (duo q.2) = false) → H p = none → Q (.ref p) (upd H p (.lst (L'.map fun q => V.ref q.1)))
theorem cr_sortedDuo (hc : X.calm = true) : CallR X (.builtin "sorted") (rSortedDuo X.K X.prog X.w) := by
  intro pins s σ H vs us Q I r h
  obtain ⟨a, L, rfl, ha, hk, two, q⟩ := h
  obtain ⟨u, rfl, ru⟩ := vals1 r
  cases ru
  have R0 : SetT0 X.prog X.w s.heap a L := (I.hok a _ ha).1
  obtain ⟨es, ep, t, R⟩ := R0.full fun p hp => I.isT (hk p hp)
  apply sorted_set_duos R (I.ok.hd hc) two
  intro s' p out c L' k g o hp hg eo pm pw
  have short : L'.length < 64 := by
    rw [pm.length_eq]
    exact R.few
  have room : (L'.map fun q => V.ref q.1).length ≤ sizeLine := by
    rw [List.length_map, sizeLine_eq]
    omega
  have free : H p = none := I.hok.fresh hp
  subst eo
  have vals : Vals (L'.map fun q => V.ref q.1) (L'.map fun q => Value.ref q.1) := vals_of_refs L'
  obtain ⟨h', g', d', t', o'⟩ := s'
  have e1 : g' = s.gens := g
  have e2 : o' = s.os := o
  subst e1 e2
  have J : Inv X pins σ (upd H p (.lst (L'.map fun q => V.ref q.1))) ⟨h', s.gens, d', t', s.os⟩ :=
    I.call (ch := []) (Un.laid k hp free) (I.hok.laid k hp ⟨room, _, c, vals, hg⟩) I.bare (fun _ z => nomatch z)
  exact ⟨.ref p, _, J, rfl, q L' p pm ((pm.map (·.2)).nodup_iff.mpr R.nd) short pw free⟩
end
end OF
namespace OF
open PySem PySem.Spec PyProof.Rows L2
section
variable {X : Cx}
/-- x not in a tuple of data -/
def rNotInT (K : PySem.W.Frag) : R2 := fun x y H Q => ∃ d ds, Dp K H x d ∧ Dp K H y (.tuple ds) ∧ SeqAt.shaped d = true ∧ SeqAt.shaped (.tuple ds) = true ∧ Q (.bl (!ds.any fun z => PyData.eqv z d)) H
theorem op_notInT (hu : X.A.units + 65 < cLine) : OpR X (compareOp .NotIn) (rNotInT X.K) := by
  intro pins s σ H x y v u Q I rx ry h
  obtain ⟨d, ds, hd, he, sd, se, q⟩ := h
  obtain ⟨as, r1⟩ := Dp.reads I d x v hd rx
  obtain ⟨bs, r2⟩ := Dp.reads I (.tuple ds) y u he ry
  exact SeqAt.notIn_tuple_reads r2 r1 (SeqAt.canLay_of_shaped se) (SeqAt.canLay_of_shaped sd) (room_in_shaped sd hu) ⟨.bl _, H, I, rfl, q⟩
end
end OF
/-! x in o and o == p of instances of an own class with __contains__, __eq__ of its own. -/
namespace OF
open PySem PySem.Spec PyProof.Rows L2
section
variable {M : Model} {A : Around} {E : Value → Shared → Prop} {s : Shared} {K : PySem.W.Frag} {x C f : Addr} {ox : Obj} {od : Option Obj} {v : Value}
theorem contains_own {Q : Bool → Shared → Prop} (X : K.In s.heap) (I : PySem.W.InstAt s.heap x ox C od) (hs : PySem.W.findIn K (.ref C) "__contains__" = some (some (.ref f))) (hf : PySem.W.isFn K (.ref f) = true)
    (h : wpAny M A (call (.ref f) [.ref x, v]) (fun r s' => ∃ b, r = .bool b ∧ Q b s') E s) : wpAny M A (contains (.ref x) v) Q E s := by
  unfold contains
  refine wpAny_holding ?_
  rw [show stdlibNamesSay? (.ref x) v = none from by unfold stdlibNamesSay?; split <;> simp_all]
  refine wpAny_bind (m := specialOf (.ref x) (Str.ofString "__contains__")) (wpAny_bind (I.type.here ((PySem.W.looks_findIn X hs).here ?_)))
  show wpAny M A (if (some (Value.ref f) == some Value.none) = true then _ else _) Q E s
  rw [if_neg (by simp)]
  refine wpAny_bind (m := callSpecialUnlessNone? (.ref x) (Str.ofString "__contains__") [v] _) ?_
  unfold callSpecialUnlessNone?
  refine wpAny_bind (m := specialOf (.ref x) (Str.ofString "__contains__")) (wpAny_bind (I.type.here ((PySem.W.looks_findIn X hs).here ?_)))
  refine wpAny_holding (wpAny_bind ((PySem.W.bind_fn X _ (beq_iff_eq.mp hf)).here ?_))
  show wpAny M A (if (Value.ref f == Value.none) = true then _ else _) _ E s
  rw [if_neg (by simp)]
  refine wpAny_bind (wpAny_mono h (fun r s' hr => ?_) fun _ _ e => e)
  obtain ⟨b, rfl, q⟩ := hr
  exact wpAny_pure (wpAny_pure q)
end
section
variable {X : Cx} {CX : CXT} {n : Nat} {f C : Addr} {fd : FuncData} {ps : List Str} {sp : Sp} {E : XK}
/-- x in o, o an instance of the class at C with its own __contains__ -/
def rInOwn (C : Addr) (sp : Sp) (E : XK) (neg : Bool) : R2 := fun x y H Q => ∃ a dx fs, y = .ref a ∧ H a = some (.ins C dx fs) ∧ sp [y, x] H (fun z H' => ∃ b : Bool, z = .bl b ∧ Q (.bl (if neg then !b else b)) H') E
theorem op_inOwn (hs : PySem.W.findIn X.K (.ref C) "__contains__" = some (some (.ref f))) (hf : PySem.W.isFn X.K (.ref f) = true) (F : FnOk X.prog X.w X.K X.mg X.base CX n f fd ps sp) (hb : Binds X.K fd ps []) (hr : Room n X.A) (hx : Passes CX X E) :
    OpR X (compareOp .In) (rInOwn C sp E false) := by
  intro pins s σ H x y v u Q I rx ry h
  obtain ⟨a, dx, fs, rfl, ha, q⟩ := h
  cases (show u = Value.ref a from ry)
  obtain ⟨mA, J, _⟩ := ins_get I.hok ha
  obtain ⟨od, J, _⟩ := J.look
  show wpAny _ _ (do return Value.bool (← contains (.ref a) v)) _ _ _
  refine wpAny_bind (contains_own I.kIn J hs hf (wpAny_mono (run_fn (us := [.ref a, v]) (vs := [.ref a, x]) F hr hb .nil hx I (.cons rfl (.cons rx .nil)) q) (fun r s' z => ?_) fun _ _ e => e))
  obtain ⟨z', H', I', rz, b, rfl, q'⟩ := z
  cases rz
  exact ⟨b, rfl, wpAny_pure ⟨.bl b, H', I', rfl, q'⟩⟩
theorem op_notInOwn (hs : PySem.W.findIn X.K (.ref C) "__contains__" = some (some (.ref f))) (hf : PySem.W.isFn X.K (.ref f) = true) (F : FnOk X.prog X.w X.K X.mg X.base CX n f fd ps sp) (hb : Binds X.K fd ps []) (hr : Room n X.A) (hx : Passes CX X E) :
    OpR X (compareOp .NotIn) (rInOwn C sp E true) := by
  intro pins s σ H x y v u Q I rx ry h
  obtain ⟨a, dx, fs, rfl, ha, q⟩ := h
  cases (show u = Value.ref a from ry)
  obtain ⟨mA, J, _⟩ := ins_get I.hok ha
  obtain ⟨od, J, _⟩ := J.look
  show wpAny _ _ (do return Value.bool (!(← contains (.ref a) v))) _ _ _
  refine wpAny_bind (contains_own I.kIn J hs hf (wpAny_mono (run_fn (us := [.ref a, v]) (vs := [.ref a, x]) F hr hb .nil hx I (.cons rfl (.cons rx .nil)) q) (fun r s' z => ?_) fun _ _ e => e))
  obtain ⟨z', H', I', rz, b, rfl, q'⟩ := z
  cases rz
  exact ⟨b, rfl, wpAny_pure ⟨.bl (!b), H', I', rfl, q'⟩⟩
/-- o == p, two instances of the class at C with its own __eq__ -/
def rEqOwn (C : Addr) (sp : Sp) (E : XK) : R2 := fun x y H Q => ∃ a dx fs b dy gs, x = .ref a ∧ y = .ref b ∧ H a = some (.ins C dx fs) ∧ H b = some (.ins C dy gs) ∧ sp [x, y] H (fun z H' => ∃ b : Bool, z = .bl b ∧ Q z H') E
theorem op_eqOwn (hs : PySem.W.findIn X.K (.ref C) "__eq__" = some (some (.ref f))) (hf : PySem.W.isFn X.K (.ref f) = true) (F : FnOk X.prog X.w X.K X.mg X.base CX n f fd ps sp) (hb : Binds X.K fd ps []) (hr : Room n X.A) (hx : Passes CX X E) :
    OpR X (compareOp .Eq) (rEqOwn C sp E) := by
  intro pins s σ H x y v u Q I rx ry h
  obtain ⟨a, dx, fs, b, dy, gs, rfl, rfl, ha, hb', q⟩ := h
  cases (show v = Value.ref a from rx)
  cases (show u = Value.ref b from ry)
  obtain ⟨mA, J, _⟩ := ins_get I.hok ha
  obtain ⟨od, J, _⟩ := J.look
  obtain ⟨mB, J', _⟩ := ins_get I.hok hb'
  obtain ⟨od', J', _⟩ := J'.look
  obtain ⟨m, hF⟩ := I.fr
  refine PySem.W.cmp_K (op := .Eq) (tb := .ref C) hr.units0 hF I.ok.mod.kin J J'.type (by simp [PySem.W.notFirst]) hs hf ?_
  refine wpAny_mono (run_fn (us := [.ref a, .ref b]) (vs := [.ref a, .ref b]) F hr hb .nil hx I (.cons rfl (.cons rfl .nil)) q) (fun w s' z => ?_) fun _ _ e => e
  obtain ⟨z', H', I', rz, c, rfl, q'⟩ := z
  cases rz
  exact ⟨.bl c, H', I', rfl, q'⟩
end
end OF
/-! tuples: t + u, t[lo:hi], t[::-1] where the answer may be an operand itself; zip of tuples walked. -/
namespace OF
open PySem PySem.Spec PyProof.Rows L2
section
variable {X : Cx}
/-- t + u -/
def rCat2 : R2 := fun x y H Q => ∃ a b xs ys, x = .ref a ∧ y = .ref b ∧ H a = some (.tup xs) ∧ H b = some (.tup ys) ∧ xs.length + ys.length ≤ sizeLine ∧ ∀ p H', Same H H' → H' p = some (.tup (xs ++ ys)) → Q (.ref p) H'
theorem op_cat2 : OpR X (binaryOp .Add) rCat2 := by
  intro pins s σ H x y v u Q I rx ry h
  obtain ⟨a, b, xs, ys, rfl, rfl, ha, hb, hz, q⟩ := h
  refine op_catA pins s σ H _ _ v u Q I rx ry ⟨a, b, xs, ys, rfl, rfl, SqT.of ha, SqT.of hb, hz, fun e => ?_, fun _ e => ?_, fun _ _ p hp => q p _ (same_new hp) upd_same⟩
  · subst e
    exact q b H (Same.refl H) hb
  · subst e
    exact q a H (Same.refl H) (by rw [List.append_nil]; exact ha)
theorem cutV_whole (xs : List V) (lo hi : Option Int) (h : HT.sIx xs.length 0 lo = 0 ∧ HT.sIx xs.length xs.length hi = xs.length) : cutV xs lo hi = xs := by
  unfold cutV
  rw [h.1, h.2, List.drop_zero, Nat.sub_zero, List.take_length]
/-- t[lo:hi] -/
def rSl2 : V → Option Int → Option Int → Hp → VK → Prop := fun x lo hi H Q => ∃ a xs, x = .ref a ∧ H a = some (.tup xs) ∧ ∀ p H', Same H H' → H' p = some (.tup (cutV xs lo hi)) → Q (.ref p) H'
theorem sl_tup2 : SlR X rSl2 := by
  intro pins s σ H x v vl vu lo hi sl Q I rx hs pl pu h
  obtain ⟨a, xs, rfl, hx, q⟩ := h
  refine sl_tupA pins s σ H _ v vl vu lo hi sl Q I rx hs pl pu ⟨a, xs, rfl, SqT.of hx, fun e => q a H (Same.refl H) (by rw [cutV_whole xs lo hi e]; exact hx), fun _ p hp => q p _ (same_new hp) upd_same⟩
end
/-! ### t[::-1] -/
section
variable {prog : Program} {w : World} {A : Around} {E : Value → Shared → Prop} {s : Shared}
theorem sliceApplied_rev {sl : Addr} {vs : Value} {n : Nat} {Q : Int × Int × Nat → Shared → Prop} (hs : s.heap.IsSliceOf sl .none .none vs) (ps : PySem.IsPart vs (some (-1)))
    (h : Q ((n : Int) - 1, -1, n) s) : wpAny (model prog w) A (Builtin.Slice.sliceApplied (.ref sl) (pure (n : Int))) Q E s := by
  obtain ⟨os, hos, hcs, hds⟩ := id hs
  unfold Builtin.Slice.sliceApplied Builtin.Slice.sliceFields
  refine wpAny_bind (wpAny_bind (wpAny_field hos hds (x := .none) rfl (wpAny_bind (wpAny_field hos hds (x := .none) rfl (wpAny_bind (wpAny_field hos hds (x := vs) rfl (wpAny_pure ?_)))))))
  refine wpAny_bind (HT.slicePart_ ps ?_)
  show wpAny _ _ (if ((-1 : Int) == 0) = true then _ else _) _ _ s
  rw [if_neg (by decide)]
  refine wpAny_bind (slicePart_none (wpAny_bind (slicePart_none (wpAny_bind (wpAny_pure ?_)))))
  show wpAny _ _ (pure ((n : Int) - 1, (-1 : Int), Builtin.Slice.slicePlaces ((n : Int) - 1) (-1) (-1))) _ _ s
  have e : Builtin.Slice.slicePlaces ((n : Int) - 1) (-1) (-1) = n := by
    unfold Builtin.Slice.slicePlaces
    have h1 : ¬ ((-1 : Int) > 0) := by decide
    simp only [h1, if_false]
    split
    · rw [show (- -1 : Int) = 1 by decide, Int.ediv_one]
      omega
    · omega
  rw [e]
  exact wpAny_pure h
theorem fm_congr {α β : Type} {f g : α → Option β} : ∀ {l : List α}, (∀ x ∈ l, f x = g x) → l.filterMap f = l.filterMap g
  | [], _ => rfl
  | x :: l, h => by
    rw [List.filterMap_cons, List.filterMap_cons, h x List.mem_cons_self, fm_congr fun y hy => h y (List.mem_cons_of_mem _ hy)]
theorem pick_rev (xs : Array Value) : ((List.range xs.size).filterMap fun (k : Nat) => xs[(((xs.size : Int) - 1) + (k : Int) * (-1)).toNat]?).toArray = xs.toList.reverse.toArray := by
  have e : (List.range xs.size).filterMap (fun (k : Nat) => xs[(((xs.size : Int) - 1) + (k : Int) * (-1)).toNat]?) = ((List.range xs.size).map fun k => xs.size - 1 - k).filterMap (xs[·]?) := by
    rw [List.filterMap_map]
    refine fm_congr fun k hk => ?_
    have := List.mem_range.mp hk
    have e2 : (((xs.size : Int) - 1) + (k : Int) * (-1)).toNat = xs.size - 1 - k := by omega
    show _ = xs[xs.size - 1 - k]?
    rw [e2]
  rw [e, PySem.W.krv_range, List.filterMap_reverse, PySem.W.krv_all]
theorem getItem_tuple_rev {t sl : Addr} {items : Array Value} {vs : Value} {Q : Value → Shared → Prop} (ht : IsTup s.heap t items) (hs : s.heap.IsSliceOf sl .none .none vs) (ps : PySem.IsPart vs (some (-1)))
    (h : Q (.ref s.heap.objs.size) { s with heap := s.heap.push { cls := .type "tuple", data := .seq items.toList.reverse.toArray } })
    (hsz : items.size ≤ sizeLine) : wpAny (model prog w) A (getItem (.ref t) (.ref sl)) Q E s := by
  have htake : sizeOk (.seq items.toList.reverse.toArray) := by
    show items.toList.reverse.toArray.size ≤ sizeLine
    rw [List.size_toArray, List.length_reverse, Array.length_toList]
    exact hsz
  obtain ⟨os, hos, hcs, hds⟩ := id hs
  have hTs : s.TypeIs (.ref sl) "slice" := ⟨os, hos, hcs⟩
  unfold getItem
  try with_reducible refine wpAny_holding ?_
  first | refine wpAny_bind (wpAny_pure ?_) | skip
  refine wpAny_bind (wpAny_sequenceKey ht.typeIs (by decide) ?_)
  refine wpAny_bind (wpAny_callSpecial?_slot (name := Str.ofString "__getitem__") ht.typeIs PyProof.Rows.slot_tuple_getitem
    (wpAny_call_entry PyProof.Rows.slot_tuple_getitem ht.typeIs entry_tuple_getitem ?_ (args_tuple_getitem _ _)))
  show wpAny _ _ (Builtin.Tuple.tupleItemsOf (.ref t) >>= _) _ _ s
  refine wpAny_bind (tupleItemsOf_ ht ?_)
  refine wpAny_bind (wpAny_typeOf hTs ?_)
  rw [if_pos (by decide)]
  refine wpAny_bind (sliceApplied_rev hs ps ?_)
  have hno : ¬ ((((items.size : Int) - 1) == 0 && (-1 : Int) == 1 && items.size == items.size) = true) := by
    intro q
    rw [Bool.and_eq_true, Bool.and_eq_true] at q
    exact absurd q.1.2 (by decide)
  show wpAny _ _ (if (((items.size : Int) - 1) == 0 && (-1 : Int) == 1 && items.size == items.size) = true then _ else _) _ _ s
  rw [if_neg hno, pick_rev]
  first
    | exact wpAny_bind (m := Builtin.Tuple.tupleExact _) (wpAny_newObj_type (wpAny_pure ⟨_, rfl, wpAny_pure h⟩) htake)
    | exact wpAny_bind (m := Builtin.Tuple.tupleExact _) (wpAny_newObj_type (wpAny_bind (wpAny_pure (wpAny_pure ⟨_, rfl, wpAny_pure h⟩))) htake)
    | exact wpAny_bind (wpAny_bind (m := Builtin.Tuple.tupleExact _) (wpAny_newObj_type (wpAny_pure (wpAny_pure ⟨_, rfl, wpAny_pure h⟩)) htake))
    | exact wpAny_bind (wpAny_bind (m := Builtin.Tuple.tupleExact _) (wpAny_newObj_type (wpAny_pure ⟨_, rfl, wpAny_pure h⟩) htake))
end
section
variable {X : Cx}
def tRevT (K : PySem.W.Frag) (te : TE) : TE := fun σ H Q => te σ H fun x H1 => ∃ a xs, x = .ref a ∧ SqT K H1 a xs ∧ ∀ p, H1 p = none → Q (.ref p) (upd H1 p (.tup xs.reverse))
theorem pe_revT {e : Expr} {te : TE} {k : Nat} {p1 p2 p3 pos : Pos} (he : PE X e te) : PE X (.Subscript e (.Slice none none (some (.UnaryOp .USub (.Constant (.int 1) k p1) p2)) p3) pos) (tRevT X.K te) := by
  refine ⟨fun pins s σ H Q I h => ?_⟩
  refine Subscript_ (thn (he.run pins s σ H _ I h) fun v s1 ⟨x, H1, I1, r1, q1⟩ => ?_)
  obtain ⟨a, xs, ex, hx, q⟩ := q1
  subst ex
  cases r1
  have hst : PO X (some (.UnaryOp .USub (.Constant (.int 1) k p1) p2)) (tPart (tUn (rU fun i => .int (-i)) (tC (.int 1)))) := po_some (pe_un un_neg pe_int)
  refine wpAny_Slice (thn (po_none.run pins s1 σ H1 (fun o H2 => o = none ∧ H2 = H1) I1 ⟨rfl, rfl⟩) fun vl s2 ⟨l, H2, I2, pl, el, e2⟩ => ?_)
  subst el e2
  refine thn (po_none.run pins s2 σ H2 (fun o H3 => o = none ∧ H3 = H2) I2 ⟨rfl, rfl⟩) fun vu s3 ⟨u, H3, I3, pu, eu, e3⟩ => ?_
  subst eu e3
  cases pl
  cases pu
  refine thn (hst.run pins s3 σ H3 (fun o H4 => o = some (-1) ∧ H4 = H3) I3 ⟨1, rfl, -1, rfl, rfl, rfl⟩) fun vs s4 ⟨o, H4, I4, ps, eo, e4⟩ => ?_
  subst eo e4
  have I5 : Inv X pins σ H4 { s4 with heap := s4.heap.push { cls := .type "slice", data := .fields #[.none, .none, vs] } } := I4.kept (t' := s4.toks) fun b ob q => Heap.get?_push_of_some _ q
  obtain ⟨its, r, ht, hz⟩ := I5.tuple hx
  have hlen := r.length
  show wpAny (model X.prog X.w) X.A (subscriptTail e (.Slice none none (some (.UnaryOp .USub (.Constant (.int 1) k p1) p2)) p3) (.ref a) (.ref s4.heap.objs.size)) (EP X pins σ Q) X.xe { s4 with heap := s4.heap.push { cls := .type "slice", data := .fields #[.none, .none, vs] } }
  refine tail_any (ops := [.ref a, .ref s4.heap.objs.size]) ht.typeIs (PyProof.Rows.slot_tuple_getitem.lookup) ?_ (by with_unfolding_all rfl)
  refine getItem_tuple_rev ht (Heap.IsSliceOf.new _ .none .none vs) ps ?_ (by rw [List.size_toArray]; omega)
  refine ⟨.ref _, _, I5.laid (t' := s4.toks) (o := .tup xs.reverse) (fun b ob q => Heap.get?_push_of_some _ q) (Nat.le_refl _) ?_, rfl, q _ (I5.hok.fresh (Nat.le_refl _))⟩
  exact ⟨by rw [List.length_reverse]; exact hz, _, r.reverse, _, Heap.get?_push_size _ rfl, rfl, _, rfl⟩
end
/-- zip of two tuples of one length -/
theorem walk_zipT {K : PySem.W.Frag} {a b : Addr} {xs ys : List V} {n : Nat} (h1 : xs.length = n) (h2 : n ≤ ys.length) : Walk (RZ.ItzT K a b) n (fun H => SqT K H a xs ∧ SqT K H b ys) (YPair (fun i => xs[i]?) (fun i => ys[i]?)) :=
  ⟨fun i _ hi q => ⟨xs, ys, xs[i]'(by omega), ys[i]'(by omega), q.1, q.2, List.getElem?_eq_getElem _, List.getElem?_eq_getElem _⟩, fun _ q => ⟨xs, ys, q.1, q.2, .inl (by omega)⟩, fun _ _ _ _ _ q ⟨T, x, y, e, hT, eH, hx, hy⟩ => ⟨T, x, y, e, hT, eH, hx xs q.1, hy ys q.2⟩⟩
end OF
namespace K19
open PySem PySem.Spec PyProof.Rows L2 OF
def topS (i : Nat) : Stmt := PySem.Challenge.pw_oddfigures_k19_loops_judged.main.body.getD i (.Pass ⟨0, 0, 0, 0⟩)
abbrev sWhole : Stmt := topS 16
abbrev sIsInt : Stmt := topS 17
abbrev sIsBase : Stmt := topS 18
abbrev sIsDigit : Stmt := topS 19
abbrev sAre : Stmt := topS 20
abbrev sRowText : Stmt := topS 21
abbrev sRead : Stmt := topS 22
abbrev sOneOf : Stmt := topS 37
abbrev sIsPair : Stmt := topS 38
abbrev sDigList : Stmt := topS 39
abbrev sDiffDig : Stmt := topS 40
abbrev sDiffPair : Stmt := topS 41
abbrev sInit : Stmt := inClass (topS 43) 0
abbrev sAllows : Stmt := inClass (topS 43) 9
section
variable {P : Program} {w : World} {K : PySem.W.Frag} {mg : Str → Option Value} {base : Heap}

/-- is_whole -/
def spWhole : Sp := fun vs H Q _ => ∃ x : V, vs = [x] ∧ ((∃ n : Int, x = .int n ∧ Q (.bl true) H) ∨ (Odd H x ∧ Q (.bl false) H))
theorem scWh : FnScope ["value"] ["value"] (defScope sWhole) := ⟨rfl, rfl, rfl, by decide +kernel, rfl, by decide +kernel, by decide +kernel⟩
theorem ok_whole {f : Addr} {fd : FuncData} (F : Fun K "is_whole" "is_whole" sWhole f fd) (ms : mg "isinstance" = none) (mi : mg "int" = none) (mb : mg "bool" = none) : FnOk P w K mg base CX0 1 f fd ["value"] spWhole := by
  refine F.ok scWh (fun vs H Q E h => ?_) (fun cdv A outer s H vs Q E hr h => ?_)
  · obtain ⟨x, rfl, _⟩ := h
    rfl
  · obtain ⟨x, rfl, h⟩ := h
    refine ⟨_, pss_one (ps_ret (pe_and (pe_callB call_isi (by rfl) ms PyProof.Rows.boot_isinstance (pa_cons (pv 0) (pa_cons (pe_bltn (v := .ty "int") (by rfl) mi PyProof.Rows.boot_int rfl) pa_nil)))
      (pe_one (pe_not (pe_callB call_isi (by rfl) ms PyProof.Rows.boot_isinstance (pa_cons (pv 0) (pa_cons (pe_bltn (v := .ty "bool") (by rfl) mb PyProof.Rows.boot_bool rfl) pa_nil))))))), ?_⟩
    rcases h with ⟨n, rfl, q⟩ | ⟨o, q⟩
    · refine ⟨.int n, rfl, .int n, .ty "int", .type "int", .type "int", true, rfl, .ty _, .base (.int n), kit_ty (by decide +kernel), true, rfl, iteT ?_⟩
      exact ⟨.int n, rfl, .int n, .ty "bool", .type "int", .type "bool", false, rfl, .ty _, .base (.int n), kit_ty (by decide +kernel), false, rfl, q⟩
    · obtain ⟨t, b, ty, k1, k2⟩ := o.kit (K := K)
      refine ⟨x, rfl, x, .ty "int", t, .type "int", b, rfl, .ty _, ty, k1, b, rfl, ?_⟩
      cases b with
      | false => exact iteF q
      | true => exact iteT ⟨x, rfl, x, .ty "bool", t, .type "bool", true, rfl, .ty _, ty, k2 rfl, true, rfl, q⟩
/-- is_integer -/
def spIsInt : Sp := fun vs H Q _ => ∃ (x : V) (lo hi : Int), vs = [x, .int lo, .int hi] ∧ ((∃ n : Int, x = .int n ∧ Q (.bl (decide (lo ≤ n) && decide (n ≤ hi))) H) ∨ (Odd H x ∧ Q (.bl false) H))
def spIsDigit : Sp := fun vs H Q _ => ∃ (x : V), vs = [x] ∧ ((∃ n : Int, x = .int n ∧ Q (.bl (decide (-9 ≤ n) && decide (n ≤ 9))) H) ∨ (Odd H x ∧ Q (.bl false) H))
theorem scI : FnScope ["value", "low", "high"] ["value", "low", "high"] (defScope sIsInt) := ⟨rfl, rfl, rfl, by decide +kernel, rfl, by decide +kernel, by decide +kernel⟩
theorem ok_isint {f fW : Addr} {fd fdW : FuncData} (F : Fun K "is_integer" "is_integer" sIsInt f fd) (GW : FnOk P w K mg base CX0 1 fW fdW ["value"] spWhole) (gW : mg "is_whole" = some (.ref fW)) (kW : PySem.W.keepIn K (.ref fW) = true) (bW : Binds K fdW ["value"] []) : FnOk P w K mg base CX0 2 f fd ["value", "low", "high"] spIsInt := by
  refine F.ok scI (fun vs H Q E h => ?_) (fun cdv A outer s H vs Q E hr h => ?_)
  · obtain ⟨x, lo, hi, rfl, _⟩ := h
    rfl
  · obtain ⟨x, lo, hi, rfl, h⟩ := h
    refine ⟨_, pss_one (ps_ret (pe_and (pe_call GW hr (by rfl) gW kW bW .nil pass0 (pa_cons (pv 0) pa_nil)) (pe_one (pe_chain op_le op_le (pv 1) (pv 0) (pv 2))))), ?_⟩
    rcases h with ⟨n, rfl, q⟩ | ⟨o, q⟩
    · exact ⟨.int n, rfl, .int n, rfl, .inl ⟨n, rfl, true, rfl, iteT ⟨.int lo, rfl, .int n, rfl, lo, n, rfl, rfl, _, rfl, iteAnd (fun z => ⟨.int hi, rfl, n, hi, rfl, rfl, z⟩) q⟩⟩⟩
    · exact ⟨x, rfl, x, rfl, .inr ⟨o, false, rfl, iteF q⟩⟩
def isBase (n : Int) : Bool := (decide (2 ≤ n) && decide (n ≤ 6)) || (decide (-6 ≤ n) && decide (n ≤ -2))
def spIsBase : Sp := fun vs H Q _ => ∃ (x : V), vs = [x] ∧ ((∃ n : Int, x = .int n ∧ Q (.bl (isBase n)) H) ∨ (Odd H x ∧ Q (.bl false) H))
theorem scIB : FnScope ["value"] ["value"] (defScope sIsBase) := ⟨rfl, rfl, rfl, by decide +kernel, rfl, by decide +kernel, by decide +kernel⟩
theorem ok_isbase {f fI : Addr} {fd fdI : FuncData} {t : Tok} (F : Fun K "is_base" "is_base" sIsBase f fd) (GI : FnOk P w K mg base CX0 2 fI fdI ["value", "low", "high"] spIsInt) (gI : mg "is_integer" = some (.ref fI)) (kI : PySem.W.keepIn K (.ref fI) = true) (bI : Binds K fdI ["value", "low", "high"] [])
    (gG : mg "GREATEST_BASE" = some (.int 6 t)) : FnOk P w K mg base CX0 3 f fd ["value"] spIsBase := by
  refine F.ok scIB (fun vs H Q E h => ?_) (fun cdv A outer s H vs Q E hr h => ?_)
  · obtain ⟨x, rfl, _⟩ := h
    rfl
  · obtain ⟨x, rfl, h⟩ := h
    refine ⟨_, pss_one (ps_ret (pe_or (pe_call GI hr (by rfl) gI kI bI .nil pass0 (pa_cons (pv 0) (pa_cons pe_int (pa_cons (pe_glob (v := .int 6) rfl gG ⟨_, rfl⟩) pa_nil))))
      (pe_one (pe_call GI hr (by rfl) gI kI bI .nil pass0 (pa_cons (pv 0) (pa_cons (pe_un un_neg (pe_glob (v := .int 6) rfl gG ⟨_, rfl⟩)) (pa_cons (pe_un un_neg pe_int) pa_nil))))))), ?_⟩
    rcases h with ⟨n, rfl, q⟩ | ⟨o, q⟩
    · exact ⟨.int n, rfl, _, 2, 6, rfl, .inl ⟨n, rfl, _, rfl, iteOr (fun z => ⟨.int n, rfl, 6, rfl, 2, rfl, _, -6, -2, rfl, .inl ⟨n, rfl, z⟩⟩) q⟩⟩
    · exact ⟨x, rfl, _, 2, 6, rfl, .inr ⟨o, _, rfl, iteF ⟨x, rfl, 6, rfl, 2, rfl, _, -6, -2, rfl, .inr ⟨o, q⟩⟩⟩⟩
theorem scID : FnScope ["value"] ["value"] (defScope sIsDigit) := ⟨rfl, rfl, rfl, by decide +kernel, rfl, by decide +kernel, by decide +kernel⟩
theorem ok_isdigit {f fI : Addr} {fd fdI : FuncData} {t : Tok} (F : Fun K "is_digit" "is_digit" sIsDigit f fd) (GI : FnOk P w K mg base CX0 2 fI fdI ["value", "low", "high"] spIsInt) (gI : mg "is_integer" = some (.ref fI)) (kI : PySem.W.keepIn K (.ref fI) = true) (bI : Binds K fdI ["value", "low", "high"] [])
    (gG : mg "GREATEST_DIGIT" = some (.int 9 t)) : FnOk P w K mg base CX0 3 f fd ["value"] spIsDigit := by
  refine F.ok scID (fun vs H Q E h => ?_) (fun cdv A outer s H vs Q E hr h => ?_)
  · obtain ⟨x, rfl, _⟩ := h
    rfl
  · obtain ⟨x, rfl, h⟩ := h
    refine ⟨_, pss_one (ps_ret (pe_call GI hr (by rfl) gI kI bI .nil pass0 (pa_cons (pv 0) (pa_cons (pe_un un_neg (pe_glob (v := .int 9) rfl gG ⟨_, rfl⟩)) (pa_cons (pe_glob (v := .int 9) rfl gG ⟨_, rfl⟩) pa_nil))))), ?_⟩
    rcases h with ⟨n, rfl, q⟩ | ⟨o, q⟩
    · exact ⟨.int n, rfl, 9, rfl, _, -9, 9, rfl, .inl ⟨n, rfl, q⟩⟩
    · exact ⟨x, rfl, 9, rfl, _, -9, 9, rfl, .inr ⟨o, q⟩⟩
/-- a digit -/
def dig (n : Int) : Bool := decide (-9 ≤ n) && decide (n ≤ 9)
theorem same_seqT {K : PySem.W.Frag} {H H' : Hp} {a : Addr} {xs : List V} (s : Same H H') (h : SqT K H a xs) : SqT K H' a xs := by
  rcases h with (h | ⟨o, h⟩) | h
  · exact .inl (.inl (s _ _ h))
  · exact .inl (.inr ⟨o, s _ _ h⟩)
  · exact .inr h

/-! ### values of any kind -/
def ItemOk (H : Hp) (x : V) : Prop := (∃ n : Int, x = .int n) ∨ Odd H x
theorem ItemOk.same {H H' : Hp} {x : V} (h : ItemOk H x) (s : Same H H') : ItemOk H' x := h.imp id fun o => o.same s
def digV : V → Bool
  | .int n => dig n
  | _ => false
theorem digV_odd {H : Hp} {x : V} (o : Odd H x) : digV x = false := by cases o <;> rfl
/-- no list, no tuple -/
inductive NoSeq (H : Hp) : V → Prop
  | int (n : Int) : NoSeq H (.int n)
  | non : NoSeq H .non
  | bl (b : Bool) : NoSeq H (.bl b)
  | str (z : Str) : NoSeq H (.str z)
  | dK {a : Addr} {kvs : List (Key × V)} (e : H a = some (.dK kvs)) : NoSeq H (.ref a)
theorem NoSeq.same {H H' : Hp} {x : V} (h : NoSeq H x) (s : Same H H') : NoSeq H' x := by
  cases h with
  | int n => exact .int n
  | non => exact .non
  | bl b => exact .bl b
  | str z => exact .str z
  | dK e => exact .dK (s _ _ e)
theorem NoSeq.kit {K : PySem.W.Frag} {H : Hp} {x : V} (h : NoSeq H x) : ∃ t, TyX K H x t ∧ PySem.W.kitAny K t [.type "list", .type "tuple"] = some false := by
  have go : ∀ a : String, kitB a "list" = some false → kitB a "tuple" = some false → PySem.W.kitAny K (.type a) [.type "list", .type "tuple"] = some false := fun a h1 h2 =>
    kitAny_cons (b := false) (kit_ty h1) (fun _ => kitAny_cons (b := false) (kit_ty h2) (fun _ => kitAny_nil) fun z => nomatch z) fun z => nomatch z
  cases h with
  | int n => exact ⟨_, .base (.int n), go "int" (by decide +kernel) (by decide +kernel)⟩
  | non => exact ⟨_, .base .non, go "NoneType" (by decide +kernel) (by decide +kernel)⟩
  | bl b => exact ⟨_, .base (.bl b), go "bool" (by decide +kernel) (by decide +kernel)⟩
  | str z => exact ⟨_, .base (.str z), go "str" (by decide +kernel) (by decide +kernel)⟩
  | dK e => exact ⟨_, .base (.dK e), go "dict" (by decide +kernel) (by decide +kernel)⟩
/-- a list or tuple, a tuple that the text has written too -/
inductive IsSeq (K : PySem.W.Frag) (H : Hp) (p : Addr) (xs : List V) : Prop
  | lst (e : H p = some (.lst xs)) : IsSeq K H p xs
  | tup (e : H p = some (.tup xs)) : IsSeq K H p xs
  | kt {o : Obj} (e : K.lookup p = some o) (c : o.cls = .type "tuple") (h : SqT K H p xs) : IsSeq K H p xs
theorem IsSeq.same {K : PySem.W.Frag} {H H' : Hp} {p : Addr} {xs : List V} (h : IsSeq K H p xs) (s : Same H H') : IsSeq K H' p xs := by
  cases h with
  | lst e => exact .lst (s _ _ e)
  | tup e => exact .tup (s _ _ e)
  | kt e c h => exact .kt e c (same_seqT s h)
theorem IsSeq.sq {K : PySem.W.Frag} {H : Hp} {p : Addr} {xs : List V} (h : IsSeq K H p xs) : SqL K H p xs ∨ SqT K H p xs := by
  cases h with
  | lst e => exact .inl (SqL.of e)
  | tup e => exact .inr (SqT.of e)
  | kt e c h => exact .inr h
theorem IsSeq.lt {K : PySem.W.Frag} {H : Hp} {p : Addr} {xs : List V} (h : IsSeq K H p xs) : ∃ t, TyX K H (.ref p) t ∧ PySem.W.kitAny K t [.type "list", .type "tuple"] = some true := by
  have tu : PySem.W.kitAny K (.type "tuple") [.type "list", .type "tuple"] = some true := kitAny_cons (b := false) (kit_ty (by decide +kernel)) (fun _ => kitAny_cons (b := true) (kit_ty (by decide +kernel)) (fun z => nomatch z) fun _ => rfl) fun z => nomatch z
  cases h with
  | lst e => exact ⟨_, .base (.lst e), kitAny_cons (b := true) (kit_ty (by decide +kernel)) (fun z => nomatch z) fun _ => rfl⟩
  | tup e => exact ⟨_, .base (.tup e), tu⟩
  | kt e c h => exact ⟨_, .kTuple e c, tu⟩
/-- are_digits of a list or tuple of any items -/
def spAre (K : PySem.W.Frag) : Sp := fun vs H Q _ => ∃ (p : Addr) (xs : List V), vs = [.ref p] ∧ (SqL K H p xs ∨ SqT K H p xs) ∧ (∀ x ∈ xs, ItemOk H x) ∧ xs.length ≤ 1000 ∧ ∀ H', Same H H' → Q (.bl (xs.all digV)) H'
theorem scAr : FnScope ["items", "item"] ["items"] (defScope sAre) := ⟨rfl, rfl, rfl, by decide +kernel, rfl, by decide +kernel, by decide +kernel⟩
theorem ok_are {f fD : Addr} {fd fdD : FuncData} (F : Fun K "are_digits" "are_digits" sAre f fd) (GD : FnOk P w K mg base CX0 3 fD fdD ["value"] spIsDigit) (gD : mg "is_digit" = some (.ref fD)) (kD : PySem.W.keepIn K (.ref fD) = true) (bD : Binds K fdD ["value"] [])
    (mall : mg "all" = none) : FnOk P w K mg base CX0 4 f fd ["items"] (spAre K) := by
  refine F.ok scAr (fun vs H Q E h => ?_) (fun cdv A outer s H vs Q E hr h => ?_)
  · obtain ⟨p, xs, rfl, _⟩ := h
    rfl
  · obtain ⟨p, xs, rfl, hp, it, hl, q⟩ := h
    have turn : ∀ (i : Nat) (x : V) (H' : Hp) (D : Addr), H D = none → xs[i]? = some x → (Same H H' ∧ H' D = some (.lst ((xs.take i).map fun x => V.bl (digV x)))) →
        tCall spIsDigit [] E0 (tCons (tVar 1) tNil) [some (.ref p), some x] H' (fun v H2 => ∃ acc, H2 D = some (.lst acc) ∧ acc.length < sizeLine ∧ (Same H (upd H2 D (.lst (acc ++ [v]))) ∧ (upd H2 D (.lst (acc ++ [v]))) D = some (.lst ((xs.take (i + 1)).map fun x => V.bl (digV x))))) := by
      intro i x H' D hD hx ⟨s1, e1⟩
      have fin : ∃ acc, H' D = some (.lst acc) ∧ acc.length < sizeLine ∧ (Same H (upd H' D (.lst (acc ++ [.bl (digV x)]))) ∧ (upd H' D (.lst (acc ++ [.bl (digV x)]))) D = some (.lst ((xs.take (i + 1)).map fun x => V.bl (digV x)))) := by
        refine ⟨_, e1, ?_, Same.store s1 hD, ?_⟩
        · rw [List.length_map]
          exact Nat.lt_of_le_of_lt (List.length_take_le' _ _) (small1000 hl)
        · rw [upd_same, take_more hx, List.map_append]
          rfl
      rcases it x (List.mem_of_getElem? hx) with ⟨n, rfl⟩ | o
      · exact ⟨.int n, rfl, .int n, rfl, .inl ⟨n, rfl, fin⟩⟩
      · rw [digV_odd o] at fin
        exact ⟨x, rfl, x, rfl, .inr ⟨o.same s1, fin⟩⟩
    have done : ∀ (D : Addr) (H' : Hp), H' D = some (.lst ((xs.take xs.length).map fun x => V.bl (digV x))) → H' D = some (.lst ((xs.map digV).map V.bl)) ∧ (xs.map digV).all id = xs.all digV := by
      intro D H' e
      rw [List.take_length] at e
      refine ⟨by rw [e, List.map_map]; rfl, ?_⟩
      rw [List.all_map]
      rfl
    rcases hp with hp | hp
    · refine ⟨_, pss_one (ps_ret (pe_callB (cr_all rfl) (by rfl) mall (by decide +kernel) (pa_cons (pe_lc (own := [("item", 1)]) (g := gName 1) (tt := tYes) (te := tCall spIsDigit [] E0 (tCons (tVar 1) tNil)) rfl scAr.nd (pi_list (pv 0))
            (blkOk_by (own := [("item", 1)]) (N := ["items", "item"]) (sc := defScope sAre) (by decide +kernel)) (fun _ _ _ _ _ => pg_name (i := 1) scAr.nd rfl (Or.inl rfl)) (fun _ _ _ _ _ => pts_nil)
            (fun _ _ _ _ _ => by exact (pe_call GD hr (by rfl) gD kD bD .nil pass0 (pa_cons (pv 1) pa_nil)))) pa_nil))), ?_⟩
      refine ⟨.ref p, rfl, p, rfl, ⟨_, hp⟩, fun D hD => ?_⟩
      refine lc_list (K := K) (a := p) (xs := xs) (fun i H' => Same H H' ∧ H' D = some (.lst ((xs.take i).map fun x => V.bl (digV x)))) ⟨same_new hD, upd_same⟩ (fun i H' _ h => h.1.seq hp) ?_ ?_
      · rintro i x H' hx h
        exact ⟨rfl, tYes_if (turn i x H' D hD hx h)⟩
      · rintro H' ⟨s1, e1⟩
        obtain ⟨e2, e3⟩ := done D H' e1
        exact ⟨D, xs.map digV, rfl, SqL.of e2, by rw [e3]; exact q H' s1⟩
    · refine ⟨_, pss_one (ps_ret (pe_callB (cr_all rfl) (by rfl) mall (by decide +kernel) (pa_cons (pe_lc (own := [("item", 1)]) (g := gName 1) (tt := tYes) (te := tCall spIsDigit [] E0 (tCons (tVar 1) tNil)) rfl scAr.nd (pi_tup (pv 0))
            (blkOk_by (own := [("item", 1)]) (N := ["items", "item"]) (sc := defScope sAre) (by decide +kernel)) (fun _ _ _ _ _ => pg_name (i := 1) scAr.nd rfl (Or.inl rfl)) (fun _ _ _ _ _ => pts_nil)
            (fun _ _ _ _ _ => by exact (pe_call GD hr (by rfl) gD kD bD .nil pass0 (pa_cons (pv 1) pa_nil)))) pa_nil))), ?_⟩
      refine ⟨.ref p, rfl, p, rfl, ⟨_, hp⟩, fun D hD => ?_⟩
      refine lc_tup (K := K) (a := p) (xs := xs) (fun i H' => Same H H' ∧ H' D = some (.lst ((xs.take i).map fun x => V.bl (digV x)))) ⟨same_new hD, upd_same⟩ (fun i H' _ h => same_seqT h.1 hp) ?_ ?_
      · rintro i x H' hx h
        exact ⟨rfl, tYes_if (turn i x H' D hD hx h)⟩
      · rintro H' ⟨s1, e1⟩
        obtain ⟨e2, e3⟩ := done D H' e1
        exact ⟨D, xs.map digV, rfl, SqL.of e2, by rw [e3]; exact q H' s1⟩

/-- _is_digit_list of any value -/
def spDigList (K : PySem.W.Frag) : Sp := fun vs H Q _ => ∃ x : V, vs = [x] ∧ ((NoSeq H x ∧ ∀ H', Same H H' → Q (.bl false) H') ∨ ∃ (p : Addr) (xs : List V), x = .ref p ∧ IsSeq K H p xs ∧ (∀ y ∈ xs, ItemOk H y) ∧ xs.length ≤ 1000 ∧ ∀ H', Same H H' → Q (.bl (xs.all digV)) H')
theorem scDl : FnScope ["value"] ["value"] (defScope sDigList) := ⟨rfl, rfl, rfl, by decide +kernel, rfl, by decide +kernel, by decide +kernel⟩
theorem ok_diglist {f fA : Addr} {fd fdA : FuncData} (F : Fun K "_is_digit_list" "_is_digit_list" sDigList f fd) (GA : FnOk P w K mg base CX0 4 fA fdA ["items"] (spAre K)) (gA : mg "are_digits" = some (.ref fA)) (kA : PySem.W.keepIn K (.ref fA) = true) (bA : Binds K fdA ["items"] [])
    (mis : mg "isinstance" = none) (ml : mg "list" = none) (mt : mg "tuple" = none) : FnOk P w K mg base CX0 5 f fd ["value"] (spDigList K) := by
  refine F.ok scDl (fun vs H Q E h => ?_) (fun cdv A outer s H vs Q E hr h => ?_)
  · obtain ⟨x, rfl, _⟩ := h
    rfl
  · obtain ⟨x, rfl, h⟩ := h
    refine ⟨_, pss_one (ps_ret (pe_and (pe_callB call_isiT (by rfl) mis PyProof.Rows.boot_isinstance (pa_cons (pv 0) (pa_cons (pe_tup (pa_cons (pe_bltn (v := .ty "list") (by rfl) ml PyProof.Rows.boot_list rfl) (pa_cons (pe_bltn (v := .ty "tuple") (by rfl) mt (by decide +kernel) rfl) pa_nil))) pa_nil)))
      (pe_one (pe_call GA hr (by rfl) gA kA bA .nil pass0 (pa_cons (pv 0) pa_nil))))), ?_⟩
    refine ⟨x, rfl, (by show 2 ≤ sizeLine; decide), fun T hT => ?_⟩
    have s1 := same_new (o := .tup [.ty "list", .ty "tuple"]) hT
    rcases h with ⟨no, q⟩ | ⟨p, xs, rfl, hp, it, hl, q⟩
    · obtain ⟨t, ty, k⟩ := (no.same s1).kit (K := K)
      exact ⟨x, T, _, t, _, false, rfl, upd_same, .cons (.ty _) (.cons (.ty _) .nil), ty, k, false, rfl, iteF (q _ s1)⟩
    · obtain ⟨t, ty, k⟩ := (hp.same s1).lt (K := K)
      exact ⟨.ref p, T, _, t, _, true, rfl, upd_same, .cons (.ty _) (.cons (.ty _) .nil), ty, k, true, rfl, iteT ⟨.ref p, rfl, p, xs, rfl, (hp.same s1).sq, (fun y hy => (it y hy).same s1), hl, fun H' s2 => q H' (s1.trans s2)⟩⟩
theorem all_ints {xs : List V} (h : xs.all digV = true) : ∃ ns : List Int, xs = ns.map V.int ∧ ns.all dig = true := by
  induction xs with
  | nil => exact ⟨[], rfl, rfl⟩
  | cons x l ih =>
    rw [List.all_cons, Bool.and_eq_true] at h
    obtain ⟨ns, rfl, h2⟩ := ih h.2
    cases x with
    | int n => exact ⟨n :: ns, rfl, by rw [List.all_cons, h2, Bool.and_true]; exact h.1⟩
    | _ => exact absurd (show false = true from h.1) Bool.false_ne_true
/-- _different_digits of any value -/
def spDiffDig (K : PySem.W.Frag) (C : Addr) : Sp := fun vs H Q E => ∃ x : V, vs = [x] ∧ ((NoSeq H x ∧ Raised C "value" x H E) ∨ ∃ (p : Addr) (xs : List V), x = .ref p ∧ IsSeq K H p xs ∧ (∀ y ∈ xs, ItemOk H y) ∧ xs.length ≤ 60 ∧ (xs.all digV = false → Raised C "value" x H E) ∧
  ∀ ns : List Int, xs = ns.map V.int → ns.all dig = true → ∃ six : Bool, (∀ ks : List Int, ks.Nodup → (∀ k, k ∈ ks ↔ k ∈ ns) → (decide (1 ≤ ks.length) && decide (ks.length ≤ 6)) = six) ∧ (six = false → Raised C "value" x H E) ∧
    (six = true → ∀ (ds : List Int) (t : Addr) (H' : Hp), ds.Pairwise (· < ·) → (∀ k, k ∈ ds ↔ k ∈ ns) → Same H H' → H t = none → H' t = some (.tup (ds.map V.int)) → Q (.ref t) H'))
theorem scDd : FnScope ["digits"] ["digits"] (defScope sDiffDig) := ⟨rfl, rfl, rfl, by decide +kernel, rfl, by decide +kernel, by decide +kernel⟩
theorem ok_diffdig {f fL fI C : Addr} {fd fdL fdI : FuncData} {t6 : Tok} (F : Fun K "_different_digits" "_different_digits" sDiffDig f fd) (GL : FnOk P w K mg base CX0 5 fL fdL ["value"] (spDigList K)) (gL : mg "_is_digit_list" = some (.ref fL)) (kL : PySem.W.keepIn K (.ref fL) = true) (bL : Binds K fdL ["value"] [])
    (GI : FnOk P w K mg base CX0 3 fI fdI ["self", "value"] (spInit K "value" C)) (T : ErrC K mg "InvalidDigits" "value" C fI) (bI : Binds K fdI ["self", "value"] [])
    (g6 : mg "MOST_DIGITS" = some (.int 6 t6)) (ml : mg "len" = none) (ms : mg "set" = none) (mso : mg "sorted" = none) (mt : mg "tuple" = none) : FnOk P w K mg base (L2.CX P w) 6 f fd ["digits"] (spDiffDig K C) := by
  refine F.okX scDd (fun vs H Q E h => ?_) (fun cdv A outer s H vs Q E hr h => ?_)
  · obtain ⟨x, rfl, _⟩ := h
    rfl
  · obtain ⟨x, rfl, h⟩ := h
    have hr3 : Room 4 _ := hr.mono (by decide)
    apply Exists.intro
    apply And.intro
    · apply pss_cons
      · exact ps_if (PW.pt (pw_or (pt_not (pt_val (pe_call GL hr (by rfl) gL kL bL .nil pass0 (pa_cons (pv 0) pa_nil))))
            (pw_or1 (pt_not (pt_chain op_le op_le pe_int (pe_callB call_lenSetO (by rfl) ml PySem.boot_len (pa_cons (pe_callTy (cr_setI rfl) (by rfl) ms PyProof.Rows.boot_set (pa_cons (pv 0) pa_nil)) pa_nil)) (pe_glob (v := .int 6) (by rfl) g6 ⟨_, rfl⟩))))))
          (pss_one (ps_raise rfl (takes_of rfl rfl rfl rfl) (pmk_oex T.ox T.iC T.tI GI hr3 bI .nil pass0 (by rfl) T.g (pa_cons (pv 0) pa_nil)))) pss_nil
      apply pss_one
      · exact ps_ret (pe_callTy call_tuple_of (by rfl) mt (by decide +kernel) (pa_cons (pe_callB (cr_sortedSet rfl) (by rfl) mso (by decide +kernel) (pa_cons (pe_callTy (cr_setI rfl) (by rfl) ms PyProof.Rows.boot_set (pa_cons (pv 0) pa_nil)) pa_nil)) pa_nil))
    have raise : ∀ {H1 : Hp}, Raised C "value" x H E → Same H H1 → _ := fun {H1} hE s1 => raised_ok (K := K) (σ := start ["digits"] [x]) (D := { nx := fun _ H' => Q .non H', rt := Q }) hE s1
    rcases h with ⟨no, hE⟩ | ⟨p, xs, rfl, hp, it, hl, hE, hq⟩
    · exact ⟨x, rfl, x, rfl, .inl ⟨no, fun H1 s1 => ⟨false, rfl, iteT ⟨x, rfl, raise hE s1⟩⟩⟩⟩
    · refine ⟨.ref p, rfl, .ref p, rfl, .inr ⟨p, xs, rfl, hp, it, by omega, fun H1 s1 => ?_⟩⟩
      cases hd : xs.all digV with
      | false => exact ⟨false, rfl, iteT ⟨.ref p, rfl, raise (hE hd) s1⟩⟩
      | true =>
        obtain ⟨ns, rfl, hn⟩ := all_ints hd
        obtain ⟨six, h6, hE6, q⟩ := hq ns rfl hn
        rw [List.length_map] at hl
        refine ⟨true, rfl, iteF ?_⟩
        refine ⟨.ref p, rfl, p, ns, rfl, (hp.same s1).sq, hl, fun S1 ks hS1 nd mem => ?_⟩
        have h66 := h6 ks nd mem
        have s2 : Same H (upd H1 S1 (SetO w S1 (fun j => decide (j ∈ ns)) ks.length)) := s1.trans (same_new hS1)
        refine ⟨S1, _, ks.length, rfl, upd_same, 1, (ks.length : Int), rfl, rfl, _, rfl, ?_⟩
        have e1 : decide ((1 : Int) ≤ (ks.length : Int)) = decide (1 ≤ ks.length) := by
          rw [decide_eq_decide]
          omega
        have e6 : decide ((ks.length : Int) ≤ 6) = decide (ks.length ≤ 6) := by
          rw [decide_eq_decide]
          omega
        cases six with
        | false =>
          cases h1 : decide ((1 : Int) ≤ (ks.length : Int)) with
          | false => exact iteFB rfl ⟨_, rfl, iteTB rfl ⟨.ref p, rfl, raise (hE6 rfl) s2⟩⟩
          | true =>
            refine iteTB rfl ⟨(ks.length : Int), 6, rfl, rfl, _, rfl, ?_⟩
            rw [← e1, h1, Bool.true_and, ← e6] at h66
            exact iteTB (by rw [h66]; rfl) ⟨.ref p, rfl, raise (hE6 rfl) s2⟩
        | true =>
          rw [← e1, ← e6, Bool.and_eq_true] at h66
          refine iteTB h66.1 ⟨(ks.length : Int), 6, rfl, rfl, _, rfl, iteFB (by rw [h66.2]; rfl) ?_⟩
          refine ⟨.ref p, rfl, p, ns, rfl, (hp.same s2).sq, hl, fun S2 ks2 hS2 nd2 mem2 => ?_⟩
          have k66 := h6 ks2 nd2 mem2
          rw [Bool.and_eq_true, decide_eq_true_eq, decide_eq_true_eq] at k66
          refine ⟨S2, _, _, rfl, upd_same, by omega, fun ds D asc mds lds hD => ?_⟩
          have s3 : Same H (upd (upd (upd H1 S1 (SetO w S1 (fun j => decide (j ∈ ns)) ks.length)) S2 (SetO w S2 (fun j => decide (j ∈ ns)) ks2.length)) D (.lst (ds.map V.int))) := s2.trans ((same_new hS2).trans (same_new hD))
          refine ⟨D, _, rfl, .inl ⟨SqL.of upd_same, fun t ht => ?_⟩⟩
          exact q rfl ds t _ asc (fun k => (mds k).trans ⟨fun z => of_decide_eq_true z, fun z => decide_eq_true z⟩) (Same.store s3 (s3.free ht)) (s3.free ht) upd_same
end
end K19
set_option maxHeartbeats 4000000
/-! set(xs) of a tuple of tuples of ints. -/
namespace OF
open PySem PySem.Spec PyProof.Rows L2
section
variable {P : Program} {w : World} {A : Around} {E : Value → Shared → Prop}
theorem set_of_tuple2 {h : Heap} {g : Array GenState} {d : Drawn} {t : Nat} {os : OsState} {l : Addr} {xs : Array Value} (ks : List (Addr × List Int)) {Q : Value → Shared → Prop} (calm : A.handled = none) (tpl : h.IsTuple l xs)
    (refs : xs.toList = ks.map fun p => Value.ref p.1) (each : ∀ p ∈ ks, IsT P w h p.2 p.1) (few : ks.length < 64) (room : A.units + 3 < cLine)
    (fin : ∀ (h' : Heap) (tk : Nat) L es ep t', SetTR P w h' h.objs.size L es ep t' → Got ks ks.length L → (∀ b o, h.get? b = some o → h'.get? b = some o) → Q (.ref h.objs.size) ⟨h', g, d, tk, os⟩) :
    wpAny (model P w) A (call (.type "set") [.ref l]) Q E ⟨h, g, d, t, os⟩ := by
  have size : xs.size = ks.length := by
    rw [← Array.length_toList, refs, List.length_map]
  obtain ⟨c, tl, hmro⟩ := F.called_set.mro
  have f1 := F.called_set.made
  have f2 := F.called_set.sub
  have f3 := F.called_set.notType
  have f4 := F.called_set.canCreate
  have f5 := F.typeCall_set_1 (.ref l)
  apply wpAny_call
  apply codeAny_of_tree
  show wpAny _ _ (callAny (.type "set") _) _ _ _
  apply wpAny_pure
  refine ⟨Code.quiet_builtin _ (by decide +kernel), codeAny_builtin F.entry_type_call ?_⟩
  rw [Around.under_plain (weight_type_call_type "set" [.ref l] []) rfl]
  repeat any_goals first
    | assumption
    | wp_step
  refine codeAny_mono (code_set_led1 (s := ⟨h, g, d, t, os⟩) (.ref l) (E := E) (Q₁ := fun v s1 => v = .ref h.objs.size ∧ s1 = ⟨h.push (setObj0 w), g, d, t, os⟩) ⟨rfl, rfl⟩) ?_
  intro r s1 z
  cases r with
  | error e => exact z
  | ok fl =>
    cases fl with
    | next => exact z.elim
    | brk => exact z.elim
    | cont => exact z.elim
    | ret v =>
      obtain ⟨ev, es⟩ := z
      subst ev es
      have there : (h.push (setObj0 w)).get? h.objs.size = some (setObj0 w) := Heap.get?_push_size _ rfl
      have isSet : Shared.TypeIs ⟨h.push (setObj0 w), g, d, t, os⟩ (.ref h.objs.size) "set" := ⟨_, there, rfl⟩
      have i1 := F.called_set.init.lookup
      have i2 := F.called_set.init.bind (.ref h.objs.size)
      repeat any_goals first
        | assumption
        | wp_step
      refine codeAny_mono (codeAny_call_builtin (R := wants (fun r s2 => r = .none ∧ ∃ h' tk L es ep t', s2 = ⟨h', g, d, tk, os⟩ ∧ SetTR P w h' h.objs.size L es ep t' ∧ Got ks ks.length L ∧ (∀ b o, h.get? b = some o → h'.get? b = some o)) E)
        F.called_set.init.plain F.entry_set_init (check_set_init_1 isSet ?inner)) ?outer
      case outer =>
        intro r2 s2 z2
        cases r2 with
        | error e => exact z2
        | ok fl2 =>
          cases fl2 with
          | next => exact z2.elim
          | brk => exact z2.elim
          | cont => exact z2.elim
          | ret v2 =>
            obtain ⟨ev, h', tk, L, es, ep, t', e2, hS, hc, hk⟩ := z2
            subst ev e2
            repeat any_goals first
              | assumption
              | wp_step
            exact fin _ _ _ _ _ _ hS hc hk
      case inner =>
        obtain ⟨o1, ho1, hc1, m1, hd1⟩ := tpl
        obtain ⟨k1, k2, k3, k4⟩ := o1
        simp only at hc1 hd1
        subst hc1 hd1
        have there2 : (h.push (setObj0 w)).get? l = some { cls := .type "tuple", dict := k2, data := .seq xs m1, slots := k4 } := Heap.get?_push_of_some _ ho1
        have s1 := F.sub_tuple_set
        have s2 := F.sub_tuple_frozenset
        have apart : (Value.type "tuple" == Value.type "dict") = false := by decide
        have tpl1 : (h.push (setObj0 w)).IsTuple l xs := ⟨_, there2, rfl, m1, rfl⟩
        unfold Builtin.«set.__init__» noKeywords Builtin.Frozenset.updateFrom
        generalize same : pyIter = PI
        wp_walk
        subst same
        apply wpAny_pyIter_tuple tpl1
        apply wpAny_bind
        apply wpAny_runValue
        have below : l < h.objs.size := Heap.lt_size ho1
        have calm3 : A.in1.in1.in1.handled = none := by simp [calm]
        have sz : (h.push (setObj0 w)).objs.size = h.objs.size + 1 := Heap.size_push ..
        have ne1 : l ≠ (h.push (setObj0 w)).objs.size := by
          rw [sz]
          exact Nat.ne_of_lt (Nat.lt_succ_of_lt below)
        have ne2 : h.objs.size ∉ [(h.push (setObj0 w)).objs.size, l] := by
          rw [sz]
          simp only [List.mem_cons, List.not_mem_nil, or_false, not_or]
          exact ⟨Nat.ne_of_lt (Nat.lt_succ_self _), Nat.ne_of_gt below⟩
        have vals : ∀ (i : Nat) (v : Value), xs[i]? = some v → ∃ p, ks[i]? = some p ∧ v = .ref p.1 := by
          intro i v hv
          have e : xs.toList[i]? = some v := by
            rw [Array.getElem?_toList]
            exact hv
          rw [refs, List.getElem?_map] at e
          obtain ⟨p, hp, rfl⟩ := Option.map_eq_some_iff.mp e
          exact ⟨p, hp, rfl⟩
        have nothing : ∀ b, h.objs.size ≤ b → h.get? b = none := by
          intro b hb
          rcases Option.eq_none_or_eq_some (h.get? b) with z | ⟨o, z⟩
          · exact z
          · exact absurd (Nat.lt_of_lt_of_le (Heap.lt_size z) hb) (Nat.lt_irrefl _)
        refine set_update_tups ((Walks.tuple calm3 _ l ne1 xs).toS) h.objs.size ne2 ks size few vals h each (nothing _ (Nat.le_refl _)) (fun b hb => ?_) room (xs.size - 0) 0 _ (by omega) (Nat.zero_le _) ⟨⟨_, Heap.get?_push_size _ rfl, rfl, rfl⟩, (tpl1.push _)⟩ (fun b o e => Heap.get?_push_of_some _ (Heap.get?_push_of_some _ e)) ?start ?stop
        · rw [List.mem_singleton.mp hb, sz]
          exact nothing _ (Nat.le_succ _)
        case start =>
          have got : ((h.push (setObj0 w)).push { cls := .type "tuple_iterator", data := .fields #[.ref l, .int 0 0] }).get? h.objs.size = some (setObj0 w) := Heap.get?_push_of_some _ there
          exact ⟨[], #[], 0, _, setTR_fresh got, Got.zero ks⟩
        case stop =>
          intro s' L es ep t' hm hS hc hk
          obtain ⟨h', g2, d2, tk, os2⟩ := s'
          have eg : g2 = g := hm.gens
          have ed : d2 = d := hm.drawn
          have eo : os2 = os := hm.os
          subst eg ed eo
          show wpAny _ _ _ _ _ _
          apply wpAny_pure
          show wpAny _ _ (ret Value.none) _ _ _
          rw [size] at hc
          exact wpAny_pure ⟨rfl, h', tk, L, es, ep, t', rfl, hS, hc, hk⟩
end
section
variable {X : Cx}
/-- set(xs): xs a list or a tuple of tuples of ints -/
def rSetOfA (K : PySem.W.Frag) (P : Program) (w : World) : List V → Hp → VK → Prop := fun xs H Q => ∃ (l : Addr) (ks : List (Addr × List Int)), xs = [V.ref l] ∧ (SqL K H l (ks.map fun p => V.ref p.1) ∨ SqT K H l (ks.map fun p => V.ref p.1)) ∧ (∀ p ∈ ks, SqT K H p.1 (p.2.map V.int)) ∧ ks.length < 64 ∧
  ∀ a L, H a = none → (∀ p ∈ L, p ∈ ks) → (∀ p ∈ ks, p.2 ∈ L.map (·.2)) → Q (.ref a) (upd H a (SetTO P w a L))
theorem refs_vals : ∀ {ks : List (Addr × List Int)} {us : List Value}, Vals (ks.map fun p => V.ref p.1) us → us = ks.map fun p => Value.ref p.1
  | [], _, .nil => rfl
  | p :: ks, _, .cons r t => by
    cases r
    rw [refs_vals t, List.map_cons]
theorem cr_setOfA (hc : X.calm = true) (hu : X.A.units + 64 < cLine) : CallR X (.type "set") (rSetOfA X.K X.prog X.w) := by
  intro pins s σ H xs us Q I r h
  obtain ⟨l, ks, rfl, hl, hk, few, q⟩ := h
  rcases hl with hl | hl
  · exact cr_setOfT hc hu pins s σ H _ us Q I r ⟨l, ks, rfl, hl, hk, few, q⟩
  · obtain ⟨u, rfl, ru⟩ := vals1 r
    cases ru
    have hn : H s.heap.objs.size = none := I.hok.fresh (Nat.le_refl _)
    obtain ⟨its, rv, pl, _⟩ := I.tuple hl
    have each : ∀ p ∈ ks, IsT X.prog X.w s.heap p.2 p.1 := fun p hp => I.isT (hk p hp)
    have hd := I.ok.hd hc
    have rv2 := refs_vals rv
    obtain ⟨hp, g, d, t, os⟩ := s
    refine set_of_tuple2 ks hd pl (by simpa using rv2) each few (by omega) fun h' tk L es ep t' R gt k => ?_
    refine ⟨.ref hp.objs.size, upd H hp.objs.size (SetTO X.prog X.w hp.objs.size L), I.laid (t' := tk) k (Nat.le_refl _) (setTO_new R.t0), rfl, q _ L hn (fun p hp => ?_) fun p hp => ?_⟩
    · exact List.mem_of_mem_take (gt.sub p hp)
    · exact gt.all p (by rw [List.take_length]; exact hp)
end
end OF
/-! o.m(k = v, ..) by names alone; o.m(e) within a try, m may raise. -/
namespace OF
open PySem PySem.Spec PyProof.Rows L2
section
variable {X : Cx} {CX : CXT} {k n : Nat} {f C : Addr} {fd : FuncData} {ps ks : List Str} {sp : Sp} {E : XK} {m : Str} {p apos pos : Pos} {o e : Expr} {es : List Expr} {kws : List Keyword} {ta : TE} {t tk : TA} {g : List Value → List Value → List Value} {gV : List V → List V → List V}
def tMethN (C : Addr) (m : Str) (j : Nat) (sp : Sp) (gV : List V → List V → List V) (E : XK) (ta : TE) (tk : TA) : TE := fun σ H Q => ta σ H fun x H1 => ∃ a dx fs, x = .ref a ∧ H1 a = some (.ins C dx fs) ∧ fs.lookup m = none ∧
  tk σ H1 fun zs H2 => zs.length = j ∧ sp (gV [x] zs) H2 Q E
theorem pe_methN0 {pl : Sem Bool} (he : PE X o ta) (c : Cls X.K C) (hm : Meth X.K C m f) (F : FnOk X.prog X.w X.K X.mg X.base CX k f fd ps sp) (hr : Room k X.A) (hb : KBn X.K fd ps 1 ks g gV) (hx : Passes CX X E) (hkw : PK X kws tk)
    (hall : (backToKw pos (keywordEach kws X.env)).all (·.1.isSome) = true := by rfl) (hks : (backToKw pos (keywordEach kws X.env)).filterMap (·.1) = ks := by rfl)
    (hpl : ((backTo pos (starEach [] X.env)).any (·.1) || (backToKw pos (keywordEach kws X.env)).any (·.1.isNone)) = false := by rfl)
    (ht : eval (.Call (.Attribute o m apos) [] kws pos) X.env = (do
      let ov ← eval o X.env
      standAt apos.atName
      let (f, first) ← holding [ov] (getMethod ov m pl)
      callWith pos f first (backTo pos (starEach [] X.env)) (backToKw pos (keywordEach kws X.env))) := by rfl) :
    PE X (.Call (.Attribute o m apos) [] kws pos) (tMethN C m ks.length sp gV E ta tk) := by
  refine ⟨fun pins s σ H Q I h => ?_⟩
  refine PySem.W.methodCall_KW (pl := pl) (thn (he.run pins s σ H _ I h) fun u s1 ⟨x, H1, I1, rx, a, dx, fs, ex, ea, l, q⟩ => ?_) ht
  subst ex
  obtain rfl : u = Value.ref a := rx
  refine getmeth_ok I1 ea c hm l ?_
  refine PySem.W.callWith_KW0 (first := [.ref a]) (h₀ := X.base) I.ok.mod.kin hm.kp hall (thn (hkw.run pos pins s1 σ H1 _ I1 q) fun ws s2 ⟨zs, H2, I2, rz, l2, q2⟩ => ⟨I2.kIn, ?_⟩) hpl
  rw [hks]
  exact run_fnN (us := [.ref a]) (vs := [.ref a]) F hr hb hx I2 (.cons rfl .nil) rz rfl l2 q2
def tMethS (C : Addr) (m : Str) (sp : Sp) (E : L2.St → XK) (ta : TE) (t : TA) : TE := fun σ H Q => ta σ H fun x H1 => ∃ a dx fs, x = .ref a ∧ H1 a = some (.ins C dx fs) ∧ fs.lookup m = none ∧
  t σ H1 fun vs H2 => sp (x :: vs) H2 Q (E σ)
theorem pe_methSX {pl : Sem Bool} {E : L2.St → XK} (he : PE X o ta) (c : Cls X.K C) (hm : Meth X.K C m f) (F : FnOk X.prog X.w X.K X.mg X.base CX k f fd ps sp) (hr : Room k X.A) (hb : Binds X.K fd ps []) (hx : ∀ σ, PassesAt CX X σ (E σ)) (ha : PA X (e :: es) t)
    (hst : starEach (e :: es) X.env = (false, eval e X.env) :: starEach es X.env := by rfl) (hpl : (backTo pos (starEach es X.env)).any (·.1) = false := by rfl)
    (ht : eval (.Call (.Attribute o m apos) (e :: es) [] pos) X.env = (do
      let ov ← eval o X.env
      standAt apos.atName
      let (f, first) ← holding [ov] (getMethod ov m pl)
      callWith pos f first (backTo pos (starEach (e :: es) X.env)) (backToKw pos (keywordEach [] X.env))) := by rfl) :
    PE X (.Call (.Attribute o m apos) (e :: es) [] pos) (tMethS C m sp E ta t) := by
  refine ⟨fun pins s σ H Q I h => ?_⟩
  refine PySem.W.methodCall_KW (pl := pl) (thn (he.run pins s σ H _ I h) fun u s1 ⟨x, H1, I1, rx, a, dx, fs, ex, ea, l, q⟩ => ?_) ht
  subst ex
  obtain rfl : u = Value.ref a := rx
  refine getmeth_ok I1 ea c hm l ?_
  refine PySem.W.callWith_K (first := [.ref a]) (h₀ := X.base) I.ok.mod.kin hm.kp (thn (ha.run pos pins s1 σ H1 _ I1 q) fun us s2 ⟨vs, H2, I2, r, q2⟩ => ⟨I2.kIn, ?_⟩) hst hpl
  exact run_fnS (us := .ref a :: us) (vs := .ref a :: vs) F hr hb (hx σ) I2 (.cons rfl r) q2
end
end OF
/-! try: .. with several clauses «except X as n». -/
namespace OF
open PySem PySem.Spec PyProof.Rows L2
/-- behind a clause its name (slot i) is gone -/
def dropE (i : Nat) (D : Ends) : Ends := ⟨fun τ J => D.nx (τ.set i none) J, D.rt, fun τ J => D.bk (τ.set i none) J, fun τ J => D.ct (τ.set i none) J⟩
/-- the clauses: class, the name's slot, the suite's reading -/
abbrev Clauses := List (Value × Nat × (Addr → Value → Option Addr → TS))
def wManyA (K : PySem.W.Frag) (Wout : WX) (D : Ends) : Clauses → WX
  | [] => Wout
  | t :: rest => fun kl d τ J => ∃ b, PySem.W.exmOne K kl t.1 = some b ∧ (b = true → ∀ q, J q = none → t.2.2 q kl d (dropE t.2.1 D) (τ.set t.2.1 (some (.ref q))) J) ∧ (b = false → wManyA K Wout D rest kl d τ J)
inductive HdA (X : Cx) : List ExceptHandler → Clauses → Prop
  | nil : HdA X [] []
  | cons {x m : Str} {c : Value} {i : Nat} {ts : Addr → Value → Option Addr → TS} {first : Stmt} {suite : List Stmt} {p1 p2 : Pos} {more : List ExceptHandler} {l : Clauses} (named : Names X x c) (slot : X.N[i]? = some m) (own : X.env.kindOf m = some .local)
      (run : ∀ (q : Addr) (oe : Obj) (kl : Value) (d : Option Addr) (pn : List (Addr × Obj)), Zc kl d oe → (∃ vs, oe.data = .fields vs) → PSs (X.suite q ((q, oe) :: pn)) (first :: suite) (ts q kl d)) (rest : HdA X more l) :
      HdA X (.ExceptHandler (some (.Name x p1)) (some m) (first :: suite) p2 :: more) ((c, i, ts) :: l)
section
variable {X : Cx} {body : List Stmt} {h0 : ExceptHandler} {more : List ExceptHandler} {l : Clauses} {pos : Pos} {tb : WX → TS} {Wout : WX}
theorem not_frame {a : Addr} {B : Heap} {L : List Env} {h : Heap} {o : Obj} {vs : Array Value} (ff : h.FunFrames B L) (e : h.get? a = some o) (dd : o.data = .fields vs) : a ∉ frs L := by
  intro hm
  obtain ⟨_, o2, e2, no⟩ := ff.mem hm
  rw [e] at e2
  cases e2
  exact no _ dd
theorem ps_try_manyA (hs : X.stack = X.env :: X.outer) (hf : X.env.frame = some X.env.locals) (nd : X.N.Nodup) (tk : Takes X Wout)
    (hb : ∀ (W : WX) (pn : List (Addr × Obj)) (xe : Value → Shared → Prop), Takes (X.tr pn xe) W → PassesOwn (model X.prog X.w) X.A X.env xe → PSs (X.tr pn xe) body (tb W))
    (hh : HdA X (h0 :: more) l) : PS X (.Try body (h0 :: more) [] [] pos) (fun D τ J => tb (wManyA X.K Wout D l) D τ J) := by
  constructor
  intro pins s τ J D I reading
  have fine := I.ok
  have frames : X.A.frames = some (X.env :: X.outer) := fine.frames.trans (by rw [hs])
  refine wpAny_Try_except ?_
  refine wpAny_mono ((hb (wManyA X.K Wout D l) (X.pn ++ pins) (fun e t1 => wpAny (model X.prog X.w) X.A (noteFrame e X.env)
      (fun _ t2 => wpAny (model X.prog X.w) X.A (setFlight e none) (fun _ t3 => wpAny (model X.prog X.w) X.A (handleBy e X.env (h0 :: more)) (SP X pins D) X.xe t3) X.xe t2) X.xe t1) ?caught PassesOwn.looking).run [] s τ J D (I.toTry _) reading) ?through fun _ _ z => z
  case through =>
    intro fl t1 w
    cases fl with
    | next =>
      obtain ⟨τ1, J1, I1, z⟩ := w
      exact wpAny_execs_nil ⟨τ1, J1, I1.ofTry fine, z⟩
    | brk => exact let ⟨τ1, J1, I1, z⟩ := w; ⟨τ1, J1, I1.ofTry fine, z⟩
    | cont => exact let ⟨τ1, J1, I1, z⟩ := w; ⟨τ1, J1, I1.ofTry fine, z⟩
    | ret u => exact let ⟨v, τ1, J1, I1, r, z⟩ := w; ⟨v, τ1, J1, I1.ofTry fine, r, z⟩
  case caught =>
    intro u t1 raised
    obtain ⟨a, B, sI, pins2, τ1, J1, kl, d, rfl, I0, nb, up, sky, na, os, ag, wish⟩ := raised
    have I1 : Inv X pins τ1 J1 sI := I0.ofTry fine
    have sky1 : Sky B (X.env :: X.outer) a (Zc kl d) X.env.locals t1.heap := hs ▸ sky
    show wpAny (model X.prog X.w) X.A (noteFrame (.ref a) X.env) _ _ _
    refine Sky.land Zc.steady frames hf sky1 fun g fl up2 => ?_
    have I2 : Inv X pins τ1 J1 { t1 with heap := g } := I1.landed nb fl.1 (up.trans up2) os ag
    obtain ⟨oe, vs, at_e, ze, fe⟩ := fl.there
    have nf := not_frame fl.2.2.1 at_e fe
    have aL : a ≠ X.env.locals := fun z => nf (List.mem_filterMap.mpr ⟨X.env, List.mem_cons_self, hf.trans (congrArg some z.symm)⟩)
    have aF : a ∉ X.fs := fun hm => by
      obtain ⟨en, hen, q⟩ := List.mem_filterMap.mp hm
      exact nf (List.mem_filterMap.mpr ⟨en, List.mem_cons_of_mem _ hen, q⟩)
    have inSuite := I2.suite at_e fe na aL aF
    suffices go : ∀ {hds : List ExceptHandler} {cl : Clauses}, HdA X hds cl → wManyA X.K Wout D cl kl d τ1 J1 → wpAny (model X.prog X.w) X.A (handleBy (.ref a) X.env hds) (SP X pins D) X.xe { t1 with heap := g } from go hh wish
    intro hds cl hk
    induction hk with
    | nil =>
      intro out
      refine wpAny_handleBy_nil ?_
      obtain ⟨_, _, _, o1, _, T, _, _, at1, _, f1, i1, _⟩ := id fl
      unfold PySem.passOn
      refine wpAny_bind (wpAny_field at1 f1 i1 ?_)
      rw [if_neg (fun z => by simp at z)]
      have last : wpAny (model X.prog X.w) X.A (setFlight (.ref a) X.env.frame) (fun _ t4 => wpAny (model X.prog X.w) X.A (throw (.ref a) : Sem Flow) (SP X pins D) X.xe t4) X.xe { t1 with heap := g } := by
        rw [hf]
        refine HandSPX.setFlight_upZ fl fun g2 hg2 up3 => wpAny_throw (tk _ _ ⟨a, B, sI, pins, τ1, J1, kl, d, rfl, I1, nb, (up.trans up2).trans up3, .inr (.inr ?_), na, os, ag, out⟩)
        rw [hs]
        exact hg2
      first
        | exact wpAny_bind (wpAny_pure (wpAny_bind last))
        | exact wpAny_bind last
    | @cons x m c i ts first suite p1 p2 more2 l2 named slot own run _ ih =>
      intro w
      obtain ⟨b, asked, yes, no⟩ := w
      refine wpAny_handleBy_cons (codeAny_handlers_test ?_) (fun z => nomatch z)
      have isT : PySem.W.Looks (model X.prog X.w) g (typeOf (.ref a)) kl := fun _ _ _ t4 k z => wpAny_typeOf_ref (k _ _ at_e) (by rw [ze.1]; exact z)
      have isM := PySem.W.exm_one (M := model X.prog X.w) (I2.kIn) isT asked
      have name : ∀ {R E : Value → Shared → Prop}, R c { t1 with heap := g } → wpAny (model X.prog X.w) (X.A.mark (some (.ref a))) (eval (.Name x p1) X.env) R E { t1 with heap := g } := by
        intro R E z
        obtain ⟨gl, nodbg, mine | ⟨free, boot, nn⟩⟩ := named
        · exact ld_glob (X := X.suite a ((a, oe) :: (X.pn ++ pins))) inSuite gl mine z nodbg
        · exact ld_blt (X := X.suite a ((a, oe) :: (X.pn ++ pins))) inSuite gl free boot z nn nodbg
      refine name (isM.here ?_)
      cases b with
      | false =>
        show wpAny _ X.A (handleBy (.ref a) X.env more2) _ _ _
        exact ih (no rfl)
      | true =>
        refine codeAny_handlers_suite_as (HandSPX.lands_againZ fl fun g2 fl2 up3 => ?_)
        have I3 : Inv X pins τ1 J1 { t1 with heap := g2 } := I1.landed nb fl2.1 ((up.trans up2).trans up3) os ag
        obtain ⟨oe2, vs2, at2, ze2, fe2⟩ := fl2.there
        have S := I3.suite at2 fe2 na aL aF
        refine store_ok (X := X.suite a ((a, oe2) :: (X.pn ++ pins))) (v := .ref a) S nd slot (.inl own) rfl (fun t5 S5 => ?_) (.inr own)
        refine wpAny_mono ((run a oe2 kl d (X.pn ++ pins) ze2 ⟨_, fe2⟩).run [] t5 _ J1 _ S5 (yes rfl a na)) ?_ fun _ _ z => z.elim
        intro fl6 t6 w6
        have gone : ∀ {τ6 : L2.St} {J6 : Hp} {R : Shared → Prop}, Inv (X.suite a ((a, oe2) :: (X.pn ++ pins))) [] τ6 J6 t6 → (∀ t7, Inv X pins (τ6.set i none) J6 t7 → R t7) →
            wpAny (model X.prog X.w) X.A (do bindName X.env m .none; unbindBehindTheSuite X.env m p2) (fun _ t7 => R t7) X.xe t6 := fun S6 z => gone_ok (S6.unsuite fine) nd slot own z
        cases fl6 with
        | next => exact let ⟨τ6, J6, S6, z⟩ := w6; gone S6 fun _ I7 => ⟨_, _, I7, z⟩
        | brk => exact let ⟨τ6, J6, S6, z⟩ := w6; gone S6 fun _ I7 => ⟨_, _, I7, z⟩
        | cont => exact let ⟨τ6, J6, S6, z⟩ := w6; gone S6 fun _ I7 => ⟨_, _, I7, z⟩
        | ret u => exact let ⟨v6, τ6, J6, S6, r6, z⟩ := w6; gone S6 fun _ I7 => ⟨_, _, _, I7, r6, z⟩
end
end OF
/-! repr of any data without dicts; a value equal to itself; what an except clause does not take. -/
namespace OF
open PySem PySem.Spec PyProof.Rows L2
/-- repr of data -/
def rReprD (K : PySem.W.Frag) : List V → Hp → VK → Prop := fun xs H Q => ∃ (v : V) (d : PyData), xs = [v] ∧ Dp K H v d ∧ d.showable = true ∧ d.hasDict = false ∧ d.shown.length ≤ sizeLine ∧ d.depth ≤ 40 ∧ Q (.str d.shown) H
theorem call_reprD {X : Cx} (gu : X.A.guards = some []) (hu : X.A.units + 64 < cLine) : CallR X (.builtin "repr") (rReprD X.K) := by
  intro pins s σ H xs us Q I r h
  obtain ⟨v, d, rfl, hd, sh, nd, len, dep, q⟩ := h
  obtain ⟨u, rfl, ru⟩ := vals1 r
  have big : ∀ {p : Addr}, v = .ref p → wpAny (model X.prog X.w) X.A (call (.builtin "repr") [u]) (EP X pins σ Q) X.xe s := fun {p} e => by
    subst e
    cases ru
    obtain ⟨as, rd⟩ := Dp.reads I d _ _ hd rfl
    exact PySem.repr_of_reads' rd sh (fun z => by rw [nd] at z; cases z) gu (by omega) (fun _ _ z => z) (fun h' t tk kp => ⟨.str _, H, I.kept kp, ⟨_, rfl⟩, q⟩) len
  cases hd with
  | non =>
    cases ru
    exact PySem.P.repr_of_none ⟨.str _, H, I.tok _, ⟨_, rfl⟩, q⟩
  | bl b =>
    cases ru
    exact PySem.P.repr_of_bool ⟨.str _, H, I.tok _, ⟨_, rfl⟩, by cases b <;> exact q⟩
  | int i =>
    obtain ⟨t, rfl⟩ := ru
    exact PySem.P.repr_of_int (of_decide_eq_true sh) ⟨.str _, H, I.tok _, ⟨_, rfl⟩, q⟩
  | str z =>
    obtain ⟨t, rfl⟩ := ru
    exact PySem.P.repr_of_str ⟨.str _, H, I.tok _, ⟨_, rfl⟩, q⟩ len
  | lst h1 h2 => exact big rfl
  | tup h1 h2 => exact big rfl
/-- a value is equal to itself -/
def rEqSelf (K : PySem.W.Frag) : R2 := fun x y H Q => x = y ∧ ((∃ d, Dp K H x d ∧ SeqAt.shaped d = true) ∨ ∃ p, x = .ref p ∧ H p = some (.dK [])) ∧ Q (.bl true) H
theorem op_eqSelf {X : Cx} (hu : X.A.units + 64 < cLine) : OpR X (compareOp .Eq) (rEqSelf X.K) := by
  intro pins s σ H x y v u Q I rx ry h
  obtain ⟨rfl, h, q⟩ := h
  rcases h with ⟨d, hd, sh⟩ | ⟨p, rfl, hp⟩
  · refine op_eqD hu pins s σ H x x v u Q I rx ry ⟨d, d, hd, hd, sh, sh, ?_⟩
    rw [SeqAt.eqv_refl d (SeqAt.canLay_of_shaped sh)]
    exact q
  · exact op_eq_dictA (by omega) pins s σ H _ _ v u Q I rx ry ⟨p, p, [], [], rfl, rfl, hp, hp, rfl, (fun z hz => by cases hz), q⟩
/-- an error of another class -/
theorem exm_other {K : PySem.W.Frag} {S D : Addr} (h1 : PySem.W.subIn K (.ref D) (.type "BaseException") = some true) (h2 : PySem.W.isClsIn K D = true) (h3 : PySem.W.typeIn K (.ref D) = some (.type "type")) (h4 : PySem.W.subIn K (.ref S) (.ref D) = some false) (ne : S ≠ D) :
    PySem.W.exmOne K (.ref S) (.ref D) = some false := by
  have h2' : (PySem.W.clsIn K D).isSome = true := h2
  unfold PySem.W.exmOne
  simp only [h1, beq_self_eq_true, if_true]
  unfold PySem.W.kitCls
  simp only [h3, h4, h2', beq_self_eq_true, Bool.and_self, if_true]
end OF
namespace K19
open PySem PySem.Spec PyProof.Rows L2 OF
section
variable {P : Program} {w : World} {K : PySem.W.Frag} {mg : Str → Option Value} {base : Heap}
def spOneOf (K : PySem.W.Frag) : Sp := fun vs H Q _ => ∃ (t : Addr) (ds : List Int) (x : V), vs = [.ref t, x] ∧ SqT K H t (ds.map V.int) ∧ ((∃ n : Int, x = .int n ∧ Q (.bl (dig n && decide (n ∈ ds))) H) ∨ (Odd H x ∧ Q (.bl false) H))
theorem in_ints (n : Int) : ∀ ds : List Int, inV (.int n) (ds.map V.int) = decide (n ∈ ds)
  | [] => by
    show false = _
    rw [decide_eq_false (List.not_mem_nil)]
  | d :: ds => by
    show ((d == n) || inV (.int n) (ds.map V.int)) = _
    rw [in_ints n ds, Bool.eq_iff_iff]
    simp only [Bool.or_eq_true, beq_iff_eq, decide_eq_true_eq, List.mem_cons]
    constructor
    · rintro (h | h)
      · exact .inl h.symm
      · exact .inr h
    · rintro (h | h)
      · exact .inl h.symm
      · exact .inr h
theorem flat_ints : ∀ ds : List Int, (ds.map V.int).all flatV = true
  | [] => rfl
  | _ :: ds => flat_ints ds
theorem scOn : FnScope ["digits", "value"] ["digits", "value"] (defScope sOneOf) := ⟨rfl, rfl, rfl, by decide +kernel, rfl, by decide +kernel, by decide +kernel⟩
theorem ok_oneof {f fD : Addr} {fd fdD : FuncData} (F : Fun K "_is_one_of" "_is_one_of" sOneOf f fd) (GD : FnOk P w K mg base CX0 3 fD fdD ["value"] spIsDigit) (gD : mg "is_digit" = some (.ref fD)) (kD : PySem.W.keepIn K (.ref fD) = true) (bD : Binds K fdD ["value"] []) :
    FnOk P w K mg base CX0 4 f fd ["digits", "value"] (spOneOf K) := by
  refine F.ok scOn (fun vs H Q E h => ?_) (fun cdv A outer s H vs Q E hr h => ?_)
  · obtain ⟨t, ds, x, rfl, _⟩ := h
    rfl
  · obtain ⟨t, ds, x, rfl, ht, h⟩ := h
    refine ⟨_, pss_one (ps_ret (pe_and (pe_call GD hr (by rfl) gD kD bD .nil pass0 (pa_cons (pv 1) pa_nil)) (pe_one (pe_cmpR op_in_seq (pv 1) (pv 0) rfl)))), ?_⟩
    rcases h with ⟨n, rfl, q⟩ | ⟨o, q⟩
    · refine ⟨.int n, rfl, .int n, rfl, .inl ⟨n, rfl, _, rfl, iteAnd (fun z => ?_) q⟩⟩
      refine ⟨.int n, rfl, .ref t, rfl, t, _, rfl, .inr ht, rfl, flat_ints ds, ?_⟩
      have z2 := z
      rw [← in_ints n ds] at z2
      exact z2
    · exact ⟨x, rfl, x, rfl, .inr ⟨o, _, rfl, iteF q⟩⟩
theorem passNo {X : Cx} {P' : Program} {w' : World} : Passes (L2.CX P' w') X E0 := fun _ _ _ _ _ _ _ h => by
  obtain ⟨_, _, _, _, _, _, _, _, _, _, _, _, z⟩ := h
  exact z.elim

def isOne (ds : List Int) (n : Int) : Bool := dig n && decide (n ∈ ds)
def oneV (ds : List Int) : V → Bool
  | .int n => isOne ds n
  | _ => false
theorem oneV_odd {H : Hp} {ds : List Int} {x : V} (o : Odd H x) : oneV ds x = false := by cases o <;> rfl
/-- no tuple -/
inductive NoTup (H : Hp) : V → Prop
  | no {x : V} (h : NoSeq H x) : NoTup H x
  | lst {a : Addr} {xs : List V} (e : H a = some (.lst xs)) : NoTup H (.ref a)
theorem NoTup.same {H H' : Hp} {x : V} (h : NoTup H x) (s : Same H H') : NoTup H' x := by
  cases h with
  | no h => exact .no (h.same s)
  | lst e => exact .lst (s _ _ e)
theorem NoTup.kit {K : PySem.W.Frag} {H : Hp} {x : V} (h : NoTup H x) : ∃ t, TyX K H x t ∧ PySem.W.kitOne K t (.type "tuple") = some false := by
  cases h with
  | lst e => exact ⟨_, .base (.lst e), kit_ty (by decide +kernel)⟩
  | no h =>
    cases h with
    | int n => exact ⟨_, .base (.int n), kit_ty (by decide +kernel)⟩
    | non => exact ⟨_, .base .non, kit_ty (by decide +kernel)⟩
    | bl b => exact ⟨_, .base (.bl b), kit_ty (by decide +kernel)⟩
    | str z => exact ⟨_, .base (.str z), kit_ty (by decide +kernel)⟩
    | dK e => exact ⟨_, .base (.dK e), kit_ty (by decide +kernel)⟩
def pairB (ds : List Int) (xs : List V) : Bool := decide (xs.length = 2) && xs.all (oneV ds)
/-- _is_pair of any value -/
def spIsPair (K : PySem.W.Frag) : Sp := fun vs H Q _ => ∃ (t : Addr) (ds : List Int) (x : V), vs = [.ref t, x] ∧ SqT K H t (ds.map V.int) ∧ ((NoTup H x ∧ Q (.bl false) H) ∨ ∃ (p : Addr) (xs : List V), x = .ref p ∧ H p = some (.tup xs) ∧ xs.length ≤ 1000 ∧ (∀ y ∈ xs, ItemOk H y) ∧ ∀ H', Same H H' → Q (.bl (pairB ds xs)) H')
abbrev nIp : List Str := ["digits", "value", "item"]
theorem scIp : FnScope nIp ["digits", "value"] (defScope sIsPair) := ⟨rfl, rfl, rfl, by decide +kernel, rfl, by decide +kernel, by decide +kernel⟩
theorem ok_ispair {f fO : Addr} {fd fdO : FuncData} (F : Fun K "_is_pair" "_is_pair" sIsPair f fd) (GO : FnOk P w K mg base CX0 4 fO fdO ["digits", "value"] (spOneOf K)) (gO : mg "_is_one_of" = some (.ref fO)) (kO : PySem.W.keepIn K (.ref fO) = true) (bO : Binds K fdO ["digits", "value"] [])
    (mis : mg "isinstance" = none) (ml : mg "len" = none) (mall : mg "all" = none) (mt : mg "tuple" = none) : FnOk P w K mg base CX0 5 f fd ["digits", "value"] (spIsPair K) := by
  refine F.ok scIp (fun vs H Q E h => ?_) (fun cdv A outer s H vs Q E hr h => ?_)
  · obtain ⟨t, ds, x, rfl, _⟩ := h
    rfl
  · obtain ⟨t, ds, x, rfl, ht, h⟩ := h
    refine ⟨_, pss_one (ps_ret (pe_and (pe_callB call_isi (by rfl) mis PyProof.Rows.boot_isinstance (pa_cons (pv 1) (pa_cons (pe_bltn (v := .ty "tuple") (by rfl) mt (by decide +kernel) rfl) pa_nil)))
      (pe_and (pe_cmpR op_eq (pe_callB call_len_seq (by rfl) ml PySem.boot_len (pa_cons (pv 1) pa_nil)) pe_int (nomark _))
      (pe_one (pe_callB (cr_all rfl) (by rfl) mall (by decide +kernel) (pa_cons (pe_lc (own := [("item", 2)]) (g := gName 2) (tt := tYes) (te := tCall (spOneOf K) [] E0 (tCons (tVar 0) (tCons (tVar 2) tNil))) rfl scIp.nd (pi_tup (pv 1))
            (blkOk_by (own := [("item", 2)]) (N := nIp) (sc := defScope sIsPair) (by decide +kernel)) (fun _ _ _ _ _ => pg_name (i := 2) scIp.nd rfl (Or.inl rfl)) (fun _ _ _ _ _ => pts_nil)
            (fun _ _ _ _ _ => by exact (pe_call GO hr (by rfl) gO kO bO .nil pass0 (pa_cons (pv 0) (pa_cons (pv 2) pa_nil))))) pa_nil)))))), ?_⟩
    rcases h with ⟨no, q⟩ | ⟨p, xs, rfl, hp, hl, it, q⟩
    · obtain ⟨ty, tyx, k⟩ := no.kit (K := K)
      exact ⟨x, rfl, x, .ty "tuple", ty, .type "tuple", false, rfl, .ty _, tyx, k, false, rfl, iteF q⟩
    refine ⟨.ref p, rfl, .ref p, .ty "tuple", .type "tuple", .type "tuple", true, rfl, .ty _, .base (.tup hp), kit_ty (by decide +kernel), true, rfl, iteT ?_⟩
    refine ⟨.ref p, rfl, p, _, rfl, .inr (SqT.of hp), rfl, _, rfl, ?_⟩
    by_cases c : xs.length = 2
    · refine iteTB (decide_eq_true (congrArg (fun n : Nat => V.int (n : Int)) c)) ⟨.ref p, rfl, p, rfl, ⟨_, SqT.of hp⟩, fun D hD => ?_⟩
      refine lc_tup (K := K) (a := p) (xs := xs) (fun i H' => Same H H' ∧ H' D = some (.lst ((xs.take i).map fun x => V.bl (oneV ds x)))) ⟨same_new hD, upd_same⟩ (fun i H' _ h => SqT.of (h.1 _ _ hp)) ?_ ?_
      · rintro i z H' hi ⟨s1, e1⟩
        have fin : ∃ acc, H' D = some (.lst acc) ∧ acc.length < sizeLine ∧ (Same H (upd H' D (.lst (acc ++ [.bl (oneV ds z)]))) ∧ (upd H' D (.lst (acc ++ [.bl (oneV ds z)]))) D = some (.lst ((xs.take (i + 1)).map fun x => V.bl (oneV ds x)))) := by
          refine ⟨_, e1, ?_, Same.store s1 hD, ?_⟩
          · rw [List.length_map]
            exact Nat.lt_of_le_of_lt (List.length_take_le' _ _) (small1000 hl)
          · rw [upd_same, take_more hi, List.map_append]
            rfl
        refine ⟨rfl, tYes_if ⟨.ref t, rfl, z, rfl, t, ds, z, rfl, same_seqT s1 ht, ?_⟩⟩
        rcases it z (List.mem_of_getElem? hi) with ⟨n, rfl⟩ | o
        · exact .inl ⟨n, rfl, fin⟩
        · rw [oneV_odd o] at fin
          exact .inr ⟨o.same s1, fin⟩
      · rintro H' ⟨s1, e1⟩
        rw [List.take_length] at e1
        have z := q H' s1
        have e : pairB ds xs = (xs.map (oneV ds)).all id := by
          unfold pairB
          rw [decide_eq_true c, Bool.true_and, List.all_map]
          rfl
        rw [e] at z
        exact ⟨D, xs.map (oneV ds), rfl, SqL.of (by rw [e1, List.map_map]; rfl), z⟩
    · have z := q H (Same.refl H)
      have e : pairB ds xs = false := by
        unfold pairB
        rw [decide_eq_false c, Bool.false_and]
      rw [e] at z
      refine iteFB (decide_eq_false fun y => c ?_) z
      have y2 : ((xs.length : Nat) : Int) = 2 := V.int.inj y
      omega

/-- bars of a list or tuple: two of the digits each -/
def BarOk (H : Hp) (ds : List Int) (p : Addr × List Int) : Prop := ∃ x y, p.2 = [x, y] ∧ H p.1 = some (.tup [.int x, .int y]) ∧ isOne ds x = true ∧ isOne ds y = true
/-- an item that is no pair of the digits -/
def BadBar (H : Hp) (ds : List Int) (x : V) : Prop := NoTup H x ∨ ∃ (p : Addr) (xs : List V), x = .ref p ∧ H p = some (.tup xs) ∧ xs.length ≤ 1000 ∧ (∀ y ∈ xs, ItemOk H y) ∧ pairB ds xs = false
theorem BadBar.same {H H' : Hp} {ds : List Int} {x : V} (h : BadBar H ds x) (s : Same H H') : BadBar H' ds x := by
  rcases h with h | ⟨p, xs, e, hp, l, it, b⟩
  · exact .inl (h.same s)
  · exact .inr ⟨p, xs, e, s _ _ hp, l, fun y hy => (it y hy).same s, b⟩
/-- _different_pairs of any value: no list; a first bar that is none behind good ones; good ones alone -/
def spDiffPair (K : PySem.W.Frag) (C : Addr) : Sp := fun vs H Q E => ∃ (t : Addr) (ds : List Int) (x : V), vs = [.ref t, x] ∧ SqT K H t (ds.map V.int) ∧ ((NoSeq H x ∧ Raised C "value" x H E) ∨ ∃ (l : Addr) (ks : List (Addr × List Int)) (rest : List V), x = .ref l ∧ IsSeq K H l (ks.map (fun p => V.ref p.1) ++ rest) ∧ ks.length < 64 ∧ (∀ p ∈ ks, BarOk H ds p) ∧
  ((∃ (y : V) (more : List V), rest = y :: more ∧ BadBar H ds y ∧ Raised C "value" y H E) ∨ (rest = [] ∧
    ∀ (L : List (Addr × List Int)) (r : Addr) (H' : Hp), (∀ p ∈ L, p ∈ ks) → (∀ p ∈ ks, p.2 ∈ L.map (·.2)) → (L.map (·.2)).Nodup → L.Pairwise (fun q r => SrtO.lexB (duo r.2) (duo q.2) = false) → Same H H' → H' r = some (.tup (L.map fun q => V.ref q.1)) → Q (.ref r) H')))
abbrev nDp : List Str := ["digits", "bars", "item"]
theorem scDp : FnScope nDp ["digits", "bars"] (defScope sDiffPair) := ⟨rfl, rfl, rfl, by decide +kernel, rfl, by decide +kernel, by decide +kernel⟩
theorem barOk_pair {H : Hp} {ds : List Int} {p : Addr × List Int} (h : BarOk H ds p) : ∃ xs : List V, H p.1 = some (.tup xs) ∧ xs.length ≤ 1000 ∧ (∀ y ∈ xs, ItemOk H y) ∧ pairB ds xs = true := by
  obtain ⟨x, y, _, e, hx, hy⟩ := h
  refine ⟨_, e, (by show 2 ≤ 1000; decide), fun z hz => ?_, ?_⟩
  · simp only [List.mem_cons, List.not_mem_nil, or_false] at hz
    rcases hz with rfl | rfl
    · exact .inl ⟨_, rfl⟩
    · exact .inl ⟨_, rfl⟩
  · show (decide (2 = 2) && (isOne ds x && (isOne ds y && true))) = true
    rw [hx, hy]
    rfl
set_option maxHeartbeats 2000000 in
theorem ok_diffpair {f fO fI C : Addr} {fd fdO fdI : FuncData} (F : Fun K "_different_pairs" "_different_pairs" sDiffPair f fd) (GO : FnOk P w K mg base CX0 5 fO fdO ["digits", "value"] (spIsPair K)) (gO : mg "_is_pair" = some (.ref fO)) (kO : PySem.W.keepIn K (.ref fO) = true) (bO : Binds K fdO ["digits", "value"] [])
    (GI : FnOk P w K mg base CX0 3 fI fdI ["self", "value"] (spInit K "value" C)) (T : ErrC K mg "InvalidBars" "value" C fI) (bI : Binds K fdI ["self", "value"] [])
    (mis : mg "isinstance" = none) (mli : mg "list" = none) (ms : mg "set" = none) (mso : mg "sorted" = none) (mt : mg "tuple" = none) : FnOk P w K mg base (L2.CX P w) 6 f fd ["digits", "bars"] (spDiffPair K C) := by
  refine F.okX scDp (fun vs H Q E h => ?_) (fun cdv A outer s H vs Q E hr h => ?_)
  · obtain ⟨t, ds, x, rfl, _⟩ := h
    rfl
  · obtain ⟨t, ds, x, rfl, ht, h⟩ := h
    have hr3 : Room 4 _ := hr.mono (by decide)
    rcases h with ⟨no, hE⟩ | ⟨l, ks, rest, rfl, hl, few, hk, h⟩
    · refine ⟨_, pss_cons (ps_if (pt_not (pt_val (pe_callB call_isiT (by rfl) mis PyProof.Rows.boot_isinstance (pa_cons (pv 1) (pa_cons (pe_tup (pa_cons (pe_bltn (v := .ty "list") (by rfl) mli PyProof.Rows.boot_list rfl) (pa_cons (pe_bltn (v := .ty "tuple") (by rfl) mt (by decide +kernel) rfl) pa_nil))) pa_nil)))))
          (pss_one (ps_raise rfl (takes_of rfl rfl rfl rfl) (pmk_oex T.ox T.iC T.tI GI hr3 bI .nil pass0 (by rfl) T.g (pa_cons (pv 1) pa_nil)))) pss_nil)
        (pss_cons (ps_for (passes_of rfl) rfl (pi_list (pv 1)) (pg_name (i := 2) scDp.nd rfl (.inl rfl))
          (pss_one (ps_if (pt_not (pt_val (pe_call GO hr (by rfl) gO kO bO .nil pass0 (pa_cons (pv 0) (pa_cons (pv 2) pa_nil)))))
            (pss_one (ps_raise rfl (takes_of rfl rfl rfl rfl) (pmk_oex T.ox T.iC T.tI GI hr3 bI .nil pass0 (by rfl) T.g (pa_cons (pv 2) pa_nil)))) pss_nil)))
        (pss_one (ps_ret (pe_callTy call_tuple_of (by rfl) mt (by decide +kernel) (pa_cons (pe_callB (cr_sortedDuo rfl) (by rfl) mso (by decide +kernel) (pa_cons (pe_callTy (cr_setOfA rfl hr.units) (by rfl) ms PyProof.Rows.boot_set (pa_cons (pv 1) pa_nil)) pa_nil)) pa_nil))))), ?_⟩
      refine ⟨x, rfl, (by show 2 ≤ sizeLine; decide), fun U hU => ?_⟩
      have s1 : Same H (upd H U (.tup [.ty "list", .ty "tuple"])) := same_new hU
      obtain ⟨ty, hty, k⟩ := (no.same s1).kit (K := K)
      exact ⟨x, U, _, ty, _, false, rfl, upd_same, .cons (.ty _) (.cons (.ty _) .nil), hty, k, false, rfl, iteT ⟨x, rfl, raised_ok (K := K) (σ := start nDp [.ref t, x]) (D := { nx := fun _ H' => Q .non H', rt := Q }) hE s1⟩⟩
    have each : ∀ (i : Nat) (z : V), (ks.map (fun p => V.ref p.1) ++ rest)[i]? = some z → (i < ks.length ∧ ∃ p ∈ ks, z = .ref p.1) ∨ (∃ (more : List V), rest = z :: more) ∨ (ks.length < i) := fun i z hz => by
      rcases Nat.lt_trichotomy i ks.length with c | c | c
      · rw [List.getElem?_append_left (by rw [List.length_map]; exact c)] at hz
        obtain ⟨p, hp, e⟩ := get_map hz
        exact .inl ⟨c, p, List.mem_of_getElem? hp, e⟩
      · rw [List.getElem?_append_right (by rw [List.length_map, c]; exact Nat.le_refl _), List.length_map, c, Nat.sub_self] at hz
        cases rest with
        | nil => cases hz
        | cons y m =>
          cases Option.some.inj hz
          exact .inr (.inl ⟨m, rfl⟩)
      · exact .inr (.inr c)
    have tups : ∀ (H2 : Hp), Same H H2 → ∀ p ∈ ks, SqT K H2 p.1 (p.2.map V.int) := by
      intro H2 s3 p hp
      obtain ⟨x, y, e, ep, _⟩ := hk p hp
      rw [e]
      exact SqT.of (s3 _ _ ep)
    rcases hl.sq with sq | sq
    · refine ⟨_, pss_cons (ps_if (pt_not (pt_val (pe_callB call_isiT (by rfl) mis PyProof.Rows.boot_isinstance (pa_cons (pv 1) (pa_cons (pe_tup (pa_cons (pe_bltn (v := .ty "list") (by rfl) mli PyProof.Rows.boot_list rfl) (pa_cons (pe_bltn (v := .ty "tuple") (by rfl) mt (by decide +kernel) rfl) pa_nil))) pa_nil)))))
          (pss_one (ps_raise rfl (takes_of rfl rfl rfl rfl) (pmk_oex T.ox T.iC T.tI GI hr3 bI .nil pass0 (by rfl) T.g (pa_cons (pv 1) pa_nil)))) pss_nil)
        (pss_cons (ps_for (passes_of rfl) rfl (pi_list (pv 1)) (pg_name (i := 2) scDp.nd rfl (.inl rfl))
          (pss_one (ps_if (pt_not (pt_val (pe_call GO hr (by rfl) gO kO bO .nil pass0 (pa_cons (pv 0) (pa_cons (pv 2) pa_nil)))))
            (pss_one (ps_raise rfl (takes_of rfl rfl rfl rfl) (pmk_oex T.ox T.iC T.tI GI hr3 bI .nil pass0 (by rfl) T.g (pa_cons (pv 2) pa_nil)))) pss_nil)))
        (pss_one (ps_ret (pe_callTy call_tuple_of (by rfl) mt (by decide +kernel) (pa_cons (pe_callB (cr_sortedDuo rfl) (by rfl) mso (by decide +kernel) (pa_cons (pe_callTy (cr_setOfA rfl hr.units) (by rfl) ms PyProof.Rows.boot_set (pa_cons (pv 1) pa_nil)) pa_nil)) pa_nil))))), ?_⟩
      refine ⟨.ref l, rfl, (by show 2 ≤ sizeLine; decide), fun U hU => ?_⟩
      have s1 : Same H (upd H U (.tup [.ty "list", .ty "tuple"])) := same_new hU
      obtain ⟨ty, hty, k⟩ := (hl.same s1).lt
      refine ⟨.ref l, U, _, ty, _, true, rfl, upd_same, .cons (.ty _) (.cons (.ty _) .nil), hty, k, true, rfl, iteF ?_⟩
      generalize upd H U (.tup [.ty "list", .ty "tuple"]) = H1 at s1 ⊢
      refine ⟨.ref l, rfl, l, rfl, ⟨_, s1.seq sq⟩, for_list (K := K) (a := l) (xs := ks.map (fun p => V.ref p.1) ++ rest) (fun i σ H' => (∃ v, σ = [some (.ref t), some (.ref l), v]) ∧ Same H H' ∧ i ≤ ks.length) ⟨⟨none, rfl⟩, s1, Nat.zero_le _⟩ (fun i σ H' _ h => h.2.1.seq sq) ?_ ?_⟩
      · rintro i z σ H' hz ⟨⟨v, rfl⟩, s2, hi⟩
        rcases each i z hz with ⟨hi2, p, hp, rfl⟩ | ⟨more, er⟩ | c
        · obtain ⟨xs, e, l1, it, b⟩ := barOk_pair (hk p hp)
          refine ⟨.ref t, rfl, .ref p.1, rfl, t, ds, .ref p.1, rfl, same_seqT s2 ht, .inr ⟨p.1, xs, rfl, s2 _ _ e, l1, (fun y hy => (it y hy).same s2), fun H3 s3 => ⟨_, rfl, ?_⟩⟩⟩
          rw [b]
          exact iteF ⟨⟨_, rfl⟩, s2.trans s3, hi2⟩
        · rcases h with ⟨y, m2, e2, bad, hE⟩ | ⟨e2, _⟩
          · rw [er] at e2
            cases e2
            refine ⟨.ref t, rfl, z, rfl, t, ds, z, rfl, same_seqT s2 ht, ?_⟩
            have go : ∀ {H3 : Hp}, Same H H3 → _ := fun {H3} s3 => raised_ok (K := K) (σ := [some (.ref t), some (.ref l), some z]) (D := { nx := fun _ H' => Q .non H', rt := Q }) hE s3
            rcases bad with no | ⟨p, xs, rfl, hp, l1, it, b⟩
            · exact .inl ⟨no.same s2, false, rfl, iteT ⟨z, rfl, go s2⟩⟩
            · refine .inr ⟨p, xs, rfl, s2 _ _ hp, l1, (fun y hy => (it y hy).same s2), fun H3 s3 => ⟨_, rfl, ?_⟩⟩
              rw [b]
              exact iteT ⟨.ref p, rfl, go (s2.trans s3)⟩
          · rw [er] at e2
            cases e2
        · omega
      · rintro σ H' ⟨⟨v, rfl⟩, s2, hi⟩
        rw [List.length_append, List.length_map] at hi
        have er : rest = [] := List.eq_nil_of_length_eq_zero (by omega)
        rcases h with ⟨y, m2, e2, _⟩ | ⟨_, q⟩
        · rw [er] at e2
          cases e2
        subst er
        rw [List.append_nil] at sq
        refine ⟨.ref l, rfl, l, ks, rfl, .inl (s2.seq sq), tups H' s2, few, fun S L hS sub all => ?_⟩
        have s3 : Same H (upd H' S (SetTO P w S L)) := s2.trans (same_new hS)
        refine ⟨S, L, rfl, upd_same, fun p hp => tups _ s3 p (sub p hp), fun p hp => ?_, fun L' D pm nd sh pw hD => ?_⟩
        · obtain ⟨x, y, e, _⟩ := hk p (sub p hp)
          rw [e]
          rfl
        have s4 : Same H (upd (upd H' S (SetTO P w S L)) D (.lst (L'.map fun q => V.ref q.1))) := s3.trans (same_new hD)
        refine ⟨D, _, rfl, .inl ⟨SqL.of upd_same, fun r hr2 => ?_⟩⟩
        exact q L' r _ (fun p hp => sub p (pm.mem_iff.mp hp)) (fun p hp => (pm.map (·.2)).mem_iff.mpr (all p hp)) nd pw (Same.store s4 (s4.free hr2)) upd_same
    · refine ⟨_, pss_cons (ps_if (pt_not (pt_val (pe_callB call_isiT (by rfl) mis PyProof.Rows.boot_isinstance (pa_cons (pv 1) (pa_cons (pe_tup (pa_cons (pe_bltn (v := .ty "list") (by rfl) mli PyProof.Rows.boot_list rfl) (pa_cons (pe_bltn (v := .ty "tuple") (by rfl) mt (by decide +kernel) rfl) pa_nil))) pa_nil)))))
          (pss_one (ps_raise rfl (takes_of rfl rfl rfl rfl) (pmk_oex T.ox T.iC T.tI GI hr3 bI .nil pass0 (by rfl) T.g (pa_cons (pv 1) pa_nil)))) pss_nil)
        (pss_cons (ps_for (passes_of rfl) rfl (pi_tup (pv 1)) (pg_name (i := 2) scDp.nd rfl (.inl rfl))
          (pss_one (ps_if (pt_not (pt_val (pe_call GO hr (by rfl) gO kO bO .nil pass0 (pa_cons (pv 0) (pa_cons (pv 2) pa_nil)))))
            (pss_one (ps_raise rfl (takes_of rfl rfl rfl rfl) (pmk_oex T.ox T.iC T.tI GI hr3 bI .nil pass0 (by rfl) T.g (pa_cons (pv 2) pa_nil)))) pss_nil)))
        (pss_one (ps_ret (pe_callTy call_tuple_of (by rfl) mt (by decide +kernel) (pa_cons (pe_callB (cr_sortedDuo rfl) (by rfl) mso (by decide +kernel) (pa_cons (pe_callTy (cr_setOfA rfl hr.units) (by rfl) ms PyProof.Rows.boot_set (pa_cons (pv 1) pa_nil)) pa_nil)) pa_nil))))), ?_⟩
      refine ⟨.ref l, rfl, (by show 2 ≤ sizeLine; decide), fun U hU => ?_⟩
      have s1 : Same H (upd H U (.tup [.ty "list", .ty "tuple"])) := same_new hU
      obtain ⟨ty, hty, k⟩ := (hl.same s1).lt
      refine ⟨.ref l, U, _, ty, _, true, rfl, upd_same, .cons (.ty _) (.cons (.ty _) .nil), hty, k, true, rfl, iteF ?_⟩
      generalize upd H U (.tup [.ty "list", .ty "tuple"]) = H1 at s1 ⊢
      refine ⟨.ref l, rfl, l, rfl, ⟨_, same_seqT s1 sq⟩, for_tup (K := K) (a := l) (xs := ks.map (fun p => V.ref p.1) ++ rest) (fun i σ H' => (∃ v, σ = [some (.ref t), some (.ref l), v]) ∧ Same H H' ∧ i ≤ ks.length) ⟨⟨none, rfl⟩, s1, Nat.zero_le _⟩ (fun i σ H' _ h => same_seqT h.2.1 sq) ?_ ?_⟩
      · rintro i z σ H' hz ⟨⟨v, rfl⟩, s2, hi⟩
        rcases each i z hz with ⟨hi2, p, hp, rfl⟩ | ⟨more, er⟩ | c
        · obtain ⟨xs, e, l1, it, b⟩ := barOk_pair (hk p hp)
          refine ⟨.ref t, rfl, .ref p.1, rfl, t, ds, .ref p.1, rfl, same_seqT s2 ht, .inr ⟨p.1, xs, rfl, s2 _ _ e, l1, (fun y hy => (it y hy).same s2), fun H3 s3 => ⟨_, rfl, ?_⟩⟩⟩
          rw [b]
          exact iteF ⟨⟨_, rfl⟩, s2.trans s3, hi2⟩
        · rcases h with ⟨y, m2, e2, bad, hE⟩ | ⟨e2, _⟩
          · rw [er] at e2
            cases e2
            refine ⟨.ref t, rfl, z, rfl, t, ds, z, rfl, same_seqT s2 ht, ?_⟩
            have go : ∀ {H3 : Hp}, Same H H3 → _ := fun {H3} s3 => raised_ok (K := K) (σ := [some (.ref t), some (.ref l), some z]) (D := { nx := fun _ H' => Q .non H', rt := Q }) hE s3
            rcases bad with no | ⟨p, xs, rfl, hp, l1, it, b⟩
            · exact .inl ⟨no.same s2, false, rfl, iteT ⟨z, rfl, go s2⟩⟩
            · refine .inr ⟨p, xs, rfl, s2 _ _ hp, l1, (fun y hy => (it y hy).same s2), fun H3 s3 => ⟨_, rfl, ?_⟩⟩
              rw [b]
              exact iteT ⟨.ref p, rfl, go (s2.trans s3)⟩
          · rw [er] at e2
            cases e2
        · omega
      · rintro σ H' ⟨⟨v, rfl⟩, s2, hi⟩
        rw [List.length_append, List.length_map] at hi
        have er : rest = [] := List.eq_nil_of_length_eq_zero (by omega)
        rcases h with ⟨y, m2, e2, _⟩ | ⟨_, q⟩
        · rw [er] at e2
          cases e2
        subst er
        rw [List.append_nil] at sq
        refine ⟨.ref l, rfl, l, ks, rfl, .inr (same_seqT s2 sq), tups H' s2, few, fun S L hS sub all => ?_⟩
        have s3 : Same H (upd H' S (SetTO P w S L)) := s2.trans (same_new hS)
        refine ⟨S, L, rfl, upd_same, fun p hp => tups _ s3 p (sub p hp), fun p hp => ?_, fun L' D pm nd sh pw hD => ?_⟩
        · obtain ⟨x, y, e, _⟩ := hk p (sub p hp)
          rw [e]
          rfl
        have s4 : Same H (upd (upd H' S (SetTO P w S L)) D (.lst (L'.map fun q => V.ref q.1))) := s3.trans (same_new hD)
        refine ⟨D, _, rfl, .inl ⟨SqL.of upd_same, fun r hr2 => ?_⟩⟩
        exact q L' r _ (fun p hp => sub p (pm.mem_iff.mp hp)) (fun p hp => (pm.map (·.2)).mem_iff.mpr (all p hp)) nd pw (Same.store s4 (s4.free hr2)) upd_same
end
end K19
/-! C(e, .., k = v, ..) within a try: __init__ may raise. -/
namespace OF
open PySem PySem.Spec PyProof.Rows L2
section
variable {X : Cx} {CX : CXT} {k n : Nat} {f C : Addr} {fd : FuncData} {ps ks : List Str} {sp : Sp} {E : L2.St → XK} {x : Str} {p pos : Pos} {e : Expr} {es : List Expr} {kws : List Keyword} {t tk : TA} {g : List Value → List Value → List Value} {gV : List V → List V → List V}
def tMakeS (C : Addr) (n m : Nat) (sp : Sp) (gV : List V → List V → List V) (E : L2.St → XK) (t tk : TA) : TE := fun σ H Q =>
  t σ H fun vs H1 => tk σ H1 fun zs H2 => vs.length = n ∧ zs.length = m ∧ ∀ o d, H2 o = none → H2 d = none → d ≠ o →
    sp (gV (.ref o :: vs) zs) (upd (upd H2 d (.own o)) o (.ins C d [])) (fun v H3 => v = .non ∧ Q (.ref o) H3) (E σ)
theorem pe_makeS (M : Mk X.K C f) (F : FnOk X.prog X.w X.K X.mg X.base CX k f fd ps sp) (hr : Room (k + 1) X.A) (hg : Gl X x) (hm : X.mg x = some (.ref C)) (hb : KBn X.K fd ps (n + 1) ks g gV)
    (hx : ∀ σ, PassesAt CX X σ (E σ)) (ha : PA X (e :: es) t) (hkw : PK X kws tk)
    (named : (backToKw pos (keywordEach kws X.env)).all (·.1.isSome) = true := by rfl) (names : (backToKw pos (keywordEach kws X.env)).filterMap (·.1) = ks := by rfl) (nodbg : (x == ("__debug__" : Str)) = false := by decide)
    (st : starEach (e :: es) X.env = (false, eval e X.env) :: starEach es X.env := by rfl) (nostar : ((backTo pos (starEach (e :: es) X.env)).any (·.1) || (backToKw pos (keywordEach kws X.env)).any (·.1.isNone)) = false := by rfl) :
    PE X (.Call (.Name x p) (e :: es) kws pos) (tMakeS C n ks.length sp gV E t tk) := by
  constructor
  intro pins s σ H Q I reading
  apply wpAny_Call_Name_kw
  refine ld_glob I hg hm ?_ nodbg
  refine PySem.W.callWith_KW (h₀ := X.base) I.ok.mod.kin M.kp named (thn (ha.run pos pins s σ H _ I reading) ?_) nostar st
  rintro us sA ⟨vs, HA, IA, rv, qA⟩
  refine thn (hkw.run pos pins sA σ HA _ IA qA) ?_
  rintro ws sB ⟨zs, HB, IB, rw_, l1, l2, qB⟩
  refine ⟨IB.kIn, ?_⟩
  rw [names]
  have below : HB sB.heap.objs.size = none := IB.hok.fresh (Nat.le_refl _)
  have above : HB (sB.heap.objs.size + 1) = none := IB.hok.fresh (Nat.le_succ _)
  have want := qB (sB.heap.objs.size + 1) sB.heap.objs.size above below (Nat.ne_of_lt (Nat.lt_succ_self _))
  have IC := Inv.made (C := C) IB
  have r1 : Vals (V.ref (sB.heap.objs.size + 1) :: vs) (Value.ref (sB.heap.objs.size + 1) :: us) := .cons rfl rv
  have r2 := hb.rel r1 rw_
  have many : (Value.ref (sB.heap.objs.size + 1) :: us).length = n + 1 := by
    rw [List.length_cons, ← rv.length, l1]
  have bound := hb.to _ (Value.ref (sB.heap.objs.size + 1) :: us) ws IC.kIn many (rw_.length.symm.trans l2)
  have ran := F.run _ X.stack _ _ ⟨Value.ref (sB.heap.objs.size + 1) :: us, ks.zip ws⟩ (g (Value.ref (sB.heap.objs.size + 1) :: us) ws) _ _ (E σ) (hr.make C us (ks.zip ws)) (IC.env0.make C us (ks.zip ws)) bound r2 want
  refine wpAny_call (make_map (f := f) IB.kIn M.makes M.init (beq_iff_eq.mp M.fn) (codeAny_mono ran ?_))
  intro r sC got
  match r, got with
  | .error er, got => exact hx σ pins _ _ er sC IC got
  | .ok (.ret u), got =>
    obtain ⟨v, HC, ID, rv2, ev, q3⟩ := IC.after got
    subst ev
    exact ⟨rv2, V.ref (sB.heap.objs.size + 1), HC, ID, rfl, q3⟩
  | .ok .next, got => exact got.elim
  | .ok .brk, got => exact got.elim
  | .ok .cont, got => exact got.elim
end
end OF
namespace K19
open PySem PySem.Spec PyProof.Rows L2 OF
section
variable {P : Program} {w : World} {K : PySem.W.Frag} {mg : Str → Option Value} {base : Heap}

/-! ### what stays while a new instance is filled -/
/-- an instance of the class stands at a -/
def InsAt (H : Hp) (a : Addr) : Prop := ∃ C dx fs, H a = some (.ins C dx fs)
theorem InsAt.ne {H : Hp} {a p : Addr} {o : HO} (h : InsAt H a) (e : H p = some o) (n : ∀ C dx fs, o ≠ .ins C dx fs) : p ≠ a := fun z => by
  obtain ⟨C, dx, fs, i⟩ := h
  rw [z, i] at e
  exact n _ _ _ (Option.some.inj e).symm
section
variable {a : Addr} {H H' : Hp} (I : InsAt H a) (t : But a H H')
include I t
theorem odd_but {x : V} (h : Odd H x) : Odd H' x := by
  cases h with
  | non => exact .non
  | bl b => exact .bl b
  | str z => exact .str z
  | lst e => exact .lst (t _ _ (I.ne e fun _ _ _ z => by cases z) e)
  | tup e => exact .tup (t _ _ (I.ne e fun _ _ _ z => by cases z) e)
  | dK e => exact .dK (t _ _ (I.ne e fun _ _ _ z => by cases z) e)
theorem item_but {x : V} (h : ItemOk H x) : ItemOk H' x := h.imp id fun o => odd_but I t o
theorem noseq_but {x : V} (h : NoSeq H x) : NoSeq H' x := by
  cases h with
  | int n => exact .int n
  | non => exact .non
  | bl b => exact .bl b
  | str z => exact .str z
  | dK e => exact .dK (t _ _ (I.ne e fun _ _ _ z => by cases z) e)
theorem notup_but {x : V} (h : NoTup H x) : NoTup H' x := by
  cases h with
  | no h => exact .no (noseq_but I t h)
  | lst e => exact .lst (t _ _ (I.ne e fun _ _ _ z => by cases z) e)
theorem seqT_but {p : Addr} {xs : List V} (h : SqT K H p xs) : SqT K H' p xs := by
  rcases h with (h | ⟨o, h⟩) | h
  · exact .inl (.inl (t _ _ (I.ne h fun _ _ _ z => by cases z) h))
  · exact .inl (.inr ⟨o, t _ _ (I.ne h fun _ _ _ z => by cases z) h⟩)
  · exact .inr h
theorem isseq_but {p : Addr} {xs : List V} (h : IsSeq K H p xs) : IsSeq K H' p xs := by
  cases h with
  | lst e => exact .lst (t _ _ (I.ne e fun _ _ _ z => by cases z) e)
  | tup e => exact .tup (t _ _ (I.ne e fun _ _ _ z => by cases z) e)
  | kt e c h => exact .kt e c (seqT_but I t h)
theorem bad_but {ds : List Int} {x : V} (h : BadBar H ds x) : BadBar H' ds x := by
  rcases h with h | ⟨p, xs, e, hp, l, it, b⟩
  · exact .inl (notup_but I t h)
  · exact .inr ⟨p, xs, e, t _ _ (I.ne hp fun _ _ _ z => by cases z) hp, l, fun y hy => item_but I t (it y hy), b⟩
theorem bar_but {ds : List Int} {p : Addr × List Int} (h : BarOk H ds p) : BarOk H' ds p := by
  obtain ⟨x, y, e, hp, z⟩ := h
  exact ⟨x, y, e, t _ _ (I.ne hp fun _ _ _ z => by cases z) hp, z⟩
end
/-- a raised error while the instance at a is being filled -/
def RaisedA (a C : Addr) (f : Str) (v : V) (H : Hp) (E : XK) : Prop := ∀ (fs : List (Str × V)) (d : Addr) (H' : Hp), H d = none → But a H H' → H' d = some (.xd ((f, v) :: fs)) → E (.ref C) (some d) H'
theorem RaisedA.at_ {a C : Addr} {f : Str} {v : V} {H H1 : Hp} {E : XK} (h : RaisedA a C f v H E) (I : InsAt H1 a) (t : But a H H1) : Raised C f v H1 E := fun fs d H' hd s ed => by
  have nd : H d = none := by
    by_cases e : d = a
    · obtain ⟨C2, dx, fs, i⟩ := I
      rw [e, i] at hd
      cases hd
    · rcases Option.eq_none_or_eq_some (H d) with z | ⟨o, z⟩
      · exact z
      · rw [t d o e z] at hd
        cases hd
  exact h fs d H' nd (t.trans (But.of_same s)) ed
theorem isOne_mem {ds ns : List Int} (m : ∀ k, k ∈ ds ↔ k ∈ ns) (n : Int) : isOne ds n = isOne ns n := by
  unfold isOne
  rw [decide_eq_decide.mpr (m n)]
theorem oneV_mem {ds ns : List Int} (m : ∀ k, k ∈ ds ↔ k ∈ ns) (x : V) : oneV ds x = oneV ns x := by
  cases x <;> first | rfl | exact isOne_mem m _
theorem pairB_mem {ds ns : List Int} (m : ∀ k, k ∈ ds ↔ k ∈ ns) (xs : List V) : pairB ds xs = pairB ns xs := by
  unfold pairB
  rw [show oneV ds = oneV ns from funext fun x => oneV_mem m x]
theorem BarOk.mem_ {H : Hp} {ds ns : List Int} {p : Addr × List Int} (m : ∀ k, k ∈ ds ↔ k ∈ ns) (h : BarOk H ns p) : BarOk H ds p := by
  obtain ⟨x, y, e, hp, h1, h2⟩ := h
  exact ⟨x, y, e, hp, by rw [isOne_mem m, h1], by rw [isOne_mem m, h2]⟩
theorem BadBar.mem_ {H : Hp} {ds ns : List Int} {x : V} (m : ∀ k, k ∈ ds ↔ k ∈ ns) (h : BadBar H ns x) : BadBar H ds x := by
  rcases h with h | ⟨p, xs, e, hp, l, it, b⟩
  · exact .inl h
  · exact .inr ⟨p, xs, e, hp, l, it, by rw [pairB_mem m, b]⟩
def baseV : V → Bool
  | .int n => isBase n
  | _ => false
/-- the number of different ones is from 1 to 6 -/
def SixOf (ns : List Int) (six : Bool) : Prop := ∀ ks : List Int, ks.Nodup → (∀ k, k ∈ ks ↔ k ∈ ns) → (decide (1 ≤ ks.length) && decide (ks.length ≤ 6)) = six
/-- Scheme.__init__ of any values -/
def spNew (K : PySem.W.Frag) (C CB CD CP : Addr) : Sp := fun vs H Q E => ∃ (a dx : Addr) (x y z : V), vs = [.ref a, x, y, z] ∧ H a = some (.ins C dx []) ∧ ((ItemOk H x ∧ baseV x = false ∧ RaisedA a CB "value" x H E) ∨ ∃ b : Int, x = .int b ∧ isBase b = true ∧
  ((NoSeq H y ∧ RaisedA a CD "value" y H E) ∨ ∃ (p : Addr) (xs : List V), y = .ref p ∧ IsSeq K H p xs ∧ (∀ v ∈ xs, ItemOk H v) ∧ xs.length ≤ 60 ∧ (xs.all digV = false → RaisedA a CD "value" y H E) ∧
    ∀ ns : List Int, xs = ns.map V.int → ns.all dig = true → ∃ six : Bool, SixOf ns six ∧ (six = false → RaisedA a CD "value" y H E) ∧ (six = true →
      ((NoSeq H z ∧ RaisedA a CP "value" z H E) ∨ ∃ (l : Addr) (ks : List (Addr × List Int)) (rest : List V), z = .ref l ∧ IsSeq K H l (ks.map (fun p => V.ref p.1) ++ rest) ∧ ks.length < 64 ∧ (∀ p ∈ ks, BarOk H ns p) ∧
        ((∃ (u : V) (more : List V), rest = u :: more ∧ BadBar H ns u ∧ RaisedA a CP "value" u H E) ∨ (rest = [] ∧
          ∀ (ds : List Int) (L : List (Addr × List Int)) (t r : Addr) (H' : Hp), ds.Pairwise (· < ·) → (∀ k, k ∈ ds ↔ k ∈ ns) → (∀ p ∈ L, p ∈ ks) → (∀ p ∈ ks, p.2 ∈ L.map (·.2)) → (L.map (·.2)).Nodup → L.Pairwise (fun q r => SrtO.lexB (duo r.2) (duo q.2) = false) →
            But a H H' → H' a = some (.ins C dx [("_base", .int b), ("_digits", .ref t), ("_bars", .ref r)]) → H' t = some (.tup (ds.map V.int)) → H' r = some (.tup (L.map fun q => V.ref q.1)) → Q .non H'))))))
theorem scNew : FnScope ["self", "base", "digits", "bars"] ["self", "base", "digits", "bars"] (defScope sInit) := ⟨rfl, rfl, rfl, by decide +kernel, rfl, by decide +kernel, by decide +kernel⟩
set_option maxHeartbeats 2000000 in
theorem ok_new {f fB fD fP fI C CB CD CP : Addr} {fd fdB fdD fdP fdI : FuncData} (G : ∃ kws, FunD K "__init__" "Scheme.__init__" (defArgs sInit) (defBody sInit) (defScope sInit) [] kws f fd) (c : Cls K C) (n1 : NoAttr K C "_base") (n2 : NoAttr K C "_digits") (n3 : NoAttr K C "_bars")
    (GB : FnOk P w K mg base CX0 3 fB fdB ["value"] spIsBase) (gB : mg "is_base" = some (.ref fB)) (kB : PySem.W.keepIn K (.ref fB) = true) (bB : Binds K fdB ["value"] [])
    (GD : FnOk P w K mg base (L2.CX P w) 6 fD fdD ["digits"] (spDiffDig K CD)) (gD : mg "_different_digits" = some (.ref fD)) (kD : PySem.W.keepIn K (.ref fD) = true) (bD : Binds K fdD ["digits"] [])
    (GP : FnOk P w K mg base (L2.CX P w) 6 fP fdP ["digits", "bars"] (spDiffPair K CP)) (gP : mg "_different_pairs" = some (.ref fP)) (kP : PySem.W.keepIn K (.ref fP) = true) (bP : Binds K fdP ["digits", "bars"] [])
    (GI : FnOk P w K mg base CX0 3 fI fdI ["self", "value"] (spInit K "value" CB)) (T : ErrC K mg "InvalidBase" "value" CB fI) (bI : Binds K fdI ["self", "value"] []) :
    FnOk P w K mg base (L2.CX P w) 7 f fd ["self", "base", "digits", "bars"] (spNew K C CB CD CP) := by
  obtain ⟨kws, F⟩ := G
  refine F.ok scNew (fun vs H Q E h => ?_) (fun cdv A outer s H vs Q E hr h => ?_)
  · obtain ⟨a, dx, x, y, z, rfl, _⟩ := h
    rfl
  · obtain ⟨a, dx, x, y, z, rfl, ha, h⟩ := h
    have hr2 : Room 3 _ := hr.mono (by decide)
    have hr3 : Room 4 _ := hr.mono (by decide)
    have I0 : InsAt H a := ⟨_, _, _, ha⟩
    apply Exists.intro
    apply And.intro
    · apply pss_cons
      · exact ps_if (pt_not (pt_val (pe_call GB hr2 (by rfl) gB kB bB .nil pass0 (pa_cons (pv 1) pa_nil))))
          (pss_one (ps_raise rfl (takes_of rfl rfl rfl rfl) (pmk_oex T.ox T.iC T.tI GI hr3 bI .nil pass0 (by rfl) T.g (pa_cons (pv 1) pa_nil)))) pss_nil
      apply pss_cons
      · exact ps_fld (pv 0) (pv 1) rfl
      apply pss_cons
      · exact ps_fld (pv 0) (pe_call GD hr (by rfl) gD kD bD .nil (passes_call (W := fun cl d _ J => E cl d J) (takes_of rfl rfl rfl rfl) (fun _ _ _ _ z => z)) (pa_cons (pv 2) pa_nil)) rfl
      apply pss_one
      · exact ps_fld (pv 0) (pe_call GP hr (by rfl) gP kP bP .nil (passes_call (W := fun cl d _ J => E cl d J) (takes_of rfl rfl rfl rfl) (fun _ _ _ _ z => z)) (pa_cons (pe_fld (pv 0) rfl) (pa_cons (pv 3) pa_nil))) rfl
    rcases h with ⟨ix, bx, hE⟩ | ⟨b, rfl, hb, h⟩
    · have go := raised_ok (K := K) (σ := start ["self", "base", "digits", "bars"] [.ref a, x, y, z]) (D := { nx := fun _ H' => Q .non H', rt := Q }) (hE.at_ I0 But.refl) (Same.refl H)
      rcases ix with ⟨n, rfl⟩ | o
      · refine ⟨.int n, rfl, .int n, rfl, .inl ⟨n, rfl, ?_⟩⟩
        rw [show isBase n = false from bx]
        exact ⟨false, rfl, iteT ⟨.int n, rfl, go⟩⟩
      · exact ⟨x, rfl, x, rfl, .inr ⟨o, false, rfl, iteT ⟨x, rfl, go⟩⟩⟩
    refine ⟨.int b, rfl, .int b, rfl, .inl ⟨b, rfl, ?_⟩⟩
    rw [hb]
    refine ⟨true, rfl, iteF ?_⟩
    refine ⟨.int b, rfl, .ref a, rfl, a, C, dx, [], rfl, ha, c, n1, (by show 0 < 1000; decide), ?_⟩
    have t1 : But a H (upd H a (.ins C dx (putF "_base" (.int b) []))) := But.at_
    have e1 : (upd H a (.ins C dx (putF "_base" (.int b) []))) a = some (.ins C dx [("_base", .int b)]) := upd_same
    generalize upd H a (.ins C dx (putF "_base" (.int b) [])) = H1 at t1 e1 ⊢
    have I1 : InsAt H1 a := ⟨_, _, _, e1⟩
    rcases h with ⟨no, hE⟩ | ⟨p, xs, rfl, hp, it, hl, hE, h⟩
    · exact ⟨y, rfl, y, rfl, .inl ⟨noseq_but I0 t1 no, hE.at_ I1 t1⟩⟩
    refine ⟨.ref p, rfl, .ref p, rfl, .inr ⟨p, xs, rfl, isseq_but I0 t1 hp, (fun v hv => item_but I0 t1 (it v hv)), hl, (fun e => (hE e).at_ I1 t1), fun ns en hn => ?_⟩⟩
    obtain ⟨six, h6, hE6, h⟩ := h ns en hn
    refine ⟨six, h6, (fun e => (hE6 e).at_ I1 t1), fun e6 ds t H2 asc mds s2 ht et => ?_⟩
    have e2 : H2 a = some (.ins C dx [("_base", .int b)]) := s2 _ _ e1
    have nt : t ≠ a := fun z => by
      rw [z, e2] at et
      cases et
    refine ⟨.ref a, rfl, a, C, dx, _, rfl, e2, c, n2, (by show 1 < 1000; decide), ?_⟩
    have t3 : But a H (upd H2 a (.ins C dx (putF "_digits" (.ref t) [("_base", .int b)]))) := t1.trans ((But.of_same s2).trans But.at_)
    have e3 : (upd H2 a (.ins C dx (putF "_digits" (.ref t) [("_base", .int b)]))) a = some (.ins C dx (putF "_digits" (.ref t) [("_base", .int b)])) := upd_same
    have et3 : (upd H2 a (.ins C dx (putF "_digits" (.ref t) [("_base", .int b)]))) t = some (.tup (ds.map V.int)) := by rw [upd_ne nt]; exact et
    generalize upd H2 a (.ins C dx (putF "_digits" (.ref t) [("_base", .int b)])) = H3 at t3 e3 et3 ⊢
    have I3 : InsAt H3 a := ⟨_, _, _, e3⟩
    refine ⟨.ref a, rfl, a, C, dx, _, .ref t, rfl, e3, c, n2, (by rw [lookup_putF, if_pos rfl]), z, rfl, t, ds, z, rfl, SqT.of et3, ?_⟩
    rcases h e6 with ⟨no, hP⟩ | ⟨l, ks, rest, rfl, hl2, few, hk, h⟩
    · exact .inl ⟨noseq_but I0 t3 no, hP.at_ I3 t3⟩
    refine .inr ⟨l, ks, rest, rfl, isseq_but I0 t3 hl2, few, (fun p hp => (bar_but I0 t3 (hk p hp)).mem_ mds), ?_⟩
    rcases h with ⟨u, more, er, bad, hP⟩ | ⟨er, q⟩
    · exact .inl ⟨u, more, er, (bad_but I0 t3 bad).mem_ mds, hP.at_ I3 t3⟩
    refine .inr ⟨er, fun L r H4 sub all nd pw s4 er2 => ?_⟩
    have e4 := s4 _ _ e3
    have nr : r ≠ a := fun z => by
      rw [z, e4] at er2
      cases er2
    refine ⟨.ref a, rfl, a, C, dx, _, rfl, e4, c, n3, (by show 2 < 1000; decide), ?_⟩
    exact q ds L t r _ asc mds sub all nd pw (t3.trans ((But.of_same s4).trans But.at_)) upd_same (by rw [upd_ne nt]; exact s4 _ _ et3) (by rw [upd_ne nr]; exact er2)
end
end K19
namespace K19
open PySem PySem.Spec PyProof.Rows L2 OF
abbrev sPBase : Stmt := inClass (topS 43) 1
abbrev sPDigits : Stmt := inClass (topS 43) 2
abbrev sPBars : Stmt := inClass (topS 43) 3
abbrev sEq : Stmt := inClass (topS 43) 4
abbrev sLen : Stmt := inClass (topS 43) 5
section
variable {P : Program} {w : World} {K : PySem.W.Frag} {mg : Str → Option Value} {base : Heap}
/-! ### a scheme that stands in the heap -/
def pd2 (p : Int × Int) : PyData := .tuple [.int p.1, .int p.2]
structure SchemeAt (C : Addr) (H : Hp) (a t r : Addr) (b : Int) (ds : List Int) (ks : List (Addr × (Int × Int))) : Prop where
  ins : ∃ dx, H a = some (.ins C dx [("_base", .int b), ("_digits", .ref t), ("_bars", .ref r)])
  dig : H t = some (.tup (ds.map V.int))
  bar : H r = some (.tup (ks.map fun p => V.ref p.1))
  prs : ∀ p ∈ ks, H p.1 = some (.tup [.int p.2.1, .int p.2.2])
theorem SchemeAt.same {C : Addr} {H H' : Hp} {a t r : Addr} {b : Int} {ds : List Int} {ks : List (Addr × (Int × Int))} (h : SchemeAt C H a t r b ds ks) (s : Same H H') : SchemeAt C H' a t r b ds ks := by
  obtain ⟨⟨dx, h1⟩, h2, h3, h4⟩ := h
  exact ⟨⟨dx, s _ _ h1⟩, s _ _ h2, s _ _ h3, fun p hp => s _ _ (h4 p hp)⟩
theorem bars_dp {K : PySem.W.Frag} {H : Hp} : ∀ ks : List (Addr × (Int × Int)), (∀ p ∈ ks, H p.1 = some (.tup [.int p.2.1, .int p.2.2])) → DpAll K H (ks.map fun p => V.ref p.1) (ks.map fun p => pd2 p.2)
  | [], _ => .nil
  | p :: ks, h => .cons (.tup (SqT.of (h p List.mem_cons_self)) (.cons (.int _) (.cons (.int _) .nil))) (bars_dp ks fun q hq => h q (List.mem_cons_of_mem _ hq))
theorem bars_can : ∀ ks : List (Addr × (Int × Int)), PyData.canLayAll0 (ks.map fun p => pd2 p.2) = true ∧ PyData.depthAll (ks.map fun p => pd2 p.2) ≤ 1
  | [] => ⟨by simp only [List.map_nil, PyData.canLayAll0], by simp only [List.map_nil, PyData.depthAll]; omega⟩
  | p :: ks => by
    obtain ⟨h1, h2⟩ := bars_can ks
    refine ⟨?_, ?_⟩
    · rw [List.map_cons, PyData.canLayAll0, h1]
      simp only [pd2, PyData.canLay0, PyData.canLayAll0, Bool.and_true]
    · rw [List.map_cons, PyData.depthAll]
      simp only [pd2, PyData.depth, PyData.depthAll] at h2 ⊢
      omega
theorem bars_shaped (ks : List (Addr × (Int × Int))) : SeqAt.shaped (.tuple (ks.map fun p => pd2 p.2)) = true := by
  obtain ⟨h1, h2⟩ := bars_can ks
  refine shaped_of ?_ ?_
  · simp only [PyData.canLay0, h1]
  · simp only [PyData.depth]
    omega
theorem pd2_shaped (p : Int × Int) : SeqAt.shaped (pd2 p) = true := by
  refine shaped_of ?_ ?_
  · simp only [pd2, PyData.canLay0, PyData.canLayAll0, Bool.and_true]
  · simp only [pd2, PyData.depth, PyData.depthAll]
    omega
/-- whether a pair stands among the bars -/
def hasBar (ks : List (Addr × (Int × Int))) (n m : Int) : Bool := (ks.map fun p => pd2 p.2).any fun z => PyData.eqv z (pd2 (n, m))
theorem lk_digits {b : Int} {t r : Addr} : ([("_base", V.int b), ("_digits", .ref t), ("_bars", .ref r)] : List (Str × V)).lookup ("_digits" : Str) = some (.ref t) := by
  rw [lookup_put, if_neg (by decide), lookup_put, if_pos rfl]
theorem lk_bars {b : Int} {t r : Addr} : ([("_base", V.int b), ("_digits", .ref t), ("_bars", .ref r)] : List (Str × V)).lookup ("_bars" : Str) = some (.ref r) := by
  rw [lookup_put, if_neg (by decide), lookup_put, if_neg (by decide), lookup_put, if_pos rfl]
theorem lk_base {b : Int} {t r : Addr} : ([("_base", V.int b), ("_digits", .ref t), ("_bars", .ref r)] : List (Str × V)).lookup ("_base" : Str) = some (.int b) := by
  rw [lookup_put, if_pos rfl]
/-- what isinstance asks of the class -/
structure IsC (K : PySem.W.Frag) (C : Addr) : Prop where
  cl : Cls K C
  ha : PySem.W.findIn K (.ref C) "__class__" = some (some (.builtin "object.__class__"))
  hn : PySem.W.specialIn K (.builtin "object.__class__") "__get__" = some (some (.builtin "getset_descriptor.__get__"))
  ht : PySem.W.takesIn K (.builtin "object.__class__") = some true
  hm : PySem.W.mroIn K C (.type "object") = some true
  own : PySem.W.kitOne K (.ref C) (.ref C) = some true

/-- no built-in kind is of the class -/
def NotOf (K : PySem.W.Frag) (C : Addr) (H : Hp) (x : V) : Prop := ∃ t : Value, TyX K H x t ∧ PySem.W.kitOne K t (.ref C) = some false
def spEqS (C : Addr) : Sp := fun vs H Q _ => ∃ (a t r a2 t2 r2 : Addr) (b b2 : Int) (ds ds2 : List Int) (ks ks2 : List (Addr × (Int × Int))), vs = [.ref a, .ref a2] ∧ SchemeAt C H a t r b ds ks ∧ SchemeAt C H a2 t2 r2 b2 ds2 ks2 ∧ ds.length ≤ 60 ∧ ds2.length ≤ 60 ∧
  Q (.bl (decide (b = b2) && (PyData.eqv (.tuple (ds.map .int)) (.tuple (ds2.map .int)) && PyData.eqv (.tuple (ks.map fun p => pd2 p.2)) (.tuple (ks2.map fun p => pd2 p.2))))) H

/-- == of a scheme and any value -/
def spEqA (K : PySem.W.Frag) (C : Addr) : Sp := fun vs H Q E => spEqS C vs H Q E ∨ ∃ (a t r : Addr) (b : Int) (ds : List Int) (ks : List (Addr × (Int × Int))) (x : V), vs = [.ref a, x] ∧ SchemeAt C H a t r b ds ks ∧ NotOf K C H x ∧ Q (.bl false) H
theorem scEq : FnScope ["self", "other"] ["self", "other"] (defScope sEq) := ⟨rfl, rfl, rfl, by decide +kernel, rfl, by decide +kernel, by decide +kernel⟩
theorem dp_ints {K : PySem.W.Frag} {H : Hp} : ∀ ds : List Int, DpAll K H (ds.map V.int) (ds.map PyData.int)
  | [] => .nil
  | d :: ds => .cons (.int d) (dp_ints ds)
theorem ints_can : ∀ ds : List Int, PyData.canLayAll0 (ds.map PyData.int) = true ∧ PyData.depthAll (ds.map PyData.int) = 0
  | [] => ⟨by simp only [List.map_nil, PyData.canLayAll0], by simp only [List.map_nil, PyData.depthAll]⟩
  | d :: ds => by
    obtain ⟨h1, h2⟩ := ints_can ds
    refine ⟨?_, ?_⟩
    · rw [List.map_cons, PyData.canLayAll0, h1]
      simp only [PyData.canLay0, Bool.and_true]
    · rw [List.map_cons, PyData.depthAll, h2]
      simp only [PyData.depth, Nat.max_self]
theorem ints_shapedT (ds : List Int) : SeqAt.shaped (.tuple (ds.map .int)) = true := by
  obtain ⟨h1, h2⟩ := ints_can ds
  refine shaped_of ?_ ?_
  · simp only [PyData.canLay0, h1]
  · simp only [PyData.depth, h2]
    omega
theorem ints_shapedL (ds : List Int) : SeqAt.shaped (.list (ds.map .int)) = true := by
  obtain ⟨h1, h2⟩ := ints_can ds
  refine shaped_of ?_ ?_
  · simp only [PyData.canLay0, h1]
  · simp only [PyData.depth, h2]
    omega
set_option maxHeartbeats 1000000 in
theorem ok_eq {f C : Addr} {fd : FuncData} (F : Fun K "__eq__" "Scheme.__eq__" sEq f fd) (I : IsC K C) (n1 : NoAttr K C "_base") (n2 : NoAttr K C "_digits") (n3 : NoAttr K C "_bars") (gC : mg "Scheme" = some (.ref C)) (mis : mg "isinstance" = none) :
    FnOk P w K mg base CX0 1 f fd ["self", "other"] (spEqA K C) := by
  refine F.ok scEq (fun vs H Q E h => ?_) (fun cdv A outer s H vs Q E hr h => ?_)
  · rcases h with ⟨a, t, r, a2, t2, r2, b, b2, ds, ds2, ks, ks2, rfl, _⟩ | ⟨a, t, r, b, ds, ks, x, rfl, _⟩
    · rfl
    · rfl
  · apply Exists.intro
    apply And.intro
    · apply pss_one
      · exact ps_ret (pe_and (pe_callB call_isi (by rfl) mis PyProof.Rows.boot_isinstance (pa_cons (pv 1) (pa_cons (pe_glob (v := .ref C) (by rfl) gC rfl) pa_nil)))
          (pe_and (pe_cmpR op_eq (pe_fld (pv 0) rfl) (pe_fld (pv 1) rfl) (nomark _)) (pe_and (pe_cmpR (op_eqD hr.units) (pe_fld (pv 0) rfl) (pe_fld (pv 1) rfl) (nomark _)) (pe_one (pe_cmpR (op_eqD hr.units) (pe_fld (pv 0) rfl) (pe_fld (pv 1) rfl) (nomark _))))))
    rcases h with ⟨a, t, r, a2, t2, r2, b, b2, ds, ds2, ks, ks2, rfl, ⟨⟨dx, ha⟩, ht, hrr, hks⟩, ⟨⟨dx2, ha2⟩, ht2, hrr2, hks2⟩, l1, l2, q⟩ | ⟨a, t, r, b, ds, ks, x, rfl, S, ⟨ty, tyx, k⟩, q⟩
    case' inr => exact ⟨x, rfl, x, .ref C, ty, .ref C, false, rfl, .own C, tyx, k, false, rfl, iteF q⟩
    refine ⟨.ref a2, rfl, .ref a2, .ref C, .ref C, .ref C, true, rfl, .own C, .base (.ins ha2 I.cl I.ha I.hn I.ht I.hm), I.own, true, rfl, iteT ?_⟩
    refine ⟨.ref a, rfl, a, C, dx, _, .int b, rfl, ha, I.cl, n1, lk_base, .ref a2, rfl, a2, C, dx2, _, .int b2, rfl, ha2, I.cl, n1, lk_base, rfl, ?_⟩
    by_cases hb : b = b2
    · subst hb
      refine ⟨_, rfl, iteTB (decide_eq_true rfl) ?_⟩
      refine ⟨.ref a, rfl, a, C, dx, _, .ref t, rfl, ha, I.cl, n2, lk_digits, .ref a2, rfl, a2, C, dx2, _, .ref t2, rfl, ha2, I.cl, n2, lk_digits, .tuple (ds.map .int), .tuple (ds2.map .int), .tup (SqT.of ht) (dp_ints ds), .tup (SqT.of ht2) (dp_ints ds2), ints_shapedT ds, ints_shapedT ds2, _, rfl, ?_⟩
      rw [decide_eq_true rfl, Bool.true_and] at q
      refine iteAnd (fun z => ?_) q
      exact ⟨.ref a, rfl, a, C, dx, _, .ref r, rfl, ha, I.cl, n3, lk_bars, .ref a2, rfl, a2, C, dx2, _, .ref r2, rfl, ha2, I.cl, n3, lk_bars, .tuple (ks.map fun p => pd2 p.2), .tuple (ks2.map fun p => pd2 p.2), .tup (SqT.of hrr) (bars_dp ks hks), .tup (SqT.of hrr2) (bars_dp ks2 hks2), bars_shaped ks, bars_shaped ks2, z⟩
    · refine ⟨_, rfl, iteFB (decide_eq_false fun z => hb (V.int.inj z)) ?_⟩
      rw [decide_eq_false hb, Bool.false_and] at q
      exact q

/-! ### the properties, len -/
def spPB (C : Addr) : Sp := fun vs H Q _ => ∃ (a t r : Addr) (b : Int) (ds : List Int) (ks : List (Addr × (Int × Int))), vs = [.ref a] ∧ SchemeAt C H a t r b ds ks ∧ Q (.int b) H
def spPD (C : Addr) : Sp := fun vs H Q _ => ∃ (a t r : Addr) (b : Int) (ds : List Int) (ks : List (Addr × (Int × Int))), vs = [.ref a] ∧ SchemeAt C H a t r b ds ks ∧ Q (.ref t) H
def spPR (C : Addr) : Sp := fun vs H Q _ => ∃ (a t r : Addr) (b : Int) (ds : List Int) (ks : List (Addr × (Int × Int))), vs = [.ref a] ∧ SchemeAt C H a t r b ds ks ∧ Q (.ref r) H
def spLn (C : Addr) : Sp := fun vs H Q _ => ∃ (a t r : Addr) (b : Int) (ds : List Int) (ks : List (Addr × (Int × Int))), vs = [.ref a] ∧ SchemeAt C H a t r b ds ks ∧ Q (.int ds.length) H
theorem scPb : FnScope ["self"] ["self"] (defScope sPBase) := ⟨rfl, rfl, rfl, by decide +kernel, rfl, by decide +kernel, by decide +kernel⟩
theorem ok_pbase {f C : Addr} {fd : FuncData} (F : Fun K "base" "Scheme.base" sPBase f fd) (c : Cls K C) (n : NoAttr K C "_base") : FnOk P w K mg base CX0 1 f fd ["self"] (spPB C) := by
  refine F.ok scPb (fun vs H Q E h => ?_) (fun cdv A outer s H vs Q E hr h => ?_)
  · obtain ⟨a, t, r, b, ds, ks, rfl, _⟩ := h
    rfl
  · obtain ⟨a, t, r, b, ds, ks, rfl, S, q⟩ := h
    obtain ⟨⟨dx, hins⟩, _⟩ := id S
    exact ⟨_, pss_one (ps_ret (pe_fld (pv 0) rfl)), .ref a, rfl, a, C, dx, _, .int b, rfl, hins, c, n, lk_base, q⟩
theorem scPd : FnScope ["self"] ["self"] (defScope sPDigits) := ⟨rfl, rfl, rfl, by decide +kernel, rfl, by decide +kernel, by decide +kernel⟩
theorem ok_pdigits {f C : Addr} {fd : FuncData} (F : Fun K "digits" "Scheme.digits" sPDigits f fd) (c : Cls K C) (n : NoAttr K C "_digits") : FnOk P w K mg base CX0 1 f fd ["self"] (spPD C) := by
  refine F.ok scPd (fun vs H Q E h => ?_) (fun cdv A outer s H vs Q E hr h => ?_)
  · obtain ⟨a, t, r, b, ds, ks, rfl, _⟩ := h
    rfl
  · obtain ⟨a, t, r, b, ds, ks, rfl, S, q⟩ := h
    obtain ⟨⟨dx, hins⟩, _⟩ := id S
    exact ⟨_, pss_one (ps_ret (pe_fld (pv 0) rfl)), .ref a, rfl, a, C, dx, _, .ref t, rfl, hins, c, n, lk_digits, q⟩
theorem scPr : FnScope ["self"] ["self"] (defScope sPBars) := ⟨rfl, rfl, rfl, by decide +kernel, rfl, by decide +kernel, by decide +kernel⟩
theorem ok_pbars {f C : Addr} {fd : FuncData} (F : Fun K "bars" "Scheme.bars" sPBars f fd) (c : Cls K C) (n : NoAttr K C "_bars") : FnOk P w K mg base CX0 1 f fd ["self"] (spPR C) := by
  refine F.ok scPr (fun vs H Q E h => ?_) (fun cdv A outer s H vs Q E hr h => ?_)
  · obtain ⟨a, t, r, b, ds, ks, rfl, _⟩ := h
    rfl
  · obtain ⟨a, t, r, b, ds, ks, rfl, S, q⟩ := h
    obtain ⟨⟨dx, hins⟩, _⟩ := id S
    exact ⟨_, pss_one (ps_ret (pe_fld (pv 0) rfl)), .ref a, rfl, a, C, dx, _, .ref r, rfl, hins, c, n, lk_bars, q⟩
theorem scLn : FnScope ["self"] ["self"] (defScope sLen) := ⟨rfl, rfl, rfl, by decide +kernel, rfl, by decide +kernel, by decide +kernel⟩
theorem ok_len {f C : Addr} {fd : FuncData} (F : Fun K "__len__" "Scheme.__len__" sLen f fd) (c : Cls K C) (n : NoAttr K C "_digits") (ml : mg "len" = none) : FnOk P w K mg base CX0 1 f fd ["self"] (spLn C) := by
  refine F.ok scLn (fun vs H Q E h => ?_) (fun cdv A outer s H vs Q E hr h => ?_)
  · obtain ⟨a, t, r, b, ds, ks, rfl, _⟩ := h
    rfl
  · obtain ⟨a, t, r, b, ds, ks, rfl, S, q⟩ := h
    obtain ⟨⟨dx, hins⟩, ht, _⟩ := id S
    refine ⟨_, pss_one (ps_ret (pe_callB call_len_seq (by rfl) ml PySem.boot_len (pa_cons (pe_fld (pv 0) rfl) pa_nil))), .ref a, rfl, a, C, dx, _, .ref t, rfl, hins, c, n, lk_digits, t, _, rfl, .inr (SqT.of ht), ?_⟩
    rw [List.length_map]
    exact q
end
end K19
namespace K19
open PySem PySem.Spec PyProof.Rows L2 OF
section
variable {P : Program} {w : World} {K : PySem.W.Frag} {mg : Str → Option Value} {base : Heap}
/-- allows -/
def spAllows (C : Addr) : Sp := fun vs H Q _ => ∃ (a t r : Addr) (b : Int) (ds : List Int) (ks : List (Addr × (Int × Int))) (x y : V), vs = [.ref a, x, y] ∧ SchemeAt C H a t r b ds ks ∧
  ((Odd H x ∧ ∀ H', Same H H' → Q (.bl false) H') ∨ ∃ n : Int, x = .int n ∧
    ((y = .non ∧ ∀ H', Same H H' → Q (.bl (isOne ds n)) H') ∨ (∃ m : Int, y = .int m ∧ ∀ H', Same H H' → Q (.bl (isOne ds n && (isOne ds m && !hasBar ks n m))) H') ∨ (Odd H y ∧ y ≠ .non ∧ ∀ H', Same H H' → Q (.bl false) H')))
theorem scAl : FnScope ["self", "left", "right"] ["self", "left", "right"] (defScope sAllows) := ⟨rfl, rfl, rfl, by decide +kernel, rfl, by decide +kernel, by decide +kernel⟩
theorem ok_allows {f fO C : Addr} {fd fdO : FuncData} (F : Fun K "allows" "Scheme.allows" sAllows f fd) (c : Cls K C) (n2 : NoAttr K C "_digits") (n3 : NoAttr K C "_bars")
    (GO : FnOk P w K mg base CX0 4 fO fdO ["digits", "value"] (spOneOf K)) (gO : mg "_is_one_of" = some (.ref fO)) (kO : PySem.W.keepIn K (.ref fO) = true) (bO : Binds K fdO ["digits", "value"] []) : FnOk P w K mg base CX0 5 f fd ["self", "left", "right"] (spAllows C) := by
  refine F.ok scAl (fun vs H Q E h => ?_) (fun cdv A outer s H vs Q E hr h => ?_)
  · obtain ⟨a, t, r, b, ds, ks, x, y, rfl, _⟩ := h
    rfl
  · obtain ⟨a, t, r, b, ds, ks, x, y, rfl, ⟨⟨dx, ha⟩, ht, hrr, hks⟩, h⟩ := h
    have hu : A.units + 3 + 65 < cLine := by
      have := hr.un
      have e : (A.deeper (envOfC "Scheme.allows" (defScope sAllows) s.heap.objs.size f cdv)).units = A.units + 3 := rfl
      omega
    apply Exists.intro
    apply And.intro
    · apply pss_cons
      · exact ps_if (pt_not (pt_val (pe_call GO hr (by rfl) gO kO bO .nil pass0 (pa_cons (pe_fld (pv 0) rfl) (pa_cons (pv 1) pa_nil))))) (pss_one (ps_ret pe_bl)) pss_nil
      apply pss_cons
      · exact ps_if (pt_cmpR op_isN (pv 2) pe_non (nomark _)) (pss_one (ps_ret pe_bl)) pss_nil
      apply pss_one
      · exact ps_ret (pe_and (pe_call GO hr (by rfl) gO kO bO .nil pass0 (pa_cons (pe_fld (pv 0) rfl) (pa_cons (pv 2) pa_nil))) (pe_one (pe_cmpR (op_notInT hu) (pe_tup (pa_cons (pv 1) (pa_cons (pv 2) pa_nil))) (pe_fld (pv 0) rfl) rfl)))
    rcases h with ⟨o, q⟩ | ⟨n, rfl, h⟩
    · refine ⟨.ref a, rfl, a, C, dx, _, .ref t, rfl, ha, c, n2, lk_digits, x, rfl, t, ds, x, rfl, SqT.of ht, .inr ⟨o, false, rfl, iteT ?_⟩⟩
      exact q H (Same.refl H)
    · refine ⟨.ref a, rfl, a, C, dx, _, .ref t, rfl, ha, c, n2, lk_digits, .int n, rfl, t, ds, .int n, rfl, SqT.of ht, .inl ⟨n, rfl, _, rfl, ?_⟩⟩
      cases hb : (dig n && decide (n ∈ ds)) with
      | false =>
        refine iteT ?_
        have e1 : isOne ds n = false := hb
        rcases h with ⟨_, q⟩ | ⟨m, _, q⟩ | ⟨_, _, q⟩
        · have z := q H (Same.refl H)
          rw [e1] at z
          exact z
        · have z := q H (Same.refl H)
          rw [e1] at z
          exact z
        · exact q H (Same.refl H)
      | true =>
        refine iteF ?_
        have e1 : isOne ds n = true := hb
        rcases h with ⟨rfl, q⟩ | ⟨m, rfl, q⟩ | ⟨o, ny, q⟩
        · have z := q H (Same.refl H)
          rw [e1] at z
          exact ⟨.non, rfl, rfl, _, rfl, iteTB (decide_eq_true rfl) z⟩
        · refine ⟨.int m, rfl, rfl, _, rfl, iteFB (decide_eq_false (fun z => nomatch z)) ?_⟩
          refine ⟨.ref a, rfl, a, C, dx, _, .ref t, rfl, ha, c, n2, lk_digits, .int m, rfl, t, ds, .int m, rfl, SqT.of ht, .inl ⟨m, rfl, _, rfl, ?_⟩⟩
          cases hm : (dig m && decide (m ∈ ds)) with
          | false =>
            refine iteF ?_
            have e2 : isOne ds m = false := hm
            have z := q H (Same.refl H)
            rw [e1, e2] at z
            exact z
          | true =>
            refine iteT ?_
            have e2 : isOne ds m = true := hm
            refine ⟨.int n, rfl, .int m, rfl, (by show 2 ≤ sizeLine; decide), fun T hT => ?_⟩
            have s1 := same_new (o := .tup [.int n, .int m]) hT
            have z := q _ s1
            rw [e1, e2] at z
            refine ⟨.ref a, rfl, a, C, dx, _, .ref r, rfl, s1 _ _ ha, c, n3, lk_bars, pd2 (n, m), (ks.map fun (p : Addr × (Int × Int)) => pd2 p.2), .tup (SqT.of upd_same) (.cons (.int n) (.cons (.int m) .nil)), .tup (SqT.of (s1 _ _ hrr)) (bars_dp ks fun p hp => s1 _ _ (hks p hp)), pd2_shaped _, bars_shaped ks, (by rw [Bool.true_and, Bool.true_and] at z; exact z)⟩
        · refine ⟨y, rfl, rfl, _, rfl, iteFB (decide_eq_false ny) ?_⟩
          exact ⟨.ref a, rfl, a, C, dx, _, .ref t, rfl, ha, c, n2, lk_digits, y, rfl, t, ds, y, rfl, SqT.of ht, .inr ⟨o, _, rfl, iteF (q H (Same.refl H))⟩⟩
/-! ### row in scheme -/
/-- what allows says of two values -/
def jdg (ds : List Int) (ks : List (Addr × (Int × Int))) : V → V → Bool
  | .int n, .non => isOne ds n
  | .int n, .int m => isOne ds n && (isOne ds m && !hasBar ks n m)
  | _, _ => false
def rowB (ds : List Int) (ks : List (Addr × (Int × Int))) (xs : List V) : Bool := (xs.zip (xs.tail ++ [V.non])).all fun p => jdg ds ks p.1 p.2
theorem allows_of {C : Addr} {H : Hp} {a t r : Addr} {b : Int} {ds : List Int} {ks : List (Addr × (Int × Int))} {x y : V} {Q : VK} {E : XK} (S : SchemeAt C H a t r b ds ks) (hx : ItemOk H x) (hy : ItemOk H y ∨ y = .non) (q : ∀ H', Same H H' → Q (.bl (jdg ds ks x y)) H') :
    spAllows C [.ref a, x, y] H Q E := by
  refine ⟨a, t, r, b, ds, ks, x, y, rfl, S, ?_⟩
  rcases hx with ⟨n, rfl⟩ | o
  · refine .inr ⟨n, rfl, ?_⟩
    rcases hy with (⟨m, rfl⟩ | o) | rfl
    · exact .inr (.inl ⟨m, rfl, q⟩)
    · by_cases e : y = .non
      · subst e
        exact .inl ⟨rfl, q⟩
      · refine .inr (.inr ⟨o, e, fun H' s => ?_⟩)
        have z := q H' s
        have e2 : jdg ds ks (.int n) y = false := by
          cases o with
          | non => exact absurd rfl e
          | bl b => rfl
          | str z => rfl
          | lst e => rfl
          | tup e => rfl
          | dK e => rfl
        rw [e2] at z
        exact z
    · exact .inl ⟨rfl, q⟩
  · refine .inl ⟨o, fun H' s => ?_⟩
    have z := q H' s
    have e2 : jdg ds ks x y = false := by
      cases o with
      | non => rfl
      | bl b => rfl
      | str z => rfl
      | lst e => rfl
      | tup e => rfl
      | dK e => rfl
    rw [e2] at z
    exact z
end
end K19
/-! Dicts whose keys are None and ints, and those whose keys are tuples of such. -/
namespace OF
open PySem PySem.Spec PyProof.Rows L2
/-- a key: None or an int -/
abbrev KeyN := Option Int
def nV : KeyN → V
  | none => .non
  | some i => .int i
def nIs : KeyN → Value → Bool
  | none, .none => true
  | some i, v => Value.isInt i v
  | _, _ => false
def nHash : KeyN → Int
  | none => 0xFCA86420
  | some i => hashInt i
theorem nIs_shape : ∀ {k : KeyN} {v : Value}, nIs k v = true → (k = none ∧ v = .none) ∨ ∃ i t, k = some i ∧ v = .int i t
  | none, v, h => by
    cases v <;> first | exact .inl ⟨rfl, rfl⟩ | exact nomatch h
  | some i, v, h => by
    obtain ⟨t, e⟩ := Value.isInt_shape (k := i) (v := v) h
    exact .inr ⟨i, t, rfl, e⟩
section
variable {prog : Program} {w : World} {A : Around} {E : Value → Shared → Prop} {s : Shared}
theorem wpAny_pyHash_none {Q : Int → Shared → Prop} (h : Q 0xFCA86420 { s with toks := s.toks + 1 }) : wpAny (model prog w) A (pyHash .none) Q E s := by
  have T : s.TypeIs .none "NoneType" := rfl
  have seen := F.slot_NoneType_hash
  unfold pyHash pyHashByItsType
  refine wpAny_bind ?_
  rw [cRoomFor, if_neg (by exact Bool.false_ne_true)]
  refine wpAny_pure ?_
  refine wpAny_bind (wpAny_specialOf T seen.lookup ?_)
  show wpAny _ _ (if (some (Value.builtin "NoneType.__hash__") == some Value.none) = true then _ else _) Q E s
  rw [if_neg (by rw [beq_builtin_none]; exact Bool.false_ne_true)]
  refine wpAny_bind (wpAny_specialOf T seen.lookup ?_)
  show wpAny _ _ (callSpecialIfBoundUnlessNone? .none "__hash__" _ >>= _) Q E s
  refine wpAny_bind (wpAny_callSpecialIfBoundUnlessNone?_slot T seen
    (wpAny_call_entry seen T F.entry_NoneType_hash (show wpAny _ _ (do ret (← mkInt 0xFCA86420)) _ _ s from wpAny_ret_mkInt ?_) (F.args_NoneType_hash_1 _)))
  show wpAny _ _ (if (decide (-(2 : Int) ^ 63 ≤ (0xFCA86420 : Int)) && decide ((0xFCA86420 : Int) < 2 ^ 63)) = true then _ else _) Q E _
  rw [if_pos (by decide)]
  exact wpAny_pure h
end
/-- the keys None and the ints, as kinds of keys go -/
def nKind (prog : Program) (w : World) : PySem.KeyKind prog w KeyN where
  is := nIs
  hash := nHash
  inj := fun v a b ha hb => by
    rcases nIs_shape ha with ⟨rfl, rfl⟩ | ⟨i, t, rfl, rfl⟩ <;> rcases nIs_shape hb with ⟨rfl, e⟩ | ⟨j, u, rfl, e⟩
    · rfl
    · cases e
    · cases e
    · cases e
      rfl
  byValue := fun k v h => by
    rcases nIs_shape h with ⟨rfl, rfl⟩ | ⟨i, t, rfl, rfl⟩ <;> rfl
  pyHash := fun hv h => by
    rcases nIs_shape hv with ⟨rfl, rfl⟩ | ⟨i, t, rfl, rfl⟩
    · exact wpAny_pyHash_none h
    · exact wpAny_pyHash_int h
  eqBool := fun hu hv h => by
    rcases nIs_shape hu with ⟨rfl, rfl⟩ | ⟨i, t, rfl, rfl⟩ <;> rcases nIs_shape hv with ⟨rfl, rfl⟩ | ⟨j, u, rfl, rfl⟩
    · unfold eqBool
      refine wpAny_holding ?_
      exact wpAny_ite_split (fun _ => wpAny_bind (wpAny_rule (wpAny_pure h))) (fun ne => absurd rfl ne)
    · exact SeqAt.EqAt.none_int j u _ _ _ _ h
    · exact SeqAt.EqAt.int_none i t _ _ _ _ h
    · refine wpAny_eqBool_int ?_
      have z : decide ((some i : KeyN) = some j) = (i == j) := by
        by_cases e : i = j
        · subst e
          simp
        · rw [decide_eq_false (fun q => e (Option.some.inj q))]
          exact (beq_eq_false_iff_ne.mpr e).symm
      rw [← z]
      exact h
  «strs» := fun k x t v h => by
    rcases nIs_shape h with ⟨_, e⟩ | ⟨_, _, _, e⟩ <;> cases e
theorem nV_is {prog : Program} {w : World} {k : KeyN} {u : Value} (r : RelV (nV k) u) : (nKind prog w).is k u = true := by
  cases k with
  | none =>
    cases (show u = Value.none from r)
    rfl
  | some i =>
    obtain ⟨t, rfl⟩ := (show ∃ t, u = Value.int i t from r)
    show Value.isInt i (Value.int i t) = true
    simp [Value.isInt]
end OF
/-! Tracked dicts whose keys are None and ints. -/
namespace OF
open PySem PySem.Spec PyProof.Rows L2
theorem nV_inj {a b : KeyN} (e : nV a = nV b) : a = b := by
  cases a <;> cases b <;> first | rfl | cases e <;> rfl
def dnAt (P : Program) (w : World) (a : Addr) (kvs : List (KeyN × V)) (h : Heap) : Prop :=
  kvs.length ≤ sizeLine ∧ (a == sysModules) = false ∧ ∃ vs, KV kvs vs ∧ h.DictOf (nKind P w) a vs
/-- the dict at a: its keys None and ints -/
def dN (P : Program) (w : World) (a : Addr) (kvs : List (KeyN × V)) : HO := .ext (dnAt P w a kvs)
section
variable {P : Program} {w : World} {H : Hp} {h h' : Heap} {a : Addr} {kvs : List (KeyN × V)}
theorem dn_stays {h1 h2 : Heap} (x : dnAt P w a kvs h1) (k : ∀ o, h1.get? a = some o → h2.get? a = some o) : dnAt P w a kvs h2 := by
  obtain ⟨z, n, vs, r, o, es, ep, e, c⟩ := x
  exact ⟨z, n, vs, r, o, es, ep, k _ e, c⟩
theorem dn_obj (x : dnAt P w a kvs h) : ObjOk P w H h a (dN P w a kvs) := by
  have there : ∃ o, h.get? a = some o := by
    obtain ⟨_, _, _, _, o, _, _, e, _⟩ := x
    exact ⟨o, e⟩
  exact ⟨x, there, fun h1 h2 y k => dn_stays y k⟩
theorem dn_rd (ok : HOk P w H h) (e : Rd H a (dN P w a kvs)) : dnAt P w a kvs h := (show ObjOk P w H h a (dN P w a kvs) from e.ok ok).1
theorem dn_of (ok : HOk P w H h) (e : H a = some (dN P w a kvs)) : dnAt P w a kvs h := dn_rd ok (.inl e)
end
section
variable {X : Cx} {pos : Pos}
/-- d[k], there -/
def rIxN (X : Cx) : R2 := fun x y H Q => ∃ (a : Addr) (kvs : List (KeyN × V)) (k : KeyN) (v : V), x = .ref a ∧ y = nV k ∧ Rd H a (dN X.prog X.w a kvs) ∧ valV kvs k = some v ∧ Q v H
def rInN (X : Cx) : R2 := fun y x H Q => ∃ (a : Addr) (kvs : List (KeyN × V)) (k : KeyN), x = .ref a ∧ y = nV k ∧ Rd H a (dN X.prog X.w a kvs) ∧ Q (.bl (valV kvs k).isSome) H
def rNotInN (X : Cx) : R2 := fun y x H Q => ∃ (a : Addr) (kvs : List (KeyN × V)) (k : KeyN), x = .ref a ∧ y = nV k ∧ Rd H a (dN X.prog X.w a kvs) ∧ Q (.bl (!(valV kvs k).isSome)) H
theorem op_inN : OpR X (compareOp .In) (rInN X) := by
  intro pins s σ H y x u v Q I ry rx q
  obtain ⟨a, kvs, k, rfl, rfl, e, q⟩ := q
  cases (show v = Value.ref a from rx)
  obtain ⟨z, n, vs, rel, dd⟩ := dn_rd I.hok e
  have told := (rel.val k).isSome_eq
  refine wpAny_in_of (nV_is ry) n dd.mapOf ?_
  rw [← told]
  exact ⟨.bl _, H, I.tok _, rfl, q⟩
theorem op_notInN : OpR X (compareOp .NotIn) (rNotInN X) := by
  intro pins s σ H y x u v Q I ry rx q
  obtain ⟨a, kvs, k, rfl, rfl, e, q⟩ := q
  cases (show v = Value.ref a from rx)
  obtain ⟨z, n, vs, rel, dd⟩ := dn_rd I.hok e
  have told := (rel.val k).isSome_eq
  refine wpAny_notIn_of (nV_is ry) n dd.mapOf ?_
  rw [← told]
  exact ⟨.bl _, H, I.tok _, rfl, q⟩
/-- d[k] = v -/
def rSetN (X : Cx) : TSet := fun o i v H Q => ∃ (a : Addr) (kvs : List (KeyN × V)) (k : KeyN), o = .ref a ∧ i = nV k ∧ H a = some (dN X.prog X.w a kvs) ∧ kvs.length < sizeLine ∧ Q (upd H a (dN X.prog X.w a (putK kvs k v)))
theorem set_dictN : PSet X (rSetN X) := by
  intro pins s σ H o i v ov iv u Q I ro ri rv q
  obtain ⟨a, kvs, k, rfl, rfl, e, few, q⟩ := q
  cases (show ov = Value.ref a from ro)
  obtain ⟨z, n, vs, rel, dd⟩ := dn_of I.hok e
  have same := rel.length
  have grown := length_putK kvs k v
  refine wpAny_setItem_pairs (hsz := by omega) (nV_is ri) dd fun h' dd' hs => ⟨_, ?_, q⟩
  have there : ∃ o, h'.get? a = some o := by
    obtain ⟨o, _, _, e2, _⟩ := dd'
    exact ⟨o, e2⟩
  exact d_write I (by rw [e]; exact True.intro) hs there (dn_obj ⟨by omega, n, _, rel.put k rv, dd'⟩)
theorem ix_dictN : IxR X (rIxN X) := by
  intro value slice pins s σ H x y v u Q I rx ry q hs
  obtain ⟨a, kvs, k, z, rfl, rfl, e, there, q⟩ := q
  cases (show v = Value.ref a from rx)
  obtain ⟨few, n, vs, rel, dd⟩ := dn_rd I.hok e
  have got := rel.val k
  rw [there] at got
  obtain ⟨z2, e2, r2⟩ := RelO.some_of got
  exact tail_any dd.typeIs slot_dict_getitem.lookup (wpAny_getItem_of (nV_is ry) dd.mapOf e2 ⟨z, H, I.tok _, r2, q⟩) hs
/-- {} whose keys will be None and ints -/
def tDNewN (X : Cx) : TE := fun _ H Q => ∀ p, H p = none → Q (.ref p) (upd H p (dN X.prog X.w p []))
theorem pe_dnewN : PE X (.Dict [] [] pos) (tDNewN X) := by
  refine ⟨fun pins s σ H Q I q => wpAny_Dict_empty ?_⟩
  have free : H s.heap.objs.size = none := I.hok.fresh (Nat.le_refl _)
  have apart : (s.heap.objs.size == sysModules) = false := beq_eq_false_iff_ne.mpr (Ne.symm (Nat.ne_of_lt I.big))
  exact ⟨.ref _, _, I.laid (a := s.heap.objs.size) (o := dN X.prog X.w s.heap.objs.size []) (t' := s.toks) (fun _ _ z => Heap.get?_push_of_some _ z) (Nat.le_refl _) (dn_obj ⟨Nat.zero_le _, apart, [], .nil, Heap.DictOf.new _⟩), rfl, q _ free⟩
end
/-! ### keys that are tuples of None and ints -/
def dtAt (P : Program) (w : World) (a : Addr) (kvs : List (List KeyN × Addr × V)) (h : Heap) : Prop :=
  kvs.length ≤ sizeLine ∧ (a == sysModules) = false ∧ ∃ xs : List (List KeyN × Addr × Value), Paired (fun (p : List KeyN × Addr × V) (q : List KeyN × Addr × Value) => p.1 = q.1 ∧ p.2.1 = q.2.1 ∧ RelV p.2.2 q.2.2) kvs xs ∧
    ∃ o es ep, h.get? a = some o ∧ o.ExactDict ∧ o.data = .dict es ep ∧ es.toList = xs.map (entryOfKey (tupleKind (nKind P w))) ∧ (xs.map (·.1)).Nodup
/-- the dict at a: keys, where they stand, values -/
def dNT (P : Program) (w : World) (a : Addr) (kvs : List (List KeyN × Addr × V)) : HO := .ext (dtAt P w a kvs)
structure DictT (P : Program) (w : World) (H : Hp) (a : Addr) (kvs : List (List KeyN × Addr × V)) : Prop where
  at_ : Rd H a (dNT P w a kvs)
  ks : ∀ p ∈ kvs, H p.2.1 = some (.tup (p.1.map nV))
section
variable {P : Program} {w : World} {H : Hp} {h : Heap} {a b : Addr} {kvs : List (List KeyN × Addr × V)}
theorem dt_obj (x : dtAt P w a kvs h) : ObjOk P w H h a (dNT P w a kvs) := by
  have there : ∃ o, h.get? a = some o := by
    obtain ⟨_, _, _, _, o, _, _, e, _⟩ := x
    exact ⟨o, e⟩
  refine ⟨x, there, fun h1 h2 y k => ?_⟩
  obtain ⟨z, n, xs, r, o, es, ep, e, c⟩ := y
  exact ⟨z, n, xs, r, o, es, ep, k _ e, c⟩
theorem nItems : ∀ {ks : List KeyN} {us : List Value}, Vals (ks.map nV) us → ItemsAre (nKind P w) ks us
  | [], [], _ => .nil
  | k :: ks, u :: us, r => by
    cases r with
    | cons r1 r2 => exact .cons (nV_is r1) (nItems r2)
theorem nKey {ks : List KeyN} (ok : HOk P w H h) (e : H b = some (.tup (ks.map nV))) : (tupleKind (nKind P w)).is h ks b := by
  obtain ⟨_, us, r, o, e1, e2, n, e3⟩ := (show ObjOk P w H h b (.tup (ks.map nV)) from ok b _ e)
  exact ⟨o, us.toArray, n, e1, e2, e3, by simpa using nItems r⟩
theorem dnt_of (ok : HOk P w H h) (D : DictT P w H a kvs) : kvs.length ≤ sizeLine ∧ (a == sysModules) = false ∧ ∃ xs : List (List KeyN × Addr × Value), Paired (fun (p : List KeyN × Addr × V) (q : List KeyN × Addr × Value) => p.1 = q.1 ∧ p.2.1 = q.2.1 ∧ RelV p.2.2 q.2.2) kvs xs ∧ h.DictOfH (tupleKind (nKind P w)) a xs := by
  obtain ⟨z, n, xs, r, o, es, ep, e1, e2, e3, e4, e5⟩ := (show ObjOk P w H h a (dNT P w a kvs) from D.at_.ok ok).1
  refine ⟨z, n, xs, r, o, es, ep, e1, e2, e3, e4, ?_, e5⟩
  have each : ∀ {l : List (List KeyN × Addr × V)} {m : List (List KeyN × Addr × Value)}, Paired (fun (p : List KeyN × Addr × V) (q : List KeyN × Addr × Value) => p.1 = q.1 ∧ p.2.1 = q.2.1 ∧ RelV p.2.2 q.2.2) l m → (∀ p ∈ l, H p.2.1 = some (.tup (p.1.map nV))) → ∀ x ∈ m, (tupleKind (nKind P w)).is h x.1 x.2.1 := by
    intro l m r
    induction r with
    | nil => exact fun _ x hx => nomatch hx
    | @cons p q l m r1 _ ih =>
      intro K x hx
      rcases List.mem_cons.mp hx with rfl | hx
      · have t := K p List.mem_cons_self
        rw [r1.1, r1.2.1] at t
        exact nKey ok t
      · exact ih (fun p hp => K p (List.mem_cons_of_mem _ hp)) x hx
  exact each r D.ks
end
end OF
/-! Dicts whose keys are tuples of None and ints: asked, written, made. -/
namespace OF
open PySem PySem.Spec PyProof.Rows L2
abbrev KeyT := List KeyN × Addr × V
def getN (kvs : List KeyT) (k : List KeyN) : Option V := (kvs.find? fun p => decide (p.1 = k)).map (·.2.2)
def putN (kvs : List KeyT) (k : List KeyN) (b : Addr) (v : V) : List KeyT :=
  if (getN kvs k).isSome then kvs.map (fun p => if p.1 = k then (p.1, p.2.1, v) else p) else kvs ++ [(k, b, v)]
theorem putN_len (kvs : List KeyT) (k : List KeyN) (b : Addr) (v : V) : (putN kvs k b v).length ≤ kvs.length + 1 := by
  unfold putN
  split
  · rw [List.length_map]
    exact Nat.le_succ _
  · rw [List.length_append]
    exact Nat.le_refl _
theorem getN_nil (k : List KeyN) : getN [] k = none := rfl
theorem putN_new {kvs : List KeyT} {k : List KeyN} {b : Addr} {v : V} (h : getN kvs k = none) : putN kvs k b v = kvs ++ [(k, b, v)] := by
  unfold putN
  rw [h]
  rfl
abbrev KN : List KeyT → List (List KeyN × Addr × Value) → Prop := Paired (fun (p : List KeyN × Addr × V) (q : List KeyN × Addr × Value) => p.1 = q.1 ∧ p.2.1 = q.2.1 ∧ RelV p.2.2 q.2.2)
theorem KN.get {kvs : List KeyT} {xs : List (List KeyN × Addr × Value)} (r : KN kvs xs) (k : List KeyN) : RelO (getN kvs k) ((atKey xs k).map (·.2)) := by
  induction r with
  | nil => exact True.intro
  | @cons p q l m r1 _ ih =>
    unfold getN atKey at ih ⊢
    rw [List.find?_cons, List.find?_cons, ← r1.1]
    cases decide (p.1 = k) with
    | true => exact r1.2.2
    | false => exact ih
theorem KN.swap {kvs : List KeyT} {xs : List (List KeyN × Addr × Value)} (r : KN kvs xs) (k : List KeyN) {v : V} {u : Value} (rv : RelV v u) : KN (kvs.map fun p => if p.1 = k then (p.1, p.2.1, v) else p) (xs.map (putAt k u)) := by
  induction r with
  | nil => exact .nil
  | @cons p q l m r1 _ ih =>
    refine .cons ?_ ih
    unfold putAt
    rw [← r1.1]
    by_cases e : p.1 = k
    · simp only [if_pos e]
      exact ⟨trivial, r1.2.1, rv⟩
    · simp only [if_neg e]
      exact r1
theorem KN.put {kvs : List KeyT} {xs : List (List KeyN × Addr × Value)} (r : KN kvs xs) (k : List KeyN) (b : Addr) {v : V} {u : Value} (rv : RelV v u) : KN (putN kvs k b v) (storedH xs k b u) := by
  have same := (r.get k).isSome_eq
  rw [Option.isSome_map] at same
  unfold putN storedH
  rw [same]
  cases (atKey xs k).isSome with
  | true => exact r.swap k rv
  | false => exact Paired.snoc r ⟨rfl, rfl, rv⟩
section
variable {P : Program} {w : World} {H H' : Hp} {a : Addr} {kvs : List KeyT}
theorem DictT.stay (D : DictT P w H a kvs) (n : H' a = H a) (t : ∀ b xs, H b = some (.tup xs) → H' b = some (.tup xs)) : DictT P w H' a kvs := by
  refine ⟨?_, fun p hp => t _ _ (D.ks p hp)⟩
  rcases D.at_ with e | ⟨o, e⟩
  · exact .inl (n.trans e)
  · exact .inr ⟨o, n.trans e⟩
theorem DictT.same (D : DictT P w H a kvs) (s : Same H H') : DictT P w H' a kvs := by
  refine ⟨?_, fun p hp => s _ _ (D.ks p hp)⟩
  rcases D.at_ with e | ⟨o, e⟩
  · exact .inl (s _ _ e)
  · exact .inr ⟨o, s _ _ e⟩
theorem tup_off {o : HO} {c : Addr} {xs : List V} (e : H a = some (dNT P w a kvs)) (ec : H c = some (.tup xs)) : upd H a o c = some (.tup xs) := by
  rw [upd_ne]
  · exact ec
  · rintro rfl
    rw [e] at ec
    cases ec
theorem DictT.lock {o : Obj} (D : DictT P w H a kvs) (e : H a = some (dNT P w a kvs)) : DictT P w (upd H a (.frz o (dNT P w a kvs))) a kvs := ⟨.inr ⟨o, upd_same⟩, fun p hp => tup_off e (D.ks p hp)⟩
theorem DictT.put {k : List KeyN} {b : Addr} {v : V} (D : DictT P w H a kvs) (ea : H a = some (dNT P w a kvs)) (e : H b = some (.tup (k.map nV))) : DictT P w (upd H a (dNT P w a (putN kvs k b v))) a (putN kvs k b v) := by
  refine ⟨.inl upd_same, fun p hp => ?_⟩
  unfold putN at hp
  split at hp
  · obtain ⟨p0, h0, rfl⟩ := List.mem_map.mp hp
    have t := tup_off (o := dNT P w a (putN kvs k b v)) ea (D.ks p0 h0)
    split <;> exact t
  · rcases List.mem_append.mp hp with hp | hp
    · exact tup_off ea (D.ks p hp)
    · rw [List.mem_singleton.mp hp]
      exact tup_off ea e
end
section
variable {X : Cx} {pos : Pos}
def rIxNT (X : Cx) : R2 := fun x y H Q => ∃ (a : Addr) (kvs : List KeyT) (k : List KeyN) (b : Addr) (v : V), x = .ref a ∧ y = .ref b ∧ DictT X.prog X.w H a kvs ∧ H b = some (.tup (k.map nV)) ∧ getN kvs k = some v ∧ Q v H
def rInNT (X : Cx) : R2 := fun y x H Q => ∃ (a : Addr) (kvs : List KeyT) (k : List KeyN) (b : Addr), x = .ref a ∧ y = .ref b ∧ DictT X.prog X.w H a kvs ∧ H b = some (.tup (k.map nV)) ∧ Q (.bl (getN kvs k).isSome) H
def rNotInNT (X : Cx) : R2 := fun y x H Q => ∃ (a : Addr) (kvs : List KeyT) (k : List KeyN) (b : Addr), x = .ref a ∧ y = .ref b ∧ DictT X.prog X.w H a kvs ∧ H b = some (.tup (k.map nV)) ∧ Q (.bl (!(getN kvs k).isSome)) H
def rSetNT (X : Cx) : TSet := fun o i v H Q => ∃ (a : Addr) (kvs : List KeyT) (k : List KeyN) (b : Addr), o = .ref a ∧ i = .ref b ∧ DictT X.prog X.w H a kvs ∧ H a = some (dNT X.prog X.w a kvs) ∧ H b = some (.tup (k.map nV)) ∧ kvs.length < sizeLine ∧ Q (upd H a (dNT X.prog X.w a (putN kvs k b v)))
theorem ix_dictNT (hu : X.A.units + 1 < cLine) : IxR X (rIxNT X) := by
  intro value slice pins s σ H x y v u Q I rx ry q hs
  obtain ⟨a, kvs, k, b, z, rfl, rfl, D, eb, there, q⟩ := q
  cases (show v = Value.ref a from rx)
  cases (show u = Value.ref b from ry)
  obtain ⟨few, n, xs, rel, dd⟩ := dnt_of I.hok D
  have got := KN.get rel k
  rw [there] at got
  obtain ⟨z2, e2, r2⟩ := RelO.some_of got
  obtain ⟨p, e3, e4⟩ := Option.map_eq_some_iff.mp e2
  refine tail_any dd.typeIs slot_dict_getitem.lookup (wpAny_getItem_heap (tupleKind_room_in1 hu) (nKey I.hok eb) dd e3 ?_) hs
  rw [e4]
  exact ⟨z, H, I.tok _, r2, q⟩
theorem op_inNT (hu : X.A.units + 1 < cLine) : OpR X (compareOp .In) (rInNT X) := by
  intro pins s σ H y x u v Q I ry rx q
  obtain ⟨a, kvs, k, b, rfl, rfl, D, eb, q⟩ := q
  cases (show v = Value.ref a from rx)
  cases (show u = Value.ref b from ry)
  obtain ⟨few, n, xs, rel, dd⟩ := dnt_of I.hok D
  have told := (KN.get rel k).isSome_eq
  rw [Option.isSome_map] at told
  refine wpAny_in_heap (tupleKind_room_in1 hu) (nKey I.hok eb) n dd ?_
  rw [← told]
  exact ⟨.bl _, H, I.tok _, rfl, q⟩
theorem op_notInNT (hu : X.A.units + 1 < cLine) : OpR X (compareOp .NotIn) (rNotInNT X) := by
  intro pins s σ H y x u v Q I ry rx q
  obtain ⟨a, kvs, k, b, rfl, rfl, D, eb, q⟩ := q
  cases (show v = Value.ref a from rx)
  cases (show u = Value.ref b from ry)
  obtain ⟨few, n, xs, rel, dd⟩ := dnt_of I.hok D
  have told := (KN.get rel k).isSome_eq
  rw [Option.isSome_map] at told
  refine wpAny_notIn_heap (tupleKind_room_in1 hu) (nKey I.hok eb) n dd ?_
  rw [← told]
  exact ⟨.bl _, H, I.tok _, rfl, q⟩
theorem set_dictNT (hu : X.A.units + 1 < cLine) : PSet X (rSetNT X) := by
  intro pins s σ H o i v ov iv u Q I ro ri rv q
  obtain ⟨a, kvs, k, b, rfl, rfl, D, ea, eb, few, q⟩ := q
  cases (show ov = Value.ref a from ro)
  cases (show iv = Value.ref b from ri)
  obtain ⟨_, n, xs, rel, dd⟩ := dnt_of I.hok D
  have same := Paired.length rel
  have grown := putN_len kvs k b v
  refine wpAny_setItem_heap (hsz := by omega) (tupleKind_room_in1 hu) (nKey I.hok eb) dd fun h' dd' hs => ⟨_, ?_, q⟩
  obtain ⟨o, es, ep, e1, e2, e3, e4, _, e5⟩ := dd'
  exact d_write I (by rw [ea]; exact True.intro) hs ⟨o, e1⟩ (dt_obj ⟨by omega, n, _, KN.put rel k b rv, o, es, ep, e1, e2, e3, e4, e5⟩)
/-- {} whose keys will be tuples -/
def tDNewNT (X : Cx) : TE := fun _ H Q => ∀ p, H p = none → Q (.ref p) (upd H p (dNT X.prog X.w p []))
theorem pe_dnewNT : PE X (.Dict [] [] pos) (tDNewNT X) := by
  refine ⟨fun pins s σ H Q I q => wpAny_Dict_empty ?_⟩
  have free : H s.heap.objs.size = none := I.hok.fresh (Nat.le_refl _)
  have apart : (s.heap.objs.size == sysModules) = false := beq_eq_false_iff_ne.mpr (Ne.symm (Nat.ne_of_lt I.big))
  exact ⟨.ref _, _, I.laid (a := s.heap.objs.size) (o := dNT X.prog X.w s.heap.objs.size []) (t' := s.toks) (fun _ _ z => Heap.get?_push_of_some _ z) (Nat.le_refl _) (dt_obj ⟨Nat.zero_le _, apart, [], .nil, _, #[], 0, Heap.get?_push_size _ rfl, ⟨rfl, rfl, rfl⟩, rfl, rfl, List.nodup_nil⟩), rfl, q _ free⟩
end
end OF
/-! {k: v}, k a tuple of None and ints. -/
namespace OF
open PySem PySem.Spec PyProof.Rows L2
section
variable {X : Cx} {pos : Pos}
/-- {k: v}: the dict stands empty while the pair is made -/
def tD1NT (X : Cx) (tk tv : TE) : TE := fun σ H Q => ∀ p, H p = none → tk σ (upd H p (dNT X.prog X.w p [])) fun x H1 => tv σ H1 fun y H2 =>
  ∃ (k : List KeyN) (b : Addr), x = .ref b ∧ H2 p = some (dNT X.prog X.w p []) ∧ H2 b = some (.tup (k.map nV)) ∧ Q (.ref p) (upd H2 p (dNT X.prog X.w p [(k, b, y)]))
theorem pe_disp1NT {k v : Expr} {tk tv : TE} (hu : X.A.units < cLine) (hk : PE X k tk) (hv : PE X v tv) : PE X (.Dict [some k] [v] pos) (tD1NT X tk tv) := by
  refine ⟨fun pins s σ H Q I q => ?_⟩
  have free : H s.heap.objs.size = none := I.hok.fresh (Nat.le_refl _)
  have apart : (s.heap.objs.size == sysModules) = false := beq_eq_false_iff_ne.mpr (Ne.symm (Nat.ne_of_lt I.big))
  have made : ObjOk X.prog X.w (upd H s.heap.objs.size (dNT X.prog X.w s.heap.objs.size [])) (s.heap.push { cls := .type "dict", data := .dict #[] }) s.heap.objs.size (dNT X.prog X.w s.heap.objs.size []) :=
    dt_obj ⟨Nat.zero_le _, apart, [], .nil, _, #[], 0, Heap.get?_push_size _ rfl, ⟨rfl, rfl, rfl⟩, rfl, rfl, List.nodup_nil⟩
  have I1 := I.laid (a := s.heap.objs.size) (o := dNT X.prog X.w s.heap.objs.size []) (t' := s.toks) (fun _ _ z => Heap.get?_push_of_some _ z) (Nat.le_refl _) made
  have pairs : PPs X pos [some k] [v] [(tk, tv)] := pps_cons hk hv pps_nil
  have run := pairs.run pins _ σ _ (fun ps H2 => match ps with
    | [(x, y)] => ∃ (k : List KeyN) (b : Addr), x = .ref b ∧ H2 s.heap.objs.size = some (dNT X.prog X.w s.heap.objs.size []) ∧ H2 b = some (.tup (k.map nV)) ∧ Q (.ref s.heap.objs.size) (upd H2 s.heap.objs.size (dNT X.prog X.w s.heap.objs.size [(k, b, y)]))
    | _ => False) I1 (q _ free)
  have one : (pairTrees [some k] [v] X.env pos).length = 1 := rfl
  rw [arm_eval_Dict, zip_pairTrees [some k] [v] X.env pos rfl rfl, dictDisplay_pairs (pairTrees [some k] [v] X.env pos) (fun z => nomatch z) (by rw [one]; decide)]
  refine wpAny_bind (wpAny_standAt (wpAny_bind (wpAny_subDictH (knd := tupleKind (nKind X.prog X.w)) hu (by rw [one]; decide) (thn run fun ws s2 got => ?_))))
  obtain ⟨ps, H2, I2, rel, fin⟩ := got
  cases rel with
  | nil => exact fin.elim
  | @cons p0 w0 ps ws r1 r2 =>
    cases r2 with
    | cons _ _ => exact fin.elim
    | nil =>
      obtain ⟨x, y⟩ := p0
      obtain ⟨u0, u1⟩ := w0
      obtain ⟨ks, b, rfl, eD, eb, fin⟩ := fin
      cases (show u0 = Value.ref b from r1.1)
      have D2 : DictT X.prog X.w H2 s.heap.objs.size [] := ⟨.inl eD, fun p hp => nomatch hp⟩
      obtain ⟨few, n, xs, rel, dd⟩ := dnt_of I2.hok D2
      cases rel
      refine ⟨[(ks, b, u1)], ⟨rfl, rfl, nKey I2.hok eb, True.intro⟩, dd, fun h' tk' dd' hs => ?_⟩
      obtain ⟨o, es, ep, e1, e2, e3, e4, _, e5⟩ := dd'
      refine wpAny_pure ⟨.ref s.heap.objs.size, _, d_write I2 (by rw [eD]; exact True.intro) hs ⟨o, e1⟩ (dt_obj ⟨by show 1 ≤ sizeLine; decide, n, _, KN.put (.nil : KN [] []) ks b r1.2, o, es, ep, e1, e2, e3, ?_, ?_⟩), rfl, fin⟩
      · exact e4
      · exact e5
end
end OF
/-! list(d), len(d), `not d` of dicts whose keys are tuples of None and ints. -/
namespace OF
open PySem PySem.Spec PyProof.Rows L2
theorem KN.addr {kvs : List KeyT} {xs : List (List KeyN × Addr × Value)} (r : KN kvs xs) : kvs.map (·.2.1) = xs.map (·.2.1) := by
  induction r with
  | nil => rfl
  | cons r1 _ ih => rw [List.map_cons, List.map_cons, ih, r1.2.1]
section
variable {X : Cx}
theorem call_listNT (hc : X.calm = true) : CallR X (.type "list") (fun vs H Q => ∃ (a : Addr) (kvs : List KeyT), vs = [V.ref a] ∧ DictT X.prog X.w H a kvs ∧ ∀ p, H p = none → Q (.ref p) (upd H p (.lst (kvs.map fun z => V.ref z.2.1)))) := by
  intro pins s σ H vs us Q I r q
  obtain ⟨a, kvs, rfl, D, q⟩ := q
  obtain ⟨u, rfl, rx⟩ := r.one
  cases rx
  obtain ⟨few, n, xs, rel, o, es, ep, e1, e2, e3, e4, _, _⟩ := dnt_of I.hok D
  have c1 : es.size = xs.length := size_of_entries e4
  have c2 : kvs.length = xs.length := Paired.length rel
  refine PySem.W.kdl_call (kdl_raw n e2 e3) (I.ok.hd hc) e1 (by omega) fun h' tk out cap kept made held => ?_
  have all : out.toList = (kvs.map fun z => z.2.1).map Value.ref := by
    rw [KN.addr rel]
    refine List.ext_getElem? fun j => ?_
    rw [List.getElem?_map, List.getElem?_map]
    have same : out.toList.length = xs.length := by rw [Array.length_toList, held.1, c1]
    by_cases hj : j < xs.length
    · have h1 : out.toList[j]? = some out.toList[j] := List.getElem?_eq_getElem (by omega)
      obtain ⟨en, h2, h3⟩ := held.2 j _ (by rw [← Array.getElem?_toList]; exact h1)
      have h4 := entry_at e4 j
      rw [h2, List.getElem?_eq_getElem hj] at h4
      have h5 : en = entryOfKey (tupleKind (nKind X.prog X.w)) xs[j] := Option.some.inj h4
      rw [h1, h3, h5, List.getElem?_eq_getElem hj]
      rfl
    · rw [List.getElem?_eq_none (by omega), List.getElem?_eq_none (by omega)]
      rfl
  have vals : Vals (kvs.map fun z => V.ref z.2.1) out.toList := by
    rw [all, show (kvs.map fun z => V.ref z.2.1) = (kvs.map fun z => z.2.1).map V.ref by rw [List.map_map]; rfl]
    exact vals_refs _
  refine ⟨.ref s.heap.objs.size, _, I.laid (t' := tk) (o := .lst (kvs.map fun z => V.ref z.2.1)) kept (Nat.le_refl _) ⟨by rw [List.length_map]; exact few, out.toList, cap, vals, ?_⟩, rfl, q _ (I.hok.fresh (Nat.le_refl _))⟩
  rw [Array.toArray_toList]
  exact made
end
end OF
/-! {k: v for .. in ..} into a dict of any kind that is tracked. -/
namespace OF
open PySem PySem.Spec PyProof.Rows L2
/-- a kind of dict: how it stands empty, how a pair is put in -/
structure DKind (P : Program) (w : World) where
  emp : Addr → HO
  put : Addr → V → V → Hp → (Hp → Prop) → Prop
  emp_ok : ∀ (H : Hp) (h : Heap), sysModules < h.objs.size → ObjOk P w H (h.push { cls := .type "dict", data := .dict #[] }) h.objs.size (emp h.objs.size)
  put_ok : ∀ {X : Cx}, X.prog = P → X.w = w → X.A.units < cLine → ∀ {pins : List (Addr × Obj)} {σ : L2.St} {H : Hp} {s : Shared} {E : Value → Shared → Prop} {D : Addr} {y z : V} {u r : Value} {N : Hp → Prop}, Inv X pins σ H s → RelV y u → RelV z r → put D y z H N →
    wpAny (model X.prog X.w) X.A (dictSet D u r) (fun _ s' => ∃ H', Inv X pins σ H' s' ∧ N H') E s
def kN (P : Program) (w : World) : DKind P w where
  emp := fun a => dN P w a []
  put := fun D y z H N => ∃ (kvs : List (KeyN × V)) (k : KeyN), y = nV k ∧ H D = some (dN P w D kvs) ∧ kvs.length < sizeLine ∧ N (upd H D (dN P w D (putK kvs k z)))
  emp_ok := fun H h big => dn_obj ⟨Nat.zero_le _, beq_eq_false_iff_ne.mpr (Ne.symm (Nat.ne_of_lt big)), [], .nil, Heap.DictOf.new _⟩
  put_ok := by
    rintro X rfl rfl hu pins σ H s E D y z u r N I ry rz ⟨kvs, k, rfl, e, few, n⟩
    obtain ⟨_, apart, vs, rel, dd⟩ := dn_of I.hok e
    have same := rel.length
    have grown := length_putK kvs k z
    refine wpAny_dictSet_pairs (hsz := by omega) (nV_is ry) dd fun h' dd' hs => ⟨_, ?_, n⟩
    have there : ∃ o, h'.get? D = some o := by
      obtain ⟨o, _, _, e2, _⟩ := dd'
      exact ⟨o, e2⟩
    exact d_write I (by rw [e]; exact True.intro) hs there (dn_obj ⟨by omega, apart, _, rel.put k rz, dd'⟩)
def kNT (P : Program) (w : World) : DKind P w where
  emp := fun a => dNT P w a []
  put := fun D y z H N => ∃ (kvs : List KeyT) (k : List KeyN) (b : Addr), y = .ref b ∧ DictT P w H D kvs ∧ H D = some (dNT P w D kvs) ∧ H b = some (.tup (k.map nV)) ∧ kvs.length < sizeLine ∧ N (upd H D (dNT P w D (putN kvs k b z)))
  emp_ok := fun H h big => dt_obj ⟨Nat.zero_le _, beq_eq_false_iff_ne.mpr (Ne.symm (Nat.ne_of_lt big)), [], .nil, _, #[], 0, Heap.get?_push_size _ rfl, ⟨rfl, rfl, rfl⟩, rfl, rfl, List.nodup_nil⟩
  put_ok := by
    rintro X rfl rfl hu pins σ H s E D y z u r N I ry rz ⟨kvs, k, b, rfl, D0, ea, eb, few, n⟩
    cases (show u = Value.ref b from ry)
    obtain ⟨_, apart, xs, rel, dd⟩ := dnt_of I.hok D0
    have same := Paired.length rel
    have grown := putN_len kvs k b z
    refine wpAny_dictSet_heap (knd := tupleKind (nKind X.prog X.w)) (hsz := by omega) hu (nKey I.hok eb) dd fun h' dd' hs => ⟨_, ?_, n⟩
    obtain ⟨o, es, ep, e1, e2, e3, e4, _, e5⟩ := dd'
    exact d_write I (by rw [ea]; exact True.intro) hs ⟨o, e1⟩ (dt_obj ⟨by omega, apart, _, KN.put rel k b rz, o, es, ep, e1, e2, e3, e4, e5⟩)
end OF
/-! {k: v for .. in ..}: the rule, for each kind of dict. -/
namespace OF
open PySem PySem.Spec PyProof.Rows L2
section
variable {X : Cx}
/-- the new dict at D; each turn puts one pair in, or none -/
def tDcK {P : Program} {w : World} (κ : DKind P w) (wi : TI) (g : TG) (tt : TT) (tk tv : TE) (vs : List Nat) : TE := fun σ H Q => wi σ H fun J Ha => ∀ D, Ha D = none → ∃ V0 : Nat → Nat → Hp → Prop, (∃ m, V0 0 m (upd Ha D (κ.emp D))) ∧ ∀ i m Hb, V0 i m Hb →
  (J.stop i Hb ∧ Q (.ref D) Hb) ∨ (J.go i Hb ∧ ∃ N : Hp → Prop, (∀ Hc, N Hc → ∃ m', m' < m ∧ V0 (i + 1) m' Hc) ∧ ∀ x Hc, J.yld i Hb x Hc → g x (wipe σ vs) Hc fun σd Hd => wipe σd vs = wipe σ vs ∧ tt σd Hd fun b He =>
    if b = true then tk σd He fun y Hf => tv σd Hf fun z Hg => κ.put D y z Hg N else N He)
set_option maxHeartbeats 1000000 in
theorem pe_dcK {κ : DKind X.prog X.w} {kx vx tg iter : Expr} {ifs : List Expr} {scope : Scope} {own : List (Str × Nat)} {pos : Pos} {wi : TI} {g : TG} {tt : TT} {tk tv : TE} (hu : X.A.units < cLine) (hc : X.calm = true) (hN : X.N.Nodup) (hi : PI X tg iter wi) (ok : BlkOk X.N X.env.scope scope own)
    (hg : ∀ s H C cl fp, PG (X.blk s H scope (compEnvC scope cl C X.env) fp) tg g) (ht : ∀ s H C cl fp, PTs (X.blk s H scope (compEnvC scope cl C X.env) fp) ifs tt)
    (hk : ∀ s H C cl fp, PE (X.blk s H scope (compEnvC scope cl C X.env) fp) kx tk) (hv : ∀ s H C cl fp, PE (X.blk s H scope (compEnvC scope cl C X.env) fp) vx tv) (fold : ∀ x, foldedSetIterable iter X.env x = pure x := by intro _; rfl) :
    PE X (.DictComp kx vx [⟨tg, iter, ifs, 0⟩] scope pos) (tDcK κ wi g tt tk tv (own.map (·.2))) := by
  refine ⟨fun pins s σ H Q I h => ?_⟩
  rw [arm_eval_DictComp]
  have caught : ∀ y ∈ scope.names, y.2 = .free → ∃ c, X.env.cells.lookup y.1 = some c := fun y hy e => (ok.free y hy e).elim (fun k => I.ok.has _ (.inl k)) fun k => I.ok.has _ (.inr k)
  refine wpAny_comprehension_free (use := none) rfl fold (closure_ok caught) ok.kind (fun y hy e => by rw [ok.uniq y hy, e]) (thn (hi.run pins s σ H _ I h) fun xv sa hx => thn hx fun itv sb hb => ?_)
  obtain ⟨ita, fa, tna, J, Hb, rfl, Ib, T, stb, fb, q⟩ := hb
  refine wpAny_newObj_type (newEnv_comp ?_)
  generalize hD : sb.heap.objs.size = D
  have nD : Hb D = none := Ib.hok.fresh (Nat.le_of_eq hD)
  obtain ⟨V0, ⟨m0, w0⟩, turn⟩ := q D nD
  generalize hsc : ({ sb with heap := sb.heap.push { cls := .type "dict", data := .dict #[] } } : Shared) = sc
  have hsc' : sc.heap = sb.heap.push { cls := .type "dict", data := .dict #[] } := by rw [← hsc]
  have Ic : Inv X pins σ (upd Hb D (κ.emp D)) sc := by
    rw [← hsc, ← hD]
    exact Ib.laid (t' := sb.toks) (fun b o e => Heap.get?_push_of_some _ e) (Nat.le_refl _) (κ.emp_ok _ _ Ib.big)
  have small : ∀ b ∈ fa, b < sb.heap.objs.size := fun b hb => by
    obtain ⟨o, e, _⟩ := T.obj _ _ stb b hb
    exact Heap.lt_size e
  have fc : ∀ b ∈ fa, FpOk X pins (upd Hb D (κ.emp D)) b ∧ b < sc.heap.objs.size := fun b hb => by
    have lt := small b hb
    refine ⟨⟨?_, (fb b hb).2⟩, by rw [hsc', Heap.size_push]; exact Nat.lt_succ_of_lt lt⟩
    rw [upd_ne (by rw [← hD]; exact Nat.ne_of_lt lt)]
    exact (fb b hb).1
  have stc : tna 0 sc.heap := T.keep _ _ _ stb fun b _ o e => by
    rw [hsc']
    exact Heap.get?_push_of_some _ e
  have Id := block_start Ic ok hN fc
  have Gd := hg sc (upd Hb D (κ.emp D)) sc.heap.objs.size (cellsFrom (sc.heap.objs.size + 1) scope.names (cloFrom X.env.cells scope.names [])) fa
  have Td := ht sc (upd Hb D (κ.emp D)) sc.heap.objs.size (cellsFrom (sc.heap.objs.size + 1) scope.names (cloFrom X.env.cells scope.names [])) fa
  have Kd := hk sc (upd Hb D (κ.emp D)) sc.heap.objs.size (cellsFrom (sc.heap.objs.size + 1) scope.names (cloFrom X.env.cells scope.names [])) fa
  have Vd := hv sc (upd Hb D (κ.emp D)) sc.heap.objs.size (cellsFrom (sc.heap.objs.size + 1) scope.names (cloFrom X.env.cells scope.names [])) fa
  have clear0 : ∀ b ∈ fa, (upd Hb D (κ.emp D)) b = none := fun b hb => (fc b hb).1.1
  show codeAny _ _ (.compStart (.DictComp kx vx [⟨tg, iter, ifs, 0⟩] scope pos) 0 (.ref ita) (.ref D) (compEnvC scope (cellsFrom (sc.heap.objs.size + 1) scope.names (cloFrom X.env.cells scope.names [])) sc.heap.objs.size X.env)) _ _
  generalize hce : compEnvC scope (cellsFrom (sc.heap.objs.size + 1) scope.names (cloFrom X.env.cells scope.names [])) sc.heap.objs.size X.env = ce at Id Gd Td Kd Vd ⊢
  have cL : ce.locals = sc.heap.objs.size := by
    rw [← hce]
    rfl
  generalize hHc : upd Hb D (κ.emp D) = Hc at Ic Id Gd Td Kd Vd w0 clear0 fc
  generalize hsd : ({ sc with heap := pushCells (sc.heap.push { cls := .type "dict", data := .dict #[] }) scope.names } : Shared) = sd at Id ⊢
  have std : tna 0 sd.heap := T.keep _ _ _ stc fun b _ o e => by
    rw [← hsd]
    exact pushCells_keeps _ _ _ _ (Heap.get?_push_of_some _ e)
  have steady : ∀ {σ' : L2.St} {H' : Hp} {s' : Shared}, Inv (X.blk sc Hc scope ce fa) [] σ' H' s' → (∀ b ∈ fa, H' b = none) → ∀ b ∈ fa, FpOk (X.blk sc Hc scope ce fa) [] H' b := fun {σ' H' s'} I' nn b hb =>
    ⟨nn b hb, (I'.ok.exf b hb).1, I'.ok.exfs b hb, .inl hb, fun x c e => (I'.ok.exf b hb).2 x c e, fun p hp => nomatch hp⟩
  refine codeAny_compStart_dict ?loop (T.self X.A 0 _ _ _ std ?loop)
  refine compLoop_anyD (fun n s' => ∃ i H', Inv (X.blk sc Hc scope ce fa) [] (wipe σ (own.map (·.2))) H' s' ∧ tna i s'.heap ∧ (∀ b ∈ fa, H' b = none) ∧ V0 i n H') ?_ m0 ⟨0, Hc, Id, std, clear0, w0⟩
  rintro n se ⟨i, He, Ie, ste, ne, we⟩
  rcases turn i n He we with ⟨stop, qq⟩ | ⟨go, N, hNx, step⟩
  · refine thnF (T.done (X.blk sc Hc scope ce fa) rfl rfl rfl hc i [] se _ He (fun _ _ => False) Ie (steady Ie ne) ste stop) fun r sf ⟨hr, If⟩ => ?_
    subst hr
    have back : Inv X pins σ He sf := Ic.call' (ch := fa) If.os If.base If.hok If.bare fun b hb => ⟨(fc b hb).1.2.2.2.1, (fc b hb).1.2.1, (fc b hb).1.2.2.2.2.1, (fc b hb).1.2.2.2.2.2⟩
    have none_ : He sc.heap.objs.size = none := by
      have z : He ce.locals = none := If.free
      rw [cL] at z
      exact z
    obtain ⟨m, hn, _⟩ := If.loc
    have hn : sf.heap.Ns ce.locals m := hn
    rw [cL] at hn
    obtain ⟨f0, f1, f2, f3, f4, f5⟩ := Ic.fpOk (Nat.le_refl _) none_
    exact ⟨m, hn, fun h'' sb' => ⟨.ref D, He, back.turned (t' := sf.toks) (fun b o hb e => (sb'.2 b hb).trans e) f0 f1 f3 f4 f5, rfl, qq⟩⟩
  · refine thnF (T.item (X.blk sc Hc scope ce fa) rfl rfl rfl hc i [] se _ He (fun _ _ => False) Ie (steady Ie ne) ste go) fun r sf ⟨u, hr, hf⟩ => ?_
    subst hr
    refine thnF hf fun _ sg ⟨x, Hg, Ig, rg, yg, stg, ng⟩ => ?_
    refine thnF (Gd.run _ sg _ Hg x u _ (Ig.pinned (steady Ig ng) (T.obj _ _ stg)) rg (step x Hg yg)) fun _ sh ⟨σh, Hh, Ih, wh, qh⟩ => ?_
    refine thnF (Td.run _ sh σh Hh _ Ih qh) fun b si ⟨Hi, Ii, qi⟩ => ?_
    have over : ∀ {s' : Shared} {H' : Hp}, Inv (X.blk sc Hc scope ce fa) ([] ++ pinsAt fa sg.heap) σh H' s' → N H' → ∃ m, m < n ∧ ∃ i H', Inv (X.blk sc Hc scope ce fa) [] (wipe σ (own.map (·.2))) H' s' ∧ tna i s'.heap ∧ (∀ b ∈ fa, H' b = none) ∧ V0 i m H' := fun {s' H'} I' nx => by
      obtain ⟨m', less, w'⟩ := hNx H' nx
      have held : ∀ b ∈ fa, ∀ o, sg.heap.get? b = some o → s'.heap.get? b = some o ∧ H' b = none := fun b hb o e =>
        let z := I'.pin (b, o) (List.mem_append_right _ (List.mem_append_right _ (mem_pinsAt hb e)))
        ⟨z.1, z.2.1⟩
      refine ⟨m', less, i + 1, H', (I'.unpinned (pins := [])).weak (by rw [← wh, wipe_length]) (fun j v e => ?_), T.keep _ _ _ stg fun b hb o e => (held b hb o e).1, fun b hb => ?_, w'⟩
      · rw [← wh] at e
        exact (wipe_some e).1
      · obtain ⟨o, e, _⟩ := T.obj _ _ stg b hb
        exact (held b hb o e).2
    cases b with
    | false =>
      simp only [Bool.false_eq_true, if_false] at qi ⊢
      exact over Ii qi
    | true =>
      simp only [if_true] at qi ⊢
      refine thnF (Kd.run _ si σh Hi _ Ii qi) fun z sj ⟨yk, Hj, Ij, rj, qj⟩ => ?_
      refine thnF (Vd.run _ sj σh Hj _ Ij qj) fun z2 sk ⟨yv, Hk, Ik, rk, qk⟩ => ?_
      exact thnF (κ.put_ok (X := X.blk sc Hc scope ce fa) rfl rfl hu Ik rj rk qk) fun _ sl ⟨Hl, Il, nl⟩ => over Il nl
end
end OF
/-! for k in d, d locked, its keys tuples of None and ints. -/
namespace OF
open PySem PySem.Spec PyProof.Rows L2
theorem paired_at {α β : Type} {F : α → β → Prop} {l : List α} {m : List β} (r : Paired F l m) : ∀ {i : Nat} {x : α}, l[i]? = some x → ∃ y, m[i]? = some y ∧ F x y := by
  induction r with
  | nil => exact fun {i x} e => nomatch e
  | @cons p q l m r1 _ ih =>
    intro i x e
    cases i with
    | zero =>
      rw [List.getElem?_cons_zero] at e
      cases e
      exact ⟨q, rfl, r1⟩
    | succ i =>
      rw [List.getElem?_cons_succ] at e ⊢
      exact ih e
/-- the keys of the dict at d, in their order -/
def ItN (P : Program) (w : World) (d : Addr) (o : Obj) (kvs : List KeyT) : It where
  go i H := H d = some (.frz o (dNT P w d kvs)) ∧ i < kvs.length
  yld i H x H' := H' = H ∧ ∃ p, kvs[i]? = some p ∧ x = .ref p.2.1
  stop i H := H d = some (.frz o (dNT P w d kvs)) ∧ kvs.length ≤ i
theorem frzN {X : Cx} {pins : List (Addr × Obj)} {σ : L2.St} {H : Hp} {s : Shared} {d : Addr} {o : Obj} {kvs : List KeyT} (I : Inv X pins σ H s) (h : H d = some (.frz o (dNT X.prog X.w d kvs))) :
    (d == sysModules) = false ∧ s.heap.get? d = some o ∧ o.ExactDict ∧ ∃ (es : Array DictEntry) (ep : Nat), o.data = .dict es ep ∧ es.size = kvs.length ∧ ∀ (i : Nat) (p : KeyT), kvs[i]? = some p → ∃ en : DictEntry, es[i]? = some en ∧ en.key = .ref p.2.1 := by
  obtain ⟨there, inner⟩ := (show ObjOk X.prog X.w H s.heap d (.frz o (dNT X.prog X.w d kvs)) from I.hok d _ h)
  obtain ⟨_, apart, xs, rel, o2, es, ep, e1, e2, e3, e4, _⟩ := (show ObjOk X.prog X.w H s.heap d (dNT X.prog X.w d kvs) from inner).1
  rw [there] at e1
  cases e1
  have c1 : es.size = xs.length := size_of_entries e4
  have c2 : kvs.length = xs.length := Paired.length rel
  refine ⟨apart, there, e2, es, ep, e3, by omega, fun i p hp => ?_⟩
  obtain ⟨q, hq, r1⟩ := paired_at rel hp
  have at_ := entry_at e4 i
  rw [hq] at at_
  exact ⟨_, at_, by rw [r1.2.1]; rfl⟩
theorem turnN {P : Program} {w : World} {K : PySem.W.Frag} {tg : Expr} {d : Addr} {o : Obj} {es : Array DictEntry} {ep : Nat} {kvs : List KeyT} (it : Addr) (hod : o.data = .dict es ep) : Turn P w K tg (ItN P w d o kvs) [it] it (fun i h => h.IsKeyIter it d i kvs.length ep) where
  mem := List.mem_singleton.mpr rfl
  obj := fun i h st b hb => by
    rw [List.mem_singleton.mp hb]
    obtain ⟨oi, e, _, dd⟩ := st
    exact ⟨oi, e, fun v z => by rw [dd] at z; cases z⟩
  keep := fun i h h' st k => st.at fun oi e => k it (List.mem_singleton.mpr rfl) oi e
  item := by
    rintro X rfl rfl rfl hc i pins s σ H E I hf st ⟨hd, hi⟩
    obtain ⟨f0, f1, f2, f3, f4, f5⟩ := hf it (List.mem_singleton.mpr rfl)
    obtain ⟨apart, there, exact_, es2, ep2, hdt, sz, ent⟩ := frzN I hd
    obtain ⟨rfl, rfl⟩ := dict_ep hod hdt
    obtain ⟨en, h1, h2⟩ := ent i _ (List.getElem?_eq_getElem hi)
    refine next_key_item st there hdt sz h1 fun h' st' sb => ?_
    obtain ⟨oi, e, c, dd⟩ := id st'
    refine ⟨en.key, rfl, go_of (s := { s with heap := h' }) e c dd (by decide) ⟨.ref (kvs[i]).2.1, H, I.turned (t' := s.toks) (fun b ob hb e => (sb.2 b hb).trans e) f0 f1 f3 f4 f5, h2, ⟨rfl, kvs[i], List.getElem?_eq_getElem hi, rfl⟩, st', fun b hb => (hf b hb).1⟩⟩
  done := by
    rintro X rfl rfl rfl hc i pins s σ H E I hf st ⟨hd, hi⟩
    obtain ⟨f0, f1, f2, f3, f4, f5⟩ := hf it (List.mem_singleton.mpr rfl)
    obtain ⟨apart, there, exact_, es2, ep2, hdt, sz, ent⟩ := frzN I hd
    obtain ⟨rfl, rfl⟩ := dict_ep hod hdt
    exact next_key_end (I.ok.hd hc) st there hdt sz hi fun h' eb => ⟨rfl, I.turned (t' := s.toks) (fun b ob hb e => eb b ob hb e) f0 f1 f3 f4 f5⟩
  self := fun A i s Q E st h => by
    refine wpAny_pyIter_slot st.typeIs F.slot_dict_keyiterator_iter (wpAny_call_entry F.slot_dict_keyiterator_iter st.typeIs F.entry_dict_keyiterator_iter ?_ (F.args_dict_keyiterator_iter_1 _))
    exact wpAny_pure ⟨_, rfl, "dict_keyiterator", _, st.typeIs, F.slot_dict_keyiterator_next.lookup, h⟩
section
variable {X : Cx} {tg e : Expr} {td : TE}
def iKeysN (X : Cx) (td : TE) : TI := fun σ H R => td σ H fun x H1 => ∃ (d : Addr) (o : Obj) (kvs : List KeyT), x = .ref d ∧ H1 d = some (.frz o (dNT X.prog X.w d kvs)) ∧ R (ItN X.prog X.w d o kvs) H1
theorem pi_keysN (he : PE X e td) : PI X tg e (iKeysN X td) := by
  refine ⟨fun pins s σ H R I h => thn (he.run pins s σ H _ I h) fun u s1 ⟨x, H1, I1, rx, d, o, kvs, ex, hd, q⟩ => ?_⟩
  subst ex
  cases (show u = Value.ref d from rx)
  obtain ⟨apart, there, exact_, es, ep, hdt, sz, _⟩ := frzN I1 hd
  refine iter_keys apart there exact_ hdt (pi_one (tk := s1.toks) I1 _ (turnN _ hdt) ⟨_, Heap.get?_push_size _ rfl, rfl, ?_⟩ q)
  rw [sz] <;> rfl
end
end OF
/-! Walks: over such a dict; a dict comprehension over any walk. -/
namespace OF
open PySem PySem.Spec PyProof.Rows L2
theorem walkN {P : Program} {w : World} {d : Addr} {o : Obj} {kvs : List KeyT} : Walk (ItN P w d o kvs) kvs.length (fun H => H d = some (.frz o (dNT P w d kvs))) (fun i H x H' => H' = H ∧ ∃ p, kvs[i]? = some p ∧ x = .ref p.2.1) where
  goes := fun _ _ hi q => ⟨q, hi⟩
  stops := fun _ q => ⟨q, Nat.le_refl _⟩
  yields := fun _ _ _ _ _ _ y => y
/-- Pv: by the turn and the heap, the new dict within -/
theorem dcK_it {P : Program} {w : World} {κ : DKind P w} {J : It} {n : Nat} {G : Hp → Prop} {Y : Nat → Hp → V → Hp → Prop} (wk : Walk J n G Y) {g : TG} {tt : TT} {tk tv : TE} {vs : List Nat} {σ : L2.St} {Ha : Hp} {D : Addr} {Qd : Hp → Prop} (Pv : Nat → Hp → Prop)
    (h0 : Pv 0 (upd Ha D (κ.emp D))) (hG : ∀ i H, i ≤ n → Pv i H → G H)
    (hs : ∀ i x H Hc, i < n → Pv i H → Y i H x Hc → g x (wipe σ vs) Hc fun σd Hd => wipe σd vs = wipe σ vs ∧ tt σd Hd fun b He =>
      if b = true then tk σd He fun y Hf => tv σd Hf fun z Hg => κ.put D y z Hg (Pv (i + 1)) else Pv (i + 1) He) (hd : ∀ H, Pv n H → Qd H) :
    ∃ V0 : Nat → Nat → Hp → Prop, (∃ m, V0 0 m (upd Ha D (κ.emp D))) ∧ ∀ i m Hb, V0 i m Hb →
      (J.stop i Hb ∧ Qd Hb) ∨ (J.go i Hb ∧ ∃ N : Hp → Prop, (∀ Hc, N Hc → ∃ m', m' < m ∧ V0 (i + 1) m' Hc) ∧ ∀ x Hc, J.yld i Hb x Hc → g x (wipe σ vs) Hc fun σd Hd => wipe σd vs = wipe σ vs ∧ tt σd Hd fun b He =>
        if b = true then tk σd He fun y Hf => tv σd Hf fun z Hg => κ.put D y z Hg N else N He) := by
  refine ⟨fun i m H => m + i = n ∧ Pv i H, ⟨n, rfl, h0⟩, ?_⟩
  rintro i m H ⟨count, p⟩
  have held := hG i H (by omega) p
  cases m with
  | zero =>
    have e : i = n := by omega
    subst e
    exact .inl ⟨wk.stops H held, hd H p⟩
  | succ m =>
    have hi : i < n := by omega
    exact .inr ⟨wk.goes i H hi held, Pv (i + 1), fun Hc pc => ⟨m, Nat.lt_succ_self m, by omega, pc⟩, fun x Hc y => hs i x H Hc hi p (wk.yields i H x Hc hi held y)⟩
end OF
/-! len of dicts whose keys are None and ints, or tuples of such. -/
namespace OF
open PySem PySem.Spec PyProof.Rows L2
section
variable {X : Cx}
def rLenN (X : Cx) : List V → Hp → VK → Prop := fun vs H Q => ∃ a : Addr, vs = [V.ref a] ∧ ((∃ kvs : List (KeyN × V), Rd H a (dN X.prog X.w a kvs) ∧ Q (.int kvs.length) H) ∨ ∃ kvs : List KeyT, DictT X.prog X.w H a kvs ∧ Q (.int kvs.length) H)
theorem call_lenN : CallR X (.builtin "len") (rLenN X) := by
  intro pins s σ H vs us Q I r q
  obtain ⟨a, rfl, q⟩ := q
  obtain ⟨u, rfl, rx⟩ := r.one
  cases rx
  have line := line63
  rcases q with ⟨kvs, e, q⟩ | ⟨kvs, D, q⟩
  · obtain ⟨few, apart, vs, rel, dd⟩ := dn_rd I.hok e
    have same := rel.length
    refine call_len_dict apart dd (by omega) ?_
    rw [← same]
    exact ⟨.int kvs.length, H, I.tok _, ⟨_, rfl⟩, q⟩
  · obtain ⟨few, apart, xs, rel, dd⟩ := dnt_of I.hok D
    have same : kvs.length = xs.length := Paired.length rel
    refine call_len_dictH apart dd (by omega) ?_
    rw [← same]
    exact ⟨.int kvs.length, H, I.tok _, ⟨_, rfl⟩, q⟩
end
end OF
/-! Tests of dicts whose keys are tuples of None and ints: are they empty? -/
namespace OF
open PySem PySem.Spec PyProof.Rows L2
section
variable {prog : Program} {w : World} {A : Around} {E : Value → Shared → Prop} {s : Shared}
theorem truthy_keyed {K : Type} [DecidableEq K] {knd : HeapKind prog w K} {d : Addr} {xs : List (K × Addr × Value)} {Q : Bool → Shared → Prop} (apart : (d == sysModules) = false) (hm : s.heap.DictOfH knd d xs) (few : (xs.length : Int) < 2 ^ 63)
    (q : Q (!xs.isEmpty) { s with toks := s.toks + 1 + 1 }) : wpAny (model prog w) A (truthy (.ref d)) Q E s := by
  have asks : wpAny (model prog w) A (runValue (.builtin "len" ⟨[.ref d], []⟩)) (fun r s' => r = .int xs.length (s.toks + 1) ∧ s' = { s with toks := s.toks + 1 + 1 }) E s := by
    refine wpAny_runValue (codeAny_builtin entry_len ?_)
    rw [Around.under_plainId plain_len _]
    refine wpAny_mono (wpAny_len_body_dictH (Q := fun r s' => r = .int xs.length (s.toks + 1) ∧ s' = { s with toks := s.toks + 1 + 1 }) apart hm few ⟨rfl, rfl⟩) (fun fin s' z => ?_) fun _ _ z => z
    obtain ⟨r, rfl, told⟩ := z
    exact told
  have some_ : ((xs.length : Int) != 0) = !xs.isEmpty := by
    cases xs with
    | nil => rfl
    | cons x l =>
      rw [List.length_cons]
      simp
      omega
  unfold truthy
  refine wpAny_bind (wpAny_callSpecial?_none (name := Str.ofString "__bool__") hm.typeIs noBool_dict ?_)
  refine wpAny_bind (wpAny_specialOf (name := Str.ofString "__len__") hm.typeIs F.slot_dict_len.lookup ?_)
  refine wpAny_bind (wpAny_mono asks (fun r s' z => ?_) fun _ _ z => z)
  obtain ⟨rfl, rfl⟩ := z
  refine wpAny_pure ?_
  rw [← some_] at q
  exact q
end
section
variable {X : Cx} {e : Expr} {te : TE}
def tTruN (X : Cx) (te : TE) : TT := fun σ H Q => te σ H fun x H1 => ∃ (a : Addr) (kvs : List KeyT), x = .ref a ∧ DictT X.prog X.w H1 a kvs ∧ Q (!kvs.isEmpty) H1
theorem pt_dictN (he : PE X e te) (hi : ∀ whole, isTrue e X.env whole = (do let v ← whole; standAt e.pos; holding [v] (truthy v)) := by intro _; rfl) : PT X e (tTruN X te) := by
  refine ⟨fun pins s σ H Q I q => ?_⟩
  rw [hi]
  refine wpAny_bind (thn (he.run pins s σ H _ I q) fun u s1 ⟨x, H1, I1, rx, a, kvs, ex, D, q1⟩ => ?_)
  subst ex
  cases (show u = Value.ref a from rx)
  obtain ⟨few, apart, xs, rel, dd⟩ := dnt_of I1.hok D
  have same : kvs.length = xs.length := Paired.length rel
  have line := line63
  refine wpAny_bind (wpAny_standAt (wpAny_holding (truthy_keyed apart dd (by omega) ?_)))
  have e2 : xs.isEmpty = kvs.isEmpty := by cases rel <;> rfl
  rw [e2]
  exact ⟨H1, I1.tok _, q1⟩
end
end OF
namespace K19
open PySem PySem.Spec PyProof.Rows L2 OF
abbrev sLeft : Stmt := topS 24
abbrev sAllLeft : Stmt := topS 25
section
variable {P : Program} {w : World} {K : PySem.W.Frag} {mg : Str → Option Value} {base : Heap}
/-! ### the digits that may stand left of one -/
def spLeft (C : Addr) : Sp := fun vs H Q _ => ∃ (a t r : Addr) (b : Int) (ds : List Int) (ks : List (Addr × (Int × Int))) (z : V), vs = [.ref a, z] ∧ SchemeAt C H a t r b ds ks ∧ ds.length ≤ 60 ∧ (ItemOk H z ∨ z = .non) ∧
  ∀ (D : Addr) (H' : Hp), Same H H' → H' D = some (.lst ((ds.filter fun d => jdg ds ks (.int d) z).map V.int)) → Q (.ref D) H'
abbrev nLf : List Str := ["scheme", "right", "digit"]
theorem scLf : FnScope nLf ["scheme", "right"] (defScope sLeft) := ⟨rfl, rfl, rfl, by decide +kernel, rfl, by decide +kernel, by decide +kernel⟩
theorem ok_left {f fD fA C p : Addr} {fd fdD fdA : FuncData} (F : Fun K "left_digits" "left_digits" sLeft f fd) (c : Cls K C) (pD : PropOf K C "digits" p fD) (GD : FnOk P w K mg base CX0 1 fD fdD ["self"] (spPD C)) (bD : Binds K fdD ["self"] [])
    (mA : Meth K C "allows" fA) (GA : FnOk P w K mg base CX0 5 fA fdA ["self", "left", "right"] (spAllows C)) (bA : Binds K fdA ["self", "left", "right"] []) : FnOk P w K mg base CX0 6 f fd ["scheme", "right"] (spLeft C) := by
  refine F.ok scLf (fun vs H Q E h => ?_) (fun cdv A outer s H vs Q E hr h => ?_)
  · obtain ⟨a, t, r, b, ds, ks, z, rfl, _⟩ := h
    rfl
  · obtain ⟨a, t, r, b, ds, ks, z, rfl, S, hl, hz, q⟩ := h
    have hr2 : Room 2 _ := hr.mono (by decide)
    apply Exists.intro
    apply And.intro
    · apply pss_one
      · exact ps_ret (pe_lc (own := [("digit", 2)]) (g := gName 2) (tt := tB (tMeth C "allows" (spAllows C) [] E0 (tVar 0) (tCons (tVar 2) (tCons (tVar 1) tNil)))) (te := tVar 2) rfl scLf.nd (pi_tup (pe_prop (pv 0) c pD GD hr2 bD .nil pass0 (by rfl)))
          (blkOk_by (own := [("digit", 2)]) (N := nLf) (sc := defScope sLeft) (by decide +kernel)) (fun _ _ _ _ _ => pg_name (i := 2) scLf.nd rfl (Or.inl rfl)) (fun _ _ _ _ _ => by exact (pts_one (pt_val (pe_meth (pv 0) c mA GA hr bA .nil pass0 (pa_cons (pv 2) (pa_cons (pv 1) pa_nil)))))) (fun _ _ _ _ _ => by exact (pv 2)))
    obtain ⟨⟨dx, hins⟩, ht, _⟩ := id S
    refine ⟨.ref a, rfl, a, dx, _, rfl, hins, a, t, r, b, ds, ks, rfl, S, t, rfl, ⟨_, SqT.of ht⟩, fun D hD => ?_⟩
    refine lc_tup (K := K) (a := t) (xs := ds.map V.int) (fun i H' => Same H H' ∧ H' D = some (.lst (((ds.take i).filter fun d => jdg ds ks (.int d) z).map V.int))) ⟨same_new hD, upd_same⟩ (fun i H' _ h => SqT.of (h.1 _ _ ht)) ?_ ?_
    · rintro i x H1 hx ⟨s1, e1⟩
      obtain ⟨n, hn, rfl⟩ := get_map hx
      obtain ⟨⟨dx1, hins1⟩, _⟩ := id (S.same s1)
      refine ⟨rfl, .ref a, rfl, a, dx1, _, rfl, hins1, rfl, .int n, rfl, z, rfl, ?_⟩
      dsimp only [tNil, tCons, tC]
      refine allows_of (S.same s1) (.inl ⟨n, rfl⟩) (hz.imp (fun o => o.same s1) id) fun H2 s2 => ⟨_, rfl, ?_⟩
      have e2 := s2 _ _ e1
      cases hj : jdg ds ks (.int n) z with
      | true =>
        refine iteT ⟨.int n, rfl, _, e2, ?_, Same.store (s1.trans s2) hD, ?_⟩
        · rw [List.length_map]
          exact Nat.lt_of_le_of_lt (Nat.le_trans (List.length_filter_le _ _) (List.length_take_le' _ _)) (small1000 (by omega))
        · rw [upd_same, take_more hn, List.filter_append, List.map_append]
          simp [hj]
      | false =>
        refine iteF ⟨s1.trans s2, ?_⟩
        rw [e2, take_more hn, List.filter_append]
        simp [hj]
    · rintro H1 ⟨s1, e1⟩
      rw [List.length_map, List.take_length] at e1
      exact q D H1 s1 e1
/-- by the digit beside, or None: the digits that may stand left of it -/
def LeftsAt (P : Program) (w : World) (H : Hp) (D : Addr) (ds : List Int) (ks : List (Addr × (Int × Int))) (n : Nat) : Prop :=
  ∃ kvs : List (KeyN × V), H D = some (dN P w D kvs) ∧ kvs.length ≤ n ∧ ∀ i k, i < n → (none :: ds.map some)[i]? = some k → ∃ L, valV kvs k = some (.ref L) ∧ H L = some (.lst ((ds.filter fun d => jdg ds ks (.int d) (nV k)).map V.int))
def spAllLeft (P : Program) (w : World) (C : Addr) : Sp := fun vs H Q _ => ∃ (a t r : Addr) (b : Int) (ds : List Int) (ks : List (Addr × (Int × Int))), vs = [.ref a] ∧ SchemeAt C H a t r b ds ks ∧ ds.length ≤ 60 ∧
  ∀ (D : Addr) (H' : Hp), Same H H' → LeftsAt P w H' D ds ks (ds.length + 1) → Q (.ref D) H'
abbrev nAll : List Str := ["scheme", "right"]
theorem scAll : FnScope nAll ["scheme"] (defScope sAllLeft) := ⟨rfl, rfl, rfl, by decide +kernel, rfl, by decide +kernel, by decide +kernel⟩
theorem ok_allleft {f fL fD C p : Addr} {fd fdL fdD : FuncData} (F : Fun K "all_left_digits" "all_left_digits" sAllLeft f fd) (c : Cls K C) (pD : PropOf K C "digits" p fD) (GD : FnOk P w K mg base CX0 1 fD fdD ["self"] (spPD C)) (bD : Binds K fdD ["self"] [])
    (GL : FnOk P w K mg base CX0 6 fL fdL ["scheme", "right"] (spLeft C)) (gL : mg "left_digits" = some (.ref fL)) (kL : PySem.W.keepIn K (.ref fL) = true) (bL : Binds K fdL ["scheme", "right"] []) : FnOk P w K mg base CX0 7 f fd ["scheme"] (spAllLeft P w C) := by
  refine F.ok scAll (fun vs H Q E h => ?_) (fun cdv A outer s H vs Q E hr h => ?_)
  · obtain ⟨a, t, r, b, ds, ks, rfl, _⟩ := h
    rfl
  · obtain ⟨a, t, r, b, ds, ks, rfl, S, hl, q⟩ := h
    have hr2 : Room 2 _ := hr.mono (by decide)
    apply Exists.intro
    apply And.intro
    · apply pss_one
      · exact ps_ret (pe_dcK (κ := kN P w) (own := [("right", 1)]) (g := gName 1) (tk := tVar 1) (tv := tCall (spLeft C) [] E0 (tCons (tVar 0) (tCons (tVar 1) tNil))) (by exact Nat.lt_of_succ_lt (hu_of hr)) rfl scAll.nd (pi_tup (pe_op op_cat2 (pe_tup (pa_cons pe_non pa_nil)) (pe_prop (pv 0) c pD GD hr2 bD .nil pass0 (by rfl))))
          (blkOk_by (own := [("right", 1)]) (N := nAll) (sc := defScope sAllLeft) (by decide +kernel)) (fun _ _ _ _ _ => pg_name (i := 1) scAll.nd rfl (Or.inl rfl)) (fun _ _ _ _ _ => by exact pts_nil) (fun _ _ _ _ _ => by exact (pv 1)) (fun _ _ _ _ _ => by exact (pe_call GL hr (by rfl) gL kL bL .nil pass0 (pa_cons (pv 0) (pa_cons (pv 1) pa_nil)))))
    obtain ⟨⟨dx, hins⟩, ht, _⟩ := id S
    refine ⟨(by show 1 ≤ sizeLine; decide), fun p1 hp1 => ?_⟩
    have s1 := same_new (o := .tup [.non]) hp1
    have e1 : (upd H p1 (.tup [.non])) p1 = some (.tup [.non]) := upd_same
    generalize upd H p1 (.tup [.non]) = H1 at s1 e1 ⊢
    refine ⟨.ref a, rfl, a, dx, _, rfl, s1 _ _ hins, a, t, r, b, ds, ks, rfl, S.same s1, ?_⟩
    refine ⟨p1, t, _, _, rfl, rfl, e1, s1 _ _ ht, by rw [List.length_map]; exact Nat.le_trans (by show 1 + ds.length ≤ 1000; omega) (by decide), fun T H2 s2 eT => ?_⟩
    have s2 := s1.trans s2
    refine ⟨T, rfl, ⟨_, SqT.of eT⟩, fun D hD => ?_⟩
    refine dcK_it (κ := kN P w) (walk_tup (K := K) (a := T) (xs := [V.non] ++ ds.map V.int)) (fun i H' => Same H2 H' ∧ LeftsAt P w H' D ds ks i) ⟨same_new hD, [], upd_same, Nat.le_refl _, fun i k hi => nomatch hi⟩ (fun i H' _ h => SqT.of (h.1 _ _ eT)) ?_ ?_
    · rintro i x H0 H3 hi ⟨s3, kvs, e3, few, all⟩ ⟨rfl, hx⟩
      refine ⟨rfl, ?_⟩
      have same : [V.non] ++ ds.map V.int = (none :: ds.map some : List KeyN).map nV := by
        rw [List.map_cons, List.map_map]
        rfl
      rw [same] at hx
      obtain ⟨k, hk, rfl⟩ : ∃ k, (none :: ds.map some : List KeyN)[i]? = some k ∧ nV k = x := by
        rw [List.getElem?_map] at hx
        exact Option.map_eq_some_iff.mp hx
      have count : i < ds.length + 1 := by
        have z : ([V.non] ++ ds.map V.int).length = ds.length + 1 := by rw [List.length_append, List.length_map]; exact Nat.add_comm _ _
        omega
      have fits : ItemOk H3 (nV k) ∨ nV k = .non := by
        cases k with
        | none => exact .inr rfl
        | some d => exact .inl (.inl ⟨d, rfl⟩)
      dsimp only [tYes]
      refine iteTB rfl ?_
      refine ⟨_, rfl, .ref a, rfl, _, rfl, a, t, r, b, ds, ks, _, rfl, S.same (s2.trans s3), hl, fits, fun L H4 s4 eL => ?_⟩
      have e4 := s4 _ _ e3
      have off : ∀ {c : Addr} {xs : List V}, H4 c = some (.lst xs) → upd H4 D (dN P w D (putK kvs k (.ref L))) c = some (.lst xs) := fun {c xs} ec => by
        rw [upd_ne]
        · exact ec
        · rintro rfl
          rw [e4] at ec
          cases ec
      refine ⟨kvs, k, rfl, e4, Nat.lt_of_le_of_lt few (small1000 (by omega)), Same.store (s3.trans s4) hD, putK kvs k (.ref L), upd_same, Nat.le_trans (length_putK _ _ _) (by omega), fun i2 k2 hi2 hk2 => ?_⟩
      rw [valV_put]
      by_cases ek : k2 = k
      · subst ek
        rw [if_pos rfl]
        exact ⟨L, rfl, off eL⟩
      · rw [if_neg ek]
        have lt : i2 < i := by
          rcases Nat.lt_or_ge i2 i with z | z
          · exact z
          · have z2 : i2 = i := by omega
            subst z2
            rw [hk] at hk2
            exact absurd (Option.some.inj hk2).symm ek
        obtain ⟨L2, v2, e2⟩ := all i2 k2 lt hk2
        exact ⟨L2, v2, off (s4 _ _ e2)⟩
    · rintro H3 ⟨s3, L⟩
      exact q D H3 (s2.trans s3) (by
        have e : ([V.non] ++ ds.map V.int).length = ds.length + 1 := by rw [List.length_append, List.length_map]; exact Nat.add_comm _ _
        rw [e] at L
        exact L)
end
end K19
/-! The heap without the tables of code objects: facts about it stand while lambdas are made. -/
namespace OF
open PySem PySem.Spec PyProof.Rows L2 LamX NdefX
def nt (H : Hp) : Hp := fun c => match H c with
  | some (.tbl _) => none
  | o => o
theorem nt_some {H : Hp} {c : Addr} {o : HO} (e : nt H c = some o) : H c = some o ∧ ∀ ps, o ≠ .tbl ps := by
  unfold nt at e
  split at e
  · cases e
  · rename_i h
    refine ⟨e, fun ps z => ?_⟩
    subst z
    exact h ps e
theorem nt_at {H : Hp} {c : Addr} {o : HO} (e : H c = some o) (n : ∀ ps, o ≠ .tbl ps) : nt H c = some o := by
  unfold nt
  split
  · rename_i ps h
    rw [e] at h
    exact absurd (Option.some.inj h) (n ps)
  · exact e
theorem nt_same {H : Hp} : Same (nt H) H := fun c o e => (nt_some e).1
theorem ExtN.nt {H H' : Hp} (t : ExtN H H') : Same (OF.nt H) (OF.nt H') := fun c o e => by
  obtain ⟨e, n⟩ := nt_some e
  exact nt_at (t c o e n) n
theorem Same.nt {H H' : Hp} (s : Same H H') : Same (OF.nt H) (OF.nt H') := ExtN.nt (ExtN.of s)
theorem But.nt {a : Addr} {H H' : Hp} (t : But a H H') : But a (OF.nt H) (OF.nt H') := fun c o n e => by
  obtain ⟨e, k⟩ := nt_some e
  exact nt_at (t c o n e) k
theorem Box.nt {a : Addr} {n : Int} {H : Hp} (B : Box n H a) : Box n (OF.nt H) a := by
  obtain ⟨b0, b1, b2, e, r⟩ := B
  exact ⟨b0, b1, b2, nt_at e (fun ps z => by cases z), r⟩
end OF
/-! A function made while the program runs, that outlives its maker: called by the name that holds it. -/
namespace OF
open PySem PySem.Spec PyProof.Rows L2 LamX NdefX
/-- what stands at f answers calls as sp says -/
structure CalO (P : Program) (w : World) (K : PySem.W.Frag) (mg : Str → Option Value) (base : Heap) (k : Nat) (f : Addr) (o : HO) (sp : Sp) : Prop where
  fn : ∀ (H : Hp) (h : Heap), HOk P w H h → H f = some o → PySem.W.FnAt f h
  run : ∀ (A : Around) (outer : List Env) (s : Shared) (H : Hp) (us : List Value) (vs : List V) (Q : VK), Room k A → Env0 P w K mg base A outer s H → H f = some o → Vals vs us → sp vs H Q E0 → codeAny (model P w) A (.call (.ref f) ⟨us, []⟩) (CR CX0 outer P w H s Q E0) s
theorem CalO.mono {P : Program} {w : World} {K : PySem.W.Frag} {mg : Str → Option Value} {base : Heap} {j k : Nat} {f : Addr} {o : HO} {sp : Sp} (c : CalO P w K mg base j f o sp) (h : j ≤ k) : CalO P w K mg base k f o sp :=
  ⟨c.fn, fun A outer s H us vs Q hr => c.run A outer s H us vs Q (hr.mono h)⟩
/-- x(..), the i-th slot holding such a thing -/
def tClo (P : Program) (w : World) (K : PySem.W.Frag) (mg : Str → Option Value) (base : Heap) (k i : Nat) (t : TA) : TE := fun σ H Q => ∃ (f : Addr) (o : HO) (sp : Sp), σ[i]? = some (some (.ref f)) ∧ CalO P w K mg base k f o sp ∧ H f = some o ∧ t σ H fun vs H1 => H1 f = some o ∧ sp vs H1 Q E0
section
variable {X : Cx} {i k : Nat} {x : Str} {t : TA} {e : Expr} {es : List Expr} {p pos : Pos}
theorem pe_clo (hr : Room k X.A) (hN : X.N[i]? = some x) (hv : Vis X.env.scope x) (ha : PA X (e :: es) t)
    (hd : (x == ("__debug__" : Str)) = false := by decide) (hcd : (x == ("__classdict__" : Str)) = false := by decide)
    (he : starEach (e :: es) X.env = (false, eval e X.env) :: starEach es X.env := by rfl) (hpl : (backTo pos (starEach es X.env)).any (·.1) = false := by rfl) :
    PE X (.Call (.Name x p) (e :: es) [] pos) (tClo X.prog X.w X.K X.mg X.base k i t) := by
  refine ⟨fun pins s σ H Q I h => ?_⟩
  obtain ⟨f, o, sp, hs, hC, hf, ht⟩ := h
  refine wpAny_Call_Name_kw (thn ((pe_var (pos := p) hN hv hd hcd).run pins s σ H (fun v H1 => v = .ref f ∧ H1 = H) I ⟨.ref f, hs, rfl, rfl⟩) fun u s1 ⟨v, H1, I1, r1, q1⟩ => ?_)
  obtain ⟨ev, eH⟩ := q1
  subst ev
  rw [eH] at I1
  obtain rfl : u = Value.ref f := r1
  refine PySem.W.callWith_F (first := []) (hC.fn _ _ I1.hok hf) (thn (ha.run pos pins s1 σ H _ I1 ht) fun us s2 ⟨vs, H2, I2, r, h1, q⟩ => ⟨hC.fn _ _ I2.hok h1, ?_⟩) he hpl
  show wpAny _ _ (call (.ref f) us) _ _ _
  refine wpAny_call (codeAny_mono (hC.run X.A X.stack s2 H2 us vs Q hr I2.env0 h1 r q) fun r s' hq => ?_)
  cases r with
  | error e => exact False.elim hq
  | ok fl =>
    cases fl with
    | ret u => exact I2.after hq
    | next => exact False.elim hq
    | brk => exact False.elim hq
    | cont => exact False.elim hq
end
/-! ### a lambda with its captured cells -/
def LamO (f : Addr) (F : NF) (b : Expr) : HO := .ext fun h => ∃ pm ctv : Value, h.get? f = some (PySem.W.kla_obj "<lambda>" F.qual F.params b F.scope F.cl pm F.c ctv)
def CellO (c : Addr) (v : V) : HO := .ext fun h => ∃ u, L2.RelV v u ∧ h.IsCell c (some u)
theorem lamO_ok {P : Program} {w : World} {H : Hp} {h : Heap} {f : Addr} {F : NF} {b : Expr} (e : ∃ pm ctv : Value, h.get? f = some (PySem.W.kla_obj "<lambda>" F.qual F.params b F.scope F.cl pm F.c ctv)) : ObjOk P w H h f (LamO f F b) := by
  obtain ⟨pm, ctv, e⟩ := e
  exact ⟨⟨pm, ctv, e⟩, ⟨_, e⟩, fun h1 h2 ⟨p, t, z⟩ st => ⟨p, t, st _ z⟩⟩
theorem cellO_ok {P : Program} {w : World} {H : Hp} {h : Heap} {c : Addr} {v : V} (e : ∃ u, L2.RelV v u ∧ h.IsCell c (some u)) : ObjOk P w H h c (CellO c v) := by
  obtain ⟨u, r, o, e, d⟩ := e
  exact ⟨⟨u, r, o, e, d⟩, ⟨_, e⟩, fun h1 h2 ⟨u, r, o, z, d⟩ st => ⟨u, r, o, st _ z, d⟩⟩
/-- some cells untracked, and tracked again -/
def offC (cs : List Addr) (H : Hp) : Hp := fun b => if b ∈ cs then none else H b
def onC (cs : List Addr) (H H' : Hp) : Hp := fun b => if b ∈ cs then H b else H' b
theorem off_at {cs : List Addr} {H : Hp} {b : Addr} {o : HO} (hx : ∀ c ∈ cs, ∃ φ, H c = some (.ext φ)) (e : H b = some o) (n : ∀ φ, o ≠ .ext φ) : offC cs H b = some o := by
  refine (if_neg fun z => ?_).trans e
  obtain ⟨φ, q⟩ := hx b z
  rw [e] at q
  exact n φ (Option.some.inj q)
theorem off_ne {cs : List Addr} {H : Hp} {b : Addr} {o : HO} (n : b ∉ cs) (e : H b = some o) : offC cs H b = some o := (if_neg n).trans e
theorem on_same {cs : List Addr} {H H' : Hp} (s : Same (offC cs H) H') : Same H (onC cs H H') := fun c o e => by
  unfold onC
  split
  · exact e
  · rename_i n
    exact s _ _ (off_ne n e)
/-- what is new stands so when the cells are tracked again -/
theorem on_at {cs : List Addr} {H H' : Hp} {b : Addr} {o : HO} (g : ∀ c ∈ cs, H' c = none) (e : H' b = some o) : onC cs H H' b = some o := (if_neg fun z => by rw [g b z] at e; cases e).trans e
theorem off_ok {P : Program} {w : World} {cs : List Addr} {H : Hp} {h : Heap} (hok : HOk P w H h) (hx : ∀ c ∈ cs, ∃ φ, H c = some (.ext φ)) : HOk P w (offC cs H) h := fun b o e => by
  unfold offC at e
  split at e
  · cases e
  · refine (hok b o e).stay (fun _ _ _ q => q) (fun d q => ?_) fun d xs q => ?_
    · show (if d ∈ cs then none else H d) = _
      by_cases hd : d ∈ cs
      · obtain ⟨φ, z⟩ := hx d hd
        rw [z] at q
        cases q
      · rw [if_neg hd]
        exact q
    · show (if d ∈ cs then none else H d) = _
      by_cases hd : d ∈ cs
      · obtain ⟨φ, z⟩ := hx d hd
        rw [z] at q
        cases q
      · rw [if_neg hd]
        exact q
/-- the end of a call that began with the cells untracked -/
theorem on_end {P : Program} {w : World} {outer : List Env} {cs : List Addr} {H : Hp} {s s' : Shared} {Q : VK} {u : Value} (hok : HOk P w H s.heap) (hfr : ∀ b ∈ frs outer, H b = none) (hx : ∀ c ∈ cs, ∃ φ, H c = some (.ext φ))
    (hq : CE outer P w (offC cs H) s (fun v H' => (∀ c ∈ cs, H' c = none) → Q v (onC cs H H')) u s') : CE outer P w H s Q u s' := by
  obtain ⟨v, H', os, bare, un, ok, rv, q⟩ := hq
  have off : ∀ {b}, b ∉ cs → offC cs H b = H b := fun {b} n => if_neg n
  have offn : ∀ {b}, b ∈ cs → offC cs H b = none := fun {b} n => if_pos n
  have on : ∀ {b}, b ∉ cs → onC cs H H' b = H' b := fun {b} n => if_neg n
  have onn : ∀ {b}, b ∈ cs → onC cs H H' b = H b := fun {b} n => if_pos n
  have out : ∀ {b}, H b = none → b ∉ cs := fun {b} n z => by
    obtain ⟨φ, e⟩ := hx b z
    rw [n] at e
    cases e
  have kept : ∀ c ∈ cs, ∀ o, s.heap.get? c = some o → s'.heap.get? c = some o ∧ H' c = none := fun c hc o e => by
    have nf : c ∉ frs outer := fun z => by
      obtain ⟨φ, e2⟩ := hx c hc
      rw [hfr c z] at e2
      cases e2
    exact ⟨un.keep c o e (offn hc) nf (by simp), un.free c o e (offn hc) (by simp)⟩
  have gone : ∀ c ∈ cs, H' c = none := fun c hc => by
    obtain ⟨φ, e⟩ := hx c hc
    obtain ⟨_, ⟨o, e2⟩, _⟩ := hok c _ e
    exact (kept c hc o e2).2
  refine ⟨v, onC cs H H', os, bare, ⟨fun b o e n nf ne => ?_, fun b o e n nf ne => ?_, fun b o e n ne => ?_, fun b o e ne => un.there b o e ne, fun b xs e => ?_, fun b o y e => ?_, fun b ps e => ?_⟩, fun b o e => ?_, rv, q gone⟩
  · exact un.keep b o e ((off (out n)).trans n) nf ne
  · exact un.slot b o e ((off (out n)).trans n) nf ne
  · rw [on (out n)]
    exact un.free b o e ((off (out n)).trans n) ne
  · by_cases hb : b ∈ cs
    · rw [onn hb]
      exact e
    · rw [on hb]
      exact un.tups b xs ((off hb).trans e)
  · by_cases hb : b ∈ cs
    · rw [onn hb]
      exact e
    · rw [on hb]
      exact un.frzs b o y ((off hb).trans e)
  · by_cases hb : b ∈ cs
    · rw [onn hb]
      exact ⟨#[], by rw [e]; simp⟩
    · rw [on hb]
      exact un.tbls b ps ((off hb).trans e)
  · by_cases hb : b ∈ cs
    · rw [onn hb] at e
      obtain ⟨φ, e2⟩ := hx b hb
      rw [e2] at e
      cases e
      obtain ⟨p, ⟨o, eo⟩, st⟩ := hok b _ e2
      have k := (kept b hb o eo).1
      exact ⟨st _ _ p fun o' e' => (kept b hb o' e').1, ⟨o, k⟩, st⟩
    · rw [on hb] at e
      refine (ok b o e).stay (fun _ _ _ q => q) (fun d q => ?_) fun d xs q => ?_
      · by_cases hd : d ∈ cs
        · rw [gone d hd] at q
          cases q
        · rw [on hd]
          exact q
      · by_cases hd : d ∈ cs
        · rw [gone d hd] at q
          cases q
        · rw [on hd]
          exact q
/-! ### a lambda's promise by its body -/
structure CapsO (cl : List (Str × Addr)) (fr : List Str) (ws : List V) (H : Hp) : Prop where
  len : ws.length = fr.length
  all : ∀ p ∈ cl, ∃ v, H p.2 = some (CellO p.2 v)
  has : ∀ (i : Nat) (y : Str), fr[i]? = some y → ∃ c v, cl.lookup y = some c ∧ ws[i]? = some v ∧ H c = some (CellO c v)
def cellAs (cl : List (Str × Addr)) : List Addr := cl.map (·.2)
theorem CapsO.ext {cl : List (Str × Addr)} {fr : List Str} {ws : List V} {H : Hp} (C : CapsO cl fr ws H) : ∀ c ∈ cellAs cl, ∃ φ, H c = some (.ext φ) := fun c hc => by
  obtain ⟨p, hp, rfl⟩ := List.mem_map.mp hc
  obtain ⟨v, e⟩ := C.all p hp
  exact ⟨_, e⟩
theorem CapsO.same {cl : List (Str × Addr)} {fr : List Str} {ws : List V} {H H' : Hp} (C : CapsO cl fr ws H) (s : Same H H') : CapsO cl fr ws H' :=
  ⟨C.len, fun p hp => let ⟨v, e⟩ := C.all p hp; ⟨v, s _ _ e⟩, fun i y h => let ⟨c, v, a, b, e⟩ := C.has i y h; ⟨c, v, a, b, s _ _ e⟩⟩
/-- what is asked where the lambda F is called: sp, told what its cells hold -/
def spClo (F : NF) (fr : List Str) (sp : List V → Sp) : Sp := fun vs H Q E => ∃ ws, CapsO F.cl fr ws H ∧ H F.c = some (CodeO F.c F.qual) ∧ sp ws vs H Q E
section
variable {P : Program} {w : World} {K : PySem.W.Frag} {mg : Str → Option Value} {base : Heap} {N ps fr : List Str} {F : NF} {b : Expr} {f : Addr} {k : Nat} {sp : List V → Sp}
theorem env_off {A : Around} {outer : List Env} {s : Shared} {H : Hp} {cs : List Addr} (e0 : Env0 P w K mg base A outer s H) (hx : ∀ c ∈ cs, ∃ φ, H c = some (.ext φ)) : Env0 P w K mg base A outer s (offC cs H) := by
  have off : ∀ {b}, H b = none → offC cs H b = none := fun {b} n => by
    unfold offC
    split
    · rfl
    · exact n
  exact ⟨e0.frames, e0.mod, fun b o e => ⟨(e0.bs b o e).1, off (e0.bs b o e).2⟩, e0.bsz, e0.funs, fun b hb => off (e0.frf b hb), off_ok e0.hok hx, e0.bare⟩
theorem caps_at {s : Shared} {H : Hp} {cl : List (Str × Addr)} {ws : List V} (hok : HOk P w H s.heap) (inj : ∀ x y c, cl.lookup x = some c → cl.lookup y = some c → x = y) (C : CapsO cl fr ws H) : CellsAt cl fr (ws.map some) s.heap (offC (cellAs cl) H) := by
  have cell : ∀ c v, H c = some (CellO c v) → ∃ u, L2.RelV v u ∧ s.heap.IsCell c (some u) := fun c v e => by
    obtain ⟨z, _, _⟩ := hok c _ e
    exact z
  refine ⟨by rw [List.length_map]; exact C.len, fun y c e => ?_, inj, fun i y h => ?_⟩
  · have m := PySem.mem_of_lookup e
    obtain ⟨v, e2⟩ := C.all _ m
    obtain ⟨u, _, z⟩ := cell c v e2
    exact ⟨if_pos (List.mem_map.mpr ⟨_, m, rfl⟩), _, z⟩
  · obtain ⟨c, v, e1, e2, e3⟩ := C.has i y h
    refine ⟨c, e1, fun v' hv' => ?_⟩
    rw [List.getElem?_map, e2] at hv'
    cases hv'
    exact cell c v e3
/-- THE RULE: a lambda by its body -/
theorem lam_cal (S : NScope N ps fr F.scope) (inj : ∀ x y c, F.cl.lookup x = some c → F.cl.lookup y = some c → x = y) (hb : ∀ (pm ctv : Value) (us : List Value), us.length = ps.length → bindArgs (PySem.W.kla_fn "<lambda>" F.qual F.params b F.scope F.cl pm (.ref F.c) ctv) ⟨us, []⟩ = pure (ps.zip us))
    (len : ∀ ws vs H Q E, sp ws vs H Q E → vs.length = ps.length)
    (hbody : ∀ (A : Around) (outer : List Env) (s : Shared) (H : Hp) (vs ws : List V) (Q : VK), Room k (A.deeper (envF F f s.heap.objs.size)) → ws.length = fr.length → sp ws vs H Q E0 →
      ∃ te, PE (ncx CX0 P w K mg base N F f A outer s (offC (cellAs F.cl) H) E0) b te ∧ te (startF N vs (ws.map some)) (offC (cellAs F.cl) H) (fun v H' => (∀ c ∈ cellAs F.cl, H' c = none) → Q v (onC (cellAs F.cl) H H'))) :
    CalO P w K mg base (k + 1) f (LamO f F b) (spClo F fr sp) := by
  refine ⟨fun H h ok e => ?_, fun A outer s H us vs Q hr e0 hf r hq => ?_⟩
  · obtain ⟨⟨pm, ctv, e'⟩, _, _⟩ := ok f _ e
    exact ⟨_, _, _, _, e'⟩
  · obtain ⟨ws, C, hc, hsp⟩ := hq
    have hl := len _ _ _ _ _ hsp
    have lim : s.heap.NoLimit := e0.mod.nolimit.keeps fun b o e => (e0.bs b o e).1
    obtain ⟨⟨pm, ctv, ho⟩, _, _⟩ := e0.hok f _ hf
    have hx := C.ext
    refine PySem.W.kla_callFunE hr.depth ho rfl S.co S.gen rfl (codeO_at e0.hok hc) ?_
    rw [hb pm ctv us (by rw [← r.length]; exact hl)]
    refine wpAny_pure (wpAny_newFunctionEnv S.nocell (fun ⟨n, _⟩ hy => S.par n (List.of_mem_zip hy).1) (fun h₁ hns hsb => ⟨lim.fresh _ hsb, ?_⟩) S.kind)
    show codeAny _ _ (.expr b (envF F f s.heap.objs.size)) _ _
    have kp : ∀ b o, s.heap.get? b = some o → h₁.get? b = some o := fun b o e => hsb.extBut b o (Nat.ne_of_lt (Heap.lt_size e)) (Heap.get?_push_of_some _ e)
    obtain ⟨te, ht, q⟩ := hbody A outer s H vs ws Q (hr.deeper _) C.len hsp
    have I : Inv (ncx CX0 P w K mg base N F f A outer s (offC (cellAs F.cl) H) E0) [] (startF N vs (ws.map some)) (offC (cellAs F.cl) H) { s with heap := h₁, toks := s.toks + (ps.zip us).length } := inv_startN S hr.hd (env_off e0 hx) hl r (caps_at e0.hok inj C) hns kp
    refine PySem.W.kla_codeExpr (wpAny_mono (ht.run [] _ _ _ _ I q) (fun v s' hq => ?_) fun e s' hq => hq)
    obtain ⟨w', H', J', rv, q⟩ := hq
    exact on_end e0.hok e0.frf hx ⟨w', H', J'.os, J'.bare, J'.base, J'.hok, rv, q⟩
end
end OF
/-! A def that ends by `return lambda ..`: what it returns stands for calls later. -/
namespace OF
open PySem PySem.Spec PyProof.Rows L2 LamX NdefX
section
variable {X : Cx} {pins : List (Addr × Obj)} {σ : L2.St} {H : Hp} {s : Shared}
theorem inv_lam {F : NF} {b : Expr} {o : Obj} {t' : Nat} {pm ctv : Value} (I : Inv X pins σ H s) (ho : o = PySem.W.kla_obj "<lambda>" F.qual F.params b F.scope F.cl pm F.c ctv) :
    Inv X pins σ (upd H s.heap.objs.size (LamO s.heap.objs.size F b)) { s with heap := s.heap.push o, toks := t' } := by
  subst ho
  exact I.laid (a := s.heap.objs.size) (fun b u e => Heap.get?_push_of_some _ e) (Nat.le_refl _) (lamO_ok ⟨_, _, Heap.get?_push_size _ rfl⟩)
/-- a new lambda, known from now on -/
theorem lam_new {T : List (Addr × Str)} {c P : Addr} {params : Arguments} {body : Expr} {scope : Scope} {pos : Pos} {E Q : Value → Shared → Prop} (I : Inv X pins σ H s) (TB : TabB X.base X.mg c P) (hcode : X.env.code = .ref c)
    (hm : (P, X.env.qual ++ "<lambda>") ∈ T) (hu : ∀ p ∈ T, p.1 = P → p.2 = X.env.qual ++ "<lambda>") (hT : Tabs T H) (hdef : defaultsOf params X.env = ([], [])) (hfree : ∀ y ∈ scope.names, y.2 = .free → ∃ c, X.env.cells.lookup y.1 = some c)
    (h : ∀ (f c' : Addr) (H1 : Hp) (s' : Shared), Inv X pins σ H1 s' → ExtN H H1 → (∀ b, H1 b = Option.none → H b = Option.none) → Tabs T H1 → H1 f = some (LamO f ⟨"<lambda>", X.env.qual ++ "<lambda>", params, [], scope, cloFrom X.env.cells scope.names [], c'⟩ body) → H1 c' = some (CodeO c' (X.env.qual ++ "<lambda>")) → Q (.ref f) s') :
    wpAny (model X.prog X.w) X.A (eval (.Lambda params body scope pos) X.env) Q E s := by
  obtain ⟨ps, hP, ht, ha⟩ := hT _ hm
  refine PySem.W.kla_eval hdef ?_
  have bP : s.heap.BuiltinsAt X.mg P := TB.bm.keeps I.bk
  have oP : s.heap.get? P = some { cls := .none, data := .fields ps } := I.hok P _ hP
  cases hc : codeAmong pos ps.toList with
  | some cv =>
    obtain ⟨c', e, hco⟩ := ha pos cv hc
    subst e
    refine PySem.W.kla_makeFunctionHit (mg := X.mg) (c := c) (P := P) (ps := ps) (closure_ok hfree) I.ok.glob (I.mod.glob.keeps I.bk) hcode (TB.code.keeps I.bk) oP ht hc bP fun ctv h' tk hx hsz => ?_
    have I1 : Inv X pins σ H { s with heap := h', toks := tk } := I.kept hx
    have nF := I1.hok.fresh (Nat.le_refl h'.objs.size)
    have I2 := inv_lam (F := ⟨"<lambda>", X.env.qual ++ "<lambda>", params, [], scope, cloFrom X.env.cells scope.names [], c'⟩) (b := body) (t' := tk) (pm := (X.mg "__name__").getD .none) (ctv := ctv) I1 rfl
    have keep : ∀ {b o}, H b = some o → upd H h'.objs.size (LamO h'.objs.size ⟨"<lambda>", X.env.qual ++ "<lambda>", params, [], scope, cloFrom X.env.cells scope.names [], c'⟩ body) b = some o := fun {b o} e => (upd_ne (ne_of_none e nF)).trans e
    exact h h'.objs.size c' _ _ I2 (ExtN.of fun b o e => keep e) (fun b e => upd_none e) (hT.ext fun b o e => keep e) upd_same (keep hco)
  | none =>
    refine PySem.W.kla_makeFunction (mg := X.mg) (c := c) (P := P) (ps := ps) (closure_ok hfree) I.ok.glob (I.mod.glob.keeps I.bk) hcode (TB.code.keeps I.bk) oP ht hc TB.gP bP fun c' ctv h' tk hx hge hlt hrec htb => ?_
    obtain ⟨c2, oc, vs, t, e2, hoc, hd, hv⟩ := hrec
    cases e2
    have nC : H c' = none := I.hok.fresh hge
    have I1 := inv_table (t' := tk) (more := #[rawInt pos.line, rawInt pos.col, .ref c']) (h' := h') I hP (fun b o hb e => hx b o hb e) htb hge ⟨oc, vs, t, hoc, hd, hv⟩
    obtain ⟨Hm, eHm⟩ : ∃ Hm, Hm = upd (upd H P (.tbl (ps ++ #[rawInt pos.line, rawInt pos.col, .ref c']))) c' (CodeO c' (X.env.qual ++ "<lambda>")) := ⟨_, rfl⟩
    rw [← eHm] at I1
    have mC : Hm c' = some (CodeO c' (X.env.qual ++ "<lambda>")) := by rw [eHm]; exact upd_same
    have mP : Hm P = some (.tbl (ps ++ #[rawInt pos.line, rawInt pos.col, .ref c'])) := by rw [eHm, upd_ne (ne_of_none hP nC), upd_same]
    have mE : ∀ b o, b ≠ P → H b = some o → Hm b = some o := fun b o n e => by rw [eHm, upd_ne (ne_of_none e nC), upd_ne n]; exact e
    have nP : ∀ {b o}, H b = some o → (∀ ps, o ≠ .tbl ps) → b ≠ P := fun {b o} e n z => n ps (Option.some.inj (e.symm.trans (by rw [z]; exact hP)))
    have nF := I1.hok.fresh (Nat.le_refl h'.objs.size)
    have I2 := inv_lam (F := ⟨"<lambda>", X.env.qual ++ "<lambda>", params, [], scope, cloFrom X.env.cells scope.names [], c'⟩) (b := body) (t' := tk) (pm := (X.mg "__name__").getD .none) (ctv := ctv) I1 rfl
    have keep : ∀ {b o}, Hm b = some o → upd Hm h'.objs.size (LamO h'.objs.size ⟨"<lambda>", X.env.qual ++ "<lambda>", params, [], scope, cloFrom X.env.cells scope.names [], c'⟩ body) b = some o := fun {b o} e => (upd_ne (ne_of_none e nF)).trans e
    have TM : Tabs T Hm := fun p hp => by
      by_cases hb : p.1 = P
      · have hq : p.2 = X.env.qual ++ "<lambda>" := hu p hp hb
        rw [hb, hq]
        refine ⟨_, mP, ?_, fun p' cv hcv => ?_⟩
        · rw [Array.toList_append]
          exact PySem.TriplesOk_snoc _ _ _ _ ht
        · rw [Array.toList_append] at hcv
          rcases among_app _ ht hcv with z | z
          · obtain ⟨c0, e1, e2⟩ := ha p' cv z
            exact ⟨c0, e1, mE _ _ (nP e2 codeO_ne) e2⟩
          · exact ⟨c', z, mC⟩
      · obtain ⟨ps', a1, a2, a3⟩ := hT p hp
        refine ⟨ps', mE _ _ hb a1, a2, fun p' cv hcv => ?_⟩
        obtain ⟨c0, e1, e2⟩ := a3 p' cv hcv
        exact ⟨c0, e1, mE _ _ (nP e2 codeO_ne) e2⟩
    exact h h'.objs.size c' _ _ I2 (fun b o e n => keep (mE b o (nP e n) e)) (fun b e => by
      have q := upd_none e
      rw [eHm] at q
      exact upd_none (upd_none q)) (TM.ext fun b o e => keep e) upd_same (keep mC)
end
/-! ### bodies that end so -/
/-- the statements, and what then holds of how they end -/
structure PSR (X : Cx) (G : Flow → Shared → Prop) (st : List Stmt) (t : L2.St → Hp → Prop) : Prop where
  run : ∀ (pins : List (Addr × Obj)) (s : Shared) (σ : L2.St) (H : Hp), Inv X pins σ H s → t σ H → wpAny (model X.prog X.w) X.A (execs st X.env) G X.xe s
section
variable {X : Cx} {G : Flow → Shared → Prop}
theorem psr_cons {st : Stmt} {rest : List Stmt} {t : TS} {u : L2.St → Hp → Prop} (h1 : PS X st t) (h2 : PSR X G rest u) : PSR X G (st :: rest) (fun σ H => t { nx := u, rt := fun _ _ => False } σ H) := by
  refine ⟨fun pins s σ H I h => ?_⟩
  refine wpAny_execs_cons (thn (h1.run pins s σ H _ I h) fun f s1 q => ?_)
  cases f with
  | next =>
    obtain ⟨σ', H', I', q⟩ := q
    exact h2.run pins s1 σ' H' I' q
  | ret v =>
    obtain ⟨_, _, _, _, _, q⟩ := q
    exact q.elim
  | brk =>
    obtain ⟨_, _, _, q⟩ := q
    exact False.elim q
  | cont =>
    obtain ⟨_, _, _, q⟩ := q
    exact False.elim q
theorem psr_lam {T : List (Addr × Str)} {c P : Addr} {params : Arguments} {body : Expr} {scope : Scope} {pos rpos : Pos} {Fin : L2.St → Hp → Prop} (TB : TabB X.base X.mg c P) (hcode : X.env.code = .ref c)
    (hm : (P, X.env.qual ++ "<lambda>") ∈ T) (hu : ∀ p ∈ T, p.1 = P → p.2 = X.env.qual ++ "<lambda>") (hdef : defaultsOf params X.env = ([], [])) (hfree : X.Ok → ∀ y ∈ scope.names, y.2 = .free → ∃ c, X.env.cells.lookup y.1 = some c)
    (hG : ∀ (pins : List (Addr × Obj)) (σ : L2.St) (H : Hp) (f c' : Addr) (H1 : Hp) (s' : Shared), Fin σ H → Inv X pins σ H1 s' → ExtN H H1 → (∀ b, H1 b = Option.none → H b = Option.none) → Tabs T H1 → H1 f = some (LamO f ⟨"<lambda>", X.env.qual ++ "<lambda>", params, [], scope, cloFrom X.env.cells scope.names [], c'⟩ body) → H1 c' = some (CodeO c' (X.env.qual ++ "<lambda>")) → G (.ret (.ref f)) s') :
    PSR X G [.Return (some (.Lambda params body scope pos)) rpos] (fun σ H => Tabs T H ∧ Fin σ H) := by
  refine ⟨fun pins s σ H I h => ?_⟩
  obtain ⟨hT, hF⟩ := h
  refine wpAny_execs_cons (wpAny_Return_some (lam_new I TB hcode hm hu hT hdef (hfree I.ok) fun f c' H1 s' I1 e1 n1 t1 l1 c1 => ?_))
  exact hG pins σ H f c' H1 s' hF I1 e1 n1 t1 l1 c1
end
end OF
/-! A def that ends by `return lambda ..`: its promise, with what the lambda captured. -/
namespace OF
open PySem PySem.Spec PyProof.Rows L2 LamX NdefX
def InjC (cl : List (Str × Addr)) : Prop := ∀ x y c, cl.lookup x = some c → cl.lookup y = some c → x = y
def valAt (cl : List (Str × Addr)) : List Str → List V → Addr → V
  | y :: fr, v :: ws, b => if cl.lookup y = some b then v else valAt cl fr ws b
  | _, _, _ => .non
theorem valAt_at {cl : List (Str × Addr)} (inj : InjC cl) : ∀ {fr : List Str} {ws : List V} {i : Nat} {y : Str} {v : V} {c : Addr}, fr.Nodup → fr[i]? = some y → ws[i]? = some v → cl.lookup y = some c → valAt cl fr ws c = v
  | [], _, _, _, _, _, _, h, _, _ => by simp at h
  | _ :: _, [], _, _, _, _, _, _, h, _ => by simp at h
  | z :: fr, u :: ws, 0, y, v, c, _, h1, h2, e => by
    simp only [List.getElem?_cons_zero, Option.some.injEq] at h1 h2
    subst h1
    subst h2
    exact if_pos e
  | z :: fr, u :: ws, i + 1, y, v, c, nd, h1, h2, e => by
    rw [List.getElem?_cons_succ] at h1 h2
    have n : cl.lookup z ≠ some c := fun z1 => by
      have q := inj _ _ _ z1 e
      subst q
      exact (List.nodup_cons.mp nd).1 (List.mem_of_getElem? h1)
    show (if cl.lookup z = some c then u else valAt cl fr ws c) = v
    rw [if_neg n]
    exact valAt_at inj (List.nodup_cons.mp nd).2 h1 h2 e
def addC (cl : List (Str × Addr)) (fr : List Str) (ws : List V) (H : Hp) : Hp := fun b => if b ∈ cellAs cl then some (CellO b (valAt cl fr ws b)) else H b
section
variable {P : Program} {w : World} {K : PySem.W.Frag} {mg : Str → Option Value} {base : Heap} {cl : List (Str × Addr)} {fr : List Str} {ws : List V}
/-- the cells of a frame that has ended are tracked -/
theorem end_lam {outer : List Env} {H0 H1 : Hp} {s0 s' : Shared} {Q : VK} {v : V} {u : Value} (os : s'.os = s0.os) (bare : AllBare s'.gens) (un : Un (frs outer) [] H0 H1 s0.heap s'.heap) (ok : HOk P w H1 s'.heap) (nd : fr.Nodup)
    (C : CellsAt cl fr (ws.map some) s'.heap H1) (hcl : ∀ p ∈ cl, ∃ i : Nat, fr[i]? = some p.1 ∧ cl.lookup p.1 = some p.2) (new : ∀ p ∈ cl, s0.heap.objs.size ≤ p.2) (rv : RelV v u) (q : Q v (addC cl fr ws H1)) : CE outer P w H0 s0 Q u s' := by
  have gone : ∀ {b}, b ∈ cellAs cl → H1 b = none := fun {b} hb => by
    obtain ⟨p, hp, rfl⟩ := List.mem_map.mp hb
    obtain ⟨i, _, e⟩ := hcl p hp
    exact (C.all _ _ e).1
  have out : ∀ {b o}, H1 b = some o → b ∉ cellAs cl := fun {b o} e z => by
    rw [gone z] at e
    cases e
  have at_ : ∀ {b o}, H1 b = some o → addC cl fr ws H1 b = some o := fun {b o} e => (if_neg (out e)).trans e
  refine ⟨v, addC cl fr ws H1, os, bare, ⟨un.keep, un.slot, fun b o e n ne => ?_, un.there, fun b xs e => at_ (un.tups b xs e), fun b o y e => at_ (un.frzs b o y e), fun b ps e => ?_⟩, fun b o e => ?_, rv, q⟩
  · have nb : b ∉ cellAs cl := fun z => by
      obtain ⟨p, hp, rfl⟩ := List.mem_map.mp z
      exact absurd (Heap.lt_size e) (Nat.not_lt_of_le (new p hp))
    exact (if_neg nb).trans (un.free b o e n ne)
  · obtain ⟨more, e1⟩ := un.tbls b ps e
    exact ⟨more, at_ e1⟩
  · unfold addC at e
    split at e
    · rename_i hb
      cases e
      obtain ⟨p, hp, rfl⟩ := List.mem_map.mp hb
      obtain ⟨i, hi, el⟩ := hcl p hp
      obtain ⟨c, ec, hv⟩ := C.has i _ hi
      rw [el] at ec
      cases ec
      have lw : i < ws.length := by
        have := C.len
        rw [List.length_map] at this
        rw [this]
        exact (List.getElem?_eq_some_iff.mp hi).1
      have hw := List.getElem?_eq_getElem lw
      rw [valAt_at C.inj nd hi hw el]
      exact cellO_ok (hv _ (by rw [List.getElem?_map, hw]; rfl))
    · exact (ok b o e).stay (fun _ _ _ q => q) (fun d q => at_ q) fun d xs q => at_ q
theorem caps_add {H1 : Hp} {h : Heap} (nd : fr.Nodup) (C : CellsAt cl fr (ws.map some) h H1) (hcl : ∀ p ∈ cl, ∃ i : Nat, fr[i]? = some p.1 ∧ cl.lookup p.1 = some p.2) : CapsO cl fr ws (addC cl fr ws H1) := by
  have mem : ∀ p ∈ cl, addC cl fr ws H1 p.2 = some (CellO p.2 (valAt cl fr ws p.2)) := fun p hp => if_pos (List.mem_map.mpr ⟨p, hp, rfl⟩)
  have lw : ws.length = fr.length := by
    have := C.len
    rw [List.length_map] at this
    exact this
  refine ⟨lw, fun p hp => ⟨_, mem p hp⟩, fun i y h => ?_⟩
  obtain ⟨c, e, _⟩ := C.has i y h
  have li : i < ws.length := by
    rw [lw]
    exact (List.getElem?_eq_some_iff.mp h).1
  have hw := List.getElem?_eq_getElem li
  refine ⟨c, ws[i], e, hw, ?_⟩
  have m := mem (y, c) (PySem.mem_of_lookup e)
  rw [show valAt cl fr ws c = ws[i] from valAt_at C.inj nd h hw e] at m
  exact m
/-- how such a body ends: what is asked of the slots and the heap where the lambda is made -/
def FinC (T : List (Addr × Str)) (js : List Nat) (fr : List Str) (qual : Str) (params : Arguments) (scope : Scope) (body : Expr) (Q : VK) : L2.St → Hp → Prop := fun σ H => ∃ ws : List V, js.map (slotAt σ) = ws.map some ∧
  ∀ (g c' : Addr) (cl : List (Str × Addr)) (H2 : Hp), ExtN H H2 → (∀ b ∈ cellAs cl, H b = none) → Tabs T H2 → H2 g = some (LamO g ⟨"<lambda>", qual ++ "<lambda>", params, [], scope, cl, c'⟩ body) → H2 c' = some (CodeO c' (qual ++ "<lambda>")) → InjC cl → CapsO cl fr ws H2 → Q (.ref g) H2
theorem psr_end {N lps : List Str} {LN : List Str} {q : Str} {sc : Scope} {f c PT : Addr} {A : Around} {outer : List Env} {s : Shared} {H0 : Hp} {E : XK} {T : List (Addr × Str)} {params : Arguments} {body : Expr} {scope : Scope} {pos rpos : Pos} {js : List Nat} {Q : VK}
    (TB : TabB base mg c PT) (hu : ∀ p ∈ T, p.1 = PT → p.2 = (envOfC q sc s.heap.objs.size f (.ref c)).qual ++ "<lambda>") (hm2 : (PT, (envOfC q sc s.heap.objs.size f (.ref c)).qual ++ "<lambda>") ∈ T)
    (hdef : defaultsOf params (envOfC q sc s.heap.objs.size f (.ref c)) = ([], [])) (S : NScope LN lps fr scope) (hb : ndefB sc scope fr = true) (hjs : js.map (fun j => N[j]?) = fr.map some) :
    PSR (cxOf CX0 P w K mg base N q sc f (.ref c) A outer s H0 E) (fun fl s' => ∃ u, fl = .ret u ∧ CE outer P w H0 s Q u s') [.Return (some (.Lambda params body scope pos)) rpos]
      (fun σ H => Tabs T H ∧ FinC T js fr (envOfC q sc s.heap.objs.size f (.ref c)).qual params scope body Q σ H) := by
  have free : ∀ {X : Cx}, X.env.scope = sc → X.Ok → ∀ y ∈ scope.names, y.2 = .free → ∃ c, X.env.cells.lookup y.1 = some c := fun {X} hs ok y hy e => by
    rcases ndef_free hb y hy e with k | k
    · exact ok.has _ (.inl (by unfold Env.kindOf; rw [hs]; exact k))
    · exact ok.has _ (.inr (by unfold Env.kindOf; rw [hs]; exact k))
  refine psr_lam (c := c) (P := PT) TB rfl hm2 hu hdef (fun ok => free rfl ok) fun pins σ H g c' H1 s' hF I1 e1 n1 t1 l1 c1 => ?_
  obtain ⟨ws, hw, fin⟩ := hF
  have ndf : fr.Nodup := by
    have q := S.nd.sublist (List.take_sublist (lps.length + fr.length) LN)
    rw [S.pre] at q
    exact (List.nodup_append.mp q).2.1
  have cp := Caps.made I1.ok (ndef_free hb) (ndef_fr hb) hjs
  have C := cells_of I1 cp
  rw [hw] at C
  have hcl : ∀ p ∈ cloFrom (envOfC q sc s.heap.objs.size f (.ref c)).cells scope.names [], ∃ i : Nat, fr[i]? = some p.1 ∧ (cloFrom (envOfC q sc s.heap.objs.size f (.ref c)).cells scope.names []).lookup p.1 = some p.2 := fun p hp => by
    have one : ∀ {y : Str} {d : Addr}, (y, d) ∈ cloFrom (envOfC q sc s.heap.objs.size f (.ref c)).cells scope.names [] → (y, NameKind.free) ∈ scope.names ∧ d = ((envOfC q sc s.heap.objs.size f (.ref c)).cells.lookup y).getD 0 := fun {y d} h => by
      rcases cloFrom_mem h with h | h
      · cases h
      · exact h
    obtain ⟨m, e⟩ := one (show (p.1, p.2) ∈ _ from hp)
    obtain ⟨i, hi⟩ := List.mem_iff_getElem?.mp (S.free _ m rfl)
    obtain ⟨d, ed, _⟩ := C.has i _ hi
    obtain ⟨_, e2⟩ := one (PySem.mem_of_lookup ed)
    exact ⟨i, hi, by rw [e, ← e2]; exact ed⟩
  have new : ∀ p ∈ cloFrom (envOfC q sc s.heap.objs.size f (.ref c)).cells scope.names [], s.heap.objs.size ≤ p.2 := fun p hp => by
    obtain ⟨i, hi, el⟩ := hcl p hp
    have e3 : (envOfC q sc s.heap.objs.size f (.ref c)).cells.lookup p.1 = some p.2 := clo_cm (free rfl I1.ok) el
    exact I1.ok.cab _ _ rfl e3
  have keep : ∀ {b o}, H1 b = some o → addC (cloFrom (envOfC q sc s.heap.objs.size f (.ref c)).cells scope.names []) fr ws H1 b = some o := fun {b o} e => by
    refine (if_neg fun z => ?_).trans e
    obtain ⟨p, hp, rfl⟩ := List.mem_map.mp z
    obtain ⟨i, _, el⟩ := hcl p hp
    rw [(C.all _ _ el).1] at e
    cases e
  refine ⟨_, rfl, end_lam (v := .ref g) I1.os I1.bare I1.base I1.hok ndf C hcl new rfl ?_⟩
  exact fin g c' _ _ (e1.trans (ExtN.of fun b o e => keep e)) (fun b hb => by
    obtain ⟨p, hp, rfl⟩ := List.mem_map.mp hb
    obtain ⟨i, _, el⟩ := hcl p hp
    exact n1 _ (C.all _ _ el).1) (t1.ext fun b o e => keep e) (keep l1) (keep c1) C.inj (caps_add ndf C hcl)
/-- THE RULE: a def that ends so -/
theorem okLam {x q : Str} {st : Stmt} {f c : Addr} {fd : FuncData} {N ps : List Str} {k : Nat} {sp : Sp} (F : Fun K x q st f fd) (hc : fd.code = .ref c) (S : FnScope N ps (defScope st)) (len : ∀ vs H Q E, sp vs H Q E → vs.length = ps.length)
    (hbody : ∀ (A : Around) (outer : List Env) (s : Shared) (H : Hp) (vs : List V) (Q : VK) (E : XK), Room k (A.deeper (envOfC q (defScope st) s.heap.objs.size f (.ref c))) → sp vs H Q E →
      ∃ t, PSR (cxOf CX0 P w K mg base N q (defScope st) f (.ref c) A outer s H E) (fun fl s' => ∃ u, fl = .ret u ∧ CE outer P w H s Q u s') (defBody st) t ∧ t (start N vs) H) : FnOk P w K mg base CX0 (k + 1) f fd ps sp := by
  obtain ⟨oc, od, kV, doc, pm, an, cdv, ct, osl, rfl, lk, hcd⟩ := F.ex
  have e : cdv = .ref c := hc
  subst e
  refine ⟨len, fun A outer s H args us vs Q E hr e0 hb r hsp => ?_⟩
  have hl := len _ _ _ _ hsp
  have KX : K.In s.heap := e0.mod.kin.keeps fun b o e => (e0.bs b o e).1
  have lim : s.heap.NoLimit := e0.mod.nolimit.keeps fun b o e => (e0.bs b o e).1
  have hkind : ∀ y ∈ ps.zip us, (defScope st).names.lookup y.1 = some .local ∨ ((defScope st).names.lookup y.1 = some .cell ∧ ((cellsFrom (s.heap.objs.size + 1) (defScope st).names []).lookup y.1).isSome = true) := fun ⟨n, v⟩ hy => by
    rcases S.par n (List.of_mem_zip hy).1 with q | q
    · exact .inl q
    · exact .inr ⟨q, PySem.W.cellsFrom_some _ _ _ (.inl q)⟩
  refine codeAny_call_function hr.depth (KX _ _ lk) rfl S.co S.gen rfl (PySem.W.codeRec_of KX hcd) (hb _ _ _ _ ?_)
  refine wpAny_newFunctionEnv_cells S.kind hkind fun env he s1 x => ?_
  subst he
  refine ⟨lim.keeps x.toInCall.keep, codeAny_func ?_⟩
  obtain ⟨t, ht, hq⟩ := hbody A outer s H vs Q E (hr.deeper _) hsp
  have I : Inv (cxOf CX0 P w K mg base N q (defScope st) f (.ref c) A outer s H E) [] (start N vs) H s1 := inv_start S hr.hd e0 hl r x
  refine wpAny_mono (ht.run [] s1 (start N vs) H I hq) (fun fl s' hs => ?_) fun e s' hs => hs
  obtain ⟨u, rfl, ce⟩ := hs
  exact ce
end
end OF
namespace K19
open PySem PySem.Spec PyProof.Rows L2 OF LamX NdefX
abbrev sBehind : Stmt := topS 26
abbrev sFollow : Stmt := topS 27
section
variable {P : Program} {w : World} {K : PySem.W.Frag} {mg : Str → Option Value} {base : Heap}
/-! ### the places behind one -/
def plc (b : Int) (es : List Int) (n : Int) : List (Int × Int) := (es.filter fun d => decide ((n - d).fmod b = 0)).map fun d => ((n - d).fdiv b, d)
/-- a new list of places -/
def PlacesAt (H : Hp) (L : Addr) (ps : List (Int × Int)) : Prop := ∃ ks : List (Addr × (Int × Int)), ks.map (·.2) = ps ∧ H L = some (.lst (ks.map fun p => V.ref p.1)) ∧ ∀ p ∈ ks, H p.1 = some (.tup [.int p.2.1, .int p.2.2])
theorem PlacesAt.same {H H' : Hp} {L : Addr} {ps : List (Int × Int)} (h : PlacesAt H L ps) (s : Same H H') : PlacesAt H' L ps := by
  obtain ⟨ks, e, h1, h2⟩ := h
  exact ⟨ks, e, s _ _ h1, fun p hp => s _ _ (h2 p hp)⟩
def spBehind (K : PySem.W.Frag) : Sp := fun vs H Q _ => ∃ (b n : Int) (D : Addr) (es : List Int), vs = [.int b, .ref D, .int n] ∧ b ≠ 0 ∧ b.natAbs ≤ 6 ∧ H D = some (.lst (es.map V.int)) ∧ es.length ≤ 60 ∧ ∀ (L : Addr) (H' : Hp), Same H H' → PlacesAt H' L (plc b es n) → H L = none → Q (.ref L) H'
abbrev nBh : List Str := ["base", "digits", "rest", "digit"]
theorem scBh : FnScope nBh ["base", "digits", "rest"] (defScope sBehind) := ⟨rfl, rfl, rfl, by decide +kernel, rfl, by decide +kernel, by decide +kernel⟩
theorem ok_behind {f : Addr} {fd : FuncData} (F : Fun K "places_behind" "places_behind" sBehind f fd) : FnOk P w K mg base CX0 1 f fd ["base", "digits", "rest"] (spBehind K) := by
  refine F.ok scBh (fun vs H Q E h => ?_) (fun cdv A outer s H vs Q E hr h => ?_)
  · obtain ⟨b, n, D, es, rfl, _⟩ := h
    rfl
  · obtain ⟨b, n, D, es, rfl, b0, b6, hD, hl, q⟩ := h
    apply Exists.intro
    apply And.intro
    · apply pss_one
      · exact ps_ret (pe_lc (own := [("digit", 3)]) (g := gName 3) rfl scBh.nd (pi_list (pv 1)) (blkOk_by (own := [("digit", 3)]) (N := nBh) (sc := defScope sBehind) (by decide +kernel)) (fun _ _ _ _ _ => pg_name (i := 3) scBh.nd rfl (Or.inl rfl))
          (fun _ _ _ _ _ => by exact (pts_one (pt_cmpR op_eq (pe_op op_modN (pe_op op_sub (pv 2) (pv 3)) (pv 0)) pe_int (nomark _)))) (fun _ _ _ _ _ => by exact (pe_tup (pa_cons (pe_op op_fdivN (pe_op op_sub (pv 2) (pv 3)) (pv 0)) (pa_cons (pv 3) pa_nil)))))
    refine ⟨.ref D, rfl, D, rfl, ⟨_, SqL.of hD⟩, fun L hL => ?_⟩
    refine lc_list (K := K) (a := D) (xs := es.map V.int) (fun i H' => Same H H' ∧ ∃ ks : List (Addr × (Int × Int)), ks.map (·.2) = plc b (es.take i) n ∧ ks.length ≤ i ∧ H' L = some (.lst (ks.map fun p => V.ref p.1)) ∧ ∀ p ∈ ks, H' p.1 = some (.tup [.int p.2.1, .int p.2.2])) ⟨same_new hL, [], rfl, Nat.le_refl _, upd_same, fun p h => by cases h⟩ (fun i H' _ h => SqL.of (h.1 _ _ hD)) ?_ ?_
    · rintro i x H1 hx ⟨s1, ks, ek, lk, e1, tk⟩
      obtain ⟨d, hd, rfl⟩ := get_map hx
      have hi : i < es.length := (List.getElem?_eq_some_iff.mp hd).1
      refine ⟨rfl, .int n, rfl, .int d, rfl, n, d, rfl, rfl, .int b, rfl, n - d, b, rfl, rfl, b0, rfl, _, rfl, ite2 (fun c => ?_) (fun c => ?_)⟩
      · have c2 : (n - d).fmod b = 0 := V.int.inj (of_decide_eq_true c)
        refine ⟨.int n, rfl, .int d, rfl, n, d, rfl, rfl, .int b, rfl, n - d, b, rfl, rfl, ⟨b0, by omega⟩, .int d, rfl, (by show 2 ≤ sizeLine; decide), fun T hT => ?_⟩
        have s2 := same_new (o := .tup [.int ((n - d).fdiv b), .int d]) hT
        have e2 := s2 _ _ e1
        refine ⟨_, e2, ?_, Same.store (s1.trans s2) hL, ks ++ [(T, ((n - d).fdiv b, d))], ?_, ?_, ?_, fun p hp => ?_⟩
        · rw [List.length_map]
          exact small1000 (by omega)
        · rw [List.map_append, ek, take_more hd]
          unfold plc
          rw [List.filter_append, List.map_append]
          simp [c2]
        · rw [List.length_append]
          show ks.length + 1 ≤ i + 1
          omega
        · rw [upd_same, List.map_append]
          rfl
        · have nL : p.1 ≠ L := fun z => by
            rcases List.mem_append.mp hp with h | h
            · have := s2 _ _ (tk p h)
              rw [z, e2] at this
              cases this
            · cases List.mem_singleton.mp h
              have z2 : T = L := z
              rw [z2, e1] at hT
              cases hT
          rw [upd_ne nL]
          rcases List.mem_append.mp hp with h | h
          · exact s2 _ _ (tk p h)
          · cases List.mem_singleton.mp h
            exact upd_same
      · have c2 : ¬ (n - d).fmod b = 0 := fun z => c (decide_eq_true (congrArg V.int z))
        refine ⟨s1, ks, ?_, by omega, e1, tk⟩
        rw [ek, take_more hd]
        unfold plc
        rw [List.filter_append]
        simp [c2]
    · rintro H1 ⟨s1, ks, ek, lk, e1, tk⟩
      rw [List.length_map, List.take_length] at ek
      exact q L H1 s1 ⟨ks, ek, e1, tk⟩ hL


/-! ### follower: the lambda that it returns -/
def fParams : Arguments := match (defBody sFollow).getD 2 (.Pass ⟨0, 0, 0, 0⟩) with
  | .Return (some (.Lambda p _ _ _)) _ => p
  | _ => defArgs sFollow
def fBody : Expr := match (defBody sFollow).getD 2 (.Pass ⟨0, 0, 0, 0⟩) with
  | .Return (some (.Lambda _ b _ _)) _ => b
  | _ => .Name "x" ⟨0, 0, 0, 0⟩
def fScope : Scope := match (defBody sFollow).getD 2 (.Pass ⟨0, 0, 0, 0⟩) with
  | .Return (some (.Lambda _ _ s _)) _ => s
  | _ => defScope sFollow
abbrev fNF (q : Str) (cl : List (Str × Addr)) (c' : Addr) : NF := ⟨"<lambda>", q, fParams, [], fScope, cl, c'⟩
abbrev nLa : List Str := ["place", "base", "lefts"]
theorem nsLa : NScope nLa ["place"] ["base", "lefts"] fScope := nscope_by (by decide +kernel)
/-- the digits that the lambda finds left of a key -/
def leftOf (ds : List Int) (ks : List (Addr × (Int × Int))) (k : KeyN) : List Int := ds.filter fun d => jdg ds ks (.int d) (nV k)
def spStep (P : Program) (w : World) (b : Int) (D : Addr) (ds : List Int) (ks : List (Addr × (Int × Int))) (cl : List (Str × Addr)) : List V → Sp := fun ws vs H Q _ => ∃ (p : Addr) (n : Int) (k : KeyN), ws = [.int b, .ref D] ∧ vs = [.ref p] ∧ H p = some (.tup [.int n, nV k]) ∧ k ∈ (none :: ds.map some) ∧
  D ∉ cellAs cl ∧ (∀ c ∈ cellAs cl, ∃ φ, H c = some (.ext φ)) ∧ LeftsAt P w H D ds ks (ds.length + 1) ∧ ds.length ≤ 60 ∧ b ≠ 0 ∧ b.natAbs ≤ 6 ∧ ∀ (L : Addr) (H' : Hp), Same H H' → PlacesAt H' L (plc b (leftOf ds ks k) n) → H L = none → Q (.ref L) H'
theorem step_cal {f fB c' : Addr} {fdB : FuncData} {q : Str} {cl : List (Str × Addr)} {b : Int} {D : Addr} {ds : List Int} {ks : List (Addr × (Int × Int))} (inj : InjC cl)
    (GB : FnOk P w K mg base CX0 1 fB fdB ["base", "digits", "rest"] (spBehind K)) (gB : mg "places_behind" = some (.ref fB)) (kB : PySem.W.keepIn K (.ref fB) = true) (bB : Binds K fdB ["base", "digits", "rest"] []) :
    CalO P w K mg base 2 f (LamO f (fNF q cl c') fBody) (spClo (fNF q cl c') ["base", "lefts"] (spStep P w b D ds ks cl)) := by
  refine lam_cal (N := nLa) (ps := ["place"]) (F := fNF q cl c') nsLa inj (fun pm ctv us hl => match us, hl with | [_], _ => rfl) (fun ws vs H Q E h => ?_) (fun A outer s H vs ws Q hr hl h => ?_)
  · obtain ⟨p, n, k, _, rfl, _⟩ := h
    rfl
  · obtain ⟨p, n, k, rfl, rfl, hp, hk, nD, hx, LA, few, b0, b6, q⟩ := h
    refine ⟨_, pe_call GB hr (by rfl) gB kB bB .nil pass0 (pa_cons (pv 1) (pa_cons (pe_ix ix_dictN (pv 2) (pe_ix ix_tup (pv 0) pe_int (fun _ _ => rfl)) (fun _ _ => rfl)) (pa_cons (pe_ix ix_tup (pv 0) pe_int (fun _ _ => rfl)) pa_nil))), ?_⟩
    obtain ⟨kvs, eD, lk, all⟩ := LA
    obtain ⟨i, hi⟩ := List.mem_iff_getElem?.mp hk
    have li : i < ds.length + 1 := by
      have := (List.getElem?_eq_some_iff.mp hi).1
      rw [List.length_cons, List.length_map] at this
      exact this
    obtain ⟨L0, hv, eL⟩ := all i k li hi
    have op := off_at hx hp (fun φ z => by cases z)
    have oL := off_at hx eL (fun φ z => by cases z)
    have oD := off_ne nD eD
    refine ⟨.int b, rfl, .ref D, rfl, .ref p, rfl, p, _, 1, nV k, rfl, rfl, SqT.of op, atI_nat (j := 1) rfl, D, kvs, k, .ref L0, rfl, rfl, Rd.of oD, hv, .ref p, rfl, p, _, 0, .int n, rfl, rfl, SqT.of op, atI_nat (j := 0) rfl, ?_⟩
    refine ⟨b, n, L0, leftOf ds ks k, rfl, b0, b6, oL, Nat.le_trans (List.length_filter_le _ _) few, fun L H' s1 pl nw g => q L _ (on_same s1) ?_ ?_⟩
    · obtain ⟨ps, e1, e2, e3⟩ := pl
      exact ⟨ps, e1, on_at g e2, fun z hz => on_at g (e3 z hz)⟩
    · obtain ⟨ps, e1, e2, e3⟩ := pl
      have out : L ∉ cellAs cl := fun z => by
        rw [g L z] at e2
        cases e2
      exact (if_neg out).symm.trans nw
/-! ### follower -/
abbrev qLam : Str := Str.ofString "follower.<locals>." ++ "<lambda>"
/-- what follower answers -/
def FollowAt (P : Program) (w : World) (H : Hp) (f : Addr) (b : Int) (D : Addr) (ds : List Int) (ks : List (Addr × (Int × Int))) : Prop := ∃ (cl : List (Str × Addr)) (c' : Addr), H f = some (LamO f (fNF qLam cl c') fBody) ∧ InjC cl ∧ CapsO cl ["base", "lefts"] [.int b, .ref D] H ∧ H c' = some (CodeO c' qLam) ∧ D ∉ cellAs cl ∧ LeftsAt P w H D ds ks (ds.length + 1)
def spFollow (P : Program) (w : World) (C : Addr) (T : List (Addr × Str)) : Sp := fun vs H Q _ => ∃ (a t r : Addr) (b : Int) (ds : List Int) (ks : List (Addr × (Int × Int))), vs = [.ref a] ∧ SchemeAt C H a t r b ds ks ∧ ds.length ≤ 60 ∧ Tabs T H ∧
  ∀ (f D : Addr) (H' : Hp), ExtN H H' → Tabs T H' → FollowAt P w H' f b D ds ks → Q (.ref f) H'
abbrev nFo : List Str := ["scheme", "base", "lefts"]
theorem scFo : FnScope nFo ["scheme"] (defScope sFollow) := ⟨rfl, rfl, rfl, by decide +kernel, rfl, by decide +kernel, by decide +kernel⟩
theorem dn_ne {D : Addr} {kvs : List (KeyN × V)} (ps : Array Value) : dN P w D kvs ≠ .tbl ps := fun z => by
  unfold dN at z
  cases z
theorem LeftsAt.extN {H H' : Hp} {D : Addr} {ds : List Int} {ks : List (Addr × (Int × Int))} {n : Nat} (h : LeftsAt P w H D ds ks n) (e : ExtN H H') : LeftsAt P w H' D ds ks n := by
  obtain ⟨kvs, eD, lk, all⟩ := h
  refine ⟨kvs, e _ _ eD dn_ne, lk, fun i k hi hk => ?_⟩
  obtain ⟨L, hv, eL⟩ := all i k hi hk
  exact ⟨L, hv, e _ _ eL (fun ps z => by cases z)⟩
theorem ok_follow {f c PT fB fL C p : Addr} {fd fdB fdL : FuncData} {T : List (Addr × Str)} (F : Fun K "follower" "follower" sFollow f fd) (hc : fd.code = .ref c) (TB : TabB base mg c PT) (hm : (PT, qLam) ∈ T) (hu : ∀ p ∈ T, p.1 = PT → p.2 = qLam)
    (cC : Cls K C) (pB : PropOf K C "base" p fB) (GB : FnOk P w K mg base CX0 1 fB fdB ["self"] (spPB C)) (bB : Binds K fdB ["self"] [])
    (GL : FnOk P w K mg base CX0 7 fL fdL ["scheme"] (spAllLeft P w C)) (gL : mg "all_left_digits" = some (.ref fL)) (kL : PySem.W.keepIn K (.ref fL) = true) (bL : Binds K fdL ["scheme"] []) :
    FnOk P w K mg base CX0 8 f fd ["scheme"] (spFollow P w C T) := by
  refine okLam F hc scFo (fun vs H Q E h => ?_) (fun A outer s H vs Q E hr h => ?_)
  · obtain ⟨a, t, r, b, ds, ks, rfl, _⟩ := h
    rfl
  · obtain ⟨a, t, r, b, ds, ks, rfl, S, few, hT, q⟩ := h
    have hr2 : Room 2 _ := hr.mono (by decide)
    apply Exists.intro
    apply And.intro
    · apply psr_cons
      · exact ps_set (i := 1) scFo.nd rfl (.inr rfl) (pe_prop (pv 0) cC pB GB hr2 bB .nil pass0 (by rfl))
      apply psr_cons
      · exact ps_set (i := 2) scFo.nd rfl (.inr rfl) (pe_call GL hr (by rfl) gL kL bL .nil pass0 (pa_cons (pv 0) pa_nil))
      exact psr_end (T := T) (js := [1, 2]) (fr := ["base", "lefts"]) (Q := Q) (LN := nLa) (lps := ["place"]) (params := fParams) (body := fBody) (scope := fScope) TB hu hm rfl nsLa (by decide +kernel) rfl
    obtain ⟨⟨dx, hins⟩, _⟩ := id S
    refine ⟨.ref a, rfl, a, dx, _, rfl, hins, a, t, r, b, ds, ks, rfl, S, ?_⟩
    refine ⟨.ref a, rfl, a, t, r, b, ds, ks, rfl, S, few, fun D H1 s1 LA => ?_⟩
    refine ⟨hT.ext s1, [.int b, .ref D], rfl, fun g c' cl H2 e2 nw T2 eg ec inj caps => q g D H2 ((ExtN.of s1).trans e2) T2 ⟨cl, c', eg, inj, caps, ec, fun z => ?_, LA.extN e2⟩⟩
    obtain ⟨kvs, eD, _⟩ := LA
    rw [nw D z] at eD
    cases eD
end
end K19
/-! What can be reached: a stack, the keys met, each with its successors on the stack. -/
namespace OF
section
variable {α : Type} {succ : α → List α} {starts keys : List α}
inductive Reach (succ : α → List α) (starts : List α) : α → Prop
  | start {x : α} (h : x ∈ starts) : Reach succ starts x
  | step {x y : α} (r : Reach succ starts x) (h : y ∈ succ x) : Reach succ starts y
structure DInv (succ : α → List α) (starts keys stack : List α) : Prop where
  st : ∀ s ∈ starts, s ∈ keys ∨ s ∈ stack
  su : ∀ k ∈ keys, ∀ s ∈ succ k, s ∈ keys ∨ s ∈ stack
  re : ∀ x, x ∈ keys ∨ x ∈ stack → Reach succ starts x
  nd : keys.Nodup
theorem DInv.begin : DInv succ starts [] starts :=
  ⟨fun s h => .inr h, (fun k h => by cases h), fun x h => h.elim (fun z => by cases z) .start, .nil⟩
/-- popped, met before -/
theorem DInv.skip {l : List α} {y : α} (d : DInv succ starts keys (l ++ [y])) (h : y ∈ keys) : DInv succ starts keys l := by
  have to : ∀ s, s ∈ keys ∨ s ∈ l ++ [y] → s ∈ keys ∨ s ∈ l := fun s h' => by
    rcases h' with h' | h'
    · exact .inl h'
    · rcases List.mem_append.mp h' with z | z
      · exact .inr z
      · cases List.mem_singleton.mp z
        exact .inl h
  exact ⟨fun s hs => to s (d.st s hs), fun k hk s hs => to s (d.su k hk s hs), fun x hx => d.re x (hx.imp id fun z => List.mem_append_left _ z), d.nd⟩
/-- popped, new: its successors stand on the stack -/
theorem DInv.more {l : List α} {y : α} (d : DInv succ starts keys (l ++ [y])) (h : y ∉ keys) : DInv succ starts (keys ++ [y]) (l ++ succ y) := by
  have ry := d.re y (.inr (List.mem_append_right _ List.mem_cons_self))
  have to : ∀ s, s ∈ keys ∨ s ∈ l ++ [y] → s ∈ keys ++ [y] ∨ s ∈ l ++ succ y := fun s h' => by
    rcases h' with h' | h'
    · exact .inl (List.mem_append_left _ h')
    · rcases List.mem_append.mp h' with z | z
      · exact .inr (List.mem_append_left _ z)
      · exact .inl (List.mem_append_right _ z)
  refine ⟨fun s hs => to s (d.st s hs), fun k hk s hs => ?_, fun x hx => ?_, ?_⟩
  · rcases List.mem_append.mp hk with z | z
    · exact to s (d.su k z s hs)
    · cases List.mem_singleton.mp z
      exact .inr (List.mem_append_right _ hs)
  · rcases hx with hx | hx
    · rcases List.mem_append.mp hx with z | z
      · exact d.re x (.inl z)
      · cases List.mem_singleton.mp z
        exact ry
    · rcases List.mem_append.mp hx with z | z
      · exact d.re x (.inr (List.mem_append_left _ z))
      · exact .step ry z
  · rw [List.nodup_append]
    refine ⟨d.nd, List.nodup_cons.mpr ⟨(fun z => by cases z), .nil⟩, fun a ha b hb e => ?_⟩
    cases List.mem_singleton.mp hb
    exact h (e ▸ ha)
theorem DInv.end_ (d : DInv succ starts keys []) (x : α) : x ∈ keys ↔ Reach succ starts x := by
  refine ⟨fun h => d.re x (.inl h), fun r => ?_⟩
  induction r with
  | start h => exact (d.st _ h).elim id fun z => by cases z
  | step r h ih => exact (d.su _ ih _ h).elim id fun z => by cases z
/-- what holds of the starts and is kept by steps holds of all that is reached -/
theorem Reach.all {p : α → Prop} (h0 : ∀ x ∈ starts, p x) (hs : ∀ x, p x → ∀ y ∈ succ x, p y) {x : α} (r : Reach succ starts x) : p x := by
  induction r with
  | start h => exact h0 _ h
  | step r h ih => exact hs _ ih _ h
theorem nodup_le [DecidableEq α] : ∀ (l m : List α), l.Nodup → (∀ x ∈ l, x ∈ m) → l.length ≤ m.length
  | [], _, _, _ => Nat.zero_le _
  | x :: l, m, nd, h => by
    obtain ⟨n1, n2⟩ := List.nodup_cons.mp nd
    have hx := h x List.mem_cons_self
    have e := List.length_erase_of_mem hx
    have p := List.length_pos_of_mem hx
    have ih := nodup_le l (m.erase x) n2 fun y hy => (List.mem_erase_of_ne fun z => n1 (by rw [← z]; exact hy)).mpr (h y (List.mem_cons_of_mem _ hy))
    rw [List.length_cons]
    omega
end
/-! ### places: a rest and a key -/
abbrev Plc := Int × Option Int
/-- the places with a rest of at most B -/
def placesTo (B : Nat) (ds : List Int) : List Plc := ((List.range (2 * B + 1)).map fun k : Nat => (k : Int) - (B : Int)).flatMap fun n => (none :: ds.map some).map fun k => (n, k)
theorem mem_placesTo {B : Nat} {ds : List Int} {p : Plc} (h1 : p.1.natAbs ≤ B) (h2 : p.2 ∈ none :: ds.map some) : p ∈ placesTo B ds := by
  unfold placesTo
  refine List.mem_flatMap.mpr ⟨p.1, List.mem_map.mpr ⟨(p.1 + B).toNat, List.mem_range.mpr (by omega), by omega⟩, List.mem_map.mpr ⟨p.2, h2, rfl⟩⟩
theorem len_placesTo (B : Nat) (ds : List Int) : (placesTo B ds).length = (2 * B + 1) * (ds.length + 1) := by
  unfold placesTo
  rw [List.length_flatMap]
  have e : (((List.range (2 * B + 1)).map fun k : Nat => (k : Int) - (B : Int)).map fun n => ((none :: ds.map some).map fun k => ((n, k) : Plc)).length) = (List.replicate (2 * B + 1) (ds.length + 1)) := by
    rw [List.map_map]
    refine List.eq_replicate_iff.mpr ⟨by simp, fun x hx => ?_⟩
    obtain ⟨k, _, rfl⟩ := List.mem_map.mp hx
    simp
  rw [e, List.sum_replicate_nat]
/-- a step does not lead far: |(n - d) / b| is at most the greater of |n| and m, where |d| <= m (|b| - 1) -/
theorem step_near {n d b : Int} {m B : Nat} (hb : 2 ≤ b.natAbs) (hd : d.natAbs ≤ m) (hn : n.natAbs ≤ B) (hB : m ≤ B) (e : (n - d).fmod b = 0) : ((n - d).fdiv b).natAbs ≤ B := by
  have q := Int.mul_fdiv_add_fmod (n - d) b
  rw [e, Int.add_zero] at q
  have q2 := congrArg Int.natAbs q
  rw [Int.natAbs_mul] at q2
  have h1 : (n - d).natAbs ≤ 2 * B := by omega
  have h3 : 2 * ((n - d).fdiv b).natAbs ≤ b.natAbs * ((n - d).fdiv b).natAbs := Nat.mul_le_mul_right _ hb
  omega
end OF
/-! What a search by a stack finds, in its order. -/
namespace OF
inductive Dfs {α : Type} (succ : α → List α) : List α → List α → List α → Prop
  | done {ks st : List α} (e : st = []) : Dfs succ ks st ks
  | skip {ks st l r : List α} {x : α} (e : st = l ++ [x]) (h : x ∈ ks) (d : Dfs succ ks l r) : Dfs succ ks st r
  | more {ks st l r : List α} {x : α} (e : st = l ++ [x]) (h : x ∉ ks) (d : Dfs succ (ks ++ [x]) (l ++ succ x) r) : Dfs succ ks st r
theorem snoc_inj {α : Type} {l m : List α} {x y : α} (e : l ++ [x] = m ++ [y]) : l = m ∧ x = y := by
  have z := List.append_inj' e rfl
  exact ⟨z.1, List.head_eq_of_cons_eq z.2⟩
theorem Dfs.one {α : Type} {succ : α → List α} {ks st r r2 : List α} (a : Dfs succ ks st r) (b : Dfs succ ks st r2) : r = r2 := by
  induction a with
  | done e =>
    subst e
    cases b with
    | done _ => rfl
    | skip e _ _ => exact absurd e (by simp)
    | more e _ _ => exact absurd e (by simp)
  | skip e h _ ih =>
    subst e
    cases b with
    | done e => exact absurd e (by simp)
    | skip e _ d =>
      obtain ⟨rfl, rfl⟩ := snoc_inj e
      exact ih d
    | more e n _ =>
      obtain ⟨rfl, rfl⟩ := snoc_inj e
      exact absurd h n
  | more e h _ ih =>
    subst e
    cases b with
    | done e => exact absurd e (by simp)
    | skip e n _ =>
      obtain ⟨rfl, rfl⟩ := snoc_inj e
      exact absurd n h
    | more e _ d =>
      obtain ⟨rfl, rfl⟩ := snoc_inj e
      exact ih d
end OF
namespace K19
open PySem PySem.Spec PyProof.Rows L2 OF LamX NdefX
abbrev sGraph : Stmt := topS 29
/-! ### graphs of places -/
/-- the places one step further -/
def sucP (b : Int) (ds : List Int) (ks : List (Addr × (Int × Int))) (p : Plc) : List Plc := (plc b (leftOf ds ks p.2) p.1).map fun q => (q.1, some q.2)
abbrev keyP (p : Plc) : List KeyN := [some p.1, p.2]
abbrev vP (p : Plc) : HO := .tup [.int p.1, nV p.2]
/-- where a key stands, where the list of those behind it, the place -/
abbrev GRow := Addr × Addr × Plc
def kvG (es : List GRow) : List KeyT := es.map fun e => (keyP e.2.2, e.1, V.ref e.2.1)
def keysG (es : List GRow) : List Plc := es.map (·.2.2)
theorem keyP_inj {p q : Plc} (h : keyP p = keyP q) : p = q := by
  obtain ⟨n, k⟩ := p
  obtain ⟨m, j⟩ := q
  unfold keyP at h
  simp only [List.cons.injEq, Option.some.injEq, and_true] at h
  obtain ⟨rfl, rfl⟩ := h
  rfl
theorem getG (p : Plc) : ∀ es : List GRow, getN (kvG es) (keyP p) = (es.find? fun e => decide (e.2.2 = p)).map fun e => V.ref e.2.1
  | [] => rfl
  | e :: es => by
    have ih := getG p es
    unfold getN kvG at ih ⊢
    rw [List.map_cons, List.find?_cons, List.find?_cons]
    by_cases h : e.2.2 = p
    · rw [decide_eq_true (p := e.2.2 = p) h, decide_eq_true (congrArg keyP h)]
      rfl
    · rw [decide_eq_false (p := e.2.2 = p) h, decide_eq_false (fun z => h (keyP_inj z))]
      exact ih
theorem getG_none {es : List GRow} {p : Plc} (h : p ∉ keysG es) : getN (kvG es) (keyP p) = none := by
  rw [getG, List.find?_eq_none.mpr fun e he => ?_]
  · rfl
  · rw [decide_eq_true_eq]
    exact fun z => h (List.mem_map.mpr ⟨e, he, z⟩)
theorem getG_some {es : List GRow} {p : Plc} (h : p ∈ keysG es) : ∃ e ∈ es, e.2.2 = p ∧ getN (kvG es) (keyP p) = some (.ref e.2.1) := by
  rw [getG]
  cases hf : es.find? fun e => decide (e.2.2 = p) with
  | none =>
    obtain ⟨e, he, hp⟩ := List.mem_map.mp h
    have := List.find?_eq_none.mp hf e he
    rw [decide_eq_true_eq] at this
    exact absurd hp this
  | some e =>
    have := List.find?_some hf
    rw [decide_eq_true_eq] at this
    exact ⟨e, List.mem_of_find?_eq_some hf, this, rfl⟩
theorem getG_is (es : List GRow) (p : Plc) : (getN (kvG es) (keyP p)).isSome = decide (p ∈ keysG es) := by
  by_cases h : p ∈ keysG es
  · obtain ⟨e, _, _, g⟩ := getG_some h
    rw [g, decide_eq_true h]
    rfl
  · rw [getG_none h, decide_eq_false h]
    rfl
theorem kvG_app (es : List GRow) (a L : Addr) (p : Plc) : kvG (es ++ [(a, L, p)]) = kvG es ++ [(keyP p, a, V.ref L)] := by
  unfold kvG
  rw [List.map_append]
  rfl
theorem keysG_app (es : List GRow) (a L : Addr) (p : Plc) : keysG (es ++ [(a, L, p)]) = keysG es ++ [p] := by
  unfold keysG
  rw [List.map_append]
  rfl
section
variable {P : Program} {w : World} {K : PySem.W.Frag} {mg : Str → Option Value} {base : Heap}
theorem FollowAt.same {H H' : Hp} {f : Addr} {b : Int} {D : Addr} {ds : List Int} {ks : List (Addr × (Int × Int))} (h : FollowAt P w H f b D ds ks) (s : Same H H') : FollowAt P w H' f b D ds ks := by
  obtain ⟨cl, c', e1, e2, e3, e4, e5, e6⟩ := h
  exact ⟨cl, c', s _ _ e1, e2, e3.same s, s _ _ e4, e5, e6.extN (ExtN.of s)⟩
/-- a graph at G, and the lists in it -/
structure GraphAt (P : Program) (w : World) (H : Hp) (G : Addr) (b : Int) (ds : List Int) (ks : List (Addr × (Int × Int))) (es : List GRow) : Prop where
  at_ : H G = some (dNT P w G (kvG es))
  key : ∀ e ∈ es, H e.1 = some (vP e.2.2)
  val : ∀ e ∈ es, PlacesAt H e.2.1 (plc b (leftOf ds ks e.2.2.2) e.2.2.1)
theorem GraphAt.dict {H : Hp} {G : Addr} {b : Int} {ds : List Int} {ks : List (Addr × (Int × Int))} {es : List GRow} (g : GraphAt P w H G b ds ks es) : DictT P w H G (kvG es) := by
  refine ⟨.inl g.at_, fun p hp => ?_⟩
  obtain ⟨e, he, rfl⟩ := List.mem_map.mp hp
  exact g.key e he
theorem PlacesAt.but {T : Addr} {H H' : Hp} {L : Addr} {ps : List (Int × Int)} {xs : List V} (h : PlacesAt H L ps) (n : L ≠ T) (eT : H T = some (.lst xs)) (s : But T H H') : PlacesAt H' L ps := by
  obtain ⟨ks, e, h1, h2⟩ := h
  refine ⟨ks, e, s _ _ n h1, fun p hp => s _ _ (fun z => ?_) (h2 p hp)⟩
  have := h2 p hp
  rw [z, eT] at this
  cases this
theorem PlacesAt.dict {G : Addr} {kvs : List KeyT} {H : Hp} {L : Addr} {ps : List (Int × Int)} {o : HO} (h : PlacesAt H L ps) (eG : H G = some (dNT P w G kvs)) : PlacesAt (upd H G o) L ps := by
  obtain ⟨ks, e, h1, h2⟩ := h
  have nt : ∀ {c : Addr} {u : HO}, H c = some u → (∀ φ, u ≠ .ext φ) → upd H G o c = some u := fun {c u} e n => by
    rw [upd_ne]
    · exact e
    · rintro rfl
      rw [e] at eG
      exact n _ (Option.some.inj eG)
  exact ⟨ks, e, nt h1 (fun φ z => by cases z), fun p hp => nt (h2 p hp) (fun φ z => by cases z)⟩
def spGraph (P : Program) (w : World) : Sp := fun vs H Q _ => ∃ (S f D : Addr) (b : Int) (ds : List Int) (ks : List (Addr × (Int × Int))) (as : List (Addr × Plc)) (U : List Plc), vs = [.ref S, .ref f] ∧ FollowAt P w H f b D ds ks ∧ H S = some (.lst (as.map fun p => V.ref p.1)) ∧
  (∀ p ∈ as, H p.1 = some (vP p.2)) ∧ as.length ≤ 1000 ∧ ds.length ≤ 60 ∧ b ≠ 0 ∧ b.natAbs ≤ 6 ∧ (∀ p ∈ as, p.2 ∈ U) ∧ (∀ p ∈ U, ∀ q ∈ sucP b ds ks p, q ∈ U) ∧ (∀ p ∈ U, p.2 ∈ none :: ds.map some) ∧ U.length ≤ 100000 ∧
  ∀ (G : Addr) (H' : Hp) (es : List GRow), Same H H' → H G = none → GraphAt P w H' G b ds ks es → (keysG es).Nodup → (∀ x, x ∈ keysG es ↔ Reach (sucP b ds ks) (as.map (·.2)) x) → es.length ≤ U.length → Dfs (sucP b ds ks) [] (as.map (·.2)) (keysG es) → Q (.ref G) H'
abbrev nGr : List Str := ["starts", "follow", "graph", "stack", "node"]
theorem scGr : FnScope nGr ["starts", "follow"] (defScope sGraph) := ⟨rfl, rfl, rfl, by decide +kernel, rfl, by decide +kernel, by decide +kernel⟩
theorem big17 : 7000000 ≤ sizeLine := by unfold sizeLine; decide
theorem ok_graph {f fB : Addr} {fd fdB : FuncData} (F : Fun K "graph_from" "graph_from" sGraph f fd) (mli : mg "list" = none)
    (GB : FnOk P w K mg base CX0 1 fB fdB ["base", "digits", "rest"] (spBehind K)) (gB : mg "places_behind" = some (.ref fB)) (kB : PySem.W.keepIn K (.ref fB) = true) (bB : Binds K fdB ["base", "digits", "rest"] []) :
    FnOk P w K mg base CX0 3 f fd ["starts", "follow"] (spGraph P w) := by
  refine F.ok scGr (fun vs H Q E h => ?_) (fun cdv A outer s H vs Q E hr h => ?_)
  · obtain ⟨S, f, D, b, ds, ks, as, U, rfl, _⟩ := h
    rfl
  · obtain ⟨S, g, D, b, ds, ks, as, U, rfl, FA, hS, hA, lA, few, b0, b6, sU, cU, kU, lU, q⟩ := h
    apply Exists.intro
    apply And.intro
    · apply pss_cons
      · exact ps_set (i := 2) scGr.nd rfl (.inl rfl) pe_dnewNT
      apply pss_cons
      · exact ps_set (i := 3) scGr.nd rfl (.inl rfl) (pe_callTy call_list_of (by rfl) mli PyProof.Rows.boot_list (pa_cons (pv 0) pa_nil))
      apply pss_cons
      · exact ps_while PassesOwn.never (pt_truth (pv 3) (fun _ => rfl))
          (pss_cons (ps_set (i := 4) scGr.nd rfl (.inl rfl) (pe_bm0 PySem.F.plainAttrs_list PySem.F.slot_list_pop PySem.F.type_list_pop mt_pop (pv 3)))
            (pss_one (ps_if (pt_cmpR (op_notInNT (hu_of hr)) (pv 4) (pv 2) rfl)
              (pss_cons (ps_asg (pe_clo (k := 2) (i := 1) hr (by rfl) (.inl rfl) (pa_cons (pv 4) pa_nil)) (pg_sub (pv 2) (pv 4) (set_dictNT (hu_of hr)) (fun _ => rfl)))
                (pss_one (ps_expr (pe_bm PySem.F.plainAttrs_list PySem.F.slot_list_extend PySem.F.type_list_extend mt_extend (pv 3) (pa_cons (pe_ix (ix_dictNT (hu_of hr)) (pv 2) (pv 4) (fun _ _ => rfl)) pa_nil))))) pss_nil)))
      apply pss_one
      · exact ps_ret (pv 2)
    obtain ⟨cl, c', eg, inj, caps, ec, nD, LA⟩ := id FA
    have CA := step_cal (q := qLam) (c' := c') (D := D) (ds := ds) (ks := ks) (b := b) (f := g) inj GB gB kB bB
    refine fun G hG => ?_
    have sG := same_new (o := dNT P w G []) hG
    refine ⟨.ref S, rfl, S, _, rfl, .inl (SqL.of (sG _ _ hS)), fun T hT => ?_⟩
    have nTG : T ≠ G := fun z => by
      rw [z, upd_same] at hT
      cases hT
    have hT0 : H T = none := (upd_ne nTG).symm.trans hT
    refine ⟨fun m σ H' => ∃ (v : Option V) (es : List GRow) (st : List (Addr × Plc)), σ = [some (.ref S), some (.ref g), some (.ref G), some (.ref T), v] ∧ m = (U.length - es.length) * 61 + st.length ∧ Same H H' ∧ GraphAt P w H' G b ds ks es ∧ (∀ e ∈ es, e.2.1 ≠ T) ∧
      H' T = some (.lst (st.map fun p => V.ref p.1)) ∧ (∀ p ∈ st, H' p.1 = some (vP p.2)) ∧ DInv (sucP b ds ks) (as.map (·.2)) (keysG es) (st.map (·.2)) ∧ st.length ≤ 1000 + 60 * es.length ∧ ∀ r, Dfs (sucP b ds ks) (keysG es) (st.map (·.2)) r → Dfs (sucP b ds ks) [] (as.map (·.2)) r, ?_, ?_⟩
    · refine ⟨_, none, [], as, rfl, rfl, Same.trans sG (same_new hT), ⟨?_, (fun e h => by cases h), (fun e h => by cases h)⟩, (fun e h => by cases h), upd_same, fun p hp => same_new hT _ _ (sG _ _ (hA p hp)), DInv.begin, by omega, fun r h => h⟩
      rw [upd_ne nTG.symm, upd_same]
      rfl
    · rintro m σ H1 ⟨v, es, st, rfl, rfl, s1, gA, nT, eT, tS, dI, lS, dF⟩
      have inU : ∀ x, Reach (sucP b ds ks) (as.map (·.2)) x → x ∈ U := fun x r => Reach.all (p := fun x => x ∈ U) (fun x hx => by
        obtain ⟨p, hp, rfl⟩ := List.mem_map.mp hx
        exact sU p hp) (fun x hx y hy => cU x hx y hy) r
      have kLen : es.length ≤ U.length := by
        have := nodup_le (keysG es) U dI.nd fun x hx => inU x (dI.re x (.inl hx))
        rw [show (keysG es).length = es.length from List.length_map _] at this
        exact this
      refine ⟨.ref T, rfl, !(st.map fun p => V.ref p.1).isEmpty, .inl ⟨_, SqL.of eT, rfl⟩, ?_⟩
      rcases List.eq_nil_or_concat st with rfl | ⟨l, y, rfl⟩
      · refine iteFB rfl ⟨.ref G, rfl, q G H1 es s1 hG gA dI.nd dI.end_ kLen (dF _ (.done rfl))⟩
      · rw [List.concat_eq_append] at *
        have y1 := tS y (List.mem_append_right _ List.mem_cons_self)
        rw [List.map_append] at dI eT dF
        have yU := inU y.2 (dI.re y.2 (.inr (List.mem_append_right _ List.mem_cons_self)))
        have lS2 : l.length + 1 ≤ 1000 + 60 * es.length := by
          rw [List.length_append] at lS
          exact lS
        refine iteTB (by simp) ⟨_, fun σ' H' h => h, ?_⟩
        refine ⟨.ref T, rfl, .inl ⟨rfl, _, SqL.of eT⟩, T, _, .ref y.1, rfl, rfl, eT, by simp, ?_⟩
        have eP : (l.map (fun p => V.ref p.1) ++ [y].map fun p => V.ref p.1).dropLast = l.map fun p => V.ref p.1 := by simp
        rw [eP]
        have b2 : But T H1 (upd H1 T (.lst (l.map fun p => V.ref p.1))) := But.at_
        have s2 : Same H (upd H1 T (.lst (l.map fun p => V.ref p.1))) := Same.store s1 hT0
        have e2 : (upd H1 T (.lst (l.map fun p => V.ref p.1))) T = some (.lst (l.map fun p => V.ref p.1)) := upd_same
        generalize upd H1 T (.lst (l.map fun p => V.ref p.1)) = H2 at b2 s2 e2 ⊢
        have tupT : ∀ {c : Addr} {xs : List V}, H1 c = some (.tup xs) → H2 c = some (.tup xs) := fun {c xs} e => b2 _ _ (fun z => by
          rw [z, eT] at e
          cases e) e
        have gA2 : GraphAt P w H2 G b ds ks es := ⟨b2 _ _ nTG.symm gA.at_, fun e he => tupT (gA.key e he), fun e he => (gA.val e he).but (nT e he) eT b2⟩
        have y2 : H2 y.1 = some (vP y.2) := tupT y1
        have tS2 : ∀ p ∈ l, H2 p.1 = some (vP p.2) := fun p hp => tupT (tS p (List.mem_append_left _ hp))
        refine ⟨.ref y.1, rfl, .ref G, rfl, G, kvG es, keyP y.2, y.1, rfl, rfl, gA2.dict, y2, ?_⟩
        rw [getG_is]
        by_cases hk : y.2 ∈ keysG es
        · rw [decide_eq_true hk]
          refine ⟨_, rfl, iteF ?_⟩
          refine ⟨_, ?_, some (.ref y.1), es, l, rfl, rfl, s2, gA2, nT, e2, tS2, dI.skip hk, by omega, fun r h => dF r (.skip rfl hk h)⟩
          rw [List.length_append]
          show _ < _ + (l.length + 1)
          omega
        · rw [decide_eq_false hk]
          refine ⟨_, rfl, iteT ?_⟩
          refine ⟨g, _, _, rfl, CA, s2 _ _ eg, .ref y.1, rfl, s2 _ _ eg, [.int b, .ref D], caps.same s2, s2 _ _ ec, y.1, y.2.1, y.2.2, rfl, rfl, y2, kU _ yU, nD, (caps.same s2).ext, LA.extN (ExtN.of s2), few, b0, b6, fun L H3 s3 pl nL => ?_⟩
          have LnT : L ≠ T := fun z => by
            rw [z, e2] at nL
            cases nL
          have LnG : L ≠ G := fun z => by
            rw [z, gA2.at_] at nL
            cases nL
          have e3 := s3 _ _ gA2.at_
          have kl : es.length < U.length := by
            have z := nodup_le (keysG es ++ [y.2]) U (dI.more hk).nd fun x hx => by
              rcases List.mem_append.mp hx with h | h
              · exact inU x (dI.re x (.inl h))
              · cases List.mem_singleton.mp h
                exact yU
            rw [List.length_append, show (keysG es).length = es.length from List.length_map _] at z
            exact z
          have big := big17
          refine ⟨.ref G, rfl, .ref y.1, rfl, G, kvG es, keyP y.2, y.1, rfl, rfl, ⟨.inl e3, fun p hp => s3 _ _ (gA2.dict.ks p hp)⟩, e3, s3 _ _ y2, by rw [show (kvG es).length = es.length from List.length_map _]; omega, ?_⟩
          rw [putN_new (getG_none hk), ← kvG_app es y.1 L y.2]
          generalize e4H : upd H3 G (dNT _ _ G (kvG (es ++ [(y.1, L, y.2)]))) = H4
          have e4H : upd H3 G (dNT P w G (kvG (es ++ [(y.1, L, y.2)]))) = H4 := e4H
          have tup4 : ∀ {c : Addr} {xs : List V}, H2 c = some (.tup xs) → (upd H3 G (dNT P w G (kvG (es ++ [(y.1, L, y.2)])))) c = some (.tup xs) := fun {c xs} e => by
            have e := s3 _ _ e
            rw [upd_ne]
            · exact e
            · rintro rfl
              rw [e3] at e
              cases e
          have gA4 : GraphAt P w (upd H3 G (dNT P w G (kvG (es ++ [(y.1, L, y.2)])))) G b ds ks (es ++ [(y.1, L, y.2)]) := by
            refine ⟨upd_same, fun e he => ?_, fun e he => ?_⟩
            · rcases List.mem_append.mp he with h | h
              · exact tup4 (gA2.key e h)
              · cases List.mem_singleton.mp h
                exact tup4 y2
            · rcases List.mem_append.mp he with h | h
              · exact ((gA2.val e h).same s3).dict e3
              · cases List.mem_singleton.mp h
                exact pl.dict e3
          have s4 : Same H (upd H3 G (dNT P w G (kvG (es ++ [(y.1, L, y.2)])))) := Same.store (s2.trans s3) hG
          have e4 : (upd H3 G (dNT P w G (kvG (es ++ [(y.1, L, y.2)])))) T = some (.lst (l.map fun p => V.ref p.1)) := (upd_ne nTG).trans (s3 _ _ e2)
          have pl4 := pl.dict (o := dNT P w G (kvG (es ++ [(y.1, L, y.2)]))) e3
          rw [e4H] at tup4 gA4 s4 e4 pl4
          obtain ⟨ps, ep, eL, tp⟩ := pl4
          have lp : ps.length ≤ 60 := by
            have z := congrArg List.length ep
            rw [List.length_map] at z
            rw [z]
            unfold plc leftOf
            rw [List.length_map]
            exact Nat.le_trans (List.length_filter_le _ _) (Nat.le_trans (List.length_filter_le _ _) few)
          have gk : getN (kvG (es ++ [(y.1, L, y.2)])) (keyP y.2) = some (.ref L) := by
            rw [getG, List.find?_append, List.find?_eq_none.mpr fun e he => by
              rw [decide_eq_true_eq]
              exact fun z => hk (List.mem_map.mpr ⟨e, he, z⟩)]
            simp
          refine ⟨.ref T, rfl, .inl ⟨rfl, _, SqL.of e4⟩, .ref G, rfl, .ref y.1, rfl, G, _, keyP y.2, y.1, .ref L, rfl, rfl, gA4.dict, tup4 y2, gk, ?_⟩
          refine ⟨T, L, _, _, rfl, rfl, e4, eL, ?_, ?_⟩
          · rw [List.length_map, List.length_map]
            omega
          have b5 : But T H4 (upd H4 T (.lst ((l.map fun p => V.ref p.1) ++ ps.map fun p => V.ref p.1))) := But.at_
          have s5 := Same.store (o := .lst ((l.map fun p => V.ref p.1) ++ ps.map fun p => V.ref p.1)) s4 hT0
          have e5 : (upd H4 T (.lst ((l.map fun p => V.ref p.1) ++ ps.map fun p => V.ref p.1))) T = some (.lst ((l.map fun p => V.ref p.1) ++ ps.map fun p => V.ref p.1)) := upd_same
          generalize upd H4 T (.lst ((l.map fun p => V.ref p.1) ++ ps.map fun p => V.ref p.1)) = H5 at b5 s5 e5 ⊢
          have tupT5 : ∀ {c : Addr} {xs : List V}, H4 c = some (.tup xs) → H5 c = some (.tup xs) := fun {c xs} e => b5 _ _ (fun z => by
            rw [z, e4] at e
            cases e) e
          have nT5 : ∀ e ∈ es ++ [(y.1, L, y.2)], e.2.1 ≠ T := fun e he => by
            rcases List.mem_append.mp he with h | h
            · exact nT e h
            · cases List.mem_singleton.mp h
              exact LnT
          have eSuc : sucP b ds ks y.2 = (ps.map fun p => (p.1, ((p.2.1, some p.2.2) : Plc))).map (·.2) := by
            unfold sucP
            rw [← ep, List.map_map, List.map_map]
            rfl
          refine ⟨_, ?_, some (.ref y.1), es ++ [(y.1, L, y.2)], l ++ ps.map fun p => (p.1, ((p.2.1, some p.2.2) : Plc)), rfl, rfl, s5, ⟨b5 _ _ nTG.symm gA4.at_, fun e he => tupT5 (gA4.key e he), fun e he => (gA4.val e he).but (nT5 e he) e4 b5⟩, nT5, ?_, fun p hp => ?_, ?_, ?_, fun r h => dF r (.more rfl hk ?_)⟩
          · rw [List.length_append, List.length_append, List.length_append, List.length_map]
            show (U.length - (es.length + 1)) * 61 + (l.length + ps.length) < (U.length - es.length) * 61 + (l.length + 1)
            have : U.length - es.length = (U.length - (es.length + 1)) + 1 := by omega
            rw [this, Nat.add_mul]
            omega
          · rw [e5, List.map_append, List.map_map]
            rfl
          · rcases List.mem_append.mp hp with h | h
            · exact tupT5 (tup4 (tS2 p h))
            · obtain ⟨z, hz, rfl⟩ := List.mem_map.mp h
              exact tupT5 (tp z hz)
          · rw [keysG_app, List.map_append, ← eSuc]
            exact dI.more hk
          · rw [List.length_append, List.length_append, List.length_map]
            show l.length + ps.length ≤ 1000 + 60 * (es.length + 1)
            omega
          · rw [keysG_app, List.map_append, ← eSuc] at h
            exact h
end
end K19
/-! A lambda handed to a def, its captured cells those of the running frame: they are tracked while the call lasts. -/
namespace OF
open PySem PySem.Spec PyProof.Rows L2 LamX NdefX
/-! ### the lambda, made -/
def tLamN (T : List (Addr × Str)) (qual : Str) (params : Arguments) (scope : Scope) (body : Expr) (cl : List (Str × Addr)) : TE := fun _ H Q => Tabs T H ∧ ∀ (f c' : Addr) (H1 : Hp), ExtN H H1 → (∀ b, H1 b = Option.none → H b = Option.none) → Tabs T H1 →
  H1 f = some (LamO f ⟨"<lambda>", qual, params, [], scope, cl, c'⟩ body) → H1 c' = some (CodeO c' qual) → Q (.ref f) H1
theorem pe_lamN {X : Cx} {T : List (Addr × Str)} {c P : Addr} {params : Arguments} {body : Expr} {scope : Scope} {pos : Pos} (TB : TabB X.base X.mg c P) (hcode : X.env.code = .ref c) (hm : (P, X.env.qual ++ "<lambda>") ∈ T) (hu : ∀ p ∈ T, p.1 = P → p.2 = X.env.qual ++ "<lambda>")
    (hdef : defaultsOf params X.env = ([], [])) (hfree : X.Ok → ∀ y ∈ scope.names, y.2 = .free → ∃ c, X.env.cells.lookup y.1 = some c) : PE X (.Lambda params body scope pos) (tLamN T (X.env.qual ++ "<lambda>") params scope body (cloFrom X.env.cells scope.names [])) := by
  refine ⟨fun pins s σ H Q I h => ?_⟩
  obtain ⟨hT, q⟩ := h
  exact lam_new I TB hcode hm hu hT hdef (hfree I.ok) fun f c' H1 s' I1 e1 n1 t1 l1 c1 => ⟨.ref f, H1, I1, rfl, q f c' H1 e1 n1 t1 l1 c1⟩
/-! ### cells tracked, told by what they hold -/
structure CapsX (cl : List (Str × Addr)) (fr : List Str) (ws : List V) (H : Hp) : Prop where
  len : ws.length = fr.length
  all : ∀ p ∈ cl, ∃ φ : Heap → Prop, H p.2 = some (.ext φ) ∧ ∀ h, φ h → ∃ v, h.IsCell p.2 v
  has : ∀ (i : Nat) (y : Str), fr[i]? = some y → ∃ (c : Addr) (v : V) (φ : Heap → Prop), cl.lookup y = some c ∧ ws[i]? = some v ∧ H c = some (.ext φ) ∧ ∀ h, φ h → ∃ u, L2.RelV v u ∧ h.IsCell c (some u)
theorem CapsX.ext {cl : List (Str × Addr)} {fr : List Str} {ws : List V} {H : Hp} (C : CapsX cl fr ws H) : ∀ c ∈ cellAs cl, ∃ φ, H c = some (.ext φ) := fun c hc => by
  obtain ⟨p, hp, rfl⟩ := List.mem_map.mp hc
  obtain ⟨φ, e, _⟩ := C.all p hp
  exact ⟨_, e⟩
theorem CapsX.extN {cl : List (Str × Addr)} {fr : List Str} {ws : List V} {H H' : Hp} (C : CapsX cl fr ws H) (s : ExtN H H') : CapsX cl fr ws H' :=
  ⟨C.len, fun p hp => let ⟨φ, e, k⟩ := C.all p hp; ⟨φ, s _ _ e (fun ps z => by cases z), k⟩, fun i y h => let ⟨c, v, φ, a, b, e, k⟩ := C.has i y h; ⟨c, v, φ, a, b, s _ _ e (fun ps z => by cases z), k⟩⟩
theorem CapsX.same {cl : List (Str × Addr)} {fr : List Str} {ws : List V} {H H' : Hp} (C : CapsX cl fr ws H) (s : Same H H') : CapsX cl fr ws H' := C.extN (ExtN.of s)
theorem CapsO.x {cl : List (Str × Addr)} {fr : List Str} {ws : List V} {H : Hp} (C : CapsO cl fr ws H) : CapsX cl fr ws H :=
  ⟨C.len, fun p hp => let ⟨v, e⟩ := C.all p hp; ⟨_, e, fun h ⟨u, _, z⟩ => ⟨_, z⟩⟩, fun i y h => let ⟨c, v, a, b, e⟩ := C.has i y h; ⟨c, v, _, a, b, e, fun h z => z⟩⟩
def spCloX (F : NF) (fr : List Str) (sp : List V → Sp) : Sp := fun vs H Q E => ∃ ws, CapsX F.cl fr ws H ∧ H F.c = some (CodeO F.c F.qual) ∧ sp ws vs H Q E
section
variable {P : Program} {w : World} {K : PySem.W.Frag} {mg : Str → Option Value} {base : Heap} {N ps fr : List Str} {F : NF} {b : Expr} {f : Addr} {k : Nat} {sp : List V → Sp}
theorem caps_atX {s : Shared} {H : Hp} {cl : List (Str × Addr)} {ws : List V} (hok : HOk P w H s.heap) (inj : InjC cl) (C : CapsX cl fr ws H) : CellsAt cl fr (ws.map some) s.heap (offC (cellAs cl) H) := by
  refine ⟨by rw [List.length_map]; exact C.len, fun y c e => ?_, inj, fun i y h => ?_⟩
  · have m := PySem.mem_of_lookup e
    obtain ⟨φ, e2, k⟩ := C.all _ m
    obtain ⟨z, _, _⟩ := hok _ _ e2
    exact ⟨if_pos (List.mem_map.mpr ⟨_, m, rfl⟩), k _ z⟩
  · obtain ⟨c, v, φ, e1, e2, e3, k⟩ := C.has i y h
    refine ⟨c, e1, fun v' hv' => ?_⟩
    rw [List.getElem?_map, e2] at hv'
    cases hv'
    obtain ⟨z, _, _⟩ := hok _ _ e3
    exact k _ z
/-- THE RULE: a lambda by its body -/
theorem lam_calX (S : NScope N ps fr F.scope) (inj : InjC F.cl) (hb : ∀ (pm ctv : Value) (us : List Value), us.length = ps.length → bindArgs (PySem.W.kla_fn "<lambda>" F.qual F.params b F.scope F.cl pm (.ref F.c) ctv) ⟨us, []⟩ = pure (ps.zip us))
    (len : ∀ ws vs H Q E, sp ws vs H Q E → vs.length = ps.length)
    (hbody : ∀ (A : Around) (outer : List Env) (s : Shared) (H : Hp) (vs ws : List V) (Q : VK), Room k (A.deeper (envF F f s.heap.objs.size)) → ws.length = fr.length → sp ws vs H Q E0 →
      ∃ te, PE (ncx CX0 P w K mg base N F f A outer s (offC (cellAs F.cl) H) E0) b te ∧ te (startF N vs (ws.map some)) (offC (cellAs F.cl) H) (fun v H' => (∀ c ∈ cellAs F.cl, H' c = none) → Q v (onC (cellAs F.cl) H H'))) :
    CalO P w K mg base (k + 1) f (LamO f F b) (spCloX F fr sp) := by
  refine ⟨fun H h ok e => ?_, fun A outer s H us vs Q hr e0 hf r hq => ?_⟩
  · obtain ⟨⟨pm, ctv, e'⟩, _, _⟩ := ok f _ e
    exact ⟨_, _, _, _, e'⟩
  · obtain ⟨ws, C, hc, hsp⟩ := hq
    have hl := len _ _ _ _ _ hsp
    have lim : s.heap.NoLimit := e0.mod.nolimit.keeps fun b o e => (e0.bs b o e).1
    obtain ⟨⟨pm, ctv, ho⟩, _, _⟩ := e0.hok f _ hf
    have hx := C.ext
    refine PySem.W.kla_callFunE hr.depth ho rfl S.co S.gen rfl (codeO_at e0.hok hc) ?_
    rw [hb pm ctv us (by rw [← r.length]; exact hl)]
    refine wpAny_pure (wpAny_newFunctionEnv S.nocell (fun ⟨n, _⟩ hy => S.par n (List.of_mem_zip hy).1) (fun h₁ hns hsb => ⟨lim.fresh _ hsb, ?_⟩) S.kind)
    show codeAny _ _ (.expr b (envF F f s.heap.objs.size)) _ _
    have kp : ∀ b o, s.heap.get? b = some o → h₁.get? b = some o := fun b o e => hsb.extBut b o (Nat.ne_of_lt (Heap.lt_size e)) (Heap.get?_push_of_some _ e)
    obtain ⟨te, ht, q⟩ := hbody A outer s H vs ws Q (hr.deeper _) C.len hsp
    have I : Inv (ncx CX0 P w K mg base N F f A outer s (offC (cellAs F.cl) H) E0) [] (startF N vs (ws.map some)) (offC (cellAs F.cl) H) { s with heap := h₁, toks := s.toks + (ps.zip us).length } := inv_startN S hr.hd (env_off e0 hx) hl r (caps_atX e0.hok inj C) hns kp
    refine PySem.W.kla_codeExpr (wpAny_mono (ht.run [] _ _ _ _ I q) (fun v s' hq => ?_) fun e s' hq => hq)
    obtain ⟨w', H', J', rv, q⟩ := hq
    exact on_end e0.hok e0.frf hx ⟨w', H', J'.os, J'.bare, J'.base, J'.hok, rv, q⟩
end
/-! ### a call of a def, the frame's cells tracked -/
def pinC (cs : List Addr) (h : Heap) (H : Hp) : Hp := fun b => if b ∈ cs then some (.ext fun h' => h'.get? b = h.get? b) else H b
section
variable {X : Cx} {cl : List (Str × Addr)} {fr : List Str} {ws : List V}
theorem pin_in {cs : List Addr} {h : Heap} {H : Hp} {b : Addr} (hb : b ∈ cs) : pinC cs h H b = some (.ext fun h' => h'.get? b = h.get? b) := if_pos hb
theorem pin_out {cs : List Addr} {h : Heap} {H : Hp} {b : Addr} (hb : b ∉ cs) : pinC cs h H b = H b := if_neg hb
theorem pin_same {cs : List Addr} {h : Heap} {H : Hp} (hn : ∀ b ∈ cs, H b = none) : Same H (pinC cs h H) := fun b o e => (pin_out fun z => by rw [hn b z] at e; cases e).trans e
theorem pin_env {pins : List (Addr × Obj)} {σ : L2.St} {H : Hp} {s : Shared} {cs : List Addr} (I : Inv X pins σ H s) (hn : ∀ b ∈ cs, H b = none) (there : ∀ b ∈ cs, ∃ o, s.heap.get? b = some o) (nf : ∀ b ∈ cs, b ∉ frs X.stack) (nb : ∀ b ∈ cs, X.base.get? b = none) : Env0 X.prog X.w X.K X.mg X.base X.A X.stack s (pinC cs s.heap H) := by
  have e0 := I.env0
  refine ⟨e0.frames, e0.mod, fun b o e => ⟨(e0.bs b o e).1, ?_⟩, e0.bsz, e0.funs, fun b hb => ?_, fun b o e => ?_, e0.bare⟩
  · rw [pin_out fun z => by rw [nb b z] at e; cases e]
    exact (e0.bs b o e).2
  · rw [pin_out fun z => nf b z hb]
    exact e0.frf b hb
  · by_cases hb : b ∈ cs
    · rw [pin_in hb] at e
      cases e
      obtain ⟨o, ho⟩ := there b hb
      exact ⟨rfl, ⟨o, ho⟩, fun h1 h2 z k => (k o (z.trans ho)).trans ho.symm⟩
    · rw [pin_out hb] at e
      exact (e0.hok b o e).stay (fun _ _ _ q => q) (fun d q => pin_same hn _ _ q) fun d xs q => pin_same hn _ _ q
theorem pin_end {pins : List (Addr × Obj)} {σ : L2.St} {H : Hp} {s s' : Shared} {cs : List Addr} {Q : VK} {u : Value} (I : Inv X pins σ H s) (hn : ∀ b ∈ cs, H b = none) (there : ∀ b ∈ cs, ∃ o, s.heap.get? b = some o) (nf : ∀ b ∈ cs, b ∉ frs X.stack)
    (h : CE X.stack X.prog X.w (pinC cs s.heap H) s (fun v H3 => (∀ c ∈ cs, H3 c = pinC cs s.heap H c) ∧ Q v (offC cs H3)) u s') : CE X.stack X.prog X.w H s Q u s' := by
  obtain ⟨v, H3, os, bare, un, ok, rv, st, q⟩ := h
  have out : ∀ {b o}, H b = some o → b ∉ cs := fun {b o} e z => by
    rw [hn b z] at e
    cases e
  have off : ∀ {b}, b ∉ cs → offC cs H3 b = H3 b := fun {b} n => if_neg n
  have offn : ∀ {b}, b ∈ cs → offC cs H3 b = none := fun {b} n => if_pos n
  have kept : ∀ b ∈ cs, s'.heap.get? b = s.heap.get? b := fun b hb => by
    have e := st b hb
    rw [pin_in hb] at e
    obtain ⟨z, _, _⟩ := ok b _ e
    exact z
  refine ⟨v, offC cs H3, os, bare, ⟨fun b o e n m ne => ?_, fun b o e n m ne => ?_, fun b o e n ne => ?_, un.there, fun b xs e => ?_, fun b o y e => ?_, fun b ps e => ?_⟩, off_ok ok (fun c hc => ⟨_, (st c hc).trans (pin_in hc)⟩), rv, q⟩
  · by_cases hb : b ∈ cs
    · exact (kept b hb).trans e
    · exact un.keep b o e ((pin_out hb).trans n) m ne
  · have hb : b ∉ cs := fun z => nf b z m
    exact un.slot b o e ((pin_out hb).trans n) m ne
  · by_cases hb : b ∈ cs
    · exact offn hb
    · rw [off hb]
      exact un.free b o e ((pin_out hb).trans n) ne
  · have hb := out e
    rw [off hb]
    exact un.tups b xs ((pin_out hb).trans e)
  · have hb := out e
    rw [off hb]
    exact un.frzs b o y ((pin_out hb).trans e)
  · have hb := out e
    rw [off hb]
    exact un.tbls b ps ((pin_out hb).trans e)
/-- g(.., lambda ..): the cells stand tracked while g runs -/
def tCallPin (sp : Sp) (cl : List (Str × Addr)) (fr : List Str) (js : List Nat) (t : TA) : TE := fun σ H Q => t σ H fun vs H1 => ∃ ws : List V, js.map (slotAt σ) = ws.map some ∧
  ∀ H2 : Hp, Same H1 H2 → (∀ b ∈ cellAs cl, H1 b = none) → InjC cl → CapsX cl fr ws H2 → sp vs H2 (fun v H3 => (∀ c ∈ cellAs cl, H3 c = H2 c) ∧ Q v (offC (cellAs cl) H3)) E0
theorem pe_callPin {x : Str} {p pos : Pos} {e : Expr} {es : List Expr} {t : TA} {f : Addr} {fd : FuncData} {ps : List Str} {sp : Sp} {k : Nat} {scope : Scope} {js : List Nat} {LN lps : List Str} (F : FnOk X.prog X.w X.K X.mg X.base CX0 k f fd ps sp) (hr : Room k X.A) (hg : Gl X x) (hm : X.mg x = some (.ref f)) (hk : PySem.W.keepIn X.K (.ref f) = true) (hb : Binds X.K fd ps [])
    (ha : PA X (e :: es) t) (S : NScope LN lps fr scope) (hb2 : ndefB X.env.scope scope fr = true) (hjs : js.map (fun j => X.N[j]?) = fr.map some) (hfn : ∀ x, X.fn x = true)
    (hdb : (x == ("__debug__" : Str)) = false := by decide) (he : starEach (e :: es) X.env = (false, eval e X.env) :: starEach es X.env := by rfl) (hpl : (backTo pos (starEach es X.env)).any (·.1) = false := by rfl) :
    PE X (.Call (.Name x p) (e :: es) [] pos) (tCallPin sp (cloFrom X.env.cells scope.names []) fr js t) := by
  refine ⟨fun pins s σ H Q I h => ?_⟩
  refine wpAny_Call_Name_kw (ld_glob I hg hm ?_ hdb)
  refine PySem.W.callWith_K (h₀ := X.base) I.ok.mod.kin hk (thn (ha.run pos pins s σ H _ I h) fun us s1 ⟨vs, H1, I1, r, q⟩ => ⟨I1.kIn, ?_⟩) he hpl
  obtain ⟨ws, hw, q⟩ := q
  have free : ∀ y ∈ scope.names, y.2 = .free → ∃ c, X.env.cells.lookup y.1 = some c := fun y hy e => by
    rcases ndef_free hb2 y hy e with k | k
    · exact I1.ok.has _ (.inl k)
    · exact I1.ok.has _ (.inr k)
  have cp := Caps.made I1.ok (ndef_free hb2) (ndef_fr hb2) hjs
  have C := cells_of I1 cp
  rw [hw] at C
  have hcl : ∀ p ∈ cloFrom X.env.cells scope.names [], ∃ i : Nat, fr[i]? = some p.1 ∧ (cloFrom X.env.cells scope.names []).lookup p.1 = some p.2 := fun p hp => by
    have one : ∀ {y : Str} {d : Addr}, (y, d) ∈ cloFrom X.env.cells scope.names [] → (y, NameKind.free) ∈ scope.names ∧ d = (X.env.cells.lookup y).getD 0 := fun {y d} h => by
      rcases cloFrom_mem h with h | h
      · cases h
      · exact h
    obtain ⟨m, e⟩ := one (show (p.1, p.2) ∈ _ from hp)
    obtain ⟨i, hi⟩ := List.mem_iff_getElem?.mp (S.free _ m rfl)
    obtain ⟨d, ed, _⟩ := C.has i _ hi
    obtain ⟨_, e2⟩ := one (PySem.mem_of_lookup ed)
    exact ⟨i, hi, by rw [e, ← e2]; exact ed⟩
  have cell : ∀ b ∈ cellAs (cloFrom X.env.cells scope.names []), ∃ y, X.env.cells.lookup y = some b := fun b hb => by
    obtain ⟨p, hp, rfl⟩ := List.mem_map.mp hb
    obtain ⟨i, _, el⟩ := hcl p hp
    exact ⟨p.1, clo_cm free el⟩
  have hn : ∀ b ∈ cellAs (cloFrom X.env.cells scope.names []), H1 b = none := fun b hb => by
    obtain ⟨y, hy⟩ := cell b hb
    exact I1.freeC y b hy
  have there : ∀ b ∈ cellAs (cloFrom X.env.cells scope.names []), ∃ o, s1.heap.get? b = some o := fun b hb => by
    obtain ⟨y, hy⟩ := cell b hb
    obtain ⟨v, o, ho, _⟩ := I1.cell y b hy
    exact ⟨o, ho⟩
  have new : ∀ b ∈ cellAs (cloFrom X.env.cells scope.names []), X.s_0.heap.objs.size ≤ b := fun b hb => by
    obtain ⟨y, hy⟩ := cell b hb
    exact I1.ok.cab y b (hfn y) hy
  have nf : ∀ b ∈ cellAs (cloFrom X.env.cells scope.names []), b ∉ frs X.stack := fun b hb z => by
    obtain ⟨y, hy⟩ := cell b hb
    rcases List.mem_cons.mp (I1.stkSub b z) with e | hf
    · exact I1.cne y b hy e
    · obtain ⟨_, o, ho, _⟩ := I1.ok.funs.mem hf
      exact absurd (Heap.lt_size ho) (Nat.not_lt_of_le (new b hb))
  have nb : ∀ b ∈ cellAs (cloFrom X.env.cells scope.names []), X.base.get? b = none := fun b hb => Heap.get?_none_of_le (Nat.le_trans I1.ok.bsz (new b hb))
  have CX : CapsX (cloFrom X.env.cells scope.names []) fr ws (pinC (cellAs (cloFrom X.env.cells scope.names [])) s1.heap H1) := by
    have lw : ws.length = fr.length := by
      have := C.len
      rw [List.length_map] at this
      exact this
    refine ⟨lw, fun p hp => ⟨_, pin_in (List.mem_map.mpr ⟨p, hp, rfl⟩), fun h z => ?_⟩, fun i y hi => ?_⟩
    · obtain ⟨i, _, el⟩ := hcl p hp
      obtain ⟨_, v, o, ho, hd⟩ := C.all _ _ el
      exact ⟨v, o, z.trans ho, hd⟩
    · obtain ⟨c, e1, hv⟩ := C.has i y hi
      have li : i < ws.length := by
        rw [lw]
        exact (List.getElem?_eq_some_iff.mp hi).1
      have hw2 := List.getElem?_eq_getElem li
      obtain ⟨u, ru, o, ho, hd⟩ := hv _ (by rw [List.getElem?_map, hw2]; rfl)
      exact ⟨c, ws[i], _, e1, hw2, pin_in (List.mem_map.mpr ⟨(y, c), PySem.mem_of_lookup e1, rfl⟩), fun h z => ⟨u, ru, o, z.trans ho, hd⟩⟩
  have h2 := q _ (pin_same hn) hn C.inj CX
  have hl := F.len _ _ _ _ h2
  refine wpAny_call (codeAny_mono (F.run X.A X.stack s1 _ ⟨us, []⟩ us vs _ E0 hr (pin_env I1 hn there nf nb) (by
    have z := hb s1 us I1.kIn (by rw [List.append_nil, ← r.length]; exact hl)
    rw [List.append_nil] at z
    exact z) r h2) fun r s' hq => ?_)
  cases r with
  | error e => exact False.elim hq
  | ok fl =>
    cases fl with
    | ret u => exact I1.after (pin_end I1 hn there nf hq)
    | next => exact False.elim hq
    | brk => exact False.elim hq
    | cont => exact False.elim hq
end
/-- THE RULE for a def whose code is known -/
theorem okC {P : Program} {w : World} {K : PySem.W.Frag} {mg : Str → Option Value} {base : Heap} {x q : Str} {st : Stmt} {f c : Addr} {fd : FuncData} {N ps : List Str} {k : Nat} {sp : Sp} (F : Fun K x q st f fd) (hc : fd.code = .ref c) (S : FnScope N ps (defScope st)) (len : ∀ vs H Q E, sp vs H Q E → vs.length = ps.length)
    (hbody : ∀ (A : Around) (outer : List Env) (s : Shared) (H : Hp) (vs : List V) (Q : VK) (E : XK), Room k (A.deeper (envOfC q (defScope st) s.heap.objs.size f (.ref c))) → sp vs H Q E →
      ∃ t, PSs (cxOf CX0 P w K mg base N q (defScope st) f (.ref c) A outer s H E).nox (defBody st) t ∧ t { nx := fun _ H' => Q .non H', rt := Q } (start N vs) H) : FnOk P w K mg base CX0 (k + 1) f fd ps sp := by
  obtain ⟨oc, od, kV, doc, pm, an, cdv, ct, osl, rfl, lk, hcd⟩ := F.ex
  have e : cdv = .ref c := hc
  subst e
  refine fn_of lk hcd S len fun A outer s H vs Q E hr hsp => ?_
  obtain ⟨t, h, q⟩ := hbody A outer s H vs Q E hr hsp
  exact ⟨t, h.nox, q⟩
end OF
namespace K19
open PySem PySem.Spec PyProof.Rows L2 OF LamX NdefX
/-! ### graphs of places, whatever leads on -/
/-- where a key stands, where its list stands, the place, what stands in the list -/
abbrev GR := Addr × Addr × Plc × List (Addr × Plc)
def kvR (gs : List GR) : List KeyT := gs.map fun e => (keyP e.2.2.1, e.1, V.ref e.2.1)
def keysR (gs : List GR) : List Plc := gs.map (·.2.2.1)
theorem getR (p : Plc) : ∀ gs : List GR, getN (kvR gs) (keyP p) = (gs.find? fun e => decide (e.2.2.1 = p)).map fun e => V.ref e.2.1
  | [] => rfl
  | e :: es => by
    have ih := getR p es
    unfold getN kvR at ih ⊢
    rw [List.map_cons, List.find?_cons, List.find?_cons]
    by_cases h : e.2.2.1 = p
    · rw [decide_eq_true (p := e.2.2.1 = p) h, decide_eq_true (congrArg keyP h)]
      rfl
    · rw [decide_eq_false (p := e.2.2.1 = p) h, decide_eq_false (fun z => h (keyP_inj z))]
      exact ih
theorem getR_none {gs : List GR} {p : Plc} (h : p ∉ keysR gs) : getN (kvR gs) (keyP p) = none := by
  rw [getR, List.find?_eq_none.mpr fun e he => ?_]
  · rfl
  · rw [decide_eq_true_eq]
    exact fun z => h (List.mem_map.mpr ⟨e, he, z⟩)
theorem getR_some {gs : List GR} {p : Plc} (h : p ∈ keysR gs) : ∃ e ∈ gs, e.2.2.1 = p ∧ getN (kvR gs) (keyP p) = some (.ref e.2.1) := by
  rw [getR]
  cases hf : gs.find? fun e => decide (e.2.2.1 = p) with
  | none =>
    obtain ⟨e, he, hp⟩ := List.mem_map.mp h
    have := List.find?_eq_none.mp hf e he
    rw [decide_eq_true_eq] at this
    exact absurd hp this
  | some e =>
    have := List.find?_some hf
    rw [decide_eq_true_eq] at this
    exact ⟨e, List.mem_of_find?_eq_some hf, this, rfl⟩
theorem getR_is (gs : List GR) (p : Plc) : (getN (kvR gs) (keyP p)).isSome = decide (p ∈ keysR gs) := by
  by_cases h : p ∈ keysR gs
  · obtain ⟨e, _, _, g⟩ := getR_some h
    rw [g, decide_eq_true h]
    rfl
  · rw [getR_none h, decide_eq_false h]
    rfl
theorem kvR_app (gs : List GR) (e : GR) : kvR (gs ++ [e]) = kvR gs ++ [(keyP e.2.2.1, e.1, V.ref e.2.1)] := by
  unfold kvR
  rw [List.map_append]
  rfl
theorem keysR_app (gs : List GR) (e : GR) : keysR (gs ++ [e]) = keysR gs ++ [e.2.2.1] := by
  unfold keysR
  rw [List.map_append]
  rfl
/-- a list of places somewhere -/
def PlAt (H : Hp) (L : Addr) (ss : List (Addr × Plc)) : Prop := H L = some (.lst (ss.map fun q => V.ref q.1)) ∧ ∀ q ∈ ss, H q.1 = some (vP q.2)
theorem PlAt.same {H H' : Hp} {L : Addr} {ss : List (Addr × Plc)} (h : PlAt H L ss) (s : Same H H') : PlAt H' L ss := ⟨s _ _ h.1, fun q hq => s _ _ (h.2 q hq)⟩
theorem PlAt.extN {H H' : Hp} {L : Addr} {ss : List (Addr × Plc)} (h : PlAt H L ss) (s : ExtN H H') : PlAt H' L ss := ⟨s _ _ h.1 (fun ps z => by cases z), fun q hq => s _ _ (h.2 q hq) (fun ps z => by cases z)⟩
theorem PlAt.but {T : Addr} {H H' : Hp} {L : Addr} {ss : List (Addr × Plc)} {xs : List V} (h : PlAt H L ss) (n : L ≠ T) (eT : H T = some (.lst xs)) (s : But T H H') : PlAt H' L ss :=
  ⟨s _ _ n h.1, fun q hq => s _ _ (fun z => by have := h.2 q hq; rw [z, eT] at this; cases this) (h.2 q hq)⟩
section
variable {P : Program} {w : World} {K : PySem.W.Frag} {mg : Str → Option Value} {base : Heap}
theorem PlAt.dict {G : Addr} {kvs : List KeyT} {H : Hp} {L : Addr} {ss : List (Addr × Plc)} {o : HO} (h : PlAt H L ss) (eG : H G = some (dNT P w G kvs)) : PlAt (upd H G o) L ss := by
  have nt : ∀ {c : Addr} {u : HO}, H c = some u → (∀ φ, u ≠ .ext φ) → upd H G o c = some u := fun {c u} e n => by
    rw [upd_ne]
    · exact e
    · rintro rfl
      rw [e] at eG
      exact n _ (Option.some.inj eG)
  exact ⟨nt h.1 (fun φ z => by cases z), fun q hq => nt (h.2 q hq) (fun φ z => by cases z)⟩
structure GrAt (P : Program) (w : World) (H : Hp) (G : Addr) (gs : List GR) : Prop where
  at_ : H G = some (dNT P w G (kvR gs))
  key : ∀ e ∈ gs, H e.1 = some (vP e.2.2.1)
  val : ∀ e ∈ gs, PlAt H e.2.1 e.2.2.2
theorem GrAt.dict {H : Hp} {G : Addr} {gs : List GR} (g : GrAt P w H G gs) : DictT P w H G (kvR gs) := by
  refine ⟨.inl g.at_, fun p hp => ?_⟩
  obtain ⟨e, he, rfl⟩ := List.mem_map.mp hp
  exact g.key e he
theorem GrAt.same {H H' : Hp} {G : Addr} {gs : List GR} (g : GrAt P w H G gs) (s : Same H H') : GrAt P w H' G gs := ⟨s _ _ g.at_, fun e he => s _ _ (g.key e he), fun e he => (g.val e he).same s⟩
theorem GrAt.extN {H H' : Hp} {G : Addr} {gs : List GR} (g : GrAt P w H G gs) (s : ExtN H H') : GrAt P w H' G gs := ⟨s _ _ g.at_ (fun ps z => by unfold dNT at z; cases z), fun e he => s _ _ (g.key e he) (fun ps z => by cases z), fun e he => (g.val e he).extN s⟩
/-- what the thing at f answers -/
def FolG (P : Program) (w : World) (K : PySem.W.Frag) (mg : Str → Option Value) (base : Heap) (H : Hp) (f : Addr) (suc : Plc → List Plc) (U : List Plc) : Prop := ∃ (o : HO) (spf : Sp), H f = some o ∧ CalO P w K mg base 2 f o spf ∧
  ∀ (H' : Hp) (p : Addr) (pl : Plc) (Q : VK), Same H H' → H' p = some (vP pl) → pl ∈ U → (∀ (L : Addr) (ss : List (Addr × Plc)) (H2 : Hp), Same H' H2 → PlAt H2 L ss → ss.map (·.2) = suc pl → ((∃ o, H L = some o) ∨ H' L = none) → Q (.ref L) H2) → spf [.ref p] H' Q E0
def spGraphF (P : Program) (w : World) (K : PySem.W.Frag) (mg : Str → Option Value) (base : Heap) : Sp := fun vs H Q _ => ∃ (S f : Addr) (suc : Plc → List Plc) (as : List (Addr × Plc)) (U : List Plc) (B : Nat), vs = [.ref S, .ref f] ∧ FolG P w K mg base H f suc U ∧ H S = some (.lst (as.map fun p => V.ref p.1)) ∧
  (∀ p ∈ as, H p.1 = some (vP p.2)) ∧ as.length + B * U.length ≤ 7000000 ∧ (∀ p ∈ U, (suc p).length ≤ B) ∧ (∀ p ∈ as, p.2 ∈ U) ∧ (∀ p ∈ U, ∀ q ∈ suc p, q ∈ U) ∧ U.length ≤ 100000 ∧
  ∀ (G : Addr) (H' : Hp) (gs : List GR), Same H H' → H G = none → GrAt P w H' G gs → (keysR gs).Nodup → (∀ x, x ∈ keysR gs ↔ Reach suc (as.map (·.2)) x) → (∀ e ∈ gs, e.2.2.2.map (·.2) = suc e.2.2.1) → gs.length ≤ U.length → Dfs suc [] (as.map (·.2)) (keysR gs) → Q (.ref G) H'
theorem ok_graphF {f : Addr} {fd : FuncData} (F : Fun K "graph_from" "graph_from" sGraph f fd) (mli : mg "list" = none) :
    FnOk P w K mg base CX0 3 f fd ["starts", "follow"] (spGraphF P w K mg base) := by
  refine F.ok scGr (fun vs H Q E h => ?_) (fun cdv A outer s H vs Q E hr h => ?_)
  · obtain ⟨S, f, suc, as, U, B, rfl, _⟩ := h
    rfl
  · obtain ⟨S, g, suc, as, U, B, rfl, FA, hS, hA, lA, deg, sU, cU, lU, q⟩ := h
    apply Exists.intro
    apply And.intro
    · apply pss_cons
      · exact ps_set (i := 2) scGr.nd rfl (.inl rfl) pe_dnewNT
      apply pss_cons
      · exact ps_set (i := 3) scGr.nd rfl (.inl rfl) (pe_callTy call_list_of (by rfl) mli PyProof.Rows.boot_list (pa_cons (pv 0) pa_nil))
      apply pss_cons
      · exact ps_while PassesOwn.never (pt_truth (pv 3) (fun _ => rfl))
          (pss_cons (ps_set (i := 4) scGr.nd rfl (.inl rfl) (pe_bm0 PySem.F.plainAttrs_list PySem.F.slot_list_pop PySem.F.type_list_pop mt_pop (pv 3)))
            (pss_one (ps_if (pt_cmpR (op_notInNT (hu_of hr)) (pv 4) (pv 2) rfl)
              (pss_cons (ps_asg (pe_clo (k := 2) (i := 1) hr (by rfl) (.inl rfl) (pa_cons (pv 4) pa_nil)) (pg_sub (pv 2) (pv 4) (set_dictNT (hu_of hr)) (fun _ => rfl)))
                (pss_one (ps_expr (pe_bm PySem.F.plainAttrs_list PySem.F.slot_list_extend PySem.F.type_list_extend mt_extend (pv 3) (pa_cons (pe_ix (ix_dictNT (hu_of hr)) (pv 2) (pv 4) (fun _ _ => rfl)) pa_nil))))) pss_nil)))
      apply pss_one
      · exact ps_ret (pv 2)
    obtain ⟨o, spf, eg, CA, ask⟩ := FA
    refine fun G hG => ?_
    have sG := same_new (o := dNT P w G []) hG
    refine ⟨.ref S, rfl, S, _, rfl, .inl (SqL.of (sG _ _ hS)), fun T hT => ?_⟩
    have nTG : T ≠ G := fun z => by
      rw [z, upd_same] at hT
      cases hT
    have hT0 : H T = none := (upd_ne nTG).symm.trans hT
    have degB : ∀ p ∈ U, (suc p).length ≤ B := deg
    refine ⟨fun m σ H' => ∃ (v : Option V) (es : List GR) (st : List (Addr × Plc)), σ = [some (.ref S), some (.ref g), some (.ref G), some (.ref T), v] ∧ m = (U.length - es.length) * (B + 1) + st.length ∧ Same H H' ∧ GrAt P w H' G es ∧ (∀ e ∈ es, e.2.1 ≠ T) ∧ (∀ e ∈ es, e.2.2.2.map (·.2) = suc e.2.2.1) ∧
      H' T = some (.lst (st.map fun p => V.ref p.1)) ∧ (∀ p ∈ st, H' p.1 = some (vP p.2)) ∧ DInv suc (as.map (·.2)) (keysR es) (st.map (·.2)) ∧ st.length ≤ as.length + B * es.length ∧ ∀ r, Dfs suc (keysR es) (st.map (·.2)) r → Dfs suc [] (as.map (·.2)) r, ?_, ?_⟩
    · refine ⟨_, none, [], as, rfl, rfl, Same.trans sG (same_new hT), ⟨?_, (fun e h => by cases h), (fun e h => by cases h)⟩, (fun e h => by cases h), (fun e h => by cases h), upd_same, fun p hp => same_new hT _ _ (sG _ _ (hA p hp)), DInv.begin, by omega, fun r h => h⟩
      rw [upd_ne nTG.symm, upd_same]
      rfl
    · rintro m σ H1 ⟨v, es, st, rfl, rfl, s1, gA, nT, sv, eT, tS, dI, lS, dF⟩
      have inU : ∀ x, Reach suc (as.map (·.2)) x → x ∈ U := fun x r => Reach.all (p := fun x => x ∈ U) (fun x hx => by
        obtain ⟨p, hp, rfl⟩ := List.mem_map.mp hx
        exact sU p hp) (fun x hx y hy => cU x hx y hy) r
      have lkR : (keysR es).length = es.length := List.length_map _
      have kLen : es.length ≤ U.length := by
        have := nodup_le (keysR es) U dI.nd fun x hx => inU x (dI.re x (.inl hx))
        rw [lkR] at this
        exact this
      refine ⟨.ref T, rfl, !(st.map fun p => V.ref p.1).isEmpty, .inl ⟨_, SqL.of eT, rfl⟩, ?_⟩
      rcases List.eq_nil_or_concat st with rfl | ⟨l, y, rfl⟩
      · refine iteFB rfl ⟨.ref G, rfl, q G H1 es s1 hG gA dI.nd dI.end_ sv kLen (dF _ (.done rfl))⟩
      · rw [List.concat_eq_append] at *
        have y1 := tS y (List.mem_append_right _ List.mem_cons_self)
        rw [List.map_append] at dI eT dF
        have yU := inU y.2 (dI.re y.2 (.inr (List.mem_append_right _ List.mem_cons_self)))
        have lS2 : l.length + 1 ≤ as.length + B * es.length := by
          rw [List.length_append] at lS
          exact lS
        refine iteTB (by simp) ⟨_, fun σ' H' h => h, ?_⟩
        refine ⟨.ref T, rfl, .inl ⟨rfl, _, SqL.of eT⟩, T, _, .ref y.1, rfl, rfl, eT, by simp, ?_⟩
        have eP : (l.map (fun p => V.ref p.1) ++ [y].map fun p => V.ref p.1).dropLast = l.map fun p => V.ref p.1 := by simp
        rw [eP]
        have b2 : But T H1 (upd H1 T (.lst (l.map fun p => V.ref p.1))) := But.at_
        have s2 : Same H (upd H1 T (.lst (l.map fun p => V.ref p.1))) := Same.store s1 hT0
        have e2 : (upd H1 T (.lst (l.map fun p => V.ref p.1))) T = some (.lst (l.map fun p => V.ref p.1)) := upd_same
        generalize upd H1 T (.lst (l.map fun p => V.ref p.1)) = H2 at b2 s2 e2 ⊢
        have tupT : ∀ {c : Addr} {xs : List V}, H1 c = some (.tup xs) → H2 c = some (.tup xs) := fun {c xs} e => b2 _ _ (fun z => by
          rw [z, eT] at e
          cases e) e
        have gA2 : GrAt P w H2 G es := ⟨b2 _ _ nTG.symm gA.at_, fun e he => tupT (gA.key e he), fun e he => (gA.val e he).but (nT e he) eT b2⟩
        have y2 : H2 y.1 = some (vP y.2) := tupT y1
        have tS2 : ∀ p ∈ l, H2 p.1 = some (vP p.2) := fun p hp => tupT (tS p (List.mem_append_left _ hp))
        refine ⟨.ref y.1, rfl, .ref G, rfl, G, kvR es, keyP y.2, y.1, rfl, rfl, gA2.dict, y2, ?_⟩
        rw [getR_is]
        by_cases hk : y.2 ∈ keysR es
        · rw [decide_eq_true hk]
          refine ⟨_, rfl, iteF ?_⟩
          refine ⟨_, ?_, some (.ref y.1), es, l, rfl, rfl, s2, gA2, nT, sv, e2, tS2, dI.skip hk, by omega, fun r h => dF r (.skip rfl hk h)⟩
          rw [List.length_append]
          show _ < _ + (l.length + 1)
          omega
        · rw [decide_eq_false hk]
          refine ⟨_, rfl, iteT ?_⟩
          refine ⟨g, o, spf, rfl, CA, s2 _ _ eg, .ref y.1, rfl, s2 _ _ eg, ask H2 y.1 y.2 _ s2 y2 yU fun L ps H3 s3 pl ep nL => ?_⟩
          have LnT : L ≠ T := fun z => by
            rcases nL with ⟨o, h⟩ | h
            · rw [z, hT0] at h
              cases h
            · rw [z, e2] at h
              cases h
          have e3 := s3 _ _ gA2.at_
          have kl : es.length < U.length := by
            have z := nodup_le (keysR es ++ [y.2]) U (dI.more hk).nd fun x hx => by
              rcases List.mem_append.mp hx with h | h
              · exact inU x (dI.re x (.inl h))
              · cases List.mem_singleton.mp h
                exact yU
            rw [List.length_append, lkR] at z
            exact z
          have big := big17
          have lkv : (kvR es).length = es.length := List.length_map _
          refine ⟨.ref G, rfl, .ref y.1, rfl, G, kvR es, keyP y.2, y.1, rfl, rfl, ⟨.inl e3, fun p hp => s3 _ _ (gA2.dict.ks p hp)⟩, e3, s3 _ _ y2, by rw [lkv]; omega, ?_⟩
          rw [putN_new (getR_none hk), ← kvR_app es (y.1, L, y.2, ps)]
          generalize e4H : upd H3 G (dNT _ _ G (kvR (es ++ [(y.1, L, y.2, ps)]))) = H4
          have e4H : upd H3 G (dNT P w G (kvR (es ++ [(y.1, L, y.2, ps)]))) = H4 := e4H
          have tup4 : ∀ {c : Addr} {xs : List V}, H2 c = some (.tup xs) → (upd H3 G (dNT P w G (kvR (es ++ [(y.1, L, y.2, ps)])))) c = some (.tup xs) := fun {c xs} e => by
            have e := s3 _ _ e
            rw [upd_ne]
            · exact e
            · rintro rfl
              rw [e3] at e
              cases e
          have gA4 : GrAt P w (upd H3 G (dNT P w G (kvR (es ++ [(y.1, L, y.2, ps)])))) G (es ++ [(y.1, L, y.2, ps)]) := by
            refine ⟨upd_same, fun e he => ?_, fun e he => ?_⟩
            · rcases List.mem_append.mp he with h | h
              · exact tup4 (gA2.key e h)
              · cases List.mem_singleton.mp h
                exact tup4 y2
            · rcases List.mem_append.mp he with h | h
              · exact ((gA2.val e h).same s3).dict e3
              · cases List.mem_singleton.mp h
                exact pl.dict e3
          have s4 : Same H (upd H3 G (dNT P w G (kvR (es ++ [(y.1, L, y.2, ps)])))) := Same.store (s2.trans s3) hG
          have e4 : (upd H3 G (dNT P w G (kvR (es ++ [(y.1, L, y.2, ps)])))) T = some (.lst (l.map fun p => V.ref p.1)) := (upd_ne nTG).trans (s3 _ _ e2)
          have pl4 := pl.dict (o := dNT P w G (kvR (es ++ [(y.1, L, y.2, ps)]))) e3
          rw [e4H] at tup4 gA4 s4 e4 pl4
          obtain ⟨eL, tp⟩ := pl4
          have lp : ps.length ≤ B := by
            have z := congrArg List.length ep
            rw [List.length_map] at z
            rw [z]
            exact deg y.2 yU
          have gk : getN (kvR (es ++ [(y.1, L, y.2, ps)])) (keyP y.2) = some (.ref L) := by
            rw [getR, List.find?_append, List.find?_eq_none.mpr fun e he => by
              rw [decide_eq_true_eq]
              exact fun z => hk (List.mem_map.mpr ⟨e, he, z⟩)]
            simp
          have bm : B * (es.length + 1) ≤ B * U.length := Nat.mul_le_mul_left _ kl
          have bm2 : B * (es.length + 1) = B * es.length + B := Nat.mul_succ _ _
          refine ⟨.ref T, rfl, .inl ⟨rfl, _, SqL.of e4⟩, .ref G, rfl, .ref y.1, rfl, G, _, keyP y.2, y.1, .ref L, rfl, rfl, gA4.dict, tup4 y2, gk, ?_⟩
          refine ⟨T, L, _, _, rfl, rfl, e4, eL, ?_, ?_⟩
          · rw [List.length_map, List.length_map]
            omega
          have b5 : But T H4 (upd H4 T (.lst ((l.map fun p => V.ref p.1) ++ ps.map fun p => V.ref p.1))) := But.at_
          have s5 := Same.store (o := .lst ((l.map fun p => V.ref p.1) ++ ps.map fun p => V.ref p.1)) s4 hT0
          have e5 : (upd H4 T (.lst ((l.map fun p => V.ref p.1) ++ ps.map fun p => V.ref p.1))) T = some (.lst ((l.map fun p => V.ref p.1) ++ ps.map fun p => V.ref p.1)) := upd_same
          generalize upd H4 T (.lst ((l.map fun p => V.ref p.1) ++ ps.map fun p => V.ref p.1)) = H5 at b5 s5 e5 ⊢
          have tupT5 : ∀ {c : Addr} {xs : List V}, H4 c = some (.tup xs) → H5 c = some (.tup xs) := fun {c xs} e => b5 _ _ (fun z => by
            rw [z, e4] at e
            cases e) e
          have nT5 : ∀ e ∈ es ++ [(y.1, L, y.2, ps)], e.2.1 ≠ T := fun e he => by
            rcases List.mem_append.mp he with h | h
            · exact nT e h
            · cases List.mem_singleton.mp h
              exact LnT
          refine ⟨_, ?_, some (.ref y.1), es ++ [(y.1, L, y.2, ps)], l ++ ps, rfl, rfl, s5, ⟨b5 _ _ nTG.symm gA4.at_, fun e he => tupT5 (gA4.key e he), fun e he => (gA4.val e he).but (nT5 e he) e4 b5⟩, nT5, fun e he => ?_, ?_, fun p hp => ?_, ?_, ?_, fun r h => dF r (.more rfl hk ?_)⟩
          · rw [List.length_append, List.length_append, List.length_append]
            show (U.length - (es.length + 1)) * (B + 1) + (l.length + ps.length) < (U.length - es.length) * (B + 1) + (l.length + 1)
            have : U.length - es.length = (U.length - (es.length + 1)) + 1 := by omega
            rw [this, Nat.add_mul]
            omega
          · rcases List.mem_append.mp he with h | h
            · exact sv e h
            · cases List.mem_singleton.mp h
              exact ep
          · rw [e5, List.map_append]
          · rcases List.mem_append.mp hp with h | h
            · exact tupT5 (tup4 (tS2 p h))
            · exact tupT5 (tp p h)
          · rw [keysR_app, List.map_append, ep]
            exact dI.more hk
          · rw [List.length_append, List.length_append]
            show l.length + ps.length ≤ as.length + B * (es.length + 1)
            omega
          · rw [keysR_app, List.map_append, ep] at h
            exact h
end
end K19
namespace K19
open PySem PySem.Spec PyProof.Rows L2 OF
abbrev sIsSch : Stmt := topS 45
abbrev sCheckS : Stmt := topS 46
abbrev sCheckN : Stmt := topS 47
section
variable {P : Program} {w : World} {K : PySem.W.Frag} {mg : Str → Option Value} {base : Heap}
/-! ### what is no scheme -/
/-- no built-in kind is of the class -/
structure NotK (K : PySem.W.Frag) (C : Addr) : Prop where
  non : PySem.W.kitOne K (.type "NoneType") (.ref C) = some false
  bl : PySem.W.kitOne K (.type "bool") (.ref C) = some false
  str : PySem.W.kitOne K (.type "str") (.ref C) = some false
  lst : PySem.W.kitOne K (.type "list") (.ref C) = some false
  tup : PySem.W.kitOne K (.type "tuple") (.ref C) = some false
  dct : PySem.W.kitOne K (.type "dict") (.ref C) = some false
theorem NotK.odd {K : PySem.W.Frag} {C : Addr} {H : Hp} {x : V} (N : NotK K C) (h : Odd H x) : ∃ t : Value, TyX K H x t ∧ PySem.W.kitOne K t (.ref C) = some false := by
  cases h with
  | non => exact ⟨_, .base .non, N.non⟩
  | bl b => exact ⟨_, .base (.bl b), N.bl⟩
  | str z => exact ⟨_, .base (.str z), N.str⟩
  | lst e => exact ⟨_, .base (.lst e), N.lst⟩
  | tup e => exact ⟨_, .base (.tup e), N.tup⟩
  | dK e => exact ⟨_, .base (.dK e), N.dct⟩
def spIsSch (C : Addr) : Sp := fun vs H Q _ => ∃ x : V, vs = [x] ∧ ((∃ (a dx : Addr) (fs : List (Str × V)), x = .ref a ∧ H a = some (.ins C dx fs) ∧ Q (.bl true) H) ∨ (Odd H x ∧ Q (.bl false) H))
theorem scIs : FnScope ["value"] ["value"] (defScope sIsSch) := ⟨rfl, rfl, rfl, by decide +kernel, rfl, by decide +kernel, by decide +kernel⟩
theorem ok_issch {f C : Addr} {fd : FuncData} (F : Fun K "is_scheme" "is_scheme" sIsSch f fd) (I : IsC K C) (N : NotK K C) (gC : mg "Scheme" = some (.ref C)) (mis : mg "isinstance" = none) :
    FnOk P w K mg base CX0 1 f fd ["value"] (spIsSch C) := by
  refine F.ok scIs (fun vs H Q E h => ?_) (fun cdv A outer s H vs Q E hr h => ?_)
  · obtain ⟨x, rfl, _⟩ := h
    rfl
  · obtain ⟨x, rfl, h⟩ := h
    refine ⟨_, pss_one (ps_ret (pe_callB call_isi (by rfl) mis PyProof.Rows.boot_isinstance (pa_cons (pv 0) (pa_cons (pe_glob (v := .ref C) (by rfl) gC rfl) pa_nil)))), ?_⟩
    rcases h with ⟨a, dx, fs, rfl, ha, q⟩ | ⟨o, q⟩
    · exact ⟨.ref a, rfl, .ref a, .ref C, .ref C, .ref C, true, rfl, .own C, .base (.ins ha I.cl I.ha I.hn I.ht I.hm), I.own, q⟩
    · obtain ⟨t, ty, k⟩ := N.odd o
      exact ⟨x, rfl, x, .ref C, t, .ref C, false, rfl, .own C, ty, k, q⟩
def spCheckS (C CN : Addr) : Sp := fun vs H Q E => ∃ x : V, vs = [x] ∧ ((∃ (a dx : Addr) (fs : List (Str × V)), x = .ref a ∧ H a = some (.ins C dx fs) ∧ Q .non H) ∨ (Odd H x ∧ Raised CN "value" x H E))
theorem scCs : FnScope ["value"] ["value"] (defScope sCheckS) := ⟨rfl, rfl, rfl, by decide +kernel, rfl, by decide +kernel, by decide +kernel⟩
theorem ok_checks {f fS fI C CN : Addr} {fd fdS fdI : FuncData} (F : Fun K "check_scheme" "check_scheme" sCheckS f fd) (GS : FnOk P w K mg base CX0 1 fS fdS ["value"] (spIsSch C)) (gS : mg "is_scheme" = some (.ref fS)) (kS : PySem.W.keepIn K (.ref fS) = true) (bS : Binds K fdS ["value"] [])
    (GI : FnOk P w K mg base CX0 3 fI fdI ["self", "value"] (spInit K "value" CN)) (T : ErrC K mg "NotScheme" "value" CN fI) (bI : Binds K fdI ["self", "value"] []) :
    FnOk P w K mg base (L2.CX P w) 5 f fd ["value"] (spCheckS C CN) := by
  refine F.okX scCs (fun vs H Q E h => ?_) (fun cdv A outer s H vs Q E hr h => ?_)
  · obtain ⟨x, rfl, _⟩ := h
    rfl
  · obtain ⟨x, rfl, h⟩ := h
    have hr1 : Room 1 _ := hr.mono (by decide)
    refine ⟨_, pss_one (ps_if (pt_not (pt_val (pe_call GS hr1 (by rfl) gS kS bS .nil pass0 (pa_cons (pv 0) pa_nil))))
      (pss_one (ps_raise rfl (takes_of rfl rfl rfl rfl) (pmk_oex T.ox T.iC T.tI GI hr bI .nil pass0 (by rfl) T.g (pa_cons (pv 0) pa_nil)))) pss_nil), ?_⟩
    rcases h with ⟨a, dx, fs, rfl, ha, q⟩ | ⟨o, hE⟩
    · exact ⟨.ref a, rfl, .ref a, rfl, .inl ⟨a, dx, fs, rfl, ha, true, rfl, iteF q⟩⟩
    · exact ⟨x, rfl, x, rfl, .inr ⟨o, false, rfl, iteT ⟨x, rfl, raised_ok (σ := start ["value"] [x]) (D := { nx := fun _ H' => Q .non H', rt := Q }) hE (Same.refl H)⟩⟩⟩
def spCheckN (CI : Addr) : Sp := fun vs H Q E => ∃ x : V, vs = [x] ∧ ((∃ n : Int, x = .int n ∧ Q .non H) ∨ (Odd H x ∧ Raised CI "number" x H E))
theorem scCn : FnScope ["value"] ["value"] (defScope sCheckN) := ⟨rfl, rfl, rfl, by decide +kernel, rfl, by decide +kernel, by decide +kernel⟩
theorem ok_checkn {f fW fI CI : Addr} {fd fdW fdI : FuncData} (F : Fun K "check_number" "check_number" sCheckN f fd) (GW : FnOk P w K mg base CX0 1 fW fdW ["value"] spWhole) (gW : mg "is_whole" = some (.ref fW)) (kW : PySem.W.keepIn K (.ref fW) = true) (bW : Binds K fdW ["value"] [])
    (GI : FnOk P w K mg base CX0 3 fI fdI ["self", "number"] (spInit K "number" CI)) (T : ErrC K mg "InvalidNumber" "number" CI fI) (bI : Binds K fdI ["self", "number"] []) :
    FnOk P w K mg base (L2.CX P w) 5 f fd ["value"] (spCheckN CI) := by
  refine F.okX scCn (fun vs H Q E h => ?_) (fun cdv A outer s H vs Q E hr h => ?_)
  · obtain ⟨x, rfl, _⟩ := h
    rfl
  · obtain ⟨x, rfl, h⟩ := h
    have hr1 : Room 1 _ := hr.mono (by decide)
    refine ⟨_, pss_one (ps_if (pt_not (pt_val (pe_call GW hr1 (by rfl) gW kW bW .nil pass0 (pa_cons (pv 0) pa_nil))))
      (pss_one (ps_raise rfl (takes_of rfl rfl rfl rfl) (pmk_oex T.ox T.iC T.tI GI hr bI .nil pass0 (by rfl) T.g (pa_cons (pv 0) pa_nil)))) pss_nil), ?_⟩
    rcases h with ⟨n, rfl, q⟩ | ⟨o, hE⟩
    · exact ⟨.int n, rfl, .int n, rfl, .inl ⟨n, rfl, true, rfl, iteF q⟩⟩
    · exact ⟨x, rfl, x, rfl, .inr ⟨o, false, rfl, iteT ⟨x, rfl, raised_ok (σ := start ["value"] [x]) (D := { nx := fun _ H' => Q .non H', rt := Q }) hE (Same.refl H)⟩⟩⟩
/-- None or a digit of the scheme -/
def rightB (ds : List Int) : V → Bool
  | .non => true
  | .int n => isOne ds n
  | _ => false
end
end K19
namespace K19
open PySem PySem.Spec PyProof.Rows L2 OF
section
variable {P : Program} {w : World} {K : PySem.W.Frag} {mg : Str → Option Value} {base : Heap}
/-! ### core, steps -/
def mA (b : Int) : Int := if b < 0 then -b else b
/-- the greatest absolute value of these -/
def IsMx (ds : List Int) (m : Int) : Prop := m ∈ ds.map mA ∧ ∀ y ∈ ds.map mA, y ≤ m
theorem IsMx.one {ds : List Int} {m n : Int} (h : IsMx ds m) (k : IsMx ds n) : m = n := by
  have h1 := h.2 n k.1
  have h2 := k.2 m h.1
  omega
end
end K19
namespace K19
open PySem PySem.Spec PyProof.Rows L2 OF
abbrev sCell : Stmt := topS 56
abbrev sBox : Stmt := topS 57
abbrev sTake : Stmt := topS 58
abbrev sDigits : Stmt := topS 60
abbrev sPairs : Stmt := topS 61
abbrev sScheme : Stmt := topS 62
abbrev sMade : Stmt := topS 63
abbrev sRight : Stmt := topS 72
abbrev sLaw : Stmt := topS 73
section
variable {P : Program} {w : World} {K : PySem.W.Frag} {mg : Str → Option Value} {base : Heap}
theorem scC : FnScope ["_law_script", "_law_k"] ["_law_script", "_law_k"] (defScope sCell) := ⟨rfl, rfl, rfl, by decide +kernel, rfl, by decide +kernel, by decide +kernel⟩
theorem ok_cell {f : Addr} {fd : FuncData} (F : Fun K "_law_cell" "_law_cell" sCell f fd) (ml : mg "len" = none) : FnOk P w K mg base CX0 1 f fd ["_law_script", "_law_k"] (OF.spCell K) := by
  refine F.ok scC (fun vs H Q E h => ?_) (fun cdv A outer s H vs Q E hr h => ?_)
  · obtain ⟨a, ns, k, rfl, _⟩ := h
    rfl
  · obtain ⟨a, ns, k, rfl, hS, hk, q⟩ := h
    refine ⟨_, pss_cons (ps_if (pt_cmpR op_lt (pv 1) (pe_callB call_len_seq (by rfl) ml PySem.boot_len (pa_cons (pv 0) pa_nil)) (nomark _))
        (pss_one (ps_ret (pe_ix ix_list (pv 0) (pv 1) (fun _ _ => rfl)))) pss_nil)
      (pss_one (ps_ret (pe_op op_add (pe_op op_mul pe_int (pv 1)) pe_int))), ?_⟩
    refine ⟨.int k, rfl, .ref a, rfl, a, ns.map V.int, rfl, .inl hS, k, _, rfl, rfl, _, rfl, ite2 (fun c => ?_) (fun c => ?_)⟩
    · have c1 : k < ns.length := by
        have c2 := of_decide_eq_true c
        rw [List.length_map] at c2
        omega
      have g : (ns.map V.int)[k]? = some (.int ns[k]) := by
        rw [List.getElem?_map, List.getElem?_eq_getElem c1]
        rfl
      exact ⟨.ref a, rfl, .int k, rfl, a, _, k, .int ns[k], rfl, rfl, hS, atI_nat g, q _⟩
    · exact ⟨.int k, rfl, _, _, rfl, rfl, .inl ⟨by decide, by decide⟩, _, _, rfl, rfl, q _⟩
theorem scB : FnScope ["_law_cell_here"] ["_law_cell_here"] (defScope sBox) := ⟨rfl, rfl, rfl, by decide +kernel, rfl, by decide +kernel, by decide +kernel⟩
theorem ok_box {f : Addr} {fd : FuncData} (F : Fun K "_law_box" "_law_box" sBox f fd) (mi : mg "int" = none) (mm : mg "max" = none) : FnOk P w K mg base CX0 1 f fd ["_law_cell_here"] spBox := by
  refine F.ok scB (fun vs H Q E h => ?_) (fun cdv A outer s H vs Q E hr h => ?_)
  · obtain ⟨c, rfl, _⟩ := h
    rfl
  · obtain ⟨c, rfl, q⟩ := h
    refine ⟨_, pss_one (ps_ret (pe_lst (pa_cons (pe_callB (call_max2 rfl) (by rfl) mm PyProof.Rows.boot_max (pa_cons pe_int (pa_cons (pe_op op_sub (pv 0) (pe_op op_pow pe_int pe_int)) pa_nil)))
      (pa_cons (pe_op op_modR (pe_callTy call_int1 (by rfl) mi PyProof.Rows.boot_int (pa_cons (pv 0) pa_nil)) pe_int) (pa_cons pe_int pa_nil))))), ?_⟩
    refine ⟨.int c, rfl, _, _, rfl, rfl, ⟨by decide, by decide, by decide⟩, _, _, rfl, rfl, _, _, rfl, .int c, rfl, .inl ⟨_, rfl, _, _, rfl, rfl, by decide, fun r r0 r1 => ?_⟩⟩
    refine ⟨by show 3 ≤ sizeLine; decide, fun p hp => ?_⟩
    refine q p _ hp (same_new hp) ⟨_, r, 0, upd_same, ?_, r0, by omega, by decide, by decide⟩
    split <;> omega
theorem scT : FnScope ["_law_box_here", "_law_many", "_law_digit", "_law_amount"] ["_law_box_here", "_law_many"] (defScope sTake) := ⟨rfl, rfl, rfl, by decide +kernel, rfl, by decide +kernel, by decide +kernel⟩
theorem ok_take {f : Addr} {fd : FuncData} (F : Fun K "_law_take" "_law_take" sTake f fd) (mi : mg "int" = none) : FnOk P w K mg base CX0 1 f fd ["_law_box_here", "_law_many"] spTake := by
  refine F.ok scT (fun vs H Q E h => ?_) (fun cdv A outer s H vs Q E hr h => ?_)
  · obtain ⟨a, m, n, rfl, _⟩ := h
    rfl
  · obtain ⟨a, m, n, rfl, ⟨b0, b1, b2, hH, p0, p1, q1, p2, q2⟩, hn, hm, hmb, q⟩ := h
    refine ⟨_, pss_cons (ps_if (pt_cmpR op_gt (pe_ix ix_list (pv 0) pe_int (fun _ _ => rfl)) pe_int (nomark _))
        (pss_cons (ps_set (i := 2) scT.nd rfl (.inl rfl) (pe_op op_modR (pe_callTy call_int1 (by rfl) mi PyProof.Rows.boot_int (pa_cons (pe_ix ix_list (pv 0) pe_int (fun _ _ => rfl)) pa_nil)) (pv 1)))
        (pss_cons (ps_asg (pe_op op_fdivW (pe_ix ix_list (pv 0) pe_int (fun _ _ => rfl)) (pv 1)) (pg_sub (pv 0) pe_int set_list))
        (pss_one (ps_ret (pv 2))))) pss_nil)
      (pss_cons (ps_asg (pe_op op_add (pe_ix ix_list (pv 0) pe_int (fun _ _ => rfl)) pe_int) (pg_sub (pv 0) pe_int set_list))
      (pss_cons (ps_set (i := 3) scT.nd rfl (.inl rfl) (pe_op op_modR (pe_op op_pow (pe_callTy call_int1 (by rfl) mi PyProof.Rows.boot_int
          (pa_cons (pe_op op_add (pe_op op_add (pe_ix ix_list (pv 0) pe_int (fun _ _ => rfl)) (pe_op op_mul pe_int (pe_ix ix_list (pv 0) pe_int (fun _ _ => rfl)))) pe_int) pa_nil)) pe_int) pe_int))
      (pss_cons (ps_set (i := 3) scT.nd rfl (.inl rfl) (pe_op op_modR (pe_op op_pow (pe_callTy call_int1 (by rfl) mi PyProof.Rows.boot_int
          (pa_cons (pe_op op_add (pv 3) (pe_op op_mul pe_int (pe_ix ix_list (pv 0) pe_int (fun _ _ => rfl)))) pa_nil)) pe_int) pe_int))
      (pss_one (ps_ret (pe_op op_modR (pe_callTy call_int1 (by rfl) mi PyProof.Rows.boot_int (pa_cons (pe_op op_fdiv (pv 3) pe_int) pa_nil)) (pv 1))))))), ?_⟩
    refine ⟨.ref a, rfl, a, _, 0, .int b0, rfl, rfl, SqL.of hH, atI_nat (j := 0) rfl, b0, 0, rfl, rfl, _, rfl, ite2 (fun c => ?_) (fun c => ?_)⟩
    · refine ⟨.ref a, rfl, a, _, 0, .int b0, rfl, rfl, SqL.of hH, atI_nat (j := 0) rfl, .inl ⟨b0, rfl, .int m, rfl, b0, m, rfl, rfl, hm, fun r r0 r1 => ?_⟩⟩
      refine ⟨.ref a, rfl, a, _, 0, .int b0, rfl, rfl, SqL.of hH, atI_nat (j := 0) rfl, .int m, rfl, b0, m, rfl, rfl, wide_div hm hmb (by decide) (by decide), ?_⟩
      refine ⟨.ref a, rfl, a, _, 0, 0, rfl, rfl, hH, rfl, ?_⟩
      refine ⟨.int r, rfl, q r _ r0 r1 But.at_ ⟨b0 / m, b1, b2, upd_same, Int.ediv_nonneg p0 (by omega), p1, q1, p2, by omega⟩⟩
    · refine ⟨.ref a, rfl, a, _, 2, .int b2, rfl, rfl, SqL.of hH, atI_nat (j := 2) rfl, b2, 1, rfl, rfl, .ref a, rfl, a, _, 2, 2, rfl, rfl, hH, rfl, ?_⟩
      have hH1 : (upd H a (.lst [.int b0, .int b1, .int (b2 + 1)])) a = some (.lst [.int b0, .int b1, .int (b2 + 1)]) := upd_same
      refine ⟨.ref a, rfl, a, _, 1, .int b1, rfl, rfl, SqL.of hH1, atI_nat (j := 1) rfl, .ref a, rfl, a, _, 2, .int (b2 + 1), rfl, rfl, SqL.of hH1, atI_nat (j := 2) rfl,
        _, _, rfl, rfl, .inl ⟨by decide, by decide⟩, _, _, rfl, rfl, _, _, rfl, rfl, .inl ⟨_, rfl, _, _, rfl, rfl, ⟨by decide, by decide, by omega⟩, _, _, rfl, rfl, by decide, fun r r0 r1 => ?_⟩⟩
      refine ⟨.int r, rfl, .ref a, rfl, a, _, 2, .int (b2 + 1), rfl, rfl, SqL.of hH1, atI_nat (j := 2) rfl,
        _, _, rfl, rfl, .inl ⟨by decide, by decide⟩, _, _, rfl, rfl, .inl ⟨_, rfl, _, _, rfl, rfl, ⟨by decide, by decide, by omega⟩, _, _, rfl, rfl, by decide, fun r' r0' r1' => ?_⟩⟩
      refine ⟨.int r', rfl, _, _, rfl, rfl, ⟨by decide, by decide⟩, .inl ⟨_, rfl, .int m, rfl, _, _, rfl, rfl, hm, fun r2 h0 h1 => ?_⟩⟩
      exact q r2 _ h0 h1 But.at_ ⟨b0, b1, b2 + 1, upd_same, p0, p1, q1, by omega, by omega⟩

theorem _root_.OF.But.free_ {a p : Addr} {H H' : Hp} (t : OF.But a H H') (n : p ≠ a) (h : H' p = none) : H p = none := by
  rcases Option.eq_none_or_eq_some (H p) with z | ⟨o, z⟩
  · exact z
  · rw [t p o n z] at h
    cases h
/-! ### lists in order -/
theorem sorted_ext {α : Type} {r : α → α → Prop} (as : ∀ a b, r a b → ¬ r b a) : ∀ {l m : List α}, l.Pairwise r → m.Pairwise r → (∀ x, x ∈ l ↔ x ∈ m) → l = m
  | [], [], _, _, _ => rfl
  | [], y :: m, _, _, h => absurd ((h y).mpr List.mem_cons_self) List.not_mem_nil
  | x :: l, [], _, _, h => absurd ((h x).mp List.mem_cons_self) List.not_mem_nil
  | x :: l, y :: m, h1, h2, h => by
    obtain ⟨a1, b1⟩ := List.pairwise_cons.mp h1
    obtain ⟨a2, b2⟩ := List.pairwise_cons.mp h2
    have e : x = y := by
      rcases List.mem_cons.mp ((h x).mp List.mem_cons_self) with z | z
      · exact z
      · rcases List.mem_cons.mp ((h y).mpr List.mem_cons_self) with z2 | z2
        · exact z2.symm
        · exact absurd (a1 y z2) (as _ _ (a2 x z))
    subst e
    have e2 : l = m := sorted_ext as b1 b2 fun z => by
      constructor
      · intro hz
        rcases List.mem_cons.mp ((h z).mp (List.mem_cons_of_mem _ hz)) with q | q
        · subst q
          exact absurd (a1 z hz) (as _ _ (a1 z hz))
        · exact q
      · intro hz
        rcases List.mem_cons.mp ((h z).mpr (List.mem_cons_of_mem _ hz)) with q | q
        · subst q
          exact absurd (a2 z hz) (as _ _ (a2 z hz))
        · exact q
    rw [e2]
theorem erase_map {α β : Type} (f : α → β) : ∀ (l : List α) (k : Nat), (l.map f).eraseIdx k = (l.eraseIdx k).map f
  | [], _ => rfl
  | _ :: _, 0 => rfl
  | x :: l, k + 1 => by
    show f x :: (l.map f).eraseIdx k = f x :: (l.eraseIdx k).map f
    rw [erase_map f l k]
theorem erase_perm {α : Type} : ∀ (l : List α) (k : Nat) (h : k < l.length), (l[k] :: l.eraseIdx k).Perm l
  | x :: l, 0, _ => List.Perm.refl _
  | x :: l, k + 1, h => by
    have h2 : k < l.length := Nat.lt_of_succ_lt_succ h
    show (l[k] :: x :: l.eraseIdx k).Perm (x :: l)
    exact (List.Perm.swap _ _ _).trans ((erase_perm l k h2).cons x)
/-- pairs by their order -/
def lexP (p q : Int × Int) : Prop := p.1 < q.1 ∨ (p.1 = q.1 ∧ p.2 < q.2)
theorem lexP_as (p q : Int × Int) (h : lexP p q) : ¬ lexP q p := by
  intro z
  unfold lexP at h z
  omega
/-- all pairs, in order -/
def prod (ns : List Int) : List (Int × Int) := ns.flatMap fun x => ns.map fun y => (x, y)
theorem prod_aux {ms : List Int} (hm : ms.Pairwise (· < ·)) : ∀ {ns : List Int}, ns.Pairwise (· < ·) → (ns.flatMap fun x => ms.map fun y => (x, y)).Pairwise lexP
  | [], _ => List.Pairwise.nil
  | x :: ns, h => by
    obtain ⟨a, b⟩ := List.pairwise_cons.mp h
    rw [List.flatMap_cons, List.pairwise_append]
    refine ⟨?_, prod_aux hm b, fun p hp q hq => ?_⟩
    · rw [List.pairwise_map]
      exact hm.imp fun z => .inr ⟨rfl, z⟩
    · obtain ⟨y, _, rfl⟩ := List.mem_map.mp hp
      obtain ⟨x2, hx2, hq⟩ := List.mem_flatMap.mp hq
      obtain ⟨y2, _, rfl⟩ := List.mem_map.mp hq
      exact .inl (a x2 hx2)
theorem prod_mem {ns : List Int} {p : Int × Int} (h : p ∈ prod ns) : p.1 ∈ ns ∧ p.2 ∈ ns := by
  obtain ⟨x, hx, hp⟩ := List.mem_flatMap.mp h
  obtain ⟨y, hy, rfl⟩ := List.mem_map.mp hp
  exact ⟨hx, hy⟩
theorem flat_len {ms : List Int} : ∀ (ns : List Int), (ns.flatMap fun x => ms.map fun y => (x, y)).length = ns.length * ms.length
  | [] => by simp
  | x :: ns => by
    rw [List.flatMap_cons, List.length_append, flat_len ns, List.length_map, List.length_cons, Nat.succ_mul]
    omega
/-- the parts of a scheme that a law draws -/
structure Good (b : Int) (ns : List Int) (ps : List (Int × Int)) : Prop where
  b : isBase b = true
  asc : ns.Pairwise (· < ·)
  one : 1 ≤ ns.length
  six : ns.length ≤ 6
  dg : ∀ n ∈ ns, dig n = true
  mem : ∀ p ∈ ps, p.1 ∈ ns ∧ p.2 ∈ ns
  lex : ps.Pairwise lexP
  few : ps.length ≤ 36
/-- the list of these parts in the heap -/
structure ModAt (H : Hp) (m dl pl : Addr) (b : Int) (ns : List Int) (ks : List (Addr × (Int × Int))) : Prop where
  mo : H m = some (.lst [.int b, .ref dl, .ref pl])
  di : H dl = some (.lst (ns.map V.int))
  pa : H pl = some (.lst (ks.map fun p => V.ref p.1))
  pr : ∀ p ∈ ks, H p.1 = some (.tup [.int p.2.1, .int p.2.2])
theorem ModAt.same {H H' : Hp} {m dl pl : Addr} {b : Int} {ns : List Int} {ks : List (Addr × (Int × Int))} (h : ModAt H m dl pl b ns ks) (s : Same H H') : ModAt H' m dl pl b ns ks :=
  ⟨s _ _ h.mo, s _ _ h.di, s _ _ h.pa, fun p hp => s _ _ (h.pr p hp)⟩
/-- the law's parts of a scheme at m, wherever but the box at a may change -/
def Model (a : Addr) (H : Hp) (m : Addr) (b : Int) (ns : List Int) (ps : List (Int × Int)) : Prop := ∃ (dl pl : Addr) (ks : List (Addr × (Int × Int))), ks.map (·.2) = ps ∧ ∀ H', But a H H' → ModAt H' m dl pl b ns ks
theorem Model.but {a m : Addr} {H H' : Hp} {b : Int} {ns : List Int} {ps : List (Int × Int)} (h : Model a H m b ns ps) (t : But a H H') : Model a H' m b ns ps := by
  obtain ⟨dl, pl, ks, e, z⟩ := h
  exact ⟨dl, pl, ks, e, fun H2 t2 => z H2 (t.trans t2)⟩

/-! ### digits, drawn -/
theorem mA_cases {b : Int} (h : isBase b = true) : mA b = 2 ∨ mA b = 3 ∨ mA b = 4 ∨ mA b = 5 ∨ mA b = 6 := by
  unfold isBase at h
  unfold mA
  simp only [Bool.or_eq_true, Bool.and_eq_true, decide_eq_true_eq] at h
  split <;> omega
def spDigits : Sp := fun vs H Q _ => ∃ (a : Addr) (b n : Int), vs = [.ref a, .int b] ∧ Box n H a ∧ n ≤ 800000 ∧ isBase b = true ∧
  ∀ (D : Addr) (ns : List Int) (H' : Hp), H D = none → But a H H' → Box (n + 30) H' a → H' D = some (.lst (ns.map V.int)) → ns.Nodup → 1 ≤ ns.length → ns.length ≤ 6 → (∀ k ∈ ns, dig k = true) → Q (.ref D) H'
abbrev nDi : List Str := ["_law_box_here", "_law_base", "_law_way", "_law_many", "_law_first", "_law_some", "_law_pool", "_law_k", "_law_digit"]
theorem scDi : FnScope nDi ["_law_box_here", "_law_base"] (defScope sDigits) := ⟨rfl, rfl, rfl, by decide +kernel, rfl, by decide +kernel, by decide +kernel⟩
theorem rg_ints (a b : Int) : rgV a b = ((List.range (b - a).toNat).map fun (i : Nat) => a + (i : Int)).map V.int := by
  unfold rgV
  rw [List.map_map]
  rfl
theorem rg_nodup (a : Int) (n : Nat) : ((List.range n).map fun (i : Nat) => a + (i : Int)).Nodup := by
  rw [List.nodup_iff_pairwise_ne, List.pairwise_map]
  refine List.nodup_range.imp fun {i j} h e => h ?_
  omega
theorem dig_of {k : Int} (h : -9 ≤ k) (h2 : k ≤ 9) : dig k = true := by
  unfold dig
  rw [decide_eq_true h, decide_eq_true h2]
  rfl
/-- what the second way makes: one number for each remainder -/
def Spread (m : Int) (vs : List Int) (lo hi : Int) : Prop := ∀ (j : Nat) (v : Int), vs[j]? = some v → ∃ c : Int, v = j + m * c ∧ lo ≤ c ∧ c ≤ hi
theorem spread_push {m lo hi c : Int} {vs : List Int} (h : Spread m vs lo hi) (h0 : lo ≤ c) (h1 : c ≤ hi) : Spread m (vs ++ [vs.length + m * c]) lo hi := by
  intro j v e
  rcases Nat.lt_trichotomy j vs.length with z | z | z
  · rw [List.getElem?_append_left z] at e
    exact h j v e
  · subst z
    rw [List.getElem?_append_right (Nat.le_refl _), Nat.sub_self] at e
    cases Option.some.inj e
    exact ⟨c, rfl, h0, h1⟩
  · rw [List.getElem?_eq_none (by rw [List.length_append]; show vs.length + 1 ≤ j; omega)] at e
    cases e
theorem spread_nodup {m lo hi : Int} {vs : List Int} (h : Spread m vs lo hi) (hm : m = 2 ∨ m = 3 ∨ m = 4 ∨ m = 5 ∨ m = 6) (hl : (vs.length : Int) ≤ m) : vs.Nodup := by
  rw [List.nodup_iff_pairwise_ne, List.pairwise_iff_getElem]
  intro i j hi hj hij e
  obtain ⟨c, e1, _⟩ := h i _ (List.getElem?_eq_getElem hi)
  obtain ⟨d, e2, _⟩ := h j _ (List.getElem?_eq_getElem hj)
  rw [e1, e2] at e
  rcases hm with rfl | rfl | rfl | rfl | rfl <;> omega
set_option maxHeartbeats 2000000 in
theorem ok_digits {f fT : Addr} {fd fdT : FuncData} (F : Fun K "_law_digits" "_law_digits" sDigits f fd) (FT : Fun K "_law_take" "_law_take" sTake fT fdT) (gT : mg "_law_take" = some (.ref fT)) (bT : Binds K fdT ["_law_box_here", "_law_many"] [])
    (mi : mg "int" = none) (ml : mg "len" = none) (mr : mg "range" = none) (ms : mg "list" = none) (ma : mg "abs" = none) : FnOk P w K mg base CX0 2 f fd ["_law_box_here", "_law_base"] spDigits := by
  have GT : FnOk P w K mg base CX0 1 fT fdT ["_law_box_here", "_law_many"] spTake := ok_take FT mi
  refine F.ok scDi (fun vs H Q E h => ?_) (fun cdv A outer s H vs Q E hr h => ?_)
  · obtain ⟨a, b, n, rfl, _⟩ := h
    rfl
  · obtain ⟨a, b, n, rfl, hB, hn, hb, q⟩ := h
    apply Exists.intro
    apply And.intro
    · apply pss_cons
      · exact ps_par (i := 2) (j := 3) rfl scDi.nd rfl rfl (by decide) rfl rfl (pa_cons (pe_call GT hr (by rfl) gT FT.kp bT .nil pass0 (pa_cons (pv 0) (pa_cons pe_int pa_nil))) (pa_cons (pe_op op_add pe_int (pe_call GT hr (by rfl) gT FT.kp bT .nil pass0 (pa_cons (pv 0) (pa_cons pe_int pa_nil)))) pa_nil)) (by rfl)
      apply pss_cons
      · exact ps_if (pt_cmpR op_eq (pv 2) pe_int (nomark _)) (pss_cons (ps_set (i := 4) scDi.nd rfl (.inl rfl) (pe_op op_sub (pe_call GT hr (by rfl) gT FT.kp bT .nil pass0 (pa_cons (pv 0) (pa_cons pe_int pa_nil))) pe_int))
          (pss_one (ps_ret (pe_listRg rfl (by rfl) ms (prg_2 (by rfl) mr (pv 4) (pe_op op_add (pv 4) (pv 3))))))) pss_nil
      apply pss_cons
      · exact ps_if (pt_cmpR op_eq (pv 2) pe_int (nomark _)) (pss_cons (ps_setLc (i := 5) (own := [("_law_k", 7)]) (g := gName 7) (tt := tYes) rfl scDi.nd rfl rfl (sw_true rfl rfl rfl (by decide +kernel)) (pi_range1 rfl mr (pa_cons (pe_callB call_abs (by rfl) ma (by decide +kernel) (pa_cons (pv 1) pa_nil)) pa_nil))
              (blkOk_by (own := [("_law_k", 7)]) (N := nDi) (sc := defScope sDigits) (by decide +kernel)) (fun _ _ _ _ _ => pg_name (i := 7) scDi.nd rfl (Or.inl rfl)) (fun _ _ _ _ _ => pts_nil)
              (fun _ _ _ _ _ => by exact (pe_op op_add (pv 7) (pe_op op_mul (pe_callB call_abs (by rfl) ma (by decide +kernel) (pa_cons (pv 1) pa_nil)) (pe_op op_sub (pe_call GT hr (by rfl) gT FT.kp bT .nil pass0 (pa_cons (pv 0) (pa_cons pe_int pa_nil))) pe_int)))))
          (pss_one (ps_ret (pe_lc (own := [("_law_digit", 8)]) (g := gName 8) (tt := tYes) rfl scDi.nd (pi_list (pv 5)) (blkOk_by (own := [("_law_digit", 8)]) (N := nDi) (sc := defScope sDigits) (by decide +kernel)) (fun _ _ _ _ _ => pg_name (i := 8) scDi.nd rfl (Or.inl rfl)) (fun _ _ _ _ _ => pts_nil)
              (fun _ _ _ _ _ => by exact (pe_op op_sub (pv 8) (pe_op op_mul (pe_callB call_abs (by rfl) ma (by decide +kernel) (pa_cons (pv 1) pa_nil)) (pe_callTy call_int1 (by rfl) mi PyProof.Rows.boot_int (pa_cons (pe_cmpR op_gt (pv 8) pe_int (nomark _)) pa_nil)))))))) ) pss_nil
      apply pss_cons
      · exact ps_set (i := 6) scDi.nd rfl (.inr rfl) (pe_listRg rfl (by rfl) ms (prg_2 (by rfl) mr (pe_un un_neg pe_int) pe_int))
      apply pss_one
      · exact ps_ret (pe_lc (own := [("_law_k", 7)]) (g := gName 7) (tt := tYes) (te := tBM K "list" rPopAt (tVar 6) (tCons (tCall spTake [] E0 (tCons (tVar 0) (tCons (tCB (rLenS K) (tCons (tVar 6) tNil)) tNil))) tNil)) rfl scDi.nd (pi_range1 rfl mr (pa_cons (pv 3) pa_nil))
        (blkOk_by (own := [("_law_k", 7)]) (N := nDi) (sc := defScope sDigits) (by decide +kernel)) (fun _ _ _ _ _ => pg_name (i := 7) scDi.nd rfl (Or.inl rfl)) (fun _ _ _ _ _ => pts_nil)
        (fun _ _ _ _ _ => by exact (pe_bm PySem.F.plainAttrs_list PySem.F.slot_list_pop PySem.F.type_list_pop mt_popAt (pv 6)
          (pa_cons (pe_call GT hr (by rfl) gT FT.kp bT .nil pass0 (pa_cons (pv 0) (pa_cons (pe_callB call_len_seq (by rfl) ml PySem.boot_len (pa_cons (pv 6) pa_nil)) pa_nil))) pa_nil))))
    refine ⟨.ref a, rfl, a, 4, n, rfl, hB, by omega, by decide, by decide, fun wy H1 w0 w1 t1 B1 => ?_⟩
    refine ⟨.ref a, rfl, a, 6, n + 1, rfl, B1, by omega, by decide, by decide, fun mm H2 m0 m1 t2 B2 => ?_⟩
    have T2 := t1.trans t2
    refine ⟨1, mm, rfl, rfl, .int wy, .int (1 + mm), rfl, ?_⟩
    refine ⟨.int wy, rfl, rfl, _, rfl, ite2 (fun c => ?_) (fun c => ?_)⟩
    · refine ⟨.ref a, rfl, a, 4, n + 1 + 1, rfl, B2, by omega, by decide, by decide, fun r H3 r0 r1 t3 B3 => ?_⟩
      refine ⟨r, 3, rfl, rfl, .int (r - 3), rfl, .int (r - 3), rfl, .int (1 + mm), rfl, r - 3, 1 + mm, rfl, rfl, r - 3, r - 3 + (1 + mm), rfl, rfl, ⟨by omega, by omega, by omega, by omega, by omega⟩, fun D hD => ?_⟩
      have nDa := B3.ne hD
      have hD0 : H D = none := (T2.trans t3).free_ nDa hD
      refine q D ((List.range (r - 3 + (1 + mm) - (r - 3)).toNat).map fun (i : Nat) => (r - 3) + (i : Int)) _ hD0 ((T2.trans t3).trans (But.new hD)) ((B3.new hD).mono (by omega)) ?_ (rg_nodup _ _) ?_ ?_ fun k hk => ?_
      · rw [upd_same, rg_ints]
      · rw [List.length_map, List.length_range]
        omega
      · rw [List.length_map, List.length_range]
        omega
      · obtain ⟨i, hi, rfl⟩ := List.mem_map.mp hk
        have := List.mem_range.mp hi
        exact dig_of (by omega) (by omega)
    · refine ⟨.int wy, rfl, rfl, _, rfl, ite2 (fun c1 => ?_) (fun c1 => ?_)⟩
      · have hm := mA_cases hb
        refine ⟨.int b, rfl, b, rfl, mA b, rfl, by omega, by omega, fun D hD => ?_⟩
        have nDa := B2.ne hD
        refine lc_range (lo := 0) (n := (mA b).toNat) (fun i H' => But a H2 H' ∧ Box (n + 2 + i) H' a ∧ ∃ ws : List Int, H' D = some (.lst (ws.map V.int)) ∧ ws.length = i ∧ Spread (mA b) ws (-1) 1) ⟨But.new hD, (B2.new hD).mono (by omega), [], upd_same, rfl, fun j v e => by simp at e⟩ ?_ ?_
        · rintro i H' hi ⟨t, B, ws, eD, lw, hs⟩
          refine ⟨rfl, tYes_if ⟨.int (0 + i), rfl, .int b, rfl, b, rfl, .ref a, rfl, a, 3, n + 2 + i, rfl, B, by omega, by decide, by decide, fun r H3 r0 r1 t3 B3 => ?_⟩⟩
          refine ⟨r, 1, rfl, rfl, mA b, r - 1, rfl, rfl, .inl ⟨by omega, by omega⟩, 0 + i, mA b * (r - 1), rfl, rfl, _, t3 _ _ nDa eD, ?_, (t.trans t3).store hD, (B3.upd nDa).mono (by omega), ws ++ [(ws.length : Int) + mA b * (r - 1)], ?_, ?_, spread_push hs (by omega) (by omega)⟩
          · rw [List.length_map, lw]
            exact small1000 (by omega)
          · rw [upd_same, List.map_append, lw, Int.zero_add]
            rfl
          · rw [List.length_append, lw]
            rfl
        · rintro H3 ⟨t, B, ws, eD, lw, hs⟩
          refine ⟨.ref D, rfl, D, rfl, ⟨_, SqL.of eD⟩, fun D2 hD2 => ?_⟩
          have nD2a := B.ne hD2
          have hD20 : H D2 = none := (T2.trans t).free_ nD2a hD2
          refine lc_list (K := K) (a := D) (xs := ws.map V.int) (fun i H' => Same H3 H' ∧ ∃ ms : List Int, H' D2 = some (.lst (ms.map V.int)) ∧ ms.length = i ∧ Spread (mA b) ms (-2) 1 ∧ ∀ k ∈ ms, dig k = true) ⟨same_new hD2, [], upd_same, rfl, (fun j v e => by simp at e), fun k h => by cases h⟩ (fun i H' _ h => SqL.of (h.1 _ _ eD)) ?_ ?_
          · rintro i x H' hx ⟨s3, ms, e2, lm, sp, dg⟩
            obtain ⟨v, hv, rfl⟩ := get_map hx
            obtain ⟨c0, ev, c1', c2'⟩ := hs i v hv
            have hi : i < ws.length := (List.getElem?_eq_some_iff.mp hv).1
            have key : ∃ cc : Int, v - mA b * (if (decide ((9 : Int) < v)) = true then 1 else 0) = (i : Int) + mA b * cc ∧ -2 ≤ cc ∧ cc ≤ 1 ∧ -9 ≤ (i : Int) + mA b * cc ∧ (i : Int) + mA b * cc ≤ 9 := by
              by_cases h9 : (9 : Int) < v
              · rw [decide_eq_true h9, if_pos rfl]
                refine ⟨c0 - 1, ?_, by omega, by omega, ?_, ?_⟩ <;> rcases hm with e | e | e | e | e <;> rw [e] at ev lw ⊢ <;> omega
              · rw [decide_eq_false h9, if_neg (by decide)]
                refine ⟨c0, ?_, by omega, by omega, ?_, ?_⟩ <;> rcases hm with e | e | e | e | e <;> rw [e] at ev lw ⊢ <;> omega
            obtain ⟨cc, ek, k1, k2, k3, k4⟩ := key
            refine ⟨rfl, tYes_if ⟨.int v, rfl, .int b, rfl, b, rfl, .int v, rfl, v, 9, rfl, rfl, .inr ⟨_, rfl, mA b, (if (decide ((9 : Int) < v)) = true then 1 else 0), rfl, rfl, .inl ⟨by omega, by omega⟩, v, mA b * (if (decide ((9 : Int) < v)) = true then 1 else 0), rfl, rfl, _, e2, ?_, Same.store s3 hD2, ms ++ [(ms.length : Int) + mA b * cc], ?_, ?_, spread_push sp k1 k2, fun k hk => ?_⟩⟩⟩
            · rw [List.length_map, lm]
              exact small1000 (by omega)
            · rw [upd_same, List.map_append, lm, ← ek]
              rfl
            · rw [List.length_append, lm]
              rfl
            · rcases List.mem_append.mp hk with z | z
              · exact dg k z
              · cases List.mem_singleton.mp z
                rw [lm]
                exact dig_of k3 k4
          · rintro H4 ⟨s4, ms, e2, lm, sp, dg⟩
            rw [List.length_map] at lm
            refine q D2 ms H4 hD20 ((T2.trans t).trans (But.of_same s4)) ((B.same s4).mono (by omega)) e2 (spread_nodup sp hm (by omega)) (by omega) (by omega) dg
      · refine ⟨9, rfl, -9, 10, rfl, rfl, ⟨by decide, by decide, by decide, by decide, by decide⟩, fun l hl => ?_⟩
        have nla := B2.ne hl
        have hl0 : H l = none := T2.free_ nla hl
        have el : (upd H2 l (.lst (rgV (-9) 10))) l = some (.lst (((List.range 19).map fun (i : Nat) => (-9 : Int) + (i : Int)).map V.int)) := by
          rw [upd_same, rg_ints]
          rfl
        have tn : But a H2 (upd H2 l (.lst (rgV (-9) 10))) := But.new hl
        have Bn : Box (n + 2) (upd H2 l (.lst (rgV (-9) 10))) a := (B2.new hl).mono (by omega)
        have nfull : ((List.range 19).map fun (i : Nat) => (-9 : Int) + (i : Int)).Nodup := rg_nodup _ _
        have dfull : ∀ k ∈ ((List.range 19).map fun (i : Nat) => (-9 : Int) + (i : Int)), dig k = true := by decide +kernel
        have lfull : ((List.range 19).map fun (i : Nat) => (-9 : Int) + (i : Int)).length = 19 := by decide +kernel
        generalize ((List.range 19).map fun (i : Nat) => (-9 : Int) + (i : Int)) = full at el nfull dfull lfull
        generalize upd H2 l (.lst (rgV (-9) 10)) = H3 at el tn Bn ⊢
        refine ⟨.int (1 + mm), rfl, 1 + mm, rfl, by omega, by omega, fun D hD => ?_⟩
        have hDl : D ≠ l := fun e => by rw [e, el] at hD; cases hD
        have nDa := Bn.ne hD
        have hD0 : H D = none := (T2.trans tn).free_ nDa hD
        refine lc_range (lo := 0) (n := (1 + mm).toNat) (fun i H' => But a H H' ∧ Box (n + 2 + i) H' a ∧ ∃ ls acc : List Int, H' l = some (.lst (ls.map V.int)) ∧ H' D = some (.lst (acc.map V.int)) ∧ acc.length = i ∧ (acc ++ ls).Perm full) ?_ ?_ ?_
        · exact ⟨(T2.trans tn).trans (But.new hD), (Bn.new hD).mono (by omega), full, [], by rw [upd_ne hDl.symm]; exact el, upd_same, rfl, List.Perm.refl _⟩
        · rintro i H' hi ⟨t, B, ls, acc, el2, ea, la, pm⟩
          have ll : ls.length + i = 19 := by
            have := pm.length_eq
            rw [List.length_append, lfull] at this
            omega
          refine ⟨rfl, tYes_if ?_⟩
          refine ⟨.ref l, rfl, .inl ⟨rfl, _, SqL.of el2⟩, .ref a, rfl, .ref l, rfl, l, _, rfl, .inl (SqL.of el2), a, ((ls.map V.int).length : Int), n + 2 + i, rfl, B, by omega, by rw [List.length_map]; omega, by rw [List.length_map, Int.natAbs_natCast]; exact Nat.lt_of_le_of_lt (by omega : ls.length ≤ 19) (by decide), fun r H4 r0 r1 t4 B4 => ?_⟩
          rw [List.length_map] at r1
          have e4 : H4 l = some (.lst (ls.map V.int)) := t4 _ _ nla el2
          have hk : r.toNat < ls.length := by omega
          have hk2 : (ls.map V.int)[r.toNat]? = some (.int ls[r.toNat]) := by
            rw [List.getElem?_map, List.getElem?_eq_getElem hk]
            rfl
          refine ⟨l, ls.map V.int, r, r.toNat, .int ls[r.toNat], rfl, rfl, e4, by omega, by omega, (ixN_seq (ixN_in r0 (by rw [List.length_map]; omega))).1, hk2, ?_⟩
          refine ⟨acc.map V.int, ?_, by rw [List.length_map, la]; exact small1000 (by omega), ?_⟩
          · rw [upd_ne hDl]
            exact t4 _ _ nDa ea
          · refine ⟨((t.trans t4).store hl0).store hD0, ((B4.upd nla).upd nDa).mono (by omega), ls.eraseIdx r.toNat, acc ++ [ls[r.toNat]], ?_, ?_, ?_, ?_⟩
            · rw [upd_ne hDl.symm, upd_same, erase_map]
            · rw [upd_same, List.map_append]
              rfl
            · rw [List.length_append, la]
              rfl
            · rw [List.append_assoc]
              exact (List.Perm.append_left acc (erase_perm ls r.toNat hk)).trans pm
        · rintro H' ⟨t, B, ls, acc, el2, ea, la, pm⟩
          have nd : acc.Nodup := (List.nodup_append.mp (pm.nodup_iff.mpr nfull)).1
          refine q D acc H' hD0 t (B.mono (by omega)) ea nd (by omega) (by omega) fun k hk => dfull k (pm.mem_iff.mp (List.mem_append_left _ hk))

/-! ### pairs -/
def spPairs (K : PySem.W.Frag) : Sp := fun vs H Q _ => ∃ (dl : Addr) (ns : List Int), vs = [.ref dl] ∧ SqL K H dl (ns.map V.int) ∧ ns.length ≤ 6 ∧
  ∀ (pl : Addr) (ks : List (Addr × (Int × Int))) (H' : Hp), Same H H' → H pl = none → H' pl = some (.lst (ks.map fun p => V.ref p.1)) → (∀ p ∈ ks, H p.1 = none ∧ H' p.1 = some (.tup [.int p.2.1, .int p.2.2])) → ks.map (·.2) = prod ns → Q (.ref pl) H'
abbrev nPa : List Str := ["_law_digits_here", "_law_found", "_law_left", "_law_right_here"]
theorem scPa : FnScope nPa ["_law_digits_here"] (defScope sPairs) := ⟨rfl, rfl, rfl, by decide +kernel, rfl, by decide +kernel, by decide +kernel⟩
theorem ok_pairs {f : Addr} {fd : FuncData} (F : Fun K "_law_pairs" "_law_pairs" sPairs f fd) : FnOk P w K mg base CX0 1 f fd ["_law_digits_here"] (spPairs K) := by
  refine F.ok scPa (fun vs H Q E h => ?_) (fun cdv A outer s H vs Q E hr h => ?_)
  · obtain ⟨dl, ns, rfl, _⟩ := h
    rfl
  · obtain ⟨dl, ns, rfl, hd, h6, q⟩ := h
    apply Exists.intro
    apply And.intro
    · apply pss_cons
      · exact ps_set (i := 1) scPa.nd rfl (.inl rfl) (pe_lst pa_nil)
      apply pss_cons
      · exact ps_for PassesOwn.never rfl (pi_list (pv 0)) (pg_name (i := 2) scPa.nd rfl (.inr rfl))
          (pss_one (ps_set (i := 1) scPa.nd rfl (.inl rfl) (pe_op op_cat (pv 1) (pe_lc (own := [("_law_right_here", 3)]) (g := gName 3) (tt := tYes) rfl scPa.nd (pi_list (pv 0)) (blkOk_by (own := [("_law_right_here", 3)]) (N := nPa) (sc := defScope sPairs) (by decide +kernel)) (fun _ _ _ _ _ => pg_name (i := 3) scPa.nd rfl (Or.inl rfl)) (fun _ _ _ _ _ => pts_nil)
            (fun _ _ _ _ _ => by exact (pe_tup (pa_cons (pv 2) (pa_cons (pv 3) pa_nil))))))))
      apply pss_one
      · exact ps_ret (pv 1)
    refine ⟨(by show 0 ≤ sizeLine; decide), fun p0 hp0 => ?_⟩
    have s0 := same_new (o := .lst []) hp0
    refine ⟨.ref dl, rfl, dl, rfl, ⟨_, s0.seq hd⟩, for_list (K := K) (a := dl) (xs := ns.map V.int) (fun i σ H' => ∃ (p : Addr) (v : Option V) (ks : List (Addr × (Int × Int))), σ = [some (.ref dl), some (.ref p), v, none] ∧ Same H H' ∧ H p = none ∧ H' p = some (.lst (ks.map fun p => V.ref p.1)) ∧ (∀ p ∈ ks, H p.1 = none ∧ H' p.1 = some (.tup [.int p.2.1, .int p.2.2])) ∧ ks.map (·.2) = (ns.take i).flatMap fun x => ns.map fun y => (x, y))
      ⟨p0, none, [], rfl, s0, hp0, upd_same, (fun p h => by cases h), rfl⟩ (fun i σ H' _ h => by obtain ⟨_, _, _, _, s, _⟩ := h; exact s.seq hd) ?_ ?_⟩
    · rintro i x σ H1 hx ⟨p, v, ks, rfl, s1, hp, ep, ek, em⟩
      obtain ⟨n, hn, rfl⟩ := get_map hx
      have hlk : ks.length ≤ 36 := by
        have e := congrArg List.length em
        rw [List.length_map, flat_len] at e
        have h1 : (ns.take i).length ≤ 6 := Nat.le_trans (List.length_take_le' _ _) h6
        rw [e]
        exact Nat.le_trans (Nat.mul_le_mul h1 h6) (by decide)
      refine ⟨.ref p, rfl, .ref dl, rfl, dl, rfl, ⟨_, s1.seq hd⟩, fun D hD => ?_⟩
      refine lc_list (K := K) (a := dl) (xs := ns.map V.int) (fun j H' => Same H1 H' ∧ ∃ kk : List (Addr × (Int × Int)), H' D = some (.lst (kk.map fun p => V.ref p.1)) ∧ kk.length = j ∧ (∀ p ∈ kk, H1 p.1 = none ∧ H' p.1 = some (.tup [.int p.2.1, .int p.2.2])) ∧ kk.map (·.2) = (ns.take j).map fun y => (n, y)) ⟨same_new hD, [], upd_same, rfl, (fun p h => by cases h), rfl⟩ (fun j H' _ h => (s1.trans h.1).seq hd) ?_ ?_
      · rintro j y H2 hy ⟨s2, kk, eD, lk, ekk, emk⟩
        obtain ⟨m, hm, rfl⟩ := get_map hy
        have hj : j < ns.length := (List.getElem?_eq_some_iff.mp hm).1
        refine ⟨rfl, tYes_if ⟨.int n, rfl, .int m, rfl, (by show 2 ≤ sizeLine; decide), fun T hT => ?_⟩⟩
        have s3 := same_new (o := .tup [.int n, .int m]) hT
        have hT1 : H1 T = none := s2.free hT
        refine ⟨kk.map (fun p => V.ref p.1), s3 _ _ eD, ?_, Same.store (s2.trans s3) hD, kk ++ [(T, (n, m))], ?_, ?_, fun p hp => ?_, ?_⟩
        · rw [List.length_map, lk]
          exact small1000 (by omega)
        · rw [upd_same, List.map_append]
          rfl
        · rw [List.length_append, lk]
          rfl
        · have nTD : p.1 = T → p.1 ≠ D := fun e z => by
            have h1 := s3 _ _ eD
            rw [← z, e, upd_same] at h1
            cases h1
          rcases List.mem_append.mp hp with h | h
          · obtain ⟨h1, h2⟩ := ekk p h
            refine ⟨h1, ?_⟩
            have h3 := s3 _ _ h2
            rw [upd_ne (fun z => by rw [z] at h2; rw [eD] at h2; cases h2)]
            exact h3
          · cases List.mem_singleton.mp h
            refine ⟨hT1, ?_⟩
            rw [upd_ne (nTD rfl)]
            exact upd_same
        · rw [List.map_append, take_more hm, List.map_append, emk]
          rfl
      · rintro H2 ⟨s2, kk, eD, lk, ekk, emk⟩
        rw [List.length_map] at lk emk
        rw [List.take_length] at emk
        have ep2 := s2 _ _ ep
        refine ⟨p, D, _, _, rfl, rfl, ep2, eD, ?_, fun p3 hp3 => ?_⟩
        · rw [List.length_map, List.length_map, sizeLine_eq]
          omega
        have s4 := same_new (o := .lst ((ks.map fun p => V.ref p.1) ++ kk.map fun p => V.ref p.1)) hp3
        have s14 := s1.trans (s2.trans s4)
        refine ⟨p3, some (.int n), ks ++ kk, rfl, s14, (s1.trans s2).free hp3, ?_, fun r hr2 => ?_, ?_⟩
        · rw [upd_same, List.map_append]
        · rcases List.mem_append.mp hr2 with h | h
          · exact ⟨(ek r h).1, (s2.trans s4) _ _ (ek r h).2⟩
          · exact ⟨s1.free (ekk r h).1, s4 _ _ (ekk r h).2⟩
        · rw [List.map_append, em, emk, take_more hn, List.flatMap_append]
          simp only [List.flatMap_cons, List.flatMap_nil, List.append_nil]
    · rintro σ H1 ⟨p, v, ks, rfl, s1, hp, ep, ek, em⟩
      rw [List.length_map, List.take_length] at em
      exact ⟨_, rfl, q p ks H1 s1 hp ep ek em⟩

/-! ### a scheme's parts, drawn -/
def spScheme : Sp := fun vs H Q _ => ∃ (a : Addr) (n : Int), vs = [.ref a] ∧ Box n H a ∧ n ≤ 700000 ∧
  ∀ (m : Addr) (b : Int) (ns : List Int) (ps : List (Int × Int)) (H' : Hp), But a H H' → Box (n + 100) H' a → Good b ns ps → Model a H' m b ns ps → Q (.ref m) H'
abbrev nSc : List Str := ["_law_box_here", "_law_base", "_law_digits_here", "_law_way", "_law_pairs_here", "_law_pair"]
theorem scSc : FnScope nSc ["_law_box_here"] (defScope sScheme) := ⟨rfl, rfl, rfl, by decide +kernel, rfl, by decide +kernel, by decide +kernel⟩
theorem bases_ok : ∀ b ∈ ([2, -2, 3, -3, 2, -4, 4, 5, -5, 6, -6] : List Int), isBase b = true := by decide
theorem strict_of {ns : List Int} (h : ns.Pairwise (· ≤ ·)) (nd : ns.Nodup) : ns.Pairwise (· < ·) := by
  rw [List.nodup_iff_pairwise_ne] at nd
  exact (h.and nd).imp fun ⟨h1, h2⟩ => by omega
theorem good_of {b : Int} {ns : List Int} {ps : List (Int × Int)} (hb : isBase b = true) (asc : ns.Pairwise (· < ·)) (h1 : 1 ≤ ns.length) (h6 : ns.length ≤ 6) (dg : ∀ n ∈ ns, dig n = true) (sub : ps.Sublist (prod ns)) : Good b ns ps := by
  refine ⟨hb, asc, h1, h6, dg, fun p hp => prod_mem (sub.subset hp), (prod_aux asc asc).sublist sub, ?_⟩
  have e : (prod ns).length = ns.length * ns.length := flat_len ns
  exact Nat.le_trans sub.length_le (by rw [e]; exact Nat.le_trans (Nat.mul_le_mul h6 h6) (by decide))
set_option maxHeartbeats 2000000 in
theorem ok_scheme {f fT fD fP : Addr} {fd fdT fdD fdP : FuncData} (F : Fun K "_law_scheme" "_law_scheme" sScheme f fd) (FT : Fun K "_law_take" "_law_take" sTake fT fdT) (gT : mg "_law_take" = some (.ref fT)) (bT : Binds K fdT ["_law_box_here", "_law_many"] [])
    (GD : FnOk P w K mg base CX0 2 fD fdD ["_law_box_here", "_law_base"] spDigits) (gD : mg "_law_digits" = some (.ref fD)) (kD : PySem.W.keepIn K (.ref fD) = true) (bD : Binds K fdD ["_law_box_here", "_law_base"] [])
    (GP : FnOk P w K mg base CX0 1 fP fdP ["_law_digits_here"] (spPairs K)) (gP : mg "_law_pairs" = some (.ref fP)) (kP : PySem.W.keepIn K (.ref fP) = true) (bP : Binds K fdP ["_law_digits_here"] [])
    (mi : mg "int" = none) (mso : mg "sorted" = none) : FnOk P w K mg base CX0 3 f fd ["_law_box_here"] spScheme := by
  have GT : FnOk P w K mg base CX0 1 fT fdT ["_law_box_here", "_law_many"] spTake := ok_take FT mi
  refine F.ok scSc (fun vs H Q E h => ?_) (fun cdv A outer s H vs Q E hr2 h => ?_)
  · obtain ⟨a, n, rfl, _⟩ := h
    rfl
  · obtain ⟨a, n, rfl, hB, hn, q⟩ := h
    have hr : Room 1 _ := hr2.mono (by decide)
    apply Exists.intro
    apply And.intro
    · apply pss_cons
      · exact ps_set (i := 1) scSc.nd rfl (.inl rfl) (pe_ix ix_list (pe_lst (pa_cons pe_int (pa_cons (pe_un un_neg pe_int) (pa_cons pe_int (pa_cons (pe_un un_neg pe_int) (pa_cons pe_int (pa_cons (pe_un un_neg pe_int) (pa_cons pe_int (pa_cons pe_int (pa_cons (pe_un un_neg pe_int) (pa_cons pe_int (pa_cons (pe_un un_neg pe_int) pa_nil))))))))))))
          (pe_call GT hr (by rfl) gT FT.kp bT .nil pass0 (pa_cons (pv 0) (pa_cons pe_int pa_nil))) (fun _ _ => rfl))
      apply pss_cons
      · exact ps_par (i := 2) (j := 3) rfl scSc.nd rfl rfl (by decide) rfl rfl (pa_cons (pe_callB cr_sorted (by rfl) mso (by decide +kernel) (pa_cons (pe_call GD hr2 (by rfl) gD kD bD .nil pass0 (pa_cons (pv 0) (pa_cons (pv 1) pa_nil))) pa_nil)) (pa_cons (pe_call GT hr (by rfl) gT FT.kp bT .nil pass0 (pa_cons (pv 0) (pa_cons pe_int pa_nil))) pa_nil)) (by rfl)
      apply pss_cons
      · exact ps_set (i := 4) scSc.nd rfl (.inl rfl) (pe_call GP hr (by rfl) gP kP bP .nil pass0 (pa_cons (pv 2) pa_nil))
      apply pss_cons
      · exact ps_if (pt_cmpR op_eq (pv 3) pe_int (nomark _)) (pss_one (ps_ret (pe_lst (pa_cons (pv 1) (pa_cons (pv 2) (pa_cons (pe_lst pa_nil) pa_nil)))))) pss_nil
      apply pss_cons
      · exact ps_if (pt_cmpR op_eq (pv 3) pe_int (nomark _)) (pss_one (ps_ret (pe_lst (pa_cons (pv 1) (pa_cons (pv 2) (pa_cons (pe_lc (own := [("_law_pair", 5)]) (g := gName 5)
            (tt := tAnd (tTest (tOp rNe (tOp (rIxT K) (tVar 5) (tC (.int 0))) (tC (.int 0)))) (tTest (tOp rNe (tOp (rIxT K) (tVar 5) (tC (.int 1))) (tC (.int 0))))) (te := tVar 5) rfl scSc.nd (pi_list (pv 4)) (blkOk_by (own := [("_law_pair", 5)]) (N := nSc) (sc := defScope sScheme) (by decide +kernel)) (fun _ _ _ _ _ => pg_name (i := 5) scSc.nd rfl (Or.inl rfl))
            (fun _ _ _ _ _ => by exact (pts_one (PW.pt (pw_and (pt_cmpR op_ne (pe_ix ix_tup (pv 5) pe_int (fun _ _ => rfl)) pe_int (nomark _)) (pw_and1 (pt_cmpR op_ne (pe_ix ix_tup (pv 5) pe_int (fun _ _ => rfl)) pe_int (nomark _))))))) (fun _ _ _ _ _ => by exact (pv 5))) pa_nil)))))) pss_nil
      apply pss_cons
      · exact ps_if (pt_cmpR op_eq (pv 3) pe_int (nomark _)) (pss_one (ps_ret (pe_lst (pa_cons (pv 1) (pa_cons (pv 2) (pa_cons (pe_lc (own := [("_law_pair", 5)]) (g := gName 5)
            (tt := tTest (tOp rEq (tOp (rIxT K) (tVar 5) (tC (.int 0))) (tOp (rIxT K) (tVar 5) (tC (.int 1))))) (te := tVar 5) rfl scSc.nd (pi_list (pv 4)) (blkOk_by (own := [("_law_pair", 5)]) (N := nSc) (sc := defScope sScheme) (by decide +kernel)) (fun _ _ _ _ _ => pg_name (i := 5) scSc.nd rfl (Or.inl rfl))
            (fun _ _ _ _ _ => by exact (pts_one (pt_cmpR op_eq (pe_ix ix_tup (pv 5) pe_int (fun _ _ => rfl)) (pe_ix ix_tup (pv 5) pe_int (fun _ _ => rfl)) (nomark _)))) (fun _ _ _ _ _ => by exact (pv 5))) pa_nil)))))) pss_nil
      apply pss_one
      · exact ps_ret (pe_lst (pa_cons (pv 1) (pa_cons (pv 2) (pa_cons (pe_lc (own := [("_law_pair", 5)]) (g := gName 5)
            (tt := tTest (tOp rEq (tCall spTake [] E0 (tCons (tVar 0) (tCons (tC (.int 4)) tNil))) (tC (.int 0)))) (te := tVar 5) rfl scSc.nd (pi_list (pv 4)) (blkOk_by (own := [("_law_pair", 5)]) (N := nSc) (sc := defScope sScheme) (by decide +kernel)) (fun _ _ _ _ _ => pg_name (i := 5) scSc.nd rfl (Or.inl rfl))
            (fun _ _ _ _ _ => by exact (pts_one (pt_cmpR op_eq (pe_call GT hr (by rfl) gT FT.kp bT .nil pass0 (pa_cons (pv 0) (pa_cons pe_int pa_nil))) pe_int (nomark _)))) (fun _ _ _ _ _ => by exact (pv 5))) pa_nil))))
    -- the base
    refine ⟨2, rfl, 3, rfl, 4, rfl, 5, rfl, 6, rfl, (by show 11 ≤ sizeLine; decide), fun l0 hl0 => ?_⟩
    have n0 := hB.ne hl0
    refine ⟨.ref a, rfl, a, 11, n, rfl, hB.new hl0, by omega, by decide, by decide, fun r H1 r0 r1 t1 B1 => ?_⟩
    have e0 := t1 _ _ n0 upd_same
    obtain ⟨v, hv, mv⟩ := pick (xs := ([2, -2, 3, -3, 2, -4, 4, 5, -5, 6, -6] : List Int).map V.int) r0 r1
    obtain ⟨b, mb, rfl⟩ := List.mem_map.mp mv
    have hb := bases_ok b mb
    refine ⟨l0, _, r, .int b, rfl, rfl, SqL.of e0, hv, ?_⟩
    have T1 : But a H H1 := (But.new hl0).trans t1
    clear e0 hv mv mb
    -- the digits
    refine ⟨.ref a, rfl, .int b, rfl, a, b, n + 1, rfl, B1, by omega, hb, fun D ns H2 hD t2 B2 eD nd l1 l6 dg => ?_⟩
    refine ⟨D, ns, rfl, SqL.of eD, by omega, fun ns' dl pm srt hdl => ?_⟩
    have ndl := B2.ne hdl
    have asc := strict_of srt (pm.nodup_iff.mpr nd)
    have dg' : ∀ k ∈ ns', dig k = true := fun k hk => dg k (pm.mem_iff.mp hk)
    have l1' : 1 ≤ ns'.length := by rw [pm.length_eq]; exact l1
    have l6' : ns'.length ≤ 6 := by rw [pm.length_eq]; exact l6
    have T2 : But a H (upd H2 dl (.lst (ns'.map V.int))) := (T1.trans t2).trans (But.new hdl)
    refine ⟨.ref a, rfl, a, 4, n + 1 + 30, rfl, B2.new hdl, by omega, by decide, by decide, fun wy H3 w0 w1 t3 B3 => ?_⟩
    have ed := t3 _ _ ndl upd_same
    have T3 := T2.trans t3
    clear pm srt nd dg l1 l6 eD
    refine ⟨.ref dl, .int wy, rfl, ?_⟩
    -- the pairs
    refine ⟨.ref dl, rfl, dl, ns', rfl, SqL.of ed, l6', fun pl ks H4 s4 npl epl ek em => ?_⟩
    have B4 := B3.same s4
    have T4 := T3.trans (But.of_same s4)
    have ed4 := s4 _ _ ed
    have pair : ∀ p ∈ ks, p.1 ≠ a := fun p hp z => by
      obtain ⟨b0, b1, b2, hb0, _⟩ := B3
      have := (ek p hp).1
      rw [z, hb0] at this
      cases this
    have fin : ∀ (H5 : Hp) (fl : Addr) (kk : List (Addr × (Int × Int))) (mo : Addr), But a H4 H5 → Box (n + 90) H5 a → fl ≠ a → H5 fl = some (.lst (kk.map fun p => V.ref p.1)) → kk.Sublist ks → H5 mo = none → Q (.ref mo) (upd H5 mo (.lst [.int b, .ref dl, .ref fl])) := by
      intro H5 fl kk mo t5 B5 nfl efl sub hmo
      have nmo := B5.ne hmo
      have ed5 := t5 _ _ ndl ed4
      have ek5 : ∀ p ∈ kk, H5 p.1 = some (.tup [.int p.2.1, .int p.2.2]) := fun p hp => t5 _ _ (pair p (sub.subset hp)) (ek p (sub.subset hp)).2
      have sub2 : (kk.map (·.2)).Sublist (prod ns') := em ▸ sub.map (·.2)
      refine q mo b ns' (kk.map (·.2)) _ ((T4.trans t5).trans (But.new hmo)) ((B5.new hmo).mono (by omega)) (good_of hb asc l1' l6' dg' sub2) ⟨dl, fl, kk, rfl, fun H6 t6 => ⟨t6 _ _ nmo upd_same, t6 _ _ ndl (same_new hmo _ _ ed5), t6 _ _ nfl (same_new hmo _ _ efl), fun p hp => t6 _ _ (pair p (sub.subset hp)) (same_new hmo _ _ (ek5 p hp))⟩⟩
    have lks : ks.length ≤ 36 := by
      have e := congrArg List.length em
      rw [List.length_map] at e
      have e2 : (prod ns').length = ns'.length * ns'.length := flat_len ns'
      rw [e, e2]
      exact Nat.le_trans (Nat.mul_le_mul l6' l6') (by decide)
    have sub_more : ∀ {i : Nat} {p : Addr × (Int × Int)} {kk : List (Addr × (Int × Int))}, ks[i]? = some p → kk.Sublist (ks.take i) → (kk ++ [p]).Sublist (ks.take (i + 1)) ∧ kk.Sublist (ks.take (i + 1)) := fun {i p kk} hp hs => by
      rw [take_more hp]
      exact ⟨List.Sublist.append hs (List.Sublist.refl _), hs.trans (List.sublist_append_left _ _)⟩
    have small : ∀ {i : Nat} {kk : List (Addr × (Int × Int))}, kk.Sublist (ks.take i) → (kk.map fun p => V.ref p.1).length < sizeLine := fun {i kk} hs => by
      rw [List.length_map]
      have := hs.length_le
      have h2 : (ks.take i).length ≤ ks.length := List.length_take_le' _ _
      exact small1000 (by omega)
    refine ⟨.int wy, rfl, rfl, _, rfl, ite2 (fun c => ?_) (fun c => ?_)⟩
    · refine ⟨.int b, rfl, .ref dl, rfl, (by show 0 ≤ sizeLine; decide), fun fl hfl => ⟨(by show 3 ≤ sizeLine; decide), fun mo hmo => ?_⟩⟩
      exact fin _ fl [] mo (But.new hfl) ((B4.new hfl).mono (by omega)) (B4.ne hfl) upd_same (List.nil_sublist _) hmo
    · refine ⟨.int wy, rfl, rfl, _, rfl, ite2 (fun c1 => ?_) (fun c1 => ?_)⟩
      · refine ⟨.int b, rfl, .ref dl, rfl, .ref pl, rfl, pl, rfl, ⟨_, SqL.of epl⟩, fun D2 hD2 => ?_⟩
        have nD2 := B4.ne hD2
        refine lc_list (K := K) (a := pl) (xs := ks.map fun p => V.ref p.1) (fun i H' => Same H4 H' ∧ ∃ kk, H' D2 = some (.lst (kk.map fun p => V.ref p.1)) ∧ kk.Sublist (ks.take i)) ⟨same_new hD2, [], upd_same, List.nil_sublist _⟩ (fun i H' _ h => SqL.of (h.1 _ _ epl)) ?_ ?_
        · rintro i x H' hx ⟨s5, kk, e5, sub⟩
          obtain ⟨p, hp, rfl⟩ := get_map hx
          have tp := s5 _ _ (ek p (List.mem_of_getElem? hp)).2
          have more := sub_more hp sub
          refine ⟨rfl, .ref p.1, rfl, p.1, _, 0, .int p.2.1, rfl, rfl, SqT.of tp, atI_nat (j := 0) rfl, rfl, _, rfl, ite2 (fun z => ?_) (fun z => ?_)⟩
          · refine ⟨.ref p.1, rfl, p.1, _, 1, .int p.2.2, rfl, rfl, SqT.of tp, atI_nat (j := 1) rfl, rfl, _, rfl, ite2 (fun z2 => ?_) (fun z2 => ?_)⟩
            · exact ⟨.ref p.1, rfl, _, e5, small sub, Same.store s5 hD2, kk ++ [p], by rw [upd_same, List.map_append]; rfl, more.1⟩
            · exact ⟨s5, kk, e5, more.2⟩
          · exact iteF ⟨s5, kk, e5, more.2⟩
        · rintro H' ⟨s5, kk, e5, sub⟩
          refine ⟨(by show 3 ≤ sizeLine; decide), fun mo hmo => fin H' D2 kk mo (But.of_same s5) ((B4.same s5).mono (by omega)) nD2 e5 (sub.trans (List.take_sublist _ _)) hmo⟩
      · refine ⟨.int wy, rfl, rfl, _, rfl, ite2 (fun c2 => ?_) (fun c2 => ?_)⟩
        · refine ⟨.int b, rfl, .ref dl, rfl, .ref pl, rfl, pl, rfl, ⟨_, SqL.of epl⟩, fun D2 hD2 => ?_⟩
          have nD2 := B4.ne hD2
          refine lc_list (K := K) (a := pl) (xs := ks.map fun p => V.ref p.1) (fun i H' => Same H4 H' ∧ ∃ kk, H' D2 = some (.lst (kk.map fun p => V.ref p.1)) ∧ kk.Sublist (ks.take i)) ⟨same_new hD2, [], upd_same, List.nil_sublist _⟩ (fun i H' _ h => SqL.of (h.1 _ _ epl)) ?_ ?_
          · rintro i x H' hx ⟨s5, kk, e5, sub⟩
            obtain ⟨p, hp, rfl⟩ := get_map hx
            have tp := s5 _ _ (ek p (List.mem_of_getElem? hp)).2
            have more := sub_more hp sub
            refine ⟨rfl, .ref p.1, rfl, p.1, _, 0, .int p.2.1, rfl, rfl, SqT.of tp, atI_nat (j := 0) rfl, .ref p.1, rfl, p.1, _, 1, .int p.2.2, rfl, rfl, SqT.of tp, atI_nat (j := 1) rfl, rfl, _, rfl, ite2 (fun z => ?_) (fun z => ?_)⟩
            · exact ⟨.ref p.1, rfl, _, e5, small sub, Same.store s5 hD2, kk ++ [p], by rw [upd_same, List.map_append]; rfl, more.1⟩
            · exact ⟨s5, kk, e5, more.2⟩
          · rintro H' ⟨s5, kk, e5, sub⟩
            refine ⟨(by show 3 ≤ sizeLine; decide), fun mo hmo => fin H' D2 kk mo (But.of_same s5) ((B4.same s5).mono (by omega)) nD2 e5 (sub.trans (List.take_sublist _ _)) hmo⟩
        · refine ⟨.int b, rfl, .ref dl, rfl, .ref pl, rfl, pl, rfl, ⟨_, SqL.of epl⟩, fun D2 hD2 => ?_⟩
          have nD2 := B4.ne hD2
          have npa : pl ≠ a := fun z => by
            obtain ⟨b0, b1, b2, hb0, _⟩ := B3
            rw [z, hb0] at npl
            cases npl
          refine lc_list (K := K) (a := pl) (xs := ks.map fun p => V.ref p.1) (fun i H' => But a H4 H' ∧ Box (n + 32 + i) H' a ∧ ∃ kk, H' D2 = some (.lst (kk.map fun p => V.ref p.1)) ∧ kk.Sublist (ks.take i)) ⟨But.new hD2, (B4.new hD2).mono (by omega), [], upd_same, List.nil_sublist _⟩ (fun i H' _ h => SqL.of (h.1 _ _ npa epl)) ?_ ?_
          · rintro i x H' hx ⟨t5, B5, kk, e5, sub⟩
            obtain ⟨p, hp, rfl⟩ := get_map hx
            have hi : i < ks.length := (List.getElem?_eq_some_iff.mp hp).1
            have more := sub_more hp sub
            refine ⟨rfl, .ref a, rfl, a, 4, n + 32 + i, rfl, B5, by omega, by decide, by decide, fun r2 H6 k0 k1 t6 B6 => ⟨rfl, _, rfl, ite2 (fun z => ?_) (fun z => ?_)⟩⟩
            · exact ⟨.ref p.1, rfl, _, t6 _ _ nD2 e5, small sub, (t5.trans t6).store hD2, (B6.upd nD2).mono (by omega), kk ++ [p], by rw [upd_same, List.map_append]; rfl, more.1⟩
            · exact ⟨t5.trans t6, B6.mono (by omega), kk, t6 _ _ nD2 e5, more.2⟩
          · rintro H' ⟨t5, B5, kk, e5, sub⟩
            rw [List.length_map] at B5
            refine ⟨(by show 3 ≤ sizeLine; decide), fun mo hmo => fin H' D2 kk mo t5 (B5.mono (by omega)) nD2 e5 (sub.trans (List.take_sublist _ _)) hmo⟩

def hasP (ps : List (Int × Int)) (x y : Int) : Bool := (ps.map pd2).any fun z => PyData.eqv z (pd2 (x, y))
theorem eqv_nilL : ∀ ds : List PyData, PyData.eqv (.list ds) (.list []) = ds.isEmpty
  | [] => by simp [PyData.eqv, PyData.eqvAll]
  | d :: ds => by simp [PyData.eqv, PyData.eqvAll]
theorem nil_shaped : SeqAt.shaped (.list []) = true := by decide +kernel
theorem ps_shaped {ks : List (Addr × (Int × Int))} {ps : List (Int × Int)} (e : ks.map (·.2) = ps) : SeqAt.shaped (.list (ps.map pd2)) = true := by
  obtain ⟨h1, h2⟩ := bars_can ks
  have e2 : (ks.map fun p => pd2 p.2) = ps.map pd2 := by rw [← e, List.map_map]; rfl
  rw [e2] at h1 h2
  refine shaped_of ?_ ?_
  · simp only [PyData.canLay0, h1]
  · simp only [PyData.depth]
    omega
theorem ps_dp {K : PySem.W.Frag} {H : Hp} {pl : Addr} {ks : List (Addr × (Int × Int))} {ps : List (Int × Int)} (e : ks.map (·.2) = ps) (hp : H pl = some (.lst (ks.map fun p => V.ref p.1))) (hk : ∀ p ∈ ks, H p.1 = some (.tup [.int p.2.1, .int p.2.2])) : Dp K H (.ref pl) (.list (ps.map pd2)) := by
  have e2 : (ks.map fun p => pd2 p.2) = ps.map pd2 := by rw [← e, List.map_map]; rfl
  rw [← e2]
  exact .lst (SqL.of hp) (bars_dp ks hk)
end
end K19
/-! len(o) of an own class with __len__; o == x, x an int or a tuple. -/
namespace OF
open PySem PySem.Spec PyProof.Rows L2
section
variable {X : Cx} {CX : CXT} {n : Nat} {f C : Addr} {fd : FuncData} {ps : List Str} {sp : Sp} {E : XK}
def rLenOwn (C : Addr) (sp : Sp) (E : XK) : List V → Hp → VK → Prop := fun xs H Q => ∃ a dx fs, xs = [.ref a] ∧ H a = some (.ins C dx fs) ∧ sp [.ref a] H (fun z H' => ∃ m : Nat, z = .int m ∧ m < 1000 ∧ Q (.int m) H') E
theorem call_lenOwn (hs : PySem.W.findIn X.K (.ref C) "__len__" = some (some (.ref f))) (hf : PySem.W.isFn X.K (.ref f) = true) (F : FnOk X.prog X.w X.K X.mg X.base CX n f fd ps sp) (hb : Binds X.K fd ps []) (hr : Room (n + 1) X.A) (hx : Passes CX X E) :
    CallR X (.builtin "len") (rLenOwn C sp E) := by
  intro pins s σ H xs us Q I r h
  obtain ⟨a, dx, fs, rfl, ha, q⟩ := h
  obtain ⟨u, rfl, ru⟩ := vals1 r
  cases ru
  obtain ⟨mA, J, _⟩ := ins_get I.hok ha
  obtain ⟨od, J, _⟩ := J.look
  obtain ⟨m, hF⟩ := I.fr
  refine PySem.W.len_K hF I.ok.mod.kin J hs hf ?_
  have bn := hb s [.ref a] I.kIn (F.len _ _ _ _ q)
  refine wpAny_call (codeAny_mono (F.run X.A.in1 X.stack s H ⟨[.ref a], []⟩ [.ref a] [.ref a] _ E hr.in1 I.env0.in1 bn (.cons rfl .nil) q) fun r s' hq => ?_)
  cases r with
  | error e => exact hx pins σ H s e s' I hq
  | ok fl =>
    cases fl with
    | ret u =>
      obtain ⟨z, H', I', rz, k, rfl, hk, q'⟩ := I.after hq
      obtain ⟨t, rfl⟩ := rz
      exact ⟨⟨by omega, by omega⟩, .int k, H', I'.tok _, ⟨_, rfl⟩, q'⟩
    | next => exact hq.elim
    | brk => exact hq.elim
    | cont => exact hq.elim
/-- o == x, x an int or a tuple -/
def rEqOther (C : Addr) (sp : Sp) (E : XK) : R2 := fun x y H Q => ∃ a dx fs, x = .ref a ∧ H a = some (.ins C dx fs) ∧ ((∃ n : Int, y = .int n) ∨ ∃ t ys, y = .ref t ∧ H t = some (.tup ys)) ∧ sp [x, y] H (fun z H' => ∃ b : Bool, z = .bl b ∧ Q z H') E
theorem op_eqOther (hs : PySem.W.findIn X.K (.ref C) "__eq__" = some (some (.ref f))) (hf : PySem.W.isFn X.K (.ref f) = true) (n1 : PySem.W.subIn X.K (.type "int") (.ref C) = some false) (n2 : PySem.W.subIn X.K (.type "tuple") (.ref C) = some false)
    (F : FnOk X.prog X.w X.K X.mg X.base CX n f fd ps sp) (hb : Binds X.K fd ps []) (hr : Room n X.A) (hx : Passes CX X E) : OpR X (compareOp .Eq) (rEqOther C sp E) := by
  intro pins s σ H x y v u Q I rx ry h
  obtain ⟨a, dx, fs, rfl, ha, hy, q⟩ := h
  cases (show v = Value.ref a from rx)
  obtain ⟨mA, J, _⟩ := ins_get I.hok ha
  obtain ⟨od, J, _⟩ := J.look
  obtain ⟨m, hF⟩ := I.fr
  have main : ∀ {tb : Value}, PySem.W.Looks (model X.prog X.w) s.heap (typeOf u) tb → PySem.W.notFirst X.K C tb = true → wpAny (model X.prog X.w) X.A (compareOp .Eq (.ref a) u) (EP X pins σ Q) X.xe s := fun {tb} lk nf => by
    refine PySem.W.cmp_K (op := .Eq) (tb := tb) hr.units0 hF I.ok.mod.kin J lk nf hs hf ?_
    refine wpAny_mono (run_fn (us := [.ref a, u]) (vs := [.ref a, y]) F hr hb .nil hx I (.cons rfl (.cons ry .nil)) q) (fun w s' z => ?_) fun _ _ e => e
    obtain ⟨z', H', I', rz, c, rfl, q'⟩ := z
    cases rz
    exact ⟨.bl c, H', I', rfl, q'⟩
  rcases hy with ⟨k, rfl⟩ | ⟨t, ys, rfl, ht⟩
  · obtain ⟨tk, rfl⟩ := ry
    exact main (tb := .type "int") (PySem.W.Looks.of_pure rfl) (by unfold PySem.W.notFirst; rw [n1]; rfl)
  · cases (show u = Value.ref t from ry)
    obtain ⟨its, _, ⟨o, ho, hc, _⟩, _⟩ := I.tuple (SqT.of ht)
    have lk : PySem.W.Looks (model X.prog X.w) s.heap (typeOf (.ref t)) (.type "tuple") := by
      rw [← hc]
      exact (PySem.W.Looks.ld ho).andThen .now
    exact main lk (by unfold PySem.W.notFirst; rw [n2]; rfl)
end
end OF
/-! -o and str(o) of an own class with __neg__, __str__. -/
namespace OF
open PySem PySem.Spec PyProof.Rows L2
section
variable {X : Cx} {CX : CXT} {n : Nat} {f C : Addr} {fd : FuncData} {ps : List Str} {sp : Sp} {E : XK}
def rNegOwn (C : Addr) (sp : Sp) (E : XK) : V → Hp → VK → Prop := fun x H Q => ∃ a dx fs, x = .ref a ∧ H a = some (.ins C dx fs) ∧ sp [.ref a] H Q E
theorem un_negOwn (hs : PySem.W.findIn X.K (.ref C) "__neg__" = some (some (.ref f))) (hf : PySem.W.isFn X.K (.ref f) = true) (F : FnOk X.prog X.w X.K X.mg X.base CX n f fd ps sp) (hb : Binds X.K fd ps []) (hr : Room n X.A) (hx : Passes CX X E) :
    UnR X (unaryOp .USub) (rNegOwn C sp E) := by
  intro pins s σ H x v Q I rx h
  obtain ⟨a, dx, fs, rfl, ha, q⟩ := h
  cases (show v = Value.ref a from rx)
  obtain ⟨mA, J, _⟩ := ins_get I.hok ha
  obtain ⟨od, J, _⟩ := J.look
  obtain ⟨m, hF⟩ := I.fr
  exact PySem.W.ksp_neg hF I.ok.mod.kin J hs hf (run_fn (us := [.ref a]) (vs := [.ref a]) F hr hb .nil hx I (.cons rfl .nil) q)
def rStrOwn (C : Addr) (sp : Sp) (E : XK) : List V → Hp → VK → Prop := fun xs H Q => ∃ a dx fs, xs = [.ref a] ∧ H a = some (.ins C dx fs) ∧ sp [.ref a] H (fun z H' => ∃ y : Str, z = .str y ∧ Q z H') E
theorem call_strOwn (hs : PySem.W.findIn X.K (.ref C) "__str__" = some (some (.ref f))) (hf : PySem.W.isFn X.K (.ref f) = true) (F : FnOk X.prog X.w X.K X.mg X.base CX n f fd ps sp) (hb : Binds X.K fd ps []) (hr : Room (n + 2) X.A) (hx : Passes CX X E) :
    CallR X (.type "str") (rStrOwn C sp E) := by
  intro pins s σ H xs us Q I r h
  obtain ⟨a, dx, fs, rfl, ha, q⟩ := h
  obtain ⟨u, rfl, ru⟩ := vals1 r
  cases ru
  obtain ⟨mA, J, _⟩ := ins_get I.hok ha
  obtain ⟨od, J, _⟩ := J.look
  obtain ⟨m, hF⟩ := I.fr
  refine PySem.W.kso_call hr.in1.in1.units0 I.kIn J hs hf ?_
  have bn := hb s [.ref a] I.kIn (F.len _ _ _ _ q)
  refine wpAny_call (codeAny_mono (F.run X.A.in1.in1 X.stack s H ⟨[.ref a], []⟩ [.ref a] [.ref a] _ E hr.in1.in1 I.env0.in1.in1 bn (.cons rfl .nil) q) fun r s' hq => ?_)
  cases r with
  | error e => exact hx pins σ H s e s' I hq
  | ok fl =>
    cases fl with
    | ret u =>
      obtain ⟨z, H', I', rz, y, rfl, q'⟩ := I.after hq
      obtain ⟨t, rfl⟩ := rz
      exact ⟨.str y, H', I', ⟨_, rfl⟩, q'⟩
    | next => exact hq.elim
    | brk => exact hq.elim
    | cont => exact hq.elim
end
end OF
namespace K19
open PySem PySem.Spec PyProof.Rows L2 OF
section
variable {P : Program} {w : World} {K : PySem.W.Frag} {mg : Str → Option Value} {base : Heap}
theorem ints_inj : ∀ {ns ms : List Int}, ns.map V.int = ms.map V.int → ns = ms
  | [], [], _ => rfl
  | [], _ :: _, e => by cases e
  | _ :: _, [], e => by cases e
  | a :: l, b :: m, e => by
    rw [List.map_cons, List.map_cons, List.cons.injEq] at e
    rw [V.int.inj e.1, ints_inj e.2]
inductive Ver
  | base (x : V)
  | dig (x : V)
  | bar (x : V)
  | made (b : Int) (ns : List Int) (ks : List (Addr × List Int))
inductive Due (K : PySem.W.Frag) (H : Hp) : V → V → V → Ver → Prop
  | base {x y z : V} (ix : ItemOk H x) (bx : baseV x = false) : Due K H x y z (.base x)
  | digN {b : Int} {y z : V} (hb : isBase b = true) (n : NoSeq H y) : Due K H (.int b) y z (.dig y)
  | digA {b : Int} {p : Addr} {xs : List V} {z : V} (hb : isBase b = true) (s : IsSeq K H p xs) (it : ∀ v ∈ xs, ItemOk H v) (l : xs.length ≤ 60) (bad : xs.all digV = false) : Due K H (.int b) (.ref p) z (.dig (.ref p))
  | digS {b : Int} {p : Addr} {ns : List Int} {z : V} (hb : isBase b = true) (s : IsSeq K H p (ns.map V.int)) (l : ns.length ≤ 60) (ok : ns.all dig = true) (six : SixOf ns false) : Due K H (.int b) (.ref p) z (.dig (.ref p))
  | barN {b : Int} {p : Addr} {ns : List Int} {z : V} (hb : isBase b = true) (s : IsSeq K H p (ns.map V.int)) (l : ns.length ≤ 60) (ok : ns.all dig = true) (six : SixOf ns true) (n : NoSeq H z) : Due K H (.int b) (.ref p) z (.bar z)
  | barB {b : Int} {p q : Addr} {ns : List Int} {ks : List (Addr × List Int)} {u : V} {more : List V} (hb : isBase b = true) (s : IsSeq K H p (ns.map V.int)) (l : ns.length ≤ 60) (ok : ns.all dig = true) (six : SixOf ns true) (t : IsSeq K H q (ks.map (fun p => V.ref p.1) ++ u :: more)) (few : ks.length < 64) (hk : ∀ p ∈ ks, BarOk H ns p) (bad : BadBar H ns u) : Due K H (.int b) (.ref p) (.ref q) (.bar u)
  | made {b : Int} {p q : Addr} {ns : List Int} {ks : List (Addr × List Int)} (hb : isBase b = true) (s : IsSeq K H p (ns.map V.int)) (l : ns.length ≤ 60) (ok : ns.all dig = true) (six : SixOf ns true) (t : IsSeq K H q (ks.map fun p => V.ref p.1)) (few : ks.length < 64) (hk : ∀ p ∈ ks, BarOk H ns p) : Due K H (.int b) (.ref p) (.ref q) (.made b ns ks)
theorem ints_item {H : Hp} (ns : List Int) : ∀ v ∈ ns.map V.int, ItemOk H v := fun v hv => by
  obtain ⟨n, _, rfl⟩ := List.mem_map.mp hv
  exact .inl ⟨n, rfl⟩
theorem ints_digV (ns : List Int) : (ns.map V.int).all digV = ns.all dig := by
  rw [List.all_map]
  rfl
/-- a new instance's heap -/
abbrev newAt (H : Hp) (C a dx : Addr) : Hp := upd (upd H dx (.own a)) a (.ins C dx [])
theorem newAt_same {H : Hp} {C a dx : Addr} (ha : H a = none) (hd : H dx = none) : Same H (newAt H C a dx) := fun c o hc => by
  show upd (upd H dx (.own a)) a (.ins C dx []) c = some o
  rw [upd_ne (ne_of_none hc ha), upd_ne (ne_of_none hc hd)]
  exact hc
theorem IsSeq.pairs {H H' : Hp} {ns : List Int} {ks : List (Addr × List Int)} (h : ∀ p ∈ ks, BarOk H ns p) (s : Same H H') : ∀ p ∈ ks, BarOk H' ns p := fun p hp => by
  obtain ⟨x, y, e, hp2, z⟩ := h p hp
  exact ⟨x, y, e, s _ _ hp2, z⟩
/-- Scheme(..) of any values, by what is due: the errors, or the parts -/
theorem new_due {C CB CD CP a dx : Addr} {H : Hp} {x y z : V} {v : Ver} {Q : VK} {E : XK} (d : Due K H x y z v) (ha : H a = none) (hd : H dx = none)
    (qe : ∀ (C' : Addr) (f : Str) (u : V), (v = .base u ∧ C' = CB ∨ v = .dig u ∧ C' = CD ∨ v = .bar u ∧ C' = CP) → ∀ (fs : List (Str × V)) (d : Addr) (H' : Hp), Same H H' → H' d = some (.xd (("value", u) :: fs)) → E (.ref C') (some d) H')
    (qm : ∀ (b : Int) (ns : List Int) (ks : List (Addr × List Int)), v = .made b ns ks → ∀ (ds : List Int) (L : List (Addr × List Int)) (t r : Addr) (H' : Hp), ds.Pairwise (· < ·) → (∀ k, k ∈ ds ↔ k ∈ ns) → (∀ p ∈ L, p ∈ ks) → (∀ p ∈ ks, p.2 ∈ L.map (·.2)) → (L.map (·.2)).Nodup → L.Pairwise (fun q r => SrtO.lexB (duo r.2) (duo q.2) = false) →
      Same H H' → H' a = some (.ins C dx [("_base", .int b), ("_digits", .ref t), ("_bars", .ref r)]) → H' t = some (.tup (ds.map V.int)) → H' r = some (.tup (L.map fun q => V.ref q.1)) → Q .non H') :
    spNew K C CB CD CP [.ref a, x, y, z] (newAt H C a dx) Q E := by
  have s0 := newAt_same (C := C) ha hd
  have ea : (newAt H C a dx) a = some (.ins C dx []) := upd_same
  have up : ∀ {H'}, But a (newAt H C a dx) H' → Same H H' := fun t c o hc => t c o (ne_of_none hc ha) (s0 c o hc)
  have er : ∀ (C' : Addr) (u : V), (v = .base u ∧ C' = CB ∨ v = .dig u ∧ C' = CD ∨ v = .bar u ∧ C' = CP) → RaisedA a C' "value" u (newAt H C a dx) E := fun C' u hv fs d H' _ t ed => qe C' "value" u hv fs d H' (up t) ed
  refine ⟨a, dx, x, y, z, rfl, ea, ?_⟩
  cases d with
  | base ix bx => exact .inl ⟨ix.same s0, bx, er CB x (.inl ⟨rfl, rfl⟩)⟩
  | digN hb n => exact .inr ⟨_, rfl, hb, .inl ⟨n.same s0, er CD y (.inr (.inl ⟨rfl, rfl⟩))⟩⟩
  | digA hb s it l bad =>
    refine .inr ⟨_, rfl, hb, .inr ⟨_, _, rfl, s.same s0, fun v hv => (it v hv).same s0, l, fun _ => er CD _ (.inr (.inl ⟨rfl, rfl⟩)), fun ns e ok => ?_⟩⟩
    rw [e, ints_digV, ok] at bad
    cases bad
  | @digS b p ns _ hb s l ok six =>
    refine .inr ⟨_, rfl, hb, .inr ⟨_, _, rfl, s.same s0, ints_item ns, (by rw [List.length_map]; exact l), fun _ => er CD _ (.inr (.inl ⟨rfl, rfl⟩)), fun ns2 e _ => ⟨false, ?_, fun _ => er CD _ (.inr (.inl ⟨rfl, rfl⟩)), fun z => nomatch z⟩⟩⟩
    cases ints_inj e
    exact six
  | @barN b p ns _ hb s l ok six n =>
    refine .inr ⟨_, rfl, hb, .inr ⟨_, _, rfl, s.same s0, ints_item ns, (by rw [List.length_map]; exact l), (fun h => by rw [ints_digV, ok] at h; cases h), fun ns2 e _ => ⟨true, ?_, (fun z => nomatch z), fun _ => .inl ⟨n.same s0, er CP _ (.inr (.inr ⟨rfl, rfl⟩))⟩⟩⟩⟩
    cases ints_inj e
    exact six
  | @barB b p q ns ks u more hb s l ok six t few hk bad =>
    refine .inr ⟨_, rfl, hb, .inr ⟨_, _, rfl, s.same s0, ints_item ns, (by rw [List.length_map]; exact l), (fun h => by rw [ints_digV, ok] at h; cases h), fun ns2 e _ => ?_⟩⟩
    cases ints_inj e
    exact ⟨true, six, (fun z => nomatch z), fun _ => .inr ⟨_, ks, u :: more, rfl, t.same s0, few, IsSeq.pairs hk s0, .inl ⟨u, more, rfl, bad.same s0, er CP _ (.inr (.inr ⟨rfl, rfl⟩))⟩⟩⟩
  | @made b p q ns ks hb s l ok six t few hk =>
    refine .inr ⟨_, rfl, hb, .inr ⟨_, _, rfl, s.same s0, ints_item ns, (by rw [List.length_map]; exact l), (fun h => by rw [ints_digV, ok] at h; cases h), fun ns2 e _ => ?_⟩⟩
    cases ints_inj e
    refine ⟨true, six, (fun z => nomatch z), fun _ => .inr ⟨_, ks, [], rfl, by rw [List.append_nil]; exact t.same s0, few, IsSeq.pairs hk s0, .inr ⟨rfl, fun ds L t r H' asc m sub all nd pw tb e1 e2 e3 => ?_⟩⟩⟩
    exact qm _ _ _ rfl ds L t r H' asc m sub all nd pw (up tb) e1 e2 e3


/-! ### a scheme, whole -/
def IsS (C : Addr) (H : Hp) (a : Addr) (b : Int) (ds : List Int) (ps : List (Int × Int)) : Prop := Good b ds ps ∧ ∃ (t r : Addr) (ks : List (Addr × (Int × Int))), ks.map (·.2) = ps ∧ SchemeAt C H a t r b ds ks
theorem IsS.same {C a : Addr} {H H' : Hp} {b : Int} {ds : List Int} {ps : List (Int × Int)} (h : IsS C H a b ds ps) (s : Same H H') : IsS C H' a b ds ps := by
  obtain ⟨G, t, r, ks, e, S⟩ := h
  exact ⟨G, t, r, ks, e, S.same s⟩
theorem lexP_tot {p q : Int × Int} (h : SrtO.lexB q p = false) (n : p ≠ q) : lexP p q := by
  have h2 : ¬ (q.1 < p.1 ∨ (q.1 = p.1 ∧ q.2 < p.2)) := fun z => by
    rw [SrtO.lexB_iff.mpr z] at h
    cases h
  unfold lexP
  rcases p with ⟨p1, p2⟩
  rcases q with ⟨q1, q2⟩
  have h3 : ¬ (p1 = q1 ∧ p2 = q2) := fun z => n (by rw [z.1, z.2])
  simp only at h2 ⊢
  omega
/-- the pairs of a list, as the program holds them -/
def asL (p : Addr × (Int × Int)) : Addr × List Int := (p.1, [p.2.1, p.2.2])
/-- Scheme(..) of good parts in any order, twice told or not -/
theorem new_made {C CB CD CP a dx p q : Addr} {H : Hp} {b : Int} {ns ds : List Int} {ks : List (Addr × (Int × Int))} {ps : List (Int × Int)} {Q : VK} {E : XK} (hb : isBase b = true) (s : IsSeq K H p (ns.map V.int)) (l : ns.length ≤ 60) (ok : ns.all dig = true)
    (t : IsSeq K H q (ks.map fun p => V.ref p.1)) (few : ks.length < 64) (hk : ∀ p ∈ ks, H p.1 = some (.tup [.int p.2.1, .int p.2.2])) (G : Good b ds ps) (md : ∀ k, k ∈ ds ↔ k ∈ ns) (mp : ∀ z, z ∈ ps ↔ z ∈ ks.map (·.2))
    (ha : H a = none) (hd : H dx = none) (qm : ∀ H', Same H H' → IsS C H' a b ds ps → Q .non H') : spNew K C CB CD CP [.ref a, .int b, .ref p, .ref q] (newAt H C a dx) Q E := by
  have six : SixOf ns true := fun k nd mem => by
    have pm : k.Perm ds := (List.perm_ext_iff_of_nodup nd (by rw [List.nodup_iff_pairwise_ne]; exact G.asc.imp fun h => by omega)).mpr fun z => (mem z).trans (md z).symm
    rw [pm.length_eq, decide_eq_true G.one, decide_eq_true G.six]
    rfl
  have one : ∀ n ∈ ds, isOne ns n = true := fun n hn => by
    unfold isOne
    rw [G.dg n hn, decide_eq_true ((md n).mp hn)]
    rfl
  have hk2 : ∀ z ∈ ks.map asL, BarOk H ns z := fun z hz => by
    obtain ⟨y, hy, rfl⟩ := List.mem_map.mp hz
    obtain ⟨m1, m2⟩ := G.mem y.2 ((mp _).mpr (List.mem_map.mpr ⟨y, hy, rfl⟩))
    exact ⟨_, _, rfl, hk y hy, one _ m1, one _ m2⟩
  have t2 : IsSeq K H q ((ks.map asL).map fun p => V.ref p.1) := by
    rw [List.map_map]
    exact t
  refine new_due (.made hb s l ok six t2 (by rw [List.length_map]; exact few) hk2) ha hd (fun C' f u z => ?_) fun b2 ns2 ks2 e => ?_
  · rcases z with ⟨z, _⟩ | ⟨z, _⟩ | ⟨z, _⟩ <;> cases z
  cases e
  intro ds2 L t3 r3 H' asc mds sub all nd pw s2 e1 e2 e3
  have eds : ds2 = ds := sorted_ext (r := (· < ·)) (fun a b h => by omega) asc G.asc fun x => (mds x).trans (md x).symm
  subst eds
  have two : ∀ p ∈ L, p.2 = [(duo p.2).1, (duo p.2).2] := fun p hp => by
    obtain ⟨z, _, rfl⟩ := List.mem_map.mp (sub p hp)
    rfl
  have eL : (L.map fun p => (p.1, duo p.2)).map (·.2) = ps := by
    refine sorted_ext lexP_as ?_ G.lex fun z => ?_
    · rw [List.map_map, List.pairwise_map]
      rw [List.nodup_iff_pairwise_ne, List.pairwise_map] at nd
      refine List.Pairwise.imp_of_mem (fun {q1 q2} h1 h2 ⟨z1, z2⟩ => ?_) (pw.and nd)
      refine lexP_tot z1 fun e => z2 ?_
      have e2 : duo q1.2 = duo q2.2 := e
      rw [two q1 h1, two q2 h2, e2]
    · rw [mp]
      constructor
      · intro hz
        rw [List.map_map] at hz
        obtain ⟨y, hy, rfl⟩ := List.mem_map.mp hz
        obtain ⟨x, hx, rfl⟩ := List.mem_map.mp (sub y hy)
        exact List.mem_map.mpr ⟨x, hx, rfl⟩
      · intro hz
        obtain ⟨x, hx, rfl⟩ := List.mem_map.mp hz
        obtain ⟨y, hy, e⟩ := List.mem_map.mp (all (asL x) (List.mem_map.mpr ⟨x, hx, rfl⟩))
        rw [List.map_map]
        refine List.mem_map.mpr ⟨y, hy, ?_⟩
        show duo y.2 = x.2
        rw [e]
        rfl
  refine qm H' s2 ⟨G, t3, r3, L.map fun p => (p.1, duo p.2), eL, ⟨⟨dx, e1⟩, e2, ?_, fun z hz => ?_⟩⟩
  · rw [e3, List.map_map]
    rfl
  · obtain ⟨y, hy, rfl⟩ := List.mem_map.mp hz
    obtain ⟨x, hx, rfl⟩ := List.mem_map.mp (sub y hy)
    exact s2 _ _ (hk x hx)

/-! ### the text of a row of digits -/
def gApp {α : Type} (us ws : List α) : List α := us ++ ws
theorem kbNew {f : Addr} {fd : FuncData} (G : ∃ kws, FunD K "__init__" "Scheme.__init__" (defArgs sInit) (defBody sInit) (defScope sInit) [] kws f fd) : KBn K fd ["self", "base", "digits", "bars"] 3 ["bars"] gApp gApp := by
  obtain ⟨kws, F⟩ := G
  obtain ⟨oc, od, dV, kV, doc, pm, an, cdv, ct, osl, rfl, lk, hcd, hD, _⟩ := F.ex
  rcases hD with ⟨_, rfl⟩ | ⟨e, _⟩
  · refine ⟨fun s us ws X l1 l2 => ?_, fun {vs us zs ws} r1 r2 => r1.append r2⟩
    match us, ws, l1, l2 with
    | [x, y, z], [v], _, _ => exact .of_eq rfl
  · exact absurd rfl e

/-! ### schemes that come of others -/
theorem made_ok {C CB CD CP p q : Addr} {H : Hp} {b : Int} {ns ds : List Int} {ks : List (Addr × (Int × Int))} {ps : List (Int × Int)} {Q : VK} {E : XK} (hb : isBase b = true) (s : IsSeq K H p (ns.map V.int)) (l : ns.length ≤ 60) (ok : ns.all dig = true)
    (t : IsSeq K H q (ks.map fun p => V.ref p.1)) (few : ks.length < 64) (hk : ∀ p ∈ ks, H p.1 = some (.tup [.int p.2.1, .int p.2.2])) (G : Good b ds ps) (md : ∀ k, k ∈ ds ↔ k ∈ ns) (mp : ∀ z, z ∈ ps ↔ z ∈ ks.map (·.2))
    (qm : ∀ o H', Same H H' → IsS C H' o b ds ps → Q (.ref o) H') : ∀ o d, H o = none → H d = none → d ≠ o → spNew K C CB CD CP [.ref o, .int b, .ref p, .ref q] (upd (upd H d (.own o)) o (.ins C d [])) (fun v H3 => v = .non ∧ Q (.ref o) H3) E :=
  fun o d ho hd _ => new_made hb s l ok t few hk G md mp ho hd fun H' s' S => ⟨rfl, qm o H' s' S⟩
theorem Good.all {b : Int} {ds : List Int} {ps : List (Int × Int)} (G : Good b ds ps) : ds.all dig = true := List.all_eq_true.mpr G.dg
/-! ### a scheme made of the law's parts -/
def spMadeL (C : Addr) : Sp := fun vs H Q _ => ∃ (m dl pl : Addr) (b : Int) (ds : List Int) (ks : List (Addr × (Int × Int))), vs = [.ref m] ∧ ModAt H m dl pl b ds ks ∧ Good b ds (ks.map (·.2)) ∧ ∀ o H', Same H H' → IsS C H' o b ds (ks.map (·.2)) → Q (.ref o) H'
theorem scMd : FnScope ["_law_model"] ["_law_model"] (defScope sMade) := ⟨rfl, rfl, rfl, by decide +kernel, rfl, by decide +kernel, by decide +kernel⟩
theorem ok_made {f fN C CB CD CP T : Addr} {fd fdN : FuncData} (F : Fun K "_law_made" "_law_made" sMade f fd) 
    (FN : FunD K "__init__" "Scheme.__init__" (defArgs sInit) (defBody sInit) (defScope sInit) [] [("bars", .ref T)] fN fdN) (M : Mk K C fN) (gC : mg "Scheme" = some (.ref C)) (GN : FnOk P w K mg base (L2.CX P w) 7 fN fdN ["self", "base", "digits", "bars"] (spNew K C CB CD CP)) :
    FnOk P w K mg base CX0 9 f fd ["_law_model"] (spMadeL C) := by
  have kbN := kbNew ⟨_, FN⟩
  refine F.ok scMd (fun vs H Q E h => ?_) (fun cdv A outer s H vs Q E hr h => ?_)
  · obtain ⟨m, dl, pl, b, ns, ks, rfl, _⟩ := h
    rfl
  · obtain ⟨m, dl, pl, b, ns, ks, rfl, ⟨hm, hd, hp, hk⟩, G, q⟩ := h
    apply Exists.intro
    apply And.intro
    · apply pss_one
      · exact ps_ret (pe_makeK M GN hr (by rfl) gC kbN passNo (pa_cons (pe_ix ix_list (pv 0) pe_int (fun _ _ => rfl)) (pa_cons (pe_ix ix_list (pv 0) pe_int (fun _ _ => rfl)) pa_nil)) (pk_cons (pe_ix ix_list (pv 0) pe_int (fun _ _ => rfl)) pk_nil))
    refine ⟨.ref m, rfl, m, _, 0, .int b, rfl, rfl, SqL.of hm, atI_nat (j := 0) rfl, .ref m, rfl, m, _, 1, .ref dl, rfl, rfl, SqL.of hm, atI_nat (j := 1) rfl, .ref m, rfl, m, _, 2, .ref pl, rfl, rfl, SqL.of hm, atI_nat (j := 2) rfl, rfl, rfl, ?_⟩
    have h6 := G.six
    have h36 := G.few
    rw [List.length_map] at h36
    exact made_ok G.b (.lst hd) (by omega) G.all (.lst hp) (by omega) hk G (fun _ => .rfl) (fun _ => .rfl) q
end
end K19
/-! for and comprehensions over what may be a list or a tuple. -/
namespace OF
open PySem PySem.Spec PyProof.Rows L2
def iSq (K : PySem.W.Frag) (tl : TE) : TI := fun σ H R => tl σ H fun x H1 => ∃ a, x = .ref a ∧ (((∃ xs, SqL K H1 a xs) ∧ R (Itl K a) H1) ∨ ((∃ xs, SqT K H1 a xs) ∧ R (Itt K a) H1))
theorem pi_sq {X : Cx} {tg l : Expr} {tl : TE} (hl : PE X l tl) : PI X tg l (iSq X.K tl) := by
  refine ⟨fun pins s σ H R I h => ?_⟩
  refine thn (hl.run pins s σ H _ I h) fun v s1 ⟨x, H1, I1, r1, q1⟩ => ?_
  obtain ⟨a, rfl, q1⟩ := q1
  cases r1
  have free : ∀ b, b ∈ [s1.heap.objs.size] → FpOk X pins H1 b := fun b hb => by
    cases List.mem_singleton.mp hb
    exact I1.fpOk (Nat.le_refl _) (I1.hok.fresh (Nat.le_refl _))
  rcases q1 with ⟨⟨xs, hq⟩, q⟩ | ⟨⟨xs, hq⟩, q⟩
  · obtain ⟨its, rv, p, hz⟩ := I1.list hq
    exact wpAny_pyIter_list p.isList ⟨_, _, _, _, H1, rfl, I1.kept (t' := s1.toks) fun b o e => Heap.get?_push_of_some _ e, turn_list a _, ⟨_, Heap.get?_push_size _ rfl, rfl, rfl⟩, free, q⟩
  · obtain ⟨its, rv, p, hz⟩ := I1.tuple hq
    exact wpAny_pyIter_tuple (show s1.heap.IsTuple a its.toArray from p) ⟨_, _, _, _, H1, rfl, I1.kept (t' := s1.toks) fun b o e => Heap.get?_push_of_some _ e, turn_tuple a _, ⟨_, Heap.get?_push_size _ rfl, rfl, rfl⟩, free, q⟩
/-- list or tuple -/
def Sq (K : PySem.W.Frag) (k : Bool) (H : Hp) (a : Addr) (xs : List V) : Prop := if k then SqL K H a xs else SqT K H a xs
section
variable {K : PySem.W.Frag} {k : Bool} {a : Addr} {xs : List V}
abbrev ForW (J : It) (g : TG) (tb : TS) (D : Ends) (σ : L2.St) (H : Hp) : Prop := ∃ W : Nat → Nat → L2.St → Hp → Prop, (∃ m, W 0 m σ H) ∧ ∀ i m σ H, W i m σ H →
      (J.stop i H ∧ D.nx σ H) ∨ (J.go i H ∧ ∃ N : L2.St → Hp → Prop, (∀ σ' H', N σ' H' → ∃ m', m' < m ∧ W (i + 1) m' σ' H') ∧ ∀ x H', J.yld i H x H' → g x σ H' fun σ2 H2 => tb { D with nx := N, ct := N, bk := D.nx } σ2 H2)
theorem for_sq {g : TG} {tb : TS} {D : Ends} {σ : L2.St} {H : Hp} (Pv : Nat → L2.St → Hp → Prop) (h0 : Pv 0 σ H) (hl : ∀ i σ H, i ≤ xs.length → Pv i σ H → Sq K k H a xs)
    (hs : ∀ i x σ H, xs[i]? = some x → Pv i σ H → g x σ H fun σ2 H2 => tb { D with nx := Pv (i + 1), ct := Pv (i + 1), bk := D.nx } σ2 H2) (hd : ∀ σ H, Pv xs.length σ H → D.nx σ H) :
    ((∃ ys, SqL K H a ys) ∧ ForW (Itl K a) g tb D σ H) ∨ ((∃ ys, SqT K H a ys) ∧ ForW (Itt K a) g tb D σ H) := by
  have h1 := hl 0 σ H (Nat.zero_le _) h0
  cases k with
  | true => exact .inl ⟨⟨xs, h1⟩, for_list (K := K) (a := a) (xs := xs) Pv h0 hl hs hd⟩
  | false => exact .inr ⟨⟨xs, h1⟩, for_tup (K := K) (a := a) (xs := xs) Pv h0 hl hs hd⟩
end
end OF
/-! Comprehensions over what may be a list or a dict whose keys are tuples, locked; what a lock leaves. -/
namespace OF
open PySem PySem.Spec PyProof.Rows L2
def iLk (P : Program) (w : World) (K : PySem.W.Frag) (tl : TE) : TI := fun σ H R => tl σ H fun x H1 => ∃ a, x = .ref a ∧ (((∃ xs, SqL K H1 a xs) ∧ R (Itl K a) H1) ∨ ∃ (o : Obj) (kvs : List KeyT), H1 a = some (.frz o (dNT P w a kvs)) ∧ R (ItN P w a o kvs) H1)
theorem pi_lk {X : Cx} {tg l : Expr} {tl : TE} (hl : PE X l tl) : PI X tg l (iLk X.prog X.w X.K tl) := by
  refine ⟨fun pins s σ H R I h => ?_⟩
  refine thn (hl.run pins s σ H _ I h) fun v s1 ⟨x, H1, I1, r1, q1⟩ => ?_
  obtain ⟨a, rfl, q1⟩ := q1
  cases (show v = Value.ref a from r1)
  have free : ∀ b, b ∈ [s1.heap.objs.size] → FpOk X pins H1 b := fun b hb => by
    cases List.mem_singleton.mp hb
    exact I1.fpOk (Nat.le_refl _) (I1.hok.fresh (Nat.le_refl _))
  rcases q1 with ⟨⟨xs, hq⟩, q⟩ | ⟨o, kvs, hd, q⟩
  · obtain ⟨its, rv, p, hz⟩ := I1.list hq
    exact wpAny_pyIter_list p.isList ⟨_, _, _, _, H1, rfl, I1.kept (t' := s1.toks) fun b o e => Heap.get?_push_of_some _ e, turn_list a _, ⟨_, Heap.get?_push_size _ rfl, rfl, rfl⟩, free, q⟩
  · obtain ⟨apart, there, exact_, es, ep, hdt, sz, _⟩ := frzN I1 hd
    refine iter_keys apart there exact_ hdt (pi_one (tk := s1.toks) I1 _ (turnN _ hdt) ⟨_, Heap.get?_push_size _ rfl, rfl, ?_⟩ q)
    rw [sz] <;> rfl
/-- these addresses in a list, or as a locked dict's keys -/
def LkAt (P : Program) (w : World) (K : PySem.W.Frag) (k : Bool) (o : Obj) (kvs : List KeyT) (H : Hp) (a : Addr) (rs : List Addr) : Prop := if k then SqL K H a (rs.map V.ref) else H a = some (.frz o (dNT P w a kvs)) ∧ kvs.map (·.2.1) = rs
theorem lc_lk {P : Program} {w : World} {K : PySem.W.Frag} {k : Bool} {o : Obj} {kvs : List KeyT} {a : Addr} {rs : List Addr} {g : TG} {tt : TT} {te : TE} {vs : List Nat} {σ : L2.St} {H1 : Hp} {Q : Addr → Hp → Prop} (hp : LkAt P w K k o kvs H1 a rs)
    (h : ∀ D, H1 D = none → ∃ Pv : Nat → Hp → Prop, Pv 0 (upd H1 D (.lst [])) ∧ (∀ i H, i ≤ rs.length → Pv i H → LkAt P w K k o kvs H a rs) ∧
      (∀ i r H, rs[i]? = some r → Pv i H → g (.ref r) (wipe σ vs) H fun σ2 H2 => wipe σ2 vs = wipe σ vs ∧ tt σ2 H2 fun b H3 =>
        if b = true then te σ2 H3 fun y H4 => ∃ acc, H4 D = some (.lst acc) ∧ acc.length < sizeLine ∧ Pv (i + 1) (upd H4 D (.lst (acc ++ [y]))) else Pv (i + 1) H3) ∧ ∀ H, Pv rs.length H → Q D H) :
    let R : It → Hp → Prop := fun J H1 => ∀ D, H1 D = none → ∃ W : Nat → Nat → Hp → Prop, (∃ m, W 0 m (upd H1 D (.lst []))) ∧ ∀ i m H, W i m H →
      (J.stop i H ∧ Q D H) ∨ (J.go i H ∧ ∃ Nx : Hp → Prop, (∀ H', Nx H' → ∃ m', m' < m ∧ W (i + 1) m' H') ∧ ∀ x H', J.yld i H x H' → g x (wipe σ vs) H' fun σ2 H2 => wipe σ2 vs = wipe σ vs ∧ tt σ2 H2 fun b H3 =>
        if b = true then te σ2 H3 fun y H4 => ∃ acc, H4 D = some (.lst acc) ∧ acc.length < sizeLine ∧ Nx (upd H4 D (.lst (acc ++ [y]))) else Nx H3)
    ((∃ xs, SqL K H1 a xs) ∧ R (Itl K a) H1) ∨ ∃ (o : Obj) (kvs : List KeyT), H1 a = some (.frz o (dNT P w a kvs)) ∧ R (ItN P w a o kvs) H1 := by
  intro R
  cases k with
  | true =>
    refine .inl ⟨⟨_, hp⟩, fun D hD => ?_⟩
    obtain ⟨Pv, h0, hl, hs, hd⟩ := h D hD
    refine lc_list (K := K) (a := a) (xs := rs.map V.ref) Pv h0 (fun i H hi p => ?_) (fun i x H hx p => ?_) fun H p => ?_
    · rw [List.length_map] at hi
      exact hl i H hi p
    · rw [List.getElem?_map, Option.map_eq_some_iff] at hx
      obtain ⟨r, hr, rfl⟩ := hx
      exact hs i r H hr p
    · rw [List.length_map] at p
      exact hd H p
  | false =>
    obtain ⟨h1, e⟩ := hp
    refine .inr ⟨o, kvs, h1, fun D hD => ?_⟩
    obtain ⟨Pv, h0, hl, hs, hd⟩ := h D hD
    have el : rs.length = kvs.length := by rw [← e, List.length_map]
    refine lc_it walkN Pv h0 (fun i H hi p => (hl i H (by omega) p).1) (fun i x H H' hi p y => ?_) fun H p => ?_
    · obtain ⟨rfl, z, hz, rfl⟩ := y
      exact hs i _ H' (by rw [← e, List.getElem?_map, hz]; rfl) p
    · rw [← el] at p
      exact hd H p
theorem lc_sq {K : PySem.W.Frag} {k : Bool} {a : Addr} {xs : List V} {g : TG} {tt : TT} {te : TE} {vs : List Nat} {σ : L2.St} {H1 : Hp} {Q : Addr → Hp → Prop} (hp : Sq K k H1 a xs)
    (h : ∀ D, H1 D = none → ∃ Pv : Nat → Hp → Prop, Pv 0 (upd H1 D (.lst [])) ∧ (∀ i H, i ≤ xs.length → Pv i H → Sq K k H a xs) ∧
      (∀ i r H, xs[i]? = some r → Pv i H → g r (wipe σ vs) H fun σ2 H2 => wipe σ2 vs = wipe σ vs ∧ tt σ2 H2 fun b H3 =>
        if b = true then te σ2 H3 fun y H4 => ∃ acc, H4 D = some (.lst acc) ∧ acc.length < sizeLine ∧ Pv (i + 1) (upd H4 D (.lst (acc ++ [y]))) else Pv (i + 1) H3) ∧ ∀ H, Pv xs.length H → Q D H) :
    let R : It → Hp → Prop := fun J H1 => ∀ D, H1 D = none → ∃ W : Nat → Nat → Hp → Prop, (∃ m, W 0 m (upd H1 D (.lst []))) ∧ ∀ i m H, W i m H →
      (J.stop i H ∧ Q D H) ∨ (J.go i H ∧ ∃ Nx : Hp → Prop, (∀ H', Nx H' → ∃ m', m' < m ∧ W (i + 1) m' H') ∧ ∀ x H', J.yld i H x H' → g x (wipe σ vs) H' fun σ2 H2 => wipe σ2 vs = wipe σ vs ∧ tt σ2 H2 fun b H3 =>
        if b = true then te σ2 H3 fun y H4 => ∃ acc, H4 D = some (.lst acc) ∧ acc.length < sizeLine ∧ Nx (upd H4 D (.lst (acc ++ [y]))) else Nx H3)
    ((∃ ys, SqL K H1 a ys) ∧ R (Itl K a) H1) ∨ ((∃ ys, SqT K H1 a ys) ∧ R (Itt K a) H1) := by
  intro R
  cases k with
  | true =>
    refine .inl ⟨⟨_, hp⟩, fun D hD => ?_⟩
    obtain ⟨Pv, h0, hl, hs, hd⟩ := h D hD
    exact lc_list (K := K) (a := a) (xs := xs) Pv h0 hl hs hd
  | false =>
    refine .inr ⟨⟨_, hp⟩, fun D hD => ?_⟩
    obtain ⟨Pv, h0, hl, hs, hd⟩ := h D hD
    exact lc_tup (K := K) (a := a) (xs := xs) Pv h0 hl hs hd
theorem dc_sq {P : Program} {w : World} {κ : DKind P w} {K : PySem.W.Frag} {k : Bool} {a : Addr} {xs : List V} {g : TG} {tt : TT} {tk tv : TE} {vs : List Nat} {σ : L2.St} {H1 : Hp} {Q : Addr → Hp → Prop} (hp : Sq K k H1 a xs)
    (h : ∀ D, H1 D = none → ∃ Pv : Nat → Hp → Prop, Pv 0 (upd H1 D (κ.emp D)) ∧ (∀ i H, i ≤ xs.length → Pv i H → Sq K k H a xs) ∧
      (∀ i r H, xs[i]? = some r → Pv i H → g r (wipe σ vs) H fun σd Hd => wipe σd vs = wipe σ vs ∧ tt σd Hd fun b He =>
        if b = true then tk σd He fun y Hf => tv σd Hf fun z Hg => κ.put D y z Hg (Pv (i + 1)) else Pv (i + 1) He) ∧ ∀ H, Pv xs.length H → Q D H) :
    let R : It → Hp → Prop := fun J Ha => ∀ D, Ha D = none → ∃ V0 : Nat → Nat → Hp → Prop, (∃ m, V0 0 m (upd Ha D (κ.emp D))) ∧ ∀ i m Hb, V0 i m Hb →
      (J.stop i Hb ∧ Q D Hb) ∨ (J.go i Hb ∧ ∃ N : Hp → Prop, (∀ Hc, N Hc → ∃ m', m' < m ∧ V0 (i + 1) m' Hc) ∧ ∀ x Hc, J.yld i Hb x Hc → g x (wipe σ vs) Hc fun σd Hd => wipe σd vs = wipe σ vs ∧ tt σd Hd fun b He =>
        if b = true then tk σd He fun y Hf => tv σd Hf fun z Hg => κ.put D y z Hg N else N He)
    ((∃ ys, SqL K H1 a ys) ∧ R (Itl K a) H1) ∨ ((∃ ys, SqT K H1 a ys) ∧ R (Itt K a) H1) := by
  intro R
  cases k with
  | true =>
    refine .inl ⟨⟨_, hp⟩, fun D hD => ?_⟩
    obtain ⟨Pv, h0, hl, hs, hd⟩ := h D hD
    refine dcK_it walk_list Pv h0 hl (fun i x H Hc hi p y => ?_) hd
    obtain ⟨rfl, hx⟩ := y
    exact hs i x Hc hx p
  | false =>
    refine .inr ⟨⟨_, hp⟩, fun D hD => ?_⟩
    obtain ⟨Pv, h0, hl, hs, hd⟩ := h D hD
    refine dcK_it walk_tup Pv h0 hl (fun i x H Hc hi p y => ?_) hd
    obtain ⟨rfl, hx⟩ := y
    exact hs i x Hc hx p
theorem Sq.same {K : PySem.W.Frag} {k : Bool} {H H' : Hp} {a : Addr} {xs : List V} (h : Sq K k H a xs) (s : Same H H') : Sq K k H' a xs := by
  cases k with
  | true =>
    rcases h with (h | ⟨o, h⟩) | h
    · exact .inl (.inl (s _ _ h))
    · exact .inl (.inr ⟨o, s _ _ h⟩)
    · exact .inr h
  | false =>
    rcases h with (h | ⟨o, h⟩) | h
    · exact .inl (.inl (s _ _ h))
    · exact .inl (.inr ⟨o, s _ _ h⟩)
    · exact .inr h
theorem same_unlock {H H' : Hp} {a : Addr} {o : Obj} {u : HO} (e : H a = some u) (s : Same (upd H a (.frz o u)) H') : Same H (upd H' a u) := fun c x h => by
  by_cases z : c = a
  · subst z
    rw [upd_same]
    rw [e] at h
    exact h
  · rw [upd_ne z]
    exact s _ _ ((upd_ne z).trans h)
theorem lock_tup {H : Hp} {a c : Addr} {u o : HO} {xs : List V} (e : H a = some u) (n : ∀ ys, u ≠ .tup ys) (h : H c = some (.tup xs)) : upd H a o c = some (.tup xs) := by
  rw [upd_ne]
  · exact h
  · rintro rfl
    rw [e] at h
    exact n _ (Option.some.inj h)
end OF
namespace K19
open PySem PySem.Spec PyProof.Rows L2 OF LamX NdefX
abbrev sPGraph : Stmt := topS 30
section
variable {P : Program} {w : World} {K : PySem.W.Frag} {mg : Str → Option Value} {base : Heap}
/-! ### place_graph -/
/-- a finite set of places, closed under steps -/
structure Bound (b : Int) (ds : List Int) (ks : List (Addr × (Int × Int))) (U : List Plc) : Prop where
  cl : ∀ p ∈ U, ∀ q ∈ sucP b ds ks p, q ∈ U
  key : ∀ p ∈ U, p.2 ∈ none :: ds.map some
  len : U.length ≤ 100000
def spPGraph (P : Program) (w : World) (C : Addr) (T : List (Addr × Str)) : Sp := fun vs H Q _ => ∃ (S a t r : Addr) (b : Int) (ds : List Int) (ks : List (Addr × (Int × Int))) (as : List (Addr × Plc)) (U : List Plc), vs = [.ref a, .ref S] ∧ SchemeAt C H a t r b ds ks ∧ Tabs T H ∧ H S = some (.lst (as.map fun p => V.ref p.1)) ∧
  (∀ p ∈ as, H p.1 = some (vP p.2)) ∧ as.length ≤ 1000 ∧ ds.length ≤ 60 ∧ b ≠ 0 ∧ b.natAbs ≤ 6 ∧ (∀ p ∈ as, p.2 ∈ U) ∧ Bound b ds ks U ∧
  ∀ (G : Addr) (H' : Hp) (es : List GRow), ExtN H H' → Tabs T H' → GraphAt P w H' G b ds ks es → (keysG es).Nodup → (∀ x, x ∈ keysG es ↔ Reach (sucP b ds ks) (as.map (·.2)) x) → es.length ≤ U.length → Dfs (sucP b ds ks) [] (as.map (·.2)) (keysG es) → Q (.ref G) H'
abbrev nPg : List Str := ["scheme", "starts"]
theorem scPg : FnScope nPg ["scheme", "starts"] (defScope sPGraph) := ⟨rfl, rfl, rfl, by decide +kernel, rfl, by decide +kernel, by decide +kernel⟩
theorem ok_pgraph {f fG fF C : Addr} {fd fdG fdF : FuncData} {T : List (Addr × Str)} (F : Fun K "place_graph" "place_graph" sPGraph f fd)
    (GG : FnOk P w K mg base CX0 3 fG fdG ["starts", "follow"] (spGraph P w)) (gG : mg "graph_from" = some (.ref fG)) (kG : PySem.W.keepIn K (.ref fG) = true) (bG : Binds K fdG ["starts", "follow"] [])
    (GF : FnOk P w K mg base CX0 8 fF fdF ["scheme"] (spFollow P w C T)) (gF : mg "follower" = some (.ref fF)) (kF : PySem.W.keepIn K (.ref fF) = true) (bF : Binds K fdF ["scheme"] []) :
    FnOk P w K mg base CX0 9 f fd ["scheme", "starts"] (spPGraph P w C T) := by
  refine F.ok scPg (fun vs H Q E h => ?_) (fun cdv A outer s H vs Q E hr h => ?_)
  · obtain ⟨S, a, t, r, b, ds, ks, as, U, rfl, _⟩ := h
    rfl
  · obtain ⟨S, a, t, r, b, ds, ks, as, U, rfl, Sc, hT, hS, hA, lA, few, b0, b6, sU, BU, q⟩ := h
    have hr3 : Room 3 _ := hr.mono (by decide)
    refine ⟨_, pss_one (ps_ret (pe_call GG hr3 (by rfl) gG kG bG .nil pass0 (pa_cons (pv 1) (pa_cons (pe_call GF hr (by rfl) gF kF bF .nil pass0 (pa_cons (pv 0) pa_nil)) pa_nil)))), ?_⟩
    refine ⟨.ref S, rfl, .ref a, rfl, a, t, r, b, ds, ks, rfl, Sc, few, hT, fun g D H1 e1 T1 FA => ?_⟩
    refine ⟨S, g, D, b, ds, ks, as, U, rfl, FA, e1 _ _ hS (fun ps z => by cases z), fun p hp => e1 _ _ (hA p hp) (fun ps z => by cases z), lA, few, b0, b6, sU, BU.cl, BU.key, BU.len, fun G H2 es s2 hG gA nd re le df => ?_⟩
    exact q G H2 es (e1.trans (ExtN.of s2)) (T1.ext s2) gA nd re le df
theorem big18 {n : Nat} (h : n ≤ 100000) : n < sizeLine := by unfold sizeLine; omega
end
end K19
/-! name = {k: v for ..}: a dict comprehension whose value is stored while its block still stands. -/
namespace OF
open PySem PySem.Spec PyProof.Rows L2
section
variable {X : Cx}
theorem dcK_core {κ : DKind X.prog X.w} {kx vx tg iter : Expr} {ifs : List Expr} {scope : Scope} {own : List (Str × Nat)} {pos pos' : Pos} {wi : TI} {g : TG} {tt : TT} {tk tv : TE} {pins : List (Addr × Obj)} {s : Shared} {σ : L2.St} {H : Hp} {Q : VK} {use : Option (Value → Sem Unit)} {Qf : Value → Shared → Prop}
    (hu : X.A.units < cLine) (hc : X.calm = true) (hN : X.N.Nodup) (I : Inv X pins σ H s) (hi : PI X tg iter wi) (ok : BlkOk X.N X.env.scope scope own)
    (hg : ∀ s H C cl fp, PG (X.blk s H scope (compEnvC scope cl C X.env) fp) tg g) (ht : ∀ s H C cl fp, PTs (X.blk s H scope (compEnvC scope cl C X.env) fp) ifs tt)
    (hk : ∀ s H C cl fp, PE (X.blk s H scope (compEnvC scope cl C X.env) fp) kx tk) (hv : ∀ s H C cl fp, PE (X.blk s H scope (compEnvC scope cl C X.env) fp) vx tv) (fold : ∀ x, foldedSetIterable iter X.env x = pure x)
    (h : tDcK κ wi g tt tk tv (own.map (·.2)) σ H Q)
    (fin : ∀ D C s' m H', Inv X pins σ H' s' → Q (.ref D) H' → s'.heap.Ns C m → FpOk X pins H' C → compPost (model X.prog X.w) X.A X.xe use Qf (.ref D) C (.ok .next) s') :
    wpAny (model X.prog X.w) X.A (comprehension (.DictComp kx vx [⟨tg, iter, ifs, 0⟩] scope pos) scope X.env pos' newDict false (eval iter X.env) use) Qf X.xe s := by
  have caught : ∀ y ∈ scope.names, y.2 = .free → ∃ c, X.env.cells.lookup y.1 = some c := fun y hy e => (ok.free y hy e).elim (fun k => I.ok.has _ (.inl k)) fun k => I.ok.has _ (.inr k)
  refine wpAny_comprehension_free (use := use) rfl fold (closure_ok caught) ok.kind (fun y hy e => by rw [ok.uniq y hy, e]) (thn (hi.run pins s σ H _ I h) fun xv sa hx => thn hx fun itv sb hb => ?_)
  obtain ⟨ita, fa, tna, J, Hb, rfl, Ib, T, stb, fb, q⟩ := hb
  refine wpAny_newObj_type (newEnv_comp ?_)
  generalize hD : sb.heap.objs.size = D
  have nD : Hb D = none := Ib.hok.fresh (Nat.le_of_eq hD)
  obtain ⟨V0, ⟨m0, w0⟩, turn⟩ := q D nD
  generalize hsc : ({ sb with heap := sb.heap.push { cls := .type "dict", data := .dict #[] } } : Shared) = sc
  have hsc' : sc.heap = sb.heap.push { cls := .type "dict", data := .dict #[] } := by rw [← hsc]
  have Ic : Inv X pins σ (upd Hb D (κ.emp D)) sc := by
    rw [← hsc, ← hD]
    exact Ib.laid (t' := sb.toks) (fun b o e => Heap.get?_push_of_some _ e) (Nat.le_refl _) (κ.emp_ok _ _ Ib.big)
  have small : ∀ b ∈ fa, b < sb.heap.objs.size := fun b hb => by
    obtain ⟨o, e, _⟩ := T.obj _ _ stb b hb
    exact Heap.lt_size e
  have fc : ∀ b ∈ fa, FpOk X pins (upd Hb D (κ.emp D)) b ∧ b < sc.heap.objs.size := fun b hb => by
    have lt := small b hb
    refine ⟨⟨?_, (fb b hb).2⟩, by rw [hsc', Heap.size_push]; exact Nat.lt_succ_of_lt lt⟩
    rw [upd_ne (by rw [← hD]; exact Nat.ne_of_lt lt)]
    exact (fb b hb).1
  have stc : tna 0 sc.heap := T.keep _ _ _ stb fun b _ o e => by
    rw [hsc']
    exact Heap.get?_push_of_some _ e
  have Id := block_start Ic ok hN fc
  have Gd := hg sc (upd Hb D (κ.emp D)) sc.heap.objs.size (cellsFrom (sc.heap.objs.size + 1) scope.names (cloFrom X.env.cells scope.names [])) fa
  have Td := ht sc (upd Hb D (κ.emp D)) sc.heap.objs.size (cellsFrom (sc.heap.objs.size + 1) scope.names (cloFrom X.env.cells scope.names [])) fa
  have Kd := hk sc (upd Hb D (κ.emp D)) sc.heap.objs.size (cellsFrom (sc.heap.objs.size + 1) scope.names (cloFrom X.env.cells scope.names [])) fa
  have Vd := hv sc (upd Hb D (κ.emp D)) sc.heap.objs.size (cellsFrom (sc.heap.objs.size + 1) scope.names (cloFrom X.env.cells scope.names [])) fa
  have clear0 : ∀ b ∈ fa, (upd Hb D (κ.emp D)) b = none := fun b hb => (fc b hb).1.1
  show codeAny _ _ (.compStart (.DictComp kx vx [⟨tg, iter, ifs, 0⟩] scope pos) 0 (.ref ita) (.ref D) (compEnvC scope (cellsFrom (sc.heap.objs.size + 1) scope.names (cloFrom X.env.cells scope.names [])) sc.heap.objs.size X.env)) _ _
  generalize hce : compEnvC scope (cellsFrom (sc.heap.objs.size + 1) scope.names (cloFrom X.env.cells scope.names [])) sc.heap.objs.size X.env = ce at Id Gd Td Kd Vd ⊢
  have cL : ce.locals = sc.heap.objs.size := by
    rw [← hce]
    rfl
  generalize hHc : upd Hb D (κ.emp D) = Hc at Ic Id Gd Td Kd Vd w0 clear0 fc
  generalize hsd : ({ sc with heap := pushCells (sc.heap.push { cls := .type "dict", data := .dict #[] }) scope.names } : Shared) = sd at Id ⊢
  have std : tna 0 sd.heap := T.keep _ _ _ stc fun b _ o e => by
    rw [← hsd]
    exact pushCells_keeps _ _ _ _ (Heap.get?_push_of_some _ e)
  have steady : ∀ {σ' : L2.St} {H' : Hp} {s' : Shared}, Inv (X.blk sc Hc scope ce fa) [] σ' H' s' → (∀ b ∈ fa, H' b = none) → ∀ b ∈ fa, FpOk (X.blk sc Hc scope ce fa) [] H' b := fun {σ' H' s'} I' nn b hb =>
    ⟨nn b hb, (I'.ok.exf b hb).1, I'.ok.exfs b hb, .inl hb, fun x c e => (I'.ok.exf b hb).2 x c e, fun p hp => nomatch hp⟩
  refine codeAny_compStart_dict ?loop (T.self X.A 0 _ _ _ std ?loop)
  refine compLoop_anyD (fun n s' => ∃ i H', Inv (X.blk sc Hc scope ce fa) [] (wipe σ (own.map (·.2))) H' s' ∧ tna i s'.heap ∧ (∀ b ∈ fa, H' b = none) ∧ V0 i n H') ?_ m0 ⟨0, Hc, Id, std, clear0, w0⟩
  rintro n se ⟨i, He, Ie, ste, ne, we⟩
  rcases turn i n He we with ⟨stop, qq⟩ | ⟨go, N, hNx, step⟩
  · refine thnF (T.done (X.blk sc Hc scope ce fa) rfl rfl rfl hc i [] se _ He (fun _ _ => False) Ie (steady Ie ne) ste stop) fun r sf ⟨hr, If⟩ => ?_
    subst hr
    have back : Inv X pins σ He sf := Ic.call' (ch := fa) If.os If.base If.hok If.bare fun b hb => ⟨(fc b hb).1.2.2.2.1, (fc b hb).1.2.1, (fc b hb).1.2.2.2.2.1, (fc b hb).1.2.2.2.2.2⟩
    have none_ : He sc.heap.objs.size = none := by
      have z : He ce.locals = none := If.free
      rw [cL] at z
      exact z
    obtain ⟨m, hn, _⟩ := If.loc
    have hn : sf.heap.Ns ce.locals m := hn
    rw [cL] at hn
    exact fin D sc.heap.objs.size sf m He back qq hn (Ic.fpOk (Nat.le_refl _) none_)
  · refine thnF (T.item (X.blk sc Hc scope ce fa) rfl rfl rfl hc i [] se _ He (fun _ _ => False) Ie (steady Ie ne) ste go) fun r sf ⟨u, hr, hf⟩ => ?_
    subst hr
    refine thnF hf fun _ sg ⟨x, Hg, Ig, rg, yg, stg, ng⟩ => ?_
    refine thnF (Gd.run _ sg _ Hg x u _ (Ig.pinned (steady Ig ng) (T.obj _ _ stg)) rg (step x Hg yg)) fun _ sh ⟨σh, Hh, Ih, wh, qh⟩ => ?_
    refine thnF (Td.run _ sh σh Hh _ Ih qh) fun b si ⟨Hi, Ii, qi⟩ => ?_
    have over : ∀ {s' : Shared} {H' : Hp}, Inv (X.blk sc Hc scope ce fa) ([] ++ pinsAt fa sg.heap) σh H' s' → N H' → ∃ m, m < n ∧ ∃ i H', Inv (X.blk sc Hc scope ce fa) [] (wipe σ (own.map (·.2))) H' s' ∧ tna i s'.heap ∧ (∀ b ∈ fa, H' b = none) ∧ V0 i m H' := fun {s' H'} I' nx => by
      obtain ⟨m', less, w'⟩ := hNx H' nx
      have held : ∀ b ∈ fa, ∀ o, sg.heap.get? b = some o → s'.heap.get? b = some o ∧ H' b = none := fun b hb o e =>
        let z := I'.pin (b, o) (List.mem_append_right _ (List.mem_append_right _ (mem_pinsAt hb e)))
        ⟨z.1, z.2.1⟩
      refine ⟨m', less, i + 1, H', (I'.unpinned (pins := [])).weak (by rw [← wh, wipe_length]) (fun j v e => ?_), T.keep _ _ _ stg fun b hb o e => (held b hb o e).1, fun b hb => ?_, w'⟩
      · rw [← wh] at e
        exact (wipe_some e).1
      · obtain ⟨o, e, _⟩ := T.obj _ _ stg b hb
        exact (held b hb o e).2
    cases b with
    | false =>
      simp only [Bool.false_eq_true, if_false] at qi ⊢
      exact over Ii qi
    | true =>
      simp only [if_true] at qi ⊢
      refine thnF (Kd.run _ si σh Hi _ Ii qi) fun z sj ⟨yk, Hj, Ij, rj, qj⟩ => ?_
      refine thnF (Vd.run _ sj σh Hj _ Ij qj) fun z2 sk ⟨yv, Hk, Ik, rk, qk⟩ => ?_
      exact thnF (κ.put_ok (X := X.blk sc Hc scope ce fa) rfl rfl hu Ik rj rk qk) fun _ sl ⟨Hl, Il, nl⟩ => over Il nl
theorem ps_setDcK {κ : DKind X.prog X.w} {i : Nat} {y : Str} {py spos : Pos} {kx vx tg iter : Expr} {ifs : List Expr} {scope : Scope} {own : List (Str × Nat)} {pos : Pos} {wi : TI} {g : TG} {tt : TT} {tk tv : TE} (hu : X.A.units < cLine) (hc : X.calm = true) (hN : X.N.Nodup) (hy : X.N[i]? = some y) (hyl : X.env.scope.names.lookup y = some .local)
    (hsw : swapsWith (.DictComp kx vx [⟨tg, iter, ifs, 0⟩] scope pos) (some (.Name y py)) spos.line X.env = pure true) (hi : PI X tg iter wi) (ok : BlkOk X.N X.env.scope scope own)
    (hg : ∀ s H C cl fp, PG (X.blk s H scope (compEnvC scope cl C X.env) fp) tg g) (ht : ∀ s H C cl fp, PTs (X.blk s H scope (compEnvC scope cl C X.env) fp) ifs tt)
    (hk : ∀ s H C cl fp, PE (X.blk s H scope (compEnvC scope cl C X.env) fp) kx tk) (hv : ∀ s H C cl fp, PE (X.blk s H scope (compEnvC scope cl C X.env) fp) vx tv) (fold : ∀ x, foldedSetIterable iter X.env x = pure x := by intro _; rfl) :
    PS X (.Assign [.Name y py] (.DictComp kx vx [⟨tg, iter, ifs, 0⟩] scope pos) spos) (tAsg (tDcK κ wi g tt tk tv (own.map (·.2))) (gName i)) := by
  refine ⟨fun pins s σ H D I h => ?_⟩
  rw [exec_Assign_Name_used _ _ _ _ hsw]
  refine wpAny_bind (wpAny_standAt (wpAny_bind ?_))
  show wpAny _ X.A (do let _ ← comprehension (.DictComp kx vx [⟨tg, iter, ifs, 0⟩] scope pos) scope X.env (firstIterPos [⟨tg, iter, ifs, 0⟩] pos) newDict false (eval iter X.env) (some (assign (.Name y py) X.env))) _ _ s
  have h : tDcK κ wi g tt tk tv (own.map (·.2)) σ H (fun x H1 => gName i x σ H1 D.nx) := h
  refine wpAny_bind (thn (dcK_core (Qf := fun _ s' => SP X pins D .next s') hu hc hN I hi ok hg ht hk hv fold h fun L C s' m H' I' q hn f => ?_) fun _ s' hq => wpAny_pure (wpAny_pure hq))
  show wpAny _ _ (assign (.Name y py) X.env (.ref L)) _ _ _
  refine wpAny_assign_Name (store_ok2 (v := V.ref L) I' hN hy (.inl hyl) rfl (fun s2 I2 ⟨a, sb, ha⟩ => ?_) (.inr hyl))
  obtain ⟨f0, f1, f2, f3, f4, f5⟩ := f
  have away : C ≠ a := fun e => by
    rcases ha with z | z
    · exact f1 (e.trans z)
    · exact f4 y a z e.symm
  exact ⟨m, hn.sameBut sb away, fun h3 sb3 => ⟨_, H', I2.turned (t' := s2.toks) (fun b o hb e => (sb3.2 b hb).trans e) f0 f1 f3 f4 f5, q⟩⟩
theorem sw_dict {kx vx : Expr} {gs : List Comprehension} {scope : Scope} {pos py : Pos} {y : Str} {l : Nat} {env : Env} (fn : env.scope.kind = .function) (own : env.scope.names.lookup y = some .local) (line : (py.line == pos.line) = true)
    (free : (scope.names.any fun (n, k) => n == y && (k == .local || k == .cell)) = false) : swapsWith (.DictComp kx vx gs scope pos) (some (.Name y py)) l env = pure true := by
  have kind : env.kindOf y = some .local := own
  have block : env.blockKind = .function := by
    unfold Env.blockKind
    rw [fn]
    rfl
  unfold swapsWith
  simp only [block, kind, free, Expr.pos, line]
  rfl
end
end OF
namespace K19
open PySem PySem.Spec PyProof.Rows L2 OF LamX NdefX
abbrev sIsEnd : Stmt := topS 28
abbrev sTurned : Stmt := topS 31
section
variable {P : Program} {w : World} {K : PySem.W.Frag} {mg : Str → Option Value} {base : Heap}
/-! ### may a plain row end here? -/
def endP (p : Plc) : Bool := decide (p.1 = 0) && decide (p.2 ≠ some 0)
def spIsEnd : Sp := fun vs H Q _ => ∃ (a : Addr) (p : Plc), vs = [.ref a] ∧ H a = some (vP p) ∧ Q (.bl (endP p)) H
abbrev nIe : List Str := ["place", "rest", "right"]
theorem scIe : FnScope nIe ["place"] (defScope sIsEnd) := ⟨rfl, rfl, rfl, by decide +kernel, rfl, by decide +kernel, by decide +kernel⟩
theorem ok_isend {f : Addr} {fd : FuncData} (F : Fun K "is_end" "is_end" sIsEnd f fd) : FnOk P w K mg base CX0 1 f fd ["place"] spIsEnd := by
  refine F.ok scIe (fun vs H Q E h => ?_) (fun cdv A outer s H vs Q E hr h => ?_)
  · obtain ⟨a, p, rfl, _⟩ := h
    rfl
  · obtain ⟨a, p, rfl, e, q⟩ := h
    apply Exists.intro
    apply And.intro
    · apply pss_cons
      · exact ps_asg (pv 0) (pg_tup rfl (pgs_cons (pg_name (i := 1) scIe.nd rfl (.inl rfl)) (pgs_cons (pg_name (i := 2) scIe.nd rfl (.inl rfl)) pgs_nil)))
      apply pss_one
      · exact ps_ret (pe_and (pe_cmpR op_eq (pv 1) pe_int (nomark _)) (pe_one (pe_cmpR op_ne (pv 2) pe_int (nomark _))))
    refine ⟨.ref a, rfl, a, _, rfl, SqT.of e, rfl, _, _, rfl, _, _, rfl, rfl, .int p.1, rfl, rfl, _, rfl, ?_⟩
    unfold endP at q
    by_cases h0 : p.1 = 0
    · refine iteTB (decide_eq_true (congrArg V.int h0)) ⟨nV p.2, rfl, ?_, ?_⟩
      · cases p.2 <;> rfl
      · rw [decide_eq_true h0, Bool.true_and] at q
        have e2 : (!decide (nV p.2 = V.int 0)) = decide (p.2 ≠ some 0) := by
          cases h : p.2 with
          | none => rfl
          | some d =>
            by_cases hd : d = 0
            · subst hd
              rfl
            · rw [decide_eq_false (p := nV (some d) = V.int 0) fun z => hd (V.int.inj z), decide_eq_true (p := (some d : KeyN) ≠ some 0) fun z => hd (Option.some.inj z)]
              rfl
        rw [e2]
        exact q
    · refine iteFB (decide_eq_false fun z => h0 (V.int.inj z)) ?_
      rw [decide_eq_false (p := p.1 = 0) h0, Bool.false_and] at q
      exact q
/-! ### a graph, turned -/
/-- the steps, in the order of the graph -/
def stepsOf (gs : List GR) : List (Plc × Plc) := gs.flatMap fun e => e.2.2.2.map fun q => (e.2.2.1, q.2)
/-- from where a step leads to p -/
def fromP (E : List (Plc × Plc)) (p : Plc) : List Plc := (E.filter fun z => decide (z.2 = p)).map (·.1)
theorem fromP_mem {E : List (Plc × Plc)} {p x : Plc} : x ∈ fromP E p ↔ (x, p) ∈ E := by
  unfold fromP
  constructor
  · intro h
    obtain ⟨z, hz, rfl⟩ := List.mem_map.mp h
    obtain ⟨h1, h2⟩ := List.mem_filter.mp hz
    have := of_decide_eq_true h2
    rw [← this]
    exact h1
  · intro h
    exact List.mem_map.mpr ⟨_, List.mem_filter.mpr ⟨h, decide_eq_true rfl⟩, rfl⟩
theorem fromP_app (E F : List (Plc × Plc)) (p : Plc) : fromP (E ++ F) p = fromP E p ++ fromP F p := by
  unfold fromP
  rw [List.filter_append, List.map_append]
theorem fromP_one (x y p : Plc) : fromP [(x, y)] p = if y = p then [x] else [] := by
  unfold fromP
  by_cases h : y = p
  · rw [if_pos h]
    simp [h]
  · rw [if_neg h]
    simp [h]
theorem fromP_len (E : List (Plc × Plc)) (p : Plc) : (fromP E p).length ≤ E.length := by
  unfold fromP
  rw [List.length_map]
  exact List.length_filter_le _ _
theorem stepsOf_app (gs hs : List GR) : stepsOf (gs ++ hs) = stepsOf gs ++ stepsOf hs := by
  unfold stepsOf
  rw [List.flatMap_append]
theorem stepsOf_one (e : GR) : stepsOf [e] = e.2.2.2.map fun q => (e.2.2.1, q.2) := by
  unfold stepsOf
  simp
/-- a turned graph as it grows: the lists are new since H0 -/
structure TuAt (P : Program) (w : World) (H0 H : Hp) (S : Addr) (ts : List GR) (E : List (Plc × Plc)) : Prop where
  gr : GrAt P w H S ts
  new : ∀ e ∈ ts, H0 e.2.1 = none
  nd : (ts.map (·.2.1)).Nodup
  from_ : ∀ e ∈ ts, e.2.2.2.map (·.2) = fromP E e.2.2.1
theorem nodup_at {α : Type} {l : List α} {i j : Nat} {x : α} (h : l.Nodup) (hi : l[i]? = some x) (hj : l[j]? = some x) : i = j :=
  (List.getElem?_inj (List.getElem?_eq_some_iff.mp hi).1 h).mp (hi.trans hj.symm)
theorem map_one {α β : Type} {f : α → β} {l : List α} (h : (l.map f).Nodup) {x y : α} (hx : x ∈ l) (hy : y ∈ l) (e : f x = f y) : x = y := by
  obtain ⟨i, hi⟩ := List.mem_iff_getElem?.mp hx
  obtain ⟨j, hj⟩ := List.mem_iff_getElem?.mp hy
  have a : (l.map f)[i]? = some (f x) := by rw [List.getElem?_map, hi]; rfl
  have b : (l.map f)[j]? = some (f x) := by rw [List.getElem?_map, hj, e]; rfl
  have ij := nodup_at h a b
  subst ij
  rw [hi] at hj
  exact Option.some.inj hj
/-- one more in the list at L -/
def addT (ts : List GR) (L : Addr) (n : Addr × Plc) : List GR := ts.map fun z => if z.2.1 = L then (z.1, z.2.1, z.2.2.1, z.2.2.2 ++ [n]) else z
theorem addT_key {ts : List GR} {L : Addr} {n : Addr × Plc} : keysR (addT ts L n) = keysR ts ∧ kvR (addT ts L n) = kvR ts ∧ (addT ts L n).map (·.2.1) = ts.map (·.2.1) := by
  refine ⟨?_, ?_, ?_⟩ <;>
  · first | unfold keysR addT | unfold kvR addT | unfold addT
    rw [List.map_map]
    refine List.map_congr_left fun z _ => ?_
    show _ = _
    simp only [Function.comp]
    split <;> rfl
theorem TuAt.add {P : Program} {w : World} {H0 H : Hp} {S : Addr} {ts : List GR} {E : List (Plc × Plc)} (T : TuAt P w H0 H S ts E) (nd : (keysR ts).Nodup) {u : GR} (hu : u ∈ ts) {k : Addr} {x : Plc} (hk : H k = some (vP x)) :
    TuAt P w H0 (upd H u.2.1 (.lst ((u.2.2.2.map fun q => V.ref q.1) ++ [.ref k]))) S (addT ts u.2.1 (k, x)) (E ++ [(x, u.2.2.1)]) := by
  have eu := (T.gr.val u hu).1
  have tup : ∀ {c : Addr} {xs : List V} {o : HO}, H c = some (.tup xs) → upd H u.2.1 o c = some (.tup xs) := fun {c xs o} e => by
    rw [upd_ne fun z => by rw [z, eu] at e; cases e]
    exact e
  have nS : S ≠ u.2.1 := fun z => by
    have e := T.gr.at_
    rw [z, eu] at e
    unfold dNT at e
    cases e
  obtain ⟨a1, a2, a3⟩ := addT_key (ts := ts) (L := u.2.1) (n := (k, x))
  have mem : ∀ e ∈ addT ts u.2.1 (k, x), ∃ z ∈ ts, e = if z.2.1 = u.2.1 then (z.1, z.2.1, z.2.2.1, z.2.2.2 ++ [(k, x)]) else z := fun e he => by
    obtain ⟨z, hz, rfl⟩ := List.mem_map.mp he
    exact ⟨z, hz, rfl⟩
  refine ⟨⟨?_, fun e he => ?_, fun e he => ?_⟩, fun e he => ?_, by rw [a3]; exact T.nd, fun e he => ?_⟩
  · rw [upd_ne nS, a2]
    exact T.gr.at_
  · obtain ⟨z, hz, rfl⟩ := mem e he
    have := tup (o := .lst ((u.2.2.2.map fun q => V.ref q.1) ++ [.ref k])) (T.gr.key z hz)
    split <;> exact this
  · obtain ⟨z, hz, rfl⟩ := mem e he
    by_cases h : z.2.1 = u.2.1
    · have ez := map_one T.nd hz hu h
      subst ez
      rw [if_pos rfl]
      refine ⟨?_, fun q hq => ?_⟩
      · rw [upd_same, List.map_append]
        rfl
      · rcases List.mem_append.mp hq with hq | hq
        · exact tup ((T.gr.val z hz).2 q hq)
        · cases List.mem_singleton.mp hq
          exact tup hk
    · rw [if_neg h]
      exact ⟨(upd_ne h).trans (T.gr.val z hz).1, fun q hq => tup ((T.gr.val z hz).2 q hq)⟩
  · obtain ⟨z, hz, rfl⟩ := mem e he
    have := T.new z hz
    split <;> exact this
  · obtain ⟨z, hz, rfl⟩ := mem e he
    by_cases h : z.2.1 = u.2.1
    · have ez := map_one T.nd hz hu h
      subst ez
      rw [if_pos rfl]
      show (z.2.2.2 ++ [(k, x)]).map (·.2) = fromP _ z.2.2.1
      rw [List.map_append, T.from_ z hz, fromP_app, fromP_one, if_pos rfl]
      rfl
    · rw [if_neg h, T.from_ z hz, fromP_app, fromP_one, if_neg fun y => h (by rw [map_one nd hz hu y.symm]), List.append_nil]
def spTurned (P : Program) (w : World) : Sp := fun vs H Q _ => ∃ (G : Addr) (gs : List GR), vs = [.ref G] ∧ GrAt P w H G gs ∧ (keysR gs).Nodup ∧ gs.length ≤ 100000 ∧ (∀ e ∈ gs, e.2.2.2.length ≤ 60) ∧ (∀ e ∈ gs, ∀ q ∈ e.2.2.2, q.2 ∈ keysR gs) ∧
  ∀ (S : Addr) (H' : Hp) (ts : List GR), Same H H' → H S = none → TuAt P w H H' S ts (stepsOf gs) → keysR ts = keysR gs → Q (.ref S) H'
abbrev nTu : List Str := ["graph", "node", "sources", "other"]
theorem scTu : FnScope nTu ["graph"] (defScope sTurned) := ⟨rfl, rfl, rfl, by decide +kernel, rfl, by decide +kernel, by decide +kernel⟩
theorem stepsOf_len {gs : List GR} (h : ∀ e ∈ gs, e.2.2.2.length ≤ 60) : (stepsOf gs).length ≤ 60 * gs.length := by
  induction gs with
  | nil => exact Nat.zero_le _
  | cons e gs ih =>
    have i := ih fun x hx => h x (List.mem_cons_of_mem _ hx)
    have j := h e List.mem_cons_self
    have e1 : stepsOf (e :: gs) = (e.2.2.2.map fun q => (e.2.2.1, q.2)) ++ stepsOf gs := by
      unfold stepsOf
      rw [List.flatMap_cons]
    rw [e1, List.length_append, List.length_map, List.length_cons]
    omega
theorem ok_turned {f : Addr} {fd : FuncData} (F : Fun K "turned" "turned" sTurned f fd) : FnOk P w K mg base CX0 1 f fd ["graph"] (spTurned P w) := by
  refine F.ok scTu (fun vs H Q E h => ?_) (fun cdv A outer s H vs Q E hr h => ?_)
  · obtain ⟨G, gs, rfl, _⟩ := h
    rfl
  · obtain ⟨G, gs, rfl, gA, gnd, lg, deg, cl, q⟩ := h
    apply Exists.intro
    apply And.intro
    · apply pss_cons
      · exact ps_lock (ps_setDcK (i := 2) (κ := kNT P w) (own := [("node", 1)]) (g := gName 1) (tt := tYes) (tk := tVar 1) (tv := tLst tNil) (by exact Nat.lt_of_succ_lt (hu_of hr)) rfl scTu.nd rfl rfl (sw_dict rfl rfl rfl (by decide +kernel)) (pi_keysN (pv 0))
          (blkOk_by (own := [("node", 1)]) (N := nTu) (sc := defScope sTurned) (by decide +kernel)) (fun _ _ _ _ _ => pg_name (i := 1) scTu.nd rfl (Or.inl rfl)) (fun _ _ _ _ _ => by exact pts_nil) (fun _ _ _ _ _ => by exact (pv 1)) (fun _ _ _ _ _ => by exact (pe_lst pa_nil)))
      apply pss_cons
      · exact ps_lock (ps_for PassesOwn.never rfl (pi_keysN (pv 0)) (pg_name (i := 1) scTu.nd rfl (.inl rfl))
          (pss_one (ps_for PassesOwn.never rfl (pi_list (pe_ix (ix_dictNT (hu_of hr)) (pv 0) (pv 1) (fun _ _ => rfl))) (pg_name (i := 3) scTu.nd rfl (.inl rfl))
            (pss_one (ps_expr (pe_bm PySem.F.plainAttrs_list PySem.F.slot_list_append PySem.F.type_list_append mt_append (pe_ix (ix_dictNT (hu_of hr)) (pv 2) (pv 3) (fun _ _ => rfl)) (pa_cons (pv 1) pa_nil)))))))
      apply pss_one
      · exact ps_ret (pv 2)
    have lk : (kvR gs).length = gs.length := List.length_map _
    refine ⟨G, dNT P w G (kvR gs), gA.at_, trivial, fun od => ?_⟩
    have hl : upd H G (.frz od (dNT P w G (kvR gs))) G = some (.frz od (dNT P w G (kvR gs))) := upd_same
    have keyL : ∀ e ∈ gs, upd H G (.frz od (dNT P w G (kvR gs))) e.1 = some (vP e.2.2.1) := fun e he => by
      have z := gA.key e he
      rw [upd_ne fun y => by rw [y, gA.at_] at z; cases z]
      exact z
    refine ⟨.ref G, rfl, G, od, kvR gs, rfl, hl, fun S hS => ?_⟩
    have hS0 : H S = none := by
      have n : S ≠ G := fun z => by rw [z, hl] at hS; cases hS
      rw [upd_ne n] at hS
      exact hS
    have nSG : S ≠ G := fun z => by rw [z, hl] at hS; cases hS
    have free : ∀ {c : Addr} {H' : Hp}, Same (upd H G (.frz od (dNT P w G (kvR gs)))) H' → H' c = none → H c = none := fun {c H'} s h => by
      have z := s.free h
      have n : c ≠ G := fun y => by rw [y, hl] at z; cases z
      rw [upd_ne n] at z
      exact z
    refine dcK_it (κ := kNT P w) walkN (fun i H' => Same (upd H G (.frz od (dNT P w G (kvR gs)))) H' ∧ ∃ ts : List GR, H' S = some (dNT P w S (kvR ts)) ∧ ts.length = i ∧ keysR ts = (keysR gs).take i ∧ (∀ e ∈ ts, H' e.1 = some (vP e.2.2.1) ∧ H' e.2.1 = some (.lst []) ∧ e.2.2.2 = [] ∧ H e.2.1 = none) ∧ (ts.map (·.2.1)).Nodup) ⟨same_new hS, [], upd_same, rfl, rfl, (fun e h => by cases h), .nil⟩ (fun i H' _ h => h.1 _ _ hl) ?_ ?_
    · rintro i x H1 H2 hi ⟨s1, ts, e1, lt, kt, tt, ndt⟩ ⟨rfl, p, hp, rfl⟩
      obtain ⟨e, he, rfl⟩ := get_map (f := fun e : GR => (keyP e.2.2.1, e.1, V.ref e.2.1)) hp
      have me := List.mem_of_getElem? he
      have hi2 : i < gs.length := (List.getElem?_eq_some_iff.mp he).1
      refine ⟨rfl, ?_⟩
      dsimp only [tYes]
      refine iteTB rfl ⟨.ref e.1, rfl, (by show 0 ≤ sizeLine; decide), fun L hL => ?_⟩
      have s2 := same_new (o := .lst []) hL
      have e2 : upd H2 L (.lst []) L = some (.lst []) := upd_same
      have hL0 := free s1 hL
      have nLS : L ≠ S := fun z => by rw [z, e1] at hL; cases hL
      generalize upd H2 L (.lst []) = H3 at s2 e2 ⊢
      have e3 := s2 _ _ e1
      have ek : H3 e.1 = some (vP e.2.2.1) := s2 _ _ (s1 _ _ (keyL e me))
      have gk : (keysR gs)[i]? = some e.2.2.1 := by unfold keysR; rw [List.getElem?_map, he]; rfl
      have nin : e.2.2.1 ∉ keysR ts := by
        rw [kt]
        intro z
        obtain ⟨j, hj⟩ := List.mem_iff_getElem?.mp z
        have lj : j < i := by
          have := (List.getElem?_eq_some_iff.mp hj).1
          rw [List.length_take] at this
          omega
        rw [List.getElem?_take_of_lt lj] at hj
        have := nodup_at gnd hj gk
        omega
      refine ⟨kvR ts, keyP e.2.2.1, e.1, rfl, ⟨.inl e3, fun z hz => ?_⟩, e3, ek, ?_, ?_⟩
      · obtain ⟨u, hu, rfl⟩ := List.mem_map.mp hz
        exact s2 _ _ (tt u hu).1
      · rw [show (kvR ts).length = ts.length from List.length_map _, lt]
        exact big18 (by omega)
      rw [putN_new (getR_none nin), ← kvR_app ts (e.1, L, e.2.2.1, [])]
      have off : ∀ {c : Addr} {u : HO}, H3 c = some u → (∀ φ, u ≠ .ext φ) → upd H3 S (dNT P w S (kvR (ts ++ [(e.1, L, e.2.2.1, [])]))) c = some u := fun {c u} h n => by
        rw [upd_ne]
        · exact h
        · rintro rfl
          rw [e3] at h
          exact n _ (Option.some.inj h).symm
      refine ⟨Same.store (s1.trans s2) hS, ts ++ [(e.1, L, e.2.2.1, [])], upd_same, by rw [List.length_append, lt]; rfl, ?_, fun u hu => ?_, ?_⟩
      · rw [keysR_app, kt, take_more gk]
      · rcases List.mem_append.mp hu with h | h
        · obtain ⟨a1, a2, a3, a4⟩ := tt u h
          exact ⟨off (s2 _ _ a1) (fun φ z => by cases z), off (s2 _ _ a2) (fun φ z => by cases z), a3, a4⟩
        · cases List.mem_singleton.mp h
          exact ⟨off ek (fun φ z => by cases z), off e2 (fun φ z => by cases z), rfl, hL0⟩
      · rw [List.map_append, List.nodup_append]
        refine ⟨ndt, List.nodup_cons.mpr ⟨(fun z => by cases z), .nil⟩, fun a ha b hb z => ?_⟩
        cases List.mem_singleton.mp hb
        obtain ⟨u, hu, rfl⟩ := List.mem_map.mp ha
        have := (tt u hu).2.1
        rw [z, hL] at this
        cases this
    rintro H1 ⟨s1, ts, e1, lt, kt, tt, ndt⟩
    rw [lk] at lt kt
    rw [show (keysR gs).take gs.length = keysR gs by rw [List.take_of_length_le]; unfold keysR; rw [List.length_map]; exact Nat.le_refl _] at kt
    refine ⟨s1 _ _ hl, ?_⟩
    have s2 : Same H (upd H1 G (dNT P w G (kvR gs))) := same_unlock gA.at_ s1
    have off : ∀ {c : Addr} {u : HO}, H1 c = some u → c ≠ G → upd H1 G (dNT P w G (kvR gs)) c = some u := fun {c u} h n => (upd_ne n).trans h
    have T0 : TuAt P w H (upd H1 G (dNT P w G (kvR gs))) S ts [] := by
      have nG : ∀ {c : Addr} {u : HO}, H1 c = some u → (∀ o v, u ≠ .frz o v) → c ≠ G := fun {c u} h n z => by
        rw [z, s1 _ _ hl] at h
        cases h
        exact n _ _ rfl
      refine ⟨⟨off e1 nSG, fun e he => ?_, fun e he => ?_⟩, fun e he => (tt e he).2.2.2, ndt, fun e he => ?_⟩
      · exact off (tt e he).1 (nG (tt e he).1 (fun o v z => by cases z))
      · obtain ⟨_, a2, a3, _⟩ := tt e he
        rw [a3]
        exact ⟨off a2 (nG a2 (fun o v z => by cases z)), fun q h => by cases h⟩
      · rw [(tt e he).2.2.1]
        rfl
    generalize upd H1 G (dNT _ _ G (kvR gs)) = H2 at s2 T0 ⊢
    clear s1 e1 tt off lt hl keyL free
    have gA2 := gA.same s2
    refine ⟨G, dNT P w G (kvR gs), gA2.at_, trivial, fun od2 => ?_⟩
    have hl : upd H2 G (.frz od2 (dNT P w G (kvR gs))) G = some (.frz od2 (dNT P w G (kvR gs))) := upd_same
    have keyL : ∀ {c : Addr} {xs : List V}, H c = some (.tup xs) → upd H G (.frz od2 (dNT P w G (kvR gs))) c = some (.tup xs) := fun {c xs} e => by
      rw [upd_ne fun y => by rw [y, gA.at_] at e; unfold dNT at e; cases e]
      exact e
    have lstL : ∀ {c : Addr} {xs : List V}, H c = some (.lst xs) → upd H G (.frz od2 (dNT P w G (kvR gs))) c = some (.lst xs) := fun {c xs} e => by
      rw [upd_ne fun y => by rw [y, gA.at_] at e; unfold dNT at e; cases e]
      exact e
    have sl : Same (upd H G (.frz od2 (dNT P w G (kvR gs)))) (upd H2 G (.frz od2 (dNT P w G (kvR gs)))) := fun c o e => by
      by_cases z : c = G
      · subst z
        rw [upd_same] at e ⊢
        exact e
      · rw [upd_ne z] at e ⊢
        exact s2 _ _ e
    have hlH : ∀ {H' : Hp}, Same (upd H G (.frz od2 (dNT P w G (kvR gs)))) H' → H' G = some (.frz od2 (dNT P w G (kvR gs))) := fun s => s _ _ upd_same
    have noneL : ∀ {c : Addr}, H c = none → upd H G (.frz od2 (dNT P w G (kvR gs))) c = none := fun {c} e => by
      rw [upd_ne fun y => by rw [y, gA.at_] at e; cases e]
      exact e
    have T1 : TuAt P w H (upd H2 G (.frz od2 (dNT P w G (kvR gs)))) S ts [] := by
      have off : ∀ {c : Addr} {u : HO}, H2 c = some u → (∀ φ, u ≠ .ext φ) → upd H2 G (.frz od2 (dNT P w G (kvR gs))) c = some u := fun {c u} h n => by
        rw [upd_ne fun y => by rw [y, gA2.at_] at h; exact n _ (Option.some.inj h).symm]
        exact h
      exact ⟨⟨(upd_ne nSG).trans T0.gr.at_, fun e he => off (T0.gr.key e he) (fun φ z => by cases z), fun e he => ⟨off (T0.gr.val e he).1 (fun φ z => by cases z), fun q hq => off ((T0.gr.val e he).2 q hq) (fun φ z => by cases z)⟩⟩, T0.new, T0.nd, T0.from_⟩
    refine ⟨.ref G, rfl, G, od2, kvR gs, rfl, hl, ?_⟩
    refine for_it walkN (fun i σ H' => ∃ v1 v3 : Option V, σ = [some (.ref G), v1, some (.ref S), v3] ∧ Same (upd H G (.frz od2 (dNT P w G (kvR gs)))) H' ∧ ∃ us : List GR, TuAt P w H H' S us (stepsOf (gs.take i)) ∧ keysR us = keysR gs) ⟨none, none, rfl, sl, ts, T1, kt⟩ (fun i σ H' _ ⟨_, _, _, s, _⟩ => hlH s) ?_ ?_
    · rintro i x σ H3 H4 hi ⟨v1, v3, rfl, s3, us, T3, k3⟩ ⟨rfl, p, hp, rfl⟩
      obtain ⟨e, he, rfl⟩ := get_map (f := fun e : GR => (keyP e.2.2.1, e.1, V.ref e.2.1)) hp
      have me := List.mem_of_getElem? he
      have hi2 : i < gs.length := (List.getElem?_eq_some_iff.mp he).1
      obtain ⟨e', me', ke', ge'⟩ := getR_some (gs := gs) (p := e.2.2.1) (List.mem_map.mpr ⟨e, me, rfl⟩)
      have ee := map_one gnd me' me ke'
      subst ee
      have dG : ∀ {H' : Hp}, Same (upd H G (.frz od2 (dNT P w G (kvR gs)))) H' → DictT P w H' G (kvR gs) := fun {H'} s => ⟨.inr ⟨od2, hlH s⟩, fun z hz => by
        obtain ⟨u, hu, rfl⟩ := List.mem_map.mp hz
        exact s _ _ (keyL (gA.key u hu))⟩
      have ke := s3 _ _ (keyL (gA.key e' me))
      have le := s3 _ _ (lstL (gA.val e' me).1)
      refine ⟨.ref G, rfl, .ref e'.1, rfl, G, kvR gs, keyP e'.2.2.1, e'.1, .ref e'.2.1, rfl, rfl, dG s3, ke, ge', e'.2.1, rfl, ⟨_, SqL.of le⟩, ?_⟩
      refine for_list (K := K) (a := e'.2.1) (xs := e'.2.2.2.map fun q => V.ref q.1) (fun j σ H' => ∃ v3 : Option V, σ = [some (.ref G), some (.ref e'.1), some (.ref S), v3] ∧ Same (upd H G (.frz od2 (dNT P w G (kvR gs)))) H' ∧ ∃ us : List GR, TuAt P w H H' S us (stepsOf (gs.take i) ++ (e'.2.2.2.take j).map fun q => (e'.2.2.1, q.2)) ∧ keysR us = keysR gs) ⟨v3, rfl, s3, us, by rw [List.take_zero, List.map_nil, List.append_nil]; exact T3, k3⟩ (fun j σ H' _ ⟨_, _, s, _⟩ => SqL.of (s _ _ (lstL (gA.val e' me).1))) ?_ ?_
      · rintro j x σ H5 hx ⟨v3, rfl, s5, us5, T5, k5⟩
        obtain ⟨q0, hq0, rfl⟩ := get_map (f := fun q : Addr × Plc => V.ref q.1) hx
        have mq := List.mem_of_getElem? hq0
        have kq := cl e' me q0 mq
        obtain ⟨u, mu, ku, gu⟩ := getR_some (gs := us5) (p := q0.2) (by rw [k5]; exact kq)
        have tq := s5 _ _ (keyL ((gA.val e' me).2 q0 mq))
        have tk := s5 _ _ (keyL (gA.key e' me))
        have lu := (T5.gr.val u mu).1
        have lenu : u.2.2.2.length ≤ 6000060 := by
          have z := congrArg List.length (T5.from_ u mu)
          rw [List.length_map] at z
          have z2 := fromP_len (stepsOf (gs.take i) ++ (e'.2.2.2.take j).map fun q => (e'.2.2.1, q.2)) u.2.2.1
          rw [List.length_append, List.length_map] at z2
          have z3 := stepsOf_len (gs := gs.take i) fun y hy => deg y (List.mem_of_mem_take hy)
          have z4 := deg e' me
          have z5 : (e'.2.2.2.take j).length ≤ 60 := Nat.le_trans (List.length_take_le' _ _) z4
          have z6 : (gs.take i).length ≤ gs.length := List.length_take_le' _ _
          omega
        refine ⟨.ref S, rfl, .ref q0.1, rfl, S, kvR us5, keyP q0.2, q0.1, .ref u.2.1, rfl, rfl, T5.gr.dict, tq, gu, .inl ⟨rfl, _, SqL.of lu⟩, .ref e'.1, rfl, u.2.1, _, .ref e'.1, rfl, rfl, lu, ?_, ?_⟩
        · rw [List.length_map]
          unfold sizeLine
          omega
        have T6 := T5.add (by rw [k5]; exact gnd) mu tk
        rw [ku] at T6
        refine ⟨_, rfl, Same.store s5 (noneL (T5.new u mu)), addT us5 u.2.1 (e'.1, e'.2.2.1), ?_, (addT_key.1).trans k5⟩
        rw [take_more hq0, List.map_append, ← List.append_assoc]
        exact T6
      · rintro σ H5 ⟨v3, rfl, s5, us5, T5, k5⟩
        rw [List.length_map, List.take_length] at T5
        refine ⟨_, v3, rfl, s5, us5, ?_, k5⟩
        rw [take_more he, stepsOf_app, stepsOf_one]
        exact T5
    · rintro σ H3 ⟨v1, v3, rfl, s3, us, T3, k3⟩
      rw [lk, List.take_length] at T3
      refine ⟨hlH s3, .ref S, rfl, ?_⟩
      have off : ∀ {c : Addr} {u : HO}, H3 c = some u → (∀ o v, u ≠ .frz o v) → upd H3 G (dNT P w G (kvR gs)) c = some u := fun {c u} h n => by
        rw [upd_ne fun y => by rw [y, hlH s3] at h; exact n _ _ (Option.some.inj h).symm]
        exact h
      refine q S _ us (same_unlock gA.at_ s3) hS0 ⟨⟨off T3.gr.at_ (fun o v z => by unfold dNT at z; cases z), fun e he => off (T3.gr.key e he) (fun o v z => by cases z), fun e he => ⟨off (T3.gr.val e he).1 (fun o v z => by cases z), fun z hz => off ((T3.gr.val e he).2 z hz) (fun o v y => by cases y)⟩⟩, T3.new, T3.nd, T3.from_⟩ k3
end
end K19
namespace K19
open PySem PySem.Spec PyProof.Rows L2 OF LamX NdefX
abbrev sLive : Stmt := topS 32
def lPar : Arguments := match (defBody sLive).getD 2 (.Pass ⟨0, 0, 0, 0⟩) with
  | .Assign _ (.Call _ [_, .Lambda p _ _ _] _ _) _ => p
  | _ => defArgs sLive
def lBod : Expr := match (defBody sLive).getD 2 (.Pass ⟨0, 0, 0, 0⟩) with
  | .Assign _ (.Call _ [_, .Lambda _ b _ _] _ _) _ => b
  | _ => .Name "x" ⟨0, 0, 0, 0⟩
def lSco : Scope := match (defBody sLive).getD 2 (.Pass ⟨0, 0, 0, 0⟩) with
  | .Assign _ (.Call _ [_, .Lambda _ _ s _] _ _) _ => s
  | _ => defScope sLive
abbrev qLiv : Str := Str.ofString "live_graph.<locals>." ++ "<lambda>"
abbrev lNF (q : Str) (cl : List (Str × Addr)) (c' : Addr) : NF := ⟨"<lambda>", q, lPar, [], lSco, cl, c'⟩
abbrev nLl : List Str := ["place", "sources"]
theorem nsLl : NScope nLl ["place"] ["sources"] lSco := nscope_by (by decide +kernel)
section
variable {P : Program} {w : World} {K : PySem.W.Frag} {mg : Str → Option Value} {base : Heap}
/-- sources[place] -/
def spSrc (P : Program) (w : World) (cl : List (Str × Addr)) : List V → Sp := fun ws vs H Q _ => ∃ (S p L : Addr) (pl : Plc) (ts : List GR), ws = [.ref S] ∧ vs = [.ref p] ∧ H p = some (vP pl) ∧ S ∉ cellAs cl ∧ (∀ c ∈ cellAs cl, ∃ φ, H c = some (.ext φ)) ∧ DictT P w H S (kvR ts) ∧ getN (kvR ts) (keyP pl) = some (.ref L) ∧ ∀ H', Same H H' → Q (.ref L) H'
theorem src_cal {f c' : Addr} {q : Str} {cl : List (Str × Addr)} (inj : InjC cl) : CalO P w K mg base 2 f (LamO f (lNF q cl c') lBod) (spCloX (lNF q cl c') ["sources"] (spSrc P w cl)) := by
  refine lam_calX (N := nLl) (ps := ["place"]) (F := lNF q cl c') nsLl inj (fun pm ctv us hl => match us, hl with | [_], _ => rfl) (fun ws vs H Q E h => ?_) (fun A outer s H vs ws Q hr hl h => ?_)
  · obtain ⟨S, p, L, pl, ts, _, rfl, _⟩ := h
    rfl
  · obtain ⟨S, p, L, pl, ts, rfl, rfl, hp, nS, hx, D, g, q⟩ := h
    refine ⟨_, pe_ix (ix_dictNT (hu_of hr)) (pv 1) (pv 0) (fun _ _ => rfl), ?_⟩
    have op := off_at hx hp (fun φ z => by cases z)
    have D2 : DictT P w (offC (cellAs cl) H) S (kvR ts) := by
      refine ⟨?_, fun z hz => off_at hx (D.ks z hz) (fun φ y => by cases y)⟩
      rcases D.at_ with e | ⟨o, e⟩
      · exact .inl (off_ne nS e)
      · exact .inr ⟨o, off_ne nS e⟩
    refine ⟨.ref S, rfl, .ref p, rfl, S, kvR ts, keyP pl, p, .ref L, rfl, rfl, D2, op, g, fun _ => q _ (on_same (Same.refl _))⟩
theorem GrAt.off {H : Hp} {G : Addr} {gs : List GR} {cs : List Addr} (g : GrAt P w H G gs) (hx : ∀ c ∈ cs, ∃ φ, H c = some (.ext φ)) (n : G ∉ cs) : GrAt P w (offC cs H) G gs :=
  ⟨off_ne n g.at_, fun e he => off_at hx (g.key e he) (fun φ z => by cases z), fun e he => ⟨off_at hx (g.val e he).1 (fun φ z => by cases z), fun q hq => off_at hx ((g.val e he).2 q hq) (fun φ z => by cases z)⟩⟩
/-! ### the part of a graph that leads to an end -/
def endsOf (gs : List GR) : List Plc := (keysR gs).filter endP
def LiveP (gs : List GR) (x : Plc) : Prop := Reach (fromP (stepsOf gs)) (endsOf gs) x
open Classical in
noncomputable def liveB (gs : List GR) (x : Plc) : Bool := decide (LiveP gs x)
def spLive (P : Program) (w : World) (T : List (Addr × Str)) : Sp := fun vs H Q _ => ∃ (G : Addr) (gs : List GR), vs = [.ref G] ∧ GrAt P w H G gs ∧ (keysR gs).Nodup ∧ gs.length ≤ 300 ∧ (∀ e ∈ gs, e.2.2.2.length ≤ 60) ∧ (∀ e ∈ gs, ∀ q ∈ e.2.2.2, q.2 ∈ keysR gs) ∧ Tabs T H ∧
  ∀ (R : Addr) (H' : Hp) (ls : List GR), ExtN H H' → Tabs T H' → GrAt P w H' R ls → (keysR ls).Nodup → (∀ x, x ∈ keysR ls ↔ LiveP gs x) → (∀ e ∈ ls, ∃ u ∈ gs, u.2.2.1 = e.2.2.1 ∧ e.2.2.2.map (·.2) = (u.2.2.2.map (·.2)).filter (liveB gs)) → Q (.ref R) H'
abbrev nLg : List Str := ["graph", "ends", "sources", "live", "place", "other"]
theorem scLg : FnScope nLg ["graph"] (defScope sLive) := ⟨rfl, rfl, rfl, by decide +kernel, rfl, by decide +kernel, by decide +kernel⟩
set_option maxHeartbeats 2000000 in
theorem ok_live {f c PT fE fT fG : Addr} {fd fdE fdT fdG : FuncData} {T : List (Addr × Str)} (F : Fun K "live_graph" "live_graph" sLive f fd) (hc : fd.code = .ref c) (TB : TabB base mg c PT) (hm : (PT, qLiv) ∈ T) (hu : ∀ p ∈ T, p.1 = PT → p.2 = qLiv)
    (GE : FnOk P w K mg base CX0 1 fE fdE ["place"] spIsEnd) (gE : mg "is_end" = some (.ref fE)) (kE : PySem.W.keepIn K (.ref fE) = true) (bE : Binds K fdE ["place"] [])
    (GT : FnOk P w K mg base CX0 1 fT fdT ["graph"] (spTurned P w)) (gT : mg "turned" = some (.ref fT)) (kT : PySem.W.keepIn K (.ref fT) = true) (bT : Binds K fdT ["graph"] [])
    (GG : FnOk P w K mg base CX0 3 fG fdG ["starts", "follow"] (spGraphF P w K mg base)) (gG : mg "graph_from" = some (.ref fG)) (kG : PySem.W.keepIn K (.ref fG) = true) (bG : Binds K fdG ["starts", "follow"] []) :
    FnOk P w K mg base CX0 4 f fd ["graph"] (spLive P w T) := by
  refine okC F hc scLg (fun vs H Q E h => ?_) (fun A outer s H vs Q E hr h => ?_)
  · obtain ⟨G, gs, rfl, _⟩ := h
    rfl
  · obtain ⟨G, gs, rfl, gA, gnd, lg, deg, cl, hT, q⟩ := h
    have hr1 : Room 1 _ := hr.mono (by decide)
    apply Exists.intro
    apply And.intro
    · apply pss_cons
      · exact ps_lock (ps_setLc (i := 1) (own := [("place", 4)]) (g := gName 4) (tt := tB (tCall spIsEnd [] E0 (tCons (tVar 4) tNil))) (te := tVar 4) rfl scLg.nd rfl rfl (sw_true rfl rfl rfl (by decide +kernel)) (pi_keysN (pv 0)) (blkOk_by (own := [("place", 4)]) (N := nLg) (sc := defScope sLive) (by decide +kernel)) (fun _ _ _ _ _ => pg_name (i := 4) scLg.nd rfl (Or.inl rfl))
            (fun _ _ _ _ _ => by exact (pts_one (pt_val (pe_call GE hr1 (by rfl) gE kE bE .nil pass0 (pa_cons (pv 4) pa_nil))))) (fun _ _ _ _ _ => by exact (pv 4)))
      apply pss_cons
      · exact ps_set (i := 2) scLg.nd rfl (.inr rfl) (pe_call GT hr1 (by rfl) gT kT bT .nil pass0 (pa_cons (pv 0) pa_nil))
      apply pss_cons
      · exact ps_set (i := 3) scLg.nd rfl (.inr rfl) (pe_callPin (fr := ["sources"]) (js := [2]) (LN := nLl) (lps := ["place"]) (scope := lSco) GG hr (by rfl) gG kG bG (pa_cons (pv 1) (pa_cons (pe_lamN (params := lPar) (body := lBod) (scope := lSco) TB rfl hm hu rfl (fun ok y hy e => by
            rcases ndef_free (sc := defScope sLive) (nsc := lSco) (fr := ["sources"]) (by decide +kernel) y hy e with k | k
            · exact ok.has _ (.inl k)
            · exact ok.has _ (.inr k))) pa_nil)) nsLl (show ndefB (defScope sLive) lSco ["sources"] = true by decide +kernel) rfl (fun _ => rfl))
      apply pss_one
      · exact ps_ret (pe_lock (pe_dcK (κ := kNT P w) (own := [("place", 4)]) (g := gName 4) (tt := tYes) (tk := tVar 4) (tv := (tLc (iList K (tOp (rIxNT (cxOf CX0 P w K mg base nLg "live_graph" (defScope sLive) f (.ref c) A outer s H E)) (tVar 0) (tVar 4))) (gName 5) (tTest (tOp (rInNT (cxOf CX0 P w K mg base nLg "live_graph" (defScope sLive) f (.ref c) A outer s H E)) (tVar 5) (tVar 3))) (tVar 5) [5])) (by exact Nat.lt_of_succ_lt (hu_of hr)) rfl scLg.nd (pi_keysN (pv 3))
          (blkOk_by (own := [("place", 4)]) (N := nLg) (sc := defScope sLive) (by decide +kernel)) (fun _ _ _ _ _ => pg_name (i := 4) scLg.nd rfl (Or.inl rfl)) (fun _ _ _ _ _ => by exact pts_nil) (fun _ _ _ _ _ => by exact (pv 4))
          (fun _ _ _ _ _ => by exact (pe_lc (own := [("other", 5)]) (g := gName 5) rfl scLg.nd (pi_list (pe_ix (ix_dictNT (hu_of hr)) (pv 0) (pv 4) (fun _ _ => rfl))) (blkOk_by (own := [("other", 5)]) (N := nLg) (sc := ⟨.function, [(".0", .local), ("place", .local), ("graph", .cell), ("live", .cell)], false, false, []⟩) (by decide +kernel)) (fun _ _ _ _ _ => pg_name (i := 5) scLg.nd rfl (Or.inl rfl))
            (fun _ _ _ _ _ => by exact (pts_one (pt_cmpR (op_inNT (hu_of hr)) (pv 5) (pv 3) rfl))) (fun _ _ _ _ _ => by exact (pv 5))))))
    have lk : (kvR gs).length = gs.length := List.length_map _
    refine ⟨G, dNT P w G (kvR gs), gA.at_, trivial, fun od => ?_⟩
    have hl : upd H G (.frz od (dNT P w G (kvR gs))) G = some (.frz od (dNT P w G (kvR gs))) := upd_same
    have keyL : ∀ {c : Addr} {xs : List V}, H c = some (.tup xs) → upd H G (.frz od (dNT P w G (kvR gs))) c = some (.tup xs) := fun {c xs} e => by
      rw [upd_ne fun y => by rw [y, gA.at_] at e; unfold dNT at e; cases e]
      exact e
    refine ⟨.ref G, rfl, G, od, kvR gs, rfl, hl, fun D hD => ?_⟩
    refine lc_it walkN (fun i H' => Same (upd H G (.frz od (dNT P w G (kvR gs)))) H' ∧ H' D = some (.lst ((((gs.take i).filter fun e => endP e.2.2.1).map fun e => (e.1, e.2.2.1)).map fun q => V.ref q.1))) ⟨same_new hD, upd_same⟩ (fun i H' _ h => h.1 _ _ hl) ?_ ?_
    · rintro i x H1 H2 hi ⟨s1, e1⟩ ⟨rfl, p, hp, rfl⟩
      obtain ⟨e, he, rfl⟩ := get_map (f := fun e : GR => (keyP e.2.2.1, e.1, V.ref e.2.1)) hp
      have me := List.mem_of_getElem? he
      have ke := s1 _ _ (keyL (gA.key e me))
      refine ⟨rfl, .ref e.1, rfl, e.1, e.2.2.1, rfl, ke, _, rfl, ?_⟩
      cases hE : endP e.2.2.1 with
      | true =>
        refine iteT ⟨.ref e.1, rfl, _, e1, ?_, Same.store s1 hD, ?_⟩
        · rw [List.length_map, List.length_map]
          exact big18 (Nat.le_trans (List.length_filter_le _ _) (Nat.le_trans (List.length_take_le' _ _) (by omega)))
        · rw [upd_same, take_more he, List.filter_append, List.map_append, List.map_append]
          simp [hE]
      | false =>
        refine iteF ⟨s1, ?_⟩
        rw [e1, take_more he, List.filter_append]
        simp [hE]
    rintro H1 ⟨s1, e1⟩
    rw [lk, List.take_length] at e1
    generalize eas : ((gs.filter fun e => endP e.2.2.1).map fun e => (e.1, e.2.2.1)) = as0 at e1
    have asm0 : ∀ q ∈ as0, ∃ e ∈ gs, endP e.2.2.1 = true ∧ q = (e.1, e.2.2.1) := fun q hq => by
      rw [← eas] at hq
      obtain ⟨e, he, rfl⟩ := List.mem_map.mp hq
      obtain ⟨h1, h2⟩ := List.mem_filter.mp he
      exact ⟨e, h1, h2, rfl⟩
    have asE : as0.map (·.2) = endsOf gs := by
      rw [← eas, List.map_map]
      unfold endsOf keysR
      rw [List.filter_map]
      rfl
    have asL : as0.length ≤ gs.length := by
      rw [← eas, List.length_map]
      exact List.length_filter_le _ _
    have nDG : D ≠ G := fun z => by rw [z, hl] at hD; cases hD
    have s2 : Same H (upd H1 G (dNT P w G (kvR gs))) := same_unlock gA.at_ s1
    have e2 : upd H1 G (dNT P w G (kvR gs)) D = some (.lst (as0.map fun q => V.ref q.1)) := (upd_ne nDG).trans e1
    refine ⟨s1 _ _ hl, ?_⟩
    generalize upd H1 G (dNT _ _ G (kvR gs)) = H2 at s2 e2 ⊢
    clear hl keyL s1 e1 hD
    refine ⟨.ref G, rfl, G, gs, rfl, gA.same s2, gnd, by omega, deg, cl, fun S H3 ts s3 hS TU kt => ?_⟩
    have s03 := s2.trans s3
    refine ⟨.ref D, rfl, hT.ext s03, fun fl c' H4 x4 n4 T4 el ec => ⟨[.ref S], rfl, fun H5 s5 hn inj CX => ?_⟩⟩
    generalize cloFrom _ _ [] = cells at el ec hn inj CX ⊢
    have x04 : ExtN H H4 := (ExtN.of s03).trans x4
    have x05 : ExtN H H5 := x04.trans (ExtN.of s5)
    have TU5 : GrAt P w H5 S ts := (TU.gr.extN x4).same s5
    have D5 : H5 D = some (.lst (as0.map fun q => V.ref q.1)) := s5 _ _ (x4 _ _ (s3 _ _ e2) (fun ps z => by cases z))
    have out5 : ∀ {b o}, H4 b = some o → b ∉ cellAs cells := fun {b o} e z => by
      rw [hn b z] at e
      cases e
    have nS : S ∉ cellAs cells := out5 (TU.gr.extN x4).at_
    have gk : ∀ {pl : Plc}, pl ∈ keysR gs → ∃ u ∈ ts, u.2.2.1 = pl ∧ getN (kvR ts) (keyP pl) = some (.ref u.2.1) := fun {pl} h => getR_some (by rw [kt]; exact h)
    have kSt : ∀ {x y : Plc}, (x, y) ∈ stepsOf gs → x ∈ keysR gs ∧ y ∈ keysR gs := fun {x y} h => by
      unfold stepsOf at h
      obtain ⟨e, he, h⟩ := List.mem_flatMap.mp h
      obtain ⟨q, hq, hh⟩ := List.mem_map.mp h
      cases hh
      exact ⟨List.mem_map.mpr ⟨e, he, rfl⟩, cl e he q hq⟩
    have lU : (keysR gs).length = gs.length := List.length_map _
    have bB : as0.length + 60 * gs.length * (keysR gs).length ≤ 7000000 := by
      rw [lU]
      have : 60 * gs.length * gs.length ≤ 60 * 300 * 300 := Nat.mul_le_mul (by omega) lg
      omega
    refine ⟨D, fl, fromP (stepsOf gs), as0, keysR gs, 60 * gs.length, rfl, ⟨_, _, s5 _ _ el, src_cal inj, fun H' p pl Q' s' hp hU k => ?_⟩, D5, fun q hq => ?_, bB, fun p _ => Nat.le_trans (fromP_len _ _) (stepsOf_len deg), fun q hq => ?_, fun p _ x hx => (kSt (fromP_mem.mp hx)).1, by rw [lU]; omega, fun G2 H6 ls s6 hG2 g6 nd6 re6 sv6 le6 df6 => ?_⟩
    · obtain ⟨u, mu, ku, gu⟩ := gk hU
      have T' := TU5.same s'
      refine ⟨[.ref S], CX.same s', s' _ _ (s5 _ _ ec), S, p, u.2.1, pl, ts, rfl, rfl, hp, nS, (CX.same s').ext, T'.dict, gu, fun H'' s'' => k u.2.1 u.2.2.2 H'' s'' ((T'.same s'').val u mu) ?_ (.inl ⟨_, (TU5.val u mu).1⟩)⟩
      rw [TU.from_ u mu, ku]
    · obtain ⟨e, he, _, rfl⟩ := asm0 q hq
      exact x05 _ _ (gA.key e he) (fun ps z => by cases z)
    · obtain ⟨e, he, _, rfl⟩ := asm0 q hq
      exact List.mem_map.mpr ⟨e, he, rfl⟩
    have nGG : G ≠ G2 := fun z => by
      have e := gA.extN x05
      have e := e.at_
      rw [z, hG2] at e
      cases e
    have hx5 := CX.ext
    have hx6 : ∀ c ∈ cellAs cells, ∃ φ, H6 c = some (.ext φ) := fun c hc => let ⟨φ, e⟩ := hx5 c hc; ⟨φ, s6 _ _ e⟩
    refine ⟨fun c hc => by
      obtain ⟨φ, e⟩ := hx5 c hc
      rw [s6 _ _ e, e], ?_⟩
    have n2 : G2 ∉ cellAs cells := fun z => by
      obtain ⟨φ, e⟩ := hx5 G2 z
      rw [e] at hG2
      cases hG2
    have g7 : GrAt P w (offC (cellAs cells) H6) G2 ls := g6.off hx6 n2
    have s47 : Same H4 (offC (cellAs cells) H6) := fun b o e => off_ne (out5 e) (s6 _ _ (s5 _ _ e))
    generalize offC (cellAs cells) H6 = H7 at g7 s47 ⊢
    have x07 : ExtN H H7 := x04.trans (ExtN.of s47)
    have T7 := T4.ext s47
    have gA7 := gA.extN x07
    rw [asE] at re6
    have liveI : ∀ x, x ∈ keysR ls ↔ LiveP gs x := re6
    clear hx5 hx6 g6 s6 hG2 n2 CX inj hn s5 D5 TU5 TU x05 out5 nS el ec n4 T4 x4 df6
    have inG : ∀ x, LiveP gs x → x ∈ keysR gs := fun x r => Reach.all (p := fun x => x ∈ keysR gs) (fun x hx => (List.mem_filter.mp hx).1) (fun x _ y hy => (kSt (fromP_mem.mp hy)).1) r
    have lkl : (kvR ls).length = ls.length := List.length_map _
    have lB : ∀ x, decide (x ∈ keysR ls) = liveB gs x := fun x => by
      classical
      unfold liveB
      by_cases h : LiveP gs x
      · rw [decide_eq_true h, decide_eq_true ((liveI x).mpr h)]
      · rw [decide_eq_false h, decide_eq_false fun z => h ((liveI x).mp z)]
    refine ⟨G2, dNT P w G2 (kvR ls), g7.at_, trivial, fun od => ?_⟩
    have hl : upd H7 G2 (.frz od (dNT P w G2 (kvR ls))) G2 = some (.frz od (dNT P w G2 (kvR ls))) := upd_same
    have gA8 : GrAt P w (upd H7 G2 (.frz od (dNT P w G2 (kvR ls)))) G gs := by
      have off : ∀ {c : Addr} {u : HO}, H7 c = some u → c ≠ G2 → upd H7 G2 (.frz od (dNT P w G2 (kvR ls))) c = some u := fun {c u} h n => (upd_ne n).trans h
      refine ⟨off gA7.at_ nGG, fun e he => off (gA7.key e he) fun z => ?_, fun e he => ⟨off (gA7.val e he).1 fun z => ?_, fun p hp => off ((gA7.val e he).2 p hp) fun z => ?_⟩⟩
      · have k := gA7.key e he
        rw [z, g7.at_] at k
        unfold dNT at k
        cases k
      · have k := (gA7.val e he).1
        rw [z, g7.at_] at k
        unfold dNT at k
        cases k
      · have k := (gA7.val e he).2 p hp
        rw [z, g7.at_] at k
        unfold dNT at k
        cases k
    have keyL : ∀ e ∈ ls, upd H7 G2 (.frz od (dNT P w G2 (kvR ls))) e.1 = some (vP e.2.2.1) := fun e he => by
      have z := g7.key e he
      rw [upd_ne fun y => by rw [y, g7.at_] at z; cases z]
      exact z
    refine ⟨.ref G2, rfl, G2, od, kvR ls, rfl, hl, fun R hR => ?_⟩
    have nRG : R ≠ G2 := fun z => by rw [z, hl] at hR; cases hR
    have hR0 : H7 R = none := by
      rw [upd_ne nRG] at hR
      exact hR
    refine dcK_it (κ := kNT P w) walkN (fun i H' => Same (upd H7 G2 (.frz od (dNT P w G2 (kvR ls)))) H' ∧ ∃ us : List GR, H' R = some (dNT P w R (kvR us)) ∧ us.length = i ∧ keysR us = (keysR ls).take i ∧ (∀ e ∈ us, H' e.1 = some (vP e.2.2.1) ∧ PlAt H' e.2.1 e.2.2.2 ∧ ∃ u ∈ gs, u.2.2.1 = e.2.2.1 ∧ e.2.2.2.map (·.2) = (u.2.2.2.map (·.2)).filter (liveB gs))) ⟨same_new hR, [], upd_same, rfl, rfl, (fun e h => by cases h)⟩ (fun i H' _ h => h.1 _ _ hl) ?_ ?_
    · rintro i x H1 H2 hi ⟨s1, us, e1, lt, kt, tt⟩ ⟨rfl, p, hp, rfl⟩
      obtain ⟨e, he, rfl⟩ := get_map (f := fun e : GR => (keyP e.2.2.1, e.1, V.ref e.2.1)) hp
      have me := List.mem_of_getElem? he
      have hi2 : i < ls.length := (List.getElem?_eq_some_iff.mp he).1
      obtain ⟨u, mu, ku, gu⟩ := getR_some (gs := gs) (p := e.2.2.1) (inG _ ((liveI _).mp (List.mem_map.mpr ⟨e, me, rfl⟩)))
      have gA1 := gA8.same s1
      have ke1 := s1 _ _ (keyL e me)
      refine ⟨rfl, ?_⟩
      dsimp only [tYes]
      refine iteTB rfl ⟨.ref e.1, rfl, .ref G, rfl, .ref e.1, rfl, G, kvR gs, keyP e.2.2.1, e.1, .ref u.2.1, rfl, rfl, gA1.dict, ke1, gu, u.2.1, rfl, ⟨_, SqL.of (gA1.val u mu).1⟩, fun L hL => ?_⟩
      have s3 := same_new (o := .lst []) hL
      have e3 : upd H2 L (.lst []) L = some (.lst []) := upd_same
      refine lc_list (K := K) (a := u.2.1) (xs := u.2.2.2.map fun q => V.ref q.1) (fun j H' => Same H2 H' ∧ H' L = some (.lst (((u.2.2.2.take j).filter fun q => liveB gs q.2).map fun q => V.ref q.1))) ⟨s3, e3⟩ (fun j H' _ h => SqL.of (h.1 _ _ (gA1.val u mu).1)) ?_ ?_
      · rintro j x H5 hx ⟨s5, e5⟩
        obtain ⟨q0, hq0, rfl⟩ := get_map (f := fun q : Addr × Plc => V.ref q.1) hx
        have mq := List.mem_of_getElem? hq0
        have tq := s5 _ _ ((gA1.val u mu).2 q0 mq)
        have d2 : DictT P w H5 G2 (kvR ls) := ⟨.inr ⟨od, s5 _ _ (s1 _ _ hl)⟩, fun z hz => by
          obtain ⟨y, hy, rfl⟩ := List.mem_map.mp hz
          exact s5 _ _ (s1 _ _ (keyL y hy))⟩
        refine ⟨rfl, .ref q0.1, rfl, .ref G2, rfl, G2, kvR ls, keyP q0.2, q0.1, rfl, rfl, d2, tq, _, rfl, ?_⟩
        rw [getR_is, lB]
        cases hB : liveB gs q0.2 with
        | true =>
          refine iteT ⟨.ref q0.1, rfl, _, e5, ?_, Same.store s5 hL, ?_⟩
          · rw [List.length_map]
            have z4 := deg u mu
            have z5 : ((u.2.2.2.take j).filter fun q => liveB gs q.2).length ≤ u.2.2.2.length := Nat.le_trans (List.length_filter_le _ _) (List.length_take_le' _ _)
            exact big18 (by omega)
          · rw [upd_same, take_more hq0, List.filter_append, List.map_append]
            simp [hB]
        | false =>
          refine iteF ⟨s5, ?_⟩
          rw [e5, take_more hq0, List.filter_append]
          simp [hB]
      · rintro H5 ⟨s5, e5⟩
        rw [List.length_map, List.take_length] at e5
        have e15 := s5 _ _ e1
        have ke5 := s5 _ _ ke1
        have gk : (keysR ls)[i]? = some e.2.2.1 := by unfold keysR; rw [List.getElem?_map, he]; rfl
        have nin : e.2.2.1 ∉ keysR us := by
          rw [kt]
          intro z
          obtain ⟨j, hj⟩ := List.mem_iff_getElem?.mp z
          have lj : j < i := by
            have := (List.getElem?_eq_some_iff.mp hj).1
            rw [List.length_take] at this
            omega
          rw [List.getElem?_take_of_lt lj] at hj
          have := nodup_at nd6 hj gk
          omega
        refine ⟨kvR us, keyP e.2.2.1, e.1, rfl, ⟨.inl e15, fun z hz => ?_⟩, e15, ke5, ?_, ?_⟩
        · obtain ⟨u, hu, rfl⟩ := List.mem_map.mp hz
          exact s5 _ _ (tt u hu).1
        · rw [show (kvR us).length = us.length from List.length_map _, lt]
          exact big18 (by omega)
        rw [putN_new (getR_none nin), ← kvR_app us (e.1, L, e.2.2.1, u.2.2.2.filter fun q => liveB gs q.2)]
        have off : ∀ {c : Addr} {u' : HO}, H5 c = some u' → (∀ φ, u' ≠ .ext φ) → upd H5 R (dNT P w R (kvR (us ++ [(e.1, L, e.2.2.1, u.2.2.2.filter fun q => liveB gs q.2)]))) c = some u' := fun {c u'} h n => by
          rw [upd_ne]
          · exact h
          · rintro rfl
            rw [e15] at h
            exact n _ (Option.some.inj h).symm
        refine ⟨Same.store (s1.trans s5) hR, us ++ [(e.1, L, e.2.2.1, u.2.2.2.filter fun q => liveB gs q.2)], upd_same, by rw [List.length_append, lt]; rfl, ?_, fun y hy => ?_⟩
        · rw [keysR_app, kt, take_more gk]
        · rcases List.mem_append.mp hy with h | h
          · obtain ⟨a1, a2, a3⟩ := tt y h
            exact ⟨off (s5 _ _ a1) (fun φ z => by cases z), ⟨off (s5 _ _ a2.1) (fun φ z => by cases z), fun q hq => off (s5 _ _ (a2.2 q hq)) (fun φ z => by cases z)⟩, a3⟩
          · cases List.mem_singleton.mp h
            refine ⟨off ke5 (fun φ z => by cases z), ⟨off e5 (fun φ z => by cases z), fun q hq => off (s5 _ _ ((gA1.val u mu).2 q (List.mem_filter.mp hq).1)) (fun φ z => by cases z)⟩, u, mu, ku, ?_⟩
            show (u.2.2.2.filter fun q => liveB gs q.2).map (·.2) = _
            rw [List.filter_map]
            rfl
    rintro H1 ⟨s1, us, e1, lt, kt, tt⟩
    rw [lkl] at lt kt
    rw [show (keysR ls).take ls.length = keysR ls by rw [List.take_of_length_le]; unfold keysR; rw [List.length_map]; exact Nat.le_refl _] at kt
    have nG : ∀ {c : Addr} {u : HO}, H1 c = some u → (∀ o v, u ≠ .frz o v) → upd H1 G2 (dNT P w G2 (kvR ls)) c = some u := fun {c u} h n => by
      rw [upd_ne fun z => by
        rw [z, s1 _ _ hl] at h
        exact n _ _ (Option.some.inj h).symm]
      exact h
    have s78 : Same H7 (upd H1 G2 (dNT P w G2 (kvR ls))) := same_unlock g7.at_ s1
    refine ⟨s1 _ _ hl, q R _ us (x07.trans (ExtN.of s78)) (T7.ext s78) ⟨nG e1 (fun o v z => by unfold dNT at z; cases z), fun e he => nG (tt e he).1 (fun o v z => by cases z), fun e he => ⟨nG (tt e he).2.1.1 (fun o v z => by cases z), fun p hp => nG ((tt e he).2.1.2 p hp) (fun o v z => by cases z)⟩⟩ (by rw [kt]; exact nd6) (fun x => by rw [kt]; exact liveI x) fun e he => (tt e he).2.2⟩
end
end K19
namespace K19
open PySem PySem.Spec PyProof.Rows L2 OF LamX NdefX
abbrev sPlain : Stmt := topS 49
section
variable {P : Program} {w : World} {K : PySem.W.Frag} {mg : Str → Option Value} {base : Heap}
/-! ### place_graph, its lists told -/
theorem follow_fol {H : Hp} {f fB : Addr} {fdB : FuncData} {b : Int} {D : Addr} {ds : List Int} {ks : List (Addr × (Int × Int))} {U : List Plc} (FA : FollowAt P w H f b D ds ks) (few : ds.length ≤ 60) (b0 : b ≠ 0) (b6 : b.natAbs ≤ 6) (kU : ∀ p ∈ U, p.2 ∈ none :: ds.map some)
    (GB : FnOk P w K mg base CX0 1 fB fdB ["base", "digits", "rest"] (spBehind K)) (gB : mg "places_behind" = some (.ref fB)) (kB : PySem.W.keepIn K (.ref fB) = true) (bB : Binds K fdB ["base", "digits", "rest"] []) :
    FolG P w K mg base H f (sucP b ds ks) U := by
  obtain ⟨cl, c', eg, inj, caps, ec, nD, LA⟩ := FA
  refine ⟨_, _, eg, step_cal inj GB gB kB bB, fun H' p pl Q s hp hU k => ⟨[.int b, .ref D], caps.same s, s _ _ ec, p, pl.1, pl.2, rfl, rfl, hp, kU _ hU, nD, (caps.same s).ext, LA.extN (ExtN.of s), few, b0, b6, fun L H2 s2 PL nw => ?_⟩⟩
  obtain ⟨ps, ep, eL, tp⟩ := PL
  refine k L (ps.map fun z => (z.1, (z.2.1, some z.2.2))) H2 s2 ⟨by rw [List.map_map]; exact eL, fun q hq => ?_⟩ ?_ (.inr nw)
  · obtain ⟨z, hz, rfl⟩ := List.mem_map.mp hq
    exact tp z hz
  · unfold sucP
    rw [← ep, List.map_map, List.map_map]
    rfl
def spPGraphR (P : Program) (w : World) (C : Addr) (T : List (Addr × Str)) : Sp := fun vs H Q _ => ∃ (S a t r : Addr) (b : Int) (ds : List Int) (ks : List (Addr × (Int × Int))) (as : List (Addr × Plc)) (U : List Plc), vs = [.ref a, .ref S] ∧ SchemeAt C H a t r b ds ks ∧ Tabs T H ∧ H S = some (.lst (as.map fun p => V.ref p.1)) ∧
  (∀ p ∈ as, H p.1 = some (vP p.2)) ∧ as.length ≤ 1000 ∧ ds.length ≤ 60 ∧ b ≠ 0 ∧ b.natAbs ≤ 6 ∧ (∀ p ∈ as, p.2 ∈ U) ∧ Bound b ds ks U ∧
  ∀ (G : Addr) (H' : Hp) (gs : List GR), ExtN H H' → Tabs T H' → GrAt P w H' G gs → (keysR gs).Nodup → (∀ x, x ∈ keysR gs ↔ Reach (sucP b ds ks) (as.map (·.2)) x) → (∀ e ∈ gs, e.2.2.2.map (·.2) = sucP b ds ks e.2.2.1) → gs.length ≤ U.length → Q (.ref G) H'
theorem sucP_len {b : Int} {ds : List Int} {ks : List (Addr × (Int × Int))} (p : Plc) : (sucP b ds ks p).length ≤ ds.length := by
  unfold sucP plc leftOf
  rw [List.length_map, List.length_map]
  exact Nat.le_trans (List.length_filter_le _ _) (List.length_filter_le _ _)
theorem ok_pgraphR {f fG fF fB C : Addr} {fd fdG fdF fdB : FuncData} {T : List (Addr × Str)} (F : Fun K "place_graph" "place_graph" sPGraph f fd)
    (GG : FnOk P w K mg base CX0 3 fG fdG ["starts", "follow"] (spGraphF P w K mg base)) (gG : mg "graph_from" = some (.ref fG)) (kG : PySem.W.keepIn K (.ref fG) = true) (bG : Binds K fdG ["starts", "follow"] [])
    (GF : FnOk P w K mg base CX0 8 fF fdF ["scheme"] (spFollow P w C T)) (gF : mg "follower" = some (.ref fF)) (kF : PySem.W.keepIn K (.ref fF) = true) (bF : Binds K fdF ["scheme"] [])
    (GB : FnOk P w K mg base CX0 1 fB fdB ["base", "digits", "rest"] (spBehind K)) (gB : mg "places_behind" = some (.ref fB)) (kB : PySem.W.keepIn K (.ref fB) = true) (bB : Binds K fdB ["base", "digits", "rest"] []) :
    FnOk P w K mg base CX0 9 f fd ["scheme", "starts"] (spPGraphR P w C T) := by
  refine F.ok scPg (fun vs H Q E h => ?_) (fun cdv A outer s H vs Q E hr h => ?_)
  · obtain ⟨S, a, t, r, b, ds, ks, as, U, rfl, _⟩ := h
    rfl
  · obtain ⟨S, a, t, r, b, ds, ks, as, U, rfl, Sc, hT, hS, hA, lA, few, b0, b6, sU, BU, q⟩ := h
    have hr3 : Room 3 _ := hr.mono (by decide)
    refine ⟨_, pss_one (ps_ret (pe_call GG hr3 (by rfl) gG kG bG .nil pass0 (pa_cons (pv 1) (pa_cons (pe_call GF hr (by rfl) gF kF bF .nil pass0 (pa_cons (pv 0) pa_nil)) pa_nil)))), ?_⟩
    refine ⟨.ref S, rfl, .ref a, rfl, a, t, r, b, ds, ks, rfl, Sc, few, hT, fun g D H1 e1 T1 FA => ?_⟩
    have lB : as.length + 60 * U.length ≤ 7000000 := by
      have := BU.len
      omega
    refine ⟨S, g, sucP b ds ks, as, U, 60, rfl, follow_fol FA few b0 b6 BU.key GB gB kB bB, e1 _ _ hS (fun ps z => by cases z), fun p hp => e1 _ _ (hA p hp) (fun ps z => by cases z), lB, fun p _ => Nat.le_trans (sucP_len p) few, sU, BU.cl, BU.len, fun G H2 gs s2 hG gA nd re sv le df => ?_⟩
    exact q G H2 gs (e1.trans (ExtN.of s2)) (T1.ext s2) gA nd re sv le
/-! ### what _plain_graph answers -/
/-- the places one step further -/
def nxt (gs : List GR) (x : Plc) : List Plc := ((stepsOf gs).filter fun z => decide (z.1 = x)).map (·.2)
theorem steps_mem {gs : List GR} {x y : Plc} : (x, y) ∈ stepsOf gs ↔ ∃ e ∈ gs, e.2.2.1 = x ∧ y ∈ e.2.2.2.map (·.2) := by
  unfold stepsOf
  rw [List.mem_flatMap]
  constructor
  · rintro ⟨e, he, h⟩
    obtain ⟨q, hq, hh⟩ := List.mem_map.mp h
    cases hh
    exact ⟨e, he, rfl, List.mem_map.mpr ⟨q, hq, rfl⟩⟩
  · rintro ⟨e, he, rfl, h⟩
    obtain ⟨q, hq, rfl⟩ := List.mem_map.mp h
    exact ⟨e, he, List.mem_map.mpr ⟨q, hq, rfl⟩⟩
theorem nxt_mem {gs : List GR} {x y : Plc} : y ∈ nxt gs x ↔ (x, y) ∈ stepsOf gs := by
  unfold nxt
  constructor
  · intro h
    obtain ⟨z, hz, rfl⟩ := List.mem_map.mp h
    obtain ⟨h1, h2⟩ := List.mem_filter.mp hz
    rw [← of_decide_eq_true h2]
    exact h1
  · intro h
    exact List.mem_map.mpr ⟨_, List.mem_filter.mpr ⟨h, decide_eq_true rfl⟩, rfl⟩
theorem reach_pre {α : Type} {succ : α → List α} {x y z : α} (h : y ∈ succ x) (r : Reach succ [y] z) : Reach succ [x] z := by
  induction r with
  | start h2 =>
    cases List.mem_singleton.mp h2
    exact .step (.start List.mem_cons_self) h
  | step _ h2 ih => exact .step ih h2
structure Plain (P : Program) (w : World) (H : Hp) (R : Addr) (ds : List Int) (n : Int) (ls : List GR) : Prop where
  gr : GrAt P w H R ls
  nd : (keysR ls).Nodup
  len : ls.length ≤ 300
  deg : ∀ e ∈ ls, e.2.2.2.length ≤ 60
  cl : ∀ e ∈ ls, ∀ q ∈ e.2.2.2, q.2 ∈ keysR ls
  dg : ∀ e ∈ ls, ∀ q ∈ e.2.2.2, ∃ d ∈ ds, q.2.2 = some d
  fin : ∀ x ∈ keysR ls, ∃ y ∈ keysR ls, endP y = true ∧ Reach (nxt ls) [x] y
  st : ∀ x ∈ keysR ls, Reach (nxt ls) [(n, none)] x
  s0 : ∀ x ∈ keysR ls, ((n, none) : Plc) ∈ keysR ls
def spPlain (P : Program) (w : World) (C : Addr) (T : List (Addr × Str)) : Sp := fun vs H Q _ => ∃ (a t r : Addr) (n b : Int) (ds : List Int) (ks : List (Addr × (Int × Int))) (U : List Plc), vs = [.ref a, .int n] ∧ SchemeAt C H a t r b ds ks ∧ Tabs T H ∧ ds.length ≤ 60 ∧ b ≠ 0 ∧ b.natAbs ≤ 6 ∧ ((n, none) : Plc) ∈ U ∧ Bound b ds ks U ∧ U.length ≤ 300 ∧
  ∀ (R : Addr) (H' : Hp) (ls : List GR), ExtN H H' → Tabs T H' → Plain P w H' R ds n ls → Q (.ref R) H'
abbrev nPl : List Str := ["scheme", "number"]
theorem scPl : FnScope nPl ["scheme", "number"] (defScope sPlain) := ⟨rfl, rfl, rfl, by decide +kernel, rfl, by decide +kernel, by decide +kernel⟩
theorem ok_plain {f fG fL C : Addr} {fd fdG fdL : FuncData} {T : List (Addr × Str)} (F : Fun K "_plain_graph" "_plain_graph" sPlain f fd)
    (GG : FnOk P w K mg base CX0 9 fG fdG ["scheme", "starts"] (spPGraphR P w C T)) (gG : mg "place_graph" = some (.ref fG)) (kG : PySem.W.keepIn K (.ref fG) = true) (bG : Binds K fdG ["scheme", "starts"] [])
    (GL : FnOk P w K mg base CX0 4 fL fdL ["graph"] (spLive P w T)) (gL : mg "live_graph" = some (.ref fL)) (kL : PySem.W.keepIn K (.ref fL) = true) (bL : Binds K fdL ["graph"] []) :
    FnOk P w K mg base CX0 10 f fd ["scheme", "number"] (spPlain P w C T) := by
  refine F.ok scPl (fun vs H Q E h => ?_) (fun cdv A outer s H vs Q E hr h => ?_)
  · obtain ⟨a, t, r, n, b, ds, ks, U, rfl, _⟩ := h
    rfl
  · obtain ⟨a, t, r, n, b, ds, ks, U, rfl, Sc, hT, few, b0, b6, nU, BU, lU, q⟩ := h
    have hr4 : Room 4 _ := hr.mono (by decide)
    refine ⟨_, pss_one (ps_ret (pe_call GL hr4 (by rfl) gL kL bL .nil pass0 (pa_cons (pe_call GG hr (by rfl) gG kG bG .nil pass0 (pa_cons (pv 0) (pa_cons (pe_lst (pa_cons (pe_tup (pa_cons (pv 1) (pa_cons pe_non pa_nil))) pa_nil)) pa_nil))) pa_nil))), ?_⟩
    refine ⟨.ref a, rfl, .int n, rfl, (by show 2 ≤ sizeLine; decide), fun p hp => ⟨(by show 1 ≤ sizeLine; decide), fun S hS => ?_⟩⟩
    have s1 := same_new (o := .tup [.int n, .non]) hp
    have e1 : upd H p (.tup [.int n, .non]) p = some (.tup [.int n, .non]) := upd_same
    generalize upd H p (.tup [.int n, .non]) = H1 at s1 e1 hS ⊢
    have s2 := same_new (o := .lst [.ref p]) hS
    have e2 : upd H1 S (.lst [.ref p]) S = some (.lst [.ref p]) := upd_same
    have e3 := s2 _ _ e1
    generalize upd H1 S (.lst [.ref p]) = H2 at s2 e2 e3 ⊢
    have s3 := s1.trans s2
    refine ⟨S, a, t, r, b, ds, ks, [(p, (n, none))], U, rfl, Sc.same s3, hT.ext s3, e2, fun z hz => ?_, (by show 1 ≤ 1000; decide), few, b0, b6, fun z hz => ?_, BU, fun G H3 gs x3 T3 gA nd re sv le => ?_⟩
    · cases List.mem_singleton.mp hz
      exact e3
    · cases List.mem_singleton.mp hz
      exact nU
    have inU : ∀ x, x ∈ keysR gs → x ∈ U := fun x hx => Reach.all (p := fun x => x ∈ U) (fun x hx => by cases List.mem_singleton.mp hx; exact nU) (fun x hx y hy => BU.cl x hx y hy) ((re x).mp hx)
    have svm : ∀ e ∈ gs, ∀ q ∈ e.2.2.2, q.2 ∈ sucP b ds ks e.2.2.1 := fun e he q hq => by
      rw [← sv e he]
      exact List.mem_map.mpr ⟨q, hq, rfl⟩
    have lg : gs.length ≤ 300 := Nat.le_trans le lU
    have deg : ∀ e ∈ gs, e.2.2.2.length ≤ 60 := fun e he => by
      have z := congrArg List.length (sv e he)
      rw [List.length_map] at z
      rw [z]
      exact Nat.le_trans (sucP_len _) few
    have cl : ∀ e ∈ gs, ∀ q ∈ e.2.2.2, q.2 ∈ keysR gs := fun e he q hq => (re _).mpr (.step ((re _).mp (List.mem_map.mpr ⟨e, he, rfl⟩)) (svm e he q hq))
    refine ⟨G, gs, rfl, gA, nd, lg, deg, cl, T3, fun R H4 ls x4 T4 lA ln lk lr => q R H4 ls ((ExtN.of s3).trans (x3.trans x4)) T4 ?_⟩
    have liveD : ∀ x, liveB gs x = true ↔ LiveP gs x := fun x => by
      classical
      unfold liveB
      exact decide_eq_true_iff
    have lmem : ∀ e ∈ ls, ∀ y, y ∈ e.2.2.2.map (·.2) ↔ (e.2.2.1, y) ∈ stepsOf gs ∧ LiveP gs y := fun e he y => by
      obtain ⟨u, hu, ku, eu⟩ := lr e he
      rw [eu, List.mem_filter, liveD, steps_mem]
      constructor
      · rintro ⟨h1, h2⟩
        exact ⟨⟨u, hu, ku, h1⟩, h2⟩
      · rintro ⟨⟨u2, hu2, ku2, h1⟩, h2⟩
        have := map_one nd hu2 hu (ku2.trans ku.symm)
        subst this
        exact ⟨h1, h2⟩
    have nl : ∀ {x y : Plc}, LiveP gs x → LiveP gs y → (x, y) ∈ stepsOf gs → y ∈ nxt ls x := fun {x y} hx hy h => by
      obtain ⟨e, he, ke⟩ := List.mem_map.mp ((lk x).mpr hx)
      exact nxt_mem.mpr (steps_mem.mpr ⟨e, he, ke, (lmem e he y).mpr ⟨by rw [show e.2.2.1 = x from ke]; exact h, hy⟩⟩)
    have lin : ∀ x, LiveP gs x → x ∈ keysR gs := fun x r => Reach.all (p := fun x => x ∈ keysR gs) (fun x hx => (List.mem_filter.mp hx).1) (fun x _ y hy => by
      obtain ⟨e, he, ke, _⟩ := steps_mem.mp (fromP_mem.mp hy)
      exact List.mem_map.mpr ⟨e, he, ke⟩) r
    have stp : ∀ {x y : Plc}, x ∈ keysR gs → y ∈ sucP b ds ks x → (x, y) ∈ stepsOf gs := fun {x y} hx hy => by
      obtain ⟨e, he, ke⟩ := List.mem_map.mp hx
      refine steps_mem.mpr ⟨e, he, ke, ?_⟩
      rw [sv e he, show e.2.2.1 = x from ke]
      exact hy
    have back : ∀ {x y : Plc}, (x, y) ∈ stepsOf gs → LiveP gs y → LiveP gs x := fun {x y} h hy => .step hy (fromP_mem.mpr h)
    have fst : ∀ x, Reach (sucP b ds ks) [((n, none) : Plc)] x → LiveP gs x → Reach (nxt ls) [((n, none) : Plc)] x ∧ LiveP gs (n, none) := fun x r => by
      induction r with
      | start h =>
        intro hl
        cases List.mem_singleton.mp h
        exact ⟨.start List.mem_cons_self, hl⟩
      | @step x y r h ih =>
        intro hl
        have sx := stp ((re x).mpr r) h
        have lx := back sx hl
        obtain ⟨i1, i2⟩ := ih lx
        exact ⟨.step i1 (nl lx hl sx), i2⟩
    refine ⟨lA, ln, ?_, fun e he => ?_, fun e he q hq => ?_, fun e he q hq => ?_, fun x hx => ?_, fun x hx => (fst x ((re x).mp (lin x ((lk x).mp hx))) ((lk x).mp hx)).1, fun x hx => (lk _).mpr (fst x ((re x).mp (lin x ((lk x).mp hx))) ((lk x).mp hx)).2⟩
    · have := nodup_le (keysR ls) (keysR gs) ln fun x hx => lin x ((lk x).mp hx)
      rw [show (keysR ls).length = ls.length from List.length_map _, show (keysR gs).length = gs.length from List.length_map _] at this
      omega
    · obtain ⟨u, hu, ku, eu⟩ := lr e he
      have z := congrArg List.length eu
      rw [List.length_map] at z
      rw [z]
      refine Nat.le_trans (List.length_filter_le _ _) ?_
      rw [List.length_map]
      exact deg u hu
    · exact (lk _).mpr ((lmem e he q.2).mp (List.mem_map.mpr ⟨q, hq, rfl⟩)).2
    · obtain ⟨u, hu, ku, hy⟩ := steps_mem.mp ((lmem e he q.2).mp (List.mem_map.mpr ⟨q, hq, rfl⟩)).1
      obtain ⟨q2, hq2, e2⟩ := List.mem_map.mp hy
      have z := svm u hu q2 hq2
      rw [e2] at z
      unfold sucP at z
      obtain ⟨y, hy, ey⟩ := List.mem_map.mp z
      unfold plc at hy
      obtain ⟨d, hd, rfl⟩ := List.mem_map.mp hy
      refine ⟨d, ?_, by rw [← ey]⟩
      have := (List.mem_filter.mp hd).1
      unfold leftOf at this
      exact (List.mem_filter.mp this).1
    · have r := (lk x).mp hx
      induction r with
      | start h =>
        exact ⟨_, hx, (List.mem_filter.mp h).2, .start List.mem_cons_self⟩
      | @step x y r h ih =>
        have lx : LiveP gs x := r
        obtain ⟨z, hz, ez, rz⟩ := ih ((lk x).mpr lx)
        exact ⟨z, hz, ez, reach_pre (nl ((lk y).mp hx) lx (fromP_mem.mp h)) rz⟩
end
end K19
/-! Lists backwards: xs[:0:-1]; d[k] op= e, k a tuple of None and ints. -/
namespace OF
open PySem PySem.Spec PyProof.Rows L2
theorem bounds_rev0 (n : Nat) (h : 0 < n) : sliceBounds none (some 0) (some (-1)) n = ((n : Int) - 1, 0, -1) := by
  simp only [sliceBounds, Option.getD_some]
  have h1 : ¬ ((-1 : Int) > 0) := by decide
  simp only [h1, if_false, show ¬ ((0 : Int) < 0) by decide]
  congr 2
  omega
theorem range_rev0 (n : Nat) (h : 0 < n) : sliceRange ((n : Int) - 1) 0 (-1) = (List.range (n - 1)).map fun k => n - 1 - k := by
  unfold sliceRange
  have h1 : ¬ ((-1 : Int) > 0) := by decide
  by_cases h2 : (n : Int) - 1 > 0
  · have e : ((n : Int) - 1 - 0 - -1 - 1) / (- -1) = ((n - 1 : Nat) : Int) := by
      rw [show (- -1 : Int) = 1 by decide, Int.ediv_one]
      omega
    simp only [h1, if_false, h2, if_true, e, Int.toNat_natCast]
    apply List.map_congr_left
    intro k hk
    have := List.mem_range.mp hk
    omega
  · have e : n = 1 := by omega
    subst e
    simp
theorem range_split (n : Nat) (h : 0 < n) : ((List.range (n - 1)).map fun k => n - 1 - k) ++ [0] = (List.range n).reverse := by
  rw [← PySem.W.krv_range n]
  obtain ⟨m, rfl⟩ : ∃ m, n = m + 1 := ⟨n - 1, by omega⟩
  rw [List.range_succ, List.map_append]
  simp
theorem pick_rev0 (x : Value) (its : List Value) : slicePick (x :: its).toArray none (some 0) (some (-1)) = its.reverse.toArray := by
  unfold slicePick
  have sz : (x :: its).toArray.size = its.length + 1 := by simp
  rw [sz, bounds_rev0 _ (by omega)]
  show ((sliceRange (((its.length + 1 : Nat) : Int) - 1) 0 (-1)).filterMap ((x :: its).toArray[·]?)).toArray = _
  rw [range_rev0 _ (by omega)]
  congr 1
  have a := range_split (its.length + 1) (by omega)
  have b : (((List.range (its.length + 1 - 1)).map fun k => its.length + 1 - 1 - k) ++ [0]).filterMap ((x :: its).toArray[·]?) = (x :: its).reverse := by
    rw [a, List.filterMap_reverse, ← sz, PySem.W.krv_all]
  rw [List.filterMap_append, List.reverse_cons] at b
  have c : List.filterMap (fun k => (x :: its).toArray[k]?) [0] = [x] := by simp
  rw [c] at b
  exact List.append_cancel_right b
section
variable {X : Cx}
/-- xs[:0:-1] -/
def tRevL0 (K : PySem.W.Frag) (te : TE) : TE := fun σ H Q => te σ H fun x H1 => ∃ a y xs, x = .ref a ∧ SqL K H1 a (y :: xs) ∧ ∀ p, H1 p = none → Q (.ref p) (upd H1 p (.lst xs.reverse))
theorem pe_revL0 {e : Expr} {te : TE} {k k0 : Nat} {p0 p1 p2 p3 pos : Pos} (he : PE X e te) : PE X (.Subscript e (.Slice none (some (.Constant (.int 0) k0 p0)) (some (.UnaryOp .USub (.Constant (.int 1) k p1) p2)) p3) pos) (tRevL0 X.K te) := by
  refine ⟨fun pins s σ H Q I h => ?_⟩
  refine Subscript_ (thn (he.run pins s σ H _ I h) fun v s1 ⟨x, H1, I1, r1, q1⟩ => ?_)
  obtain ⟨a, y, xs, ex, hx, q⟩ := q1
  subst ex
  cases r1
  have hst : PO X (some (.UnaryOp .USub (.Constant (.int 1) k p1) p2)) (tPart (tUn (rU fun i => .int (-i)) (tC (.int 1)))) := po_some (pe_un un_neg pe_int)
  have hup : PO X (some (.Constant (.int 0) k0 p0)) (tPart (tC (.int 0))) := po_some pe_int
  refine wpAny_Slice (thn (po_none.run pins s1 σ H1 (fun o H2 => o = none ∧ H2 = H1) I1 ⟨rfl, rfl⟩) fun vl s2 ⟨l, H2, I2, pl, el, e2⟩ => ?_)
  subst el e2
  refine thn (hup.run pins s2 σ H2 (fun o H3 => o = some 0 ∧ H3 = H2) I2 ⟨0, rfl, rfl, rfl⟩) fun vu s3 ⟨u, H3, I3, pu, eu, e3⟩ => ?_
  subst eu e3
  cases pl
  refine thn (hst.run pins s3 σ H3 (fun o H4 => o = some (-1) ∧ H4 = H3) I3 ⟨1, rfl, -1, rfl, rfl, rfl⟩) fun vs s4 ⟨o, H4, I4, ps, eo, e4⟩ => ?_
  subst eo e4
  have I5 : Inv X pins σ H4 { s4 with heap := s4.heap.push { cls := .type "slice", data := .fields #[.none, vu, vs] } } := I4.kept (t' := s4.toks) fun b ob q => Heap.get?_push_of_some _ q
  obtain ⟨its, r, ht, hz⟩ := I5.list hx
  have hlen := r.length
  show wpAny (model X.prog X.w) X.A (subscriptTail e (.Slice none (some (.Constant (.int 0) k0 p0)) (some (.UnaryOp .USub (.Constant (.int 1) k p1) p2)) p3) (.ref a) (.ref s4.heap.objs.size)) (EP X pins σ Q) X.xe { s4 with heap := s4.heap.push { cls := .type "slice", data := .fields #[.none, vu, vs] } }
  refine tail_any (ops := [.ref a, .ref s4.heap.objs.size]) ht.isList.typeIs (slot_list_getitem.lookup) ?_ (by with_unfolding_all rfl)
  refine wpAny_getItem_list_slice ht.isList (Heap.IsSliceOf.new _ .none vu vs) .none pu ps (by decide) ?_ (by rw [List.size_toArray]; omega)
  cases r with
  | cons r0 r =>
    rw [pick_rev0]
    refine ⟨.ref _, _, I5.laid (t' := s4.toks) (o := .lst xs.reverse) (fun b ob q => Heap.get?_push_of_some _ q) (Nat.le_refl _) ?_, rfl, q _ (I5.hok.fresh (Nat.le_refl _))⟩
    refine ⟨?_, _, 0, Vals.reverse r, Heap.get?_push_size _ rfl⟩
    rw [List.length_reverse]
    rw [List.length_cons] at hz
    omega
theorem get_dictNT (hu : X.A.units + 1 < cLine) : PGet X (rIxNT X) := by
  intro pins s σ H x y v u Q I rx ry q
  obtain ⟨a, kvs, k, b, z, rfl, rfl, D, eb, there, q⟩ := q
  cases (show v = Value.ref a from rx)
  cases (show u = Value.ref b from ry)
  obtain ⟨few, n, xs, rel, dd⟩ := dnt_of I.hok D
  have got := KN.get rel k
  rw [there] at got
  obtain ⟨z2, e2, r2⟩ := RelO.some_of got
  obtain ⟨p, e3, e4⟩ := Option.map_eq_some_iff.mp e2
  refine wpAny_getItem_heap (tupleKind_room_in1 hu) (nKey I.hok eb) dd e3 ?_
  rw [e4]
  exact ⟨z, H, I.tok _, r2, q⟩
end
end OF
namespace K19
open PySem PySem.Spec PyProof.Rows L2 OF LamX NdefX
abbrev sUnt : Stmt := topS 33
section
variable {P : Program} {w : World} {K : PySem.W.Frag} {mg : Str → Option Value} {base : Heap}
/-! ### untangled: it ends, and answers places -/
abbrev WR := Addr × Plc × Int
def kvW (ws : List WR) : List KeyT := ws.map fun e => (keyP e.2.1, e.1, V.int e.2.2)
def keysW (ws : List WR) : List Plc := ws.map (·.2.1)
def setW (ws : List WR) (p : Plc) (v : Int) : List WR := ws.map fun e => if e.2.1 = p then (e.1, e.2.1, v) else e
theorem getW_some {p : Plc} : ∀ {ws : List WR}, p ∈ keysW ws → ∃ e ∈ ws, e.2.1 = p ∧ getN (kvW ws) (keyP p) = some (.int e.2.2)
  | [], h => by cases h
  | e :: ws, h => by
    by_cases k : e.2.1 = p
    · refine ⟨e, List.mem_cons_self, k, ?_⟩
      unfold getN kvW
      rw [List.map_cons, List.find?_cons, decide_eq_true (congrArg keyP k)]
      rfl
    · unfold keysW at h
      rw [List.map_cons] at h
      rcases List.mem_cons.mp h with h | h
      · exact absurd h.symm k
      · obtain ⟨u, hu, ku, g⟩ := getW_some (ws := ws) h
        refine ⟨u, List.mem_cons_of_mem _ hu, ku, ?_⟩
        unfold getN kvW at g ⊢
        rw [List.map_cons, List.find?_cons, decide_eq_false (fun z => k (keyP_inj z))]
        exact g
theorem putW {ws : List WR} {p : Plc} {b : Addr} {v : Int} (h : p ∈ keysW ws) : putN (kvW ws) (keyP p) b (.int v) = kvW (setW ws p v) := by
  obtain ⟨_, _, _, g⟩ := getW_some h
  unfold putN
  rw [g]
  show (kvW ws).map _ = _
  unfold kvW setW
  rw [List.map_map, List.map_map]
  refine List.map_congr_left fun e _ => ?_
  simp only [Function.comp]
  by_cases k : e.2.1 = p
  · rw [if_pos (congrArg keyP k), if_pos k]
  · rw [if_neg (fun z => k (keyP_inj z)), if_neg k]
theorem setW_keys {ws : List WR} {p : Plc} {v : Int} : keysW (setW ws p v) = keysW ws := by
  unfold keysW setW
  rw [List.map_map]
  refine List.map_congr_left fun e _ => ?_
  simp only [Function.comp]
  split <;> rfl
theorem setW_mem {ws : List WR} {p : Plc} {v : Int} {e : WR} (h : e ∈ setW ws p v) : (∃ u ∈ ws, u.2.1 = p ∧ e = (u.1, u.2.1, v)) ∨ (e ∈ ws ∧ e.2.1 ≠ p) := by
  unfold setW at h
  obtain ⟨u, hu, rfl⟩ := List.mem_map.mp h
  by_cases k : u.2.1 = p
  · rw [if_pos k]
    exact .inl ⟨u, hu, k, rfl⟩
  · rw [if_neg k]
    exact .inr ⟨hu, k⟩
theorem same_lock {H H2 : Hp} {G : Addr} {o : HO} (s : Same H H2) : Same (upd H G o) (upd H2 G o) := fun c u e => by
  by_cases z : c = G
  · subst z
    rw [upd_same] at e ⊢
    exact e
  · rw [upd_ne z] at e ⊢
    exact s _ _ e
theorem take_nin {α : Type} {l : List α} {i : Nat} {x : α} (nd : l.Nodup) (h : l[i]? = some x) : x ∉ l.take i := fun z => by
  obtain ⟨j, hj⟩ := List.mem_iff_getElem?.mp z
  have lj : j < i := by
    have := (List.getElem?_eq_some_iff.mp hj).1
    rw [List.length_take] at this
    omega
  rw [List.getElem?_take_of_lt lj] at hj
  have := nodup_at nd hj h
  omega
structure WAt (P : Program) (w : World) (H0 H : Hp) (W : Addr) (gs : List GR) (ws : List WR) : Prop where
  at_ : H W = some (dNT P w W (kvW ws))
  ks : keysW ws = keysR gs
  key : ∀ e ∈ ws, H0 e.1 = some (vP e.2.1)
theorem WAt.dict {H0 H : Hp} {W : Addr} {gs : List GR} {ws : List WR} (h : WAt P w H0 H W gs ws) (tup : ∀ {c : Addr} {xs : List V}, H0 c = some (.tup xs) → H c = some (.tup xs)) : DictT P w H W (kvW ws) :=
  ⟨.inl h.at_, fun p hp => by
    obtain ⟨e, he, rfl⟩ := List.mem_map.mp hp
    exact tup (h.key e he)⟩
theorem WAt.put {H0 H : Hp} {W : Addr} {gs : List GR} {ws : List WR} (h : WAt P w H0 H W gs ws) (p : Plc) (v : Int) : WAt P w H0 (upd H W (dNT P w W (kvW (setW ws p v)))) W gs (setW ws p v) :=
  ⟨upd_same, setW_keys.trans h.ks, fun e he => by
    rcases setW_mem he with ⟨u, hu, _, rfl⟩ | ⟨h1, _⟩
    · exact h.key u hu
    · exact h.key e h1⟩
theorem WAt.len {H0 H : Hp} {W : Addr} {gs : List GR} {ws : List WR} (h : WAt P w H0 H W gs ws) : (kvW ws).length = gs.length := by
  have := congrArg List.length h.ks
  unfold keysW keysR at this
  rw [List.length_map, List.length_map] at this
  unfold kvW
  rw [List.length_map]
  exact this
def spUnt (P : Program) (w : World) : Sp := fun vs H Q _ => ∃ (G : Addr) (gs : List GR), vs = [.ref G] ∧ GrAt P w H G gs ∧ (keysR gs).Nodup ∧ gs.length ≤ 300 ∧ (∀ e ∈ gs, ∀ q ∈ e.2.2.2, q.2 ∈ keysR gs) ∧
  ∀ (O : Addr) (H' : Hp) (os : List (Addr × Plc)), Same H H' → PlAt H' O os → (∀ q ∈ os, q.2 ∈ keysR gs) → (os.map (·.2)).Nodup → Q (.ref O) H'
abbrev nUn : List Str := ["graph", "node", "waiting", "other", "stack", "ordered"]
theorem scUn : FnScope nUn ["graph"] (defScope sUnt) := ⟨rfl, rfl, rfl, by decide +kernel, rfl, by decide +kernel, by decide +kernel⟩
set_option maxHeartbeats 2000000 in
theorem ok_unt {f : Addr} {fd : FuncData} (F : Fun K "untangled" "untangled" sUnt f fd) : FnOk P w K mg base CX0 1 f fd ["graph"] (spUnt P w) := by
  refine F.ok scUn (fun vs H Q E h => ?_) (fun cdv A outer s H vs Q E hr h => ?_)
  · obtain ⟨G, gs, rfl, _⟩ := h
    rfl
  · obtain ⟨G, gs, rfl, gA, gnd, lg, cl, q⟩ := h
    apply Exists.intro
    apply And.intro
    · apply pss_cons
      · exact ps_set (i := 2) scUn.nd rfl (.inr rfl) (pe_lock (pe_dcK (κ := kNT P w) (own := [("node", 1)]) (g := gName 1) (tt := tYes) (tk := tVar 1) (tv := tC (.int 0)) (by exact Nat.lt_of_succ_lt (hu_of hr)) rfl scUn.nd (pi_keysN (pv 0))
          (blkOk_by (own := [("node", 1)]) (N := nUn) (sc := defScope sUnt) (by decide +kernel)) (fun _ _ _ _ _ => pg_name (i := 1) scUn.nd rfl (Or.inl rfl)) (fun _ _ _ _ _ => by exact pts_nil) (fun _ _ _ _ _ => by exact (pv 1)) (fun _ _ _ _ _ => by exact pe_int)))
      apply pss_cons
      · exact ps_lock (ps_for PassesOwn.never rfl (pi_keysN (pv 0)) (pg_name (i := 1) scUn.nd rfl (.inl rfl))
          (pss_one (ps_for PassesOwn.never rfl (pi_list (pe_ix (ix_dictNT (hu_of hr)) (pv 0) (pv 1) (fun _ _ => rfl))) (pg_name (i := 3) scUn.nd rfl (.inl rfl))
            (pss_one (ps_augS (pv 2) (pv 3) (get_dictNT (hu_of hr)) pe_int ip_add (set_dictNT (hu_of hr)))))))
      apply pss_cons
      · exact ps_lock (ps_setLc (i := 4) (own := [("node", 1)]) (g := gName 1) (tt := tTest (tOp rEq (tOp (rIxNT (cxOf CX0 P w K mg base nUn "untangled" (defScope sUnt) f cdv A outer s H E)) (tVar 2) (tVar 1)) (tC (.int 0)))) (te := tVar 1) rfl scUn.nd rfl rfl (sw_true rfl rfl rfl (by decide +kernel)) (pi_keysN (pv 0)) (blkOk_by (own := [("node", 1)]) (N := nUn) (sc := defScope sUnt) (by decide +kernel)) (fun _ _ _ _ _ => pg_name (i := 1) scUn.nd rfl (Or.inl rfl))
            (fun _ _ _ _ _ => by exact (pts_one (pt_cmpR op_eq (pe_ix (ix_dictNT (hu_of hr)) (pv 2) (pv 1) (fun _ _ => rfl)) pe_int (nomark _)))) (fun _ _ _ _ _ => by exact (pv 1)))
      apply pss_cons
      · exact ps_set (i := 5) scUn.nd rfl (.inl rfl) (pe_lst pa_nil)
      apply pss_cons
      · exact ps_while PassesOwn.never (pt_truth (pv 4) (fun _ => rfl))
          (pss_cons (ps_set (i := 1) scUn.nd rfl (.inl rfl) (pe_bm0 PySem.F.plainAttrs_list PySem.F.slot_list_pop PySem.F.type_list_pop mt_pop (pv 4)))
            (pss_cons (ps_expr (pe_bm PySem.F.plainAttrs_list PySem.F.slot_list_append PySem.F.type_list_append mt_append (pv 5) (pa_cons (pv 1) pa_nil)))
              (pss_one (ps_for PassesOwn.never rfl (pi_list (pe_ix (ix_dictNT (hu_of hr)) (pv 0) (pv 1) (fun _ _ => rfl))) (pg_name (i := 3) scUn.nd rfl (.inl rfl))
                (pss_cons (ps_augS (pv 2) (pv 3) (get_dictNT (hu_of hr)) pe_int ip_sub (set_dictNT (hu_of hr)))
                  (pss_one (ps_if (pt_cmpR op_eq (pe_ix (ix_dictNT (hu_of hr)) (pv 2) (pv 3) (fun _ _ => rfl)) pe_int (nomark _))
                    (pss_one (ps_expr (pe_bm PySem.F.plainAttrs_list PySem.F.slot_list_append PySem.F.type_list_append mt_append (pv 4) (pa_cons (pv 3) pa_nil)))) pss_nil)))))))
      apply pss_one
      · exact ps_ret (pv 5)
    have lk : (kvR gs).length = gs.length := List.length_map _
    have tupG : ∀ {H' : Hp} {o : HO} {c : Addr} {xs : List V}, H' G = some (dNT P w G (kvR gs)) → H' c = some (.tup xs) → upd H' G o c = some (.tup xs) := fun {H' o c xs} eG e => by
      rw [upd_ne fun y => by rw [y, eG] at e; unfold dNT at e; cases e]
      exact e
    have lstG : ∀ {H' : Hp} {o : HO} {c : Addr} {xs : List V}, H' G = some (dNT P w G (kvR gs)) → H' c = some (.lst xs) → upd H' G o c = some (.lst xs) := fun {H' o c xs} eG e => by
      rw [upd_ne fun y => by rw [y, eG] at e; unfold dNT at e; cases e]
      exact e
    have keyM : ∀ {i : Nat} {e : GR}, gs[i]? = some e → (keysR gs)[i]? = some e.2.2.1 := fun {i e} he => by unfold keysR; rw [List.getElem?_map, he]; rfl
    -- the counts
    refine ⟨G, dNT P w G (kvR gs), gA.at_, trivial, fun od => ?_⟩
    have hl : upd H G (.frz od (dNT P w G (kvR gs))) G = some (.frz od (dNT P w G (kvR gs))) := upd_same
    refine ⟨.ref G, rfl, G, od, kvR gs, rfl, hl, fun W hW => ?_⟩
    have nWG : W ≠ G := fun z => by rw [z, hl] at hW; cases hW
    have hW0 : H W = none := by
      rw [upd_ne nWG] at hW
      exact hW
    have kI : ∀ i, kvW ((gs.take i).map fun e => (e.1, e.2.2.1, (0 : Int))) = (gs.take i).map fun e => (keyP e.2.2.1, e.1, V.int 0) := fun i => by
      unfold kvW
      rw [List.map_map]
      rfl
    refine dcK_it (κ := kNT P w) walkN (fun i H' => Same (upd H G (.frz od (dNT P w G (kvR gs)))) H' ∧ H' W = some (dNT P w W (kvW ((gs.take i).map fun e => (e.1, e.2.2.1, (0 : Int)))))) ⟨same_new hW, upd_same⟩ (fun i H' _ h => h.1 _ _ hl) ?_ ?_
    · rintro i x H1 H2 hi ⟨s1, e1⟩ ⟨rfl, p, hp, rfl⟩
      obtain ⟨e, he, rfl⟩ := get_map (f := fun e : GR => (keyP e.2.2.1, e.1, V.ref e.2.1)) hp
      have me := List.mem_of_getElem? he
      have ke := s1 _ _ (tupG (o := .frz od (dNT P w G (kvR gs))) gA.at_ (gA.key e me))
      refine ⟨rfl, ?_⟩
      dsimp only [tYes]
      have few : (kvW ((gs.take i).map fun e => (e.1, e.2.2.1, (0 : Int)))).length ≤ 300 := by
        rw [kI, List.length_map]
        exact Nat.le_trans (List.length_take_le' _ _) lg
      refine iteTB rfl ⟨.ref e.1, rfl, kvW ((gs.take i).map fun e => (e.1, e.2.2.1, (0 : Int))), keyP e.2.2.1, e.1, rfl, ⟨.inl e1, fun z hz => ?_⟩, e1, ke, big18 (Nat.le_trans few (by decide)), ?_⟩
      · rw [kI] at hz
        obtain ⟨u, hu, rfl⟩ := List.mem_map.mp hz
        exact s1 _ _ (tupG (o := .frz od (dNT P w G (kvR gs))) gA.at_ (gA.key u (List.mem_of_mem_take hu)))
      have no : getN (kvW ((gs.take i).map fun e => (e.1, e.2.2.1, (0 : Int)))) (keyP e.2.2.1) = none := by
        rw [kI, show getN ((gs.take i).map fun e => (keyP e.2.2.1, e.1, V.int 0)) (keyP e.2.2.1) = (((gs.take i).map fun e => (keyP e.2.2.1, e.1, V.int 0)).find? fun p => decide (p.1 = keyP e.2.2.1)).map (·.2.2) from rfl, List.find?_eq_none.mpr fun u hu => ?_]
        · rfl
        · obtain ⟨y, hy, rfl⟩ := List.mem_map.mp hu
          rw [decide_eq_true_eq]
          intro z
          refine take_nin gnd (keyM he) ?_
          rw [← keyP_inj z]
          unfold keysR
          rw [← List.map_take]
          exact List.mem_map.mpr ⟨y, hy, rfl⟩
      rw [putN_new no]
      refine ⟨Same.store s1 hW, ?_⟩
      rw [upd_same, take_more he, List.map_append]
      unfold kvW
      rw [List.map_append]
      rfl
    rintro H1 ⟨s1, e1⟩
    rw [lk, List.take_length] at e1
    have W1 : WAt P w H (upd H1 G (dNT P w G (kvR gs))) W gs (gs.map fun e => (e.1, e.2.2.1, (0 : Int))) := by
      refine ⟨(upd_ne nWG).trans e1, ?_, fun e he => ?_⟩
      · unfold keysW keysR
        rw [List.map_map]
        rfl
      · obtain ⟨u, hu, rfl⟩ := List.mem_map.mp he
        exact gA.key u hu
    have s01 := same_unlock gA.at_ s1
    refine ⟨s1 _ _ hl, ?_⟩
    generalize upd H1 G (dNT _ _ G (kvR gs)) = H2 at s01 W1 ⊢
    clear s1 e1 hl kI hW
    -- the steps, counted
    have gA2 := gA.same s01
    refine ⟨G, dNT P w G (kvR gs), gA2.at_, trivial, fun od2 => ?_⟩
    have sl := same_lock (G := G) (o := .frz od2 (dNT P w G (kvR gs))) s01
    have hlH : ∀ {H' : Hp}, Same (upd H G (.frz od2 (dNT P w G (kvR gs)))) H' → H' G = some (.frz od2 (dNT P w G (kvR gs))) := fun s => s _ _ upd_same
    have hWL : upd H G (.frz od2 (dNT P w G (kvR gs))) W = none := (upd_ne nWG).trans hW0
    have dG : ∀ {H' : Hp}, Same (upd H G (.frz od2 (dNT P w G (kvR gs)))) H' → DictT P w H' G (kvR gs) := fun {H'} s => ⟨.inr ⟨od2, hlH s⟩, fun z hz => by
      obtain ⟨u, hu, rfl⟩ := List.mem_map.mp hz
      exact s _ _ (tupG gA.at_ (gA.key u hu))⟩
    refine ⟨.ref G, rfl, G, od2, kvR gs, rfl, upd_same, ?_⟩
    refine for_it walkN (fun i σ H' => ∃ v1 v3 : Option V, σ = [some (.ref G), v1, some (.ref W), v3, none, none] ∧ Same (upd H G (.frz od2 (dNT P w G (kvR gs)))) H' ∧ ∃ ws : List WR, WAt P w H H' W gs ws) ⟨none, none, rfl, sl, _, ⟨(upd_ne nWG).trans W1.at_, W1.ks, W1.key⟩⟩ (fun i σ H' _ ⟨_, _, _, s, _⟩ => hlH s) ?_ ?_
    · rintro i x σ H3 H4 hi ⟨v1, v3, rfl, s3, ws, W3⟩ ⟨rfl, p, hp, rfl⟩
      obtain ⟨e, he, rfl⟩ := get_map (f := fun e : GR => (keyP e.2.2.1, e.1, V.ref e.2.1)) hp
      have me := List.mem_of_getElem? he
      obtain ⟨e', me', ke', ge'⟩ := getR_some (gs := gs) (p := e.2.2.1) (List.mem_map.mpr ⟨e, me, rfl⟩)
      have ee := map_one gnd me' me ke'
      subst ee
      have ke := s3 _ _ (tupG (o := .frz od2 (dNT P w G (kvR gs))) gA.at_ (gA.key e' me))
      have le := s3 _ _ (lstG (o := .frz od2 (dNT P w G (kvR gs))) gA.at_ (gA.val e' me).1)
      refine ⟨.ref G, rfl, .ref e'.1, rfl, G, kvR gs, keyP e'.2.2.1, e'.1, .ref e'.2.1, rfl, rfl, dG s3, ke, ge', e'.2.1, rfl, ⟨_, SqL.of le⟩, ?_⟩
      refine for_list (K := K) (a := e'.2.1) (xs := e'.2.2.2.map fun q => V.ref q.1) (fun j σ H' => ∃ v3 : Option V, σ = [some (.ref G), some (.ref e'.1), some (.ref W), v3, none, none] ∧ Same (upd H G (.frz od2 (dNT P w G (kvR gs)))) H' ∧ ∃ ws : List WR, WAt P w H H' W gs ws) ⟨v3, rfl, s3, ws, W3⟩ (fun j σ H' _ ⟨_, _, s, _⟩ => SqL.of (s _ _ (lstG gA.at_ (gA.val e' me).1))) ?_ ?_
      · rintro j x σ H5 hx ⟨v3, rfl, s5, ws5, W5⟩
        obtain ⟨q0, hq0, rfl⟩ := get_map (f := fun q : Addr × Plc => V.ref q.1) hx
        have mq := List.mem_of_getElem? hq0
        have kq := cl e' me q0 mq
        obtain ⟨u, mu, ku, gu⟩ := getW_some (ws := ws5) (p := q0.2) (by rw [W5.ks]; exact kq)
        have tup5 : ∀ {c : Addr} {xs : List V}, H c = some (.tup xs) → H5 c = some (.tup xs) := fun e => s5 _ _ (tupG gA.at_ e)
        have tq := tup5 ((gA.val e' me).2 q0 mq)
        have D5 := W5.dict tup5
        refine ⟨.ref W, rfl, .ref q0.1, rfl, W, kvW ws5, keyP q0.2, q0.1, .int u.2.2, rfl, rfl, D5, tq, gu, u.2.2, 1, rfl, rfl, W, kvW ws5, keyP q0.2, q0.1, rfl, rfl, D5, W5.at_, tq, by rw [W5.len]; exact big18 (by omega), ?_⟩
        rw [putW (by rw [W5.ks]; exact kq)]
        exact ⟨_, rfl, Same.store s5 hWL, _, W5.put q0.2 (u.2.2 + 1)⟩
      · rintro σ H5 ⟨v3, rfl, s5, ws5, W5⟩
        exact ⟨_, v3, rfl, s5, ws5, W5⟩
    rintro σ H3 ⟨v1, v3, rfl, s3, ws, W3⟩
    have s03 := same_unlock gA.at_ s3
    have W4 : WAt P w H (upd H3 G (dNT P w G (kvR gs))) W gs ws := ⟨(upd_ne nWG).trans W3.at_, W3.ks, W3.key⟩
    refine ⟨hlH s3, ?_⟩
    generalize upd H3 G (dNT _ _ G (kvR gs)) = H4 at s03 W4 ⊢
    clear s3 W3 dG hWL hlH sl W1 s01 gA2
    -- what nothing leads to
    have gA4 := gA.same s03
    refine ⟨G, dNT P w G (kvR gs), gA4.at_, trivial, fun od3 => ?_⟩
    have sl := same_lock (G := G) (o := .frz od3 (dNT P w G (kvR gs))) s03
    have hlH : ∀ {H' : Hp}, Same (upd H4 G (.frz od3 (dNT P w G (kvR gs)))) H' → H' G = some (.frz od3 (dNT P w G (kvR gs))) := fun s => s _ _ upd_same
    refine ⟨.ref G, rfl, G, od3, kvR gs, rfl, upd_same, fun S hS => ?_⟩
    have nSG : S ≠ G := fun z => by rw [z, upd_same] at hS; cases hS
    have hS4 : H4 S = none := by
      rw [upd_ne nSG] at hS
      exact hS
    have W5 : ∀ {H' : Hp}, Same (upd H4 G (.frz od3 (dNT P w G (kvR gs)))) H' → WAt P w H H' W gs ws := fun s => ⟨s _ _ ((upd_ne nWG).trans W4.at_), W4.ks, W4.key⟩
    have tup5 : ∀ {H' : Hp}, Same (upd H4 G (.frz od3 (dNT P w G (kvR gs)))) H' → ∀ {c : Addr} {xs : List V}, H c = some (.tup xs) → H' c = some (.tup xs) := fun s _ _ e => s _ _ (tupG gA4.at_ (s03 _ _ e))
    refine lc_it walkN (fun i H' => Same (upd H4 G (.frz od3 (dNT P w G (kvR gs)))) H' ∧ ∃ st : List (Addr × Plc), H' S = some (.lst (st.map fun q => V.ref q.1)) ∧ (st.map (·.2)).Nodup ∧ (∀ q ∈ st, H q.1 = some (vP q.2) ∧ q.2 ∈ (keysR gs).take i ∧ ∀ e ∈ ws, e.2.1 = q.2 → e.2.2 ≤ 0)) ⟨same_new hS, [], upd_same, .nil, (fun e h => by cases h)⟩ (fun i H' _ h => hlH h.1) ?_ ?_
    · rintro i x H5 H6 hi ⟨s5, st, eS, nst, tst⟩ ⟨rfl, p, hp, rfl⟩
      obtain ⟨e, he, rfl⟩ := get_map (f := fun e : GR => (keyP e.2.2.1, e.1, V.ref e.2.1)) hp
      have me := List.mem_of_getElem? he
      have mk : e.2.2.1 ∈ keysR gs := List.mem_map.mpr ⟨e, me, rfl⟩
      obtain ⟨u, mu, ku, gu⟩ := getW_some (ws := ws) (p := e.2.2.1) (by rw [W4.ks]; exact mk)
      have wnd : (keysW ws).Nodup := by rw [W4.ks]; exact gnd
      have D5 := (W5 s5).dict (tup5 s5)
      refine ⟨rfl, .ref W, rfl, .ref e.1, rfl, W, kvW ws, keyP e.2.2.1, e.1, .int u.2.2, rfl, rfl, D5, tup5 s5 (gA.key e me), gu, rfl, _, rfl, ?_⟩
      have mono : ∀ q ∈ st, q.2 ∈ (keysR gs).take (i + 1) := fun q hq => by
        rw [take_more (keyM he)]
        exact List.mem_append_left _ (tst q hq).2.1
      by_cases hz : u.2.2 = 0
      · have nin : e.2.2.1 ∉ st.map (·.2) := fun z => by
          obtain ⟨q, hq, eq⟩ := List.mem_map.mp z
          refine take_nin gnd (keyM he) ?_
          rw [← eq]
          exact (tst q hq).2.1
        have lst : st.length ≤ 300 := by
          have := nodup_le (st.map (·.2)) (keysR gs) nst fun x hx => by
            obtain ⟨q, hq, rfl⟩ := List.mem_map.mp hx
            exact List.mem_of_mem_take (tst q hq).2.1
          rw [List.length_map, show (keysR gs).length = gs.length from List.length_map _] at this
          omega
        refine iteTB (decide_eq_true (congrArg V.int hz)) ⟨.ref e.1, rfl, _, eS, ?_, Same.store s5 hS, st ++ [(e.1, e.2.2.1)], ?_, ?_, fun q hq => ?_⟩
        · rw [List.length_map]
          exact big18 (by omega)
        · rw [upd_same, List.map_append]
          rfl
        · rw [List.map_append, List.nodup_append]
          refine ⟨nst, List.nodup_cons.mpr ⟨(fun z => by cases z), .nil⟩, fun a ha b hb z => ?_⟩
          cases List.mem_singleton.mp hb
          exact nin (by rw [← show a = e.2.2.1 from z]; exact ha)
        · rcases List.mem_append.mp hq with h | h
          · exact ⟨(tst q h).1, mono q h, (tst q h).2.2⟩
          · cases List.mem_singleton.mp h
            refine ⟨gA.key e me, ?_, fun y hy ky => ?_⟩
            · rw [take_more (keyM he)]
              exact List.mem_append_right _ List.mem_cons_self
            · have := map_one wnd hy mu (ky.trans ku.symm)
              subst this
              rw [hz]
              exact Int.le_refl 0
      · exact iteFB (decide_eq_false fun z => hz (V.int.inj z)) ⟨s5, st, eS, nst, fun q hq => ⟨(tst q hq).1, mono q hq, (tst q hq).2.2⟩⟩
    rintro H5 ⟨s5, st, eS, nst, tst⟩
    have s45 := same_unlock gA4.at_ s5
    refine ⟨hlH s5, ?_⟩
    have eS6 : upd H5 G (dNT P w G (kvR gs)) S = some (.lst (st.map fun q => V.ref q.1)) := (upd_ne nSG).trans eS
    have W6 : WAt P w H (upd H5 G (dNT P w G (kvR gs))) W gs ws := ⟨s45 _ _ W4.at_, W4.ks, W4.key⟩
    have s06 := s03.trans s45
    generalize upd H5 G (dNT _ _ G (kvR gs)) = H6 at s06 eS6 W6 ⊢
    have hS0 : H S = none := s03.free hS4
    have nSW : S ≠ W := fun z => by
      rw [z, W4.at_] at hS4
      cases hS4
    clear s5 eS s45 sl hlH W5 tup5 gA4 hS W4 s03 hS4
    refine ⟨(by show 0 ≤ sizeLine; decide), fun O hO => ?_⟩
    have hO0 : H O = none := s06.free hO
    have nOW : O ≠ W := fun z => by rw [z, W6.at_] at hO; cases hO
    have nOS : O ≠ S := fun z => by rw [z, eS6] at hO; cases hO
    have s07 : Same H (upd H6 O (.lst [])) := s06.trans (same_new hO)
    have eO : upd H6 O (.lst []) O = some (.lst []) := upd_same
    have eS7 : upd H6 O (.lst []) S = some (.lst (st.map fun q => V.ref q.1)) := same_new hO _ _ eS6
    have W7 : WAt P w H (upd H6 O (.lst [])) W gs ws := ⟨same_new hO _ _ W6.at_, W6.ks, W6.key⟩
    generalize upd H6 O (.lst []) = H7 at s07 eO eS7 W7 ⊢
    have gA7 := gA.same s07
    refine ⟨fun m σ H' => ∃ (v1 v3 : Option V) (ws : List WR) (os st : List (Addr × Plc)), σ = [some (.ref G), v1, some (.ref W), v3, some (.ref S), some (.ref O)] ∧ m = gs.length - os.length ∧ Same H H' ∧ WAt P w H H' W gs ws ∧ H' S = some (.lst (st.map fun q => V.ref q.1)) ∧ H' O = some (.lst (os.map fun q => V.ref q.1)) ∧
      (∀ q ∈ st ++ os.reverse, H q.1 = some (vP q.2) ∧ q.2 ∈ keysR gs ∧ ∀ e ∈ ws, e.2.1 = q.2 → e.2.2 ≤ 0) ∧ ((st ++ os.reverse).map (·.2)).Nodup, ?_, ?_⟩
    · refine ⟨_, v1, v3, ws, [], st, rfl, rfl, s07, W7, eS7, eO, fun q hq => ?_, ?_⟩
      · rw [List.reverse_nil, List.append_nil] at hq
        exact ⟨(tst q hq).1, List.mem_of_mem_take (tst q hq).2.1, (tst q hq).2.2⟩
      · rw [List.reverse_nil, List.append_nil]
        exact nst
    clear W7 eO eS7 tst nst gA7 s07 hO W6 eS6 s06
    rintro m σ H8 ⟨v1, v3, ws, os, st, rfl, rfl, s8, W8, eS, eO, tt, ndt⟩
    refine ⟨.ref S, rfl, !(st.map fun p => V.ref p.1).isEmpty, .inl ⟨_, SqL.of eS, rfl⟩, ?_⟩
    rcases List.eq_nil_or_concat st with rfl | ⟨l, y, rfl⟩
    · refine iteFB rfl ⟨.ref O, rfl, q O H8 os s8 ⟨eO, fun z hz => s8 _ _ (tt z (List.mem_reverse.mpr hz)).1⟩ (fun z hz => (tt z (List.mem_reverse.mpr hz)).2.1) ?_⟩
      rw [List.nil_append, List.map_reverse] at ndt
      exact (List.reverse_perm _).nodup_iff.mp ndt
    · rw [List.concat_eq_append] at *
      have lens : (l ++ [y] ++ os.reverse).length ≤ gs.length := by
        have := nodup_le ((l ++ [y] ++ os.reverse).map (·.2)) (keysR gs) ndt fun x hx => by
          obtain ⟨q, hq, rfl⟩ := List.mem_map.mp hx
          exact (tt q hq).2.1
        rw [List.length_map, show (keysR gs).length = gs.length from List.length_map _] at this
        exact this
      have eqp : l ++ [y] ++ os.reverse = l ++ (os ++ [y]).reverse := by simp
      have hy := tt y (by simp)
      rw [eqp] at tt ndt
      rw [List.length_append, List.length_append, List.length_reverse] at lens
      have l1 : [y].length = 1 := rfl
      rw [l1] at lens
      refine iteTB (by simp) ⟨_, fun σ' H' h => h, ?_⟩
      refine ⟨.ref S, rfl, .inl ⟨rfl, _, SqL.of eS⟩, S, _, .ref y.1, rfl, rfl, eS, by simp, ?_⟩
      have eP : ((l ++ [y]).map fun p => V.ref p.1).dropLast = l.map fun p => V.ref p.1 := by simp
      rw [eP]
      have s9 : Same H (upd H8 S (.lst (l.map fun p => V.ref p.1))) := Same.store s8 hS0
      have eS9 : upd H8 S (.lst (l.map fun p => V.ref p.1)) S = some (.lst (l.map fun p => V.ref p.1)) := upd_same
      have eO9 : upd H8 S (.lst (l.map fun p => V.ref p.1)) O = some (.lst (os.map fun p => V.ref p.1)) := (upd_ne nOS).trans eO
      have W9 : WAt P w H (upd H8 S (.lst (l.map fun p => V.ref p.1))) W gs ws := ⟨(upd_ne nSW.symm).trans W8.at_, W8.ks, W8.key⟩
      generalize upd H8 S (.lst (l.map fun p => V.ref p.1)) = H9 at s9 eS9 eO9 W9 ⊢
      refine ⟨.ref O, rfl, .inl ⟨rfl, _, SqL.of eO9⟩, .ref y.1, rfl, O, _, .ref y.1, rfl, rfl, eO9, ?_, ?_⟩
      · rw [List.length_map]
        exact big18 (by omega)
      have s10 : Same H (upd H9 O (.lst ((os.map fun p => V.ref p.1) ++ [.ref y.1]))) := Same.store s9 hO0
      have eO10 : upd H9 O (.lst ((os.map fun p => V.ref p.1) ++ [.ref y.1])) O = some (.lst ((os ++ [y]).map fun p => V.ref p.1)) := by
        rw [upd_same, List.map_append]
        rfl
      have eS10 : upd H9 O (.lst ((os.map fun p => V.ref p.1) ++ [.ref y.1])) S = some (.lst (l.map fun p => V.ref p.1)) := (upd_ne nOS.symm).trans eS9
      have W10 : WAt P w H (upd H9 O (.lst ((os.map fun p => V.ref p.1) ++ [.ref y.1]))) W gs ws := ⟨(upd_ne nOW.symm).trans W9.at_, W9.ks, W9.key⟩
      generalize upd H9 O (.lst ((os.map fun p => V.ref p.1) ++ [.ref y.1])) = H10 at s10 eO10 eS10 W10 ⊢
      clear s9 eS9 eO9 W9
      obtain ⟨e', me', ke', ge'⟩ := getR_some (gs := gs) (p := y.2) hy.2.1
      have gA10 := gA.same s10
      refine ⟨.ref G, rfl, .ref y.1, rfl, G, kvR gs, keyP y.2, y.1, .ref e'.2.1, rfl, rfl, gA10.dict, s10 _ _ hy.1, ge', e'.2.1, rfl, ⟨_, SqL.of (gA10.val e' me').1⟩, ?_⟩
      refine for_list (K := K) (a := e'.2.1) (xs := e'.2.2.2.map fun q => V.ref q.1) (fun j σ H' => ∃ (v3 : Option V) (ws : List WR) (st : List (Addr × Plc)), σ = [some (.ref G), some (.ref y.1), some (.ref W), v3, some (.ref S), some (.ref O)] ∧ Same H H' ∧ WAt P w H H' W gs ws ∧ H' S = some (.lst (st.map fun q => V.ref q.1)) ∧ H' O = some (.lst ((os ++ [y]).map fun q => V.ref q.1)) ∧
        (∀ q ∈ st ++ (os ++ [y]).reverse, H q.1 = some (vP q.2) ∧ q.2 ∈ keysR gs ∧ ∀ e ∈ ws, e.2.1 = q.2 → e.2.2 ≤ 0) ∧ ((st ++ (os ++ [y]).reverse).map (·.2)).Nodup) ⟨v3, ws, l, rfl, s10, W10, eS10, eO10, tt, ndt⟩ (fun j σ H' _ ⟨_, _, _, _, s, _⟩ => SqL.of (s _ _ (gA.val e' me').1)) ?_ ?_
      · clear tt ndt W10 eS10 eO10 eS eO W8
        rintro j x σ H11 hx ⟨v3, ws, st, rfl, s11, W11, eS, eO, tt, ndt⟩
        obtain ⟨q0, hq0, rfl⟩ := get_map (f := fun q : Addr × Plc => V.ref q.1) hx
        have mq := List.mem_of_getElem? hq0
        have kq := cl e' me' q0 mq
        obtain ⟨u, mu, ku, gu⟩ := getW_some (ws := ws) (p := q0.2) (by rw [W11.ks]; exact kq)
        have tq := s11 _ _ ((gA.val e' me').2 q0 mq)
        have D11 := W11.dict (fun {c xs} e => s11 _ _ e)
        have wnd : (keysW ws).Nodup := by rw [W11.ks]; exact gnd
        refine ⟨.ref W, rfl, .ref q0.1, rfl, W, kvW ws, keyP q0.2, q0.1, .int u.2.2, rfl, rfl, D11, tq, gu, u.2.2, 1, rfl, rfl, W, kvW ws, keyP q0.2, q0.1, rfl, rfl, D11, W11.at_, tq, by rw [W11.len]; exact big18 (by omega), ?_⟩
        rw [putW (by rw [W11.ks]; exact kq)]
        have s12 : Same H (upd H11 W (dNT P w W (kvW (setW ws q0.2 (u.2.2 - 1))))) := Same.store s11 hW0
        have W12 := W11.put q0.2 (u.2.2 - 1)
        have eS12 : upd H11 W (dNT P w W (kvW (setW ws q0.2 (u.2.2 - 1)))) S = some (.lst (st.map fun q => V.ref q.1)) := (upd_ne nSW).trans eS
        have eO12 : upd H11 W (dNT P w W (kvW (setW ws q0.2 (u.2.2 - 1)))) O = some (.lst ((os ++ [y]).map fun q => V.ref q.1)) := (upd_ne nOW).trans eO
        have at12 : (u.1, u.2.1, u.2.2 - 1) ∈ setW ws q0.2 (u.2.2 - 1) := by
          unfold setW
          exact List.mem_map.mpr ⟨u, mu, if_pos ku⟩
        have le12 : ∀ q ∈ st ++ (os ++ [y]).reverse, ∀ e ∈ setW ws q0.2 (u.2.2 - 1), e.2.1 = q.2 → e.2.2 ≤ 0 := fun q hq e he ke => by
          rcases setW_mem he with ⟨z, hz, kz, rfl⟩ | ⟨h1, _⟩
          · have := (tt q hq).2.2 u mu (by rw [ku, ← kz]; exact ke)
            show u.2.2 - 1 ≤ 0
            omega
          · exact (tt q hq).2.2 e h1 ke
        generalize e12 : setW ws q0.2 (u.2.2 - 1) = ws2 at W12 at12 le12 eS12 eO12 s12 ⊢
        generalize eH12 : upd H11 W (dNT _ _ W (kvW ws2)) = H12
        have eH12 : upd H11 W (dNT P w W (kvW ws2)) = H12 := eH12
        rw [eH12] at s12 W12 eS12 eO12
        have wnd2 : (keysW ws2).Nodup := by rw [W12.ks]; exact gnd
        obtain ⟨u2, mu2, ku2, gu2⟩ := getW_some (ws := ws2) (p := q0.2) (by rw [W12.ks]; exact kq)
        have eu2 := map_one wnd2 mu2 at12 (ku2.trans ku.symm)
        have vu2 : u2.2.2 = u.2.2 - 1 := by rw [eu2]
        have D12 := W12.dict (fun {c xs} e => s12 _ _ e)
        refine ⟨.ref W, rfl, .ref q0.1, rfl, W, kvW ws2, keyP q0.2, q0.1, .int u2.2.2, rfl, rfl, D12, s12 _ _ ((gA.val e' me').2 q0 mq), gu2, rfl, _, rfl, ?_⟩
        by_cases hz : u2.2.2 = 0
        · have nin : q0.2 ∉ (st ++ (os ++ [y]).reverse).map (·.2) := fun z => by
            obtain ⟨q, hq, eq⟩ := List.mem_map.mp z
            have := (tt q hq).2.2 u mu (ku.trans eq.symm)
            omega
          have lst : st.length ≤ 300 := by
            have := nodup_le ((st ++ (os ++ [y]).reverse).map (·.2)) (keysR gs) ndt fun x hx => by
              obtain ⟨q, hq, rfl⟩ := List.mem_map.mp hx
              exact (tt q hq).2.1
            rw [List.length_map, List.length_append, show (keysR gs).length = gs.length from List.length_map _] at this
            omega
          refine iteTB (decide_eq_true (congrArg V.int hz)) ⟨.ref S, rfl, .inl ⟨rfl, _, SqL.of eS12⟩, .ref q0.1, rfl, S, _, .ref q0.1, rfl, rfl, eS12, ?_, _, ws2, st ++ [q0], rfl, Same.store s12 hS0, ⟨(upd_ne nSW.symm).trans W12.at_, W12.ks, W12.key⟩, ?_, (upd_ne nOS).trans eO12, fun q hq => ?_, ?_⟩
          · rw [List.length_map]
            exact big18 (by omega)
          · rw [upd_same, List.map_append]
            rfl
          · rcases List.mem_append.mp hq with h | h
            · rcases List.mem_append.mp h with h | h
              · exact ⟨(tt q (List.mem_append_left _ h)).1, (tt q (List.mem_append_left _ h)).2.1, le12 q (List.mem_append_left _ h)⟩
              · cases List.mem_singleton.mp h
                refine ⟨(gA.val e' me').2 q0 mq, kq, fun e he ke => ?_⟩
                have := map_one wnd2 he mu2 (ke.trans ku2.symm)
                rw [this, hz]
                exact Int.le_refl 0
            · exact ⟨(tt q (List.mem_append_right _ h)).1, (tt q (List.mem_append_right _ h)).2.1, le12 q (List.mem_append_right _ h)⟩
          · rw [List.append_assoc, List.map_append, List.map_append]
            have pm : (st.map (·.2) ++ ([q0].map (·.2) ++ ((os ++ [y]).reverse).map (·.2))).Perm (q0.2 :: (st ++ (os ++ [y]).reverse).map (·.2)) := by
              rw [List.map_append]
              exact List.perm_middle
            exact pm.nodup_iff.mpr (List.nodup_cons.mpr ⟨nin, ndt⟩)
        · exact iteFB (decide_eq_false fun z => hz (V.int.inj z)) ⟨_, ws2, st, rfl, s12, W12, eS12, eO12, fun q hq => ⟨(tt q hq).1, (tt q hq).2.1, le12 q hq⟩, ndt⟩
      · rintro σ H11 ⟨v3, ws2, st, rfl, s11, W11, eS, eO, tt, ndt⟩
        refine ⟨_, ?_, some (.ref y.1), v3, ws2, os ++ [y], st, rfl, rfl, s11, W11, eS, eO, tt, ndt⟩
        rw [List.length_append]
        show _ - (os.length + 1) < _
        omega
end
end K19
namespace K19
open PySem PySem.Spec PyProof.Rows L2 OF LamX NdefX
abbrev sWay : Stmt := topS 34
abbrev sBack : Stmt := topS 35
section
variable {P : Program} {w : World} {K : PySem.W.Frag} {mg : Str → Option Value} {base : Heap}
/-! ### way: a shortest way, found by layers -/
/-- where a key stands, the place, whence it was met -/
abbrev PR := Addr × Plc × Option (Addr × Plc)
def vO : Option (Addr × Plc) → V
  | none => .non
  | some q => .ref q.1
def kvP (ps : List PR) : List KeyT := ps.map fun e => (keyP e.2.1, e.1, vO e.2.2)
def keysP (ps : List PR) : List Plc := ps.map (·.2.1)
theorem getP_some {p : Plc} : ∀ {ps : List PR}, p ∈ keysP ps → ∃ (i : Nat) (e : PR), ps[i]? = some e ∧ e.2.1 = p ∧ getN (kvP ps) (keyP p) = some (vO e.2.2)
  | [], h => by cases h
  | e :: ps, h => by
    by_cases k : e.2.1 = p
    · refine ⟨0, e, rfl, k, ?_⟩
      unfold getN kvP
      rw [List.map_cons, List.find?_cons, decide_eq_true (congrArg keyP k)]
      rfl
    · unfold keysP at h
      rw [List.map_cons] at h
      rcases List.mem_cons.mp h with h | h
      · exact absurd h.symm k
      · obtain ⟨i, u, hu, ku, g⟩ := getP_some (ps := ps) h
        refine ⟨i + 1, u, hu, ku, ?_⟩
        unfold getN kvP at g ⊢
        rw [List.map_cons, List.find?_cons, decide_eq_false (fun z => k (keyP_inj z))]
        exact g
theorem getP_none {p : Plc} {ps : List PR} (h : p ∉ keysP ps) : getN (kvP ps) (keyP p) = none := by
  unfold getN kvP
  rw [List.find?_eq_none.mpr fun u hu => ?_]
  · rfl
  · obtain ⟨y, hy, rfl⟩ := List.mem_map.mp hu
    rw [decide_eq_true_eq]
    intro z
    exact h (keyP_inj z ▸ List.mem_map.mpr ⟨y, hy, rfl⟩)
theorem getP_is (p : Plc) (ps : List PR) : (getN (kvP ps) (keyP p)).isSome = decide (p ∈ keysP ps) := by
  by_cases h : p ∈ keysP ps
  · obtain ⟨_, _, _, _, g⟩ := getP_some h
    rw [g, decide_eq_true h]
    rfl
  · rw [getP_none h, decide_eq_false h]
    rfl
theorem kvP_app (ps : List PR) (e : PR) : kvP (ps ++ [e]) = kvP ps ++ [(keyP e.2.1, e.1, vO e.2.2)] := by
  unfold kvP
  rw [List.map_append]
  rfl
theorem keysP_app (ps : List PR) (e : PR) : keysP (ps ++ [e]) = keysP ps ++ [e.2.1] := by
  unfold keysP
  rw [List.map_append]
  rfl
structure PvAt (P : Program) (w : World) (H0 H : Hp) (V0 : Addr) (U : List Plc) (Gd : Plc → Prop) (ps : List PR) : Prop where
  at_ : H V0 = some (dNT P w V0 (kvP ps))
  key : ∀ e ∈ ps, H0 e.1 = some (vP e.2.1)
  val : ∀ e ∈ ps, ∀ q, e.2.2 = some q → H0 q.1 = some (vP q.2)
  ord : ∀ i e q, ps[i]? = some e → e.2.2 = some q → q.2 ∈ keysP (ps.take i) ∧ Gd e.2.1
  nd : (keysP ps).Nodup
  sub : ∀ x ∈ keysP ps, x ∈ U
theorem PvAt.dict {H0 H : Hp} {V0 : Addr} {U : List Plc} {Gd : Plc → Prop} {ps : List PR} (h : PvAt P w H0 H V0 U Gd ps) (s : Same H0 H) : DictT P w H V0 (kvP ps) :=
  ⟨.inl h.at_, fun p hp => by
    obtain ⟨e, he, rfl⟩ := List.mem_map.mp hp
    exact s _ _ (h.key e he)⟩
theorem PvAt.len {H0 H : Hp} {V0 : Addr} {U : List Plc} {Gd : Plc → Prop} {ps : List PR} (h : PvAt P w H0 H V0 U Gd ps) : ps.length ≤ U.length := by
  have := nodup_le (keysP ps) U h.nd h.sub
  rw [show (keysP ps).length = ps.length from List.length_map _] at this
  exact this
def spBack (P : Program) (w : World) : Sp := fun vs H Q _ => ∃ (V0 a : Addr) (p : Plc) (ps : List PR) (U : List Plc) (Gd : Plc → Prop), vs = [.ref V0, .ref a] ∧ PvAt P w H H V0 U Gd ps ∧ U.length ≤ 300 ∧ H a = some (vP p) ∧ p ∈ keysP ps ∧
  ∀ (L : Addr) (n0 : Addr × Plc) (ns : List (Addr × Plc)) (H' : Hp), Same H H' → PlAt H' L (n0 :: ns) → (∀ x ∈ ns, Gd x.2) → ns.length ≤ 300 → Q (.ref L) H'
abbrev nBk : List Str := ["previous", "node", "nodes"]
theorem scBk : FnScope nBk ["previous", "node"] (defScope sBack) := ⟨rfl, rfl, rfl, by decide +kernel, rfl, by decide +kernel, by decide +kernel⟩
theorem ok_back {f : Addr} {fd : FuncData} (F : Fun K "_way_back" "_way_back" sBack f fd) : FnOk P w K mg base CX0 1 f fd ["previous", "node"] (spBack P w) := by
  refine F.ok scBk (fun vs H Q E h => ?_) (fun cdv A outer s H vs Q E hr h => ?_)
  · obtain ⟨V0, a, p, ps, U, Gd, rfl, _⟩ := h
    rfl
  · obtain ⟨V0, a, p, ps, U, Gd, rfl, PV, lU, ha, hp, q⟩ := h
    apply Exists.intro
    apply And.intro
    · apply pss_cons
      · exact ps_set (i := 2) scBk.nd rfl (.inl rfl) (pe_lst pa_nil)
      apply pss_cons
      · exact ps_while PassesOwn.never (pt_cmpR op_notN (pv 1) pe_non (nomark _))
          (pss_cons (ps_expr (pe_bm PySem.F.plainAttrs_list PySem.F.slot_list_append PySem.F.type_list_append mt_append (pv 2) (pa_cons (pv 1) pa_nil)))
            (pss_one (ps_set (i := 1) scBk.nd rfl (.inl rfl) (pe_ix (ix_dictNT (hu_of hr)) (pv 0) (pv 1) (fun _ _ => rfl)))))
      apply pss_one
      · exact ps_ret (pe_revL (pv 2))
    refine ⟨(by show 0 ≤ sizeLine; decide), fun N hN => ?_⟩
    have s1 := same_new (o := .lst []) hN
    have e1 : upd H N (.lst []) N = some (.lst []) := upd_same
    generalize upd H N (.lst []) = H1 at s1 e1 ⊢
    obtain ⟨i0, u0, hu0, ku0, _⟩ := getP_some hp
    have li0 := (List.getElem?_eq_some_iff.mp hu0).1
    refine ⟨fun m σ H' => ∃ (v : V) (acc : List (Addr × Plc)), σ = [some (.ref V0), some v, some (.ref N)] ∧ Same H H' ∧ H' N = some (.lst (acc.map fun q => V.ref q.1)) ∧ (∀ x ∈ acc, H x.1 = some (vP x.2)) ∧
      ((m = 0 ∧ v = .non ∧ ∃ l y, acc = l ++ [y] ∧ (∀ x ∈ l, Gd x.2) ∧ l.length ≤ 300) ∨ ∃ (a : Addr) (i : Nat) (e : PR), v = .ref a ∧ H a = some (vP e.2.1) ∧ ps[i]? = some e ∧ m = i + 1 ∧ (∀ x ∈ acc, Gd x.2) ∧ acc.length + (i + 1) ≤ ps.length), ?_, ?_⟩
    · exact ⟨_, .ref a, [], rfl, s1, e1, (fun x h => by cases h), .inr ⟨a, i0, u0, rfl, by rw [ku0]; exact ha, hu0, rfl, (fun x h => by cases h), by show 0 + _ ≤ _; omega⟩⟩
    have lP := PV.len
    rintro m σ H2 ⟨v, acc, rfl, s2, e2, at2, ⟨rfl, rfl, l, y, rfl, gl, ll⟩ | ⟨a, i, e, rfl, ha, he, rfl, gd, lacc⟩⟩
    · refine ⟨.non, rfl, rfl, _, rfl, iteFB rfl ⟨.ref N, rfl, N, _, rfl, SqL.of e2, fun L hL => ?_⟩⟩
      have s3 := same_new (o := .lst ((l ++ [y]).map fun q => V.ref q.1).reverse) hL
      refine q L y l.reverse _ (s2.trans s3) ⟨?_, fun x hx => ?_⟩ (fun x hx => gl x (List.mem_reverse.mp hx)) (by rw [List.length_reverse]; exact ll)
      · rw [upd_same]
        simp
      · refine s3 _ _ (s2 _ _ (at2 x ?_))
        rcases List.mem_cons.mp hx with h | h
        · rw [h]
          exact List.mem_append_right _ List.mem_cons_self
        · exact List.mem_append_left _ (List.mem_reverse.mp h)
    · refine ⟨.ref a, rfl, rfl, _, rfl, iteTB rfl ⟨_, fun σ' H' h => h, .ref N, rfl, .inl ⟨rfl, _, SqL.of e2⟩, .ref a, rfl, N, _, .ref a, rfl, rfl, e2, ?_, ?_⟩⟩
      · rw [List.length_map]
        exact big18 (by omega)
      have s3 : Same H (upd H2 N (.lst ((acc.map fun q => V.ref q.1) ++ [.ref a]))) := Same.store s2 hN
      have e3 : upd H2 N (.lst ((acc.map fun q => V.ref q.1) ++ [.ref a])) N = some (.lst ((acc ++ [(a, e.2.1)]).map fun q => V.ref q.1)) := by
        rw [upd_same, List.map_append]
        rfl
      generalize upd H2 N (.lst ((acc.map fun q => V.ref q.1) ++ [.ref a])) = H3 at s3 e3 ⊢
      have me := List.mem_of_getElem? he
      obtain ⟨i', u, hu, ku, gu⟩ := getP_some (ps := ps) (p := e.2.1) (List.mem_map.mpr ⟨e, me, rfl⟩)
      have eu := map_one PV.nd (List.mem_of_getElem? hu) me ku
      subst eu
      have li := (List.getElem?_eq_some_iff.mp he).1
      have D3 : DictT P w H3 V0 (kvP ps) := (PV.dict (Same.refl _)).same s3
      refine ⟨.ref V0, rfl, .ref a, rfl, V0, kvP ps, keyP u.2.1, a, vO u.2.2, rfl, rfl, D3, s3 _ _ ha, gu, ?_⟩
      have at3 : ∀ x ∈ acc ++ [(a, u.2.1)], H x.1 = some (vP x.2) := fun x hx => by
        rcases List.mem_append.mp hx with h | h
        · exact at2 x h
        · cases List.mem_singleton.mp h
          exact ha
      cases hq : u.2.2 with
      | none => exact ⟨0, by omega, .non, _, rfl, s3, e3, at3, .inl ⟨rfl, rfl, acc, _, rfl, gd, by omega⟩⟩
      | some y =>
        obtain ⟨o1, o2⟩ := PV.ord i u y he hq
        obtain ⟨j, z, hz, kz, _⟩ := getP_some o1
        have lj := (List.getElem?_eq_some_iff.mp hz).1
        rw [List.length_take] at lj
        rw [List.getElem?_take_of_lt (by omega)] at hz
        refine ⟨j + 1, by omega, .ref y.1, _, rfl, s3, e3, at3, .inr ⟨y.1, j, z, rfl, by rw [kz]; exact PV.val u me y hq, hz, rfl, fun x hx => ?_, ?_⟩⟩
        · rcases List.mem_append.mp hx with h | h
          · exact gd x h
          · cases List.mem_singleton.mp h
            exact o2
        · rw [List.length_append]
          show acc.length + 1 + _ ≤ _
          omega
theorem PvAt.now {H0 H : Hp} {V0 : Addr} {U : List Plc} {Gd : Plc → Prop} {ps : List PR} (h : PvAt P w H0 H V0 U Gd ps) (s : Same H0 H) : PvAt P w H H V0 U Gd ps :=
  ⟨h.at_, fun e he => s _ _ (h.key e he), fun e he q hq => s _ _ (h.val e he q hq), h.ord, h.nd, h.sub⟩
theorem PvAt.add {H0 H : Hp} {V0 : Addr} {U : List Plc} {Gd : Plc → Prop} {ps : List PR} (h : PvAt P w H0 H V0 U Gd ps) {b : Addr} {p : Plc} {y : Addr × Plc} (hk : p ∉ keysP ps) (hb : H0 b = some (vP p)) (hy : H0 y.1 = some (vP y.2)) (my : y.2 ∈ keysP ps) (g : Gd p) (u : p ∈ U) :
    PvAt P w H0 (upd H V0 (dNT P w V0 (kvP (ps ++ [(b, p, some y)])))) V0 U Gd (ps ++ [(b, p, some y)]) := by
  refine ⟨upd_same, fun e he => ?_, fun e he q hq => ?_, fun i e q hi hq => ?_, ?_, fun x hx => ?_⟩
  · rcases List.mem_append.mp he with z | z
    · exact h.key e z
    · cases List.mem_singleton.mp z
      exact hb
  · rcases List.mem_append.mp he with z | z
    · exact h.val e z q hq
    · cases List.mem_singleton.mp z
      cases hq
      exact hy
  · by_cases li : i < ps.length
    · rw [List.getElem?_append_left li] at hi
      rw [List.take_append_of_le_length (Nat.le_of_lt li)]
      exact h.ord i e q hi hq
    · have l2 := (List.getElem?_eq_some_iff.mp hi).1
      rw [List.length_append] at l2
      have e1 : i = ps.length := by
        have : [(b, p, some y)].length = 1 := rfl
        omega
      subst e1
      rw [List.getElem?_append_right (Nat.le_refl _), Nat.sub_self] at hi
      cases hi
      cases hq
      rw [List.take_left']
      · exact ⟨my, g⟩
      · rfl
  · rw [keysP_app, List.nodup_append]
    refine ⟨h.nd, List.nodup_cons.mpr ⟨(fun z => by cases z), .nil⟩, fun a ha b hb z => ?_⟩
    cases List.mem_singleton.mp hb
    exact hk (by rw [← show a = p from z]; exact ha)
  · rw [keysP_app] at hx
    rcases List.mem_append.mp hx with z | z
    · exact h.sub x z
    · cases List.mem_singleton.mp z
      exact u
/-- a graph at G, locked or not -/
structure GrD (P : Program) (w : World) (H : Hp) (G : Addr) (gs : List GR) : Prop where
  dict : DictT P w H G (kvR gs)
  val : ∀ e ∈ gs, PlAt H e.2.1 e.2.2.2
theorem GrD.same {H H' : Hp} {G : Addr} {gs : List GR} (g : GrD P w H G gs) (s : Same H H') : GrD P w H' G gs := ⟨g.dict.same s, fun e he => (g.val e he).same s⟩
def spWay (P : Program) (w : World) : Sp := fun vs H Q _ => ∃ (G a Gl : Addr) (st : Plc) (gs : List GR) (kvg : List KeyT) (Gd : Plc → Prop), vs = [.ref G, .ref a, .ref Gl] ∧ GrD P w H G gs ∧ (keysR gs).Nodup ∧ gs.length ≤ 300 ∧ (∀ e ∈ gs, ∀ q ∈ e.2.2.2, q.2 ∈ keysR gs) ∧ (∀ e ∈ gs, ∀ q ∈ e.2.2.2, Gd q.2) ∧
  H a = some (vP st) ∧ st ∈ keysR gs ∧ DictT P w H Gl kvg ∧ (∀ H', Same H H' → (∀ x, Reach (nxt gs) [st] x → (getN kvg (keyP x)).isSome = false) → Q .non H') ∧
  ∀ (L : Addr) (n0 : Addr × Plc) (ns : List (Addr × Plc)) (H' : Hp), Same H H' → PlAt H' L (n0 :: ns) → (∀ x ∈ ns, Gd x.2) → ns.length ≤ 300 → Q (.ref L) H'
abbrev nWy : List Str := ["graph", "start", "goals", "previous", "layer", "node", "further", "other"]
theorem scWy : FnScope nWy ["graph", "start", "goals"] (defScope sWay) := ⟨rfl, rfl, rfl, by decide +kernel, rfl, by decide +kernel, by decide +kernel⟩
set_option maxHeartbeats 2000000 in
theorem ok_way {f fB : Addr} {fd fdB : FuncData} (F : Fun K "way" "way" sWay f fd)
    (GB : FnOk P w K mg base CX0 1 fB fdB ["previous", "node"] (spBack P w)) (gB : mg "_way_back" = some (.ref fB)) (kB : PySem.W.keepIn K (.ref fB) = true) (bB : Binds K fdB ["previous", "node"] []) :
    FnOk P w K mg base CX0 2 f fd ["graph", "start", "goals"] (spWay P w) := by
  refine F.ok scWy (fun vs H Q E h => ?_) (fun cdv A outer s H vs Q E hr h => ?_)
  · obtain ⟨G, a, Gl, st, gs, kvg, Gd, rfl, _⟩ := h
    rfl
  · obtain ⟨G, a, Gl, st, gs, kvg, Gd, rfl, gA, gnd, lg, cl, gGd, ha, hst, DG, qN, qS⟩ := h
    apply Exists.intro
    apply And.intro
    · apply pss_cons
      · exact ps_set (i := 3) scWy.nd rfl (.inl rfl) (pe_disp1NT (Nat.lt_of_succ_lt (hu_of hr)) (pv 1) pe_non)
      apply pss_cons
      · exact ps_set (i := 4) scWy.nd rfl (.inl rfl) (pe_lst (pa_cons (pv 1) pa_nil))
      apply pss_cons
      · exact ps_while PassesOwn.never (pt_truth (pv 4) (fun _ => rfl))
          (pss_cons (ps_for PassesOwn.never rfl (pi_list (pv 4)) (pg_name (i := 5) scWy.nd rfl (.inl rfl))
              (pss_one (ps_if (pt_cmpR (op_inNT (hu_of hr)) (pv 5) (pv 2) rfl) (pss_one (ps_ret (pe_call GB hr (by rfl) gB kB bB .nil pass0 (pa_cons (pv 3) (pa_cons (pv 5) pa_nil))))) pss_nil)))
            (pss_cons (ps_set (i := 6) scWy.nd rfl (.inl rfl) (pe_lst pa_nil))
              (pss_cons (ps_for PassesOwn.never rfl (pi_list (pv 4)) (pg_name (i := 5) scWy.nd rfl (.inl rfl))
                (pss_one (ps_for PassesOwn.never rfl (pi_list (pe_ix (ix_dictNT (hu_of hr)) (pv 0) (pv 5) (fun _ _ => rfl))) (pg_name (i := 7) scWy.nd rfl (.inl rfl))
                  (pss_one (ps_if (pt_cmpR (op_notInNT (hu_of hr)) (pv 7) (pv 3) rfl)
                    (pss_cons (ps_asg (pv 5) (pg_sub (pv 3) (pv 7) (set_dictNT (hu_of hr)) (fun _ => rfl)))
                      (pss_one (ps_expr (pe_bm PySem.F.plainAttrs_list PySem.F.slot_list_append PySem.F.type_list_append mt_append (pv 6) (pa_cons (pv 7) pa_nil))))) pss_nil)))))
                (pss_one (ps_set (i := 4) scWy.nd rfl (.inl rfl) (pv 6))))))
      apply pss_one
      · exact ps_ret pe_non
    refine fun V0 hV => ⟨.ref a, rfl, keyP st, a, rfl, upd_same, ?_, ?_⟩
    · exact same_new hV _ _ ha
    have s1 : Same H (upd (upd H V0 (dNT P w V0 [])) V0 (dNT P w V0 [(keyP st, a, .non)])) := Same.store (same_new hV) hV
    have P1 : PvAt P w H (upd (upd H V0 (dNT P w V0 [])) V0 (dNT P w V0 [(keyP st, a, .non)])) V0 (keysR gs) Gd [(a, st, none)] := by
      refine ⟨upd_same, fun e he => ?_, fun e he q hq => ?_, fun i e q hi hq => ?_, List.nodup_cons.mpr ⟨(fun z => by cases z), .nil⟩, fun x hx => ?_⟩
      · cases List.mem_singleton.mp he
        exact ha
      · cases List.mem_singleton.mp he
        cases hq
      · cases List.mem_singleton.mp (List.mem_of_getElem? hi)
        cases hq
      · cases List.mem_singleton.mp hx
        exact hst
    generalize eH1 : upd (upd H V0 (dNT _ _ V0 [])) V0 (dNT _ _ V0 [(keyP st, a, .non)]) = H1
    have eH1 : upd (upd H V0 (dNT P w V0 [])) V0 (dNT P w V0 [(keyP st, a, .non)]) = H1 := eH1
    rw [eH1] at s1 P1
    refine ⟨.ref a, rfl, (by show 1 ≤ sizeLine; decide), fun L1 hL1 => ?_⟩
    have s2 := same_new (o := .lst [.ref a]) hL1
    have e2 : upd H1 L1 (.lst [.ref a]) L1 = some (.lst [.ref a]) := upd_same
    have P2 : PvAt P w H (upd H1 L1 (.lst [.ref a])) V0 (keysR gs) Gd [(a, st, none)] := ⟨s2 _ _ P1.at_, P1.key, P1.val, P1.ord, P1.nd, P1.sub⟩
    generalize upd H1 L1 (.lst [.ref a]) = H2 at s2 e2 P2 ⊢
    have s12 := s1.trans s2
    refine ⟨fun m σ H' => ∃ (v5 v6 v7 : Option V) (LY : Addr) (ps : List PR) (ly : List (Addr × Plc)), σ = [some (.ref G), some (.ref a), some (.ref Gl), some (.ref V0), some (.ref LY), v5, v6, v7] ∧ m = (gs.length - ps.length) + (if ly = [] then 0 else 1) ∧ Same H H' ∧ PvAt P w H H' V0 (keysR gs) Gd ps ∧ H' LY = some (.lst (ly.map fun q => V.ref q.1)) ∧
      (∀ q ∈ ly, H q.1 = some (vP q.2) ∧ q.2 ∈ keysP ps) ∧ st ∈ keysP ps ∧ ∀ x ∈ keysP ps, x ∉ ly.map (·.2) → (getN kvg (keyP x)).isSome = false ∧ ∀ y ∈ nxt gs x, y ∈ keysP ps, ?_, ?_⟩
    · refine ⟨_, none, none, none, L1, [(a, st, none)], [(a, st)], rfl, rfl, s12, P2, e2, fun q hq => ?_, List.mem_cons_self, fun x hx n => ?_⟩
      · cases List.mem_singleton.mp hq
        exact ⟨ha, List.mem_cons_self⟩
      · cases List.mem_singleton.mp hx
        exact absurd List.mem_cons_self n
    clear s12 P2 e2 s2 hL1 P1 s1 eH1
    rintro m σ H3 ⟨v5, v6, v7, LY, ps, ly, rfl, rfl, s3, P3, eL, tt, mst, clo⟩
    have lks : (keysR gs).length = gs.length := List.length_map _
    have nLV : LY ≠ V0 := fun z => by
      rw [z, P3.at_] at eL
      unfold dNT at eL
      cases eL
    refine ⟨.ref LY, rfl, !(ly.map fun p => V.ref p.1).isEmpty, .inl ⟨_, SqL.of eL, rfl⟩, ?_⟩
    by_cases hly : ly = []
    · subst hly
      refine iteFB rfl (qN H3 s3 fun x r => ?_)
      have key : ∀ x, Reach (nxt gs) [st] x → x ∈ keysP ps := fun x r => Reach.all (p := fun x => x ∈ keysP ps) (fun x hx => by cases List.mem_singleton.mp hx; exact mst) (fun x hx y hy => (clo x hx (fun z => by cases z)).2 y hy) r
      exact (clo x (key x r) (fun z => by cases z)).1
    refine iteTB (by cases ly with | nil => exact absurd rfl hly | cons _ _ => rfl) ⟨_, fun σ' H' h => h, ?_⟩
    refine ⟨.ref LY, rfl, LY, rfl, ⟨_, SqL.of eL⟩, ?_⟩
    refine for_list (K := K) (a := LY) (xs := ly.map fun q => V.ref q.1) (fun j σ H' => ∃ (v5 : Option V), σ = [some (.ref G), some (.ref a), some (.ref Gl), some (.ref V0), some (.ref LY), v5, v6, v7] ∧ H' = H3 ∧ ∀ q ∈ ly.take j, (getN kvg (keyP q.2)).isSome = false) ⟨v5, rfl, rfl, (fun q h => by rw [List.take_zero] at h; cases h)⟩ (fun j σ H' _ ⟨_, _, e, _⟩ => by rw [e]; exact SqL.of eL) ?_ ?_
    · rintro j x σ H4 hx ⟨v5, rfl, rfl, no⟩
      obtain ⟨q0, hq0, rfl⟩ := get_map (f := fun q : Addr × Plc => V.ref q.1) hx
      have mq := List.mem_of_getElem? hq0
      have tq := s3 _ _ (tt q0 mq).1
      refine ⟨.ref q0.1, rfl, .ref Gl, rfl, Gl, kvg, keyP q0.2, q0.1, rfl, rfl, DG.same s3, tq, _, rfl, ?_⟩
      cases hg : (getN kvg (keyP q0.2)).isSome with
      | true =>
        refine iteT ⟨.ref V0, rfl, .ref q0.1, rfl, V0, q0.1, q0.2, ps, keysR gs, Gd, rfl, P3.now s3, by rw [lks]; exact lg, tq, (tt q0 mq).2, fun L n0 ns H' s pl g l => qS L n0 ns H' (s3.trans s) pl g l⟩
      | false =>
        refine iteF ⟨_, rfl, rfl, fun q hq => ?_⟩
        rw [take_more hq0] at hq
        rcases List.mem_append.mp hq with h | h
        · exact no q h
        · cases List.mem_singleton.mp h
          exact hg
    rintro σ H4 ⟨v5, rfl, rfl, no⟩
    rw [List.length_map, List.take_length] at no
    refine ⟨(by show 0 ≤ sizeLine; decide), fun FU hFU => ?_⟩
    have s34 := same_new (o := .lst []) hFU
    have hFU0 := s3.free hFU
    have nFV : FU ≠ V0 := fun z => by rw [z, P3.at_] at hFU; cases hFU
    have nFL : FU ≠ LY := fun z => by rw [z, eL] at hFU; cases hFU
    have s4 := s3.trans s34
    have P4 : PvAt P w H (upd H4 FU (.lst [])) V0 (keysR gs) Gd ps := ⟨s34 _ _ P3.at_, P3.key, P3.val, P3.ord, P3.nd, P3.sub⟩
    have eL4 := s34 _ _ eL
    have eF4 : upd H4 FU (.lst []) FU = some (.lst []) := upd_same
    generalize upd H4 FU (.lst []) = H5 at s4 P4 eL4 eF4 ⊢
    have lyV : LY ≠ V0 := nLV
    clear s34 hFU P3 eL s3
    refine ⟨.ref LY, rfl, LY, rfl, ⟨_, SqL.of eL4⟩, ?_⟩
    refine for_list (K := K) (a := LY) (xs := ly.map fun q => V.ref q.1) (fun i σ H' => ∃ (v5 v7 : Option V) (ps2 : List PR) (fu : List (Addr × Plc)), σ = [some (.ref G), some (.ref a), some (.ref Gl), some (.ref V0), some (.ref LY), v5, some (.ref FU), v7] ∧ Same H H' ∧ PvAt P w H H' V0 (keysR gs) Gd ps2 ∧ H' LY = some (.lst (ly.map fun q => V.ref q.1)) ∧ H' FU = some (.lst (fu.map fun q => V.ref q.1)) ∧
      (∀ q ∈ fu, H q.1 = some (vP q.2) ∧ q.2 ∈ keysP ps2) ∧ (∀ x ∈ keysP ps, x ∈ keysP ps2) ∧ ps2.length = ps.length + fu.length ∧ ∀ x ∈ keysP ps2, x ∉ fu.map (·.2) → x ∈ (ly.drop i).map (·.2) ∨ ((getN kvg (keyP x)).isSome = false ∧ ∀ y ∈ nxt gs x, y ∈ keysP ps2))
      ⟨v5, v7, ps, [], rfl, s4, P4, eL4, eF4, (fun q h => by cases h), fun x h => h, rfl, fun x hx _ => by
        by_cases h : x ∈ ly.map (·.2)
        · exact .inl h
        · exact .inr (clo x hx h)⟩ (fun j σ H' _ ⟨_, _, _, _, _, _, _, e, _⟩ => SqL.of e) ?_ ?_
    · clear P4 eL4 eF4 s4 clo
      rintro i x σ H6 hx ⟨v5, v7, ps2, fu, rfl, s6, P6, eL, eF, tf, sub, len, clo⟩
      obtain ⟨y, hy, rfl⟩ := get_map (f := fun q : Addr × Plc => V.ref q.1) hx
      have my := List.mem_of_getElem? hy
      have ty := (tt y my).1
      have ky := sub _ (tt y my).2
      obtain ⟨e', me', ke', ge'⟩ := getR_some (gs := gs) (p := y.2) (P6.sub _ ky)
      have gA6 := gA.same s6
      have nx : ∀ z, z ∈ nxt gs y.2 → z ∈ e'.2.2.2.map (·.2) := fun z hz => by
        obtain ⟨e, he, ke, h⟩ := steps_mem.mp (nxt_mem.mp hz)
        have := map_one gnd he me' (ke.trans ke'.symm)
        subst this
        exact h
      have dr : ly.drop i = y :: ly.drop (i + 1) := by
        obtain ⟨h1, h2⟩ := List.getElem?_eq_some_iff.mp hy
        rw [List.drop_eq_getElem_cons h1, h2]
      refine ⟨.ref G, rfl, .ref y.1, rfl, G, kvR gs, keyP y.2, y.1, .ref e'.2.1, rfl, rfl, gA6.dict, s6 _ _ ty, ge', e'.2.1, rfl, ⟨_, SqL.of (gA6.val e' me').1⟩, ?_⟩
      refine for_list (K := K) (a := e'.2.1) (xs := e'.2.2.2.map fun q => V.ref q.1) (fun j σ H' => ∃ (v7 : Option V) (ps2 : List PR) (fu : List (Addr × Plc)), σ = [some (.ref G), some (.ref a), some (.ref Gl), some (.ref V0), some (.ref LY), some (.ref y.1), some (.ref FU), v7] ∧ Same H H' ∧ PvAt P w H H' V0 (keysR gs) Gd ps2 ∧ H' LY = some (.lst (ly.map fun q => V.ref q.1)) ∧ H' FU = some (.lst (fu.map fun q => V.ref q.1)) ∧
        (∀ q ∈ fu, H q.1 = some (vP q.2) ∧ q.2 ∈ keysP ps2) ∧ (∀ x ∈ keysP ps, x ∈ keysP ps2) ∧ ps2.length = ps.length + fu.length ∧ (∀ x ∈ keysP ps2, x ∉ fu.map (·.2) → x ∈ (ly.drop (i + 1)).map (·.2) ∨ x = y.2 ∨ ((getN kvg (keyP x)).isSome = false ∧ ∀ y ∈ nxt gs x, y ∈ keysP ps2)) ∧ ∀ q ∈ e'.2.2.2.take j, q.2 ∈ keysP ps2)
        ⟨v7, ps2, fu, rfl, s6, P6, eL, eF, tf, sub, len, (fun x hx n => by
          rcases clo x hx n with h | h
          · rw [dr, List.map_cons] at h
            rcases List.mem_cons.mp h with h | h
            · exact .inr (.inl h)
            · exact .inl h
          · exact .inr (.inr h)), (fun q h => by rw [List.take_zero] at h; cases h)⟩ (fun j σ H' _ ⟨_, _, _, _, s, _⟩ => SqL.of (s _ _ (gA.val e' me').1)) ?_ ?_
      · clear P6 eL eF tf sub len clo ky
        rintro j x σ H7 hx ⟨v7, ps2, fu, rfl, s7, P7, eL, eF, tf, sub, len, clo, tk⟩
        obtain ⟨q0, hq0, rfl⟩ := get_map (f := fun q : Addr × Plc => V.ref q.1) hx
        have mq := List.mem_of_getElem? hq0
        have tq0 := (gA.val e' me').2 q0 mq
        have tq := s7 _ _ tq0
        have D7 := P7.dict s7
        refine ⟨.ref q0.1, rfl, .ref V0, rfl, V0, kvP ps2, keyP q0.2, q0.1, rfl, rfl, D7, tq, ?_⟩
        rw [getP_is]
        by_cases hk : q0.2 ∈ keysP ps2
        · rw [decide_eq_true hk]
          refine ⟨_, rfl, iteF ⟨_, ps2, fu, rfl, s7, P7, eL, eF, tf, sub, len, clo, fun q hq => ?_⟩⟩
          rw [take_more hq0] at hq
          rcases List.mem_append.mp hq with h | h
          · exact tk q h
          · cases List.mem_singleton.mp h
            exact hk
        · rw [decide_eq_false hk]
          have l7 := P7.len
          have P8 := P7.add hk tq0 ty (sub _ (tt y my).2) (gGd e' me' q0 mq) (cl e' me' q0 mq)
          refine ⟨_, rfl, iteT ⟨.ref y.1, rfl, .ref V0, rfl, .ref q0.1, rfl, V0, kvP ps2, keyP q0.2, q0.1, rfl, rfl, D7, P7.at_, tq, ?_, ?_⟩⟩
          · rw [show (kvP ps2).length = ps2.length from List.length_map _]
            exact big18 (by omega)
          have e8 : putN (kvP ps2) (keyP q0.2) q0.1 (V.ref y.1) = kvP (ps2 ++ [(q0.1, q0.2, some y)]) := by
            rw [putN_new (getP_none hk), kvP_app]
            rfl
          rw [e8]
          have s8 : Same H (upd H7 V0 (dNT P w V0 (kvP (ps2 ++ [(q0.1, q0.2, some y)])))) := Same.store s7 hV
          have eL8 : upd H7 V0 (dNT P w V0 (kvP (ps2 ++ [(q0.1, q0.2, some y)]))) LY = some (.lst (ly.map fun q => V.ref q.1)) := (upd_ne nLV).trans eL
          have eF8 : upd H7 V0 (dNT P w V0 (kvP (ps2 ++ [(q0.1, q0.2, some y)]))) FU = some (.lst (fu.map fun q => V.ref q.1)) := (upd_ne nFV).trans eF
          generalize eH8 : upd H7 V0 (dNT _ _ V0 (kvP (ps2 ++ [(q0.1, q0.2, some y)]))) = H8
          have eH8 : upd H7 V0 (dNT P w V0 (kvP (ps2 ++ [(q0.1, q0.2, some y)]))) = H8 := eH8
          rw [eH8] at P8 s8 eL8 eF8
          refine ⟨.ref FU, rfl, .inl ⟨rfl, _, SqL.of eF8⟩, .ref q0.1, rfl, FU, _, .ref q0.1, rfl, rfl, eF8, ?_, ?_⟩
          · rw [List.length_map]
            exact big18 (by omega)
          have mono : ∀ x ∈ keysP ps2, x ∈ keysP (ps2 ++ [(q0.1, q0.2, some y)]) := fun x hx => by
            rw [keysP_app]
            exact List.mem_append_left _ hx
          have new : q0.2 ∈ keysP (ps2 ++ [(q0.1, q0.2, some y)]) := by
            rw [keysP_app]
            exact List.mem_append_right _ List.mem_cons_self
          refine ⟨_, ps2 ++ [(q0.1, q0.2, some y)], fu ++ [q0], rfl, Same.store s8 hFU0, ⟨(upd_ne nFV.symm).trans P8.at_, P8.key, P8.val, P8.ord, P8.nd, P8.sub⟩, (upd_ne nFL.symm).trans eL8, ?_, fun q hq => ?_, fun x hx => mono x (sub x hx), ?_, fun x hx n => ?_, fun q hq => ?_⟩
          · rw [upd_same, List.map_append]
            rfl
          · rcases List.mem_append.mp hq with h | h
            · exact ⟨(tf q h).1, mono _ (tf q h).2⟩
            · cases List.mem_singleton.mp h
              exact ⟨tq0, new⟩
          · rw [List.length_append, List.length_append, len]
            rfl
          · rw [List.map_append, List.mem_append] at n
            rw [keysP_app] at hx
            rcases List.mem_append.mp hx with h | h
            · rcases clo x h (fun z => n (.inl z)) with h | h | h
              · exact .inl h
              · exact .inr (.inl h)
              · exact .inr (.inr ⟨h.1, fun z hz => mono z (h.2 z hz)⟩)
            · exact absurd (.inr h) n
          · rw [take_more hq0] at hq
            rcases List.mem_append.mp hq with h | h
            · exact mono _ (tk q h)
            · cases List.mem_singleton.mp h
              exact new
      · rintro σ H7 ⟨v7, ps2, fu, rfl, s7, P7, eL, eF, tf, sub, len, clo, tk⟩
        rw [List.length_map, List.take_length] at tk
        refine ⟨_, v7, ps2, fu, rfl, s7, P7, eL, eF, tf, sub, len, fun x hx n => ?_⟩
        rcases clo x hx n with h | h | h
        · exact .inl h
        · subst h
          refine .inr ⟨no y my, fun z hz => ?_⟩
          obtain ⟨q, hq, rfl⟩ := List.mem_map.mp (nx z hz)
          exact tk q hq
        · exact .inr h
    · rintro σ H6 ⟨v5, v7, ps2, fu, rfl, s6, P6, eL, eF, tf, sub, len, clo⟩
      rw [List.length_map, List.drop_length] at clo
      have l6 := P6.len
      rw [lks] at l6
      refine ⟨.ref FU, rfl, _, ?_, v5, _, v7, FU, ps2, fu, rfl, rfl, s6, P6, eF, tf, sub _ mst, fun x hx n => ?_⟩
      · rw [if_neg hly]
        cases fu with
        | nil =>
          rw [if_pos rfl, len]
          show _ - (ps.length + 0) + 0 < _
          omega
        | cons z fu =>
          rw [if_neg (fun h => by cases h), len]
          rw [List.length_cons] at len ⊢
          omega
      · rcases clo x hx n with h | h
        · cases h
        · exact h
end
end K19
namespace K19
open PySem PySem.Spec PyProof.Rows L2 OF LamX NdefX
abbrev sRowB : Stmt := topS 50
abbrev sMid : Stmt := topS 51
section
variable {P : Program} {w : World} {K : PySem.W.Frag} {mg : Str → Option Value} {base : Heap}
def GdD (ds : List Int) (x : Plc) : Prop := ∃ d ∈ ds, x.2 = some d
/-! ### the digits of a way -/
def spRowB (P : Program) (w : World) : Sp := fun vs H Q _ => ∃ (G a Gl : Addr) (st : Plc) (gs : List GR) (kvg : List KeyT) (ds : List Int), vs = [.ref G, .ref a, .ref Gl] ∧ GrD P w H G gs ∧ (keysR gs).Nodup ∧ gs.length ≤ 300 ∧ (∀ e ∈ gs, ∀ q ∈ e.2.2.2, q.2 ∈ keysR gs) ∧ (∀ e ∈ gs, ∀ q ∈ e.2.2.2, GdD ds q.2) ∧
  H a = some (vP st) ∧ st ∈ keysR gs ∧ DictT P w H Gl kvg ∧ (∀ H', Same H H' → (∀ x, Reach (nxt gs) [st] x → (getN kvg (keyP x)).isSome = false) → Q .non H') ∧
  ∀ (R : Addr) (rs : List Int) (H' : Hp), Same H H' → H' R = some (.tup (rs.map V.int)) → (∀ d ∈ rs, d ∈ ds) → rs.length ≤ 300 → Q (.ref R) H'
abbrev nRb : List Str := ["graph", "start", "goals", "places", "_", "right"]
theorem scRb : FnScope nRb ["graph", "start", "goals"] (defScope sRowB) := ⟨rfl, rfl, rfl, by decide +kernel, rfl, by decide +kernel, by decide +kernel⟩
theorem digs_of {ds : List Int} : ∀ {ns : List (Addr × Plc)}, (∀ x ∈ ns, GdD ds x.2) → ∃ rs : List Int, rs.length = ns.length ∧ (∀ d ∈ rs, d ∈ ds) ∧ ns.map (fun x => nV x.2.2) = rs.map V.int
  | [], _ => ⟨[], rfl, (fun d h => by cases h), rfl⟩
  | x :: ns, h => by
    obtain ⟨rs, l, m, e⟩ := digs_of (ns := ns) fun y hy => h y (List.mem_cons_of_mem _ hy)
    obtain ⟨d, hd, ed⟩ := h x List.mem_cons_self
    refine ⟨d :: rs, by rw [List.length_cons, List.length_cons, l], fun y hy => ?_, ?_⟩
    · rcases List.mem_cons.mp hy with z | z
      · exact z ▸ hd
      · exact m y z
    · rw [List.map_cons, List.map_cons, e, ed]
      rfl
theorem ok_rowb {f fW : Addr} {fd fdW : FuncData} (F : Fun K "_row_between" "_row_between" sRowB f fd)
    (GW : FnOk P w K mg base CX0 2 fW fdW ["graph", "start", "goals"] (spWay P w)) (gW : mg "way" = some (.ref fW)) (kW : PySem.W.keepIn K (.ref fW) = true) (bW : Binds K fdW ["graph", "start", "goals"] []) (mtu : mg "tuple" = none) :
    FnOk P w K mg base CX0 3 f fd ["graph", "start", "goals"] (spRowB P w) := by
  refine F.ok scRb (fun vs H Q E h => ?_) (fun cdv A outer s H vs Q E hr h => ?_)
  · obtain ⟨G, a, Gl, st, gs, kvg, ds, rfl, _⟩ := h
    rfl
  · obtain ⟨G, a, Gl, st, gs, kvg, ds, rfl, gA, gnd, lg, cl, gGd, ha, hst, DG, qN, qS⟩ := h
    apply Exists.intro
    apply And.intro
    · apply pss_cons
      · exact ps_set (i := 3) scRb.nd rfl (.inl rfl) (pe_call GW hr (by rfl) gW kW bW .nil pass0 (pa_cons (pv 0) (pa_cons (pv 1) (pa_cons (pv 2) pa_nil))))
      apply pss_cons
      · exact ps_if (pt_cmpR op_isN (pv 3) pe_non (nomark _)) (pss_one (ps_ret pe_non)) pss_nil
      apply pss_one
      · exact ps_ret (pe_callTy call_tuple_of (by rfl) mtu (by decide +kernel) (pa_cons (pe_lc (own := [("_", 4), ("right", 5)]) (g := gTup K 2 (gCons (gName 4) (gCons (gName 5) gNil))) (tt := tYes) (te := tVar 5) rfl scRb.nd (pi_list (pe_revL0 (pv 3)))
          (blkOk_by (own := [("_", 4), ("right", 5)]) (N := nRb) (sc := defScope sRowB) (by decide +kernel)) (fun _ _ _ _ _ => by exact (pg_tup rfl (pgs_cons (pg_name (i := 4) scRb.nd rfl (Or.inl rfl)) (pgs_cons (pg_name (i := 5) scRb.nd rfl (Or.inl rfl)) pgs_nil)))) (fun _ _ _ _ _ => by exact pts_nil) (fun _ _ _ _ _ => by exact (pv 5))) pa_nil))
    refine ⟨.ref G, rfl, .ref a, rfl, .ref Gl, rfl, G, a, Gl, st, gs, kvg, GdD ds, rfl, gA, gnd, lg, cl, gGd, ha, hst, DG, fun H1 s1 no => ?_, fun L n0 ns H1 s1 pl gd ln => ?_⟩
    · exact ⟨.non, rfl, rfl, _, rfl, iteTB rfl (qN H1 s1 no)⟩
    · refine ⟨.ref L, rfl, rfl, _, rfl, iteFB rfl ⟨.ref L, rfl, L, V.ref n0.1, ns.map (fun q : Addr × Plc => V.ref q.1), rfl, SqL.of pl.1, fun R hR => ?_⟩⟩
      have s2 := same_new (o := .lst (ns.map fun q => V.ref q.1).reverse) hR
      have e2 : upd H1 R (.lst (ns.map fun q => V.ref q.1).reverse) R = some (.lst (ns.reverse.map fun q => V.ref q.1)) := by
        rw [upd_same, List.map_reverse]
      have at2 : ∀ x ∈ ns.reverse, upd H1 R (.lst (ns.map fun q => V.ref q.1).reverse) x.1 = some (vP x.2) := fun x hx => s2 _ _ (pl.2 x (List.mem_cons_of_mem _ (List.mem_reverse.mp hx)))
      generalize upd H1 R (.lst (ns.map fun q => V.ref q.1).reverse) = H2 at s2 e2 at2 ⊢
      have lr : ns.reverse.length ≤ 300 := by rw [List.length_reverse]; exact ln
      have gr : ∀ x ∈ ns.reverse, GdD ds x.2 := fun x hx => gd x (List.mem_reverse.mp hx)
      generalize ns.reverse = ms at e2 at2 lr gr ⊢
      refine ⟨R, rfl, ⟨_, SqL.of e2⟩, fun D hD => ?_⟩
      refine lc_list (K := K) (a := R) (xs := ms.map fun q => V.ref q.1) (fun j H' => Same H2 H' ∧ H' D = some (.lst ((ms.take j).map fun q => nV q.2.2))) ⟨same_new hD, upd_same⟩ (fun j H' _ h => SqL.of (h.1 _ _ e2)) ?_ ?_
      · rintro j x H3 hx ⟨s3, e3⟩
        obtain ⟨q0, hq0, rfl⟩ := get_map (f := fun q : Addr × Plc => V.ref q.1) hx
        have mq := List.mem_of_getElem? hq0
        have tq := s3 _ _ (at2 q0 mq)
        refine ⟨q0.1, [.int q0.2.1, nV q0.2.2], rfl, SqT.of tq, rfl, _, _, rfl, _, _, rfl, rfl, rfl, ?_⟩
        refine tYes_if ⟨nV q0.2.2, rfl, _, e3, ?_, Same.store s3 hD, ?_⟩
        · rw [List.length_map]
          exact big18 (Nat.le_trans (List.length_take_le' _ _) (by omega))
        · rw [upd_same, take_more hq0, List.map_append]
          rfl
      · rintro H3 ⟨s3, e3⟩
        rw [List.length_map, List.take_length] at e3
        obtain ⟨rs, l, m, e⟩ := digs_of gr
        rw [e] at e3
        refine ⟨D, rs.map V.int, rfl, .inl ⟨SqL.of e3, fun T hT => ?_⟩⟩
        exact qS T rs _ (s1.trans (s2.trans (s3.trans (same_new hT)))) upd_same m (by omega)
/-! ### a way back to a place -/
def spMid (P : Program) (w : World) : Sp := fun vs H Q _ => ∃ (G a : Addr) (st : Plc) (gs : List GR) (ds : List Int), vs = [.ref G, .ref a] ∧ GrD P w H G gs ∧ (keysR gs).Nodup ∧ gs.length ≤ 300 ∧ (∀ e ∈ gs, ∀ q ∈ e.2.2.2, q.2 ∈ keysR gs) ∧ (∀ e ∈ gs, ∀ q ∈ e.2.2.2, GdD ds q.2) ∧
  H a = some (vP st) ∧ st ∈ keysR gs ∧ (∀ H', Same H H' → Q .non H') ∧
  ∀ (R : Addr) (rs : List Int) (H' : Hp), Same H H' → H' R = some (.tup (rs.map V.int)) → (∀ d ∈ rs, d ∈ ds) → rs.length ≤ 301 → Q (.ref R) H'
abbrev nMd : List Str := ["graph", "place", "other", "row"]
theorem scMi : FnScope nMd ["graph", "place"] (defScope sMid) := ⟨rfl, rfl, rfl, by decide +kernel, rfl, by decide +kernel, by decide +kernel⟩
theorem ok_mid {f fW : Addr} {fd fdW : FuncData} (F : Fun K "_middle" "_middle" sMid f fd)
    (GW : FnOk P w K mg base CX0 3 fW fdW ["graph", "start", "goals"] (spRowB P w)) (gW : mg "_row_between" = some (.ref fW)) (kW : PySem.W.keepIn K (.ref fW) = true) (bW : Binds K fdW ["graph", "start", "goals"] []) :
    FnOk P w K mg base CX0 4 f fd ["graph", "place"] (spMid P w) := by
  refine F.ok scMi (fun vs H Q E h => ?_) (fun cdv A outer s H vs Q E hr h => ?_)
  · obtain ⟨G, a, st, gs, ds, rfl, _⟩ := h
    rfl
  · obtain ⟨G, a, st, gs, ds, rfl, gA, gnd, lg, cl, gGd, ha, hst, qN, qS⟩ := h
    apply Exists.intro
    apply And.intro
    · apply pss_cons
      · exact ps_for PassesOwn.never rfl (pi_list (pe_ix (ix_dictNT (hu_of hr)) (pv 0) (pv 1) (fun _ _ => rfl))) (pg_name (i := 2) scMi.nd rfl (.inl rfl))
          (pss_cons (ps_set (i := 3) scMi.nd rfl (.inl rfl) (pe_call GW hr (by rfl) gW kW bW .nil pass0 (pa_cons (pv 0) (pa_cons (pv 2) (pa_cons (pe_disp1NT (Nat.lt_of_succ_lt (hu_of hr)) (pv 1) pe_bl) pa_nil)))))
            (pss_one (ps_if (pt_cmpR op_notN (pv 3) pe_non (nomark _)) (pss_one (ps_ret (pe_op op_cat2 (pv 3) (pe_tup (pa_cons (pe_ix ix_tup (pv 2) pe_int (fun _ _ => rfl)) pa_nil))))) pss_nil)))
      apply pss_one
      · exact ps_ret pe_non
    obtain ⟨e', me', ke', ge'⟩ := getR_some (gs := gs) (p := st) hst
    refine ⟨.ref G, rfl, .ref a, rfl, G, kvR gs, keyP st, a, .ref e'.2.1, rfl, rfl, gA.dict, ha, ge', e'.2.1, rfl, ⟨_, SqL.of (gA.val e' me').1⟩, ?_⟩
    refine for_list (K := K) (a := e'.2.1) (xs := e'.2.2.2.map fun q => V.ref q.1) (fun j σ H' => ∃ v2 v3 : Option V, σ = [some (.ref G), some (.ref a), v2, v3] ∧ Same H H') ⟨none, none, rfl, Same.refl _⟩ (fun j σ H' _ ⟨_, _, _, s⟩ => SqL.of (s _ _ (gA.val e' me').1)) ?_ ?_
    · rintro j x σ H1 hx ⟨v2, v3, rfl, s1⟩
      obtain ⟨q0, hq0, rfl⟩ := get_map (f := fun q : Addr × Plc => V.ref q.1) hx
      have mq := List.mem_of_getElem? hq0
      have tq := (gA.val e' me').2 q0 mq
      refine ⟨.ref G, rfl, .ref q0.1, rfl, fun D hD => ⟨.ref a, rfl, keyP st, a, rfl, upd_same, same_new hD _ _ (s1 _ _ ha), ?_⟩⟩
      have s2 : Same H (upd (upd H1 D (dNT P w D [])) D (dNT P w D [(keyP st, a, .bl true)])) := s1.trans (Same.store (same_new hD) hD)
      have D2 : DictT P w (upd (upd H1 D (dNT P w D [])) D (dNT P w D [(keyP st, a, .bl true)])) D [(keyP st, a, .bl true)] := ⟨.inl upd_same, fun p hp => by
        cases List.mem_singleton.mp hp
        exact s2 _ _ ha⟩
      generalize eH2 : upd (upd H1 D (dNT _ _ D [])) D (dNT _ _ D [(keyP st, a, .bl true)]) = H2
      have eH2 : upd (upd H1 D (dNT P w D [])) D (dNT P w D [(keyP st, a, .bl true)]) = H2 := eH2
      rw [eH2] at s2 D2
      refine ⟨G, q0.1, D, q0.2, gs, [(keyP st, a, .bl true)], ds, rfl, gA.same s2, gnd, lg, cl, gGd, s2 _ _ tq, cl e' me' q0 mq, D2, fun H3 s3 no => ?_, fun R rs H3 s3 eR gd lr => ?_⟩
      · exact ⟨.non, rfl, rfl, _, rfl, iteFB rfl ⟨_, _, rfl, s2.trans s3⟩⟩
      · have s4 := s2.trans s3
        obtain ⟨d, hd, ed⟩ := gGd e' me' q0 mq
        have tq4 : H3 q0.1 = some (.tup [.int q0.2.1, .int d]) := by
          rw [s4 _ _ tq]
          show some (HO.tup [.int q0.2.1, nV q0.2.2]) = _
          rw [ed]
          rfl
        refine ⟨.ref R, rfl, rfl, _, rfl, iteTB rfl ⟨.ref R, rfl, .ref q0.1, rfl, q0.1, _, 1, .int d, rfl, rfl, SqT.of tq4, atI_nat (j := 1) rfl, (by show 1 ≤ sizeLine; decide), fun T hT => ?_⟩⟩
        have s5 := same_new (o := .tup [.int d]) hT
        refine ⟨R, T, rs.map V.int, [.int d], rfl, rfl, s5 _ _ eR, upd_same, ?_, fun p H5 s6 e6 => qS p (rs ++ [d]) H5 (s4.trans (s5.trans s6)) (by rw [List.map_append]; exact e6) (fun z hz => ?_) ?_⟩
        · rw [List.length_map]
          show rs.length + 1 ≤ sizeLine
          exact Nat.le_of_lt (big18 (by omega))
        · rcases List.mem_append.mp hz with h | h
          · exact gd z h
          · cases List.mem_singleton.mp h
            exact hd
        · rw [List.length_append]
          show rs.length + 1 ≤ _
          omega
    · rintro σ H1 ⟨v2, v3, rfl, s1⟩
      exact qN H1 s1
end
end K19
namespace K19
open PySem PySem.Spec PyProof.Rows L2 OF LamX NdefX
abbrev sLoop : Stmt := topS 52
section
variable {P : Program} {w : World} {K : PySem.W.Frag} {mg : Str → Option Value} {base : Heap}
theorem getN_mem {kvs : List KeyT} {k : List KeyN} : (getN kvs k).isSome = true ↔ ∃ p ∈ kvs, p.1 = k := by
  unfold getN
  rw [Option.isSome_map, List.find?_isSome]
  constructor
  · rintro ⟨p, hp, h⟩
    exact ⟨p, hp, of_decide_eq_true h⟩
  · rintro ⟨p, hp, h⟩
    exact ⟨p, hp, decide_eq_true h⟩
theorem putN_old {kvs : List KeyT} {k j : List KeyN} {b : Addr} {v : V} (h : (getN kvs j).isSome = true) : (getN (putN kvs k b v) j).isSome = true := by
  obtain ⟨p, hp, rfl⟩ := getN_mem.mp h
  unfold putN
  split
  · refine getN_mem.mpr ⟨_, List.mem_map.mpr ⟨p, hp, rfl⟩, ?_⟩
    split <;> rfl
  · exact getN_mem.mpr ⟨p, List.mem_append_left _ hp, rfl⟩
theorem putN_at {kvs : List KeyT} {k : List KeyN} {b : Addr} {v : V} : (getN (putN kvs k b v) k).isSome = true := by
  by_cases h : (getN kvs k).isSome = true
  · exact putN_old h
  · unfold putN
    rw [if_neg h]
    exact getN_mem.mpr ⟨_, List.mem_append_right _ List.mem_cons_self, rfl⟩
/-! ### loop -/
structure PartAt (ds : List Int) (H : Hp) (p : Addr) (rs : List Int) : Prop where
  at_ : H p = some (.tup (rs.map V.int))
  dg : ∀ d ∈ rs, d ∈ ds
  len : rs.length ≤ 301
theorem PartAt.same {ds : List Int} {H H' : Hp} {p : Addr} {rs : List Int} (h : PartAt ds H p rs) (s : Same H H') : PartAt ds H' p rs := ⟨s _ _ h.at_, h.dg, h.len⟩
def spLoop (P : Program) (w : World) (C : Addr) (T : List (Addr × Str)) : Sp := fun vs H Q _ => ∃ (a t r : Addr) (n b : Int) (ds : List Int) (ks : List (Addr × (Int × Int))) (U : List Plc), vs = [.ref a, .int n] ∧ SchemeAt C H a t r b ds ks ∧ Tabs T H ∧ ds.length ≤ 60 ∧ b ≠ 0 ∧ b.natAbs ≤ 6 ∧ ((n, none) : Plc) ∈ U ∧ Bound b ds ks U ∧ U.length ≤ 300 ∧
  (∀ H', ExtN H H' → Tabs T H' → Q .non H') ∧ ∀ (R p1 p2 p3 : Addr) (fs ms bs : List Int) (H' : Hp), ExtN H H' → Tabs T H' → H' R = some (.tup [.ref p1, .ref p2, .ref p3]) → PartAt ds H' p1 fs → PartAt ds H' p2 ms → PartAt ds H' p3 bs → Q (.ref R) H'
abbrev nLo : List Str := ["scheme", "number", "graph", "place", "free", "ends", "middle", "front", "back"]
theorem scLo : FnScope nLo ["scheme", "number"] (defScope sLoop) := ⟨rfl, rfl, rfl, by decide +kernel, rfl, by decide +kernel, by decide +kernel⟩
set_option maxHeartbeats 2000000 in
theorem ok_loop {f fS fN fP fU fE fM fR C CN CI : Addr} {fd fdS fdN fdP fdU fdE fdM fdR : FuncData} {T : List (Addr × Str)} (F : Fun K "loop" "loop" sLoop f fd)
    (GS : FnOk P w K mg base (L2.CX P w) 5 fS fdS ["value"] (spCheckS C CN)) (gS : mg "check_scheme" = some (.ref fS)) (kS : PySem.W.keepIn K (.ref fS) = true) (bS : Binds K fdS ["value"] [])
    (GN : FnOk P w K mg base (L2.CX P w) 5 fN fdN ["value"] (spCheckN CI)) (gN : mg "check_number" = some (.ref fN)) (kN : PySem.W.keepIn K (.ref fN) = true) (bN : Binds K fdN ["value"] [])
    (GP : FnOk P w K mg base CX0 10 fP fdP ["scheme", "number"] (spPlain P w C T)) (gP : mg "_plain_graph" = some (.ref fP)) (kP : PySem.W.keepIn K (.ref fP) = true) (bP : Binds K fdP ["scheme", "number"] [])
    (GU : FnOk P w K mg base CX0 1 fU fdU ["graph"] (spUnt P w)) (gU : mg "untangled" = some (.ref fU)) (kU : PySem.W.keepIn K (.ref fU) = true) (bU : Binds K fdU ["graph"] [])
    (GE : FnOk P w K mg base CX0 1 fE fdE ["place"] spIsEnd) (gE : mg "is_end" = some (.ref fE)) (kE : PySem.W.keepIn K (.ref fE) = true) (bE : Binds K fdE ["place"] [])
    (GM : FnOk P w K mg base CX0 4 fM fdM ["graph", "place"] (spMid P w)) (gM : mg "_middle" = some (.ref fM)) (kM : PySem.W.keepIn K (.ref fM) = true) (bM : Binds K fdM ["graph", "place"] [])
    (GRb : FnOk P w K mg base CX0 3 fR fdR ["graph", "start", "goals"] (spRowB P w)) (gR : mg "_row_between" = some (.ref fR)) (kR : PySem.W.keepIn K (.ref fR) = true) (bR : Binds K fdR ["graph", "start", "goals"] []) :
    FnOk P w K mg base (L2.CX P w) 11 f fd ["scheme", "number"] (spLoop P w C T) := by
  refine F.okX scLo (fun vs H Q E h => ?_) (fun cdv A outer s H vs Q E hr h => ?_)
  · obtain ⟨a, t, r, n, b, ds, ks, U, rfl, _⟩ := h
    rfl
  · obtain ⟨a, t, r, n, b, ds, ks, U, rfl, Sc, hT, few, b0, b6, nU, BU, lU, qN, qS⟩ := h
    have hr1 : Room 1 _ := hr.mono (by decide)
    have hr3 : Room 3 _ := hr.mono (by decide)
    have hr4 : Room 4 _ := hr.mono (by decide)
    have hr5 : Room 5 _ := hr.mono (by decide)
    apply Exists.intro
    apply And.intro
    · apply pss_cons
      · exact ps_expr (pe_call GS hr5 (by rfl) gS kS bS .nil (passes_call (W := fun cl d _ J => E cl d J) (takes_of rfl rfl rfl rfl) (fun _ _ _ _ z => z)) (pa_cons (pv 0) pa_nil))
      apply pss_cons
      · exact ps_expr (pe_call GN hr5 (by rfl) gN kN bN .nil (passes_call (W := fun cl d _ J => E cl d J) (takes_of rfl rfl rfl rfl) (fun _ _ _ _ z => z)) (pa_cons (pv 1) pa_nil))
      apply pss_cons
      · exact ps_set (i := 2) scLo.nd rfl (.inl rfl) (pe_call GP hr (by rfl) gP kP bP .nil pass0 (pa_cons (pv 0) (pa_cons (pv 1) pa_nil)))
      apply pss_cons
      · exact ps_setDcK (i := 4) (κ := kNT P w) (own := [("place", 3)]) (g := gName 3) (tt := tYes) (tk := tVar 3) (tv := tC (.bl true)) (by exact Nat.lt_of_succ_lt (hu_of hr)) rfl scLo.nd rfl rfl (sw_dict rfl rfl rfl (by decide +kernel)) (pi_list (pe_call GU hr1 (by rfl) gU kU bU .nil pass0 (pa_cons (pv 2) pa_nil)))
          (blkOk_by (own := [("place", 3)]) (N := nLo) (sc := defScope sLoop) (by decide +kernel)) (fun _ _ _ _ _ => pg_name (i := 3) scLo.nd rfl (Or.inl rfl)) (fun _ _ _ _ _ => by exact pts_nil) (fun _ _ _ _ _ => by exact (pv 3)) (fun _ _ _ _ _ => by exact pe_bl)
      apply pss_cons
      · exact ps_lock (ps_setDcK (i := 5) (κ := kNT P w) (own := [("place", 3)]) (g := gName 3) (tt := tB (tCall spIsEnd [] E0 (tCons (tVar 3) tNil))) (tk := tVar 3) (tv := tC (.bl true)) (by exact Nat.lt_of_succ_lt (hu_of hr)) rfl scLo.nd rfl rfl (sw_dict rfl rfl rfl (by decide +kernel)) (pi_keysN (pv 2))
          (blkOk_by (own := [("place", 3)]) (N := nLo) (sc := defScope sLoop) (by decide +kernel)) (fun _ _ _ _ _ => pg_name (i := 3) scLo.nd rfl (Or.inl rfl)) (fun _ _ _ _ _ => by exact (pts_one (pt_val (pe_call GE hr1 (by rfl) gE kE bE .nil pass0 (pa_cons (pv 3) pa_nil))))) (fun _ _ _ _ _ => by exact (pv 3)) (fun _ _ _ _ _ => by exact pe_bl))
      apply pss_cons
      · exact ps_lock (ps_for (passes_of rfl) rfl (pi_keysN (pv 2)) (pg_name (i := 3) scLo.nd rfl (.inl rfl))
          (pss_cons (ps_set (i := 6) scLo.nd rfl (.inl rfl) (pe_ifExp (pt_cmpR (op_inNT (hu_of hr)) (pv 3) (pv 4) rfl) pe_non (pe_call GM hr4 (by rfl) gM kM bM .nil pass0 (pa_cons (pv 2) (pa_cons (pv 3) pa_nil)))))
            (pss_one (ps_if (pt_cmpR op_notN (pv 6) pe_non (nomark _))
              (pss_cons (ps_set (i := 7) scLo.nd rfl (.inl rfl) (pe_call GRb hr3 (by rfl) gR kR bR .nil pass0 (pa_cons (pv 2) (pa_cons (pv 3) (pa_cons (pv 5) pa_nil)))))
                (pss_cons (ps_set (i := 8) scLo.nd rfl (.inl rfl) (pe_call GRb hr3 (by rfl) gR kR bR .nil pass0 (pa_cons (pv 2) (pa_cons (pe_tup (pa_cons (pv 1) (pa_cons pe_non pa_nil))) (pa_cons (pe_disp1NT (Nat.lt_of_succ_lt (hu_of hr)) (pv 3) pe_bl) pa_nil)))))
                  (pss_one (ps_ret (pe_tup (pa_cons (pv 7) (pa_cons (pv 6) (pa_cons (pv 8) pa_nil)))))))) pss_nil))))
      apply pss_one
      · exact ps_ret pe_non
    obtain ⟨⟨dx, hins⟩, _⟩ := id Sc
    refine ⟨.ref a, rfl, .ref a, rfl, .inl ⟨a, dx, _, rfl, hins, ?_⟩⟩
    refine ⟨.int n, rfl, .int n, rfl, .inl ⟨n, rfl, ?_⟩⟩
    refine ⟨.ref a, rfl, .int n, rfl, a, t, r, n, b, ds, ks, U, rfl, Sc, hT, few, b0, b6, nU, BU, lU, fun G H1 gs x1 T1 PL => ?_⟩
    have gA := PL.gr
    have gnd := PL.nd
    have lk : (kvR gs).length = gs.length := List.length_map _
    have keyM : ∀ {i : Nat} {e : GR}, gs[i]? = some e → (keysR gs)[i]? = some e.2.2.1 := fun {i e} he => by unfold keysR; rw [List.getElem?_map, he]; rfl
    have lg := PL.len
    have gGd : ∀ e ∈ gs, ∀ q ∈ e.2.2.2, GdD ds q.2 := PL.dg
    -- those not on a ring
    refine ⟨.ref G, rfl, G, gs, rfl, gA, gnd, lg, PL.cl, fun O H2 os s2 pO kO nO => ?_⟩
    refine ⟨O, rfl, ⟨_, SqL.of pO.1⟩, fun D hD => ?_⟩
    have lO : os.length ≤ 300 := by
      have := nodup_le (os.map (·.2)) (keysR gs) nO fun x hx => by
        obtain ⟨q, hq, rfl⟩ := List.mem_map.mp hx
        exact kO q hq
      rw [List.length_map, show (keysR gs).length = gs.length from List.length_map _] at this
      omega
    refine dcK_it (κ := kNT P w) (walk_list (K := K) (a := O) (xs := os.map fun q => V.ref q.1)) (fun i H' => Same H2 H' ∧ ∃ kvs : List KeyT, H' D = some (dNT P w D kvs) ∧ DictT P w H' D kvs ∧ kvs.length ≤ i) ⟨same_new hD, [], upd_same, ⟨.inl upd_same, fun p hp => by cases hp⟩, Nat.le_refl _⟩ (fun i H' _ h => SqL.of (h.1 _ _ pO.1)) ?_ ?_
    · rintro i x H3 H4 hi ⟨s3, kvs, e3, D3, l3⟩ ⟨rfl, hx⟩
      obtain ⟨q0, hq0, rfl⟩ := get_map (f := fun q : Addr × Plc => V.ref q.1) hx
      have tq := s3 _ _ (pO.2 q0 (List.mem_of_getElem? hq0))
      rw [List.length_map] at hi
      refine ⟨rfl, ?_⟩
      dsimp only [tYes]
      refine iteTB rfl ⟨.ref q0.1, rfl, kvs, keyP q0.2, q0.1, rfl, D3, e3, tq, big18 (by omega), Same.store s3 hD, _, upd_same, D3.put e3 tq, ?_⟩
      have := putN_len kvs (keyP q0.2) q0.1 (V.bl true)
      omega
    rintro H3 ⟨s3, kvf, e3, D3, l3⟩
    have s13 := s2.trans s3
    have nDG : D ≠ G := fun z => by
      have k := s2 _ _ gA.at_
      rw [← z, hD] at k
      cases k
    clear e3 l3 s3 hD pO kO nO lO s2
    have gA3 := gA.same s13
    -- where a row may end
    refine ⟨G, dNT P w G (kvR gs), gA3.at_, trivial, fun od => ?_⟩
    have hl : upd H3 G (.frz od (dNT P w G (kvR gs))) G = some (.frz od (dNT P w G (kvR gs))) := upd_same
    have tupG : ∀ {c : Addr} {xs : List V}, H3 c = some (.tup xs) → upd H3 G (.frz od (dNT P w G (kvR gs))) c = some (.tup xs) := fun {c xs} e => by
      rw [upd_ne fun y => by rw [y, gA3.at_] at e; unfold dNT at e; cases e]
      exact e
    refine ⟨.ref G, rfl, G, od, kvR gs, rfl, hl, fun N hN => ?_⟩
    have nNG : N ≠ G := fun z => by rw [z, hl] at hN; cases hN
    refine dcK_it (κ := kNT P w) walkN (fun i H' => Same (upd H3 G (.frz od (dNT P w G (kvR gs)))) H' ∧ ∃ kvs : List KeyT, H' N = some (dNT P w N kvs) ∧ DictT P w H' N kvs ∧ kvs.length ≤ i ∧ ∀ e ∈ gs.take i, endP e.2.2.1 = true → (getN kvs (keyP e.2.2.1)).isSome = true) ⟨same_new hN, [], upd_same, ⟨.inl upd_same, fun p hp => by cases hp⟩, Nat.le_refl _, (fun e h => by rw [List.take_zero] at h; cases h)⟩ (fun i H' _ h => h.1 _ _ hl) ?_ ?_
    · rintro i x H4 H5 hi ⟨s4, kvs, e4, D4, l4, in4⟩ ⟨rfl, p, hp, rfl⟩
      obtain ⟨e, he, rfl⟩ := get_map (f := fun e : GR => (keyP e.2.2.1, e.1, V.ref e.2.1)) hp
      have me := List.mem_of_getElem? he
      have ke := s4 _ _ (tupG (gA3.key e me))
      rw [lk] at hi
      refine ⟨rfl, .ref e.1, rfl, e.1, e.2.2.1, rfl, ke, _, rfl, ?_⟩
      cases hE : endP e.2.2.1 with
      | true =>
        refine iteT ⟨.ref e.1, rfl, kvs, keyP e.2.2.1, e.1, rfl, D4, e4, ke, big18 (by omega), Same.store s4 hN, _, upd_same, D4.put e4 ke, ?_, fun z hz ez => ?_⟩
        · have := putN_len kvs (keyP e.2.2.1) e.1 (V.bl true)
          omega
        · rw [take_more he] at hz
          rcases List.mem_append.mp hz with h | h
          · exact putN_old (in4 z h ez)
          · cases List.mem_singleton.mp h
            exact putN_at
      | false =>
        refine iteF ⟨s4, kvs, e4, D4, by omega, fun z hz ez => ?_⟩
        rw [take_more he] at hz
        rcases List.mem_append.mp hz with h | h
        · exact in4 z h ez
        · cases List.mem_singleton.mp h
          rw [hE] at ez
          cases ez
    rintro H4 ⟨s4, kve, e4, D4, _, in4⟩
    rw [lk, List.take_length] at in4
    have s34 := same_unlock gA3.at_ s4
    have hl4 := s4 _ _ hl
    have D4u : DictT P w (upd H4 G (dNT P w G (kvR gs))) N kve := by
      refine ⟨.inl ((upd_ne nNG).trans e4), fun p hp => ?_⟩
      have k := D4.ks p hp
      rw [upd_ne fun z => by rw [z, hl4] at k; cases k]
      exact k
    refine ⟨hl4, ?_⟩
    generalize upd H4 G (dNT _ _ G (kvR gs)) = H5 at s34 D4u ⊢
    have s15 := s13.trans s34
    have D5 := D3.same s34
    clear hl4 s4 e4 D4 hl tupG hN D3 gA3 s34 s13
    -- the ring
    have gA5 := gA.same s15
    refine ⟨G, dNT P w G (kvR gs), gA5.at_, trivial, fun od2 => ?_⟩
    have hlH : ∀ {H' : Hp}, Same (upd H5 G (.frz od2 (dNT P w G (kvR gs)))) H' → H' G = some (.frz od2 (dNT P w G (kvR gs))) := fun s => s _ _ upd_same
    have tupG : ∀ {c : Addr} {xs : List V}, H5 c = some (.tup xs) → upd H5 G (.frz od2 (dNT P w G (kvR gs))) c = some (.tup xs) := fun {c xs} e => by
      rw [upd_ne fun y => by rw [y, gA5.at_] at e; unfold dNT at e; cases e]
      exact e
    have lstG : ∀ {c : Addr} {xs : List V}, H5 c = some (.lst xs) → upd H5 G (.frz od2 (dNT P w G (kvR gs))) c = some (.lst xs) := fun {c xs} e => by
      rw [upd_ne fun y => by rw [y, gA5.at_] at e; unfold dNT at e; cases e]
      exact e
    have gD : GrD P w (upd H5 G (.frz od2 (dNT P w G (kvR gs)))) G gs := ⟨⟨.inr ⟨od2, upd_same⟩, fun z hz => by
      obtain ⟨u, hu, rfl⟩ := List.mem_map.mp hz
      exact tupG (gA5.key u hu)⟩, fun e he => ⟨lstG (gA5.val e he).1, fun q hq => tupG ((gA5.val e he).2 q hq)⟩⟩
    have dLk : ∀ {c : Addr} {kvs : List KeyT}, c ≠ G → DictT P w H5 c kvs → DictT P w (upd H5 G (.frz od2 (dNT P w G (kvR gs)))) c kvs := fun {c kvs} n d => by
      refine ⟨?_, fun p hp => tupG (d.ks p hp)⟩
      rcases d.at_ with e | ⟨o, e⟩
      · exact .inl ((upd_ne n).trans e)
      · exact .inr ⟨o, (upd_ne n).trans e⟩
    have unl : ∀ {H' : Hp}, Same (upd H5 G (.frz od2 (dNT P w G (kvR gs)))) H' → ∀ {c : Addr} {xs : List V}, H' c = some (.tup xs) → upd H' G (dNT P w G (kvR gs)) c = some (.tup xs) := fun {H'} s {c xs} e => by
      rw [upd_ne fun z => by rw [z, hlH s] at e; cases e]
      exact e
    have dF := dLk nDG D5
    have dE := dLk nNG D4u
    refine ⟨.ref G, rfl, G, od2, kvR gs, rfl, upd_same, ?_⟩
    refine for_it walkN (fun i σ H' => ∃ v3 v6 v7 v8 : Option V, σ = [some (.ref a), some (.int n), some (.ref G), v3, some (.ref D), some (.ref N), v6, v7, v8] ∧ Same (upd H5 G (.frz od2 (dNT P w G (kvR gs)))) H') ⟨none, none, none, none, rfl, Same.refl _⟩ (fun i σ H' _ ⟨_, _, _, _, _, s⟩ => hlH s) ?_ ?_
    · rintro i x σ H6 H7 hi ⟨v3, v6, v7, v8, rfl, s6⟩ ⟨rfl, p, hp, rfl⟩
      obtain ⟨e, he, rfl⟩ := get_map (f := fun e : GR => (keyP e.2.2.1, e.1, V.ref e.2.1)) hp
      have me := List.mem_of_getElem? he
      have mk : e.2.2.1 ∈ keysR gs := List.mem_map.mpr ⟨e, me, rfl⟩
      have ke0 := tupG (gA5.key e me)
      have ke := s6 _ _ ke0
      refine ⟨.ref e.1, rfl, .ref D, rfl, D, kvf, keyP e.2.2.1, e.1, rfl, rfl, dF.same s6, ke, _, rfl, ?_⟩
      cases (getN kvf (keyP e.2.2.1)).isSome with
      | true => exact iteT ⟨.non, rfl, rfl, _, rfl, iteFB rfl ⟨_, _, _, _, rfl, s6⟩⟩
      | false =>
        refine iteF ⟨.ref G, rfl, .ref e.1, rfl, G, e.1, e.2.2.1, gs, ds, rfl, gD.same s6, gnd, lg, PL.cl, gGd, ke, mk, fun H7 s7 => ?_, fun R2 ms H7 s7 e2 g2 l2 => ?_⟩
        · exact ⟨.non, rfl, rfl, _, rfl, iteFB rfl ⟨_, _, _, _, rfl, s6.trans s7⟩⟩
        have s67 := s6.trans s7
        refine ⟨.ref R2, rfl, rfl, _, rfl, iteTB rfl ?_⟩
        refine ⟨.ref G, rfl, .ref e.1, rfl, .ref N, rfl, G, e.1, N, e.2.2.1, gs, kve, ds, rfl, gD.same s67, gnd, lg, PL.cl, gGd, s67 _ _ ke0, mk, dE.same s67, fun H8 s8 no => ?_, fun R1 fs H8 s8 e1 g1 l1 => ?_⟩
        · obtain ⟨y, hy, ey, ry⟩ := PL.fin _ mk
          obtain ⟨u, hu, rfl⟩ := List.mem_map.mp hy
          have := in4 u hu ey
          rw [no _ ry] at this
          cases this
        have s68 := s67.trans s8
        refine ⟨.ref G, rfl, .int n, rfl, (by show 2 ≤ sizeLine; decide), fun tp htp => ?_⟩
        have s9 := same_new (o := .tup [.int n, .non]) htp
        have e9 : upd H8 tp (.tup [.int n, .non]) tp = some (.tup [.int n, .non]) := upd_same
        generalize upd H8 tp (.tup [.int n, .non]) = H9 at s9 e9 ⊢
        have s69 := s68.trans s9
        refine fun Dd hDd => ⟨.ref e.1, rfl, keyP e.2.2.1, e.1, rfl, upd_same, same_new hDd _ _ (s69 _ _ ke0), ?_⟩
        have s10 : Same H9 (upd (upd H9 Dd (dNT P w Dd [])) Dd (dNT P w Dd [(keyP e.2.2.1, e.1, .bl true)])) := Same.store (same_new hDd) hDd
        have D10 : DictT P w (upd (upd H9 Dd (dNT P w Dd [])) Dd (dNT P w Dd [(keyP e.2.2.1, e.1, .bl true)])) Dd [(keyP e.2.2.1, e.1, .bl true)] := ⟨.inl upd_same, fun p hp => by
          cases List.mem_singleton.mp hp
          exact s10 _ _ (s69 _ _ ke0)⟩
        generalize eH10 : upd (upd H9 Dd (dNT _ _ Dd [])) Dd (dNT _ _ Dd [(keyP e.2.2.1, e.1, .bl true)]) = H10
        have eH10 : upd (upd H9 Dd (dNT P w Dd [])) Dd (dNT P w Dd [(keyP e.2.2.1, e.1, .bl true)]) = H10 := eH10
        rw [eH10] at s10 D10
        have s610 := s69.trans s10
        refine ⟨G, tp, Dd, (n, none), gs, [(keyP e.2.2.1, e.1, .bl true)], ds, rfl, gD.same s610, gnd, lg, PL.cl, gGd, s10 _ _ e9, PL.s0 _ mk, D10, fun H11 s11 no => ?_, fun R3 bs H11 s11 e3 g3 l3 => ?_⟩
        · have := no _ (PL.st _ mk)
          rw [show (getN [((keyP e.2.2.1, e.1, V.bl true) : KeyT)] (keyP e.2.2.1)).isSome = true from getN_mem.mpr ⟨_, List.mem_cons_self, rfl⟩] at this
          cases this
        have s611 := s610.trans s11
        have e2' := s11 _ _ (s10 _ _ (s9 _ _ (s8 _ _ e2)))
        have e1' := s11 _ _ (s10 _ _ (s9 _ _ e1))
        refine ⟨.ref R1, rfl, .ref R2, rfl, .ref R3, rfl, (by show 3 ≤ sizeLine; decide), fun R hR => ?_⟩
        have s12 := same_new (o := .tup [.ref R1, .ref R2, .ref R3]) hR
        have s612 := s611.trans s12
        have sEnd := s15.trans (same_unlock gA5.at_ s612)
        refine ⟨hlH s612, qS R R1 R2 R3 fs ms bs _ (x1.trans (ExtN.of sEnd)) (T1.ext sEnd) (unl s612 upd_same) ⟨unl s612 (s12 _ _ e1'), g1, by omega⟩ ⟨unl s612 (s12 _ _ e2'), g2, l2⟩ ⟨unl s612 (s12 _ _ e3), g3, by omega⟩⟩
    · rintro σ H6 ⟨v3, v6, v7, v8, rfl, s6⟩
      have sEnd := s15.trans (same_unlock gA5.at_ s6)
      exact ⟨hlH s6, qN _ (x1.trans (ExtN.of sEnd)) (T1.ext sEnd)⟩
end
end K19
namespace K19
open PySem PySem.Spec PyProof.Rows L2 OF
abbrev sIsRow : Stmt := topS 65
abbrev sValue : Stmt := topS 64
section
variable {P : Program} {w : World} {K : PySem.W.Frag} {mg : Str → Option Value} {base : Heap}
/-- a row's value -/
def valI (b : Int) (ns : List Int) : Int := ns.foldl (fun v d => v * b + d) 0
/-! ### the law's own look at a row -/
def adjR (ps : List (Int × Int)) : List Int → Bool
  | x :: y :: l => !hasP ps x y && adjR ps (y :: l)
  | _ => true
def rowI (ns : List Int) (ps : List (Int × Int)) (ls : List Int) : Bool := ls.all (fun x => decide (x ∈ ns)) && adjR ps ls
theorem adjR_iff {ps : List (Int × Int)} : ∀ {ls : List Int}, adjR ps ls = true ↔ ∀ (i : Nat) (x y : Int), ls[i]? = some x → ls[i + 1]? = some y → hasP ps x y = false
  | [] => by
    refine ⟨fun _ i x y h => by simp at h, fun _ => rfl⟩
  | [u] => by
    refine ⟨fun _ i x y h1 h2 => ?_, fun _ => rfl⟩
    simp at h2
  | u :: v :: l => by
    unfold adjR
    rw [Bool.and_eq_true, adjR_iff (ls := v :: l)]
    constructor
    · rintro ⟨h1, h2⟩ i x y hx hy
      cases i with
      | zero =>
        cases Option.some.inj hx
        cases Option.some.inj hy
        cases e : hasP ps u v with
        | false => rfl
        | true => rw [e] at h1; cases h1
      | succ i => exact h2 i x y hx hy
    · intro h
      refine ⟨?_, fun i x y hx hy => h (i + 1) x y hx hy⟩
      rw [h 0 u v rfl rfl]
      rfl
theorem row_same {ns : List Int} {ks : List (Addr × (Int × Int))} {ps : List (Int × Int)} (hk : ks.map (·.2) = ps) (dg : ∀ n ∈ ns, dig n = true) : ∀ ls : List Int, rowB ns ks (ls.map V.int) = rowI ns ps ls := by
  have one : ∀ x : Int, isOne ns x = decide (x ∈ ns) := fun x => by
    unfold isOne
    by_cases h : x ∈ ns
    · rw [dg x h, Bool.true_and]
    · rw [decide_eq_false h, Bool.and_false]
  have bar : ∀ x y : Int, hasBar ks x y = hasP ps x y := fun x y => by
    unfold hasBar hasP
    rw [← hk, List.map_map]
    rfl
  intro ls
  induction ls with
  | nil => rfl
  | cons x l ih =>
    cases l with
    | nil =>
      show (isOne ns x && true) = ((decide (x ∈ ns) && true) && true)
      rw [one, Bool.and_true, Bool.and_true]
    | cons y l =>
      have e1 : rowB ns ks ((x :: y :: l).map V.int) = ((isOne ns x && (isOne ns y && !hasBar ks x y)) && rowB ns ks ((y :: l).map V.int)) := rfl
      rw [e1, ih, one, one, bar]
      show ((decide (x ∈ ns) && (decide (y ∈ ns) && !hasP ps x y)) && ((decide (y ∈ ns) && l.all fun x => decide (x ∈ ns)) && adjR ps (y :: l))) = ((decide (x ∈ ns) && (decide (y ∈ ns) && l.all fun x => decide (x ∈ ns))) && (!hasP ps x y && adjR ps (y :: l)))
      cases decide (x ∈ ns) <;> cases decide (y ∈ ns) <;> cases hasP ps x y <;> cases (l.all fun x => decide (x ∈ ns)) <;> cases adjR ps (y :: l) <;> rfl
def spIsRow : Sp := fun vs H Q _ => ∃ (m dl pl p : Addr) (b : Int) (ns ls : List Int) (ks : List (Addr × (Int × Int))), vs = [.ref m, .ref p] ∧ ModAt H m dl pl b ns ks ∧ H p = some (.tup (ls.map V.int)) ∧ ls.length ≤ 100000 ∧
  ∀ H', Same H H' → Q (.bl (rowI ns (ks.map (·.2)) ls)) H'
abbrev nIrw : List Str := ["_law_model", "_law_row", "_law_digit", "_law_k"]
theorem scIrw : FnScope nIrw ["_law_model", "_law_row"] (defScope sIsRow) := ⟨rfl, rfl, rfl, by decide +kernel, rfl, by decide +kernel, by decide +kernel⟩
theorem in_list_ints (n : Int) (ds : List Int) : inV (.int n) (ds.map V.int) = decide (n ∈ ds) := in_ints n ds
set_option maxHeartbeats 2000000 in
theorem ok_isrow {f : Addr} {fd : FuncData} (F : Fun K "_law_is_row" "_law_is_row" sIsRow f fd) (ml : mg "len" = none) (mr : mg "range" = none) : FnOk P w K mg base CX0 1 f fd ["_law_model", "_law_row"] spIsRow := by
  refine F.ok scIrw (fun vs H Q E h => ?_) (fun cdv A outer s H vs Q E hr h => ?_)
  · obtain ⟨m, dl, pl, p, b, ns, ls, ks, rfl, _⟩ := h
    rfl
  · obtain ⟨m, dl, pl, p, b, ns, ls, ks, rfl, M, hp, hl, q⟩ := h
    have hu : A.units + 3 + 65 < cLine := by
      have := hr.un
      have e : (A.deeper (envOfC "_law_is_row" (defScope sIsRow) s.heap.objs.size f cdv)).units = A.units + 3 := rfl
      omega
    apply Exists.intro
    apply And.intro
    · apply pss_cons
      · exact ps_if (pt_cmpR (op_neD hr.units) (pe_lc (own := [("_law_digit", 2)]) (g := gName 2) (tt := tTest (tOp (rIn K true) (tVar 2) (tOp (rIxL K) (tVar 0) (tC (.int 1))))) (te := tVar 2) rfl scIrw.nd (pi_tup (pv 1)) (blkOk_by (own := [("_law_digit", 2)]) (N := nIrw) (sc := defScope sIsRow) (by decide +kernel)) (fun _ _ _ _ _ => pg_name (i := 2) scIrw.nd rfl (Or.inl rfl))
            (fun _ _ _ _ _ => by exact (pts_one (pt_cmpR op_notIn_seq (pv 2) (pe_ix ix_list (pv 0) pe_int (fun _ _ => rfl)) rfl))) (fun _ _ _ _ _ => by exact (pv 2))) (pe_lst pa_nil) (nomark _)) (pss_one (ps_ret pe_bl)) pss_nil
      apply pss_one
      · exact ps_ret (pe_cmpR (op_eqD hr.units) (pe_lc (own := [("_law_k", 3)]) (g := gName 3) (tt := tTest (tOp (rInD K) (tTup (tCons (tOp (rIxT K) (tVar 1) (tOp (rI0 fun i j => .int (i - j)) (tVar 3) (tC (.int 1)))) (tCons (tOp (rIxT K) (tVar 1) (tVar 3)) tNil))) (tOp (rIxL K) (tVar 0) (tC (.int 2))))) (te := tVar 3) rfl scIrw.nd (pi_range2 rfl mr (pa_cons pe_int (pa_cons (pe_callB call_len_seq (by rfl) ml PySem.boot_len (pa_cons (pv 1) pa_nil)) pa_nil))) (blkOk_by (own := [("_law_k", 3)]) (N := nIrw) (sc := defScope sIsRow) (by decide +kernel)) (fun _ _ _ _ _ => pg_name (i := 3) scIrw.nd rfl (Or.inl rfl))
            (fun _ _ _ _ _ => by exact (pts_one (pt_cmpR (op_inD hu) (pe_tup (pa_cons (pe_ix ix_tup (pv 1) (pe_op op_sub (pv 3) pe_int) (fun _ _ => rfl)) (pa_cons (pe_ix ix_tup (pv 1) (pv 3) (fun _ _ => rfl)) pa_nil))) (pe_ix ix_list (pv 0) pe_int (fun _ _ => rfl)) rfl))) (fun _ _ _ _ _ => by exact (pv 3))) (pe_lst pa_nil) (nomark _))
    refine ⟨.ref p, rfl, p, rfl, ⟨_, SqT.of hp⟩, fun D hD => ?_⟩
    refine lc_tup (K := K) (a := p) (xs := ls.map V.int) (fun i H' => Same H H' ∧ H' D = some (.lst (((ls.take i).filter fun x => !decide (x ∈ ns)).map V.int))) ⟨same_new hD, upd_same⟩ (fun i H' _ h => SqT.of (h.1 _ _ hp)) ?_ ?_
    · rintro i x H1 hx ⟨s1, e1⟩
      obtain ⟨n, hn, rfl⟩ := get_map hx
      have M1 := M.same s1
      refine ⟨rfl, .int n, rfl, .ref m, rfl, m, _, 1, .ref dl, rfl, rfl, SqL.of M1.mo, atI_nat (j := 1) rfl, dl, _, rfl, .inl (SqL.of M1.di), rfl, flat_ints ns, _, rfl, ?_⟩
      have ein : inV (.int n) (ns.map V.int) = decide (n ∈ ns) := in_ints n ns
      rw [if_pos rfl, ein]
      by_cases hin : n ∈ ns
      · rw [decide_eq_true hin]
        refine iteF ⟨s1, ?_⟩
        rw [take_more hn, List.filter_append]
        rw [e1]
        simp [hin]
      · rw [decide_eq_false hin]
        refine iteT ⟨.int n, rfl, _, e1, ?_, Same.store s1 hD, ?_⟩
        · rw [List.length_map]
          refine Nat.lt_of_le_of_lt (Nat.le_trans (List.length_filter_le _ _) (List.length_take_le' _ _)) (by unfold sizeLine; omega)
        · rw [upd_same, take_more hn, List.filter_append, List.map_append]
          simp [hin]
    · rintro H1 ⟨s1, e1⟩
      rw [List.length_map, List.take_length] at e1
      refine ⟨(by show 0 ≤ sizeLine; decide), fun l0 hl0 => ?_⟩
      have s2 := same_new (o := .lst []) hl0
      refine ⟨.list ((ls.filter fun x => !decide (x ∈ ns)).map .int), .list [], .lst (SqL.of (s2 _ _ e1)) (dp_ints _), .lst (SqL.of upd_same) .nil, ints_shapedL _, nil_shaped, _, rfl, ?_⟩
      rw [eqv_nilL]
      have sA := s1.trans s2
      cases hf : ls.all (fun x => decide (x ∈ ns)) with
      | false =>
        have ne : (ls.filter fun x => !decide (x ∈ ns)).isEmpty = false := by
          rw [Bool.eq_false_iff]
          intro z
          have z2 := List.isEmpty_iff.mp z
          have : ls.all (fun x => decide (x ∈ ns)) = true := List.all_eq_true.mpr fun x hx => by
            cases hd : decide (x ∈ ns) with
            | true => rfl
            | false =>
              have : x ∈ ls.filter fun x => !decide (x ∈ ns) := List.mem_filter.mpr ⟨hx, by rw [hd]; rfl⟩
              rw [z2] at this
              cases this
          rw [this] at hf
          cases hf
        refine iteTB (by rw [List.isEmpty_map, ne]; rfl) ?_
        have z := q _ sA
        unfold rowI at z
        rw [hf, Bool.false_and] at z
        exact z
      | true =>
        have ne : (ls.filter fun x => !decide (x ∈ ns)) = [] := by
          rw [List.filter_eq_nil_iff]
          intro x hx
          rw [List.all_eq_true.mp hf x hx]
          decide
        refine iteFB (by rw [ne]; rfl) ?_
        generalize upd H1 l0 (.lst []) = H2 at sA ⊢
        refine ⟨.ref p, rfl, p, _, rfl, .inr (SqT.of (sA _ _ hp)), 1, ((ls.map V.int).length : Int), rfl, ⟨by decide, by decide, by rw [List.length_map]; omega, by rw [List.length_map]; omega⟩, fun D2 hD2 => ?_⟩
        refine lc_range (lo := 1) (n := (((ls.map V.int).length : Int) - 1).toNat) (fun i H' => Same H2 H' ∧ ∃ is : List Int, H' D2 = some (.lst (is.map V.int)) ∧ is.length ≤ i ∧ (is = [] ↔ ∀ (j : Nat) (x y : Int), j < i → ls[j]? = some x → ls[j + 1]? = some y → hasP (ks.map (·.2)) x y = false)) ⟨same_new hD2, [], upd_same, Nat.le_refl _, ⟨fun _ j x y h => by omega, fun _ => rfl⟩⟩ ?_ ?_
        · rintro i H3 hi ⟨s3, is, e3, l3, iff3⟩
          rw [List.length_map] at hi
          have hi1 : i + 1 < ls.length := by omega
          have hi0 : i < ls.length := by omega
          have sB := sA.trans s3
          have hp3 := sB _ _ hp
          have g0 : (ls.map V.int)[i]? = some (.int ls[i]) := by rw [List.getElem?_map, List.getElem?_eq_getElem hi0]; rfl
          have g1 : (ls.map V.int)[i + 1]? = some (.int ls[i + 1]) := by rw [List.getElem?_map, List.getElem?_eq_getElem hi1]; rfl
          have q0 : (1 + (i : Int)) - 1 = ((i : Nat) : Int) := by omega
          have q1 : (1 + (i : Int)) = ((i + 1 : Nat) : Int) := by omega
          refine ⟨rfl, .ref p, rfl, .int (1 + i), rfl, 1 + i, 1, rfl, rfl, p, _, (1 + (i : Int)) - 1, .int ls[i], rfl, rfl, SqT.of hp3, (by rw [q0]; exact atI_nat g0), .ref p, rfl, .int (1 + i), rfl, p, _, 1 + i, .int ls[i + 1], rfl, rfl, SqT.of hp3, (by rw [q1]; exact atI_nat g1), (by show 2 ≤ sizeLine; decide), fun T hT => ?_⟩
          have s4 := same_new (o := .tup [.int ls[i], .int ls[i + 1]]) hT
          have M4 := M.same (sB.trans s4)
          refine ⟨.ref m, rfl, m, _, 2, .ref pl, rfl, rfl, SqL.of M4.mo, atI_nat (j := 2) rfl, pd2 (ls[i], ls[i + 1]), (ks.map (·.2)).map pd2, .tup (SqT.of upd_same) (.cons (.int _) (.cons (.int _) .nil)), ps_dp rfl M4.pa M4.pr, pd2_shaped _, ps_shaped rfl, _, rfl, ?_⟩
          have e4 := s4 _ _ e3
          cases hh : hasP (ks.map (·.2)) ls[i] ls[i + 1] with
          | false =>
            refine iteFB hh ⟨s3.trans s4, is, e4, by omega, ?_⟩
            rw [iff3]
            constructor
            · intro z j x y hj hx hy
              rcases Nat.lt_or_ge j i with hlt | hge
              · exact z j x y hlt hx hy
              · have e : j = i := by omega
                subst e
                rw [List.getElem?_eq_getElem hi0] at hx
                rw [List.getElem?_eq_getElem hi1] at hy
                cases Option.some.inj hx
                cases Option.some.inj hy
                exact hh
            · intro z j x y hj hx hy
              exact z j x y (by omega) hx hy
          | true =>
            refine iteTB hh ⟨.int (1 + i), rfl, _, e4, ?_, Same.store (s3.trans s4) hD2, is ++ [1 + (i : Int)], ?_, ?_, ?_⟩
            · rw [List.length_map]
              unfold sizeLine
              omega
            · rw [upd_same, List.map_append]
              rfl
            · rw [List.length_append]
              show is.length + 1 ≤ i + 1
              omega
            · constructor
              · intro z
                exact absurd z (by simp)
              · intro z
                have := z i _ _ (by omega) (List.getElem?_eq_getElem hi0) (List.getElem?_eq_getElem hi1)
                rw [this] at hh
                cases hh
        · rintro H3 ⟨s3, is, e3, l3, iff3⟩
          rw [List.length_map] at iff3
          refine ⟨(by show 0 ≤ sizeLine; decide), fun l1 hl1 => ?_⟩
          have s4 := same_new (o := .lst []) hl1
          refine ⟨.list (is.map .int), .list [], .lst (SqL.of (s4 _ _ e3)) (dp_ints _), .lst (SqL.of upd_same) .nil, ints_shapedL _, nil_shaped, ?_⟩
          rw [eqv_nilL, List.isEmpty_map]
          have z := q _ (sA.trans (s3.trans s4))
          have eb : is.isEmpty = adjR (ks.map (·.2)) ls := by
            rw [Bool.eq_iff_iff, List.isEmpty_iff, iff3, adjR_iff]
            constructor
            · intro z j x y hx hy
              have := (List.getElem?_eq_some_iff.mp hy).1
              exact z j x y (by omega) hx hy
            · intro z j x y _ hx hy
              exact z j x y hx hy
          unfold rowI at z
          rw [hf, Bool.true_and] at z
          rw [eb]
          exact z
/-! ### the law's own value -/
def spValue : Sp := fun vs H Q _ => ∃ (b : Int) (p : Addr) (ns : List Int), vs = [.int b, .ref p] ∧ H p = some (.tup (ns.map V.int)) ∧ b.natAbs ≤ 6 ∧ Q (.int (valI b ns)) H
abbrev nVa : List Str := ["_law_base", "_law_row", "_law_total", "_law_digit"]
theorem scVa : FnScope nVa ["_law_base", "_law_row"] (defScope sValue) := ⟨rfl, rfl, rfl, by decide +kernel, rfl, by decide +kernel, by decide +kernel⟩
theorem ok_value {f : Addr} {fd : FuncData} (F : Fun K "_law_value" "_law_value" sValue f fd) : FnOk P w K mg base CX0 1 f fd ["_law_base", "_law_row"] spValue := by
  refine F.ok scVa (fun vs H Q E h => ?_) (fun cdv A outer s H vs Q E hr h => ?_)
  · obtain ⟨b, p, ns, rfl, _⟩ := h
    rfl
  · obtain ⟨b, p, ns, rfl, hp, hb, q⟩ := h
    refine ⟨_, pss_cons (ps_set (i := 2) scVa.nd rfl (.inl rfl) pe_int) (pss_cons (ps_for PassesOwn.never rfl (pi_tup (pv 1)) (pg_name (i := 3) scVa.nd rfl (.inl rfl)) (pss_one (ps_set (i := 2) scVa.nd rfl (.inl rfl) (pe_op op_add (pe_op op_mul (pv 2) (pv 0)) (pv 3))))) (pss_one (ps_ret (pv 2)))), ?_⟩
    refine ⟨.ref p, rfl, p, rfl, ⟨_, SqT.of hp⟩, for_tup (K := K) (a := p) (xs := ns.map V.int) (fun i σ H2 => (∃ v, σ = [some (.int b), some (.ref p), some (.int (valI b (ns.take i))), v]) ∧ H2 = H) ⟨⟨none, rfl⟩, rfl⟩ (fun i σ H2 _ h => by rw [h.2]; exact SqT.of hp) ?_ ?_⟩
    · rintro i x σ H2 hx ⟨⟨v, rfl⟩, rfl⟩
      obtain ⟨n, hn, rfl⟩ := get_map hx
      refine ⟨_, rfl, .int b, rfl, _, _, rfl, rfl, .inr ⟨by omega, by omega⟩, .int n, rfl, _, _, rfl, rfl, ⟨some (.int n), ?_⟩, rfl⟩
      rw [take_more hn]
      unfold valI
      rw [List.foldl_append]
      rfl
    · rintro σ H2 ⟨⟨v, rfl⟩, rfl⟩
      rw [List.length_map, List.take_length]
      exact ⟨_, rfl, q⟩

/-- what may stand right of a row's end -/
def nextOk (ps : List (Int × Int)) (ls : List Int) (x : Int) : Prop := ∀ y, ls.getLast? = some y → hasP ps y x = false
theorem adj_push {ps : List (Int × Int)} : ∀ {ls : List Int} {x : Int}, adjR ps ls = true → nextOk ps ls x → adjR ps (ls ++ [x]) = true
  | [], x, _, _ => rfl
  | [u], x, _, n => by
    show (!hasP ps u x && true) = true
    rw [n u rfl]
    rfl
  | u :: v :: l, x, h, n => by
    show (!hasP ps u v && adjR ps ((v :: l) ++ [x])) = true
    have h2 : (!hasP ps u v && adjR ps (v :: l)) = true := h
    rw [Bool.and_eq_true] at h2
    rw [h2.1, adj_push h2.2 fun y e => n y (by rw [List.getLast?_cons_cons]; exact e)]
    rfl
theorem rowI_of {ns : List Int} {ps : List (Int × Int)} {ls : List Int} (h : ∀ x ∈ ls, x ∈ ns) (a : adjR ps ls = true) : rowI ns ps ls = true := by
  unfold rowI
  rw [a, Bool.and_true, List.all_eq_true]
  exact fun x hx => decide_eq_true (h x hx)
end
end K19
namespace K19
open PySem PySem.Spec PyProof.Rows L2 OF
abbrev sHas : Stmt := inClass (topS 43) 7
abbrev sValueOf : Stmt := inClass (topS 43) 10
section
variable {P : Program} {w : World} {K : PySem.W.Frag} {mg : Str → Option Value} {base : Heap}
/-! ### row in scheme -/
def spHas (C : Addr) : Sp := fun vs H Q _ => ∃ (a t r : Addr) (b : Int) (ds : List Int) (ks : List (Addr × (Int × Int))) (x : V), vs = [.ref a, x] ∧ SchemeAt C H a t r b ds ks ∧
  ((NoTup H x ∧ ∀ H', Same H H' → Q (.bl false) H') ∨ ∃ (p : Addr) (xs : List V), x = .ref p ∧ H p = some (.tup xs) ∧ xs.length ≤ 10000 ∧ (∀ y ∈ xs, ItemOk H y) ∧ ∀ H', Same H H' → Q (.bl (rowB ds ks xs)) H')
abbrev nHa : List Str := ["self", "row", "left", "right"]
theorem scHa : FnScope nHa ["self", "row"] (defScope sHas) := ⟨rfl, rfl, rfl, by decide +kernel, rfl, by decide +kernel, by decide +kernel⟩
theorem cutV_tail (xs : List V) : cutV xs (some 1) none = xs.tail := by
  unfold cutV
  cases xs with
  | nil => rfl
  | cons x l =>
    show ((x :: l).drop (HT.sIx (l.length + 1) 0 (some 1))).take (HT.sIx (l.length + 1) (l.length + 1) none - HT.sIx (l.length + 1) 0 (some 1)) = l
    have e1 : HT.sIx (l.length + 1) 0 (some 1) = 1 := by
      unfold HT.sIx
      simp <;> omega
    have e2 : HT.sIx (l.length + 1) (l.length + 1) none = l.length + 1 := rfl
    rw [e1, e2]
    show l.take (l.length + 1 - 1) = l
    rw [Nat.add_sub_cancel, List.take_length]
set_option maxHeartbeats 2000000 in
theorem ok_has {f fA C : Addr} {fd fdA : FuncData} (F : Fun K "__contains__" "Scheme.__contains__" sHas f fd) (c : Cls K C) (mA : Meth K C "allows" fA)
    (GA : FnOk P w K mg base CX0 5 fA fdA ["self", "left", "right"] (spAllows C)) (bA : Binds K fdA ["self", "left", "right"] [])
    (mis : mg "isinstance" = none) (mt : mg "tuple" = none) (mall : mg "all" = none) (mz : mg "zip" = none) : FnOk P w K mg base CX0 6 f fd ["self", "row"] (spHas C) := by
  refine F.ok scHa (fun vs H Q E h => ?_) (fun cdv A outer s H vs Q E hr h => ?_)
  · obtain ⟨a, t, r, b, ds, ks, x, rfl, _⟩ := h
    rfl
  · obtain ⟨a, t, r, b, ds, ks, x, rfl, S, h⟩ := h
    apply Exists.intro
    apply And.intro
    · apply pss_cons
      · exact ps_if (pt_not (pt_val (pe_callB call_isi (by rfl) mis PyProof.Rows.boot_isinstance (pa_cons (pv 1) (pa_cons (pe_bltn (v := .ty "tuple") (by rfl) mt (by decide +kernel) rfl) pa_nil))))) (pss_one (ps_ret pe_bl)) pss_nil
      apply pss_one
      · exact ps_ret (pe_callB (cr_all rfl) (by rfl) mall (by decide +kernel) (pa_cons (pe_lc (own := [("left", 2), ("right", 3)]) (g := gTup K 2 (gCons (gName 2) (gCons (gName 3) gNil))) (tt := tYes) (te := tMeth C "allows" (spAllows C) [] E0 (tVar 0) (tCons (tVar 2) (tCons (tVar 3) tNil))) rfl scHa.nd
          (RZ.pi_zipA (by rfl) mz (pa_cons (pv 1) (pa_cons (pe_op op_cat2 (pe_slice sl_tup2 (pv 1) (po_some pe_int) po_none) (pe_tup (pa_cons pe_non pa_nil))) pa_nil)))
          (blkOk_by (own := [("left", 2), ("right", 3)]) (N := nHa) (sc := defScope sHas) (by decide +kernel)) (fun _ _ _ _ _ => by exact (pg_tup rfl (pgs_cons (pg_name (i := 2) scHa.nd rfl (Or.inl rfl)) (pgs_cons (pg_name (i := 3) scHa.nd rfl (Or.inl rfl)) pgs_nil))))
          (fun _ _ _ _ _ => pts_nil) (fun _ _ _ _ _ => by exact (pe_meth (pv 0) c mA GA hr bA .nil pass0 (pa_cons (pv 2) (pa_cons (pv 3) pa_nil))))) pa_nil))
    rcases h with ⟨no, q⟩ | ⟨p, xs, rfl, hp, hlen, hit, q⟩
    · obtain ⟨ty, h1, h2⟩ := no.kit (K := K)
      exact ⟨x, rfl, x, .ty "tuple", ty, .type "tuple", false, rfl, .ty _, h1, h2, false, rfl, iteT (q H (Same.refl H))⟩
    · refine ⟨.ref p, rfl, .ref p, .ty "tuple", .type "tuple", .type "tuple", true, rfl, .ty _, .base (.tup hp), kit_ty (by decide +kernel), true, rfl, iteF ?_⟩
      refine ⟨.ref p, rfl, .ref p, rfl, 1, rfl, p, xs, rfl, hp, fun p1 H1 s1 e1 => ?_⟩
      rw [cutV_tail] at e1
      have lt : xs.tail.length ≤ 10000 := by
        rw [List.length_tail]
        omega
      refine ⟨(by show 1 ≤ sizeLine; decide), fun p2 hp2 => ?_⟩
      have s2 := same_new (o := .tup [.non]) hp2
      refine ⟨p1, p2, xs.tail, [.non], rfl, rfl, s2 _ _ e1, upd_same, (by rw [sizeLine_eq]; show xs.tail.length + 1 ≤ _; omega), fun p3 H3 s3 e3 => ?_⟩
      have sA : Same H H3 := s1.trans (s2.trans s3)
      refine ⟨p, p3, xs, xs.tail ++ [.non], rfl, .inr ⟨SqT.of (sA _ _ hp), SqT.of e3, fun D hD => ?_⟩⟩
      have lz : xs.length ≤ (xs.tail ++ [V.non]).length := by
        rw [List.length_append, List.length_tail]
        show xs.length ≤ xs.length - 1 + 1
        omega
      refine lc_it (walk_zipT (K := K) (a := p) (b := p3) (xs := xs) (ys := xs.tail ++ [.non]) (n := xs.length) rfl lz) (fun i H' => Same H3 H' ∧ H' D = some (.lst (((xs.zip (xs.tail ++ [V.non])).take i).map fun z => V.bl (jdg ds ks z.1 z.2)))) ⟨same_new hD, upd_same⟩ (fun i H' _ h => ⟨SqT.of (h.1 _ _ (sA _ _ hp)), SqT.of (h.1 _ _ e3)⟩) ?_ ?_
      · rintro i v H4 H5 hi ⟨s4, e4⟩ ⟨T, x, y, rfl, hT, rfl, hx, hy⟩
        have hz : (xs.zip (xs.tail ++ [V.non]))[i]? = some (x, y) := by
          rw [List.getElem?_zip_eq_some]
          exact ⟨hx, hy⟩
        have s5 := same_new (o := .tup [x, y]) hT
        have sB : Same H (upd H4 T (.tup [x, y])) := sA.trans (s4.trans s5)
        refine ⟨T, [x, y], rfl, SqT.of upd_same, rfl, x, [y], rfl, y, [], rfl, rfl, rfl, tYes_if ?_⟩
        obtain ⟨⟨dx, hins⟩, _⟩ := S.same sB
        refine ⟨.ref a, rfl, a, dx, _, rfl, hins, rfl, x, rfl, y, rfl, ?_⟩
        dsimp only [tNil]
        refine allows_of (S.same sB) ((hit x (List.mem_of_getElem? hx)).same sB) ?_ fun H6 s6 => ?_
        · have my := List.mem_of_getElem? hy
          rcases List.mem_append.mp my with h | h
          · exact .inl ((hit y (List.mem_of_mem_tail h)).same sB)
          · exact .inr (List.mem_singleton.mp h)
        · have eD := s6 _ _ (s5 _ _ e4)
          refine ⟨_, eD, ?_, ?_, ?_⟩
          · rw [List.length_map]
            refine Nat.lt_of_le_of_lt (List.length_take_le' _ _) ?_
            rw [List.length_zip]
            exact big18 (by omega)
          · exact Same.store (s4.trans (s5.trans s6)) hD
          · rw [upd_same, take_more hz, List.map_append]
            rfl
      · rintro H4 ⟨s4, e4⟩
        have el : (xs.zip (xs.tail ++ [V.non])).take xs.length = xs.zip (xs.tail ++ [V.non]) := List.take_of_length_le (by rw [List.length_zip]; omega)
        rw [el] at e4
        refine ⟨D, (xs.zip (xs.tail ++ [V.non])).map fun z => jdg ds ks z.1 z.2, rfl, SqL.of (by rw [e4, List.map_map]; rfl), ?_⟩
        have z := q H4 (sA.trans s4)
        rw [List.all_map]
        exact z

/-! ### value_of -/
theorem jdg_int {ds : List Int} {ks : List (Addr × (Int × Int))} {x y : V} (h : jdg ds ks x y = true) : ∃ n : Int, x = .int n := by
  cases x with
  | int n => exact ⟨n, rfl⟩
  | _ => cases h
theorem row_ints {ds : List Int} {ks : List (Addr × (Int × Int))} : ∀ {xs : List V}, (∀ (i : Nat) x, xs[i]? = some x → ∃ n : Int, x = .int n) → ∃ ns : List Int, xs = ns.map V.int
  | [], _ => ⟨[], rfl⟩
  | x :: xs, h => by
    obtain ⟨n, e⟩ := h 0 x rfl
    obtain ⟨ns, e2⟩ := row_ints (ds := ds) (ks := ks) (xs := xs) fun i y hy => h (i + 1) y hy
    exact ⟨n :: ns, by rw [e, e2]; rfl⟩
theorem rowB_ints {ds : List Int} {ks : List (Addr × (Int × Int))} {xs : List V} (h : rowB ds ks xs = true) : ∃ ns : List Int, xs = ns.map V.int := by
  refine row_ints (ds := ds) (ks := ks) fun i x hx => ?_
  have hi : i < xs.length := (List.getElem?_eq_some_iff.mp hx).1
  have hl : i < (xs.tail ++ [V.non]).length := by
    rw [List.length_append, List.length_tail]
    show i < xs.length - 1 + 1
    omega
  have hz : (xs.zip (xs.tail ++ [V.non]))[i]? = some (x, (xs.tail ++ [V.non])[i]) := by
    rw [List.getElem?_zip_eq_some]
    exact ⟨hx, List.getElem?_eq_getElem hl⟩
  exact jdg_int (List.all_eq_true.mp h _ (List.mem_of_getElem? hz))
def spValueOf (C CR : Addr) : Sp := fun vs H Q E => ∃ (a t r : Addr) (b : Int) (ds : List Int) (ks : List (Addr × (Int × Int))) (x : V), vs = [.ref a, x] ∧ SchemeAt C H a t r b ds ks ∧ b.natAbs ≤ 6 ∧
  ((NoTup H x ∧ Raised CR "row" x H E) ∨ ∃ (p : Addr) (xs : List V), x = .ref p ∧ H p = some (.tup xs) ∧ xs.length ≤ 10000 ∧ (∀ y ∈ xs, ItemOk H y) ∧ (∀ ns : List Int, xs = ns.map V.int → rowB ds ks xs = true → ∀ H', Same H H' → Q (.int (valI b ns)) H') ∧ (rowB ds ks xs = false → Raised CR "row" x H E))
abbrev nVo : List Str := ["self", "row", "value", "digit"]
theorem scVo : FnScope nVo ["self", "row"] (defScope sValueOf) := ⟨rfl, rfl, rfl, by decide +kernel, rfl, by decide +kernel, by decide +kernel⟩
theorem ok_valueof {f fH fI C CR : Addr} {fd fdH fdI : FuncData} (F : Fun K "value_of" "Scheme.value_of" sValueOf f fd) (c : Cls K C) (n1 : NoAttr K C "_base") (mH : Meth K C "__contains__" fH)
    (GH : FnOk P w K mg base CX0 6 fH fdH ["self", "row"] (spHas C)) (bH : Binds K fdH ["self", "row"] [])
    (GI : FnOk P w K mg base CX0 3 fI fdI ["self", "row"] (spInit K "row" CR)) (T : ErrC K mg "InvalidRow" "row" CR fI) (bI : Binds K fdI ["self", "row"] []) :
    FnOk P w K mg base (L2.CX P w) 7 f fd ["self", "row"] (spValueOf C CR) := by
  refine F.okX scVo (fun vs H Q E h => ?_) (fun cdv A outer s H vs Q E hr h => ?_)
  · obtain ⟨a, t, r, b, ds, ks, x, rfl, _⟩ := h
    rfl
  · obtain ⟨a, t, r, b, ds, ks, x, rfl, S, hb, h⟩ := h
    have hr3 : Room 3 _ := hr.mono (by decide)
    have hr4 : Room 4 _ := hr.mono (by decide)
    apply Exists.intro
    apply And.intro
    · apply pss_cons
      · exact ps_if (pt_cmpR (op_notInOwn mH.at_ mH.fn GH bH hr pass0) (pv 1) (pv 0) rfl) (pss_one (ps_raise rfl (takes_of rfl rfl rfl rfl) (pmk_oex T.ox T.iC T.tI GI hr4 bI .nil pass0 (by rfl) T.g (pa_cons (pv 1) pa_nil)))) pss_nil
      apply pss_cons
      · exact ps_set (i := 2) scVo.nd rfl (.inl rfl) pe_int
      apply pss_cons
      · exact ps_for (passes_of rfl) rfl (pi_tup (pv 1)) (pg_name (i := 3) scVo.nd rfl (.inl rfl)) (pss_one (ps_set (i := 2) scVo.nd rfl (.inl rfl) (pe_op op_add (pe_op op_mul (pv 2) (pe_fld (pv 0) rfl)) (pv 3))))
      apply pss_one
      · exact ps_ret (pv 2)
    have S0 := S
    obtain ⟨⟨dx, hins⟩, _⟩ := S0
    rcases h with ⟨no, hE⟩ | ⟨p, xs, rfl, hp, hlen, hit, hq, hE⟩
    · refine ⟨x, rfl, .ref a, rfl, a, dx, _, rfl, hins, a, t, r, b, ds, ks, x, rfl, S, .inl ⟨no, fun H' s' => ⟨false, rfl, true, rfl, iteT ?_⟩⟩⟩
      exact ⟨x, rfl, raised_ok (σ := start nVo [.ref a, x]) (D := { nx := fun _ H' => Q .non H', rt := Q }) hE s'⟩
    · refine ⟨.ref p, rfl, .ref a, rfl, a, dx, _, rfl, hins, a, t, r, b, ds, ks, .ref p, rfl, S, .inr ⟨p, xs, rfl, hp, hlen, hit, fun H' s' => ⟨_, rfl, _, rfl, ?_⟩⟩⟩
      cases hrb : rowB ds ks xs with
      | false => exact iteT ⟨.ref p, rfl, raised_ok (σ := start nVo [.ref a, .ref p]) (D := { nx := fun _ H' => Q .non H', rt := Q }) (hE hrb) s'⟩
      | true =>
        refine iteF ?_
        obtain ⟨ns, rfl⟩ := rowB_ints hrb
        have hp' := s' _ _ hp
        refine ⟨.ref p, rfl, p, rfl, ⟨_, SqT.of hp'⟩, for_tup (K := K) (a := p) (xs := ns.map V.int) (fun i σ H2 => (∃ v, σ = [some (.ref a), some (.ref p), some (.int (valI b (ns.take i))), v]) ∧ H2 = H') ⟨⟨none, rfl⟩, rfl⟩ (fun i σ H2 _ h => by rw [h.2]; exact SqT.of hp') ?_ ?_⟩
        · rintro i x σ H2 hx ⟨⟨v, rfl⟩, rfl⟩
          obtain ⟨n, hn, rfl⟩ := get_map hx
          refine ⟨_, rfl, .ref a, rfl, a, C, dx, _, .int b, rfl, s' _ _ hins, c, n1, lk_base, _, _, rfl, rfl, .inr ⟨by omega, by omega⟩, .int n, rfl, _, _, rfl, rfl, ⟨some (.int n), ?_⟩, rfl⟩
          rw [take_more hn]
          unfold valI
          rw [List.foldl_append]
          rfl
        · rintro σ H2 ⟨⟨v, rfl⟩, rfl⟩
          rw [List.length_map, List.take_length]
          exact ⟨_, rfl, hq ns rfl hrb _ s'⟩

end
end K19
set_option maxHeartbeats 4000000
/-! tuple * int, 0 and 1 too. -/
namespace OF
open PySem PySem.Spec PyProof.Rows L2
theorem tuple_mul1 (l : Addr) (items : Array Value) (n : Nat) (dd : Option Addr) (sl : Array (Option Value)) (u : Tok) :
    Meets (Builtin.«tuple.__mul__» ⟨[.ref l, .int 1 u], []⟩) (fun _ R s => s.heap.get? l = some { cls := .type "tuple", dict := dd, data := .seq items n, slots := sl } ∧ R (.ok (.ret (Value.ref l))) s) :=
  .of_wp fun prog w A R s h => by
    obtain ⟨hp, g, d, tk, os⟩ := s
    obtain ⟨hl, h⟩ := h
    have f1 := AutoSeq1.idx_int
    have c1 : (items.isEmpty || (1 : Int) == 1) = true := by simp
    wp_walk using wpAny_loadPart' hl
    exact ⟨_, rfl, h⟩
theorem tuple_mul0 (l : Addr) (items : Array Value) (n : Nat) (dd : Option Addr) (sl : Array (Option Value)) (u : Tok) (c1 : items.isEmpty = false) :
    Meets (Builtin.«tuple.__mul__» ⟨[.ref l, .int 0 u], []⟩) (fun _ R s => s.heap.get? l = some { cls := .type "tuple", dict := dd, data := .seq items n, slots := sl } ∧
      R (.ok (.ret (Value.ref s.heap.objs.size))) { s with heap := s.heap.push { cls := Value.type "tuple", data := Data.seq #[] }, toks := s.toks }) :=
  .of_wp fun prog w A R s h => by
    obtain ⟨hp, g, d, tk, os⟩ := s
    obtain ⟨hl, h⟩ := h
    have f1 := AutoSeq1.idx_int
    have c1' : (items.isEmpty || (0 : Int) == 1) = false := by rw [c1]; rfl
    wp_walk using wpAny_loadPart' hl
    exact ⟨_, rfl, h⟩
/-- t * k: what comes stands somewhere -/
def rRep0 : R2 := fun x y H Q => ∃ (l : Addr) (k : Nat) (xs : List V), x = .ref l ∧ y = .int k ∧ H l = some (.tup xs) ∧ xs ≠ [] ∧ k ≤ 1000 ∧ xs.length ≤ 1000 ∧ ∀ p H', Same H H' → H' p = some (.tup (List.replicate k xs).flatten) → Q (.ref p) H'
section
variable {X : Cx}
theorem op_rep0 : OpR X (binaryOp .Mult) rRep0 := by
  intro pins s σ H x y v u Q I rx ry h
  obtain ⟨l, k, xs, rfl, rfl, hH, hne, hk, hz, q⟩ := h
  by_cases h2 : 2 ≤ k
  · refine op_repT pins s σ H _ _ v u Q I rx ry ⟨l, k, xs, rfl, rfl, SqT.of hH, hne, by omega, by omega, hz, fun p hp => q p _ (same_new hp) ?_⟩
    rw [upd_same, Int.toNat_natCast]
  cases rx
  obtain ⟨t, rfl⟩ := ry
  obtain ⟨its, r, ⟨⟨cls, dd, data, sl⟩, ho, hc, n, hd⟩, hs⟩ := I.tuple (SqT.of (K := X.K) hH)
  simp only at hc hd
  subst hc hd
  have hle : its.length = xs.length := r.length.symm
  have hn : its ≠ [] := fun e => hne (by
    rw [e] at hle
    exact List.eq_nil_of_length_eq_zero hle.symm)
  have hi : its.toArray.isEmpty = false := by
    cases its with
    | nil => exact absurd rfl hn
    | cons a b => rfl
  by_cases h1 : k = 1
  · subst h1
    refine wpAny_binaryOp_repeat_ref (T := "tuple") (U := "int") (by decide) ⟨_, ho, rfl⟩ (fun s' => typeIs_int s' _ t) noFill_tuple_mul F.fills_int_mul F.slot_int_rmul repeat_tuple F.slot_int_index.lookup
      (call_meets F.slot_int_rmul (typeIs_int s _ t) F.entry_int_rmul (F.args_int_rmul_2 _ _) (int_rmul_tuple _ t l its.toArray n dd sl)
        ⟨ho, rfl, ⟨_, ho, rfl⟩, call_meets F.slot_tuple_mul ⟨_, ho, rfl⟩ F.entry_tuple_mul (F.args_tuple_mul_2 _ _) (tuple_mul1 l its.toArray n dd sl t) ⟨ho, ?_⟩⟩)
    exact ⟨.ref l, H, I.tok _, rfl, q l H (Same.refl H) (by rw [hH]; simp)⟩
  · have h0 : k = 0 := by omega
    subst h0
    refine wpAny_binaryOp_repeat_ref (T := "tuple") (U := "int") (by decide) ⟨_, ho, rfl⟩ (fun s' => typeIs_int s' _ t) noFill_tuple_mul F.fills_int_mul F.slot_int_rmul repeat_tuple F.slot_int_index.lookup
      (call_meets F.slot_int_rmul (typeIs_int s _ t) F.entry_int_rmul (F.args_int_rmul_2 _ _) (int_rmul_tuple _ t l its.toArray n dd sl)
        ⟨ho, rfl, ⟨_, ho, rfl⟩, call_meets F.slot_tuple_mul ⟨_, ho, rfl⟩ F.entry_tuple_mul (F.args_tuple_mul_2 _ _) (tuple_mul0 l its.toArray n dd sl t hi) ⟨ho, ?_⟩⟩)
    refine ⟨.ref s.heap.objs.size, _, I.laid (t' := s.toks) (o := .tup []) (fun b ob q => Heap.get?_push_of_some _ q) (Nat.le_refl _) ?_, rfl, q _ _ (same_new (I.hok.fresh (Nat.le_refl _))) ?_⟩
    · exact ⟨Nat.zero_le _, _, .nil, IsTup.new _ _⟩
    · rw [upd_same]
      rfl
end
end OF
namespace K19
open PySem PySem.Spec PyProof.Rows L2 OF
abbrev sIsPR : Stmt := topS 53
abbrev sIsLoop : Stmt := topS 54
section
variable {P : Program} {w : World} {K : PySem.W.Frag} {mg : Str → Option Value} {base : Heap}
/-! ### is_plain_row_of -/
def intsV (xs : List V) : List Int := xs.filterMap fun x => match x with | .int n => some n | _ => none
theorem intsV_map (ns : List Int) : intsV (ns.map V.int) = ns := by
  induction ns with
  | nil => rfl
  | cons n ns ih =>
    unfold intsV at ih ⊢
    rw [List.map_cons, List.filterMap_cons, ih]
/-- not 0 ahead -/
def head0 (xs : List V) : Bool := match xs with | .int n :: _ => decide (n ≠ 0) | _ => true
def plainB (b : Int) (ds : List Int) (ks : List (Addr × (Int × Int))) (n : Int) (xs : List V) : Bool := rowB ds ks xs && (head0 xs && decide (valI b (intsV xs) = n))
def dB : V → PyData
  | .int n => .int n
  | .bl b => .bool b
  | _ => .none
def IB (x : V) : Prop := (∃ n : Int, x = .int n) ∨ ∃ b : Bool, x = .bl b
theorem IB.item {x : V} {H : Hp} (h : IB x) : ItemOk H x := by
  rcases h with ⟨n, rfl⟩ | ⟨b, rfl⟩
  · exact .inl ⟨n, rfl⟩
  · exact .inr (.bl b)
theorem dpB {H : Hp} : ∀ {xs : List V}, (∀ x ∈ xs, IB x) → DpAll K H xs (xs.map dB)
  | [], _ => .nil
  | x :: xs, h => by
    refine .cons ?_ (dpB fun y hy => h y (List.mem_cons_of_mem _ hy))
    rcases h x List.mem_cons_self with ⟨n, rfl⟩ | ⟨b, rfl⟩
    · exact .int n
    · exact .bl b
theorem canB : ∀ {xs : List V}, (∀ x ∈ xs, IB x) → PyData.canLayAll0 (xs.map dB) = true ∧ PyData.depthAll (xs.map dB) = 0
  | [], _ => ⟨by simp only [List.map_nil, PyData.canLayAll0], by simp only [List.map_nil, PyData.depthAll]⟩
  | x :: xs, h => by
    obtain ⟨h1, h2⟩ := canB (xs := xs) fun y hy => h y (List.mem_cons_of_mem _ hy)
    rcases h x List.mem_cons_self with ⟨n, rfl⟩ | ⟨b, rfl⟩ <;>
    · refine ⟨?_, ?_⟩
      · rw [List.map_cons, PyData.canLayAll0, h1]
        simp only [dB, PyData.canLay0, Bool.and_true]
      · rw [List.map_cons, PyData.depthAll, h2]
        simp only [dB, PyData.depth, Nat.max_self]
theorem shB {xs : List V} (h : ∀ x ∈ xs, IB x) : SeqAt.shaped (.tuple (xs.map dB)) = true := by
  obtain ⟨h1, h2⟩ := canB h
  refine shaped_of ?_ ?_
  · simp only [PyData.canLay0, h1]
  · simp only [PyData.depth, h2]
    omega
theorem eqvB : ∀ xs : List V, PyData.eqv (.tuple (xs.map dB)) (.tuple []) = decide (xs = [])
  | [] => by decide +kernel
  | x :: xs => by
    rw [decide_eq_false (List.cons_ne_nil x xs)]
    simp only [PyData.eqv, List.map_cons, PyData.eqvAll]
/-- xs == () -/
theorem isNil {H : Hp} {p t : Addr} {xs : List V} {Q : VK} (hp : H p = some (.tup xs)) (h : ∀ x ∈ xs, IB x) (ht : H t = some (.tup [])) (q : Q (.bl (decide (xs = []))) H) : rEqD K (.ref p) (.ref t) H Q := by
  refine ⟨.tuple (xs.map dB), .tuple [], .tup (SqT.of hp) (dpB h), .tup (SqT.of ht) .nil, shB h, shB (xs := []) (fun x z => by cases z), ?_⟩
  rw [eqvB]
  exact q
def spIsPR (C : Addr) : Sp := fun vs H Q _ => ∃ (a t r p : Addr) (n b : Int) (ds : List Int) (ks : List (Addr × (Int × Int))) (xs : List V), vs = [.ref a, .int n, .ref p] ∧ SchemeAt C H a t r b ds ks ∧ b.natAbs ≤ 6 ∧ H p = some (.tup xs) ∧ xs.length ≤ 10000 ∧ (∀ x ∈ xs, IB x) ∧ ∀ H', Same H H' → Q (.bl (plainB b ds ks n xs)) H'
theorem scIsPR : FnScope ["scheme", "number", "row"] ["scheme", "number", "row"] (defScope sIsPR) := ⟨rfl, rfl, rfl, by decide +kernel, rfl, by decide +kernel, by decide +kernel⟩
theorem ok_ispr {f fH fV C CR : Addr} {fd fdH fdV : FuncData} (F : Fun K "is_plain_row_of" "is_plain_row_of" sIsPR f fd) (c : Cls K C) (mH : Meth K C "__contains__" fH)
    (GH : FnOk P w K mg base CX0 6 fH fdH ["self", "row"] (spHas C)) (bH : Binds K fdH ["self", "row"] [])
    (mV : Meth K C "value_of" fV) (GV : FnOk P w K mg base (L2.CX P w) 7 fV fdV ["self", "row"] (spValueOf C CR)) (bV : Binds K fdV ["self", "row"] []) :
    FnOk P w K mg base CX0 8 f fd ["scheme", "number", "row"] (spIsPR C) := by
  refine F.ok scIsPR (fun vs H Q E h => ?_) (fun cdv A outer s H vs Q E hr h => ?_)
  · obtain ⟨a, t, r, p, n, b, ds, ks, xs, rfl, _⟩ := h
    rfl
  · obtain ⟨a, t, r, p, n, b, ds, ks, xs, rfl, S, b6, hp, hl, hx, q⟩ := h
    have hr6 : Room 6 _ := hr.mono (by decide)
    apply Exists.intro
    apply And.intro
    · apply pss_one
      · exact ps_ret (pe_and (pe_cmpR (op_inOwn mH.at_ mH.fn GH bH hr6 pass0) (pv 2) (pv 0) rfl) (pe_and (pe_or (pe_cmpR (op_eqD hr.units) (pv 2) (pe_tup pa_nil) (nomark _)) (pe_one (pe_cmpR op_ne (pe_ix ix_tup (pv 2) pe_int (fun _ _ => rfl)) pe_int (nomark _))))
          (pe_one (pe_cmpR op_eq (pe_meth (pv 0) c mV GV hr bV .nil passNo (pa_cons (pv 2) pa_nil)) (pv 1) (nomark _)))))
    obtain ⟨⟨dx, hins⟩, _⟩ := id S
    refine ⟨.ref p, rfl, .ref a, rfl, a, dx, _, rfl, hins, a, t, r, b, ds, ks, .ref p, rfl, S, .inr ⟨p, xs, rfl, hp, hl, fun y hy => (hx y hy).item, fun H1 s1 => ⟨_, rfl, _, rfl, ?_⟩⟩⟩
    unfold plainB at q
    cases hR : rowB ds ks xs with
    | false =>
      rw [hR] at q
      exact iteF (q H1 s1)
    | true =>
      rw [hR, Bool.true_and] at q
      have hp1 := s1 _ _ hp
      refine iteT ⟨.ref p, rfl, (by show 0 ≤ sizeLine; decide), fun e he => isNil (same_new he _ _ hp1) hx upd_same ⟨_, rfl, ?_⟩⟩
      have s2 : Same H (upd H1 e (.tup [])) := s1.trans (same_new he)
      obtain ⟨ns, rfl⟩ := rowB_ints hR
      rw [intsV_map] at q
      have hp2 := s2 _ _ hp
      generalize upd H1 e (.tup []) = H2 at s2 hp2 ⊢
      obtain ⟨⟨dx2, hins2⟩, _⟩ := S.same s2
      have go : head0 (ns.map V.int) = true → tOp rEq (tMeth C "value_of" (spValueOf C CR) [] E0 (tVar 0) (tCons (tVar 2) tNil)) (tVar 1) (L2.start ["scheme", "number", "row"] [.ref a, .int n, .ref p]) H2 Q := fun hh => by
        rw [hh, Bool.true_and] at q
        refine ⟨.ref a, rfl, a, dx2, _, rfl, hins2, rfl, .ref p, rfl, a, t, r, b, ds, ks, .ref p, rfl, S.same s2, b6, .inr ⟨p, ns.map V.int, rfl, hp2, hl, fun y hy => (hx y hy).item, fun ms em _ H3 s3 => ?_, fun z => by rw [hR] at z; cases z⟩⟩
        have := ints_inj em
        subst this
        refine ⟨.int n, rfl, rfl, ?_⟩
        have z := q H3 (s2.trans s3)
        rw [show decide (valI b ns = n) = decide (V.int (valI b ns) = V.int n) from decide_eq_decide.mpr ⟨fun e => congrArg V.int e, V.int.inj⟩] at z
        exact z
      cases ns with
      | nil => exact iteTB rfl ⟨_, rfl, iteT (go rfl)⟩
      | cons d ns =>
        refine iteFB rfl ⟨.ref p, rfl, p, _, 0, .int d, rfl, rfl, SqT.of hp2, atI_nat (j := 0) rfl, rfl, _, rfl, ?_⟩
        by_cases hd : d = 0
        · refine iteFB (by rw [hd]; rfl) ?_
          have e0 : head0 ((d :: ns).map V.int) = false := by
            rw [hd]
            rfl
          rw [e0, Bool.false_and] at q
          exact q H2 s2
        · have e0 : decide (V.int d = V.int 0) = false := decide_eq_false fun z => hd (V.int.inj z)
          refine iteTB (by rw [e0]; rfl) (go (decide_eq_true hd))
end
end K19
namespace K19
open PySem PySem.Spec PyProof.Rows L2 OF
section
variable {P : Program} {w : World} {K : PySem.W.Frag} {mg : Str → Option Value} {base : Heap}
/-! ### is_loop -/
def reps (fs ms bs : List V) (t : Nat) : List V := fs ++ (List.replicate t ms).flatten ++ bs
def loopB (b : Int) (ds : List Int) (ks : List (Addr × (Int × Int))) (n : Int) (fs ms bs : List V) : Bool := !decide (ms = []) && (List.range 3).all fun t => plainB b ds ks n (reps fs ms bs t)
/-- a tuple, or none -/
def Kind (H : Hp) (x : V) (t : Bool) : Prop := if t then ∃ (p : Addr) (ys : List V), x = .ref p ∧ H p = some (.tup ys) else NoTup H x
structure ItAt (H : Hp) (x : V) (ys : List V) : Prop where
  at_ : ∃ p, x = .ref p ∧ H p = some (.tup ys)
  ib : ∀ y ∈ ys, IB y
  len : ys.length ≤ 1000
def spIsLoop (C CN CI : Addr) : Sp := fun vs H Q E => ∃ x y z : V, vs = [x, y, z] ∧ ((Odd H x ∧ Raised CN "value" x H E) ∨
  ∃ (a t r : Addr) (b : Int) (ds : List Int) (ks : List (Addr × (Int × Int))), x = .ref a ∧ SchemeAt C H a t r b ds ks ∧ b.natAbs ≤ 6 ∧ ((Odd H y ∧ Raised CI "number" y H E) ∨
    ∃ n : Int, y = .int n ∧ ((NoTup H z ∧ ∀ H', Same H H' → Q (.bl false) H') ∨ ∃ (v : Addr) (xs : List V), z = .ref v ∧ H v = some (.tup xs) ∧ ((xs.length ≠ 3 ∧ ∀ H', Same H H' → Q (.bl false) H') ∨
      (∃ ts : List Bool, xs.length = 3 ∧ ts.length = 3 ∧ ts.all id = false ∧ (∀ (i : Nat) (x : V) (t : Bool), xs[i]? = some x → ts[i]? = some t → Kind H x t) ∧ ∀ H', Same H H' → Q (.bl false) H') ∨
      ∃ (x1 x2 x3 : V) (fs ms bs : List V), xs = [x1, x2, x3] ∧ ItAt H x1 fs ∧ ItAt H x2 ms ∧ ItAt H x3 bs ∧ ∀ H', Same H H' → Q (.bl (loopB b ds ks n fs ms bs)) H'))))
abbrev nIl : List Str := ["scheme", "number", "value", "front", "middle", "back", "item", "times"]
theorem scIl : FnScope nIl ["scheme", "number", "value"] (defScope sIsLoop) := ⟨rfl, rfl, rfl, by decide +kernel, rfl, by decide +kernel, by decide +kernel⟩
set_option maxHeartbeats 2000000 in
theorem ok_isloop {f fS fN fR C CN CI : Addr} {fd fdS fdN fdR : FuncData} (F : Fun K "is_loop" "is_loop" sIsLoop f fd)
    (GS : FnOk P w K mg base (L2.CX P w) 5 fS fdS ["value"] (spCheckS C CN)) (gS : mg "check_scheme" = some (.ref fS)) (kS : PySem.W.keepIn K (.ref fS) = true) (bS : Binds K fdS ["value"] [])
    (GN : FnOk P w K mg base (L2.CX P w) 5 fN fdN ["value"] (spCheckN CI)) (gN : mg "check_number" = some (.ref fN)) (kN : PySem.W.keepIn K (.ref fN) = true) (bN : Binds K fdN ["value"] [])
    (GR : FnOk P w K mg base CX0 8 fR fdR ["scheme", "number", "row"] (spIsPR C)) (gR : mg "is_plain_row_of" = some (.ref fR)) (kR : PySem.W.keepIn K (.ref fR) = true) (bR : Binds K fdR ["scheme", "number", "row"] [])
    (mis : mg "isinstance" = none) (mt : mg "tuple" = none) (ml : mg "len" = none) (mall : mg "all" = none) (mr : mg "range" = none) :
    FnOk P w K mg base (L2.CX P w) 9 f fd ["scheme", "number", "value"] (spIsLoop C CN CI) := by
  refine F.okX scIl (fun vs H Q E h => ?_) (fun cdv A outer s H vs Q E hr h => ?_)
  · obtain ⟨x, y, z, rfl, _⟩ := h
    rfl
  · obtain ⟨x, y, z, rfl, h⟩ := h
    have hr5 : Room 5 _ := hr.mono (by decide)
    apply Exists.intro
    apply And.intro
    · apply pss_cons
      · exact ps_expr (pe_call GS hr5 (by rfl) gS kS bS .nil (passes_call (W := fun cl d _ J => E cl d J) (takes_of rfl rfl rfl rfl) (fun _ _ _ _ z => z)) (pa_cons (pv 0) pa_nil))
      apply pss_cons
      · exact ps_expr (pe_call GN hr5 (by rfl) gN kN bN .nil (passes_call (W := fun cl d _ J => E cl d J) (takes_of rfl rfl rfl rfl) (fun _ _ _ _ z => z)) (pa_cons (pv 1) pa_nil))
      apply pss_cons
      · exact ps_if (PW.pt (pw_or (pt_not (pt_val (pe_callB call_isi (by rfl) mis PyProof.Rows.boot_isinstance (pa_cons (pv 2) (pa_cons (pe_bltn (v := .ty "tuple") (by rfl) mt (by decide +kernel) rfl) pa_nil)))))
          (pw_or (pt_cmpR op_ne (pe_callB call_len_seq (by rfl) ml PySem.boot_len (pa_cons (pv 2) pa_nil)) pe_int (nomark _))
            (pw_or1 (pt_not (pt_val (pe_callB (cr_all rfl) (by rfl) mall (by decide +kernel) (pa_cons (pe_lc (own := [("item", 6)]) (g := gName 6) (tt := tYes) (te := tCB (rIsi K) (tCons (tVar 6) (tCons (tC (.ty "tuple")) tNil))) rfl scIl.nd (pi_tup (pv 2)) (blkOk_by (own := [("item", 6)]) (N := nIl) (sc := defScope sIsLoop) (by decide +kernel)) (fun _ _ _ _ _ => pg_name (i := 6) scIl.nd rfl (Or.inl rfl)) (fun _ _ _ _ _ => pts_nil)
              (fun _ _ _ _ _ => by exact (pe_callB call_isi (by rfl) mis PyProof.Rows.boot_isinstance (pa_cons (pv 6) (pa_cons (pe_bltn (v := .ty "tuple") (by rfl) mt (by decide +kernel) rfl) pa_nil))))) pa_nil)))))))) (pss_one (ps_ret pe_bl)) pss_nil
      apply pss_cons
      · exact ps_asg (pv 2) (pg_tup rfl (pgs_cons (pg_name (i := 3) scIl.nd rfl (.inr rfl)) (pgs_cons (pg_name (i := 4) scIl.nd rfl (.inr rfl)) (pgs_cons (pg_name (i := 5) scIl.nd rfl (.inr rfl)) pgs_nil))))
      apply pss_cons
      · exact ps_if (pt_cmpR (op_eqD hr.units) (pv 4) (pe_tup pa_nil) (nomark _)) (pss_one (ps_ret pe_bl)) pss_nil
      apply pss_one
      · exact ps_ret (pe_callB (cr_all rfl) (by rfl) mall (by decide +kernel) (pa_cons (pe_lc (own := [("times", 7)]) (g := gName 7) (tt := tYes) (te := tCall (spIsPR C) [] E0 (tCons (tVar 0) (tCons (tVar 1) (tCons (tOp rCat2 (tOp rCat2 (tVar 3) (tOp rRep0 (tVar 4) (tVar 7))) (tVar 5)) tNil)))) rfl scIl.nd (pi_range1 rfl mr (pa_cons pe_int pa_nil)) (blkOk_by (own := [("times", 7)]) (N := nIl) (sc := defScope sIsLoop) (by decide +kernel)) (fun _ _ _ _ _ => pg_name (i := 7) scIl.nd rfl (Or.inl rfl)) (fun _ _ _ _ _ => by exact pts_nil)
          (fun _ _ _ _ _ => by exact (pe_call GR hr (by rfl) gR kR bR .nil pass0 (pa_cons (pv 0) (pa_cons (pv 1) (pa_cons (pe_op op_cat2 (pe_op op_cat2 (pv 3) (pe_op op_rep0 (pv 4) (pv 7))) (pv 5)) pa_nil)))))) pa_nil))
    rcases h with ⟨o, hE⟩ | ⟨a, t, r, b, ds, ks, rfl, S, b6, h⟩
    · exact ⟨x, rfl, x, rfl, .inr ⟨o, hE⟩⟩
    obtain ⟨⟨dx, hins⟩, _⟩ := id S
    refine ⟨.ref a, rfl, .ref a, rfl, .inl ⟨a, dx, _, rfl, hins, ?_⟩⟩
    rcases h with ⟨o, hE⟩ | ⟨n, rfl, h⟩
    · exact ⟨y, rfl, y, rfl, .inr ⟨o, hE⟩⟩
    refine ⟨.int n, rfl, .int n, rfl, .inl ⟨n, rfl, ?_⟩⟩
    rcases h with ⟨no, q⟩ | ⟨v, xs, rfl, hv, h⟩
    · obtain ⟨ty, h1, h2⟩ := no.kit (K := K)
      exact ⟨z, rfl, z, .ty "tuple", ty, .type "tuple", false, rfl, .ty _, h1, h2, false, rfl, iteT (iteT (q H (Same.refl H)))⟩
    refine ⟨.ref v, rfl, .ref v, .ty "tuple", .type "tuple", .type "tuple", true, rfl, .ty _, .base (.tup hv), kit_ty (by decide +kernel), true, rfl, iteF ?_⟩
    refine ⟨.ref v, rfl, v, xs, rfl, .inr (SqT.of hv), rfl, _, rfl, ?_⟩
    by_cases h3 : xs.length = 3
    · have e3 : decide (V.int (xs.length : Int) = V.int 3) = true := decide_eq_true (by rw [h3]; rfl)
      refine iteFB (by rw [e3]; rfl) ?_
      have kinds : ∀ ts : List Bool, ts.length = 3 → (∀ (i : Nat) (x : V) (t : Bool), xs[i]? = some x → ts[i]? = some t → Kind H x t) → ∀ (Q2 : Bool → Hp → Prop), (∀ H', Same H H' → Q2 (!ts.all id) H') →
          tNot (tB (tCB (rAll K) (tCons (tLc (iTup K (tVar 2)) (gName 6) tYes (tCB (rIsi K) (tCons (tVar 6) (tCons (tC (.ty "tuple")) tNil))) [6]) tNil))) (L2.start nIl [.ref a, .int n, .ref v]) H Q2 := fun ts lt kd Q2 go => by
        refine ⟨.ref v, rfl, v, rfl, ⟨_, SqT.of hv⟩, fun D hD => ?_⟩
        refine lc_tup (K := K) (a := v) (xs := xs) (fun i H' => Same H H' ∧ H' D = some (.lst ((ts.take i).map V.bl))) ⟨same_new hD, upd_same⟩ (fun i H' _ h => SqT.of (h.1 _ _ hv)) ?_ ?_
        · rintro i x H1 hx ⟨s1, e1⟩
          have li := (List.getElem?_eq_some_iff.mp hx).1
          obtain ⟨tb, htb⟩ : ∃ tb, ts[i]? = some tb := ⟨ts[i]'(by omega), List.getElem?_eq_getElem (by omega)⟩
          have kx := kd i x tb hx htb
          have fin : ∃ acc, H1 D = some (.lst acc) ∧ acc.length < sizeLine ∧ (Same H (upd H1 D (.lst (acc ++ [.bl tb]))) ∧ upd H1 D (.lst (acc ++ [.bl tb])) D = some (.lst ((ts.take (i + 1)).map V.bl))) := by
            refine ⟨_, e1, ?_, Same.store s1 hD, ?_⟩
            · rw [List.length_map]
              exact big18 (Nat.le_trans (List.length_take_le' _ _) (by omega))
            · rw [upd_same, take_more htb, List.map_append]
              rfl
          cases tb with
          | true =>
            obtain ⟨p, ys, rfl, hp⟩ := kx
            exact ⟨rfl, tYes_if ⟨.ref p, rfl, .ref p, .ty "tuple", .type "tuple", .type "tuple", true, rfl, .ty _, .base (.tup (s1 _ _ hp)), kit_ty (by decide +kernel), fin⟩⟩
          | false =>
            obtain ⟨ty, h1, h2⟩ := (NoTup.same kx s1).kit (K := K)
            exact ⟨rfl, tYes_if ⟨x, rfl, x, .ty "tuple", ty, .type "tuple", false, rfl, .ty _, h1, h2, fin⟩⟩
        · rintro H1 ⟨s1, e1⟩
          rw [h3, ← lt, List.take_length] at e1
          exact ⟨D, ts, rfl, SqL.of e1, _, rfl, go H1 s1⟩
      rcases h with ⟨n3, _⟩ | ⟨ts, _, lt, al, kd, q⟩ | ⟨x1, x2, x3, fs, ms, bs, rfl, I1, I2, I3, q⟩
      · exact absurd h3 n3
      · refine kinds ts lt kd _ fun H1 s1 => ?_
        rw [al]
        exact iteT (q H1 s1)
      obtain ⟨p1, rfl, hp1⟩ := I1.at_
      obtain ⟨p2, rfl, hp2⟩ := I2.at_
      obtain ⟨p3, rfl, hp3⟩ := I3.at_
      refine kinds [true, true, true] rfl (fun i x t hx ht => ?_) _ fun H1 s1 => ?_
      · match i, hx, ht with
        | 0, hx, ht => cases hx; cases ht; exact ⟨p1, fs, rfl, hp1⟩
        | 1, hx, ht => cases hx; cases ht; exact ⟨p2, ms, rfl, hp2⟩
        | 2, hx, ht => cases hx; cases ht; exact ⟨p3, bs, rfl, hp3⟩
      refine iteF ?_
      refine ⟨.ref v, rfl, v, _, rfl, SqT.of (s1 _ _ hv), rfl, _, _, rfl, _, _, rfl, _, _, rfl, rfl, ?_⟩
      refine ⟨.ref p2, rfl, (by show 0 ≤ sizeLine; decide), fun e he => isNil (same_new he _ _ (s1 _ _ hp2)) I2.ib upd_same ⟨_, rfl, ?_⟩⟩
      have s2 : Same H (upd H1 e (.tup [])) := s1.trans (same_new he)
      generalize upd H1 e (.tup []) = H2 at s2 ⊢
      unfold loopB at q
      by_cases hm : ms = []
      · rw [decide_eq_true hm] at q
        exact iteTB (decide_eq_true hm) (q H2 s2)
      rw [decide_eq_false hm, Bool.not_false, Bool.true_and] at q
      refine iteFB (decide_eq_false hm) ?_
      have ibR : ∀ k, ∀ y ∈ reps fs ms bs k, IB y := fun k y hy => by
        unfold reps at hy
        rcases List.mem_append.mp hy with h | h
        · rcases List.mem_append.mp h with h | h
          · exact I1.ib y h
          · obtain ⟨l, hl, hy⟩ := List.mem_flatten.mp h
            rw [(List.mem_replicate.mp hl).2] at hy
            exact I2.ib y hy
        · exact I3.ib y h
      refine ⟨3, rfl, by decide, by decide, fun D hD => ?_⟩
      refine lc_range (lo := 0) (n := 3) (fun i H' => Same H2 H' ∧ H' D = some (.lst (((List.range i).map fun k => plainB b ds ks n (reps fs ms bs k)).map V.bl))) ⟨same_new hD, upd_same⟩ ?_ ?_
      · rintro i H3 hi ⟨s3, e3⟩
        have s03 := s2.trans s3
        rw [Int.zero_add]
        have lf : (List.replicate i ms).flatten.length ≤ 3000 := by
          rw [PyProof.Rows.lm_len_rep_flat]
          have := Nat.mul_le_mul (show i ≤ 3 by omega) I2.len
          omega
        have l1 := I1.len
        have l3 := I3.len
        have big := big17
        refine ⟨rfl, tYes_if ⟨.ref a, rfl, .int n, rfl, .ref p1, rfl, .ref p2, rfl, .int i, rfl, p2, i, ms, rfl, rfl, s03 _ _ hp2, hm, by omega, I2.len, fun t1 H4 s4 e4 => ?_⟩⟩
        refine ⟨p1, t1, fs, (List.replicate i ms).flatten, rfl, rfl, s4 _ _ (s03 _ _ hp1), e4, by omega, fun t2 H5 s5 e5 => ?_⟩
        have s05 := s03.trans (s4.trans s5)
        refine ⟨.ref p3, rfl, t2, p3, fs ++ (List.replicate i ms).flatten, bs, rfl, rfl, e5, s05 _ _ hp3, by rw [List.length_append]; omega, fun t3 H6 s6 e6 => ?_⟩
        have s06 := s05.trans s6
        have lr : (reps fs ms bs i).length ≤ 10000 := by
          unfold reps
          rw [List.length_append, List.length_append]
          omega
        refine ⟨a, t, r, t3, n, b, ds, ks, reps fs ms bs i, rfl, S.same s06, b6, e6, lr, ibR i, fun H7 s7 => ?_⟩
        have s37 := (s4.trans (s5.trans (s6.trans s7)))
        refine ⟨_, s37 _ _ e3, ?_, Same.store (s3.trans s37) hD, ?_⟩
        · rw [List.length_map, List.length_map, List.length_range]
          exact big18 (by omega)
        · rw [upd_same, List.range_succ, List.map_append, List.map_append]
          rfl
      · rintro H3 ⟨s3, e3⟩
        refine ⟨D, _, rfl, SqL.of e3, ?_⟩
        have z := q H3 (s2.trans s3)
        rw [List.all_map]
        exact z
    · have e3 : decide (V.int (xs.length : Int) = V.int 3) = false := decide_eq_false fun z => h3 (by have := V.int.inj z; omega)
      rcases h with ⟨_, q⟩ | ⟨_, l3, _⟩ | ⟨x1, x2, x3, fs, ms, bs, rfl, _⟩
      · exact iteTB (by rw [e3]; rfl) (iteT (q H (Same.refl H)))
      · exact absurd l3 h3
      · exact absurd rfl h3
end
end K19
namespace K19
open PySem PySem.Spec PyProof.Rows L2 OF
abbrev sMixed : Stmt := topS 59
abbrev sIsPart : Stmt := topS 66
abbrev sSomeD : Stmt := topS 69
abbrev sDrawn : Stmt := topS 70
section
variable {P : Program} {w : World} {K : PySem.W.Frag} {mg : Str → Option Value} {base : Heap}
theorem scM : FnScope ["_law_box_here", "_law_some", "_law_left", "_law_k"] ["_law_box_here", "_law_some"] (defScope sMixed) := ⟨rfl, rfl, rfl, by decide +kernel, rfl, by decide +kernel, by decide +kernel⟩
/-! ### a list of pairs in a drawn order -/
def spMixedP (K : PySem.W.Frag) : Sp := fun vs H Q _ => ∃ (a p : Addr) (ks : List V) (n : Int), vs = [.ref a, .ref p] ∧ Box n H a ∧ SqL K H p ks ∧ p ≠ a ∧ ks.length ≤ 1000 ∧ n ≤ 900000 ∧
  ∀ (D : Addr) (ls : List V) (H' : Hp), H D = none → But a H H' → Box (n + ks.length) H' a → H' D = some (.lst ls) → ls.Perm ks → Q (.ref D) H'
theorem ok_mixedP {f fT : Addr} {fd fdT : FuncData} (F : Fun K "_law_mixed" "_law_mixed" sMixed f fd) (FT : Fun K "_law_take" "_law_take" sTake fT fdT) (gT : mg "_law_take" = some (.ref fT)) (bT : Binds K fdT ["_law_box_here", "_law_many"] [])
    (mi : mg "int" = none) (ml : mg "len" = none) (mr : mg "range" = none) (ms : mg "list" = none) : FnOk P w K mg base CX0 2 f fd ["_law_box_here", "_law_some"] (spMixedP K) := by
  have GT : FnOk P w K mg base CX0 1 fT fdT ["_law_box_here", "_law_many"] spTake := ok_take FT mi
  refine F.ok scM (fun vs H Q E h => ?_) (fun cdv A outer s H vs Q E hr h => ?_)
  · obtain ⟨a, p, ks, n, rfl, _⟩ := h
    rfl
  · obtain ⟨a, p, ks, n, rfl, hB, hS, npa, hlen, hn, q⟩ := h
    refine ⟨_, pss_cons (ps_set (i := 2) scM.nd rfl (.inr rfl) (pe_callTy call_list_of (by rfl) ms PyProof.Rows.boot_list (pa_cons (pv 1) pa_nil)))
      (pss_one (ps_ret (pe_lc (own := [("_law_k", 3)]) (g := gName 3) (tt := tYes) (te := tBM K "list" rPopAt (tVar 2) (tCons (tCall spTake [] E0 (tCons (tVar 0) (tCons (tCB (rLenS K) (tCons (tVar 2) tNil)) tNil))) tNil)) rfl scM.nd (pi_range1 rfl mr (pa_cons (pe_callB call_len_seq (by rfl) ml PySem.boot_len (pa_cons (pv 1) pa_nil)) pa_nil))
        (blkOk_by (own := [("_law_k", 3)]) (N := ["_law_box_here", "_law_some", "_law_left", "_law_k"]) (sc := defScope sMixed) (by decide +kernel)) (fun _ _ _ _ _ => pg_name (i := 3) scM.nd rfl (Or.inl rfl)) (fun _ _ _ _ _ => pts_nil)
        (fun _ _ _ _ _ => by exact (pe_bm PySem.F.plainAttrs_list PySem.F.slot_list_pop PySem.F.type_list_pop mt_popAt (pv 2)
          (pa_cons (pe_call GT hr (by rfl) gT FT.kp bT .nil pass0 (pa_cons (pv 0) (pa_cons (pe_callB call_len_seq (by rfl) ml PySem.boot_len (pa_cons (pv 2) pa_nil)) pa_nil))) pa_nil)))))), ?_⟩
    refine ⟨.ref p, rfl, p, _, rfl, .inl hS, fun l hl => ?_⟩
    have nla : l ≠ a := hB.ne hl
    have s1 : Same H (upd H l (.lst ks)) := same_new hl
    refine ⟨.ref p, rfl, p, _, rfl, .inl (s1.seq hS), _, rfl, by omega, by omega, fun D hD => ?_⟩
    have hDl : D ≠ l := fun e => by rw [e, upd_same] at hD; cases hD
    have hD0 : H D = none := s1.free hD
    have nDa : D ≠ a := hB.ne hD0
    refine lc_range (lo := 0) (n := ks.length) (fun i H' => But a H H' ∧ Box (n + i) H' a ∧ ∃ ls acc : List V, H' l = some (.lst ls) ∧ H' D = some (.lst acc) ∧ acc.length = i ∧ (acc ++ ls).Perm ks) ?_ ?_ ?_
    · refine ⟨(But.new hl).trans (But.new hD), (((hB.upd nla).upd nDa).mono (by omega)), ks, [], ?_, upd_same, rfl, List.Perm.refl _⟩
      rw [upd_ne hDl.symm]
      exact upd_same
    · rintro i H' hi ⟨t, B, ls, acc, el, ea, la, pm⟩
      have ll : ls.length + i = ks.length := by
        have := pm.length_eq
        rw [List.length_append] at this
        omega
      refine ⟨rfl, tYes_if ?_⟩
      refine ⟨.ref l, rfl, .inl ⟨rfl, _, SqL.of el⟩, .ref a, rfl, .ref l, rfl, l, _, rfl, .inl (SqL.of el), a, (ls.length : Int), n + i, rfl, B, by omega, by omega, by omega, fun r H4 r0 r1 t4 B4 => ?_⟩
      have e4 : H4 l = some (.lst ls) := t4 _ _ nla el
      have hk : r.toNat < ls.length := by omega
      have hk2 : ls[r.toNat]? = some ls[r.toNat] := by
        exact List.getElem?_eq_getElem hk
      refine ⟨l, ls, r, r.toNat, ls[r.toNat], rfl, rfl, e4, by omega, by omega, (ixN_seq (ixN_in r0 (by omega))).1, hk2, ?_⟩
      refine ⟨acc, ?_, by rw [la]; exact small1000 (by omega), ?_⟩
      · rw [upd_ne hDl]
        exact t4 _ _ nDa ea
      · refine ⟨((t.trans t4).store hl).store hD0, (((B4.upd nla).upd nDa).mono (by omega)), ls.eraseIdx r.toNat, acc ++ [ls[r.toNat]], ?_, ?_, ?_, ?_⟩
        · rw [upd_ne hDl.symm, upd_same]
        · rw [upd_same]
        · rw [List.length_append, la]
          rfl
        · rw [List.append_assoc]
          exact (List.Perm.append_left acc (erase_perm ls r.toNat hk)).trans pm
    · rintro H' ⟨t, B, ls, acc, el, ea, la, pm⟩
      have l0 : ls = [] := by
        have := pm.length_eq
        rw [List.length_append] at this
        exact List.eq_nil_of_length_eq_zero (by omega)
      subst l0
      rw [List.append_nil] at pm
      exact q D acc H' hD0 t B ea pm

/-! ### a digit, drawn -/
theorem Model.at_ {a m : Addr} {H : Hp} {b : Int} {ns : List Int} {ps : List (Int × Int)} (h : Model a H m b ns ps) : ∃ (dl pl : Addr) (ks : List (Addr × (Int × Int))), ks.map (·.2) = ps ∧ ModAt H m dl pl b ns ks := by
  obtain ⟨dl, pl, ks, e, z⟩ := h
  exact ⟨dl, pl, ks, e, z H (But.refl)⟩
def spSomeD : Sp := fun vs H Q _ => ∃ (a m : Addr) (n b : Int) (ns : List Int) (ps : List (Int × Int)), vs = [.ref a, .ref m] ∧ Box n H a ∧ n ≤ 900000 ∧ Model a H m b ns ps ∧ 1 ≤ ns.length ∧ ns.length ≤ 6 ∧ ∀ (d : Int) (H' : Hp), But a H H' → Box (n + 2) H' a → Q (.int d) H'
abbrev nSd : List Str := ["_law_box_here", "_law_model"]
theorem scSd : FnScope nSd ["_law_box_here", "_law_model"] (defScope sSomeD) := ⟨rfl, rfl, rfl, by decide +kernel, rfl, by decide +kernel, by decide +kernel⟩
theorem ok_somed {f fT : Addr} {fd fdT : FuncData} (F : Fun K "_law_some_digit" "_law_some_digit" sSomeD f fd) (FT : Fun K "_law_take" "_law_take" sTake fT fdT) (gT : mg "_law_take" = some (.ref fT)) (bT : Binds K fdT ["_law_box_here", "_law_many"] [])
    (mi : mg "int" = none) (ml : mg "len" = none) : FnOk P w K mg base CX0 2 f fd ["_law_box_here", "_law_model"] spSomeD := by
  have GT : FnOk P w K mg base CX0 1 fT fdT ["_law_box_here", "_law_many"] spTake := ok_take FT mi
  refine F.ok scSd (fun vs H Q E h => ?_) (fun cdv A outer s H vs Q E hr h => ?_)
  · obtain ⟨a, m, n, b, ns, ps, rfl, _⟩ := h
    rfl
  · obtain ⟨a, m, n, b, ns, ps, rfl, B, hn, M, h1, h6, q⟩ := h
    apply Exists.intro
    apply And.intro
    · apply pss_cons
      · exact ps_if (pt_cmpR op_eq (pe_call GT hr (by rfl) gT FT.kp bT .nil pass0 (pa_cons (pv 0) (pa_cons pe_int pa_nil))) pe_int (nomark _)) (pss_one (ps_ret (pe_op op_sub (pe_call GT hr (by rfl) gT FT.kp bT .nil pass0 (pa_cons (pv 0) (pa_cons pe_int pa_nil))) pe_int))) pss_nil
      apply pss_one
      · exact ps_ret (pe_ix ix_list (pe_ix ix_list (pv 1) pe_int (fun _ _ => rfl)) (pe_call GT hr (by rfl) gT FT.kp bT .nil pass0 (pa_cons (pv 0) (pa_cons (pe_callB call_len_seq (by rfl) ml PySem.boot_len (pa_cons (pe_ix ix_list (pv 1) pe_int (fun _ _ => rfl)) pa_nil)) pa_nil))) (fun _ _ => rfl))
    obtain ⟨dl, pl, ks, eM, Mz⟩ := id M
    have fin : ∀ (n' : Int) (H1 : Hp), But a H H1 → Box n' H1 a → n' = n + 1 → tOp (rIxL K) (tOp (rIxL K) (tVar 1) (tC (.int 1))) (tCall spTake [] E0 (tCons (tVar 0) (tCons (tCB (fun xs H Q => ∃ p ys, xs = [.ref p] ∧ (SqL K H p ys ∨ SqT K H p ys) ∧ Q (.int ys.length) H) (tCons (tOp (rIxL K) (tVar 1) (tC (.int 1))) tNil)) tNil))) (L2.start nSd [.ref a, .ref m]) H1 Q := fun n' H1 t1 B1 en => by
      have M1 := Mz H1 t1
      have mi1 : atI [V.int b, .ref dl, .ref pl] 1 = some (.ref dl) := atI_nat (j := 1) rfl
      refine ⟨.ref m, rfl, m, _, 1, .ref dl, rfl, rfl, SqL.of M1.mo, mi1, .ref a, rfl, .ref m, rfl, m, _, 1, .ref dl, rfl, rfl, SqL.of M1.mo, mi1, dl, ns.map V.int, rfl, .inl (SqL.of M1.di), ?_⟩
      rw [List.length_map]
      refine ⟨a, (ns.length : Int), n', rfl, B1, by omega, by omega, by omega, fun r H2 r0 r1 t2 B2 => ?_⟩
      have M2 := Mz H2 (t1.trans t2)
      obtain ⟨v, hv, mv⟩ := pick (xs := ns.map V.int) r0 (by rw [List.length_map]; exact r1)
      obtain ⟨d, md, rfl⟩ := List.mem_map.mp mv
      exact ⟨dl, _, r, .int d, rfl, rfl, SqL.of M2.di, hv, q d H2 (t1.trans t2) (B2.mono (by omega))⟩
    refine ⟨.ref a, rfl, a, 6, n, rfl, B, by omega, by decide, by decide, fun r H1 r0 r1 t1 B1 => ⟨rfl, _, rfl, ?_⟩⟩
    by_cases hz : V.int r = V.int 0
    · refine iteTB (decide_eq_true hz) ⟨.ref a, rfl, a, 25, n + 1, rfl, B1, by omega, by decide, by decide, fun r2 H2 r20 r21 t2 B2 => ⟨r2, 12, rfl, rfl, q (r2 - 12) H2 (t1.trans t2) (B2.mono (by omega))⟩⟩
    · exact iteFB (decide_eq_false hz) (fin (n + 1) H1 t1 B1 rfl)
/-! ### three rows -/
structure LT (H : Hp) (R : Addr) (fs ms bs : List Int) : Prop where
  ex : ∃ p1 p2 p3, H R = some (.tup [.ref p1, .ref p2, .ref p3]) ∧ H p1 = some (.tup (fs.map V.int)) ∧ H p2 = some (.tup (ms.map V.int)) ∧ H p3 = some (.tup (bs.map V.int))
theorem tup_but {a : Addr} {n : Int} {H H' : Hp} {c : Addr} {xs : List V} (B : Box n H a) (t : But a H H') (e : H c = some (.tup xs)) : H' c = some (.tup xs) := by
  obtain ⟨_, _, _, e2, _⟩ := id B
  exact t _ _ (fun z => by rw [z, e2] at e; cases e) e
theorem LT.but {a : Addr} {n : Int} {H H' : Hp} {R : Addr} {fs ms bs : List Int} (L : LT H R fs ms bs) (B : Box n H a) (t : But a H H') : LT H' R fs ms bs := by
  obtain ⟨p1, p2, p3, e, e1, e2, e3⟩ := L.ex
  exact ⟨p1, p2, p3, tup_but B t e, tup_but B t e1, tup_but B t e2, tup_but B t e3⟩
theorem LT.same {H H' : Hp} {R : Addr} {fs ms bs : List Int} (L : LT H R fs ms bs) (s : Same H H') : LT H' R fs ms bs := by
  obtain ⟨p1, p2, p3, e, e1, e2, e3⟩ := L.ex
  exact ⟨p1, p2, p3, s _ _ e, s _ _ e1, s _ _ e2, s _ _ e3⟩
end
end K19
namespace K19
open PySem PySem.Spec PyProof.Rows L2 OF
section
variable {P : Program} {w : World} {K : PySem.W.Frag} {mg : Str → Option Value} {base : Heap}
/-! ### three rows, drawn -/
def spDrawn : Sp := fun vs H Q _ => ∃ (a m : Addr) (n b : Int) (ns : List Int) (ps : List (Int × Int)), vs = [.ref a, .ref m] ∧ Box n H a ∧ n ≤ 800000 ∧ Model a H m b ns ps ∧ 1 ≤ ns.length ∧ ns.length ≤ 6 ∧
  ∀ (R : Addr) (fs ms bs : List Int) (H' : Hp), But a H H' → Box (n + 40) H' a → LT H' R fs ms bs → fs.length ≤ 3 → ms.length ≤ 3 → bs.length ≤ 3 → Q (.ref R) H'
abbrev nDw : List Str := ["_law_box_here", "_law_model", "_law_parts", "_law_k", "_law_j"]
theorem scDw : FnScope nDw ["_law_box_here", "_law_model"] (defScope sDrawn) := ⟨rfl, rfl, rfl, by decide +kernel, rfl, by decide +kernel, by decide +kernel⟩
theorem ok_drawn {f fT fS : Addr} {fd fdT fdS : FuncData} (F : Fun K "_law_drawn" "_law_drawn" sDrawn f fd) (FT : Fun K "_law_take" "_law_take" sTake fT fdT) (gT : mg "_law_take" = some (.ref fT)) (bT : Binds K fdT ["_law_box_here", "_law_many"] [])
    (GS : FnOk P w K mg base CX0 2 fS fdS ["_law_box_here", "_law_model"] spSomeD) (gS : mg "_law_some_digit" = some (.ref fS)) (kS : PySem.W.keepIn K (.ref fS) = true) (bS : Binds K fdS ["_law_box_here", "_law_model"] [])
    (mi : mg "int" = none) (mr : mg "range" = none) (mt : mg "tuple" = none) : FnOk P w K mg base CX0 3 f fd ["_law_box_here", "_law_model"] spDrawn := by
  have GT : FnOk P w K mg base CX0 1 fT fdT ["_law_box_here", "_law_many"] spTake := ok_take FT mi
  refine F.ok scDw (fun vs H Q E h => ?_) (fun cdv A outer s H vs Q E hr h => ?_)
  · obtain ⟨a, m, n, b, ns, ps, rfl, _⟩ := h
    rfl
  · obtain ⟨a, m, n, b, ns, ps, rfl, B, hn, M, h1, h6, q⟩ := h
    have hr1 : Room 1 _ := hr.mono (by decide)
    apply Exists.intro
    apply And.intro
    · apply pss_cons
      · exact ps_set (i := 2) scDw.nd rfl (.inl rfl) (pe_lst pa_nil)
      apply pss_cons
      · exact ps_for PassesOwn.never rfl (pi_range1 (by rfl) mr (pa_cons pe_int pa_nil)) (pg_name (i := 3) scDw.nd rfl (.inl rfl))
          (pss_one (ps_expr (pe_bm PySem.F.plainAttrs_list PySem.F.slot_list_append PySem.F.type_list_append mt_append (pv 2) (pa_cons (pe_callTy call_tuple_of (by rfl) mt (by decide +kernel) (pa_cons (pe_lc (own := [("_law_j", 4)]) (g := gName 4) (tt := tYes) (te := tCall spSomeD [] E0 (tCons (tVar 0) (tCons (tVar 1) tNil))) rfl scDw.nd (pi_range1 (by rfl) mr (pa_cons (pe_call GT hr1 (by rfl) gT FT.kp bT .nil pass0 (pa_cons (pv 0) (pa_cons pe_int pa_nil))) pa_nil))
            (blkOk_by (own := [("_law_j", 4)]) (N := nDw) (sc := defScope sDrawn) (by decide +kernel)) (fun _ _ _ _ _ => pg_name (i := 4) scDw.nd rfl (Or.inl rfl)) (fun _ _ _ _ _ => by exact pts_nil) (fun _ _ _ _ _ => by exact (pe_call GS hr (by rfl) gS kS bS .nil pass0 (pa_cons (pv 0) (pa_cons (pv 1) pa_nil))))) pa_nil)) pa_nil))))
      apply pss_one
      · exact ps_ret (pe_callTy call_tuple_of (by rfl) mt (by decide +kernel) (pa_cons (pv 2) pa_nil))
    refine ⟨(by show 0 ≤ sizeLine; decide), fun L hL => ?_⟩
    have nLa := B.ne hL
    have tupB : ∀ {n' : Int} {H1 H2 : Hp} {c : Addr} {xs : List V}, Box n' H1 a → But a H1 H2 → H1 c = some (.tup xs) → H2 c = some (.tup xs) := fun B t e => tup_but B t e
    refine ⟨3, rfl, by decide, by decide, ?_⟩
    refine for_range (lo := 0) (n := 3) (fun i σ H' => ∃ (v3 : Option V) (es : List (Addr × List Int)), σ = [some (.ref a), some (.ref m), some (.ref L), v3, none] ∧ But a H H' ∧ Box (n + 10 * i) H' a ∧ H' L = some (.lst (es.map fun e => V.ref e.1)) ∧ es.length = i ∧ ∀ e ∈ es, H' e.1 = some (.tup (e.2.map V.int)) ∧ e.2.length ≤ 3) ⟨none, [], rfl, But.new hL, (B.new hL).mono (by omega), upd_same, rfl, (fun e h => by cases h)⟩ ?_ ?_
    · rintro i σ H1 hi ⟨v3, es, rfl, t1, B1, eL, le, tt⟩
      refine ⟨.ref L, rfl, .inl ⟨rfl, _, SqL.of eL⟩, .ref a, rfl, a, 4, n + 10 * i, rfl, B1, by omega, by decide, by decide, fun r H2 r0 r1 t2 B2 => ?_⟩
      refine ⟨r, rfl, by omega, by omega, fun D hD => ?_⟩
      have nDa := B2.ne hD
      have eL2 := t2 _ _ nLa eL
      refine lc_range (lo := 0) (n := r.toNat) (fun j H' => But a H2 H' ∧ Box (n + 10 * i + 1 + 2 * j) H' a ∧ ∃ ds : List Int, H' D = some (.lst (ds.map V.int)) ∧ ds.length = j) ⟨But.new hD, (B2.new hD).mono (by omega), [], upd_same, rfl⟩ ?_ ?_
      · rintro j H3 hj ⟨t3, B3, ds, eD, ld⟩
        refine ⟨rfl, tYes_if ⟨.ref a, rfl, .ref m, rfl, a, m, n + 10 * i + 1 + 2 * j, b, ns, ps, rfl, B3, by omega, M.but ((t1.trans t2).trans t3), h1, h6, fun d H4 t4 B4 => ?_⟩⟩
        refine ⟨_, t4 _ _ nDa eD, ?_, ((t3.trans t4).store hD), (B4.upd nDa).mono (by omega), ds ++ [d], ?_, by rw [List.length_append, ld]; rfl⟩
        · rw [List.length_map]
          exact big18 (by omega)
        · rw [upd_same, List.map_append]
          rfl
      · rintro H3 ⟨t3, B3, ds, eD, ld⟩
        refine ⟨D, ds.map V.int, rfl, .inl ⟨SqL.of eD, fun T hT => ?_⟩⟩
        have sT := same_new (o := .tup (ds.map V.int)) hT
        have eL3 := t3 _ _ nLa eL2
        have eL4 := sT _ _ eL3
        refine ⟨L, _, .ref T, rfl, rfl, eL4, ?_, ?_⟩
        · rw [List.length_map]
          exact big18 (by omega)
        have B4 : Box (n + 10 * i + 1 + 2 * (r.toNat : Int)) (upd H3 T (.tup (ds.map V.int))) a := B3.new hT
        have t04 : But a H (upd H3 T (.tup (ds.map V.int))) := ((t1.trans t2).trans t3).trans (But.of_same sT)
        have tupL : ∀ {c : Addr} {xs : List V} {u : HO}, upd H3 T (.tup (ds.map V.int)) c = some (.tup xs) → upd (upd H3 T (.tup (ds.map V.int))) L u c = some (.tup xs) := fun {c xs u} e => by
          rw [upd_ne fun z => by rw [z, eL4] at e; cases e]
          exact e
        refine ⟨_, es ++ [(T, ds)], rfl, t04.store hL, (B4.upd nLa).mono (by omega), ?_, by rw [List.length_append, le]; rfl, fun e he => ?_⟩
        · rw [upd_same, List.map_append]
          rfl
        · rcases List.mem_append.mp he with h | h
          · exact ⟨tupL (sT _ _ (tupB B2 t3 (tupB B1 t2 (tt e h).1))), (tt e h).2⟩
          · cases List.mem_singleton.mp h
            exact ⟨tupL upd_same, by show ds.length ≤ 3; omega⟩
    · rintro σ H1 ⟨v3, es, rfl, t1, B1, eL, le, tt⟩
      match es, le, eL, tt with
      | [e1, e2, e3], _, eL, tt =>
        refine ⟨.ref L, rfl, L, _, rfl, .inl ⟨SqL.of eL, fun T hT => ?_⟩⟩
        have sT := same_new (o := .tup ([e1, e2, e3].map fun e : Addr × List Int => V.ref e.1)) hT
        obtain ⟨a1, l1⟩ := tt e1 (by simp)
        obtain ⟨a2, l2⟩ := tt e2 (by simp)
        obtain ⟨a3, l3⟩ := tt e3 (by simp)
        exact q T e1.2 e2.2 e3.2 _ (t1.trans (But.of_same sT)) ((B1.new hT).mono (by show n + 10 * 3 ≤ _; omega)) ⟨_, _, _, upd_same, sT _ _ a1, sT _ _ a2, sT _ _ a3⟩ l1 l2 l3
/-! ### is it a part? -/
def partV : V → Bool
  | .int n => decide (mA n ≤ 9)
  | _ => false
def spIsPart : Sp := fun vs H Q _ => ∃ x : V, vs = [x] ∧ ((NoTup H x ∧ ∀ H', Same H H' → Q (.bl false) H') ∨ ∃ (p : Addr) (ys : List V), x = .ref p ∧ H p = some (.tup ys) ∧ (∀ y ∈ ys, IB y) ∧ ys.length ≤ 1000 ∧ ∀ H', Same H H' → Q (.bl (ys.all partV)) H')
abbrev nIq : List Str := ["_law_part", "_law_good", "_law_digit"]
theorem scIq : FnScope nIq ["_law_part"] (defScope sIsPart) := ⟨rfl, rfl, rfl, by decide +kernel, rfl, by decide +kernel, by decide +kernel⟩
theorem filter_len {α : Type} (p : α → Bool) : ∀ l : List α, decide ((l.filter p).length = l.length) = l.all p
  | [] => rfl
  | x :: l => by
    have ih := filter_len p l
    rw [List.filter_cons, List.all_cons, ← ih]
    have le := List.length_filter_le p l
    cases p x with
    | true =>
      show decide ((l.filter p).length + 1 = l.length + 1) = _
      rw [Bool.true_and]
      exact decide_eq_decide.mpr ⟨fun h => by omega, fun h => by omega⟩
    | false =>
      show decide ((l.filter p).length = l.length + 1) = _
      rw [Bool.false_and]
      exact decide_eq_false (by omega)
theorem ok_ispart {f : Addr} {fd : FuncData} (F : Fun K "_law_is_part" "_law_is_part" sIsPart f fd) (mis : mg "isinstance" = none) (mt : mg "tuple" = none) (mi : mg "int" = none) (mb : mg "bool" = none) (ma : mg "abs" = none) (ml : mg "len" = none) :
    FnOk P w K mg base CX0 1 f fd ["_law_part"] spIsPart := by
  refine F.ok scIq (fun vs H Q E h => ?_) (fun cdv A outer s H vs Q E hr h => ?_)
  · obtain ⟨x, rfl, _⟩ := h
    rfl
  · obtain ⟨x, rfl, h⟩ := h
    apply Exists.intro
    apply And.intro
    · apply pss_cons
      · exact ps_if (pt_not (pt_val (pe_callB call_isi (by rfl) mis PyProof.Rows.boot_isinstance (pa_cons (pv 0) (pa_cons (pe_bltn (v := .ty "tuple") (by rfl) mt (by decide +kernel) rfl) pa_nil))))) (pss_one (ps_ret pe_bl)) pss_nil
      apply pss_cons
      · exact ps_setLc (i := 1) (own := [("_law_digit", 2)]) (g := gName 2) (tt := tAnd (tB (tCB (rIsi K) (tCons (tVar 2) (tCons (tC (.ty "int")) tNil)))) (tAnd (tNot (tB (tCB (rIsi K) (tCons (tVar 2) (tCons (tC (.ty "bool")) tNil))))) (tTest (tOp (rI0 fun i j => .bl (decide (i ≤ j))) (tCB (fun xs H Q => ∃ i, xs = [.int i] ∧ Q (.int (if i < 0 then -i else i)) H) (tCons (tVar 2) tNil)) (tC (.int 9)))))) (te := tVar 2) rfl scIq.nd rfl rfl (sw_true rfl rfl rfl (by decide +kernel)) (pi_tup (pv 0))
          (blkOk_by (own := [("_law_digit", 2)]) (N := nIq) (sc := defScope sIsPart) (by decide +kernel)) (fun _ _ _ _ _ => pg_name (i := 2) scIq.nd rfl (Or.inl rfl)) (fun _ _ _ _ _ => by exact (pts_one (PW.pt (pw_and (pt_val (pe_callB call_isi (by rfl) mis PyProof.Rows.boot_isinstance (pa_cons (pv 2) (pa_cons (pe_bltn (v := .ty "int") (by rfl) mi PyProof.Rows.boot_int rfl) pa_nil)))) (pw_and (pt_not (pt_val (pe_callB call_isi (by rfl) mis PyProof.Rows.boot_isinstance (pa_cons (pv 2) (pa_cons (pe_bltn (v := .ty "bool") (by rfl) mb PyProof.Rows.boot_bool rfl) pa_nil))))) (pw_and1 (pt_cmpR op_le (pe_callB call_abs (by rfl) ma (by decide +kernel) (pa_cons (pv 2) pa_nil)) pe_int (nomark _)))))))) (fun _ _ _ _ _ => by exact (pv 2))
      apply pss_one
      · exact ps_ret (pe_cmpR op_eq (pe_callB call_len_seq (by rfl) ml PySem.boot_len (pa_cons (pv 1) pa_nil)) (pe_callB call_len_seq (by rfl) ml PySem.boot_len (pa_cons (pv 0) pa_nil)) (nomark _))
    rcases h with ⟨no, q⟩ | ⟨p, ys, rfl, hp, ib, lp, q⟩
    · obtain ⟨ty, h1, h2⟩ := no.kit (K := K)
      exact ⟨x, rfl, x, .ty "tuple", ty, .type "tuple", false, rfl, .ty _, h1, h2, false, rfl, iteT (q H (Same.refl H))⟩
    refine ⟨.ref p, rfl, .ref p, .ty "tuple", .type "tuple", .type "tuple", true, rfl, .ty _, .base (.tup hp), kit_ty (by decide +kernel), true, rfl, iteF ?_⟩
    refine ⟨.ref p, rfl, p, rfl, ⟨_, SqT.of hp⟩, fun D hD => ?_⟩
    refine lc_tup (K := K) (a := p) (xs := ys) (fun i H' => Same H H' ∧ H' D = some (.lst ((ys.take i).filter partV))) ⟨same_new hD, upd_same⟩ (fun i H' _ h => SqT.of (h.1 _ _ hp)) ?_ ?_
    · rintro i x H1 hx ⟨s1, e1⟩
      have mx := List.mem_of_getElem? hx
      have no : partV x = false → Same H H1 ∧ H1 D = some (.lst ((ys.take (i + 1)).filter partV)) := fun h => by
        refine ⟨s1, ?_⟩
        rw [e1, take_more hx, List.filter_append]
        simp [h]
      refine ⟨rfl, ?_⟩
      rcases ib x mx with ⟨n, rfl⟩ | ⟨b, rfl⟩
      · refine ⟨.int n, rfl, .int n, .ty "int", .type "int", .type "int", true, rfl, .ty _, .base (.int n), kit_ty (by decide +kernel), true, rfl, iteT ?_⟩
        refine ⟨.int n, rfl, .int n, .ty "bool", .type "int", .type "bool", false, rfl, .ty _, .base (.int n), kit_ty (by decide +kernel), false, rfl, iteT ?_⟩
        refine ⟨.int n, rfl, n, rfl, _, _, rfl, rfl, _, rfl, ?_⟩
        have e : decide ((if n < 0 then -n else n) ≤ 9) = partV (.int n) := rfl
        rw [e]
        cases hB : partV (.int n) with
        | true =>
          refine iteT ⟨.int n, rfl, _, e1, ?_, Same.store s1 hD, ?_⟩
          · have a := List.length_filter_le partV (ys.take i)
            have b : (ys.take i).length ≤ ys.length := List.length_take_le' _ _
            exact big18 (by omega)
          · rw [upd_same, take_more hx, List.filter_append]
            simp [hB]
        | false => exact iteF (no hB)
      · refine ⟨.bl b, rfl, .bl b, .ty "int", .type "bool", .type "int", true, rfl, .ty _, .base (.bl b), kit_ty (by decide +kernel), true, rfl, iteT ?_⟩
        refine ⟨.bl b, rfl, .bl b, .ty "bool", .type "bool", .type "bool", true, rfl, .ty _, .base (.bl b), kit_ty (by decide +kernel), true, rfl, iteF (iteF (no rfl))⟩
    · rintro H1 ⟨s1, e1⟩
      rw [List.take_length] at e1
      refine ⟨.ref D, rfl, D, _, rfl, .inl (SqL.of e1), .ref p, rfl, p, _, rfl, .inr (SqT.of (s1 _ _ hp)), rfl, ?_⟩
      have z := q H1 s1
      rw [← filter_len] at z
      rw [show decide (V.int ((ys.filter partV).length : Int) = V.int (ys.length : Int)) = decide ((ys.filter partV).length = ys.length) from decide_eq_decide.mpr ⟨fun e => by have := V.int.inj e; omega, fun e => by rw [e]⟩]
      exact z
end
end K19
namespace K19
open PySem PySem.Spec PyProof.Rows L2 OF
/-! ### no, one and two middles tell of all -/
theorem adjR_cut (ps : List (Int × Int)) (y : Int) (zs : List Int) : ∀ xs : List Int, adjR ps (xs ++ y :: zs) = (adjR ps (xs ++ [y]) && adjR ps (y :: zs))
  | [] => by
    show adjR ps (y :: zs) = (adjR ps [y] && adjR ps (y :: zs))
    rw [show adjR ps [y] = true from rfl, Bool.true_and]
  | [x] => by
    show (!hasP ps x y && adjR ps (y :: zs)) = ((!hasP ps x y && true) && adjR ps (y :: zs))
    rw [Bool.and_true]
  | x :: x2 :: xs => by
    have ih := adjR_cut ps y zs (x2 :: xs)
    show (!hasP ps x x2 && adjR ps ((x2 :: xs) ++ y :: zs)) = ((!hasP ps x x2 && adjR ps ((x2 :: xs) ++ [y])) && adjR ps (y :: zs))
    rw [ih, Bool.and_assoc]
def repI (fs ms bs : List Int) (t : Nat) : List Int := fs ++ (List.replicate t ms).flatten ++ bs
theorem repI_reps (fs ms bs : List Int) (t : Nat) : reps (fs.map V.int) (ms.map V.int) (bs.map V.int) t = (repI fs ms bs t).map V.int := by
  unfold reps repI
  rw [List.map_append, List.map_append, List.map_flatten, List.map_replicate]
/-- a row of this value, no 0 ahead -/
def okT (b : Int) (ns : List Int) (ps : List (Int × Int)) (n : Int) (ls : List Int) : Bool := rowI ns ps ls && (head0 (ls.map V.int) && decide (valI b ls = n))
theorem fold_inj {b : Int} (h : b ≠ 0) : ∀ (bs : List Int) (x y : Int), bs.foldl (fun v d => v * b + d) x = bs.foldl (fun v d => v * b + d) y → x = y
  | [], _, _, e => e
  | d :: bs, x, y, e => by
    have z := fold_inj h bs (x * b + d) (y * b + d) e
    exact Int.eq_of_mul_eq_mul_right h (by omega)
theorem okT_all {b : Int} {ns : List Int} {ps : List (Int × Int)} {n : Int} {fs ms bs : List Int} (b0 : b ≠ 0) (hm : ms ≠ []) (h0 : okT b ns ps n (repI fs ms bs 0) = true) (h1 : okT b ns ps n (repI fs ms bs 1) = true) (h2 : okT b ns ps n (repI fs ms bs 2) = true) (t : Nat) : okT b ns ps n (repI fs ms bs t) = true := by
  cases t with
  | zero => exact h0
  | succ t =>
  unfold okT rowI at h0 h1 h2 ⊢
  simp only [Bool.and_eq_true, decide_eq_true_eq] at h0 h1 h2 ⊢
  obtain ⟨⟨m0, a0⟩, d0, v0⟩ := h0
  obtain ⟨⟨m1, a1⟩, d1, v1⟩ := h1
  obtain ⟨⟨m2, a2⟩, d2, v2⟩ := h2
  have r1 : repI fs ms bs 1 = fs ++ ms ++ bs := by simp [repI]
  have r2 : repI fs ms bs 2 = fs ++ (ms ++ (ms ++ bs)) := by simp [repI, List.replicate]
  obtain ⟨y, mr, rfl⟩ : ∃ y mr, ms = y :: mr := by
    cases ms with
    | nil => exact absurd rfl hm
    | cons y mr => exact ⟨y, mr, rfl⟩
  refine ⟨⟨?_, ?_⟩, ?_, ?_⟩
  · rw [List.all_eq_true] at m1 ⊢
    intro x hx
    refine m1 x ?_
    rw [r1]
    unfold repI at hx
    rcases List.mem_append.mp hx with h | h
    · rcases List.mem_append.mp h with h | h
      · exact List.mem_append_left _ (List.mem_append_left _ h)
      · obtain ⟨l, hl, hy⟩ := List.mem_flatten.mp h
        rw [(List.mem_replicate.mp hl).2] at hy
        exact List.mem_append_left _ (List.mem_append_right _ hy)
    · exact List.mem_append_right _ h
  · rw [r2, show fs ++ ((y :: mr) ++ ((y :: mr) ++ bs)) = fs ++ y :: (mr ++ ((y :: mr) ++ bs)) from rfl, adjR_cut, Bool.and_eq_true] at a2
    obtain ⟨af, a2⟩ := a2
    rw [show y :: (mr ++ ((y :: mr) ++ bs)) = (y :: mr) ++ y :: (mr ++ bs) from rfl, adjR_cut, Bool.and_eq_true] at a2
    obtain ⟨am, ab⟩ := a2
    have go : ∀ t, adjR ps ((List.replicate (t + 1) (y :: mr)).flatten ++ bs) = true := fun t => by
      induction t with
      | zero =>
        rw [show (List.replicate (0 + 1) (y :: mr)).flatten ++ bs = y :: (mr ++ bs) by simp]
        exact ab
      | succ t ih =>
        rw [show (List.replicate (t + 1 + 1) (y :: mr)).flatten ++ bs = (y :: mr) ++ y :: (mr ++ ((List.replicate t (y :: mr)).flatten ++ bs)) by
          rw [List.replicate_succ, List.replicate_succ]
          simp]
        rw [adjR_cut, am, Bool.true_and]
        rw [show y :: (mr ++ ((List.replicate t (y :: mr)).flatten ++ bs)) = (List.replicate (t + 1) (y :: mr)).flatten ++ bs by
          rw [List.replicate_succ]
          simp]
        exact ih
    have e : repI fs (y :: mr) bs (t + 1) = fs ++ y :: (mr ++ ((List.replicate t (y :: mr)).flatten ++ bs)) := by
      unfold repI
      rw [List.replicate_succ]
      simp
    rw [e, adjR_cut, af, Bool.true_and]
    have z := go t
    rw [show (List.replicate (t + 1) (y :: mr)).flatten ++ bs = y :: (mr ++ ((List.replicate t (y :: mr)).flatten ++ bs)) by
      rw [List.replicate_succ]
      simp] at z
    exact z
  · rw [r1] at d1
    unfold repI
    rw [List.replicate_succ]
    cases fs with
    | nil => exact d1
    | cons f fs => exact d1
  · have e0 : valI b (repI fs (y :: mr) bs 0) = bs.foldl (fun v d => v * b + d) (fs.foldl (fun v d => v * b + d) 0) := by
      simp [repI, valI, List.foldl_append]
    have e1 : valI b (repI fs (y :: mr) bs 1) = bs.foldl (fun v d => v * b + d) ((y :: mr).foldl (fun v d => v * b + d) (fs.foldl (fun v d => v * b + d) 0)) := by
      rw [r1]
      unfold valI
      rw [List.foldl_append, List.foldl_append]
    have fx := fold_inj b0 bs _ _ (e1.symm.trans (v1.trans (v0.symm.trans e0)))
    have go : ∀ t, (List.replicate t (y :: mr)).flatten.foldl (fun v d => v * b + d) (fs.foldl (fun v d => v * b + d) 0) = fs.foldl (fun v d => v * b + d) 0 := fun t => by
      induction t with
      | zero => rfl
      | succ t ih => rw [List.replicate_succ, List.flatten_cons, List.foldl_append, fx, ih]
    unfold repI valI
    rw [List.foldl_append, List.foldl_append, go]
    rw [← v0, e0]
theorem plain_okT {b : Int} {ns : List Int} {ks : List (Addr × (Int × Int))} {n : Int} (dg : ∀ d ∈ ns, dig d = true) (ls : List Int) : plainB b ns ks n (ls.map V.int) = okT b ns (ks.map (·.2)) n ls := by
  unfold plainB okT
  rw [row_same rfl dg, intsV_map]
theorem loop_ints {b : Int} {ns : List Int} {ks : List (Addr × (Int × Int))} {n : Int} (dg : ∀ d ∈ ns, dig d = true) (b0 : b ≠ 0) {fs ms bs : List Int} (hm : ms ≠ []) :
    loopB b ns ks n (fs.map V.int) (ms.map V.int) (bs.map V.int) = (List.range 7).all fun t => okT b ns (ks.map (·.2)) n (repI fs ms bs t) := by
  unfold loopB
  rw [decide_eq_false (fun z => hm (List.map_eq_nil_iff.mp z)), Bool.not_false, Bool.true_and]
  have e : ∀ t, plainB b ns ks n (reps (fs.map V.int) (ms.map V.int) (bs.map V.int) t) = okT b ns (ks.map (·.2)) n (repI fs ms bs t) := fun t => by
    rw [repI_reps, plain_okT dg]
  simp only [e]
  rw [Bool.eq_iff_iff, List.all_eq_true, List.all_eq_true]
  constructor
  · intro h t _
    exact okT_all b0 hm (h 0 (by simp)) (h 1 (by simp)) (h 2 (by simp)) t
  · intro h t ht
    have := List.mem_range.mp ht
    exact h t (List.mem_range.mpr (by omega))
theorem part_int {ys : List V} (h : ys.all partV = true) : ∃ is : List Int, ys = is.map V.int := by
  induction ys with
  | nil => exact ⟨[], rfl⟩
  | cons y ys ih =>
    rw [List.all_cons, Bool.and_eq_true] at h
    obtain ⟨is, rfl⟩ := ih h.2
    cases y with
    | int n => exact ⟨n :: is, rfl⟩
    | _ => exact absurd h.1 Bool.false_ne_true
/-- what is no part is no loop -/
theorem loop_part {b : Int} {ns : List Int} {ks : List (Addr × (Int × Int))} {n : Int} (dg : ∀ d ∈ ns, dig d = true) {fs ms bs : List V} (h : (fs.all partV && (ms.all partV && bs.all partV)) = false) : loopB b ns ks n fs ms bs = false := by
  cases hL : loopB b ns ks n fs ms bs with
  | false => rfl
  | true =>
    unfold loopB at hL
    rw [Bool.and_eq_true, List.all_eq_true] at hL
    have h1 := hL.2 1 (by simp)
    unfold plainB at h1
    rw [Bool.and_eq_true] at h1
    obtain ⟨is, e⟩ := rowB_ints h1.1
    have hr := h1.1
    rw [e, row_same rfl dg] at hr
    unfold rowI at hr
    rw [Bool.and_eq_true, List.all_eq_true] at hr
    have all : ∀ x ∈ reps fs ms bs 1, partV x = true := fun x hx => by
      rw [e] at hx
      obtain ⟨d, hd, rfl⟩ := List.mem_map.mp hx
      have z := dg d (of_decide_eq_true (hr.1 d hd))
      unfold dig at z
      rw [Bool.and_eq_true] at z
      have z1 := of_decide_eq_true z.1
      have z2 := of_decide_eq_true z.2
      refine decide_eq_true ?_
      unfold mA
      split <;> omega
    have sub : reps fs ms bs 1 = fs ++ ms ++ bs := by simp [reps]
    rw [sub] at all
    have a1 : fs.all partV = true := List.all_eq_true.mpr fun x hx => all x (List.mem_append_left _ (List.mem_append_left _ hx))
    have a2 : ms.all partV = true := List.all_eq_true.mpr fun x hx => all x (List.mem_append_left _ (List.mem_append_right _ hx))
    have a3 : bs.all partV = true := List.all_eq_true.mpr fun x hx => all x (List.mem_append_right _ hx)
    rw [a1, a2, a3] at h
    cases h
end K19
namespace K19
open PySem PySem.Spec PyProof.Rows L2 OF
abbrev sDue : Stmt := topS 67
section
variable {P : Program} {w : World} {K : PySem.W.Frag} {mg : Str → Option Value} {base : Heap}
/-! ### what is due -/
/-- a tuple of ints and truths, or a list of them -/
def PK (H : Hp) (x : V) (o : Option (List V)) : Prop := match o with
  | some ys => ItAt H x ys
  | none => ∃ (p : Addr) (ys : List V), x = .ref p ∧ H p = some (.lst ys) ∧ ∀ y ∈ ys, IB y
def parB : Option (List V) → Bool
  | some ys => ys.all partV
  | none => false
theorem ItAt.same {H H' : Hp} {x : V} {ys : List V} (h : ItAt H x ys) (s : Same H H') : ItAt H' x ys := by
  obtain ⟨p, e, hp⟩ := h.at_
  exact ⟨⟨p, e, s _ _ hp⟩, h.ib, h.len⟩
theorem PK.same {H H' : Hp} {x : V} {o : Option (List V)} (h : PK H x o) (s : Same H H') : PK H' x o := by
  cases o with
  | some ys => exact ItAt.same h s
  | none =>
    obtain ⟨p, ys, e, hp, ib⟩ := h
    exact ⟨p, ys, e, s _ _ hp, ib⟩
def ansB (b : Int) (ds : List Int) (ks : List (Addr × (Int × Int))) (n : Int) : Option (List V) → Option (List V) → Option (List V) → Bool
  | some fs, some ms, some bs => loopB b ds ks n fs ms bs
  | _, _, _ => false
theorem ans_part {b : Int} {ns : List Int} {ks : List (Addr × (Int × Int))} {n : Int} (dg : ∀ d ∈ ns, dig d = true) {o1 o2 o3 : Option (List V)} (h : (parB o1 && (parB o2 && parB o3)) = false) : ansB b ns ks n o1 o2 o3 = false := by
  cases o1 with
  | none => rfl
  | some fs => cases o2 with
    | none => rfl
    | some ms => cases o3 with
      | none => rfl
      | some bs => exact loop_part dg h
theorem dp_parts {H : Hp} : ∀ {zs : List (V × Option (List V))}, (∀ z ∈ zs, PK H z.1 z.2) → ∃ es : List PyData, DpAll K H (zs.map (·.1)) es ∧ PyData.canLayAll0 es = true ∧ PyData.depthAll es ≤ 1 ∧ es.length = zs.length
  | [], _ => ⟨[], .nil, by simp only [PyData.canLayAll0], by simp only [PyData.depthAll]; omega, rfl⟩
  | (x, o) :: zs, h => by
    obtain ⟨es, h1, h2, h3, h4⟩ := dp_parts (zs := zs) fun y hy => h y (List.mem_cons_of_mem _ hy)
    have hx := h (x, o) List.mem_cons_self
    cases o with
    | some ys =>
      obtain ⟨⟨p, rfl, hp⟩, ib, _⟩ := (show ItAt H x ys from hx)
      obtain ⟨c1, c2⟩ := canB ib
      refine ⟨.tuple (ys.map dB) :: es, .cons (.tup (SqT.of hp) (dpB ib)) h1, ?_, ?_, by rw [List.length_cons, List.length_cons, h4]⟩
      · rw [PyData.canLayAll0, h2]
        simp only [PyData.canLay0, c1, Bool.and_true]
      · rw [PyData.depthAll]
        simp only [PyData.depth, c2]
        omega
    | none =>
      obtain ⟨p, ys, rfl, hp, ib⟩ := (show ∃ (p : Addr) (ys : List V), x = .ref p ∧ H p = some (.lst ys) ∧ ∀ y ∈ ys, IB y from hx)
      obtain ⟨c1, c2⟩ := canB ib
      refine ⟨.list (ys.map dB) :: es, .cons (.lst (SqL.of hp) (dpB ib)) h1, ?_, ?_, by rw [List.length_cons, List.length_cons, h4]⟩
      · rw [PyData.canLayAll0, h2]
        simp only [PyData.canLay0, c1, Bool.and_true]
      · rw [PyData.depthAll]
        simp only [PyData.depth, c2]
        omega
theorem eqvL : ∀ es : List PyData, PyData.eqv (.list es) (.list []) = decide (es = [])
  | [] => by decide +kernel
  | e :: es => by
    rw [decide_eq_false (List.cons_ne_nil e es)]
    simp only [PyData.eqv, PyData.eqvAll]
/-- zs != [] -/
theorem isNilL {H : Hp} {p t : Addr} {zs : List (V × Option (List V))} {Q : VK} (hp : H p = some (.lst (zs.map (·.1)))) (h : ∀ z ∈ zs, PK H z.1 z.2) (ht : H t = some (.lst [])) (q : Q (.bl (!decide (zs = []))) H) : rNeD K (.ref p) (.ref t) H Q := by
  obtain ⟨es, h1, h2, h3, h4⟩ := dp_parts (K := K) h
  refine ⟨.list es, .list [], .lst (SqL.of hp) h1, .lst (SqL.of ht) .nil, shaped_of ?_ ?_, shaped_of (by simp only [PyData.canLay0, PyData.canLayAll0]) (by simp only [PyData.depth, PyData.depthAll]; omega), ?_⟩
  · simp only [PyData.canLay0, h2]
  · simp only [PyData.depth]
    omega
  rw [eqvL]
  have e : decide (es = []) = decide (zs = []) := decide_eq_decide.mpr ⟨fun e => by
    rw [e] at h4
    exact List.eq_nil_of_length_eq_zero h4.symm, fun e => by
    rw [e] at h4
    exact List.eq_nil_of_length_eq_zero h4⟩
  rw [e]
  exact q
theorem cut_one (xs : List V) : cutV xs none (some 1) = xs.take 1 := by
  unfold cutV
  cases xs with
  | nil => rfl
  | cons x l =>
    have e1 : HT.sIx (x :: l).length (x :: l).length (some 1) = 1 := by
      unfold HT.sIx
      rw [List.length_cons]
      simp <;> omega
    have e2 : HT.sIx (x :: l).length 0 none = 0 := rfl
    rw [e1, e2]
    rfl
theorem eqv_head : ∀ L : List Int, PyData.eqv (.tuple ((L.take 1).map PyData.int)) (.tuple (([0] : List Int).map PyData.int)) = !head0 (L.map V.int)
  | [] => by decide +kernel
  | d :: L => by
    show PyData.eqv (.tuple [.int d]) (.tuple [.int 0]) = !decide (d ≠ 0)
    simp only [PyData.eqv, PyData.eqvAll]
    simp
    rfl
def spDue : Sp := fun vs H Q _ => ∃ (m dl pl v : Addr) (n b : Int) (ns : List Int) (ks : List (Addr × (Int × Int))) (x1 x2 x3 : V) (o1 o2 o3 : Option (List V)), vs = [.ref m, .int n, .ref v] ∧ ModAt H m dl pl b ns ks ∧ Good b ns (ks.map (·.2)) ∧ H v = some (.tup [x1, x2, x3]) ∧ PK H x1 o1 ∧ PK H x2 o2 ∧ PK H x3 o3 ∧
  ∀ H', Same H H' → Q (.bl (ansB b ns ks n o1 o2 o3)) H'
abbrev nDu : List Str := ["_law_model", "_law_amount", "_law_thing", "_law_times", "_law_row", "_law_part"]
theorem scDu : FnScope nDu ["_law_model", "_law_amount", "_law_thing"] (defScope sDue) := ⟨rfl, rfl, rfl, by decide +kernel, rfl, by decide +kernel, by decide +kernel⟩
set_option maxHeartbeats 2000000 in
theorem ok_due {f fP fR fV : Addr} {fd fdP fdR fdV : FuncData} (F : Fun K "_law_due" "_law_due" sDue f fd)
    (GP : FnOk P w K mg base CX0 1 fP fdP ["_law_part"] spIsPart) (gP : mg "_law_is_part" = some (.ref fP)) (kP : PySem.W.keepIn K (.ref fP) = true) (bP : Binds K fdP ["_law_part"] [])
    (GR : FnOk P w K mg base CX0 1 fR fdR ["_law_model", "_law_row"] spIsRow) (gR : mg "_law_is_row" = some (.ref fR)) (kR : PySem.W.keepIn K (.ref fR) = true) (bR : Binds K fdR ["_law_model", "_law_row"] [])
    (GV : FnOk P w K mg base CX0 1 fV fdV ["_law_base", "_law_row"] spValue) (gV : mg "_law_value" = some (.ref fV)) (kV : PySem.W.keepIn K (.ref fV) = true) (bV : Binds K fdV ["_law_base", "_law_row"] [])
    (mis : mg "isinstance" = none) (mt : mg "tuple" = none) (ml : mg "len" = none) (mr : mg "range" = none) :
    FnOk P w K mg base CX0 2 f fd ["_law_model", "_law_amount", "_law_thing"] spDue := by
  refine F.ok scDu (fun vs H Q E h => ?_) (fun cdv A outer s H vs Q E hr h => ?_)
  · obtain ⟨m, dl, pl, v, n, b, ns, ks, x1, x2, x3, o1, o2, o3, rfl, _⟩ := h
    rfl
  · obtain ⟨m, dl, pl, v, n, b, ns, ks, x1, x2, x3, o1, o2, o3, rfl, M, G, hv, k1, k2, k3, q⟩ := h
    apply Exists.intro
    apply And.intro
    · apply pss_cons
      · exact ps_if (PW.pt (pw_or (pt_not (pt_val (pe_callB call_isi (by rfl) mis PyProof.Rows.boot_isinstance (pa_cons (pv 2) (pa_cons (pe_bltn (v := .ty "tuple") (by rfl) mt (by decide +kernel) rfl) pa_nil)))))
          (pw_or1 (pt_cmpR op_ne (pe_callB call_len_seq (by rfl) ml PySem.boot_len (pa_cons (pv 2) pa_nil)) pe_int (nomark _))))) (pss_one (ps_ret pe_bl)) pss_nil
      apply pss_cons
      · exact ps_if (PW.pt (pw_or (pt_cmpR (op_neD hr.units) (pe_lc (own := [("_law_part", 5)]) (g := gName 5) (tt := tNot (tB (tCall spIsPart [] E0 (tCons (tVar 5) tNil)))) (te := tVar 5) rfl scDu.nd (pi_tup (pv 2)) (blkOk_by (own := [("_law_part", 5)]) (N := nDu) (sc := defScope sDue) (by decide +kernel)) (fun _ _ _ _ _ => pg_name (i := 5) scDu.nd rfl (Or.inl rfl))
            (fun _ _ _ _ _ => by exact (pts_one (pt_not (pt_val (pe_call GP hr (by rfl) gP kP bP .nil pass0 (pa_cons (pv 5) pa_nil)))))) (fun _ _ _ _ _ => by exact (pv 5))) (pe_lst pa_nil) (nomark _))
          (pw_or1 (pt_cmpR (op_eqD hr.units) (pe_ix ix_tup (pv 2) pe_int (fun _ _ => rfl)) (pe_tup pa_nil) (nomark _))))) (pss_one (ps_ret pe_bl)) pss_nil
      apply pss_cons
      · exact ps_for PassesOwn.never rfl (pi_range1 (by rfl) mr (pa_cons pe_int pa_nil)) (pg_name (i := 3) scDu.nd rfl (.inl rfl))
          (pss_cons (ps_set (i := 4) scDu.nd rfl (.inl rfl) (pe_op op_cat2 (pe_op op_cat2 (pe_ix ix_tup (pv 2) pe_int (fun _ _ => rfl)) (pe_op op_rep0 (pe_ix ix_tup (pv 2) pe_int (fun _ _ => rfl)) (pv 3))) (pe_ix ix_tup (pv 2) pe_int (fun _ _ => rfl))))
            (pss_one (ps_if (PW.pt (pw_or (pt_not (pt_val (pe_call GR hr (by rfl) gR kR bR .nil pass0 (pa_cons (pv 0) (pa_cons (pv 4) pa_nil)))))
              (pw_or (pt_cmpR (op_eqD hr.units) (pe_slice sl_tup2 (pv 4) po_none (po_some pe_int)) (pe_tup (pa_cons pe_int pa_nil)) (nomark _))
                (pw_or1 (pt_cmpR op_ne (pe_call GV hr (by rfl) gV kV bV .nil pass0 (pa_cons (pe_ix ix_list (pv 0) pe_int (fun _ _ => rfl)) (pa_cons (pv 4) pa_nil))) (pv 1) (nomark _)))))) (pss_one (ps_ret pe_bl)) pss_nil)))
      apply pss_one
      · exact ps_ret pe_bl
    refine ⟨.ref v, rfl, .ref v, .ty "tuple", .type "tuple", .type "tuple", true, rfl, .ty _, .base (.tup hv), kit_ty (by decide +kernel), true, rfl, iteF ?_⟩
    refine ⟨.ref v, rfl, v, _, rfl, .inr (SqT.of hv), rfl, _, rfl, iteFB rfl ?_⟩
    refine ⟨.ref v, rfl, v, rfl, ⟨_, SqT.of hv⟩, fun D hD => ?_⟩
    generalize ezs : [(x1, o1), (x2, o2), (x3, o3)] = zs
    have exs : [x1, x2, x3] = zs.map (·.1) := by rw [← ezs]; rfl
    have hz : ∀ z ∈ zs, PK H z.1 z.2 := fun z h => by
      rw [← ezs] at h
      rcases List.mem_cons.mp h with h | h
      · rw [h]; exact k1
      · rcases List.mem_cons.mp h with h | h
        · rw [h]; exact k2
        · rw [List.mem_singleton.mp h]; exact k3
    have hv' := hv
    rw [exs] at hv'
    refine lc_tup (K := K) (a := v) (xs := zs.map (·.1)) (fun i H' => Same H H' ∧ H' D = some (.lst (((zs.take i).filter fun z => !parB z.2).map (·.1)))) ⟨same_new hD, upd_same⟩ (fun i H' _ h => SqT.of (h.1 _ _ hv')) ?_ ?_
    · rintro i x H1 hx ⟨s1, e1⟩
      obtain ⟨z, hzi, rfl⟩ := get_map (f := fun z : V × Option (List V) => z.1) hx
      have mz := List.mem_of_getElem? hzi
      have kz := (hz z mz).same s1
      have lz : zs.length = 3 := by rw [← ezs]; rfl
      have fin : ∀ H2, Same H1 H2 → if (!parB z.2) = true then tVar 5 [some (.ref m), some (.int n), some (.ref v), none, none, some z.1] H2 fun y H4 => ∃ acc, H4 D = some (.lst acc) ∧ acc.length < sizeLine ∧ (Same H (upd H4 D (.lst (acc ++ [y]))) ∧ upd H4 D (.lst (acc ++ [y])) D = some (.lst (((zs.take (i + 1)).filter fun z => !parB z.2).map (·.1))))
          else Same H H2 ∧ H2 D = some (.lst (((zs.take (i + 1)).filter fun z => !parB z.2).map (·.1))) := fun H2 s2 => by
        have e2 := s2 _ _ e1
        have s02 := s1.trans s2
        cases hp : parB z.2 with
        | true =>
          refine iteF ⟨s02, ?_⟩
          rw [e2, take_more hzi, List.filter_append]
          simp [hp]
        | false =>
          refine iteT ⟨z.1, rfl, _, e2, ?_, Same.store s02 hD, ?_⟩
          · rw [List.length_map]
            have a := List.length_filter_le (fun z : V × Option (List V) => !parB z.2) (zs.take i)
            have b : (zs.take i).length ≤ zs.length := List.length_take_le' _ _
            exact big18 (by omega)
          · rw [upd_same, take_more hzi, List.filter_append, List.map_append]
            simp [hp]
      refine ⟨rfl, z.1, rfl, z.1, rfl, ?_⟩
      cases ho : z.2 with
      | some ys =>
        rw [ho] at kz fin
        obtain ⟨⟨p, ep, hp⟩, ib, ly⟩ := (show ItAt H1 z.1 ys from kz)
        exact .inr ⟨p, ys, ep, hp, ib, ly, fun H2 s2 => ⟨_, rfl, fin H2 s2⟩⟩
      | none =>
        rw [ho] at kz fin
        obtain ⟨p, ys, ep, hp, ib⟩ := (show ∃ (p : Addr) (ys : List V), z.1 = .ref p ∧ H1 p = some (.lst ys) ∧ ∀ y ∈ ys, IB y from kz)
        exact .inl ⟨by rw [ep]; exact .lst hp, fun H2 s2 => ⟨_, rfl, fin H2 s2⟩⟩
    · rintro H1 ⟨s1, e1⟩
      have lz : (zs.map (·.1)).length = zs.length := List.length_map _
      rw [lz, List.take_length] at e1
      refine ⟨(by show 0 ≤ sizeLine; decide), fun t ht => isNilL (same_new ht _ _ e1) (fun z h => ((hz z (List.mem_filter.mp h).1).same s1).same (same_new ht)) upd_same ⟨_, rfl, ?_⟩⟩
      have s2 : Same H (upd H1 t (.lst [])) := s1.trans (same_new ht)
      generalize upd H1 t (.lst []) = H2 at s2 ⊢
      by_cases hall : (parB o1 && (parB o2 && parB o3)) = true
      · rw [Bool.and_eq_true, Bool.and_eq_true] at hall
        obtain ⟨b1, b2, b3⟩ := hall
        have e0 : (zs.filter fun z => !parB z.2) = [] := by
          rw [← ezs]
          simp [b1, b2, b3]
        rw [e0]
        refine iteF ?_
        clear e1 s1 e0 hz exs hv' ezs lz
        match o1, o2, o3, b1, b2, b3, k1, k2, k3, q with
        | some fs, some ms, some bs, b1, b2, b3, k1, k2, k3, q =>
        obtain ⟨fi, rfl⟩ := part_int b1
        obtain ⟨mi, rfl⟩ := part_int b2
        obtain ⟨bi, rfl⟩ := part_int b3
        have I1 : ItAt H x1 (fi.map V.int) := k1
        have I2 : ItAt H x2 (mi.map V.int) := k2
        have I3 : ItAt H x3 (bi.map V.int) := k3
        obtain ⟨⟨p1, rfl, hp1⟩, ib1, l1⟩ := I1
        obtain ⟨⟨p2, rfl, hp2⟩, ib2, l2⟩ := I2
        obtain ⟨⟨p3, rfl, hp3⟩, ib3, l3⟩ := I3
        rw [List.length_map] at l1 l2 l3
        have q : ∀ H', Same H H' → Q (.bl (loopB b ns ks n (fi.map V.int) (mi.map V.int) (bi.map V.int))) H' := q
        refine ⟨.ref v, rfl, v, _, 1, .ref p2, rfl, rfl, SqT.of (s2 _ _ hv), atI_nat (j := 1) rfl, (by show 0 ≤ sizeLine; decide), fun e he => isNil (same_new he _ _ (s2 _ _ hp2)) ib2 upd_same ⟨_, rfl, ?_⟩⟩
        have s3 : Same H (upd H2 e (.tup [])) := s2.trans (same_new he)
        generalize upd H2 e (.tup []) = H3 at s3 ⊢
        by_cases hm : mi.map V.int = []
        · have z := q H3 s3
          unfold loopB at z
          rw [decide_eq_true hm] at z
          rw [decide_eq_true hm]
          exact iteT z
        rw [decide_eq_false hm]
        refine iteF ?_
        have hm2 : mi ≠ [] := fun z => hm (by rw [z]; rfl)
        have gb := G.b
        have b0 : b ≠ 0 := fun z => by
          rw [z] at gb
          revert gb
          decide
        have b6 : b.natAbs ≤ 6 := by
          unfold isBase at gb
          simp only [Bool.or_eq_true, Bool.and_eq_true, decide_eq_true_eq] at gb
          omega
        rw [loop_ints G.dg b0 hm2] at q
        clear hm s2 he ht hD b1 b2 b3
        refine ⟨7, rfl, by decide, by decide, ?_⟩
        refine for_range (lo := 0) (n := 7) (fun i σ H' => ∃ v3 v4 : Option V, σ = [some (.ref m), some (.int n), some (.ref v), v3, v4, none] ∧ Same H H' ∧ ∀ t, t < i → okT b ns (ks.map (·.2)) n (repI fi mi bi t) = true) ⟨none, none, rfl, s3, fun t h => absurd h (by omega)⟩ ?_ ?_
        · rintro i σ H4 hi ⟨v3, v4, rfl, s4, al⟩
          rw [Int.zero_add]
          have lf : (List.replicate i (mi.map V.int)).flatten.length ≤ 7000 := by
            rw [PyProof.Rows.lm_len_rep_flat, List.length_map]
            have := Nat.mul_le_mul (show i ≤ 7 by omega) l2
            omega
          have big := big17
          have no : okT b ns (ks.map (·.2)) n (repI fi mi bi i) = false → ∀ H', Same H H' → Q (.bl false) H' := fun h H' s' => by
            have z := q H' s'
            have e : ((List.range 7).all fun t => okT b ns (ks.map (·.2)) n (repI fi mi bi t)) = false := by
              cases hh : ((List.range 7).all fun t => okT b ns (ks.map (·.2)) n (repI fi mi bi t)) with
              | false => rfl
              | true =>
                have := List.all_eq_true.mp hh i (List.mem_range.mpr hi)
                rw [h] at this
                cases this
            rw [e] at z
            exact z
          refine ⟨.ref v, rfl, v, _, 0, .ref p1, rfl, rfl, SqT.of (s4 _ _ hv), atI_nat (j := 0) rfl, .ref v, rfl, v, _, 1, .ref p2, rfl, rfl, SqT.of (s4 _ _ hv), atI_nat (j := 1) rfl, .int i, rfl, p2, i, mi.map V.int, rfl, rfl, s4 _ _ hp2, (fun z => hm2 (List.map_eq_nil_iff.mp z)), by omega, by rw [List.length_map]; exact l2, fun t1 H5 s5 e5 => ?_⟩
          refine ⟨p1, t1, fi.map V.int, _, rfl, rfl, s5 _ _ (s4 _ _ hp1), e5, by rw [List.length_map]; omega, fun t2 H6 s6 e6 => ?_⟩
          have s06 := s4.trans (s5.trans s6)
          refine ⟨.ref v, rfl, v, _, 2, .ref p3, rfl, rfl, SqT.of (s06 _ _ hv), atI_nat (j := 2) rfl, t2, p3, _, bi.map V.int, rfl, rfl, e6, s06 _ _ hp3, by rw [List.length_append, List.length_map, List.length_map]; omega, fun t3 H7 s7 e7 => ?_⟩
          have s07 := s06.trans s7
          have e7 : H7 t3 = some (.tup ((repI fi mi bi i).map V.int)) := by
            rw [← repI_reps]
            exact e7
          have lr : (repI fi mi bi i).length ≤ 10000 := by
            have e := congrArg List.length (repI_reps fi mi bi i)
            unfold reps at e
            rw [List.length_append, List.length_append, List.length_map, List.length_map, List.length_map] at e
            omega
          generalize eLL : repI fi mi bi i = L at e7 lr no
          clear e5 e6 lf
          refine ⟨.ref m, rfl, .ref t3, rfl, m, dl, pl, t3, b, ns, L, ks, rfl, M.same s07, e7, by omega, fun H8 s8 => ⟨_, rfl, ?_⟩⟩
          have s08 := s07.trans s8
          have e8 := s8 _ _ e7
          unfold okT at no
          cases hR : rowI ns (ks.map (·.2)) L with
          | false =>
            rw [hR] at no
            exact iteT (iteT (no rfl H8 s08))
          | true =>
          rw [hR, Bool.true_and] at no
          refine iteF ?_
          refine ⟨.ref t3, rfl, 1, rfl, t3, _, rfl, e8, fun p9 H9 s9 e9 => ?_⟩
          rw [cut_one, ← List.map_take] at e9
          refine ⟨(by show 1 ≤ sizeLine; decide), fun te hte => ?_⟩
          have s10 := same_new (o := .tup [.int 0]) hte
          have d1 := DatOf.tup (K := K) (s10 _ _ e9)
          have d2 := DatOf.tup (K := K) (is := [0]) (upd_same (H := H9) (a := te) (o := .tup [.int 0]))
          refine ⟨_, _, d1.dp _ (Same.refl _), d2.dp _ (Same.refl _), shaped_of d1.can (Nat.le_trans d1.dep (by decide)), shaped_of d2.can (Nat.le_trans d2.dep (by decide)), _, rfl, ?_⟩
          have s010 := s08.trans (s9.trans s10)
          have e10 := s10 _ _ (s9 _ _ e8)
          generalize upd H9 te (.tup [.int 0]) = H10 at s010 e10 ⊢
          rw [show PyData.eqv (.tuple ((L.take 1).map PyData.int)) (.tuple (([0] : List Int).map PyData.int)) = !head0 (L.map V.int) from eqv_head L]
          cases hh : head0 (L.map V.int) with
          | false =>
            rw [hh] at no
            exact iteT (iteT (no rfl H10 s010))
          | true =>
            rw [hh, Bool.true_and] at no
            refine iteF ?_
            have M10 := M.same s010
            refine ⟨.ref m, rfl, m, _, 0, .int b, rfl, rfl, SqL.of M10.mo, atI_nat (j := 0) rfl, .ref t3, rfl, b, t3, L, rfl, e10, b6, .int n, rfl, rfl, _, rfl, ?_⟩
            by_cases hv0 : valI b L = n
            · rw [decide_eq_true (congrArg V.int hv0)]
              refine iteF ⟨_, _, rfl, s010, fun t ht => ?_⟩
              by_cases hti : t < i
              · exact al t hti
              · have : t = i := by omega
                subst this
                rw [eLL]
                unfold okT
                rw [hR, hh, decide_eq_true hv0]
                rfl
            · rw [decide_eq_false (fun z => hv0 (V.int.inj z))]
              rw [decide_eq_false hv0] at no
              exact iteT (no rfl H10 s010)
        · rintro σ H4 ⟨v3, v4, rfl, s4, al⟩
          have z := q H4 s4
          have e : ((List.range 7).all fun t => okT b ns (ks.map (·.2)) n (repI fi mi bi t)) = true := List.all_eq_true.mpr fun t ht => al t (List.mem_range.mp ht)
          rw [e] at z
          exact z
      · have hf : (parB o1 && (parB o2 && parB o3)) = false := by
          cases h : (parB o1 && (parB o2 && parB o3)) with
          | false => rfl
          | true => exact absurd h hall
        rw [ans_part G.dg hf] at q
        have e0 : decide ((zs.filter fun z => !parB z.2) = []) = false := decide_eq_false fun z => by
          rw [← ezs] at z
          have all := List.filter_eq_nil_iff.mp z
          have a1 := all (x1, o1) (by simp)
          have a2 := all (x2, o2) (by simp)
          have a3 := all (x3, o3) (by simp)
          simp at a1 a2 a3
          rw [a1, a2, a3] at hf
          cases hf
        rw [e0]
        exact iteT (iteT (q H2 s2))
end
end K19
namespace K19
open PySem PySem.Spec PyProof.Rows L2 OF
abbrev sSpoilt : Stmt := topS 68
section
variable {P : Program} {w : World} {K : PySem.W.Frag} {mg : Str → Option Value} {base : Heap}
/-! ### a loop, spoilt -/
structure LV (H : Hp) (R : Addr) (o1 o2 o3 : Option (List V)) : Prop where
  ex : ∃ x1 x2 x3, H R = some (.tup [x1, x2, x3]) ∧ PK H x1 o1 ∧ PK H x2 o2 ∧ PK H x3 o3
theorem LV.same {H H' : Hp} {R : Addr} {o1 o2 o3 : Option (List V)} (h : LV H R o1 o2 o3) (s : Same H H') : LV H' R o1 o2 o3 := by
  obtain ⟨x1, x2, x3, e, k1, k2, k3⟩ := h.ex
  exact ⟨x1, x2, x3, s _ _ e, k1.same s, k2.same s, k3.same s⟩
theorem ib_ints (ns : List Int) : ∀ x ∈ ns.map V.int, IB x := fun x hx => by
  obtain ⟨n, _, rfl⟩ := List.mem_map.mp hx
  exact .inl ⟨n, rfl⟩
theorem LT.lv {H : Hp} {R : Addr} {fs ms bs : List Int} (L : LT H R fs ms bs) (l1 : fs.length ≤ 1000) (l2 : ms.length ≤ 1000) (l3 : bs.length ≤ 1000) : LV H R (some (fs.map V.int)) (some (ms.map V.int)) (some (bs.map V.int)) := by
  obtain ⟨p1, p2, p3, e, e1, e2, e3⟩ := L.ex
  exact ⟨_, _, _, e, ⟨⟨p1, rfl, e1⟩, ib_ints _, by rw [List.length_map]; exact l1⟩, ⟨⟨p2, rfl, e2⟩, ib_ints _, by rw [List.length_map]; exact l2⟩, ⟨⟨p3, rfl, e3⟩, ib_ints _, by rw [List.length_map]; exact l3⟩⟩
theorem cut_mem {xs : List V} {lo hi : Option Int} {x : V} (h : x ∈ cutV xs lo hi) : x ∈ xs := by
  unfold cutV at h
  exact List.mem_of_mem_drop (List.mem_of_mem_take h)
theorem pk_tup {H : Hp} {p : Addr} {ys : List V} (h : H p = some (.tup ys)) (ib : ∀ y ∈ ys, IB y) (l : ys.length ≤ 1000) : PK H (.ref p) (some ys) := ⟨⟨p, rfl, h⟩, ib, l⟩
def spSpoilt : Sp := fun vs H Q _ => ∃ (a m R : Addr) (n b : Int) (ns : List Int) (ps : List (Int × Int)) (fs ms bs : List Int), vs = [.ref a, .ref m, .ref R] ∧ Box n H a ∧ n ≤ 800000 ∧ Model a H m b ns ps ∧ 1 ≤ ns.length ∧ ns.length ≤ 6 ∧ LT H R fs ms bs ∧ fs.length ≤ 301 ∧ ms.length ≤ 301 ∧ bs.length ≤ 301 ∧
  ∀ (R' : Addr) (o1 o2 o3 : Option (List V)) (H' : Hp), But a H H' → Box (n + 10) H' a → LV H' R' o1 o2 o3 → Q (.ref R') H'
abbrev nSo : List Str := ["_law_box_here", "_law_model", "_law_thing", "_law_way", "_law_spot", "_law_parts", "_law_digit", "_law_part", "_law_at", "_law_some"]
theorem scSo : FnScope nSo ["_law_box_here", "_law_model", "_law_thing"] (defScope sSpoilt) := ⟨rfl, rfl, rfl, by decide +kernel, rfl, by decide +kernel, by decide +kernel⟩
set_option maxHeartbeats 4000000 in
theorem ok_spoilt {f fT fS : Addr} {fd fdT fdS : FuncData} (F : Fun K "_law_spoilt" "_law_spoilt" sSpoilt f fd) (FT : Fun K "_law_take" "_law_take" sTake fT fdT) (gT : mg "_law_take" = some (.ref fT)) (bT : Binds K fdT ["_law_box_here", "_law_many"] [])
    (GS : FnOk P w K mg base CX0 2 fS fdS ["_law_box_here", "_law_model"] spSomeD) (gS : mg "_law_some_digit" = some (.ref fS)) (kS : PySem.W.keepIn K (.ref fS) = true) (bS : Binds K fdS ["_law_box_here", "_law_model"] [])
    (mi : mg "int" = none) (ml : mg "len" = none) (mt : mg "tuple" = none) (mli : mg "list" = none) : FnOk P w K mg base CX0 3 f fd ["_law_box_here", "_law_model", "_law_thing"] spSpoilt := by
  have GT : FnOk P w K mg base CX0 1 fT fdT ["_law_box_here", "_law_many"] spTake := ok_take FT mi
  refine F.ok scSo (fun vs H Q E h => ?_) (fun cdv A outer s H vs Q E hr h => ?_)
  · obtain ⟨a, m, R, n, b, ns, ps, fs, ms, bs, rfl, _⟩ := h
    rfl
  · obtain ⟨a, m, R, n, b, ns, ps, fs, ms, bs, rfl, B, hn, M, h1, h6, L, l1, l2, l3, q⟩ := h
    have hr1 : Room 1 _ := hr.mono (by decide)
    apply Exists.intro
    apply And.intro
    · apply pss_cons
      · exact ps_par (i := 3) (j := 4) rfl scSo.nd rfl rfl (by decide) rfl rfl (pa_cons (pe_call GT hr1 (by rfl) gT FT.kp bT .nil pass0 (pa_cons (pv 0) (pa_cons pe_int pa_nil))) (pa_cons (pe_call GT hr1 (by rfl) gT FT.kp bT .nil pass0 (pa_cons (pv 0) (pa_cons pe_int pa_nil))) pa_nil)) (by rfl)
      apply pss_cons
      · exact ps_par (i := 5) (j := 6) rfl scSo.nd rfl rfl (by decide) rfl rfl (pa_cons (pe_callTy call_list_of (by rfl) mli PyProof.Rows.boot_list (pa_cons (pv 2) pa_nil)) (pa_cons (pe_call GS hr (by rfl) gS kS bS .nil pass0 (pa_cons (pv 0) (pa_cons (pv 1) pa_nil))) pa_nil)) (by rfl)
      apply pss_cons
      · exact ps_set (i := 7) scSo.nd rfl (.inl rfl) (pe_ix ix_list (pv 5) (pv 4) (fun _ _ => rfl))
      apply pss_cons
      · exact ps_set (i := 8) scSo.nd rfl (.inl rfl) (pe_call GT hr1 (by rfl) gT FT.kp bT .nil pass0 (pa_cons (pv 0) (pa_cons (pe_op op_add (pe_callB call_len_seq (by rfl) ml PySem.boot_len (pa_cons (pv 7) pa_nil)) pe_int) pa_nil)))
      apply pss_cons
      · exact ps_set (i := 9) scSo.nd rfl (.inl rfl) (pe_lst (pa_cons (pe_op op_cat2 (pe_slice sl_tup2 (pv 7) po_none (po_some (pv 8))) (pe_slice sl_tup2 (pv 7) (po_some (pe_op op_add (pv 8) pe_int)) po_none))
          (pa_cons (pe_op op_cat2 (pe_op op_cat2 (pe_slice sl_tup2 (pv 7) po_none (po_some (pv 8))) (pe_tup (pa_cons (pv 6) pa_nil))) (pe_slice sl_tup2 (pv 7) (po_some (pv 8)) po_none))
          (pa_cons (pe_op op_cat2 (pe_op op_cat2 (pe_slice sl_tup2 (pv 7) po_none (po_some (pv 8))) (pe_tup (pa_cons (pv 6) pa_nil))) (pe_slice sl_tup2 (pv 7) (po_some (pe_op op_add (pv 8) pe_int)) po_none)) pa_nil))))
      apply pss_cons
      · exact ps_set (i := 9) scSo.nd rfl (.inl rfl) (pe_op op_cat (pv 9) (pe_lst (pa_cons (pe_op op_cat2 (pv 7) (pv 7)) (pa_cons (pe_tup pa_nil) (pa_cons (pe_callTy call_list_of (by rfl) mli PyProof.Rows.boot_list (pa_cons (pv 7) pa_nil))
          (pa_cons (pe_op op_cat2 (pe_op op_cat2 (pe_slice sl_tup2 (pv 7) po_none (po_some (pv 8))) (pe_tup (pa_cons pe_bl pa_nil))) (pe_slice sl_tup2 (pv 7) (po_some (pv 8)) po_none)) pa_nil))))))
      apply pss_cons
      · exact ps_if (pt_cmpR op_lt (pv 3) pe_int (nomark _)) (pss_cons (ps_asg (pe_ix ix_list (pv 9) (pv 3) (fun _ _ => rfl)) (pg_sub (pv 5) (pv 4) set_list)) (pss_one (ps_ret (pe_callTy call_tuple_of (by rfl) mt (by decide +kernel) (pa_cons (pv 5) pa_nil))))) pss_nil
      apply pss_cons
      · exact ps_if (pt_cmpR op_eq (pv 3) pe_int (nomark _)) (pss_one (ps_ret (pe_tup (pa_cons (pe_ix ix_tup (pv 2) pe_int (fun _ _ => rfl)) (pa_cons (pe_op op_cat2 (pe_ix ix_tup (pv 2) pe_int (fun _ _ => rfl)) (pe_slice sl_tup2 (pe_ix ix_tup (pv 2) pe_int (fun _ _ => rfl)) po_none (po_some pe_int))) (pa_cons (pe_slice sl_tup2 (pe_ix ix_tup (pv 2) pe_int (fun _ _ => rfl)) (po_some pe_int) po_none) pa_nil)))))) pss_nil
      apply pss_one
      · exact ps_ret (pe_tup (pa_cons (pe_op op_cat2 (pe_ix ix_tup (pv 2) pe_int (fun _ _ => rfl)) (pe_ix ix_tup (pv 2) pe_int (fun _ _ => rfl))) (pa_cons (pe_ix ix_tup (pv 2) pe_int (fun _ _ => rfl)) (pa_cons (pe_ix ix_tup (pv 2) pe_int (fun _ _ => rfl)) pa_nil))))
    refine ⟨.ref a, rfl, a, 9, n, rfl, B, by omega, by decide, by decide, fun wy H1 w0 w1 t1 B1 => ?_⟩
    refine ⟨.ref a, rfl, a, 3, n + 1, rfl, B1, by omega, by decide, by decide, fun sp H2 p0 p1 t2 B2 => ?_⟩
    refine ⟨.int wy, .int sp, rfl, ?_⟩
    have T2 := t1.trans t2
    obtain ⟨r1, r2, r3, eR, e1, e2, e3⟩ := (L.but B T2).ex
    refine ⟨.ref R, rfl, R, _, rfl, .inr (SqT.of eR), fun Lp hLp => ?_⟩
    have nLa := B2.ne hLp
    have sL := same_new (o := .lst [.ref r1, .ref r2, .ref r3]) hLp
    have B3 : Box (n + 1 + 1) (upd H2 Lp (.lst [.ref r1, .ref r2, .ref r3])) a := B2.new hLp
    have eL : upd H2 Lp (.lst [.ref r1, .ref r2, .ref r3]) Lp = some (.lst [.ref r1, .ref r2, .ref r3]) := upd_same
    have eR := sL _ _ eR
    have e1 := sL _ _ e1
    have e2 := sL _ _ e2
    have e3 := sL _ _ e3
    have T3 : But a H (upd H2 Lp (.lst [.ref r1, .ref r2, .ref r3])) := T2.trans (But.of_same sL)
    generalize upd H2 Lp (.lst [.ref r1, .ref r2, .ref r3]) = H3 at sL B3 eL eR e1 e2 e3 T3 ⊢
    refine ⟨.ref a, rfl, .ref m, rfl, a, m, n + 1 + 1, b, ns, ps, rfl, B3, by omega, M.but T3, h1, h6, fun d H4 t4 B4 => ?_⟩
    refine ⟨.ref Lp, .int d, rfl, ?_⟩
    have eL4 := t4 _ _ nLa eL
    have T4 := T3.trans t4
    have eR := tup_but B3 t4 eR
    have e1 := tup_but B3 t4 e1
    have e2 := tup_but B3 t4 e2
    have e3 := tup_but B3 t4 e3
    obtain ⟨pp, ys, hat, hpp, ly⟩ : ∃ (pp : Addr) (ys : List Int), atI [V.ref r1, .ref r2, .ref r3] sp = some (.ref pp) ∧ H4 pp = some (.tup (ys.map V.int)) ∧ ys.length ≤ 301 := by
      have : sp = 0 ∨ sp = 1 ∨ sp = 2 := by omega
      rcases this with rfl | rfl | rfl
      · exact ⟨r1, fs, atI_nat (j := 0) rfl, e1, l1⟩
      · exact ⟨r2, ms, atI_nat (j := 1) rfl, e2, l2⟩
      · exact ⟨r3, bs, atI_nat (j := 2) rfl, e3, l3⟩
    refine ⟨.ref Lp, rfl, .int sp, rfl, Lp, _, sp, .ref pp, rfl, rfl, SqL.of eL4, hat, ?_⟩
    refine ⟨.ref a, rfl, .ref pp, rfl, pp, _, rfl, .inr (SqT.of hpp), _, 1, rfl, rfl, a, _, n + 1 + 1 + 2, rfl, B4, by omega, by rw [List.length_map]; omega, by rw [List.length_map]; omega, fun at_ H5 a0 a1 t5 B5 => ?_⟩
    have T5 := T4.trans t5
    have eL5 := t5 _ _ nLa eL4
    have hp5 := tup_but B4 t5 hpp
    have eR := tup_but B4 t5 eR
    have e1 := tup_but B4 t5 e1
    have e2 := tup_but B4 t5 e2
    have e3 := tup_but B4 t5 e3
    have ibY := ib_ints ys
    have lY : (ys.map V.int).length ≤ 301 := by rw [List.length_map]; exact ly
    generalize ys.map V.int = Y at hp5 ibY lY
    have big := big17
    have cl : ∀ lo hi, (cutV Y lo hi).length ≤ 301 := fun lo hi => Nat.le_trans (cutV_length Y lo hi) lY
    have ci : ∀ {lo hi : Option Int}, ∀ y ∈ cutV Y lo hi, IB y := fun y hy => ibY y (cut_mem hy)
    have ap : ∀ {A C : List V}, (∀ y ∈ A, IB y) → (∀ y ∈ C, IB y) → ∀ y ∈ A ++ C, IB y := fun hA hC y hy => (List.mem_append.mp hy).elim (hA y) (hC y)
    clear eL hat hpp sL B3 t4 B4 t5 T4 T3
    -- the row cut at, put in, exchanged
    refine ⟨.ref pp, rfl, .int at_, rfl, at_, rfl, pp, Y, rfl, hp5, fun q1 H6 s6 g1 => ?_⟩
    refine ⟨.ref pp, rfl, .int at_, rfl, at_, 1, rfl, rfl, at_ + 1, rfl, pp, Y, rfl, s6 _ _ hp5, fun q2 H7 s7 g2 => ?_⟩
    refine ⟨q1, q2, _, _, rfl, rfl, s7 _ _ g1, g2, by have := cl none (some at_); have := cl (some (at_ + 1)) none; omega, fun c1 H8 s8 g8 => ?_⟩
    have u8 := s6.trans (s7.trans s8)
    have k1 := pk_tup g8 (ap ci ci) (by rw [List.length_append]; have := cl none (some at_); have := cl (some (at_ + 1)) none; omega)
    clear s6 g1 s7 g2 s8 g8
    refine ⟨.ref pp, rfl, .int at_, rfl, at_, rfl, pp, Y, rfl, u8 _ _ hp5, fun q1 H9 s9 g1 => ?_⟩
    refine ⟨.int d, rfl, (by show 1 ≤ sizeLine; decide), fun dt hdt => ?_⟩
    have s10 := same_new (o := .tup [.int d]) hdt
    refine ⟨q1, dt, _, [.int d], rfl, rfl, s10 _ _ g1, upd_same, by have := cl none (some at_); show _ + 1 ≤ _; omega, fun q2 H11 s11 g2 => ?_⟩
    refine ⟨.ref pp, rfl, .int at_, rfl, at_, rfl, pp, Y, rfl, s11 _ _ (s10 _ _ (s9 _ _ (u8 _ _ hp5))), fun q3 H12 s12 g3 => ?_⟩
    refine ⟨q2, q3, _, _, rfl, rfl, s12 _ _ g2, g3, by rw [List.length_append]; have := cl none (some at_); have := cl (some at_) none; show _ + 1 + _ ≤ _; omega, fun c2 H13 s13 g13 => ?_⟩
    have u813 := s9.trans (s10.trans (s11.trans (s12.trans s13)))
    have u13 := u8.trans u813
    have k1 := k1.same u813
    have ibd : ∀ y ∈ [V.int d], IB y := fun y hy => by cases List.mem_singleton.mp hy; exact .inl ⟨d, rfl⟩
    have k2 := pk_tup g13 (ap (ap ci ibd) ci) (by rw [List.length_append, List.length_append]; have := cl none (some at_); have := cl (some at_) none; show _ + 1 + _ ≤ _; omega)
    clear s9 g1 s10 s11 g2 s12 g3 s13 g13 u813 u8 hdt
    refine ⟨.ref pp, rfl, .int at_, rfl, at_, rfl, pp, Y, rfl, u13 _ _ hp5, fun q1 H14 s14 g1 => ?_⟩
    refine ⟨.int d, rfl, (by show 1 ≤ sizeLine; decide), fun dt hdt => ?_⟩
    have s15 := same_new (o := .tup [.int d]) hdt
    refine ⟨q1, dt, _, [.int d], rfl, rfl, s15 _ _ g1, upd_same, by have := cl none (some at_); show _ + 1 ≤ _; omega, fun q2 H16 s16 g2 => ?_⟩
    refine ⟨.ref pp, rfl, .int at_, rfl, at_, 1, rfl, rfl, at_ + 1, rfl, pp, Y, rfl, s16 _ _ (s15 _ _ (s14 _ _ (u13 _ _ hp5))), fun q3 H17 s17 g3 => ?_⟩
    refine ⟨q2, q3, _, _, rfl, rfl, s17 _ _ g2, g3, by rw [List.length_append]; have := cl none (some at_); have := cl (some (at_ + 1)) none; show _ + 1 + _ ≤ _; omega, fun c3 H18 s18 g18 => ?_⟩
    have v18 := s14.trans (s15.trans (s16.trans (s17.trans s18)))
    have u18 := u13.trans v18
    have k1 := k1.same v18
    have k2 := k2.same v18
    have k3 := pk_tup g18 (ap (ap ci ibd) ci) (by rw [List.length_append, List.length_append]; have := cl none (some at_); have := cl (some (at_ + 1)) none; show _ + 1 + _ ≤ _; omega)
    clear s14 g1 s15 s16 g2 s17 g3 s18 g18 v18 u13 hdt
    refine ⟨(by show 3 ≤ sizeLine; decide), fun Ls hLs => ?_⟩
    have s19 := same_new (o := .lst [.ref c1, .ref c2, .ref c3]) hLs
    have eLs : upd H18 Ls (.lst [.ref c1, .ref c2, .ref c3]) Ls = some (.lst [.ref c1, .ref c2, .ref c3]) := upd_same
    have k1 := k1.same s19
    have k2 := k2.same s19
    have k3 := k3.same s19
    have u19 := u18.trans s19
    generalize upd H18 Ls (.lst [.ref c1, .ref c2, .ref c3]) = H19 at eLs k1 k2 k3 u19 ⊢
    clear s19 u18 hLs
    refine ⟨.ref Ls, rfl, .ref pp, rfl, .ref pp, rfl, pp, pp, Y, Y, rfl, rfl, u19 _ _ hp5, u19 _ _ hp5, by omega, fun c4 H20 s20 g4 => ?_⟩
    refine ⟨(by show 0 ≤ sizeLine; decide), fun c5 hc5 => ?_⟩
    have s21 := same_new (o := .tup []) hc5
    have g5 : upd H20 c5 (.tup []) c5 = some (.tup []) := upd_same
    generalize upd H20 c5 (.tup []) = H21 at s21 g5 ⊢
    have u21 := u19.trans (s20.trans s21)
    refine ⟨.ref pp, rfl, pp, Y, rfl, .inr (SqT.of (u21 _ _ hp5)), fun c6 hc6 => ?_⟩
    have s22 := same_new (o := .lst Y) hc6
    have g6 : upd H21 c6 (.lst Y) c6 = some (.lst Y) := upd_same
    have n6 : c6 ≠ Lp := fun z => by
      have k := u21 _ _ eL5
      rw [← z, hc6] at k
      cases k
    generalize upd H21 c6 (.lst Y) = H22 at s22 g6 ⊢
    have u22 := u21.trans s22
    refine ⟨.ref pp, rfl, .int at_, rfl, at_, rfl, pp, Y, rfl, u22 _ _ hp5, fun q1 H23 s23 b1 => ?_⟩
    refine ⟨(by show 1 ≤ sizeLine; decide), fun dt hdt => ?_⟩
    have s24 := same_new (o := .tup [.bl true]) hdt
    refine ⟨q1, dt, _, [.bl true], rfl, rfl, s24 _ _ b1, upd_same, by have := cl none (some at_); show _ + 1 ≤ _; omega, fun q2 H25 s25 b2 => ?_⟩
    refine ⟨.ref pp, rfl, .int at_, rfl, at_, rfl, pp, Y, rfl, s25 _ _ (s24 _ _ (s23 _ _ (u22 _ _ hp5))), fun q3 H26 s26 b3 => ?_⟩
    refine ⟨q2, q3, _, _, rfl, rfl, s26 _ _ b2, b3, by rw [List.length_append]; have := cl none (some at_); have := cl (some at_) none; show _ + 1 + _ ≤ _; omega, fun c7 H27 s27 b7 => ?_⟩
    have v27 := s23.trans (s24.trans (s25.trans (s26.trans s27)))
    have ibt : ∀ y ∈ [V.bl true], IB y := fun y hy => by cases List.mem_singleton.mp hy; exact .inr ⟨true, rfl⟩
    have k7 := pk_tup b7 (ap (ap ci ibt) ci) (by rw [List.length_append, List.length_append]; have := cl none (some at_); have := cl (some at_) none; show _ + 1 + _ ≤ _; omega)
    refine ⟨(by show 4 ≤ sizeLine; decide), fun Lq hLq => ?_⟩
    have s28 := same_new (o := .lst [.ref c4, .ref c5, .ref c6, .ref c7]) hLq
    have v28 := (s20.trans (s21.trans s22)).trans (v27.trans s28)
    refine ⟨Ls, Lq, _, _, rfl, rfl, v28 _ _ eLs, upd_same, (by show 7 ≤ sizeLine; decide), fun Lr hLr => ?_⟩
    have s29 := same_new (o := .lst ([.ref c1, .ref c2, .ref c3] ++ [.ref c4, .ref c5, .ref c6, .ref c7])) hLr
    have eLr : upd (upd H27 Lq (.lst [.ref c4, .ref c5, .ref c6, .ref c7])) Lr (.lst ([.ref c1, .ref c2, .ref c3] ++ [.ref c4, .ref c5, .ref c6, .ref c7])) Lr = some (.lst [.ref c1, .ref c2, .ref c3, .ref c4, .ref c5, .ref c6, .ref c7]) := upd_same
    have v := v28.trans s29
    have k1 := k1.same v
    have k2 := k2.same v
    have k3 := k3.same v
    have w := s28.trans s29
    have k7 := k7.same w
    have k4 := (pk_tup g4 (ap ibY ibY) (by rw [List.length_append]; omega)).same ((s21.trans s22).trans (v27.trans w))
    have k5 := (pk_tup g5 (ys := []) (fun y h => by cases h) (by decide)).same (s22.trans (v27.trans w))
    have g6 := (v27.trans w) _ _ g6
    have u30 := u19.trans v
    generalize upd (upd H27 Lq (.lst [.ref c4, .ref c5, .ref c6, .ref c7])) Lr (.lst ([.ref c1, .ref c2, .ref c3] ++ [.ref c4, .ref c5, .ref c6, .ref c7])) = H30 at eLr k1 k2 k3 k4 k5 k7 g6 u30 ⊢
    clear s20 g4 s21 g5 u21 s22 u22 s23 b1 s24 s25 b2 s26 b3 s27 b7 v27 s28 v28 s29 v w eLs u19 hc5 hc6 hdt hLq hLr
    have T30 := T5.trans (But.of_same u30)
    have B30 := B5.same u30
    have eL := u30 _ _ eL5
    have eR := u30 _ _ eR
    have e1 := u30 _ _ e1
    have e2 := u30 _ _ e2
    have e3 := u30 _ _ e3
    have hLp0 : H Lp = none := by
      cases h : H Lp with
      | none => rfl
      | some o =>
        have := T2 _ _ nLa h
        rw [hLp] at this
        cases this
    refine ⟨.int wy, rfl, _, _, rfl, rfl, _, rfl, ?_⟩
    by_cases h7 : wy < 7
    · rw [decide_eq_true h7]
      refine iteT ?_
      have tupU : ∀ {X : HO} {c : Addr} {xs : List V}, H30 c = some (.tup xs) → upd H30 Lp X c = some (.tup xs) := fun {X c xs} e => by
        rw [upd_ne fun z => by rw [z, eL] at e; cases e]
        exact e
      have pkU : ∀ {X : HO} {c : V} {ys : List V}, PK H30 c (some ys) → PK (upd H30 Lp X) c (some ys) := fun {X c ys} k => by
        obtain ⟨⟨p, e, hp⟩, ib, l⟩ := (show ItAt H30 c ys from k)
        exact ⟨⟨p, e, tupU hp⟩, ib, l⟩
      obtain ⟨cv, co, hc, kc⟩ : ∃ (cv : V) (co : Option (List V)), atI [V.ref c1, .ref c2, .ref c3, .ref c4, .ref c5, .ref c6, .ref c7] wy = some cv ∧ ∀ X, PK (upd H30 Lp X) cv co := by
        have : wy = 0 ∨ wy = 1 ∨ wy = 2 ∨ wy = 3 ∨ wy = 4 ∨ wy = 5 ∨ wy = 6 := by omega
        rcases this with rfl | rfl | rfl | rfl | rfl | rfl | rfl
        · exact ⟨_, _, atI_nat (j := 0) rfl, fun X => pkU k1⟩
        · exact ⟨_, _, atI_nat (j := 1) rfl, fun X => pkU k2⟩
        · exact ⟨_, _, atI_nat (j := 2) rfl, fun X => pkU k3⟩
        · exact ⟨_, _, atI_nat (j := 3) rfl, fun X => pkU k4⟩
        · exact ⟨_, _, atI_nat (j := 4) rfl, fun X => pkU k5⟩
        · exact ⟨_, none, atI_nat (j := 5) rfl, fun X => ⟨c6, Y, rfl, (upd_ne n6).trans g6, ibY⟩⟩
        · exact ⟨_, _, atI_nat (j := 6) rfl, fun X => pkU k7⟩
      refine ⟨.ref Lr, rfl, .int wy, rfl, Lr, _, wy, cv, rfl, rfl, SqL.of eLr, hc, ?_⟩
      refine ⟨.ref Lp, rfl, .int sp, rfl, Lp, _, sp, sp.toNat, rfl, rfl, eL, ixN_in p0 (by show sp < 3; omega), ?_⟩
      refine ⟨.ref Lp, rfl, Lp, _, rfl, .inl ⟨SqL.of upd_same, fun Tt hT => ?_⟩⟩
      have sT := same_new (o := .tup ([V.ref r1, .ref r2, .ref r3].set sp.toNat cv)) hT
      have kF := pk_tup (tupU (X := .lst ([V.ref r1, .ref r2, .ref r3].set sp.toNat cv)) e1) (ib_ints fs) (by rw [List.length_map]; omega)
      have kM := pk_tup (tupU (X := .lst ([V.ref r1, .ref r2, .ref r3].set sp.toNat cv)) e2) (ib_ints ms) (by rw [List.length_map]; omega)
      have kB := pk_tup (tupU (X := .lst ([V.ref r1, .ref r2, .ref r3].set sp.toNat cv)) e3) (ib_ints bs) (by rw [List.length_map]; omega)
      have kC := kc (.lst ([V.ref r1, .ref r2, .ref r3].set sp.toNat cv))
      have TT := (T30.store (o := .lst ([V.ref r1, .ref r2, .ref r3].set sp.toNat cv)) hLp0).trans (But.of_same sT)
      have BT : Box (n + 10) (upd (upd H30 Lp (.lst ([V.ref r1, .ref r2, .ref r3].set sp.toNat cv))) Tt (.tup ([V.ref r1, .ref r2, .ref r3].set sp.toNat cv))) a := ((B30.upd nLa).new hT).mono (by omega)
      have : sp = 0 ∨ sp = 1 ∨ sp = 2 := by omega
      rcases this with rfl | rfl | rfl
      · exact q Tt co _ _ _ TT BT ⟨_, _, _, upd_same, kC.same sT, kM.same sT, kB.same sT⟩
      · exact q Tt _ co _ _ TT BT ⟨_, _, _, upd_same, kF.same sT, kC.same sT, kB.same sT⟩
      · exact q Tt _ _ co _ TT BT ⟨_, _, _, upd_same, kF.same sT, kM.same sT, kC.same sT⟩
    rw [decide_eq_false h7]
    refine iteF ?_
    clear k1 k2 k3 k4 k5 k7 g6 eLr eL5
    have a0 : atI [V.ref r1, .ref r2, .ref r3] 0 = some (.ref r1) := atI_nat (j := 0) rfl
    have a1 : atI [V.ref r1, .ref r2, .ref r3] 1 = some (.ref r2) := atI_nat (j := 1) rfl
    have a2 : atI [V.ref r1, .ref r2, .ref r3] 2 = some (.ref r3) := atI_nat (j := 2) rfl
    have lc : ∀ (xs : List Int) lo hi, (cutV (xs.map V.int) lo hi).length ≤ xs.length := fun xs lo hi => by
      have := cutV_length (xs.map V.int) lo hi
      rw [List.length_map] at this
      exact this
    refine ⟨.int wy, rfl, rfl, _, rfl, ?_⟩
    by_cases h8 : V.int wy = V.int 7
    · rw [decide_eq_true h8]
      refine iteT ⟨.ref R, rfl, R, _, 0, .ref r1, rfl, rfl, SqT.of eR, a0, .ref R, rfl, R, _, 1, .ref r2, rfl, rfl, SqT.of eR, a1, .ref R, rfl, R, _, 2, .ref r3, rfl, rfl, SqT.of eR, a2, 1, rfl, r3, _, rfl, e3, fun q1 H31 s31 b1 => ?_⟩
      have lb := lc bs none (some 1)
      refine ⟨r2, q1, _, _, rfl, rfl, s31 _ _ e2, b1, by rw [List.length_map]; omega, fun q2 H32 s32 b2 => ?_⟩
      have s132 := s31.trans s32
      refine ⟨.ref R, rfl, R, _, 2, .ref r3, rfl, rfl, SqT.of (s132 _ _ eR), a2, 1, rfl, r3, _, rfl, s132 _ _ e3, fun q3 H33 s33 b3 => ⟨(by show 3 ≤ sizeLine; decide), fun Tt hT => ?_⟩⟩
      have sT := same_new (o := .tup [.ref r1, .ref q2, .ref q3]) hT
      have s133 := s132.trans (s33.trans sT)
      refine q Tt _ _ _ _ (T30.trans (But.of_same s133)) ((B30.same s133).mono (by omega)) ⟨_, _, _, upd_same, pk_tup (s133 _ _ e1) (ib_ints fs) (by rw [List.length_map]; omega), pk_tup (sT _ _ (s33 _ _ b2)) (ap (ib_ints ms) (fun y hy => ib_ints bs y (cut_mem hy))) (by rw [List.length_append, List.length_map]; omega), pk_tup (sT _ _ b3) (fun y hy => ib_ints bs y (cut_mem hy)) (Nat.le_trans (lc bs (some 1) none) (by omega))⟩
    · rw [decide_eq_false h8]
      refine iteF ⟨.ref R, rfl, R, _, 0, .ref r1, rfl, rfl, SqT.of eR, a0, .ref R, rfl, R, _, 1, .ref r2, rfl, rfl, SqT.of eR, a1, r1, r2, _, _, rfl, rfl, e1, e2, by rw [List.length_map, List.length_map]; omega, fun q1 H31 s31 b1 => ?_⟩
      refine ⟨.ref R, rfl, R, _, 1, .ref r2, rfl, rfl, SqT.of (s31 _ _ eR), a1, .ref R, rfl, R, _, 2, .ref r3, rfl, rfl, SqT.of (s31 _ _ eR), a2, (by show 3 ≤ sizeLine; decide), fun Tt hT => ?_⟩
      have sT := same_new (o := .tup [.ref q1, .ref r2, .ref r3]) hT
      have s131 := s31.trans sT
      refine q Tt _ _ _ _ (T30.trans (But.of_same s131)) ((B30.same s131).mono (by omega)) ⟨_, _, _, upd_same, pk_tup (sT _ _ b1) (ap (ib_ints fs) (ib_ints ms)) (by rw [List.length_append, List.length_map, List.length_map]; omega), pk_tup (s131 _ _ e2) (ib_ints ms) (by rw [List.length_map]; omega), pk_tup (s131 _ _ e3) (ib_ints bs) (by rw [List.length_map]; omega)⟩
end
end K19
namespace K19
open PySem PySem.Spec PyProof.Rows L2 OF
abbrev sRefused : Stmt := topS 71
section
variable {P : Program} {w : World} {K : PySem.W.Frag} {mg : Str → Option Value} {base : Heap}
/-! ### what is_loop refuses -/
def spRefused (C : Addr) : Sp := fun vs H Q _ => ∃ x y : V, vs = [x, y] ∧ ((Odd H x ∧ ∀ l H', Same H H' → H' l = some (.lst [.str "scheme", x, .bl true]) → Q (.ref l) H') ∨
  ∃ (a t r : Addr) (b : Int) (ds : List Int) (ks : List (Addr × (Int × Int))), x = .ref a ∧ SchemeAt C H a t r b ds ks ∧ b.natAbs ≤ 6 ∧ Odd H y ∧ ∀ l H', Same H H' → H' l = some (.lst [.str "number", y]) → Q (.ref l) H')
abbrev nRe : List Str := ["_law_house", "_law_amount", "e"]
theorem scRe : FnScope nRe ["_law_house", "_law_amount"] (defScope sRefused) := ⟨rfl, rfl, rfl, by decide +kernel, rfl, by decide +kernel, by decide +kernel⟩
def t_ref (C CN CI : Addr) (W : WX) : TS := tDrop (tCallS (spIsLoop C CN CI) (WE W) (tCons (tVar 0) (tCons (tVar 1) (tCons (tTup tNil) tNil))))
def t_t1 (K : PySem.W.Frag) (CN CF : Addr) : Addr → Value → Option Addr → TS := fun a cls d => tRet (tLst (tCons (tC (.str "scheme")) (tCons (tXf a cls d CN "value" (tVar 2)) (tCons (tCB (rAsk K CN a cls d) (tCons (tVar 2) (tCons (tC (.ref CF)) tNil))) tNil))))
def t_t2 (CI : Addr) : Addr → Value → Option Addr → TS := fun a cls d => tRet (tLst (tCons (tC (.str "number")) (tCons (tXf a cls d CI "number" (tVar 2)) tNil)))
abbrev refC (K : PySem.W.Frag) (CN CI CF : Addr) : Clauses := [(.ref CN, 2, t_t1 K CN CF), (.ref CI, 2, t_t2 CI)]
theorem Odd.same' {H H' : Hp} {x : V} (h : Odd H x) (s : Same H H') : Odd H' x := h.same s
theorem ok_refused {f fV fI1 fI2 C CN CI CF fF : Addr} {fd fdV : FuncData} (F : Fun K "_law_refused" "_law_refused" sRefused f fd)
    (GV : FnOk P w K mg base (L2.CX P w) 9 fV fdV ["scheme", "number", "value"] (spIsLoop C CN CI)) (gV : mg "is_loop" = some (.ref fV)) (kV : PySem.W.keepIn K (.ref fV) = true) (bV : Binds K fdV ["scheme", "number", "value"] [])
    (T1 : ErrC K mg "NotScheme" "value" CN fI1) (T2 : ErrC K mg "InvalidNumber" "number" CI fI2) (TF : FigC K mg CF fF) (ask : AskC K CN) (kk : PySem.W.kitOne K (.ref CN) (.ref CF) = some true) (mis : mg "isinstance" = none) (ap : PySem.W.exmOne K (.ref CI) (.ref CN) = some false) :
    FnOk P w K mg base CX0 10 f fd ["_law_house", "_law_amount"] (spRefused C) := by
  refine F.ok scRe (fun vs H Q E h => ?_) (fun cdv A outer s H vs Q E hr h => ⟨tSeq (fun D σ H => t_ref C CN CI (wManyA K (fun _ _ _ _ => False) D (refC K CN CI CF)) D σ H) (tRet (tLst tNil)), ?_, ?_⟩)
  · obtain ⟨x, y, rfl, _⟩ := h
    rfl
  · exact pss_cons (ps_try_manyA (l := refC K CN CI CF) (tb := t_ref C CN CI) (Wout := fun _ _ _ _ => False) rfl rfl scRe.nd takes0
      (fun W pn xe tk _ => pss_one (ps_expr (by exact (pe_callS GV hr (by rfl) gV kV bV (fun σ => passAt tk σ) (by exact (pa_cons (pv 0) (pa_cons (pv 1) (pa_cons (pe_tup pa_nil) pa_nil))))))))
      (.cons ⟨rfl, by decide, Or.inl T1.g⟩ rfl rfl (fun a oe cls d pn hz hf => pss_one (ps_ret (by exact (pe_lst (pa_cons pe_str (pa_cons (pe_xf T1.xf T1.no hz hf (pv 2)) (pa_cons (pe_callB (call_ask ask hz hf) (by rfl) mis PyProof.Rows.boot_isinstance (pa_cons (pv 2) (pa_cons (pe_glob (v := .ref CF) rfl TF.g rfl) pa_nil))) pa_nil)))))))
      (.cons ⟨rfl, by decide, Or.inl T2.g⟩ rfl rfl (fun a oe cls d pn hz hf => pss_one (ps_ret (by exact (pe_lst (pa_cons pe_str (pa_cons (pe_xf T2.xf T2.no hz hf (pv 2)) pa_nil)))))) .nil)))
      (pss_one (ps_ret (pe_lst pa_nil)))
  · obtain ⟨x, y, rfl, h⟩ := h
    refine ⟨x, rfl, y, rfl, (by show 0 ≤ sizeLine; decide), fun t ht => ?_⟩
    have s0 := same_new (o := .tup []) ht
    generalize upd H t (.tup []) = H0 at s0 ⊢
    refine ⟨x, y, .ref t, rfl, ?_⟩
    rcases h with ⟨o, q⟩ | ⟨a, tt, r, b, ds, ks, rfl, S, b6, o, q⟩
    · refine .inl ⟨o.same s0, fun fs d H' hd s1 ed => ⟨true, T1.te, fun _ a ha => ?_, fun q => nomatch q⟩⟩
      refine ⟨.ref a, rfl, rfl, rfl, d, _, x, rfl, ed, by simp [List.lookup], .ref a, rfl, d, _, .ref CF, .ref CF, true, rfl, rfl, ed, rfl, fun u hu => hu, kk, ?_⟩
      exact ⟨(by show 3 ≤ sizeLine; decide), fun l hl => q l _ (s0.trans (Same.store s1 (s1.free hl))) upd_same⟩
    · refine .inr ⟨a, tt, r, b, ds, ks, rfl, S.same s0, b6, .inl ⟨o.same s0, fun fs d H' hd s1 ed => ⟨false, ap, (fun q => nomatch q), fun _ => ⟨true, T2.te, fun _ a ha => ?_, fun q => nomatch q⟩⟩⟩⟩
      refine ⟨.ref a, rfl, rfl, rfl, d, _, y, rfl, ed, by simp [List.lookup], ?_⟩
      exact ⟨(by show 2 ≤ sizeLine; decide), fun l hl => q l _ (s0.trans (Same.store s1 (s1.free hl))) upd_same⟩
end
end K19
/-! f(k = v, ..) and o.m(k = v, ..) by names alone, within a try; f, m may raise. -/
namespace OF
open PySem PySem.Spec PyProof.Rows L2
section
variable {X : Cx} {CX : CXT} {k n : Nat} {f C : Addr} {fd : FuncData} {ps ks : List Str} {sp : Sp} {E : L2.St → XK} {x m : Str} {p apos pos : Pos} {o : Expr} {kws : List Keyword} {ta : TE} {tk : TA} {g : List Value → List Value → List Value} {gV : List V → List V → List V}
theorem run_fnNS {pins : List (Addr × Obj)} {σ : L2.St} {H : Hp} {s : Shared} {Q : VK} {us ws : List Value} {vs zs : List V} (F : FnOk X.prog X.w X.K X.mg X.base CX k f fd ps sp) (hr : Room k X.A) (hb : KBn X.K fd ps n ks g gV) (hx : PassesAt CX X σ (E σ))
    (I : Inv X pins σ H s) (r : Vals vs us) (rz : Vals zs ws) (l1 : vs.length = n) (l2 : zs.length = ks.length) (h : sp (gV vs zs) H Q (E σ)) : wpAny (model X.prog X.w) X.A (call (.ref f) us (ks.zip ws)) (EP X pins σ Q) X.xe s := by
  have r2 := hb.rel r rz
  refine wpAny_call (codeAny_mono (F.run X.A X.stack s H ⟨us, ks.zip ws⟩ (g us ws) (gV vs zs) Q (E σ) hr I.env0 (hb.to s us ws I.kIn (r.length.symm.trans l1) (rz.length.symm.trans l2)) r2 h) fun r s' hq => ?_)
  cases r with
  | error e => exact hx pins H s e s' I hq
  | ok fl =>
    cases fl with
    | ret u => exact I.after hq
    | next => exact False.elim hq
    | brk => exact False.elim hq
    | cont => exact False.elim hq
def tCallNS (j : Nat) (sp : Sp) (gV : List V → List V → List V) (E : L2.St → XK) (tk : TA) : TE := fun σ H Q => tk σ H fun zs H2 => zs.length = j ∧ sp (gV [] zs) H2 Q (E σ)
theorem pe_callNS (F : FnOk X.prog X.w X.K X.mg X.base CX k f fd ps sp) (hr : Room k X.A) (hg : Gl X x) (hm : X.mg x = some (.ref f)) (hk : PySem.W.keepIn X.K (.ref f) = true) (hb : KBn X.K fd ps 0 ks g gV) (hx : ∀ σ, PassesAt CX X σ (E σ))
    (hkw : PK X kws tk) (hall : (backToKw pos (keywordEach kws X.env)).all (·.1.isSome) = true := by rfl) (hks : (backToKw pos (keywordEach kws X.env)).filterMap (·.1) = ks := by rfl)
    (hdb : (x == ("__debug__" : Str)) = false := by decide)
    (hpl : ((backTo pos (starEach [] X.env)).any (·.1) || (backToKw pos (keywordEach kws X.env)).any (·.1.isNone)) = false := by rfl) :
    PE X (.Call (.Name x p) [] kws pos) (tCallNS ks.length sp gV E tk) := by
  refine ⟨fun pins s σ H Q I h => ?_⟩
  refine wpAny_Call_Name_kw (ld_glob I hg hm ?_ hdb)
  refine PySem.W.callWith_KW0 (h₀ := X.base) I.ok.mod.kin hk hall (thn (hkw.run pos pins s σ H _ I h) fun ws s2 ⟨zs, H2, I2, rz, l2, q2⟩ => ⟨I2.kIn, ?_⟩) hpl
  rw [hks]
  exact run_fnNS (us := []) (vs := []) F hr hb (hx σ) I2 .nil rz rfl l2 q2
def tMethNS (C : Addr) (m : Str) (j : Nat) (sp : Sp) (gV : List V → List V → List V) (E : L2.St → XK) (ta : TE) (tk : TA) : TE := fun σ H Q => ta σ H fun x H1 => ∃ a dx fs, x = .ref a ∧ H1 a = some (.ins C dx fs) ∧ fs.lookup m = none ∧
  tk σ H1 fun zs H2 => zs.length = j ∧ sp (gV [x] zs) H2 Q (E σ)
theorem pe_methNS {pl : Sem Bool} (he : PE X o ta) (c : Cls X.K C) (hm : Meth X.K C m f) (F : FnOk X.prog X.w X.K X.mg X.base CX k f fd ps sp) (hr : Room k X.A) (hb : KBn X.K fd ps 1 ks g gV) (hx : ∀ σ, PassesAt CX X σ (E σ)) (hkw : PK X kws tk)
    (hall : (backToKw pos (keywordEach kws X.env)).all (·.1.isSome) = true := by rfl) (hks : (backToKw pos (keywordEach kws X.env)).filterMap (·.1) = ks := by rfl)
    (hpl : ((backTo pos (starEach [] X.env)).any (·.1) || (backToKw pos (keywordEach kws X.env)).any (·.1.isNone)) = false := by rfl)
    (ht : eval (.Call (.Attribute o m apos) [] kws pos) X.env = (do
      let ov ← eval o X.env
      standAt apos.atName
      let (f, first) ← holding [ov] (getMethod ov m pl)
      callWith pos f first (backTo pos (starEach [] X.env)) (backToKw pos (keywordEach kws X.env))) := by rfl) :
    PE X (.Call (.Attribute o m apos) [] kws pos) (tMethNS C m ks.length sp gV E ta tk) := by
  refine ⟨fun pins s σ H Q I h => ?_⟩
  refine PySem.W.methodCall_KW (pl := pl) (thn (he.run pins s σ H _ I h) fun u s1 ⟨x, H1, I1, rx, a, dx, fs, ex, ea, l, q⟩ => ?_) ht
  subst ex
  obtain rfl : u = Value.ref a := rx
  refine getmeth_ok I1 ea c hm l ?_
  refine PySem.W.callWith_KW0 (first := [.ref a]) (h₀ := X.base) I.ok.mod.kin hm.kp hall (thn (hkw.run pos pins s1 σ H1 _ I1 q) fun ws s2 ⟨zs, H2, I2, rz, l2, q2⟩ => ⟨I2.kIn, ?_⟩) hpl
  rw [hks]
  exact run_fnNS (us := [.ref a]) (vs := [.ref a]) F hr hb (hx σ) I2 (.cons rfl .nil) rz rfl l2 q2
end
end OF
namespace K19
open PySem PySem.Spec PyProof.Rows L2 OF LamX NdefX
/-! ### all but the box and the tables stay -/
def BN (a : Addr) (H H' : Hp) : Prop := ∀ b o, b ≠ a → H b = some o → (∀ ps, o ≠ .tbl ps) → H' b = some o
theorem BN.refl {a : Addr} {H : Hp} : BN a H H := fun _ _ _ h _ => h
theorem BN.trans {a : Addr} {H H1 H2 : Hp} (x : BN a H H1) (y : BN a H1 H2) : BN a H H2 := fun b o n h k => y b o n (x b o n h k) k
theorem BN.but {a : Addr} {H H' : Hp} (t : But a H H') : BN a H H' := fun b o n h _ => t b o n h
theorem BN.same {a : Addr} {H H' : Hp} (t : Same H H') : BN a H H' := fun b o _ h _ => t b o h
theorem BN.ext {a : Addr} {H H' : Hp} (t : ExtN H H') : BN a H H' := fun b o _ h k => t b o h k
theorem box_ext {a : Addr} {n : Int} {H H' : Hp} (hB : Box n H a) (t : ExtN H H') : Box n H' a := by
  obtain ⟨b0, b1, b2, e, r⟩ := hB
  exact ⟨b0, b1, b2, t _ _ e (fun ps z => by cases z), r⟩
theorem tabs_but {T : List (Addr × Str)} {a : Addr} {n : Int} {H H' : Hp} (hB : Box n H a) (t : But a H H') (h : Tabs T H) : Tabs T H' := fun p hp => by
  obtain ⟨b0, b1, b2, e, _⟩ := hB
  obtain ⟨ps, h1, h2, h3⟩ := h p hp
  refine ⟨ps, t _ _ (fun z => by rw [z, e] at h1; cases h1) h1, h2, fun pos cv hc => ?_⟩
  obtain ⟨c, e1, e2⟩ := h3 pos cv hc
  exact ⟨c, e1, t _ _ (fun z => by rw [z, e] at e2; cases e2) e2⟩
structure Rn (a : Addr) (T : List (Addr × Str)) (H0 : Hp) (k : Int) (H : Hp) : Prop where
  t : BN a H0 H
  B : Box k H a
  T : Tabs T H
section
variable {a : Addr} {T : List (Addr × Str)} {H0 H H' : Hp} {k m : Int}
theorem Rn.but (h : Rn a T H0 k H) (t : But a H H') (B : Box m H' a) : Rn a T H0 m H' := ⟨h.t.trans (.but t), B, tabs_but h.B t h.T⟩
theorem Rn.same (h : Rn a T H0 k H) (t : Same H H') : Rn a T H0 k H' := ⟨h.t.trans (.same t), h.B.same t, h.T.ext t⟩
theorem Rn.ext (h : Rn a T H0 k H) (t : ExtN H H') (hT : Tabs T H') : Rn a T H0 k H' := ⟨h.t.trans (.ext t), box_ext h.B t, hT⟩
theorem Rn.new {p : Addr} {o : HO} (h : Rn a T H0 k H) (hp : H p = none) : Rn a T H0 k (upd H p o) := h.same (same_new hp)
theorem Rn.store {p : Addr} {l : List V} {o : HO} (h : Rn a T H0 k H) (hp : H0 p = none) (ne : p ≠ a) (e : H p = some (.lst l)) : Rn a T H0 k (upd H p o) := by
  refine ⟨fun b u nb hb kk => ?_, h.B.upd ne, fun q hq => ?_⟩
  · have n : b ≠ p := fun z => by
      rw [z, hp] at hb
      cases hb
    rw [upd_ne n]
    exact h.t b u nb hb kk
  · obtain ⟨ps, h1, h2, h3⟩ := h.T q hq
    refine ⟨ps, ?_, h2, fun pos cv hc => ?_⟩
    · rw [upd_ne (fun z => by rw [z, e] at h1; cases h1)]
      exact h1
    · obtain ⟨c, e1, e2⟩ := h3 pos cv hc
      refine ⟨c, e1, ?_⟩
      rw [upd_ne (fun z => by rw [z, e] at e2; cases e2)]
      exact e2
theorem Rn.mono (h : Rn a T H0 k H) (l : k ≤ m) : Rn a T H0 m H := ⟨h.t, h.B.mono l, h.T⟩
end
/-- the parts of a scheme, wherever but the box and the tables may change -/
def ModN (a : Addr) (H : Hp) (m dl pl : Addr) (b : Int) (ns : List Int) (ks : List (Addr × (Int × Int))) : Prop := ∀ H', BN a H H' → ModAt H' m dl pl b ns ks
theorem model_n {a m : Addr} {H : Hp} {b : Int} {ns : List Int} {ps : List (Int × Int)} (h : Model a H m b ns ps) : ∃ (dl pl : Addr) (ks : List (Addr × (Int × Int))), ks.map (·.2) = ps ∧ ModN a H m dl pl b ns ks := by
  obtain ⟨dl, pl, ks, e, z⟩ := h
  have M0 := z H But.refl
  have M1 := z (upd H a (.dK [])) (fun c o n h => by rw [upd_ne n]; exact h)
  have nm : ∀ {c : Addr} {o : HO}, (upd H a (.dK [])) c = some o → (∀ ps, o ≠ .dK ps) → c ≠ a := fun {c o} h k z => by
    rw [z, upd_same] at h
    cases h
    exact k _ rfl
  refine ⟨dl, pl, ks, e, fun H' t => ⟨t _ _ (nm M1.mo (fun ps z => by cases z)) M0.mo (fun ps z => by cases z), t _ _ (nm M1.di (fun ps z => by cases z)) M0.di (fun ps z => by cases z), t _ _ (nm M1.pa (fun ps z => by cases z)) M0.pa (fun ps z => by cases z), fun p hp => t _ _ (nm (M1.pr p hp) (fun ps z => by cases z)) (M0.pr p hp) (fun ps z => by cases z)⟩⟩
theorem ModN.bn {a m dl pl : Addr} {H H' : Hp} {b : Int} {ns : List Int} {ks : List (Addr × (Int × Int))} (h : ModN a H m dl pl b ns ks) (t : BN a H H') : ModN a H' m dl pl b ns ks := fun H2 t2 => h H2 (t.trans t2)
theorem ModN.model {a m dl pl : Addr} {H : Hp} {b : Int} {ns : List Int} {ks : List (Addr × (Int × Int))} (h : ModN a H m dl pl b ns ks) : Model a H m b ns (ks.map (·.2)) := ⟨dl, pl, ks, rfl, fun H' t => h H' (.but t)⟩
theorem sch_n {C a o t r : Addr} {n b : Int} {H : Hp} {ns : List Int} {L : List (Addr × (Int × Int))} (hB : Box n H a) (S : SchemeAt C H o t r b ns L) : ∀ H', BN a H H' → SchemeAt C H' o t r b ns L := fun H' q => by
  obtain ⟨b0, b1, b2, e, _⟩ := hB
  obtain ⟨⟨dx, h1⟩, h2, h3, h4⟩ := S
  have nm : ∀ {c : Addr} {o : HO}, H c = some o → (∀ ps, o ≠ .lst ps) → c ≠ a := fun {c o} h k z => by
    rw [z, e] at h
    cases h
    exact k _ rfl
  exact ⟨⟨dx, q _ _ (nm h1 (fun ps z => by cases z)) h1 (fun ps z => by cases z)⟩, q _ _ (nm h2 (fun ps z => by cases z)) h2 (fun ps z => by cases z), q _ _ (nm h3 (fun ps z => by cases z)) h3 (fun ps z => by cases z), fun p hp => q _ _ (nm (h4 p hp) (fun ps z => by cases z)) (h4 p hp) (fun ps z => by cases z)⟩
theorem len_flat {α β : Type} {f : α → List β} {m : Nat} : ∀ {l : List α}, (∀ x ∈ l, (f x).length ≤ m) → (l.flatMap f).length ≤ l.length * m
  | [], _ => Nat.zero_le _
  | x :: l, h => by
    have i := len_flat fun y hy => h y (List.mem_cons_of_mem _ hy)
    have j := h x List.mem_cons_self
    rw [List.flatMap_cons, List.length_append, List.length_cons, Nat.succ_mul]
    omega
def gVNS {α : Type} (_ : List α) (ws : List α) : List α := match ws with
  | [v, n, s] => [s, n, v]
  | _ => []
section
variable {P : Program} {w : World} {K : PySem.W.Frag} {mg : Str → Option Value} {base : Heap}
theorem kbLoop {f : Addr} {fd : FuncData} (F : Fun K "is_loop" "is_loop" sIsLoop f fd) : KBn K fd ["scheme", "number", "value"] 0 ["value", "number", "scheme"] gVNS gVNS := by
  obtain ⟨oc, od, kV, doc, pm, an, cdv, ct, osl, rfl, lk, hcd⟩ := F.ex
  refine ⟨fun s us ws X l1 l2 => ?_, fun {vs us zs ws} r1 r2 => ?_⟩
  · match us, ws, l1, l2 with
    | [], [h, v, l], _, _ => exact .of_eq rfl
  · cases r2 with
    | nil => exact .nil
    | cons a t => cases t with
      | nil => exact .nil
      | cons b t => cases t with
        | nil => exact .nil
        | cons c t => cases t with
          | nil => exact .cons c (.cons b (.cons a .nil))
          | cons _ _ => exact .nil
/-! ### a finite set of places for small numbers -/
def smallP (ds : List Int) : List Plc := (List.range 21).flatMap fun i => (none :: ds.map some).map fun k => (((i : Nat) : Int) - 10, k)
theorem small_mem {ds : List Int} {p : Plc} : p ∈ smallP ds ↔ (-10 ≤ p.1 ∧ p.1 ≤ 10) ∧ p.2 ∈ none :: ds.map some := by
  unfold smallP
  rw [List.mem_flatMap]
  constructor
  · rintro ⟨i, hi, h⟩
    obtain ⟨k, hk, rfl⟩ := List.mem_map.mp h
    have := List.mem_range.mp hi
    exact ⟨⟨by show -10 ≤ (i : Int) - 10; omega, by show (i : Int) - 10 ≤ 10; omega⟩, hk⟩
  · rintro ⟨⟨h1, h2⟩, h3⟩
    refine ⟨(p.1 + 10).toNat, List.mem_range.mpr (by omega), List.mem_map.mpr ⟨p.2, h3, ?_⟩⟩
    have : (((p.1 + 10).toNat : Nat) : Int) - 10 = p.1 := by omega
    rw [this]
theorem small_len {ds : List Int} (h : ds.length ≤ 6) : (smallP ds).length ≤ 300 := by
  have z := len_flat (f := fun i : Nat => (none :: ds.map some).map fun k => ((((i : Nat) : Int) - 10, k) : Plc)) (m := ds.length + 1) (l := List.range 21) fun x _ => by
    rw [List.length_map, List.length_cons, List.length_map]
    exact Nat.le_refl _
  unfold smallP
  rw [List.length_range] at z
  omega
theorem small_bound {b : Int} {ds : List Int} {ks : List (Addr × (Int × Int))} (h6 : ds.length ≤ 6) (hb : isBase b = true) (dg : ∀ d ∈ ds, dig d = true) : Bound b ds ks (smallP ds) := by
  refine ⟨fun p hp q hq => ?_, fun p hp => (small_mem.mp hp).2, Nat.le_trans (small_len h6) (by decide)⟩
  obtain ⟨⟨p1, p2⟩, _⟩ := small_mem.mp hp
  unfold sucP plc leftOf at hq
  obtain ⟨y, hy, rfl⟩ := List.mem_map.mp hq
  obtain ⟨d, hd, rfl⟩ := List.mem_map.mp hy
  obtain ⟨h1, h2⟩ := List.mem_filter.mp hd
  have md := (List.mem_filter.mp h1).1
  have h2 := of_decide_eq_true h2
  have dd := dg d md
  unfold dig at dd
  rw [Bool.and_eq_true] at dd
  have d1 := of_decide_eq_true dd.1
  have d2 := of_decide_eq_true dd.2
  refine small_mem.mpr ⟨?_, List.mem_cons_of_mem _ (List.mem_map.mpr ⟨d, md, rfl⟩)⟩
  have e : b * (p.1 - d).fdiv b + (p.1 - d).fmod b = p.1 - d := Int.mul_fdiv_add_fmod _ _
  rw [h2, Int.add_zero] at e
  show -10 ≤ (p.1 - d).fdiv b ∧ (p.1 - d).fdiv b ≤ 10
  generalize (p.1 - d).fdiv b = r at e
  have : b = 2 ∨ b = 3 ∨ b = 4 ∨ b = 5 ∨ b = 6 ∨ b = -2 ∨ b = -3 ∨ b = -4 ∨ b = -5 ∨ b = -6 := by
    unfold isBase at hb
    simp only [Bool.or_eq_true, Bool.and_eq_true, decide_eq_true_eq] at hb
    omega
  rcases this with rfl | rfl | rfl | rfl | rfl | rfl | rfl | rfl | rfl | rfl <;> omega
def spRight (T : List (Addr × Str)) : Sp := fun vs H Q _ => ∃ a : Addr, vs = [.ref a] ∧ Box 0 H a ∧ Tabs T H ∧ ∀ H', BN a H H' → Tabs T H' → Q (.bl true) H'
abbrev nRi : List Str := ["_law_box_here", "_law_base", "_law_digits_here", "_law_shut", "_law_model", "_law_house", "_law_amount", "_law_told", "_law_thing", "_law_turn", "_law_digit", "_law_ring", "_law_odd", "_law_wrong"]
theorem scRi : FnScope nRi ["_law_box_here"] (defScope sRight) := ⟨rfl, rfl, rfl, by decide +kernel, rfl, by decide +kernel, by decide +kernel⟩
end
end K19
namespace K19
open PySem PySem.Spec PyProof.Rows L2 OF LamX NdefX
section
variable {P : Program} {w : World} {K : PySem.W.Frag} {mg : Str → Option Value} {base : Heap}
theorem seq_cut2 {A1 A2 B : TS} {D : Ends} {σ : L2.St} {H : Hp} (I : L2.St → Hp → Prop) (hB : ∀ σ' H', I σ' H' → B D σ' H') (hA : ∀ N : L2.St → Hp → Prop, (∀ σ' H', I σ' H' → N σ' H') → tSeq A1 A2 { D with nx := N } σ H) : tSeq A1 (tSeq A2 B) D σ H := hA _ hB
theorem cut_to (k : Nat) (xs : List V) : cutV xs none (some (k : Int)) = xs.take k := by
  unfold cutV
  have e2 : HT.sIx xs.length 0 none = 0 := rfl
  have e1 : HT.sIx xs.length xs.length (some (k : Int)) = min k xs.length := by
    unfold HT.sIx
    simp <;> omega
  rw [e1, e2, List.drop_zero, Nat.sub_zero]
  by_cases h : k ≤ xs.length
  · rw [Nat.min_eq_left h]
  · rw [Nat.min_eq_right (by omega), List.take_length, List.take_of_length_le (by omega)]
theorem perm_ints {ls : List V} {ns : List Int} (h : ls.Perm (ns.map V.int)) : ∃ is : List Int, ls = is.map V.int ∧ is.Perm ns := by
  have all : ∀ x ∈ ls, ∃ n : Int, x = .int n := fun x hx => by
    obtain ⟨n, _, e⟩ := List.mem_map.mp (h.mem_iff.mp hx)
    exact ⟨n, e.symm⟩
  obtain ⟨is, rfl⟩ := row_ints (ds := []) (ks := []) (xs := ls) fun i x hx => all x (List.mem_of_getElem? hx)
  have z := h.filterMap (fun x => match x with | .int n => some n | _ => none)
  have e : ∀ ms : List Int, (ms.map V.int).filterMap (fun x => match x with | .int n => some n | _ => none) = ms := intsV_map
  rw [e, e] at z
  exact ⟨is, rfl, z⟩
theorem bar_cong {L ks : List (Addr × (Int × Int))} (h : L.map (·.2) = ks.map (·.2)) (x y : Int) : hasBar L x y = hasBar ks x y := by
  have e : ∀ l : List (Addr × (Int × Int)), hasBar l x y = hasP (l.map (·.2)) x y := fun l => by
    unfold hasBar hasP
    rw [List.map_map]
    rfl
  rw [e, e, h]
theorem jdg_cong {ds : List Int} {L ks : List (Addr × (Int × Int))} (h : L.map (·.2) = ks.map (·.2)) : jdg ds L = jdg ds ks := by
  funext x y
  unfold jdg
  split
  · rfl
  · rw [bar_cong h]
  · rfl
theorem ans_cong {b n : Int} {ds : List Int} {L ks : List (Addr × (Int × Int))} (h : L.map (·.2) = ks.map (·.2)) (o1 o2 o3 : Option (List V)) : ansB b ds L n o1 o2 o3 = ansB b ds ks n o1 o2 o3 := by
  have e : ∀ xs, plainB b ds L n xs = plainB b ds ks n xs := fun xs => by
    unfold plainB rowB
    rw [jdg_cong h]
  unfold ansB loopB
  simp only [e]
theorem pk_kind {H : Hp} {x : V} {o : Option (List V)} (h : PK H x o) : Kind H x o.isSome := by
  cases o with
  | some ys =>
    obtain ⟨⟨p, e, hp⟩, _, _⟩ := (show ItAt H x ys from h)
    exact ⟨p, ys, e, hp⟩
  | none =>
    obtain ⟨p, ys, e, hp, _⟩ := h
    subst e
    exact NoTup.lst hp
theorem isloop_of {C CN CI o t r Th : Addr} {H : Hp} {b n : Int} {ns : List Int} {L ks : List (Addr × (Int × Int))} {o1 o2 o3 : Option (List V)} {Q : VK} {E : XK} (S : SchemeAt C H o t r b ns L) (b6 : b.natAbs ≤ 6) (eL : L.map (·.2) = ks.map (·.2)) (V0 : LV H Th o1 o2 o3)
    (q : ∀ H', Same H H' → Q (.bl (ansB b ns ks n o1 o2 o3)) H') : spIsLoop C CN CI [.ref o, .int n, .ref Th] H Q E := by
  obtain ⟨x1, x2, x3, e, k1, k2, k3⟩ := V0.ex
  refine ⟨_, _, _, rfl, .inr ⟨o, t, r, b, ns, L, rfl, S, b6, .inr ⟨n, rfl, .inr ⟨Th, _, rfl, e, ?_⟩⟩⟩⟩
  rw [← ans_cong eL] at q
  by_cases hall : (o1.isSome && (o2.isSome && o3.isSome)) = true
  · match o1, o2, o3, hall, k1, k2, k3, q with
    | some fs, some ms, some bs, _, k1, k2, k3, q => exact .inr (.inr ⟨x1, x2, x3, fs, ms, bs, rfl, k1, k2, k3, q⟩)
  · have hf : (o1.isSome && (o2.isSome && o3.isSome)) = false := by
      cases h : (o1.isSome && (o2.isSome && o3.isSome)) with
      | false => rfl
      | true => exact absurd h hall
    have ea : ansB b ns L n o1 o2 o3 = false := by
      cases o1 with
      | none => rfl
      | some _ => cases o2 with
        | none => rfl
        | some _ => cases o3 with
          | none => rfl
          | some _ => cases hf
    rw [ea] at q
    refine .inr (.inl ⟨[o1.isSome, o2.isSome, o3.isSome], rfl, rfl, ?_, fun i x t hx ht => ?_, q⟩)
    · show (o1.isSome && (o2.isSome && (o3.isSome && true))) = false
      rw [Bool.and_true]
      exact hf
    · match i, hx, ht with
      | 0, hx, ht => cases hx; cases ht; exact pk_kind k1
      | 1, hx, ht => cases hx; cases ht; exact pk_kind k2
      | 2, hx, ht => cases hx; cases ht; exact pk_kind k3
theorem due_of {m dl pl Th : Addr} {H : Hp} {b n : Int} {ns : List Int} {ks : List (Addr × (Int × Int))} {o1 o2 o3 : Option (List V)} {Q : VK} {E : XK} (M : ModAt H m dl pl b ns ks) (G : Good b ns (ks.map (·.2))) (V0 : LV H Th o1 o2 o3)
    (q : ∀ H', Same H H' → Q (.bl (ansB b ns ks n o1 o2 o3)) H') : spDue [.ref m, .int n, .ref Th] H Q E := by
  obtain ⟨x1, x2, x3, e, k1, k2, k3⟩ := V0.ex
  exact ⟨m, dl, pl, Th, n, b, ns, ks, x1, x2, x3, o1, o2, o3, rfl, M, G, e, k1, k2, k3, q⟩
def OddL (H : Hp) (x : V) : Prop := NoTup H x ∨ (∃ (v : Addr) (xs : List V), x = .ref v ∧ H v = some (.tup xs) ∧ xs.length ≠ 3) ∨ ∃ v : Addr, x = .ref v ∧ LT H v [] [] []
theorem OddL.same {H H' : Hp} {x : V} (h : OddL H x) (s : Same H H') : OddL H' x := by
  rcases h with h | ⟨v, xs, e, hv, l⟩ | ⟨v, e, L⟩
  · exact .inl (NoTup.same h s)
  · exact .inr (.inl ⟨v, xs, e, s _ _ hv, l⟩)
  · exact .inr (.inr ⟨v, e, L.same s⟩)
theorem odd_of {C CN CI o t r : Addr} {x : V} {H : Hp} {b n : Int} {ns : List Int} {L : List (Addr × (Int × Int))} {Q : VK} {E : XK} (S : SchemeAt C H o t r b ns L) (b6 : b.natAbs ≤ 6) (h : OddL H x)
    (q : ∀ H', Same H H' → Q (.bl false) H') : spIsLoop C CN CI [.ref o, .int n, x] H Q E := by
  rcases h with h | ⟨v, xs, rfl, hv, l⟩ | ⟨v, rfl, LL⟩
  · exact ⟨_, _, _, rfl, .inr ⟨o, t, r, b, ns, L, rfl, S, b6, .inr ⟨n, rfl, .inl ⟨h, q⟩⟩⟩⟩
  · exact ⟨_, _, _, rfl, .inr ⟨o, t, r, b, ns, L, rfl, S, b6, .inr ⟨n, rfl, .inr ⟨v, xs, rfl, hv, .inl ⟨l, q⟩⟩⟩⟩⟩
  · exact isloop_of (ks := L) S b6 rfl (LL.lv (by decide) (by decide) (by decide)) fun H' s => q H' s
structure Wrong (K : PySem.W.Frag) (H : Hp) (x : V) (d : PyData) : Prop where
  odd : Odd H x
  dp : ∀ H', Same H H' → Dp K H' x d
  a1 : (PyData.list [.str "scheme", d, .bool true]).showable = true
  a2 : (PyData.list [.str "scheme", d, .bool true]).hasDict = false
  a3 : (PyData.list [.str "scheme", d, .bool true]).shown.length ≤ sizeLine
  a4 : (PyData.list [.str "scheme", d, .bool true]).depth ≤ 40
  b1 : (PyData.list [.str "number", d]).showable = true
  b2 : (PyData.list [.str "number", d]).hasDict = false
  b3 : (PyData.list [.str "number", d]).shown.length ≤ sizeLine
  b4 : (PyData.list [.str "number", d]).depth ≤ 40
set_option maxHeartbeats 8000000 in
theorem ok_right {f fT fS fX fM fL fD fI fU fO fR C CN CI : Addr} {fd fdT fdS fdX fdM fdL fdD fdI fdU fdO fdR : FuncData} {T : List (Addr × Str)} (F : Fun K "_law_right" "_law_right" sRight f fd) (FT : Fun K "_law_take" "_law_take" sTake fT fdT) (gT : mg "_law_take" = some (.ref fT)) (bT : Binds K fdT ["_law_box_here", "_law_many"] [])
    (GS : FnOk P w K mg base CX0 3 fS fdS ["_law_box_here"] spScheme) (gS : mg "_law_scheme" = some (.ref fS)) (kS : PySem.W.keepIn K (.ref fS) = true) (bS : Binds K fdS ["_law_box_here"] [])
    (GX : FnOk P w K mg base CX0 2 fX fdX ["_law_box_here", "_law_some"] (spMixedP K)) (gX : mg "_law_mixed" = some (.ref fX)) (kX : PySem.W.keepIn K (.ref fX) = true) (bX : Binds K fdX ["_law_box_here", "_law_some"] [])
    (GM : FnOk P w K mg base CX0 9 fM fdM ["_law_model"] (spMadeL C)) (gM : mg "_law_made" = some (.ref fM)) (kM : PySem.W.keepIn K (.ref fM) = true) (bM : Binds K fdM ["_law_model"] [])
    (GL : FnOk P w K mg base (L2.CX P w) 11 fL fdL ["scheme", "number"] (spLoop P w C T)) (gL : mg "loop" = some (.ref fL)) (kL : PySem.W.keepIn K (.ref fL) = true) (bL : Binds K fdL ["scheme", "number"] [])
    (GD : FnOk P w K mg base CX0 3 fD fdD ["_law_box_here", "_law_model"] spDrawn) (gD : mg "_law_drawn" = some (.ref fD)) (kD : PySem.W.keepIn K (.ref fD) = true) (bD : Binds K fdD ["_law_box_here", "_law_model"] [])
    (FI : Fun K "is_loop" "is_loop" sIsLoop fI fdI) (GI : FnOk P w K mg base (L2.CX P w) 9 fI fdI ["scheme", "number", "value"] (spIsLoop C CN CI)) (gI : mg "is_loop" = some (.ref fI)) (bI : Binds K fdI ["scheme", "number", "value"] [])
    (GU : FnOk P w K mg base CX0 2 fU fdU ["_law_model", "_law_amount", "_law_thing"] spDue) (gU : mg "_law_due" = some (.ref fU)) (kU : PySem.W.keepIn K (.ref fU) = true) (bU : Binds K fdU ["_law_model", "_law_amount", "_law_thing"] [])
    (GO : FnOk P w K mg base CX0 3 fO fdO ["_law_box_here", "_law_model", "_law_thing"] spSpoilt) (gO : mg "_law_spoilt" = some (.ref fO)) (kO : PySem.W.keepIn K (.ref fO) = true) (bO : Binds K fdO ["_law_box_here", "_law_model", "_law_thing"] [])
    (GR : FnOk P w K mg base CX0 10 fR fdR ["_law_house", "_law_amount"] (spRefused C)) (gR : mg "_law_refused" = some (.ref fR)) (kR : PySem.W.keepIn K (.ref fR) = true) (bR : Binds K fdR ["_law_house", "_law_amount"] [])
    (mi : mg "int" = none) (mr : mg "range" = none) (mrp : mg "repr" = none) (mso : mg "sorted" = none) (mli : mg "list" = none) : FnG P w K mg base 12 f fd ["_law_box_here"] (spRight T) := by
  have GT : FnOk P w K mg base CX0 1 fT fdT ["_law_box_here", "_law_many"] spTake := ok_take FT mi
  refine okG F scRi (fun vs H Q E h => ?_) (fun cdv A outer s H vs Q E gu hr h => ?_)
  · obtain ⟨a, rfl, _⟩ := h
    rfl
  · obtain ⟨a, rfl, hB, hT, q⟩ := h
    have hr1 : Room 1 _ := hr.mono (by decide)
    have hr2 : Room 2 _ := hr.mono (by decide)
    have hr3 : Room 3 _ := hr.mono (by decide)
    have hr9 : Room 9 _ := hr.mono (by decide)
    have hr10 : Room 10 _ := hr.mono (by decide)
    apply Exists.intro
    apply And.intro
    · apply pss_cons
      · exact ps_asg (pe_call GS hr3 (by rfl) gS kS bS .nil pass0 (pa_cons (pv 0) pa_nil)) (pg_lst rfl (pgs_cons (pg_name (i := 1) scRi.nd rfl (.inl rfl)) (pgs_cons (pg_name (i := 2) scRi.nd rfl (.inl rfl)) (pgs_cons (pg_name (i := 3) scRi.nd rfl (.inl rfl)) pgs_nil))))
      apply pss_cons
      · exact ps_if (pt_cmpR op_gt (pe_call GT hr1 (by rfl) gT FT.kp bT .nil pass0 (pa_cons (pv 0) (pa_cons pe_int pa_nil))) pe_int (nomark _))
          (pss_one (ps_par3 (i := 1) (j := 2) (l := 3) rfl scRi.nd rfl rfl rfl (by decide) (by decide) (by decide) rfl rfl rfl (pa_cons (pe_ix ix_list (pe_lst (pa_cons pe_int (pa_cons (pe_un un_neg pe_int) (pa_cons pe_int pa_nil)))) (pe_call GT hr1 (by rfl) gT FT.kp bT .nil pass0 (pa_cons (pv 0) (pa_cons pe_int pa_nil))) (fun _ _ => rfl))
            (pa_cons (pe_callB cr_sorted (by rfl) mso (by decide +kernel) (pa_cons (pe_slice sl_list (pe_call GX hr2 (by rfl) gX kX bX .nil pass0 (pa_cons (pv 0) (pa_cons (pe_lst (pa_cons (pe_un un_neg pe_int) (pa_cons (pe_un un_neg pe_int) (pa_cons pe_int (pa_cons pe_int (pa_cons pe_int (pa_cons pe_int pa_nil))))))) pa_nil))) po_none (po_some pe_int)) pa_nil))
              (pa_cons (pe_slice sl_list (pv 3) po_none (po_some pe_int)) pa_nil))) (by rfl))) pss_nil
      apply pss_cons
      · exact ps_set (i := 4) scRi.nd rfl (.inl rfl) (pe_lst (pa_cons (pv 1) (pa_cons (pv 2) (pa_cons (pv 3) pa_nil))))
      apply pss_cons
      · exact ps_par (i := 5) (j := 6) rfl scRi.nd rfl rfl (by decide) rfl rfl (pa_cons (pe_call GM hr9 (by rfl) gM kM bM .nil pass0 (pa_cons (pv 4) pa_nil)) (pa_cons (pe_op op_sub (pe_call GT hr1 (by rfl) gT FT.kp bT .nil pass0 (pa_cons (pv 0) (pa_cons pe_int pa_nil))) pe_int) pa_nil)) (by rfl)
      apply pss_cons
      · exact ps_set (i := 7) scRi.nd rfl (.inl rfl) (pe_call GL hr (by rfl) gL kL bL .nil passNo (pa_cons (pv 5) (pa_cons (pv 6) pa_nil)))
      apply pss_cons
      · exact ps_set (i := 8) scRi.nd rfl (.inl rfl) (pe_ifExp (pt_cmpR op_isN (pv 7) pe_non (nomark _)) (pe_call GD hr3 (by rfl) gD kD bD .nil pass0 (pa_cons (pv 0) (pa_cons (pv 4) pa_nil))) (pv 7))
      apply pss_cons
      · exact ps_for PassesOwn.never rfl (pi_range1 (by rfl) mr (pa_cons pe_int pa_nil)) (pg_name (i := 9) scRi.nd rfl (.inl rfl))
          (pss_cons (ps_if (pt_cmpR op_ne (pe_callB call_repr_bool (by rfl) mrp PyProof.Rows.boot_repr (pa_cons (pe_callN0 GI hr9 (by rfl) gI FI.kp (kbLoop FI) passNo (pk_cons (pv 8) (pk_cons (pv 6) (pk_cons (pv 5) pk_nil)))) pa_nil)) (pe_callB call_repr_bool (by rfl) mrp PyProof.Rows.boot_repr (pa_cons (pe_call GU hr2 (by rfl) gU kU bU .nil pass0 (pa_cons (pv 4) (pa_cons (pv 6) (pa_cons (pv 8) pa_nil)))) pa_nil)) (nomark _)) (pss_one (ps_ret pe_bl)) pss_nil)
            (pss_one (ps_set (i := 8) scRi.nd rfl (.inl rfl) (pe_call GO hr3 (by rfl) gO kO bO .nil pass0 (pa_cons (pv 0) (pa_cons (pv 4) (pa_cons (pe_ifExp (PW.pt (pw_and (pt_cmpR op_notN (pv 7) pe_non (nomark _)) (pw_and1 (pt_cmpR op_lt (pv 9) pe_int (nomark _))))) (pv 7) (pe_call GD hr3 (by rfl) gD kD bD .nil pass0 (pa_cons (pv 0) (pa_cons (pv 4) pa_nil)))) pa_nil)))))))
      apply pss_cons
      · exact ps_for PassesOwn.never rfl (pi_range2 (by rfl) mr (pa_cons (pe_un un_neg pe_int) (pa_cons pe_int pa_nil))) (pg_name (i := 10) scRi.nd rfl (.inl rfl))
          (pss_cons (ps_set (i := 11) scRi.nd rfl (.inl rfl) (pe_tup (pa_cons (pe_tup (pa_cons (pv 10) pa_nil)) (pa_cons (pe_tup (pa_cons (pe_op op_sub (pv 10) (pe_op op_mul (pv 1) (pv 10))) pa_nil)) (pa_cons (pe_tup pa_nil) pa_nil)))))
            (pss_one (ps_if (pt_cmpR op_ne (pe_callB call_repr_bool (by rfl) mrp PyProof.Rows.boot_repr (pa_cons (pe_call GI hr9 (by rfl) gI FI.kp bI .nil passNo (pa_cons (pv 5) (pa_cons (pv 10) (pa_cons (pv 11) pa_nil)))) pa_nil)) (pe_callB call_repr_bool (by rfl) mrp PyProof.Rows.boot_repr (pa_cons (pe_call GU hr2 (by rfl) gU kU bU .nil pass0 (pa_cons (pv 4) (pa_cons (pv 10) (pa_cons (pv 11) pa_nil)))) pa_nil)) (nomark _)) (pss_one (ps_ret pe_bl)) pss_nil)))
      apply pss_cons
      · exact ps_for PassesOwn.never rfl (pi_list (pe_lst (pa_cons (pe_callTy call_list_of (by rfl) mli PyProof.Rows.boot_list (pa_cons (pv 8) pa_nil)) (pa_cons pe_non (pa_cons (pe_lst pa_nil) (pa_cons (pe_tup pa_nil) (pa_cons (pe_tup (pa_cons (pe_tup pa_nil) (pa_cons (pe_tup pa_nil) (pa_cons (pe_tup pa_nil) pa_nil)))) (pa_cons (pe_tup (pa_cons (pe_tup (pa_cons pe_int pa_nil)) (pa_cons (pe_tup (pa_cons pe_int pa_nil)) pa_nil))) (pa_cons pe_str (pa_cons pe_int (pa_cons (pe_tup (pa_cons (pe_tup (pa_cons pe_int pa_nil)) (pa_cons (pe_tup (pa_cons pe_int pa_nil)) (pa_cons (pe_tup (pa_cons pe_int pa_nil)) (pa_cons (pe_tup pa_nil) pa_nil))))) pa_nil))))))))))) (pg_name (i := 12) scRi.nd rfl (.inl rfl))
          (pss_one (ps_if (pt_cmpR op_isnot_bl (pe_call GI hr9 (by rfl) gI FI.kp bI .nil passNo (pa_cons (pv 5) (pa_cons (pv 6) (pa_cons (pv 12) pa_nil)))) pe_bl (nomark _)) (pss_one (ps_ret pe_bl)) pss_nil))
      apply pss_cons
      · exact ps_set (i := 13) scRi.nd rfl (.inl rfl) (pe_ix ix_list (pe_lst (pa_cons pe_non (pa_cons pe_bl (pa_cons pe_str (pa_cons (pe_lst (pa_cons pe_int pa_nil)) pa_nil))))) (pe_call GT hr1 (by rfl) gT FT.kp bT .nil pass0 (pa_cons (pv 0) (pa_cons pe_int pa_nil))) (fun _ _ => rfl))
      apply pss_cons
      · exact ps_if (pt_cmpR op_ne (pe_callB (call_reprD gu hr.units) (by rfl) mrp PyProof.Rows.boot_repr (pa_cons (pe_call GR hr10 (by rfl) gR kR bR .nil pass0 (pa_cons (pv 13) (pa_cons (pv 13) pa_nil))) pa_nil)) (pe_callB (call_reprD gu hr.units) (by rfl) mrp PyProof.Rows.boot_repr (pa_cons (pe_lst (pa_cons pe_str (pa_cons (pv 13) (pa_cons pe_bl pa_nil)))) pa_nil)) (nomark _)) (pss_one (ps_ret pe_bl)) pss_nil
      apply pss_one
      · exact ps_ret (pe_cmpR op_eq (pe_callB (call_reprD gu hr.units) (by rfl) mrp PyProof.Rows.boot_repr (pa_cons (pe_call GR hr10 (by rfl) gR kR bR .nil pass0 (pa_cons (pv 5) (pa_cons (pv 13) pa_nil))) pa_nil)) (pe_callB (call_reprD gu hr.units) (by rfl) mrp PyProof.Rows.boot_repr (pa_cons (pe_lst (pa_cons pe_str (pa_cons (pv 13) pa_nil))) pa_nil)) (nomark _))
    dsimp only
    refine seq_cut2 (fun σ' H' => ∃ (b : Int) (dl pl : Addr) (ns : List Int) (ks : List (Addr × (Int × Int))), σ' = [some (.ref a), some (.int b), some (.ref dl), some (.ref pl), none, none, none, none, none, none, none, none, none, none] ∧ Rn a T H 300 H' ∧ Good b ns (ks.map (·.2)) ∧
      ∀ H2, BN a H' H2 → H2 dl = some (.lst (ns.map V.int)) ∧ H2 pl = some (.lst (ks.map fun p => V.ref p.1)) ∧ ∀ p ∈ ks, H2 p.1 = some (.tup [.int p.2.1, .int p.2.2])) ?_ (fun N hN => ?_)
    rotate_left
    · refine ⟨.ref a, rfl, a, 0, rfl, hB, by decide, fun m b ns ps H1 t1 B1 G1 MO1 => ?_⟩
      obtain ⟨dl, pl, ks, rfl, MN⟩ := model_n MO1
      have M1 := MN H1 BN.refl
      have R1 : Rn a T H (0 + 100) H1 := Rn.but ⟨BN.refl, hB, hT⟩ t1 B1
      refine ⟨m, _, rfl, SqL.of M1.mo, rfl, .int b, _, rfl, .ref dl, _, rfl, .ref pl, _, rfl, rfl, ?_⟩
      refine ⟨.ref a, rfl, a, 3, 0 + 100, rfl, B1, by decide, by decide, by decide, fun r H2 r0 r1 t2 B2 => ⟨_, _, rfl, rfl, _, rfl, ?_⟩⟩
      have R2 := R1.but t2 B2
      by_cases h0 : 0 < r
      · refine iteTB (decide_eq_true h0) ?_
        refine ⟨2, rfl, (by show 3 ≤ sizeLine; decide), fun l0 hl0 => ?_⟩
        have n0 := B2.ne hl0
        refine ⟨.ref a, rfl, a, 3, 0 + 100 + 1, rfl, B2.new hl0, by decide, by decide, by decide, fun r2 H3 r20 r21 t3 B3 => ?_⟩
        have R3 := (R2.new hl0).but t3 B3
        have e0 := t3 _ _ n0 upd_same
        obtain ⟨v, hv, mv⟩ := pick (xs := ([2, -2, 3] : List Int).map V.int) r20 r21
        obtain ⟨b2, mb, rfl⟩ := List.mem_map.mp mv
        have hb2 : isBase b2 = true := by
          rcases List.mem_cons.mp mb with rfl | mb
          · decide
          · rcases List.mem_cons.mp mb with rfl | mb
            · decide
            · cases List.mem_singleton.mp mb
              decide
        refine ⟨l0, _, r2, .int b2, rfl, rfl, SqL.of e0, hv, ?_⟩
        refine ⟨.ref a, rfl, 2, rfl, 1, rfl, (by show 6 ≤ sizeLine; decide), fun l1 hl1 => ?_⟩
        have n1 := B3.ne hl1
        have R4 := R3.new (o := .lst (([-2, -1, 0, 1, 2, 3] : List Int).map V.int)) hl1
        refine ⟨a, l1, ([-2, -1, 0, 1, 2, 3] : List Int).map V.int, 0 + 100 + 1 + 1, rfl, R4.B, SqL.of upd_same, n1, by decide, by decide, fun D ls H4 hD t4 B4 eD pm => ?_⟩
        have R5 := R4.but t4 B4
        obtain ⟨is, rfl, pis⟩ := perm_ints pm
        refine ⟨4, rfl, D, _, rfl, SqL.of eD, fun p hp => ?_⟩
        have R6 := R5.new (o := .lst (cutV (is.map V.int) none (some 4))) hp
        have e6 : upd H4 p (.lst (cutV (is.map V.int) none (some 4))) p = some (.lst ((is.take 4).map V.int)) := by
          rw [upd_same, List.map_take]
          exact congrArg (fun z => some (HO.lst z)) (cut_to 4 _)
        have l6 : is.length = 6 := pis.length_eq
        refine ⟨p, is.take 4, rfl, SqL.of e6, by rw [List.length_take]; omega, fun ns2 p2 pm2 as2 hp2 => ?_⟩
        have R7 := R6.new (o := .lst (ns2.map V.int)) hp2
        have hpl : upd (upd H4 p (.lst (cutV (is.map V.int) none (some 4)))) p2 (.lst (ns2.map V.int)) pl = some (.lst (ks.map fun p => V.ref p.1)) := (MN _ (BN.trans (BN.trans (BN.but t2) (BN.trans (BN.same (same_new hl0)) (BN.but t3))) (BN.trans (BN.same (same_new hl1)) (BN.trans (BN.but t4) (BN.trans (BN.same (same_new hp)) (BN.same (same_new hp2))))))).pa
        refine ⟨.ref pl, rfl, 0, rfl, pl, _, rfl, SqL.of hpl, fun p3 hp3 => ⟨.int b2, .ref p2, .ref p3, rfl, hN _ _ ⟨b2, p2, p3, ns2, [], rfl, ?_, ?_, fun H2' t => ?_⟩⟩⟩
        · exact (R7.new hp3).mono (by decide)
        · have len : ns2.length = 4 := by
            rw [pm2.length_eq, List.length_take]
            omega
          have ndi : is.Nodup := pis.nodup_iff.mpr (by decide)
          have nd2 : ns2.Nodup := pm2.nodup_iff.mpr (ndi.sublist (List.take_sublist _ _))
          have mem2 : ∀ x ∈ ns2, x ∈ ([-2, -1, 0, 1, 2, 3] : List Int) := fun x hx => pis.mem_iff.mp (List.mem_of_mem_take (pm2.mem_iff.mp hx))
          refine ⟨hb2, ?_, by omega, by omega, fun x hx => ?_, (fun p h => by cases h), .nil, by decide⟩
          · exact (as2.and nd2).imp fun ⟨h1, h2⟩ => by omega
          · have := mem2 x hx
            simp only [List.mem_cons, List.not_mem_nil, or_false] at this
            unfold dig
            rcases this with rfl | rfl | rfl | rfl | rfl | rfl <;> decide
        · have na2 := R6.B.ne hp2
          have na3 := R7.B.ne hp3
          refine ⟨t _ _ na2 (same_new hp3 _ _ upd_same) (fun ps z => by cases z), ?_, fun p h => by cases h⟩
          rw [t _ _ na3 upd_same (fun ps z => by cases z)]
          exact congrArg (fun z => some (HO.lst z)) (cut_to 0 _)
      · refine iteFB (decide_eq_false h0) (hN _ _ ⟨b, dl, pl, ns, ks, rfl, R2.mono (by decide), G1, fun H2' t => ?_⟩)
        have M2 := MN H2' ((BN.but t2).trans t)
        exact ⟨M2.di, M2.pa, M2.pr⟩
    rintro σ1 H1 ⟨b, dl, pl, ns, ks, rfl, R1, G, PT⟩
    refine ⟨.int b, rfl, .ref dl, rfl, .ref pl, rfl, (by show 3 ≤ sizeLine; decide), fun m hm => ?_⟩
    have nma := R1.B.ne hm
    have R2 := R1.new (o := .lst [.int b, .ref dl, .ref pl]) hm
    have MN2 : ModN a (upd H1 m (.lst [.int b, .ref dl, .ref pl])) m dl pl b ns ks := fun H' t => by
      obtain ⟨h1, h2, h3⟩ := PT H' (BN.trans (BN.same (same_new hm)) t)
      exact ⟨t _ _ nma upd_same (fun ps z => by cases z), h1, h2, h3⟩
    generalize upd H1 m (.lst [.int b, .ref dl, .ref pl]) = H2 at R2 MN2 ⊢
    refine ⟨.ref m, rfl, m, dl, pl, b, ns, ks, rfl, MN2 _ BN.refl, G, fun o H3 s3 IS => ?_⟩
    have R3 := R2.same s3
    obtain ⟨_, tS, rS, L, eL, S3⟩ := IS
    refine ⟨.ref a, rfl, a, 21, 300, rfl, R3.B, by decide, by decide, by decide, fun r H4 r0 r1 t4 B4 => ?_⟩
    have R4 := R3.but t4 B4
    have SN : ∀ H', BN a H4 H' → SchemeAt C H' o tS rS b ns L := fun H' t => sch_n R3.B S3 H' ((BN.but t4).trans t)
    have MN : ModN a H4 m dl pl b ns ks := MN2.bn ((BN.same s3).trans (BN.but t4))
    refine ⟨r, 10, rfl, rfl, .ref o, .int (r - 10), rfl, ?_⟩
    have nb : -10 ≤ r - 10 ∧ r - 10 ≤ 10 := by omega
    generalize r - 10 = n at nb
    have b6 : b.natAbs ≤ 6 := by
      have := G.b
      unfold isBase at this
      simp only [Bool.or_eq_true, Bool.and_eq_true, decide_eq_true_eq] at this
      omega
    have b0 : b ≠ 0 := fun z => by
      have := G.b
      rw [z] at this
      revert this
      decide
    clear R1 R2 R3 MN2 S3 t4 B4 s3 PT hm nma
    dsimp only
    refine seq_cut2 (fun σ' H' => ∃ (tv : V) (Th : Addr) (o1 o2 o3 : Option (List V)), σ' = [some (.ref a), some (.int b), some (.ref dl), some (.ref pl), some (.ref m), some (.ref o), some (.int n), some tv, some (.ref Th), none, none, none, none, none] ∧ Rn a T H 400 H' ∧ BN a H4 H' ∧
      (tv = .non ∨ ∃ (R : Addr) (fs ms bs : List Int), tv = .ref R ∧ LT H' R fs ms bs ∧ fs.length ≤ 301 ∧ ms.length ≤ 301 ∧ bs.length ≤ 301) ∧ LV H' Th o1 o2 o3) ?_ (fun N hN => ?_)
    rotate_left
    · refine ⟨.ref o, rfl, .int n, rfl, o, tS, rS, n, b, ns, L, smallP ns, rfl, SN _ BN.refl, R4.T, Nat.le_trans G.six (by decide), b0, b6, small_mem.mpr ⟨nb, List.mem_cons_self⟩, small_bound G.six G.b G.dg, small_len G.six, fun H5 x5 T5 => ?_, fun R p1 p2 p3 fs ms bs H5 x5 T5 eR h1 h2 h3 => ?_⟩
      · have R5 := R4.ext x5 T5
        refine ⟨.non, rfl, rfl, _, rfl, iteTB rfl ⟨.ref a, rfl, .ref m, rfl, a, m, 300 + 1, b, ns, ks.map (·.2), rfl, R5.B, by decide, (MN.bn (BN.ext x5)).model, G.one, G.six, fun R fs ms bs H6 t6 B6 L6 l1 l2 l3 => ?_⟩⟩
        exact hN _ _ ⟨.non, R, _, _, _, rfl, (R5.but t6 B6).mono (by decide), (BN.ext x5).trans (BN.but t6), .inl rfl, L6.lv (by omega) (by omega) (by omega)⟩
      · have R5 := R4.ext x5 T5
        have LL : LT H5 R fs ms bs := ⟨p1, p2, p3, eR, h1.at_, h2.at_, h3.at_⟩
        have a1 := h1.len
        have a2 := h2.len
        have a3 := h3.len
        refine ⟨.ref R, rfl, rfl, _, rfl, iteFB rfl ⟨.ref R, rfl, ?_⟩⟩
        exact hN _ _ ⟨.ref R, R, _, _, _, rfl, R5.mono (by decide), BN.ext x5, .inr ⟨R, fs, ms, bs, rfl, LL, a1, a2, a3⟩, LL.lv (by omega) (by omega) (by omega)⟩
    rintro σ2 H5 ⟨tv, Th, o1, o2, o3, rfl, R5, t5, told, V5⟩
    clear R4
    refine ⟨9, rfl, by decide, by decide, ?_⟩
    refine for_range (lo := 0) (n := 9) (fun i σ H' => ∃ (v9 : Option V) (Th : Addr) (o1 o2 o3 : Option (List V)), σ = [some (.ref a), some (.int b), some (.ref dl), some (.ref pl), some (.ref m), some (.ref o), some (.int n), some tv, some (.ref Th), v9, none, none, none, none] ∧ Rn a T H (400 + 60 * i) H' ∧ BN a H4 H' ∧
      (tv = .non ∨ ∃ (R : Addr) (fs ms bs : List Int), tv = .ref R ∧ LT H' R fs ms bs ∧ fs.length ≤ 301 ∧ ms.length ≤ 301 ∧ bs.length ≤ 301) ∧ LV H' Th o1 o2 o3) ⟨none, Th, o1, o2, o3, rfl, R5.mono (by decide), t5, told, V5⟩ ?_ ?_
    · clear R5 t5 told V5
      rintro i σ H6 hi ⟨v9, Th, o1, o2, o3, rfl, R6, t6, told, V6⟩
      rw [Int.zero_add]
      refine ⟨.ref Th, rfl, .int n, rfl, .ref o, rfl, rfl, rfl, ?_⟩
      dsimp only [gVNS]
      refine isloop_of (ks := ks) (SN _ t6) b6 eL V6 fun H7 s7 => ?_
      refine ⟨_, rfl, .ref m, rfl, .int n, rfl, .ref Th, rfl, ?_⟩
      dsimp only [tNil]
      refine due_of (MN H7 (t6.trans (BN.same s7))) G (V6.same s7) fun H8 s8 => ⟨_, rfl, rfl, _, rfl, iteFB (neSame rfl) ?_⟩
      have s68 := s7.trans s8
      have R8 := R6.same s68
      have t8 := t6.trans (BN.same s68)
      have fin : ∀ (R : Addr) (fs ms bs : List Int) (k : Int) (H9 : Hp), Rn a T H k H9 → BN a H4 H9 → k ≤ 400 + 60 * i + 45 → LT H9 R fs ms bs → fs.length ≤ 301 → ms.length ≤ 301 → bs.length ≤ 301 →
          (tv = .non ∨ ∃ (R : Addr) (fs ms bs : List Int), tv = .ref R ∧ LT H9 R fs ms bs ∧ fs.length ≤ 301 ∧ ms.length ≤ 301 ∧ bs.length ≤ 301) →
          spSpoilt [.ref a, .ref m, .ref R] H9 (fun x H' => ∃ (v9 : Option V) (Th : Addr) (o1 o2 o3 : Option (List V)), [some (.ref a), some (.int b), some (.ref dl), some (.ref pl), some (.ref m), some (.ref o), some (.int n), some tv, some x, some (.int i), none, none, none, none] = [some (.ref a), some (.int b), some (.ref dl), some (.ref pl), some (.ref m), some (.ref o), some (.int n), some tv, some (.ref Th), v9, none, none, none, none] ∧ Rn a T H (400 + 60 * ((i + 1 : Nat) : Int)) H' ∧ BN a H4 H' ∧
            (tv = .non ∨ ∃ (R : Addr) (fs ms bs : List Int), tv = .ref R ∧ LT H' R fs ms bs ∧ fs.length ≤ 301 ∧ ms.length ≤ 301 ∧ bs.length ≤ 301) ∧ LV H' Th o1 o2 o3) E0 := fun R fs ms bs k H9 R9 t9 hk L9 l1 l2 l3 told => by
        refine ⟨a, m, R, k, b, ns, ks.map (·.2), fs, ms, bs, rfl, R9.B, by omega, (MN.bn t9).model, G.one, G.six, L9, l1, l2, l3, fun R' o1 o2 o3 H10 t10 B10 V10 => ?_⟩
        refine ⟨_, R', o1, o2, o3, rfl, (R9.but t10 B10).mono (by omega), t9.trans (BN.but t10), ?_, V10⟩
        rcases told with e | ⟨R2, f2, m2, b2, e, L2, x1, x2, x3⟩
        · exact .inl e
        · exact .inr ⟨R2, f2, m2, b2, e, L2.but R9.B t10, x1, x2, x3⟩
      have told8 : tv = .non ∨ ∃ (R : Addr) (fs ms bs : List Int), tv = .ref R ∧ LT H8 R fs ms bs ∧ fs.length ≤ 301 ∧ ms.length ≤ 301 ∧ bs.length ≤ 301 := by
        rcases told with e | ⟨R2, f2, m2, b2, e, L2, x⟩
        · exact .inl e
        · exact .inr ⟨R2, f2, m2, b2, e, L2.same s68, x⟩
      have drw : ∀ {Q2 : VK}, (∀ (R : Addr) (fs ms bs : List Int) (H9 : Hp), Rn a T H (400 + 60 * i + 40) H9 → BN a H4 H9 → LT H9 R fs ms bs → fs.length ≤ 301 → ms.length ≤ 301 → bs.length ≤ 301 → But a H8 H9 → Q2 (.ref R) H9) → spDrawn [.ref a, .ref m] H8 Q2 E0 := fun {Q2} go =>
        ⟨a, m, _, b, ns, ks.map (·.2), rfl, R8.B, by omega, (MN.bn t8).model, G.one, G.six, fun R fs ms bs H9 t9 B9 L9 l1 l2 l3 => go R fs ms bs H9 (R8.but t9 B9) (t8.trans (BN.but t9)) L9 (by omega) (by omega) (by omega) t9⟩
      rcases told8 with e | ⟨R2, f2, m2, b2, e, L2, x1, x2, x3⟩
      · subst e
        refine ⟨.ref a, rfl, .ref m, rfl, .non, rfl, rfl, _, rfl, iteFB rfl (iteF ⟨.ref a, rfl, .ref m, rfl, ?_⟩)⟩
        dsimp only [tNil]
        exact drw fun R fs ms bs H9 R9 t9 L9 l1 l2 l3 _ => fin R fs ms bs _ H9 R9 t9 (by omega) L9 l1 l2 l3 (.inl rfl)
      · subst e
        refine ⟨.ref a, rfl, .ref m, rfl, .ref R2, rfl, rfl, _, rfl, iteTB rfl ⟨.int i, rfl, _, _, rfl, rfl, _, rfl, ?_⟩⟩
        by_cases h6 : (i : Int) < 6
        · rw [decide_eq_true h6]
          refine iteT ⟨.ref R2, rfl, ?_⟩
          exact fin R2 f2 m2 b2 _ H8 R8 t8 (by omega) L2 x1 x2 x3 (.inr ⟨R2, f2, m2, b2, rfl, L2, x1, x2, x3⟩)
        · rw [decide_eq_false h6]
          refine iteF ⟨.ref a, rfl, .ref m, rfl, ?_⟩
          dsimp only [tNil]
          exact drw fun R fs ms bs H9 R9 t9 L9 l1 l2 l3 tb => fin R fs ms bs _ H9 R9 t9 (by omega) L9 l1 l2 l3 (.inr ⟨R2, f2, m2, b2, rfl, L2.but R8.B tb, x1, x2, x3⟩)
    clear R5 t5 told V5
    rintro σ3 H6 ⟨v9, Th, o1, o2, o3, rfl, R6, t6, _, V6⟩
    refine ⟨12, rfl, -12, 13, rfl, ⟨by decide, by decide, by decide, by decide⟩, ?_⟩
    refine for_range (lo := -12) (n := 25) (fun i σ H' => ∃ (v10 v11 : Option V), σ = [some (.ref a), some (.int b), some (.ref dl), some (.ref pl), some (.ref m), some (.ref o), some (.int n), some tv, some (.ref Th), v9, v10, v11, none, none] ∧ Same H6 H') ⟨none, none, rfl, Same.refl _⟩ ?_ ?_
    · rintro i σ H7 hi ⟨v10, v11, rfl, s7⟩
      have hd : -12 ≤ (-12 : Int) + i ∧ (-12 : Int) + i ≤ 12 := by omega
      generalize (-12 : Int) + i = d at hd
      refine ⟨.int d, rfl, (by show 1 ≤ sizeLine; decide), fun q1 hq1 => ?_⟩
      have s8 := same_new (o := .tup [.int d]) hq1
      have e8 : upd H7 q1 (.tup [.int d]) q1 = some (.tup (([d] : List Int).map V.int)) := upd_same
      generalize upd H7 q1 (.tup [.int d]) = H8 at s8 e8 ⊢
      refine ⟨.int d, rfl, .int b, rfl, .int d, rfl, b, d, rfl, rfl, .inr ⟨by omega, by omega⟩, d, b * d, rfl, rfl, (by show 1 ≤ sizeLine; decide), fun q2 hq2 => ?_⟩
      have s9 := same_new (o := .tup [.int (d - b * d)]) hq2
      have e9 : upd H8 q2 (.tup [.int (d - b * d)]) q2 = some (.tup (([d - b * d] : List Int).map V.int)) := upd_same
      generalize upd H8 q2 (.tup [.int (d - b * d)]) = H9 at s9 e9 ⊢
      refine ⟨(by show 0 ≤ sizeLine; decide), fun q3 hq3 => ?_⟩
      have s10 := same_new (o := .tup []) hq3
      have e10 : upd H9 q3 (.tup []) q3 = some (.tup (([] : List Int).map V.int)) := upd_same
      generalize upd H9 q3 (.tup []) = H10 at s10 e10 ⊢
      refine ⟨(by show 3 ≤ sizeLine; decide), fun Tr hTr => ?_⟩
      have s11 := same_new (o := .tup [.ref q1, .ref q2, .ref q3]) hTr
      have LR : LT (upd H10 Tr (.tup [.ref q1, .ref q2, .ref q3])) Tr [d] [d - b * d] [] := ⟨q1, q2, q3, upd_same, s11 _ _ (s10 _ _ (s9 _ _ e8)), s11 _ _ (s10 _ _ e9), s11 _ _ e10⟩
      have s711 := s7.trans (s8.trans (s9.trans (s10.trans s11)))
      generalize upd H10 Tr (.tup [.ref q1, .ref q2, .ref q3]) = H11 at LR s711 ⊢
      have VR := LR.lv (by show 1 ≤ 1000; decide) (by show 1 ≤ 1000; decide) (by decide)
      refine ⟨.ref o, rfl, .int d, rfl, .ref Tr, rfl, ?_⟩
      dsimp only [tNil]
      refine isloop_of (ks := ks) (SN _ (t6.trans (BN.same s711))) b6 eL VR fun H12 s12 => ?_
      refine ⟨_, rfl, .ref m, rfl, .int d, rfl, .ref Tr, rfl, ?_⟩
      dsimp only [tNil]
      refine due_of (MN H12 (t6.trans (BN.same (s711.trans s12)))) G (VR.same s12) fun H13 s13 => ⟨_, rfl, rfl, _, rfl, iteFB (neSame rfl) ?_⟩
      exact ⟨_, _, rfl, s711.trans (s12.trans s13)⟩
    rintro σ4 H7 ⟨v10, v11, rfl, s7⟩
    have R7 := R6.same s7
    have t7 := t6.trans (BN.same s7)
    have V7 := V6.same s7
    clear R6 t6 V6 s7
    obtain ⟨y1, y2, y3, eTh, _⟩ := V7.ex
    refine ⟨.ref Th, rfl, Th, _, rfl, .inr (SqT.of eTh), fun c1 hc1 => ?_⟩
    have s1 := same_new (o := .lst [y1, y2, y3]) hc1
    have g1 : upd H7 c1 (.lst [y1, y2, y3]) c1 = some (.lst [y1, y2, y3]) := upd_same
    generalize upd H7 c1 (.lst [y1, y2, y3]) = A1 at s1 g1 ⊢
    refine ⟨(by show 0 ≤ sizeLine; decide), fun c2 hc2 => ?_⟩
    have s2 := same_new (o := .lst []) hc2
    have g2 : upd A1 c2 (.lst []) c2 = some (.lst []) := upd_same
    generalize upd A1 c2 (.lst []) = A2 at s2 g2 ⊢
    refine ⟨(by show 0 ≤ sizeLine; decide), fun c3 hc3 => ?_⟩
    have s3 := same_new (o := .tup []) hc3
    have g3 : upd A2 c3 (.tup []) c3 = some (.tup []) := upd_same
    generalize upd A2 c3 (.tup []) = A3 at s3 g3 ⊢
    refine ⟨(by show 0 ≤ sizeLine; decide), fun d1 hd1 => ?_⟩
    have s4 := same_new (o := .tup []) hd1
    have g4 : upd A3 d1 (.tup []) d1 = some (.tup []) := upd_same
    generalize upd A3 d1 (.tup []) = A4 at s4 g4 ⊢
    refine ⟨(by show 0 ≤ sizeLine; decide), fun d2 hd2 => ?_⟩
    have s5 := same_new (o := .tup []) hd2
    have g5 : upd A4 d2 (.tup []) d2 = some (.tup []) := upd_same
    generalize upd A4 d2 (.tup []) = A5 at s5 g5 ⊢
    refine ⟨(by show 0 ≤ sizeLine; decide), fun d3 hd3 => ?_⟩
    have s6 := same_new (o := .tup []) hd3
    have g6 : upd A5 d3 (.tup []) d3 = some (.tup []) := upd_same
    generalize upd A5 d3 (.tup []) = A6 at s6 g6 ⊢
    refine ⟨(by show 3 ≤ sizeLine; decide), fun c4 hc4 => ?_⟩
    have s7 := same_new (o := .tup [.ref d1, .ref d2, .ref d3]) hc4
    have g7 : LT (upd A6 c4 (.tup [.ref d1, .ref d2, .ref d3])) c4 [] [] [] := ⟨d1, d2, d3, upd_same, s7 _ _ (s6 _ _ (s5 _ _ g4)), s7 _ _ (s6 _ _ g5), s7 _ _ g6⟩
    generalize upd A6 c4 (.tup [.ref d1, .ref d2, .ref d3]) = A7 at s7 g7 ⊢
    refine ⟨(by show 1 ≤ sizeLine; decide), fun e1 he1 => ?_⟩
    have s8 := same_new (o := .tup [.int 1]) he1
    generalize upd A7 e1 (.tup [.int 1]) = A8 at s8 ⊢
    refine ⟨(by show 1 ≤ sizeLine; decide), fun e2 he2 => ?_⟩
    have s9 := same_new (o := .tup [.int 1]) he2
    generalize upd A8 e2 (.tup [.int 1]) = A9 at s9 ⊢
    refine ⟨(by show 2 ≤ sizeLine; decide), fun c5 hc5 => ?_⟩
    have s10 := same_new (o := .tup [.ref e1, .ref e2]) hc5
    have g10 : upd A9 c5 (.tup [.ref e1, .ref e2]) c5 = some (.tup [.ref e1, .ref e2]) := upd_same
    generalize upd A9 c5 (.tup [.ref e1, .ref e2]) = A10 at s10 g10 ⊢
    refine ⟨(by show 1 ≤ sizeLine; decide), fun e3 he3 => ?_⟩
    have s11 := same_new (o := .tup [.int 1]) he3
    generalize upd A10 e3 (.tup [.int 1]) = A11 at s11 ⊢
    refine ⟨(by show 1 ≤ sizeLine; decide), fun e4 he4 => ?_⟩
    have s12 := same_new (o := .tup [.int 1]) he4
    generalize upd A11 e4 (.tup [.int 1]) = A12 at s12 ⊢
    refine ⟨(by show 1 ≤ sizeLine; decide), fun e5 he5 => ?_⟩
    have s13 := same_new (o := .tup [.int 1]) he5
    generalize upd A12 e5 (.tup [.int 1]) = A13 at s13 ⊢
    refine ⟨(by show 0 ≤ sizeLine; decide), fun e6 he6 => ?_⟩
    have s14 := same_new (o := .tup []) he6
    generalize upd A13 e6 (.tup []) = A14 at s14 ⊢
    refine ⟨(by show 4 ≤ sizeLine; decide), fun c6 hc6 => ?_⟩
    have s15 := same_new (o := .tup [.ref e3, .ref e4, .ref e5, .ref e6]) hc6
    have g15 : upd A14 c6 (.tup [.ref e3, .ref e4, .ref e5, .ref e6]) c6 = some (.tup [.ref e3, .ref e4, .ref e5, .ref e6]) := upd_same
    generalize upd A14 c6 (.tup [.ref e3, .ref e4, .ref e5, .ref e6]) = A15 at s15 g15 ⊢
    refine ⟨(by show 9 ≤ sizeLine; decide), fun Lo hLo => ?_⟩
    have s16 := same_new (o := .lst [.ref c1, .non, .ref c2, .ref c3, .ref c4, .ref c5, .str "abc", .int 3, .ref c6]) hLo
    have g16 : upd A15 Lo (.lst [.ref c1, .non, .ref c2, .ref c3, .ref c4, .ref c5, .str "abc", .int 3, .ref c6]) Lo = some (.lst [.ref c1, .non, .ref c2, .ref c3, .ref c4, .ref c5, .str "abc", .int 3, .ref c6]) := upd_same
    generalize upd A15 Lo (.lst [.ref c1, .non, .ref c2, .ref c3, .ref c4, .ref c5, .str "abc", .int 3, .ref c6]) = A16 at s16 g16 ⊢
    have z15 := s16
    have z10 := s11.trans (s12.trans (s13.trans (s14.trans (s15.trans z15))))
    have z7 := s8.trans (s9.trans (s10.trans z10))
    have z3 := s4.trans (s5.trans (s6.trans (s7.trans z7)))
    have z2 := s3.trans z3
    have z1 := s2.trans z2
    have z0 := s1.trans z1
    have odds : ∀ x ∈ [V.ref c1, .non, .ref c2, .ref c3, .ref c4, .ref c5, .str "abc", .int 3, .ref c6], OddL A16 x := fun x hx => by
      simp only [List.mem_cons, List.not_mem_nil, or_false] at hx
      rcases hx with rfl | rfl | rfl | rfl | rfl | rfl | rfl | rfl | rfl
      · exact .inl (.lst (z1 _ _ g1))
      · exact .inl (.no .non)
      · exact .inl (.lst (z2 _ _ g2))
      · exact .inr (.inl ⟨c3, [], rfl, z3 _ _ g3, by decide⟩)
      · exact .inr (.inr ⟨c4, rfl, g7.same z7⟩)
      · exact .inr (.inl ⟨c5, _, rfl, z10 _ _ g10, (by show 2 ≠ 3; decide)⟩)
      · exact .inl (.no (.str _))
      · exact .inl (.no (.int _))
      · exact .inr (.inl ⟨c6, _, rfl, z15 _ _ g15, (by show 4 ≠ 3; decide)⟩)
    have R8 := R7.same z0
    have t8 := t7.trans (BN.same z0)
    clear s1 g1 s2 g2 s3 g3 s4 g4 s5 g5 s6 g6 s7 g7 s8 s9 s10 g10 s11 s12 s13 s14 s15 g15 s16 z15 z10 z7 z3 z2 z1 z0 R7 t7 V7 eTh
    generalize [V.ref c1, .non, .ref c2, .ref c3, .ref c4, .ref c5, .str "abc", .int 3, .ref c6] = ods at g16 odds
    refine ⟨Lo, rfl, ⟨_, SqL.of g16⟩, ?_⟩
    refine for_list (K := K) (a := Lo) (xs := ods) (fun i σ H' => ∃ v12 : Option V, σ = [some (.ref a), some (.int b), some (.ref dl), some (.ref pl), some (.ref m), some (.ref o), some (.int n), some tv, some (.ref Th), v9, v10, v11, v12, none] ∧ Same A16 H') ⟨none, rfl, Same.refl _⟩ (fun i σ H' _ ⟨_, _, s⟩ => SqL.of (s _ _ g16)) ?_ ?_
    · rintro i x σ H8 hx ⟨v12, rfl, s8⟩
      refine ⟨.ref o, rfl, .int n, rfl, x, rfl, ?_⟩
      dsimp only [tNil]
      exact odd_of (SN _ (t8.trans (BN.same s8))) b6 ((odds x (List.mem_of_getElem? hx)).same s8) fun H9 s9 => ⟨false, false, rfl, rfl, _, rfl, iteF ⟨_, rfl, s8.trans s9⟩⟩
    rintro σ5 H8 ⟨v12, rfl, s8⟩
    have R9 := R8.same s8
    have t9 := t8.trans (BN.same s8)
    clear R8 t8 s8 g16 odds
    refine ⟨(by show 1 ≤ sizeLine; decide), fun w1 hw1 => ?_⟩
    have s1 := same_new (o := .lst [.int 1]) hw1
    have g1 : upd H8 w1 (.lst [.int 1]) w1 = some (.lst [.int 1]) := upd_same
    have n1 := R9.B.ne hw1
    have R10 := R9.same s1
    generalize upd H8 w1 (.lst [.int 1]) = A1 at s1 g1 R10 ⊢
    refine ⟨(by show 4 ≤ sizeLine; decide), fun w2 hw2 => ?_⟩
    have s2 := same_new (o := .lst [.non, .bl true, .str "1", .ref w1]) hw2
    have g2 : upd A1 w2 (.lst [.non, .bl true, .str "1", .ref w1]) w2 = some (.lst [.non, .bl true, .str "1", .ref w1]) := upd_same
    have n2 := R10.B.ne hw2
    have R11 := R10.same s2
    generalize upd A1 w2 (.lst [.non, .bl true, .str "1", .ref w1]) = A2 at s2 g2 R11 ⊢
    refine ⟨.ref a, rfl, a, 4, _, rfl, R11.B, by decide, by decide, by decide, fun r H9 r0 r1 t9b B9 => ?_⟩
    have R12 := R11.but t9b B9
    have t12 := (t9.trans (BN.same (s1.trans s2))).trans (BN.but t9b)
    have g1 := t9b _ _ n1 (s2 _ _ g1)
    obtain ⟨x, hx, mx⟩ := pick (xs := [V.non, .bl true, .str "1", .ref w1]) r0 r1
    refine ⟨w2, _, r, x, rfl, rfl, SqL.of (t9b _ _ n2 g2), hx, ?_⟩
    obtain ⟨d, W⟩ : ∃ d : PyData, Wrong K H9 x d := by
      simp only [List.mem_cons, List.not_mem_nil, or_false] at mx
      rcases mx with rfl | rfl | rfl | rfl
      · exact ⟨.none, .non, fun H' s => .non, by decide +kernel, by decide +kernel, by decide +kernel, by decide +kernel, by decide +kernel, by decide +kernel, by decide +kernel, by decide +kernel⟩
      · exact ⟨.bool true, .bl _, fun H' s => .bl true, by decide +kernel, by decide +kernel, by decide +kernel, by decide +kernel, by decide +kernel, by decide +kernel, by decide +kernel, by decide +kernel⟩
      · exact ⟨.str "1", .str _, fun H' s => .str _, by decide +kernel, by decide +kernel, by decide +kernel, by decide +kernel, by decide +kernel, by decide +kernel, by decide +kernel, by decide +kernel⟩
      · exact ⟨.list [.int 1], .lst g1, fun H' s => .lst (SqL.of (s _ _ g1)) (.cons (.int 1) .nil), by decide +kernel, by decide +kernel, by decide +kernel, by decide +kernel, by decide +kernel, by decide +kernel, by decide +kernel, by decide +kernel⟩
    refine ⟨x, rfl, x, rfl, ?_⟩
    dsimp only [tNil]
    refine ⟨x, x, rfl, .inl ⟨W.odd, fun l H10 s10 el => ?_⟩⟩
    refine ⟨.ref l, _, rfl, .lst (SqL.of el) (.cons (.str _) (.cons (W.dp H10 s10) (.cons (.bl true) .nil))), W.a1, W.a2, W.a3, W.a4, x, rfl, (by show 3 ≤ sizeLine; decide), fun l2 hl2 => ?_⟩
    have q1 := same_new (o := .lst [.str "scheme", x, .bl true]) hl2
    refine ⟨.ref l2, _, rfl, .lst (SqL.of upd_same) (.cons (.str _) (.cons (W.dp _ (s10.trans q1)) (.cons (.bl true) .nil))), W.a1, W.a2, W.a3, W.a4, rfl, _, rfl, iteFB (neSame rfl) ?_⟩
    have s11 := s10.trans q1
    generalize upd H10 l2 (.lst [.str "scheme", x, .bl true]) = H11 at s11 ⊢
    have t11 := t12.trans (BN.same s11)
    have R13 := R12.same s11
    refine ⟨.ref o, rfl, x, rfl, ?_⟩
    dsimp only [tNil]
    refine ⟨.ref o, x, rfl, .inr ⟨o, tS, rS, b, ns, L, rfl, SN _ t11, b6, W.odd.same s11, fun l3 H12 s12 el3 => ?_⟩⟩
    refine ⟨.ref l3, _, rfl, .lst (SqL.of el3) (.cons (.str _) (.cons (W.dp H12 (s11.trans s12)) .nil)), W.b1, W.b2, W.b3, W.b4, x, rfl, (by show 2 ≤ sizeLine; decide), fun l4 hl4 => ?_⟩
    have q2 := same_new (o := .lst [.str "number", x]) hl4
    refine ⟨.ref l4, _, rfl, .lst (SqL.of upd_same) (.cons (.str _) (.cons (W.dp _ (s11.trans (s12.trans q2))) .nil)), W.b1, W.b2, W.b3, W.b4, rfl, ?_⟩
    rw [decide_eq_true rfl]
    have R14 := R13.same (s12.trans q2)
    exact q _ R14.t R14.T
end
end K19
namespace K19
open PySem PySem.Spec PyProof.Rows L2 OF LamX NdefX
abbrev sFig : Stmt := inClass (topS 2) 0
abbrev sInBase : Stmt := inClass (topS 3) 0
abbrev sInDig : Stmt := inClass (topS 4) 0
abbrev sInBars : Stmt := inClass (topS 5) 0
abbrev sInNum : Stmt := inClass (topS 8) 0
abbrev sInR : Stmt := inClass (topS 6) 0
abbrev sNotS : Stmt := inClass (topS 10) 0
section
variable {P : Program} {w : World} {K : PySem.W.Frag} {mg : Str → Option Value} {base : Heap}

/-- no built-in kind is below an own class -/
theorem notK_of {C : Addr} (ty : PySem.W.typeIn K (.ref C) = some (.type "type")) (ic : PySem.W.isClsIn K C = true) : NotK K C := by
  have ic2 : (PySem.W.clsIn K C).isSome = true := ic
  have one : ∀ (T : String) (l : List Value), fastBuiltinMro T = some l → l.contains (.ref C) = false → PySem.W.kitOne K (.type T) (.ref C) = some false := fun T l h hl => by
    unfold PySem.W.kitOne
    split
    · rename_i e
      have e2 : Value.type T = Value.ref C := eq_of_beq e
      cases e2
    · unfold PySem.W.kitCls
      simp only [ty, ic2, beq_self_eq_true, Bool.and_self, if_true]
      show (fastBuiltinMro T).map (·.contains (Value.ref C)) = some false
      rw [h, Option.map_some, hl]
  exact ⟨one "NoneType" _ rfl rfl, one "bool" _ rfl rfl, one "str" _ rfl rfl, one "list" _ rfl rfl, one "tuple" _ rfl rfl, one "dict" _ rfl rfl⟩
theorem exm_off {S D : Addr} (h1 : PySem.W.subIn K (.ref D) (.type "BaseException") = some true) (h2 : PySem.W.isClsIn K D = true) (h3 : PySem.W.typeIn K (.ref D) = some (.type "type")) (h4 : PySem.W.subIn K (.ref S) (.ref D) = some false) (h5 : PySem.W.subIn K (.ref S) (.ref S) = some true) : PySem.W.exmOne K (.ref S) (.ref D) = some false :=
  exm_other h1 h2 h3 h4 fun e => by
    subst e
    rw [h4] at h5
    cases h5
theorem scFig : FnScope ["self", "text"] ["self", "text"] (defScope sFig) := ⟨rfl, rfl, rfl, by decide +kernel, rfl, by decide +kernel, by decide +kernel⟩
theorem ok_fig {f : Addr} {fd : FuncData} (F : Fun K "__init__" "FigureError.__init__" sFig f fd) (mV : mg "ValueError" = none) (vV : PySem.W.findCls K (.type "ValueError") (.type "type") "__init__" = some (.val (.builtin "ValueError.__init__"))) :
    FnOk P w K mg base CX0 1 f fd ["self", "text"] (spFig K) := by
  refine F.ok scFig (fun vs H Q E h => ?_) (fun cdv A outer s H vs Q E hr h => ?_)
  · obtain ⟨a, C, v, nm, rfl, _⟩ := h
    rfl
  · obtain ⟨a, C, v, nm, rfl, T, N, ha, q⟩ := h
    refine ⟨_, pss_cons (ps_expr (pe_veinit (by rfl) mV vV (pa_cons (pv 0) (pa_cons (pv 1) pa_nil)))) (pss_one (ps_ost (pv 0) (pe_cname (pv 0)))), ?_⟩
    exact ⟨.ref a, rfl, v, rfl, a, C, [v], rfl, (by show 1 ≤ 1000; decide), T, ha, .ref a, rfl, a, C, nm, rfl, ha, N, .ref a, rfl, a, C, rfl, T, N.no, .inl ⟨ha, fun d hd nd => q d hd nd⟩⟩
theorem sc_InvalidBase : FnScope ["self", "value"] ["self", "value"] (defScope sInBase) := ⟨rfl, rfl, rfl, by decide +kernel, rfl, by decide +kernel, by decide +kernel⟩
theorem ok_InvalidBase {f f0 C C0 : Addr} {fd fd0 : FuncData} (F : Fun K "__init__" "InvalidBase.__init__" sInBase f fd) (F0 : Fun K "__init__" "FigureError.__init__" sFig f0 fd0) (T0 : FigC K mg C0 f0) (b0 : Binds K fd0 ["self", "text"] []) (T : ErrC K mg "InvalidBase" "value" C f)
    (mV : mg "ValueError" = none) (vV : PySem.W.findCls K (.type "ValueError") (.type "type") "__init__" = some (.val (.builtin "ValueError.__init__"))) :
    FnOk P w K mg base CX0 2 f fd ["self", "value"] (spInit K "value" C) := by
  have G0 : FnOk P w K mg base CX0 1 f0 fd0 ["self", "text"] (spFig K) := ok_fig F0 mV vV
  refine F.ok sc_InvalidBase (fun vs H Q E h => ?_) (fun cdv A outer s H vs Q E hr h => ?_)
  · obtain ⟨a, v, rfl, _⟩ := h
    rfl
  · obtain ⟨a, v, rfl, ha, q⟩ := h
    refine ⟨_, pss_cons (ps_expr (pe_unb G0 hr (by rfl) T0.g T0.rd T0.val T0.kp b0 pass0 (pa_cons (pv 0) (pa_cons pe_str pa_nil)))) (pss_one (ps_ost (pv 0) (pv 1))), ?_⟩
    obtain ⟨nm, N⟩ := T.nam
    refine ⟨.ref a, rfl, a, C, _, nm, rfl, T.ox, N, ha, fun d hd nd => ?_⟩
    refine ⟨v, rfl, .ref a, rfl, a, C, rfl, T.ox, T.no, .inr ⟨d, _, upd_same, by rw [upd_ne nd]; exact upd_same, (by show 1 ≤ 900; decide), ?_⟩⟩
    rw [upd_swap nd]
    exact q _ d hd nd

theorem sc_InvalidDigits : FnScope ["self", "value"] ["self", "value"] (defScope sInDig) := ⟨rfl, rfl, rfl, by decide +kernel, rfl, by decide +kernel, by decide +kernel⟩
theorem ok_InvalidDigits {f f0 C C0 : Addr} {fd fd0 : FuncData} (F : Fun K "__init__" "InvalidDigits.__init__" sInDig f fd) (F0 : Fun K "__init__" "FigureError.__init__" sFig f0 fd0) (T0 : FigC K mg C0 f0) (b0 : Binds K fd0 ["self", "text"] []) (T : ErrC K mg "InvalidDigits" "value" C f)
    (mV : mg "ValueError" = none) (vV : PySem.W.findCls K (.type "ValueError") (.type "type") "__init__" = some (.val (.builtin "ValueError.__init__"))) :
    FnOk P w K mg base CX0 2 f fd ["self", "value"] (spInit K "value" C) := by
  have G0 : FnOk P w K mg base CX0 1 f0 fd0 ["self", "text"] (spFig K) := ok_fig F0 mV vV
  refine F.ok sc_InvalidDigits (fun vs H Q E h => ?_) (fun cdv A outer s H vs Q E hr h => ?_)
  · obtain ⟨a, v, rfl, _⟩ := h
    rfl
  · obtain ⟨a, v, rfl, ha, q⟩ := h
    refine ⟨_, pss_cons (ps_expr (pe_unb G0 hr (by rfl) T0.g T0.rd T0.val T0.kp b0 pass0 (pa_cons (pv 0) (pa_cons pe_str pa_nil)))) (pss_one (ps_ost (pv 0) (pv 1))), ?_⟩
    obtain ⟨nm, N⟩ := T.nam
    refine ⟨.ref a, rfl, a, C, _, nm, rfl, T.ox, N, ha, fun d hd nd => ?_⟩
    refine ⟨v, rfl, .ref a, rfl, a, C, rfl, T.ox, T.no, .inr ⟨d, _, upd_same, by rw [upd_ne nd]; exact upd_same, (by show 1 ≤ 900; decide), ?_⟩⟩
    rw [upd_swap nd]
    exact q _ d hd nd

theorem sc_InvalidBars : FnScope ["self", "value"] ["self", "value"] (defScope sInBars) := ⟨rfl, rfl, rfl, by decide +kernel, rfl, by decide +kernel, by decide +kernel⟩
theorem ok_InvalidBars {f f0 C C0 : Addr} {fd fd0 : FuncData} (F : Fun K "__init__" "InvalidBars.__init__" sInBars f fd) (F0 : Fun K "__init__" "FigureError.__init__" sFig f0 fd0) (T0 : FigC K mg C0 f0) (b0 : Binds K fd0 ["self", "text"] []) (T : ErrC K mg "InvalidBars" "value" C f)
    (mV : mg "ValueError" = none) (vV : PySem.W.findCls K (.type "ValueError") (.type "type") "__init__" = some (.val (.builtin "ValueError.__init__"))) :
    FnOk P w K mg base CX0 2 f fd ["self", "value"] (spInit K "value" C) := by
  have G0 : FnOk P w K mg base CX0 1 f0 fd0 ["self", "text"] (spFig K) := ok_fig F0 mV vV
  refine F.ok sc_InvalidBars (fun vs H Q E h => ?_) (fun cdv A outer s H vs Q E hr h => ?_)
  · obtain ⟨a, v, rfl, _⟩ := h
    rfl
  · obtain ⟨a, v, rfl, ha, q⟩ := h
    refine ⟨_, pss_cons (ps_expr (pe_unb G0 hr (by rfl) T0.g T0.rd T0.val T0.kp b0 pass0 (pa_cons (pv 0) (pa_cons pe_str pa_nil)))) (pss_one (ps_ost (pv 0) (pv 1))), ?_⟩
    obtain ⟨nm, N⟩ := T.nam
    refine ⟨.ref a, rfl, a, C, _, nm, rfl, T.ox, N, ha, fun d hd nd => ?_⟩
    refine ⟨v, rfl, .ref a, rfl, a, C, rfl, T.ox, T.no, .inr ⟨d, _, upd_same, by rw [upd_ne nd]; exact upd_same, (by show 1 ≤ 900; decide), ?_⟩⟩
    rw [upd_swap nd]
    exact q _ d hd nd

theorem sc_NotScheme : FnScope ["self", "value"] ["self", "value"] (defScope sNotS) := ⟨rfl, rfl, rfl, by decide +kernel, rfl, by decide +kernel, by decide +kernel⟩
theorem ok_NotScheme {f f0 C C0 : Addr} {fd fd0 : FuncData} (F : Fun K "__init__" "NotScheme.__init__" sNotS f fd) (F0 : Fun K "__init__" "FigureError.__init__" sFig f0 fd0) (T0 : FigC K mg C0 f0) (b0 : Binds K fd0 ["self", "text"] []) (T : ErrC K mg "NotScheme" "value" C f)
    (mV : mg "ValueError" = none) (vV : PySem.W.findCls K (.type "ValueError") (.type "type") "__init__" = some (.val (.builtin "ValueError.__init__"))) :
    FnOk P w K mg base CX0 2 f fd ["self", "value"] (spInit K "value" C) := by
  have G0 : FnOk P w K mg base CX0 1 f0 fd0 ["self", "text"] (spFig K) := ok_fig F0 mV vV
  refine F.ok sc_NotScheme (fun vs H Q E h => ?_) (fun cdv A outer s H vs Q E hr h => ?_)
  · obtain ⟨a, v, rfl, _⟩ := h
    rfl
  · obtain ⟨a, v, rfl, ha, q⟩ := h
    refine ⟨_, pss_cons (ps_expr (pe_unb G0 hr (by rfl) T0.g T0.rd T0.val T0.kp b0 pass0 (pa_cons (pv 0) (pa_cons pe_str pa_nil)))) (pss_one (ps_ost (pv 0) (pv 1))), ?_⟩
    obtain ⟨nm, N⟩ := T.nam
    refine ⟨.ref a, rfl, a, C, _, nm, rfl, T.ox, N, ha, fun d hd nd => ?_⟩
    refine ⟨v, rfl, .ref a, rfl, a, C, rfl, T.ox, T.no, .inr ⟨d, _, upd_same, by rw [upd_ne nd]; exact upd_same, (by show 1 ≤ 900; decide), ?_⟩⟩
    rw [upd_swap nd]
    exact q _ d hd nd

theorem sc_InvalidNumber : FnScope ["self", "number"] ["self", "number"] (defScope sInNum) := ⟨rfl, rfl, rfl, by decide +kernel, rfl, by decide +kernel, by decide +kernel⟩
theorem ok_InvalidNumber {f f0 C C0 : Addr} {fd fd0 : FuncData} (F : Fun K "__init__" "InvalidNumber.__init__" sInNum f fd) (F0 : Fun K "__init__" "FigureError.__init__" sFig f0 fd0) (T0 : FigC K mg C0 f0) (b0 : Binds K fd0 ["self", "text"] []) (T : ErrC K mg "InvalidNumber" "number" C f)
    (mV : mg "ValueError" = none) (vV : PySem.W.findCls K (.type "ValueError") (.type "type") "__init__" = some (.val (.builtin "ValueError.__init__"))) :
    FnOk P w K mg base CX0 2 f fd ["self", "number"] (spInit K "number" C) := by
  have G0 : FnOk P w K mg base CX0 1 f0 fd0 ["self", "text"] (spFig K) := ok_fig F0 mV vV
  refine F.ok sc_InvalidNumber (fun vs H Q E h => ?_) (fun cdv A outer s H vs Q E hr h => ?_)
  · obtain ⟨a, v, rfl, _⟩ := h
    rfl
  · obtain ⟨a, v, rfl, ha, q⟩ := h
    refine ⟨_, pss_cons (ps_expr (pe_unb G0 hr (by rfl) T0.g T0.rd T0.val T0.kp b0 pass0 (pa_cons (pv 0) (pa_cons pe_str pa_nil)))) (pss_one (ps_ost (pv 0) (pv 1))), ?_⟩
    obtain ⟨nm, N⟩ := T.nam
    refine ⟨.ref a, rfl, a, C, _, nm, rfl, T.ox, N, ha, fun d hd nd => ?_⟩
    refine ⟨v, rfl, .ref a, rfl, a, C, rfl, T.ox, T.no, .inr ⟨d, _, upd_same, by rw [upd_ne nd]; exact upd_same, (by show 1 ≤ 900; decide), ?_⟩⟩
    rw [upd_swap nd]
    exact q _ d hd nd

theorem sc_InvalidRow : FnScope ["self", "row"] ["self", "row"] (defScope sInR) := ⟨rfl, rfl, rfl, by decide +kernel, rfl, by decide +kernel, by decide +kernel⟩
theorem ok_InvalidRow {f f0 C C0 : Addr} {fd fd0 : FuncData} (F : Fun K "__init__" "InvalidRow.__init__" sInR f fd) (F0 : Fun K "__init__" "FigureError.__init__" sFig f0 fd0) (T0 : FigC K mg C0 f0) (b0 : Binds K fd0 ["self", "text"] []) (T : ErrC K mg "InvalidRow" "row" C f)
    (mV : mg "ValueError" = none) (vV : PySem.W.findCls K (.type "ValueError") (.type "type") "__init__" = some (.val (.builtin "ValueError.__init__"))) :
    FnOk P w K mg base CX0 2 f fd ["self", "row"] (spInit K "row" C) := by
  have G0 : FnOk P w K mg base CX0 1 f0 fd0 ["self", "text"] (spFig K) := ok_fig F0 mV vV
  refine F.ok sc_InvalidRow (fun vs H Q E h => ?_) (fun cdv A outer s H vs Q E hr h => ?_)
  · obtain ⟨a, v, rfl, _⟩ := h
    rfl
  · obtain ⟨a, v, rfl, ha, q⟩ := h
    refine ⟨_, pss_cons (ps_expr (pe_unb G0 hr (by rfl) T0.g T0.rd T0.val T0.kp b0 pass0 (pa_cons (pv 0) (pa_cons pe_str pa_nil)))) (pss_one (ps_ost (pv 0) (pv 1))), ?_⟩
    obtain ⟨nm, N⟩ := T.nam
    refine ⟨.ref a, rfl, a, C, _, nm, rfl, T.ox, N, ha, fun d hd nd => ?_⟩
    refine ⟨v, rfl, .ref a, rfl, a, C, rfl, T.ox, T.no, .inr ⟨d, _, upd_same, by rw [upd_ne nd]; exact upd_same, (by show 1 ≤ 900; decide), ?_⟩⟩
    rw [upd_swap nd]
    exact q _ d hd nd


/-- a list that the box and the tables leave -/
theorem seq_pastN {K : PySem.W.Frag} {H H1 H2 : Hp} {a p : Addr} {xs : List V} (hp : H p = none) (s : Same H H1) (b : BN p H1 H2) (h : SqL K H a xs) : SqL K H2 a xs := by
  rcases h with (h | ⟨o, h⟩) | h
  · exact .inl (.inl (b _ _ (ne_of_none h hp) (s _ _ h) (fun ps z => by cases z)))
  · exact .inl (.inr ⟨o, b _ _ (ne_of_none h hp) (s _ _ h) (fun ps z => by cases z)⟩)
  · exact .inr h
def spLaw (K : PySem.W.Frag) (T : List (Addr × Str)) : Sp := fun vs H Q _ => ∃ (a : Addr) (ns : List Int), vs = [.ref a] ∧ SqL K H a (ns.map V.int) ∧ ns.length ≤ 63 ∧ Tabs T H ∧ ∀ H', Q (.bl true) H'
theorem scL : FnScope ["_law_script", "_law_k"] ["_law_script"] (defScope sLaw) := ⟨rfl, rfl, rfl, by decide +kernel, rfl, by decide +kernel, by decide +kernel⟩
theorem ok_law {f fC fX fR : Addr} {fd fdC fdX fdR : FuncData} {T : List (Addr × Str)} (F : Fun K "law" "law" sLaw f fd)
    (FC : Fun K "_law_cell" "_law_cell" sCell fC fdC) (gC : mg "_law_cell" = some (.ref fC)) (bC : Binds K fdC ["_law_script", "_law_k"] [])
    (FX : Fun K "_law_box" "_law_box" sBox fX fdX) (gX : mg "_law_box" = some (.ref fX)) (bX : Binds K fdX ["_law_cell_here"] [])
    (GR : FnG P w K mg base 12 fR fdR ["_law_box_here"] (spRight T)) (gR : mg "_law_right" = some (.ref fR)) (kR : PySem.W.keepIn K (.ref fR) = true) (bR : Binds K fdR ["_law_box_here"] [])
    (mi : mg "int" = none) (ml : mg "len" = none) (mr : mg "range" = none) (mx : mg "max" = none) (mn : mg "min" = none) : FnG P w K mg base 13 f fd ["_law_script"] (spLaw K T) := by
  have GC : FnOk P w K mg base CX0 1 fC fdC ["_law_script", "_law_k"] (OF.spCell K) := ok_cell FC ml
  have GX : FnOk P w K mg base CX0 1 fX fdX ["_law_cell_here"] spBox := ok_box FX mi mx
  refine okG F scL (fun vs H Q E h => ?_) (fun cdv A outer s H vs Q E gu hr h => ?_)
  · obtain ⟨a, ns, rfl, _⟩ := h
    rfl
  · obtain ⟨a, ns, rfl, hS, hlen, hT, q⟩ := h
    have hr1 : Room 1 _ := hr.mono (by decide)
    apply Exists.intro
    apply And.intro
    · apply pss_cons
      · exact ps_for PassesOwn.never rfl (pi_range1 rfl mr (pa_cons (pe_callB (call_max2 rfl) (by rfl) mx PyProof.Rows.boot_max (pa_cons pe_int (pa_cons
            (pe_callB (call_min2 rfl) (by rfl) mn PyProof.Rows.boot_min (pa_cons pe_int (pa_cons (pe_callB call_len_seq (by rfl) ml PySem.boot_len (pa_cons (pv 0) pa_nil)) pa_nil))) pa_nil))) pa_nil))
          (pg_name (i := 1) scL.nd rfl (.inl rfl))
          (pss_one (ps_if (pt_not (pt_val (pe_callG GR gu hr (by rfl) gR kR bR pass0 (pa_cons (pe_call GX hr1 (by rfl) gX FX.kp bX .nil pass0 (pa_cons (pe_call GC hr1 (by rfl) gC FC.kp bC .nil pass0 (pa_cons (pv 0) (pa_cons (pv 1) pa_nil))) pa_nil)) pa_nil))))
            (pss_one (ps_ret pe_bl)) pss_nil))
      apply pss_one
      · exact ps_ret pe_bl
    refine ⟨.ref a, rfl, a, _, rfl, .inl hS, _, _, rfl, _, _, rfl, _, rfl, ?_, ?_, for_range (lo := 0) (n := _) (fun i σ H' => ∃ v, σ = [some (.ref a), v] ∧ SqL K H' a (ns.map V.int) ∧ Tabs T H') ⟨none, rfl, hS, hT⟩ ?_ ?_⟩
    · rw [List.length_map]
      split <;> split <;> omega
    · rw [List.length_map]
      split <;> split <;> omega
    · rintro i σ H' hi ⟨v, rfl, hS', hT'⟩
      have hi' : i < 1000 := by
        rw [List.length_map] at hi
        split at hi <;> split at hi <;> omega
      refine ⟨.ref a, rfl, .int (0 + i), rfl, a, ns, i, ?_, hS', hi', fun c => ?_⟩
      · rw [Int.zero_add]
        rfl
      refine ⟨c, rfl, fun p H1 hp s1 B1 => ?_⟩
      refine ⟨p, rfl, B1, hT'.ext s1, fun H2 t2 T2 => ⟨true, rfl, iteF ?_⟩⟩
      exact ⟨some (.int (0 + i)), rfl, seq_pastN hp s1 t2 hS', T2⟩
    · rintro σ H' ⟨v, rfl, hS', hT'⟩
      exact q H'
end
end K19
namespace K19
open PySem PySem.Spec PyProof.Rows L2 OF LamX NdefX
set_option maxHeartbeats 4000000 in
theorem all_mk {l : PySem.W.OpenLaw} {w : World} {K : PySem.W.Frag} {h : Heap} {mg : Str → Option Value} {fa f1 f2 f3 f4 f5 f6 f7 f8 f9 f10 f11 f12 f13 f14 f15 f16 f17 f18 f19 f20 f21 f22 f23 f24 f25 f26 f27 f28 f29 f30 f31 f32 f33 f34 f35 f36 f37 f38 f39 f40 f41 f42 f43 f44 f45 f46 f47 f48 f49 CF fF CS h1 h2 h3 C1 fI1 C2 fI2 C3 fI3 C4 fI4 C5 fI5 C6 fI6 : Addr}
    {od1 an1 od2 an2 od3 an3 od4 an4 od5 an5 od6 an6 od7 an7 od8 an8 od9 an9 od10 an10 od11 an11 od12 an12 od13 an13 od14 an14 od15 an15 od16 an16 od17 an17 od18 an18 od19 an19 od20 an20 od21 an21 od22 an22 od23 an23 od24 an24 od25 an25 od26 an26 od27 an27 od28 an28 od29 an29 od30 an30 od31 an31 od32 an32 od33 an33 od34 an34 od35 an35 od36 an36 od37 an37 od38 an38 od39 an39 od40 an40 od41 an41 od42 an42 od43 an43 od44 an44 od45 an45 od46 an46 od47 an47 od48 an48 od49 an49 odF anF odM1 anM1 odM2 anM2 odM3 anM3 odI1 anI1 odI2 anI2 odI3 anI3 odI4 anI4 odI5 anI5 odI6 anI6 : Option Addr}
    {sl1 sl2 sl3 sl4 sl5 sl6 sl7 sl8 sl9 sl10 sl11 sl12 sl13 sl14 sl15 sl16 sl17 sl18 sl19 sl20 sl21 sl22 sl23 sl24 sl25 sl26 sl27 sl28 sl29 sl30 sl31 sl32 sl33 sl34 sl35 sl36 sl37 sl38 sl39 sl40 sl41 sl42 sl43 sl44 sl45 sl46 sl47 sl48 sl49 slF slM1 slM2 slM3 slI1 slI2 slI3 slI4 slI5 slI6 : Array (Option Value)}
    {oc1 kV1 dc1 pm1 cd1 ct1 oc2 kV2 dc2 pm2 cd2 ct2 oc3 kV3 dc3 pm3 cd3 ct3 oc4 kV4 dc4 pm4 cd4 ct4 oc5 kV5 dc5 pm5 cd5 ct5 oc6 kV6 dc6 pm6 cd6 ct6 oc7 kV7 dc7 pm7 cd7 ct7 oc8 kV8 dc8 pm8 cd8 ct8 oc9 kV9 dc9 pm9 cd9 ct9 oc10 kV10 dc10 pm10 cd10 ct10 oc11 kV11 dc11 pm11 cd11 ct11 oc12 kV12 dc12 pm12 cd12 ct12 oc13 kV13 dc13 pm13 cd13 ct13 oc14 kV14 dc14 pm14 cd14 ct14 oc15 kV15 dc15 pm15 cd15 ct15 oc16 kV16 dc16 pm16 cd16 ct16 oc17 kV17 dc17 pm17 cd17 ct17 oc18 kV18 dc18 pm18 cd18 ct18 oc19 kV19 dc19 pm19 cd19 ct19 oc20 kV20 dc20 pm20 cd20 ct20 oc21 kV21 dc21 pm21 cd21 ct21 oc22 kV22 dc22 pm22 cd22 ct22 oc23 kV23 dc23 pm23 cd23 ct23 oc24 kV24 dc24 pm24 cd24 ct24 oc25 kV25 dc25 pm25 cd25 ct25 oc26 kV26 dc26 pm26 cd26 ct26 oc27 kV27 dc27 pm27 cd27 ct27 oc28 kV28 dc28 pm28 cd28 ct28 oc29 kV29 dc29 pm29 cd29 ct29 oc30 kV30 dc30 pm30 cd30 ct30 oc31 kV31 dc31 pm31 cd31 ct31 oc32 kV32 dc32 pm32 cd32 ct32 oc33 kV33 dc33 pm33 cd33 ct33 oc34 kV34 dc34 pm34 cd34 ct34 oc35 kV35 dc35 pm35 cd35 ct35 oc36 kV36 dc36 pm36 cd36 ct36 oc37 kV37 dc37 pm37 cd37 ct37 oc38 kV38 dc38 pm38 cd38 ct38 oc39 kV39 dc39 pm39 cd39 ct39 oc40 kV40 dc40 pm40 cd40 ct40 oc41 kV41 dc41 pm41 cd41 ct41 oc42 kV42 dc42 pm42 cd42 ct42 oc43 kV43 dc43 pm43 cd43 ct43 oc44 kV44 dc44 pm44 cd44 ct44 oc45 kV45 dc45 pm45 cd45 ct45 oc46 kV46 dc46 pm46 cd46 ct46 oc47 kV47 dc47 pm47 cd47 ct47 oc48 kV48 dc48 pm48 cd48 ct48 oc49 kV49 dc49 pm49 cd49 ct49 ocF kVF dcF pmF cdF ctF ocM1 kVM1 dcM1 pmM1 cdM1 ctM1 ocM2 kVM2 dcM2 pmM2 cdM2 ctM2 ocM3 kVM3 dcM3 pmM3 cdM3 ctM3 ocI1 kVI1 dcI1 pmI1 cdI1 ctI1 ocI2 kVI2 dcI2 pmI2 cdI2 ctI2 ocI3 kVI3 dcI3 pmI3 cdI3 ctI3 ocI4 kVI4 dcI4 pmI4 cdI4 ctI4 ocI5 kVI5 dcI5 pmI5 cdI5 ctI5 ocI6 kVI6 dcI6 pmI6 cdI6 ctI6 : Value}
    {t6 t9 tb : Tok}
    {hN pB pD TD DK c0 cL PT PL gB gD  : Addr}
    {odPB anPB odPD anPD odIn anIn odT : Option Addr}
    {slPB slPD slIn slT : Array (Option Value)}
    {ocPB kVPB dcPB pmPB cdPB ctPB ocPD kVPD dcPD pmPD cdPD ctPD ocIn dcIn pmIn cdIn ctIn : Value}
    {restB restD : List Value}
    {nT : Nat}
    {nm1 q1 : Str} {N1 : Addr} {bs1 : List Value} {sn1 : List Str} {sub1 : List Value} {ab1 : Bool} {col1 : Option Bool} {dd1 : Option Addr} {m01 m11 m31 m51 : Option Value} {cn1 : Str} {tkE1 : Tok}
    {nm2 q2 : Str} {N2 : Addr} {bs2 : List Value} {sn2 : List Str} {sub2 : List Value} {ab2 : Bool} {col2 : Option Bool} {dd2 : Option Addr} {m02 m12 m32 m52 : Option Value} {cn2 : Str} {tkE2 : Tok}
    {nm3 q3 : Str} {N3 : Addr} {bs3 : List Value} {sn3 : List Str} {sub3 : List Value} {ab3 : Bool} {col3 : Option Bool} {dd3 : Option Addr} {m03 m13 m33 m53 : Option Value} {cn3 : Str} {tkE3 : Tok}
    {nm4 q4 : Str} {N4 : Addr} {bs4 : List Value} {sn4 : List Str} {sub4 : List Value} {ab4 : Bool} {col4 : Option Bool} {dd4 : Option Addr} {m04 m14 m34 m54 : Option Value} {cn4 : Str} {tkE4 : Tok}
    {nm5 q5 : Str} {N5 : Addr} {bs5 : List Value} {sn5 : List Str} {sub5 : List Value} {ab5 : Bool} {col5 : Option Bool} {dd5 : Option Addr} {m05 m15 m35 m55 : Option Value} {cn5 : Str} {tkE5 : Tok}
    {nm6 q6 : Str} {N6 : Addr} {bs6 : List Value} {sn6 : List Str} {sub6 : List Value} {ab6 : Bool} {col6 : Option Bool} {dd6 : Option Addr} {m06 m16 m36 m56 : Option Value} {cn6 : Str} {tkE6 : Tok}
    (X : K.In h) (G : h.Ns mainGlobals mg) (hfa : mg "law" = some (.ref fa))
    (a1 : PySem.W.nsIn K mainGlobals "is_whole" = some (some (.ref f1)))
    (l1 : K.lookup f1 = some ⟨oc1, od1, .func (PySem.W.fnOf "is_whole" "is_whole" (defArgs sWhole) (defBody sWhole) (defScope sWhole) .none kV1 dc1 pm1 an1 cd1 ct1), sl1⟩)
    (c1 : PySem.W.codeIn K cd1 "is_whole" = true)
    (k1 : PySem.W.keepIn K (.ref f1) = true)
    (a2 : PySem.W.nsIn K mainGlobals "is_integer" = some (some (.ref f2)))
    (l2 : K.lookup f2 = some ⟨oc2, od2, .func (PySem.W.fnOf "is_integer" "is_integer" (defArgs sIsInt) (defBody sIsInt) (defScope sIsInt) .none kV2 dc2 pm2 an2 cd2 ct2), sl2⟩)
    (c2 : PySem.W.codeIn K cd2 "is_integer" = true)
    (k2 : PySem.W.keepIn K (.ref f2) = true)
    (a3 : PySem.W.nsIn K mainGlobals "is_base" = some (some (.ref f3)))
    (l3 : K.lookup f3 = some ⟨oc3, od3, .func (PySem.W.fnOf "is_base" "is_base" (defArgs sIsBase) (defBody sIsBase) (defScope sIsBase) .none kV3 dc3 pm3 an3 cd3 ct3), sl3⟩)
    (c3 : PySem.W.codeIn K cd3 "is_base" = true)
    (k3 : PySem.W.keepIn K (.ref f3) = true)
    (a4 : PySem.W.nsIn K mainGlobals "is_digit" = some (some (.ref f4)))
    (l4 : K.lookup f4 = some ⟨oc4, od4, .func (PySem.W.fnOf "is_digit" "is_digit" (defArgs sIsDigit) (defBody sIsDigit) (defScope sIsDigit) .none kV4 dc4 pm4 an4 cd4 ct4), sl4⟩)
    (c4 : PySem.W.codeIn K cd4 "is_digit" = true)
    (k4 : PySem.W.keepIn K (.ref f4) = true)
    (a5 : PySem.W.nsIn K mainGlobals "are_digits" = some (some (.ref f5)))
    (l5 : K.lookup f5 = some ⟨oc5, od5, .func (PySem.W.fnOf "are_digits" "are_digits" (defArgs sAre) (defBody sAre) (defScope sAre) .none kV5 dc5 pm5 an5 cd5 ct5), sl5⟩)
    (c5 : PySem.W.codeIn K cd5 "are_digits" = true)
    (k5 : PySem.W.keepIn K (.ref f5) = true)
    (a6 : PySem.W.nsIn K mainGlobals "_is_one_of" = some (some (.ref f6)))
    (l6 : K.lookup f6 = some ⟨oc6, od6, .func (PySem.W.fnOf "_is_one_of" "_is_one_of" (defArgs sOneOf) (defBody sOneOf) (defScope sOneOf) .none kV6 dc6 pm6 an6 cd6 ct6), sl6⟩)
    (c6 : PySem.W.codeIn K cd6 "_is_one_of" = true)
    (k6 : PySem.W.keepIn K (.ref f6) = true)
    (a7 : PySem.W.nsIn K mainGlobals "_is_pair" = some (some (.ref f7)))
    (l7 : K.lookup f7 = some ⟨oc7, od7, .func (PySem.W.fnOf "_is_pair" "_is_pair" (defArgs sIsPair) (defBody sIsPair) (defScope sIsPair) .none kV7 dc7 pm7 an7 cd7 ct7), sl7⟩)
    (c7 : PySem.W.codeIn K cd7 "_is_pair" = true)
    (k7 : PySem.W.keepIn K (.ref f7) = true)
    (a8 : PySem.W.nsIn K mainGlobals "_is_digit_list" = some (some (.ref f8)))
    (l8 : K.lookup f8 = some ⟨oc8, od8, .func (PySem.W.fnOf "_is_digit_list" "_is_digit_list" (defArgs sDigList) (defBody sDigList) (defScope sDigList) .none kV8 dc8 pm8 an8 cd8 ct8), sl8⟩)
    (c8 : PySem.W.codeIn K cd8 "_is_digit_list" = true)
    (k8 : PySem.W.keepIn K (.ref f8) = true)
    (a9 : PySem.W.nsIn K mainGlobals "_different_digits" = some (some (.ref f9)))
    (l9 : K.lookup f9 = some ⟨oc9, od9, .func (PySem.W.fnOf "_different_digits" "_different_digits" (defArgs sDiffDig) (defBody sDiffDig) (defScope sDiffDig) .none kV9 dc9 pm9 an9 cd9 ct9), sl9⟩)
    (c9 : PySem.W.codeIn K cd9 "_different_digits" = true)
    (k9 : PySem.W.keepIn K (.ref f9) = true)
    (a10 : PySem.W.nsIn K mainGlobals "_different_pairs" = some (some (.ref f10)))
    (l10 : K.lookup f10 = some ⟨oc10, od10, .func (PySem.W.fnOf "_different_pairs" "_different_pairs" (defArgs sDiffPair) (defBody sDiffPair) (defScope sDiffPair) .none kV10 dc10 pm10 an10 cd10 ct10), sl10⟩)
    (c10 : PySem.W.codeIn K cd10 "_different_pairs" = true)
    (k10 : PySem.W.keepIn K (.ref f10) = true)
    (a11 : PySem.W.nsIn K mainGlobals "left_digits" = some (some (.ref f11)))
    (l11 : K.lookup f11 = some ⟨oc11, od11, .func (PySem.W.fnOf "left_digits" "left_digits" (defArgs sLeft) (defBody sLeft) (defScope sLeft) .none kV11 dc11 pm11 an11 cd11 ct11), sl11⟩)
    (c11 : PySem.W.codeIn K cd11 "left_digits" = true)
    (k11 : PySem.W.keepIn K (.ref f11) = true)
    (a12 : PySem.W.nsIn K mainGlobals "all_left_digits" = some (some (.ref f12)))
    (l12 : K.lookup f12 = some ⟨oc12, od12, .func (PySem.W.fnOf "all_left_digits" "all_left_digits" (defArgs sAllLeft) (defBody sAllLeft) (defScope sAllLeft) .none kV12 dc12 pm12 an12 cd12 ct12), sl12⟩)
    (c12 : PySem.W.codeIn K cd12 "all_left_digits" = true)
    (k12 : PySem.W.keepIn K (.ref f12) = true)
    (a13 : PySem.W.nsIn K mainGlobals "places_behind" = some (some (.ref f13)))
    (l13 : K.lookup f13 = some ⟨oc13, od13, .func (PySem.W.fnOf "places_behind" "places_behind" (defArgs sBehind) (defBody sBehind) (defScope sBehind) .none kV13 dc13 pm13 an13 cd13 ct13), sl13⟩)
    (c13 : PySem.W.codeIn K cd13 "places_behind" = true)
    (k13 : PySem.W.keepIn K (.ref f13) = true)
    (a14 : PySem.W.nsIn K mainGlobals "follower" = some (some (.ref f14)))
    (l14 : K.lookup f14 = some ⟨oc14, od14, .func (PySem.W.fnOf "follower" "follower" (defArgs sFollow) (defBody sFollow) (defScope sFollow) .none kV14 dc14 pm14 an14 cd14 ct14), sl14⟩)
    (c14 : PySem.W.codeIn K cd14 "follower" = true)
    (k14 : PySem.W.keepIn K (.ref f14) = true)
    (a15 : PySem.W.nsIn K mainGlobals "is_end" = some (some (.ref f15)))
    (l15 : K.lookup f15 = some ⟨oc15, od15, .func (PySem.W.fnOf "is_end" "is_end" (defArgs sIsEnd) (defBody sIsEnd) (defScope sIsEnd) .none kV15 dc15 pm15 an15 cd15 ct15), sl15⟩)
    (c15 : PySem.W.codeIn K cd15 "is_end" = true)
    (k15 : PySem.W.keepIn K (.ref f15) = true)
    (a16 : PySem.W.nsIn K mainGlobals "graph_from" = some (some (.ref f16)))
    (l16 : K.lookup f16 = some ⟨oc16, od16, .func (PySem.W.fnOf "graph_from" "graph_from" (defArgs sGraph) (defBody sGraph) (defScope sGraph) .none kV16 dc16 pm16 an16 cd16 ct16), sl16⟩)
    (c16 : PySem.W.codeIn K cd16 "graph_from" = true)
    (k16 : PySem.W.keepIn K (.ref f16) = true)
    (a17 : PySem.W.nsIn K mainGlobals "place_graph" = some (some (.ref f17)))
    (l17 : K.lookup f17 = some ⟨oc17, od17, .func (PySem.W.fnOf "place_graph" "place_graph" (defArgs sPGraph) (defBody sPGraph) (defScope sPGraph) .none kV17 dc17 pm17 an17 cd17 ct17), sl17⟩)
    (c17 : PySem.W.codeIn K cd17 "place_graph" = true)
    (k17 : PySem.W.keepIn K (.ref f17) = true)
    (a18 : PySem.W.nsIn K mainGlobals "turned" = some (some (.ref f18)))
    (l18 : K.lookup f18 = some ⟨oc18, od18, .func (PySem.W.fnOf "turned" "turned" (defArgs sTurned) (defBody sTurned) (defScope sTurned) .none kV18 dc18 pm18 an18 cd18 ct18), sl18⟩)
    (c18 : PySem.W.codeIn K cd18 "turned" = true)
    (k18 : PySem.W.keepIn K (.ref f18) = true)
    (a19 : PySem.W.nsIn K mainGlobals "live_graph" = some (some (.ref f19)))
    (l19 : K.lookup f19 = some ⟨oc19, od19, .func (PySem.W.fnOf "live_graph" "live_graph" (defArgs sLive) (defBody sLive) (defScope sLive) .none kV19 dc19 pm19 an19 cd19 ct19), sl19⟩)
    (c19 : PySem.W.codeIn K cd19 "live_graph" = true)
    (k19 : PySem.W.keepIn K (.ref f19) = true)
    (a20 : PySem.W.nsIn K mainGlobals "untangled" = some (some (.ref f20)))
    (l20 : K.lookup f20 = some ⟨oc20, od20, .func (PySem.W.fnOf "untangled" "untangled" (defArgs sUnt) (defBody sUnt) (defScope sUnt) .none kV20 dc20 pm20 an20 cd20 ct20), sl20⟩)
    (c20 : PySem.W.codeIn K cd20 "untangled" = true)
    (k20 : PySem.W.keepIn K (.ref f20) = true)
    (a21 : PySem.W.nsIn K mainGlobals "way" = some (some (.ref f21)))
    (l21 : K.lookup f21 = some ⟨oc21, od21, .func (PySem.W.fnOf "way" "way" (defArgs sWay) (defBody sWay) (defScope sWay) .none kV21 dc21 pm21 an21 cd21 ct21), sl21⟩)
    (c21 : PySem.W.codeIn K cd21 "way" = true)
    (k21 : PySem.W.keepIn K (.ref f21) = true)
    (a22 : PySem.W.nsIn K mainGlobals "_way_back" = some (some (.ref f22)))
    (l22 : K.lookup f22 = some ⟨oc22, od22, .func (PySem.W.fnOf "_way_back" "_way_back" (defArgs sBack) (defBody sBack) (defScope sBack) .none kV22 dc22 pm22 an22 cd22 ct22), sl22⟩)
    (c22 : PySem.W.codeIn K cd22 "_way_back" = true)
    (k22 : PySem.W.keepIn K (.ref f22) = true)
    (a23 : PySem.W.nsIn K mainGlobals "is_scheme" = some (some (.ref f23)))
    (l23 : K.lookup f23 = some ⟨oc23, od23, .func (PySem.W.fnOf "is_scheme" "is_scheme" (defArgs sIsSch) (defBody sIsSch) (defScope sIsSch) .none kV23 dc23 pm23 an23 cd23 ct23), sl23⟩)
    (c23 : PySem.W.codeIn K cd23 "is_scheme" = true)
    (k23 : PySem.W.keepIn K (.ref f23) = true)
    (a24 : PySem.W.nsIn K mainGlobals "check_scheme" = some (some (.ref f24)))
    (l24 : K.lookup f24 = some ⟨oc24, od24, .func (PySem.W.fnOf "check_scheme" "check_scheme" (defArgs sCheckS) (defBody sCheckS) (defScope sCheckS) .none kV24 dc24 pm24 an24 cd24 ct24), sl24⟩)
    (c24 : PySem.W.codeIn K cd24 "check_scheme" = true)
    (k24 : PySem.W.keepIn K (.ref f24) = true)
    (a25 : PySem.W.nsIn K mainGlobals "check_number" = some (some (.ref f25)))
    (l25 : K.lookup f25 = some ⟨oc25, od25, .func (PySem.W.fnOf "check_number" "check_number" (defArgs sCheckN) (defBody sCheckN) (defScope sCheckN) .none kV25 dc25 pm25 an25 cd25 ct25), sl25⟩)
    (c25 : PySem.W.codeIn K cd25 "check_number" = true)
    (k25 : PySem.W.keepIn K (.ref f25) = true)
    (a26 : PySem.W.nsIn K mainGlobals "_plain_graph" = some (some (.ref f26)))
    (l26 : K.lookup f26 = some ⟨oc26, od26, .func (PySem.W.fnOf "_plain_graph" "_plain_graph" (defArgs sPlain) (defBody sPlain) (defScope sPlain) .none kV26 dc26 pm26 an26 cd26 ct26), sl26⟩)
    (c26 : PySem.W.codeIn K cd26 "_plain_graph" = true)
    (k26 : PySem.W.keepIn K (.ref f26) = true)
    (a27 : PySem.W.nsIn K mainGlobals "_row_between" = some (some (.ref f27)))
    (l27 : K.lookup f27 = some ⟨oc27, od27, .func (PySem.W.fnOf "_row_between" "_row_between" (defArgs sRowB) (defBody sRowB) (defScope sRowB) .none kV27 dc27 pm27 an27 cd27 ct27), sl27⟩)
    (c27 : PySem.W.codeIn K cd27 "_row_between" = true)
    (k27 : PySem.W.keepIn K (.ref f27) = true)
    (a28 : PySem.W.nsIn K mainGlobals "_middle" = some (some (.ref f28)))
    (l28 : K.lookup f28 = some ⟨oc28, od28, .func (PySem.W.fnOf "_middle" "_middle" (defArgs sMid) (defBody sMid) (defScope sMid) .none kV28 dc28 pm28 an28 cd28 ct28), sl28⟩)
    (c28 : PySem.W.codeIn K cd28 "_middle" = true)
    (k28 : PySem.W.keepIn K (.ref f28) = true)
    (a29 : PySem.W.nsIn K mainGlobals "loop" = some (some (.ref f29)))
    (l29 : K.lookup f29 = some ⟨oc29, od29, .func (PySem.W.fnOf "loop" "loop" (defArgs sLoop) (defBody sLoop) (defScope sLoop) .none kV29 dc29 pm29 an29 cd29 ct29), sl29⟩)
    (c29 : PySem.W.codeIn K cd29 "loop" = true)
    (k29 : PySem.W.keepIn K (.ref f29) = true)
    (a30 : PySem.W.nsIn K mainGlobals "is_plain_row_of" = some (some (.ref f30)))
    (l30 : K.lookup f30 = some ⟨oc30, od30, .func (PySem.W.fnOf "is_plain_row_of" "is_plain_row_of" (defArgs sIsPR) (defBody sIsPR) (defScope sIsPR) .none kV30 dc30 pm30 an30 cd30 ct30), sl30⟩)
    (c30 : PySem.W.codeIn K cd30 "is_plain_row_of" = true)
    (k30 : PySem.W.keepIn K (.ref f30) = true)
    (a31 : PySem.W.nsIn K mainGlobals "is_loop" = some (some (.ref f31)))
    (l31 : K.lookup f31 = some ⟨oc31, od31, .func (PySem.W.fnOf "is_loop" "is_loop" (defArgs sIsLoop) (defBody sIsLoop) (defScope sIsLoop) .none kV31 dc31 pm31 an31 cd31 ct31), sl31⟩)
    (c31 : PySem.W.codeIn K cd31 "is_loop" = true)
    (k31 : PySem.W.keepIn K (.ref f31) = true)
    (a32 : PySem.W.nsIn K mainGlobals "_law_cell" = some (some (.ref f32)))
    (l32 : K.lookup f32 = some ⟨oc32, od32, .func (PySem.W.fnOf "_law_cell" "_law_cell" (defArgs sCell) (defBody sCell) (defScope sCell) .none kV32 dc32 pm32 an32 cd32 ct32), sl32⟩)
    (c32 : PySem.W.codeIn K cd32 "_law_cell" = true)
    (k32 : PySem.W.keepIn K (.ref f32) = true)
    (a33 : PySem.W.nsIn K mainGlobals "_law_box" = some (some (.ref f33)))
    (l33 : K.lookup f33 = some ⟨oc33, od33, .func (PySem.W.fnOf "_law_box" "_law_box" (defArgs sBox) (defBody sBox) (defScope sBox) .none kV33 dc33 pm33 an33 cd33 ct33), sl33⟩)
    (c33 : PySem.W.codeIn K cd33 "_law_box" = true)
    (k33 : PySem.W.keepIn K (.ref f33) = true)
    (a34 : PySem.W.nsIn K mainGlobals "_law_take" = some (some (.ref f34)))
    (l34 : K.lookup f34 = some ⟨oc34, od34, .func (PySem.W.fnOf "_law_take" "_law_take" (defArgs sTake) (defBody sTake) (defScope sTake) .none kV34 dc34 pm34 an34 cd34 ct34), sl34⟩)
    (c34 : PySem.W.codeIn K cd34 "_law_take" = true)
    (k34 : PySem.W.keepIn K (.ref f34) = true)
    (a35 : PySem.W.nsIn K mainGlobals "_law_mixed" = some (some (.ref f35)))
    (l35 : K.lookup f35 = some ⟨oc35, od35, .func (PySem.W.fnOf "_law_mixed" "_law_mixed" (defArgs sMixed) (defBody sMixed) (defScope sMixed) .none kV35 dc35 pm35 an35 cd35 ct35), sl35⟩)
    (c35 : PySem.W.codeIn K cd35 "_law_mixed" = true)
    (k35 : PySem.W.keepIn K (.ref f35) = true)
    (a36 : PySem.W.nsIn K mainGlobals "_law_digits" = some (some (.ref f36)))
    (l36 : K.lookup f36 = some ⟨oc36, od36, .func (PySem.W.fnOf "_law_digits" "_law_digits" (defArgs sDigits) (defBody sDigits) (defScope sDigits) .none kV36 dc36 pm36 an36 cd36 ct36), sl36⟩)
    (c36 : PySem.W.codeIn K cd36 "_law_digits" = true)
    (k36 : PySem.W.keepIn K (.ref f36) = true)
    (a37 : PySem.W.nsIn K mainGlobals "_law_pairs" = some (some (.ref f37)))
    (l37 : K.lookup f37 = some ⟨oc37, od37, .func (PySem.W.fnOf "_law_pairs" "_law_pairs" (defArgs sPairs) (defBody sPairs) (defScope sPairs) .none kV37 dc37 pm37 an37 cd37 ct37), sl37⟩)
    (c37 : PySem.W.codeIn K cd37 "_law_pairs" = true)
    (k37 : PySem.W.keepIn K (.ref f37) = true)
    (a38 : PySem.W.nsIn K mainGlobals "_law_scheme" = some (some (.ref f38)))
    (l38 : K.lookup f38 = some ⟨oc38, od38, .func (PySem.W.fnOf "_law_scheme" "_law_scheme" (defArgs sScheme) (defBody sScheme) (defScope sScheme) .none kV38 dc38 pm38 an38 cd38 ct38), sl38⟩)
    (c38 : PySem.W.codeIn K cd38 "_law_scheme" = true)
    (k38 : PySem.W.keepIn K (.ref f38) = true)
    (a39 : PySem.W.nsIn K mainGlobals "_law_made" = some (some (.ref f39)))
    (l39 : K.lookup f39 = some ⟨oc39, od39, .func (PySem.W.fnOf "_law_made" "_law_made" (defArgs sMade) (defBody sMade) (defScope sMade) .none kV39 dc39 pm39 an39 cd39 ct39), sl39⟩)
    (c39 : PySem.W.codeIn K cd39 "_law_made" = true)
    (k39 : PySem.W.keepIn K (.ref f39) = true)
    (a40 : PySem.W.nsIn K mainGlobals "_law_value" = some (some (.ref f40)))
    (l40 : K.lookup f40 = some ⟨oc40, od40, .func (PySem.W.fnOf "_law_value" "_law_value" (defArgs sValue) (defBody sValue) (defScope sValue) .none kV40 dc40 pm40 an40 cd40 ct40), sl40⟩)
    (c40 : PySem.W.codeIn K cd40 "_law_value" = true)
    (k40 : PySem.W.keepIn K (.ref f40) = true)
    (a41 : PySem.W.nsIn K mainGlobals "_law_is_row" = some (some (.ref f41)))
    (l41 : K.lookup f41 = some ⟨oc41, od41, .func (PySem.W.fnOf "_law_is_row" "_law_is_row" (defArgs sIsRow) (defBody sIsRow) (defScope sIsRow) .none kV41 dc41 pm41 an41 cd41 ct41), sl41⟩)
    (c41 : PySem.W.codeIn K cd41 "_law_is_row" = true)
    (k41 : PySem.W.keepIn K (.ref f41) = true)
    (a42 : PySem.W.nsIn K mainGlobals "_law_is_part" = some (some (.ref f42)))
    (l42 : K.lookup f42 = some ⟨oc42, od42, .func (PySem.W.fnOf "_law_is_part" "_law_is_part" (defArgs sIsPart) (defBody sIsPart) (defScope sIsPart) .none kV42 dc42 pm42 an42 cd42 ct42), sl42⟩)
    (c42 : PySem.W.codeIn K cd42 "_law_is_part" = true)
    (k42 : PySem.W.keepIn K (.ref f42) = true)
    (a43 : PySem.W.nsIn K mainGlobals "_law_due" = some (some (.ref f43)))
    (l43 : K.lookup f43 = some ⟨oc43, od43, .func (PySem.W.fnOf "_law_due" "_law_due" (defArgs sDue) (defBody sDue) (defScope sDue) .none kV43 dc43 pm43 an43 cd43 ct43), sl43⟩)
    (c43 : PySem.W.codeIn K cd43 "_law_due" = true)
    (k43 : PySem.W.keepIn K (.ref f43) = true)
    (a44 : PySem.W.nsIn K mainGlobals "_law_spoilt" = some (some (.ref f44)))
    (l44 : K.lookup f44 = some ⟨oc44, od44, .func (PySem.W.fnOf "_law_spoilt" "_law_spoilt" (defArgs sSpoilt) (defBody sSpoilt) (defScope sSpoilt) .none kV44 dc44 pm44 an44 cd44 ct44), sl44⟩)
    (c44 : PySem.W.codeIn K cd44 "_law_spoilt" = true)
    (k44 : PySem.W.keepIn K (.ref f44) = true)
    (a45 : PySem.W.nsIn K mainGlobals "_law_some_digit" = some (some (.ref f45)))
    (l45 : K.lookup f45 = some ⟨oc45, od45, .func (PySem.W.fnOf "_law_some_digit" "_law_some_digit" (defArgs sSomeD) (defBody sSomeD) (defScope sSomeD) .none kV45 dc45 pm45 an45 cd45 ct45), sl45⟩)
    (c45 : PySem.W.codeIn K cd45 "_law_some_digit" = true)
    (k45 : PySem.W.keepIn K (.ref f45) = true)
    (a46 : PySem.W.nsIn K mainGlobals "_law_drawn" = some (some (.ref f46)))
    (l46 : K.lookup f46 = some ⟨oc46, od46, .func (PySem.W.fnOf "_law_drawn" "_law_drawn" (defArgs sDrawn) (defBody sDrawn) (defScope sDrawn) .none kV46 dc46 pm46 an46 cd46 ct46), sl46⟩)
    (c46 : PySem.W.codeIn K cd46 "_law_drawn" = true)
    (k46 : PySem.W.keepIn K (.ref f46) = true)
    (a47 : PySem.W.nsIn K mainGlobals "_law_refused" = some (some (.ref f47)))
    (l47 : K.lookup f47 = some ⟨oc47, od47, .func (PySem.W.fnOf "_law_refused" "_law_refused" (defArgs sRefused) (defBody sRefused) (defScope sRefused) .none kV47 dc47 pm47 an47 cd47 ct47), sl47⟩)
    (c47 : PySem.W.codeIn K cd47 "_law_refused" = true)
    (k47 : PySem.W.keepIn K (.ref f47) = true)
    (a48 : PySem.W.nsIn K mainGlobals "_law_right" = some (some (.ref f48)))
    (l48 : K.lookup f48 = some ⟨oc48, od48, .func (PySem.W.fnOf "_law_right" "_law_right" (defArgs sRight) (defBody sRight) (defScope sRight) .none kV48 dc48 pm48 an48 cd48 ct48), sl48⟩)
    (c48 : PySem.W.codeIn K cd48 "_law_right" = true)
    (k48 : PySem.W.keepIn K (.ref f48) = true)
    (a49 : PySem.W.nsIn K mainGlobals "law" = some (some (.ref f49)))
    (l49 : K.lookup f49 = some ⟨oc49, od49, .func (PySem.W.fnOf "law" "law" (defArgs sLaw) (defBody sLaw) (defScope sLaw) .none kV49 dc49 pm49 an49 cd49 ct49), sl49⟩)
    (c49 : PySem.W.codeIn K cd49 "law" = true)
    (k49 : PySem.W.keepIn K (.ref f49) = true)
    (aF : PySem.W.nsIn K mainGlobals "FigureError" = some (some (.ref CF)))
    (rF : PySem.W.readsIn K CF (.type "type") = true)
    (gaF : PySem.W.specialIn K (.ref CF) "__getattribute__" = some (some (.builtin "type.__getattribute__")))
    (atF : PySem.W.findCls K (.ref CF) (.type "type") "__init__" = some (.val (.ref fF)))
    (lF : K.lookup fF = some ⟨ocF, odF, .func (PySem.W.fnOf "__init__" "FigureError.__init__" (defArgs sFig) (defBody sFig) (defScope sFig) .none kVF dcF pmF anF cdF ctF), slF⟩)
    (cF : PySem.W.codeIn K cdF "FigureError.__init__" = true)
    (kF : PySem.W.keepIn K (.ref fF) = true)
    (vV : PySem.W.findCls K (.type "ValueError") (.type "type") "__init__" = some (.val (.builtin "ValueError.__init__")))
    (aC1 : PySem.W.nsIn K mainGlobals "InvalidBase" = some (some (.ref C1)))
    (xC1 : K.lookup C1 = some (excClassObj nm1 q1 C1 N1 bs1 [.ref CF, .type "ValueError", .type "Exception", .type "BaseException", .type "object"] true sn1 sub1 ab1 col1 dd1 m01 m11 (some (.str cn1 tkE1)) m31 m51 "ValueError.__new__"))
    (sa1 : PySem.W.findIn K (.ref C1) "__setattr__" = some (some (.builtin "object.__setattr__")))
    (ex1 : PySem.W.subIn K (.ref C1) (.type "BaseException") = some true)
    (ty1 : PySem.W.typeIn K (.ref C1) = some (.type "type"))
    (kC1 : PySem.W.keepIn K (.ref C1) = true)
    (iC1 : PySem.W.findIn K (.ref C1) "__init__" = some (some (.ref fI1)))
    (tI1 : PySem.W.typeIn K (.ref fI1) = some (.type "function"))
    (no1 : PySem.W.findIn K (.ref C1) "value" = some none)
    (ga1 : PySem.W.findIn K (.ref C1) "__getattribute__" = some (some (.builtin "BaseException.__getattribute__")))
    (gg1 : PySem.W.findIn K (.ref C1) "__getattr__" = some none)
    (hd1 : PySem.W.hasDictIn K C1 = true)
    (sb1 : PySem.W.subIn K (.ref C1) (.ref C1) = some true)
    (ic1 : PySem.W.isClsIn K C1 = true)
    (lI1 : K.lookup fI1 = some ⟨ocI1, odI1, .func (PySem.W.fnOf "__init__" "InvalidBase.__init__" (defArgs sInBase) (defBody sInBase) (defScope sInBase) .none kVI1 dcI1 pmI1 anI1 cdI1 ctI1), slI1⟩)
    (cI1 : PySem.W.codeIn K cdI1 "InvalidBase.__init__" = true)
    (kI1 : PySem.W.keepIn K (.ref fI1) = true)
    (aC2 : PySem.W.nsIn K mainGlobals "InvalidDigits" = some (some (.ref C2)))
    (xC2 : K.lookup C2 = some (excClassObj nm2 q2 C2 N2 bs2 [.ref CF, .type "ValueError", .type "Exception", .type "BaseException", .type "object"] true sn2 sub2 ab2 col2 dd2 m02 m12 (some (.str cn2 tkE2)) m32 m52 "ValueError.__new__"))
    (sa2 : PySem.W.findIn K (.ref C2) "__setattr__" = some (some (.builtin "object.__setattr__")))
    (ex2 : PySem.W.subIn K (.ref C2) (.type "BaseException") = some true)
    (ty2 : PySem.W.typeIn K (.ref C2) = some (.type "type"))
    (kC2 : PySem.W.keepIn K (.ref C2) = true)
    (iC2 : PySem.W.findIn K (.ref C2) "__init__" = some (some (.ref fI2)))
    (tI2 : PySem.W.typeIn K (.ref fI2) = some (.type "function"))
    (no2 : PySem.W.findIn K (.ref C2) "value" = some none)
    (ga2 : PySem.W.findIn K (.ref C2) "__getattribute__" = some (some (.builtin "BaseException.__getattribute__")))
    (gg2 : PySem.W.findIn K (.ref C2) "__getattr__" = some none)
    (hd2 : PySem.W.hasDictIn K C2 = true)
    (sb2 : PySem.W.subIn K (.ref C2) (.ref C2) = some true)
    (ic2 : PySem.W.isClsIn K C2 = true)
    (lI2 : K.lookup fI2 = some ⟨ocI2, odI2, .func (PySem.W.fnOf "__init__" "InvalidDigits.__init__" (defArgs sInDig) (defBody sInDig) (defScope sInDig) .none kVI2 dcI2 pmI2 anI2 cdI2 ctI2), slI2⟩)
    (cI2 : PySem.W.codeIn K cdI2 "InvalidDigits.__init__" = true)
    (kI2 : PySem.W.keepIn K (.ref fI2) = true)
    (aC3 : PySem.W.nsIn K mainGlobals "InvalidBars" = some (some (.ref C3)))
    (xC3 : K.lookup C3 = some (excClassObj nm3 q3 C3 N3 bs3 [.ref CF, .type "ValueError", .type "Exception", .type "BaseException", .type "object"] true sn3 sub3 ab3 col3 dd3 m03 m13 (some (.str cn3 tkE3)) m33 m53 "ValueError.__new__"))
    (sa3 : PySem.W.findIn K (.ref C3) "__setattr__" = some (some (.builtin "object.__setattr__")))
    (ex3 : PySem.W.subIn K (.ref C3) (.type "BaseException") = some true)
    (ty3 : PySem.W.typeIn K (.ref C3) = some (.type "type"))
    (kC3 : PySem.W.keepIn K (.ref C3) = true)
    (iC3 : PySem.W.findIn K (.ref C3) "__init__" = some (some (.ref fI3)))
    (tI3 : PySem.W.typeIn K (.ref fI3) = some (.type "function"))
    (no3 : PySem.W.findIn K (.ref C3) "value" = some none)
    (ga3 : PySem.W.findIn K (.ref C3) "__getattribute__" = some (some (.builtin "BaseException.__getattribute__")))
    (gg3 : PySem.W.findIn K (.ref C3) "__getattr__" = some none)
    (hd3 : PySem.W.hasDictIn K C3 = true)
    (sb3 : PySem.W.subIn K (.ref C3) (.ref C3) = some true)
    (ic3 : PySem.W.isClsIn K C3 = true)
    (lI3 : K.lookup fI3 = some ⟨ocI3, odI3, .func (PySem.W.fnOf "__init__" "InvalidBars.__init__" (defArgs sInBars) (defBody sInBars) (defScope sInBars) .none kVI3 dcI3 pmI3 anI3 cdI3 ctI3), slI3⟩)
    (cI3 : PySem.W.codeIn K cdI3 "InvalidBars.__init__" = true)
    (kI3 : PySem.W.keepIn K (.ref fI3) = true)
    (aC4 : PySem.W.nsIn K mainGlobals "NotScheme" = some (some (.ref C4)))
    (xC4 : K.lookup C4 = some (excClassObj nm4 q4 C4 N4 bs4 [.ref CF, .type "ValueError", .type "Exception", .type "BaseException", .type "object"] true sn4 sub4 ab4 col4 dd4 m04 m14 (some (.str cn4 tkE4)) m34 m54 "ValueError.__new__"))
    (sa4 : PySem.W.findIn K (.ref C4) "__setattr__" = some (some (.builtin "object.__setattr__")))
    (ex4 : PySem.W.subIn K (.ref C4) (.type "BaseException") = some true)
    (ty4 : PySem.W.typeIn K (.ref C4) = some (.type "type"))
    (kC4 : PySem.W.keepIn K (.ref C4) = true)
    (iC4 : PySem.W.findIn K (.ref C4) "__init__" = some (some (.ref fI4)))
    (tI4 : PySem.W.typeIn K (.ref fI4) = some (.type "function"))
    (no4 : PySem.W.findIn K (.ref C4) "value" = some none)
    (ga4 : PySem.W.findIn K (.ref C4) "__getattribute__" = some (some (.builtin "BaseException.__getattribute__")))
    (gg4 : PySem.W.findIn K (.ref C4) "__getattr__" = some none)
    (hd4 : PySem.W.hasDictIn K C4 = true)
    (sb4 : PySem.W.subIn K (.ref C4) (.ref C4) = some true)
    (ic4 : PySem.W.isClsIn K C4 = true)
    (lI4 : K.lookup fI4 = some ⟨ocI4, odI4, .func (PySem.W.fnOf "__init__" "NotScheme.__init__" (defArgs sNotS) (defBody sNotS) (defScope sNotS) .none kVI4 dcI4 pmI4 anI4 cdI4 ctI4), slI4⟩)
    (cI4 : PySem.W.codeIn K cdI4 "NotScheme.__init__" = true)
    (kI4 : PySem.W.keepIn K (.ref fI4) = true)
    (aC5 : PySem.W.nsIn K mainGlobals "InvalidNumber" = some (some (.ref C5)))
    (xC5 : K.lookup C5 = some (excClassObj nm5 q5 C5 N5 bs5 [.ref CF, .type "ValueError", .type "Exception", .type "BaseException", .type "object"] true sn5 sub5 ab5 col5 dd5 m05 m15 (some (.str cn5 tkE5)) m35 m55 "ValueError.__new__"))
    (sa5 : PySem.W.findIn K (.ref C5) "__setattr__" = some (some (.builtin "object.__setattr__")))
    (ex5 : PySem.W.subIn K (.ref C5) (.type "BaseException") = some true)
    (ty5 : PySem.W.typeIn K (.ref C5) = some (.type "type"))
    (kC5 : PySem.W.keepIn K (.ref C5) = true)
    (iC5 : PySem.W.findIn K (.ref C5) "__init__" = some (some (.ref fI5)))
    (tI5 : PySem.W.typeIn K (.ref fI5) = some (.type "function"))
    (no5 : PySem.W.findIn K (.ref C5) "number" = some none)
    (ga5 : PySem.W.findIn K (.ref C5) "__getattribute__" = some (some (.builtin "BaseException.__getattribute__")))
    (gg5 : PySem.W.findIn K (.ref C5) "__getattr__" = some none)
    (hd5 : PySem.W.hasDictIn K C5 = true)
    (sb5 : PySem.W.subIn K (.ref C5) (.ref C5) = some true)
    (ic5 : PySem.W.isClsIn K C5 = true)
    (lI5 : K.lookup fI5 = some ⟨ocI5, odI5, .func (PySem.W.fnOf "__init__" "InvalidNumber.__init__" (defArgs sInNum) (defBody sInNum) (defScope sInNum) .none kVI5 dcI5 pmI5 anI5 cdI5 ctI5), slI5⟩)
    (cI5 : PySem.W.codeIn K cdI5 "InvalidNumber.__init__" = true)
    (kI5 : PySem.W.keepIn K (.ref fI5) = true)
    (aC6 : PySem.W.nsIn K mainGlobals "InvalidRow" = some (some (.ref C6)))
    (xC6 : K.lookup C6 = some (excClassObj nm6 q6 C6 N6 bs6 [.ref CF, .type "ValueError", .type "Exception", .type "BaseException", .type "object"] true sn6 sub6 ab6 col6 dd6 m06 m16 (some (.str cn6 tkE6)) m36 m56 "ValueError.__new__"))
    (sa6 : PySem.W.findIn K (.ref C6) "__setattr__" = some (some (.builtin "object.__setattr__")))
    (ex6 : PySem.W.subIn K (.ref C6) (.type "BaseException") = some true)
    (ty6 : PySem.W.typeIn K (.ref C6) = some (.type "type"))
    (kC6 : PySem.W.keepIn K (.ref C6) = true)
    (iC6 : PySem.W.findIn K (.ref C6) "__init__" = some (some (.ref fI6)))
    (tI6 : PySem.W.typeIn K (.ref fI6) = some (.type "function"))
    (no6 : PySem.W.findIn K (.ref C6) "row" = some none)
    (ga6 : PySem.W.findIn K (.ref C6) "__getattribute__" = some (some (.builtin "BaseException.__getattribute__")))
    (gg6 : PySem.W.findIn K (.ref C6) "__getattr__" = some none)
    (hd6 : PySem.W.hasDictIn K C6 = true)
    (sb6 : PySem.W.subIn K (.ref C6) (.ref C6) = some true)
    (ic6 : PySem.W.isClsIn K C6 = true)
    (lI6 : K.lookup fI6 = some ⟨ocI6, odI6, .func (PySem.W.fnOf "__init__" "InvalidRow.__init__" (defArgs sInR) (defBody sInR) (defScope sInR) .none kVI6 dcI6 pmI6 anI6 cdI6 ctI6), slI6⟩)
    (cI6 : PySem.W.codeIn K cdI6 "InvalidRow.__init__" = true)
    (kI6 : PySem.W.keepIn K (.ref fI6) = true)
    (aS : PySem.W.nsIn K mainGlobals "Scheme" = some (some (.ref CS)))
    (pgS : PySem.W.plainGet K CS Str.empty = true)
    (hdS : PySem.W.hasDictIn K CS = true)
    (poS : PySem.W.plainOver K CS = true)
    (saS : PySem.W.findIn K (.ref CS) "__setattr__" = some (some (.builtin "object.__setattr__")))
    (mkS : PySem.W.makesIn K CS = true)
    (nB : PySem.W.findIn K (.ref CS) "_base" = some none)
    (nD : PySem.W.findIn K (.ref CS) "_digits" = some none)
    (nR : PySem.W.findIn K (.ref CS) "_bars" = some none)
    (haS : PySem.W.findIn K (.ref CS) "__class__" = some (some (.builtin "object.__class__")))
    (xn : PySem.W.specialIn K (.builtin "object.__class__") "__get__" = some (some (.builtin "getset_descriptor.__get__")))
    (xt : PySem.W.takesIn K (.builtin "object.__class__") = some true)
    (hmS : PySem.W.mroIn K CS (.type "object") = some true)
    (sbS : PySem.W.subIn K (.ref CS) (.ref CS) = some true)
    (icS : PySem.W.isClsIn K CS = true)
    (tyS : PySem.W.typeIn K (.ref CS) = some (.type "type"))
    (kpS : PySem.W.keepIn K (.ref CS) = true)
    (at1 : PySem.W.findIn K (.ref CS) "allows" = some (some (.ref h1)))
    (fn1 : PySem.W.isFn K (.ref h1) = true)
    (lM1 : K.lookup h1 = some ⟨ocM1, odM1, .func (PySem.W.fnOf "allows" "Scheme.allows" (defArgs sAllows) (defBody sAllows) (defScope sAllows) .none kVM1 dcM1 pmM1 anM1 cdM1 ctM1), slM1⟩)
    (cM1 : PySem.W.codeIn K cdM1 "Scheme.allows" = true)
    (kM1 : PySem.W.keepIn K (.ref h1) = true)
    (at2 : PySem.W.findIn K (.ref CS) "__contains__" = some (some (.ref h2)))
    (fn2 : PySem.W.isFn K (.ref h2) = true)
    (lM2 : K.lookup h2 = some ⟨ocM2, odM2, .func (PySem.W.fnOf "__contains__" "Scheme.__contains__" (defArgs sHas) (defBody sHas) (defScope sHas) .none kVM2 dcM2 pmM2 anM2 cdM2 ctM2), slM2⟩)
    (cM2 : PySem.W.codeIn K cdM2 "Scheme.__contains__" = true)
    (kM2 : PySem.W.keepIn K (.ref h2) = true)
    (at3 : PySem.W.findIn K (.ref CS) "value_of" = some (some (.ref h3)))
    (fn3 : PySem.W.isFn K (.ref h3) = true)
    (lM3 : K.lookup h3 = some ⟨ocM3, odM3, .func (PySem.W.fnOf "value_of" "Scheme.value_of" (defArgs sValueOf) (defBody sValueOf) (defScope sValueOf) .none kVM3 dcM3 pmM3 anM3 cdM3 ctM3), slM3⟩)
    (cM3 : PySem.W.codeIn K cdM3 "Scheme.value_of" = true)
    (kM3 : PySem.W.keepIn K (.ref h3) = true)
    (apB : PySem.W.findIn K (.ref CS) "base" = some (some (.ref pB)))
    (gtB : PySem.W.specialIn K (.ref pB) "__get__" = some (some (.builtin "property.__get__")))
    (tkB : PySem.W.takesIn K (.ref pB) = some true)
    (rcB : PySem.W.recIn K pB "property" = some (.ref gB :: restB))
    (apD : PySem.W.findIn K (.ref CS) "digits" = some (some (.ref pD)))
    (gtD : PySem.W.specialIn K (.ref pD) "__get__" = some (some (.builtin "property.__get__")))
    (tkD : PySem.W.takesIn K (.ref pD) = some true)
    (rcD : PySem.W.recIn K pD "property" = some (.ref gD :: restD))
    (atN : PySem.W.findIn K (.ref CS) "__init__" = some (some (.ref hN)))
    (fnN : PySem.W.isFn K (.ref hN) = true)
    (lIn : K.lookup hN = some ⟨ocIn, odIn, .func (PySem.W.fnOf "__init__" "Scheme.__init__" (defArgs sInit) (defBody sInit) (defScope sInit) .none (.ref DK) dcIn pmIn anIn cdIn ctIn), slIn⟩)
    (cIn : PySem.W.codeIn K cdIn "Scheme.__init__" = true)
    (kIn : PySem.W.keepIn K (.ref hN) = true)
    (nsB : PySem.W.nsIn K DK "bars" = some (some (.ref TD)))
    (lT : K.lookup TD = some ⟨.type "tuple", odT, .seq #[] nT, slT⟩)
    (ecF : cd14 = .ref c0)
    (ecL : cd19 = .ref cL)
    (nPL : (PT == PL) = false)
    (xa : PySem.W.findIn K (.ref C4) "__class__" = some (some (.builtin "object.__class__")))
    (xm : PySem.W.mroIn K C4 (.type "object") = some true)
    (xs : PySem.W.subIn K (.ref C4) (.ref CF) = some true)
    (xi : PySem.W.isClsIn K CF = true)
    (xy : PySem.W.typeIn K (.ref CF) = some (.type "type"))
    (s54 : PySem.W.subIn K (.ref C5) (.ref C4) = some false)
    (lPB : K.lookup gB = some ⟨ocPB, odPB, .func (PySem.W.fnOf "base" "Scheme.base" (defArgs sPBase) (defBody sPBase) (defScope sPBase) .none kVPB dcPB pmPB anPB cdPB ctPB), slPB⟩)
    (cPB : PySem.W.codeIn K cdPB "Scheme.base" = true)
    (kPB : PySem.W.keepIn K (.ref gB) = true)
    (lPD : K.lookup gD = some ⟨ocPD, odPD, .func (PySem.W.fnOf "digits" "Scheme.digits" (defArgs sPDigits) (defBody sPDigits) (defScope sPDigits) .none kVPD dcPD pmPD anPD cdPD ctPD), slPD⟩)
    (cPD : PySem.W.codeIn K cdPD "Scheme.digits" = true)
    (kPD : PySem.W.keepIn K (.ref gD) = true)
    (z1 : PySem.W.nsIn K mainGlobals "len" = some none)
    (z2 : PySem.W.nsIn K mainGlobals "range" = some none)
    (z3 : PySem.W.nsIn K mainGlobals "int" = some none)
    (z4 : PySem.W.nsIn K mainGlobals "bool" = some none)
    (z5 : PySem.W.nsIn K mainGlobals "isinstance" = some none)
    (z6 : PySem.W.nsIn K mainGlobals "repr" = some none)
    (z7 : PySem.W.nsIn K mainGlobals "list" = some none)
    (z8 : PySem.W.nsIn K mainGlobals "tuple" = some none)
    (z9 : PySem.W.nsIn K mainGlobals "set" = some none)
    (z10 : PySem.W.nsIn K mainGlobals "sorted" = some none)
    (z11 : PySem.W.nsIn K mainGlobals "all" = some none)
    (z12 : PySem.W.nsIn K mainGlobals "max" = some none)
    (z13 : PySem.W.nsIn K mainGlobals "min" = some none)
    (z14 : PySem.W.nsIn K mainGlobals "abs" = some none)
    (z15 : PySem.W.nsIn K mainGlobals "ValueError" = some none)
    (z16 : PySem.W.nsIn K mainGlobals "zip" = some none)
    (v1 : PySem.W.nsIn K mainGlobals "MOST_DIGITS" = some (some (.int 6 t6)))
    (v2 : PySem.W.nsIn K mainGlobals "GREATEST_DIGIT" = some (some (.int 9 t9)))
    (v3 : PySem.W.nsIn K mainGlobals "GREATEST_BASE" = some (some (.int 6 tb)))
    (haE1 : PySem.W.findIn K (.ref C1) "__class__" = some (some (.builtin "object.__class__")))
    (hmE1 : PySem.W.mroIn K C1 (.type "object") = some true)
    (fcE1 : PySem.W.findCls K (.ref C1) (.type "type") "__name__" = some (.get (.builtin "getset_descriptor.__get__") (.builtin "type.__name__") (.ref C1) (.type "type")))
    (nnE1 : PySem.W.findIn K (.ref C1) "class_name" = some none)
    (haE2 : PySem.W.findIn K (.ref C2) "__class__" = some (some (.builtin "object.__class__")))
    (hmE2 : PySem.W.mroIn K C2 (.type "object") = some true)
    (fcE2 : PySem.W.findCls K (.ref C2) (.type "type") "__name__" = some (.get (.builtin "getset_descriptor.__get__") (.builtin "type.__name__") (.ref C2) (.type "type")))
    (nnE2 : PySem.W.findIn K (.ref C2) "class_name" = some none)
    (haE3 : PySem.W.findIn K (.ref C3) "__class__" = some (some (.builtin "object.__class__")))
    (hmE3 : PySem.W.mroIn K C3 (.type "object") = some true)
    (fcE3 : PySem.W.findCls K (.ref C3) (.type "type") "__name__" = some (.get (.builtin "getset_descriptor.__get__") (.builtin "type.__name__") (.ref C3) (.type "type")))
    (nnE3 : PySem.W.findIn K (.ref C3) "class_name" = some none)
    (haE4 : PySem.W.findIn K (.ref C4) "__class__" = some (some (.builtin "object.__class__")))
    (hmE4 : PySem.W.mroIn K C4 (.type "object") = some true)
    (fcE4 : PySem.W.findCls K (.ref C4) (.type "type") "__name__" = some (.get (.builtin "getset_descriptor.__get__") (.builtin "type.__name__") (.ref C4) (.type "type")))
    (nnE4 : PySem.W.findIn K (.ref C4) "class_name" = some none)
    (haE5 : PySem.W.findIn K (.ref C5) "__class__" = some (some (.builtin "object.__class__")))
    (hmE5 : PySem.W.mroIn K C5 (.type "object") = some true)
    (fcE5 : PySem.W.findCls K (.ref C5) (.type "type") "__name__" = some (.get (.builtin "getset_descriptor.__get__") (.builtin "type.__name__") (.ref C5) (.type "type")))
    (nnE5 : PySem.W.findIn K (.ref C5) "class_name" = some none)
    (haE6 : PySem.W.findIn K (.ref C6) "__class__" = some (some (.builtin "object.__class__")))
    (hmE6 : PySem.W.mroIn K C6 (.type "object") = some true)
    (fcE6 : PySem.W.findCls K (.ref C6) (.type "type") "__name__" = some (.get (.builtin "getset_descriptor.__get__") (.builtin "type.__name__") (.ref C6) (.type "type")))
    (nnE6 : PySem.W.findIn K (.ref C6) "class_name" = some none)
    (xnE : PySem.W.specialIn K (.builtin "object.__class__") "__get__" = some (some (.builtin "getset_descriptor.__get__")))
    (xtE : PySem.W.takesIn K (.builtin "object.__class__") = some true)
    (stE : PySem.W.nsIn K cStatics "thirdparty.any" = some none)
    : ∃ fd : FuncData, (∀ (s : Shared) (v : Value), BindsTo s fd ⟨[v], []⟩ [("_law_script", v)]) ∧ ∀ base : Heap, K.In base → base.Ns mainGlobals mg → TabB base mg c0 PT → TabB base mg cL PL → FnG l.prog w K mg base 13 fa fd ["_law_script"] (spLaw K [(PT, qLam), (PL, qLiv)]) := by
  have e := hfa.symm.trans (PySem.W.mg_of X G a49)
  cases e
  have F1 := fun_mk (st := sWhole) l1 c1 k1
  have g1 := PySem.W.mg_of X G a1
  have b1 := F1.binds (ps := ["value"]) fun _ _ _ _ _ _ us hl => match us, hl with | [_], _ => rfl
  have F2 := fun_mk (st := sIsInt) l2 c2 k2
  have g2 := PySem.W.mg_of X G a2
  have b2 := F2.binds (ps := ["value", "low", "high"]) fun _ _ _ _ _ _ us hl => match us, hl with | [_, _, _], _ => rfl
  have F3 := fun_mk (st := sIsBase) l3 c3 k3
  have g3 := PySem.W.mg_of X G a3
  have b3 := F3.binds (ps := ["value"]) fun _ _ _ _ _ _ us hl => match us, hl with | [_], _ => rfl
  have F4 := fun_mk (st := sIsDigit) l4 c4 k4
  have g4 := PySem.W.mg_of X G a4
  have b4 := F4.binds (ps := ["value"]) fun _ _ _ _ _ _ us hl => match us, hl with | [_], _ => rfl
  have F5 := fun_mk (st := sAre) l5 c5 k5
  have g5 := PySem.W.mg_of X G a5
  have b5 := F5.binds (ps := ["items"]) fun _ _ _ _ _ _ us hl => match us, hl with | [_], _ => rfl
  have F6 := fun_mk (st := sOneOf) l6 c6 k6
  have g6 := PySem.W.mg_of X G a6
  have b6 := F6.binds (ps := ["digits", "value"]) fun _ _ _ _ _ _ us hl => match us, hl with | [_, _], _ => rfl
  have F7 := fun_mk (st := sIsPair) l7 c7 k7
  have g7 := PySem.W.mg_of X G a7
  have b7 := F7.binds (ps := ["digits", "value"]) fun _ _ _ _ _ _ us hl => match us, hl with | [_, _], _ => rfl
  have F8 := fun_mk (st := sDigList) l8 c8 k8
  have g8 := PySem.W.mg_of X G a8
  have b8 := F8.binds (ps := ["value"]) fun _ _ _ _ _ _ us hl => match us, hl with | [_], _ => rfl
  have F9 := fun_mk (st := sDiffDig) l9 c9 k9
  have g9 := PySem.W.mg_of X G a9
  have b9 := F9.binds (ps := ["digits"]) fun _ _ _ _ _ _ us hl => match us, hl with | [_], _ => rfl
  have F10 := fun_mk (st := sDiffPair) l10 c10 k10
  have g10 := PySem.W.mg_of X G a10
  have b10 := F10.binds (ps := ["digits", "bars"]) fun _ _ _ _ _ _ us hl => match us, hl with | [_, _], _ => rfl
  have F11 := fun_mk (st := sLeft) l11 c11 k11
  have g11 := PySem.W.mg_of X G a11
  have b11 := F11.binds (ps := ["scheme", "right"]) fun _ _ _ _ _ _ us hl => match us, hl with | [_, _], _ => rfl
  have F12 := fun_mk (st := sAllLeft) l12 c12 k12
  have g12 := PySem.W.mg_of X G a12
  have b12 := F12.binds (ps := ["scheme"]) fun _ _ _ _ _ _ us hl => match us, hl with | [_], _ => rfl
  have F13 := fun_mk (st := sBehind) l13 c13 k13
  have g13 := PySem.W.mg_of X G a13
  have b13 := F13.binds (ps := ["base", "digits", "rest"]) fun _ _ _ _ _ _ us hl => match us, hl with | [_, _, _], _ => rfl
  have F14 := fun_mk (st := sFollow) l14 c14 k14
  have g14 := PySem.W.mg_of X G a14
  have b14 := F14.binds (ps := ["scheme"]) fun _ _ _ _ _ _ us hl => match us, hl with | [_], _ => rfl
  have F15 := fun_mk (st := sIsEnd) l15 c15 k15
  have g15 := PySem.W.mg_of X G a15
  have b15 := F15.binds (ps := ["place"]) fun _ _ _ _ _ _ us hl => match us, hl with | [_], _ => rfl
  have F16 := fun_mk (st := sGraph) l16 c16 k16
  have g16 := PySem.W.mg_of X G a16
  have b16 := F16.binds (ps := ["starts", "follow"]) fun _ _ _ _ _ _ us hl => match us, hl with | [_, _], _ => rfl
  have F17 := fun_mk (st := sPGraph) l17 c17 k17
  have g17 := PySem.W.mg_of X G a17
  have b17 := F17.binds (ps := ["scheme", "starts"]) fun _ _ _ _ _ _ us hl => match us, hl with | [_, _], _ => rfl
  have F18 := fun_mk (st := sTurned) l18 c18 k18
  have g18 := PySem.W.mg_of X G a18
  have b18 := F18.binds (ps := ["graph"]) fun _ _ _ _ _ _ us hl => match us, hl with | [_], _ => rfl
  have F19 := fun_mk (st := sLive) l19 c19 k19
  have g19 := PySem.W.mg_of X G a19
  have b19 := F19.binds (ps := ["graph"]) fun _ _ _ _ _ _ us hl => match us, hl with | [_], _ => rfl
  have F20 := fun_mk (st := sUnt) l20 c20 k20
  have g20 := PySem.W.mg_of X G a20
  have b20 := F20.binds (ps := ["graph"]) fun _ _ _ _ _ _ us hl => match us, hl with | [_], _ => rfl
  have F21 := fun_mk (st := sWay) l21 c21 k21
  have g21 := PySem.W.mg_of X G a21
  have b21 := F21.binds (ps := ["graph", "start", "goals"]) fun _ _ _ _ _ _ us hl => match us, hl with | [_, _, _], _ => rfl
  have F22 := fun_mk (st := sBack) l22 c22 k22
  have g22 := PySem.W.mg_of X G a22
  have b22 := F22.binds (ps := ["previous", "node"]) fun _ _ _ _ _ _ us hl => match us, hl with | [_, _], _ => rfl
  have F23 := fun_mk (st := sIsSch) l23 c23 k23
  have g23 := PySem.W.mg_of X G a23
  have b23 := F23.binds (ps := ["value"]) fun _ _ _ _ _ _ us hl => match us, hl with | [_], _ => rfl
  have F24 := fun_mk (st := sCheckS) l24 c24 k24
  have g24 := PySem.W.mg_of X G a24
  have b24 := F24.binds (ps := ["value"]) fun _ _ _ _ _ _ us hl => match us, hl with | [_], _ => rfl
  have F25 := fun_mk (st := sCheckN) l25 c25 k25
  have g25 := PySem.W.mg_of X G a25
  have b25 := F25.binds (ps := ["value"]) fun _ _ _ _ _ _ us hl => match us, hl with | [_], _ => rfl
  have F26 := fun_mk (st := sPlain) l26 c26 k26
  have g26 := PySem.W.mg_of X G a26
  have b26 := F26.binds (ps := ["scheme", "number"]) fun _ _ _ _ _ _ us hl => match us, hl with | [_, _], _ => rfl
  have F27 := fun_mk (st := sRowB) l27 c27 k27
  have g27 := PySem.W.mg_of X G a27
  have b27 := F27.binds (ps := ["graph", "start", "goals"]) fun _ _ _ _ _ _ us hl => match us, hl with | [_, _, _], _ => rfl
  have F28 := fun_mk (st := sMid) l28 c28 k28
  have g28 := PySem.W.mg_of X G a28
  have b28 := F28.binds (ps := ["graph", "place"]) fun _ _ _ _ _ _ us hl => match us, hl with | [_, _], _ => rfl
  have F29 := fun_mk (st := sLoop) l29 c29 k29
  have g29 := PySem.W.mg_of X G a29
  have b29 := F29.binds (ps := ["scheme", "number"]) fun _ _ _ _ _ _ us hl => match us, hl with | [_, _], _ => rfl
  have F30 := fun_mk (st := sIsPR) l30 c30 k30
  have g30 := PySem.W.mg_of X G a30
  have b30 := F30.binds (ps := ["scheme", "number", "row"]) fun _ _ _ _ _ _ us hl => match us, hl with | [_, _, _], _ => rfl
  have F31 := fun_mk (st := sIsLoop) l31 c31 k31
  have g31 := PySem.W.mg_of X G a31
  have b31 := F31.binds (ps := ["scheme", "number", "value"]) fun _ _ _ _ _ _ us hl => match us, hl with | [_, _, _], _ => rfl
  have F32 := fun_mk (st := sCell) l32 c32 k32
  have g32 := PySem.W.mg_of X G a32
  have b32 := F32.binds (ps := ["_law_script", "_law_k"]) fun _ _ _ _ _ _ us hl => match us, hl with | [_, _], _ => rfl
  have F33 := fun_mk (st := sBox) l33 c33 k33
  have g33 := PySem.W.mg_of X G a33
  have b33 := F33.binds (ps := ["_law_cell_here"]) fun _ _ _ _ _ _ us hl => match us, hl with | [_], _ => rfl
  have F34 := fun_mk (st := sTake) l34 c34 k34
  have g34 := PySem.W.mg_of X G a34
  have b34 := F34.binds (ps := ["_law_box_here", "_law_many"]) fun _ _ _ _ _ _ us hl => match us, hl with | [_, _], _ => rfl
  have F35 := fun_mk (st := sMixed) l35 c35 k35
  have g35 := PySem.W.mg_of X G a35
  have b35 := F35.binds (ps := ["_law_box_here", "_law_some"]) fun _ _ _ _ _ _ us hl => match us, hl with | [_, _], _ => rfl
  have F36 := fun_mk (st := sDigits) l36 c36 k36
  have g36 := PySem.W.mg_of X G a36
  have b36 := F36.binds (ps := ["_law_box_here", "_law_base"]) fun _ _ _ _ _ _ us hl => match us, hl with | [_, _], _ => rfl
  have F37 := fun_mk (st := sPairs) l37 c37 k37
  have g37 := PySem.W.mg_of X G a37
  have b37 := F37.binds (ps := ["_law_digits_here"]) fun _ _ _ _ _ _ us hl => match us, hl with | [_], _ => rfl
  have F38 := fun_mk (st := sScheme) l38 c38 k38
  have g38 := PySem.W.mg_of X G a38
  have b38 := F38.binds (ps := ["_law_box_here"]) fun _ _ _ _ _ _ us hl => match us, hl with | [_], _ => rfl
  have F39 := fun_mk (st := sMade) l39 c39 k39
  have g39 := PySem.W.mg_of X G a39
  have b39 := F39.binds (ps := ["_law_model"]) fun _ _ _ _ _ _ us hl => match us, hl with | [_], _ => rfl
  have F40 := fun_mk (st := sValue) l40 c40 k40
  have g40 := PySem.W.mg_of X G a40
  have b40 := F40.binds (ps := ["_law_base", "_law_row"]) fun _ _ _ _ _ _ us hl => match us, hl with | [_, _], _ => rfl
  have F41 := fun_mk (st := sIsRow) l41 c41 k41
  have g41 := PySem.W.mg_of X G a41
  have b41 := F41.binds (ps := ["_law_model", "_law_row"]) fun _ _ _ _ _ _ us hl => match us, hl with | [_, _], _ => rfl
  have F42 := fun_mk (st := sIsPart) l42 c42 k42
  have g42 := PySem.W.mg_of X G a42
  have b42 := F42.binds (ps := ["_law_part"]) fun _ _ _ _ _ _ us hl => match us, hl with | [_], _ => rfl
  have F43 := fun_mk (st := sDue) l43 c43 k43
  have g43 := PySem.W.mg_of X G a43
  have b43 := F43.binds (ps := ["_law_model", "_law_amount", "_law_thing"]) fun _ _ _ _ _ _ us hl => match us, hl with | [_, _, _], _ => rfl
  have F44 := fun_mk (st := sSpoilt) l44 c44 k44
  have g44 := PySem.W.mg_of X G a44
  have b44 := F44.binds (ps := ["_law_box_here", "_law_model", "_law_thing"]) fun _ _ _ _ _ _ us hl => match us, hl with | [_, _, _], _ => rfl
  have F45 := fun_mk (st := sSomeD) l45 c45 k45
  have g45 := PySem.W.mg_of X G a45
  have b45 := F45.binds (ps := ["_law_box_here", "_law_model"]) fun _ _ _ _ _ _ us hl => match us, hl with | [_, _], _ => rfl
  have F46 := fun_mk (st := sDrawn) l46 c46 k46
  have g46 := PySem.W.mg_of X G a46
  have b46 := F46.binds (ps := ["_law_box_here", "_law_model"]) fun _ _ _ _ _ _ us hl => match us, hl with | [_, _], _ => rfl
  have F47 := fun_mk (st := sRefused) l47 c47 k47
  have g47 := PySem.W.mg_of X G a47
  have b47 := F47.binds (ps := ["_law_house", "_law_amount"]) fun _ _ _ _ _ _ us hl => match us, hl with | [_, _], _ => rfl
  have F48 := fun_mk (st := sRight) l48 c48 k48
  have g48 := PySem.W.mg_of X G a48
  have b48 := F48.binds (ps := ["_law_box_here"]) fun _ _ _ _ _ _ us hl => match us, hl with | [_], _ => rfl
  have F49 := fun_mk (st := sLaw) l49 c49 k49
  have g49 := PySem.W.mg_of X G a49
  have b49 := F49.binds (ps := ["_law_script"]) fun _ _ _ _ _ _ us hl => match us, hl with | [_], _ => rfl
  have FF := fun_mk (st := sFig) lF cF kF
  have bF := FF.binds (ps := ["self", "text"]) fun _ _ _ _ _ _ us hl => match us, hl with | [_, _], _ => rfl
  have TF : FigC K mg CF fF := ⟨PySem.W.mg_of X G aF, ⟨rF, gaF⟩, atF, kF⟩
  have FI1 := fun_mk (st := sInBase) lI1 cI1 kI1
  have bI1 := FI1.binds (ps := ["self", "value"]) fun _ _ _ _ _ _ us hl => match us, hl with | [_, _], _ => rfl
  have T1 : ErrC K mg "InvalidBase" "value" C1 fI1 := ⟨PySem.W.mg_of X G aC1, ⟨⟨_, _, _, _, _, _, _, _, _, _, _, _, _, _, _, xC1, by first | rfl | decide +kernel⟩, sa1, ex1, ty1, kC1⟩, iC1, tI1, no1, ⟨ga1, gg1, ex1, hd1⟩, exm_own ex1 ic1 ty1 sb1, ⟨cn1, ⟨⟨ga1, gg1, ex1, hd1⟩, by simpa [PySem.W.isClsIn] using ic1, haE1, xnE, xtE, hmE1, ty1, stE, fcE1, ⟨_, tkE1, xC1, rfl, rfl⟩, nnE1⟩⟩⟩
  have FI2 := fun_mk (st := sInDig) lI2 cI2 kI2
  have bI2 := FI2.binds (ps := ["self", "value"]) fun _ _ _ _ _ _ us hl => match us, hl with | [_, _], _ => rfl
  have T2 : ErrC K mg "InvalidDigits" "value" C2 fI2 := ⟨PySem.W.mg_of X G aC2, ⟨⟨_, _, _, _, _, _, _, _, _, _, _, _, _, _, _, xC2, by first | rfl | decide +kernel⟩, sa2, ex2, ty2, kC2⟩, iC2, tI2, no2, ⟨ga2, gg2, ex2, hd2⟩, exm_own ex2 ic2 ty2 sb2, ⟨cn2, ⟨⟨ga2, gg2, ex2, hd2⟩, by simpa [PySem.W.isClsIn] using ic2, haE2, xnE, xtE, hmE2, ty2, stE, fcE2, ⟨_, tkE2, xC2, rfl, rfl⟩, nnE2⟩⟩⟩
  have FI3 := fun_mk (st := sInBars) lI3 cI3 kI3
  have bI3 := FI3.binds (ps := ["self", "value"]) fun _ _ _ _ _ _ us hl => match us, hl with | [_, _], _ => rfl
  have T3 : ErrC K mg "InvalidBars" "value" C3 fI3 := ⟨PySem.W.mg_of X G aC3, ⟨⟨_, _, _, _, _, _, _, _, _, _, _, _, _, _, _, xC3, by first | rfl | decide +kernel⟩, sa3, ex3, ty3, kC3⟩, iC3, tI3, no3, ⟨ga3, gg3, ex3, hd3⟩, exm_own ex3 ic3 ty3 sb3, ⟨cn3, ⟨⟨ga3, gg3, ex3, hd3⟩, by simpa [PySem.W.isClsIn] using ic3, haE3, xnE, xtE, hmE3, ty3, stE, fcE3, ⟨_, tkE3, xC3, rfl, rfl⟩, nnE3⟩⟩⟩
  have FI4 := fun_mk (st := sNotS) lI4 cI4 kI4
  have bI4 := FI4.binds (ps := ["self", "value"]) fun _ _ _ _ _ _ us hl => match us, hl with | [_, _], _ => rfl
  have T4 : ErrC K mg "NotScheme" "value" C4 fI4 := ⟨PySem.W.mg_of X G aC4, ⟨⟨_, _, _, _, _, _, _, _, _, _, _, _, _, _, _, xC4, by first | rfl | decide +kernel⟩, sa4, ex4, ty4, kC4⟩, iC4, tI4, no4, ⟨ga4, gg4, ex4, hd4⟩, exm_own ex4 ic4 ty4 sb4, ⟨cn4, ⟨⟨ga4, gg4, ex4, hd4⟩, by simpa [PySem.W.isClsIn] using ic4, haE4, xnE, xtE, hmE4, ty4, stE, fcE4, ⟨_, tkE4, xC4, rfl, rfl⟩, nnE4⟩⟩⟩
  have FI5 := fun_mk (st := sInNum) lI5 cI5 kI5
  have bI5 := FI5.binds (ps := ["self", "number"]) fun _ _ _ _ _ _ us hl => match us, hl with | [_, _], _ => rfl
  have T5 : ErrC K mg "InvalidNumber" "number" C5 fI5 := ⟨PySem.W.mg_of X G aC5, ⟨⟨_, _, _, _, _, _, _, _, _, _, _, _, _, _, _, xC5, by first | rfl | decide +kernel⟩, sa5, ex5, ty5, kC5⟩, iC5, tI5, no5, ⟨ga5, gg5, ex5, hd5⟩, exm_own ex5 ic5 ty5 sb5, ⟨cn5, ⟨⟨ga5, gg5, ex5, hd5⟩, by simpa [PySem.W.isClsIn] using ic5, haE5, xnE, xtE, hmE5, ty5, stE, fcE5, ⟨_, tkE5, xC5, rfl, rfl⟩, nnE5⟩⟩⟩
  have FI6 := fun_mk (st := sInR) lI6 cI6 kI6
  have bI6 := FI6.binds (ps := ["self", "row"]) fun _ _ _ _ _ _ us hl => match us, hl with | [_, _], _ => rfl
  have T6 : ErrC K mg "InvalidRow" "row" C6 fI6 := ⟨PySem.W.mg_of X G aC6, ⟨⟨_, _, _, _, _, _, _, _, _, _, _, _, _, _, _, xC6, by first | rfl | decide +kernel⟩, sa6, ex6, ty6, kC6⟩, iC6, tI6, no6, ⟨ga6, gg6, ex6, hd6⟩, exm_own ex6 ic6 ty6 sb6, ⟨cn6, ⟨⟨ga6, gg6, ex6, hd6⟩, by simpa [PySem.W.isClsIn] using ic6, haE6, xnE, xtE, hmE6, ty6, stE, fcE6, ⟨_, tkE6, xC6, rfl, rfl⟩, nnE6⟩⟩⟩
  have cS : Cls K CS := ⟨pgS, hdS, poS, saS⟩
  have iS : IsC K CS := ⟨cS, haS, xn, xt, hmS, kit_own icS tyS sbS⟩
  have gS := PySem.W.mg_of X G aS
  have FM1 := fun_mk (st := sAllows) lM1 cM1 kM1
  have bM1 := FM1.binds (ps := ["self", "left", "right"]) fun _ _ _ _ _ _ us hl => match us, hl with | [_, _, _], _ => rfl
  have mm1 : Meth K CS "allows" h1 := ⟨at1, fn1, kM1⟩
  have FM2 := fun_mk (st := sHas) lM2 cM2 kM2
  have bM2 := FM2.binds (ps := ["self", "row"]) fun _ _ _ _ _ _ us hl => match us, hl with | [_, _], _ => rfl
  have mm2 : Meth K CS "__contains__" h2 := ⟨at2, fn2, kM2⟩
  have FM3 := fun_mk (st := sValueOf) lM3 cM3 kM3
  have bM3 := FM3.binds (ps := ["self", "row"]) fun _ _ _ _ _ _ us hl => match us, hl with | [_, _], _ => rfl
  have mm3 : Meth K CS "value_of" h3 := ⟨at3, fn3, kM3⟩
  have XPB := fun_mk (st := sPBase) lPB cPB kPB
  have bXPB := XPB.binds (ps := ["self"]) fun _ _ _ _ _ _ us hl => match us, hl with | [_], _ => rfl
  have XPD := fun_mk (st := sPDigits) lPD cPD kPD
  have bXPD := XPD.binds (ps := ["self"]) fun _ _ _ _ _ _ us hl => match us, hl with | [_], _ => rfl
  have pb : PropOf K CS "base" pB gB := ⟨apB, gtB, tkB, ⟨_, rcB⟩⟩
  have pd : PropOf K CS "digits" pD gD := ⟨apD, gtD, tkD, ⟨_, rcD⟩⟩
  have FIn : FunD K "__init__" "Scheme.__init__" (defArgs sInit) (defBody sInit) (defScope sInit) [] [("bars", .ref TD)] hN _ := ⟨⟨_, _, _, _, _, _, _, _, _, _, rfl, lIn, cIn, .inl ⟨rfl, rfl⟩, .inr ⟨DK, rfl, fun q hq => by cases List.mem_singleton.mp hq; exact ⟨_, nsB, rfl⟩⟩⟩, kIn⟩
  have hTD : ∀ H, IsSeq K H TD [] := fun H => .kt lT rfl (.inr ⟨_, #[], nT, lT, rfl, rfl, by decide, .nil⟩)
  have y_len := PySem.W.mg_none_of X G z1
  have y_range := PySem.W.mg_none_of X G z2
  have y_int := PySem.W.mg_none_of X G z3
  have y_bool := PySem.W.mg_none_of X G z4
  have y_isinstance := PySem.W.mg_none_of X G z5
  have y_repr := PySem.W.mg_none_of X G z6
  have y_list := PySem.W.mg_none_of X G z7
  have y_tuple := PySem.W.mg_none_of X G z8
  have y_set := PySem.W.mg_none_of X G z9
  have y_sorted := PySem.W.mg_none_of X G z10
  have y_all := PySem.W.mg_none_of X G z11
  have y_max := PySem.W.mg_none_of X G z12
  have y_min := PySem.W.mg_none_of X G z13
  have y_abs := PySem.W.mg_none_of X G z14
  have y_ValueError := PySem.W.mg_none_of X G z15
  have y_zip := PySem.W.mg_none_of X G z16
  have u_MOST_DIGITS := PySem.W.mg_of X G v1
  have u_GREATEST_DIGIT := PySem.W.mg_of X G v2
  have u_GREATEST_BASE := PySem.W.mg_of X G v3
  refine ⟨PySem.W.fnOf "law" "law" (defArgs sLaw) (defBody sLaw) (defScope sLaw) .none kV49 dc49 pm49 an49 cd49 ct49, fun s v => .of_eq rfl, fun base _ _ TB TL => ?_⟩
  have E1 := (ok_InvalidBase (P := l.prog) (w := w) (base := base) FI1 FF TF bF T1 y_ValueError vV).mono (by decide : 2 ≤ 3)
  have E2 := (ok_InvalidDigits (P := l.prog) (w := w) (base := base) FI2 FF TF bF T2 y_ValueError vV).mono (by decide : 2 ≤ 3)
  have E3 := (ok_InvalidBars (P := l.prog) (w := w) (base := base) FI3 FF TF bF T3 y_ValueError vV).mono (by decide : 2 ≤ 3)
  have E4 := (ok_NotScheme (P := l.prog) (w := w) (base := base) FI4 FF TF bF T4 y_ValueError vV).mono (by decide : 2 ≤ 3)
  have E5 := (ok_InvalidNumber (P := l.prog) (w := w) (base := base) FI5 FF TF bF T5 y_ValueError vV).mono (by decide : 2 ≤ 3)
  have E6 := (ok_InvalidRow (P := l.prog) (w := w) (base := base) FI6 FF TF bF T6 y_ValueError vV).mono (by decide : 2 ≤ 3)
  have G1 := ok_whole (P := l.prog) (w := w) (base := base) F1 y_isinstance y_int y_bool
  have G2 := ok_isint (P := l.prog) (w := w) (base := base) F2 G1 g1 F1.kp b1
  have G3 := ok_isbase (P := l.prog) (w := w) (base := base) F3 G2 g2 F2.kp b2 u_GREATEST_BASE
  have G4 := ok_isdigit (P := l.prog) (w := w) (base := base) F4 G2 g2 F2.kp b2 u_GREATEST_DIGIT
  have G5 := ok_are (P := l.prog) (w := w) (base := base) F5 G4 g4 F4.kp b4 y_all
  have G6 := ok_oneof (P := l.prog) (w := w) (base := base) F6 G4 g4 F4.kp b4
  have G7 := ok_ispair (P := l.prog) (w := w) (base := base) F7 G6 g6 F6.kp b6 y_isinstance y_len y_all y_tuple
  have G8 := ok_diglist (P := l.prog) (w := w) (base := base) F8 G5 g5 F5.kp b5 y_isinstance y_list y_tuple
  have G9 := ok_diffdig (P := l.prog) (w := w) (base := base) F9 G8 g8 F8.kp b8 E2 T2 bI2 u_MOST_DIGITS y_len y_set y_sorted y_tuple
  have G10 := ok_diffpair (P := l.prog) (w := w) (base := base) F10 G7 g7 F7.kp b7 E3 T3 bI3 y_isinstance y_list y_set y_sorted y_tuple
  have GN := ok_new (P := l.prog) (w := w) (base := base) ⟨_, FIn⟩ cS nB nD nR G3 g3 F3.kp b3 G9 g9 F9.kp b9 G10 g10 F10.kp b10 E1 T1 bI1
  have MK : Mk K CS hN := ⟨mkS, atN, fnN, kpS⟩
  have GA := ok_allows (P := l.prog) (w := w) (base := base) FM1 cS nD nR G6 g6 F6.kp b6
  have GH := ok_has (P := l.prog) (w := w) (base := base) FM2 cS mm1 GA bM1 y_isinstance y_tuple y_all y_zip
  have GVO := ok_valueof (P := l.prog) (w := w) (base := base) FM3 cS nB mm2 GH bM2 E6 T6 bI6
  have NK : NotK K CS := notK_of tyS icS
  have PBx := ok_pbase (mg := mg) (P := l.prog) (w := w) (base := base) XPB cS nB
  have PDx := ok_pdigits (mg := mg) (P := l.prog) (w := w) (base := base) XPD cS nD
  have LFx := ok_left (P := l.prog) (w := w) (base := base) F11 cS pd PDx bXPD mm1 GA bM1
  have ALx := ok_allleft (P := l.prog) (w := w) (base := base) F12 cS pd PDx bXPD LFx g11 F11.kp b11
  have BHx := ok_behind (mg := mg) (P := l.prog) (w := w) (base := base) F13
  have nTP : PT ≠ PL := beq_eq_false_iff_ne.mp nPL
  have FOx := ok_follow (T := [(PT, qLam), (PL, qLiv)]) (P := l.prog) (w := w) (base := base) F14 ecF TB (List.mem_cons_self) (fun p hp e => by
    rcases List.mem_cons.mp hp with z | z
    · rw [z]
    · rw [List.mem_singleton.mp z] at e
      exact absurd e.symm nTP) cS pb PBx bXPB ALx g12 F12.kp b12
  have GRx := ok_graphF (mg := mg) (P := l.prog) (w := w) (base := base) F16 y_list
  have PGx := ok_pgraphR (P := l.prog) (w := w) (base := base) F17 GRx g16 F16.kp b16 FOx g14 F14.kp b14 BHx g13 F13.kp b13
  have IEx := ok_isend (mg := mg) (P := l.prog) (w := w) (base := base) F15
  have TUx := ok_turned (mg := mg) (P := l.prog) (w := w) (base := base) F18
  have LVx := ok_live (T := [(PT, qLam), (PL, qLiv)]) (P := l.prog) (w := w) (base := base) F19 ecL TL (List.mem_cons_of_mem _ List.mem_cons_self) (fun p hp e => by
    rcases List.mem_cons.mp hp with z | z
    · rw [z] at e
      exact absurd e nTP
    · rw [List.mem_singleton.mp z]) IEx g15 F15.kp b15 TUx g18 F18.kp b18 GRx g16 F16.kp b16
  have PLx := ok_plain (P := l.prog) (w := w) (base := base) F26 PGx g17 F17.kp b17 LVx g19 F19.kp b19
  have UNx := ok_unt (mg := mg) (P := l.prog) (w := w) (base := base) F20
  have WBx := ok_back (mg := mg) (P := l.prog) (w := w) (base := base) F22
  have WYx := ok_way (P := l.prog) (w := w) (base := base) F21 WBx g22 F22.kp b22
  have RBx := ok_rowb (P := l.prog) (w := w) (base := base) F27 WYx g21 F21.kp b21 y_tuple
  have MIx := ok_mid (P := l.prog) (w := w) (base := base) F28 RBx g27 F27.kp b27
  have ISx := ok_issch (P := l.prog) (w := w) (base := base) F23 iS NK gS y_isinstance
  have CSx := ok_checks (P := l.prog) (w := w) (base := base) F24 ISx g23 F23.kp b23 E4 T4 bI4
  have CNx := ok_checkn (P := l.prog) (w := w) (base := base) F25 G1 g1 F1.kp b1 E5 T5 bI5
  have LOx := ok_loop (P := l.prog) (w := w) (base := base) F29 CSx g24 F24.kp b24 CNx g25 F25.kp b25 PLx g26 F26.kp b26 UNx g20 F20.kp b20 IEx g15 F15.kp b15 MIx g28 F28.kp b28 RBx g27 F27.kp b27
  have IPx := ok_ispr (P := l.prog) (w := w) (base := base) F30 cS mm2 GH bM2 mm3 GVO bM3
  have ILx := ok_isloop (P := l.prog) (w := w) (base := base) F31 CSx g24 F24.kp b24 CNx g25 F25.kp b25 IPx g30 F30.kp b30 y_isinstance y_tuple y_len y_all y_range
  have ask : AskC K C4 := ⟨by simpa [PySem.W.isClsIn] using ic4, T4.xf, xa, xn, xt, xm⟩
  have ap : PySem.W.exmOne K (.ref C5) (.ref C4) = some false := exm_off ex4 ic4 ty4 s54 sb5
  have kk : PySem.W.kitOne K (.ref C4) (.ref CF) = some true := kit_own xi xy xs
  have MX := ok_mixedP (P := l.prog) (w := w) (base := base) F35 F34 g34 b34 y_int y_len y_range y_list
  have DG := ok_digits (P := l.prog) (w := w) (base := base) F36 F34 g34 b34 y_int y_len y_range y_list y_abs
  have PR := ok_pairs (mg := mg) (P := l.prog) (w := w) (base := base) F37
  have SC := ok_scheme (P := l.prog) (w := w) (base := base) F38 F34 g34 b34 DG g36 F36.kp b36 PR g37 F37.kp b37 y_int y_sorted
  have MD := ok_made (P := l.prog) (w := w) (base := base) F39 FIn MK gS GN
  have VA := ok_value (mg := mg) (P := l.prog) (w := w) (base := base) F40
  have IRW := ok_isrow (P := l.prog) (w := w) (base := base) F41 y_len y_range
  have IPT := ok_ispart (P := l.prog) (w := w) (base := base) F42 y_isinstance y_tuple y_int y_bool y_abs y_len
  have DU := ok_due (P := l.prog) (w := w) (base := base) F43 IPT g42 F42.kp b42 IRW g41 F41.kp b41 VA g40 F40.kp b40 y_isinstance y_tuple y_len y_range
  have SD := ok_somed (P := l.prog) (w := w) (base := base) F45 F34 g34 b34 y_int y_len
  have DR := ok_drawn (P := l.prog) (w := w) (base := base) F46 F34 g34 b34 SD g45 F45.kp b45 y_int y_range y_tuple
  have SP := ok_spoilt (P := l.prog) (w := w) (base := base) F44 F34 g34 b34 SD g45 F45.kp b45 y_int y_len y_tuple y_list
  have RF := ok_refused (P := l.prog) (w := w) (base := base) F47 ILx g31 F31.kp b31 T4 T5 TF ask kk y_isinstance ap
  have R := ok_right (P := l.prog) (w := w) (base := base) F48 F34 g34 b34 SC g38 F38.kp b38 MX g35 F35.kp b35 MD g39 F39.kp b39 LOx g29 F29.kp b29 DR g46 F46.kp b46 F31 ILx g31 b31 DU g43 F43.kp b43 SP g44 F44.kp b44 RF g47 F47.kp b47 y_int y_range y_repr y_sorted y_list
  exact ok_law F49 F32 g32 b32 F33 g33 b33 R g48 F48.kp b48 y_int y_len y_range y_max y_min
end K19
set_option maxHeartbeats 0
namespace K19
open PySem PySem.Spec PyProof.Rows L2 OF LamX NdefX K19H
theorem from_head {l : PySem.W.OpenLaw} {w : World} {K : PySem.W.Frag} {h : Heap} {mg : Str → Option Value} {fa : Addr} (X : K.In h) (G : h.Ns mainGlobals mg) (hfa : mg "law" = some (.ref fa)) (c : OF.Says hfn htf hex h K) :
    ∃ fd : FuncData, (∀ (s : Shared) (v : Value), BindsTo s fd ⟨[v], []⟩ [("_law_script", v)]) ∧ ∀ base : Heap, K.In base → base.Ns mainGlobals mg → TabB base mg (He.cT K ("follower", none)).1 (He.cT K ("follower", none)).2 → TabB base mg (He.cT K ("live_graph", none)).1 (He.cT K ("live_graph", none)).2 → FnG l.prog w K mg base 13 fa fd ["_law_script"] (spLaw K [((He.cT K ("follower", none)).2, qLam), ((He.cT K ("live_graph", none)).2, qLiv)]) := by
  obtain ⟨oc0_, od0_, kV0_, dc0_, pm0_, an0_, cd0_, ct0_, sl0_, fl0, fc0, fk0⟩ := c.fun_ 0 (f := l_f1) (x := "is_whole") (q := "is_whole") (st := sWhole) rfl
  obtain ⟨oc1_, od1_, kV1_, dc1_, pm1_, an1_, cd1_, ct1_, sl1_, fl1, fc1, fk1⟩ := c.fun_ 1 (f := l_f2) (x := "is_integer") (q := "is_integer") (st := sIsInt) rfl
  obtain ⟨oc2_, od2_, kV2_, dc2_, pm2_, an2_, cd2_, ct2_, sl2_, fl2, fc2, fk2⟩ := c.fun_ 2 (f := l_f3) (x := "is_base") (q := "is_base") (st := sIsBase) rfl
  obtain ⟨oc3_, od3_, kV3_, dc3_, pm3_, an3_, cd3_, ct3_, sl3_, fl3, fc3, fk3⟩ := c.fun_ 3 (f := l_f4) (x := "is_digit") (q := "is_digit") (st := sIsDigit) rfl
  obtain ⟨oc4_, od4_, kV4_, dc4_, pm4_, an4_, cd4_, ct4_, sl4_, fl4, fc4, fk4⟩ := c.fun_ 4 (f := l_f5) (x := "are_digits") (q := "are_digits") (st := sAre) rfl
  obtain ⟨oc5_, od5_, kV5_, dc5_, pm5_, an5_, cd5_, ct5_, sl5_, fl5, fc5, fk5⟩ := c.fun_ 5 (f := l_f6) (x := "_is_one_of") (q := "_is_one_of") (st := sOneOf) rfl
  obtain ⟨oc6_, od6_, kV6_, dc6_, pm6_, an6_, cd6_, ct6_, sl6_, fl6, fc6, fk6⟩ := c.fun_ 6 (f := l_f7) (x := "_is_pair") (q := "_is_pair") (st := sIsPair) rfl
  obtain ⟨oc7_, od7_, kV7_, dc7_, pm7_, an7_, cd7_, ct7_, sl7_, fl7, fc7, fk7⟩ := c.fun_ 7 (f := l_f8) (x := "_is_digit_list") (q := "_is_digit_list") (st := sDigList) rfl
  obtain ⟨oc8_, od8_, kV8_, dc8_, pm8_, an8_, cd8_, ct8_, sl8_, fl8, fc8, fk8⟩ := c.fun_ 8 (f := l_f9) (x := "_different_digits") (q := "_different_digits") (st := sDiffDig) rfl
  obtain ⟨oc9_, od9_, kV9_, dc9_, pm9_, an9_, cd9_, ct9_, sl9_, fl9, fc9, fk9⟩ := c.fun_ 9 (f := l_f10) (x := "_different_pairs") (q := "_different_pairs") (st := sDiffPair) rfl
  obtain ⟨oc10_, od10_, kV10_, dc10_, pm10_, an10_, cd10_, ct10_, sl10_, fl10, fc10, fk10⟩ := c.fun_ 10 (f := l_f11) (x := "left_digits") (q := "left_digits") (st := sLeft) rfl
  obtain ⟨oc11_, od11_, kV11_, dc11_, pm11_, an11_, cd11_, ct11_, sl11_, fl11, fc11, fk11⟩ := c.fun_ 11 (f := l_f12) (x := "all_left_digits") (q := "all_left_digits") (st := sAllLeft) rfl
  obtain ⟨oc12_, od12_, kV12_, dc12_, pm12_, an12_, cd12_, ct12_, sl12_, fl12, fc12, fk12⟩ := c.fun_ 12 (f := l_f13) (x := "places_behind") (q := "places_behind") (st := sBehind) rfl
  obtain ⟨oc13_, od13_, kV13_, dc13_, pm13_, an13_, cd13_, ct13_, sl13_, fl13, fc13, fk13⟩ := c.fun_ 13 (f := l_f14) (x := "follower") (q := "follower") (st := sFollow) rfl
  obtain ⟨oc14_, od14_, kV14_, dc14_, pm14_, an14_, cd14_, ct14_, sl14_, fl14, fc14, fk14⟩ := c.fun_ 14 (f := l_f15) (x := "is_end") (q := "is_end") (st := sIsEnd) rfl
  obtain ⟨oc15_, od15_, kV15_, dc15_, pm15_, an15_, cd15_, ct15_, sl15_, fl15, fc15, fk15⟩ := c.fun_ 15 (f := l_f16) (x := "graph_from") (q := "graph_from") (st := sGraph) rfl
  obtain ⟨oc16_, od16_, kV16_, dc16_, pm16_, an16_, cd16_, ct16_, sl16_, fl16, fc16, fk16⟩ := c.fun_ 16 (f := l_f17) (x := "place_graph") (q := "place_graph") (st := sPGraph) rfl
  obtain ⟨oc17_, od17_, kV17_, dc17_, pm17_, an17_, cd17_, ct17_, sl17_, fl17, fc17, fk17⟩ := c.fun_ 17 (f := l_f18) (x := "turned") (q := "turned") (st := sTurned) rfl
  obtain ⟨oc18_, od18_, kV18_, dc18_, pm18_, an18_, cd18_, ct18_, sl18_, fl18, fc18, fk18⟩ := c.fun_ 18 (f := l_f19) (x := "live_graph") (q := "live_graph") (st := sLive) rfl
  obtain ⟨oc19_, od19_, kV19_, dc19_, pm19_, an19_, cd19_, ct19_, sl19_, fl19, fc19, fk19⟩ := c.fun_ 19 (f := l_f20) (x := "untangled") (q := "untangled") (st := sUnt) rfl
  obtain ⟨oc20_, od20_, kV20_, dc20_, pm20_, an20_, cd20_, ct20_, sl20_, fl20, fc20, fk20⟩ := c.fun_ 20 (f := l_f21) (x := "way") (q := "way") (st := sWay) rfl
  obtain ⟨oc21_, od21_, kV21_, dc21_, pm21_, an21_, cd21_, ct21_, sl21_, fl21, fc21, fk21⟩ := c.fun_ 21 (f := l_f22) (x := "_way_back") (q := "_way_back") (st := sBack) rfl
  obtain ⟨oc22_, od22_, kV22_, dc22_, pm22_, an22_, cd22_, ct22_, sl22_, fl22, fc22, fk22⟩ := c.fun_ 22 (f := l_f23) (x := "is_scheme") (q := "is_scheme") (st := sIsSch) rfl
  obtain ⟨oc23_, od23_, kV23_, dc23_, pm23_, an23_, cd23_, ct23_, sl23_, fl23, fc23, fk23⟩ := c.fun_ 23 (f := l_f24) (x := "check_scheme") (q := "check_scheme") (st := sCheckS) rfl
  obtain ⟨oc24_, od24_, kV24_, dc24_, pm24_, an24_, cd24_, ct24_, sl24_, fl24, fc24, fk24⟩ := c.fun_ 24 (f := l_f25) (x := "check_number") (q := "check_number") (st := sCheckN) rfl
  obtain ⟨oc25_, od25_, kV25_, dc25_, pm25_, an25_, cd25_, ct25_, sl25_, fl25, fc25, fk25⟩ := c.fun_ 25 (f := l_f26) (x := "_plain_graph") (q := "_plain_graph") (st := sPlain) rfl
  obtain ⟨oc26_, od26_, kV26_, dc26_, pm26_, an26_, cd26_, ct26_, sl26_, fl26, fc26, fk26⟩ := c.fun_ 26 (f := l_f27) (x := "_row_between") (q := "_row_between") (st := sRowB) rfl
  obtain ⟨oc27_, od27_, kV27_, dc27_, pm27_, an27_, cd27_, ct27_, sl27_, fl27, fc27, fk27⟩ := c.fun_ 27 (f := l_f28) (x := "_middle") (q := "_middle") (st := sMid) rfl
  obtain ⟨oc28_, od28_, kV28_, dc28_, pm28_, an28_, cd28_, ct28_, sl28_, fl28, fc28, fk28⟩ := c.fun_ 28 (f := l_f29) (x := "loop") (q := "loop") (st := sLoop) rfl
  obtain ⟨oc29_, od29_, kV29_, dc29_, pm29_, an29_, cd29_, ct29_, sl29_, fl29, fc29, fk29⟩ := c.fun_ 29 (f := l_f30) (x := "is_plain_row_of") (q := "is_plain_row_of") (st := sIsPR) rfl
  obtain ⟨oc30_, od30_, kV30_, dc30_, pm30_, an30_, cd30_, ct30_, sl30_, fl30, fc30, fk30⟩ := c.fun_ 30 (f := l_f31) (x := "is_loop") (q := "is_loop") (st := sIsLoop) rfl
  obtain ⟨oc31_, od31_, kV31_, dc31_, pm31_, an31_, cd31_, ct31_, sl31_, fl31, fc31, fk31⟩ := c.fun_ 31 (f := l_f32) (x := "_law_cell") (q := "_law_cell") (st := sCell) rfl
  obtain ⟨oc32_, od32_, kV32_, dc32_, pm32_, an32_, cd32_, ct32_, sl32_, fl32, fc32, fk32⟩ := c.fun_ 32 (f := l_f33) (x := "_law_box") (q := "_law_box") (st := sBox) rfl
  obtain ⟨oc33_, od33_, kV33_, dc33_, pm33_, an33_, cd33_, ct33_, sl33_, fl33, fc33, fk33⟩ := c.fun_ 33 (f := l_f34) (x := "_law_take") (q := "_law_take") (st := sTake) rfl
  obtain ⟨oc34_, od34_, kV34_, dc34_, pm34_, an34_, cd34_, ct34_, sl34_, fl34, fc34, fk34⟩ := c.fun_ 34 (f := l_f35) (x := "_law_mixed") (q := "_law_mixed") (st := sMixed) rfl
  obtain ⟨oc35_, od35_, kV35_, dc35_, pm35_, an35_, cd35_, ct35_, sl35_, fl35, fc35, fk35⟩ := c.fun_ 35 (f := l_f36) (x := "_law_digits") (q := "_law_digits") (st := sDigits) rfl
  obtain ⟨oc36_, od36_, kV36_, dc36_, pm36_, an36_, cd36_, ct36_, sl36_, fl36, fc36, fk36⟩ := c.fun_ 36 (f := l_f37) (x := "_law_pairs") (q := "_law_pairs") (st := sPairs) rfl
  obtain ⟨oc37_, od37_, kV37_, dc37_, pm37_, an37_, cd37_, ct37_, sl37_, fl37, fc37, fk37⟩ := c.fun_ 37 (f := l_f38) (x := "_law_scheme") (q := "_law_scheme") (st := sScheme) rfl
  obtain ⟨oc38_, od38_, kV38_, dc38_, pm38_, an38_, cd38_, ct38_, sl38_, fl38, fc38, fk38⟩ := c.fun_ 38 (f := l_f39) (x := "_law_made") (q := "_law_made") (st := sMade) rfl
  obtain ⟨oc39_, od39_, kV39_, dc39_, pm39_, an39_, cd39_, ct39_, sl39_, fl39, fc39, fk39⟩ := c.fun_ 39 (f := l_f40) (x := "_law_value") (q := "_law_value") (st := sValue) rfl
  obtain ⟨oc40_, od40_, kV40_, dc40_, pm40_, an40_, cd40_, ct40_, sl40_, fl40, fc40, fk40⟩ := c.fun_ 40 (f := l_f41) (x := "_law_is_row") (q := "_law_is_row") (st := sIsRow) rfl
  obtain ⟨oc41_, od41_, kV41_, dc41_, pm41_, an41_, cd41_, ct41_, sl41_, fl41, fc41, fk41⟩ := c.fun_ 41 (f := l_f42) (x := "_law_is_part") (q := "_law_is_part") (st := sIsPart) rfl
  obtain ⟨oc42_, od42_, kV42_, dc42_, pm42_, an42_, cd42_, ct42_, sl42_, fl42, fc42, fk42⟩ := c.fun_ 42 (f := l_f43) (x := "_law_due") (q := "_law_due") (st := sDue) rfl
  obtain ⟨oc43_, od43_, kV43_, dc43_, pm43_, an43_, cd43_, ct43_, sl43_, fl43, fc43, fk43⟩ := c.fun_ 43 (f := l_f44) (x := "_law_spoilt") (q := "_law_spoilt") (st := sSpoilt) rfl
  obtain ⟨oc44_, od44_, kV44_, dc44_, pm44_, an44_, cd44_, ct44_, sl44_, fl44, fc44, fk44⟩ := c.fun_ 44 (f := l_f45) (x := "_law_some_digit") (q := "_law_some_digit") (st := sSomeD) rfl
  obtain ⟨oc45_, od45_, kV45_, dc45_, pm45_, an45_, cd45_, ct45_, sl45_, fl45, fc45, fk45⟩ := c.fun_ 45 (f := l_f46) (x := "_law_drawn") (q := "_law_drawn") (st := sDrawn) rfl
  obtain ⟨oc46_, od46_, kV46_, dc46_, pm46_, an46_, cd46_, ct46_, sl46_, fl46, fc46, fk46⟩ := c.fun_ 46 (f := l_f47) (x := "_law_refused") (q := "_law_refused") (st := sRefused) rfl
  obtain ⟨oc47_, od47_, kV47_, dc47_, pm47_, an47_, cd47_, ct47_, sl47_, fl47, fc47, fk47⟩ := c.fun_ 47 (f := l_f48) (x := "_law_right") (q := "_law_right") (st := sRight) rfl
  obtain ⟨oc48_, od48_, kV48_, dc48_, pm48_, an48_, cd48_, ct48_, sl48_, fl48, fc48, fk48⟩ := c.fun_ 48 (f := l_f49) (x := "law") (q := "law") (st := sLaw) rfl
  obtain ⟨oc49_, od49_, kV49_, dc49_, pm49_, an49_, cd49_, ct49_, sl49_, fl49, fc49, fk49⟩ := c.fun_ 49 (f := l_fF) (x := "__init__") (q := "FigureError.__init__") (st := sFig) rfl
  obtain ⟨oc50_, od50_, kV50_, dc50_, pm50_, an50_, cd50_, ct50_, sl50_, fl50, fc50, fk50⟩ := c.fun_ 50 (f := l_fI1) (x := "__init__") (q := "InvalidBase.__init__") (st := sInBase) rfl
  obtain ⟨oc51_, od51_, kV51_, dc51_, pm51_, an51_, cd51_, ct51_, sl51_, fl51, fc51, fk51⟩ := c.fun_ 51 (f := l_fI2) (x := "__init__") (q := "InvalidDigits.__init__") (st := sInDig) rfl
  obtain ⟨oc52_, od52_, kV52_, dc52_, pm52_, an52_, cd52_, ct52_, sl52_, fl52, fc52, fk52⟩ := c.fun_ 52 (f := l_fI3) (x := "__init__") (q := "InvalidBars.__init__") (st := sInBars) rfl
  obtain ⟨oc53_, od53_, kV53_, dc53_, pm53_, an53_, cd53_, ct53_, sl53_, fl53, fc53, fk53⟩ := c.fun_ 53 (f := l_fI4) (x := "__init__") (q := "NotScheme.__init__") (st := sNotS) rfl
  obtain ⟨oc54_, od54_, kV54_, dc54_, pm54_, an54_, cd54_, ct54_, sl54_, fl54, fc54, fk54⟩ := c.fun_ 54 (f := l_fI5) (x := "__init__") (q := "InvalidNumber.__init__") (st := sInNum) rfl
  obtain ⟨oc55_, od55_, kV55_, dc55_, pm55_, an55_, cd55_, ct55_, sl55_, fl55, fc55, fk55⟩ := c.fun_ 55 (f := l_fI6) (x := "__init__") (q := "InvalidRow.__init__") (st := sInR) rfl
  obtain ⟨oc56_, od56_, kV56_, dc56_, pm56_, an56_, cd56_, ct56_, sl56_, fl56, fc56, fk56⟩ := c.fun_ 56 (f := l_h1) (x := "allows") (q := "Scheme.allows") (st := sAllows) rfl
  obtain ⟨oc57_, od57_, kV57_, dc57_, pm57_, an57_, cd57_, ct57_, sl57_, fl57, fc57, fk57⟩ := c.fun_ 57 (f := l_h2) (x := "__contains__") (q := "Scheme.__contains__") (st := sHas) rfl
  obtain ⟨oc58_, od58_, kV58_, dc58_, pm58_, an58_, cd58_, ct58_, sl58_, fl58, fc58, fk58⟩ := c.fun_ 58 (f := l_h3) (x := "value_of") (q := "Scheme.value_of") (st := sValueOf) rfl
  obtain ⟨oc59_, od59_, kV59_, dc59_, pm59_, an59_, cd59_, ct59_, sl59_, fl59, fc59, fk59⟩ := c.fun_ 59 (f := l_hN) (x := "__init__") (q := "Scheme.__init__") (st := sInit) rfl
  have kw59 := OF.kwdR_ok (OF.nthB c.more 0 rfl) fl59
  subst kw59
  obtain ⟨oc60_, od60_, kV60_, dc60_, pm60_, an60_, cd60_, ct60_, sl60_, fl60, fc60, fk60⟩ := c.fun_ 60 (f := l_gB) (x := "base") (q := "Scheme.base") (st := sPBase) rfl
  obtain ⟨oc61_, od61_, kV61_, dc61_, pm61_, an61_, cd61_, ct61_, sl61_, fl61, fc61, fk61⟩ := c.fun_ 61 (f := l_gD) (x := "digits") (q := "Scheme.digits") (st := sPDigits) rfl
  have ecF_ : cd13_ = .ref (He.cT K ("follower", none)).1 := by
    obtain ⟨c0_, e0_⟩ := He.codeIn_ref fc13
    subst e0_
    exact congrArg Value.ref (He.codeOf_eq (p := ("follower", none)) fl13 rfl).symm
  have ecL_ : cd18_ = .ref (He.cT K ("live_graph", none)).1 := by
    obtain ⟨c0_, e0_⟩ := He.codeIn_ref fc18
    subst e0_
    exact congrArg Value.ref (He.codeOf_eq (p := ("live_graph", none)) fl18 rfl).symm
  obtain ⟨x57_0, x57_1, x57_2, x57_3, x57_4, x57_5, x57_6, x57_7, x57_8, x57_9, x57_10, x57_11, x57_12, x57_13, x57_14, x57⟩ := OF.excB_ok (OF.nthB c.more 56 rfl)
  obtain ⟨x71_0, x71_1, x71_2, x71_3, x71_4, x71_5, x71_6, x71_7, x71_8, x71_9, x71_10, x71_11, x71_12, x71_13, x71_14, x71⟩ := OF.excB_ok (OF.nthB c.more 70 rfl)
  obtain ⟨x85_0, x85_1, x85_2, x85_3, x85_4, x85_5, x85_6, x85_7, x85_8, x85_9, x85_10, x85_11, x85_12, x85_13, x85_14, x85⟩ := OF.excB_ok (OF.nthB c.more 84 rfl)
  obtain ⟨x99_0, x99_1, x99_2, x99_3, x99_4, x99_5, x99_6, x99_7, x99_8, x99_9, x99_10, x99_11, x99_12, x99_13, x99_14, x99⟩ := OF.excB_ok (OF.nthB c.more 98 rfl)
  obtain ⟨x113_0, x113_1, x113_2, x113_3, x113_4, x113_5, x113_6, x113_7, x113_8, x113_9, x113_10, x113_11, x113_12, x113_13, x113_14, x113⟩ := OF.excB_ok (OF.nthB c.more 112 rfl)
  obtain ⟨x127_0, x127_1, x127_2, x127_3, x127_4, x127_5, x127_6, x127_7, x127_8, x127_9, x127_10, x127_11, x127_12, x127_13, x127_14, x127⟩ := OF.excB_ok (OF.nthB c.more 126 rfl)
  obtain ⟨x166_0, x166⟩ := OF.recB_ok (OF.nthB c.more 165 rfl)
  obtain ⟨x170_0, x170⟩ := OF.recB_ok (OF.nthB c.more 169 rfl)
  obtain ⟨x174_0, x174_1, x174_2, x174⟩ := OF.tup0B_ok (OF.nthB c.more 173 rfl)
  obtain ⟨x198_0, x198⟩ := OF.intB_ok (OF.nthB c.more 197 rfl)
  obtain ⟨x199_0, x199⟩ := OF.intB_ok (OF.nthB c.more 198 rfl)
  obtain ⟨x200_0, x200⟩ := OF.intB_ok (OF.nthB c.more 199 rfl)
  exact all_mk X G hfa (of_decide_eq_true (OF.nthB c.more 1 rfl)) fl0 fc0 fk0 (of_decide_eq_true (OF.nthB c.more 2 rfl)) fl1 fc1 fk1 (of_decide_eq_true (OF.nthB c.more 3 rfl)) fl2 fc2 fk2 (of_decide_eq_true (OF.nthB c.more 4 rfl)) fl3 fc3 fk3 (of_decide_eq_true (OF.nthB c.more 5 rfl)) fl4 fc4 fk4 (of_decide_eq_true (OF.nthB c.more 6 rfl)) fl5 fc5 fk5 (of_decide_eq_true (OF.nthB c.more 7 rfl)) fl6 fc6 fk6 (of_decide_eq_true (OF.nthB c.more 8 rfl)) fl7 fc7 fk7 (of_decide_eq_true (OF.nthB c.more 9 rfl)) fl8 fc8 fk8 (of_decide_eq_true (OF.nthB c.more 10 rfl)) fl9 fc9 fk9 (of_decide_eq_true (OF.nthB c.more 11 rfl)) fl10 fc10 fk10 (of_decide_eq_true (OF.nthB c.more 12 rfl)) fl11 fc11 fk11 (of_decide_eq_true (OF.nthB c.more 13 rfl)) fl12 fc12 fk12 (of_decide_eq_true (OF.nthB c.more 14 rfl)) fl13 fc13 fk13 (of_decide_eq_true (OF.nthB c.more 15 rfl)) fl14 fc14 fk14 (of_decide_eq_true (OF.nthB c.more 16 rfl)) fl15 fc15 fk15 (of_decide_eq_true (OF.nthB c.more 17 rfl)) fl16 fc16 fk16 (of_decide_eq_true (OF.nthB c.more 18 rfl)) fl17 fc17 fk17 (of_decide_eq_true (OF.nthB c.more 19 rfl)) fl18 fc18 fk18 (of_decide_eq_true (OF.nthB c.more 20 rfl)) fl19 fc19 fk19 (of_decide_eq_true (OF.nthB c.more 21 rfl)) fl20 fc20 fk20 (of_decide_eq_true (OF.nthB c.more 22 rfl)) fl21 fc21 fk21 (of_decide_eq_true (OF.nthB c.more 23 rfl)) fl22 fc22 fk22 (of_decide_eq_true (OF.nthB c.more 24 rfl)) fl23 fc23 fk23 (of_decide_eq_true (OF.nthB c.more 25 rfl)) fl24 fc24 fk24 (of_decide_eq_true (OF.nthB c.more 26 rfl)) fl25 fc25 fk25 (of_decide_eq_true (OF.nthB c.more 27 rfl)) fl26 fc26 fk26 (of_decide_eq_true (OF.nthB c.more 28 rfl)) fl27 fc27 fk27 (of_decide_eq_true (OF.nthB c.more 29 rfl)) fl28 fc28 fk28 (of_decide_eq_true (OF.nthB c.more 30 rfl)) fl29 fc29 fk29 (of_decide_eq_true (OF.nthB c.more 31 rfl)) fl30 fc30 fk30 (of_decide_eq_true (OF.nthB c.more 32 rfl)) fl31 fc31 fk31 (of_decide_eq_true (OF.nthB c.more 33 rfl)) fl32 fc32 fk32 (of_decide_eq_true (OF.nthB c.more 34 rfl)) fl33 fc33 fk33 (of_decide_eq_true (OF.nthB c.more 35 rfl)) fl34 fc34 fk34 (of_decide_eq_true (OF.nthB c.more 36 rfl)) fl35 fc35 fk35 (of_decide_eq_true (OF.nthB c.more 37 rfl)) fl36 fc36 fk36 (of_decide_eq_true (OF.nthB c.more 38 rfl)) fl37 fc37 fk37 (of_decide_eq_true (OF.nthB c.more 39 rfl)) fl38 fc38 fk38 (of_decide_eq_true (OF.nthB c.more 40 rfl)) fl39 fc39 fk39 (of_decide_eq_true (OF.nthB c.more 41 rfl)) fl40 fc40 fk40 (of_decide_eq_true (OF.nthB c.more 42 rfl)) fl41 fc41 fk41 (of_decide_eq_true (OF.nthB c.more 43 rfl)) fl42 fc42 fk42 (of_decide_eq_true (OF.nthB c.more 44 rfl)) fl43 fc43 fk43 (of_decide_eq_true (OF.nthB c.more 45 rfl)) fl44 fc44 fk44 (of_decide_eq_true (OF.nthB c.more 46 rfl)) fl45 fc45 fk45 (of_decide_eq_true (OF.nthB c.more 47 rfl)) fl46 fc46 fk46 (of_decide_eq_true (OF.nthB c.more 48 rfl)) fl47 fc47 fk47 (of_decide_eq_true (OF.nthB c.more 49 rfl)) fl48 fc48 fk48 (of_decide_eq_true (OF.nthB c.more 50 rfl)) (OF.nthB c.more 51 rfl) (of_decide_eq_true (OF.nthB c.more 52 rfl)) (OF.fcVal_ok (of_decide_eq_true (OF.nthB c.more 53 rfl))) fl49 fc49 fk49 (OF.fcVal_ok (of_decide_eq_true (OF.nthB c.more 54 rfl))) (of_decide_eq_true (OF.nthB c.more 55 rfl)) x57 (of_decide_eq_true (OF.nthB c.more 57 rfl)) (of_decide_eq_true (OF.nthB c.more 58 rfl)) (of_decide_eq_true (OF.nthB c.more 59 rfl)) (OF.nthB c.more 60 rfl) (of_decide_eq_true (OF.nthB c.more 61 rfl)) (of_decide_eq_true (OF.nthB c.more 62 rfl)) (of_decide_eq_true (OF.nthB c.more 63 rfl)) (of_decide_eq_true (OF.nthB c.more 64 rfl)) (of_decide_eq_true (OF.nthB c.more 65 rfl)) (OF.nthB c.more 66 rfl) (of_decide_eq_true (OF.nthB c.more 67 rfl)) (OF.nthB c.more 68 rfl) fl50 fc50 fk50 (of_decide_eq_true (OF.nthB c.more 69 rfl)) x71 (of_decide_eq_true (OF.nthB c.more 71 rfl)) (of_decide_eq_true (OF.nthB c.more 72 rfl)) (of_decide_eq_true (OF.nthB c.more 73 rfl)) (OF.nthB c.more 74 rfl) (of_decide_eq_true (OF.nthB c.more 75 rfl)) (of_decide_eq_true (OF.nthB c.more 76 rfl)) (of_decide_eq_true (OF.nthB c.more 77 rfl)) (of_decide_eq_true (OF.nthB c.more 78 rfl)) (of_decide_eq_true (OF.nthB c.more 79 rfl)) (OF.nthB c.more 80 rfl) (of_decide_eq_true (OF.nthB c.more 81 rfl)) (OF.nthB c.more 82 rfl) fl51 fc51 fk51 (of_decide_eq_true (OF.nthB c.more 83 rfl)) x85 (of_decide_eq_true (OF.nthB c.more 85 rfl)) (of_decide_eq_true (OF.nthB c.more 86 rfl)) (of_decide_eq_true (OF.nthB c.more 87 rfl)) (OF.nthB c.more 88 rfl) (of_decide_eq_true (OF.nthB c.more 89 rfl)) (of_decide_eq_true (OF.nthB c.more 90 rfl)) (of_decide_eq_true (OF.nthB c.more 91 rfl)) (of_decide_eq_true (OF.nthB c.more 92 rfl)) (of_decide_eq_true (OF.nthB c.more 93 rfl)) (OF.nthB c.more 94 rfl) (of_decide_eq_true (OF.nthB c.more 95 rfl)) (OF.nthB c.more 96 rfl) fl52 fc52 fk52 (of_decide_eq_true (OF.nthB c.more 97 rfl)) x99 (of_decide_eq_true (OF.nthB c.more 99 rfl)) (of_decide_eq_true (OF.nthB c.more 100 rfl)) (of_decide_eq_true (OF.nthB c.more 101 rfl)) (OF.nthB c.more 102 rfl) (of_decide_eq_true (OF.nthB c.more 103 rfl)) (of_decide_eq_true (OF.nthB c.more 104 rfl)) (of_decide_eq_true (OF.nthB c.more 105 rfl)) (of_decide_eq_true (OF.nthB c.more 106 rfl)) (of_decide_eq_true (OF.nthB c.more 107 rfl)) (OF.nthB c.more 108 rfl) (of_decide_eq_true (OF.nthB c.more 109 rfl)) (OF.nthB c.more 110 rfl) fl53 fc53 fk53 (of_decide_eq_true (OF.nthB c.more 111 rfl)) x113 (of_decide_eq_true (OF.nthB c.more 113 rfl)) (of_decide_eq_true (OF.nthB c.more 114 rfl)) (of_decide_eq_true (OF.nthB c.more 115 rfl)) (OF.nthB c.more 116 rfl) (of_decide_eq_true (OF.nthB c.more 117 rfl)) (of_decide_eq_true (OF.nthB c.more 118 rfl)) (of_decide_eq_true (OF.nthB c.more 119 rfl)) (of_decide_eq_true (OF.nthB c.more 120 rfl)) (of_decide_eq_true (OF.nthB c.more 121 rfl)) (OF.nthB c.more 122 rfl) (of_decide_eq_true (OF.nthB c.more 123 rfl)) (OF.nthB c.more 124 rfl) fl54 fc54 fk54 (of_decide_eq_true (OF.nthB c.more 125 rfl)) x127 (of_decide_eq_true (OF.nthB c.more 127 rfl)) (of_decide_eq_true (OF.nthB c.more 128 rfl)) (of_decide_eq_true (OF.nthB c.more 129 rfl)) (OF.nthB c.more 130 rfl) (of_decide_eq_true (OF.nthB c.more 131 rfl)) (of_decide_eq_true (OF.nthB c.more 132 rfl)) (of_decide_eq_true (OF.nthB c.more 133 rfl)) (of_decide_eq_true (OF.nthB c.more 134 rfl)) (of_decide_eq_true (OF.nthB c.more 135 rfl)) (OF.nthB c.more 136 rfl) (of_decide_eq_true (OF.nthB c.more 137 rfl)) (OF.nthB c.more 138 rfl) fl55 fc55 fk55 (of_decide_eq_true (OF.nthB c.more 139 rfl)) (OF.nthB c.more 140 rfl) (OF.nthB c.more 141 rfl) (OF.nthB c.more 142 rfl) (of_decide_eq_true (OF.nthB c.more 143 rfl)) (OF.nthB c.more 144 rfl) (of_decide_eq_true (OF.nthB c.more 145 rfl)) (of_decide_eq_true (OF.nthB c.more 146 rfl)) (of_decide_eq_true (OF.nthB c.more 147 rfl)) (of_decide_eq_true (OF.nthB c.more 148 rfl)) (of_decide_eq_true (OF.nthB c.more 149 rfl)) (of_decide_eq_true (OF.nthB c.more 150 rfl)) (of_decide_eq_true (OF.nthB c.more 151 rfl)) (of_decide_eq_true (OF.nthB c.more 152 rfl)) (OF.nthB c.more 153 rfl) (of_decide_eq_true (OF.nthB c.more 154 rfl)) (OF.nthB c.more 155 rfl) (of_decide_eq_true (OF.nthB c.more 156 rfl)) (OF.nthB c.more 157 rfl) fl56 fc56 fk56 (of_decide_eq_true (OF.nthB c.more 158 rfl)) (OF.nthB c.more 159 rfl) fl57 fc57 fk57 (of_decide_eq_true (OF.nthB c.more 160 rfl)) (OF.nthB c.more 161 rfl) fl58 fc58 fk58 (of_decide_eq_true (OF.nthB c.more 162 rfl)) (of_decide_eq_true (OF.nthB c.more 163 rfl)) (of_decide_eq_true (OF.nthB c.more 164 rfl)) x166 (of_decide_eq_true (OF.nthB c.more 166 rfl)) (of_decide_eq_true (OF.nthB c.more 167 rfl)) (of_decide_eq_true (OF.nthB c.more 168 rfl)) x170 (of_decide_eq_true (OF.nthB c.more 170 rfl)) (OF.nthB c.more 171 rfl) fl59 fc59 fk59 (of_decide_eq_true (OF.nthB c.more 172 rfl)) x174 ecF_ ecL_ (of_decide_eq_true (OF.nthB c.more 174 rfl)) (of_decide_eq_true (OF.nthB c.more 175 rfl)) (of_decide_eq_true (OF.nthB c.more 176 rfl)) (of_decide_eq_true (OF.nthB c.more 177 rfl)) (OF.nthB c.more 178 rfl) (of_decide_eq_true (OF.nthB c.more 179 rfl)) (of_decide_eq_true (OF.nthB c.more 180 rfl)) fl60 fc60 fk60 fl61 fc61 fk61 (of_decide_eq_true (OF.nthB c.more 181 rfl)) (of_decide_eq_true (OF.nthB c.more 182 rfl)) (of_decide_eq_true (OF.nthB c.more 183 rfl)) (of_decide_eq_true (OF.nthB c.more 184 rfl)) (of_decide_eq_true (OF.nthB c.more 185 rfl)) (of_decide_eq_true (OF.nthB c.more 186 rfl)) (of_decide_eq_true (OF.nthB c.more 187 rfl)) (of_decide_eq_true (OF.nthB c.more 188 rfl)) (of_decide_eq_true (OF.nthB c.more 189 rfl)) (of_decide_eq_true (OF.nthB c.more 190 rfl)) (of_decide_eq_true (OF.nthB c.more 191 rfl)) (of_decide_eq_true (OF.nthB c.more 192 rfl)) (of_decide_eq_true (OF.nthB c.more 193 rfl)) (of_decide_eq_true (OF.nthB c.more 194 rfl)) (of_decide_eq_true (OF.nthB c.more 195 rfl)) (of_decide_eq_true (OF.nthB c.more 196 rfl)) x198 x199 x200 (of_decide_eq_true (OF.nthB c.more 200 rfl)) (of_decide_eq_true (OF.nthB c.more 201 rfl)) (OF.fcGet_ok (of_decide_eq_true (OF.nthB c.more 202 rfl))) (of_decide_eq_true (OF.nthB c.more 203 rfl)) (of_decide_eq_true (OF.nthB c.more 204 rfl)) (of_decide_eq_true (OF.nthB c.more 205 rfl)) (OF.fcGet_ok (of_decide_eq_true (OF.nthB c.more 206 rfl))) (of_decide_eq_true (OF.nthB c.more 207 rfl)) (of_decide_eq_true (OF.nthB c.more 208 rfl)) (of_decide_eq_true (OF.nthB c.more 209 rfl)) (OF.fcGet_ok (of_decide_eq_true (OF.nthB c.more 210 rfl))) (of_decide_eq_true (OF.nthB c.more 211 rfl)) (of_decide_eq_true (OF.nthB c.more 212 rfl)) (of_decide_eq_true (OF.nthB c.more 213 rfl)) (OF.fcGet_ok (of_decide_eq_true (OF.nthB c.more 214 rfl))) (of_decide_eq_true (OF.nthB c.more 215 rfl)) (of_decide_eq_true (OF.nthB c.more 216 rfl)) (of_decide_eq_true (OF.nthB c.more 217 rfl)) (OF.fcGet_ok (of_decide_eq_true (OF.nthB c.more 218 rfl))) (of_decide_eq_true (OF.nthB c.more 219 rfl)) (of_decide_eq_true (OF.nthB c.more 220 rfl)) (of_decide_eq_true (OF.nthB c.more 221 rfl)) (OF.fcGet_ok (of_decide_eq_true (OF.nthB c.more 222 rfl))) (of_decide_eq_true (OF.nthB c.more 223 rfl)) (of_decide_eq_true (OF.nthB c.more 224 rfl)) (of_decide_eq_true (OF.nthB c.more 225 rfl)) (of_decide_eq_true (OF.nthB c.more 226 rfl))
end K19
/-! The end of a row whose top has two tables of code objects, guards known. -/
namespace OF
open PySem PySem.Spec PyProof.Rows L2 LamX
section
variable {P : Program} {w : World} {K : PySem.W.Frag} {mg mb : Str → Option Value}
/-- namespaces stand in what is left where a list and a table are hidden -/
theorem ns_left3 {h : Heap} {H : Hp} {a t u b : Addr} {xs : Array Value} {m : Str → Option Value} (ha : h.get? a = some { cls := .type "list", data := .seq xs }) (ht : h.get? t = some { cls := .none, data := .fields #[] }) (hu : h.get? u = some { cls := .none, data := .fields #[] }) (near : ∀ c, H c ≠ none → c = a ∨ c = t ∨ c = u) (z : h.Ns b m) : (hidT h H).Ns b m := by
  obtain ⟨o, es, ep, eo, ed, rest⟩ := z
  have free : H b = none := Classical.byContradiction fun no => by
    rcases near b no with e | e | e
    · subst e
      rw [eo] at ha
      cases ha
      cases ed
    · subst e
      rw [eo] at ht
      cases ht
      cases ed
    · subst e
      rw [eo] at hu
      cases hu
      cases ed
  exact ⟨o, es, ep, hidT_get eo free, ed, rest⟩
theorem law_callGT2 {n : Nat} {fa a c t c' u : Addr} {fd : FuncData} {x : Str} {sp : Sp} {s : Shared} {vs : List Value} {ns : List Int} (KX : K.In s.heap) (hg : s.heap.Ns mainGlobals mg) (hb : s.heap.Ns builtinsNs mb) (hbb : ∀ y : Str, y ≠ "__name__" → mb y = bootBuiltins y)
    (hlim : s.heap.NoLimit) (he : s.gens = #[]) (hd : PySem.W.codeHdIn K c t = true) (out2 : K.lookup t = none) (ht : s.heap.get? t = some { cls := .none, data := .fields #[] }) (hd' : PySem.W.codeHdIn K c' u = true) (out3 : K.lookup u = none) (hu : s.heap.get? u = some { cls := .none, data := .fields #[] }) (ntu : t ≠ u)
    (hm : ∃ (b : Addr) (ob : Obj), mg "__builtins__" = some (.ref b) ∧ b ≠ builtinsNs ∧ s.heap.get? b = some ob ∧ ob.cls = .type "module" ∧ ob.dict = some builtinsNs ∧ ob.data = .plain)
    (ha : s.heap.get? a = some { cls := .type "list", data := .seq vs.toArray }) (hi : IntsAre vs ns) (hl : ns.length ≤ sizeLine) (room : Room n callerA)
    (F : ∀ base : Heap, K.In base → base.Ns mainGlobals mg → TabB base mg c t → TabB base mg c' u → FnG P w K mg base n fa fd [x] sp) (bind : ∀ (s : Shared) (u : Value), BindsTo s fd ⟨[u], []⟩ [(x, u)])
    (hsp : ∀ H : Hp, H t = some (.tbl #[]) → H u = some (.tbl #[]) → SqL K H a (ns.map V.int) → sp [.ref a] H (fun v _ => v = .bl true) fun _ _ _ => False) :
    codeAny (model P w) callerA (.call (.ref fa) ⟨[.ref a], []⟩) (fun r s' => r = .ok (.ret (.bool true)) ∧ OldK s.heap s'.heap ∧ s'.os = s.os ∧ AllBare s'.gens) s := by
  obtain ⟨H, only, seq, hok, near, out⟩ := script_heap (P := P) (w := w) KX ha hi hl
  have nta : t ≠ a := fun z => by
    rw [z, ha] at ht
    cases ht
  have nua : u ≠ a := fun z => by
    rw [z, ha] at hu
    cases hu
  have nears : ∀ b, (upd (upd H t (.tbl #[])) u (.tbl #[])) b ≠ none → b = a ∨ b = t ∨ b = u := fun b no => by
    by_cases y : b = u
    · exact .inr (.inr y)
    · by_cases z : b = t
      · exact .inr (.inl z)
      · rw [upd_ne y, upd_ne z] at no
        exact .inl (near b no)
  have atA : (upd (upd H t (.tbl #[])) u (.tbl #[])) a = H a := by rw [upd_ne nua.symm, upd_ne nta.symm]
  have seq2 : SqL K (upd (upd H t (.tbl #[])) u (.tbl #[])) a (ns.map V.int) := by
    rcases seq with (z | ⟨o, z⟩) | z
    · exact .inl (.inl (by rw [atA]; exact z))
    · exact .inl (.inr ⟨o, by rw [atA]; exact z⟩)
    · exact .inr z
  have ht2 : (upd (upd H t (.tbl #[])) u (.tbl #[])) t = some (.tbl #[]) := by rw [upd_ne ntu, upd_same]
  have hu2 : (upd (upd H t (.tbl #[])) u (.tbl #[])) u = some (.tbl #[]) := upd_same
  have hok2 : HOk P w (upd (upd H t (.tbl #[])) u (.tbl #[])) s.heap := fun b o z => by
    by_cases y : b = u
    · subst y
      rw [hu2] at z
      cases z
      exact hu
    · by_cases x : b = t
      · subst x
        rw [ht2] at z
        cases z
        exact ht
      · rw [upd_ne y, upd_ne x] at z
        rcases only b with fr | ⟨o2, xs, fr⟩
        · rw [fr] at z
          cases z
        · have k := hok b _ fr
          rw [fr] at z
          cases z
          exact k
  have KB : K.In (hidT s.heap (upd (upd H t (.tbl #[])) u (.tbl #[]))) := by
    intro b o z
    refine hidT_get (KX b o z) (Classical.byContradiction fun no => ?_)
    rcases nears b no with e | e | e
    · subst e
      rw [atA] at no
      rw [out no] at z
      cases z
    · subst e
      rw [out2] at z
      cases z
    · subst e
      rw [out3] at z
      cases z
  have keepNs : ∀ {b : Addr} {m : Str → Option Value}, s.heap.Ns b m → (hidT s.heap (upd (upd H t (.tbl #[])) u (.tbl #[]))).Ns b m := fun z => ns_left3 ha ht hu nears z
  have lim : (hidT s.heap (upd (upd H t (.tbl #[])) u (.tbl #[]))).NoLimit := by
    obtain ⟨mc, h1, h2⟩ := hlim
    exact ⟨mc, keepNs h1, h2⟩
  have M : Mod K mg (hidT s.heap (upd (upd H t (.tbl #[])) u (.tbl #[]))) := { kin := KB, glob := keepNs hg, blt := ⟨mb, keepNs hb, hbb⟩, nolimit := lim }
  have E0 : Env0 P w K mg (hidT s.heap (upd (upd H t (.tbl #[])) u (.tbl #[]))) callerA [] s (upd (upd H t (.tbl #[])) u (.tbl #[])) := {
    frames := rfl, mod := M, bs := fun c o z => of_hidT z, bsz := Nat.le_of_eq (hidT_size _ _), funs := trivial
    frf := fun c z => (by cases z), hok := hok2, bare := AllBare.of_eq he }
  have bmain : ∀ q : Addr, s.heap.get? q = some { cls := .none, data := .fields #[] } → ∃ (b : Addr) (ob : Obj), mg "__builtins__" = some (.ref b) ∧ b ≠ builtinsNs ∧ b ≠ mainGlobals ∧ b ≠ q ∧ (hidT s.heap (upd (upd H t (.tbl #[])) u (.tbl #[]))).get? b = some ob ∧ ob.cls = .type "module" ∧ ob.dict = some builtinsNs ∧ ob.data = .plain := fun q hq => by
    obtain ⟨b, ob, m1, m2, m3, m4, m5, m6⟩ := hm
    have nb : (upd (upd H t (.tbl #[])) u (.tbl #[])) b = none := Classical.byContradiction fun no => by
      rcases nears b no with e | e | e
      · subst e
        rw [m3] at ha
        cases ha
        cases m6
      · subst e
        rw [m3] at ht
        cases ht
        cases m6
      · subst e
        rw [m3] at hu
        cases hu
        cases m6
    refine ⟨b, ob, m1, m2, fun z => ?_, fun z => ?_, hidT_get m3 nb, m4, m5, m6⟩
    · obtain ⟨o, es, ep, eo, ed, _⟩ := hg
      rw [← z, m3] at eo
      cases eo
      rw [m6] at ed
      cases ed
    · rw [z, hq] at m3
      cases m3
      cases m6
  have nmain : ∀ q : Addr, s.heap.get? q = some { cls := .none, data := .fields #[] } → q ≠ mainGlobals := fun q hq z => by
    obtain ⟨o, es, ep, eo, ed, _⟩ := hg
    rw [z, eo] at hq
    cases hq
    cases ed
  have TB : TabB (hidT s.heap (upd (upd H t (.tbl #[])) u (.tbl #[]))) mg c t := NdefX.tabB_of_K KB hd (bmain t ht) (nmain t ht).symm
  have TB' : TabB (hidT s.heap (upd (upd H t (.tbl #[])) u (.tbl #[]))) mg c' u := NdefX.tabB_of_K KB hd' (bmain u hu) (nmain u hu).symm
  have main := (F _ KB (keepNs hg) TB TB').go callerA [] s (upd (upd H t (.tbl #[])) u (.tbl #[])) ⟨[.ref a], []⟩ [.ref a] [.ref a] _ _ rfl room E0 (bind s (.ref a)) (.cons rfl .nil) (hsp _ ht2 hu2 seq2)
  apply codeAny_mono main
  intro r s' z
  cases r with
  | error er => cases z
  | ok fl =>
    cases fl with
    | next => cases z
    | brk => cases z
    | cont => cases z
    | ret uu =>
      obtain ⟨v, H', sameOs, bare, un, hok', rv, ev⟩ := z
      have ev2 : v = .bl true := ev
      subst ev2
      have eu : uu = Value.bool true := rv
      subst eu
      obtain ⟨more, em⟩ := un.tbls t #[] ht2
      obtain ⟨more', em'⟩ := un.tbls u #[] hu2
      have gm : s'.heap.get? t = some { cls := .none, data := .fields (#[] ++ more) } := hok' t _ em
      have gm' : s'.heap.get? u = some { cls := .none, data := .fields (#[] ++ more') } := hok' u _ em'
      have others : ∀ b o, b ≠ t → b ≠ u → s.heap.get? b = some o → s'.heap.get? b = some o := fun b o nb nb' z => by
        rcases only b with fr | ⟨o2, xs, fr⟩
        · apply un.keep b o z (by rw [upd_ne nb', upd_ne nb]; exact fr)
          · intro y; cases y
          · intro y; cases y
        · have fr2 := un.frzs b o2 _ (by rw [upd_ne nb', upd_ne nb]; exact fr)
          have g1 := (hok b _ fr).1
          have g2 := (hok' b _ fr2).1
          rw [z] at g1
          rw [g2, ← Option.some.inj g1]
      refine ⟨rfl, ⟨fun b o z => ?_, fun b o z => ?_⟩, sameOs, bare⟩
      · by_cases y : b = t
        · subst y
          rw [ht] at z
          cases z
          exact .inr (.inl ⟨((PySem.W.codeHd_of_K KX hd).tab ht).isCodeTable, rfl, #[], more, rfl, gm⟩)
        · by_cases y' : b = u
          · subst y'
            rw [hu] at z
            cases z
            exact .inr (.inl ⟨((PySem.W.codeHd_of_K KX hd').tab hu).isCodeTable, rfl, #[], more', rfl, gm'⟩)
          · exact .inl (others b o y y' z)
      · by_cases y : b = t
        · subst y
          exact ⟨_, gm⟩
        · by_cases y' : b = u
          · subst y'
            exact ⟨_, gm'⟩
          · exact ⟨o, others b o y y' z⟩
/-- the end of a row over such a head, two tables -/
theorem walkGTE2 {l : PySem.W.OpenLaw} {m n : Nat} {q : Program} {loose : List Str} {XP : (Str → Option Value) → Heap → Prop} {YP : World → Heap → Prop} {d : DefRec} {x : Str}
    (hm : l.most = some m) (hm2 : m ≤ sizeLine) (hdf : d.params.defaults = []) (room : Room n callerA)
    (F : ∀ (w : World) (mg : Str → Option Value) (fa : Addr) (h : Heap), YP w h → h.Ns mainGlobals mg → mg d.name = some (.ref fa) →
      ∃ (K : PySem.W.Frag) (sp : Sp) (c t c' u : Addr), K.In h ∧ PySem.W.codeHdIn K c t = true ∧ K.lookup t = none ∧ h.get? t = some { cls := .none, data := .fields #[] } ∧ PySem.W.codeHdIn K c' u = true ∧ K.lookup u = none ∧ h.get? u = some { cls := .none, data := .fields #[] } ∧ t ≠ u ∧
        (∃ fd : FuncData, (∀ (s : Shared) (u : Value), BindsTo s fd ⟨[u], []⟩ [(x, u)]) ∧ ∀ base : Heap, K.In base → base.Ns mainGlobals mg → TabB base mg c t → TabB base mg c' u → FnG l.prog w K mg base n fa fd [x] sp) ∧
        ∀ (H : Hp) (a : Addr) (ns : List Int), ns.length ≤ m → H t = some (.tbl #[]) → H u = some (.tbl #[]) → SqL K H a (ns.map V.int) → sp [.ref a] H (fun v _ => v = .bl true) fun _ _ _ => False) :
    PySem.W.WalkO q loose XP YP l.row.toRowW d [] (fun f vs => PySem.call f vs) := by
  apply Att.attach_call hm hdf
  intro w s₀ s₁ mg mb fa o pm cd doc a vs ns G Y ho hd hcd hmg hobj hints hlen hg
  obtain ⟨K, sp, c, t, c', u, KX, hh, out2, ht, hh', out3, hu, ntu, ⟨fd, bind, FF⟩, hsp⟩ := F w mg fa _ Y G.T.g hmg
  exact law_callGT2 KX G.T.g G.T.b G.T.builtins G.T.nolimit hg hh out2 ht hh' out3 hu ntu G.T.bmain hobj hints (Nat.le_trans hlen hm2) room FF bind fun H => hsp H a ns hlen
end
end OF
open PySem PySem.W PySem.Calls PyProof.Rows
set_option maxRecDepth 100000 in
set_option maxHeartbeats 0 in
theorem PySem.Challenge.cw_oddfigures_k19_loops_judged_holds : PySem.Challenge.rw_oddfigures_k19_loops_judged.Holds := by
  w_on; o_law
  refine HandSHeadRun.head_any (r := K19H.hR) (q := view K19H.hR.prog [73]) (H := K19H.hk) (ob := K19H.hob) (M := 9000) (loose := K19H.hNames) (d := HandSHeadRun.topDef K19H.hR.prog 73) (kwd := []) K19H.hob_eq (by kernel_rfl) (fun s => by kernel_rfl)
    K19H.hrun (by kernel_rfl) (by kernel_rfl) (by kernel_rfl) (by rfl) (by first | assumption | decide +kernel) (by decide +kernel) ⟨rfl, rfl, rfl, rfl, rfl, by decide +kernel⟩ ?hw ?hc
  case hw => w_witness2
  case hc =>
    refine OF.walkGTE2 (l := PySem.Challenge.rw_oddfigures_k19_loops_judged) (m := 63) (n := 13) (x := "_law_script") rfl (by decide) (by kernel_rfl) ⟨rfl, by decide, by decide⟩ ?F
    intro w mg fa h Y G hmg0
    obtain ⟨K, KX, c⟩ := Y
    have hmg : mg ("law" : PySem.Str) = some (.ref fa) := by
      have e : (HandSHeadRun.topDef K19H.hR.prog 73).name = ("law" : PySem.Str) := by kernel_rfl
      rw [← e]
      exact hmg0
    have mem : (("follower", none) : He.Defn) ∈ K19H.htf := List.mem_cons_self
    have mem2 : (("live_graph", none) : He.Defn) ∈ K19H.htf := List.mem_cons_of_mem _ List.mem_cons_self
    have nt : (He.cT K ("follower", none)).2 ≠ (He.cT K ("live_graph", none)).2 := beq_eq_false_iff_ne.mp (of_decide_eq_true (OF.nthB c.more 174 rfl))
    exact ⟨K, K19.spLaw K [((He.cT K ("follower", none)).2, K19.qLam), ((He.cT K ("live_graph", none)).2, K19.qLiv)], (He.cT K ("follower", none)).1, (He.cT K ("follower", none)).2, (He.cT K ("live_graph", none)).1, (He.cT K ("live_graph", none)).2, KX, c.hd _ mem, c.out _ mem, c.empty _ mem, c.hd _ mem2, c.out _ mem2, c.empty _ mem2, nt, K19.from_head (l := PySem.Challenge.rw_oddfigures_k19_loops_judged) (w := w) KX G hmg c, fun H a ns hl hH hH2 hS => ⟨a, ns, rfl, hS, hl, (fun p hp => by
      rcases List.mem_cons.mp hp with z | z
      · rw [z]
        exact LamX.TabS.nil hH
      · rw [List.mem_singleton.mp z]
        exact LamX.TabS.nil hH2), fun _ => rfl⟩⟩
