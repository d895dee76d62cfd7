import PyProof.Rows.All
import Wide.All
import OpenK.AllK
import Wide.FinOn
import HandS.ForMost
import HandS.IsInst
import HandS.Defaults
import HandS.Wide
import HandS.ForExc
import HandS.ExcInit
import HandS.ExcField
import KE.KExcIs
import KE.KTypeName
import HandS.ClsMeth
import HandS.DictComp
import HandS.More
import PyProof.ReprRoads
import HandS.SetFor
import HandS.Strs
import HandS.TupSets
import HandS.SortRule
import HandS.Deep
import HandS.TupAny
import HandS.Style
import HandS.Zip
import HandS.Walk
import HandS.MakeKwOnly
import HandS.RaiseMore
import HandS.Property
import HandS.Small
import KE.KDictDisplayH
import HandS.Conv
import HandS.Iter
import HandS.TupLen
import PyProof.DictTruth
import HandS.WideBits
import KE.KeyNested
import HandS.CallLocal
import HandS.OwnEq
import HandS.Call
import OpenK.KOps
import KE.KCallOwn
import KE.KOpsOwn
import HandS.FStr
import PyProof.Rows.SortShell
import PySem.Challenge.RW_oddfigures_k31_forms_made
set_option Elab.async false
set_option linter.all false
set_option maxRecDepth 100000
/-! What the laws of this program have in common: heaps that stay but for one box, the box that draws are taken from, calls by names alone, repr of a truth. -/
namespace OF
open PySem PySem.Spec PyProof.Rows L2

/-! ### heaps that stay but for one place -/
/-- all that was tracked, but for the box at a, is as it was -/
def But (a : Addr) (H H' : Hp) : Prop := ∀ b o, b ≠ a → H b = some o → H' b = some o
theorem But.refl {a : Addr} {H : Hp} : But a H H := fun _ _ _ h => h
theorem But.trans {a : Addr} {H H1 H2 : Hp} (x : But a H H1) (y : But a H1 H2) : But a H H2 := fun b o n h => y b o n (x b o n h)
theorem But.of_same {a : Addr} {H H' : Hp} (x : Same H H') : But a H H' := fun b o _ h => x b o h
theorem But.new {a p : Addr} {H : Hp} {o : HO} (hp : H p = none) : But a H (upd H p o) := fun b u _ h => by
  rw [upd_ne (ne_of_none h hp)]; exact h
theorem But.at_ {a : Addr} {H : Hp} {o : HO} : But a H (upd H a o) := fun b u n h => by
  rw [upd_ne n]; exact h
/-- what was none ahead of the steps is a new place: a store to it keeps all -/
theorem But.store {a p : Addr} {H H1 : Hp} {o : HO} (x : But a H H1) (hp : H p = none) : But a H (upd H1 p o) := fun b u n h => by
  rw [upd_ne (ne_of_none h hp)]; exact x b u n h
theorem But.seqL {K : PySem.W.Frag} {a p : Addr} {H H' : Hp} {xs : List V} (x : But a H H') (n : p ≠ a) (h : SqL K H p xs) : SqL K H' p xs := by
  rcases h with (h | ⟨o, h⟩) | h
  · exact .inl (.inl (x _ _ n h))
  · exact .inl (.inr ⟨o, x _ _ n h⟩)
  · exact .inr h
theorem But.seqT {K : PySem.W.Frag} {a p : Addr} {H H' : Hp} {xs : List V} (x : But a H H') (n : p ≠ a) (h : SqT K H p xs) : SqT K H' p xs := by
  rcases h with (h | ⟨o, h⟩) | h
  · exact .inl (.inl (x _ _ n h))
  · exact .inl (.inr ⟨o, x _ _ n h⟩)
  · exact .inr h
theorem same_new {H : Hp} {p : Addr} {o : HO} (h : H p = none) : Same H (upd H p o) := fun b x e => by
  rw [upd_ne (ne_of_none e h)]; exact e

/-! ### the box -/
/-- at a stands a box: what is left of a large cell, a seed, how many were mixed (at most n) -/
def Box (n : Int) (H : Hp) (a : Addr) : Prop := ∃ b0 b1 b2 : Int, H a = some (.lst [.int b0, .int b1, .int b2]) ∧ 0 ≤ b0 ∧ 0 ≤ b1 ∧ b1 < 2147483648 ∧ 0 ≤ b2 ∧ b2 ≤ n
theorem Box.mono {n m : Int} {H : Hp} {a : Addr} (h : Box n H a) (hm : n ≤ m) : Box m H a := by
  obtain ⟨b0, b1, b2, h1, h2, h3, h4, h5, h6⟩ := h
  exact ⟨b0, b1, b2, h1, h2, h3, h4, h5, by omega⟩
theorem Box.same {n : Int} {H H' : Hp} {a : Addr} (h : Box n H a) (s : Same H H') : Box n H' a := by
  obtain ⟨b0, b1, b2, h1, r⟩ := h
  exact ⟨b0, b1, b2, s _ _ h1, r⟩
theorem Box.new {n : Int} {H : Hp} {a p : Addr} {o : HO} (h : Box n H a) (hp : H p = none) : Box n (upd H p o) a := h.same (same_new hp)
theorem Box.ne {n : Int} {H : Hp} {a p : Addr} (h : Box n H a) (hp : H p = none) : p ≠ a := by
  obtain ⟨b0, b1, b2, h1, r⟩ := h
  exact (ne_of_none h1 hp).symm
theorem Box.upd {n : Int} {H : Hp} {a p : Addr} {o : HO} (h : Box n H a) (hp : p ≠ a) : Box n (L2.upd H p o) a := by
  obtain ⟨b0, b1, b2, h1, r⟩ := h
  exact ⟨b0, b1, b2, by rw [upd_ne hp.symm]; exact h1, r⟩

/-- a draw: box, many; a number from 0 to many - 1, the box goes on -/
def spTake : Sp := fun vs H Q _ => ∃ (a : Addr) (m n : Int), vs = [.ref a, .int m] ∧ Box n H a ∧ n ≤ 1000000 ∧ 0 < m ∧ m.natAbs < 2 ^ 400 ∧
  ∀ (r : Int) (H' : Hp), 0 ≤ r → r < m → But a H H' → Box (n + 1) H' a → Q (.int r) H'
/-- a cell of the script, or a number made of the place -/
def spCell (K : PySem.W.Frag) : Sp := fun vs H Q _ => ∃ (a : Addr) (ns : List Int) (k : Nat), vs = [.ref a, .int k] ∧ SqL K H a (ns.map V.int) ∧ k < 1000 ∧ ∀ c : Int, Q (.int c) H
/-- a new box of a cell -/
def spBox : Sp := fun vs H Q _ => ∃ c : Int, vs = [.int c] ∧ ∀ (p : Addr) (H' : Hp), H p = none → Same H H' → Box 0 H' p → Q (.ref p) H'
/-- a list's items in a drawn order -/
def spMixed (K : PySem.W.Frag) : Sp := fun vs H Q _ => ∃ (a p : Addr) (xs : List V) (n : Int), vs = [.ref a, .ref p] ∧ Box n H a ∧ SqL K H p xs ∧ p ≠ a ∧ xs.length ≤ 1000 ∧ n ≤ 900000 ∧
  ∀ (D : Addr) (ys : List V) (H' : Hp), H D = none → But a H H' → Box (n + xs.length) H' a → H' D = some (.lst ys) → ys.length = xs.length → (∀ y ∈ ys, y ∈ xs) → Q (.ref D) H'

/-! ### calls by names alone -/
section
variable {X : Cx} {CX : CXT} {k : Nat} {f : Addr} {fd : FuncData} {ps ks : List Str} {sp : Sp} {E : XK} {x : Str} {p pos : Pos} {kws : List Keyword} {tk : TA} {g : List Value → List Value → List Value} {gV : List V → List V → List V}
/-- f(k = v, ..) -/
theorem pe_callN0 (F : FnOk X.prog X.w X.K X.mg X.base CX k f fd ps sp) (hr : Room k X.A) (hg : Gl X x) (hm : X.mg x = some (.ref f)) (hk : PySem.W.keepIn X.K (.ref f) = true) (hb : KBn X.K fd ps 0 ks g gV) (hx : Passes CX X E)
    (hkw : PK X kws tk) (hall : (backToKw pos (keywordEach kws X.env)).all (·.1.isSome) = true := by rfl) (hks : (backToKw pos (keywordEach kws X.env)).filterMap (·.1) = ks := by rfl)
    (hdb : (x == ("__debug__" : Str)) = false := by decide)
    (hpl : ((backTo pos (starEach [] X.env)).any (·.1) || (backToKw pos (keywordEach kws X.env)).any (·.1.isNone)) = false := by rfl) :
    PE X (.Call (.Name x p) [] kws pos) (tCallN 0 ks.length sp gV E tNil tk) := by
  refine ⟨fun pins s σ H Q I h => ?_⟩
  refine wpAny_Call_Name_kw (ld_glob I hg hm ?_ hdb)
  refine PySem.W.callWith_KW0 (h₀ := X.base) I.ok.mod.kin hk hall (thn (hkw.run pos pins s σ H _ I h) fun ws s2 ⟨zs, H2, I2, rz, l1, l2, q2⟩ => ⟨I2.kIn, ?_⟩) hpl
  rw [hks]
  exact run_fnN (us := []) (vs := []) F hr hb hx I2 .nil rz l1 l2 q2
/-- % by a positive number: some rest, in its bounds -/
theorem op_modR : OpR X (binaryOp .Mod) (fun x y H Q => ∃ i j : Int, x = .int i ∧ y = .int j ∧ 0 < j ∧ ∀ r : Int, 0 ≤ r → r < j → Q (.int r) H) := by
  intro pins s σ H x y v u Q I rx ry h
  obtain ⟨i, j, e1, e2, hj, q⟩ := h
  exact op_mod pins s σ H x y v u Q I rx ry ⟨i, j, e1, e2, hj, q _ (Int.emod_nonneg _ (by omega)) (Int.emod_lt_of_pos _ hj)⟩
theorem call_repr_bool : CallR X (.builtin "repr") (fun xs H Q => ∃ b, xs = [.bl b] ∧ Q (.str (if b then "True" else "False")) H) := by
  intro pins s σ H xs us Q I r h
  obtain ⟨b, rfl, q⟩ := h
  obtain ⟨u, rfl, hu⟩ := vals1 r
  cases hu
  exact PySem.P.repr_of_bool ⟨.str _, H, I.tok _, ⟨_, rfl⟩, q⟩
end
end OF
namespace OF
open PySem PySem.Spec PyProof.Rows L2
/-- len of a list or tuple -/
abbrev rLenS (K : PySem.W.Frag) : List V → Hp → VK → Prop := fun xs H Q => ∃ p ys, xs = [.ref p] ∧ (SqL K H p ys ∨ SqT K H p ys) ∧ Q (.int ys.length) H
theorem tYes_if {σ : L2.St} {H : Hp} {A B : Hp → Prop} (h : A H) : tYes σ H (fun b H3 => if b = true then A H3 else B H3) := by
  show (if true = true then A H else B H)
  rw [if_pos rfl]
  exact h
/-- both ways of a test lead to the same rest -/
theorem iteDup {c : Bool} {A B R : Prop} (f : R → c = true → A) (g : R → c = false → B) (r : R) : if c = true then A else B := by
  cases c with
  | true => exact iteT (f r rfl)
  | false => exact iteF (g r rfl)
theorem iteAnd {c d : Bool} {A : Prop} {Q : V → Hp → Prop} {H : Hp} (hA : Q (.bl d) H → A) (h : Q (.bl (c && d)) H) : if c = true then A else Q (.bl false) H := by
  cases c with
  | true => exact iteT (hA h)
  | false => exact iteF h
theorem iteOr {c d : Bool} {A : Prop} {Q : V → Hp → Prop} {H : Hp} (hA : Q (.bl d) H → A) (h : Q (.bl (c || d)) H) : if c = true then Q (.bl true) H else A := by
  cases c with
  | true => exact iteT h
  | false => exact iteF (hA h)
/-- an if whose test is known -/
theorem iteTB {c : Bool} {A B : Prop} (e : c = true) (h : A) : if c = true then A else B := by rw [if_pos e]; exact h
theorem iteFB {c : Bool} {A B : Prop} (e : c = false) (h : B) : if c = true then A else B := by rw [if_neg (by rw [e]; exact Bool.false_ne_true)]; exact h
/-- two values that are the same: no difference -/
theorem neSame {x y : V} (h : x = y) : (!decide (x = y)) = false := by rw [decide_eq_true h]; rfl
theorem eqSame {x y : V} (h : x = y) : decide (x = y) = true := decide_eq_true h
theorem seq_past {K : PySem.W.Frag} {H H1 H2 : Hp} {a p : Addr} {xs : List V} (hp : H p = none) (s : Same H H1) (b : But p H1 H2) (h : SqL K H a xs) : SqL K H2 a xs := by
  rcases h with (h | ⟨o, h⟩) | h
  · exact .inl (.inl (b _ _ (ne_of_none h hp) (s _ _ h)))
  · exact .inl (.inr ⟨o, b _ _ (ne_of_none h hp) (s _ _ h)⟩)
  · exact .inr h
/-- an item at a place within -/
theorem pick {xs : List V} {r : Int} (h0 : 0 ≤ r) (h1 : r < xs.length) : ∃ v, atI xs r = some v ∧ v ∈ xs := by
  obtain ⟨k, rfl⟩ := Int.eq_ofNat_of_zero_le h0
  have hk : k < xs.length := by omega
  exact ⟨xs[k], atI_nat (List.getElem?_eq_getElem hk), List.getElem_mem hk⟩
theorem ixN_in {n : Nat} {r : Int} (h0 : 0 ≤ r) (h1 : r < n) : ixN n r = some r.toNat := by
  unfold ixN
  rw [if_pos h0, if_pos h1]
/-- a value of a kind that is no int, or a truth -/
inductive Odd (H : Hp) : V → Prop
  | non : Odd H .non
  | bl (b : Bool) : Odd H (.bl b)
  | str (z : Str) : Odd H (.str z)
  | lst {a : Addr} {xs : List V} (e : H a = some (.lst xs)) : Odd H (.ref a)
  | tup {a : Addr} {xs : List V} (e : H a = some (.tup xs)) : Odd H (.ref a)
  | dK {a : Addr} {kvs : List (Key × V)} (e : H a = some (.dK kvs)) : Odd H (.ref a)
theorem Odd.same {H H' : Hp} {x : V} (h : Odd H x) (s : Same H H') : Odd H' x := by
  cases h with
  | non => exact .non
  | bl b => exact .bl b
  | str z => exact .str z
  | lst e => exact .lst (s _ _ e)
  | tup e => exact .tup (s _ _ e)
  | dK e => exact .dK (s _ _ e)
theorem Odd.kit {K : PySem.W.Frag} {H : Hp} {x : V} (h : Odd H x) : ∃ (t : Value) (b : Bool), TyX K H x t ∧ PySem.W.kitOne K t (.type "int") = some b ∧ (b = true → PySem.W.kitOne K t (.type "bool") = some true) := by
  cases h with
  | non => exact ⟨_, false, .base .non, kit_ty (by decide +kernel), fun z => nomatch z⟩
  | bl b => exact ⟨_, true, .base (.bl b), kit_ty (by decide +kernel), fun _ => kit_ty (by decide +kernel)⟩
  | str z => exact ⟨_, false, .base (.str z), kit_ty (by decide +kernel), fun z => nomatch z⟩
  | lst e => exact ⟨_, false, .base (.lst e), kit_ty (by decide +kernel), fun z => nomatch z⟩
  | tup e => exact ⟨_, false, .base (.tup e), kit_ty (by decide +kernel), fun z => nomatch z⟩
  | dK e => exact ⟨_, false, .base (.dK e), kit_ty (by decide +kernel), fun z => nomatch z⟩
theorem Odd.but {a : Addr} {H H' : Hp} {x : V} (h : Odd H x) (hx : x ≠ .ref a) (t : But a H H') : Odd H' x := by
  cases h with
  | non => exact .non
  | bl b => exact .bl b
  | str z => exact .str z
  | lst e => exact .lst (t _ _ (fun z => hx (congrArg V.ref z)) e)
  | tup e => exact .tup (t _ _ (fun z => hx (congrArg V.ref z)) e)
  | dK e => exact .dK (t _ _ (fun z => hx (congrArg V.ref z)) e)
theorem Same.store {p : Addr} {H H1 : Hp} {o : HO} (x : Same H H1) (hp : H p = none) : Same H (upd H1 p o) := fun b u h => by
  rw [upd_ne (ne_of_none h hp)]; exact x b u h
theorem q_eq {Q : V → Hp → Prop} {H : Hp} {x y : V} (h : x = y) (q : Q (.bl true) H) : Q (.bl (decide (x = y))) H := by
  rw [decide_eq_true h]; exact q
end OF
/-! e.__class__.__name__ of an error that is being made. -/
namespace PySem.W
open PySem PySem.Calls PyProof.Rows PyProof.V PySem.Spec Builtin Builtin.ObjectAttr Builtin.Getset_descriptor
section
variable {prog : Program} {w : World} {A : Around} {E : Value → Shared → Prop} {s : Shared} {K : Frag} {x C : Addr} {ox : Obj} {od : Option Obj} {expr : Bool} {Q : Value → Shared → Prop} {gt : Option Value}
theorem exc_class (X : K.In s.heap) (I : InstAt s.heap x ox C od) (hga : findIn K (.ref C) "__getattribute__" = some (some (.builtin "BaseException.__getattribute__"))) (hgt : findIn K (.ref C) "__getattr__" = some gt)
    (hsub : subIn K (.ref C) (.type "BaseException") = some true) (hf : findObj K C od "__class__" = some (.bind (.builtin "getset_descriptor.__get__") (.builtin "object.__class__"))) (hm : mroIn K C (.type "object") = some true)
    (h : Q (.ref C) { s with toks := s.toks + 1 }) : wpAny (model prog w) A (getAttr (.ref x) "__class__" expr) Q E s := by
  obtain ⟨hp, g, d, t, os⟩ := s
  have L0 := I.type (M := model prog w)
  have L1 := looks_findIn (M := model prog w) X hga
  have L2 := looks_findIn (M := model prog w) X hgt
  have L3 := looks_find (M := model prog w) X I hf
  have sub : Looks (model prog w) hp (isInstance (.ref x) (.type "BaseException")) true := L0.andThen (looks_subIn X hsub)
  have hx0 : (expr && onTheHeap (Value.builtin "BaseException.__getattribute__")) = false := by cases expr <;> rfl
  have hx2 : (Value.builtin "BaseException.__getattribute__" == Value.builtin "object.__getattribute__") = false := by decide +kernel
  have hx1 : (onTheHeap (Value.ref C) && Value.builtin "BaseException.__getattribute__" == Value.builtin "object.__getattribute__") = false := by rw [hx2]; rfl
  unfold getAttr getAttrBy
  refine wpAny_bind (wpAny_mkText (wpAny_holding (wpAny_bind (L0.at (wpAny_bind (L1.at ?_))))))
  show wpAny _ _ (if (onTheHeap (Value.ref C) && Value.builtin "BaseException.__getattribute__" == Value.builtin "object.__getattribute__") = true then _ else _) _ _ _
  rw [hx1, if_neg Bool.false_ne_true]
  unfold getAttrByItsOwn hookBefore
  refine wpAny_bind ?_
  rw [if_pos (show onTheHeap (Value.ref C) = true from rfl)]
  refine L2.at ?_
  refine wpAny_bind (wpAny_attempt (wpAny_holding ?_))
  unfold callGetattribute
  rw [hx0, if_neg Bool.false_ne_true]
  unfold boundAndCalled
  rw [PySem.F.excAttr_ValueError.ga.bind (.ref x)]
  refine wpAny_bind (wpAny_pure ?_)
  show wpAny _ _ (call (.builtin "BaseException.__getattribute__") [.ref x, .str "__class__" t]) _ _ _
  refine wpAny_call (codeAny_call_builtin PySem.F.excAttr_ValueError.ga.plain PySem.F.entry_bexc_ga ?_)
  refine @PySem.W.check_slot (model prog w) _ _ ⟨hp, g, d, t + 1, os⟩ "BaseException.__getattribute__" "BaseException" "__getattribute__" (.ref x) [.str "__class__" t] [] _ (by decide +kernel) (by decide +kernel) sub (PySem.F.args_bexc_ga (.ref x) (.str "__class__" t)) ?_
  unfold Builtin.«object.__getattribute__»
  refine wpAny_bind (wpAny_of_eq (a := ((Value.ref x : Value), [Value.str "__class__" t])) (by first | rfl | (simp only [slotArgs]; rfl)) ?_)
  refine wpAny_bind (wpAny_pure (wpAny_bind (L0.at (wpAny_bind (L3.at ?_)))))
  refine wpAny_bind (wpAny_holding (wpAny_call (class_get (s := ⟨hp, g, d, t + 1, os⟩) (ox := ox) (od := od) X I hm ?_)))
  refine wpAny_pure ?_
  show wpAny _ _ (handedOut (.ref C)) _ _ _
  rw [handedOut_of (show handedIn (.ref C) = true from rfl)]
  first | exact wpAny_pure h | exact wpAny_pure (wpAny_pure h)
theorem cn_dga (d tp : Value) (a : Addr) : descrGetArgs ⟨[d, .ref a, tp], []⟩ = pure (d, some (.ref a), given tp) := by kernel_rfl
theorem cn_get {R : Result → Shared → Prop} {tp v : Value} {o : Obj} (ho : s.heap.get? C = some o) (hc : o.cls = .type "type") (hv : o.slots[2]?.join = some v) (h : R (.ok (.ret v)) s) :
    codeAny (model prog w) A (.call (.builtin "getset_descriptor.__get__") ⟨[.builtin "type.__name__", .ref C, tp], []⟩) R s := by
  obtain ⟨hh, g, dr, t, os⟩ := s
  have L0 : Looks (model prog w) hh (typeOf (.ref C)) (.type "type") := by
    rw [← hc]
    exact (Looks.ld ho).andThen .now
  have L1 : Looks (model prog w) hh (isSubtype (.type "type") (.type "type")) true := Looks.of_pure (by rw [isSubtype_type]; kernel_rfl)
  refine codeAny_call_builtin KF.slot_gs.plain KF.entry_gs (KF.slot_gs.check _ _ _ _ _ _ _ _ ktyn_type (KF.args_gs _ _ _) ?_)
  unfold Builtin.«getset_descriptor.__get__» descrGet
  rw [cn_dga]
  refine wpAny_bind (wpAny_pure ?_)
  unfold descrGetter descrCheckInstance descrNameAndClass isInstance
  simp only [ktyn_owner]
  repeat lk
  refine ⟨Code.quiet_builtin _ (by decide +kernel), codeAny_builtin ktyn_entry ?_⟩
  unfold Builtin.«type.__name__» keptObject slotAt
  dsimp only
  refine wpAny_bind (wpAny_bind (wpAny_loadPart_at ho (wpAny_pure ?_)))
  rw [hv]
  exact wpAny_pure h
theorem cn_attr {v : Value} {o : Obj} (X : K.In s.heap) (ty : typeIn K (.ref C) = some (.type "type")) (st : nsIn K cStatics "thirdparty.any" = some none)
    (e : findCls K (.ref C) (.type "type") "__name__" = some (.get (.builtin "getset_descriptor.__get__") (.builtin "type.__name__") (.ref C) (.type "type"))) (lk : K.lookup C = some o) (hc : o.cls = .type "type") (hv : o.slots[2]?.join = some v) (hh : handedIn v = true)
    (h : Q v { s with toks := s.toks + 1 }) : wpAny (model prog w) A (getAttr (.ref C) "__name__" expr) Q E s := by
  have ho := X _ _ lk
  have L0 : Looks (model prog w) s.heap (typeOf (.ref C)) (.type "type") := by
    rw [← hc]
    exact (Looks.ld ho).andThen .now
  have hg : findIn K (.type "type") "__getattribute__" = some (some (.builtin "type.__getattribute__")) := type_tga
  refine cls_open X (looks_opaque X st) L0 hg (looks_hook X (r := none) (by rfl)) (by show subIn K _ _ = _; rfl) e ?_
  show wpAny _ _ (do ret (← holding [Value.builtin "type.__name__"] (call (.builtin "getset_descriptor.__get__") [.builtin "type.__name__", .ref C, .type "type"]))) _ _ _
  refine wpAny_bind (wpAny_holding (wpAny_call (cn_get (s := { s with toks := s.toks + 1 }) ho hc hv ?_)))
  refine wpAny_pure ?_
  show wpAny _ _ (handedOut v) _ _ _
  rw [handedOut_of hh]
  first | exact wpAny_pure h | exact wpAny_pure (wpAny_pure h)
end
end PySem.W
namespace OF
open PySem PySem.Spec PyProof.Rows L2
/-- what an error class says, so that the name of its class is told -/
structure NamC (K : PySem.W.Frag) (C : Addr) (nm : Str) : Prop where
  xf : XfC K C
  cl : (PySem.W.clsIn K C).isSome = true
  ha : PySem.W.findIn K (.ref C) "__class__" = some (some (.builtin "object.__class__"))
  hn : PySem.W.specialIn K (.builtin "object.__class__") "__get__" = some (some (.builtin "getset_descriptor.__get__"))
  ht : PySem.W.takesIn K (.builtin "object.__class__") = some true
  hm : PySem.W.mroIn K C (.type "object") = some true
  ty : PySem.W.typeIn K (.ref C) = some (.type "type")
  st : PySem.W.nsIn K cStatics "thirdparty.any" = some none
  fc : PySem.W.findCls K (.ref C) (.type "type") "__name__" = some (.get (.builtin "getset_descriptor.__get__") (.builtin "type.__name__") (.ref C) (.type "type"))
  lk : ∃ (o : Obj) (t : Tok), K.lookup C = some o ∧ o.cls = .type "type" ∧ o.slots[2]?.join = some (.str nm t)
  no : PySem.W.findIn K (.ref C) "class_name" = some none
section
variable {X : Cx} {e : Expr} {te : TE} {p1 p2 : Pos}
/-- e.__class__.__name__ -/
def tCname (K : PySem.W.Frag) (te : TE) : TE := fun σ H Q => te σ H fun x H1 => ∃ (a C : Addr) (nm : Str), x = .ref a ∧ H1 a = some (exo a C none) ∧ NamC K C nm ∧ Q (.str nm) H1
theorem pe_cname (he : PE X e te) (hb : attributeBase e "__class__" X.env (eval e X.env) = eval e X.env := by rfl) (hb2 : attributeBase (.Attribute e "__class__" p1) "__name__" X.env (eval (.Attribute e "__class__" p1) X.env) = eval (.Attribute e "__class__" p1) X.env := by rfl) :
    PE X (.Attribute (.Attribute e "__class__" p1) "__name__" p2) (tCname X.K te) := by
  refine ⟨fun pins s σ H Q I h => ?_⟩
  refine attr_of hb2 (attr_of hb (thn (he.run pins s σ H _ I h) fun u s1 hh => ?_))
  obtain ⟨x, H1, I1, rx, a, C, nm, ex, ea, N, q⟩ := hh
  subst ex
  obtain rfl : u = Value.ref a := rx
  obtain ⟨t1, ho⟩ := exo_at I1.hok ea
  have J : PySem.W.InstAt s1.heap a { cls := .ref C, dict := none, data := .fields #[.ref t1, .none, .none, .none, .bool false, .none] } C none := ⟨ho, rfl, rfl, trivial⟩
  refine PySem.W.exc_class I1.kIn J N.xf.ga N.xf.gg N.xf.exC (PySem.W.findObj_dataE N.cl N.ha N.hn N.ht) N.hm ?_
  obtain ⟨o, t, lk, hc, hv⟩ := N.lk
  refine PySem.W.cn_attr (s := { s1 with toks := s1.toks + 1 }) (I1.tok _).kIn N.ty N.st N.fc lk hc hv rfl ?_
  exact ⟨.str nm, H1, (I1.tok _).tok _, ⟨_, rfl⟩, q⟩
end
end OF
/-! The errors of the program: two classes deep, each with an __init__ of its own that calls the one above by its class. -/
namespace OF
open PySem PySem.Spec PyProof.Rows L2

/-! ### C.m(e, ..), m a plain def read off the class -/
section
variable {X : Cx} {CX : CXT} {k : Nat} {C f : Addr} {fd : FuncData} {ps : List Str} {sp : Sp} {E : XK} {x m : Str} {p p1 p2 pos : Pos} {e : Expr} {es : List Expr} {t : TA} {mc : Value}
theorem pe_unb {pl : Sem Bool} (F : FnOk X.prog X.w X.K X.mg X.base CX k f fd ps sp) (hr : Room k X.A) (hg : Gl X x) (hm : X.mg x = some (.ref C)) (r : ClX.CRead X.K C mc) (c : ClX.CVal X.K C mc m (.ref f) (.ref f)) (hk : PySem.W.keepIn X.K (.ref f) = true)
    (hb : Binds X.K fd ps []) (hx : Passes CX X E) (ha : PA X (e :: es) t)
    (hc : eval (.Call (.Attribute (.Name x p1) m p2) (e :: es) [] pos) X.env = (do
      let ov ← eval (.Name x p1) X.env
      standAt p2.atName
      let (f, first) ← holding [ov] (getMethod ov m pl)
      callWith pos f first (backTo pos (starEach (e :: es) X.env)) (backToKw pos (keywordEach [] X.env))) := by rfl)
    (hdb : (x == ("__debug__" : Str)) = false := by decide) (he : starEach (e :: es) X.env = (false, eval e X.env) :: starEach es X.env := by rfl) (hpl : (backTo pos (starEach es X.env)).any (·.1) = false := by rfl) :
    PE X (.Call (.Attribute (.Name x p1) m p2) (e :: es) [] pos) (tCall sp [] E t) := by
  refine ⟨fun pins s σ H Q I h => ?_⟩
  refine PySem.W.methodCall_KW (ld_glob I hg hm ?_ hdb) hc
  refine PySem.W.method_cls I.kIn r.ga (ClX.getcval_ok I r c fun s' I' => ?_)
  show wpAny _ _ (callWith pos (Value.ref f) [] (backTo pos (starEach (e :: es) X.env)) []) _ _ _
  refine PySem.W.callWith_K (h₀ := X.base) I.ok.mod.kin hk (thn (ha.run pos pins s' σ H _ I' h) fun us s1 ⟨vs, H1, I1, r1, q⟩ => ⟨I1.kIn, ?_⟩) he hpl
  exact run_fn F hr hb .nil hx I1 r1 q
end

/-! ### promises of the makers -/
/-- FigureError.__init__: the name of the class is kept -/
def spFig (K : PySem.W.Frag) : Sp := fun vs H Q _ => ∃ (a C : Addr) (v : V) (nm : Str), vs = [.ref a, v] ∧ OexC K C ∧ NamC K C nm ∧ H a = some (exo a C none) ∧ ∀ d, H d = none → d ≠ a → Q .non (upd (upd H d (exd d [("class_name", .str nm)])) a (exo a C (some d)))
/-- X.__init__ of the class at C: one field, and what was kept -/
def spInit (K : PySem.W.Frag) (f : Str) (C : Addr) : Sp := fun vs H Q _ => ∃ (a : Addr) (v : V), vs = [.ref a, v] ∧ H a = some (exo a C none) ∧ ∀ (fs : List (Str × V)) (d : Addr), H d = none → d ≠ a → Q .non (upd (upd H d (exd d ((f, v) :: fs))) a (exo a C (some d)))
theorem upd_swap {H : Hp} {a d : Addr} {x y z : HO} (n : d ≠ a) : upd (upd (upd H d x) a y) d z = upd (upd H d z) a y := by
  funext b
  by_cases h : b = d
  · subst h
    rw [upd_same, upd_ne n, upd_same]
  · rw [upd_ne h]
    by_cases h2 : b = a
    · subst h2
      rw [upd_same, upd_same]
    · rw [upd_ne h2, upd_ne h2, upd_ne h, upd_ne h]
/-- what the top says of FigureError -/
structure FigC (K : PySem.W.Frag) (mg : Str → Option Value) (C f : Addr) : Prop where
  g : mg "FigureError" = some (.ref C)
  rd : ClX.CRead K C (.type "type")
  at_ : PySem.W.findCls K (.ref C) (.type "type") "__init__" = some (.val (.ref f))
  kp : PySem.W.keepIn K (.ref f) = true
theorem FigC.val {K : PySem.W.Frag} {mg : Str → Option Value} {C f : Addr} (T : FigC K mg C f) : ClX.CVal K C (.type "type") "__init__" (.ref f) (.ref f) := ⟨T.at_, rfl⟩
/-- what the top says of an error class below it, its field f, its maker at fI -/
structure ErrC (K : PySem.W.Frag) (mg : Str → Option Value) (x f : Str) (C fI : Addr) : Prop where
  g : mg x = some (.ref C)
  ox : OexC K C
  iC : PySem.W.findIn K (.ref C) "__init__" = some (some (.ref fI))
  tI : PySem.W.typeIn K (.ref fI) = some (.type "function")
  no : PySem.W.findIn K (.ref C) f = some none
  xf : XfC K C
  te : PySem.W.exmOne K (.ref C) (.ref C) = some true
  nam : ∃ nm, NamC K C nm
/-- a raised error of the class at C with its field -/
def Raised (C : Addr) (f : Str) (v : V) (H : Hp) (E : XK) : Prop := ∀ (fs : List (Str × V)) (d : Addr) (H' : Hp), H d = none → Same H H' → H' d = some (.xd ((f, v) :: fs)) → E (.ref C) (some d) H'
theorem raised_ok {C : Addr} {f : Str} {v : V} {H H1 : Hp} {E : XK} (q : Raised C f v H E) (s : Same H H1) {K : PySem.W.Frag} {σ : L2.St} {D : Ends} : 
    ([v].length ≤ 1000 ∧ ∀ a, H1 a = none → spInit K f C (.ref a :: ([v] ++ [])) (upd H1 a (exo a C none))
      (fun v' H2 => v' = .non ∧ ∃ (d : Addr) (fs : List (Str × V)), H2 a = some (exo a C (some d)) ∧ H2 d = some (exd d fs) ∧ H1 d = none ∧ E (.ref C) (some d) (upd (del H2 a) d (.xd fs))) (fun _ _ _ => False)) := by
  refine ⟨(by show 1 ≤ 1000; decide), fun a ha => ⟨a, v, rfl, upd_same, fun fs d hd nda => ⟨rfl, d, (f, v) :: fs, upd_same, ?_, ?_, ?_⟩⟩⟩
  · rw [upd_ne nda]
    exact upd_same
  · rw [upd_ne nda] at hd
    exact hd
  · rw [upd_ne nda] at hd
    refine q fs d _ (s.free hd) (fun b o h => ?_) upd_same
    have h1 := s b o h
    have hba : b ≠ a := ne_of_none h1 ha
    have hbd : b ≠ d := ne_of_none h1 hd
    rw [upd_ne hbd, del_ne hba, upd_ne hba, upd_ne hbd, upd_ne hba]
    exact h1
/-- dict comprehensions over a range -/
theorem dc_range {lo : Int} {n : Nat} {g : TG} {tt : TT} {tk tv : TE} {vs : List Nat} {σ : L2.St} {H1 : Hp} {D : Addr} {Qd : Hp → Prop} (Pv : Nat → Hp → Prop) (h0 : Pv 0 (upd H1 D (.dK [])))
    (hs : ∀ i H, i < n → Pv i H → g (.int (lo + i)) (wipe σ vs) H fun σ2 H2 => wipe σ2 vs = wipe σ vs ∧ tt σ2 H2 fun b H3 =>
      if b = true then tk σ2 H3 fun y H4 => tv σ2 H4 fun z H5 => ∃ kvs k, y = kV k ∧ H5 D = some (.dK kvs) ∧ kvs.length < sizeLine ∧ Pv (i + 1) (upd H5 D (.dK (putK kvs k z))) else Pv (i + 1) H3) (hd : ∀ H, Pv n H → Qd H) :
    ∃ W : Nat → Nat → Hp → Prop, (∃ m, W 0 m (upd H1 D (.dK []))) ∧ ∀ i m H, W i m H →
      ((Itr lo n).stop i H ∧ Qd H) ∨ ((Itr lo n).go i H ∧ ∃ Nx : Hp → Prop, (∀ H', Nx H' → ∃ m', m' < m ∧ W (i + 1) m' H') ∧ ∀ x H', (Itr lo n).yld i H x H' → g x (wipe σ vs) H' fun σ2 H2 => wipe σ2 vs = wipe σ vs ∧ tt σ2 H2 fun b H3 =>
        if b = true then tk σ2 H3 fun y H4 => tv σ2 H4 fun z H5 => ∃ kvs k, y = kV k ∧ H5 D = some (.dK kvs) ∧ kvs.length < sizeLine ∧ Nx (upd H5 D (.dK (putK kvs k z))) else Nx H3) := by
  refine ⟨fun i m H => m = n - i ∧ i ≤ n ∧ Pv i H, ⟨n, by simp, Nat.zero_le _, h0⟩, ?_⟩
  rintro i m H ⟨rfl, hi, p⟩
  by_cases hlt : i < n
  · refine .inr ⟨hlt, Pv (i + 1), fun H' p' => ⟨n - (i + 1), by omega, rfl, hlt, p'⟩, fun x H' y => ?_⟩
    obtain ⟨e, y⟩ := y
    subst e y
    exact hs i _ hlt p
  · have e : i = n := by omega
    subst e
    exact .inl ⟨Nat.le_refl _, hd H p⟩
/-- an error of a class is what an except clause of that class names -/
theorem exm_own {K : PySem.W.Frag} {S : Addr} (h1 : PySem.W.subIn K (.ref S) (.type "BaseException") = some true) (h2 : PySem.W.isClsIn K S = true) (h3 : PySem.W.typeIn K (.ref S) = some (.type "type")) (h4 : PySem.W.subIn K (.ref S) (.ref S) = some true) :
    PySem.W.exmOne K (.ref S) (.ref S) = some true := by
  have h2' : (PySem.W.clsIn K S).isSome = true := h2
  unfold PySem.W.exmOne
  simp only [h1, beq_self_eq_true, if_true]
  unfold PySem.W.kitCls
  simp only [h3, h4, h2', beq_self_eq_true, Bool.and_self, if_true]

/-! ### isinstance(e, C), e the error that the suite holds, with a dict of its own -/
/-- what the class D of the error says, so that it is asked rightly -/
structure AskC (K : PySem.W.Frag) (D : Addr) : Prop where
  cl : (PySem.W.clsIn K D).isSome = true
  xf : XfC K D
  ha : PySem.W.findIn K (.ref D) "__class__" = some (some (.builtin "object.__class__"))
  hn : PySem.W.specialIn K (.builtin "object.__class__") "__get__" = some (some (.builtin "getset_descriptor.__get__"))
  ht : PySem.W.takesIn K (.builtin "object.__class__") = some true
  hm : PySem.W.mroIn K D (.type "object") = some true
def rAsk (K : PySem.W.Frag) (D a : Addr) (cls : Value) (d : Option Addr) : List V → Hp → VK → Prop := fun xs H Q => ∃ (dd : Addr) (fs : List (Str × V)) (c : V) (cv : Value) (b : Bool), cls = .ref D ∧ d = some dd ∧ H dd = some (.xd fs) ∧ xs = [.ref a, c] ∧ (∀ u, RelV c u → u = cv) ∧ PySem.W.kitOne K (.ref D) cv = some b ∧ Q (.bl b) H
theorem call_ask {X : Cx} {a D : Addr} {oe : Obj} {cls : Value} {d : Option Addr} {pn : List (Addr × Obj)} (C : AskC X.K D) (hz : Zc cls d oe) (hf : ∃ vs, oe.data = .fields vs) : CallR (X.suite a ((a, oe) :: pn)) (.builtin "isinstance") (rAsk X.K D a cls d) := by
  intro pins s σ H xs us Q I r h
  obtain ⟨dd, fs, c, cv, b, ec, ed, ea, rfl, hcv, e, q⟩ := h
  obtain ⟨u1, u2, rfl, r1, r2⟩ := vals2 r
  cases r1
  cases hcv _ r2
  subst ec
  subst ed
  obtain ⟨hget, _⟩ := I.pin (a, oe) (List.mem_append_left _ List.mem_cons_self)
  obtain ⟨vs, hv⟩ := hf
  have hx : ObjOk X.prog X.w H s.heap dd (.xd fs) := I.hok dd _ ea
  obtain ⟨mA, hns, _⟩ := hx
  obtain ⟨od, ho, _⟩ := lookIn_ns hns
  have J : PySem.W.InstAt s.heap a oe D (some od) := ⟨hget, hz.1, by unfold PySem.W.notCls; rw [hv] <;> rfl, by rw [hz.2]; exact ho⟩
  exact PySem.W.kia_one (PySem.W.kitx_exc C.cl C.xf.ga C.xf.gg C.xf.exC C.ha C.hn C.ht C.hm) I.kIn J e (fun z => nomatch z) fun tk => ⟨.bl b, H, I.kept (t' := tk) fun _ _ z => z, rfl, q⟩

/-! ### lists of the same things -/
/-- l != l2, two lists of the very same things -/
def rNeSame (K : PySem.W.Frag) : R2 := fun x y H Q => ∃ (l l2 : Addr) (xs : List V), x = .ref l ∧ y = .ref l2 ∧ SqL K H l xs ∧ SqL K H l2 xs ∧ (∀ v ∈ xs, flatB v = true ∨ ∃ a, v = .ref a) ∧ Q (.bl false) H
theorem op_neSame {X : Cx} (hu : X.A.units + 64 < cLine) : OpR X (compareOp .NotEq) (rNeSame X.K) := by
  intro pins s σ H x y v u Q I rx ry h
  obtain ⟨l, l2, xs, rfl, rfl, h1, h2, hs, q⟩ := h
  cases rx
  cases ry
  obtain ⟨us, r1, p1, _⟩ := I.list h1
  obtain ⟨ws, r2, p2, _⟩ := I.list h2
  have n1 := r1.length
  have n2 := r2.length
  have hsz : us.toArray.size = ws.toArray.size := by
    rw [List.size_toArray, List.size_toArray]
    omega
  have key := SeqAt.RcNeAt.lists (A := X.A) (e := fun _ => true) p1.isList p2.isList hsz (by omega) (fun j h1 h2 => ?_)
  · refine key X.prog X.w _ _ ?_
    rw [show ((List.range us.toArray.size).all fun _ => true) = true from List.all_eq_true.mpr fun _ _ => rfl]
    exact ⟨.bl false, H, I, rfl, q⟩
  · have j1 : j < us.length := by simpa using h1
    have jx : j < xs.length := by omega
    obtain ⟨a, ea, ra⟩ := Vals.get r1 (List.getElem?_eq_getElem jx)
    obtain ⟨b, eb, rb⟩ := Vals.get r2 (List.getElem?_eq_getElem jx)
    have e1 : us.toArray[j] = a := by
      have := List.getElem?_eq_getElem j1
      rw [this] at ea
      simpa using Option.some.inj ea
    have e2 : ws.toArray[j] = b := by
      have j2 : j < ws.length := by omega
      have := List.getElem?_eq_getElem j2
      rw [this] at eb
      simpa using Option.some.inj eb
    rw [e1, e2]
    rcases hs _ (List.getElem_mem jx) with hf | ⟨p, hp⟩
    · exact eqAt_same ra rb hf
    · rw [hp] at ra rb
      cases ra
      cases rb
      exact SeqAt.EqAt.same _
/-- isinstance's answer by an own class that is the class itself or above it -/
theorem kit_own {K : PySem.W.Frag} {S C : Addr} (h2 : PySem.W.isClsIn K C = true) (h3 : PySem.W.typeIn K (.ref C) = some (.type "type")) (h4 : PySem.W.subIn K (.ref S) (.ref C) = some true) : PySem.W.kitOne K (.ref S) (.ref C) = some true := by
  have h2' : (PySem.W.clsIn K C).isSome = true := h2
  unfold PySem.W.kitOne
  split
  · rfl
  · unfold PySem.W.kitCls
    simp only [h3, h4, h2', beq_self_eq_true, Bool.and_self, if_true]
end OF
/-! Rows as texts: what read_row makes of a text. -/
namespace OF
open PySem PySem.Spec PyProof.Rows L2 TL
/-- the texts of the digits, with their digits -/
def digL : List (Key × V) := (List.range 19).map fun (i : Nat) => (Sum.inr (Str.ofString (toString ((-9 : Int) + (i : Int)))), V.int ((-9 : Int) + (i : Int)))
theorem digL_put : ∀ i : Nat, i < 19 → putK (digL.take i) (Sum.inr (Str.ofString (toString ((-9 : Int) + (i : Int))))) (V.int ((-9 : Int) + (i : Int))) = digL.take (i + 1) := by decide +kernel
theorem digL_all : digL.take 19 = digL := by decide +kernel
/-- the digit that a word is -/
def digV (w : Str) : Option V := valV digL (Sum.inr w)
/-- the digits that words are -/
def rowOf (ws : List Str) : Option (List V) := if ws.all (fun w => (digV w).isSome) = true then some (ws.map fun w => (digV w).getD .non) else none
/-- the row whose text it is -/
def readV (z : Str) : Option (List V) := if z = Str.ofString "." then some [] else rowOf (Txt.split z (Str.ofString " "))
/-- a value of a kind that is no text -/
inductive NoStr (H : Hp) : V → Prop
  | non : NoStr H .non
  | bl (b : Bool) : NoStr H (.bl b)
  | int (i : Int) : NoStr H (.int i)
  | lst {a : Addr} {xs : List V} (e : H a = some (.lst xs)) : NoStr H (.ref a)
  | tup {a : Addr} {xs : List V} (e : H a = some (.tup xs)) : NoStr H (.ref a)
  | dK {a : Addr} {kvs : List (Key × V)} (e : H a = some (.dK kvs)) : NoStr H (.ref a)
theorem NoStr.kit {K : PySem.W.Frag} {H : Hp} {x : V} (h : NoStr H x) : ∃ t : Value, TyX K H x t ∧ PySem.W.kitOne K t (.type "str") = some false := by
  cases h with
  | non => exact ⟨_, .base .non, kit_ty (by decide +kernel)⟩
  | bl b => exact ⟨_, .base (.bl b), kit_ty (by decide +kernel)⟩
  | int z => exact ⟨_, .base (.int z), kit_ty (by decide +kernel)⟩
  | lst e => exact ⟨_, .base (.lst e), kit_ty (by decide +kernel)⟩
  | tup e => exact ⟨_, .base (.tup e), kit_ty (by decide +kernel)⟩
  | dK e => exact ⟨_, .base (.dK e), kit_ty (by decide +kernel)⟩
theorem NoStr.same {H H' : Hp} {x : V} (h : NoStr H x) (s : Same H H') : NoStr H' x := by
  cases h with
  | non => exact .non
  | bl b => exact .bl b
  | int z => exact .int z
  | lst e => exact .lst (s _ _ e)
  | tup e => exact .tup (s _ _ e)
  | dK e => exact .dK (s _ _ e)
/-- read_row: the row, or an error with the very value -/
def spRead (C : Addr) : Sp := fun vs H Q E => ∃ x : V, vs = [x] ∧
  ((∃ z : Str, x = .str z ∧ z.length ≤ 100000 ∧ (∀ ds, readV z = some ds → ∀ p H', H p = none → Same H H' → H' p = some (.tup ds) → Q (.ref p) H') ∧ (readV z = none → Raised C "text" (.str z) H E)) ∨
    (NoStr H x ∧ Raised C "text" x H E))
theorem take_more {α : Type} : ∀ {l : List α} {i : Nat} {x : α}, l[i]? = some x → l.take (i + 1) = l.take i ++ [x]
  | [], i, x, h => by simp at h
  | a :: l, 0, x, h => by
    have e : a = x := Option.some.inj h
    subst e
    rfl
  | a :: l, i + 1, x, h => by
    have ih := take_more (l := l) (i := i) (x := x) h
    show a :: l.take (i + 1) = a :: l.take i ++ [x]
    rw [ih]
    rfl
theorem get_map {α β : Type} {f : α → β} {l : List α} {i : Nat} {y : β} (h : (l.map f)[i]? = some y) : ∃ x, l[i]? = some x ∧ y = f x := by
  rw [List.getElem?_map] at h
  cases e : l[i]? with
  | none => rw [e] at h; cases h
  | some x => rw [e] at h; exact ⟨x, rfl, (Option.some.inj h).symm⟩
theorem log_le {n : Int} (h : n.natAbs ≤ 1000) : n.natAbs.log2 < 1920 := Nat.lt_of_le_of_lt (Nat.log2_le_self _) (by omega)
theorem vals_signs : ∀ (L : List Nat) (l : List Value), l.length = L.length → (∀ (j : Nat) (v : Value), l[j]? = some v → ∃ (c : Nat) (u : Tok), L[j]? = some c ∧ v = Value.str ⟨#[c]⟩ u) → Vals (L.map fun c => V.str ⟨#[c]⟩) l
  | [], [], _, _ => .nil
  | c :: L, v :: l, hl, h => by
    obtain ⟨c', u, e1, e2⟩ := h 0 v rfl
    cases (show c = c' from Option.some.inj e1)
    exact .cons ⟨u, e2⟩ (vals_signs L l (Nat.succ.inj hl) fun j w hw => h (j + 1) w hw)
/-- list(text) -/
theorem call_list_signs {X : Cx} (hc : X.calm = true) : CallR X (.type "list") (fun xs H Q => ∃ z : Str, xs = [.str z] ∧ z.length ≤ sizeLine ∧ ∀ l, H l = none → Q (.ref l) (upd H l (.lst ((tl z).map fun c => V.str ⟨#[c]⟩)))) := by
  intro pins s σ H xs us Q I r h
  obtain ⟨z, rfl, hz, q⟩ := h
  obtain ⟨u, rfl, t, rfl⟩ := vals1 r
  refine PySem.call_list_str (I.ok.hd hc) z t (fun h' tk acc' c' hk hS' hacc => ?_) (by exact hz)
  have hl : acc'.toList.length = (tl z).length := by
    rw [Array.length_toList, hacc.1]
    rfl
  refine ⟨.ref s.heap.objs.size, _, I.laid (t' := tk) hk (Nat.le_refl _) (show ObjOk X.prog X.w _ h' _ (.lst ((tl z).map fun c => V.str ⟨#[c]⟩)) from ⟨?_, acc'.toList, c', ?_, ?_⟩), rfl, q _ (I.hok.fresh (Nat.le_refl _))⟩
  · rw [List.length_map, ← len_tl]
    exact hz
  · refine vals_signs _ _ hl fun j v hv => ?_
    obtain ⟨c, u, e1, e2⟩ := hacc.2 j v (by rw [← Array.getElem?_toList]; exact hv)
    exact ⟨c, u, by rw [Array.getElem?_toList]; exact e1, e2⟩
  · rw [Array.toArray_toList]
    exact hS'

/-! ### a word as the law reads it -/
def sgB (w : Str) : Bool := decide (V.str (cutS w none (some 1)) = V.str (Str.ofString "-"))
def sgI (w : Str) : Int := if sgB w then 1 else 0
def restS (w : Str) : Str := cutS w (some (sgI w)) none
def figs : List V := (tl (Str.ofString "0123456789")).map fun c => V.str ⟨#[c]⟩
def figVal (w : Str) : Int := Txt.find (Str.ofString "0123456789") (restS w) * (1 - 2 * sgI w)
theorem digV_is {w : Str} {v : V} (h : digV w = some v) : ∃ i : Nat, i < 19 ∧ w = Str.ofString (toString ((-9 : Int) + (i : Int))) ∧ v = V.int ((-9 : Int) + (i : Int)) := by
  unfold digV valV digL at h
  rw [List.find?_map] at h
  cases e : List.find? ((fun kv : Key × V => decide (kv.1 = Sum.inr w)) ∘ fun (i : Nat) => ((Sum.inr (Str.ofString (toString ((-9 : Int) + (i : Int)))), V.int ((-9 : Int) + (i : Int))) : Key × V)) (List.range 19) with
  | none => rw [e] at h; cases h
  | some i =>
    rw [e] at h
    have p := List.find?_some e
    have m := List.mem_of_find?_eq_some e
    refine ⟨i, List.mem_range.mp m, ?_, (Option.some.inj h).symm⟩
    exact (Sum.inr.inj (of_decide_eq_true p)).symm
theorem digs_ok : ∀ i : Nat, i < 19 → inV (.str (restS (Str.ofString (toString ((-9 : Int) + (i : Int)))))) figs = true ∧ decide (V.str (Str.ofString (toString ((-9 : Int) + (i : Int)))) = V.str (Str.ofString "-0")) = false ∧
    figVal (Str.ofString (toString ((-9 : Int) + (i : Int)))) = (-9 : Int) + (i : Int) := by decide +kernel
theorem word_some {w : Str} {v : V} (h : digV w = some v) : inV (.str (restS w)) figs = true ∧ decide (V.str w = V.str (Str.ofString "-0")) = false ∧ v = V.int (figVal w) := by
  obtain ⟨i, hi, rfl, rfl⟩ := digV_is h
  obtain ⟨h1, h2, h3⟩ := digs_ok i hi
  exact ⟨h1, h2, by rw [h3]⟩
theorem figs_words : ∀ c ∈ tl (Str.ofString "0123456789"), (digV ⟨#[c]⟩).isSome = true ∧ ((digV (⟨(45 :: [c]).toArray⟩ : Str)).isSome = true ∨ (⟨(45 :: [c]).toArray⟩ : Str) = Str.ofString "-0") := by decide +kernel
theorem cut_rest {w : Str} (h : sgB w = true) : tl w = 45 :: tl (cutS w (some 1) none) := by
  have e : cutS w none (some 1) = Str.ofString "-" := V.str.inj (of_decide_eq_true h)
  have e2 : tl (cutS w none (some 1)) = [45] := by rw [e]; decide +kernel
  have hL : ∀ lo hi, tl (cutS w lo hi) = ((tl w).drop (HT.sIx w.length 0 lo)).take (HT.sIx w.length w.length hi - HT.sIx w.length 0 lo) := fun lo hi => by
    unfold cutS
    exact List.toList_toArray ..
  rw [hL] at e2 ⊢
  rw [HT.sIx_none, show HT.sIx w.length w.length (some 1) = min 1 w.length from HT.sIx_nat w.length w.length 1] at e2
  rw [HT.sIx_none, show HT.sIx w.length 0 (some 1) = min 1 w.length from HT.sIx_nat w.length 0 1]
  have el := len_tl w
  cases hw : tl w with
  | nil => rw [hw] at e2; simp at e2
  | cons a r =>
    rw [hw] at e2 el
    have : min 1 w.length = 1 := by rw [el, List.length_cons]; omega
    rw [this] at e2 ⊢
    have ea : a = 45 := by simpa using e2
    rw [ea, el]
    simp
theorem cut_all {w : Str} (h : sgB w = false) : restS w = w := by
  unfold restS sgI
  rw [h]
  unfold cutS
  rw [show HT.sIx w.length 0 (some (if false = true then (1 : Int) else 0)) = min 0 w.length from HT.sIx_nat w.length 0 0, HT.sIx_none, Nat.zero_min, List.drop_zero, Nat.sub_zero]
  rw [List.take_of_length_le (by rw [← len_tl]; exact Nat.le_refl _)]
theorem word_none {w : Str} (h : digV w = none) : inV (.str (restS w)) figs = false ∨ decide (V.str w = V.str (Str.ofString "-0")) = true := by
  cases hi : inV (.str (restS w)) figs with
  | false => exact .inl rfl
  | true =>
    right
    unfold inV figs at hi
    obtain ⟨y, hy, e⟩ := List.any_eq_true.mp hi
    obtain ⟨c, hc, rfl⟩ := List.mem_map.mp hy
    have er : restS w = ⟨#[c]⟩ := by
      have : (⟨#[c]⟩ : Str) = restS w := by simpa [eqV] using e
      exact this.symm
    obtain ⟨h1, h2⟩ := figs_words c hc
    cases hs : sgB w with
    | false =>
      rw [cut_all hs] at er
      rw [er] at h
      rw [h] at h1
      cases h1
    | true =>
      have e1 := cut_rest hs
      have e3 : restS w = cutS w (some 1) none := by
        unfold restS sgI
        rw [hs]
        rfl
      have ew : w = (⟨(45 :: [c]).toArray⟩ : Str) := by
        rw [← mk_tl w, e1, ← e3, er]
      rcases h2 with h2 | h2
      · rw [← ew, h] at h2
        cases h2
      · exact decide_eq_true (congrArg V.str (ew.trans h2))

/-! ### texts of few and plain signs -/
def TOk (n : Nat) (z : Str) : Prop := (tl z).length ≤ n ∧ ∀ c ∈ tl z, c < 1114112
theorem TOk.mono {n m : Nat} {z : Str} (h : TOk n z) (hm : n ≤ m) : TOk m z := ⟨Nat.le_trans h.1 hm, h.2⟩
theorem TOk.len {n : Nat} {z : Str} (h : TOk n z) : z.length ≤ n := by rw [len_tl]; exact h.1
theorem TOk.ok {n : Nat} {z : Str} (h : TOk n z) : PyData.strOk z = true := by
  unfold PyData.strOk
  rw [Array.all_eq_true']
  intro c hc
  exact decide_eq_true (h.2 c (by show c ∈ z.cps.toList; exact Array.mem_toList_iff.mpr hc))
theorem tl_cut (w : Str) (lo hi : Option Int) : tl (cutS w lo hi) = ((tl w).drop (HT.sIx w.length 0 lo)).take (HT.sIx w.length w.length hi - HT.sIx w.length 0 lo) := by
  unfold cutS
  exact List.toList_toArray ..
theorem TOk.cut {n : Nat} {z : Str} (h : TOk n z) (lo hi : Option Int) : TOk n (cutS z lo hi) := by
  unfold TOk
  rw [tl_cut]
  refine ⟨?_, fun c hc => h.2 c (List.mem_of_mem_drop (List.mem_of_mem_take hc))⟩
  refine Nat.le_trans (List.length_take_le' _ _) ?_
  rw [List.length_drop]
  exact Nat.le_trans (Nat.sub_le _ _) h.1
theorem TOk.app {n m : Nat} {x y : Str} (h : TOk n x) (k : TOk m y) : TOk (n + m) (x ++ y) := by
  unfold TOk
  rw [tl_append, List.length_append]
  refine ⟨Nat.add_le_add h.1 k.1, fun c hc => ?_⟩
  rcases List.mem_append.mp hc with hc | hc
  · exact h.2 c hc
  · exact k.2 c hc
theorem in_join {S : List Nat} : ∀ {ps : List (List Nat)} {p : List Nat}, p ∈ ps → p.length ≤ (joinL S ps).length ∧ ∀ c ∈ p, c ∈ joinL S ps
  | [q], p, h => by
    cases List.mem_singleton.mp h
    exact ⟨Nat.le_refl _, fun c hc => hc⟩
  | q :: r :: ps, p, h => by
    have e : joinL S (q :: r :: ps) = q ++ (S ++ joinL S (r :: ps)) := rfl
    rw [e]
    rcases List.mem_cons.mp h with h | h
    · rw [h]
      refine ⟨?_, fun c hc => List.mem_append_left _ hc⟩
      rw [List.length_append]
      omega
    · obtain ⟨h1, h2⟩ := in_join (S := S) h
      refine ⟨?_, fun c hc => List.mem_append_right _ (List.mem_append_right _ (h2 c hc))⟩
      rw [List.length_append, List.length_append]
      omega
theorem join_in {S : List Nat} {P : Nat → Prop} (hS : ∀ c ∈ S, P c) : ∀ {ps : List (List Nat)} {n : Nat}, (∀ p ∈ ps, p.length ≤ n ∧ ∀ c ∈ p, P c) → (joinL S ps).length ≤ ps.length * (n + S.length) ∧ ∀ c ∈ joinL S ps, P c
  | [], n, _ => ⟨Nat.zero_le _, fun c hc => by cases hc⟩
  | [q], n, h => by
    obtain ⟨h1, h2⟩ := h q (List.mem_singleton.mpr rfl)
    refine ⟨?_, h2⟩
    show q.length ≤ 1 * (n + S.length)
    omega
  | q :: r :: ps, n, h => by
    obtain ⟨h1, h2⟩ := h q (List.mem_cons_self ..)
    obtain ⟨h3, h4⟩ := join_in hS (ps := r :: ps) (n := n) fun p hp => h p (List.mem_cons_of_mem _ hp)
    have e : joinL S (q :: r :: ps) = q ++ (S ++ joinL S (r :: ps)) := rfl
    rw [e]
    refine ⟨?_, fun c hc => ?_⟩
    · rw [List.length_append, List.length_append, List.length_cons, Nat.succ_mul]
      omega
    · rcases List.mem_append.mp hc with hc | hc
      · exact h2 c hc
      · rcases List.mem_append.mp hc with hc | hc
        · exact hS c hc
        · exact h4 c hc
theorem TOk.parts {n : Nat} {z y : Str} (h : TOk n z) : ∀ w ∈ Txt.split z y, TOk n w := fun w hw => by
  have e := StrLaws.join_split z y
  have e2 := tl_join y (Txt.split z y)
  rw [e] at e2
  obtain ⟨h1, h2⟩ := in_join (S := tl y) (ps := (Txt.split z y).map tl) (List.mem_map.mpr ⟨w, hw, rfl⟩)
  rw [← e2] at h1 h2
  exact ⟨Nat.le_trans h1 h.1, fun c hc => h.2 c (h2 c hc)⟩
theorem TOk.join {n m : Nat} {y : Str} {ps : List Str} (hy : TOk m y) (h : ∀ p ∈ ps, TOk n p) : TOk (ps.length * (n + m)) (Txt.join y ps) := by
  rw [TL.join_eq]
  unfold TOk
  rw [tl_join]
  obtain ⟨h1, h2⟩ := join_in (S := tl y) (P := fun c => c < 1114112) hy.2 (ps := ps.map tl) (n := n) fun p hp => by
    obtain ⟨w, hw, rfl⟩ := List.mem_map.mp hp
    exact h w hw
  refine ⟨Nat.le_trans h1 ?_, h2⟩
  rw [List.length_map]
  exact Nat.mul_le_mul_left _ (Nat.add_le_add_left hy.1 _)
theorem sum_len {n : Nat} : ∀ {ps : List Str}, (∀ p ∈ ps, TOk n p) → (ps.map (·.length)).sum ≤ ps.length * n
  | [], _ => Nat.zero_le _
  | p :: ps, h => by
    have h1 := (h p (List.mem_cons_self ..)).len
    have h2 := sum_len (ps := ps) fun q hq => h q (List.mem_cons_of_mem _ hq)
    rw [List.map_cons, List.sum_cons, List.length_cons, Nat.succ_mul]
    omega
theorem join_pos {y : Str} {ps : List Str} {p : Str} (hp : p ∈ ps) (h : 1 ≤ p.length) : 1 ≤ (Txt.join y ps).length := by
  rw [TL.join_eq, len_tl, tl_join]
  have h1 := (in_join (S := tl y) (ps := ps.map tl) (List.mem_map.mpr ⟨p, hp, rfl⟩)).1
  rw [← len_tl] at h1
  omega
instance (n : Nat) (z : Str) : Decidable (TOk n z) := inferInstanceAs (Decidable (_ ∧ _))
theorem digit_texts : ∀ i : Nat, i < 19 → TOk 2 (Str.ofString (toString ((-9 : Int) + (i : Int)))) ∧ 1 ≤ (Str.ofString (toString ((-9 : Int) + (i : Int)))).length := by decide +kernel
/-- text data that may be compared -/
theorem shaped_str {z : Str} (h : PyData.strOk z = true) : SeqAt.shaped (.str z) = true := by
  unfold SeqAt.shaped
  rw [show PyData.canLay0 (.str z) = PyData.strOk z by simp only [PyData.canLay0], h]
  rfl

/-! ### data that may be compared -/
theorem dp_ints {K : PySem.W.Frag} {H : Hp} : ∀ is : List Int, DpAll K H (is.map V.int) (is.map PyData.int)
  | [] => .nil
  | i :: is => .cons (.int i) (dp_ints is)
theorem can_ints : ∀ is : List Int, PyData.canLayAll0 (is.map PyData.int) = true
  | [] => by simp only [List.map_nil, PyData.canLayAll0]
  | i :: is => by
    rw [List.map_cons, PyData.canLayAll0, can_ints is]
    simp only [PyData.canLay0, Bool.and_true]
theorem dep_ints : ∀ is : List Int, PyData.depthAll (is.map PyData.int) = 0
  | [] => by simp only [List.map_nil, PyData.depthAll]
  | i :: is => by
    rw [List.map_cons, PyData.depthAll, dep_ints is]
    simp only [PyData.depth, Nat.max_self]
theorem shaped_of {d : PyData} (h : d.canLay0 = true) (k : d.depth ≤ 64) : SeqAt.shaped d = true := by
  unfold SeqAt.shaped
  rw [h, decide_eq_true k]
  rfl
theorem can_pair {z : Str} {d : PyData} (hz : PyData.strOk z = true) (hd : d.canLay0 = true) : (PyData.list [.str z, d]).canLay0 = true := by
  simp only [PyData.canLay0, PyData.canLayAll0, hz, hd, Bool.and_true]
theorem dep_pair {z : Str} {d : PyData} {n : Nat} (hd : d.depth ≤ n) : (PyData.list [.str z, d]).depth ≤ n + 1 := by
  simp only [PyData.depth, PyData.depthAll]
  omega
/-- the item's own data: what stands at it reads so, whatever is made later -/
structure DatOf (K : PySem.W.Frag) (H : Hp) (x : V) (d : PyData) : Prop where
  dp : ∀ H', Same H H' → Dp K H' x d
  can : d.canLay0 = true
  dep : d.depth ≤ 10
theorem DatOf.same {K : PySem.W.Frag} {H H1 : Hp} {x : V} {d : PyData} (h : DatOf K H x d) (s : Same H H1) : DatOf K H1 x d := ⟨fun H' s' => h.dp H' (s.trans s'), h.can, h.dep⟩
theorem DatOf.str {K : PySem.W.Frag} {H : Hp} {z : Str} (hz : PyData.strOk z = true) : DatOf K H (.str z) (.str z) := ⟨fun _ _ => .str z, by simp only [PyData.canLay0, hz], by simp only [PyData.depth]; omega⟩
theorem DatOf.non {K : PySem.W.Frag} {H : Hp} : DatOf K H .non .none := ⟨fun _ _ => .non, by simp only [PyData.canLay0], by simp only [PyData.depth]; omega⟩
theorem DatOf.bl {K : PySem.W.Frag} {H : Hp} {b : Bool} : DatOf K H (.bl b) (.bool b) := ⟨fun _ _ => .bl b, by simp only [PyData.canLay0], by simp only [PyData.depth]; omega⟩
theorem DatOf.int {K : PySem.W.Frag} {H : Hp} {i : Int} : DatOf K H (.int i) (.int i) := ⟨fun _ _ => .int i, by simp only [PyData.canLay0], by simp only [PyData.depth]; omega⟩
theorem DatOf.tup {K : PySem.W.Frag} {H : Hp} {p : Addr} {is : List Int} (e : H p = some (.tup (is.map V.int))) : DatOf K H (.ref p) (.tuple (is.map PyData.int)) :=
  ⟨fun _ s => .tup (SqT.of (s _ _ e)) (dp_ints is), by simp only [PyData.canLay0, can_ints], by simp only [PyData.depth, dep_ints]; omega⟩
theorem DatOf.lst1 {K : PySem.W.Frag} {H : Hp} {p : Addr} {z : Str} (hz : PyData.strOk z = true) (e : H p = some (.lst [.str z])) : DatOf K H (.ref p) (.list [.str z]) :=
  ⟨fun _ s => .lst (SqL.of (s _ _ e)) (.cons (.str z) .nil), by simp only [PyData.canLay0, PyData.canLayAll0, hz, Bool.and_true], by simp only [PyData.depth, PyData.depthAll]; omega⟩
/-- two lists of a word and the same thing: equal -/
theorem pair_eqv {z : Str} {d : PyData} (hz : PyData.strOk z = true) (hd : d.canLay0 = true) : PyData.eqv (.list [.str z, d]) (.list [.str z, d]) = true := SeqAt.eqv_refl _ (can_pair hz hd)
theorem pair_ne {K : PySem.W.Frag} {H : Hp} {l l2 : Addr} {z : Str} {x y : V} {d : PyData} {Q : V → Hp → Prop} (hz : PyData.strOk z = true) (e1 : H l = some (.lst [.str z, x])) (e2 : H l2 = some (.lst [.str z, y])) (h1 : Dp K H x d) (h2 : Dp K H y d) (hc : d.canLay0 = true) (hd : d.depth ≤ 10)
    (q : Q (.bl false) H) : rNeD K (.ref l) (.ref l2) H Q := by
  have sh := shaped_of (can_pair hz hc) (Nat.le_trans (dep_pair hd) (by decide))
  refine ⟨_, _, Dp.lst (SqL.of e1) (.cons (.str z) (.cons h1 .nil)), Dp.lst (SqL.of e2) (.cons (.str z) (.cons h2 .nil)), sh, sh, ?_⟩
  rw [pair_eqv hz hc]
  exact q
theorem pair_eq {K : PySem.W.Frag} {H : Hp} {l l2 : Addr} {z : Str} {x y : V} {d : PyData} {Q : V → Hp → Prop} (hz : PyData.strOk z = true) (e1 : H l = some (.lst [.str z, x])) (e2 : H l2 = some (.lst [.str z, y])) (h1 : Dp K H x d) (h2 : Dp K H y d) (hc : d.canLay0 = true) (hd : d.depth ≤ 10)
    (q : Q (.bl true) H) : rEqD K (.ref l) (.ref l2) H Q := by
  have sh := shaped_of (can_pair hz hc) (Nat.le_trans (dep_pair hd) (by decide))
  refine ⟨_, _, Dp.lst (SqL.of e1) (.cons (.str z) (.cons h1 .nil)), Dp.lst (SqL.of e2) (.cons (.str z) (.cons h2 .nil)), sh, sh, ?_⟩
  rw [pair_eqv hz hc]
  exact q
/-- the digits of a text are ints -/
theorem readV_ints {z : Str} {ds : List V} (h : readV z = some ds) : ∃ is : List Int, ds = is.map V.int := by
  unfold readV at h
  split at h
  · cases Option.some.inj h
    exact ⟨[], rfl⟩
  · unfold rowOf at h
    split at h
    · rename_i hall
      have e := Option.some.inj h
      refine ⟨(Txt.split z (Str.ofString " ")).map fun w => match digV w with | some (.int i) => i | _ => 0, ?_⟩
      rw [← e, List.map_map]
      refine List.map_congr_left fun w hw => ?_
      have hs := List.all_eq_true.mp hall w hw
      obtain ⟨v, hv⟩ := Option.isSome_iff_exists.mp hs
      obtain ⟨i, _, _, rfl⟩ := digV_is hv
      simp only [Function.comp, hv, Option.getD_some]
    · cases h
theorem read_empty : readV (Str.ofString "") = none := by decide +kernel
theorem read_dot : readV (Str.ofString ".") = some [] := by decide +kernel
/-- two ways, heaps behind them of their own, one rest -/
theorem iteDupH {c : Bool} {A B : Prop} {G : Hp} {S : Hp → Prop} (f : (∀ H', Same G H' → S H') → c = true → A) (g : (∀ H', Same G H' → S H') → c = false → B) (r : ∀ H', Same G H' → S H') : if c = true then A else B := by
  cases c with
  | true => exact iteT (f r rfl)
  | false => exact iteF (g r rfl)

/-! ### rows as texts -/
/-- a value of a kind that is no tuple -/
inductive NoTup (H : Hp) : V → Prop
  | non : NoTup H .non
  | bl (b : Bool) : NoTup H (.bl b)
  | int (i : Int) : NoTup H (.int i)
  | str (z : Str) : NoTup H (.str z)
  | lst {a : Addr} {xs : List V} (e : H a = some (.lst xs)) : NoTup H (.ref a)
  | dK {a : Addr} {kvs : List (Key × V)} (e : H a = some (.dK kvs)) : NoTup H (.ref a)
theorem NoTup.kit {K : PySem.W.Frag} {H : Hp} {x : V} (h : NoTup H x) : ∃ t : Value, TyX K H x t ∧ PySem.W.kitOne K t (.type "tuple") = some false := by
  cases h with
  | non => exact ⟨_, .base .non, kit_ty (by decide +kernel)⟩
  | bl b => exact ⟨_, .base (.bl b), kit_ty (by decide +kernel)⟩
  | int z => exact ⟨_, .base (.int z), kit_ty (by decide +kernel)⟩
  | str z => exact ⟨_, .base (.str z), kit_ty (by decide +kernel)⟩
  | lst e => exact ⟨_, .base (.lst e), kit_ty (by decide +kernel)⟩
  | dK e => exact ⟨_, .base (.dK e), kit_ty (by decide +kernel)⟩
theorem NoTup.same {H H' : Hp} {x : V} (h : NoTup H x) (s : Same H H') : NoTup H' x := by
  cases h with
  | non => exact .non
  | bl b => exact .bl b
  | int z => exact .int z
  | str z => exact .str z
  | lst e => exact .lst (s _ _ e)
  | dK e => exact .dK (s _ _ e)
/-- an int, or a value of another kind -/
def IntOdd (H : Hp) (x : V) : Prop := (∃ n : Int, x = .int n) ∨ Odd H x
theorem IntOdd.same {H H' : Hp} {x : V} (h : IntOdd H x) (s : Same H H') : IntOdd H' x := by
  rcases h with h | h
  · exact .inl h
  · exact .inr (h.same s)
def digI (n : Int) : Bool := decide (-9 ≤ n) && decide (n ≤ 9)
/-- a digit -/
def digB : V → Bool
  | .int n => digI n
  | _ => false
theorem digB_odd {H : Hp} {x : V} (h : Odd H x) : digB x = false := by cases h <;> rfl
theorem digs_ints : ∀ {xs : List V}, xs.all digB = true → ∃ is : List Int, xs = is.map V.int ∧ ∀ i ∈ is, -9 ≤ i ∧ i ≤ 9
  | [], _ => ⟨[], rfl, fun i h => by cases h⟩
  | x :: xs, h => by
    rw [List.all_cons, Bool.and_eq_true] at h
    obtain ⟨is, e, k⟩ := digs_ints h.2
    cases x with
    | int n =>
      have h1 : digI n = true := h.1
      unfold digI at h1
      rw [Bool.and_eq_true, decide_eq_true_eq, decide_eq_true_eq] at h1
      refine ⟨n :: is, by rw [e]; rfl, fun i hi => ?_⟩
      rcases List.mem_cons.mp hi with hi | hi
      · rw [hi]; exact h1
      · exact k i hi
    | non => exact absurd h.1 Bool.false_ne_true
    | bl b => exact absurd h.1 Bool.false_ne_true
    | str z => exact absurd h.1 Bool.false_ne_true
    | byt z => exact absurd h.1 Bool.false_ne_true
    | flt z => exact absurd h.1 Bool.false_ne_true
    | ref a => exact absurd h.1 Bool.false_ne_true
    | ty n => exact absurd h.1 Bool.false_ne_true
theorem ints_digs {is : List Int} (h : ∀ i ∈ is, -9 ≤ i ∧ i ≤ 9) : (is.map V.int).all digB = true := by
  rw [List.all_map]
  refine List.all_eq_true.mpr fun i hi => ?_
  obtain ⟨h1, h2⟩ := h i hi
  show digI i = true
  unfold digI
  rw [decide_eq_true h1, decide_eq_true h2]
  rfl
/-- the text of a digit -/
def strI (i : Int) : Str := Str.ofString (toString i)
theorem strI_ok {i : Int} (h : -9 ≤ i ∧ i ≤ 9) : TOk 2 (strI i) ∧ 1 ≤ (strI i).length := by
  obtain ⟨h1, h2⟩ := h
  have e : i = (-9 : Int) + (((i + 9).toNat : Nat) : Int) := by omega
  have := digit_texts (i + 9).toNat (by omega)
  rw [← e] at this
  exact this
theorem digV_all : ∀ k : Nat, k < 19 → digV (Str.ofString (toString ((-9 : Int) + (k : Int)))) = some (V.int ((-9 : Int) + (k : Int))) ∧ (32 : Nat) ∉ tl (Str.ofString (toString ((-9 : Int) + (k : Int)))) ∧ Str.ofString (toString ((-9 : Int) + (k : Int))) ≠ Str.ofString "." ∧ (46 : Nat) ∉ tl (Str.ofString (toString ((-9 : Int) + (k : Int)))) := by decide +kernel
theorem digV_of {i : Int} (h : -9 ≤ i ∧ i ≤ 9) : digV (strI i) = some (V.int i) ∧ (32 : Nat) ∉ tl (strI i) ∧ (46 : Nat) ∉ tl (strI i) := by
  obtain ⟨h1, h2⟩ := h
  have e : i = (-9 : Int) + (((i + 9).toNat : Nat) : Int) := by omega
  obtain ⟨k1, k2, _, k4⟩ := digV_all (i + 9).toNat (by omega)
  rw [← e] at k1 k2 k4
  exact ⟨k1, k2, k4⟩
/-- the text of a row -/
def textOf (is : List Int) : Str := if is = [] then Str.ofString "." else Txt.join (Str.ofString " ") (is.map strI)
theorem textOf_ok {is : List Int} (h : ∀ i ∈ is, -9 ≤ i ∧ i ≤ 9) (hl : is.length ≤ 200) : TOk 600 (textOf is) := by
  unfold textOf
  split
  · decide +kernel
  · refine (TOk.join blankOk (n := 2) fun p hp => ?_).mono ?_
    · obtain ⟨i, hi, rfl⟩ := List.mem_map.mp hp
      exact (strI_ok (h i hi)).1
    · rw [List.length_map]
      omega
where blankOk : TOk 1 (Str.ofString " ") := by decide +kernel
theorem not_dot {is : List Int} (h : ∀ i ∈ is, -9 ≤ i ∧ i ≤ 9) (hn : is ≠ []) : Txt.join (Str.ofString " ") (is.map strI) ≠ Str.ofString "." := fun e => by
  cases is with
  | nil => exact hn rfl
  | cons i r =>
    have hp : strI i ∈ (i :: r).map strI := List.mem_map.mpr ⟨i, List.mem_cons_self .., rfl⟩
    have hi := h i (List.mem_cons_self ..)
    have h2 := (in_join (S := tl (Str.ofString " ")) (ps := ((i :: r).map strI).map tl) (List.mem_map.mpr ⟨_, hp, rfl⟩)).2
    have e2 := congrArg tl e
    rw [TL.join_eq, tl_join] at e2
    rw [e2] at h2
    have hpos := (strI_ok hi).2
    rw [len_tl] at hpos
    cases hs : tl (strI i) with
    | nil => rw [hs] at hpos; exact absurd hpos (by decide)
    | cons c cs =>
      have hc := h2 c (by rw [hs]; exact List.mem_cons_self ..)
      have : c = 46 := by
        have e3 : tl (Str.ofString ".") = [46] := by decide +kernel
        rw [e3] at hc
        exact List.mem_singleton.mp hc
      exact (digV_of hi).2.2 (by rw [hs, this]; exact List.mem_cons_self ..)
/-- a row's text is read as the row -/
theorem read_text {is : List Int} (h : ∀ i ∈ is, -9 ≤ i ∧ i ≤ 9) : readV (textOf is) = some (is.map V.int) := by
  unfold textOf
  by_cases hn : is = []
  · rw [if_pos hn, hn]
    exact read_dot
  · rw [if_neg hn]
    unfold readV
    rw [if_neg (not_dot h hn)]
    have e : Txt.split (Txt.join (Str.ofString " ") (is.map strI)) (Str.ofString " ") = is.map strI := by
      refine TL.split_join (s := 32) (S := []) (by decide +kernel) (by decide +kernel) (fun z => hn (List.map_eq_nil_iff.mp z)) fun p hp => ?_
      obtain ⟨i, hi, rfl⟩ := List.mem_map.mp hp
      exact (digV_of (h i hi)).2.1
    rw [e]
    unfold rowOf
    rw [if_pos]
    · rw [List.map_map]
      congr 1
      refine List.map_congr_left fun i hi => ?_
      show (digV (strI i)).getD .non = V.int i
      rw [(digV_of (h i hi)).1]
      rfl
    · rw [List.all_map]
      refine List.all_eq_true.mpr fun i hi => ?_
      show (digV (strI i)).isSome = true
      rw [(digV_of (h i hi)).1]
      rfl
end OF
/-! Defs that are promised only where no repr is under way, the law among them; repr of lists. -/
namespace OF
open PySem PySem.Spec PyProof.Rows L2

/-! ### promises where no repr is under way -/
structure FnG (P : Program) (w : World) (K : PySem.W.Frag) (mg : Str → Option Value) (base : Heap) (n : Nat) (f : Addr) (fd : FuncData) (ps : List Str) (sp : Sp) : Prop where
  len : ∀ vs H Q E, sp vs H Q E → vs.length = ps.length
  go : ∀ (A : Around) (fr : List Env) (s : Shared) (H : Hp) (ar : Args) (us : List Value) (vs : List V) (Q : VK) (E : XK), A.guards = some [] → Room n A → Env0 P w K mg base A fr s H → BindsTo s fd ar (ps.zip us) → Vals vs us → sp vs H Q E →
    codeAny (model P w) A (.call (.ref f) ar) (CR CX0 fr P w H s Q E) s
section
variable {P : Program} {w : World} {K : PySem.W.Frag} {mg : Str → Option Value} {base : Heap}
theorem guards_in {A : Around} {e : Env} (h : A.guards = some []) : (A.deeper e).guards = some [] := by
  first | exact h | simpa [Around.deeper] using h
theorem okG {x q : Str} {st : Stmt} {f : Addr} {fd : FuncData} {N ps : List Str} {n : Nat} {sp : Sp} (F : Fun K x q st f fd) (S : FnScope N ps (defScope st)) (len : ∀ vs H Q E, sp vs H Q E → vs.length = ps.length)
    (body : ∀ (cv : Value) (A : Around) (fr : List Env) (s : Shared) (H : Hp) (vs : List V) (Q : VK) (E : XK), (A.deeper (envOfC q (defScope st) s.heap.objs.size f cv)).guards = some [] → Room n (A.deeper (envOfC q (defScope st) s.heap.objs.size f cv)) → sp vs H Q E →
      ∃ t, PSs (cxOf CX0 P w K mg base N q (defScope st) f cv A fr s H E).nox (defBody st) t ∧ t { nx := fun _ H' => Q .non H', rt := Q } (start N vs) H) : FnG P w K mg base (n + 1) f fd ps sp := by
  obtain ⟨_, _, kV, dc, pm, an, cv, ct, _, e, lk, cc⟩ := F.ex
  subst e
  constructor
  · exact len
  · intro A fr s H ar us vs Q E gu room e0 bn rel hsp
    have keep := fun b o z => (e0.bs b o z).1
    have inHeap := e0.mod.kin.keeps keep
    have noLim := e0.mod.nolimit.keeps keep
    apply codeAny_call_function room.depth (inHeap _ _ lk) rfl S.co S.gen rfl (PySem.W.codeRec_of inHeap cc)
    apply bn
    apply wpAny_newFunctionEnv_cells S.kind
    · rintro ⟨y, v⟩ hy
      rcases S.par y (List.of_mem_zip hy).1 with p | p
      · exact Or.inl p
      · exact Or.inr ⟨p, PySem.W.cellsFrom_some _ _ _ (Or.inl p)⟩
    · intro env he s1 inc
      subst he
      constructor
      · exact noLim.keeps inc.toInCall.keep
      · apply codeAny_func
        obtain ⟨t, pss, rd⟩ := body cv A fr s H vs Q E (guards_in gu) (room.deeper _) hsp
        have inv := inv_start (CX := CX0) (P := P) (w := w) (E := E) S room.hd e0 (len _ _ _ _ hsp) rel inc
        apply wpAny_mono (pss.nox.run [] s1 (start N vs) H _ inv rd) (hE := fun _ _ z => z)
        intro fl s2 z
        cases fl with
        | ret u => obtain ⟨v, _, H2, J, rv, qv⟩ := z; exact ⟨v, H2, J.os, J.bare, J.base, J.hok, rv, qv⟩
        | next => obtain ⟨_, H2, J, qv⟩ := z; exact ⟨V.non, H2, J.os, J.bare, J.base, J.hok, rfl, qv⟩
        | brk => obtain ⟨_, _, _, no⟩ := z; cases no
        | cont => obtain ⟨_, _, _, no⟩ := z; cases no
end
section
variable {X : Cx} {n : Nat} {f : Addr} {fd : FuncData} {ps : List Str} {sp : Sp} {E : XK} {x : Str} {p pos : Pos} {e : Expr} {es : List Expr} {t : TA}
theorem pe_callG (F : FnG X.prog X.w X.K X.mg X.base n f fd ps sp) (gu : X.A.guards = some []) (room : Room n X.A) (hg : Gl X x) (hm : X.mg x = some (.ref f)) (kp : PySem.W.keepIn X.K (.ref f) = true) (hb : Binds X.K fd ps []) (hx : Passes CX0 X E) (ha : PA X (e :: es) t)
    (hdb : (x == ("__debug__" : Str)) = false := by decide) (he : starEach (e :: es) X.env = (false, eval e X.env) :: starEach es X.env := by rfl) (hpl : (backTo pos (starEach es X.env)).any (·.1) = false := by rfl) :
    PE X (.Call (.Name x p) (e :: es) [] pos) (tCall sp [] E t) := by
  constructor
  intro pins s σ H Q I h
  refine wpAny_Call_Name_kw (ld_glob I hg hm ?_ hdb)
  refine PySem.W.callWith_K (h₀ := X.base) I.ok.mod.kin kp (thn (ha.run pos pins s σ H _ I h) ?_) he hpl
  rintro us s1 ⟨vs, H1, I1, r1, q⟩
  refine ⟨I1.kIn, ?_⟩
  rw [List.append_nil] at q
  have bn := hb s1 us I1.kIn (by rw [List.append_nil, ← r1.length]; exact F.len _ _ _ _ q)
  rw [List.append_nil] at bn
  apply wpAny_call
  apply codeAny_mono (F.go X.A X.stack s1 H1 ⟨us, []⟩ us vs Q E gu room I1.env0 bn r1 q)
  intro r s2 z
  cases r with
  | error er => exact hx pins σ H1 s1 er s2 I1 z
  | ok fl =>
    cases fl with
    | ret u => exact I1.after z
    | next => cases z
    | brk => cases z
    | cont => cases z
end
end OF
namespace OF
open PySem PySem.Spec PyProof.Rows L2
section
variable {P : Program} {w : World} {K : PySem.W.Frag} {mg mb : Str → Option Value}
/-- namespaces stand in what is left where a list alone is hidden -/
theorem ns_left {h : Heap} {H : Hp} {a b : Addr} {xs : Array Value} {m : Str → Option Value} (ha : h.get? a = some { cls := .type "list", data := .seq xs }) (near : ∀ c, H c ≠ none → c = a) (z : h.Ns b m) : (hidT h H).Ns b m := by
  obtain ⟨o, es, ep, eo, ed, rest⟩ := z
  have free : H b = none := Classical.byContradiction fun no => by
    have := near b no
    subst this
    rw [eo] at ha
    have e2 := Option.some.inj ha
    subst e2
    cases ed
  exact ⟨o, es, ep, hidT_get eo free, ed, rest⟩
/-- what is tracked at the law's start -/
theorem script_heap {h : Heap} {a : Addr} {vs : List Value} {ns : List Int} (KX : K.In h) (ha : h.get? a = some { cls := .type "list", data := .seq vs.toArray }) (hi : IntsAre vs ns) (hl : ns.length ≤ sizeLine) :
    ∃ H : Hp, Only H ∧ SqL K H a (ns.map V.int) ∧ HOk P w H h ∧ (∀ c, H c ≠ none → c = a) ∧ (H a ≠ none → K.lookup a = none) := by
  have rel := vals_ints hi
  have n1 : vs.length = ns.length := hi.length
  cases known : K.lookup a with
  | some o =>
    have same := KX a o known
    rw [ha] at same
    have := Option.some.inj same
    subst this
    refine ⟨fun _ => none, fun c => Or.inl rfl, ?_, ?_, fun c z => absurd rfl z, fun z => absurd rfl z⟩
    case refine_2 =>
      intro c o z
      have z2 : (none : Option HO) = some o := z
      cases z2
    right
    refine ⟨_, vs.toArray, _, known, rfl, rfl, rfl, ?_, ?_⟩
    · rw [List.size_toArray, n1]; exact hl
    · rw [List.toList_toArray]; exact rel
  | none =>
    refine ⟨fun c => if c = a then some (.frz { cls := .type "list", data := .seq vs.toArray } (.lst (ns.map V.int))) else none, ?_, ?_, ?_, ?_, fun _ => rfl⟩
    · intro c
      by_cases z : c = a
      · right; exact ⟨_, _, if_pos z⟩
      · left; exact if_neg z
    · left; right; exact ⟨_, if_pos rfl⟩
    · intro c o z
      by_cases y : c = a
      · subst y
        have := (if_pos rfl).symm.trans z
        cases this
        refine ⟨ha, ?_, vs, _, rel, ha⟩
        rw [List.length_map]; exact hl
      · have := (if_neg y).symm.trans z
        cases this
    · intro c z
      exact Classical.byContradiction fun y => z (if_neg y)
theorem law_callG {n : Nat} {fa a : Addr} {fd : FuncData} {x : Str} {sp : Sp} {s : Shared} {vs : List Value} {ns : List Int} (KX : K.In s.heap) (hg : s.heap.Ns mainGlobals mg) (hb : s.heap.Ns builtinsNs mb) (hbb : ∀ y : Str, y ≠ "__name__" → mb y = bootBuiltins y)
    (hlim : s.heap.NoLimit) (he : s.gens = #[]) (ha : s.heap.get? a = some { cls := .type "list", data := .seq vs.toArray }) (hi : IntsAre vs ns) (hl : ns.length ≤ sizeLine) (room : Room n callerA)
    (F : ∀ base : Heap, K.In base → base.Ns mainGlobals mg → FnG P w K mg base n fa fd [x] sp) (bind : ∀ (s : Shared) (u : Value), BindsTo s fd ⟨[u], []⟩ [(x, u)])
    (hsp : ∀ H : Hp, SqL K H a (ns.map V.int) → sp [.ref a] H (fun v _ => v = .bl true) fun _ _ _ => False) :
    codeAny (model P w) callerA (.call (.ref fa) ⟨[.ref a], []⟩) (fun r s' => r = .ok (.ret (.bool true)) ∧ OldK s.heap s'.heap ∧ s'.os = s.os ∧ AllBare s'.gens) s := by
  obtain ⟨H, only, seq, hok, near, out⟩ := script_heap (P := P) (w := w) KX ha hi hl
  have KB : K.In (hidT s.heap H) := by
    intro c o z
    refine hidT_get (KX c o z) (Classical.byContradiction fun no => ?_)
    have := near c no
    subst this
    rw [out no] at z
    cases z
  have lim : (hidT s.heap H).NoLimit := by
    obtain ⟨mc, h1, h2⟩ := hlim
    exact ⟨mc, ns_left ha near h1, h2⟩
  have M : Mod K mg (hidT s.heap H) := { kin := KB, glob := ns_left ha near hg, blt := ⟨mb, ns_left ha near hb, hbb⟩, nolimit := lim }
  have E0 : Env0 P w K mg (hidT s.heap H) callerA [] s H := {
    frames := rfl, mod := M, bs := fun c o z => of_hidT z, bsz := Nat.le_of_eq (hidT_size _ _), funs := trivial
    frf := fun c z => (by cases z), hok := hok, bare := AllBare.of_eq he }
  have main := (F _ KB (ns_left ha near hg)).go callerA [] s H ⟨[.ref a], []⟩ [.ref a] [.ref a] _ _ rfl room E0 (bind s (.ref a)) (.cons rfl .nil) (hsp H seq)
  apply codeAny_mono main
  intro r s' z
  cases r with
  | error er => cases z
  | ok fl =>
    cases fl with
    | next => cases z
    | brk => cases z
    | cont => cases z
    | ret u =>
      obtain ⟨v, H', sameOs, bare, un, hok', rv, ev⟩ := z
      have ev2 : v = .bl true := ev
      subst ev2
      have eu : u = Value.bool true := rv
      subst eu
      refine ⟨rfl, OldK.of_keep ?_, sameOs, bare⟩
      intro c o z
      rcases only c with fr | ⟨o2, xs, fr⟩
      · apply un.keep c o z fr
        · intro y; cases y
        · intro y; cases y
      · have fr2 := un.frzs c o2 _ fr
        have g1 := (hok c _ fr).1
        have g2 := (hok' c _ fr2).1
        rw [z] at g1
        rw [g2, ← Option.some.inj g1]
theorem walkG {l : PySem.W.OpenLaw} {m n : Nat} {q : Program} {loose : List Str} {XP : (Str → Option Value) → Heap → Prop} {YP : World → Heap → Prop} {d : DefRec} {K : Params → PySem.W.Frag} {sp : World → Sp} {x : Str}
    (hm : l.most = some m) (hm2 : m ≤ sizeLine) (hdf : d.params.defaults = []) (room : Room n callerA) (hY : ∀ (w : World) (h : Heap), YP w h → (K w.params).In h)
    (F : ∀ (w : World) (mg : Str → Option Value) (fa : Addr) (h : Heap), (K w.params).In h → h.Ns mainGlobals mg → mg d.name = some (.ref fa) →
      ∃ fd : FuncData, (∀ (s : Shared) (u : Value), BindsTo s fd ⟨[u], []⟩ [(x, u)]) ∧ ∀ base : Heap, (K w.params).In base → base.Ns mainGlobals mg → FnG l.prog w (K w.params) mg base n fa fd [x] (sp w))
    (hsp : ∀ (w : World) (H : Hp) (a : Addr) (ns : List Int), ns.length ≤ m → SqL (K w.params) H a (ns.map V.int) → sp w [.ref a] H (fun v _ => v = .bl true) fun _ _ _ => False) :
    PySem.W.WalkO q loose XP YP l.row.toRowW d [] (fun f vs => PySem.call f vs) := by
  apply Att.attach_call hm hdf
  intro w s₀ s₁ mg mb fa o pm cd doc a vs ns G Y ho hd hcd hmg hobj hints hlen hg
  obtain ⟨fd, bind, FF⟩ := F w mg fa _ (hY w _ Y) G.T.g hmg
  exact law_callG (hY w _ Y) G.T.g G.T.b G.T.builtins G.T.nolimit hg hobj hints (Nat.le_trans hlen hm2) room FF bind fun H => hsp w H a ns hlen
end
end OF
/-! What repr shows: plain values, tuples and lists of such, dicts of ints; repr of a list of these. -/
namespace OF
open PySem PySem.Spec PyProof.Rows L2
section
variable {X : Cx} {H : Hp}
/-- v reads as d and is shown so, wherever the heap is tracked by H -/
def Rp (X : Cx) (H : Hp) (v : V) (d : PyData) : Prop := ∀ (pins : List (Addr × Obj)) (σ : L2.St) (s : Shared) (u : Value), Inv X pins σ H s → RelV v u →
  (∃ as, Reads s.heap u d as) ∧ ∃ bs, ReadAtMost s.heap d.depth bs ∧ ReprK X.prog X.w bs s.heap d.depth u d.shown
inductive RpAll (X : Cx) (H : Hp) : List V → List PyData → Prop
  | nil : RpAll X H [] []
  | cons {v : V} {d : PyData} {vs : List V} {ds : List PyData} : Rp X H v d → RpAll X H vs ds → RpAll X H (v :: vs) (d :: ds)
theorem RpAll.reads {vs : List V} {ds : List PyData} (h : RpAll X H vs ds) : ∀ {pins : List (Addr × Obj)} {σ : L2.St} {s : Shared} {us : List Value}, Inv X pins σ H s → Vals vs us →
    (∃ as, ReadsAll s.heap us ds as) ∧ ∃ bs, ReadAtMost s.heap (PyData.depthAll ds) bs ∧ ReprAllK X.prog X.w bs s.heap (PyData.depthAll ds) us (PyData.shownAll ds) := by
  induction h with
  | nil =>
    intro pins σ s us I r
    cases r
    refine ⟨⟨[], .nil⟩, [], ?_, ?_⟩
    · intro c z
      cases z
    · simp only [PyData.shownAll]
      exact .nil
  | cons h1 _ ih =>
    intro pins σ s us I r
    cases r with
    | cons r1 r2 =>
      obtain ⟨⟨as, q1⟩, b1, m1, k1⟩ := h1 pins σ s _ I r1
      obtain ⟨⟨cs, q2⟩, b2, m2, k2⟩ := ih I r2
      simp only [PyData.depthAll, PyData.shownAll]
      refine ⟨⟨as ++ cs, .cons q1 q2⟩, b1 ++ b2, (m1.mono (Nat.le_max_left _ _)).append (m2.mono (Nat.le_max_right _ _)), .cons ?_ ?_⟩
      · exact (k1.more fun c z => List.mem_append_left _ z).level_le (Nat.le_max_left _ _)
      · exact k2.more_le (fun c z => List.mem_append_right _ z) (Nat.le_max_right _ _)
/-- what the library reads -/
theorem Rp.dp {v : V} {d : PyData} (h : Dp X.K H v d) (hs : d.showable = true) (hn : d.hasDict = false) (hz : d.shown.length ≤ sizeLine) : Rp X H v d := fun pins σ s u I r => by
  obtain ⟨as, q⟩ := Dp.reads I d v u h r
  exact ⟨⟨as, q⟩, ReprK.of_reads q hs (PyData.noDict_hsm hn) hz⟩
theorem Rp.tup {a : Addr} {xs : List V} {ds : List PyData} (h : SqT X.K H a xs) (ha : RpAll X H xs ds) : Rp X H (.ref a) (.tuple ds) := fun pins σ s u I r => by
  cases r
  obtain ⟨its, rv, ⟨o, ho, hc, n, hd⟩, _⟩ := I.tuple h
  obtain ⟨⟨as, q⟩, bs, m, k⟩ := ha.reads I rv
  have R : Reads s.heap (.ref a) (.tuple ds) as := .tuple ho hc hd q
  have out : a ∉ bs := not_mem_of_deeper R (by simp only [PyData.depth]; omega) m
  refine ⟨⟨as, R⟩, a :: bs, ReadAtMost.cons R (by simp only [PyData.depth]; omega) m, ?_⟩
  simp only [PyData.depth, PyData.shown]
  exact ReprK.tuple ho hc hd out k
def keyD : Key → PyData
  | .inl i => .int i
  | .inr z => .str z
theorem pairs_read {P : Program} {w : World} {h : Heap} : ∀ (kvs : List (Key × Int)) (vs : List (Key × Value)) (es : List DictEntry), KV (kvs.map fun p => (p.1, V.int p.2)) vs → Pairs (mixKind P w) es vs →
    ReadsAll h (es.map (·.key)) ((kvs.map fun p => (keyD p.1, PyData.int p.2)).map (·.1)) [] ∧ ReadsAll h (es.map (·.val)) ((kvs.map fun p => (keyD p.1, PyData.int p.2)).map (·.2)) []
  | [], _, _, r, q => by
    cases r
    cases q
    exact ⟨.nil, .nil⟩
  | p :: kvs, _, _, r, q => by
    cases r with
    | cons r1 r2 =>
      cases q with
      | @cons en _ _ _ k1 v1 q2 =>
        obtain ⟨h1, h2⟩ := pairs_read (h := h) kvs _ _ r2 q2
        obtain ⟨e1, t, e2⟩ := r1
        constructor
        · refine ReadsAll.cons (as := []) (bs := []) ?_ h1
          rw [← e1] at k1
          rcases keyIs_shape k1 with ⟨i, t, x1, x2⟩ | ⟨z, t, x1, x2⟩
          · show Reads h en.key (keyD p.1) []
            rw [x2, show p.1 = Sum.inl i from x1]
            exact .int i t
          · show Reads h en.key (keyD p.1) []
            rw [x2, show p.1 = Sum.inr z from x1]
            exact .str z t
        · refine ReadsAll.cons (as := []) (bs := []) ?_ h2
          show Reads h en.val (.int p.2) []
          rw [v1, e2]
          exact .int _ _
theorem Rp.dct {a : Addr} {kvs : List (Key × Int)} (h : H a = some (.dK (kvs.map fun p => (p.1, V.int p.2)))) (hs : (PyData.dict (kvs.map fun p => (keyD p.1, PyData.int p.2))).showable = true) (hz : (PyData.dict (kvs.map fun p => (keyD p.1, PyData.int p.2))).shown.length ≤ sizeLine) :
    Rp X H (.ref a) (.dict (kvs.map fun p => (keyD p.1, .int p.2))) := fun pins σ s u I r => by
  cases r
  obtain ⟨_, hm, vs, rel, o, es, ep, ho, hx, hd, _, hp, _⟩ := dk_of I.hok h
  obtain ⟨h1, h2⟩ := pairs_read (h := s.heap) kvs vs es.toList rel hp
  have R : Reads s.heap (.ref a) (.dict (kvs.map fun p => (keyD p.1, .int p.2))) (a :: [] ++ []) := .dict ho hx.1 hd h1 h2
  refine ⟨⟨_, R⟩, ReprK.of_reads R hs (fun _ z => ?_) hz⟩
  have z2 : sysModules ∈ [a] := z
  rw [List.mem_singleton] at z2
  rw [← z2] at hm
  exact absurd hm (by decide)
/-- repr of a list -/
def rRepr (X : Cx) : List V → Hp → VK → Prop := fun xs H Q => ∃ (a : Addr) (ys : List V) (ds : List PyData), xs = [.ref a] ∧ SqL X.K H a ys ∧ RpAll X H ys ds ∧ PyData.depthAll ds ≤ 40 ∧ (PyData.list ds).shown.length ≤ sizeLine ∧ Q (.str (PyData.list ds).shown) H
theorem call_reprL (gu : X.A.guards = some []) (hu : X.A.units + 64 < cLine) : CallR X (.builtin "repr") (rRepr X) := by
  intro pins s σ H xs us Q I r h
  obtain ⟨a, ys, ds, rfl, hl, hd, dep, hz, q⟩ := h
  obtain ⟨u, rfl, ru⟩ := vals1 r
  cases ru
  obtain ⟨its, rv, ⟨o, n, ho, hc, _, hdat⟩, _⟩ := I.list hl
  obtain ⟨⟨as, rd⟩, bs, m, k⟩ := hd.reads I rv
  have R : Reads s.heap (.ref a) (.list ds) (a :: as) := .list ho hc hdat rd
  have out : a ∉ bs := not_mem_of_deeper R (by simp only [PyData.depth]; omega) m
  refine call_repr_slot (by omega) ⟨o, ho, hc⟩ F.slot_list_repr.toG ?_
  have fin : ∀ (h' : Heap) (t tk : Nat), (∀ c o, s.heap.get? c = some o → h'.get? c = some o) → ∃ x u, Value.str (PyData.list ds).shown t = Value.str x u ∧ EP X pins σ Q (Value.str (PyData.list ds).shown t) { s with heap := h', toks := tk } := fun h' t tk kp =>
    ⟨_, _, rfl, .str _, H, I.kept kp, ⟨_, rfl⟩, q⟩
  simp only [PyData.shown] at fin hz
  cases its with
  | nil =>
    cases rd
    simp only [PyData.shownAll, listText_nil] at fin
    exact call_list_repr_empty ⟨o, ho, hc⟩ ho hdat (fin s.heap _ _ fun _ _ z => z)
  | cons x l =>
    exact call_list_reprK (s := s) ho hc hdat out (by simpa using k.length_eq) (fun i y z => k.item i y (by simpa using z)) gu (fun b _ => Clear.nil b) (show X.A.units + 1 + (PyData.depthAll ds + 1) < cLine by omega) (fun _ _ z => z) fin hz
end
end OF
set_option maxHeartbeats 4000000
/-! Errors of the program's own classes as values: made by position and by names. -/
namespace OF
open PySem PySem.Spec PyProof.Rows L2 PySem.HandSPX
section
variable {prog : Program} {w : World} {A : Around} {E : Value → Shared → Prop} {h : Heap} {g : Array GenState} {d : Drawn} {t : Nat} {os : OsState} {nm q : Str} {C N : Addr} {bs bm bmB : List Value} {hdct ab : Bool} {sn : List Str} {sub rest : List Value} {col : Option Bool} {dd : Option Addr}
  {k0 k1 k2 k3 k5 : Option Value} {B newId initId : String} {kw : List (Str × Value)}
theorem kw_new_ok {M : Model} {Q : Unit → Shared → Prop} (F : ExcBaseFacts B newId initId bmB) (same : ∀ T : String, bm.contains (.type T) = bmB.contains (.type T)) (hC : h.get? C = some (excClassObj nm q C N bs bm hdct sn sub ab col dd k0 k1 k2 k3 k5 newId))
    (fin : Q () ⟨h, g, d, t, os⟩) : wpAny M A (checkBuiltinCall newId ⟨.ref C :: rest, kw⟩) Q E ⟨h, g, d, t, os⟩ := by
  have below : (Value.ref C :: bm).contains (.type B) = true := by
    rw [List.contains_cons, same, F.hasB]
    exact Bool.or_true _
  have short := F.noStar
  simp only [checkBuiltinCall, F.newSplit, F.newKind, F.newRow]
  repeat first
    | refine wpAny_loadPart_at hC ?_
    | (refine wpAny_isSubtype_exc hC ?_; rw [below])
    | refine wpAny_staticBase_exc hC ?_
    | refine wpAny_madeBy_exc hC ?_
    | simp only [Bool.false_eq_true, bne_self_eq_false, if_false]
    | wp_step
  exact fin

theorem kw_new_run {R : Result → Shared → Prop} (F : ExcBaseFacts B newId initId bmB) (same : ∀ T : String, bm.contains (.type T) = bmB.contains (.type T)) (hC : h.get? C = some (excClassObj nm q C N bs bm hdct sn sub ab col dd k0 k1 k2 k3 k5 newId)) (small : rest.length ≤ sizeLine)
    (fin : R (.ok (.ret (.ref (h.objs.size + 1)))) ⟨(h.push (PySem.W.kdv_tup rest)).push (excO C h.objs.size), g, d, t, os⟩) : codeAny (model prog w) A (.builtin newId ⟨.ref C :: rest, kw⟩) R ⟨h, g, d, t, os⟩ := by
  have ends := F.ends
  have inB : (Value.ref C :: bm).contains (.type B) = true := by
    rw [List.contains_cons, same, F.hasB]
    exact Bool.or_true _
  have outA : (Value.ref C :: bm).contains (.type "AttributeError") = false := by
    rw [List.contains_cons, same, F.noAttr] <;> rfl
  have outN : (Value.ref C :: bm).contains (.type "NameError") = false := by
    rw [List.contains_cons, same, F.noName] <;> rfl
  apply codeAny_builtinAt F.entry
  unfold Builtin.«BaseException.__new__»
  apply PySem.wpAt_bind
  show PySem.wpAt _ _ _ (stack >>= _) _ _ _
  apply PySem.wpAt_bind
  apply PySem.wpAt_stack
  intro p rest'
  apply PySem.wpAt_of_wpAny
  wp_walk
  apply PySem.wpAt_of_wpAny
  rw [F.owner]
  repeat first
    | with_reducible refine wpAny_madeHere_exc F.canon hC ?_
    | with_reducible refine wpAny_loadPart_at hC ?_
    | (with_reducible refine wpAny_isSubtype_exc hC ?_
       first | rw [inB] | rw [outA] | rw [outN])
    | wp_step
  show R _ _
  rw [Heap.size_push]
  exact fin
theorem kw_call_run {fI : Addr} {Q : Fin → Shared → Prop} (F : ExcBaseFacts B newId initId bmB) (same : ∀ T : String, bm.contains (.type T) = bmB.contains (.type T)) (hC : h.get? C = some (excClassObj nm q C N bs bm hdct sn sub ab col dd k0 k1 k2 k3 k5 newId)) (small : rest.length ≤ sizeLine)
    (li : PySem.W.Looks (model prog w) h (typeLookup (.ref C) "__init__") (some (.ref fI))) (lb : ∀ v, PySem.W.Looks (model prog w) h (bindSpecial (.ref fI) v) (.ref fI, [v]))
    (fin : codeAny (model prog w) A (.call (.ref fI) ⟨.ref (h.objs.size + 1) :: rest, kw⟩) (fun r s' => match r with | .ok (.ret v) => v = .none ∧ Q (.done (.ret (.ref (h.objs.size + 1)))) s' | .ok _ => False | .error e => E e s')
      ⟨(h.push (PySem.W.kdv_tup rest)).push (excO C h.objs.size), g, d, t, os⟩) : wpAny (model prog w) A (Builtin.«type.__call__» ⟨.ref C :: rest, kw⟩) Q E ⟨h, g, d, t, os⟩ := by
  repeat first
    | with_reducible refine wpAny_loadPart_at hC ?_
    | with_reducible refine wpAny_madeBy_exc hC ?_
    | wp_step
  apply codeAny_call_builtin_code (Code.quiet_builtin _ F.quiet) (kw_new_ok F same hC _)
  apply kw_new_run F same hC small
  show wpAny _ _ _ _ _ _
  have keep : ∀ c o, h.get? c = some o → ((h.push (PySem.W.kdv_tup rest)).push (excO C h.objs.size)).get? c = some o := by
    intro c o z
    exact Heap.get?_push_of_some _ (Heap.get?_push_of_some _ z)
  have hC2 := keep _ _ hC
  have there : ((h.push (PySem.W.kdv_tup rest)).push (excO C h.objs.size)).get? (h.objs.size + 1) = some (excO C h.objs.size) := by heap_get
  have self : (Value.ref C :: bm).contains (.ref C) = true := by simp
  have li2 := li.keeps keep
  have lb2 := (lb (.ref (h.objs.size + 1))).keeps keep
  unfold isInstance
  repeat first
    | with_reducible refine wpAny_loadPart_at there ?_
    | (with_reducible refine wpAny_isSubtype_exc hC2 ?_
       rw [self])
    | wp_step
  show wpAny _ _ (typeLookup (.ref C) _) _ _ _
  apply li2.at
  apply wpAny_holding
  apply wpAny_bind
  apply lb2.at
  apply wpAny_bind
  apply wpAny_call
  apply codeAny_mono fin
  intro r s' z
  cases r with
  | error e => exact z
  | ok fl =>
    cases fl with
    | next => exact z.elim
    | brk => exact z.elim
    | cont => exact z.elim
    | ret v =>
      obtain ⟨ev, z⟩ := z
      subst ev
      first
        | exact wpAny_pure (wpAny_pure z)
        | (wp_walk; exact z)
theorem kw_call {fI : Addr} {R : Result → Shared → Prop} (F : ExcBaseFacts B newId initId bmB) (same : ∀ T : String, bm.contains (.type T) = bmB.contains (.type T)) (hC : h.get? C = some (excClassObj nm q C N bs bm hdct sn sub ab col dd k0 k1 k2 k3 k5 newId)) (small : rest.length ≤ sizeLine)
    (li : PySem.W.Looks (model prog w) h (typeLookup (.ref C) "__init__") (some (.ref fI))) (lb : ∀ v, PySem.W.Looks (model prog w) h (bindSpecial (.ref fI) v) (.ref fI, [v]))
    (fin : codeAny (model prog w) (A.under (.builtin "type.__call__" ⟨.ref C :: rest, kw⟩)) (.call (.ref fI) ⟨.ref (h.objs.size + 1) :: rest, kw⟩) (PySem.W.InitBack (h.objs.size + 1) R)
      ⟨(h.push (PySem.W.kdv_tup rest)).push (excO C h.objs.size), g, d, t, os⟩) : codeAny (model prog w) A (.call (.ref C) ⟨rest, kw⟩) R ⟨h, g, d, t, os⟩ := by
  have f1 := tc_lookup
  have f2 := tc_bind (.ref C)
  have isT : (⟨h, g, d, t, os⟩ : Shared).TypeIs (.ref C) "type" := ⟨_, hC, rfl⟩
  apply codeAny_of_tree
  show wpAny _ _ (callAny (.ref C) _) _ _ _
  repeat any_goals first
    | assumption
    | with_reducible refine wpAny_loadPart_at hC ?_
    | wp_step
  constructor
  · rfl
  have typ : PySem.W.Looks (model prog w) h (isInstance (.ref C) (.type "type")) true := by
    unfold isInstance
    have ty : PySem.W.Looks (model prog w) h (typeOf (.ref C)) (.type "type") := (PySem.W.Looks.ld hC).andThen .now
    exact ty.andThen (PySem.W.Looks.of_pure tc_sub)
  apply codeAny_call_builtin_at (Code.quiet_builtin _ (by decide +kernel)) entry_typeCall
  apply PySem.W.check_slot tc_kind tc_split typ (PySem.W.tc_args _ _ _)
  apply kw_call_run F same hC small li lb
  apply codeAny_mono fin
  intro r s' z
  cases r with
  | error e => exact z
  | ok fl => cases fl <;> exact z
end
end OF
/-! Errors of the program's own classes as values: the rules. -/
namespace OF
open PySem PySem.Spec PyProof.Rows L2
/-- what the maker of an error must do, and what then holds -/
def MadeBy (C : Addr) (sp : Sp) (xs : Addr → List V) (H : Hp) (Q : VK) : Prop := ∀ a, H a = none → sp (xs a) (upd H a (exo a C none)) (fun v H2 => v = .non ∧ Q (.ref a) H2) (fun _ _ _ => False)
def tMadeP (C : Addr) (sp : Sp) (ta : TA) : TE := fun σ H Q => ta σ H fun vs H1 => vs.length ≤ 1000 ∧ MadeBy C sp (fun a => .ref a :: vs) H1 Q
def tMadeN (C : Addr) (m : Nat) (sp : Sp) (gV : List V → List V → List V) (tk : TA) : TE := fun σ H Q => tk σ H fun zs H1 => zs.length = m ∧ MadeBy C sp (fun a => gV [.ref a] zs) H1 Q
section
variable {X : Cx} {CX : CXT} {x : Str} {C fI : Addr} {k n : Nat} {fd : FuncData} {ps ks : List Str} {sp : Sp} {e : Expr} {es : List Expr} {kws : List Keyword} {ta tk : TA} {p pos : Pos} {g : List Value → List Value → List Value} {gV : List V → List V → List V}
theorem run_made {pins : List (Addr × Obj)} {σ : L2.St} {H : Hp} {s : Shared} {us ws : List Value} {vs zs : List V} {Q : VK} (T : OexC X.K C) (iC : PySem.W.findIn X.K (.ref C) "__init__" = some (some (.ref fI))) (tI : PySem.W.typeIn X.K (.ref fI) = some (.type "function"))
    (F1 : FnOk X.prog X.w X.K X.mg X.base CX k fI fd ps sp) (room : Room (k + 1) X.A) (hb : KBn X.K fd ps (n + 1) ks g gV) (hx : Passes CX X (fun _ _ _ => False)) (I : Inv X pins σ H s) (r : Vals vs us) (rz : Vals zs ws) (l1 : vs.length = n) (l2 : zs.length = ks.length) (small : vs.length ≤ 1000)
    (h : MadeBy C sp (fun a => gV (.ref a :: vs) zs) H Q) : wpAny (model X.prog X.w) X.A (call (.ref C) us (ks.zip ws)) (EP X pins σ Q) X.xe s := by
  obtain ⟨nm, q, N, bs, bm, sn, sub, ab, col, dd, k0, k1, k2, k3, k5, hC, hbm⟩ := T.cls
  obtain ⟨hp, gn, dr, t, os⟩ := s
  have le : hp.objs.size ≤ hp.objs.size + 1 := Nat.le_succ _
  have hq := h (hp.objs.size + 1) (I.hok.fresh le)
  have keep : ∀ c o, hp.get? c = some o → ((hp.push (PySem.W.kdv_tup us)).push (PySem.HandSPX.excO C hp.objs.size)).get? c = some o := by
    intro c o z
    exact Heap.get?_push_of_some _ (Heap.get?_push_of_some _ z)
  have there : ((hp.push (PySem.W.kdv_tup us)).push (PySem.HandSPX.excO C hp.objs.size)).get? (hp.objs.size + 1) = some (PySem.HandSPX.excO C hp.objs.size) := by heap_get
  have J : Inv X pins σ (upd H (hp.objs.size + 1) (exo (hp.objs.size + 1) C none)) ⟨(hp.push (PySem.W.kdv_tup us)).push (PySem.HandSPX.excO C hp.objs.size), gn, dr, t, os⟩ :=
    I.laid (t' := t) keep le (exo_ok there)
  have r1 : Vals (V.ref (hp.objs.size + 1) :: vs) (Value.ref (hp.objs.size + 1) :: us) := .cons rfl r
  have n1 : (Value.ref (hp.objs.size + 1) :: us).length = n + 1 := by rw [List.length_cons, ← r.length, l1]
  have n2 : us.length ≤ sizeLine := by
    rw [← r.length, sizeLine_eq]
    omega
  apply wpAny_call
  apply kw_call F.excBase_ValueError (fun Y => PySem.HandSPX.refsVE_contains Y bm hbm) (I.kIn _ _ hC) n2 (PySem.W.looks_findIn I.kIn iC) (fun v => PySem.W.bind_fn I.kIn v tI)
  apply codeAny_mono (F1.run _ X.stack _ _ ⟨Value.ref (hp.objs.size + 1) :: us, ks.zip ws⟩ (g (Value.ref (hp.objs.size + 1) :: us) ws) _ _ (fun _ _ _ => False) (room.make C us (ks.zip ws)) (J.env0.make C us (ks.zip ws))
    (hb.to _ (Value.ref (hp.objs.size + 1) :: us) ws J.kIn n1 (rz.length.symm.trans l2)) (hb.rel r1 rz) hq)
  intro res s' z
  cases res with
  | error er => exact hx pins σ _ _ er s' J z
  | ok fl =>
    cases fl with
    | next => cases z
    | brk => cases z
    | cont => cases z
    | ret u =>
      obtain ⟨v, H', J2, rv, ev, q2⟩ := J.after z
      subst ev
      exact ⟨rv, V.ref (hp.objs.size + 1), H', J2, rfl, q2⟩
/-- positions alone are names of none -/
theorem kb_pos (b : Binds X.K fd ps []) : KBn X.K fd ps ps.length [] (fun us _ => us) (fun vs _ => vs) := by
  constructor
  · intro s us ws KX l1 l2
    have := b s us KX (by rw [List.append_nil]; exact l1)
    rw [List.append_nil] at this
    exact this
  · intro vs us zs ws r _
    exact r
/-- C(e, ..) -/
theorem pe_madeP (T : OexC X.K C) (iC : PySem.W.findIn X.K (.ref C) "__init__" = some (some (.ref fI))) (tI : PySem.W.typeIn X.K (.ref fI) = some (.type "function")) (F1 : FnOk X.prog X.w X.K X.mg X.base CX k fI fd ps sp) (room : Room (k + 1) X.A) (b : Binds X.K fd ps [])
    (hx : Passes CX X (fun _ _ _ => False)) (hg : Gl X x) (hm : X.mg x = some (.ref C)) (ha : PA X (e :: es) ta)
    (hdb : (x == ("__debug__" : Str)) = false := by decide) (he : starEach (e :: es) X.env = (false, eval e X.env) :: starEach es X.env := by rfl) (hpl : (backTo pos (starEach es X.env)).any (·.1) = false := by rfl) :
    PE X (.Call (.Name x p) (e :: es) [] pos) (tMadeP C sp ta) := by
  constructor
  intro pins s σ H Q I h
  refine wpAny_Call_Name_kw (ld_glob I hg hm ?_ hdb)
  refine PySem.W.callWith_K (h₀ := X.base) I.ok.mod.kin T.kC (thn (ha.run pos pins s σ H _ I h) ?_) he hpl
  rintro us s1 ⟨vs, H1, I1, r1, small, q⟩
  refine ⟨I1.kIn, ?_⟩
  have hl : ps.length = vs.length + 1 := by
    have z := F1.len _ _ _ _ (q (s1.heap.objs.size + 1) (I1.hok.fresh (Nat.le_succ _)))
    rw [← z]
    rfl
  have kb := kb_pos (X := X) b
  rw [hl] at kb
  exact run_made (zs := []) (ws := []) T iC tI F1 room kb hx I1 r1 .nil rfl rfl small q
/-- C() -/
theorem pe_made0 (T : OexC X.K C) (iC : PySem.W.findIn X.K (.ref C) "__init__" = some (some (.ref fI))) (tI : PySem.W.typeIn X.K (.ref fI) = some (.type "function")) (F1 : FnOk X.prog X.w X.K X.mg X.base CX k fI fd ["self"] sp) (room : Room (k + 1) X.A) (b : Binds X.K fd ["self"] [])
    (hx : Passes CX X (fun _ _ _ => False)) (hg : Gl X x) (hm : X.mg x = some (.ref C)) (hdb : (x == ("__debug__" : Str)) = false := by decide) :
    PE X (.Call (.Name x p) [] [] pos) (tMadeP C sp tNil) := by
  constructor
  intro pins s σ H Q I h
  refine wpAny_Call_Name_kw (ld_glob I hg hm ?_ hdb)
  exact PySem.W.callWith_K0 I.kIn T.kC (run_made (n := 0) (us := []) (vs := []) (zs := []) (ws := []) T iC tI F1 room (kb_pos (X := X) b) hx I .nil .nil rfl rfl (Nat.zero_le _) h.2)
/-- C(k = e, ..) -/
theorem pe_madeN (T : OexC X.K C) (iC : PySem.W.findIn X.K (.ref C) "__init__" = some (some (.ref fI))) (tI : PySem.W.typeIn X.K (.ref fI) = some (.type "function")) (F1 : FnOk X.prog X.w X.K X.mg X.base CX k fI fd ps sp) (room : Room (k + 1) X.A) (kb : KBn X.K fd ps 1 ks g gV)
    (hx : Passes CX X (fun _ _ _ => False)) (hg : Gl X x) (hm : X.mg x = some (.ref C)) (hkw : PK X kws tk) (hall : (backToKw pos (keywordEach kws X.env)).all (·.1.isSome) = true := by rfl) (hks : (backToKw pos (keywordEach kws X.env)).filterMap (·.1) = ks := by rfl)
    (hdb : (x == ("__debug__" : Str)) = false := by decide) (hpl : ((backTo pos (starEach [] X.env)).any (·.1) || (backToKw pos (keywordEach kws X.env)).any (·.1.isNone)) = false := by rfl) :
    PE X (.Call (.Name x p) [] kws pos) (tMadeN C ks.length sp gV tk) := by
  constructor
  intro pins s σ H Q I h
  refine wpAny_Call_Name_kw (ld_glob I hg hm ?_ hdb)
  refine PySem.W.callWith_KW0 (h₀ := X.base) I.ok.mod.kin T.kC hall (thn (hkw.run pos pins s σ H _ I h) ?_) hpl
  rintro ws s2 ⟨zs, H2, I2, rz, l2, q⟩
  refine ⟨I2.kIn, ?_⟩
  rw [hks]
  exact run_made (n := 0) (us := []) (vs := []) T iC tI F1 room kb hx I2 .nil rz rfl l2 (Nat.zero_le _) q
/-- e.f of such a value -/
def tFldC (K : PySem.W.Frag) (f : Str) (te : TE) : TE := fun σ H Q => te σ H fun x H1 => ∃ (a d C : Addr) (fs : List (Str × V)) (v : V), x = .ref a ∧ XfC K C ∧ PySem.W.findIn K (.ref C) f = some none ∧ H1 a = some (exo a C (some d)) ∧ H1 d = some (exd d fs) ∧ fs.lookup f = some v ∧ Q v H1
theorem pe_fldV {f : Str} {te : TE} (he : PE X e te) (hb : attributeBase e f X.env (eval e X.env) = eval e X.env := by rfl) : PE X (.Attribute e f pos) (tFldC X.K f te) := by
  constructor
  intro pins s σ H Q I h
  refine attr_of hb (thn (he.run pins s σ H _ I h) ?_)
  rintro u s1 ⟨y, H1, I1, ru, a, d, C, fs, v, ey, T, no, ea, ed, l, q⟩
  subst ey
  cases ru
  obtain ⟨t1, ho⟩ := exo_at I1.hok ea
  obtain ⟨mA, hns, rel⟩ := exd_at I1.hok ed
  obtain ⟨od, hod, hl⟩ := lookIn_ns hns
  obtain ⟨u, hu, rv⟩ := RelO.some_of (v := v) (o := mA f) (by rw [← l]; exact rel f)
  have J : PySem.W.InstAt s1.heap a _ C (some od) := ⟨ho, rfl, rfl, hod⟩
  exact PySem.HandSPX.exc_get I1.kIn J T.ga T.gg T.exC (PySem.W.findObj_own T.hdC no rfl (by rw [hl, hu])) (handed_of rv) ⟨v, H1, I1.tok _, rv, q⟩
/-- isinstance(e, C) of such a value -/
def rAskV (K : PySem.W.Frag) : List V → Hp → VK → Prop := fun xs H Q => ∃ (a D : Addr) (d : Option Addr) (c : V) (cv : Value) (b : Bool), xs = [.ref a, c] ∧ AskC K D ∧ H a = some (exo a D d) ∧ (∀ d', d = some d' → ∃ fs, H d' = some (exd d' fs)) ∧ (∀ u, RelV c u → u = cv) ∧ PySem.W.kitOne K (.ref D) cv = some b ∧ Q (.bl b) H
theorem call_askV : CallR X (.builtin "isinstance") (rAskV X.K) := by
  intro pins s σ H xs us Q I r h
  obtain ⟨a, D, d, c, cv, b, rfl, T, ea, ed, hcv, kit, q⟩ := h
  obtain ⟨u1, u2, rfl, r1, r2⟩ := vals2 r
  cases r1
  cases hcv _ r2
  obtain ⟨t1, ho⟩ := exo_at I.hok ea
  have J : ∃ ox od, PySem.W.InstAt s.heap a ox D od := by
    cases d with
    | none => exact ⟨_, none, ho, rfl, rfl, trivial⟩
    | some d' =>
      obtain ⟨fs, e'⟩ := ed d' rfl
      obtain ⟨mA, hns, _⟩ := exd_at I.hok e'
      obtain ⟨od, hod, _⟩ := lookIn_ns hns
      exact ⟨_, some od, ho, rfl, rfl, hod⟩
  obtain ⟨ox, od, J⟩ := J
  exact PySem.W.kia_one (PySem.W.kitx_exc T.cl T.xf.ga T.xf.gg T.xf.exC T.ha T.hn T.ht T.hm) I.kIn J kit (fun z => nomatch z) fun tk => ⟨.bl b, H, I.kept (t' := tk) fun _ _ z => z, rfl, q⟩
end
end OF
/-! The error classes of the program, one promise a kind: one field, two fields, none. -/
namespace OF
open PySem PySem.Spec PyProof.Rows L2
def bmF : List Value := [.type "ValueError", .type "Exception", .type "BaseException", .type "object"]
def bmE (CF : Addr) : List Value := .ref CF :: bmF
/-- what the top says of an error class: C under the name x, its maker st at fI, bm above it -/
structure Kl (K : PySem.W.Frag) (mg : Str → Option Value) (x q : Str) (st : Stmt) (C fI : Addr) (bm : List Value) : Prop where
  g : mg x = some (.ref C)
  cls : ∃ nm q N bs sn sub ab col dd k0 k1 k2 k3 k5, K.lookup C = some (excClassObj nm q C N bs bm true sn sub ab col dd k0 k1 k2 k3 k5 "ValueError.__new__")
  sa : PySem.W.findIn K (.ref C) "__setattr__" = some (some (.builtin "object.__setattr__"))
  kC : PySem.W.keepIn K (.ref C) = true
  iC : PySem.W.findIn K (.ref C) "__init__" = some (some (.ref fI))
  tI : PySem.W.typeIn K (.ref fI) = some (.type "function")
  ga : PySem.W.findIn K (.ref C) "__getattribute__" = some (some (.builtin "BaseException.__getattribute__"))
  gg : PySem.W.findIn K (.ref C) "__getattr__" = some none
  ha : PySem.W.findIn K (.ref C) "__class__" = some (some (.builtin "object.__class__"))
  fn : ∃ fd, Fun K "__init__" q st fI fd
  fc : PySem.W.findCls K (.ref C) (.type "type") "__name__" = some (.get (.builtin "getset_descriptor.__get__") (.builtin "type.__name__") (.ref C) (.type "type"))
  nn : PySem.W.findIn K (.ref C) "class_name" = some none
  nk : ∃ (nm : Str) (o : Obj) (t : Tok), K.lookup C = some o ∧ o.cls = .type "type" ∧ o.slots[2]?.join = some (.str nm t)
section
variable {K : PySem.W.Frag} {mg : Str → Option Value} {x q : Str} {st : Stmt} {C fI : Addr} {bm : List Value}
theorem Kl.cd (T : Kl K mg x q st C fI bm) : ∃ cd, PySem.W.clsIn K C = some cd ∧ cd.mro = .ref C :: bm ∧ cd.hasDict = true := by
  obtain ⟨nm, q, N, bs, sn, sub, ab, col, dd, k0, k1, k2, k3, k5, h⟩ := T.cls
  have e : PySem.W.clsIn K C = some { name := nm, bases := bs, mro := .ref C :: bm, ns := N, qualname := q, hasDict := true, slotNames := sn, subclasses := sub, abstract := ab, collection := col, hasDel := false } := by
    unfold PySem.W.clsIn
    rw [h] <;> rfl
  exact ⟨_, e, rfl, rfl⟩
theorem Kl.sub (T : Kl K mg x q st C fI bm) (b : Value) : PySem.W.subIn K (.ref C) b = some ((Value.ref C :: bm).contains b) := by
  obtain ⟨cd, h, hm, _⟩ := T.cd
  show PySem.W.mroIn K C b = _
  unfold PySem.W.mroIn
  rw [h, Option.bind_some, hm]
  rfl
theorem Kl.ty (T : Kl K mg x q st C fI bm) : PySem.W.typeIn K (.ref C) = some (.type "type") := by
  obtain ⟨nm, q, N, bs, sn, sub, ab, col, dd, k0, k1, k2, k3, k5, h⟩ := T.cls
  show (K.lookup C).map (·.cls) = _
  rw [h] <;> rfl
theorem Kl.dic (T : Kl K mg x q st C fI bm) : PySem.W.hasDictIn K C = true := by
  obtain ⟨cd, h, _, hd⟩ := T.cd
  unfold PySem.W.hasDictIn
  rw [h]
  exact hd
/-- what stands above every error -/
structure Above (bm : List Value) : Prop where
  ve : PySem.HandSPX.refsVE bm = true
  be : ∀ C : Addr, (Value.ref C :: bm).contains (.type "BaseException") = true
  ob : ∀ C : Addr, (Value.ref C :: bm).contains (.type "object") = true
  va : ∀ C : Addr, (Value.ref C :: bm).contains (.type "ValueError") = true
theorem above_F : Above bmF := ⟨by decide +kernel, fun C => by simp [bmF], fun C => by simp [bmF], fun C => by simp [bmF]⟩
theorem above_E (CF : Addr) : Above (bmE CF) := ⟨by show PySem.HandSPX.refsVE bmF = true; decide +kernel, fun C => by simp [bmF, bmE], fun C => by simp [bmF, bmE], fun C => by simp [bmF, bmE]⟩
theorem Kl.ox (T : Kl K mg x q st C fI bm) (B : Above bm) : OexC K C := by
  obtain ⟨nm, q, N, bs, sn, sub, ab, col, dd, k0, k1, k2, k3, k5, h⟩ := T.cls
  exact ⟨⟨_, _, _, _, _, _, _, _, _, _, _, _, _, _, _, h, B.ve⟩, T.sa, (T.sub _).trans (congrArg some (B.be C)), T.ty, T.kC⟩
theorem Kl.xf (T : Kl K mg x q st C fI bm) (B : Above bm) : XfC K C := ⟨T.ga, T.gg, (T.sub _).trans (congrArg some (B.be C)), T.dic⟩
theorem Kl.ask (T : Kl K mg x q st C fI bm) (B : Above bm) (hn : PySem.W.specialIn K (.builtin "object.__class__") "__get__" = some (some (.builtin "getset_descriptor.__get__"))) (ht : PySem.W.takesIn K (.builtin "object.__class__") = some true) : AskC K C := by
  obtain ⟨cd, h, _, _⟩ := T.cd
  exact ⟨by rw [h]; rfl, T.xf B, T.ha, hn, ht, (T.sub _).trans (congrArg some (B.ob C))⟩
theorem Kl.nam (T : Kl K mg x q st C fI bm) (B : Above bm) (hn : PySem.W.specialIn K (.builtin "object.__class__") "__get__" = some (some (.builtin "getset_descriptor.__get__"))) (ht : PySem.W.takesIn K (.builtin "object.__class__") = some true) (st' : PySem.W.nsIn K cStatics "thirdparty.any" = some none) : ∃ nm, NamC K C nm := by
  obtain ⟨cd, h, _, _⟩ := T.cd
  obtain ⟨nm, o, t, lk⟩ := T.nk
  exact ⟨nm, ⟨T.xf B, by rw [h]; rfl, T.ha, hn, ht, (T.sub _).trans (congrArg some (B.ob C)), T.ty, st', T.fc, ⟨o, t, lk⟩, T.nn⟩⟩
/-- isinstance of an error of the class D, by the class C -/
theorem Kl.kit {x2 q2 : Str} {st2 : Stmt} {D fD : Addr} {bm2 : List Value} (T : Kl K mg x q st C fI bm) (U : Kl K mg x2 q2 st2 D fD bm2) : PySem.W.kitOne K (.ref D) (.ref C) = some ((Value.ref D :: bm2).contains (.ref C)) := by
  obtain ⟨cd, h, _, _⟩ := T.cd
  unfold PySem.W.kitOne
  split
  · rename_i e
    have e2 : Value.ref D = Value.ref C := eq_of_beq e
    rw [e2]
    simp
  · unfold PySem.W.kitCls
    simp only [T.ty, h, Option.isSome_some, beq_self_eq_true, Bool.and_self, if_true]
    exact U.sub _
theorem Kl.kitV (U : Kl K mg x q st C fI bm) (B : Above bm) : PySem.W.kitOne K (.ref C) (.type "ValueError") = some true := by
  unfold PySem.W.kitOne
  split
  · rfl
  · unfold PySem.W.kitCls
    simp only [show PySem.W.kitMeta "ValueError" = true by decide +kernel, if_true]
    exact (U.sub _).trans (congrArg some (B.va C))
theorem kl_mk {h : Heap} {nm q' : Str} {N : Addr} {bs sub : List Value} {sn : List Str} {ab : Bool} {col : Option Bool} {dd od an : Option Addr} {cn : Str} {tk : Tok} {k0 k1 k3 k5 : Option Value} {oc kV dc pm cd ct : Value} {sl : Array (Option Value)} (X : K.In h) (G : h.Ns mainGlobals mg)
    (a : PySem.W.nsIn K mainGlobals x = some (some (.ref C))) (l : K.lookup C = some (excClassObj nm q' C N bs bm true sn sub ab col dd k0 k1 (some (.str cn tk)) k3 k5 "ValueError.__new__"))
    (sa : PySem.W.findIn K (.ref C) "__setattr__" = some (some (.builtin "object.__setattr__"))) (kC : PySem.W.keepIn K (.ref C) = true) (iC : PySem.W.findIn K (.ref C) "__init__" = some (some (.ref fI))) (tI : PySem.W.typeIn K (.ref fI) = some (.type "function"))
    (ga : PySem.W.findIn K (.ref C) "__getattribute__" = some (some (.builtin "BaseException.__getattribute__"))) (gg : PySem.W.findIn K (.ref C) "__getattr__" = some none) (ha : PySem.W.findIn K (.ref C) "__class__" = some (some (.builtin "object.__class__")))
    (lI : K.lookup fI = some ⟨oc, od, .func (PySem.W.fnOf "__init__" q (defArgs st) (defBody st) (defScope st) .none kV dc pm an cd ct), sl⟩) (cI : PySem.W.codeIn K cd q = true) (kI : PySem.W.keepIn K (.ref fI) = true)
    (fc : PySem.W.findCls K (.ref C) (.type "type") "__name__" = some (.get (.builtin "getset_descriptor.__get__") (.builtin "type.__name__") (.ref C) (.type "type"))) (nn : PySem.W.findIn K (.ref C) "class_name" = some none) : Kl K mg x q st C fI bm :=
  ⟨PySem.W.mg_of X G a, ⟨_, _, _, _, _, _, _, _, _, _, _, _, _, _, l⟩, sa, kC, iC, tI, ga, gg, ha, ⟨_, fun_mk lI cI kI⟩, fc, nn, ⟨cn, _, tk, l, rfl, rfl⟩⟩
end

/-! ### errors in the heap -/
/-- an error of the class C with the fields fs -/
def IsE (C : Addr) (fs : List (Str × V)) (H : Hp) (a : Addr) : Prop := ∃ d rest, H a = some (exo a C (some d)) ∧ H d = some (exd d (fs ++ rest))
/-- an error of the class C -/
def Err (C : Addr) (H : Hp) (a : Addr) : Prop := ∃ d, H a = some (exo a C d) ∧ ∀ d', d = some d' → ∃ fs, H d' = some (exd d' fs)
theorem IsE.same {C a : Addr} {fs : List (Str × V)} {H H' : Hp} (h : IsE C fs H a) (s : Same H H') : IsE C fs H' a := by
  obtain ⟨d, r, h1, h2⟩ := h
  exact ⟨d, r, s _ _ h1, s _ _ h2⟩
theorem IsE.err {C a : Addr} {fs : List (Str × V)} {H : Hp} (h : IsE C fs H a) : Err C H a := by
  obtain ⟨d, r, h1, h2⟩ := h
  exact ⟨some d, h1, fun d' e => by cases e; exact ⟨_, h2⟩⟩
theorem Err.same {C a : Addr} {H H' : Hp} (h : Err C H a) (s : Same H H') : Err C H' a := by
  obtain ⟨d, h1, h2⟩ := h
  refine ⟨d, s _ _ h1, fun d' e => ?_⟩
  obtain ⟨fs, h3⟩ := h2 d' e
  exact ⟨fs, s _ _ h3⟩
/-- X.__init__ of two fields -/
def spInit2 (f g : Str) (C : Addr) : Sp := fun vs H Q _ => ∃ (a : Addr) (v u : V), vs = [.ref a, v, u] ∧ H a = some (exo a C none) ∧ ∀ (fs : List (Str × V)) (d : Addr), H d = none → d ≠ a → Q .non (upd (upd H d (exd d ((g, u) :: (f, v) :: fs))) a (exo a C (some d)))
/-- X.__init__ of none -/
def spInit0 (C : Addr) : Sp := fun vs H Q _ => ∃ a : Addr, vs = [.ref a] ∧ H a = some (exo a C none) ∧ ∀ (fs : List (Str × V)) (d : Addr), H d = none → d ≠ a → Q .non (upd (upd H d (exd d fs)) a (exo a C (some d)))
section
variable {K : PySem.W.Frag} {C : Addr} {f g : Str} {v u : V} {H : Hp} {Q : VK}
theorem same_two {H : Hp} {a d : Addr} {x y z : HO} (ha : H a = none) (hd : upd H a z d = none) (ne : d ≠ a) : Same H (upd (upd (upd H a z) d x) a y) := by
  rw [upd_ne ne] at hd
  intro b o hb
  rw [upd_ne (ne_of_none hb ha), upd_ne (ne_of_none hb hd), upd_ne (ne_of_none hb ha)]
  exact hb
theorem made1 (h : ∀ a H', Same H H' → IsE C [(f, v)] H' a → Q (.ref a) H') : MadeBy C (spInit K f C) (fun a => [.ref a, v]) H Q := fun a ha => by
  refine ⟨a, v, rfl, upd_same, fun fs d hd ne => ⟨rfl, h a _ (same_two ha hd ne) ⟨d, fs, upd_same, ?_⟩⟩⟩
  rw [upd_ne ne]
  exact upd_same
theorem made2 (h : ∀ a H', Same H H' → IsE C [(g, u), (f, v)] H' a → Q (.ref a) H') : MadeBy C (spInit2 f g C) (fun a => [.ref a, v, u]) H Q := fun a ha => by
  refine ⟨a, v, u, rfl, upd_same, fun fs d hd ne => ⟨rfl, h a _ (same_two ha hd ne) ⟨d, fs, upd_same, ?_⟩⟩⟩
  rw [upd_ne ne]
  exact upd_same
theorem made0 (h : ∀ a H', Same H H' → Err C H' a → Q (.ref a) H') : MadeBy C (spInit0 C) (fun a => [.ref a]) H Q := fun a ha => by
  refine ⟨a, rfl, upd_same, fun fs d hd ne => ⟨rfl, h a _ (same_two ha hd ne) ⟨some d, upd_same, fun d' e => ?_⟩⟩⟩
  cases e
  exact ⟨fs, by rw [upd_ne ne]; exact upd_same⟩
theorem made_F {nm : Str} (T : OexC K C) (N : NamC K C nm) (h : ∀ a H', Same H H' → Err C H' a → Q (.ref a) H') : MadeBy C (spFig K) (fun a => [.ref a, v]) H Q := fun a ha => by
  refine ⟨a, C, v, nm, rfl, T, N, upd_same, fun d hd ne => ⟨rfl, h a _ (same_two ha hd ne) ⟨some d, upd_same, fun d' e => ?_⟩⟩⟩
  cases e
  exact ⟨_, by rw [upd_ne ne]; exact upd_same⟩
end

/-! ### lists of the same things -/
/-- l == l2, two lists of the very same things -/
def rEqSame (K : PySem.W.Frag) : R2 := fun x y H Q => ∃ (l l2 : Addr) (xs : List V), x = .ref l ∧ y = .ref l2 ∧ SqL K H l xs ∧ SqL K H l2 xs ∧ (∀ v ∈ xs, flatB v = true ∨ ∃ a, v = .ref a) ∧ Q (.bl true) H
theorem op_eqSame {X : Cx} (hu : X.A.units + 64 < cLine) : OpR X (compareOp .Eq) (rEqSame X.K) := by
  intro pins s σ H x y v u Q I rx ry h
  obtain ⟨l, l2, xs, rfl, rfl, h1, h2, hs, q⟩ := h
  cases rx
  cases ry
  obtain ⟨us, r1, p1, _⟩ := I.list h1
  obtain ⟨ws, r2, p2, _⟩ := I.list h2
  have n1 := r1.length
  have n2 := r2.length
  have hsz : us.toArray.size = ws.toArray.size := by
    rw [List.size_toArray, List.size_toArray]
    omega
  have key := SeqAt.RcAt.lists (A := X.A) (e := fun _ => true) p1.isList p2.isList hsz (by omega) (fun j h1 h2 => ?_)
  · refine key X.prog X.w _ _ ?_
    rw [show ((List.range us.toArray.size).all fun _ => true) = true from List.all_eq_true.mpr fun _ _ => rfl]
    exact ⟨.bl true, H, I, rfl, q⟩
  · have j1 : j < us.length := by simpa using h1
    have jx : j < xs.length := by omega
    obtain ⟨a, ea, ra⟩ := Vals.get r1 (List.getElem?_eq_getElem jx)
    obtain ⟨b, eb, rb⟩ := Vals.get r2 (List.getElem?_eq_getElem jx)
    have e1 : us.toArray[j] = a := by
      have := List.getElem?_eq_getElem j1
      rw [this] at ea
      simpa using Option.some.inj ea
    have e2 : ws.toArray[j] = b := by
      have j2 : j < ws.length := by omega
      have := List.getElem?_eq_getElem j2
      rw [this] at eb
      simpa using Option.some.inj eb
    rw [e1, e2]
    rcases hs _ (List.getElem_mem jx) with hf | ⟨p, hp⟩
    · exact eqAt_same ra rb hf
    · rw [hp] at ra rb
      cases ra
      cases rb
      exact SeqAt.EqAt.same _
/-- comprehensions over enumerate of a list that stays -/
theorem lc_enum {K : PySem.W.Frag} {a : Addr} {xs : List V} {g : TG} {tt : TT} {te : TE} {vs : List Nat} {σ : L2.St} {H1 : Hp} {D : Addr} {Qd : Hp → Prop} (Pv : Nat → Hp → Prop) (h0 : Pv 0 (upd H1 D (.lst []))) (hl : ∀ i H, i ≤ xs.length → Pv i H → SqL K H a xs)
    (hs : ∀ (i : Nat) x H T, xs[i]? = some x → Pv i H → H T = none → g (.ref T) (wipe σ vs) (upd H T (.tup [.int (i : Int), x])) fun σ2 H2 => wipe σ2 vs = wipe σ vs ∧ tt σ2 H2 fun b H3 =>
      if b = true then te σ2 H3 fun y H4 => ∃ acc, H4 D = some (.lst acc) ∧ acc.length < sizeLine ∧ Pv (i + 1) (upd H4 D (.lst (acc ++ [y]))) else Pv (i + 1) H3) (hd : ∀ H, Pv xs.length H → Qd H) :
    ∃ W : Nat → Nat → Hp → Prop, (∃ m, W 0 m (upd H1 D (.lst []))) ∧ ∀ i m H, W i m H →
      ((Ite K a).stop i H ∧ Qd H) ∨ ((Ite K a).go i H ∧ ∃ Nx : Hp → Prop, (∀ H', Nx H' → ∃ m', m' < m ∧ W (i + 1) m' H') ∧ ∀ x H', (Ite K a).yld i H x H' → g x (wipe σ vs) H' fun σ2 H2 => wipe σ2 vs = wipe σ vs ∧ tt σ2 H2 fun b H3 =>
        if b = true then te σ2 H3 fun y H4 => ∃ acc, H4 D = some (.lst acc) ∧ acc.length < sizeLine ∧ Nx (upd H4 D (.lst (acc ++ [y]))) else Nx H3) := by
  refine ⟨fun i m H => m = xs.length - i ∧ i ≤ xs.length ∧ Pv i H, ⟨xs.length, by simp, Nat.zero_le _, h0⟩, ?_⟩
  rintro i m H ⟨em, hi, p⟩
  subst em
  have q := hl i H hi p
  rcases Nat.lt_or_ge i xs.length with hlt | hge
  · right
    refine ⟨⟨xs, xs[i], q, List.getElem?_eq_getElem hlt⟩, Pv (i + 1), fun H' p' => ⟨xs.length - (i + 1), by omega, rfl, hlt, p'⟩, ?_⟩
    rintro z H' ⟨T, x, ez, hT, eH, hx⟩
    subst ez
    subst eH
    exact hs i x H T (hx xs q) p hT
  · left
    have e : i = xs.length := by omega
    subst e
    exact ⟨⟨xs, q, Nat.le_refl _⟩, hd H p⟩
end OF
set_option maxHeartbeats 4000000
/-! set(xs) of a list or tuple of ints, sorted of it. -/
namespace OF
open PySem PySem.Spec PyProof.Rows L2
/-- an empty set, just made -/
abbrev setObj0 (w : World) : Obj := { cls := .type "set", dict := none, data := .set #[] 0 (.fresh 0 0 (!w.params.followText "set-order")) }
section
variable {P : Program} {w : World} {A : Around} {E : Value → Shared → Prop}
theorem set_of_list {h : Heap} {g : Array GenState} {d : Drawn} {t : Nat} {os : OsState} {l : Addr} {xs : Array Value} (ns : List Int) {Q : Value → Shared → Prop} (calm : A.handled = none) (lst : h.IsList l xs) (allInt : IntsAre xs.toList ns) (few : ns.length + 1 < scanBound)
    (fin : ∀ (h' : Heap) (tk c : Nat), SetR w h' h.objs.size (fun j => decide (j ∈ ns)) c → c ≤ ns.length → (∀ b o, h.get? b = some o → h'.get? b = some o) → Q (.ref h.objs.size) ⟨h', g, d, tk, os⟩) :
    wpAny (model P w) A (call (.type "set") [.ref l]) Q E ⟨h, g, d, t, os⟩ := by
  have size : xs.size = ns.length := by
    rw [← Array.length_toList]
    exact allInt.length
  obtain ⟨c, tl, hmro⟩ := F.called_set.mro
  have f1 := F.called_set.made
  have f2 := F.called_set.sub
  have f3 := F.called_set.notType
  have f4 := F.called_set.canCreate
  have f5 := F.typeCall_set_1 (.ref l)
  apply wpAny_call
  apply codeAny_of_tree
  show wpAny _ _ (callAny (.type "set") _) _ _ _
  apply wpAny_pure
  refine ⟨Code.quiet_builtin _ (by decide +kernel), codeAny_builtin F.entry_type_call ?_⟩
  rw [Around.under_plain (weight_type_call_type "set" [.ref l] []) rfl]
  repeat any_goals first
    | assumption
    | wp_step
  refine codeAny_mono (code_set_led1 (s := ⟨h, g, d, t, os⟩) (.ref l) (E := E) (Q₁ := fun v s1 => v = .ref h.objs.size ∧ s1 = ⟨h.push (setObj0 w), g, d, t, os⟩) ⟨rfl, rfl⟩) ?_
  intro r s1 z
  cases r with
  | error e => exact z
  | ok fl =>
    cases fl with
    | next => exact z.elim
    | brk => exact z.elim
    | cont => exact z.elim
    | ret v =>
      obtain ⟨ev, es⟩ := z
      subst ev es
      have there : (h.push (setObj0 w)).get? h.objs.size = some (setObj0 w) := Heap.get?_push_size _ rfl
      have isSet : Shared.TypeIs ⟨h.push (setObj0 w), g, d, t, os⟩ (.ref h.objs.size) "set" := ⟨_, there, rfl⟩
      have i1 := F.called_set.init.lookup
      have i2 := F.called_set.init.bind (.ref h.objs.size)
      repeat any_goals first
        | assumption
        | wp_step
      refine codeAny_mono (codeAny_call_builtin (R := wants (fun r s2 => r = .none ∧ ∃ h' tk c, s2 = ⟨h', g, d, tk, os⟩ ∧ SetR w h' h.objs.size (fun j => decide (j ∈ ns)) c ∧ c ≤ ns.length ∧ (∀ b o, h.get? b = some o → h'.get? b = some o)) E)
        F.called_set.init.plain F.entry_set_init (check_set_init_1 isSet ?inner)) ?outer
      case outer =>
        intro r2 s2 z2
        cases r2 with
        | error e => exact z2
        | ok fl2 =>
          cases fl2 with
          | next => exact z2.elim
          | brk => exact z2.elim
          | cont => exact z2.elim
          | ret v2 =>
            obtain ⟨ev, h', tk, c', es, hS, hc, hk⟩ := z2
            subst ev es
            repeat any_goals first
              | assumption
              | wp_step
            exact fin _ _ _ hS hc hk
      case inner =>
        obtain ⟨o1, ho1, hc1, m1, hd1⟩ := lst
        obtain ⟨k1, k2, k3, k4⟩ := o1
        simp only at hc1 hd1
        subst hc1 hd1
        have there2 : (h.push (setObj0 w)).get? l = some { cls := .type "list", dict := k2, data := .seq xs m1, slots := k4 } := Heap.get?_push_of_some _ ho1
        have s1 := F.sub_list_set
        have s2 := F.sub_list_frozenset
        have apart : (Value.type "list" == Value.type "dict") = false := by decide
        have lst1 : (h.push (setObj0 w)).IsList l xs := ⟨_, there2, rfl, m1, rfl⟩
        unfold Builtin.«set.__init__» noKeywords Builtin.Frozenset.updateFrom
        generalize same : pyIter = PI
        wp_walk
        subst same
        apply wpAny_pyIter_list lst1
        apply wpAny_bind
        apply wpAny_runValue
        have below : l < h.objs.size := Heap.lt_size ho1
        have calm3 : A.in1.in1.in1.handled = none := by simp [calm]
        have sz : (h.push (setObj0 w)).objs.size = h.objs.size + 1 := Heap.size_push ..
        have ne1 : l ≠ (h.push (setObj0 w)).objs.size := by
          rw [sz]
          exact Nat.ne_of_lt (Nat.lt_succ_of_lt below)
        have ne2 : h.objs.size ∉ [(h.push (setObj0 w)).objs.size, l] := by
          rw [sz]
          simp only [List.mem_cons, List.not_mem_nil, or_false, not_or]
          exact ⟨Nat.ne_of_lt (Nat.lt_succ_self _), Nat.ne_of_gt below⟩
        have vals : ∀ (i : Nat) (v : Value), xs[i]? = some v → ∃ k t, ns[i]? = some k ∧ v = .int k t := by
          intro i v hv
          have hi : i < ns.length := by
            rw [← size]
            exact (Array.getElem?_eq_some_iff.mp hv).1
          obtain ⟨t, e⟩ := PyProof.Rows.IntsAre.int_at allInt i v (by rw [Array.getElem?_toList]; exact hv)
          rw [List.getD_eq_getElem?_getD, List.getElem?_eq_getElem hi] at e
          exact ⟨ns[i], t, List.getElem?_eq_getElem hi, e⟩
        refine set_update_ints ((Walks.list calm3 _ l ne1 xs).toS) h.objs.size ne2 ns size few vals (xs.size - 0) 0 _ (by omega) (Nat.zero_le _) ⟨⟨_, Heap.get?_push_size _ rfl, rfl, rfl⟩, (lst1.push _)⟩ ?start ?stop
        case start =>
          have got : ((h.push (setObj0 w)).push { cls := .type "list_iterator", data := .fields #[.ref l, .int 0 0] }).get? h.objs.size = some (setObj0 w) := Heap.get?_push_of_some _ there
          exact ⟨0, Nat.le_refl 0, setR_new_at got⟩
        case stop =>
          intro s' c' hm hc' hS
          obtain ⟨h', g2, d2, tk, os2⟩ := s'
          have eg : g2 = g := hm.gens
          have ed : d2 = d := hm.drawn
          have eo : os2 = os := hm.os
          subst eg ed eo
          show wpAny _ _ _ _ _ _
          apply wpAny_pure
          show wpAny _ _ (ret Value.none) _ _ _
          rw [size] at hc'
          apply wpAny_pure
          refine ⟨rfl, h', tk, c', rfl, hS, hc', fun b o z => ?_⟩
          have b0 : b < h.objs.size := Heap.lt_size z
          refine hm.heap b o ?_ (Heap.get?_push_of_some _ (Heap.get?_push_of_some _ z))
          simp only [List.mem_cons, List.not_mem_nil, or_false, not_or]
          rw [sz]
          exact ⟨Nat.ne_of_lt b0, Nat.ne_of_lt (Nat.lt_succ_of_lt b0)⟩
end
section
variable {X : Cx}
/-- set(xs): xs a list or tuple of ints -/
def rSetB (K : PySem.W.Frag) (w : World) : List V → Hp → VK → Prop := fun xs H Q => ∃ (l : Addr) (ns : List Int), xs = [.ref l] ∧ (SqL K H l (ns.map V.int) ∨ SqT K H l (ns.map V.int)) ∧ ns.length ≤ 4000 ∧
  ∀ (p : Addr) (ks : List Int), H p = none → ks.Nodup → (∀ k, k ∈ ks ↔ k ∈ ns) → Q (.ref p) (upd H p (SetO w p (fun j => decide (j ∈ ns)) ks.length))
theorem ints_vals : ∀ {ns : List Int} {us : List Value}, Vals (ns.map V.int) us → IntsAre us ns
  | [], _, .nil => .nil
  | _ :: ns, _, .cons r t => by
    obtain ⟨k, rfl⟩ := r
    exact .cons _ k (ints_vals t)
theorem cr_setB (hc : X.calm = true) : CallR X (.type "set") (rSetB X.K X.w) := by
  intro pins s σ H xs us Q I r h
  obtain ⟨l, ns, rfl, hl, few, q⟩ := h
  obtain ⟨u, rfl, ru⟩ := vals1 r
  cases ru
  have hn : H s.heap.objs.size = none := I.hok.fresh (Nat.le_refl _)
  have room : ns.length + 1 < scanBound := by
    unfold scanBound
    omega
  have fin : ∀ (h' : Heap) (tk c : Nat), SetR X.w h' s.heap.objs.size (fun j => decide (j ∈ ns)) c → c ≤ ns.length → (∀ b o, s.heap.get? b = some o → h'.get? b = some o) → EP X pins σ Q (.ref s.heap.objs.size) { s with heap := h', toks := tk } := by
    intro h' tk c R hc2 k
    have R2 := R
    obtain ⟨o, es, ep, st, _, _, _, _, nd, mem, _, _, ec, _⟩ := R2
    have e : (es.toList.map keyOf).length = c := by rw [List.length_map, Array.length_toList, ec]
    have q2 := q s.heap.objs.size (es.toList.map keyOf) hn nd fun k => ⟨fun z => of_decide_eq_true ((mem k).mpr z), fun z => (mem k).mp (decide_eq_true z)⟩
    rw [e] at q2
    exact ⟨.ref s.heap.objs.size, _, I.laid (t' := tk) k (Nat.le_refl _) (setO_new R), rfl, q2⟩
  rcases hl with hl | hl
  · obtain ⟨its, rv, pl, _⟩ := I.list hl
    obtain ⟨hp, g, d, t, os⟩ := s
    exact set_of_list ns (I.ok.hd hc) pl.isList (by simpa using ints_vals rv) room fin
  · obtain ⟨its, rv, pl, _⟩ := I.tuple hl
    exact call_set_tupI ns (I.ok.hd hc) pl (by simpa using ints_vals rv) room fin
/-- .. of few ints -/
def rSetI (K : PySem.W.Frag) (w : World) : List V → Hp → VK → Prop := fun xs H Q => ∃ (l : Addr) (ns : List Int), xs = [.ref l] ∧ (SqL K H l (ns.map V.int) ∨ SqT K H l (ns.map V.int)) ∧ ns.length ≤ 60 ∧
  ∀ (p : Addr) (ks : List Int), H p = none → ks.Nodup → (∀ k, k ∈ ks ↔ k ∈ ns) → Q (.ref p) (upd H p (SetO w p (fun j => decide (j ∈ ns)) ks.length))
theorem cr_setI (hc : X.calm = true) : CallR X (.type "set") (rSetI X.K X.w) := fun pins s σ H xs us Q I r ⟨l, ns, e, hl, few, q⟩ => cr_setB hc pins s σ H xs us Q I r ⟨l, ns, e, hl, Nat.le_trans few (by decide), q⟩
/-- len of such a set -/
def rLenSetO (w : World) : List V → Hp → VK → Prop := fun xs H Q => ∃ (a : Addr) (S : Int → Bool) (n : Nat), xs = [.ref a] ∧ H a = some (SetO w a S n) ∧ Q (.int n) H
theorem call_lenSetO : CallR X (.builtin "len") (rLenSetO X.w) := by
  intro pins s σ H xs us Q I r h
  obtain ⟨a, S, n, rfl, ha, q⟩ := h
  obtain ⟨u, rfl, ru⟩ := vals1 r
  cases ru
  obtain ⟨o, es, ep, t, ho, hx, hd, _, _, _, fits, small, en, _⟩ := setO_get I ha
  refine call_len_set ho hx hd small (by unfold scanBound at fits; omega) ⟨.int n, H, I.tok _, ⟨_, by rw [en]⟩, q⟩
end
end OF
set_option maxHeartbeats 4000000
/-! sorted(set(..)) of pairs of any ints. -/
namespace OF
open PySem PySem.Spec PyProof.Rows L2
theorem perm_back {α β : Type} {f : α → β} {l m : List β} (h : l.Perm m) : ∀ L : List α, m = L.map f → ∃ L' : List α, L'.Perm L ∧ l = L'.map f := by
  induction h with
  | nil =>
    intro L e
    exact ⟨L, List.Perm.refl _, e⟩
  | cons x _ ih =>
    intro L e
    cases L with
    | nil => cases e
    | cons y L =>
      have e2 := List.cons.inj e
      obtain ⟨L', p, q⟩ := ih L e2.2
      exact ⟨y :: L', p.cons y, by rw [q, e2.1]; rfl⟩
  | swap x y l =>
    intro L e
    match L, e with
    | [], e => cases e
    | [_], e => cases (List.cons.inj e).2
    | a :: b :: L, e =>
      obtain ⟨e1, e2⟩ := List.cons.inj e
      obtain ⟨e3, e4⟩ := List.cons.inj e2
      exact ⟨b :: a :: L, List.Perm.swap _ _ _, by rw [e1, e3, e4]; rfl⟩
  | trans _ _ ih1 ih2 =>
    intro L e
    obtain ⟨L2, p2, q2⟩ := ih2 L e
    obtain ⟨L1, p1, q1⟩ := ih1 L2 q2
    exact ⟨L1, p1.trans p2, q1⟩
/-- a list of two ints as a pair -/
def duo : List Int → Int × Int
  | [x, y] => (x, y)
  | _ => (0, 0)
section
variable {P : Program} {w : World} {A : Around} {E : Value → Shared → Prop} {s : Shared}
theorem sorted_set_duos {a : Addr} {L : List (Addr × List Int)} {es : Array (Int × Value)} {ep : Nat} {t : SetTable} {Q : Value → Shared → Prop} (R : SetTR P w s.heap a L es ep t) (calm : A.handled = none) (two : ∀ p ∈ L, p.2.length = 2)
    (fin : ∀ (s' : Shared) (p : Addr) (out : List Value) (c : Nat) (L' : List (Addr × List Int)), (∀ b o, s.heap.get? b = some o → s'.heap.get? b = some o) → s'.gens = s.gens → s'.os = s.os → s.heap.objs.size ≤ p →
      s'.heap.get? p = some (seqObj "list" out.toArray c) → out = L'.map (fun q => Value.ref q.1) → L'.Perm L → L'.Pairwise (fun q r => SrtO.lexB (duo r.2) (duo q.2) = false) → Q (.ref p) s') : wpAny (model P w) A (call (.builtin "sorted") [.ref a]) Q E s := by
  obtain ⟨o, ho, hx, hd⟩ := R.ob
  have hsz := R.size
  have few := R.few
  apply Calls.call_function_entry kind_sorted plain_sorted entry_sorted (args_sorted1 _)
  unfold Builtin.«sorted»
  refine wpAny_bind (m := checkCount "sorted" 1 1 _) (wpAny_pure ?_)
  apply wpAny_bind
  apply collect_set (A := A.in1) calm ⟨o, ho, hx.1, hd⟩ R.fits (by unfold scanBound; omega) R.tab.ris R.led
  intro s1 vs k1 z1 g1 o1 pm
  have rows : es.toList.map (·.2) = L.map fun q => Value.ref q.1 := by
    rw [R.rows]
    unfold rowsOf
    rw [List.map_map] <;> rfl
  rw [rows] at pm
  have short : vs.length < 64 := by
    rw [pm.length_eq, List.length_map]
    exact few
  have room : vs.length ≤ sizeLine := by
    rw [sizeLine_eq]
    omega
  refine wpAny_bind (wpAny_newList ?_ room)
  have laid : (s1.heap.push (seqObj "list" vs.toArray 0)).get? s1.heap.objs.size = some (seqObj "list" vs.toArray 0) := Heap.get?_push_size _ rfl
  have tup : ∀ q ∈ L, TS.TupInts (s1.heap.push (seqObj "list" vs.toArray 0)) (.ref q.1) q.2 := by
    intro q hq
    exact tupInts_of (P := P) (w := w) (isT_keep (R.tup q hq) fun b u e => Heap.get?_push_of_some _ (k1 b u e))
  have pair : ∀ v ∈ vs, Srt.IsPair (s1.heap.push (seqObj "list" vs.toArray 0)) v (duo (TS.intsOf (s1.heap.push (seqObj "list" vs.toArray 0)) v)).1 (duo (TS.intsOf (s1.heap.push (seqObj "list" vs.toArray 0)) v)).2 := by
    intro v hv
    obtain ⟨q, hq, e⟩ := List.mem_map.mp (pm.mem_iff.mp hv)
    subst e
    rw [(tup q hq).ints]
    obtain ⟨b, xs, e1, ⟨u, hu, hc, m, hd2⟩, ii⟩ := tup q hq
    have l2 := two q hq
    match hq2 : q.2, l2 with
    | [x, y], _ =>
      rw [hq2] at ii
      obtain ⟨xl⟩ := xs
      cases ii with
      | cons t1 k1' r1 => cases r1 with
        | cons t2 k2' r2 => cases r2 with
          | nil => exact ⟨b, u, _, _, m, e1, hu, hc, hd2⟩
  refine wpAny_bind (wpAny_holding (wpAny_call_entry slot_list_sort ⟨_, laid, rfl⟩ entry_list_sort (SrtO.list_sort_ord (s := { s1 with heap := s1.heap.push (seqObj "list" vs.toArray 0) }) (SrtO.swo_lex fun v => duo (TS.intsOf (s1.heap.push (seqObj "list" vs.toArray 0)) v)) laid room (fun h2 => ?sorts) fun out hs hb => ⟨_, rfl, ?done⟩) (args_list_sort _)))
  case sorts =>
    refine SrtO.pairs_sortableO (by omega) pair ?_
    intro u hu c
    rw [laid] at hu
    have := Option.some.inj hu
    subst this
    exact absurd (Value.type.inj c) (by decide)
  case done =>
    obtain ⟨c, hc⟩ := sortedHeap_at (vs := vs) (out := out.toArray) laid
    obtain ⟨L', pL, eL⟩ := perm_back (hb.perm.trans pm) L rfl
    refine wpAny_pure ⟨_, rfl, fin _ s1.heap.objs.size out c L' ?_ g1 o1 z1 hc eL pL ?_⟩
    · intro b u e
      have q := k1 b u e
      have lt := Heap.lt_size q
      show (sortedHeap (s1.heap.push (seqObj "list" vs.toArray 0)) s1.heap.objs.size vs out.toArray).get? b = some u
      rw [sortedHeap_old (Nat.ne_of_lt lt) (by rw [size_push']; exact Nat.lt_succ_of_lt lt)]
      exact Heap.get?_push_of_some _ q
    · have hs2 := hs
      rw [eL] at hs2
      refine List.Pairwise.imp_of_mem (fun {q r} hq hr z => ?_) (List.pairwise_map.mp hs2)
      have z2 : SrtO.lexB (duo (TS.intsOf (s1.heap.push (seqObj "list" vs.toArray 0)) (.ref r.1))) (duo (TS.intsOf (s1.heap.push (seqObj "list" vs.toArray 0)) (.ref q.1))) = false := z
      rw [(tup q (pL.mem_iff.mp hq)).ints, (tup r (pL.mem_iff.mp hr)).ints] at z2
      exact z2
end
section
variable {X : Cx}
/-- sorted of a set of pairs of ints -/
def rSortedDuo (K : PySem.W.Frag) (P : Program) (w : World) : List V → Hp → VK → Prop := fun vs H Q => ∃ (a : Addr) (L : List (Addr × List Int)), vs = [V.ref a] ∧ H a = some (SetTO P w a L) ∧ (∀ p ∈ L, SqT K H p.1 (p.2.map V.int)) ∧ (∀ p ∈ L, p.2.length = 2) ∧
  ∀ (L' : List (Addr × List Int)) (p : Addr), L'.Perm L → (L'.map (·.2)).Nodup → L'.length < 64 → L'.Pairwise (fun q r => SrtO.lexB (duo r.2) (duo q.2) = false) → H p = none → Q (.ref p) (upd H p (.lst (L'.map fun q => V.ref q.1)))
theorem cr_sortedDuo (hc : X.calm = true) : CallR X (.builtin "sorted") (rSortedDuo X.K X.prog X.w) := by
  intro pins s σ H vs us Q I r h
  obtain ⟨a, L, rfl, ha, hk, two, q⟩ := h
  obtain ⟨u, rfl, ru⟩ := vals1 r
  cases ru
  have R0 : SetT0 X.prog X.w s.heap a L := (I.hok a _ ha).1
  obtain ⟨es, ep, t, R⟩ := R0.full fun p hp => I.isT (hk p hp)
  apply sorted_set_duos R (I.ok.hd hc) two
  intro s' p out c L' k g o hp hg eo pm pw
  have short : L'.length < 64 := by
    rw [pm.length_eq]
    exact R.few
  have room : (L'.map fun q => V.ref q.1).length ≤ sizeLine := by
    rw [List.length_map, sizeLine_eq]
    omega
  have free : H p = none := I.hok.fresh hp
  subst eo
  have vals : Vals (L'.map fun q => V.ref q.1) (L'.map fun q => Value.ref q.1) := vals_of_refs L'
  obtain ⟨h', g', d', t', o'⟩ := s'
  have e1 : g' = s.gens := g
  have e2 : o' = s.os := o
  subst e1 e2
  have J : Inv X pins σ (upd H p (.lst (L'.map fun q => V.ref q.1))) ⟨h', s.gens, d', t', s.os⟩ :=
    I.call (ch := []) (Un.laid k hp free) (I.hok.laid k hp ⟨room, _, c, vals, hg⟩) I.bare (fun _ z => nomatch z)
  exact ⟨.ref p, _, J, rfl, q L' p pm ((pm.map (·.2)).nodup_iff.mpr R.nd) short pw free⟩
end
end OF
namespace OF
open PySem PySem.Spec PyProof.Rows L2
section
variable {X : Cx}
/-- x not in a tuple of data -/
def rNotInT (K : PySem.W.Frag) : R2 := fun x y H Q => ∃ d ds, Dp K H x d ∧ Dp K H y (.tuple ds) ∧ SeqAt.shaped d = true ∧ SeqAt.shaped (.tuple ds) = true ∧ Q (.bl (!ds.any fun z => PyData.eqv z d)) H
theorem op_notInT (hu : X.A.units + 65 < cLine) : OpR X (compareOp .NotIn) (rNotInT X.K) := by
  intro pins s σ H x y v u Q I rx ry h
  obtain ⟨d, ds, hd, he, sd, se, q⟩ := h
  obtain ⟨as, r1⟩ := Dp.reads I d x v hd rx
  obtain ⟨bs, r2⟩ := Dp.reads I (.tuple ds) y u he ry
  exact SeqAt.notIn_tuple_reads r2 r1 (SeqAt.canLay_of_shaped se) (SeqAt.canLay_of_shaped sd) (room_in_shaped sd hu) ⟨.bl _, H, I, rfl, q⟩
end
end OF
/-! x in o and o == p of instances of an own class with __contains__, __eq__ of its own. -/
namespace OF
open PySem PySem.Spec PyProof.Rows L2
section
variable {M : Model} {A : Around} {E : Value → Shared → Prop} {s : Shared} {K : PySem.W.Frag} {x C f : Addr} {ox : Obj} {od : Option Obj} {v : Value}
theorem contains_own {Q : Bool → Shared → Prop} (X : K.In s.heap) (I : PySem.W.InstAt s.heap x ox C od) (hs : PySem.W.findIn K (.ref C) "__contains__" = some (some (.ref f))) (hf : PySem.W.isFn K (.ref f) = true)
    (h : wpAny M A (call (.ref f) [.ref x, v]) (fun r s' => ∃ b, r = .bool b ∧ Q b s') E s) : wpAny M A (contains (.ref x) v) Q E s := by
  unfold contains
  refine wpAny_holding ?_
  rw [show stdlibNamesSay? (.ref x) v = none from by unfold stdlibNamesSay?; split <;> simp_all]
  refine wpAny_bind (m := specialOf (.ref x) (Str.ofString "__contains__")) (wpAny_bind (I.type.here ((PySem.W.looks_findIn X hs).here ?_)))
  show wpAny M A (if (some (Value.ref f) == some Value.none) = true then _ else _) Q E s
  rw [if_neg (by simp)]
  refine wpAny_bind (m := callSpecialUnlessNone? (.ref x) (Str.ofString "__contains__") [v] _) ?_
  unfold callSpecialUnlessNone?
  refine wpAny_bind (m := specialOf (.ref x) (Str.ofString "__contains__")) (wpAny_bind (I.type.here ((PySem.W.looks_findIn X hs).here ?_)))
  refine wpAny_holding (wpAny_bind ((PySem.W.bind_fn X _ (beq_iff_eq.mp hf)).here ?_))
  show wpAny M A (if (Value.ref f == Value.none) = true then _ else _) _ E s
  rw [if_neg (by simp)]
  refine wpAny_bind (wpAny_mono h (fun r s' hr => ?_) fun _ _ e => e)
  obtain ⟨b, rfl, q⟩ := hr
  exact wpAny_pure (wpAny_pure q)
end
section
variable {X : Cx} {CX : CXT} {n : Nat} {f C : Addr} {fd : FuncData} {ps : List Str} {sp : Sp} {E : XK}
/-- x in o, o an instance of the class at C with its own __contains__ -/
def rInOwn (C : Addr) (sp : Sp) (E : XK) (neg : Bool) : R2 := fun x y H Q => ∃ a dx fs, y = .ref a ∧ H a = some (.ins C dx fs) ∧ sp [y, x] H (fun z H' => ∃ b : Bool, z = .bl b ∧ Q (.bl (if neg then !b else b)) H') E
theorem op_inOwn (hs : PySem.W.findIn X.K (.ref C) "__contains__" = some (some (.ref f))) (hf : PySem.W.isFn X.K (.ref f) = true) (F : FnOk X.prog X.w X.K X.mg X.base CX n f fd ps sp) (hb : Binds X.K fd ps []) (hr : Room n X.A) (hx : Passes CX X E) :
    OpR X (compareOp .In) (rInOwn C sp E false) := by
  intro pins s σ H x y v u Q I rx ry h
  obtain ⟨a, dx, fs, rfl, ha, q⟩ := h
  cases (show u = Value.ref a from ry)
  obtain ⟨mA, J, _⟩ := ins_get I.hok ha
  obtain ⟨od, J, _⟩ := J.look
  show wpAny _ _ (do return Value.bool (← contains (.ref a) v)) _ _ _
  refine wpAny_bind (contains_own I.kIn J hs hf (wpAny_mono (run_fn (us := [.ref a, v]) (vs := [.ref a, x]) F hr hb .nil hx I (.cons rfl (.cons rx .nil)) q) (fun r s' z => ?_) fun _ _ e => e))
  obtain ⟨z', H', I', rz, b, rfl, q'⟩ := z
  cases rz
  exact ⟨b, rfl, wpAny_pure ⟨.bl b, H', I', rfl, q'⟩⟩
theorem op_notInOwn (hs : PySem.W.findIn X.K (.ref C) "__contains__" = some (some (.ref f))) (hf : PySem.W.isFn X.K (.ref f) = true) (F : FnOk X.prog X.w X.K X.mg X.base CX n f fd ps sp) (hb : Binds X.K fd ps []) (hr : Room n X.A) (hx : Passes CX X E) :
    OpR X (compareOp .NotIn) (rInOwn C sp E true) := by
  intro pins s σ H x y v u Q I rx ry h
  obtain ⟨a, dx, fs, rfl, ha, q⟩ := h
  cases (show u = Value.ref a from ry)
  obtain ⟨mA, J, _⟩ := ins_get I.hok ha
  obtain ⟨od, J, _⟩ := J.look
  show wpAny _ _ (do return Value.bool (!(← contains (.ref a) v))) _ _ _
  refine wpAny_bind (contains_own I.kIn J hs hf (wpAny_mono (run_fn (us := [.ref a, v]) (vs := [.ref a, x]) F hr hb .nil hx I (.cons rfl (.cons rx .nil)) q) (fun r s' z => ?_) fun _ _ e => e))
  obtain ⟨z', H', I', rz, b, rfl, q'⟩ := z
  cases rz
  exact ⟨b, rfl, wpAny_pure ⟨.bl (!b), H', I', rfl, q'⟩⟩
/-- o == p, two instances of the class at C with its own __eq__ -/
def rEqOwn (C : Addr) (sp : Sp) (E : XK) : R2 := fun x y H Q => ∃ a dx fs b dy gs, x = .ref a ∧ y = .ref b ∧ H a = some (.ins C dx fs) ∧ H b = some (.ins C dy gs) ∧ sp [x, y] H (fun z H' => ∃ b : Bool, z = .bl b ∧ Q z H') E
theorem op_eqOwn (hs : PySem.W.findIn X.K (.ref C) "__eq__" = some (some (.ref f))) (hf : PySem.W.isFn X.K (.ref f) = true) (F : FnOk X.prog X.w X.K X.mg X.base CX n f fd ps sp) (hb : Binds X.K fd ps []) (hr : Room n X.A) (hx : Passes CX X E) :
    OpR X (compareOp .Eq) (rEqOwn C sp E) := by
  intro pins s σ H x y v u Q I rx ry h
  obtain ⟨a, dx, fs, b, dy, gs, rfl, rfl, ha, hb', q⟩ := h
  cases (show v = Value.ref a from rx)
  cases (show u = Value.ref b from ry)
  obtain ⟨mA, J, _⟩ := ins_get I.hok ha
  obtain ⟨od, J, _⟩ := J.look
  obtain ⟨mB, J', _⟩ := ins_get I.hok hb'
  obtain ⟨od', J', _⟩ := J'.look
  obtain ⟨m, hF⟩ := I.fr
  refine PySem.W.cmp_K (op := .Eq) (tb := .ref C) hr.units0 hF I.ok.mod.kin J J'.type (by simp [PySem.W.notFirst]) hs hf ?_
  refine wpAny_mono (run_fn (us := [.ref a, .ref b]) (vs := [.ref a, .ref b]) F hr hb .nil hx I (.cons rfl (.cons rfl .nil)) q) (fun w s' z => ?_) fun _ _ e => e
  obtain ⟨z', H', I', rz, c, rfl, q'⟩ := z
  cases rz
  exact ⟨.bl c, H', I', rfl, q'⟩
end
end OF
/-! tuples: t + u, t[lo:hi], t[::-1] where the answer may be an operand itself; zip of tuples walked. -/
namespace OF
open PySem PySem.Spec PyProof.Rows L2
section
variable {X : Cx}
/-- t + u -/
def rCat2 : R2 := fun x y H Q => ∃ a b xs ys, x = .ref a ∧ y = .ref b ∧ H a = some (.tup xs) ∧ H b = some (.tup ys) ∧ xs.length + ys.length ≤ sizeLine ∧ ∀ p H', Same H H' → H' p = some (.tup (xs ++ ys)) → Q (.ref p) H'
theorem op_cat2 : OpR X (binaryOp .Add) rCat2 := by
  intro pins s σ H x y v u Q I rx ry h
  obtain ⟨a, b, xs, ys, rfl, rfl, ha, hb, hz, q⟩ := h
  refine op_catA pins s σ H _ _ v u Q I rx ry ⟨a, b, xs, ys, rfl, rfl, SqT.of ha, SqT.of hb, hz, fun e => ?_, fun _ e => ?_, fun _ _ p hp => q p _ (same_new hp) upd_same⟩
  · subst e
    exact q b H (Same.refl H) hb
  · subst e
    exact q a H (Same.refl H) (by rw [List.append_nil]; exact ha)
theorem cutV_whole (xs : List V) (lo hi : Option Int) (h : HT.sIx xs.length 0 lo = 0 ∧ HT.sIx xs.length xs.length hi = xs.length) : cutV xs lo hi = xs := by
  unfold cutV
  rw [h.1, h.2, List.drop_zero, Nat.sub_zero, List.take_length]
/-- t[lo:hi] -/
def rSl2 : V → Option Int → Option Int → Hp → VK → Prop := fun x lo hi H Q => ∃ a xs, x = .ref a ∧ H a = some (.tup xs) ∧ ∀ p H', Same H H' → H' p = some (.tup (cutV xs lo hi)) → Q (.ref p) H'
theorem sl_tup2 : SlR X rSl2 := by
  intro pins s σ H x v vl vu lo hi sl Q I rx hs pl pu h
  obtain ⟨a, xs, rfl, hx, q⟩ := h
  refine sl_tupA pins s σ H _ v vl vu lo hi sl Q I rx hs pl pu ⟨a, xs, rfl, SqT.of hx, fun e => q a H (Same.refl H) (by rw [cutV_whole xs lo hi e]; exact hx), fun _ p hp => q p _ (same_new hp) upd_same⟩
end
/-! ### t[::-1] -/
section
variable {prog : Program} {w : World} {A : Around} {E : Value → Shared → Prop} {s : Shared}
theorem sliceApplied_rev {sl : Addr} {vs : Value} {n : Nat} {Q : Int × Int × Nat → Shared → Prop} (hs : s.heap.IsSliceOf sl .none .none vs) (ps : PySem.IsPart vs (some (-1)))
    (h : Q ((n : Int) - 1, -1, n) s) : wpAny (model prog w) A (Builtin.Slice.sliceApplied (.ref sl) (pure (n : Int))) Q E s := by
  obtain ⟨os, hos, hcs, hds⟩ := id hs
  unfold Builtin.Slice.sliceApplied Builtin.Slice.sliceFields
  refine wpAny_bind (wpAny_bind (wpAny_field hos hds (x := .none) rfl (wpAny_bind (wpAny_field hos hds (x := .none) rfl (wpAny_bind (wpAny_field hos hds (x := vs) rfl (wpAny_pure ?_)))))))
  refine wpAny_bind (HT.slicePart_ ps ?_)
  show wpAny _ _ (if ((-1 : Int) == 0) = true then _ else _) _ _ s
  rw [if_neg (by decide)]
  refine wpAny_bind (slicePart_none (wpAny_bind (slicePart_none (wpAny_bind (wpAny_pure ?_)))))
  show wpAny _ _ (pure ((n : Int) - 1, (-1 : Int), Builtin.Slice.slicePlaces ((n : Int) - 1) (-1) (-1))) _ _ s
  have e : Builtin.Slice.slicePlaces ((n : Int) - 1) (-1) (-1) = n := by
    unfold Builtin.Slice.slicePlaces
    have h1 : ¬ ((-1 : Int) > 0) := by decide
    simp only [h1, if_false]
    split
    · rw [show (- -1 : Int) = 1 by decide, Int.ediv_one]
      omega
    · omega
  rw [e]
  exact wpAny_pure h
theorem fm_congr {α β : Type} {f g : α → Option β} : ∀ {l : List α}, (∀ x ∈ l, f x = g x) → l.filterMap f = l.filterMap g
  | [], _ => rfl
  | x :: l, h => by
    rw [List.filterMap_cons, List.filterMap_cons, h x List.mem_cons_self, fm_congr fun y hy => h y (List.mem_cons_of_mem _ hy)]
theorem pick_rev (xs : Array Value) : ((List.range xs.size).filterMap fun (k : Nat) => xs[(((xs.size : Int) - 1) + (k : Int) * (-1)).toNat]?).toArray = xs.toList.reverse.toArray := by
  have e : (List.range xs.size).filterMap (fun (k : Nat) => xs[(((xs.size : Int) - 1) + (k : Int) * (-1)).toNat]?) = ((List.range xs.size).map fun k => xs.size - 1 - k).filterMap (xs[·]?) := by
    rw [List.filterMap_map]
    refine fm_congr fun k hk => ?_
    have := List.mem_range.mp hk
    have e2 : (((xs.size : Int) - 1) + (k : Int) * (-1)).toNat = xs.size - 1 - k := by omega
    show _ = xs[xs.size - 1 - k]?
    rw [e2]
  rw [e, PySem.W.krv_range, List.filterMap_reverse, PySem.W.krv_all]
theorem getItem_tuple_rev {t sl : Addr} {items : Array Value} {vs : Value} {Q : Value → Shared → Prop} (ht : IsTup s.heap t items) (hs : s.heap.IsSliceOf sl .none .none vs) (ps : PySem.IsPart vs (some (-1)))
    (h : Q (.ref s.heap.objs.size) { s with heap := s.heap.push { cls := .type "tuple", data := .seq items.toList.reverse.toArray } })
    (hsz : items.size ≤ sizeLine) : wpAny (model prog w) A (getItem (.ref t) (.ref sl)) Q E s := by
  have htake : sizeOk (.seq items.toList.reverse.toArray) := by
    show items.toList.reverse.toArray.size ≤ sizeLine
    rw [List.size_toArray, List.length_reverse, Array.length_toList]
    exact hsz
  obtain ⟨os, hos, hcs, hds⟩ := id hs
  have hTs : s.TypeIs (.ref sl) "slice" := ⟨os, hos, hcs⟩
  unfold getItem
  try with_reducible refine wpAny_holding ?_
  first | refine wpAny_bind (wpAny_pure ?_) | skip
  refine wpAny_bind (wpAny_sequenceKey ht.typeIs (by decide) ?_)
  refine wpAny_bind (wpAny_callSpecial?_slot (name := Str.ofString "__getitem__") ht.typeIs PyProof.Rows.slot_tuple_getitem
    (wpAny_call_entry PyProof.Rows.slot_tuple_getitem ht.typeIs entry_tuple_getitem ?_ (args_tuple_getitem _ _)))
  show wpAny _ _ (Builtin.Tuple.tupleItemsOf (.ref t) >>= _) _ _ s
  refine wpAny_bind (tupleItemsOf_ ht ?_)
  refine wpAny_bind (wpAny_typeOf hTs ?_)
  rw [if_pos (by decide)]
  refine wpAny_bind (sliceApplied_rev hs ps ?_)
  have hno : ¬ ((((items.size : Int) - 1) == 0 && (-1 : Int) == 1 && items.size == items.size) = true) := by
    intro q
    rw [Bool.and_eq_true, Bool.and_eq_true] at q
    exact absurd q.1.2 (by decide)
  show wpAny _ _ (if (((items.size : Int) - 1) == 0 && (-1 : Int) == 1 && items.size == items.size) = true then _ else _) _ _ s
  rw [if_neg hno, pick_rev]
  first
    | exact wpAny_bind (m := Builtin.Tuple.tupleExact _) (wpAny_newObj_type (wpAny_pure ⟨_, rfl, wpAny_pure h⟩) htake)
    | exact wpAny_bind (m := Builtin.Tuple.tupleExact _) (wpAny_newObj_type (wpAny_bind (wpAny_pure (wpAny_pure ⟨_, rfl, wpAny_pure h⟩))) htake)
    | exact wpAny_bind (wpAny_bind (m := Builtin.Tuple.tupleExact _) (wpAny_newObj_type (wpAny_pure (wpAny_pure ⟨_, rfl, wpAny_pure h⟩)) htake))
    | exact wpAny_bind (wpAny_bind (m := Builtin.Tuple.tupleExact _) (wpAny_newObj_type (wpAny_pure ⟨_, rfl, wpAny_pure h⟩) htake))
end
section
variable {X : Cx}
def tRevT (K : PySem.W.Frag) (te : TE) : TE := fun σ H Q => te σ H fun x H1 => ∃ a xs, x = .ref a ∧ SqT K H1 a xs ∧ ∀ p, H1 p = none → Q (.ref p) (upd H1 p (.tup xs.reverse))
theorem pe_revT {e : Expr} {te : TE} {k : Nat} {p1 p2 p3 pos : Pos} (he : PE X e te) : PE X (.Subscript e (.Slice none none (some (.UnaryOp .USub (.Constant (.int 1) k p1) p2)) p3) pos) (tRevT X.K te) := by
  refine ⟨fun pins s σ H Q I h => ?_⟩
  refine Subscript_ (thn (he.run pins s σ H _ I h) fun v s1 ⟨x, H1, I1, r1, q1⟩ => ?_)
  obtain ⟨a, xs, ex, hx, q⟩ := q1
  subst ex
  cases r1
  have hst : PO X (some (.UnaryOp .USub (.Constant (.int 1) k p1) p2)) (tPart (tUn (rU fun i => .int (-i)) (tC (.int 1)))) := po_some (pe_un un_neg pe_int)
  refine wpAny_Slice (thn (po_none.run pins s1 σ H1 (fun o H2 => o = none ∧ H2 = H1) I1 ⟨rfl, rfl⟩) fun vl s2 ⟨l, H2, I2, pl, el, e2⟩ => ?_)
  subst el e2
  refine thn (po_none.run pins s2 σ H2 (fun o H3 => o = none ∧ H3 = H2) I2 ⟨rfl, rfl⟩) fun vu s3 ⟨u, H3, I3, pu, eu, e3⟩ => ?_
  subst eu e3
  cases pl
  cases pu
  refine thn (hst.run pins s3 σ H3 (fun o H4 => o = some (-1) ∧ H4 = H3) I3 ⟨1, rfl, -1, rfl, rfl, rfl⟩) fun vs s4 ⟨o, H4, I4, ps, eo, e4⟩ => ?_
  subst eo e4
  have I5 : Inv X pins σ H4 { s4 with heap := s4.heap.push { cls := .type "slice", data := .fields #[.none, .none, vs] } } := I4.kept (t' := s4.toks) fun b ob q => Heap.get?_push_of_some _ q
  obtain ⟨its, r, ht, hz⟩ := I5.tuple hx
  have hlen := r.length
  show wpAny (model X.prog X.w) X.A (subscriptTail e (.Slice none none (some (.UnaryOp .USub (.Constant (.int 1) k p1) p2)) p3) (.ref a) (.ref s4.heap.objs.size)) (EP X pins σ Q) X.xe { s4 with heap := s4.heap.push { cls := .type "slice", data := .fields #[.none, .none, vs] } }
  refine tail_any (ops := [.ref a, .ref s4.heap.objs.size]) ht.typeIs (PyProof.Rows.slot_tuple_getitem.lookup) ?_ (by with_unfolding_all rfl)
  refine getItem_tuple_rev ht (Heap.IsSliceOf.new _ .none .none vs) ps ?_ (by rw [List.size_toArray]; omega)
  refine ⟨.ref _, _, I5.laid (t' := s4.toks) (o := .tup xs.reverse) (fun b ob q => Heap.get?_push_of_some _ q) (Nat.le_refl _) ?_, rfl, q _ (I5.hok.fresh (Nat.le_refl _))⟩
  exact ⟨by rw [List.length_reverse]; exact hz, _, r.reverse, _, Heap.get?_push_size _ rfl, rfl, _, rfl⟩
end
/-- zip of two tuples of one length -/
theorem walk_zipT {K : PySem.W.Frag} {a b : Addr} {xs ys : List V} {n : Nat} (h1 : xs.length = n) (h2 : n ≤ ys.length) : Walk (RZ.ItzT K a b) n (fun H => SqT K H a xs ∧ SqT K H b ys) (YPair (fun i => xs[i]?) (fun i => ys[i]?)) :=
  ⟨fun i _ hi q => ⟨xs, ys, xs[i]'(by omega), ys[i]'(by omega), q.1, q.2, List.getElem?_eq_getElem _, List.getElem?_eq_getElem _⟩, fun _ q => ⟨xs, ys, q.1, q.2, .inl (by omega)⟩, fun _ _ _ _ _ q ⟨T, x, y, e, hT, eH, hx, hy⟩ => ⟨T, x, y, e, hT, eH, hx xs q.1, hy ys q.2⟩⟩
end OF
namespace K31
open PySem PySem.Spec PyProof.Rows L2 OF
def topS (i : Nat) : Stmt := PySem.Challenge.pw_oddfigures_k31_forms_made.main.body.getD i (.Pass ⟨0, 0, 0, 0⟩)
abbrev sWhole : Stmt := topS 19
abbrev sIsInt : Stmt := topS 20
abbrev sIsBase : Stmt := topS 21
abbrev sIsDigit : Stmt := topS 22
abbrev sAre : Stmt := topS 23
abbrev sRowText : Stmt := topS 24
abbrev sRead : Stmt := topS 25
abbrev sOneOf : Stmt := topS 52
abbrev sIsPair : Stmt := topS 53
abbrev sDigList : Stmt := topS 54
abbrev sDiffDig : Stmt := topS 55
abbrev sDiffPair : Stmt := topS 56
abbrev sInit : Stmt := inClass (topS 58) 0
abbrev sAllows : Stmt := inClass (topS 58) 9
section
variable {P : Program} {w : World} {K : PySem.W.Frag} {mg : Str → Option Value} {base : Heap}

/-- is_whole -/
def spWhole : Sp := fun vs H Q _ => ∃ x : V, vs = [x] ∧ ((∃ n : Int, x = .int n ∧ Q (.bl true) H) ∨ (Odd H x ∧ Q (.bl false) H))
theorem scWh : FnScope ["value"] ["value"] (defScope sWhole) := ⟨rfl, rfl, rfl, by decide +kernel, rfl, by decide +kernel, by decide +kernel⟩
theorem ok_whole {f : Addr} {fd : FuncData} (F : Fun K "is_whole" "is_whole" sWhole f fd) (ms : mg "isinstance" = none) (mi : mg "int" = none) (mb : mg "bool" = none) : FnOk P w K mg base CX0 1 f fd ["value"] spWhole := by
  refine F.ok scWh (fun vs H Q E h => ?_) (fun cdv A outer s H vs Q E hr h => ?_)
  · obtain ⟨x, rfl, _⟩ := h
    rfl
  · obtain ⟨x, rfl, h⟩ := h
    refine ⟨_, pss_one (ps_ret (pe_and (pe_callB call_isi (by rfl) ms PyProof.Rows.boot_isinstance (pa_cons (pv 0) (pa_cons (pe_bltn (v := .ty "int") (by rfl) mi PyProof.Rows.boot_int rfl) pa_nil)))
      (pe_one (pe_not (pe_callB call_isi (by rfl) ms PyProof.Rows.boot_isinstance (pa_cons (pv 0) (pa_cons (pe_bltn (v := .ty "bool") (by rfl) mb PyProof.Rows.boot_bool rfl) pa_nil))))))), ?_⟩
    rcases h with ⟨n, rfl, q⟩ | ⟨o, q⟩
    · refine ⟨.int n, rfl, .int n, .ty "int", .type "int", .type "int", true, rfl, .ty _, .base (.int n), kit_ty (by decide +kernel), true, rfl, iteT ?_⟩
      exact ⟨.int n, rfl, .int n, .ty "bool", .type "int", .type "bool", false, rfl, .ty _, .base (.int n), kit_ty (by decide +kernel), false, rfl, q⟩
    · obtain ⟨t, b, ty, k1, k2⟩ := o.kit (K := K)
      refine ⟨x, rfl, x, .ty "int", t, .type "int", b, rfl, .ty _, ty, k1, b, rfl, ?_⟩
      cases b with
      | false => exact iteF q
      | true => exact iteT ⟨x, rfl, x, .ty "bool", t, .type "bool", true, rfl, .ty _, ty, k2 rfl, true, rfl, q⟩
/-- is_integer -/
def spIsInt : Sp := fun vs H Q _ => ∃ (x : V) (lo hi : Int), vs = [x, .int lo, .int hi] ∧ ((∃ n : Int, x = .int n ∧ Q (.bl (decide (lo ≤ n) && decide (n ≤ hi))) H) ∨ (Odd H x ∧ Q (.bl false) H))
def spIsDigit : Sp := fun vs H Q _ => ∃ (x : V), vs = [x] ∧ ((∃ n : Int, x = .int n ∧ Q (.bl (decide (-9 ≤ n) && decide (n ≤ 9))) H) ∨ (Odd H x ∧ Q (.bl false) H))
theorem scI : FnScope ["value", "low", "high"] ["value", "low", "high"] (defScope sIsInt) := ⟨rfl, rfl, rfl, by decide +kernel, rfl, by decide +kernel, by decide +kernel⟩
theorem ok_isint {f fW : Addr} {fd fdW : FuncData} (F : Fun K "is_integer" "is_integer" sIsInt f fd) (GW : FnOk P w K mg base CX0 1 fW fdW ["value"] spWhole) (gW : mg "is_whole" = some (.ref fW)) (kW : PySem.W.keepIn K (.ref fW) = true) (bW : Binds K fdW ["value"] []) : FnOk P w K mg base CX0 2 f fd ["value", "low", "high"] spIsInt := by
  refine F.ok scI (fun vs H Q E h => ?_) (fun cdv A outer s H vs Q E hr h => ?_)
  · obtain ⟨x, lo, hi, rfl, _⟩ := h
    rfl
  · obtain ⟨x, lo, hi, rfl, h⟩ := h
    refine ⟨_, pss_one (ps_ret (pe_and (pe_call GW hr (by rfl) gW kW bW .nil pass0 (pa_cons (pv 0) pa_nil)) (pe_one (pe_chain op_le op_le (pv 1) (pv 0) (pv 2))))), ?_⟩
    rcases h with ⟨n, rfl, q⟩ | ⟨o, q⟩
    · exact ⟨.int n, rfl, .int n, rfl, .inl ⟨n, rfl, true, rfl, iteT ⟨.int lo, rfl, .int n, rfl, lo, n, rfl, rfl, _, rfl, iteAnd (fun z => ⟨.int hi, rfl, n, hi, rfl, rfl, z⟩) q⟩⟩⟩
    · exact ⟨x, rfl, x, rfl, .inr ⟨o, false, rfl, iteF q⟩⟩
def isBase (n : Int) : Bool := (decide (2 ≤ n) && decide (n ≤ 6)) || (decide (-6 ≤ n) && decide (n ≤ -2))
def spIsBase : Sp := fun vs H Q _ => ∃ (x : V), vs = [x] ∧ ((∃ n : Int, x = .int n ∧ Q (.bl (isBase n)) H) ∨ (Odd H x ∧ Q (.bl false) H))
theorem scIB : FnScope ["value"] ["value"] (defScope sIsBase) := ⟨rfl, rfl, rfl, by decide +kernel, rfl, by decide +kernel, by decide +kernel⟩
theorem ok_isbase {f fI : Addr} {fd fdI : FuncData} {t : Tok} (F : Fun K "is_base" "is_base" sIsBase f fd) (GI : FnOk P w K mg base CX0 2 fI fdI ["value", "low", "high"] spIsInt) (gI : mg "is_integer" = some (.ref fI)) (kI : PySem.W.keepIn K (.ref fI) = true) (bI : Binds K fdI ["value", "low", "high"] [])
    (gG : mg "GREATEST_BASE" = some (.int 6 t)) : FnOk P w K mg base CX0 3 f fd ["value"] spIsBase := by
  refine F.ok scIB (fun vs H Q E h => ?_) (fun cdv A outer s H vs Q E hr h => ?_)
  · obtain ⟨x, rfl, _⟩ := h
    rfl
  · obtain ⟨x, rfl, h⟩ := h
    refine ⟨_, pss_one (ps_ret (pe_or (pe_call GI hr (by rfl) gI kI bI .nil pass0 (pa_cons (pv 0) (pa_cons pe_int (pa_cons (pe_glob (v := .int 6) rfl gG ⟨_, rfl⟩) pa_nil))))
      (pe_one (pe_call GI hr (by rfl) gI kI bI .nil pass0 (pa_cons (pv 0) (pa_cons (pe_un un_neg (pe_glob (v := .int 6) rfl gG ⟨_, rfl⟩)) (pa_cons (pe_un un_neg pe_int) pa_nil))))))), ?_⟩
    rcases h with ⟨n, rfl, q⟩ | ⟨o, q⟩
    · exact ⟨.int n, rfl, _, 2, 6, rfl, .inl ⟨n, rfl, _, rfl, iteOr (fun z => ⟨.int n, rfl, 6, rfl, 2, rfl, _, -6, -2, rfl, .inl ⟨n, rfl, z⟩⟩) q⟩⟩
    · exact ⟨x, rfl, _, 2, 6, rfl, .inr ⟨o, _, rfl, iteF ⟨x, rfl, 6, rfl, 2, rfl, _, -6, -2, rfl, .inr ⟨o, q⟩⟩⟩⟩
theorem scID : FnScope ["value"] ["value"] (defScope sIsDigit) := ⟨rfl, rfl, rfl, by decide +kernel, rfl, by decide +kernel, by decide +kernel⟩
theorem ok_isdigit {f fI : Addr} {fd fdI : FuncData} {t : Tok} (F : Fun K "is_digit" "is_digit" sIsDigit f fd) (GI : FnOk P w K mg base CX0 2 fI fdI ["value", "low", "high"] spIsInt) (gI : mg "is_integer" = some (.ref fI)) (kI : PySem.W.keepIn K (.ref fI) = true) (bI : Binds K fdI ["value", "low", "high"] [])
    (gG : mg "GREATEST_DIGIT" = some (.int 9 t)) : FnOk P w K mg base CX0 3 f fd ["value"] spIsDigit := by
  refine F.ok scID (fun vs H Q E h => ?_) (fun cdv A outer s H vs Q E hr h => ?_)
  · obtain ⟨x, rfl, _⟩ := h
    rfl
  · obtain ⟨x, rfl, h⟩ := h
    refine ⟨_, pss_one (ps_ret (pe_call GI hr (by rfl) gI kI bI .nil pass0 (pa_cons (pv 0) (pa_cons (pe_un un_neg (pe_glob (v := .int 9) rfl gG ⟨_, rfl⟩)) (pa_cons (pe_glob (v := .int 9) rfl gG ⟨_, rfl⟩) pa_nil))))), ?_⟩
    rcases h with ⟨n, rfl, q⟩ | ⟨o, q⟩
    · exact ⟨.int n, rfl, 9, rfl, _, -9, 9, rfl, .inl ⟨n, rfl, q⟩⟩
    · exact ⟨x, rfl, 9, rfl, _, -9, 9, rfl, .inr ⟨o, q⟩⟩
/-- a digit -/
def dig (n : Int) : Bool := decide (-9 ≤ n) && decide (n ≤ 9)
theorem same_seqT {K : PySem.W.Frag} {H H' : Hp} {a : Addr} {xs : List V} (s : Same H H') (h : SqT K H a xs) : SqT K H' a xs := by
  rcases h with (h | ⟨o, h⟩) | h
  · exact .inl (.inl (s _ _ h))
  · exact .inl (.inr ⟨o, s _ _ h⟩)
  · exact .inr h

/-! ### values of any kind -/
def ItemOk (H : Hp) (x : V) : Prop := (∃ n : Int, x = .int n) ∨ Odd H x
theorem ItemOk.same {H H' : Hp} {x : V} (h : ItemOk H x) (s : Same H H') : ItemOk H' x := h.imp id fun o => o.same s
def digV : V → Bool
  | .int n => dig n
  | _ => false
theorem digV_odd {H : Hp} {x : V} (o : Odd H x) : digV x = false := by cases o <;> rfl
/-- no list, no tuple -/
inductive NoSeq (H : Hp) : V → Prop
  | int (n : Int) : NoSeq H (.int n)
  | non : NoSeq H .non
  | bl (b : Bool) : NoSeq H (.bl b)
  | str (z : Str) : NoSeq H (.str z)
  | dK {a : Addr} {kvs : List (Key × V)} (e : H a = some (.dK kvs)) : NoSeq H (.ref a)
theorem NoSeq.same {H H' : Hp} {x : V} (h : NoSeq H x) (s : Same H H') : NoSeq H' x := by
  cases h with
  | int n => exact .int n
  | non => exact .non
  | bl b => exact .bl b
  | str z => exact .str z
  | dK e => exact .dK (s _ _ e)
theorem NoSeq.kit {K : PySem.W.Frag} {H : Hp} {x : V} (h : NoSeq H x) : ∃ t, TyX K H x t ∧ PySem.W.kitAny K t [.type "list", .type "tuple"] = some false := by
  have go : ∀ a : String, kitB a "list" = some false → kitB a "tuple" = some false → PySem.W.kitAny K (.type a) [.type "list", .type "tuple"] = some false := fun a h1 h2 =>
    kitAny_cons (b := false) (kit_ty h1) (fun _ => kitAny_cons (b := false) (kit_ty h2) (fun _ => kitAny_nil) fun z => nomatch z) fun z => nomatch z
  cases h with
  | int n => exact ⟨_, .base (.int n), go "int" (by decide +kernel) (by decide +kernel)⟩
  | non => exact ⟨_, .base .non, go "NoneType" (by decide +kernel) (by decide +kernel)⟩
  | bl b => exact ⟨_, .base (.bl b), go "bool" (by decide +kernel) (by decide +kernel)⟩
  | str z => exact ⟨_, .base (.str z), go "str" (by decide +kernel) (by decide +kernel)⟩
  | dK e => exact ⟨_, .base (.dK e), go "dict" (by decide +kernel) (by decide +kernel)⟩
/-- a list or tuple, a tuple that the text has written too -/
inductive IsSeq (K : PySem.W.Frag) (H : Hp) (p : Addr) (xs : List V) : Prop
  | lst (e : H p = some (.lst xs)) : IsSeq K H p xs
  | tup (e : H p = some (.tup xs)) : IsSeq K H p xs
  | kt {o : Obj} (e : K.lookup p = some o) (c : o.cls = .type "tuple") (h : SqT K H p xs) : IsSeq K H p xs
theorem IsSeq.same {K : PySem.W.Frag} {H H' : Hp} {p : Addr} {xs : List V} (h : IsSeq K H p xs) (s : Same H H') : IsSeq K H' p xs := by
  cases h with
  | lst e => exact .lst (s _ _ e)
  | tup e => exact .tup (s _ _ e)
  | kt e c h => exact .kt e c (same_seqT s h)
theorem IsSeq.sq {K : PySem.W.Frag} {H : Hp} {p : Addr} {xs : List V} (h : IsSeq K H p xs) : SqL K H p xs ∨ SqT K H p xs := by
  cases h with
  | lst e => exact .inl (SqL.of e)
  | tup e => exact .inr (SqT.of e)
  | kt e c h => exact .inr h
theorem IsSeq.lt {K : PySem.W.Frag} {H : Hp} {p : Addr} {xs : List V} (h : IsSeq K H p xs) : ∃ t, TyX K H (.ref p) t ∧ PySem.W.kitAny K t [.type "list", .type "tuple"] = some true := by
  have tu : PySem.W.kitAny K (.type "tuple") [.type "list", .type "tuple"] = some true := kitAny_cons (b := false) (kit_ty (by decide +kernel)) (fun _ => kitAny_cons (b := true) (kit_ty (by decide +kernel)) (fun z => nomatch z) fun _ => rfl) fun z => nomatch z
  cases h with
  | lst e => exact ⟨_, .base (.lst e), kitAny_cons (b := true) (kit_ty (by decide +kernel)) (fun z => nomatch z) fun _ => rfl⟩
  | tup e => exact ⟨_, .base (.tup e), tu⟩
  | kt e c h => exact ⟨_, .kTuple e c, tu⟩
/-- are_digits of a list or tuple of any items -/
def spAre (K : PySem.W.Frag) : Sp := fun vs H Q _ => ∃ (p : Addr) (xs : List V), vs = [.ref p] ∧ (SqL K H p xs ∨ SqT K H p xs) ∧ (∀ x ∈ xs, ItemOk H x) ∧ xs.length ≤ 1000 ∧ ∀ H', Same H H' → Q (.bl (xs.all digV)) H'
theorem scAr : FnScope ["items", "item"] ["items"] (defScope sAre) := ⟨rfl, rfl, rfl, by decide +kernel, rfl, by decide +kernel, by decide +kernel⟩
theorem ok_are {f fD : Addr} {fd fdD : FuncData} (F : Fun K "are_digits" "are_digits" sAre f fd) (GD : FnOk P w K mg base CX0 3 fD fdD ["value"] spIsDigit) (gD : mg "is_digit" = some (.ref fD)) (kD : PySem.W.keepIn K (.ref fD) = true) (bD : Binds K fdD ["value"] [])
    (mall : mg "all" = none) : FnOk P w K mg base CX0 4 f fd ["items"] (spAre K) := by
  refine F.ok scAr (fun vs H Q E h => ?_) (fun cdv A outer s H vs Q E hr h => ?_)
  · obtain ⟨p, xs, rfl, _⟩ := h
    rfl
  · obtain ⟨p, xs, rfl, hp, it, hl, q⟩ := h
    have turn : ∀ (i : Nat) (x : V) (H' : Hp) (D : Addr), H D = none → xs[i]? = some x → (Same H H' ∧ H' D = some (.lst ((xs.take i).map fun x => V.bl (digV x)))) →
        tCall spIsDigit [] E0 (tCons (tVar 1) tNil) [some (.ref p), some x] H' (fun v H2 => ∃ acc, H2 D = some (.lst acc) ∧ acc.length < sizeLine ∧ (Same H (upd H2 D (.lst (acc ++ [v]))) ∧ (upd H2 D (.lst (acc ++ [v]))) D = some (.lst ((xs.take (i + 1)).map fun x => V.bl (digV x))))) := by
      intro i x H' D hD hx ⟨s1, e1⟩
      have fin : ∃ acc, H' D = some (.lst acc) ∧ acc.length < sizeLine ∧ (Same H (upd H' D (.lst (acc ++ [.bl (digV x)]))) ∧ (upd H' D (.lst (acc ++ [.bl (digV x)]))) D = some (.lst ((xs.take (i + 1)).map fun x => V.bl (digV x)))) := by
        refine ⟨_, e1, ?_, Same.store s1 hD, ?_⟩
        · rw [List.length_map]
          exact Nat.lt_of_le_of_lt (List.length_take_le' _ _) (small1000 hl)
        · rw [upd_same, take_more hx, List.map_append]
          rfl
      rcases it x (List.mem_of_getElem? hx) with ⟨n, rfl⟩ | o
      · exact ⟨.int n, rfl, .int n, rfl, .inl ⟨n, rfl, fin⟩⟩
      · rw [digV_odd o] at fin
        exact ⟨x, rfl, x, rfl, .inr ⟨o.same s1, fin⟩⟩
    have done : ∀ (D : Addr) (H' : Hp), H' D = some (.lst ((xs.take xs.length).map fun x => V.bl (digV x))) → H' D = some (.lst ((xs.map digV).map V.bl)) ∧ (xs.map digV).all id = xs.all digV := by
      intro D H' e
      rw [List.take_length] at e
      refine ⟨by rw [e, List.map_map]; rfl, ?_⟩
      rw [List.all_map]
      rfl
    rcases hp with hp | hp
    · refine ⟨_, pss_one (ps_ret (pe_callB (cr_all rfl) (by rfl) mall (by decide +kernel) (pa_cons (pe_lc (own := [("item", 1)]) (g := gName 1) (tt := tYes) (te := tCall spIsDigit [] E0 (tCons (tVar 1) tNil)) rfl scAr.nd (pi_list (pv 0))
            (blkOk_by (own := [("item", 1)]) (N := ["items", "item"]) (sc := defScope sAre) (by decide +kernel)) (fun _ _ _ _ _ => pg_name (i := 1) scAr.nd rfl (Or.inl rfl)) (fun _ _ _ _ _ => pts_nil)
            (fun _ _ _ _ _ => by exact (pe_call GD hr (by rfl) gD kD bD .nil pass0 (pa_cons (pv 1) pa_nil)))) pa_nil))), ?_⟩
      refine ⟨.ref p, rfl, p, rfl, ⟨_, hp⟩, fun D hD => ?_⟩
      refine lc_list (K := K) (a := p) (xs := xs) (fun i H' => Same H H' ∧ H' D = some (.lst ((xs.take i).map fun x => V.bl (digV x)))) ⟨same_new hD, upd_same⟩ (fun i H' _ h => h.1.seq hp) ?_ ?_
      · rintro i x H' hx h
        exact ⟨rfl, tYes_if (turn i x H' D hD hx h)⟩
      · rintro H' ⟨s1, e1⟩
        obtain ⟨e2, e3⟩ := done D H' e1
        exact ⟨D, xs.map digV, rfl, SqL.of e2, by rw [e3]; exact q H' s1⟩
    · refine ⟨_, pss_one (ps_ret (pe_callB (cr_all rfl) (by rfl) mall (by decide +kernel) (pa_cons (pe_lc (own := [("item", 1)]) (g := gName 1) (tt := tYes) (te := tCall spIsDigit [] E0 (tCons (tVar 1) tNil)) rfl scAr.nd (pi_tup (pv 0))
            (blkOk_by (own := [("item", 1)]) (N := ["items", "item"]) (sc := defScope sAre) (by decide +kernel)) (fun _ _ _ _ _ => pg_name (i := 1) scAr.nd rfl (Or.inl rfl)) (fun _ _ _ _ _ => pts_nil)
            (fun _ _ _ _ _ => by exact (pe_call GD hr (by rfl) gD kD bD .nil pass0 (pa_cons (pv 1) pa_nil)))) pa_nil))), ?_⟩
      refine ⟨.ref p, rfl, p, rfl, ⟨_, hp⟩, fun D hD => ?_⟩
      refine lc_tup (K := K) (a := p) (xs := xs) (fun i H' => Same H H' ∧ H' D = some (.lst ((xs.take i).map fun x => V.bl (digV x)))) ⟨same_new hD, upd_same⟩ (fun i H' _ h => same_seqT h.1 hp) ?_ ?_
      · rintro i x H' hx h
        exact ⟨rfl, tYes_if (turn i x H' D hD hx h)⟩
      · rintro H' ⟨s1, e1⟩
        obtain ⟨e2, e3⟩ := done D H' e1
        exact ⟨D, xs.map digV, rfl, SqL.of e2, by rw [e3]; exact q H' s1⟩

/-- _is_digit_list of any value -/
def spDigList (K : PySem.W.Frag) : Sp := fun vs H Q _ => ∃ x : V, vs = [x] ∧ ((NoSeq H x ∧ ∀ H', Same H H' → Q (.bl false) H') ∨ ∃ (p : Addr) (xs : List V), x = .ref p ∧ IsSeq K H p xs ∧ (∀ y ∈ xs, ItemOk H y) ∧ xs.length ≤ 1000 ∧ ∀ H', Same H H' → Q (.bl (xs.all digV)) H')
theorem scDl : FnScope ["value"] ["value"] (defScope sDigList) := ⟨rfl, rfl, rfl, by decide +kernel, rfl, by decide +kernel, by decide +kernel⟩
theorem ok_diglist {f fA : Addr} {fd fdA : FuncData} (F : Fun K "_is_digit_list" "_is_digit_list" sDigList f fd) (GA : FnOk P w K mg base CX0 4 fA fdA ["items"] (spAre K)) (gA : mg "are_digits" = some (.ref fA)) (kA : PySem.W.keepIn K (.ref fA) = true) (bA : Binds K fdA ["items"] [])
    (mis : mg "isinstance" = none) (ml : mg "list" = none) (mt : mg "tuple" = none) : FnOk P w K mg base CX0 5 f fd ["value"] (spDigList K) := by
  refine F.ok scDl (fun vs H Q E h => ?_) (fun cdv A outer s H vs Q E hr h => ?_)
  · obtain ⟨x, rfl, _⟩ := h
    rfl
  · obtain ⟨x, rfl, h⟩ := h
    refine ⟨_, pss_one (ps_ret (pe_and (pe_callB call_isiT (by rfl) mis PyProof.Rows.boot_isinstance (pa_cons (pv 0) (pa_cons (pe_tup (pa_cons (pe_bltn (v := .ty "list") (by rfl) ml PyProof.Rows.boot_list rfl) (pa_cons (pe_bltn (v := .ty "tuple") (by rfl) mt (by decide +kernel) rfl) pa_nil))) pa_nil)))
      (pe_one (pe_call GA hr (by rfl) gA kA bA .nil pass0 (pa_cons (pv 0) pa_nil))))), ?_⟩
    refine ⟨x, rfl, (by show 2 ≤ sizeLine; decide), fun T hT => ?_⟩
    have s1 := same_new (o := .tup [.ty "list", .ty "tuple"]) hT
    rcases h with ⟨no, q⟩ | ⟨p, xs, rfl, hp, it, hl, q⟩
    · obtain ⟨t, ty, k⟩ := (no.same s1).kit (K := K)
      exact ⟨x, T, _, t, _, false, rfl, upd_same, .cons (.ty _) (.cons (.ty _) .nil), ty, k, false, rfl, iteF (q _ s1)⟩
    · obtain ⟨t, ty, k⟩ := (hp.same s1).lt (K := K)
      exact ⟨.ref p, T, _, t, _, true, rfl, upd_same, .cons (.ty _) (.cons (.ty _) .nil), ty, k, true, rfl, iteT ⟨.ref p, rfl, p, xs, rfl, (hp.same s1).sq, (fun y hy => (it y hy).same s1), hl, fun H' s2 => q H' (s1.trans s2)⟩⟩
theorem all_ints {xs : List V} (h : xs.all digV = true) : ∃ ns : List Int, xs = ns.map V.int ∧ ns.all dig = true := by
  induction xs with
  | nil => exact ⟨[], rfl, rfl⟩
  | cons x l ih =>
    rw [List.all_cons, Bool.and_eq_true] at h
    obtain ⟨ns, rfl, h2⟩ := ih h.2
    cases x with
    | int n => exact ⟨n :: ns, rfl, by rw [List.all_cons, h2, Bool.and_true]; exact h.1⟩
    | _ => exact absurd (show false = true from h.1) Bool.false_ne_true
/-- _different_digits of any value -/
def spDiffDig (K : PySem.W.Frag) (C : Addr) : Sp := fun vs H Q E => ∃ x : V, vs = [x] ∧ ((NoSeq H x ∧ Raised C "value" x H E) ∨ ∃ (p : Addr) (xs : List V), x = .ref p ∧ IsSeq K H p xs ∧ (∀ y ∈ xs, ItemOk H y) ∧ xs.length ≤ 60 ∧ (xs.all digV = false → Raised C "value" x H E) ∧
  ∀ ns : List Int, xs = ns.map V.int → ns.all dig = true → ∃ six : Bool, (∀ ks : List Int, ks.Nodup → (∀ k, k ∈ ks ↔ k ∈ ns) → (decide (1 ≤ ks.length) && decide (ks.length ≤ 6)) = six) ∧ (six = false → Raised C "value" x H E) ∧
    (six = true → ∀ (ds : List Int) (t : Addr) (H' : Hp), ds.Pairwise (· < ·) → (∀ k, k ∈ ds ↔ k ∈ ns) → Same H H' → H t = none → H' t = some (.tup (ds.map V.int)) → Q (.ref t) H'))
theorem scDd : FnScope ["digits"] ["digits"] (defScope sDiffDig) := ⟨rfl, rfl, rfl, by decide +kernel, rfl, by decide +kernel, by decide +kernel⟩
theorem ok_diffdig {f fL fI C : Addr} {fd fdL fdI : FuncData} {t6 : Tok} (F : Fun K "_different_digits" "_different_digits" sDiffDig f fd) (GL : FnOk P w K mg base CX0 5 fL fdL ["value"] (spDigList K)) (gL : mg "_is_digit_list" = some (.ref fL)) (kL : PySem.W.keepIn K (.ref fL) = true) (bL : Binds K fdL ["value"] [])
    (GI : FnOk P w K mg base CX0 3 fI fdI ["self", "value"] (spInit K "value" C)) (T : ErrC K mg "InvalidDigits" "value" C fI) (bI : Binds K fdI ["self", "value"] [])
    (g6 : mg "MOST_DIGITS" = some (.int 6 t6)) (ml : mg "len" = none) (ms : mg "set" = none) (mso : mg "sorted" = none) (mt : mg "tuple" = none) : FnOk P w K mg base (L2.CX P w) 6 f fd ["digits"] (spDiffDig K C) := by
  refine F.okX scDd (fun vs H Q E h => ?_) (fun cdv A outer s H vs Q E hr h => ?_)
  · obtain ⟨x, rfl, _⟩ := h
    rfl
  · obtain ⟨x, rfl, h⟩ := h
    have hr3 : Room 4 _ := hr.mono (by decide)
    apply Exists.intro
    apply And.intro
    · apply pss_cons
      · exact ps_if (PW.pt (pw_or (pt_not (pt_val (pe_call GL hr (by rfl) gL kL bL .nil pass0 (pa_cons (pv 0) pa_nil))))
            (pw_or1 (pt_not (pt_chain op_le op_le pe_int (pe_callB call_lenSetO (by rfl) ml PySem.boot_len (pa_cons (pe_callTy (cr_setI rfl) (by rfl) ms PyProof.Rows.boot_set (pa_cons (pv 0) pa_nil)) pa_nil)) (pe_glob (v := .int 6) (by rfl) g6 ⟨_, rfl⟩))))))
          (pss_one (ps_raise rfl (takes_of rfl rfl rfl rfl) (pmk_oex T.ox T.iC T.tI GI hr3 bI .nil pass0 (by rfl) T.g (pa_cons (pv 0) pa_nil)))) pss_nil
      apply pss_one
      · exact ps_ret (pe_callTy call_tuple_of (by rfl) mt (by decide +kernel) (pa_cons (pe_callB (cr_sortedSet rfl) (by rfl) mso (by decide +kernel) (pa_cons (pe_callTy (cr_setI rfl) (by rfl) ms PyProof.Rows.boot_set (pa_cons (pv 0) pa_nil)) pa_nil)) pa_nil))
    have raise : ∀ {H1 : Hp}, Raised C "value" x H E → Same H H1 → _ := fun {H1} hE s1 => raised_ok (K := K) (σ := start ["digits"] [x]) (D := { nx := fun _ H' => Q .non H', rt := Q }) hE s1
    rcases h with ⟨no, hE⟩ | ⟨p, xs, rfl, hp, it, hl, hE, hq⟩
    · exact ⟨x, rfl, x, rfl, .inl ⟨no, fun H1 s1 => ⟨false, rfl, iteT ⟨x, rfl, raise hE s1⟩⟩⟩⟩
    · refine ⟨.ref p, rfl, .ref p, rfl, .inr ⟨p, xs, rfl, hp, it, by omega, fun H1 s1 => ?_⟩⟩
      cases hd : xs.all digV with
      | false => exact ⟨false, rfl, iteT ⟨.ref p, rfl, raise (hE hd) s1⟩⟩
      | true =>
        obtain ⟨ns, rfl, hn⟩ := all_ints hd
        obtain ⟨six, h6, hE6, q⟩ := hq ns rfl hn
        rw [List.length_map] at hl
        refine ⟨true, rfl, iteF ?_⟩
        refine ⟨.ref p, rfl, p, ns, rfl, (hp.same s1).sq, hl, fun S1 ks hS1 nd mem => ?_⟩
        have h66 := h6 ks nd mem
        have s2 : Same H (upd H1 S1 (SetO w S1 (fun j => decide (j ∈ ns)) ks.length)) := s1.trans (same_new hS1)
        refine ⟨S1, _, ks.length, rfl, upd_same, 1, (ks.length : Int), rfl, rfl, _, rfl, ?_⟩
        have e1 : decide ((1 : Int) ≤ (ks.length : Int)) = decide (1 ≤ ks.length) := by
          rw [decide_eq_decide]
          omega
        have e6 : decide ((ks.length : Int) ≤ 6) = decide (ks.length ≤ 6) := by
          rw [decide_eq_decide]
          omega
        cases six with
        | false =>
          cases h1 : decide ((1 : Int) ≤ (ks.length : Int)) with
          | false => exact iteFB rfl ⟨_, rfl, iteTB rfl ⟨.ref p, rfl, raise (hE6 rfl) s2⟩⟩
          | true =>
            refine iteTB rfl ⟨(ks.length : Int), 6, rfl, rfl, _, rfl, ?_⟩
            rw [← e1, h1, Bool.true_and, ← e6] at h66
            exact iteTB (by rw [h66]; rfl) ⟨.ref p, rfl, raise (hE6 rfl) s2⟩
        | true =>
          rw [← e1, ← e6, Bool.and_eq_true] at h66
          refine iteTB h66.1 ⟨(ks.length : Int), 6, rfl, rfl, _, rfl, iteFB (by rw [h66.2]; rfl) ?_⟩
          refine ⟨.ref p, rfl, p, ns, rfl, (hp.same s2).sq, hl, fun S2 ks2 hS2 nd2 mem2 => ?_⟩
          have k66 := h6 ks2 nd2 mem2
          rw [Bool.and_eq_true, decide_eq_true_eq, decide_eq_true_eq] at k66
          refine ⟨S2, _, _, rfl, upd_same, by omega, fun ds D asc mds lds hD => ?_⟩
          have s3 : Same H (upd (upd (upd H1 S1 (SetO w S1 (fun j => decide (j ∈ ns)) ks.length)) S2 (SetO w S2 (fun j => decide (j ∈ ns)) ks2.length)) D (.lst (ds.map V.int))) := s2.trans ((same_new hS2).trans (same_new hD))
          refine ⟨D, _, rfl, .inl ⟨SqL.of upd_same, fun t ht => ?_⟩⟩
          exact q rfl ds t _ asc (fun k => (mds k).trans ⟨fun z => of_decide_eq_true z, fun z => decide_eq_true z⟩) (Same.store s3 (s3.free ht)) (s3.free ht) upd_same
end
end K31
set_option maxHeartbeats 4000000
/-! set(xs) of a tuple of tuples of ints. -/
namespace OF
open PySem PySem.Spec PyProof.Rows L2
section
variable {P : Program} {w : World} {A : Around} {E : Value → Shared → Prop}
theorem set_of_tuple2 {h : Heap} {g : Array GenState} {d : Drawn} {t : Nat} {os : OsState} {l : Addr} {xs : Array Value} (ks : List (Addr × List Int)) {Q : Value → Shared → Prop} (calm : A.handled = none) (tpl : h.IsTuple l xs)
    (refs : xs.toList = ks.map fun p => Value.ref p.1) (each : ∀ p ∈ ks, IsT P w h p.2 p.1) (few : ks.length < 64) (room : A.units + 3 < cLine)
    (fin : ∀ (h' : Heap) (tk : Nat) L es ep t', SetTR P w h' h.objs.size L es ep t' → Got ks ks.length L → (∀ b o, h.get? b = some o → h'.get? b = some o) → Q (.ref h.objs.size) ⟨h', g, d, tk, os⟩) :
    wpAny (model P w) A (call (.type "set") [.ref l]) Q E ⟨h, g, d, t, os⟩ := by
  have size : xs.size = ks.length := by
    rw [← Array.length_toList, refs, List.length_map]
  obtain ⟨c, tl, hmro⟩ := F.called_set.mro
  have f1 := F.called_set.made
  have f2 := F.called_set.sub
  have f3 := F.called_set.notType
  have f4 := F.called_set.canCreate
  have f5 := F.typeCall_set_1 (.ref l)
  apply wpAny_call
  apply codeAny_of_tree
  show wpAny _ _ (callAny (.type "set") _) _ _ _
  apply wpAny_pure
  refine ⟨Code.quiet_builtin _ (by decide +kernel), codeAny_builtin F.entry_type_call ?_⟩
  rw [Around.under_plain (weight_type_call_type "set" [.ref l] []) rfl]
  repeat any_goals first
    | assumption
    | wp_step
  refine codeAny_mono (code_set_led1 (s := ⟨h, g, d, t, os⟩) (.ref l) (E := E) (Q₁ := fun v s1 => v = .ref h.objs.size ∧ s1 = ⟨h.push (setObj0 w), g, d, t, os⟩) ⟨rfl, rfl⟩) ?_
  intro r s1 z
  cases r with
  | error e => exact z
  | ok fl =>
    cases fl with
    | next => exact z.elim
    | brk => exact z.elim
    | cont => exact z.elim
    | ret v =>
      obtain ⟨ev, es⟩ := z
      subst ev es
      have there : (h.push (setObj0 w)).get? h.objs.size = some (setObj0 w) := Heap.get?_push_size _ rfl
      have isSet : Shared.TypeIs ⟨h.push (setObj0 w), g, d, t, os⟩ (.ref h.objs.size) "set" := ⟨_, there, rfl⟩
      have i1 := F.called_set.init.lookup
      have i2 := F.called_set.init.bind (.ref h.objs.size)
      repeat any_goals first
        | assumption
        | wp_step
      refine codeAny_mono (codeAny_call_builtin (R := wants (fun r s2 => r = .none ∧ ∃ h' tk L es ep t', s2 = ⟨h', g, d, tk, os⟩ ∧ SetTR P w h' h.objs.size L es ep t' ∧ Got ks ks.length L ∧ (∀ b o, h.get? b = some o → h'.get? b = some o)) E)
        F.called_set.init.plain F.entry_set_init (check_set_init_1 isSet ?inner)) ?outer
      case outer =>
        intro r2 s2 z2
        cases r2 with
        | error e => exact z2
        | ok fl2 =>
          cases fl2 with
          | next => exact z2.elim
          | brk => exact z2.elim
          | cont => exact z2.elim
          | ret v2 =>
            obtain ⟨ev, h', tk, L, es, ep, t', e2, hS, hc, hk⟩ := z2
            subst ev e2
            repeat any_goals first
              | assumption
              | wp_step
            exact fin _ _ _ _ _ _ hS hc hk
      case inner =>
        obtain ⟨o1, ho1, hc1, m1, hd1⟩ := tpl
        obtain ⟨k1, k2, k3, k4⟩ := o1
        simp only at hc1 hd1
        subst hc1 hd1
        have there2 : (h.push (setObj0 w)).get? l = some { cls := .type "tuple", dict := k2, data := .seq xs m1, slots := k4 } := Heap.get?_push_of_some _ ho1
        have s1 := F.sub_tuple_set
        have s2 := F.sub_tuple_frozenset
        have apart : (Value.type "tuple" == Value.type "dict") = false := by decide
        have tpl1 : (h.push (setObj0 w)).IsTuple l xs := ⟨_, there2, rfl, m1, rfl⟩
        unfold Builtin.«set.__init__» noKeywords Builtin.Frozenset.updateFrom
        generalize same : pyIter = PI
        wp_walk
        subst same
        apply wpAny_pyIter_tuple tpl1
        apply wpAny_bind
        apply wpAny_runValue
        have below : l < h.objs.size := Heap.lt_size ho1
        have calm3 : A.in1.in1.in1.handled = none := by simp [calm]
        have sz : (h.push (setObj0 w)).objs.size = h.objs.size + 1 := Heap.size_push ..
        have ne1 : l ≠ (h.push (setObj0 w)).objs.size := by
          rw [sz]
          exact Nat.ne_of_lt (Nat.lt_succ_of_lt below)
        have ne2 : h.objs.size ∉ [(h.push (setObj0 w)).objs.size, l] := by
          rw [sz]
          simp only [List.mem_cons, List.not_mem_nil, or_false, not_or]
          exact ⟨Nat.ne_of_lt (Nat.lt_succ_self _), Nat.ne_of_gt below⟩
        have vals : ∀ (i : Nat) (v : Value), xs[i]? = some v → ∃ p, ks[i]? = some p ∧ v = .ref p.1 := by
          intro i v hv
          have e : xs.toList[i]? = some v := by
            rw [Array.getElem?_toList]
            exact hv
          rw [refs, List.getElem?_map] at e
          obtain ⟨p, hp, rfl⟩ := Option.map_eq_some_iff.mp e
          exact ⟨p, hp, rfl⟩
        have nothing : ∀ b, h.objs.size ≤ b → h.get? b = none := by
          intro b hb
          rcases Option.eq_none_or_eq_some (h.get? b) with z | ⟨o, z⟩
          · exact z
          · exact absurd (Nat.lt_of_lt_of_le (Heap.lt_size z) hb) (Nat.lt_irrefl _)
        refine set_update_tups ((Walks.tuple calm3 _ l ne1 xs).toS) h.objs.size ne2 ks size few vals h each (nothing _ (Nat.le_refl _)) (fun b hb => ?_) room (xs.size - 0) 0 _ (by omega) (Nat.zero_le _) ⟨⟨_, Heap.get?_push_size _ rfl, rfl, rfl⟩, (tpl1.push _)⟩ (fun b o e => Heap.get?_push_of_some _ (Heap.get?_push_of_some _ e)) ?start ?stop
        · rw [List.mem_singleton.mp hb, sz]
          exact nothing _ (Nat.le_succ _)
        case start =>
          have got : ((h.push (setObj0 w)).push { cls := .type "tuple_iterator", data := .fields #[.ref l, .int 0 0] }).get? h.objs.size = some (setObj0 w) := Heap.get?_push_of_some _ there
          exact ⟨[], #[], 0, _, setTR_fresh got, Got.zero ks⟩
        case stop =>
          intro s' L es ep t' hm hS hc hk
          obtain ⟨h', g2, d2, tk, os2⟩ := s'
          have eg : g2 = g := hm.gens
          have ed : d2 = d := hm.drawn
          have eo : os2 = os := hm.os
          subst eg ed eo
          show wpAny _ _ _ _ _ _
          apply wpAny_pure
          show wpAny _ _ (ret Value.none) _ _ _
          rw [size] at hc
          exact wpAny_pure ⟨rfl, h', tk, L, es, ep, t', rfl, hS, hc, hk⟩
end
section
variable {X : Cx}
/-- set(xs): xs a list or a tuple of tuples of ints -/
def rSetOfA (K : PySem.W.Frag) (P : Program) (w : World) : List V → Hp → VK → Prop := fun xs H Q => ∃ (l : Addr) (ks : List (Addr × List Int)), xs = [V.ref l] ∧ (SqL K H l (ks.map fun p => V.ref p.1) ∨ SqT K H l (ks.map fun p => V.ref p.1)) ∧ (∀ p ∈ ks, SqT K H p.1 (p.2.map V.int)) ∧ ks.length < 64 ∧
  ∀ a L, H a = none → (∀ p ∈ L, p ∈ ks) → (∀ p ∈ ks, p.2 ∈ L.map (·.2)) → Q (.ref a) (upd H a (SetTO P w a L))
theorem refs_vals : ∀ {ks : List (Addr × List Int)} {us : List Value}, Vals (ks.map fun p => V.ref p.1) us → us = ks.map fun p => Value.ref p.1
  | [], _, .nil => rfl
  | p :: ks, _, .cons r t => by
    cases r
    rw [refs_vals t, List.map_cons]
theorem cr_setOfA (hc : X.calm = true) (hu : X.A.units + 64 < cLine) : CallR X (.type "set") (rSetOfA X.K X.prog X.w) := by
  intro pins s σ H xs us Q I r h
  obtain ⟨l, ks, rfl, hl, hk, few, q⟩ := h
  rcases hl with hl | hl
  · exact cr_setOfT hc hu pins s σ H _ us Q I r ⟨l, ks, rfl, hl, hk, few, q⟩
  · obtain ⟨u, rfl, ru⟩ := vals1 r
    cases ru
    have hn : H s.heap.objs.size = none := I.hok.fresh (Nat.le_refl _)
    obtain ⟨its, rv, pl, _⟩ := I.tuple hl
    have each : ∀ p ∈ ks, IsT X.prog X.w s.heap p.2 p.1 := fun p hp => I.isT (hk p hp)
    have hd := I.ok.hd hc
    have rv2 := refs_vals rv
    obtain ⟨hp, g, d, t, os⟩ := s
    refine set_of_tuple2 ks hd pl (by simpa using rv2) each few (by omega) fun h' tk L es ep t' R gt k => ?_
    refine ⟨.ref hp.objs.size, upd H hp.objs.size (SetTO X.prog X.w hp.objs.size L), I.laid (t' := tk) k (Nat.le_refl _) (setTO_new R.t0), rfl, q _ L hn (fun p hp => ?_) fun p hp => ?_⟩
    · exact List.mem_of_mem_take (gt.sub p hp)
    · exact gt.all p (by rw [List.take_length]; exact hp)
end
end OF
/-! o.m(k = v, ..) by names alone; o.m(e) within a try, m may raise. -/
namespace OF
open PySem PySem.Spec PyProof.Rows L2
section
variable {X : Cx} {CX : CXT} {k n : Nat} {f C : Addr} {fd : FuncData} {ps ks : List Str} {sp : Sp} {E : XK} {m : Str} {p apos pos : Pos} {o e : Expr} {es : List Expr} {kws : List Keyword} {ta : TE} {t tk : TA} {g : List Value → List Value → List Value} {gV : List V → List V → List V}
def tMethN (C : Addr) (m : Str) (j : Nat) (sp : Sp) (gV : List V → List V → List V) (E : XK) (ta : TE) (tk : TA) : TE := fun σ H Q => ta σ H fun x H1 => ∃ a dx fs, x = .ref a ∧ H1 a = some (.ins C dx fs) ∧ fs.lookup m = none ∧
  tk σ H1 fun zs H2 => zs.length = j ∧ sp (gV [x] zs) H2 Q E
theorem pe_methN0 {pl : Sem Bool} (he : PE X o ta) (c : Cls X.K C) (hm : Meth X.K C m f) (F : FnOk X.prog X.w X.K X.mg X.base CX k f fd ps sp) (hr : Room k X.A) (hb : KBn X.K fd ps 1 ks g gV) (hx : Passes CX X E) (hkw : PK X kws tk)
    (hall : (backToKw pos (keywordEach kws X.env)).all (·.1.isSome) = true := by rfl) (hks : (backToKw pos (keywordEach kws X.env)).filterMap (·.1) = ks := by rfl)
    (hpl : ((backTo pos (starEach [] X.env)).any (·.1) || (backToKw pos (keywordEach kws X.env)).any (·.1.isNone)) = false := by rfl)
    (ht : eval (.Call (.Attribute o m apos) [] kws pos) X.env = (do
      let ov ← eval o X.env
      standAt apos.atName
      let (f, first) ← holding [ov] (getMethod ov m pl)
      callWith pos f first (backTo pos (starEach [] X.env)) (backToKw pos (keywordEach kws X.env))) := by rfl) :
    PE X (.Call (.Attribute o m apos) [] kws pos) (tMethN C m ks.length sp gV E ta tk) := by
  refine ⟨fun pins s σ H Q I h => ?_⟩
  refine PySem.W.methodCall_KW (pl := pl) (thn (he.run pins s σ H _ I h) fun u s1 ⟨x, H1, I1, rx, a, dx, fs, ex, ea, l, q⟩ => ?_) ht
  subst ex
  obtain rfl : u = Value.ref a := rx
  refine getmeth_ok I1 ea c hm l ?_
  refine PySem.W.callWith_KW0 (first := [.ref a]) (h₀ := X.base) I.ok.mod.kin hm.kp hall (thn (hkw.run pos pins s1 σ H1 _ I1 q) fun ws s2 ⟨zs, H2, I2, rz, l2, q2⟩ => ⟨I2.kIn, ?_⟩) hpl
  rw [hks]
  exact run_fnN (us := [.ref a]) (vs := [.ref a]) F hr hb hx I2 (.cons rfl .nil) rz rfl l2 q2
def tMethS (C : Addr) (m : Str) (sp : Sp) (E : L2.St → XK) (ta : TE) (t : TA) : TE := fun σ H Q => ta σ H fun x H1 => ∃ a dx fs, x = .ref a ∧ H1 a = some (.ins C dx fs) ∧ fs.lookup m = none ∧
  t σ H1 fun vs H2 => sp (x :: vs) H2 Q (E σ)
theorem pe_methSX {pl : Sem Bool} {E : L2.St → XK} (he : PE X o ta) (c : Cls X.K C) (hm : Meth X.K C m f) (F : FnOk X.prog X.w X.K X.mg X.base CX k f fd ps sp) (hr : Room k X.A) (hb : Binds X.K fd ps []) (hx : ∀ σ, PassesAt CX X σ (E σ)) (ha : PA X (e :: es) t)
    (hst : starEach (e :: es) X.env = (false, eval e X.env) :: starEach es X.env := by rfl) (hpl : (backTo pos (starEach es X.env)).any (·.1) = false := by rfl)
    (ht : eval (.Call (.Attribute o m apos) (e :: es) [] pos) X.env = (do
      let ov ← eval o X.env
      standAt apos.atName
      let (f, first) ← holding [ov] (getMethod ov m pl)
      callWith pos f first (backTo pos (starEach (e :: es) X.env)) (backToKw pos (keywordEach [] X.env))) := by rfl) :
    PE X (.Call (.Attribute o m apos) (e :: es) [] pos) (tMethS C m sp E ta t) := by
  refine ⟨fun pins s σ H Q I h => ?_⟩
  refine PySem.W.methodCall_KW (pl := pl) (thn (he.run pins s σ H _ I h) fun u s1 ⟨x, H1, I1, rx, a, dx, fs, ex, ea, l, q⟩ => ?_) ht
  subst ex
  obtain rfl : u = Value.ref a := rx
  refine getmeth_ok I1 ea c hm l ?_
  refine PySem.W.callWith_K (first := [.ref a]) (h₀ := X.base) I.ok.mod.kin hm.kp (thn (ha.run pos pins s1 σ H1 _ I1 q) fun us s2 ⟨vs, H2, I2, r, q2⟩ => ⟨I2.kIn, ?_⟩) hst hpl
  exact run_fnS (us := .ref a :: us) (vs := .ref a :: vs) F hr hb (hx σ) I2 (.cons rfl r) q2
end
end OF
/-! try: .. with several clauses «except X as n». -/
namespace OF
open PySem PySem.Spec PyProof.Rows L2
/-- behind a clause its name (slot i) is gone -/
def dropE (i : Nat) (D : Ends) : Ends := ⟨fun τ J => D.nx (τ.set i none) J, D.rt, fun τ J => D.bk (τ.set i none) J, fun τ J => D.ct (τ.set i none) J⟩
/-- the clauses: class, the name's slot, the suite's reading -/
abbrev Clauses := List (Value × Nat × (Addr → Value → Option Addr → TS))
def wManyA (K : PySem.W.Frag) (Wout : WX) (D : Ends) : Clauses → WX
  | [] => Wout
  | t :: rest => fun kl d τ J => ∃ b, PySem.W.exmOne K kl t.1 = some b ∧ (b = true → ∀ q, J q = none → t.2.2 q kl d (dropE t.2.1 D) (τ.set t.2.1 (some (.ref q))) J) ∧ (b = false → wManyA K Wout D rest kl d τ J)
inductive HdA (X : Cx) : List ExceptHandler → Clauses → Prop
  | nil : HdA X [] []
  | cons {x m : Str} {c : Value} {i : Nat} {ts : Addr → Value → Option Addr → TS} {first : Stmt} {suite : List Stmt} {p1 p2 : Pos} {more : List ExceptHandler} {l : Clauses} (named : Names X x c) (slot : X.N[i]? = some m) (own : X.env.kindOf m = some .local)
      (run : ∀ (q : Addr) (oe : Obj) (kl : Value) (d : Option Addr) (pn : List (Addr × Obj)), Zc kl d oe → (∃ vs, oe.data = .fields vs) → PSs (X.suite q ((q, oe) :: pn)) (first :: suite) (ts q kl d)) (rest : HdA X more l) :
      HdA X (.ExceptHandler (some (.Name x p1)) (some m) (first :: suite) p2 :: more) ((c, i, ts) :: l)
section
variable {X : Cx} {body : List Stmt} {h0 : ExceptHandler} {more : List ExceptHandler} {l : Clauses} {pos : Pos} {tb : WX → TS} {Wout : WX}
theorem not_frame {a : Addr} {B : Heap} {L : List Env} {h : Heap} {o : Obj} {vs : Array Value} (ff : h.FunFrames B L) (e : h.get? a = some o) (dd : o.data = .fields vs) : a ∉ frs L := by
  intro hm
  obtain ⟨_, o2, e2, no⟩ := ff.mem hm
  rw [e] at e2
  cases e2
  exact no _ dd
theorem ps_try_manyA (hs : X.stack = X.env :: X.outer) (hf : X.env.frame = some X.env.locals) (nd : X.N.Nodup) (tk : Takes X Wout)
    (hb : ∀ (W : WX) (pn : List (Addr × Obj)) (xe : Value → Shared → Prop), Takes (X.tr pn xe) W → PassesOwn (model X.prog X.w) X.A X.env xe → PSs (X.tr pn xe) body (tb W))
    (hh : HdA X (h0 :: more) l) : PS X (.Try body (h0 :: more) [] [] pos) (fun D τ J => tb (wManyA X.K Wout D l) D τ J) := by
  constructor
  intro pins s τ J D I reading
  have fine := I.ok
  have frames : X.A.frames = some (X.env :: X.outer) := fine.frames.trans (by rw [hs])
  refine wpAny_Try_except ?_
  refine wpAny_mono ((hb (wManyA X.K Wout D l) (X.pn ++ pins) (fun e t1 => wpAny (model X.prog X.w) X.A (noteFrame e X.env)
      (fun _ t2 => wpAny (model X.prog X.w) X.A (setFlight e none) (fun _ t3 => wpAny (model X.prog X.w) X.A (handleBy e X.env (h0 :: more)) (SP X pins D) X.xe t3) X.xe t2) X.xe t1) ?caught PassesOwn.looking).run [] s τ J D (I.toTry _) reading) ?through fun _ _ z => z
  case through =>
    intro fl t1 w
    cases fl with
    | next =>
      obtain ⟨τ1, J1, I1, z⟩ := w
      exact wpAny_execs_nil ⟨τ1, J1, I1.ofTry fine, z⟩
    | brk => exact let ⟨τ1, J1, I1, z⟩ := w; ⟨τ1, J1, I1.ofTry fine, z⟩
    | cont => exact let ⟨τ1, J1, I1, z⟩ := w; ⟨τ1, J1, I1.ofTry fine, z⟩
    | ret u => exact let ⟨v, τ1, J1, I1, r, z⟩ := w; ⟨v, τ1, J1, I1.ofTry fine, r, z⟩
  case caught =>
    intro u t1 raised
    obtain ⟨a, B, sI, pins2, τ1, J1, kl, d, rfl, I0, nb, up, sky, na, os, ag, wish⟩ := raised
    have I1 : Inv X pins τ1 J1 sI := I0.ofTry fine
    have sky1 : Sky B (X.env :: X.outer) a (Zc kl d) X.env.locals t1.heap := hs ▸ sky
    show wpAny (model X.prog X.w) X.A (noteFrame (.ref a) X.env) _ _ _
    refine Sky.land Zc.steady frames hf sky1 fun g fl up2 => ?_
    have I2 : Inv X pins τ1 J1 { t1 with heap := g } := I1.landed nb fl.1 (up.trans up2) os ag
    obtain ⟨oe, vs, at_e, ze, fe⟩ := fl.there
    have nf := not_frame fl.2.2.1 at_e fe
    have aL : a ≠ X.env.locals := fun z => nf (List.mem_filterMap.mpr ⟨X.env, List.mem_cons_self, hf.trans (congrArg some z.symm)⟩)
    have aF : a ∉ X.fs := fun hm => by
      obtain ⟨en, hen, q⟩ := List.mem_filterMap.mp hm
      exact nf (List.mem_filterMap.mpr ⟨en, List.mem_cons_of_mem _ hen, q⟩)
    have inSuite := I2.suite at_e fe na aL aF
    suffices go : ∀ {hds : List ExceptHandler} {cl : Clauses}, HdA X hds cl → wManyA X.K Wout D cl kl d τ1 J1 → wpAny (model X.prog X.w) X.A (handleBy (.ref a) X.env hds) (SP X pins D) X.xe { t1 with heap := g } from go hh wish
    intro hds cl hk
    induction hk with
    | nil =>
      intro out
      refine wpAny_handleBy_nil ?_
      obtain ⟨_, _, _, o1, _, T, _, _, at1, _, f1, i1, _⟩ := id fl
      unfold PySem.passOn
      refine wpAny_bind (wpAny_field at1 f1 i1 ?_)
      rw [if_neg (fun z => by simp at z)]
      have last : wpAny (model X.prog X.w) X.A (setFlight (.ref a) X.env.frame) (fun _ t4 => wpAny (model X.prog X.w) X.A (throw (.ref a) : Sem Flow) (SP X pins D) X.xe t4) X.xe { t1 with heap := g } := by
        rw [hf]
        refine HandSPX.setFlight_upZ fl fun g2 hg2 up3 => wpAny_throw (tk _ _ ⟨a, B, sI, pins, τ1, J1, kl, d, rfl, I1, nb, (up.trans up2).trans up3, .inr (.inr ?_), na, os, ag, out⟩)
        rw [hs]
        exact hg2
      first
        | exact wpAny_bind (wpAny_pure (wpAny_bind last))
        | exact wpAny_bind last
    | @cons x m c i ts first suite p1 p2 more2 l2 named slot own run _ ih =>
      intro w
      obtain ⟨b, asked, yes, no⟩ := w
      refine wpAny_handleBy_cons (codeAny_handlers_test ?_) (fun z => nomatch z)
      have isT : PySem.W.Looks (model X.prog X.w) g (typeOf (.ref a)) kl := fun _ _ _ t4 k z => wpAny_typeOf_ref (k _ _ at_e) (by rw [ze.1]; exact z)
      have isM := PySem.W.exm_one (M := model X.prog X.w) (I2.kIn) isT asked
      have name : ∀ {R E : Value → Shared → Prop}, R c { t1 with heap := g } → wpAny (model X.prog X.w) (X.A.mark (some (.ref a))) (eval (.Name x p1) X.env) R E { t1 with heap := g } := by
        intro R E z
        obtain ⟨gl, nodbg, mine | ⟨free, boot, nn⟩⟩ := named
        · exact ld_glob (X := X.suite a ((a, oe) :: (X.pn ++ pins))) inSuite gl mine z nodbg
        · exact ld_blt (X := X.suite a ((a, oe) :: (X.pn ++ pins))) inSuite gl free boot z nn nodbg
      refine name (isM.here ?_)
      cases b with
      | false =>
        show wpAny _ X.A (handleBy (.ref a) X.env more2) _ _ _
        exact ih (no rfl)
      | true =>
        refine codeAny_handlers_suite_as (HandSPX.lands_againZ fl fun g2 fl2 up3 => ?_)
        have I3 : Inv X pins τ1 J1 { t1 with heap := g2 } := I1.landed nb fl2.1 ((up.trans up2).trans up3) os ag
        obtain ⟨oe2, vs2, at2, ze2, fe2⟩ := fl2.there
        have S := I3.suite at2 fe2 na aL aF
        refine store_ok (X := X.suite a ((a, oe2) :: (X.pn ++ pins))) (v := .ref a) S nd slot (.inl own) rfl (fun t5 S5 => ?_) (.inr own)
        refine wpAny_mono ((run a oe2 kl d (X.pn ++ pins) ze2 ⟨_, fe2⟩).run [] t5 _ J1 _ S5 (yes rfl a na)) ?_ fun _ _ z => z.elim
        intro fl6 t6 w6
        have gone : ∀ {τ6 : L2.St} {J6 : Hp} {R : Shared → Prop}, Inv (X.suite a ((a, oe2) :: (X.pn ++ pins))) [] τ6 J6 t6 → (∀ t7, Inv X pins (τ6.set i none) J6 t7 → R t7) →
            wpAny (model X.prog X.w) X.A (do bindName X.env m .none; unbindBehindTheSuite X.env m p2) (fun _ t7 => R t7) X.xe t6 := fun S6 z => gone_ok (S6.unsuite fine) nd slot own z
        cases fl6 with
        | next => exact let ⟨τ6, J6, S6, z⟩ := w6; gone S6 fun _ I7 => ⟨_, _, I7, z⟩
        | brk => exact let ⟨τ6, J6, S6, z⟩ := w6; gone S6 fun _ I7 => ⟨_, _, I7, z⟩
        | cont => exact let ⟨τ6, J6, S6, z⟩ := w6; gone S6 fun _ I7 => ⟨_, _, I7, z⟩
        | ret u => exact let ⟨v6, τ6, J6, S6, r6, z⟩ := w6; gone S6 fun _ I7 => ⟨_, _, _, I7, r6, z⟩
end
end OF
/-! repr of any data without dicts; a value equal to itself; what an except clause does not take. -/
namespace OF
open PySem PySem.Spec PyProof.Rows L2
/-- repr of data -/
def rReprD (K : PySem.W.Frag) : List V → Hp → VK → Prop := fun xs H Q => ∃ (v : V) (d : PyData), xs = [v] ∧ Dp K H v d ∧ d.showable = true ∧ d.hasDict = false ∧ d.shown.length ≤ sizeLine ∧ d.depth ≤ 40 ∧ Q (.str d.shown) H
theorem call_reprD {X : Cx} (gu : X.A.guards = some []) (hu : X.A.units + 64 < cLine) : CallR X (.builtin "repr") (rReprD X.K) := by
  intro pins s σ H xs us Q I r h
  obtain ⟨v, d, rfl, hd, sh, nd, len, dep, q⟩ := h
  obtain ⟨u, rfl, ru⟩ := vals1 r
  have big : ∀ {p : Addr}, v = .ref p → wpAny (model X.prog X.w) X.A (call (.builtin "repr") [u]) (EP X pins σ Q) X.xe s := fun {p} e => by
    subst e
    cases ru
    obtain ⟨as, rd⟩ := Dp.reads I d _ _ hd rfl
    exact PySem.repr_of_reads' rd sh (fun z => by rw [nd] at z; cases z) gu (by omega) (fun _ _ z => z) (fun h' t tk kp => ⟨.str _, H, I.kept kp, ⟨_, rfl⟩, q⟩) len
  cases hd with
  | non =>
    cases ru
    exact PySem.P.repr_of_none ⟨.str _, H, I.tok _, ⟨_, rfl⟩, q⟩
  | bl b =>
    cases ru
    exact PySem.P.repr_of_bool ⟨.str _, H, I.tok _, ⟨_, rfl⟩, by cases b <;> exact q⟩
  | int i =>
    obtain ⟨t, rfl⟩ := ru
    exact PySem.P.repr_of_int (of_decide_eq_true sh) ⟨.str _, H, I.tok _, ⟨_, rfl⟩, q⟩
  | str z =>
    obtain ⟨t, rfl⟩ := ru
    exact PySem.P.repr_of_str ⟨.str _, H, I.tok _, ⟨_, rfl⟩, q⟩ len
  | lst h1 h2 => exact big rfl
  | tup h1 h2 => exact big rfl
/-- a value is equal to itself -/
def rEqSelf (K : PySem.W.Frag) : R2 := fun x y H Q => x = y ∧ ((∃ d, Dp K H x d ∧ SeqAt.shaped d = true) ∨ ∃ p, x = .ref p ∧ H p = some (.dK [])) ∧ Q (.bl true) H
theorem op_eqSelf {X : Cx} (hu : X.A.units + 64 < cLine) : OpR X (compareOp .Eq) (rEqSelf X.K) := by
  intro pins s σ H x y v u Q I rx ry h
  obtain ⟨rfl, h, q⟩ := h
  rcases h with ⟨d, hd, sh⟩ | ⟨p, rfl, hp⟩
  · refine op_eqD hu pins s σ H x x v u Q I rx ry ⟨d, d, hd, hd, sh, sh, ?_⟩
    rw [SeqAt.eqv_refl d (SeqAt.canLay_of_shaped sh)]
    exact q
  · exact op_eq_dictA (by omega) pins s σ H _ _ v u Q I rx ry ⟨p, p, [], [], rfl, rfl, hp, hp, rfl, (fun z hz => by cases hz), q⟩
/-- an error of another class -/
theorem exm_other {K : PySem.W.Frag} {S D : Addr} (h1 : PySem.W.subIn K (.ref D) (.type "BaseException") = some true) (h2 : PySem.W.isClsIn K D = true) (h3 : PySem.W.typeIn K (.ref D) = some (.type "type")) (h4 : PySem.W.subIn K (.ref S) (.ref D) = some false) (ne : S ≠ D) :
    PySem.W.exmOne K (.ref S) (.ref D) = some false := by
  have h2' : (PySem.W.clsIn K D).isSome = true := h2
  unfold PySem.W.exmOne
  simp only [h1, beq_self_eq_true, if_true]
  unfold PySem.W.kitCls
  simp only [h3, h4, h2', beq_self_eq_true, Bool.and_self, if_true]
end OF
namespace K31
open PySem PySem.Spec PyProof.Rows L2 OF
section
variable {P : Program} {w : World} {K : PySem.W.Frag} {mg : Str → Option Value} {base : Heap}
def spOneOf (K : PySem.W.Frag) : Sp := fun vs H Q _ => ∃ (t : Addr) (ds : List Int) (x : V), vs = [.ref t, x] ∧ SqT K H t (ds.map V.int) ∧ ((∃ n : Int, x = .int n ∧ Q (.bl (dig n && decide (n ∈ ds))) H) ∨ (Odd H x ∧ Q (.bl false) H))
theorem in_ints (n : Int) : ∀ ds : List Int, inV (.int n) (ds.map V.int) = decide (n ∈ ds)
  | [] => by
    show false = _
    rw [decide_eq_false (List.not_mem_nil)]
  | d :: ds => by
    show ((d == n) || inV (.int n) (ds.map V.int)) = _
    rw [in_ints n ds, Bool.eq_iff_iff]
    simp only [Bool.or_eq_true, beq_iff_eq, decide_eq_true_eq, List.mem_cons]
    constructor
    · rintro (h | h)
      · exact .inl h.symm
      · exact .inr h
    · rintro (h | h)
      · exact .inl h.symm
      · exact .inr h
theorem flat_ints : ∀ ds : List Int, (ds.map V.int).all flatV = true
  | [] => rfl
  | _ :: ds => flat_ints ds
theorem scOn : FnScope ["digits", "value"] ["digits", "value"] (defScope sOneOf) := ⟨rfl, rfl, rfl, by decide +kernel, rfl, by decide +kernel, by decide +kernel⟩
theorem ok_oneof {f fD : Addr} {fd fdD : FuncData} (F : Fun K "_is_one_of" "_is_one_of" sOneOf f fd) (GD : FnOk P w K mg base CX0 3 fD fdD ["value"] spIsDigit) (gD : mg "is_digit" = some (.ref fD)) (kD : PySem.W.keepIn K (.ref fD) = true) (bD : Binds K fdD ["value"] []) :
    FnOk P w K mg base CX0 4 f fd ["digits", "value"] (spOneOf K) := by
  refine F.ok scOn (fun vs H Q E h => ?_) (fun cdv A outer s H vs Q E hr h => ?_)
  · obtain ⟨t, ds, x, rfl, _⟩ := h
    rfl
  · obtain ⟨t, ds, x, rfl, ht, h⟩ := h
    refine ⟨_, pss_one (ps_ret (pe_and (pe_call GD hr (by rfl) gD kD bD .nil pass0 (pa_cons (pv 1) pa_nil)) (pe_one (pe_cmpR op_in_seq (pv 1) (pv 0) rfl)))), ?_⟩
    rcases h with ⟨n, rfl, q⟩ | ⟨o, q⟩
    · refine ⟨.int n, rfl, .int n, rfl, .inl ⟨n, rfl, _, rfl, iteAnd (fun z => ?_) q⟩⟩
      refine ⟨.int n, rfl, .ref t, rfl, t, _, rfl, .inr ht, rfl, flat_ints ds, ?_⟩
      have z2 := z
      rw [← in_ints n ds] at z2
      exact z2
    · exact ⟨x, rfl, x, rfl, .inr ⟨o, _, rfl, iteF q⟩⟩
theorem passNo {X : Cx} {P' : Program} {w' : World} : Passes (L2.CX P' w') X E0 := fun _ _ _ _ _ _ _ h => by
  obtain ⟨_, _, _, _, _, _, _, _, _, _, _, _, z⟩ := h
  exact z.elim

def isOne (ds : List Int) (n : Int) : Bool := dig n && decide (n ∈ ds)
def oneV (ds : List Int) : V → Bool
  | .int n => isOne ds n
  | _ => false
theorem oneV_odd {H : Hp} {ds : List Int} {x : V} (o : Odd H x) : oneV ds x = false := by cases o <;> rfl
/-- no tuple -/
inductive NoTup (H : Hp) : V → Prop
  | no {x : V} (h : NoSeq H x) : NoTup H x
  | lst {a : Addr} {xs : List V} (e : H a = some (.lst xs)) : NoTup H (.ref a)
theorem NoTup.same {H H' : Hp} {x : V} (h : NoTup H x) (s : Same H H') : NoTup H' x := by
  cases h with
  | no h => exact .no (h.same s)
  | lst e => exact .lst (s _ _ e)
theorem NoTup.kit {K : PySem.W.Frag} {H : Hp} {x : V} (h : NoTup H x) : ∃ t, TyX K H x t ∧ PySem.W.kitOne K t (.type "tuple") = some false := by
  cases h with
  | lst e => exact ⟨_, .base (.lst e), kit_ty (by decide +kernel)⟩
  | no h =>
    cases h with
    | int n => exact ⟨_, .base (.int n), kit_ty (by decide +kernel)⟩
    | non => exact ⟨_, .base .non, kit_ty (by decide +kernel)⟩
    | bl b => exact ⟨_, .base (.bl b), kit_ty (by decide +kernel)⟩
    | str z => exact ⟨_, .base (.str z), kit_ty (by decide +kernel)⟩
    | dK e => exact ⟨_, .base (.dK e), kit_ty (by decide +kernel)⟩
def pairB (ds : List Int) (xs : List V) : Bool := decide (xs.length = 2) && xs.all (oneV ds)
/-- _is_pair of any value -/
def spIsPair (K : PySem.W.Frag) : Sp := fun vs H Q _ => ∃ (t : Addr) (ds : List Int) (x : V), vs = [.ref t, x] ∧ SqT K H t (ds.map V.int) ∧ ((NoTup H x ∧ Q (.bl false) H) ∨ ∃ (p : Addr) (xs : List V), x = .ref p ∧ H p = some (.tup xs) ∧ xs.length ≤ 1000 ∧ (∀ y ∈ xs, ItemOk H y) ∧ ∀ H', Same H H' → Q (.bl (pairB ds xs)) H')
abbrev nIp : List Str := ["digits", "value", "item"]
theorem scIp : FnScope nIp ["digits", "value"] (defScope sIsPair) := ⟨rfl, rfl, rfl, by decide +kernel, rfl, by decide +kernel, by decide +kernel⟩
theorem ok_ispair {f fO : Addr} {fd fdO : FuncData} (F : Fun K "_is_pair" "_is_pair" sIsPair f fd) (GO : FnOk P w K mg base CX0 4 fO fdO ["digits", "value"] (spOneOf K)) (gO : mg "_is_one_of" = some (.ref fO)) (kO : PySem.W.keepIn K (.ref fO) = true) (bO : Binds K fdO ["digits", "value"] [])
    (mis : mg "isinstance" = none) (ml : mg "len" = none) (mall : mg "all" = none) (mt : mg "tuple" = none) : FnOk P w K mg base CX0 5 f fd ["digits", "value"] (spIsPair K) := by
  refine F.ok scIp (fun vs H Q E h => ?_) (fun cdv A outer s H vs Q E hr h => ?_)
  · obtain ⟨t, ds, x, rfl, _⟩ := h
    rfl
  · obtain ⟨t, ds, x, rfl, ht, h⟩ := h
    refine ⟨_, pss_one (ps_ret (pe_and (pe_callB call_isi (by rfl) mis PyProof.Rows.boot_isinstance (pa_cons (pv 1) (pa_cons (pe_bltn (v := .ty "tuple") (by rfl) mt (by decide +kernel) rfl) pa_nil)))
      (pe_and (pe_cmpR op_eq (pe_callB call_len_seq (by rfl) ml PySem.boot_len (pa_cons (pv 1) pa_nil)) pe_int (nomark _))
      (pe_one (pe_callB (cr_all rfl) (by rfl) mall (by decide +kernel) (pa_cons (pe_lc (own := [("item", 2)]) (g := gName 2) (tt := tYes) (te := tCall (spOneOf K) [] E0 (tCons (tVar 0) (tCons (tVar 2) tNil))) rfl scIp.nd (pi_tup (pv 1))
            (blkOk_by (own := [("item", 2)]) (N := nIp) (sc := defScope sIsPair) (by decide +kernel)) (fun _ _ _ _ _ => pg_name (i := 2) scIp.nd rfl (Or.inl rfl)) (fun _ _ _ _ _ => pts_nil)
            (fun _ _ _ _ _ => by exact (pe_call GO hr (by rfl) gO kO bO .nil pass0 (pa_cons (pv 0) (pa_cons (pv 2) pa_nil))))) pa_nil)))))), ?_⟩
    rcases h with ⟨no, q⟩ | ⟨p, xs, rfl, hp, hl, it, q⟩
    · obtain ⟨ty, tyx, k⟩ := no.kit (K := K)
      exact ⟨x, rfl, x, .ty "tuple", ty, .type "tuple", false, rfl, .ty _, tyx, k, false, rfl, iteF q⟩
    refine ⟨.ref p, rfl, .ref p, .ty "tuple", .type "tuple", .type "tuple", true, rfl, .ty _, .base (.tup hp), kit_ty (by decide +kernel), true, rfl, iteT ?_⟩
    refine ⟨.ref p, rfl, p, _, rfl, .inr (SqT.of hp), rfl, _, rfl, ?_⟩
    by_cases c : xs.length = 2
    · refine iteTB (decide_eq_true (congrArg (fun n : Nat => V.int (n : Int)) c)) ⟨.ref p, rfl, p, rfl, ⟨_, SqT.of hp⟩, fun D hD => ?_⟩
      refine lc_tup (K := K) (a := p) (xs := xs) (fun i H' => Same H H' ∧ H' D = some (.lst ((xs.take i).map fun x => V.bl (oneV ds x)))) ⟨same_new hD, upd_same⟩ (fun i H' _ h => SqT.of (h.1 _ _ hp)) ?_ ?_
      · rintro i z H' hi ⟨s1, e1⟩
        have fin : ∃ acc, H' D = some (.lst acc) ∧ acc.length < sizeLine ∧ (Same H (upd H' D (.lst (acc ++ [.bl (oneV ds z)]))) ∧ (upd H' D (.lst (acc ++ [.bl (oneV ds z)]))) D = some (.lst ((xs.take (i + 1)).map fun x => V.bl (oneV ds x)))) := by
          refine ⟨_, e1, ?_, Same.store s1 hD, ?_⟩
          · rw [List.length_map]
            exact Nat.lt_of_le_of_lt (List.length_take_le' _ _) (small1000 hl)
          · rw [upd_same, take_more hi, List.map_append]
            rfl
        refine ⟨rfl, tYes_if ⟨.ref t, rfl, z, rfl, t, ds, z, rfl, same_seqT s1 ht, ?_⟩⟩
        rcases it z (List.mem_of_getElem? hi) with ⟨n, rfl⟩ | o
        · exact .inl ⟨n, rfl, fin⟩
        · rw [oneV_odd o] at fin
          exact .inr ⟨o.same s1, fin⟩
      · rintro H' ⟨s1, e1⟩
        rw [List.take_length] at e1
        have z := q H' s1
        have e : pairB ds xs = (xs.map (oneV ds)).all id := by
          unfold pairB
          rw [decide_eq_true c, Bool.true_and, List.all_map]
          rfl
        rw [e] at z
        exact ⟨D, xs.map (oneV ds), rfl, SqL.of (by rw [e1, List.map_map]; rfl), z⟩
    · have z := q H (Same.refl H)
      have e : pairB ds xs = false := by
        unfold pairB
        rw [decide_eq_false c, Bool.false_and]
      rw [e] at z
      refine iteFB (decide_eq_false fun y => c ?_) z
      have y2 : ((xs.length : Nat) : Int) = 2 := V.int.inj y
      omega

/-- bars of a list or tuple: two of the digits each -/
def BarOk (H : Hp) (ds : List Int) (p : Addr × List Int) : Prop := ∃ x y, p.2 = [x, y] ∧ H p.1 = some (.tup [.int x, .int y]) ∧ isOne ds x = true ∧ isOne ds y = true
/-- an item that is no pair of the digits -/
def BadBar (H : Hp) (ds : List Int) (x : V) : Prop := NoTup H x ∨ ∃ (p : Addr) (xs : List V), x = .ref p ∧ H p = some (.tup xs) ∧ xs.length ≤ 1000 ∧ (∀ y ∈ xs, ItemOk H y) ∧ pairB ds xs = false
theorem BadBar.same {H H' : Hp} {ds : List Int} {x : V} (h : BadBar H ds x) (s : Same H H') : BadBar H' ds x := by
  rcases h with h | ⟨p, xs, e, hp, l, it, b⟩
  · exact .inl (h.same s)
  · exact .inr ⟨p, xs, e, s _ _ hp, l, fun y hy => (it y hy).same s, b⟩
/-- _different_pairs of any value: no list; a first bar that is none behind good ones; good ones alone -/
def spDiffPair (K : PySem.W.Frag) (C : Addr) : Sp := fun vs H Q E => ∃ (t : Addr) (ds : List Int) (x : V), vs = [.ref t, x] ∧ SqT K H t (ds.map V.int) ∧ ((NoSeq H x ∧ Raised C "value" x H E) ∨ ∃ (l : Addr) (ks : List (Addr × List Int)) (rest : List V), x = .ref l ∧ IsSeq K H l (ks.map (fun p => V.ref p.1) ++ rest) ∧ ks.length < 64 ∧ (∀ p ∈ ks, BarOk H ds p) ∧
  ((∃ (y : V) (more : List V), rest = y :: more ∧ BadBar H ds y ∧ Raised C "value" y H E) ∨ (rest = [] ∧
    ∀ (L : List (Addr × List Int)) (r : Addr) (H' : Hp), (∀ p ∈ L, p ∈ ks) → (∀ p ∈ ks, p.2 ∈ L.map (·.2)) → (L.map (·.2)).Nodup → L.Pairwise (fun q r => SrtO.lexB (duo r.2) (duo q.2) = false) → Same H H' → H' r = some (.tup (L.map fun q => V.ref q.1)) → Q (.ref r) H')))
abbrev nDp : List Str := ["digits", "bars", "item"]
theorem scDp : FnScope nDp ["digits", "bars"] (defScope sDiffPair) := ⟨rfl, rfl, rfl, by decide +kernel, rfl, by decide +kernel, by decide +kernel⟩
theorem barOk_pair {H : Hp} {ds : List Int} {p : Addr × List Int} (h : BarOk H ds p) : ∃ xs : List V, H p.1 = some (.tup xs) ∧ xs.length ≤ 1000 ∧ (∀ y ∈ xs, ItemOk H y) ∧ pairB ds xs = true := by
  obtain ⟨x, y, _, e, hx, hy⟩ := h
  refine ⟨_, e, (by show 2 ≤ 1000; decide), fun z hz => ?_, ?_⟩
  · simp only [List.mem_cons, List.not_mem_nil, or_false] at hz
    rcases hz with rfl | rfl
    · exact .inl ⟨_, rfl⟩
    · exact .inl ⟨_, rfl⟩
  · show (decide (2 = 2) && (isOne ds x && (isOne ds y && true))) = true
    rw [hx, hy]
    rfl
set_option maxHeartbeats 2000000 in
theorem ok_diffpair {f fO fI C : Addr} {fd fdO fdI : FuncData} (F : Fun K "_different_pairs" "_different_pairs" sDiffPair f fd) (GO : FnOk P w K mg base CX0 5 fO fdO ["digits", "value"] (spIsPair K)) (gO : mg "_is_pair" = some (.ref fO)) (kO : PySem.W.keepIn K (.ref fO) = true) (bO : Binds K fdO ["digits", "value"] [])
    (GI : FnOk P w K mg base CX0 3 fI fdI ["self", "value"] (spInit K "value" C)) (T : ErrC K mg "InvalidBars" "value" C fI) (bI : Binds K fdI ["self", "value"] [])
    (mis : mg "isinstance" = none) (mli : mg "list" = none) (ms : mg "set" = none) (mso : mg "sorted" = none) (mt : mg "tuple" = none) : FnOk P w K mg base (L2.CX P w) 6 f fd ["digits", "bars"] (spDiffPair K C) := by
  refine F.okX scDp (fun vs H Q E h => ?_) (fun cdv A outer s H vs Q E hr h => ?_)
  · obtain ⟨t, ds, x, rfl, _⟩ := h
    rfl
  · obtain ⟨t, ds, x, rfl, ht, h⟩ := h
    have hr3 : Room 4 _ := hr.mono (by decide)
    rcases h with ⟨no, hE⟩ | ⟨l, ks, rest, rfl, hl, few, hk, h⟩
    · refine ⟨_, pss_cons (ps_if (pt_not (pt_val (pe_callB call_isiT (by rfl) mis PyProof.Rows.boot_isinstance (pa_cons (pv 1) (pa_cons (pe_tup (pa_cons (pe_bltn (v := .ty "list") (by rfl) mli PyProof.Rows.boot_list rfl) (pa_cons (pe_bltn (v := .ty "tuple") (by rfl) mt (by decide +kernel) rfl) pa_nil))) pa_nil)))))
          (pss_one (ps_raise rfl (takes_of rfl rfl rfl rfl) (pmk_oex T.ox T.iC T.tI GI hr3 bI .nil pass0 (by rfl) T.g (pa_cons (pv 1) pa_nil)))) pss_nil)
        (pss_cons (ps_for (passes_of rfl) rfl (pi_list (pv 1)) (pg_name (i := 2) scDp.nd rfl (.inl rfl))
          (pss_one (ps_if (pt_not (pt_val (pe_call GO hr (by rfl) gO kO bO .nil pass0 (pa_cons (pv 0) (pa_cons (pv 2) pa_nil)))))
            (pss_one (ps_raise rfl (takes_of rfl rfl rfl rfl) (pmk_oex T.ox T.iC T.tI GI hr3 bI .nil pass0 (by rfl) T.g (pa_cons (pv 2) pa_nil)))) pss_nil)))
        (pss_one (ps_ret (pe_callTy call_tuple_of (by rfl) mt (by decide +kernel) (pa_cons (pe_callB (cr_sortedDuo rfl) (by rfl) mso (by decide +kernel) (pa_cons (pe_callTy (cr_setOfA rfl hr.units) (by rfl) ms PyProof.Rows.boot_set (pa_cons (pv 1) pa_nil)) pa_nil)) pa_nil))))), ?_⟩
      refine ⟨x, rfl, (by show 2 ≤ sizeLine; decide), fun U hU => ?_⟩
      have s1 : Same H (upd H U (.tup [.ty "list", .ty "tuple"])) := same_new hU
      obtain ⟨ty, hty, k⟩ := (no.same s1).kit (K := K)
      exact ⟨x, U, _, ty, _, false, rfl, upd_same, .cons (.ty _) (.cons (.ty _) .nil), hty, k, false, rfl, iteT ⟨x, rfl, raised_ok (K := K) (σ := start nDp [.ref t, x]) (D := { nx := fun _ H' => Q .non H', rt := Q }) hE s1⟩⟩
    have each : ∀ (i : Nat) (z : V), (ks.map (fun p => V.ref p.1) ++ rest)[i]? = some z → (i < ks.length ∧ ∃ p ∈ ks, z = .ref p.1) ∨ (∃ (more : List V), rest = z :: more) ∨ (ks.length < i) := fun i z hz => by
      rcases Nat.lt_trichotomy i ks.length with c | c | c
      · rw [List.getElem?_append_left (by rw [List.length_map]; exact c)] at hz
        obtain ⟨p, hp, e⟩ := get_map hz
        exact .inl ⟨c, p, List.mem_of_getElem? hp, e⟩
      · rw [List.getElem?_append_right (by rw [List.length_map, c]; exact Nat.le_refl _), List.length_map, c, Nat.sub_self] at hz
        cases rest with
        | nil => cases hz
        | cons y m =>
          cases Option.some.inj hz
          exact .inr (.inl ⟨m, rfl⟩)
      · exact .inr (.inr c)
    have tups : ∀ (H2 : Hp), Same H H2 → ∀ p ∈ ks, SqT K H2 p.1 (p.2.map V.int) := by
      intro H2 s3 p hp
      obtain ⟨x, y, e, ep, _⟩ := hk p hp
      rw [e]
      exact SqT.of (s3 _ _ ep)
    rcases hl.sq with sq | sq
    · refine ⟨_, pss_cons (ps_if (pt_not (pt_val (pe_callB call_isiT (by rfl) mis PyProof.Rows.boot_isinstance (pa_cons (pv 1) (pa_cons (pe_tup (pa_cons (pe_bltn (v := .ty "list") (by rfl) mli PyProof.Rows.boot_list rfl) (pa_cons (pe_bltn (v := .ty "tuple") (by rfl) mt (by decide +kernel) rfl) pa_nil))) pa_nil)))))
          (pss_one (ps_raise rfl (takes_of rfl rfl rfl rfl) (pmk_oex T.ox T.iC T.tI GI hr3 bI .nil pass0 (by rfl) T.g (pa_cons (pv 1) pa_nil)))) pss_nil)
        (pss_cons (ps_for (passes_of rfl) rfl (pi_list (pv 1)) (pg_name (i := 2) scDp.nd rfl (.inl rfl))
          (pss_one (ps_if (pt_not (pt_val (pe_call GO hr (by rfl) gO kO bO .nil pass0 (pa_cons (pv 0) (pa_cons (pv 2) pa_nil)))))
            (pss_one (ps_raise rfl (takes_of rfl rfl rfl rfl) (pmk_oex T.ox T.iC T.tI GI hr3 bI .nil pass0 (by rfl) T.g (pa_cons (pv 2) pa_nil)))) pss_nil)))
        (pss_one (ps_ret (pe_callTy call_tuple_of (by rfl) mt (by decide +kernel) (pa_cons (pe_callB (cr_sortedDuo rfl) (by rfl) mso (by decide +kernel) (pa_cons (pe_callTy (cr_setOfA rfl hr.units) (by rfl) ms PyProof.Rows.boot_set (pa_cons (pv 1) pa_nil)) pa_nil)) pa_nil))))), ?_⟩
      refine ⟨.ref l, rfl, (by show 2 ≤ sizeLine; decide), fun U hU => ?_⟩
      have s1 : Same H (upd H U (.tup [.ty "list", .ty "tuple"])) := same_new hU
      obtain ⟨ty, hty, k⟩ := (hl.same s1).lt
      refine ⟨.ref l, U, _, ty, _, true, rfl, upd_same, .cons (.ty _) (.cons (.ty _) .nil), hty, k, true, rfl, iteF ?_⟩
      generalize upd H U (.tup [.ty "list", .ty "tuple"]) = H1 at s1 ⊢
      refine ⟨.ref l, rfl, l, rfl, ⟨_, s1.seq sq⟩, for_list (K := K) (a := l) (xs := ks.map (fun p => V.ref p.1) ++ rest) (fun i σ H' => (∃ v, σ = [some (.ref t), some (.ref l), v]) ∧ Same H H' ∧ i ≤ ks.length) ⟨⟨none, rfl⟩, s1, Nat.zero_le _⟩ (fun i σ H' _ h => h.2.1.seq sq) ?_ ?_⟩
      · rintro i z σ H' hz ⟨⟨v, rfl⟩, s2, hi⟩
        rcases each i z hz with ⟨hi2, p, hp, rfl⟩ | ⟨more, er⟩ | c
        · obtain ⟨xs, e, l1, it, b⟩ := barOk_pair (hk p hp)
          refine ⟨.ref t, rfl, .ref p.1, rfl, t, ds, .ref p.1, rfl, same_seqT s2 ht, .inr ⟨p.1, xs, rfl, s2 _ _ e, l1, (fun y hy => (it y hy).same s2), fun H3 s3 => ⟨_, rfl, ?_⟩⟩⟩
          rw [b]
          exact iteF ⟨⟨_, rfl⟩, s2.trans s3, hi2⟩
        · rcases h with ⟨y, m2, e2, bad, hE⟩ | ⟨e2, _⟩
          · rw [er] at e2
            cases e2
            refine ⟨.ref t, rfl, z, rfl, t, ds, z, rfl, same_seqT s2 ht, ?_⟩
            have go : ∀ {H3 : Hp}, Same H H3 → _ := fun {H3} s3 => raised_ok (K := K) (σ := [some (.ref t), some (.ref l), some z]) (D := { nx := fun _ H' => Q .non H', rt := Q }) hE s3
            rcases bad with no | ⟨p, xs, rfl, hp, l1, it, b⟩
            · exact .inl ⟨no.same s2, false, rfl, iteT ⟨z, rfl, go s2⟩⟩
            · refine .inr ⟨p, xs, rfl, s2 _ _ hp, l1, (fun y hy => (it y hy).same s2), fun H3 s3 => ⟨_, rfl, ?_⟩⟩
              rw [b]
              exact iteT ⟨.ref p, rfl, go (s2.trans s3)⟩
          · rw [er] at e2
            cases e2
        · omega
      · rintro σ H' ⟨⟨v, rfl⟩, s2, hi⟩
        rw [List.length_append, List.length_map] at hi
        have er : rest = [] := List.eq_nil_of_length_eq_zero (by omega)
        rcases h with ⟨y, m2, e2, _⟩ | ⟨_, q⟩
        · rw [er] at e2
          cases e2
        subst er
        rw [List.append_nil] at sq
        refine ⟨.ref l, rfl, l, ks, rfl, .inl (s2.seq sq), tups H' s2, few, fun S L hS sub all => ?_⟩
        have s3 : Same H (upd H' S (SetTO P w S L)) := s2.trans (same_new hS)
        refine ⟨S, L, rfl, upd_same, fun p hp => tups _ s3 p (sub p hp), fun p hp => ?_, fun L' D pm nd sh pw hD => ?_⟩
        · obtain ⟨x, y, e, _⟩ := hk p (sub p hp)
          rw [e]
          rfl
        have s4 : Same H (upd (upd H' S (SetTO P w S L)) D (.lst (L'.map fun q => V.ref q.1))) := s3.trans (same_new hD)
        refine ⟨D, _, rfl, .inl ⟨SqL.of upd_same, fun r hr2 => ?_⟩⟩
        exact q L' r _ (fun p hp => sub p (pm.mem_iff.mp hp)) (fun p hp => (pm.map (·.2)).mem_iff.mpr (all p hp)) nd pw (Same.store s4 (s4.free hr2)) upd_same
    · refine ⟨_, pss_cons (ps_if (pt_not (pt_val (pe_callB call_isiT (by rfl) mis PyProof.Rows.boot_isinstance (pa_cons (pv 1) (pa_cons (pe_tup (pa_cons (pe_bltn (v := .ty "list") (by rfl) mli PyProof.Rows.boot_list rfl) (pa_cons (pe_bltn (v := .ty "tuple") (by rfl) mt (by decide +kernel) rfl) pa_nil))) pa_nil)))))
          (pss_one (ps_raise rfl (takes_of rfl rfl rfl rfl) (pmk_oex T.ox T.iC T.tI GI hr3 bI .nil pass0 (by rfl) T.g (pa_cons (pv 1) pa_nil)))) pss_nil)
        (pss_cons (ps_for (passes_of rfl) rfl (pi_tup (pv 1)) (pg_name (i := 2) scDp.nd rfl (.inl rfl))
          (pss_one (ps_if (pt_not (pt_val (pe_call GO hr (by rfl) gO kO bO .nil pass0 (pa_cons (pv 0) (pa_cons (pv 2) pa_nil)))))
            (pss_one (ps_raise rfl (takes_of rfl rfl rfl rfl) (pmk_oex T.ox T.iC T.tI GI hr3 bI .nil pass0 (by rfl) T.g (pa_cons (pv 2) pa_nil)))) pss_nil)))
        (pss_one (ps_ret (pe_callTy call_tuple_of (by rfl) mt (by decide +kernel) (pa_cons (pe_callB (cr_sortedDuo rfl) (by rfl) mso (by decide +kernel) (pa_cons (pe_callTy (cr_setOfA rfl hr.units) (by rfl) ms PyProof.Rows.boot_set (pa_cons (pv 1) pa_nil)) pa_nil)) pa_nil))))), ?_⟩
      refine ⟨.ref l, rfl, (by show 2 ≤ sizeLine; decide), fun U hU => ?_⟩
      have s1 : Same H (upd H U (.tup [.ty "list", .ty "tuple"])) := same_new hU
      obtain ⟨ty, hty, k⟩ := (hl.same s1).lt
      refine ⟨.ref l, U, _, ty, _, true, rfl, upd_same, .cons (.ty _) (.cons (.ty _) .nil), hty, k, true, rfl, iteF ?_⟩
      generalize upd H U (.tup [.ty "list", .ty "tuple"]) = H1 at s1 ⊢
      refine ⟨.ref l, rfl, l, rfl, ⟨_, same_seqT s1 sq⟩, for_tup (K := K) (a := l) (xs := ks.map (fun p => V.ref p.1) ++ rest) (fun i σ H' => (∃ v, σ = [some (.ref t), some (.ref l), v]) ∧ Same H H' ∧ i ≤ ks.length) ⟨⟨none, rfl⟩, s1, Nat.zero_le _⟩ (fun i σ H' _ h => same_seqT h.2.1 sq) ?_ ?_⟩
      · rintro i z σ H' hz ⟨⟨v, rfl⟩, s2, hi⟩
        rcases each i z hz with ⟨hi2, p, hp, rfl⟩ | ⟨more, er⟩ | c
        · obtain ⟨xs, e, l1, it, b⟩ := barOk_pair (hk p hp)
          refine ⟨.ref t, rfl, .ref p.1, rfl, t, ds, .ref p.1, rfl, same_seqT s2 ht, .inr ⟨p.1, xs, rfl, s2 _ _ e, l1, (fun y hy => (it y hy).same s2), fun H3 s3 => ⟨_, rfl, ?_⟩⟩⟩
          rw [b]
          exact iteF ⟨⟨_, rfl⟩, s2.trans s3, hi2⟩
        · rcases h with ⟨y, m2, e2, bad, hE⟩ | ⟨e2, _⟩
          · rw [er] at e2
            cases e2
            refine ⟨.ref t, rfl, z, rfl, t, ds, z, rfl, same_seqT s2 ht, ?_⟩
            have go : ∀ {H3 : Hp}, Same H H3 → _ := fun {H3} s3 => raised_ok (K := K) (σ := [some (.ref t), some (.ref l), some z]) (D := { nx := fun _ H' => Q .non H', rt := Q }) hE s3
            rcases bad with no | ⟨p, xs, rfl, hp, l1, it, b⟩
            · exact .inl ⟨no.same s2, false, rfl, iteT ⟨z, rfl, go s2⟩⟩
            · refine .inr ⟨p, xs, rfl, s2 _ _ hp, l1, (fun y hy => (it y hy).same s2), fun H3 s3 => ⟨_, rfl, ?_⟩⟩
              rw [b]
              exact iteT ⟨.ref p, rfl, go (s2.trans s3)⟩
          · rw [er] at e2
            cases e2
        · omega
      · rintro σ H' ⟨⟨v, rfl⟩, s2, hi⟩
        rw [List.length_append, List.length_map] at hi
        have er : rest = [] := List.eq_nil_of_length_eq_zero (by omega)
        rcases h with ⟨y, m2, e2, _⟩ | ⟨_, q⟩
        · rw [er] at e2
          cases e2
        subst er
        rw [List.append_nil] at sq
        refine ⟨.ref l, rfl, l, ks, rfl, .inr (same_seqT s2 sq), tups H' s2, few, fun S L hS sub all => ?_⟩
        have s3 : Same H (upd H' S (SetTO P w S L)) := s2.trans (same_new hS)
        refine ⟨S, L, rfl, upd_same, fun p hp => tups _ s3 p (sub p hp), fun p hp => ?_, fun L' D pm nd sh pw hD => ?_⟩
        · obtain ⟨x, y, e, _⟩ := hk p (sub p hp)
          rw [e]
          rfl
        have s4 : Same H (upd (upd H' S (SetTO P w S L)) D (.lst (L'.map fun q => V.ref q.1))) := s3.trans (same_new hD)
        refine ⟨D, _, rfl, .inl ⟨SqL.of upd_same, fun r hr2 => ?_⟩⟩
        exact q L' r _ (fun p hp => sub p (pm.mem_iff.mp hp)) (fun p hp => (pm.map (·.2)).mem_iff.mpr (all p hp)) nd pw (Same.store s4 (s4.free hr2)) upd_same
end
end K31
/-! C(e, .., k = v, ..) within a try: __init__ may raise. -/
namespace OF
open PySem PySem.Spec PyProof.Rows L2
section
variable {X : Cx} {CX : CXT} {k n : Nat} {f C : Addr} {fd : FuncData} {ps ks : List Str} {sp : Sp} {E : L2.St → XK} {x : Str} {p pos : Pos} {e : Expr} {es : List Expr} {kws : List Keyword} {t tk : TA} {g : List Value → List Value → List Value} {gV : List V → List V → List V}
def tMakeS (C : Addr) (n m : Nat) (sp : Sp) (gV : List V → List V → List V) (E : L2.St → XK) (t tk : TA) : TE := fun σ H Q =>
  t σ H fun vs H1 => tk σ H1 fun zs H2 => vs.length = n ∧ zs.length = m ∧ ∀ o d, H2 o = none → H2 d = none → d ≠ o →
    sp (gV (.ref o :: vs) zs) (upd (upd H2 d (.own o)) o (.ins C d [])) (fun v H3 => v = .non ∧ Q (.ref o) H3) (E σ)
theorem pe_makeS (M : Mk X.K C f) (F : FnOk X.prog X.w X.K X.mg X.base CX k f fd ps sp) (hr : Room (k + 1) X.A) (hg : Gl X x) (hm : X.mg x = some (.ref C)) (hb : KBn X.K fd ps (n + 1) ks g gV)
    (hx : ∀ σ, PassesAt CX X σ (E σ)) (ha : PA X (e :: es) t) (hkw : PK X kws tk)
    (named : (backToKw pos (keywordEach kws X.env)).all (·.1.isSome) = true := by rfl) (names : (backToKw pos (keywordEach kws X.env)).filterMap (·.1) = ks := by rfl) (nodbg : (x == ("__debug__" : Str)) = false := by decide)
    (st : starEach (e :: es) X.env = (false, eval e X.env) :: starEach es X.env := by rfl) (nostar : ((backTo pos (starEach (e :: es) X.env)).any (·.1) || (backToKw pos (keywordEach kws X.env)).any (·.1.isNone)) = false := by rfl) :
    PE X (.Call (.Name x p) (e :: es) kws pos) (tMakeS C n ks.length sp gV E t tk) := by
  constructor
  intro pins s σ H Q I reading
  apply wpAny_Call_Name_kw
  refine ld_glob I hg hm ?_ nodbg
  refine PySem.W.callWith_KW (h₀ := X.base) I.ok.mod.kin M.kp named (thn (ha.run pos pins s σ H _ I reading) ?_) nostar st
  rintro us sA ⟨vs, HA, IA, rv, qA⟩
  refine thn (hkw.run pos pins sA σ HA _ IA qA) ?_
  rintro ws sB ⟨zs, HB, IB, rw_, l1, l2, qB⟩
  refine ⟨IB.kIn, ?_⟩
  rw [names]
  have below : HB sB.heap.objs.size = none := IB.hok.fresh (Nat.le_refl _)
  have above : HB (sB.heap.objs.size + 1) = none := IB.hok.fresh (Nat.le_succ _)
  have want := qB (sB.heap.objs.size + 1) sB.heap.objs.size above below (Nat.ne_of_lt (Nat.lt_succ_self _))
  have IC := Inv.made (C := C) IB
  have r1 : Vals (V.ref (sB.heap.objs.size + 1) :: vs) (Value.ref (sB.heap.objs.size + 1) :: us) := .cons rfl rv
  have r2 := hb.rel r1 rw_
  have many : (Value.ref (sB.heap.objs.size + 1) :: us).length = n + 1 := by
    rw [List.length_cons, ← rv.length, l1]
  have bound := hb.to _ (Value.ref (sB.heap.objs.size + 1) :: us) ws IC.kIn many (rw_.length.symm.trans l2)
  have ran := F.run _ X.stack _ _ ⟨Value.ref (sB.heap.objs.size + 1) :: us, ks.zip ws⟩ (g (Value.ref (sB.heap.objs.size + 1) :: us) ws) _ _ (E σ) (hr.make C us (ks.zip ws)) (IC.env0.make C us (ks.zip ws)) bound r2 want
  refine wpAny_call (make_map (f := f) IB.kIn M.makes M.init (beq_iff_eq.mp M.fn) (codeAny_mono ran ?_))
  intro r sC got
  match r, got with
  | .error er, got => exact hx σ pins _ _ er sC IC got
  | .ok (.ret u), got =>
    obtain ⟨v, HC, ID, rv2, ev, q3⟩ := IC.after got
    subst ev
    exact ⟨rv2, V.ref (sB.heap.objs.size + 1), HC, ID, rfl, q3⟩
  | .ok .next, got => exact got.elim
  | .ok .brk, got => exact got.elim
  | .ok .cont, got => exact got.elim
end
end OF
namespace K31
open PySem PySem.Spec PyProof.Rows L2 OF
section
variable {P : Program} {w : World} {K : PySem.W.Frag} {mg : Str → Option Value} {base : Heap}

/-! ### what stays while a new instance is filled -/
/-- an instance of the class stands at a -/
def InsAt (H : Hp) (a : Addr) : Prop := ∃ C dx fs, H a = some (.ins C dx fs)
theorem InsAt.ne {H : Hp} {a p : Addr} {o : HO} (h : InsAt H a) (e : H p = some o) (n : ∀ C dx fs, o ≠ .ins C dx fs) : p ≠ a := fun z => by
  obtain ⟨C, dx, fs, i⟩ := h
  rw [z, i] at e
  exact n _ _ _ (Option.some.inj e).symm
section
variable {a : Addr} {H H' : Hp} (I : InsAt H a) (t : But a H H')
include I t
theorem odd_but {x : V} (h : Odd H x) : Odd H' x := by
  cases h with
  | non => exact .non
  | bl b => exact .bl b
  | str z => exact .str z
  | lst e => exact .lst (t _ _ (I.ne e fun _ _ _ z => by cases z) e)
  | tup e => exact .tup (t _ _ (I.ne e fun _ _ _ z => by cases z) e)
  | dK e => exact .dK (t _ _ (I.ne e fun _ _ _ z => by cases z) e)
theorem item_but {x : V} (h : ItemOk H x) : ItemOk H' x := h.imp id fun o => odd_but I t o
theorem noseq_but {x : V} (h : NoSeq H x) : NoSeq H' x := by
  cases h with
  | int n => exact .int n
  | non => exact .non
  | bl b => exact .bl b
  | str z => exact .str z
  | dK e => exact .dK (t _ _ (I.ne e fun _ _ _ z => by cases z) e)
theorem notup_but {x : V} (h : NoTup H x) : NoTup H' x := by
  cases h with
  | no h => exact .no (noseq_but I t h)
  | lst e => exact .lst (t _ _ (I.ne e fun _ _ _ z => by cases z) e)
theorem seqT_but {p : Addr} {xs : List V} (h : SqT K H p xs) : SqT K H' p xs := by
  rcases h with (h | ⟨o, h⟩) | h
  · exact .inl (.inl (t _ _ (I.ne h fun _ _ _ z => by cases z) h))
  · exact .inl (.inr ⟨o, t _ _ (I.ne h fun _ _ _ z => by cases z) h⟩)
  · exact .inr h
theorem isseq_but {p : Addr} {xs : List V} (h : IsSeq K H p xs) : IsSeq K H' p xs := by
  cases h with
  | lst e => exact .lst (t _ _ (I.ne e fun _ _ _ z => by cases z) e)
  | tup e => exact .tup (t _ _ (I.ne e fun _ _ _ z => by cases z) e)
  | kt e c h => exact .kt e c (seqT_but I t h)
theorem bad_but {ds : List Int} {x : V} (h : BadBar H ds x) : BadBar H' ds x := by
  rcases h with h | ⟨p, xs, e, hp, l, it, b⟩
  · exact .inl (notup_but I t h)
  · exact .inr ⟨p, xs, e, t _ _ (I.ne hp fun _ _ _ z => by cases z) hp, l, fun y hy => item_but I t (it y hy), b⟩
theorem bar_but {ds : List Int} {p : Addr × List Int} (h : BarOk H ds p) : BarOk H' ds p := by
  obtain ⟨x, y, e, hp, z⟩ := h
  exact ⟨x, y, e, t _ _ (I.ne hp fun _ _ _ z => by cases z) hp, z⟩
end
/-- a raised error while the instance at a is being filled -/
def RaisedA (a C : Addr) (f : Str) (v : V) (H : Hp) (E : XK) : Prop := ∀ (fs : List (Str × V)) (d : Addr) (H' : Hp), H d = none → But a H H' → H' d = some (.xd ((f, v) :: fs)) → E (.ref C) (some d) H'
theorem RaisedA.at_ {a C : Addr} {f : Str} {v : V} {H H1 : Hp} {E : XK} (h : RaisedA a C f v H E) (I : InsAt H1 a) (t : But a H H1) : Raised C f v H1 E := fun fs d H' hd s ed => by
  have nd : H d = none := by
    by_cases e : d = a
    · obtain ⟨C2, dx, fs, i⟩ := I
      rw [e, i] at hd
      cases hd
    · rcases Option.eq_none_or_eq_some (H d) with z | ⟨o, z⟩
      · exact z
      · rw [t d o e z] at hd
        cases hd
  exact h fs d H' nd (t.trans (But.of_same s)) ed
theorem isOne_mem {ds ns : List Int} (m : ∀ k, k ∈ ds ↔ k ∈ ns) (n : Int) : isOne ds n = isOne ns n := by
  unfold isOne
  rw [decide_eq_decide.mpr (m n)]
theorem oneV_mem {ds ns : List Int} (m : ∀ k, k ∈ ds ↔ k ∈ ns) (x : V) : oneV ds x = oneV ns x := by
  cases x <;> first | rfl | exact isOne_mem m _
theorem pairB_mem {ds ns : List Int} (m : ∀ k, k ∈ ds ↔ k ∈ ns) (xs : List V) : pairB ds xs = pairB ns xs := by
  unfold pairB
  rw [show oneV ds = oneV ns from funext fun x => oneV_mem m x]
theorem BarOk.mem_ {H : Hp} {ds ns : List Int} {p : Addr × List Int} (m : ∀ k, k ∈ ds ↔ k ∈ ns) (h : BarOk H ns p) : BarOk H ds p := by
  obtain ⟨x, y, e, hp, h1, h2⟩ := h
  exact ⟨x, y, e, hp, by rw [isOne_mem m, h1], by rw [isOne_mem m, h2]⟩
theorem BadBar.mem_ {H : Hp} {ds ns : List Int} {x : V} (m : ∀ k, k ∈ ds ↔ k ∈ ns) (h : BadBar H ns x) : BadBar H ds x := by
  rcases h with h | ⟨p, xs, e, hp, l, it, b⟩
  · exact .inl h
  · exact .inr ⟨p, xs, e, hp, l, it, by rw [pairB_mem m, b]⟩
def baseV : V → Bool
  | .int n => isBase n
  | _ => false
/-- the number of different ones is from 1 to 6 -/
def SixOf (ns : List Int) (six : Bool) : Prop := ∀ ks : List Int, ks.Nodup → (∀ k, k ∈ ks ↔ k ∈ ns) → (decide (1 ≤ ks.length) && decide (ks.length ≤ 6)) = six
/-- Scheme.__init__ of any values -/
def spNew (K : PySem.W.Frag) (C CB CD CP : Addr) : Sp := fun vs H Q E => ∃ (a dx : Addr) (x y z : V), vs = [.ref a, x, y, z] ∧ H a = some (.ins C dx []) ∧ ((ItemOk H x ∧ baseV x = false ∧ RaisedA a CB "value" x H E) ∨ ∃ b : Int, x = .int b ∧ isBase b = true ∧
  ((NoSeq H y ∧ RaisedA a CD "value" y H E) ∨ ∃ (p : Addr) (xs : List V), y = .ref p ∧ IsSeq K H p xs ∧ (∀ v ∈ xs, ItemOk H v) ∧ xs.length ≤ 60 ∧ (xs.all digV = false → RaisedA a CD "value" y H E) ∧
    ∀ ns : List Int, xs = ns.map V.int → ns.all dig = true → ∃ six : Bool, SixOf ns six ∧ (six = false → RaisedA a CD "value" y H E) ∧ (six = true →
      ((NoSeq H z ∧ RaisedA a CP "value" z H E) ∨ ∃ (l : Addr) (ks : List (Addr × List Int)) (rest : List V), z = .ref l ∧ IsSeq K H l (ks.map (fun p => V.ref p.1) ++ rest) ∧ ks.length < 64 ∧ (∀ p ∈ ks, BarOk H ns p) ∧
        ((∃ (u : V) (more : List V), rest = u :: more ∧ BadBar H ns u ∧ RaisedA a CP "value" u H E) ∨ (rest = [] ∧
          ∀ (ds : List Int) (L : List (Addr × List Int)) (t r : Addr) (H' : Hp), ds.Pairwise (· < ·) → (∀ k, k ∈ ds ↔ k ∈ ns) → (∀ p ∈ L, p ∈ ks) → (∀ p ∈ ks, p.2 ∈ L.map (·.2)) → (L.map (·.2)).Nodup → L.Pairwise (fun q r => SrtO.lexB (duo r.2) (duo q.2) = false) →
            But a H H' → H' a = some (.ins C dx [("_base", .int b), ("_digits", .ref t), ("_bars", .ref r)]) → H' t = some (.tup (ds.map V.int)) → H' r = some (.tup (L.map fun q => V.ref q.1)) → Q .non H'))))))
theorem scNew : FnScope ["self", "base", "digits", "bars"] ["self", "base", "digits", "bars"] (defScope sInit) := ⟨rfl, rfl, rfl, by decide +kernel, rfl, by decide +kernel, by decide +kernel⟩
set_option maxHeartbeats 2000000 in
theorem ok_new {f fB fD fP fI C CB CD CP : Addr} {fd fdB fdD fdP fdI : FuncData} (G : ∃ kws, FunD K "__init__" "Scheme.__init__" (defArgs sInit) (defBody sInit) (defScope sInit) [] kws f fd) (c : Cls K C) (n1 : NoAttr K C "_base") (n2 : NoAttr K C "_digits") (n3 : NoAttr K C "_bars")
    (GB : FnOk P w K mg base CX0 3 fB fdB ["value"] spIsBase) (gB : mg "is_base" = some (.ref fB)) (kB : PySem.W.keepIn K (.ref fB) = true) (bB : Binds K fdB ["value"] [])
    (GD : FnOk P w K mg base (L2.CX P w) 6 fD fdD ["digits"] (spDiffDig K CD)) (gD : mg "_different_digits" = some (.ref fD)) (kD : PySem.W.keepIn K (.ref fD) = true) (bD : Binds K fdD ["digits"] [])
    (GP : FnOk P w K mg base (L2.CX P w) 6 fP fdP ["digits", "bars"] (spDiffPair K CP)) (gP : mg "_different_pairs" = some (.ref fP)) (kP : PySem.W.keepIn K (.ref fP) = true) (bP : Binds K fdP ["digits", "bars"] [])
    (GI : FnOk P w K mg base CX0 3 fI fdI ["self", "value"] (spInit K "value" CB)) (T : ErrC K mg "InvalidBase" "value" CB fI) (bI : Binds K fdI ["self", "value"] []) :
    FnOk P w K mg base (L2.CX P w) 7 f fd ["self", "base", "digits", "bars"] (spNew K C CB CD CP) := by
  obtain ⟨kws, F⟩ := G
  refine F.ok scNew (fun vs H Q E h => ?_) (fun cdv A outer s H vs Q E hr h => ?_)
  · obtain ⟨a, dx, x, y, z, rfl, _⟩ := h
    rfl
  · obtain ⟨a, dx, x, y, z, rfl, ha, h⟩ := h
    have hr2 : Room 3 _ := hr.mono (by decide)
    have hr3 : Room 4 _ := hr.mono (by decide)
    have I0 : InsAt H a := ⟨_, _, _, ha⟩
    apply Exists.intro
    apply And.intro
    · apply pss_cons
      · exact ps_if (pt_not (pt_val (pe_call GB hr2 (by rfl) gB kB bB .nil pass0 (pa_cons (pv 1) pa_nil))))
          (pss_one (ps_raise rfl (takes_of rfl rfl rfl rfl) (pmk_oex T.ox T.iC T.tI GI hr3 bI .nil pass0 (by rfl) T.g (pa_cons (pv 1) pa_nil)))) pss_nil
      apply pss_cons
      · exact ps_fld (pv 0) (pv 1) rfl
      apply pss_cons
      · exact ps_fld (pv 0) (pe_call GD hr (by rfl) gD kD bD .nil (passes_call (W := fun cl d _ J => E cl d J) (takes_of rfl rfl rfl rfl) (fun _ _ _ _ z => z)) (pa_cons (pv 2) pa_nil)) rfl
      apply pss_one
      · exact ps_fld (pv 0) (pe_call GP hr (by rfl) gP kP bP .nil (passes_call (W := fun cl d _ J => E cl d J) (takes_of rfl rfl rfl rfl) (fun _ _ _ _ z => z)) (pa_cons (pe_fld (pv 0) rfl) (pa_cons (pv 3) pa_nil))) rfl
    rcases h with ⟨ix, bx, hE⟩ | ⟨b, rfl, hb, h⟩
    · have go := raised_ok (K := K) (σ := start ["self", "base", "digits", "bars"] [.ref a, x, y, z]) (D := { nx := fun _ H' => Q .non H', rt := Q }) (hE.at_ I0 But.refl) (Same.refl H)
      rcases ix with ⟨n, rfl⟩ | o
      · refine ⟨.int n, rfl, .int n, rfl, .inl ⟨n, rfl, ?_⟩⟩
        rw [show isBase n = false from bx]
        exact ⟨false, rfl, iteT ⟨.int n, rfl, go⟩⟩
      · exact ⟨x, rfl, x, rfl, .inr ⟨o, false, rfl, iteT ⟨x, rfl, go⟩⟩⟩
    refine ⟨.int b, rfl, .int b, rfl, .inl ⟨b, rfl, ?_⟩⟩
    rw [hb]
    refine ⟨true, rfl, iteF ?_⟩
    refine ⟨.int b, rfl, .ref a, rfl, a, C, dx, [], rfl, ha, c, n1, (by show 0 < 1000; decide), ?_⟩
    have t1 : But a H (upd H a (.ins C dx (putF "_base" (.int b) []))) := But.at_
    have e1 : (upd H a (.ins C dx (putF "_base" (.int b) []))) a = some (.ins C dx [("_base", .int b)]) := upd_same
    generalize upd H a (.ins C dx (putF "_base" (.int b) [])) = H1 at t1 e1 ⊢
    have I1 : InsAt H1 a := ⟨_, _, _, e1⟩
    rcases h with ⟨no, hE⟩ | ⟨p, xs, rfl, hp, it, hl, hE, h⟩
    · exact ⟨y, rfl, y, rfl, .inl ⟨noseq_but I0 t1 no, hE.at_ I1 t1⟩⟩
    refine ⟨.ref p, rfl, .ref p, rfl, .inr ⟨p, xs, rfl, isseq_but I0 t1 hp, (fun v hv => item_but I0 t1 (it v hv)), hl, (fun e => (hE e).at_ I1 t1), fun ns en hn => ?_⟩⟩
    obtain ⟨six, h6, hE6, h⟩ := h ns en hn
    refine ⟨six, h6, (fun e => (hE6 e).at_ I1 t1), fun e6 ds t H2 asc mds s2 ht et => ?_⟩
    have e2 : H2 a = some (.ins C dx [("_base", .int b)]) := s2 _ _ e1
    have nt : t ≠ a := fun z => by
      rw [z, e2] at et
      cases et
    refine ⟨.ref a, rfl, a, C, dx, _, rfl, e2, c, n2, (by show 1 < 1000; decide), ?_⟩
    have t3 : But a H (upd H2 a (.ins C dx (putF "_digits" (.ref t) [("_base", .int b)]))) := t1.trans ((But.of_same s2).trans But.at_)
    have e3 : (upd H2 a (.ins C dx (putF "_digits" (.ref t) [("_base", .int b)]))) a = some (.ins C dx (putF "_digits" (.ref t) [("_base", .int b)])) := upd_same
    have et3 : (upd H2 a (.ins C dx (putF "_digits" (.ref t) [("_base", .int b)]))) t = some (.tup (ds.map V.int)) := by rw [upd_ne nt]; exact et
    generalize upd H2 a (.ins C dx (putF "_digits" (.ref t) [("_base", .int b)])) = H3 at t3 e3 et3 ⊢
    have I3 : InsAt H3 a := ⟨_, _, _, e3⟩
    refine ⟨.ref a, rfl, a, C, dx, _, .ref t, rfl, e3, c, n2, (by rw [lookup_putF, if_pos rfl]), z, rfl, t, ds, z, rfl, SqT.of et3, ?_⟩
    rcases h e6 with ⟨no, hP⟩ | ⟨l, ks, rest, rfl, hl2, few, hk, h⟩
    · exact .inl ⟨noseq_but I0 t3 no, hP.at_ I3 t3⟩
    refine .inr ⟨l, ks, rest, rfl, isseq_but I0 t3 hl2, few, (fun p hp => (bar_but I0 t3 (hk p hp)).mem_ mds), ?_⟩
    rcases h with ⟨u, more, er, bad, hP⟩ | ⟨er, q⟩
    · exact .inl ⟨u, more, er, (bad_but I0 t3 bad).mem_ mds, hP.at_ I3 t3⟩
    refine .inr ⟨er, fun L r H4 sub all nd pw s4 er2 => ?_⟩
    have e4 := s4 _ _ e3
    have nr : r ≠ a := fun z => by
      rw [z, e4] at er2
      cases er2
    refine ⟨.ref a, rfl, a, C, dx, _, rfl, e4, c, n3, (by show 2 < 1000; decide), ?_⟩
    exact q ds L t r _ asc mds sub all nd pw (t3.trans ((But.of_same s4).trans But.at_)) upd_same (by rw [upd_ne nt]; exact s4 _ _ et3) (by rw [upd_ne nr]; exact er2)
end
end K31
namespace K31
open PySem PySem.Spec PyProof.Rows L2 OF
abbrev sPBase : Stmt := inClass (topS 58) 1
abbrev sPDigits : Stmt := inClass (topS 58) 2
abbrev sPBars : Stmt := inClass (topS 58) 3
abbrev sEq : Stmt := inClass (topS 58) 4
abbrev sLen : Stmt := inClass (topS 58) 5
section
variable {P : Program} {w : World} {K : PySem.W.Frag} {mg : Str → Option Value} {base : Heap}
/-! ### a scheme that stands in the heap -/
def pd2 (p : Int × Int) : PyData := .tuple [.int p.1, .int p.2]
structure SchemeAt (C : Addr) (H : Hp) (a t r : Addr) (b : Int) (ds : List Int) (ks : List (Addr × (Int × Int))) : Prop where
  ins : ∃ dx, H a = some (.ins C dx [("_base", .int b), ("_digits", .ref t), ("_bars", .ref r)])
  dig : H t = some (.tup (ds.map V.int))
  bar : H r = some (.tup (ks.map fun p => V.ref p.1))
  prs : ∀ p ∈ ks, H p.1 = some (.tup [.int p.2.1, .int p.2.2])
theorem SchemeAt.same {C : Addr} {H H' : Hp} {a t r : Addr} {b : Int} {ds : List Int} {ks : List (Addr × (Int × Int))} (h : SchemeAt C H a t r b ds ks) (s : Same H H') : SchemeAt C H' a t r b ds ks := by
  obtain ⟨⟨dx, h1⟩, h2, h3, h4⟩ := h
  exact ⟨⟨dx, s _ _ h1⟩, s _ _ h2, s _ _ h3, fun p hp => s _ _ (h4 p hp)⟩
theorem bars_dp {K : PySem.W.Frag} {H : Hp} : ∀ ks : List (Addr × (Int × Int)), (∀ p ∈ ks, H p.1 = some (.tup [.int p.2.1, .int p.2.2])) → DpAll K H (ks.map fun p => V.ref p.1) (ks.map fun p => pd2 p.2)
  | [], _ => .nil
  | p :: ks, h => .cons (.tup (SqT.of (h p List.mem_cons_self)) (.cons (.int _) (.cons (.int _) .nil))) (bars_dp ks fun q hq => h q (List.mem_cons_of_mem _ hq))
theorem bars_can : ∀ ks : List (Addr × (Int × Int)), PyData.canLayAll0 (ks.map fun p => pd2 p.2) = true ∧ PyData.depthAll (ks.map fun p => pd2 p.2) ≤ 1
  | [] => ⟨by simp only [List.map_nil, PyData.canLayAll0], by simp only [List.map_nil, PyData.depthAll]; omega⟩
  | p :: ks => by
    obtain ⟨h1, h2⟩ := bars_can ks
    refine ⟨?_, ?_⟩
    · rw [List.map_cons, PyData.canLayAll0, h1]
      simp only [pd2, PyData.canLay0, PyData.canLayAll0, Bool.and_true]
    · rw [List.map_cons, PyData.depthAll]
      simp only [pd2, PyData.depth, PyData.depthAll] at h2 ⊢
      omega
theorem bars_shaped (ks : List (Addr × (Int × Int))) : SeqAt.shaped (.tuple (ks.map fun p => pd2 p.2)) = true := by
  obtain ⟨h1, h2⟩ := bars_can ks
  refine shaped_of ?_ ?_
  · simp only [PyData.canLay0, h1]
  · simp only [PyData.depth]
    omega
theorem pd2_shaped (p : Int × Int) : SeqAt.shaped (pd2 p) = true := by
  refine shaped_of ?_ ?_
  · simp only [pd2, PyData.canLay0, PyData.canLayAll0, Bool.and_true]
  · simp only [pd2, PyData.depth, PyData.depthAll]
    omega
/-- whether a pair stands among the bars -/
def hasBar (ks : List (Addr × (Int × Int))) (n m : Int) : Bool := (ks.map fun p => pd2 p.2).any fun z => PyData.eqv z (pd2 (n, m))
theorem lk_digits {b : Int} {t r : Addr} : ([("_base", V.int b), ("_digits", .ref t), ("_bars", .ref r)] : List (Str × V)).lookup ("_digits" : Str) = some (.ref t) := by
  rw [lookup_put, if_neg (by decide), lookup_put, if_pos rfl]
theorem lk_bars {b : Int} {t r : Addr} : ([("_base", V.int b), ("_digits", .ref t), ("_bars", .ref r)] : List (Str × V)).lookup ("_bars" : Str) = some (.ref r) := by
  rw [lookup_put, if_neg (by decide), lookup_put, if_neg (by decide), lookup_put, if_pos rfl]
theorem lk_base {b : Int} {t r : Addr} : ([("_base", V.int b), ("_digits", .ref t), ("_bars", .ref r)] : List (Str × V)).lookup ("_base" : Str) = some (.int b) := by
  rw [lookup_put, if_pos rfl]
/-- what isinstance asks of the class -/
structure IsC (K : PySem.W.Frag) (C : Addr) : Prop where
  cl : Cls K C
  ha : PySem.W.findIn K (.ref C) "__class__" = some (some (.builtin "object.__class__"))
  hn : PySem.W.specialIn K (.builtin "object.__class__") "__get__" = some (some (.builtin "getset_descriptor.__get__"))
  ht : PySem.W.takesIn K (.builtin "object.__class__") = some true
  hm : PySem.W.mroIn K C (.type "object") = some true
  own : PySem.W.kitOne K (.ref C) (.ref C) = some true

/-- no built-in kind is of the class -/
def NotOf (K : PySem.W.Frag) (C : Addr) (H : Hp) (x : V) : Prop := ∃ t : Value, TyX K H x t ∧ PySem.W.kitOne K t (.ref C) = some false
def spEqS (C : Addr) : Sp := fun vs H Q _ => ∃ (a t r a2 t2 r2 : Addr) (b b2 : Int) (ds ds2 : List Int) (ks ks2 : List (Addr × (Int × Int))), vs = [.ref a, .ref a2] ∧ SchemeAt C H a t r b ds ks ∧ SchemeAt C H a2 t2 r2 b2 ds2 ks2 ∧ ds.length ≤ 60 ∧ ds2.length ≤ 60 ∧
  Q (.bl (decide (b = b2) && (PyData.eqv (.tuple (ds.map .int)) (.tuple (ds2.map .int)) && PyData.eqv (.tuple (ks.map fun p => pd2 p.2)) (.tuple (ks2.map fun p => pd2 p.2))))) H

/-- == of a scheme and any value -/
def spEqA (K : PySem.W.Frag) (C : Addr) : Sp := fun vs H Q E => spEqS C vs H Q E ∨ ∃ (a t r : Addr) (b : Int) (ds : List Int) (ks : List (Addr × (Int × Int))) (x : V), vs = [.ref a, x] ∧ SchemeAt C H a t r b ds ks ∧ NotOf K C H x ∧ Q (.bl false) H
theorem scEq : FnScope ["self", "other"] ["self", "other"] (defScope sEq) := ⟨rfl, rfl, rfl, by decide +kernel, rfl, by decide +kernel, by decide +kernel⟩
theorem dp_ints {K : PySem.W.Frag} {H : Hp} : ∀ ds : List Int, DpAll K H (ds.map V.int) (ds.map PyData.int)
  | [] => .nil
  | d :: ds => .cons (.int d) (dp_ints ds)
theorem ints_can : ∀ ds : List Int, PyData.canLayAll0 (ds.map PyData.int) = true ∧ PyData.depthAll (ds.map PyData.int) = 0
  | [] => ⟨by simp only [List.map_nil, PyData.canLayAll0], by simp only [List.map_nil, PyData.depthAll]⟩
  | d :: ds => by
    obtain ⟨h1, h2⟩ := ints_can ds
    refine ⟨?_, ?_⟩
    · rw [List.map_cons, PyData.canLayAll0, h1]
      simp only [PyData.canLay0, Bool.and_true]
    · rw [List.map_cons, PyData.depthAll, h2]
      simp only [PyData.depth, Nat.max_self]
theorem ints_shapedT (ds : List Int) : SeqAt.shaped (.tuple (ds.map .int)) = true := by
  obtain ⟨h1, h2⟩ := ints_can ds
  refine shaped_of ?_ ?_
  · simp only [PyData.canLay0, h1]
  · simp only [PyData.depth, h2]
    omega
theorem ints_shapedL (ds : List Int) : SeqAt.shaped (.list (ds.map .int)) = true := by
  obtain ⟨h1, h2⟩ := ints_can ds
  refine shaped_of ?_ ?_
  · simp only [PyData.canLay0, h1]
  · simp only [PyData.depth, h2]
    omega
set_option maxHeartbeats 1000000 in
theorem ok_eq {f C : Addr} {fd : FuncData} (F : Fun K "__eq__" "Scheme.__eq__" sEq f fd) (I : IsC K C) (n1 : NoAttr K C "_base") (n2 : NoAttr K C "_digits") (n3 : NoAttr K C "_bars") (gC : mg "Scheme" = some (.ref C)) (mis : mg "isinstance" = none) :
    FnOk P w K mg base CX0 1 f fd ["self", "other"] (spEqA K C) := by
  refine F.ok scEq (fun vs H Q E h => ?_) (fun cdv A outer s H vs Q E hr h => ?_)
  · rcases h with ⟨a, t, r, a2, t2, r2, b, b2, ds, ds2, ks, ks2, rfl, _⟩ | ⟨a, t, r, b, ds, ks, x, rfl, _⟩
    · rfl
    · rfl
  · apply Exists.intro
    apply And.intro
    · apply pss_one
      · exact ps_ret (pe_and (pe_callB call_isi (by rfl) mis PyProof.Rows.boot_isinstance (pa_cons (pv 1) (pa_cons (pe_glob (v := .ref C) (by rfl) gC rfl) pa_nil)))
          (pe_and (pe_cmpR op_eq (pe_fld (pv 0) rfl) (pe_fld (pv 1) rfl) (nomark _)) (pe_and (pe_cmpR (op_eqD hr.units) (pe_fld (pv 0) rfl) (pe_fld (pv 1) rfl) (nomark _)) (pe_one (pe_cmpR (op_eqD hr.units) (pe_fld (pv 0) rfl) (pe_fld (pv 1) rfl) (nomark _))))))
    rcases h with ⟨a, t, r, a2, t2, r2, b, b2, ds, ds2, ks, ks2, rfl, ⟨⟨dx, ha⟩, ht, hrr, hks⟩, ⟨⟨dx2, ha2⟩, ht2, hrr2, hks2⟩, l1, l2, q⟩ | ⟨a, t, r, b, ds, ks, x, rfl, S, ⟨ty, tyx, k⟩, q⟩
    case' inr => exact ⟨x, rfl, x, .ref C, ty, .ref C, false, rfl, .own C, tyx, k, false, rfl, iteF q⟩
    refine ⟨.ref a2, rfl, .ref a2, .ref C, .ref C, .ref C, true, rfl, .own C, .base (.ins ha2 I.cl I.ha I.hn I.ht I.hm), I.own, true, rfl, iteT ?_⟩
    refine ⟨.ref a, rfl, a, C, dx, _, .int b, rfl, ha, I.cl, n1, lk_base, .ref a2, rfl, a2, C, dx2, _, .int b2, rfl, ha2, I.cl, n1, lk_base, rfl, ?_⟩
    by_cases hb : b = b2
    · subst hb
      refine ⟨_, rfl, iteTB (decide_eq_true rfl) ?_⟩
      refine ⟨.ref a, rfl, a, C, dx, _, .ref t, rfl, ha, I.cl, n2, lk_digits, .ref a2, rfl, a2, C, dx2, _, .ref t2, rfl, ha2, I.cl, n2, lk_digits, .tuple (ds.map .int), .tuple (ds2.map .int), .tup (SqT.of ht) (dp_ints ds), .tup (SqT.of ht2) (dp_ints ds2), ints_shapedT ds, ints_shapedT ds2, _, rfl, ?_⟩
      rw [decide_eq_true rfl, Bool.true_and] at q
      refine iteAnd (fun z => ?_) q
      exact ⟨.ref a, rfl, a, C, dx, _, .ref r, rfl, ha, I.cl, n3, lk_bars, .ref a2, rfl, a2, C, dx2, _, .ref r2, rfl, ha2, I.cl, n3, lk_bars, .tuple (ks.map fun p => pd2 p.2), .tuple (ks2.map fun p => pd2 p.2), .tup (SqT.of hrr) (bars_dp ks hks), .tup (SqT.of hrr2) (bars_dp ks2 hks2), bars_shaped ks, bars_shaped ks2, z⟩
    · refine ⟨_, rfl, iteFB (decide_eq_false fun z => hb (V.int.inj z)) ?_⟩
      rw [decide_eq_false hb, Bool.false_and] at q
      exact q

/-! ### the properties, len -/
def spPB (C : Addr) : Sp := fun vs H Q _ => ∃ (a t r : Addr) (b : Int) (ds : List Int) (ks : List (Addr × (Int × Int))), vs = [.ref a] ∧ SchemeAt C H a t r b ds ks ∧ Q (.int b) H
def spPD (C : Addr) : Sp := fun vs H Q _ => ∃ (a t r : Addr) (b : Int) (ds : List Int) (ks : List (Addr × (Int × Int))), vs = [.ref a] ∧ SchemeAt C H a t r b ds ks ∧ Q (.ref t) H
def spPR (C : Addr) : Sp := fun vs H Q _ => ∃ (a t r : Addr) (b : Int) (ds : List Int) (ks : List (Addr × (Int × Int))), vs = [.ref a] ∧ SchemeAt C H a t r b ds ks ∧ Q (.ref r) H
def spLn (C : Addr) : Sp := fun vs H Q _ => ∃ (a t r : Addr) (b : Int) (ds : List Int) (ks : List (Addr × (Int × Int))), vs = [.ref a] ∧ SchemeAt C H a t r b ds ks ∧ Q (.int ds.length) H
theorem scPb : FnScope ["self"] ["self"] (defScope sPBase) := ⟨rfl, rfl, rfl, by decide +kernel, rfl, by decide +kernel, by decide +kernel⟩
theorem ok_pbase {f C : Addr} {fd : FuncData} (F : Fun K "base" "Scheme.base" sPBase f fd) (c : Cls K C) (n : NoAttr K C "_base") : FnOk P w K mg base CX0 1 f fd ["self"] (spPB C) := by
  refine F.ok scPb (fun vs H Q E h => ?_) (fun cdv A outer s H vs Q E hr h => ?_)
  · obtain ⟨a, t, r, b, ds, ks, rfl, _⟩ := h
    rfl
  · obtain ⟨a, t, r, b, ds, ks, rfl, S, q⟩ := h
    obtain ⟨⟨dx, hins⟩, _⟩ := id S
    exact ⟨_, pss_one (ps_ret (pe_fld (pv 0) rfl)), .ref a, rfl, a, C, dx, _, .int b, rfl, hins, c, n, lk_base, q⟩
theorem scPd : FnScope ["self"] ["self"] (defScope sPDigits) := ⟨rfl, rfl, rfl, by decide +kernel, rfl, by decide +kernel, by decide +kernel⟩
theorem ok_pdigits {f C : Addr} {fd : FuncData} (F : Fun K "digits" "Scheme.digits" sPDigits f fd) (c : Cls K C) (n : NoAttr K C "_digits") : FnOk P w K mg base CX0 1 f fd ["self"] (spPD C) := by
  refine F.ok scPd (fun vs H Q E h => ?_) (fun cdv A outer s H vs Q E hr h => ?_)
  · obtain ⟨a, t, r, b, ds, ks, rfl, _⟩ := h
    rfl
  · obtain ⟨a, t, r, b, ds, ks, rfl, S, q⟩ := h
    obtain ⟨⟨dx, hins⟩, _⟩ := id S
    exact ⟨_, pss_one (ps_ret (pe_fld (pv 0) rfl)), .ref a, rfl, a, C, dx, _, .ref t, rfl, hins, c, n, lk_digits, q⟩
theorem scPr : FnScope ["self"] ["self"] (defScope sPBars) := ⟨rfl, rfl, rfl, by decide +kernel, rfl, by decide +kernel, by decide +kernel⟩
theorem ok_pbars {f C : Addr} {fd : FuncData} (F : Fun K "bars" "Scheme.bars" sPBars f fd) (c : Cls K C) (n : NoAttr K C "_bars") : FnOk P w K mg base CX0 1 f fd ["self"] (spPR C) := by
  refine F.ok scPr (fun vs H Q E h => ?_) (fun cdv A outer s H vs Q E hr h => ?_)
  · obtain ⟨a, t, r, b, ds, ks, rfl, _⟩ := h
    rfl
  · obtain ⟨a, t, r, b, ds, ks, rfl, S, q⟩ := h
    obtain ⟨⟨dx, hins⟩, _⟩ := id S
    exact ⟨_, pss_one (ps_ret (pe_fld (pv 0) rfl)), .ref a, rfl, a, C, dx, _, .ref r, rfl, hins, c, n, lk_bars, q⟩
theorem scLn : FnScope ["self"] ["self"] (defScope sLen) := ⟨rfl, rfl, rfl, by decide +kernel, rfl, by decide +kernel, by decide +kernel⟩
theorem ok_len {f C : Addr} {fd : FuncData} (F : Fun K "__len__" "Scheme.__len__" sLen f fd) (c : Cls K C) (n : NoAttr K C "_digits") (ml : mg "len" = none) : FnOk P w K mg base CX0 1 f fd ["self"] (spLn C) := by
  refine F.ok scLn (fun vs H Q E h => ?_) (fun cdv A outer s H vs Q E hr h => ?_)
  · obtain ⟨a, t, r, b, ds, ks, rfl, _⟩ := h
    rfl
  · obtain ⟨a, t, r, b, ds, ks, rfl, S, q⟩ := h
    obtain ⟨⟨dx, hins⟩, ht, _⟩ := id S
    refine ⟨_, pss_one (ps_ret (pe_callB call_len_seq (by rfl) ml PySem.boot_len (pa_cons (pe_fld (pv 0) rfl) pa_nil))), .ref a, rfl, a, C, dx, _, .ref t, rfl, hins, c, n, lk_digits, t, _, rfl, .inr (SqT.of ht), ?_⟩
    rw [List.length_map]
    exact q
end
end K31
namespace K31
open PySem PySem.Spec PyProof.Rows L2 OF
abbrev sHas : Stmt := inClass (topS 58) 7
abbrev sValueOf : Stmt := inClass (topS 58) 10
section
variable {P : Program} {w : World} {K : PySem.W.Frag} {mg : Str → Option Value} {base : Heap}
/-- allows -/
def spAllows (C : Addr) : Sp := fun vs H Q _ => ∃ (a t r : Addr) (b : Int) (ds : List Int) (ks : List (Addr × (Int × Int))) (x y : V), vs = [.ref a, x, y] ∧ SchemeAt C H a t r b ds ks ∧
  ((Odd H x ∧ ∀ H', Same H H' → Q (.bl false) H') ∨ ∃ n : Int, x = .int n ∧
    ((y = .non ∧ ∀ H', Same H H' → Q (.bl (isOne ds n)) H') ∨ (∃ m : Int, y = .int m ∧ ∀ H', Same H H' → Q (.bl (isOne ds n && (isOne ds m && !hasBar ks n m))) H') ∨ (Odd H y ∧ y ≠ .non ∧ ∀ H', Same H H' → Q (.bl false) H')))
theorem scAl : FnScope ["self", "left", "right"] ["self", "left", "right"] (defScope sAllows) := ⟨rfl, rfl, rfl, by decide +kernel, rfl, by decide +kernel, by decide +kernel⟩
theorem ok_allows {f fO C : Addr} {fd fdO : FuncData} (F : Fun K "allows" "Scheme.allows" sAllows f fd) (c : Cls K C) (n2 : NoAttr K C "_digits") (n3 : NoAttr K C "_bars")
    (GO : FnOk P w K mg base CX0 4 fO fdO ["digits", "value"] (spOneOf K)) (gO : mg "_is_one_of" = some (.ref fO)) (kO : PySem.W.keepIn K (.ref fO) = true) (bO : Binds K fdO ["digits", "value"] []) : FnOk P w K mg base CX0 5 f fd ["self", "left", "right"] (spAllows C) := by
  refine F.ok scAl (fun vs H Q E h => ?_) (fun cdv A outer s H vs Q E hr h => ?_)
  · obtain ⟨a, t, r, b, ds, ks, x, y, rfl, _⟩ := h
    rfl
  · obtain ⟨a, t, r, b, ds, ks, x, y, rfl, ⟨⟨dx, ha⟩, ht, hrr, hks⟩, h⟩ := h
    have hu : A.units + 3 + 65 < cLine := by
      have := hr.un
      have e : (A.deeper (envOfC "Scheme.allows" (defScope sAllows) s.heap.objs.size f cdv)).units = A.units + 3 := rfl
      omega
    apply Exists.intro
    apply And.intro
    · apply pss_cons
      · exact ps_if (pt_not (pt_val (pe_call GO hr (by rfl) gO kO bO .nil pass0 (pa_cons (pe_fld (pv 0) rfl) (pa_cons (pv 1) pa_nil))))) (pss_one (ps_ret pe_bl)) pss_nil
      apply pss_cons
      · exact ps_if (pt_cmpR op_isN (pv 2) pe_non (nomark _)) (pss_one (ps_ret pe_bl)) pss_nil
      apply pss_one
      · exact ps_ret (pe_and (pe_call GO hr (by rfl) gO kO bO .nil pass0 (pa_cons (pe_fld (pv 0) rfl) (pa_cons (pv 2) pa_nil))) (pe_one (pe_cmpR (op_notInT hu) (pe_tup (pa_cons (pv 1) (pa_cons (pv 2) pa_nil))) (pe_fld (pv 0) rfl) rfl)))
    rcases h with ⟨o, q⟩ | ⟨n, rfl, h⟩
    · refine ⟨.ref a, rfl, a, C, dx, _, .ref t, rfl, ha, c, n2, lk_digits, x, rfl, t, ds, x, rfl, SqT.of ht, .inr ⟨o, false, rfl, iteT ?_⟩⟩
      exact q H (Same.refl H)
    · refine ⟨.ref a, rfl, a, C, dx, _, .ref t, rfl, ha, c, n2, lk_digits, .int n, rfl, t, ds, .int n, rfl, SqT.of ht, .inl ⟨n, rfl, _, rfl, ?_⟩⟩
      cases hb : (dig n && decide (n ∈ ds)) with
      | false =>
        refine iteT ?_
        have e1 : isOne ds n = false := hb
        rcases h with ⟨_, q⟩ | ⟨m, _, q⟩ | ⟨_, _, q⟩
        · have z := q H (Same.refl H)
          rw [e1] at z
          exact z
        · have z := q H (Same.refl H)
          rw [e1] at z
          exact z
        · exact q H (Same.refl H)
      | true =>
        refine iteF ?_
        have e1 : isOne ds n = true := hb
        rcases h with ⟨rfl, q⟩ | ⟨m, rfl, q⟩ | ⟨o, ny, q⟩
        · have z := q H (Same.refl H)
          rw [e1] at z
          exact ⟨.non, rfl, rfl, _, rfl, iteTB (decide_eq_true rfl) z⟩
        · refine ⟨.int m, rfl, rfl, _, rfl, iteFB (decide_eq_false (fun z => nomatch z)) ?_⟩
          refine ⟨.ref a, rfl, a, C, dx, _, .ref t, rfl, ha, c, n2, lk_digits, .int m, rfl, t, ds, .int m, rfl, SqT.of ht, .inl ⟨m, rfl, _, rfl, ?_⟩⟩
          cases hm : (dig m && decide (m ∈ ds)) with
          | false =>
            refine iteF ?_
            have e2 : isOne ds m = false := hm
            have z := q H (Same.refl H)
            rw [e1, e2] at z
            exact z
          | true =>
            refine iteT ?_
            have e2 : isOne ds m = true := hm
            refine ⟨.int n, rfl, .int m, rfl, (by show 2 ≤ sizeLine; decide), fun T hT => ?_⟩
            have s1 := same_new (o := .tup [.int n, .int m]) hT
            have z := q _ s1
            rw [e1, e2] at z
            refine ⟨.ref a, rfl, a, C, dx, _, .ref r, rfl, s1 _ _ ha, c, n3, lk_bars, pd2 (n, m), (ks.map fun (p : Addr × (Int × Int)) => pd2 p.2), .tup (SqT.of upd_same) (.cons (.int n) (.cons (.int m) .nil)), .tup (SqT.of (s1 _ _ hrr)) (bars_dp ks fun p hp => s1 _ _ (hks p hp)), pd2_shaped _, bars_shaped ks, (by rw [Bool.true_and, Bool.true_and] at z; exact z)⟩
        · refine ⟨y, rfl, rfl, _, rfl, iteFB (decide_eq_false ny) ?_⟩
          exact ⟨.ref a, rfl, a, C, dx, _, .ref t, rfl, ha, c, n2, lk_digits, y, rfl, t, ds, y, rfl, SqT.of ht, .inr ⟨o, _, rfl, iteF (q H (Same.refl H))⟩⟩
/-! ### row in scheme -/
/-- what allows says of two values -/
def jdg (ds : List Int) (ks : List (Addr × (Int × Int))) : V → V → Bool
  | .int n, .non => isOne ds n
  | .int n, .int m => isOne ds n && (isOne ds m && !hasBar ks n m)
  | _, _ => false
def rowB (ds : List Int) (ks : List (Addr × (Int × Int))) (xs : List V) : Bool := (xs.zip (xs.tail ++ [V.non])).all fun p => jdg ds ks p.1 p.2
theorem allows_of {C : Addr} {H : Hp} {a t r : Addr} {b : Int} {ds : List Int} {ks : List (Addr × (Int × Int))} {x y : V} {Q : VK} {E : XK} (S : SchemeAt C H a t r b ds ks) (hx : ItemOk H x) (hy : ItemOk H y ∨ y = .non) (q : ∀ H', Same H H' → Q (.bl (jdg ds ks x y)) H') :
    spAllows C [.ref a, x, y] H Q E := by
  refine ⟨a, t, r, b, ds, ks, x, y, rfl, S, ?_⟩
  rcases hx with ⟨n, rfl⟩ | o
  · refine .inr ⟨n, rfl, ?_⟩
    rcases hy with (⟨m, rfl⟩ | o) | rfl
    · exact .inr (.inl ⟨m, rfl, q⟩)
    · by_cases e : y = .non
      · subst e
        exact .inl ⟨rfl, q⟩
      · refine .inr (.inr ⟨o, e, fun H' s => ?_⟩)
        have z := q H' s
        have e2 : jdg ds ks (.int n) y = false := by
          cases o with
          | non => exact absurd rfl e
          | bl b => rfl
          | str z => rfl
          | lst e => rfl
          | tup e => rfl
          | dK e => rfl
        rw [e2] at z
        exact z
    · exact .inl ⟨rfl, q⟩
  · refine .inl ⟨o, fun H' s => ?_⟩
    have z := q H' s
    have e2 : jdg ds ks x y = false := by
      cases o with
      | non => rfl
      | bl b => rfl
      | str z => rfl
      | lst e => rfl
      | tup e => rfl
      | dK e => rfl
    rw [e2] at z
    exact z
def spHas (C : Addr) : Sp := fun vs H Q _ => ∃ (a t r : Addr) (b : Int) (ds : List Int) (ks : List (Addr × (Int × Int))) (x : V), vs = [.ref a, x] ∧ SchemeAt C H a t r b ds ks ∧
  ((NoTup H x ∧ ∀ H', Same H H' → Q (.bl false) H') ∨ ∃ (p : Addr) (xs : List V), x = .ref p ∧ H p = some (.tup xs) ∧ xs.length ≤ 1000 ∧ (∀ y ∈ xs, ItemOk H y) ∧ ∀ H', Same H H' → Q (.bl (rowB ds ks xs)) H')
abbrev nHa : List Str := ["self", "row", "left", "right"]
theorem scHa : FnScope nHa ["self", "row"] (defScope sHas) := ⟨rfl, rfl, rfl, by decide +kernel, rfl, by decide +kernel, by decide +kernel⟩
theorem cutV_tail (xs : List V) : cutV xs (some 1) none = xs.tail := by
  unfold cutV
  cases xs with
  | nil => rfl
  | cons x l =>
    show ((x :: l).drop (HT.sIx (l.length + 1) 0 (some 1))).take (HT.sIx (l.length + 1) (l.length + 1) none - HT.sIx (l.length + 1) 0 (some 1)) = l
    have e1 : HT.sIx (l.length + 1) 0 (some 1) = 1 := by
      unfold HT.sIx
      simp <;> omega
    have e2 : HT.sIx (l.length + 1) (l.length + 1) none = l.length + 1 := rfl
    rw [e1, e2]
    show l.take (l.length + 1 - 1) = l
    rw [Nat.add_sub_cancel, List.take_length]
set_option maxHeartbeats 2000000 in
theorem ok_has {f fA C : Addr} {fd fdA : FuncData} (F : Fun K "__contains__" "Scheme.__contains__" sHas f fd) (c : Cls K C) (mA : Meth K C "allows" fA)
    (GA : FnOk P w K mg base CX0 5 fA fdA ["self", "left", "right"] (spAllows C)) (bA : Binds K fdA ["self", "left", "right"] [])
    (mis : mg "isinstance" = none) (mt : mg "tuple" = none) (mall : mg "all" = none) (mz : mg "zip" = none) : FnOk P w K mg base CX0 6 f fd ["self", "row"] (spHas C) := by
  refine F.ok scHa (fun vs H Q E h => ?_) (fun cdv A outer s H vs Q E hr h => ?_)
  · obtain ⟨a, t, r, b, ds, ks, x, rfl, _⟩ := h
    rfl
  · obtain ⟨a, t, r, b, ds, ks, x, rfl, S, h⟩ := h
    apply Exists.intro
    apply And.intro
    · apply pss_cons
      · exact ps_if (pt_not (pt_val (pe_callB call_isi (by rfl) mis PyProof.Rows.boot_isinstance (pa_cons (pv 1) (pa_cons (pe_bltn (v := .ty "tuple") (by rfl) mt (by decide +kernel) rfl) pa_nil))))) (pss_one (ps_ret pe_bl)) pss_nil
      apply pss_one
      · exact ps_ret (pe_callB (cr_all rfl) (by rfl) mall (by decide +kernel) (pa_cons (pe_lc (own := [("left", 2), ("right", 3)]) (g := gTup K 2 (gCons (gName 2) (gCons (gName 3) gNil))) (tt := tYes) (te := tMeth C "allows" (spAllows C) [] E0 (tVar 0) (tCons (tVar 2) (tCons (tVar 3) tNil))) rfl scHa.nd
          (RZ.pi_zipA (by rfl) mz (pa_cons (pv 1) (pa_cons (pe_op op_cat2 (pe_slice sl_tup2 (pv 1) (po_some pe_int) po_none) (pe_tup (pa_cons pe_non pa_nil))) pa_nil)))
          (blkOk_by (own := [("left", 2), ("right", 3)]) (N := nHa) (sc := defScope sHas) (by decide +kernel)) (fun _ _ _ _ _ => by exact (pg_tup rfl (pgs_cons (pg_name (i := 2) scHa.nd rfl (Or.inl rfl)) (pgs_cons (pg_name (i := 3) scHa.nd rfl (Or.inl rfl)) pgs_nil))))
          (fun _ _ _ _ _ => pts_nil) (fun _ _ _ _ _ => by exact (pe_meth (pv 0) c mA GA hr bA .nil pass0 (pa_cons (pv 2) (pa_cons (pv 3) pa_nil))))) pa_nil))
    rcases h with ⟨no, q⟩ | ⟨p, xs, rfl, hp, hlen, hit, q⟩
    · obtain ⟨ty, h1, h2⟩ := no.kit (K := K)
      exact ⟨x, rfl, x, .ty "tuple", ty, .type "tuple", false, rfl, .ty _, h1, h2, false, rfl, iteT (q H (Same.refl H))⟩
    · refine ⟨.ref p, rfl, .ref p, .ty "tuple", .type "tuple", .type "tuple", true, rfl, .ty _, .base (.tup hp), kit_ty (by decide +kernel), true, rfl, iteF ?_⟩
      refine ⟨.ref p, rfl, .ref p, rfl, 1, rfl, p, xs, rfl, hp, fun p1 H1 s1 e1 => ?_⟩
      rw [cutV_tail] at e1
      have lt : xs.tail.length ≤ 1000 := by
        rw [List.length_tail]
        omega
      refine ⟨(by show 1 ≤ sizeLine; decide), fun p2 hp2 => ?_⟩
      have s2 := same_new (o := .tup [.non]) hp2
      refine ⟨p1, p2, xs.tail, [.non], rfl, rfl, s2 _ _ e1, upd_same, (by rw [sizeLine_eq]; show xs.tail.length + 1 ≤ _; omega), fun p3 H3 s3 e3 => ?_⟩
      have sA : Same H H3 := s1.trans (s2.trans s3)
      refine ⟨p, p3, xs, xs.tail ++ [.non], rfl, .inr ⟨SqT.of (sA _ _ hp), SqT.of e3, fun D hD => ?_⟩⟩
      have lz : xs.length ≤ (xs.tail ++ [V.non]).length := by
        rw [List.length_append, List.length_tail]
        show xs.length ≤ xs.length - 1 + 1
        omega
      refine lc_it (walk_zipT (K := K) (a := p) (b := p3) (xs := xs) (ys := xs.tail ++ [.non]) (n := xs.length) rfl lz) (fun i H' => Same H3 H' ∧ H' D = some (.lst (((xs.zip (xs.tail ++ [V.non])).take i).map fun z => V.bl (jdg ds ks z.1 z.2)))) ⟨same_new hD, upd_same⟩ (fun i H' _ h => ⟨SqT.of (h.1 _ _ (sA _ _ hp)), SqT.of (h.1 _ _ e3)⟩) ?_ ?_
      · rintro i v H4 H5 hi ⟨s4, e4⟩ ⟨T, x, y, rfl, hT, rfl, hx, hy⟩
        have hz : (xs.zip (xs.tail ++ [V.non]))[i]? = some (x, y) := by
          rw [List.getElem?_zip_eq_some]
          exact ⟨hx, hy⟩
        have s5 := same_new (o := .tup [x, y]) hT
        have sB : Same H (upd H4 T (.tup [x, y])) := sA.trans (s4.trans s5)
        refine ⟨T, [x, y], rfl, SqT.of upd_same, rfl, x, [y], rfl, y, [], rfl, rfl, rfl, tYes_if ?_⟩
        obtain ⟨⟨dx, hins⟩, _⟩ := S.same sB
        refine ⟨.ref a, rfl, a, dx, _, rfl, hins, rfl, x, rfl, y, rfl, ?_⟩
        dsimp only [tNil]
        refine allows_of (S.same sB) ((hit x (List.mem_of_getElem? hx)).same sB) ?_ fun H6 s6 => ?_
        · have my := List.mem_of_getElem? hy
          rcases List.mem_append.mp my with h | h
          · exact .inl ((hit y (List.mem_of_mem_tail h)).same sB)
          · exact .inr (List.mem_singleton.mp h)
        · have eD := s6 _ _ (s5 _ _ e4)
          refine ⟨_, eD, ?_, ?_, ?_⟩
          · rw [List.length_map]
            refine Nat.lt_of_le_of_lt (List.length_take_le' _ _) ?_
            rw [List.length_zip]
            exact small1000 (by omega)
          · exact Same.store (s4.trans (s5.trans s6)) hD
          · rw [upd_same, take_more hz, List.map_append]
            rfl
      · rintro H4 ⟨s4, e4⟩
        have el : (xs.zip (xs.tail ++ [V.non])).take xs.length = xs.zip (xs.tail ++ [V.non]) := List.take_of_length_le (by rw [List.length_zip]; omega)
        rw [el] at e4
        refine ⟨D, (xs.zip (xs.tail ++ [V.non])).map fun z => jdg ds ks z.1 z.2, rfl, SqL.of (by rw [e4, List.map_map]; rfl), ?_⟩
        have z := q H4 (sA.trans s4)
        rw [List.all_map]
        exact z

/-! ### value_of -/
def valI (b : Int) (ns : List Int) : Int := ns.foldl (fun v d => v * b + d) 0
theorem jdg_int {ds : List Int} {ks : List (Addr × (Int × Int))} {x y : V} (h : jdg ds ks x y = true) : ∃ n : Int, x = .int n := by
  cases x with
  | int n => exact ⟨n, rfl⟩
  | _ => cases h
theorem row_ints {ds : List Int} {ks : List (Addr × (Int × Int))} : ∀ {xs : List V}, (∀ (i : Nat) x, xs[i]? = some x → ∃ n : Int, x = .int n) → ∃ ns : List Int, xs = ns.map V.int
  | [], _ => ⟨[], rfl⟩
  | x :: xs, h => by
    obtain ⟨n, e⟩ := h 0 x rfl
    obtain ⟨ns, e2⟩ := row_ints (ds := ds) (ks := ks) (xs := xs) fun i y hy => h (i + 1) y hy
    exact ⟨n :: ns, by rw [e, e2]; rfl⟩
theorem rowB_ints {ds : List Int} {ks : List (Addr × (Int × Int))} {xs : List V} (h : rowB ds ks xs = true) : ∃ ns : List Int, xs = ns.map V.int := by
  refine row_ints (ds := ds) (ks := ks) fun i x hx => ?_
  have hi : i < xs.length := (List.getElem?_eq_some_iff.mp hx).1
  have hl : i < (xs.tail ++ [V.non]).length := by
    rw [List.length_append, List.length_tail]
    show i < xs.length - 1 + 1
    omega
  have hz : (xs.zip (xs.tail ++ [V.non]))[i]? = some (x, (xs.tail ++ [V.non])[i]) := by
    rw [List.getElem?_zip_eq_some]
    exact ⟨hx, List.getElem?_eq_getElem hl⟩
  exact jdg_int (List.all_eq_true.mp h _ (List.mem_of_getElem? hz))
def spValueOf (C CR : Addr) : Sp := fun vs H Q E => ∃ (a t r : Addr) (b : Int) (ds : List Int) (ks : List (Addr × (Int × Int))) (x : V), vs = [.ref a, x] ∧ SchemeAt C H a t r b ds ks ∧ b.natAbs ≤ 6 ∧
  ((NoTup H x ∧ Raised CR "row" x H E) ∨ ∃ (p : Addr) (xs : List V), x = .ref p ∧ H p = some (.tup xs) ∧ xs.length ≤ 1000 ∧ (∀ y ∈ xs, ItemOk H y) ∧ (∀ ns : List Int, xs = ns.map V.int → rowB ds ks xs = true → ∀ H', Same H H' → Q (.int (valI b ns)) H') ∧ (rowB ds ks xs = false → Raised CR "row" x H E))
abbrev nVo : List Str := ["self", "row", "value", "digit"]
theorem scVo : FnScope nVo ["self", "row"] (defScope sValueOf) := ⟨rfl, rfl, rfl, by decide +kernel, rfl, by decide +kernel, by decide +kernel⟩
theorem ok_valueof {f fH fI C CR : Addr} {fd fdH fdI : FuncData} (F : Fun K "value_of" "Scheme.value_of" sValueOf f fd) (c : Cls K C) (n1 : NoAttr K C "_base") (mH : Meth K C "__contains__" fH)
    (GH : FnOk P w K mg base CX0 6 fH fdH ["self", "row"] (spHas C)) (bH : Binds K fdH ["self", "row"] [])
    (GI : FnOk P w K mg base CX0 3 fI fdI ["self", "row"] (spInit K "row" CR)) (T : ErrC K mg "InvalidRow" "row" CR fI) (bI : Binds K fdI ["self", "row"] []) :
    FnOk P w K mg base (L2.CX P w) 7 f fd ["self", "row"] (spValueOf C CR) := by
  refine F.okX scVo (fun vs H Q E h => ?_) (fun cdv A outer s H vs Q E hr h => ?_)
  · obtain ⟨a, t, r, b, ds, ks, x, rfl, _⟩ := h
    rfl
  · obtain ⟨a, t, r, b, ds, ks, x, rfl, S, hb, h⟩ := h
    have hr3 : Room 3 _ := hr.mono (by decide)
    have hr4 : Room 4 _ := hr.mono (by decide)
    apply Exists.intro
    apply And.intro
    · apply pss_cons
      · exact ps_if (pt_cmpR (op_notInOwn mH.at_ mH.fn GH bH hr pass0) (pv 1) (pv 0) rfl) (pss_one (ps_raise rfl (takes_of rfl rfl rfl rfl) (pmk_oex T.ox T.iC T.tI GI hr4 bI .nil pass0 (by rfl) T.g (pa_cons (pv 1) pa_nil)))) pss_nil
      apply pss_cons
      · exact ps_set (i := 2) scVo.nd rfl (.inl rfl) pe_int
      apply pss_cons
      · exact ps_for (passes_of rfl) rfl (pi_tup (pv 1)) (pg_name (i := 3) scVo.nd rfl (.inl rfl)) (pss_one (ps_set (i := 2) scVo.nd rfl (.inl rfl) (pe_op op_add (pe_op op_mul (pv 2) (pe_fld (pv 0) rfl)) (pv 3))))
      apply pss_one
      · exact ps_ret (pv 2)
    have S0 := S
    obtain ⟨⟨dx, hins⟩, _⟩ := S0
    rcases h with ⟨no, hE⟩ | ⟨p, xs, rfl, hp, hlen, hit, hq, hE⟩
    · refine ⟨x, rfl, .ref a, rfl, a, dx, _, rfl, hins, a, t, r, b, ds, ks, x, rfl, S, .inl ⟨no, fun H' s' => ⟨false, rfl, true, rfl, iteT ?_⟩⟩⟩
      exact ⟨x, rfl, raised_ok (σ := start nVo [.ref a, x]) (D := { nx := fun _ H' => Q .non H', rt := Q }) hE s'⟩
    · refine ⟨.ref p, rfl, .ref a, rfl, a, dx, _, rfl, hins, a, t, r, b, ds, ks, .ref p, rfl, S, .inr ⟨p, xs, rfl, hp, hlen, hit, fun H' s' => ⟨_, rfl, _, rfl, ?_⟩⟩⟩
      cases hrb : rowB ds ks xs with
      | false => exact iteT ⟨.ref p, rfl, raised_ok (σ := start nVo [.ref a, .ref p]) (D := { nx := fun _ H' => Q .non H', rt := Q }) (hE hrb) s'⟩
      | true =>
        refine iteF ?_
        obtain ⟨ns, rfl⟩ := rowB_ints hrb
        have hp' := s' _ _ hp
        refine ⟨.ref p, rfl, p, rfl, ⟨_, SqT.of hp'⟩, for_tup (K := K) (a := p) (xs := ns.map V.int) (fun i σ H2 => (∃ v, σ = [some (.ref a), some (.ref p), some (.int (valI b (ns.take i))), v]) ∧ H2 = H') ⟨⟨none, rfl⟩, rfl⟩ (fun i σ H2 _ h => by rw [h.2]; exact SqT.of hp') ?_ ?_⟩
        · rintro i x σ H2 hx ⟨⟨v, rfl⟩, rfl⟩
          obtain ⟨n, hn, rfl⟩ := get_map hx
          refine ⟨_, rfl, .ref a, rfl, a, C, dx, _, .int b, rfl, s' _ _ hins, c, n1, lk_base, _, _, rfl, rfl, .inr ⟨by omega, by omega⟩, .int n, rfl, _, _, rfl, rfl, ⟨some (.int n), ?_⟩, rfl⟩
          rw [take_more hn]
          unfold valI
          rw [List.foldl_append]
          rfl
        · rintro σ H2 ⟨⟨v, rfl⟩, rfl⟩
          rw [List.length_map, List.take_length]
          exact ⟨_, rfl, hq ns rfl hrb _ s'⟩

/-! ### == -/
end
end K31
/-! Dicts whose keys are None and ints, and those whose keys are tuples of such. -/
namespace OF
open PySem PySem.Spec PyProof.Rows L2
/-- a key: None or an int -/
abbrev KeyN := Option Int
def nV : KeyN → V
  | none => .non
  | some i => .int i
def nIs : KeyN → Value → Bool
  | none, .none => true
  | some i, v => Value.isInt i v
  | _, _ => false
def nHash : KeyN → Int
  | none => 0xFCA86420
  | some i => hashInt i
theorem nIs_shape : ∀ {k : KeyN} {v : Value}, nIs k v = true → (k = none ∧ v = .none) ∨ ∃ i t, k = some i ∧ v = .int i t
  | none, v, h => by
    cases v <;> first | exact .inl ⟨rfl, rfl⟩ | exact nomatch h
  | some i, v, h => by
    obtain ⟨t, e⟩ := Value.isInt_shape (k := i) (v := v) h
    exact .inr ⟨i, t, rfl, e⟩
section
variable {prog : Program} {w : World} {A : Around} {E : Value → Shared → Prop} {s : Shared}
theorem wpAny_pyHash_none {Q : Int → Shared → Prop} (h : Q 0xFCA86420 { s with toks := s.toks + 1 }) : wpAny (model prog w) A (pyHash .none) Q E s := by
  have T : s.TypeIs .none "NoneType" := rfl
  have seen := F.slot_NoneType_hash
  unfold pyHash pyHashByItsType
  refine wpAny_bind ?_
  rw [cRoomFor, if_neg (by exact Bool.false_ne_true)]
  refine wpAny_pure ?_
  refine wpAny_bind (wpAny_specialOf T seen.lookup ?_)
  show wpAny _ _ (if (some (Value.builtin "NoneType.__hash__") == some Value.none) = true then _ else _) Q E s
  rw [if_neg (by rw [beq_builtin_none]; exact Bool.false_ne_true)]
  refine wpAny_bind (wpAny_specialOf T seen.lookup ?_)
  show wpAny _ _ (callSpecialIfBoundUnlessNone? .none "__hash__" _ >>= _) Q E s
  refine wpAny_bind (wpAny_callSpecialIfBoundUnlessNone?_slot T seen
    (wpAny_call_entry seen T F.entry_NoneType_hash (show wpAny _ _ (do ret (← mkInt 0xFCA86420)) _ _ s from wpAny_ret_mkInt ?_) (F.args_NoneType_hash_1 _)))
  show wpAny _ _ (if (decide (-(2 : Int) ^ 63 ≤ (0xFCA86420 : Int)) && decide ((0xFCA86420 : Int) < 2 ^ 63)) = true then _ else _) Q E _
  rw [if_pos (by decide)]
  exact wpAny_pure h
end
/-- the keys None and the ints, as kinds of keys go -/
def nKind (prog : Program) (w : World) : PySem.KeyKind prog w KeyN where
  is := nIs
  hash := nHash
  inj := fun v a b ha hb => by
    rcases nIs_shape ha with ⟨rfl, rfl⟩ | ⟨i, t, rfl, rfl⟩ <;> rcases nIs_shape hb with ⟨rfl, e⟩ | ⟨j, u, rfl, e⟩
    · rfl
    · cases e
    · cases e
    · cases e
      rfl
  byValue := fun k v h => by
    rcases nIs_shape h with ⟨rfl, rfl⟩ | ⟨i, t, rfl, rfl⟩ <;> rfl
  pyHash := fun hv h => by
    rcases nIs_shape hv with ⟨rfl, rfl⟩ | ⟨i, t, rfl, rfl⟩
    · exact wpAny_pyHash_none h
    · exact wpAny_pyHash_int h
  eqBool := fun hu hv h => by
    rcases nIs_shape hu with ⟨rfl, rfl⟩ | ⟨i, t, rfl, rfl⟩ <;> rcases nIs_shape hv with ⟨rfl, rfl⟩ | ⟨j, u, rfl, rfl⟩
    · unfold eqBool
      refine wpAny_holding ?_
      exact wpAny_ite_split (fun _ => wpAny_bind (wpAny_rule (wpAny_pure h))) (fun ne => absurd rfl ne)
    · exact SeqAt.EqAt.none_int j u _ _ _ _ h
    · exact SeqAt.EqAt.int_none i t _ _ _ _ h
    · refine wpAny_eqBool_int ?_
      have z : decide ((some i : KeyN) = some j) = (i == j) := by
        by_cases e : i = j
        · subst e
          simp
        · rw [decide_eq_false (fun q => e (Option.some.inj q))]
          exact (beq_eq_false_iff_ne.mpr e).symm
      rw [← z]
      exact h
  «strs» := fun k x t v h => by
    rcases nIs_shape h with ⟨_, e⟩ | ⟨_, _, _, e⟩ <;> cases e
theorem nV_is {prog : Program} {w : World} {k : KeyN} {u : Value} (r : RelV (nV k) u) : (nKind prog w).is k u = true := by
  cases k with
  | none =>
    cases (show u = Value.none from r)
    rfl
  | some i =>
    obtain ⟨t, rfl⟩ := (show ∃ t, u = Value.int i t from r)
    show Value.isInt i (Value.int i t) = true
    simp [Value.isInt]
end OF
/-! Tracked dicts whose keys are None and ints. -/
namespace OF
open PySem PySem.Spec PyProof.Rows L2
theorem nV_inj {a b : KeyN} (e : nV a = nV b) : a = b := by
  cases a <;> cases b <;> first | rfl | cases e <;> rfl
def dnAt (P : Program) (w : World) (a : Addr) (kvs : List (KeyN × V)) (h : Heap) : Prop :=
  kvs.length ≤ sizeLine ∧ (a == sysModules) = false ∧ ∃ vs, KV kvs vs ∧ h.DictOf (nKind P w) a vs
/-- the dict at a: its keys None and ints -/
def dN (P : Program) (w : World) (a : Addr) (kvs : List (KeyN × V)) : HO := .ext (dnAt P w a kvs)
section
variable {P : Program} {w : World} {H : Hp} {h h' : Heap} {a : Addr} {kvs : List (KeyN × V)}
theorem dn_stays {h1 h2 : Heap} (x : dnAt P w a kvs h1) (k : ∀ o, h1.get? a = some o → h2.get? a = some o) : dnAt P w a kvs h2 := by
  obtain ⟨z, n, vs, r, o, es, ep, e, c⟩ := x
  exact ⟨z, n, vs, r, o, es, ep, k _ e, c⟩
theorem dn_obj (x : dnAt P w a kvs h) : ObjOk P w H h a (dN P w a kvs) := by
  have there : ∃ o, h.get? a = some o := by
    obtain ⟨_, _, _, _, o, _, _, e, _⟩ := x
    exact ⟨o, e⟩
  exact ⟨x, there, fun h1 h2 y k => dn_stays y k⟩
theorem dn_rd (ok : HOk P w H h) (e : Rd H a (dN P w a kvs)) : dnAt P w a kvs h := (show ObjOk P w H h a (dN P w a kvs) from e.ok ok).1
theorem dn_of (ok : HOk P w H h) (e : H a = some (dN P w a kvs)) : dnAt P w a kvs h := dn_rd ok (.inl e)
end
section
variable {X : Cx} {pos : Pos}
/-- d[k], there -/
def rIxN (X : Cx) : R2 := fun x y H Q => ∃ (a : Addr) (kvs : List (KeyN × V)) (k : KeyN) (v : V), x = .ref a ∧ y = nV k ∧ Rd H a (dN X.prog X.w a kvs) ∧ valV kvs k = some v ∧ Q v H
def rInN (X : Cx) : R2 := fun y x H Q => ∃ (a : Addr) (kvs : List (KeyN × V)) (k : KeyN), x = .ref a ∧ y = nV k ∧ Rd H a (dN X.prog X.w a kvs) ∧ Q (.bl (valV kvs k).isSome) H
def rNotInN (X : Cx) : R2 := fun y x H Q => ∃ (a : Addr) (kvs : List (KeyN × V)) (k : KeyN), x = .ref a ∧ y = nV k ∧ Rd H a (dN X.prog X.w a kvs) ∧ Q (.bl (!(valV kvs k).isSome)) H
theorem op_inN : OpR X (compareOp .In) (rInN X) := by
  intro pins s σ H y x u v Q I ry rx q
  obtain ⟨a, kvs, k, rfl, rfl, e, q⟩ := q
  cases (show v = Value.ref a from rx)
  obtain ⟨z, n, vs, rel, dd⟩ := dn_rd I.hok e
  have told := (rel.val k).isSome_eq
  refine wpAny_in_of (nV_is ry) n dd.mapOf ?_
  rw [← told]
  exact ⟨.bl _, H, I.tok _, rfl, q⟩
theorem op_notInN : OpR X (compareOp .NotIn) (rNotInN X) := by
  intro pins s σ H y x u v Q I ry rx q
  obtain ⟨a, kvs, k, rfl, rfl, e, q⟩ := q
  cases (show v = Value.ref a from rx)
  obtain ⟨z, n, vs, rel, dd⟩ := dn_rd I.hok e
  have told := (rel.val k).isSome_eq
  refine wpAny_notIn_of (nV_is ry) n dd.mapOf ?_
  rw [← told]
  exact ⟨.bl _, H, I.tok _, rfl, q⟩
/-- d[k] = v -/
def rSetN (X : Cx) : TSet := fun o i v H Q => ∃ (a : Addr) (kvs : List (KeyN × V)) (k : KeyN), o = .ref a ∧ i = nV k ∧ H a = some (dN X.prog X.w a kvs) ∧ kvs.length < sizeLine ∧ Q (upd H a (dN X.prog X.w a (putK kvs k v)))
theorem set_dictN : PSet X (rSetN X) := by
  intro pins s σ H o i v ov iv u Q I ro ri rv q
  obtain ⟨a, kvs, k, rfl, rfl, e, few, q⟩ := q
  cases (show ov = Value.ref a from ro)
  obtain ⟨z, n, vs, rel, dd⟩ := dn_of I.hok e
  have same := rel.length
  have grown := length_putK kvs k v
  refine wpAny_setItem_pairs (hsz := by omega) (nV_is ri) dd fun h' dd' hs => ⟨_, ?_, q⟩
  have there : ∃ o, h'.get? a = some o := by
    obtain ⟨o, _, _, e2, _⟩ := dd'
    exact ⟨o, e2⟩
  exact d_write I (by rw [e]; exact True.intro) hs there (dn_obj ⟨by omega, n, _, rel.put k rv, dd'⟩)
theorem ix_dictN : IxR X (rIxN X) := by
  intro value slice pins s σ H x y v u Q I rx ry q hs
  obtain ⟨a, kvs, k, z, rfl, rfl, e, there, q⟩ := q
  cases (show v = Value.ref a from rx)
  obtain ⟨few, n, vs, rel, dd⟩ := dn_rd I.hok e
  have got := rel.val k
  rw [there] at got
  obtain ⟨z2, e2, r2⟩ := RelO.some_of got
  exact tail_any dd.typeIs slot_dict_getitem.lookup (wpAny_getItem_of (nV_is ry) dd.mapOf e2 ⟨z, H, I.tok _, r2, q⟩) hs
/-- {} whose keys will be None and ints -/
def tDNewN (X : Cx) : TE := fun _ H Q => ∀ p, H p = none → Q (.ref p) (upd H p (dN X.prog X.w p []))
theorem pe_dnewN : PE X (.Dict [] [] pos) (tDNewN X) := by
  refine ⟨fun pins s σ H Q I q => wpAny_Dict_empty ?_⟩
  have free : H s.heap.objs.size = none := I.hok.fresh (Nat.le_refl _)
  have apart : (s.heap.objs.size == sysModules) = false := beq_eq_false_iff_ne.mpr (Ne.symm (Nat.ne_of_lt I.big))
  exact ⟨.ref _, _, I.laid (a := s.heap.objs.size) (o := dN X.prog X.w s.heap.objs.size []) (t' := s.toks) (fun _ _ z => Heap.get?_push_of_some _ z) (Nat.le_refl _) (dn_obj ⟨Nat.zero_le _, apart, [], .nil, Heap.DictOf.new _⟩), rfl, q _ free⟩
end
/-! ### keys that are tuples of None and ints -/
def dtAt (P : Program) (w : World) (a : Addr) (kvs : List (List KeyN × Addr × V)) (h : Heap) : Prop :=
  kvs.length ≤ sizeLine ∧ (a == sysModules) = false ∧ ∃ xs : List (List KeyN × Addr × Value), Paired (fun (p : List KeyN × Addr × V) (q : List KeyN × Addr × Value) => p.1 = q.1 ∧ p.2.1 = q.2.1 ∧ RelV p.2.2 q.2.2) kvs xs ∧
    ∃ o es ep, h.get? a = some o ∧ o.ExactDict ∧ o.data = .dict es ep ∧ es.toList = xs.map (entryOfKey (tupleKind (nKind P w))) ∧ (xs.map (·.1)).Nodup
/-- the dict at a: keys, where they stand, values -/
def dNT (P : Program) (w : World) (a : Addr) (kvs : List (List KeyN × Addr × V)) : HO := .ext (dtAt P w a kvs)
structure DictT (P : Program) (w : World) (H : Hp) (a : Addr) (kvs : List (List KeyN × Addr × V)) : Prop where
  at_ : Rd H a (dNT P w a kvs)
  ks : ∀ p ∈ kvs, H p.2.1 = some (.tup (p.1.map nV))
section
variable {P : Program} {w : World} {H : Hp} {h : Heap} {a b : Addr} {kvs : List (List KeyN × Addr × V)}
theorem dt_obj (x : dtAt P w a kvs h) : ObjOk P w H h a (dNT P w a kvs) := by
  have there : ∃ o, h.get? a = some o := by
    obtain ⟨_, _, _, _, o, _, _, e, _⟩ := x
    exact ⟨o, e⟩
  refine ⟨x, there, fun h1 h2 y k => ?_⟩
  obtain ⟨z, n, xs, r, o, es, ep, e, c⟩ := y
  exact ⟨z, n, xs, r, o, es, ep, k _ e, c⟩
theorem nItems : ∀ {ks : List KeyN} {us : List Value}, Vals (ks.map nV) us → ItemsAre (nKind P w) ks us
  | [], [], _ => .nil
  | k :: ks, u :: us, r => by
    cases r with
    | cons r1 r2 => exact .cons (nV_is r1) (nItems r2)
theorem nKey {ks : List KeyN} (ok : HOk P w H h) (e : H b = some (.tup (ks.map nV))) : (tupleKind (nKind P w)).is h ks b := by
  obtain ⟨_, us, r, o, e1, e2, n, e3⟩ := (show ObjOk P w H h b (.tup (ks.map nV)) from ok b _ e)
  exact ⟨o, us.toArray, n, e1, e2, e3, by simpa using nItems r⟩
theorem dnt_of (ok : HOk P w H h) (D : DictT P w H a kvs) : kvs.length ≤ sizeLine ∧ (a == sysModules) = false ∧ ∃ xs : List (List KeyN × Addr × Value), Paired (fun (p : List KeyN × Addr × V) (q : List KeyN × Addr × Value) => p.1 = q.1 ∧ p.2.1 = q.2.1 ∧ RelV p.2.2 q.2.2) kvs xs ∧ h.DictOfH (tupleKind (nKind P w)) a xs := by
  obtain ⟨z, n, xs, r, o, es, ep, e1, e2, e3, e4, e5⟩ := (show ObjOk P w H h a (dNT P w a kvs) from D.at_.ok ok).1
  refine ⟨z, n, xs, r, o, es, ep, e1, e2, e3, e4, ?_, e5⟩
  have each : ∀ {l : List (List KeyN × Addr × V)} {m : List (List KeyN × Addr × Value)}, Paired (fun (p : List KeyN × Addr × V) (q : List KeyN × Addr × Value) => p.1 = q.1 ∧ p.2.1 = q.2.1 ∧ RelV p.2.2 q.2.2) l m → (∀ p ∈ l, H p.2.1 = some (.tup (p.1.map nV))) → ∀ x ∈ m, (tupleKind (nKind P w)).is h x.1 x.2.1 := by
    intro l m r
    induction r with
    | nil => exact fun _ x hx => nomatch hx
    | @cons p q l m r1 _ ih =>
      intro K x hx
      rcases List.mem_cons.mp hx with rfl | hx
      · have t := K p List.mem_cons_self
        rw [r1.1, r1.2.1] at t
        exact nKey ok t
      · exact ih (fun p hp => K p (List.mem_cons_of_mem _ hp)) x hx
  exact each r D.ks
end
end OF
/-! Dicts whose keys are tuples of None and ints: asked, written, made. -/
namespace OF
open PySem PySem.Spec PyProof.Rows L2
abbrev KeyT := List KeyN × Addr × V
def getN (kvs : List KeyT) (k : List KeyN) : Option V := (kvs.find? fun p => decide (p.1 = k)).map (·.2.2)
def putN (kvs : List KeyT) (k : List KeyN) (b : Addr) (v : V) : List KeyT :=
  if (getN kvs k).isSome then kvs.map (fun p => if p.1 = k then (p.1, p.2.1, v) else p) else kvs ++ [(k, b, v)]
theorem putN_len (kvs : List KeyT) (k : List KeyN) (b : Addr) (v : V) : (putN kvs k b v).length ≤ kvs.length + 1 := by
  unfold putN
  split
  · rw [List.length_map]
    exact Nat.le_succ _
  · rw [List.length_append]
    exact Nat.le_refl _
theorem getN_nil (k : List KeyN) : getN [] k = none := rfl
theorem putN_new {kvs : List KeyT} {k : List KeyN} {b : Addr} {v : V} (h : getN kvs k = none) : putN kvs k b v = kvs ++ [(k, b, v)] := by
  unfold putN
  rw [h]
  rfl
abbrev KN : List KeyT → List (List KeyN × Addr × Value) → Prop := Paired (fun (p : List KeyN × Addr × V) (q : List KeyN × Addr × Value) => p.1 = q.1 ∧ p.2.1 = q.2.1 ∧ RelV p.2.2 q.2.2)
theorem KN.get {kvs : List KeyT} {xs : List (List KeyN × Addr × Value)} (r : KN kvs xs) (k : List KeyN) : RelO (getN kvs k) ((atKey xs k).map (·.2)) := by
  induction r with
  | nil => exact True.intro
  | @cons p q l m r1 _ ih =>
    unfold getN atKey at ih ⊢
    rw [List.find?_cons, List.find?_cons, ← r1.1]
    cases decide (p.1 = k) with
    | true => exact r1.2.2
    | false => exact ih
theorem KN.swap {kvs : List KeyT} {xs : List (List KeyN × Addr × Value)} (r : KN kvs xs) (k : List KeyN) {v : V} {u : Value} (rv : RelV v u) : KN (kvs.map fun p => if p.1 = k then (p.1, p.2.1, v) else p) (xs.map (putAt k u)) := by
  induction r with
  | nil => exact .nil
  | @cons p q l m r1 _ ih =>
    refine .cons ?_ ih
    unfold putAt
    rw [← r1.1]
    by_cases e : p.1 = k
    · simp only [if_pos e]
      exact ⟨trivial, r1.2.1, rv⟩
    · simp only [if_neg e]
      exact r1
theorem KN.put {kvs : List KeyT} {xs : List (List KeyN × Addr × Value)} (r : KN kvs xs) (k : List KeyN) (b : Addr) {v : V} {u : Value} (rv : RelV v u) : KN (putN kvs k b v) (storedH xs k b u) := by
  have same := (r.get k).isSome_eq
  rw [Option.isSome_map] at same
  unfold putN storedH
  rw [same]
  cases (atKey xs k).isSome with
  | true => exact r.swap k rv
  | false => exact Paired.snoc r ⟨rfl, rfl, rv⟩
section
variable {P : Program} {w : World} {H H' : Hp} {a : Addr} {kvs : List KeyT}
theorem DictT.stay (D : DictT P w H a kvs) (n : H' a = H a) (t : ∀ b xs, H b = some (.tup xs) → H' b = some (.tup xs)) : DictT P w H' a kvs := by
  refine ⟨?_, fun p hp => t _ _ (D.ks p hp)⟩
  rcases D.at_ with e | ⟨o, e⟩
  · exact .inl (n.trans e)
  · exact .inr ⟨o, n.trans e⟩
theorem DictT.same (D : DictT P w H a kvs) (s : Same H H') : DictT P w H' a kvs := by
  refine ⟨?_, fun p hp => s _ _ (D.ks p hp)⟩
  rcases D.at_ with e | ⟨o, e⟩
  · exact .inl (s _ _ e)
  · exact .inr ⟨o, s _ _ e⟩
theorem tup_off {o : HO} {c : Addr} {xs : List V} (e : H a = some (dNT P w a kvs)) (ec : H c = some (.tup xs)) : upd H a o c = some (.tup xs) := by
  rw [upd_ne]
  · exact ec
  · rintro rfl
    rw [e] at ec
    cases ec
theorem DictT.lock {o : Obj} (D : DictT P w H a kvs) (e : H a = some (dNT P w a kvs)) : DictT P w (upd H a (.frz o (dNT P w a kvs))) a kvs := ⟨.inr ⟨o, upd_same⟩, fun p hp => tup_off e (D.ks p hp)⟩
theorem DictT.put {k : List KeyN} {b : Addr} {v : V} (D : DictT P w H a kvs) (ea : H a = some (dNT P w a kvs)) (e : H b = some (.tup (k.map nV))) : DictT P w (upd H a (dNT P w a (putN kvs k b v))) a (putN kvs k b v) := by
  refine ⟨.inl upd_same, fun p hp => ?_⟩
  unfold putN at hp
  split at hp
  · obtain ⟨p0, h0, rfl⟩ := List.mem_map.mp hp
    have t := tup_off (o := dNT P w a (putN kvs k b v)) ea (D.ks p0 h0)
    split <;> exact t
  · rcases List.mem_append.mp hp with hp | hp
    · exact tup_off ea (D.ks p hp)
    · rw [List.mem_singleton.mp hp]
      exact tup_off ea e
end
section
variable {X : Cx} {pos : Pos}
def rIxNT (X : Cx) : R2 := fun x y H Q => ∃ (a : Addr) (kvs : List KeyT) (k : List KeyN) (b : Addr) (v : V), x = .ref a ∧ y = .ref b ∧ DictT X.prog X.w H a kvs ∧ H b = some (.tup (k.map nV)) ∧ getN kvs k = some v ∧ Q v H
def rInNT (X : Cx) : R2 := fun y x H Q => ∃ (a : Addr) (kvs : List KeyT) (k : List KeyN) (b : Addr), x = .ref a ∧ y = .ref b ∧ DictT X.prog X.w H a kvs ∧ H b = some (.tup (k.map nV)) ∧ Q (.bl (getN kvs k).isSome) H
def rNotInNT (X : Cx) : R2 := fun y x H Q => ∃ (a : Addr) (kvs : List KeyT) (k : List KeyN) (b : Addr), x = .ref a ∧ y = .ref b ∧ DictT X.prog X.w H a kvs ∧ H b = some (.tup (k.map nV)) ∧ Q (.bl (!(getN kvs k).isSome)) H
def rSetNT (X : Cx) : TSet := fun o i v H Q => ∃ (a : Addr) (kvs : List KeyT) (k : List KeyN) (b : Addr), o = .ref a ∧ i = .ref b ∧ DictT X.prog X.w H a kvs ∧ H a = some (dNT X.prog X.w a kvs) ∧ H b = some (.tup (k.map nV)) ∧ kvs.length < sizeLine ∧ Q (upd H a (dNT X.prog X.w a (putN kvs k b v)))
theorem ix_dictNT (hu : X.A.units + 1 < cLine) : IxR X (rIxNT X) := by
  intro value slice pins s σ H x y v u Q I rx ry q hs
  obtain ⟨a, kvs, k, b, z, rfl, rfl, D, eb, there, q⟩ := q
  cases (show v = Value.ref a from rx)
  cases (show u = Value.ref b from ry)
  obtain ⟨few, n, xs, rel, dd⟩ := dnt_of I.hok D
  have got := KN.get rel k
  rw [there] at got
  obtain ⟨z2, e2, r2⟩ := RelO.some_of got
  obtain ⟨p, e3, e4⟩ := Option.map_eq_some_iff.mp e2
  refine tail_any dd.typeIs slot_dict_getitem.lookup (wpAny_getItem_heap (tupleKind_room_in1 hu) (nKey I.hok eb) dd e3 ?_) hs
  rw [e4]
  exact ⟨z, H, I.tok _, r2, q⟩
theorem op_inNT (hu : X.A.units + 1 < cLine) : OpR X (compareOp .In) (rInNT X) := by
  intro pins s σ H y x u v Q I ry rx q
  obtain ⟨a, kvs, k, b, rfl, rfl, D, eb, q⟩ := q
  cases (show v = Value.ref a from rx)
  cases (show u = Value.ref b from ry)
  obtain ⟨few, n, xs, rel, dd⟩ := dnt_of I.hok D
  have told := (KN.get rel k).isSome_eq
  rw [Option.isSome_map] at told
  refine wpAny_in_heap (tupleKind_room_in1 hu) (nKey I.hok eb) n dd ?_
  rw [← told]
  exact ⟨.bl _, H, I.tok _, rfl, q⟩
theorem op_notInNT (hu : X.A.units + 1 < cLine) : OpR X (compareOp .NotIn) (rNotInNT X) := by
  intro pins s σ H y x u v Q I ry rx q
  obtain ⟨a, kvs, k, b, rfl, rfl, D, eb, q⟩ := q
  cases (show v = Value.ref a from rx)
  cases (show u = Value.ref b from ry)
  obtain ⟨few, n, xs, rel, dd⟩ := dnt_of I.hok D
  have told := (KN.get rel k).isSome_eq
  rw [Option.isSome_map] at told
  refine wpAny_notIn_heap (tupleKind_room_in1 hu) (nKey I.hok eb) n dd ?_
  rw [← told]
  exact ⟨.bl _, H, I.tok _, rfl, q⟩
theorem set_dictNT (hu : X.A.units + 1 < cLine) : PSet X (rSetNT X) := by
  intro pins s σ H o i v ov iv u Q I ro ri rv q
  obtain ⟨a, kvs, k, b, rfl, rfl, D, ea, eb, few, q⟩ := q
  cases (show ov = Value.ref a from ro)
  cases (show iv = Value.ref b from ri)
  obtain ⟨_, n, xs, rel, dd⟩ := dnt_of I.hok D
  have same := Paired.length rel
  have grown := putN_len kvs k b v
  refine wpAny_setItem_heap (hsz := by omega) (tupleKind_room_in1 hu) (nKey I.hok eb) dd fun h' dd' hs => ⟨_, ?_, q⟩
  obtain ⟨o, es, ep, e1, e2, e3, e4, _, e5⟩ := dd'
  exact d_write I (by rw [ea]; exact True.intro) hs ⟨o, e1⟩ (dt_obj ⟨by omega, n, _, KN.put rel k b rv, o, es, ep, e1, e2, e3, e4, e5⟩)
/-- {} whose keys will be tuples -/
def tDNewNT (X : Cx) : TE := fun _ H Q => ∀ p, H p = none → Q (.ref p) (upd H p (dNT X.prog X.w p []))
theorem pe_dnewNT : PE X (.Dict [] [] pos) (tDNewNT X) := by
  refine ⟨fun pins s σ H Q I q => wpAny_Dict_empty ?_⟩
  have free : H s.heap.objs.size = none := I.hok.fresh (Nat.le_refl _)
  have apart : (s.heap.objs.size == sysModules) = false := beq_eq_false_iff_ne.mpr (Ne.symm (Nat.ne_of_lt I.big))
  exact ⟨.ref _, _, I.laid (a := s.heap.objs.size) (o := dNT X.prog X.w s.heap.objs.size []) (t' := s.toks) (fun _ _ z => Heap.get?_push_of_some _ z) (Nat.le_refl _) (dt_obj ⟨Nat.zero_le _, apart, [], .nil, _, #[], 0, Heap.get?_push_size _ rfl, ⟨rfl, rfl, rfl⟩, rfl, rfl, List.nodup_nil⟩), rfl, q _ free⟩
end
end OF
/-! {k: v}, k a tuple of None and ints. -/
namespace OF
open PySem PySem.Spec PyProof.Rows L2
section
variable {X : Cx} {pos : Pos}
/-- {k: v}: the dict stands empty while the pair is made -/
def tD1NT (X : Cx) (tk tv : TE) : TE := fun σ H Q => ∀ p, H p = none → tk σ (upd H p (dNT X.prog X.w p [])) fun x H1 => tv σ H1 fun y H2 =>
  ∃ (k : List KeyN) (b : Addr), x = .ref b ∧ H2 p = some (dNT X.prog X.w p []) ∧ H2 b = some (.tup (k.map nV)) ∧ Q (.ref p) (upd H2 p (dNT X.prog X.w p [(k, b, y)]))
theorem pe_disp1NT {k v : Expr} {tk tv : TE} (hu : X.A.units < cLine) (hk : PE X k tk) (hv : PE X v tv) : PE X (.Dict [some k] [v] pos) (tD1NT X tk tv) := by
  refine ⟨fun pins s σ H Q I q => ?_⟩
  have free : H s.heap.objs.size = none := I.hok.fresh (Nat.le_refl _)
  have apart : (s.heap.objs.size == sysModules) = false := beq_eq_false_iff_ne.mpr (Ne.symm (Nat.ne_of_lt I.big))
  have made : ObjOk X.prog X.w (upd H s.heap.objs.size (dNT X.prog X.w s.heap.objs.size [])) (s.heap.push { cls := .type "dict", data := .dict #[] }) s.heap.objs.size (dNT X.prog X.w s.heap.objs.size []) :=
    dt_obj ⟨Nat.zero_le _, apart, [], .nil, _, #[], 0, Heap.get?_push_size _ rfl, ⟨rfl, rfl, rfl⟩, rfl, rfl, List.nodup_nil⟩
  have I1 := I.laid (a := s.heap.objs.size) (o := dNT X.prog X.w s.heap.objs.size []) (t' := s.toks) (fun _ _ z => Heap.get?_push_of_some _ z) (Nat.le_refl _) made
  have pairs : PPs X pos [some k] [v] [(tk, tv)] := pps_cons hk hv pps_nil
  have run := pairs.run pins _ σ _ (fun ps H2 => match ps with
    | [(x, y)] => ∃ (k : List KeyN) (b : Addr), x = .ref b ∧ H2 s.heap.objs.size = some (dNT X.prog X.w s.heap.objs.size []) ∧ H2 b = some (.tup (k.map nV)) ∧ Q (.ref s.heap.objs.size) (upd H2 s.heap.objs.size (dNT X.prog X.w s.heap.objs.size [(k, b, y)]))
    | _ => False) I1 (q _ free)
  have one : (pairTrees [some k] [v] X.env pos).length = 1 := rfl
  rw [arm_eval_Dict, zip_pairTrees [some k] [v] X.env pos rfl rfl, dictDisplay_pairs (pairTrees [some k] [v] X.env pos) (fun z => nomatch z) (by rw [one]; decide)]
  refine wpAny_bind (wpAny_standAt (wpAny_bind (wpAny_subDictH (knd := tupleKind (nKind X.prog X.w)) hu (by rw [one]; decide) (thn run fun ws s2 got => ?_))))
  obtain ⟨ps, H2, I2, rel, fin⟩ := got
  cases rel with
  | nil => exact fin.elim
  | @cons p0 w0 ps ws r1 r2 =>
    cases r2 with
    | cons _ _ => exact fin.elim
    | nil =>
      obtain ⟨x, y⟩ := p0
      obtain ⟨u0, u1⟩ := w0
      obtain ⟨ks, b, rfl, eD, eb, fin⟩ := fin
      cases (show u0 = Value.ref b from r1.1)
      have D2 : DictT X.prog X.w H2 s.heap.objs.size [] := ⟨.inl eD, fun p hp => nomatch hp⟩
      obtain ⟨few, n, xs, rel, dd⟩ := dnt_of I2.hok D2
      cases rel
      refine ⟨[(ks, b, u1)], ⟨rfl, rfl, nKey I2.hok eb, True.intro⟩, dd, fun h' tk' dd' hs => ?_⟩
      obtain ⟨o, es, ep, e1, e2, e3, e4, _, e5⟩ := dd'
      refine wpAny_pure ⟨.ref s.heap.objs.size, _, d_write I2 (by rw [eD]; exact True.intro) hs ⟨o, e1⟩ (dt_obj ⟨by show 1 ≤ sizeLine; decide, n, _, KN.put (.nil : KN [] []) ks b r1.2, o, es, ep, e1, e2, e3, ?_, ?_⟩), rfl, fin⟩
      · exact e4
      · exact e5
end
end OF
/-! list(d), len(d), `not d` of dicts whose keys are tuples of None and ints. -/
namespace OF
open PySem PySem.Spec PyProof.Rows L2
theorem KN.addr {kvs : List KeyT} {xs : List (List KeyN × Addr × Value)} (r : KN kvs xs) : kvs.map (·.2.1) = xs.map (·.2.1) := by
  induction r with
  | nil => rfl
  | cons r1 _ ih => rw [List.map_cons, List.map_cons, ih, r1.2.1]
section
variable {X : Cx}
theorem call_listNT (hc : X.calm = true) : CallR X (.type "list") (fun vs H Q => ∃ (a : Addr) (kvs : List KeyT), vs = [V.ref a] ∧ DictT X.prog X.w H a kvs ∧ ∀ p, H p = none → Q (.ref p) (upd H p (.lst (kvs.map fun z => V.ref z.2.1)))) := by
  intro pins s σ H vs us Q I r q
  obtain ⟨a, kvs, rfl, D, q⟩ := q
  obtain ⟨u, rfl, rx⟩ := r.one
  cases rx
  obtain ⟨few, n, xs, rel, o, es, ep, e1, e2, e3, e4, _, _⟩ := dnt_of I.hok D
  have c1 : es.size = xs.length := size_of_entries e4
  have c2 : kvs.length = xs.length := Paired.length rel
  refine PySem.W.kdl_call (kdl_raw n e2 e3) (I.ok.hd hc) e1 (by omega) fun h' tk out cap kept made held => ?_
  have all : out.toList = (kvs.map fun z => z.2.1).map Value.ref := by
    rw [KN.addr rel]
    refine List.ext_getElem? fun j => ?_
    rw [List.getElem?_map, List.getElem?_map]
    have same : out.toList.length = xs.length := by rw [Array.length_toList, held.1, c1]
    by_cases hj : j < xs.length
    · have h1 : out.toList[j]? = some out.toList[j] := List.getElem?_eq_getElem (by omega)
      obtain ⟨en, h2, h3⟩ := held.2 j _ (by rw [← Array.getElem?_toList]; exact h1)
      have h4 := entry_at e4 j
      rw [h2, List.getElem?_eq_getElem hj] at h4
      have h5 : en = entryOfKey (tupleKind (nKind X.prog X.w)) xs[j] := Option.some.inj h4
      rw [h1, h3, h5, List.getElem?_eq_getElem hj]
      rfl
    · rw [List.getElem?_eq_none (by omega), List.getElem?_eq_none (by omega)]
      rfl
  have vals : Vals (kvs.map fun z => V.ref z.2.1) out.toList := by
    rw [all, show (kvs.map fun z => V.ref z.2.1) = (kvs.map fun z => z.2.1).map V.ref by rw [List.map_map]; rfl]
    exact vals_refs _
  refine ⟨.ref s.heap.objs.size, _, I.laid (t' := tk) (o := .lst (kvs.map fun z => V.ref z.2.1)) kept (Nat.le_refl _) ⟨by rw [List.length_map]; exact few, out.toList, cap, vals, ?_⟩, rfl, q _ (I.hok.fresh (Nat.le_refl _))⟩
  rw [Array.toArray_toList]
  exact made
end
end OF
/-! {k: v for .. in ..} into a dict of any kind that is tracked. -/
namespace OF
open PySem PySem.Spec PyProof.Rows L2
/-- a kind of dict: how it stands empty, how a pair is put in -/
structure DKind (P : Program) (w : World) where
  emp : Addr → HO
  put : Addr → V → V → Hp → (Hp → Prop) → Prop
  emp_ok : ∀ (H : Hp) (h : Heap), sysModules < h.objs.size → ObjOk P w H (h.push { cls := .type "dict", data := .dict #[] }) h.objs.size (emp h.objs.size)
  put_ok : ∀ {X : Cx}, X.prog = P → X.w = w → X.A.units < cLine → ∀ {pins : List (Addr × Obj)} {σ : L2.St} {H : Hp} {s : Shared} {E : Value → Shared → Prop} {D : Addr} {y z : V} {u r : Value} {N : Hp → Prop}, Inv X pins σ H s → RelV y u → RelV z r → put D y z H N →
    wpAny (model X.prog X.w) X.A (dictSet D u r) (fun _ s' => ∃ H', Inv X pins σ H' s' ∧ N H') E s
def kN (P : Program) (w : World) : DKind P w where
  emp := fun a => dN P w a []
  put := fun D y z H N => ∃ (kvs : List (KeyN × V)) (k : KeyN), y = nV k ∧ H D = some (dN P w D kvs) ∧ kvs.length < sizeLine ∧ N (upd H D (dN P w D (putK kvs k z)))
  emp_ok := fun H h big => dn_obj ⟨Nat.zero_le _, beq_eq_false_iff_ne.mpr (Ne.symm (Nat.ne_of_lt big)), [], .nil, Heap.DictOf.new _⟩
  put_ok := by
    rintro X rfl rfl hu pins σ H s E D y z u r N I ry rz ⟨kvs, k, rfl, e, few, n⟩
    obtain ⟨_, apart, vs, rel, dd⟩ := dn_of I.hok e
    have same := rel.length
    have grown := length_putK kvs k z
    refine wpAny_dictSet_pairs (hsz := by omega) (nV_is ry) dd fun h' dd' hs => ⟨_, ?_, n⟩
    have there : ∃ o, h'.get? D = some o := by
      obtain ⟨o, _, _, e2, _⟩ := dd'
      exact ⟨o, e2⟩
    exact d_write I (by rw [e]; exact True.intro) hs there (dn_obj ⟨by omega, apart, _, rel.put k rz, dd'⟩)
def kNT (P : Program) (w : World) : DKind P w where
  emp := fun a => dNT P w a []
  put := fun D y z H N => ∃ (kvs : List KeyT) (k : List KeyN) (b : Addr), y = .ref b ∧ DictT P w H D kvs ∧ H D = some (dNT P w D kvs) ∧ H b = some (.tup (k.map nV)) ∧ kvs.length < sizeLine ∧ N (upd H D (dNT P w D (putN kvs k b z)))
  emp_ok := fun H h big => dt_obj ⟨Nat.zero_le _, beq_eq_false_iff_ne.mpr (Ne.symm (Nat.ne_of_lt big)), [], .nil, _, #[], 0, Heap.get?_push_size _ rfl, ⟨rfl, rfl, rfl⟩, rfl, rfl, List.nodup_nil⟩
  put_ok := by
    rintro X rfl rfl hu pins σ H s E D y z u r N I ry rz ⟨kvs, k, b, rfl, D0, ea, eb, few, n⟩
    cases (show u = Value.ref b from ry)
    obtain ⟨_, apart, xs, rel, dd⟩ := dnt_of I.hok D0
    have same := Paired.length rel
    have grown := putN_len kvs k b z
    refine wpAny_dictSet_heap (knd := tupleKind (nKind X.prog X.w)) (hsz := by omega) hu (nKey I.hok eb) dd fun h' dd' hs => ⟨_, ?_, n⟩
    obtain ⟨o, es, ep, e1, e2, e3, e4, _, e5⟩ := dd'
    exact d_write I (by rw [ea]; exact True.intro) hs ⟨o, e1⟩ (dt_obj ⟨by omega, apart, _, KN.put rel k b rz, o, es, ep, e1, e2, e3, e4, e5⟩)
end OF
/-! {k: v for .. in ..}: the rule, for each kind of dict. -/
namespace OF
open PySem PySem.Spec PyProof.Rows L2
section
variable {X : Cx}
/-- the new dict at D; each turn puts one pair in, or none -/
def tDcK {P : Program} {w : World} (κ : DKind P w) (wi : TI) (g : TG) (tt : TT) (tk tv : TE) (vs : List Nat) : TE := fun σ H Q => wi σ H fun J Ha => ∀ D, Ha D = none → ∃ V0 : Nat → Nat → Hp → Prop, (∃ m, V0 0 m (upd Ha D (κ.emp D))) ∧ ∀ i m Hb, V0 i m Hb →
  (J.stop i Hb ∧ Q (.ref D) Hb) ∨ (J.go i Hb ∧ ∃ N : Hp → Prop, (∀ Hc, N Hc → ∃ m', m' < m ∧ V0 (i + 1) m' Hc) ∧ ∀ x Hc, J.yld i Hb x Hc → g x (wipe σ vs) Hc fun σd Hd => wipe σd vs = wipe σ vs ∧ tt σd Hd fun b He =>
    if b = true then tk σd He fun y Hf => tv σd Hf fun z Hg => κ.put D y z Hg N else N He)
set_option maxHeartbeats 1000000 in
theorem pe_dcK {κ : DKind X.prog X.w} {kx vx tg iter : Expr} {ifs : List Expr} {scope : Scope} {own : List (Str × Nat)} {pos : Pos} {wi : TI} {g : TG} {tt : TT} {tk tv : TE} (hu : X.A.units < cLine) (hc : X.calm = true) (hN : X.N.Nodup) (hi : PI X tg iter wi) (ok : BlkOk X.N X.env.scope scope own)
    (hg : ∀ s H C cl fp, PG (X.blk s H scope (compEnvC scope cl C X.env) fp) tg g) (ht : ∀ s H C cl fp, PTs (X.blk s H scope (compEnvC scope cl C X.env) fp) ifs tt)
    (hk : ∀ s H C cl fp, PE (X.blk s H scope (compEnvC scope cl C X.env) fp) kx tk) (hv : ∀ s H C cl fp, PE (X.blk s H scope (compEnvC scope cl C X.env) fp) vx tv) (fold : ∀ x, foldedSetIterable iter X.env x = pure x := by intro _; rfl) :
    PE X (.DictComp kx vx [⟨tg, iter, ifs, 0⟩] scope pos) (tDcK κ wi g tt tk tv (own.map (·.2))) := by
  refine ⟨fun pins s σ H Q I h => ?_⟩
  rw [arm_eval_DictComp]
  have caught : ∀ y ∈ scope.names, y.2 = .free → ∃ c, X.env.cells.lookup y.1 = some c := fun y hy e => (ok.free y hy e).elim (fun k => I.ok.has _ (.inl k)) fun k => I.ok.has _ (.inr k)
  refine wpAny_comprehension_free (use := none) rfl fold (closure_ok caught) ok.kind (fun y hy e => by rw [ok.uniq y hy, e]) (thn (hi.run pins s σ H _ I h) fun xv sa hx => thn hx fun itv sb hb => ?_)
  obtain ⟨ita, fa, tna, J, Hb, rfl, Ib, T, stb, fb, q⟩ := hb
  refine wpAny_newObj_type (newEnv_comp ?_)
  generalize hD : sb.heap.objs.size = D
  have nD : Hb D = none := Ib.hok.fresh (Nat.le_of_eq hD)
  obtain ⟨V0, ⟨m0, w0⟩, turn⟩ := q D nD
  generalize hsc : ({ sb with heap := sb.heap.push { cls := .type "dict", data := .dict #[] } } : Shared) = sc
  have hsc' : sc.heap = sb.heap.push { cls := .type "dict", data := .dict #[] } := by rw [← hsc]
  have Ic : Inv X pins σ (upd Hb D (κ.emp D)) sc := by
    rw [← hsc, ← hD]
    exact Ib.laid (t' := sb.toks) (fun b o e => Heap.get?_push_of_some _ e) (Nat.le_refl _) (κ.emp_ok _ _ Ib.big)
  have small : ∀ b ∈ fa, b < sb.heap.objs.size := fun b hb => by
    obtain ⟨o, e, _⟩ := T.obj _ _ stb b hb
    exact Heap.lt_size e
  have fc : ∀ b ∈ fa, FpOk X pins (upd Hb D (κ.emp D)) b ∧ b < sc.heap.objs.size := fun b hb => by
    have lt := small b hb
    refine ⟨⟨?_, (fb b hb).2⟩, by rw [hsc', Heap.size_push]; exact Nat.lt_succ_of_lt lt⟩
    rw [upd_ne (by rw [← hD]; exact Nat.ne_of_lt lt)]
    exact (fb b hb).1
  have stc : tna 0 sc.heap := T.keep _ _ _ stb fun b _ o e => by
    rw [hsc']
    exact Heap.get?_push_of_some _ e
  have Id := block_start Ic ok hN fc
  have Gd := hg sc (upd Hb D (κ.emp D)) sc.heap.objs.size (cellsFrom (sc.heap.objs.size + 1) scope.names (cloFrom X.env.cells scope.names [])) fa
  have Td := ht sc (upd Hb D (κ.emp D)) sc.heap.objs.size (cellsFrom (sc.heap.objs.size + 1) scope.names (cloFrom X.env.cells scope.names [])) fa
  have Kd := hk sc (upd Hb D (κ.emp D)) sc.heap.objs.size (cellsFrom (sc.heap.objs.size + 1) scope.names (cloFrom X.env.cells scope.names [])) fa
  have Vd := hv sc (upd Hb D (κ.emp D)) sc.heap.objs.size (cellsFrom (sc.heap.objs.size + 1) scope.names (cloFrom X.env.cells scope.names [])) fa
  have clear0 : ∀ b ∈ fa, (upd Hb D (κ.emp D)) b = none := fun b hb => (fc b hb).1.1
  show codeAny _ _ (.compStart (.DictComp kx vx [⟨tg, iter, ifs, 0⟩] scope pos) 0 (.ref ita) (.ref D) (compEnvC scope (cellsFrom (sc.heap.objs.size + 1) scope.names (cloFrom X.env.cells scope.names [])) sc.heap.objs.size X.env)) _ _
  generalize hce : compEnvC scope (cellsFrom (sc.heap.objs.size + 1) scope.names (cloFrom X.env.cells scope.names [])) sc.heap.objs.size X.env = ce at Id Gd Td Kd Vd ⊢
  have cL : ce.locals = sc.heap.objs.size := by
    rw [← hce]
    rfl
  generalize hHc : upd Hb D (κ.emp D) = Hc at Ic Id Gd Td Kd Vd w0 clear0 fc
  generalize hsd : ({ sc with heap := pushCells (sc.heap.push { cls := .type "dict", data := .dict #[] }) scope.names } : Shared) = sd at Id ⊢
  have std : tna 0 sd.heap := T.keep _ _ _ stc fun b _ o e => by
    rw [← hsd]
    exact pushCells_keeps _ _ _ _ (Heap.get?_push_of_some _ e)
  have steady : ∀ {σ' : L2.St} {H' : Hp} {s' : Shared}, Inv (X.blk sc Hc scope ce fa) [] σ' H' s' → (∀ b ∈ fa, H' b = none) → ∀ b ∈ fa, FpOk (X.blk sc Hc scope ce fa) [] H' b := fun {σ' H' s'} I' nn b hb =>
    ⟨nn b hb, (I'.ok.exf b hb).1, I'.ok.exfs b hb, .inl hb, fun x c e => (I'.ok.exf b hb).2 x c e, fun p hp => nomatch hp⟩
  refine codeAny_compStart_dict ?loop (T.self X.A 0 _ _ _ std ?loop)
  refine compLoop_anyD (fun n s' => ∃ i H', Inv (X.blk sc Hc scope ce fa) [] (wipe σ (own.map (·.2))) H' s' ∧ tna i s'.heap ∧ (∀ b ∈ fa, H' b = none) ∧ V0 i n H') ?_ m0 ⟨0, Hc, Id, std, clear0, w0⟩
  rintro n se ⟨i, He, Ie, ste, ne, we⟩
  rcases turn i n He we with ⟨stop, qq⟩ | ⟨go, N, hNx, step⟩
  · refine thnF (T.done (X.blk sc Hc scope ce fa) rfl rfl rfl hc i [] se _ He (fun _ _ => False) Ie (steady Ie ne) ste stop) fun r sf ⟨hr, If⟩ => ?_
    subst hr
    have back : Inv X pins σ He sf := Ic.call' (ch := fa) If.os If.base If.hok If.bare fun b hb => ⟨(fc b hb).1.2.2.2.1, (fc b hb).1.2.1, (fc b hb).1.2.2.2.2.1, (fc b hb).1.2.2.2.2.2⟩
    have none_ : He sc.heap.objs.size = none := by
      have z : He ce.locals = none := If.free
      rw [cL] at z
      exact z
    obtain ⟨m, hn, _⟩ := If.loc
    have hn : sf.heap.Ns ce.locals m := hn
    rw [cL] at hn
    obtain ⟨f0, f1, f2, f3, f4, f5⟩ := Ic.fpOk (Nat.le_refl _) none_
    exact ⟨m, hn, fun h'' sb' => ⟨.ref D, He, back.turned (t' := sf.toks) (fun b o hb e => (sb'.2 b hb).trans e) f0 f1 f3 f4 f5, rfl, qq⟩⟩
  · refine thnF (T.item (X.blk sc Hc scope ce fa) rfl rfl rfl hc i [] se _ He (fun _ _ => False) Ie (steady Ie ne) ste go) fun r sf ⟨u, hr, hf⟩ => ?_
    subst hr
    refine thnF hf fun _ sg ⟨x, Hg, Ig, rg, yg, stg, ng⟩ => ?_
    refine thnF (Gd.run _ sg _ Hg x u _ (Ig.pinned (steady Ig ng) (T.obj _ _ stg)) rg (step x Hg yg)) fun _ sh ⟨σh, Hh, Ih, wh, qh⟩ => ?_
    refine thnF (Td.run _ sh σh Hh _ Ih qh) fun b si ⟨Hi, Ii, qi⟩ => ?_
    have over : ∀ {s' : Shared} {H' : Hp}, Inv (X.blk sc Hc scope ce fa) ([] ++ pinsAt fa sg.heap) σh H' s' → N H' → ∃ m, m < n ∧ ∃ i H', Inv (X.blk sc Hc scope ce fa) [] (wipe σ (own.map (·.2))) H' s' ∧ tna i s'.heap ∧ (∀ b ∈ fa, H' b = none) ∧ V0 i m H' := fun {s' H'} I' nx => by
      obtain ⟨m', less, w'⟩ := hNx H' nx
      have held : ∀ b ∈ fa, ∀ o, sg.heap.get? b = some o → s'.heap.get? b = some o ∧ H' b = none := fun b hb o e =>
        let z := I'.pin (b, o) (List.mem_append_right _ (List.mem_append_right _ (mem_pinsAt hb e)))
        ⟨z.1, z.2.1⟩
      refine ⟨m', less, i + 1, H', (I'.unpinned (pins := [])).weak (by rw [← wh, wipe_length]) (fun j v e => ?_), T.keep _ _ _ stg fun b hb o e => (held b hb o e).1, fun b hb => ?_, w'⟩
      · rw [← wh] at e
        exact (wipe_some e).1
      · obtain ⟨o, e, _⟩ := T.obj _ _ stg b hb
        exact (held b hb o e).2
    cases b with
    | false =>
      simp only [Bool.false_eq_true, if_false] at qi ⊢
      exact over Ii qi
    | true =>
      simp only [if_true] at qi ⊢
      refine thnF (Kd.run _ si σh Hi _ Ii qi) fun z sj ⟨yk, Hj, Ij, rj, qj⟩ => ?_
      refine thnF (Vd.run _ sj σh Hj _ Ij qj) fun z2 sk ⟨yv, Hk, Ik, rk, qk⟩ => ?_
      exact thnF (κ.put_ok (X := X.blk sc Hc scope ce fa) rfl rfl hu Ik rj rk qk) fun _ sl ⟨Hl, Il, nl⟩ => over Il nl
end
end OF
/-! for k in d, d locked, its keys tuples of None and ints. -/
namespace OF
open PySem PySem.Spec PyProof.Rows L2
theorem paired_at {α β : Type} {F : α → β → Prop} {l : List α} {m : List β} (r : Paired F l m) : ∀ {i : Nat} {x : α}, l[i]? = some x → ∃ y, m[i]? = some y ∧ F x y := by
  induction r with
  | nil => exact fun {i x} e => nomatch e
  | @cons p q l m r1 _ ih =>
    intro i x e
    cases i with
    | zero =>
      rw [List.getElem?_cons_zero] at e
      cases e
      exact ⟨q, rfl, r1⟩
    | succ i =>
      rw [List.getElem?_cons_succ] at e ⊢
      exact ih e
/-- the keys of the dict at d, in their order -/
def ItN (P : Program) (w : World) (d : Addr) (o : Obj) (kvs : List KeyT) : It where
  go i H := H d = some (.frz o (dNT P w d kvs)) ∧ i < kvs.length
  yld i H x H' := H' = H ∧ ∃ p, kvs[i]? = some p ∧ x = .ref p.2.1
  stop i H := H d = some (.frz o (dNT P w d kvs)) ∧ kvs.length ≤ i
theorem frzN {X : Cx} {pins : List (Addr × Obj)} {σ : L2.St} {H : Hp} {s : Shared} {d : Addr} {o : Obj} {kvs : List KeyT} (I : Inv X pins σ H s) (h : H d = some (.frz o (dNT X.prog X.w d kvs))) :
    (d == sysModules) = false ∧ s.heap.get? d = some o ∧ o.ExactDict ∧ ∃ (es : Array DictEntry) (ep : Nat), o.data = .dict es ep ∧ es.size = kvs.length ∧ ∀ (i : Nat) (p : KeyT), kvs[i]? = some p → ∃ en : DictEntry, es[i]? = some en ∧ en.key = .ref p.2.1 := by
  obtain ⟨there, inner⟩ := (show ObjOk X.prog X.w H s.heap d (.frz o (dNT X.prog X.w d kvs)) from I.hok d _ h)
  obtain ⟨_, apart, xs, rel, o2, es, ep, e1, e2, e3, e4, _⟩ := (show ObjOk X.prog X.w H s.heap d (dNT X.prog X.w d kvs) from inner).1
  rw [there] at e1
  cases e1
  have c1 : es.size = xs.length := size_of_entries e4
  have c2 : kvs.length = xs.length := Paired.length rel
  refine ⟨apart, there, e2, es, ep, e3, by omega, fun i p hp => ?_⟩
  obtain ⟨q, hq, r1⟩ := paired_at rel hp
  have at_ := entry_at e4 i
  rw [hq] at at_
  exact ⟨_, at_, by rw [r1.2.1]; rfl⟩
theorem turnN {P : Program} {w : World} {K : PySem.W.Frag} {tg : Expr} {d : Addr} {o : Obj} {es : Array DictEntry} {ep : Nat} {kvs : List KeyT} (it : Addr) (hod : o.data = .dict es ep) : Turn P w K tg (ItN P w d o kvs) [it] it (fun i h => h.IsKeyIter it d i kvs.length ep) where
  mem := List.mem_singleton.mpr rfl
  obj := fun i h st b hb => by
    rw [List.mem_singleton.mp hb]
    obtain ⟨oi, e, _, dd⟩ := st
    exact ⟨oi, e, fun v z => by rw [dd] at z; cases z⟩
  keep := fun i h h' st k => st.at fun oi e => k it (List.mem_singleton.mpr rfl) oi e
  item := by
    rintro X rfl rfl rfl hc i pins s σ H E I hf st ⟨hd, hi⟩
    obtain ⟨f0, f1, f2, f3, f4, f5⟩ := hf it (List.mem_singleton.mpr rfl)
    obtain ⟨apart, there, exact_, es2, ep2, hdt, sz, ent⟩ := frzN I hd
    obtain ⟨rfl, rfl⟩ := dict_ep hod hdt
    obtain ⟨en, h1, h2⟩ := ent i _ (List.getElem?_eq_getElem hi)
    refine next_key_item st there hdt sz h1 fun h' st' sb => ?_
    obtain ⟨oi, e, c, dd⟩ := id st'
    refine ⟨en.key, rfl, go_of (s := { s with heap := h' }) e c dd (by decide) ⟨.ref (kvs[i]).2.1, H, I.turned (t' := s.toks) (fun b ob hb e => (sb.2 b hb).trans e) f0 f1 f3 f4 f5, h2, ⟨rfl, kvs[i], List.getElem?_eq_getElem hi, rfl⟩, st', fun b hb => (hf b hb).1⟩⟩
  done := by
    rintro X rfl rfl rfl hc i pins s σ H E I hf st ⟨hd, hi⟩
    obtain ⟨f0, f1, f2, f3, f4, f5⟩ := hf it (List.mem_singleton.mpr rfl)
    obtain ⟨apart, there, exact_, es2, ep2, hdt, sz, ent⟩ := frzN I hd
    obtain ⟨rfl, rfl⟩ := dict_ep hod hdt
    exact next_key_end (I.ok.hd hc) st there hdt sz hi fun h' eb => ⟨rfl, I.turned (t' := s.toks) (fun b ob hb e => eb b ob hb e) f0 f1 f3 f4 f5⟩
  self := fun A i s Q E st h => by
    refine wpAny_pyIter_slot st.typeIs F.slot_dict_keyiterator_iter (wpAny_call_entry F.slot_dict_keyiterator_iter st.typeIs F.entry_dict_keyiterator_iter ?_ (F.args_dict_keyiterator_iter_1 _))
    exact wpAny_pure ⟨_, rfl, "dict_keyiterator", _, st.typeIs, F.slot_dict_keyiterator_next.lookup, h⟩
section
variable {X : Cx} {tg e : Expr} {td : TE}
def iKeysN (X : Cx) (td : TE) : TI := fun σ H R => td σ H fun x H1 => ∃ (d : Addr) (o : Obj) (kvs : List KeyT), x = .ref d ∧ H1 d = some (.frz o (dNT X.prog X.w d kvs)) ∧ R (ItN X.prog X.w d o kvs) H1
theorem pi_keysN (he : PE X e td) : PI X tg e (iKeysN X td) := by
  refine ⟨fun pins s σ H R I h => thn (he.run pins s σ H _ I h) fun u s1 ⟨x, H1, I1, rx, d, o, kvs, ex, hd, q⟩ => ?_⟩
  subst ex
  cases (show u = Value.ref d from rx)
  obtain ⟨apart, there, exact_, es, ep, hdt, sz, _⟩ := frzN I1 hd
  refine iter_keys apart there exact_ hdt (pi_one (tk := s1.toks) I1 _ (turnN _ hdt) ⟨_, Heap.get?_push_size _ rfl, rfl, ?_⟩ q)
  rw [sz] <;> rfl
end
end OF
/-! Walks: over such a dict; a dict comprehension over any walk. -/
namespace OF
open PySem PySem.Spec PyProof.Rows L2
theorem walkN {P : Program} {w : World} {d : Addr} {o : Obj} {kvs : List KeyT} : Walk (ItN P w d o kvs) kvs.length (fun H => H d = some (.frz o (dNT P w d kvs))) (fun i H x H' => H' = H ∧ ∃ p, kvs[i]? = some p ∧ x = .ref p.2.1) where
  goes := fun _ _ hi q => ⟨q, hi⟩
  stops := fun _ q => ⟨q, Nat.le_refl _⟩
  yields := fun _ _ _ _ _ _ y => y
/-- Pv: by the turn and the heap, the new dict within -/
theorem dcK_it {P : Program} {w : World} {κ : DKind P w} {J : It} {n : Nat} {G : Hp → Prop} {Y : Nat → Hp → V → Hp → Prop} (wk : Walk J n G Y) {g : TG} {tt : TT} {tk tv : TE} {vs : List Nat} {σ : L2.St} {Ha : Hp} {D : Addr} {Qd : Hp → Prop} (Pv : Nat → Hp → Prop)
    (h0 : Pv 0 (upd Ha D (κ.emp D))) (hG : ∀ i H, i ≤ n → Pv i H → G H)
    (hs : ∀ i x H Hc, i < n → Pv i H → Y i H x Hc → g x (wipe σ vs) Hc fun σd Hd => wipe σd vs = wipe σ vs ∧ tt σd Hd fun b He =>
      if b = true then tk σd He fun y Hf => tv σd Hf fun z Hg => κ.put D y z Hg (Pv (i + 1)) else Pv (i + 1) He) (hd : ∀ H, Pv n H → Qd H) :
    ∃ V0 : Nat → Nat → Hp → Prop, (∃ m, V0 0 m (upd Ha D (κ.emp D))) ∧ ∀ i m Hb, V0 i m Hb →
      (J.stop i Hb ∧ Qd Hb) ∨ (J.go i Hb ∧ ∃ N : Hp → Prop, (∀ Hc, N Hc → ∃ m', m' < m ∧ V0 (i + 1) m' Hc) ∧ ∀ x Hc, J.yld i Hb x Hc → g x (wipe σ vs) Hc fun σd Hd => wipe σd vs = wipe σ vs ∧ tt σd Hd fun b He =>
        if b = true then tk σd He fun y Hf => tv σd Hf fun z Hg => κ.put D y z Hg N else N He) := by
  refine ⟨fun i m H => m + i = n ∧ Pv i H, ⟨n, rfl, h0⟩, ?_⟩
  rintro i m H ⟨count, p⟩
  have held := hG i H (by omega) p
  cases m with
  | zero =>
    have e : i = n := by omega
    subst e
    exact .inl ⟨wk.stops H held, hd H p⟩
  | succ m =>
    have hi : i < n := by omega
    exact .inr ⟨wk.goes i H hi held, Pv (i + 1), fun Hc pc => ⟨m, Nat.lt_succ_self m, by omega, pc⟩, fun x Hc y => hs i x H Hc hi p (wk.yields i H x Hc hi held y)⟩
end OF
/-! len of dicts whose keys are None and ints, or tuples of such. -/
namespace OF
open PySem PySem.Spec PyProof.Rows L2
section
variable {X : Cx}
def rLenN (X : Cx) : List V → Hp → VK → Prop := fun vs H Q => ∃ a : Addr, vs = [V.ref a] ∧ ((∃ kvs : List (KeyN × V), Rd H a (dN X.prog X.w a kvs) ∧ Q (.int kvs.length) H) ∨ ∃ kvs : List KeyT, DictT X.prog X.w H a kvs ∧ Q (.int kvs.length) H)
theorem call_lenN : CallR X (.builtin "len") (rLenN X) := by
  intro pins s σ H vs us Q I r q
  obtain ⟨a, rfl, q⟩ := q
  obtain ⟨u, rfl, rx⟩ := r.one
  cases rx
  have line := line63
  rcases q with ⟨kvs, e, q⟩ | ⟨kvs, D, q⟩
  · obtain ⟨few, apart, vs, rel, dd⟩ := dn_rd I.hok e
    have same := rel.length
    refine call_len_dict apart dd (by omega) ?_
    rw [← same]
    exact ⟨.int kvs.length, H, I.tok _, ⟨_, rfl⟩, q⟩
  · obtain ⟨few, apart, xs, rel, dd⟩ := dnt_of I.hok D
    have same : kvs.length = xs.length := Paired.length rel
    refine call_len_dictH apart dd (by omega) ?_
    rw [← same]
    exact ⟨.int kvs.length, H, I.tok _, ⟨_, rfl⟩, q⟩
end
end OF
/-! Tests of dicts whose keys are tuples of None and ints: are they empty? -/
namespace OF
open PySem PySem.Spec PyProof.Rows L2
section
variable {prog : Program} {w : World} {A : Around} {E : Value → Shared → Prop} {s : Shared}
theorem truthy_keyed {K : Type} [DecidableEq K] {knd : HeapKind prog w K} {d : Addr} {xs : List (K × Addr × Value)} {Q : Bool → Shared → Prop} (apart : (d == sysModules) = false) (hm : s.heap.DictOfH knd d xs) (few : (xs.length : Int) < 2 ^ 63)
    (q : Q (!xs.isEmpty) { s with toks := s.toks + 1 + 1 }) : wpAny (model prog w) A (truthy (.ref d)) Q E s := by
  have asks : wpAny (model prog w) A (runValue (.builtin "len" ⟨[.ref d], []⟩)) (fun r s' => r = .int xs.length (s.toks + 1) ∧ s' = { s with toks := s.toks + 1 + 1 }) E s := by
    refine wpAny_runValue (codeAny_builtin entry_len ?_)
    rw [Around.under_plainId plain_len _]
    refine wpAny_mono (wpAny_len_body_dictH (Q := fun r s' => r = .int xs.length (s.toks + 1) ∧ s' = { s with toks := s.toks + 1 + 1 }) apart hm few ⟨rfl, rfl⟩) (fun fin s' z => ?_) fun _ _ z => z
    obtain ⟨r, rfl, told⟩ := z
    exact told
  have some_ : ((xs.length : Int) != 0) = !xs.isEmpty := by
    cases xs with
    | nil => rfl
    | cons x l =>
      rw [List.length_cons]
      simp
      omega
  unfold truthy
  refine wpAny_bind (wpAny_callSpecial?_none (name := Str.ofString "__bool__") hm.typeIs noBool_dict ?_)
  refine wpAny_bind (wpAny_specialOf (name := Str.ofString "__len__") hm.typeIs F.slot_dict_len.lookup ?_)
  refine wpAny_bind (wpAny_mono asks (fun r s' z => ?_) fun _ _ z => z)
  obtain ⟨rfl, rfl⟩ := z
  refine wpAny_pure ?_
  rw [← some_] at q
  exact q
end
section
variable {X : Cx} {e : Expr} {te : TE}
def tTruN (X : Cx) (te : TE) : TT := fun σ H Q => te σ H fun x H1 => ∃ (a : Addr) (kvs : List KeyT), x = .ref a ∧ DictT X.prog X.w H1 a kvs ∧ Q (!kvs.isEmpty) H1
theorem pt_dictN (he : PE X e te) (hi : ∀ whole, isTrue e X.env whole = (do let v ← whole; standAt e.pos; holding [v] (truthy v)) := by intro _; rfl) : PT X e (tTruN X te) := by
  refine ⟨fun pins s σ H Q I q => ?_⟩
  rw [hi]
  refine wpAny_bind (thn (he.run pins s σ H _ I q) fun u s1 ⟨x, H1, I1, rx, a, kvs, ex, D, q1⟩ => ?_)
  subst ex
  cases (show u = Value.ref a from rx)
  obtain ⟨few, apart, xs, rel, dd⟩ := dnt_of I1.hok D
  have same : kvs.length = xs.length := Paired.length rel
  have line := line63
  refine wpAny_bind (wpAny_standAt (wpAny_holding (truthy_keyed apart dd (by omega) ?_)))
  have e2 : xs.isEmpty = kvs.isEmpty := by cases rel <;> rfl
  rw [e2]
  exact ⟨H1, I1.tok _, q1⟩
end
end OF
namespace K31
open PySem PySem.Spec PyProof.Rows L2 OF
abbrev sLeft : Stmt := topS 27
abbrev sAllLeft : Stmt := topS 28
section
variable {P : Program} {w : World} {K : PySem.W.Frag} {mg : Str → Option Value} {base : Heap}
/-! ### the digits that may stand left of one -/
def spLeft (C : Addr) : Sp := fun vs H Q _ => ∃ (a t r : Addr) (b : Int) (ds : List Int) (ks : List (Addr × (Int × Int))) (z : V), vs = [.ref a, z] ∧ SchemeAt C H a t r b ds ks ∧ ds.length ≤ 60 ∧ (ItemOk H z ∨ z = .non) ∧
  ∀ (D : Addr) (H' : Hp), Same H H' → H' D = some (.lst ((ds.filter fun d => jdg ds ks (.int d) z).map V.int)) → Q (.ref D) H'
abbrev nLf : List Str := ["scheme", "right", "digit"]
theorem scLf : FnScope nLf ["scheme", "right"] (defScope sLeft) := ⟨rfl, rfl, rfl, by decide +kernel, rfl, by decide +kernel, by decide +kernel⟩
theorem ok_left {f fD fA C p : Addr} {fd fdD fdA : FuncData} (F : Fun K "left_digits" "left_digits" sLeft f fd) (c : Cls K C) (pD : PropOf K C "digits" p fD) (GD : FnOk P w K mg base CX0 1 fD fdD ["self"] (spPD C)) (bD : Binds K fdD ["self"] [])
    (mA : Meth K C "allows" fA) (GA : FnOk P w K mg base CX0 5 fA fdA ["self", "left", "right"] (spAllows C)) (bA : Binds K fdA ["self", "left", "right"] []) : FnOk P w K mg base CX0 6 f fd ["scheme", "right"] (spLeft C) := by
  refine F.ok scLf (fun vs H Q E h => ?_) (fun cdv A outer s H vs Q E hr h => ?_)
  · obtain ⟨a, t, r, b, ds, ks, z, rfl, _⟩ := h
    rfl
  · obtain ⟨a, t, r, b, ds, ks, z, rfl, S, hl, hz, q⟩ := h
    have hr2 : Room 2 _ := hr.mono (by decide)
    apply Exists.intro
    apply And.intro
    · apply pss_one
      · exact ps_ret (pe_lc (own := [("digit", 2)]) (g := gName 2) (tt := tB (tMeth C "allows" (spAllows C) [] E0 (tVar 0) (tCons (tVar 2) (tCons (tVar 1) tNil)))) (te := tVar 2) rfl scLf.nd (pi_tup (pe_prop (pv 0) c pD GD hr2 bD .nil pass0 (by rfl)))
          (blkOk_by (own := [("digit", 2)]) (N := nLf) (sc := defScope sLeft) (by decide +kernel)) (fun _ _ _ _ _ => pg_name (i := 2) scLf.nd rfl (Or.inl rfl)) (fun _ _ _ _ _ => by exact (pts_one (pt_val (pe_meth (pv 0) c mA GA hr bA .nil pass0 (pa_cons (pv 2) (pa_cons (pv 1) pa_nil)))))) (fun _ _ _ _ _ => by exact (pv 2)))
    obtain ⟨⟨dx, hins⟩, ht, _⟩ := id S
    refine ⟨.ref a, rfl, a, dx, _, rfl, hins, a, t, r, b, ds, ks, rfl, S, t, rfl, ⟨_, SqT.of ht⟩, fun D hD => ?_⟩
    refine lc_tup (K := K) (a := t) (xs := ds.map V.int) (fun i H' => Same H H' ∧ H' D = some (.lst (((ds.take i).filter fun d => jdg ds ks (.int d) z).map V.int))) ⟨same_new hD, upd_same⟩ (fun i H' _ h => SqT.of (h.1 _ _ ht)) ?_ ?_
    · rintro i x H1 hx ⟨s1, e1⟩
      obtain ⟨n, hn, rfl⟩ := get_map hx
      obtain ⟨⟨dx1, hins1⟩, _⟩ := id (S.same s1)
      refine ⟨rfl, .ref a, rfl, a, dx1, _, rfl, hins1, rfl, .int n, rfl, z, rfl, ?_⟩
      dsimp only [tNil, tCons, tC]
      refine allows_of (S.same s1) (.inl ⟨n, rfl⟩) (hz.imp (fun o => o.same s1) id) fun H2 s2 => ⟨_, rfl, ?_⟩
      have e2 := s2 _ _ e1
      cases hj : jdg ds ks (.int n) z with
      | true =>
        refine iteT ⟨.int n, rfl, _, e2, ?_, Same.store (s1.trans s2) hD, ?_⟩
        · rw [List.length_map]
          exact Nat.lt_of_le_of_lt (Nat.le_trans (List.length_filter_le _ _) (List.length_take_le' _ _)) (small1000 (by omega))
        · rw [upd_same, take_more hn, List.filter_append, List.map_append]
          simp [hj]
      | false =>
        refine iteF ⟨s1.trans s2, ?_⟩
        rw [e2, take_more hn, List.filter_append]
        simp [hj]
    · rintro H1 ⟨s1, e1⟩
      rw [List.length_map, List.take_length] at e1
      exact q D H1 s1 e1
/-- by the digit beside, or None: the digits that may stand left of it -/
def LeftsAt (P : Program) (w : World) (H : Hp) (D : Addr) (ds : List Int) (ks : List (Addr × (Int × Int))) (n : Nat) : Prop :=
  ∃ kvs : List (KeyN × V), H D = some (dN P w D kvs) ∧ kvs.length ≤ n ∧ ∀ i k, i < n → (none :: ds.map some)[i]? = some k → ∃ L, valV kvs k = some (.ref L) ∧ H L = some (.lst ((ds.filter fun d => jdg ds ks (.int d) (nV k)).map V.int))
def spAllLeft (P : Program) (w : World) (C : Addr) : Sp := fun vs H Q _ => ∃ (a t r : Addr) (b : Int) (ds : List Int) (ks : List (Addr × (Int × Int))), vs = [.ref a] ∧ SchemeAt C H a t r b ds ks ∧ ds.length ≤ 60 ∧
  ∀ (D : Addr) (H' : Hp), Same H H' → LeftsAt P w H' D ds ks (ds.length + 1) → Q (.ref D) H'
abbrev nAll : List Str := ["scheme", "right"]
theorem scAll : FnScope nAll ["scheme"] (defScope sAllLeft) := ⟨rfl, rfl, rfl, by decide +kernel, rfl, by decide +kernel, by decide +kernel⟩
theorem ok_allleft {f fL fD C p : Addr} {fd fdL fdD : FuncData} (F : Fun K "all_left_digits" "all_left_digits" sAllLeft f fd) (c : Cls K C) (pD : PropOf K C "digits" p fD) (GD : FnOk P w K mg base CX0 1 fD fdD ["self"] (spPD C)) (bD : Binds K fdD ["self"] [])
    (GL : FnOk P w K mg base CX0 6 fL fdL ["scheme", "right"] (spLeft C)) (gL : mg "left_digits" = some (.ref fL)) (kL : PySem.W.keepIn K (.ref fL) = true) (bL : Binds K fdL ["scheme", "right"] []) : FnOk P w K mg base CX0 7 f fd ["scheme"] (spAllLeft P w C) := by
  refine F.ok scAll (fun vs H Q E h => ?_) (fun cdv A outer s H vs Q E hr h => ?_)
  · obtain ⟨a, t, r, b, ds, ks, rfl, _⟩ := h
    rfl
  · obtain ⟨a, t, r, b, ds, ks, rfl, S, hl, q⟩ := h
    have hr2 : Room 2 _ := hr.mono (by decide)
    apply Exists.intro
    apply And.intro
    · apply pss_one
      · exact ps_ret (pe_dcK (κ := kN P w) (own := [("right", 1)]) (g := gName 1) (tk := tVar 1) (tv := tCall (spLeft C) [] E0 (tCons (tVar 0) (tCons (tVar 1) tNil))) (by exact Nat.lt_of_succ_lt (hu_of hr)) rfl scAll.nd (pi_tup (pe_op op_cat2 (pe_tup (pa_cons pe_non pa_nil)) (pe_prop (pv 0) c pD GD hr2 bD .nil pass0 (by rfl))))
          (blkOk_by (own := [("right", 1)]) (N := nAll) (sc := defScope sAllLeft) (by decide +kernel)) (fun _ _ _ _ _ => pg_name (i := 1) scAll.nd rfl (Or.inl rfl)) (fun _ _ _ _ _ => by exact pts_nil) (fun _ _ _ _ _ => by exact (pv 1)) (fun _ _ _ _ _ => by exact (pe_call GL hr (by rfl) gL kL bL .nil pass0 (pa_cons (pv 0) (pa_cons (pv 1) pa_nil)))))
    obtain ⟨⟨dx, hins⟩, ht, _⟩ := id S
    refine ⟨(by show 1 ≤ sizeLine; decide), fun p1 hp1 => ?_⟩
    have s1 := same_new (o := .tup [.non]) hp1
    have e1 : (upd H p1 (.tup [.non])) p1 = some (.tup [.non]) := upd_same
    generalize upd H p1 (.tup [.non]) = H1 at s1 e1 ⊢
    refine ⟨.ref a, rfl, a, dx, _, rfl, s1 _ _ hins, a, t, r, b, ds, ks, rfl, S.same s1, ?_⟩
    refine ⟨p1, t, _, _, rfl, rfl, e1, s1 _ _ ht, by rw [List.length_map]; exact Nat.le_trans (by show 1 + ds.length ≤ 1000; omega) (by decide), fun T H2 s2 eT => ?_⟩
    have s2 := s1.trans s2
    refine ⟨T, rfl, ⟨_, SqT.of eT⟩, fun D hD => ?_⟩
    refine dcK_it (κ := kN P w) (walk_tup (K := K) (a := T) (xs := [V.non] ++ ds.map V.int)) (fun i H' => Same H2 H' ∧ LeftsAt P w H' D ds ks i) ⟨same_new hD, [], upd_same, Nat.le_refl _, fun i k hi => nomatch hi⟩ (fun i H' _ h => SqT.of (h.1 _ _ eT)) ?_ ?_
    · rintro i x H0 H3 hi ⟨s3, kvs, e3, few, all⟩ ⟨rfl, hx⟩
      refine ⟨rfl, ?_⟩
      have same : [V.non] ++ ds.map V.int = (none :: ds.map some : List KeyN).map nV := by
        rw [List.map_cons, List.map_map]
        rfl
      rw [same] at hx
      obtain ⟨k, hk, rfl⟩ : ∃ k, (none :: ds.map some : List KeyN)[i]? = some k ∧ nV k = x := by
        rw [List.getElem?_map] at hx
        exact Option.map_eq_some_iff.mp hx
      have count : i < ds.length + 1 := by
        have z : ([V.non] ++ ds.map V.int).length = ds.length + 1 := by rw [List.length_append, List.length_map]; exact Nat.add_comm _ _
        omega
      have fits : ItemOk H3 (nV k) ∨ nV k = .non := by
        cases k with
        | none => exact .inr rfl
        | some d => exact .inl (.inl ⟨d, rfl⟩)
      dsimp only [tYes]
      refine iteTB rfl ?_
      refine ⟨_, rfl, .ref a, rfl, _, rfl, a, t, r, b, ds, ks, _, rfl, S.same (s2.trans s3), hl, fits, fun L H4 s4 eL => ?_⟩
      have e4 := s4 _ _ e3
      have off : ∀ {c : Addr} {xs : List V}, H4 c = some (.lst xs) → upd H4 D (dN P w D (putK kvs k (.ref L))) c = some (.lst xs) := fun {c xs} ec => by
        rw [upd_ne]
        · exact ec
        · rintro rfl
          rw [e4] at ec
          cases ec
      refine ⟨kvs, k, rfl, e4, Nat.lt_of_le_of_lt few (small1000 (by omega)), Same.store (s3.trans s4) hD, putK kvs k (.ref L), upd_same, Nat.le_trans (length_putK _ _ _) (by omega), fun i2 k2 hi2 hk2 => ?_⟩
      rw [valV_put]
      by_cases ek : k2 = k
      · subst ek
        rw [if_pos rfl]
        exact ⟨L, rfl, off eL⟩
      · rw [if_neg ek]
        have lt : i2 < i := by
          rcases Nat.lt_or_ge i2 i with z | z
          · exact z
          · have z2 : i2 = i := by omega
            subst z2
            rw [hk] at hk2
            exact absurd (Option.some.inj hk2).symm ek
        obtain ⟨L2, v2, e2⟩ := all i2 k2 lt hk2
        exact ⟨L2, v2, off (s4 _ _ e2)⟩
    · rintro H3 ⟨s3, L⟩
      exact q D H3 (s2.trans s3) (by
        have e : ([V.non] ++ ds.map V.int).length = ds.length + 1 := by rw [List.length_append, List.length_map]; exact Nat.add_comm _ _
        rw [e] at L
        exact L)
end
end K31
namespace K31
open PySem PySem.Spec PyProof.Rows L2 OF
section
variable {P : Program} {w : World} {K : PySem.W.Frag} {mg : Str → Option Value} {base : Heap}
/-! ### the open places, made -/
abbrev sOpInit : Stmt := inClass (topS 30) 0
theorem scheme_but {C o : Addr} {H H' : Hp} {a t r dx : Addr} {b : Int} {ds : List Int} {ks : List (Addr × (Int × Int))} {CO : Addr} {fs : List (Str × V)} (S : SchemeAt C H a t r b ds ks) (ho : H o = some (.ins CO dx fs)) (few : fs.length ≤ 2) (n : But o H H') : SchemeAt C H' a t r b ds ks := by
  obtain ⟨⟨dy, h1⟩, h2, h3, h4⟩ := S
  have na : a ≠ o := by
    rintro rfl
    rw [ho] at h1
    cases h1
    exact absurd few (by show ¬ 3 ≤ 2; decide)
  have tup : ∀ {c : Addr} {xs : List V}, H c = some (.tup xs) → c ≠ o := fun {c xs} e z => by
    rw [z, ho] at e
    cases e
  exact ⟨⟨dy, n _ _ na h1⟩, n _ _ (tup h2) h2, n _ _ (tup h3) h3, fun p hp => n _ _ (tup (h4 p hp)) (h4 p hp)⟩
def spOpen (CO C : Addr) : Sp := fun vs H Q _ => ∃ (o dx a t r : Addr) (b : Int) (ds : List Int) (ks : List (Addr × (Int × Int))), vs = [.ref o, .ref a] ∧ H o = some (.ins CO dx []) ∧ SchemeAt C H a t r b ds ks ∧ ds.length ≤ 60 ∧
  ∀ (L D : Addr) (H' : Hp), But o H H' → H' o = some (.ins CO dx [("_base", .int b), ("_lefts", .ref L), ("_known", .ref D)]) → Q .non H'
theorem scOp : FnScope ["self", "scheme"] ["self", "scheme"] (defScope sOpInit) := ⟨rfl, rfl, rfl, by decide +kernel, rfl, by decide +kernel, by decide +kernel⟩
theorem ok_open {f fB fL CO C p : Addr} {fd fdB fdL : FuncData} (F : Fun K "__init__" "OpenPlaces.__init__" sOpInit f fd) (cO : Cls K CO) (n1 : NoAttr K CO "_base") (n2 : NoAttr K CO "_lefts") (n3 : NoAttr K CO "_known") (c : Cls K C) (pB : PropOf K C "base" p fB) (GB : FnOk P w K mg base CX0 1 fB fdB ["self"] (spPB C)) (bB : Binds K fdB ["self"] [])
    (GL : FnOk P w K mg base CX0 7 fL fdL ["scheme"] (spAllLeft P w C)) (gL : mg "all_left_digits" = some (.ref fL)) (kL : PySem.W.keepIn K (.ref fL) = true) (bL : Binds K fdL ["scheme"] []) : FnOk P w K mg base CX0 8 f fd ["self", "scheme"] (spOpen CO C) := by
  refine F.ok scOp (fun vs H Q E h => ?_) (fun cdv A outer s H vs Q E hr h => ?_)
  · obtain ⟨o, dx, a, t, r, b, ds, ks, rfl, _⟩ := h
    rfl
  · obtain ⟨o, dx, a, t, r, b, ds, ks, rfl, ho, S, hl, q⟩ := h
    have hr2 : Room 2 _ := hr.mono (by decide)
    apply Exists.intro
    apply And.intro
    · apply pss_cons
      · exact ps_fld (pv 0) (pe_prop (pv 1) c pB GB hr2 bB .nil pass0 (by rfl)) rfl
      apply pss_cons
      · exact ps_fld (pv 0) (pe_call GL hr (by rfl) gL kL bL .nil pass0 (pa_cons (pv 1) pa_nil)) rfl
      apply pss_one
      · exact ps_fld (pv 0) pe_dnewNT rfl
    obtain ⟨⟨dy, hins⟩, _⟩ := id S
    refine ⟨.ref a, rfl, a, dy, _, rfl, hins, a, t, r, b, ds, ks, rfl, S, ?_⟩
    refine ⟨.ref o, rfl, o, CO, dx, [], rfl, ho, cO, n1, (by show 0 < 1000; decide), ?_⟩
    have t1 : But o H (upd H o (.ins CO dx (putF "_base" (.int b) []))) := But.at_
    have e1 : (upd H o (.ins CO dx (putF "_base" (.int b) []))) o = some (.ins CO dx [("_base", .int b)]) := upd_same
    generalize upd H o (.ins CO dx (putF "_base" (.int b) [])) = H1 at t1 e1 ⊢
    have S1 := scheme_but S ho (by decide) t1
    refine ⟨.ref a, rfl, a, t, r, b, ds, ks, rfl, S1, hl, fun L H2 s2 _ => ?_⟩
    have e2 := s2 _ _ e1
    refine ⟨.ref o, rfl, o, CO, dx, _, rfl, e2, cO, n2, (by show 1 < 1000; decide), ?_⟩
    have t2 : But o H (upd H2 o (.ins CO dx (putF "_lefts" (.ref L) [("_base", .int b)]))) := t1.trans ((But.of_same s2).trans But.at_)
    have e3 : (upd H2 o (.ins CO dx (putF "_lefts" (.ref L) [("_base", .int b)]))) o = some (.ins CO dx [("_base", .int b), ("_lefts", .ref L)]) := upd_same
    generalize upd H2 o (.ins CO dx (putF "_lefts" (.ref L) [("_base", .int b)])) = H3 at t2 e3 ⊢
    refine fun D hD => ?_
    have s4 := same_new (o := dNT P w D []) hD
    have e4 := s4 _ _ e3
    refine ⟨.ref o, rfl, o, CO, dx, _, rfl, e4, cO, n3, (by show 2 < 1000; decide), ?_⟩
    exact q L D _ (t2.trans ((But.of_same s4).trans But.at_)) upd_same
end
end K31
namespace K31
open PySem PySem.Spec PyProof.Rows L2 OF
section
variable {P : Program} {w : World} {K : PySem.W.Frag} {mg : Str → Option Value} {base : Heap}
/-! ### the pairs, made -/
abbrev sPaInit : Stmt := inClass (topS 49) 0
theorem same_made {x dx : Addr} {o : HO} {H H' : Hp} (hx : H x = none) (hdx : H dx = none) (n : But x (upd (upd H dx (.own x)) x o) H') : Same H H' := fun b u e => by
  have n1 : b ≠ x := ne_of_none e hx
  have n2 : b ≠ dx := ne_of_none e hdx
  refine n _ _ n1 ?_
  rw [upd_ne n1, upd_ne n2]
  exact e
theorem scheme_same {C : Addr} {H H' : Hp} {a t r : Addr} {b : Int} {ds : List Int} {ks : List (Addr × (Int × Int))} (S : SchemeAt C H a t r b ds ks) (s : Same H H') : SchemeAt C H' a t r b ds ks := S.same s
def spPairsI (CO CA C : Addr) : Sp := fun vs H Q _ => ∃ (o dx a t r : Addr) (b : Int) (ds : List Int) (ks : List (Addr × (Int × Int))), vs = [.ref o, .ref a] ∧ H o = some (.ins CA dx []) ∧ SchemeAt C H a t r b ds ks ∧ ds.length ≤ 60 ∧
  ∀ (L D : Addr) (H' : Hp), But o H H' → H' o = some (.ins CA dx [("_base", .int b), ("_places", .ref L), ("_behind", .ref D)]) → Q .non H'
theorem scPa : FnScope ["self", "target"] ["self", "target"] (defScope sPaInit) := ⟨rfl, rfl, rfl, by decide +kernel, rfl, by decide +kernel, by decide +kernel⟩
theorem ok_pairsI {f fB fO CO CA C p : Addr} {fd fdB fdO : FuncData} (F : Fun K "__init__" "Pairs.__init__" sPaInit f fd) (cA : Cls K CA) (n1 : NoAttr K CA "_base") (n2 : NoAttr K CA "_places") (n3 : NoAttr K CA "_behind") (c : Cls K C) (pB : PropOf K C "base" p fB) (GB : FnOk P w K mg base CX0 1 fB fdB ["self"] (spPB C)) (bB : Binds K fdB ["self"] [])
    (MO : Mk K CO fO) (GO : FnOk P w K mg base CX0 8 fO fdO ["self", "scheme"] (spOpen CO C)) (gO : mg "OpenPlaces" = some (.ref CO)) (bO : Binds K fdO ["self", "scheme"] []) : FnOk P w K mg base CX0 10 f fd ["self", "target"] (spPairsI CO CA C) := by
  refine F.ok scPa (fun vs H Q E h => ?_) (fun cdv A outer s H vs Q E hr h => ?_)
  · obtain ⟨o, dx, a, t, r, b, ds, ks, rfl, _⟩ := h
    rfl
  · obtain ⟨o, dx, a, t, r, b, ds, ks, rfl, ho, S, hl, q⟩ := h
    have hr2 : Room 2 _ := hr.mono (by decide)
    apply Exists.intro
    apply And.intro
    · apply pss_cons
      · exact ps_fld (pv 0) (pe_prop (pv 1) c pB GB hr2 bB .nil pass0 (by rfl)) rfl
      apply pss_cons
      · exact ps_fld (pv 0) (pe_make MO GO hr (by rfl) gO bO .nil pass0 (pa_cons (pv 1) pa_nil)) rfl
      apply pss_one
      · exact ps_fld (pv 0) pe_dnewNT rfl
    obtain ⟨⟨dy, hins⟩, _⟩ := id S
    refine ⟨.ref a, rfl, a, dy, _, rfl, hins, a, t, r, b, ds, ks, rfl, S, ?_⟩
    refine ⟨.ref o, rfl, o, CA, dx, [], rfl, ho, cA, n1, (by show 0 < 1000; decide), ?_⟩
    have t1 : But o H (upd H o (.ins CA dx (putF "_base" (.int b) []))) := But.at_
    have e1 : (upd H o (.ins CA dx (putF "_base" (.int b) []))) o = some (.ins CA dx [("_base", .int b)]) := upd_same
    generalize upd H o (.ins CA dx (putF "_base" (.int b) [])) = H1 at t1 e1 ⊢
    have S1 := scheme_but S ho (by decide) t1
    refine ⟨.ref a, rfl, fun x dz hx hdz nz => ?_⟩
    have s0 : Same H1 (upd (upd H1 dz (.own x)) x (.ins CO dz [])) := same_made hx hdz But.refl
    refine ⟨x, dz, a, t, r, b, ds, ks, rfl, upd_same, S1.same s0, hl, fun L D H2 t2 e2 => ⟨rfl, ?_⟩⟩
    have s2 : Same H1 H2 := same_made hx hdz t2
    have e3 := s2 _ _ e1
    refine ⟨.ref o, rfl, o, CA, dx, _, rfl, e3, cA, n2, (by show 1 < 1000; decide), ?_⟩
    have t3 : But o H (upd H2 o (.ins CA dx (putF "_places" (.ref x) [("_base", .int b)]))) := t1.trans ((But.of_same s2).trans But.at_)
    have e4 : (upd H2 o (.ins CA dx (putF "_places" (.ref x) [("_base", .int b)]))) o = some (.ins CA dx [("_base", .int b), ("_places", .ref x)]) := upd_same
    generalize upd H2 o (.ins CA dx (putF "_places" (.ref x) [("_base", .int b)])) = H3 at t3 e4 ⊢
    refine fun D2 hD2 => ?_
    have s4 := same_new (o := dNT P w D2 []) hD2
    refine ⟨.ref o, rfl, o, CA, dx, _, rfl, s4 _ _ e4, cA, n3, (by show 2 < 1000; decide), ?_⟩
    exact q x D2 _ (t3.trans ((But.of_same s4).trans But.at_)) upd_same
end
end K31
namespace K31
open PySem PySem.Spec PyProof.Rows L2 OF
section
variable {P : Program} {w : World} {K : PySem.W.Frag} {mg : Str → Option Value} {base : Heap}
/-! ### the carries, made -/
abbrev sCaInit : Stmt := inClass (topS 50) 0
theorem but_free {o c : Addr} {H H' : Hp} {u : HO} (t : But o H H') (ho : H' o = some u) (h : H' c = none) : H c = none := by
  rcases Option.eq_none_or_eq_some (H c) with z | ⟨v, z⟩
  · exact z
  · by_cases e : c = o
    · rw [e, ho] at h
      cases h
    · rw [t c v e z] at h
      cases h
def spCarI (P : Program) (w : World) (CC C : Addr) : Sp := fun vs H Q _ => ∃ (o dx a t r : Addr) (b : Int) (ds : List Int) (ks : List (Addr × (Int × Int))), vs = [.ref o, .ref a] ∧ H o = some (.ins CC dx []) ∧ SchemeAt C H a t r b ds ks ∧ ds.length ≤ 60 ∧
  ∀ (p0 l d d1 d2 d3 : Addr) (H' : Hp), But o H H' → H' o = some (.ins CC dx [("_pairs", .ref p0), ("_listed", .ref l), ("_bits", .ref d), ("_bits_behind", .ref d1), ("_unions", .ref d2), ("_decoded", .ref d3)]) → H l = none → H d = none → H' l = some (.lst []) → H' d = some (dNT P w d []) → Q .non H'
theorem scCa : FnScope ["self", "target"] ["self", "target"] (defScope sCaInit) := ⟨rfl, rfl, rfl, by decide +kernel, rfl, by decide +kernel, by decide +kernel⟩
theorem ok_carI {f fA CA CO CC C : Addr} {fd fdA : FuncData} (F : Fun K "__init__" "Carries.__init__" sCaInit f fd) (cC : Cls K CC) (n1 : NoAttr K CC "_pairs") (n2 : NoAttr K CC "_listed") (n3 : NoAttr K CC "_bits") (n4 : NoAttr K CC "_bits_behind") (n5 : NoAttr K CC "_unions") (n6 : NoAttr K CC "_decoded")
    (MA : Mk K CA fA) (GA : FnOk P w K mg base CX0 10 fA fdA ["self", "target"] (spPairsI CO CA C)) (gA : mg "Pairs" = some (.ref CA)) (bA : Binds K fdA ["self", "target"] []) : FnOk P w K mg base CX0 12 f fd ["self", "target"] (spCarI P w CC C) := by
  refine F.ok scCa (fun vs H Q E h => ?_) (fun cdv A outer s H vs Q E hr h => ?_)
  · obtain ⟨o, dx, a, t, r, b, ds, ks, rfl, _⟩ := h
    rfl
  · obtain ⟨o, dx, a, t, r, b, ds, ks, rfl, ho, S, hl, q⟩ := h
    apply Exists.intro
    apply And.intro
    · apply pss_cons
      · exact ps_fld (pv 0) (pe_make MA GA hr (by rfl) gA bA .nil pass0 (pa_cons (pv 1) pa_nil)) rfl
      apply pss_cons
      · exact ps_fld (pv 0) (pe_lst pa_nil) rfl
      apply pss_cons
      · exact ps_fld (pv 0) pe_dnewNT rfl
      apply pss_cons
      · exact ps_fld (pv 0) pe_dnewNT rfl
      apply pss_cons
      · exact ps_fld (pv 0) pe_dnewNT rfl
      apply pss_one
      · exact ps_fld (pv 0) pe_dnewNT rfl
    refine ⟨.ref a, rfl, fun x dz hx hdz nz => ?_⟩
    have s0 : Same H (upd (upd H dz (.own x)) x (.ins CA dz [])) := same_made hx hdz But.refl
    refine ⟨x, dz, a, t, r, b, ds, ks, rfl, upd_same, S.same s0, hl, fun L D H2 t2 e2 => ⟨rfl, ?_⟩⟩
    have s2 : Same H H2 := same_made hx hdz t2
    have e3 := s2 _ _ ho
    refine ⟨.ref o, rfl, o, CC, dx, _, rfl, e3, cC, n1, (by show 0 < 1000; decide), ?_⟩
    have t3 : But o H (upd H2 o (.ins CC dx (putF "_pairs" (.ref x) []))) := (But.of_same s2).trans But.at_
    have e4 : (upd H2 o (.ins CC dx (putF "_pairs" (.ref x) []))) o = some (.ins CC dx [("_pairs", .ref x)]) := upd_same
    generalize upd H2 o (.ins CC dx (putF "_pairs" (.ref x) [])) = H3 at t3 e4 ⊢
    -- the list
    refine ⟨(by show 0 ≤ sizeLine; decide), fun l hl2 => ?_⟩
    have s5 := same_new (o := .lst []) hl2
    have el : (upd H3 l (.lst [])) l = some (.lst []) := upd_same
    have e5 := s5 _ _ e4
    have nl : l ≠ o := (ne_of_none e4 hl2).symm
    have fl : H l = none := but_free t3 e4 hl2
    refine ⟨.ref o, rfl, o, CC, dx, _, rfl, e5, cC, n2, (by show 1 < 1000; decide), ?_⟩
    have t5 : But o H (upd (upd H3 l (.lst [])) o (.ins CC dx (putF "_listed" (.ref l) [("_pairs", .ref x)]))) := t3.trans ((But.of_same s5).trans But.at_)
    have el5 : (upd (upd H3 l (.lst [])) o (.ins CC dx (putF "_listed" (.ref l) [("_pairs", .ref x)]))) l = some (.lst []) := by rw [upd_ne nl]; exact el
    have e6 : (upd (upd H3 l (.lst [])) o (.ins CC dx (putF "_listed" (.ref l) [("_pairs", .ref x)]))) o = some (.ins CC dx [("_pairs", .ref x), ("_listed", .ref l)]) := upd_same
    generalize upd (upd H3 l (.lst [])) o (.ins CC dx (putF "_listed" (.ref l) [("_pairs", .ref x)])) = H5 at t5 el5 e6 ⊢
    -- the dicts
    refine fun d hd => ?_
    have s6 := same_new (o := dNT P w d []) hd
    have ed : (upd H5 d (dNT P w d [])) d = some (dNT P w d []) := upd_same
    have e7 := s6 _ _ e6
    have nd : d ≠ o := (ne_of_none e6 hd).symm
    have fdd : H d = none := but_free t5 e6 hd
    refine ⟨.ref o, rfl, o, CC, dx, _, rfl, e7, cC, n3, (by show 2 < 1000; decide), ?_⟩
    have t7 : But o H (upd (upd H5 d (dNT P w d [])) o (.ins CC dx (putF "_bits" (.ref d) [("_pairs", .ref x), ("_listed", .ref l)]))) := t5.trans ((But.of_same s6).trans But.at_)
    have el7 : (upd (upd H5 d (dNT P w d [])) o (.ins CC dx (putF "_bits" (.ref d) [("_pairs", .ref x), ("_listed", .ref l)]))) l = some (.lst []) := by rw [upd_ne nl]; exact s6 _ _ el5
    have ed7 : (upd (upd H5 d (dNT P w d [])) o (.ins CC dx (putF "_bits" (.ref d) [("_pairs", .ref x), ("_listed", .ref l)]))) d = some (dNT P w d []) := by rw [upd_ne nd]; exact ed
    have e8 : (upd (upd H5 d (dNT P w d [])) o (.ins CC dx (putF "_bits" (.ref d) [("_pairs", .ref x), ("_listed", .ref l)]))) o = some (.ins CC dx [("_pairs", .ref x), ("_listed", .ref l), ("_bits", .ref d)]) := upd_same
    have more : ∀ {c : Addr} {u : HO} {H8 : Hp} {d1 : Addr} {v : HO}, c ≠ o → H8 d1 = none → H8 c = some u → (upd (upd H8 d1 (dNT P w d1 [])) o v) c = some u := fun nc hd1 ec => by
      rw [upd_ne nc, upd_ne (ne_of_none ec hd1)]
      exact ec
    refine fun d1 hd1 => ?_
    have s8 := same_new (o := dNT P w d1 []) hd1
    refine ⟨.ref o, rfl, o, CC, dx, _, rfl, s8 _ _ e8, cC, n4, (by show 3 < 1000; decide), fun d2 hd2 => ?_⟩
    have s9 := same_new (o := dNT P w d2 []) hd2
    refine ⟨.ref o, rfl, o, CC, dx, _, rfl, s9 _ _ upd_same, cC, n5, (by show 4 < 1000; decide), fun d3 hd3 => ?_⟩
    have s10 := same_new (o := dNT P w d3 []) hd3
    refine ⟨.ref o, rfl, o, CC, dx, _, rfl, s10 _ _ upd_same, cC, n6, (by show 5 < 1000; decide), ?_⟩
    exact q x l d d1 d2 d3 _ (t7.trans ((But.of_same s8).trans (But.at_.trans ((But.of_same s9).trans (But.at_.trans ((But.of_same s10).trans But.at_)))))) upd_same fl fdd (more nl hd3 (more nl hd2 (more nl hd1 el7))) (more nd hd3 (more nd hd2 (more nd hd1 ed7)))
end
end K31
namespace K31
open PySem PySem.Spec PyProof.Rows L2 OF
section
variable {P : Program} {w : World} {K : PySem.W.Frag} {mg : Str → Option Value} {base : Heap}
/-! ### the bits of the first pair -/
abbrev sBits : Stmt := inClass (topS 50) 1
/-- all but two objects stay -/
def But2 (l d : Addr) (H H' : Hp) : Prop := ∀ c u, c ≠ l → c ≠ d → H c = some u → H' c = some u
def spBits (P : Program) (w : World) (CC : Addr) : Sp := fun vs H Q _ => ∃ (o dx L T p0 l d d1 d2 d3 : Addr), vs = [.ref o, .ref L] ∧ H o = some (.ins CC dx [("_pairs", .ref p0), ("_listed", .ref l), ("_bits", .ref d), ("_bits_behind", .ref d1), ("_unions", .ref d2), ("_decoded", .ref d3)]) ∧
  H l = some (.lst []) ∧ H d = some (dNT P w d []) ∧ H L = some (.lst [.ref T]) ∧ H T = some (.tup [.int 0, .non]) ∧ ∀ H', But2 l d H H' → Q (.int 1) H'
abbrev nBi : List Str := ["self", "pairs", "bits", "pair"]
theorem scBi : FnScope nBi ["self", "pairs"] (defScope sBits) := ⟨rfl, rfl, rfl, by decide +kernel, rfl, by decide +kernel, by decide +kernel⟩
theorem lkc_listed {p0 l d d1 d2 d3 : Addr} : ([("_pairs", V.ref p0), ("_listed", .ref l), ("_bits", .ref d), ("_bits_behind", .ref d1), ("_unions", .ref d2), ("_decoded", .ref d3)] : List (Str × V)).lookup ("_listed" : Str) = some (.ref l) := by
  rw [lookup_put, if_neg (by decide), lookup_put, if_pos rfl]
theorem lkc_bits {p0 l d d1 d2 d3 : Addr} : ([("_pairs", V.ref p0), ("_listed", .ref l), ("_bits", .ref d), ("_bits_behind", .ref d1), ("_unions", .ref d2), ("_decoded", .ref d3)] : List (Str × V)).lookup ("_bits" : Str) = some (.ref d) := by
  rw [lookup_put, if_neg (by decide), lookup_put, if_neg (by decide), lookup_put, if_pos rfl]
theorem ok_bits {f CC : Addr} {fd : FuncData} (F : Fun K "bits_of" "Carries.bits_of" sBits f fd) (cC : Cls K CC) (n2 : NoAttr K CC "_listed") (n3 : NoAttr K CC "_bits") (ml : mg "len" = none) : FnOk P w K mg base CX0 1 f fd ["self", "pairs"] (spBits P w CC) := by
  refine F.ok scBi (fun vs H Q E h => ?_) (fun cdv A outer s H vs Q E hr h => ?_)
  · obtain ⟨o, dx, L, T, p0, l, d, d1, d2, d3, rfl, _⟩ := h
    rfl
  · obtain ⟨o, dx, L, T, p0, l, d, d1, d2, d3, rfl, ho, hl, hd, hL, hT, q⟩ := h
    have hu := hu_of hr
    apply Exists.intro
    apply And.intro
    · apply pss_cons
      · exact ps_set (i := 2) scBi.nd rfl (.inl rfl) pe_int
      apply pss_cons
      · exact ps_for PassesOwn.never rfl (pi_list (pv 1)) (pg_name (i := 3) scBi.nd rfl (.inl rfl)) (pss_cons (ps_if (pt_cmpR (op_notInNT hu) (pv 3) (pe_fld (pv 0) rfl) rfl)
            (pss_cons (ps_asg (pe_op op_oneShl pe_int (pe_callB call_len_seq (by rfl) ml PySem.boot_len (pa_cons (pe_fld (pv 0) rfl) pa_nil))) (pg_sub (pe_fld (pv 0) rfl) (pv 3) (set_dictNT hu)))
              (pss_one (ps_expr (pe_bm PySem.F.plainAttrs_list PySem.F.slot_list_append PySem.F.type_list_append mt_append (pe_fld (pv 0) rfl) (pa_cons (pv 3) pa_nil))))) pss_nil)
          (pss_one (ps_set (i := 2) scBi.nd rfl (.inl rfl) (pe_op op_orL (pv 2) (pe_ix (ix_dictNT hu) (pe_fld (pv 0) rfl) (pv 3) (fun _ _ => rfl))))))
      apply pss_one
      · exact ps_ret (pv 2)
    have nLl : L ≠ l := fun z => by
      rw [z, hl] at hL
      cases hL
    have nLd : L ≠ d := fun z => by
      rw [z, hd] at hL
      cases hL
    have nTl : T ≠ l := fun z => by
      rw [z, hl] at hT
      cases hT
    have nTd : T ≠ d := fun z => by
      rw [z, hd] at hT
      cases hT
    have nol : o ≠ l := fun z => by
      rw [z, hl] at ho
      cases ho
    have nod : o ≠ d := fun z => by
      rw [z, hd] at ho
      cases ho
    have nld : l ≠ d := fun z => by
      rw [z, hd] at hl
      cases hl
    refine ⟨.ref L, rfl, L, rfl, ⟨_, SqL.of hL⟩, for_list (K := K) (a := L) (xs := [V.ref T]) (fun i σ H' => (i = 0 ∧ σ = [some (.ref o), some (.ref L), some (.int 0), none] ∧ H' = H) ∨ (i = 1 ∧ (∃ v, σ = [some (.ref o), some (.ref L), some (.int 1), v]) ∧ But2 l d H H')) (.inl ⟨rfl, rfl, rfl⟩) (fun i σ H' _ h => ?_) ?_ ?_⟩
    · rcases h with ⟨_, _, rfl⟩ | ⟨_, _, b⟩
      · exact SqL.of hL
      · exact SqL.of (b _ _ nLl nLd hL)
    · rintro i x σ H' hx (⟨rfl, rfl, rfl⟩ | ⟨rfl, _, _⟩)
      · cases hx
        have DD : DictT P w H' d [] := ⟨.inl hd, fun p hp => nomatch hp⟩
        refine ⟨.ref T, rfl, .ref o, rfl, o, CC, dx, _, .ref d, rfl, ho, cC, n3, lkc_bits, d, [], [some 0, none], T, rfl, rfl, DD, hT, _, rfl, iteT ?_⟩
        refine ⟨.ref o, rfl, o, CC, dx, _, .ref l, rfl, ho, cC, n2, lkc_listed, l, [], rfl, .inl (SqL.of hl), 0, rfl, rfl, by decide, ?_⟩
        refine ⟨.ref o, rfl, o, CC, dx, _, .ref d, rfl, ho, cC, n3, lkc_bits, .ref T, rfl, d, [], [some 0, none], T, rfl, rfl, DD, hd, hT, by decide, ?_⟩
        have D1 := DD.put (k := [some 0, none]) (v := .int (2 ^ 0)) hd hT
        have t1 : But d H' (upd H' d (dNT P w d (putN [] [some 0, none] T (.int (2 ^ 0))))) := But.at_
        have ho1 := t1 _ _ nod ho
        have hl1 := t1 _ _ nld hl
        refine ⟨.ref o, rfl, o, CC, dx, _, .ref l, rfl, ho1, cC, n2, lkc_listed, .inl ⟨rfl, _, SqL.of hl1⟩, .ref T, rfl, l, _, _, rfl, rfl, hl1, by decide, ?_⟩
        have nld2 : d ≠ l := nld.symm
        have t2 : But2 l d H' (upd (upd H' d (dNT P w d (putN [] [some 0, none] T (.int (2 ^ 0))))) l (.lst ([] ++ [.ref T]))) := fun c u n1 n2 e => by rw [upd_ne n1]; exact t1 _ _ n2 e
        have D2 : DictT P w (upd (upd H' d (dNT P w d (putN [] [some 0, none] T (.int (2 ^ 0))))) l (.lst ([] ++ [.ref T]))) d (putN [] [some 0, none] T (.int (2 ^ 0))) := D1.stay (upd_ne nld2) (fun b xs e => by rw [upd_ne (fun z => by rw [z, hl1] at e; cases e)]; exact e)
        have ho2 := t2 _ _ nol nod ho
        have hT2 := t2 _ _ nTl nTd hT
        refine ⟨.int 0, rfl, .ref o, rfl, o, CC, dx, _, .ref d, rfl, ho2, cC, n3, lkc_bits, .ref T, rfl, d, _, [some 0, none], T, .int 1, rfl, rfl, D2, hT2, rfl, 0, 1, 1, rfl, rfl, by decide, .inr ⟨rfl, ⟨_, rfl⟩, t2⟩⟩
      · cases hx
    · rintro σ H' (⟨h0, _⟩ | ⟨_, ⟨v, rfl⟩, b⟩)
      · cases h0
      · exact ⟨.int 1, rfl, q _ b⟩
end
end K31
/-! {k: v}, k a key of None, ints and tuples of such, nested: a dict of which no more is known than that it is there. -/
namespace OF
open PySem PySem.Spec PyProof.Rows L2
mutual
inductive KeyAt (H : Hp) : NestedKey → V → Prop
  | non : KeyAt H .none .non
  | int (i : Int) : KeyAt H (.num i) (.int i)
  | tup {a : Addr} {xs : List V} {ks : List NestedKey} (e : H a = some (.tup xs)) (r : KeyAll H ks xs) : KeyAt H (.tup ks) (.ref a)
inductive KeyAll (H : Hp) : List NestedKey → List V → Prop
  | nil : KeyAll H [] []
  | cons {k : NestedKey} {x : V} {ks : List NestedKey} {xs : List V} (h : KeyAt H k x) (r : KeyAll H ks xs) : KeyAll H (k :: ks) (x :: xs)
end
section
variable {P : Program} {w : World} {H : Hp} {h : Heap}
mutual
theorem KeyAt.is (ok : HOk P w H h) : ∀ {k : NestedKey} {x : V} {u : Value}, KeyAt H k x → RelV x u → NestedIs h k u
  | _, _, u, .non, r => by
    cases (show u = Value.none from r)
    exact .none
  | _, _, u, .int i, r => by
    obtain ⟨t, rfl⟩ := (show ∃ t, u = Value.int i t from r)
    exact .int _ _
  | _, _, u, @KeyAt.tup _ a xs ks e r2, r => by
    cases (show u = Value.ref a from r)
    obtain ⟨_, us, rv, o, e1, e2, n, e3⟩ := (show ObjOk P w H h a (.tup xs) from ok a _ e)
    exact .tup e1 e2 e3 (by simpa using KeyAll.is ok r2 rv)
theorem KeyAll.is (ok : HOk P w H h) : ∀ {ks : List NestedKey} {xs : List V} {us : List Value}, KeyAll H ks xs → Vals xs us → NestedAll h ks us
  | _, _, _, .nil, .nil => .nil
  | _, _, _, .cons k r, .cons r1 r2 => .cons (k.is ok r1) (r.is ok r2)
end
/-- an object is there -/
def dAny (a : Addr) : HO := .ext fun h => ∃ o, h.get? a = some o
theorem dany_obj {a : Addr} (x : ∃ o, h.get? a = some o) : ObjOk P w H h a (dAny a) := ⟨x, x, fun h1 h2 ⟨o, y⟩ k => ⟨o, k _ y⟩⟩
end
section
variable {X : Cx} {pos : Pos}
/-- {k: v}: the dict stands empty while the pair is made -/
def tD1K (P : Program) (w : World) (tk tv : TE) : TE := fun σ H Q => ∀ p, H p = none → tk σ (upd H p (dNT P w p [])) fun x H1 => tv σ H1 fun y H2 =>
  ∃ (k : NestedKey) (b : Addr), x = .ref b ∧ H2 p = some (dNT P w p []) ∧ KeyAt H2 k (.ref b) ∧ k.depth ≤ 8 ∧ Q (.ref p) (upd H2 p (dAny p))
theorem pe_disp1K {k v : Expr} {tk tv : TE} (hu : X.A.units + 8 < cLine) (hk : PE X k tk) (hv : PE X v tv) : PE X (.Dict [some k] [v] pos) (tD1K X.prog X.w tk tv) := by
  refine ⟨fun pins s σ H Q I q => ?_⟩
  have free : H s.heap.objs.size = none := I.hok.fresh (Nat.le_refl _)
  have apart : (s.heap.objs.size == sysModules) = false := beq_eq_false_iff_ne.mpr (Ne.symm (Nat.ne_of_lt I.big))
  have made : ObjOk X.prog X.w (upd H s.heap.objs.size (dNT X.prog X.w s.heap.objs.size [])) (s.heap.push { cls := .type "dict", data := .dict #[] }) s.heap.objs.size (dNT X.prog X.w s.heap.objs.size []) :=
    dt_obj ⟨Nat.zero_le _, apart, [], .nil, _, #[], 0, Heap.get?_push_size _ rfl, ⟨rfl, rfl, rfl⟩, rfl, rfl, List.nodup_nil⟩
  have I1 := I.laid (a := s.heap.objs.size) (o := dNT X.prog X.w s.heap.objs.size []) (t' := s.toks) (fun _ _ z => Heap.get?_push_of_some _ z) (Nat.le_refl _) made
  have pairs : PPs X pos [some k] [v] [(tk, tv)] := pps_cons hk hv pps_nil
  have run := pairs.run pins _ σ _ (fun ps H2 => match ps with
    | [(x, y)] => ∃ (k : NestedKey) (b : Addr), x = .ref b ∧ H2 s.heap.objs.size = some (dNT X.prog X.w s.heap.objs.size []) ∧ KeyAt H2 k (.ref b) ∧ k.depth ≤ 8 ∧ Q (.ref s.heap.objs.size) (upd H2 s.heap.objs.size (dAny s.heap.objs.size))
    | _ => False) I1 (q _ free)
  have one : (pairTrees [some k] [v] X.env pos).length = 1 := rfl
  rw [arm_eval_Dict, zip_pairTrees [some k] [v] X.env pos rfl rfl, dictDisplay_pairs (pairTrees [some k] [v] X.env pos) (fun z => nomatch z) (by rw [one]; decide)]
  refine wpAny_bind (wpAny_standAt (wpAny_bind (wpAny_subDictH (knd := nestedKind X.prog X.w) hu (by rw [one]; decide) (thn run fun ws s2 got => ?_))))
  obtain ⟨ps, H2, I2, rel, fin⟩ := got
  cases rel with
  | nil => exact fin.elim
  | @cons p0 w0 ps ws r1 r2 =>
    cases r2 with
    | cons _ _ => exact fin.elim
    | nil =>
      obtain ⟨x, y⟩ := p0
      obtain ⟨u0, u1⟩ := w0
      obtain ⟨ks, b, rfl, eD, eb, dp, fin⟩ := fin
      cases (show u0 = Value.ref b from r1.1)
      obtain ⟨z, n, xs, rel, o, es, ep, e1, e2, e3, e4, e5⟩ := (show ObjOk X.prog X.w H2 s2.heap s.heap.objs.size (dNT X.prog X.w s.heap.objs.size []) from I2.hok _ _ eD).1
      cases rel
      have dd : s2.heap.DictOfH (nestedKind X.prog X.w) s.heap.objs.size [] := ⟨o, es, ep, e1, e2, e3, e4, (fun x hx => nomatch hx), List.nodup_nil⟩
      refine ⟨[(ks, b, u1)], ⟨rfl, rfl, ⟨KeyAt.is I2.hok eb rfl, dp⟩, True.intro⟩, dd, fun h' tk' dd' hs => ?_⟩
      obtain ⟨o, es, ep, e1, e2, e3, e4, _, e5⟩ := dd'
      exact wpAny_pure ⟨.ref s.heap.objs.size, _, d_write I2 (by rw [eD]; exact True.intro) hs ⟨o, e1⟩ (dany_obj ⟨o, e1⟩), rfl, fin⟩
end
end OF
namespace K31
open PySem PySem.Spec PyProof.Rows L2 OF
section
variable {P : Program} {w : World} {K : PySem.W.Frag} {mg : Str → Option Value} {base : Heap}
/-! ### the graph of states, made -/
abbrev sGrInit : Stmt := inClass (topS 64) 0
def spGraphI (CG C : Addr) : Sp := fun vs H Q _ => ∃ (o dx tt a t r : Addr) (xs : List V) (b : Int) (ds : List Int) (ks : List (Addr × (Int × Int))), vs = [.ref o, .ref tt, .ref a] ∧ H o = some (.ins CG dx []) ∧ H tt = some (.tup xs) ∧ xs.length ≤ 2 ∧ SchemeAt C H a t r b ds ks ∧ ds.length ≤ 60 ∧
  ∀ (H' : Hp), But o H H' → Q .non H'
abbrev nGr : List Str := ["self", "terms", "target", "first", "_"]
theorem scGr : FnScope nGr ["self", "terms", "target"] (defScope sGrInit) := ⟨rfl, rfl, rfl, by decide +kernel, rfl, by decide +kernel, by decide +kernel⟩

theorem free_same {H H' : Hp} {c : Addr} (s : Same H H') (h : H' c = none) : H c = none := by
  rcases Option.eq_none_or_eq_some (H c) with z | ⟨v, z⟩
  · exact z
  · rw [s c v z] at h
    cases h
theorem none_key {H : Hp} : ∀ n : Nat, KeyAll H (List.replicate n NestedKey.none) (List.replicate n V.non)
  | 0 => .nil
  | n + 1 => .cons .non (none_key n)
theorem one_key {H : Hp} : ∀ n : Nat, KeyAll H (List.replicate n (NestedKey.num 1)) (List.replicate n (V.int 1))
  | 0 => .nil
  | n + 1 => .cons (.int 1) (one_key n)
theorem depth_rep (k : NestedKey) (hk : k.depth = 0) : ∀ n : Nat, NestedKey.depthAll (List.replicate n k) = 0
  | 0 => by simp only [List.replicate, NestedKey.depthAll]
  | n + 1 => by
    rw [List.replicate_succ, NestedKey.depthAll, hk, depth_rep k hk n]
    rfl
theorem rep_take (x : V) (n i : Nat) (h : i < n) : List.replicate i x ++ [x] = List.replicate (i + 1) x := (List.replicate_succ' ..).symm
set_option maxHeartbeats 1000000 in
theorem ok_graph {f fC fB CG CC C : Addr} {fd fdC fdB : FuncData} (F : Fun K "__init__" "StateGraph.__init__" sGrInit f fd) (cG : Cls K CG) (n1 : NoAttr K CG "_terms") (n2 : NoAttr K CG "_target") (n3 : NoAttr K CG "_carries") (n4 : NoAttr K CG "_turns") (n5 : NoAttr K CG "_nodes") (n6 : NoAttr K CG "_known") (n7 : NoAttr K CG "_sources") (n8 : NoAttr K CG "_passed")
    (MC : Mk K CC fC) (GC : FnOk P w K mg base CX0 12 fC fdC ["self", "target"] (spCarI P w CC C)) (gC : mg "Carries" = some (.ref CC)) (bC : Binds K fdC ["self", "target"] []) (cC : Cls K CC) (m3 : NoAttr K CG "_carries")
    (mB : Meth K CC "bits_of" fB) (GB : FnOk P w K mg base CX0 1 fB fdB ["self", "pairs"] (spBits P w CC)) (bB : Binds K fdB ["self", "pairs"] []) (mt : mg "tuple" = none) : FnOk P w K mg base CX0 14 f fd ["self", "terms", "target"] (spGraphI CG C) := by
  refine F.ok scGr (fun vs H Q E h => ?_) (fun cdv A outer s H vs Q E hr h => ?_)
  · obtain ⟨o, dx, tt, a, t, r, xs, b, ds, ks, rfl, _⟩ := h
    rfl
  · obtain ⟨o, dx, tt, a, t, r, xs, b, ds, ks, rfl, ho, htt, hxs, S, hl, q⟩ := h
    have hr2 : Room 1 _ := hr.mono (by decide)
    apply Exists.intro
    apply And.intro
    · apply pss_cons
      · exact ps_fld (pv 0) (pv 1) rfl
      apply pss_cons
      · exact ps_fld (pv 0) (pv 2) rfl
      apply pss_cons
      · exact ps_fld (pv 0) (pe_make MC GC hr (by rfl) gC bC .nil pass0 (pa_cons (pv 2) pa_nil)) rfl
      apply pss_cons
      · exact ps_fld (pv 0) pe_dnewNT rfl
      apply pss_cons
      · exact ps_set (i := 3) scGr.nd rfl (.inl rfl) (pe_tup (pa_cons (pe_callTy call_tuple_of (by rfl) mt (by decide +kernel) (pa_cons (pe_lc (own := [("_", 4)]) (g := gName 4) (tt := tYes) (te := tC .non) rfl scGr.nd (pi_tup (pv 1))
            (blkOk_by (own := [("_", 4)]) (N := nGr) (sc := defScope sGrInit) (by decide +kernel)) (fun _ _ _ _ _ => pg_name (i := 4) scGr.nd rfl (Or.inl rfl)) (fun _ _ _ _ _ => pts_nil) (fun _ _ _ _ _ => by exact pe_non)) pa_nil))
          (pa_cons (pe_callTy call_tuple_of (by rfl) mt (by decide +kernel) (pa_cons (pe_lc (own := [("_", 4)]) (g := gName 4) (tt := tYes) (te := tC (.int 1)) rfl scGr.nd (pi_tup (pv 1))
            (blkOk_by (own := [("_", 4)]) (N := nGr) (sc := defScope sGrInit) (by decide +kernel)) (fun _ _ _ _ _ => pg_name (i := 4) scGr.nd rfl (Or.inl rfl)) (fun _ _ _ _ _ => pts_nil) (fun _ _ _ _ _ => by exact pe_int)) pa_nil))
          (pa_cons (pe_meth (pe_fld (pv 0) rfl) cC mB GB hr2 bB .nil pass0 (pa_cons (pe_lst (pa_cons (pe_tup (pa_cons pe_int (pa_cons pe_non pa_nil))) pa_nil)) pa_nil)) pa_nil))))
      apply pss_cons
      · exact ps_fld (pv 0) (pe_lst (pa_cons (pv 3) pa_nil)) rfl
      apply pss_cons
      · exact ps_fld (pv 0) (pe_disp1K (Nat.lt_of_le_of_lt (Nat.add_le_add_left (by decide : 8 ≤ 64) _) hr.units) (pv 3) pe_bl) rfl
      apply pss_cons
      · exact ps_fld (pv 0) (pe_lst (pa_cons pe_non pa_nil)) rfl
      apply pss_one
      · exact ps_fld (pv 0) pe_int rfl
    refine ⟨.ref tt, rfl, .ref o, rfl, o, CG, dx, [], rfl, ho, cG, n1, (by show 0 < 1000; decide), ?_⟩
    have t1 : But o H (upd H o (.ins CG dx (putF "_terms" (.ref tt) []))) := But.at_
    have e1 : (upd H o (.ins CG dx (putF "_terms" (.ref tt) []))) o = some (.ins CG dx [("_terms", .ref tt)]) := upd_same
    generalize upd H o (.ins CG dx (putF "_terms" (.ref tt) [])) = H1 at t1 e1 ⊢
    refine ⟨.ref a, rfl, .ref o, rfl, o, CG, dx, _, rfl, e1, cG, n2, (by show 1 < 1000; decide), ?_⟩
    have t2 : But o H (upd H1 o (.ins CG dx (putF "_target" (.ref a) [("_terms", .ref tt)]))) := t1.trans But.at_
    have e2 : (upd H1 o (.ins CG dx (putF "_target" (.ref a) [("_terms", .ref tt)]))) o = some (.ins CG dx [("_terms", .ref tt), ("_target", .ref a)]) := upd_same
    generalize upd H1 o (.ins CG dx (putF "_target" (.ref a) [("_terms", .ref tt)])) = H2 at t2 e2 ⊢
    have S2 := scheme_but S ho (by decide) t2
    refine ⟨.ref a, rfl, fun x dz hx hdz nz => ?_⟩
    have s0 : Same H2 (upd (upd H2 dz (.own x)) x (.ins CC dz [])) := same_made hx hdz But.refl
    refine ⟨x, dz, a, t, r, b, ds, ks, rfl, upd_same, S2.same s0, hl, fun p0 l d d1 d2 d3 H3 t3 e3 fl fdd el ed => ⟨rfl, ?_⟩⟩
    have s3 : Same H2 H3 := same_made hx hdz t3
    have fl2 := free_same s0 fl
    have fd2 := free_same s0 fdd
    have eo3 := s3 _ _ e2
    have nx : x ≠ o := (ne_of_none e2 hx).symm
    have nl : l ≠ o := (ne_of_none e2 fl2).symm
    have nd : d ≠ o := (ne_of_none e2 fd2).symm
    refine ⟨.ref o, rfl, o, CG, dx, _, rfl, eo3, cG, n3, (by show 2 < 1000; decide), ?_⟩
    have t4 : But o H (upd H3 o (.ins CG dx (putF "_carries" (.ref x) [("_terms", .ref tt), ("_target", .ref a)]))) := t2.trans ((But.of_same s3).trans But.at_)
    have e4 : (upd H3 o (.ins CG dx (putF "_carries" (.ref x) [("_terms", .ref tt), ("_target", .ref a)]))) o = some (.ins CG dx [("_terms", .ref tt), ("_target", .ref a), ("_carries", .ref x)]) := upd_same
    have ex4 : (upd H3 o (.ins CG dx (putF "_carries" (.ref x) [("_terms", .ref tt), ("_target", .ref a)]))) x = _ := (upd_ne nx).trans e3
    have el4 : (upd H3 o (.ins CG dx (putF "_carries" (.ref x) [("_terms", .ref tt), ("_target", .ref a)]))) l = _ := (upd_ne nl).trans el
    have ed4 : (upd H3 o (.ins CG dx (putF "_carries" (.ref x) [("_terms", .ref tt), ("_target", .ref a)]))) d = _ := (upd_ne nd).trans ed
    generalize upd H3 o (.ins CG dx (putF "_carries" (.ref x) [("_terms", .ref tt), ("_target", .ref a)])) = H4 at t4 e4 ex4 el4 ed4 ⊢
    refine fun dt hdt => ?_
    have s5 := same_new (o := dNT P w dt []) hdt
    refine ⟨.ref o, rfl, o, CG, dx, _, rfl, s5 _ _ e4, cG, n4, (by show 3 < 1000; decide), ?_⟩
    dsimp only [cxOf, L2.Cx.nox]
    have t5 : But o H (upd (upd H4 dt (dNT P w dt [])) o (.ins CG dx (putF "_turns" (.ref dt) [("_terms", .ref tt), ("_target", .ref a), ("_carries", .ref x)]))) := t4.trans ((But.of_same s5).trans But.at_)
    have k5 : ∀ {c : Addr} {u : HO}, c ≠ o → H4 c = some u → (upd (upd H4 dt (dNT P w dt [])) o (.ins CG dx (putF "_turns" (.ref dt) [("_terms", .ref tt), ("_target", .ref a), ("_carries", .ref x)]))) c = some u := fun nc ec => (upd_ne nc).trans (s5 _ _ ec)
    have e5 : (upd (upd H4 dt (dNT P w dt [])) o (.ins CG dx (putF "_turns" (.ref dt) [("_terms", .ref tt), ("_target", .ref a), ("_carries", .ref x)]))) o = some (.ins CG dx [("_terms", .ref tt), ("_target", .ref a), ("_carries", .ref x), ("_turns", .ref dt)]) := upd_same
    have ex5 := k5 nx ex4
    have el5 := k5 nl el4
    have ed5 := k5 nd ed4
    clear k5
    generalize upd (upd H4 dt (dNT P w dt [])) o (.ins CG dx (putF "_turns" (.ref dt) [("_terms", .ref tt), ("_target", .ref a), ("_carries", .ref x)])) = H5 at t5 e5 ex5 el5 ed5 ⊢
    have tt5 : H5 tt = some (.tup xs) := t5 _ _ (fun z => by rw [z, ho] at htt; cases htt) htt
    refine ⟨.ref tt, rfl, tt, rfl, ⟨_, SqT.of tt5⟩, fun D1 hD1 => ?_⟩
    refine lc_tup (K := K) (a := tt) (xs := xs) (fun i H' => Same H5 H' ∧ H' D1 = some (.lst (List.replicate i V.non))) ⟨same_new hD1, upd_same⟩ (fun i H' _ h => SqT.of (h.1 _ _ tt5)) ?_ ?_
    · rintro i z H' hz ⟨s6, e6⟩
      have hi : i < xs.length := (List.getElem?_eq_some_iff.mp hz).1
      exact ⟨rfl, tYes_if ⟨_, e6, by rw [List.length_replicate]; exact Nat.lt_of_lt_of_le hi (Nat.le_trans hxs (by decide)), Same.store s6 hD1, by rw [upd_same, ← rep_take _ _ _ hi]⟩⟩
    rintro H6 ⟨s6, e6⟩
    refine ⟨D1, _, rfl, .inl ⟨SqL.of e6, fun T1 hT1 => ?_⟩⟩
    have s7 := s6.trans (same_new (o := .tup (List.replicate xs.length V.non)) hT1)
    have eT1 : (upd H6 T1 (.tup (List.replicate xs.length V.non))) T1 = _ := upd_same
    generalize upd H6 T1 (.tup (List.replicate xs.length V.non)) = H7 at s7 eT1 ⊢
    refine ⟨.ref tt, rfl, tt, rfl, ⟨_, SqT.of (s7 _ _ tt5)⟩, fun D2 hD2 => ?_⟩
    refine lc_tup (K := K) (a := tt) (xs := xs) (fun i H' => Same H7 H' ∧ H' D2 = some (.lst (List.replicate i (V.int 1)))) ⟨same_new hD2, upd_same⟩ (fun i H' _ h => SqT.of (h.1 _ _ (s7 _ _ tt5))) ?_ ?_
    · rintro i z H' hz ⟨s8, e8⟩
      have hi : i < xs.length := (List.getElem?_eq_some_iff.mp hz).1
      exact ⟨rfl, tYes_if ⟨_, e8, by rw [List.length_replicate]; exact Nat.lt_of_lt_of_le hi (Nat.le_trans hxs (by decide)), Same.store s8 hD2, by rw [upd_same, ← rep_take _ _ _ hi]⟩⟩
    rintro H8 ⟨s8, e8⟩
    refine ⟨D2, _, rfl, .inl ⟨SqL.of e8, fun T2 hT2 => ?_⟩⟩
    have s9 := s8.trans (same_new (o := .tup (List.replicate xs.length (V.int 1))) hT2)
    have eT2 : (upd H8 T2 (.tup (List.replicate xs.length (V.int 1)))) T2 = _ := upd_same
    generalize upd H8 T2 (.tup (List.replicate xs.length (V.int 1))) = H9 at s9 eT2 ⊢
    have s59 := s7.trans s9
    have eT1b := s9 _ _ eT1
    refine ⟨.ref o, rfl, o, CG, dx, _, .ref x, rfl, s59 _ _ e5, cG, n3, (by rw [lookup_put, if_neg (by decide), lookup_put, if_neg (by decide), lookup_put, if_pos rfl]), x, dz, _, rfl, s59 _ _ ex5, rfl, (by show 2 ≤ sizeLine; decide), fun T3 hT3 => ?_⟩
    have s10 := s59.trans (same_new (o := .tup [.int 0, .non]) hT3)
    have u10 := same_new (o := .tup [.int 0, .non]) hT3
    have eT3 : (upd H9 T3 (.tup [.int 0, .non])) T3 = _ := upd_same
    have eT1c := u10 _ _ eT1b
    have eT2c := u10 _ _ eT2
    generalize upd H9 T3 (.tup [.int 0, .non]) = H10 at s10 eT3 eT1c eT2c ⊢
    refine ⟨(by show 1 ≤ sizeLine; decide), fun L1 hL1 => ?_⟩
    have u11 := same_new (o := .lst [.ref T3]) hL1
    have s11 := s10.trans u11
    have eL1 : (upd H10 L1 (.lst [.ref T3])) L1 = _ := upd_same
    have eT3d := u11 _ _ eT3
    have eT1d := u11 _ _ eT1c
    have eT2d := u11 _ _ eT2c
    generalize upd H10 L1 (.lst [.ref T3]) = H11 at s11 eL1 eT3d eT1d eT2d ⊢
    refine ⟨x, dz, L1, T3, p0, l, d, d1, d2, d3, rfl, s11 _ _ ex5, s11 _ _ el5, s11 _ _ ed5, eL1, eT3d, fun H12 b12 => ?_⟩
    have fl0 : ∀ {c : Addr}, H2 c = none → c ≠ o → H c = none := fun hc nc => by
      rcases Option.eq_none_or_eq_some (H _) with z | ⟨v, z⟩
      · exact z
      · rw [t2 _ _ nc z] at hc
        cases hc
    have t12 : But o H H12 := fun c u nc ec => b12 _ _ (ne_of_none ec (fl0 fl2 nl)) (ne_of_none ec (fl0 fd2 nd)) (s11 _ _ (t5 _ _ nc ec))
    have e12 := b12 _ _ (Ne.symm nl) (Ne.symm nd) (s11 _ _ e5)
    have off : ∀ {c : Addr} {ys : List V}, H11 c = some (.tup ys) → H12 c = some (.tup ys) := fun {c ys} ec => b12 _ _ (fun z => by rw [z, s11 _ _ el5] at ec; cases ec) (fun z => by rw [z, s11 _ _ ed5] at ec; cases ec) ec
    have eT1e := off eT1d
    have eT2e := off eT2d
    refine ⟨(by show 3 ≤ sizeLine; decide), fun T4 hT4 => ?_⟩
    have u13 := same_new (o := .tup [.ref T1, .ref T2, .int 1]) hT4
    have eT4 : (upd H12 T4 (.tup [.ref T1, .ref T2, .int 1])) T4 = _ := upd_same
    have t13 := t12.trans (But.of_same u13)
    have e13 := u13 _ _ e12
    have eT1f := u13 _ _ eT1e
    have eT2f := u13 _ _ eT2e
    generalize upd H12 T4 (.tup [.ref T1, .ref T2, .int 1]) = H13 at t13 e13 eT4 eT1f eT2f ⊢
    -- the nodes
    refine ⟨.ref T4, rfl, (by show 1 ≤ sizeLine; decide), fun L2 hL2 => ?_⟩
    have u14 := same_new (o := .lst [.ref T4]) hL2
    refine ⟨.ref o, rfl, o, CG, dx, _, rfl, u14 _ _ e13, cG, n5, (by show 4 < 1000; decide), ?_⟩
    have k14 : ∀ {c : Addr} {ys : List V} {v : HO}, H13 c = some (.tup ys) → (upd (upd H13 L2 (.lst [.ref T4])) o v) c = some (.tup ys) := fun {c ys v} ec => by
      rw [upd_ne (fun z => by rw [z, e13] at ec; cases ec)]
      exact u14 _ _ ec
    have t14 : ∀ v, But o H (upd (upd H13 L2 (.lst [.ref T4])) o v) := fun v => t13.trans ((But.of_same u14).trans But.at_)
    have eT1g := @k14 _ _ (.ins CG dx (putF "_nodes" (.ref L2) [("_terms", .ref tt), ("_target", .ref a), ("_carries", .ref x), ("_turns", .ref dt)])) eT1f
    have eT2g := @k14 _ _ (.ins CG dx (putF "_nodes" (.ref L2) [("_terms", .ref tt), ("_target", .ref a), ("_carries", .ref x), ("_turns", .ref dt)])) eT2f
    have eT4g := @k14 _ _ (.ins CG dx (putF "_nodes" (.ref L2) [("_terms", .ref tt), ("_target", .ref a), ("_carries", .ref x), ("_turns", .ref dt)])) eT4
    have t14' := t14 (.ins CG dx (putF "_nodes" (.ref L2) [("_terms", .ref tt), ("_target", .ref a), ("_carries", .ref x), ("_turns", .ref dt)]))
    have e14 : (upd (upd H13 L2 (.lst [.ref T4])) o (.ins CG dx (putF "_nodes" (.ref L2) [("_terms", .ref tt), ("_target", .ref a), ("_carries", .ref x), ("_turns", .ref dt)]))) o = some (.ins CG dx [("_terms", .ref tt), ("_target", .ref a), ("_carries", .ref x), ("_turns", .ref dt), ("_nodes", .ref L2)]) := upd_same
    clear k14 t14
    generalize upd (upd H13 L2 (.lst [.ref T4])) o (.ins CG dx (putF "_nodes" (.ref L2) [("_terms", .ref tt), ("_target", .ref a), ("_carries", .ref x), ("_turns", .ref dt)])) = H14 at eT1g eT2g eT4g t14' e14 ⊢
    -- the known ones
    refine fun dk hdk => ?_
    have u15 := same_new (o := dNT P w dk []) hdk
    refine ⟨.ref T4, rfl, .tup [.tup (List.replicate xs.length NestedKey.none), .tup (List.replicate xs.length (NestedKey.num 1)), .num 1], T4, rfl, upd_same, .tup (u15 _ _ eT4g) (.cons (.tup (u15 _ _ eT1g) (none_key _)) (.cons (.tup (u15 _ _ eT2g) (one_key _)) (.cons (.int 1) .nil))), ?_, ?_⟩
    · simp only [NestedKey.depth, NestedKey.depthAll]
      rw [depth_rep _ (by simp only [NestedKey.depth]), depth_rep _ (by simp only [NestedKey.depth])]
      decide
    have u16 : Same H14 (upd (upd H14 dk (dNT P w dk [])) dk (dAny dk)) := fun c u ec => by
      have n := ne_of_none ec hdk
      rw [upd_ne n, upd_ne n]
      exact ec
    refine ⟨.ref o, rfl, o, CG, dx, _, rfl, u16 _ _ e14, cG, n6, (by show 5 < 1000; decide), ?_⟩
    refine ⟨(by show 1 ≤ sizeLine; decide), fun L3 hL3 => ?_⟩
    have u17 := same_new (o := .lst [.non]) hL3
    refine ⟨.ref o, rfl, o, CG, dx, _, rfl, u17 _ _ upd_same, cG, n7, (by show 6 < 1000; decide), ?_⟩
    refine ⟨.ref o, rfl, o, CG, dx, _, rfl, upd_same, cG, n8, (by show 7 < 1000; decide), ?_⟩
    exact q _ (t14'.trans ((But.of_same u16).trans (But.at_.trans ((But.of_same u17).trans (But.at_.trans But.at_)))))
end
end K31
/-! for and comprehensions over what may be a list or a tuple. -/
namespace OF
open PySem PySem.Spec PyProof.Rows L2
def iSq (K : PySem.W.Frag) (tl : TE) : TI := fun σ H R => tl σ H fun x H1 => ∃ a, x = .ref a ∧ (((∃ xs, SqL K H1 a xs) ∧ R (Itl K a) H1) ∨ ((∃ xs, SqT K H1 a xs) ∧ R (Itt K a) H1))
theorem pi_sq {X : Cx} {tg l : Expr} {tl : TE} (hl : PE X l tl) : PI X tg l (iSq X.K tl) := by
  refine ⟨fun pins s σ H R I h => ?_⟩
  refine thn (hl.run pins s σ H _ I h) fun v s1 ⟨x, H1, I1, r1, q1⟩ => ?_
  obtain ⟨a, rfl, q1⟩ := q1
  cases r1
  have free : ∀ b, b ∈ [s1.heap.objs.size] → FpOk X pins H1 b := fun b hb => by
    cases List.mem_singleton.mp hb
    exact I1.fpOk (Nat.le_refl _) (I1.hok.fresh (Nat.le_refl _))
  rcases q1 with ⟨⟨xs, hq⟩, q⟩ | ⟨⟨xs, hq⟩, q⟩
  · obtain ⟨its, rv, p, hz⟩ := I1.list hq
    exact wpAny_pyIter_list p.isList ⟨_, _, _, _, H1, rfl, I1.kept (t' := s1.toks) fun b o e => Heap.get?_push_of_some _ e, turn_list a _, ⟨_, Heap.get?_push_size _ rfl, rfl, rfl⟩, free, q⟩
  · obtain ⟨its, rv, p, hz⟩ := I1.tuple hq
    exact wpAny_pyIter_tuple (show s1.heap.IsTuple a its.toArray from p) ⟨_, _, _, _, H1, rfl, I1.kept (t' := s1.toks) fun b o e => Heap.get?_push_of_some _ e, turn_tuple a _, ⟨_, Heap.get?_push_size _ rfl, rfl, rfl⟩, free, q⟩
/-- list or tuple -/
def Sq (K : PySem.W.Frag) (k : Bool) (H : Hp) (a : Addr) (xs : List V) : Prop := if k then SqL K H a xs else SqT K H a xs
section
variable {K : PySem.W.Frag} {k : Bool} {a : Addr} {xs : List V}
abbrev ForW (J : It) (g : TG) (tb : TS) (D : Ends) (σ : L2.St) (H : Hp) : Prop := ∃ W : Nat → Nat → L2.St → Hp → Prop, (∃ m, W 0 m σ H) ∧ ∀ i m σ H, W i m σ H →
      (J.stop i H ∧ D.nx σ H) ∨ (J.go i H ∧ ∃ N : L2.St → Hp → Prop, (∀ σ' H', N σ' H' → ∃ m', m' < m ∧ W (i + 1) m' σ' H') ∧ ∀ x H', J.yld i H x H' → g x σ H' fun σ2 H2 => tb { D with nx := N, ct := N, bk := D.nx } σ2 H2)
theorem for_sq {g : TG} {tb : TS} {D : Ends} {σ : L2.St} {H : Hp} (Pv : Nat → L2.St → Hp → Prop) (h0 : Pv 0 σ H) (hl : ∀ i σ H, i ≤ xs.length → Pv i σ H → Sq K k H a xs)
    (hs : ∀ i x σ H, xs[i]? = some x → Pv i σ H → g x σ H fun σ2 H2 => tb { D with nx := Pv (i + 1), ct := Pv (i + 1), bk := D.nx } σ2 H2) (hd : ∀ σ H, Pv xs.length σ H → D.nx σ H) :
    ((∃ ys, SqL K H a ys) ∧ ForW (Itl K a) g tb D σ H) ∨ ((∃ ys, SqT K H a ys) ∧ ForW (Itt K a) g tb D σ H) := by
  have h1 := hl 0 σ H (Nat.zero_le _) h0
  cases k with
  | true => exact .inl ⟨⟨xs, h1⟩, for_list (K := K) (a := a) (xs := xs) Pv h0 hl hs hd⟩
  | false => exact .inr ⟨⟨xs, h1⟩, for_tup (K := K) (a := a) (xs := xs) Pv h0 hl hs hd⟩
end
end OF
namespace K31
open PySem PySem.Spec PyProof.Rows L2 OF
abbrev sFactor : Stmt := topS 35
abbrev sCheckT : Stmt := topS 36
abbrev sIsSch : Stmt := topS 60
abbrev sCheckS : Stmt := topS 61
section
variable {P : Program} {w : World} {K : PySem.W.Frag} {mg : Str → Option Value} {base : Heap}
/-! ### factors -/
def facB (n : Int) : Bool := (decide (-2 ≤ n) && decide (n ≤ 2)) && !decide (V.int n = V.int 0)
def spFactor : Sp := fun vs H Q _ => ∃ x : V, vs = [x] ∧ ((∃ n : Int, x = .int n ∧ Q (.bl (facB n)) H) ∨ (Odd H x ∧ Q (.bl false) H))
theorem scFa : FnScope ["value"] ["value"] (defScope sFactor) := ⟨rfl, rfl, rfl, by decide +kernel, rfl, by decide +kernel, by decide +kernel⟩
theorem ok_factor {f fI : Addr} {fd fdI : FuncData} {t : Tok} (F : Fun K "is_factor" "is_factor" sFactor f fd) (GI : FnOk P w K mg base CX0 2 fI fdI ["value", "low", "high"] spIsInt) (gI : mg "is_integer" = some (.ref fI)) (kI : PySem.W.keepIn K (.ref fI) = true) (bI : Binds K fdI ["value", "low", "high"] [])
    (gG : mg "GREATEST_FACTOR" = some (.int 2 t)) : FnOk P w K mg base CX0 3 f fd ["value"] spFactor := by
  refine F.ok scFa (fun vs H Q E h => ?_) (fun cdv A outer s H vs Q E hr h => ?_)
  · obtain ⟨x, rfl, _⟩ := h
    rfl
  · obtain ⟨x, rfl, h⟩ := h
    refine ⟨_, pss_one (ps_ret (pe_and (pe_call GI hr (by rfl) gI kI bI .nil pass0 (pa_cons (pv 0) (pa_cons (pe_un un_neg (pe_glob (v := .int 2) rfl gG ⟨_, rfl⟩)) (pa_cons (pe_glob (v := .int 2) rfl gG ⟨_, rfl⟩) pa_nil))))
      (pe_one (pe_cmpR op_ne (pv 0) pe_int (nomark _))))), ?_⟩
    rcases h with ⟨n, rfl, q⟩ | ⟨o, q⟩
    · exact ⟨.int n, rfl, 2, rfl, .int n, -2, 2, rfl, .inl ⟨n, rfl, _, rfl, iteAnd (fun z => ⟨.int n, rfl, rfl, z⟩) q⟩⟩
    · exact ⟨x, rfl, 2, rfl, x, -2, 2, rfl, .inr ⟨o, _, rfl, iteF q⟩⟩

/-! ### what is no scheme -/
/-- no built-in kind is of the class -/
structure NotK (K : PySem.W.Frag) (C : Addr) : Prop where
  non : PySem.W.kitOne K (.type "NoneType") (.ref C) = some false
  bl : PySem.W.kitOne K (.type "bool") (.ref C) = some false
  int : PySem.W.kitOne K (.type "int") (.ref C) = some false
  str : PySem.W.kitOne K (.type "str") (.ref C) = some false
  lst : PySem.W.kitOne K (.type "list") (.ref C) = some false
  tup : PySem.W.kitOne K (.type "tuple") (.ref C) = some false
  dct : PySem.W.kitOne K (.type "dict") (.ref C) = some false
theorem NotK.item {K : PySem.W.Frag} {C : Addr} {H : Hp} {x : V} (N : NotK K C) (h : ItemOk H x) : ∃ t : Value, TyX K H x t ∧ PySem.W.kitOne K t (.ref C) = some false := by
  rcases h with ⟨n, rfl⟩ | h
  · exact ⟨_, .base (.int n), N.int⟩
  cases h with
  | non => exact ⟨_, .base .non, N.non⟩
  | bl b => exact ⟨_, .base (.bl b), N.bl⟩
  | str z => exact ⟨_, .base (.str z), N.str⟩
  | lst e => exact ⟨_, .base (.lst e), N.lst⟩
  | tup e => exact ⟨_, .base (.tup e), N.tup⟩
  | dK e => exact ⟨_, .base (.dK e), N.dct⟩
def InsOf (C : Addr) (H : Hp) (x : V) : Prop := ∃ (a dx : Addr) (fs : List (Str × V)), x = .ref a ∧ H a = some (.ins C dx fs)
theorem InsOf.same {C : Addr} {H H' : Hp} {x : V} (h : InsOf C H x) (s : Same H H') : InsOf C H' x := let ⟨a, dx, fs, e, i⟩ := h; ⟨a, dx, fs, e, s _ _ i⟩
def spIsSch (C : Addr) : Sp := fun vs H Q _ => ∃ x : V, vs = [x] ∧ ((InsOf C H x ∧ Q (.bl true) H) ∨ (ItemOk H x ∧ Q (.bl false) H))
theorem scIs : FnScope ["value"] ["value"] (defScope sIsSch) := ⟨rfl, rfl, rfl, by decide +kernel, rfl, by decide +kernel, by decide +kernel⟩
theorem ok_issch {f C : Addr} {fd : FuncData} (F : Fun K "is_scheme" "is_scheme" sIsSch f fd) (I : IsC K C) (N : NotK K C) (gC : mg "Scheme" = some (.ref C)) (mis : mg "isinstance" = none) :
    FnOk P w K mg base CX0 1 f fd ["value"] (spIsSch C) := by
  refine F.ok scIs (fun vs H Q E h => ?_) (fun cdv A outer s H vs Q E hr h => ?_)
  · obtain ⟨x, rfl, _⟩ := h
    rfl
  · obtain ⟨x, rfl, h⟩ := h
    refine ⟨_, pss_one (ps_ret (pe_callB call_isi (by rfl) mis PyProof.Rows.boot_isinstance (pa_cons (pv 0) (pa_cons (pe_glob (v := .ref C) (by rfl) gC rfl) pa_nil)))), ?_⟩
    rcases h with ⟨⟨a, dx, fs, rfl, ha⟩, q⟩ | ⟨o, q⟩
    · exact ⟨.ref a, rfl, .ref a, .ref C, .ref C, .ref C, true, rfl, .own C, .base (.ins ha I.cl I.ha I.hn I.ht I.hm), I.own, q⟩
    · obtain ⟨t, ty, k⟩ := N.item o
      exact ⟨x, rfl, x, .ref C, t, .ref C, false, rfl, .own C, ty, k, q⟩
def spCheckS (C CN : Addr) : Sp := fun vs H Q E => ∃ x : V, vs = [x] ∧ ((InsOf C H x ∧ Q .non H) ∨ (ItemOk H x ∧ Raised CN "value" x H E))
theorem scCs : FnScope ["value"] ["value"] (defScope sCheckS) := ⟨rfl, rfl, rfl, by decide +kernel, rfl, by decide +kernel, by decide +kernel⟩
theorem ok_checks {f fS fI C CN : Addr} {fd fdS fdI : FuncData} (F : Fun K "check_scheme" "check_scheme" sCheckS f fd) (GS : FnOk P w K mg base CX0 1 fS fdS ["value"] (spIsSch C)) (gS : mg "is_scheme" = some (.ref fS)) (kS : PySem.W.keepIn K (.ref fS) = true) (bS : Binds K fdS ["value"] [])
    (GI : FnOk P w K mg base CX0 3 fI fdI ["self", "value"] (spInit K "value" CN)) (T : ErrC K mg "NotScheme" "value" CN fI) (bI : Binds K fdI ["self", "value"] []) :
    FnOk P w K mg base (L2.CX P w) 5 f fd ["value"] (spCheckS C CN) := by
  refine F.okX scCs (fun vs H Q E h => ?_) (fun cdv A outer s H vs Q E hr h => ?_)
  · obtain ⟨x, rfl, _⟩ := h
    rfl
  · obtain ⟨x, rfl, h⟩ := h
    have hr1 : Room 1 _ := hr.mono (by decide)
    refine ⟨_, pss_one (ps_if (pt_not (pt_val (pe_call GS hr1 (by rfl) gS kS bS .nil pass0 (pa_cons (pv 0) pa_nil))))
      (pss_one (ps_raise rfl (takes_of rfl rfl rfl rfl) (pmk_oex T.ox T.iC T.tI GI hr bI .nil pass0 (by rfl) T.g (pa_cons (pv 0) pa_nil)))) pss_nil), ?_⟩
    rcases h with ⟨i, q⟩ | ⟨o, hE⟩
    · exact ⟨x, rfl, x, rfl, .inl ⟨i, true, rfl, iteF q⟩⟩
    · exact ⟨x, rfl, x, rfl, .inr ⟨o, false, rfl, iteT ⟨x, rfl, raised_ok (σ := start ["value"] [x]) (D := { nx := fun _ H' => Q .non H', rt := Q }) hE (Same.refl H)⟩⟩⟩

/-! ### terms judged -/
/-- a good term: a factor and a scheme -/
def TermOk (C : Addr) (H : Hp) (x : V) : Prop := ∃ (p : Addr) (n : Int) (s : V), x = .ref p ∧ H p = some (.tup [.int n, s]) ∧ facB n = true ∧ InsOf C H s
/-- what a term must not be -/
inductive TermBad (C : Addr) (H : Hp) : V → Prop
  | int (n : Int) : TermBad C H (.int n)
  | ins {x : V} (i : InsOf C H x) : TermBad C H x
  | lst {a : Addr} {xs : List V} (e : H a = some (.lst xs)) : TermBad C H (.ref a)
  | one {a : Addr} {x : V} (e : H a = some (.tup [x])) : TermBad C H (.ref a)
  | odd {a : Addr} {x s : V} (e : H a = some (.tup [x, s])) (o : Odd H x) (k : InsOf C H s ∨ ItemOk H s) : TermBad C H (.ref a)
  | fac {a : Addr} {n : Int} {s : V} (e : H a = some (.tup [.int n, s])) (b : facB n = false) (k : InsOf C H s ∨ ItemOk H s) : TermBad C H (.ref a)
  | sch {a : Addr} {n : Int} {s : V} (e : H a = some (.tup [.int n, s])) (b : facB n = true) (o : ItemOk H s) : TermBad C H (.ref a)
theorem TermOk.same {C : Addr} {H H' : Hp} {x : V} (h : TermOk C H x) (s : Same H H') : TermOk C H' x := let ⟨p, n, y, e, i, f, j⟩ := h; ⟨p, n, y, e, s _ _ i, f, j.same s⟩
theorem TermBad.same {C : Addr} {H H' : Hp} {x : V} (h : TermBad C H x) (s : Same H H') : TermBad C H' x := by
  cases h with
  | int n => exact .int n
  | ins i => exact .ins (i.same s)
  | lst e => exact .lst (s _ _ e)
  | one e => exact .one (s _ _ e)
  | odd e o k => exact .odd (s _ _ e) (o.same s) (k.imp (fun z => z.same s) fun z => z.same s)
  | fac e b k => exact .fac (s _ _ e) b (k.imp (fun z => z.same s) fun z => z.same s)
  | sch e b o => exact .sch (s _ _ e) b (o.same s)
def spCheckT (K : PySem.W.Frag) (C CT CI fS : Addr) : Sp := fun vs H Q E => ∃ x : V, vs = [x, .ref fS] ∧ ((NoSeq H x ∧ Raised CT "value" x H E) ∨ ∃ (p : Addr) (xs : List V), x = .ref p ∧ IsSeq K H p xs ∧
  ((¬ (1 ≤ xs.length ∧ xs.length ≤ 2) ∧ Raised CT "value" x H E) ∨ (1 ≤ xs.length ∧ xs.length ≤ 2 ∧ ∃ good rest : List V, xs = good ++ rest ∧ (∀ g ∈ good, TermOk C H g) ∧
    ((∃ u more, rest = u :: more ∧ TermBad C H u ∧ Raised CI "term" u H E) ∨ (rest = [] ∧ ∀ H', Same H H' → Q .non H')))))
abbrev nCt : List Str := ["value", "fits", "item"]
theorem scCt : FnScope nCt ["value", "fits"] (defScope sCheckT) := ⟨rfl, rfl, rfl, by decide +kernel, rfl, by decide +kernel, by decide +kernel⟩
/-- own instances are no tuples -/
def NoTupC (K : PySem.W.Frag) (C : Addr) : Prop := PySem.W.kitOne K (.ref C) (.type "tuple") = some false
set_option maxHeartbeats 2000000 in
theorem ok_checkt {f fS fF fI fI2 C CT CI : Addr} {fd fdS fdF fdI fdI2 : FuncData} {t : Tok} (F : Fun K "check_terms" "check_terms" sCheckT f fd) (IC : IsC K C) (NT : NoTupC K C)
    (GS : FnOk P w K mg base CX0 1 fS fdS ["value"] (spIsSch C)) (kS : PySem.W.keepIn K (.ref fS) = true) (bS : Binds K fdS ["value"] [])
    (GF : FnOk P w K mg base CX0 3 fF fdF ["value"] spFactor) (gF : mg "is_factor" = some (.ref fF)) (kF : PySem.W.keepIn K (.ref fF) = true) (bF : Binds K fdF ["value"] [])
    (GI : FnOk P w K mg base CX0 3 fI fdI ["self", "value"] (spInit K "value" CT)) (T : ErrC K mg "InvalidTerms" "value" CT fI) (bI : Binds K fdI ["self", "value"] [])
    (GI2 : FnOk P w K mg base CX0 3 fI2 fdI2 ["self", "term"] (spInit K "term" CI)) (T2 : ErrC K mg "InvalidTerm" "term" CI fI2) (bI2 : Binds K fdI2 ["self", "term"] [])
    (gM : mg "MOST_TERMS" = some (.int 2 t)) (mis : mg "isinstance" = none) (mli : mg "list" = none) (mt : mg "tuple" = none) (ml : mg "len" = none) : FnOk P w K mg base (L2.CX P w) 5 f fd ["value", "fits"] (spCheckT K C CT CI fS) := by
  refine F.okX scCt (fun vs H Q E h => ?_) (fun cdv A outer s H vs Q E hr h => ?_)
  · obtain ⟨x, rfl, _⟩ := h
    rfl
  · obtain ⟨x, rfl, h⟩ := h
    have hr1 : Room 1 _ := hr.mono (by decide)
    have hr3 : Room 3 _ := hr.mono (by decide)
    apply Exists.intro
    apply And.intro
    · apply pss_cons
      · exact ps_if (PW.pt (pw_or (pt_not (pt_val (pe_callB call_isiT (by rfl) mis PyProof.Rows.boot_isinstance (pa_cons (pv 0) (pa_cons (pe_tup (pa_cons (pe_bltn (v := .ty "list") (by rfl) mli PyProof.Rows.boot_list rfl) (pa_cons (pe_bltn (v := .ty "tuple") (by rfl) mt (by decide +kernel) rfl) pa_nil))) pa_nil)))))
            (pw_or1 (pt_not (pt_chain op_le op_le pe_int (pe_callB call_len_seq (by rfl) ml PySem.boot_len (pa_cons (pv 0) pa_nil)) (pe_glob (v := .int 2) rfl gM ⟨_, rfl⟩))))))
          (pss_one (ps_raise rfl (takes_of rfl rfl rfl rfl) (pmk_oex T.ox T.iC T.tI GI hr bI .nil pass0 (by rfl) T.g (pa_cons (pv 0) pa_nil)))) pss_nil
      apply pss_one
      · exact ps_for (passes_of rfl) rfl (pi_sq (pv 0)) (pg_name (i := 2) scCt.nd rfl (.inl rfl))
          (pss_one (ps_if (PW.pt (pw_or (pt_not (pt_val (pe_callB call_isi (by rfl) mis PyProof.Rows.boot_isinstance (pa_cons (pv 2) (pa_cons (pe_bltn (v := .ty "tuple") (by rfl) mt (by decide +kernel) rfl) pa_nil)))))
              (pw_or (pt_cmpR op_ne (pe_callB call_len_seq (by rfl) ml PySem.boot_len (pa_cons (pv 2) pa_nil)) pe_int (nomark _))
                (pw_or (pt_not (pt_val (pe_call GF hr3 (by rfl) gF kF bF .nil pass0 (pa_cons (pe_ix ix_tup (pv 2) pe_int (fun _ _ => rfl)) pa_nil))))
                  (pw_or1 (pt_not (pt_val (pe_callL (i := 1) (f := fS) GS hr1 rfl (.inl rfl) kS bS .nil pass0 (pa_cons (pe_ix ix_tup (pv 2) pe_int (fun _ _ => rfl)) pa_nil)))))))))
            (pss_one (ps_raise rfl (takes_of rfl rfl rfl rfl) (pmk_oex T2.ox T2.iC T2.tI GI2 hr bI2 .nil pass0 (by rfl) T2.g (pa_cons (pv 2) pa_nil)))) pss_nil))
    have raise : ∀ {H1 : Hp}, Raised CT "value" x H E → Same H H1 → _ := fun {H1} hE s1 => raised_ok (K := K) (σ := start nCt [x, .ref fS]) (D := { nx := fun _ H' => Q .non H', rt := Q }) hE s1
    refine ⟨x, rfl, (by show 2 ≤ sizeLine; decide), fun U hU => ?_⟩
    have s1 : Same H (upd H U (.tup [.ty "list", .ty "tuple"])) := same_new hU
    rcases h with ⟨no, hE⟩ | ⟨p, xs, rfl, hp, h⟩
    · obtain ⟨t, ty, k⟩ := (no.same s1).kit (K := K)
      exact ⟨x, U, _, t, _, false, rfl, upd_same, .cons (.ty _) (.cons (.ty _) .nil), ty, k, false, rfl, iteT ⟨x, rfl, raise hE s1⟩⟩
    obtain ⟨ty, hty, k⟩ := (hp.same s1).lt
    refine ⟨.ref p, U, _, ty, _, true, rfl, upd_same, .cons (.ty _) (.cons (.ty _) .nil), hty, k, true, rfl, iteF ?_⟩
    generalize upd H U (.tup [.ty "list", .ty "tuple"]) = H1 at s1 ⊢
    have p1 := hp.same s1
    refine ⟨.ref p, rfl, p, xs, rfl, p1.sq, 1, (xs.length : Int), rfl, rfl, _, rfl, ?_⟩
    rcases h with ⟨nl, hE⟩ | ⟨l1, l2, good, rest, rfl, hg, h⟩
    · by_cases z : 1 ≤ xs.length
      · exact iteTB (decide_eq_true (by omega)) ⟨(xs.length : Int), 2, rfl, rfl, _, rfl, iteTB (by rw [decide_eq_false (by omega)]; rfl) ⟨.ref p, rfl, raise hE s1⟩⟩
      · exact iteFB (decide_eq_false (by omega)) ⟨_, rfl, iteTB rfl ⟨.ref p, rfl, raise hE s1⟩⟩
    refine iteTB (decide_eq_true (by omega)) ⟨((good ++ rest).length : Int), 2, rfl, rfl, _, rfl, iteFB (by rw [decide_eq_true (by omega)]; rfl) ?_⟩
    obtain ⟨kd, hkd⟩ : ∃ kd : Bool, ∀ H', Same H1 H' → Sq K kd H' p (good ++ rest) := by
      rcases p1.sq with z | z
      · exact ⟨true, fun H' s => s.seq z⟩
      · exact ⟨false, fun H' s => same_seqT s z⟩
    have nth : ∀ (i : Nat) (z : V), (good ++ rest)[i]? = some z → i ≤ good.length → (i < good.length ∧ z ∈ good) ∨ ∃ more, rest = z :: more := fun i z hz hi => by
      rcases Nat.lt_or_ge i good.length with c | c
      · rw [List.getElem?_append_left c] at hz
        exact .inl ⟨c, List.mem_of_getElem? hz⟩
      · have : i = good.length := by omega
        subst this
        rw [List.getElem?_append_right (Nat.le_refl _), Nat.sub_self] at hz
        cases rest with
        | nil => cases hz
        | cons y m =>
          cases hz
          exact .inr ⟨m, rfl⟩
    refine ⟨.ref p, rfl, p, rfl, for_sq (k := kd) (xs := good ++ rest) (fun i σ H' => (∃ v, σ = [some (.ref p), some (.ref fS), v]) ∧ Same H H' ∧ Same H1 H' ∧ i ≤ good.length) ⟨⟨none, rfl⟩, s1, Same.refl _, Nat.zero_le _⟩ (fun i σ H' _ h => hkd H' h.2.2.1) ?_ ?_⟩
    · rintro i z σ H' hz ⟨⟨v, rfl⟩, s2, s12, hi⟩
      have go : ∀ {H3 : Hp}, Raised CI "term" z H E → Same H H3 → _ := fun {H3} hE s3 => raised_ok (K := K) (σ := [some (.ref p), some (.ref fS), some z]) (D := { nx := fun _ H' => Q .non H', rt := Q }) hE s3
      have tupk : ∀ {a : Addr} {ys : List V}, H' a = some (.tup ys) → TyX K H' (.ref a) (.type "tuple") := fun e => .base (.tup e)
      have kt : PySem.W.kitOne K (.type "tuple") (.type "tuple") = some true := kit_ty (by decide +kernel)
      rcases nth i z hz hi with ⟨hi2, mg⟩ | ⟨more, er⟩
      · obtain ⟨a, n, y, rfl, ha, fa, iy⟩ := (hg z mg).same s2
        refine ⟨.ref a, rfl, .ref a, .ty "tuple", .type "tuple", .type "tuple", true, rfl, .ty _, tupk ha, kt, true, rfl, iteF ?_⟩
        refine ⟨.ref a, rfl, a, _, rfl, .inr (SqT.of ha), rfl, _, rfl, iteFB rfl ?_⟩
        refine ⟨.ref a, rfl, a, _, 0, .int n, rfl, rfl, SqT.of ha, rfl, .int n, rfl, .inl ⟨n, rfl, _, rfl, ?_⟩⟩
        rw [fa]
        refine iteF ⟨rfl, .ref a, rfl, a, _, 1, y, rfl, rfl, SqT.of ha, rfl, y, rfl, .inl ⟨iy, true, rfl, iteF ?_⟩⟩
        exact ⟨⟨_, rfl⟩, s2, s12, hi2⟩
      · rcases h with ⟨u, m2, e2, bad, hE⟩ | ⟨e2, _⟩
        · rw [er] at e2
          cases e2
          have rz : ∀ {H3 : Hp}, Same H H3 → _ := fun {H3} s3 => go (H3 := H3) hE s3
          cases bad.same s2 with
          | int n => exact ⟨.int n, rfl, .int n, .ty "tuple", .type "int", .type "tuple", false, rfl, .ty _, .base (.int n), kit_ty (by decide +kernel), false, rfl, iteT ⟨.int n, rfl, rz s2⟩⟩
          | ins iz =>
            obtain ⟨a, dx, fs, rfl, ha⟩ := iz
            exact ⟨.ref a, rfl, .ref a, .ty "tuple", .ref C, .type "tuple", false, rfl, .ty _, .base (.ins ha IC.cl IC.ha IC.hn IC.ht IC.hm), NT, false, rfl, iteT ⟨.ref a, rfl, rz s2⟩⟩
          | @lst a ys e => exact ⟨.ref a, rfl, .ref a, .ty "tuple", .type "list", .type "tuple", false, rfl, .ty _, .base (.lst e), kit_ty (by decide +kernel), false, rfl, iteT ⟨.ref a, rfl, rz s2⟩⟩
          | @one a y e => exact ⟨.ref a, rfl, .ref a, .ty "tuple", .type "tuple", .type "tuple", true, rfl, .ty _, tupk e, kt, true, rfl, iteF ⟨.ref a, rfl, a, _, rfl, .inr (SqT.of e), rfl, _, rfl, iteTB rfl ⟨.ref a, rfl, rz s2⟩⟩⟩
          | @odd a y s e o _ =>
            refine ⟨.ref a, rfl, .ref a, .ty "tuple", .type "tuple", .type "tuple", true, rfl, .ty _, tupk e, kt, true, rfl, iteF ⟨.ref a, rfl, a, _, rfl, .inr (SqT.of e), rfl, _, rfl, iteFB rfl ?_⟩⟩
            exact ⟨.ref a, rfl, a, _, 0, y, rfl, rfl, SqT.of e, rfl, y, rfl, .inr ⟨o, _, rfl, iteT ⟨.ref a, rfl, rz s2⟩⟩⟩
          | @fac a n s e b _ =>
            refine ⟨.ref a, rfl, .ref a, .ty "tuple", .type "tuple", .type "tuple", true, rfl, .ty _, tupk e, kt, true, rfl, iteF ⟨.ref a, rfl, a, _, rfl, .inr (SqT.of e), rfl, _, rfl, iteFB rfl ?_⟩⟩
            refine ⟨.ref a, rfl, a, _, 0, .int n, rfl, rfl, SqT.of e, rfl, .int n, rfl, .inl ⟨n, rfl, _, rfl, ?_⟩⟩
            rw [b]
            exact iteT ⟨.ref a, rfl, rz s2⟩
          | @sch a n s e b o =>
            refine ⟨.ref a, rfl, .ref a, .ty "tuple", .type "tuple", .type "tuple", true, rfl, .ty _, tupk e, kt, true, rfl, iteF ⟨.ref a, rfl, a, _, rfl, .inr (SqT.of e), rfl, _, rfl, iteFB rfl ?_⟩⟩
            refine ⟨.ref a, rfl, a, _, 0, .int n, rfl, rfl, SqT.of e, rfl, .int n, rfl, .inl ⟨n, rfl, _, rfl, ?_⟩⟩
            rw [b]
            exact iteF ⟨rfl, .ref a, rfl, a, _, 1, s, rfl, rfl, SqT.of e, rfl, s, rfl, .inr ⟨o, false, rfl, iteT ⟨.ref a, rfl, rz s2⟩⟩⟩
        · rw [er] at e2
          cases e2
    · rintro σ H' ⟨⟨v, rfl⟩, s2, s12, hi⟩
      rw [List.length_append] at hi
      have er : rest = [] := List.eq_nil_of_length_eq_zero (by omega)
      rcases h with ⟨y, m2, e2, _⟩ | ⟨_, q⟩
      · rw [er] at e2
        cases e2
      exact q H' s2
end
end K31
/-! == of lists and tuples whose items may be instances with an own ==: what it says, True or False. -/
namespace OfGQ
open PySem PySem.SeqAt GQ
open AutoSeq1 (wpAny_loadPart')
open MeetsSeq MeetsSeq2 MeetsSeq3 SeqRoads2
section
variable {prog : Program} {w : World} {A : Around} {R : Result → Shared → Prop}
/-- at each turn the two lists are read anew: N items each, what == says of the i-th two is e i -/
def ListB (prog : Program) (w : World) (A : Around) (E : Value → Shared → Prop) (l b : Addr) (N : Nat) (e : Nat → Bool) (I : Shared → Prop) : Prop :=
  ∀ s, I s → ∃ (items items2 : Array Value) (n n2 : Nat), s.heap.get? l = some { cls := .type "list", data := .seq items n } ∧ s.heap.get? b = some { cls := .type "list", data := .seq items2 n2 } ∧ items.size = N ∧ items2.size = N ∧
    ∀ i (h1 : i < items.size) (h2 : i < items2.size), wpAny (model prog w) A.in1 (eqBool items[i] items2[i]) (fun r s' => r = e i ∧ I s') E s
theorem eq_loopB (l b : Addr) (N : Nat) (e : Nat → Bool) (I : Shared → Prop) (hl : ListB prog w A (fun e s' => R (.error e) s') l b N e I)
    (fin : (∀ j, j < N → e j = true) → ∀ s, I s → R (.ok (.ret (.bool true))) s) (finF : ∀ j, j < N → e j = false → ∀ s, I s → R (.ok (.ret (.bool false))) s) (k : Nat) :
    ∀ i : Nat, N - i = k → i ≤ N → (∀ j, j < i → e j = true) → ∀ s, I s →
      wpAny (model prog w) A.in1 (Builtin.«list.__eq__.loop» ⟨[.ref l, .ref b, rawInt i, rawInt 2], []⟩) (FinOf prog w A R) (fun e s' => R (.error e) s') s := by
  induction k with
  | zero =>
    intro i hk hi hall s h
    obtain ⟨items, items2, n, n2, hl1, hb1, hs1, hs2, _⟩ := hl _ h
    have hi' : i = N := by omega
    have hR : R (.ok (.ret (.bool true))) s := fin (hi' ▸ hall) s h
    obtain ⟨hp, g, d, tk, os⟩ := s
    wp_walk using wpAny_loadPart' hl1, wpAny_loadPart' hb1
    have hi1 : items[((i : Nat) : Int).toNat]? = none := by simp; omega
    have hi2 : items2[((i : Nat) : Int).toNat]? = none := by simp; omega
    rw [hi1, hi2]
    wp_walk using wpAny_loadPart' hl1, wpAny_loadPart' hb1
    show R (.ok (.ret (.bool (items.size == items2.size)))) _
    rw [hs1, hs2]
    simpa using hR
  | succ k ih =>
    intro i hk hi hall s h
    obtain ⟨items, items2, n, n2, hl1, hb1, hs1, hs2, turn⟩ := hl _ h
    have hlt : i < items.size := by omega
    have hlt2 : i < items2.size := by omega
    have ht := turn i hlt hlt2
    obtain ⟨hp, g, d, tk, os⟩ := s
    wp_walk using wpAny_loadPart' hl1, wpAny_loadPart' hb1
    have hi1 : items[((i : Nat) : Int).toNat]? = some items[i] := by simp [hlt]
    have hi2 : items2[((i : Nat) : Int).toNat]? = some items2[i] := by simp [hlt2]
    have hc : ((i : Int) + 1) = ((i + 1 : Nat) : Int) := by omega
    rw [hi1, hi2]
    refine wpAny_bind (wpAny_mono ht (fun r s2 h2 => ?_) fun _ _ x => x)
    obtain ⟨hr, h2⟩ := h2
    subst hr
    cases he : e i with
    | true =>
      have hrec := ih (i + 1) (by omega) (by omega) (fun j hj => by
        rcases Nat.lt_or_ge j i with z | z
        · exact hall j z
        · rw [show j = i by omega]; exact he) s2 h2
      obtain ⟨hp2, g2, d2, tk2, os2⟩ := s2
      wp_walk
      rw [hc]
      exact ⟨plainId_quiet plain_eq_loop _, codeAny_builtin entry_eq_loop (by
        rw [Around.under_plainId plain_eq_loop _]
        exact hrec)⟩
    | false =>
      have hR := finF i (by omega) he s2 h2
      obtain ⟨items', items2', n', n2', hl1', hb1', hs1', hs2', _⟩ := hl _ h2
      have hi1' : items'[((i : Nat) : Int).toNat]? = some (items'[i]'(by omega)) := by simp
      have hi2' : items2'[((i : Nat) : Int).toNat]? = some (items2'[i]'(by omega)) := by simp
      obtain ⟨hp2, g2, d2, tk2, os2⟩ := s2
      wp_walk using wpAny_loadPart' hl1', wpAny_loadPart' hb1'
      rw [hi1', hi2']
      wp_walk
      exact hR
theorem list_eqB (l b : Addr) (N : Nat) (e : Nat → Bool) (I : Shared → Prop) (hl : ListB prog w A (fun e s' => R (.error e) s') l b N e I)
    (fin : (∀ j, j < N → e j = true) → ∀ s, I s → R (.ok (.ret (.bool true))) s) (finF : ∀ j, j < N → e j = false → ∀ s, I s → R (.ok (.ret (.bool false))) s) {s : Shared} (h : I s) :
    wpAny (model prog w) A.in1 (Builtin.«list.__eq__» ⟨[.ref l, .ref b], []⟩) (FinOf prog w A R) (fun e s' => R (.error e) s') s := by
  obtain ⟨items, items2, n, n2, hl1, hb1, hs1, hs2, _⟩ := hl _ h
  have hrec := eq_loopB (A := A) (R := R) l b N e I hl fin finF _ 0 rfl (Nat.zero_le _) (fun j hj => absurd hj (Nat.not_lt_zero j)) s h
  obtain ⟨hp, g, d, tk, os⟩ := s
  have f3 := AutoSeq1.sub_list_list
  have hne : ¬ (items.size != items2.size) = true := by simp [hs1, hs2]
  wp_walk using wpAny_loadPart' hl1, wpAny_loadPart' hb1
  exact ⟨plainId_quiet plain_eq_loop _, codeAny_builtin entry_eq_loop (by
    rw [Around.under_plainId plain_eq_loop _]
    exact hrec)⟩
theorem tuple_eqB (l b : Addr) (items items2 : Array Value) (n n2 : Nat) (dd dd2 : Option Addr) (sl sl2 : Array (Option Value)) (e : Nat → Bool) (I : Shared → Prop)
    (turn : ∀ i (h1 : i < items.size) (h2 : i < items2.size) s, I s → wpAny (model prog w) A.in1 (eqBool items[i] items2[i]) (fun r s' => r = e i ∧ I s') (fun e s' => R (.error e) s') s)
    (fin : (∀ j, j < min items.size items2.size → e j = true) → ∀ s, I s → R (.ok (.ret (.bool (items.size == items2.size)))) s) (finF : ∀ j, j < min items.size items2.size → e j = false → ∀ s, I s → R (.ok (.ret (.bool false))) s)
    {s : Shared} (hl1 : s.heap.get? l = some { cls := .type "tuple", dict := dd, data := .seq items n, slots := sl }) (hb1 : s.heap.get? b = some { cls := .type "tuple", dict := dd2, data := .seq items2 n2, slots := sl2 }) (h : I s) :
    wpAny (model prog w) A.in1 (Builtin.«tuple.__eq__» ⟨[.ref l, .ref b], []⟩) (FinOf prog w A R) (fun e s' => R (.error e) s') s := by
  have f2 := AutoSeq1.sub_tuple_tuple
  have hZ : (items.toList.zip items2.toList).length = min items.size items2.size := by simp
  have h0 := h
  obtain ⟨hp, g, d, tk, os⟩ := s
  wp_walk using wpAny_loadPart' hl1, wpAny_loadPart' hb1, wpAny_forIn_list _ (fun rest b s' => b.1 = none ∧ ∃ i, rest = (items.toList.zip items2.toList).drop i ∧ i ≤ min items.size items2.size ∧ (∀ j, j < i → e j = true) ∧ I s') _
  case turn =>
    rintro ⟨y, x⟩ rest b s' ⟨hb', i, hz, hi, hall, hI⟩
    have hlt : i < (items.toList.zip items2.toList).length := by
      rcases Nat.lt_or_ge i (items.toList.zip items2.toList).length with h' | h'
      · exact h'
      · rw [List.drop_of_length_le h'] at hz; cases hz
    have h1 : i < items.size := by omega
    have h2 : i < items2.size := by omega
    rw [List.drop_eq_getElem_cons hlt] at hz
    injection hz with hyx hrest
    have hy : y = items[i] := by have := congrArg Prod.fst hyx; simpa using this
    have hx : x = items2[i] := by have := congrArg Prod.snd hyx; simpa using this
    subst hy hx
    refine wpAny_bind (wpAny_mono (turn i h1 h2 s' hI) (fun r s2 q2 => ?_) fun _ _ x => x)
    obtain ⟨hr, q2⟩ := q2
    subst hr
    cases he : e i with
    | true =>
      wp_walk
      exact ⟨rfl, i + 1, hrest, by omega, (fun j hj => by
        rcases Nat.lt_or_ge j i with z | z
        · exact hall j z
        · rw [show j = i by omega]; exact he), q2⟩
    | false =>
      have hR := finF i (by omega) he s2 q2
      wp_walk
      exact hR
  case fin =>
    rintro ⟨b1, b2⟩ s' ⟨hb', i, hz, hi, hall, hI⟩
    simp only at hb'
    subst hb'
    have hge : min items.size items2.size ≤ i := by
      rcases Nat.lt_or_ge i (items.toList.zip items2.toList).length with h' | h'
      · rw [List.drop_eq_getElem_cons h'] at hz; cases hz
      · exact hZ ▸ h'
    have hi' : i = min items.size items2.size := by omega
    have hR := fin (hi' ▸ hall) s' hI
    wp_walk
    simpa [Builtin.Tuple.tupleCompareSizes] using hR
  case h =>
    exact ⟨rfl, 0, rfl, Nat.zero_le _, (fun j hj => absurd hj (Nat.not_lt_zero j)), h0⟩
end
section
variable {prog : Program} {w : World} {A : Around} {E : Value → Shared → Prop} {s : Shared}
theorem rc_listB {l b : Addr} {N : Nat} {e : Nat → Bool} {Q : Value → Shared → Prop} (hu : A.units < cLine) (I : Shared → Prop) (hl : ListB prog w A E l b N e I)
    (fin : (∀ j, j < N → e j = true) → ∀ s, I s → Q (.bool true) s) (finF : ∀ j, j < N → e j = false → ∀ s, I s → Q (.bool false) s) (h : I s) : wpAny (model prog w) A (richCompare .Eq (.ref l) (.ref b)) Q E s := by
  obtain ⟨items, items2, n, n2, hl1, hb1, _, _, _⟩ := hl _ h
  refine wpAny_richCompare_same_room (op := .Eq) ⟨_, hl1, rfl⟩ ⟨_, hb1, rfl⟩ F.slot_list_eq (call_here F.slot_list_eq ⟨_, hl1, rfl⟩ F.entry_list_eq (F.args_list_eq_2 _ _) ?_) hu
  exact list_eqB (R := wants (fun v s' => v ≠ .notImplemented ∧ Q v s') E) l b N e I hl (fun a s' q => ⟨(fun x => nomatch x), fin a s' q⟩) (fun j a z s' q => ⟨(fun x => nomatch x), finF j a z s' q⟩) h
theorem rc_tupB {l b : Addr} {items items2 : Array Value} {e : Nat → Bool} {Q : Value → Shared → Prop} (hu : A.units < cLine) (I : Shared → Prop)
    (hl : s.heap.IsTuple l items) (hb : s.heap.IsTuple b items2)
    (turn : ∀ i (h1 : i < items.size) (h2 : i < items2.size) s, I s → wpAny (model prog w) A.in1 (eqBool items[i] items2[i]) (fun r s' => r = e i ∧ I s') E s)
    (fin : (∀ j, j < min items.size items2.size → e j = true) → ∀ s, I s → Q (.bool (items.size == items2.size)) s) (finF : ∀ j, j < min items.size items2.size → e j = false → ∀ s, I s → Q (.bool false) s) (h : I s) : wpAny (model prog w) A (richCompare .Eq (.ref l) (.ref b)) Q E s := by
  obtain ⟨⟨cls, dd, data, sl⟩, ho, hc, n, hd⟩ := id hl
  obtain ⟨⟨cls2, dd2, data2, sl2⟩, ho2, hc2, n2, hd2⟩ := id hb
  simp only at hc hd hc2 hd2
  subst hc hd hc2 hd2
  refine wpAny_richCompare_same_room (op := .Eq) ⟨_, ho, rfl⟩ ⟨_, ho2, rfl⟩ F.slot_tuple_eq (call_here F.slot_tuple_eq ⟨_, ho, rfl⟩ F.entry_tuple_eq (F.args_tuple_eq_2 _ _) ?_) hu
  exact tuple_eqB (R := wants (fun v s' => v ≠ .notImplemented ∧ Q v s') E) l b items items2 n n2 dd dd2 sl sl2 e I turn (fun a s' q => ⟨(fun x => nomatch x), fin a s' q⟩) (fun j a z s' q => ⟨(fun x => nomatch x), finF j a z s' q⟩) ho ho2 h
end
end OfGQ
namespace OF
open PySem PySem.Spec PyProof.Rows L2
/-- what == says of two values, by the abstract heap -/
abbrev EqvB := V → V → Bool → Hp → Prop
def EqB (X : Cx) (n : Nat) (D : EqvB) : Prop :=
  ∀ (A : Around) (pins : List (Addr × Obj)) (s : Shared) (σ : L2.St) (H : Hp) (x y : V) (u v : Value) (b : Bool), Sub X n A → Inv X pins σ H s → RelV x u → RelV y v → D x y b H →
    wpAny (model X.prog X.w) A (eqBool u v) (fun r s' => r = b ∧ Inv X pins σ H s') X.xe s
def RcB (X : Cx) (n : Nat) (D : EqvB) : Prop :=
  ∀ (A : Around) (pins : List (Addr × Obj)) (s : Shared) (σ : L2.St) (H : Hp) (x y : V) (u v : Value) (b : Bool), Sub X n A → Inv X pins σ H s → RelV x u → RelV y v → D x y b H →
    wpAny (model X.prog X.w) A (richCompare .Eq u v) (fun r s' => r = .bool b ∧ Inv X pins σ H s') X.xe s
section
variable {X : Cx} {n m : Nat} {D D' : EqvB}
theorem EqB.mono (h : EqB X n D) (hn : n ≤ m) : EqB X m D := fun A pins s σ H x y u v b sb => h A pins s σ H x y u v b (sb.mono hn)
theorem EqB.or (h : EqB X n D) (h' : EqB X n D') : EqB X n (fun x y b H => D x y b H ∨ D' x y b H) := fun A pins s σ H x y u v b sb I rx ry d => by
  rcases d with d | d
  · exact h A pins s σ H x y u v b sb I rx ry d
  · exact h' A pins s σ H x y u v b sb I rx ry d
/-- the very same object -/
def DSame : EqvB := fun x y b _ => ∃ a, x = .ref a ∧ y = .ref a ∧ b = true
theorem eqB_same : EqB X 0 DSame := by
  intro A pins s σ H x y u v b sb I rx ry d
  obtain ⟨a, rfl, rfl, rfl⟩ := d
  cases rx
  cases ry
  exact SeqAt.EqAt.same (A := A) (s := s) (.ref a) X.prog X.w X.xe _ ⟨rfl, I⟩
/-- flat values -/
def DFlatB : EqvB := fun x y b _ => flatV x = true ∧ flatV y = true ∧ eqV x y = b
theorem eqB_flat : EqB X 0 DFlatB := by
  intro A pins s σ H x y u v b sb I rx ry d
  obtain ⟨fx, fy, e⟩ := d
  have q := eqAt_V (A := A) (s := s) rx ry fx fy
  rw [e] at q
  exact q X.prog X.w X.xe _ ⟨rfl, I⟩
/-- item by item -/
structure PrsB (D : EqvB) (xs ys : List V) (e : Nat → Bool) (H : Hp) : Prop where
  it : ∀ (i : Nat) x y, xs[i]? = some x → ys[i]? = some y → D x y (e i) H
theorem turnB (h : EqB X n D) {A : Around} (sb : Sub X (n + 1) A) {pins : List (Addr × Obj)} {σ : L2.St} {H : Hp} {xs ys : List V} {e : Nat → Bool} {its its2 : List Value} (p : PrsB D xs ys e H) (r : Vals xs its) (r2 : Vals ys its2)
    (i : Nat) (h1 : i < its.toArray.size) (h2 : i < its2.toArray.size) (s' : Shared) (I : Inv X pins σ H s') :
    wpAny (model X.prog X.w) A.in1 (eqBool its.toArray[i] its2.toArray[i]) (fun r s2 => r = e i ∧ Inv X pins σ H s2) X.xe s' := by
  have g1 : its[i]? = some its.toArray[i] := by
    have h1' : i < its.length := by simpa using h1
    rw [List.getElem?_eq_getElem h1'] <;> simp
  have g2 : its2[i]? = some its2.toArray[i] := by
    have h2' : i < its2.length := by simpa using h2
    rw [List.getElem?_eq_getElem h2'] <;> simp
  have k1 : i < xs.length := by rw [r.length]; simpa using h1
  have k2 : i < ys.length := by rw [r2.length]; simpa using h2
  obtain ⟨u, hu, ru⟩ := r.get (List.getElem?_eq_getElem k1)
  obtain ⟨v, hv, rv⟩ := r2.get (List.getElem?_eq_getElem k2)
  rw [g1] at hu
  rw [g2] at hv
  rw [Option.some.inj hu, Option.some.inj hv]
  exact h A.in1 pins s' σ H _ _ u v (e i) sb.in1 I ru rv (p.it i _ _ (List.getElem?_eq_getElem k1) (List.getElem?_eq_getElem k2))
/-- what == says of lists of one length -/
def DListB (D : EqvB) : EqvB := fun x y b H => ∃ l m xs ys e, x = .ref l ∧ y = .ref m ∧ H l = some (.lst xs) ∧ H m = some (.lst ys) ∧ xs.length = ys.length ∧ PrsB D xs ys e H ∧ (l = m → b = true) ∧ b = (List.range xs.length).all e
def DTupB (K : PySem.W.Frag) (D : EqvB) : EqvB := fun x y b H => ∃ l m xs ys e, x = .ref l ∧ y = .ref m ∧ SqT K H l xs ∧ SqT K H m ys ∧ PrsB D xs ys e H ∧ (l = m → b = true) ∧ b = ((List.range (min xs.length ys.length)).all e && decide (xs.length = ys.length))
theorem all_true {N : Nat} {e : Nat → Bool} (h : ∀ j, j < N → e j = true) : (List.range N).all e = true := List.all_eq_true.mpr fun j hj => h j (List.mem_range.mp hj)
theorem all_false {N j : Nat} {e : Nat → Bool} (hj : j < N) (h : e j = false) : (List.range N).all e = false := by
  cases z : (List.range N).all e with
  | false => rfl
  | true => rw [List.all_eq_true.mp z j (List.mem_range.mpr hj)] at h; cases h
theorem rcB_list (h : EqB X n D) : RcB X (n + 1) (DListB D) := by
  intro A pins s σ H x y u v b sb I rx ry d
  obtain ⟨l, m, xs, ys, e, rfl, rfl, ha, hb, hlen, p, _, rfl⟩ := d
  cases rx
  cases ry
  refine OfGQ.rc_listB (N := xs.length) (e := e) sb.room.units0 (fun s' => Inv X pins σ H s') (fun s' I1 => ?_) (fun a s' q => ⟨by rw [all_true a], q⟩) (fun j hj z s' q => ⟨by rw [all_false hj z], q⟩) I
  obtain ⟨z, its, k, r, e1⟩ := I1.hok l _ ha
  obtain ⟨z2, its2, k2, r2, e2⟩ := I1.hok m _ hb
  exact ⟨its.toArray, its2.toArray, k, k2, e1, e2, by rw [List.size_toArray, ← r.length], by rw [List.size_toArray, ← r2.length, hlen], fun i h1 h2 => turnB h sb p r r2 i h1 h2 s' I1⟩
theorem rcB_tup (h : EqB X n D) : RcB X (n + 1) (DTupB X.K D) := by
  intro A pins s σ H x y u v b sb I rx ry d
  obtain ⟨l, m, xs, ys, e, rfl, rfl, ha, hb, p, _, rfl⟩ := d
  cases rx
  cases ry
  obtain ⟨its, r, e1, z⟩ := I.tuple ha
  obtain ⟨its2, r2, e2, z2⟩ := I.tuple hb
  have n1 : its.toArray.size = xs.length := by rw [List.size_toArray, ← r.length]
  have n2 : its2.toArray.size = ys.length := by rw [List.size_toArray, ← r2.length]
  refine OfGQ.rc_tupB (e := e) sb.room.units0 (fun s' => Inv X pins σ H s') e1 e2 (fun i h1 h2 s' q => turnB h sb p r r2 i h1 h2 s' q) (fun a s' q => ⟨?_, q⟩) (fun j hj z s' q => ⟨?_, q⟩) I
  · rw [n1, n2] at a
    rw [all_true a, n1, n2, Bool.true_and]
    rfl
  · rw [n1, n2] at hj
    rw [all_false hj z, Bool.false_and]
/-- instances with an own ==: what it promises -/
def DInsB (C : Addr) (sp : Sp) (E : XK) : EqvB := fun x y b H => ∃ l m dx dy fs gs, x = .ref l ∧ y = .ref m ∧ H l = some (.ins C dx fs) ∧ H m = some (.ins C dy gs) ∧ (l = m → b = true) ∧ sp [.ref l, .ref m] H (fun v H' => v = .bl b ∧ H' = H) E
theorem rcB_ins {CX : CXT} {C f : Addr} {fd : FuncData} {ps : List Str} {sp : Sp} {E : XK} (F : FnOk X.prog X.w X.K X.mg X.base CX n f fd ps sp)
    (hs : PySem.W.findIn X.K (.ref C) "__eq__" = some (some (.ref f))) (hf : PySem.W.isFn X.K (.ref f) = true) (hb : Binds X.K fd ps []) (hx : Passes CX X E) : RcB X n (DInsB C sp E) := by
  intro A pins s σ H x y u v b sb I rx ry d
  obtain ⟨l, m, dx, dy, fs, gs, rfl, rfl, ha, hb', _, hsp⟩ := d
  cases rx
  cases ry
  obtain ⟨mA, J, _⟩ := ins_get I.hok ha
  obtain ⟨mB, J', _⟩ := ins_get I.hok hb'
  obtain ⟨od, J, _⟩ := J.look
  obtain ⟨od', J', _⟩ := J'.look
  obtain ⟨m', hF⟩ := I.fr
  refine PySem.W.cmp_K (op := .Eq) (tb := .ref C) sb.room.units0 hF I.ok.mod.kin J J'.type (by simp [PySem.W.notFirst]) hs hf ?_
  have e0 : Env0 X.prog X.w X.K X.mg X.base A X.stack s H := by
    have e := I.env0
    exact ⟨by rw [sb.fr]; exact e.frames, e.mod, e.bs, e.bsz, e.funs, e.frf, e.hok, e.bare⟩
  have hl := F.len _ _ _ _ hsp
  have r2 : Vals [V.ref l, V.ref m] [Value.ref l, Value.ref m] := .cons rfl (.cons rfl .nil)
  refine wpAny_call (codeAny_mono (F.run A X.stack s H ⟨[.ref l, .ref m], []⟩ [.ref l, .ref m] [.ref l, .ref m] _ E sb.room e0 (by
    have := hb s [.ref l, .ref m] I.kIn (by simpa using hl)
    simpa using this) r2 hsp) fun r s' hq => ?_)
  cases r with
  | error e => exact hx pins σ H s e s' I hq
  | ok fl =>
    cases fl with
    | ret w =>
      obtain ⟨z, H', I', rz, ez, ex⟩ := I.after hq
      subst ez
      cases rz
      subst ex
      exact ⟨rfl, I'⟩
    | next => exact False.elim hq
    | brk => exact False.elim hq
    | cont => exact False.elim hq
theorem RcB.eqB (h : RcB X n D) (hr : ∀ x y b H, D x y b H → ∃ l m, x = .ref l ∧ y = .ref m ∧ (l = m → b = true)) : EqB X n D := by
  intro A pins s σ H x y u v b sb I rx ry d
  obtain ⟨l, m, rfl, rfl, ht⟩ := hr _ _ _ _ d
  cases rx
  cases ry
  by_cases hab : l = m
  · subst hab
    rw [ht rfl]
    exact SeqAt.EqAt.same (A := A) (s := s) (.ref l) X.prog X.w X.xe _ ⟨rfl, I⟩
  · refine GQ.eqBool_refG hab (wpAny_mono (h A pins s σ H (.ref l) (.ref m) _ _ b sb I rfl rfl d) (fun r s' q => ?_) fun _ _ x => x)
    obtain ⟨hr', q⟩ := q
    exact ⟨b, hr', rfl, q⟩
theorem eqB_list (h : EqB X n D) : EqB X (n + 1) (DListB D) := (rcB_list h).eqB fun _ _ _ _ d => let ⟨l, m, _, _, _, hx, hy, _, _, _, _, z, _⟩ := d; ⟨l, m, hx, hy, z⟩
theorem eqB_tup (h : EqB X n D) : EqB X (n + 1) (DTupB X.K D) := (rcB_tup h).eqB fun _ _ _ _ d => let ⟨l, m, _, _, _, hx, hy, _, _, _, z, _⟩ := d; ⟨l, m, hx, hy, z⟩
theorem eqB_ins {CX : CXT} {C f : Addr} {fd : FuncData} {ps : List Str} {sp : Sp} {E : XK} (F : FnOk X.prog X.w X.K X.mg X.base CX n f fd ps sp)
    (hs : PySem.W.findIn X.K (.ref C) "__eq__" = some (some (.ref f))) (hf : PySem.W.isFn X.K (.ref f) = true) (hb : Binds X.K fd ps []) (hx : Passes CX X E) : EqB X n (DInsB C sp E) :=
  (rcB_ins F hs hf hb hx).eqB fun _ _ _ _ d => let ⟨l, m, _, _, _, _, hx, hy, _, _, z, _⟩ := d; ⟨l, m, hx, hy, z⟩
/-- x == y as an expression -/
def rEqB (D : EqvB) : R2 := fun x y H Q => ∃ b, D x y b H ∧ Q (.bl b) H
theorem op_eqB (h : RcB X n D) (hr : Room n X.A) : OpR X (compareOp .Eq) (rEqB D) := by
  intro pins s σ H x y v u Q I rx ry hq
  obtain ⟨b, d, q⟩ := hq
  show wpAny (model X.prog X.w) X.A (richCompare .Eq v u) (EP X pins σ Q) X.xe s
  refine wpAny_mono (h X.A pins s σ H x y v u b ⟨hr, rfl⟩ I rx ry d) (fun r s' z => ?_) fun _ _ x => x
  obtain ⟨hr', I'⟩ := z
  subst hr'
  exact ⟨.bl b, H, I', rfl, q⟩
end
end OF
namespace K31
open PySem PySem.Spec PyProof.Rows L2 OF
abbrev sFoInit : Stmt := inClass (topS 66) 0
abbrev sFoTerms : Stmt := inClass (topS 66) 1
abbrev sFoTarget : Stmt := inClass (topS 66) 2
abbrev sFoEq : Stmt := inClass (topS 66) 3
section
variable {P : Program} {w : World} {K : PySem.W.Frag} {mg : Str → Option Value} {base : Heap}
/-! ### terms, whole -/
structure TD where
  p : Addr
  f : Int
  s : Addr
  t : Addr
  r : Addr
  b : Int
  ds : List Int
  ks : List (Addr × (Int × Int))
structure TermAt (C : Addr) (H : Hp) (z : TD) : Prop where
  tup : H z.p = some (.tup [.int z.f, .ref z.s])
  fac : facB z.f = true
  sch : SchemeAt C H z.s z.t z.r z.b z.ds z.ks
  few : z.ds.length ≤ 60
  bas : z.b.natAbs ≤ 6
abbrev tV (z : TD) : V := .ref z.p
theorem TermAt.same {C : Addr} {H H' : Hp} {z : TD} (h : TermAt C H z) (s : Same H H') : TermAt C H' z := ⟨s _ _ h.tup, h.fac, h.sch.same s, h.few, h.bas⟩
theorem TermAt.ok {C : Addr} {H : Hp} {z : TD} (h : TermAt C H z) : TermOk C H (tV z) := by
  obtain ⟨⟨dx, i⟩, _⟩ := h.sch
  exact ⟨z.p, z.f, .ref z.s, rfl, h.tup, h.fac, z.s, dx, _, rfl, i⟩
def LT (H : Hp) (p : Addr) (xs : List V) : Prop := H p = some (.lst xs) ∨ H p = some (.tup xs)
theorem LT.seq {H : Hp} {p : Addr} {xs : List V} (h : LT H p xs) : IsSeq K H p xs := h.elim .lst .tup
theorem LT.same {H H' : Hp} {p : Addr} {xs : List V} (h : LT H p xs) (s : Same H H') : LT H' p xs := h.imp (s _ _) (s _ _)
/-- Form(..): what is due -/
def spForm (CF C CT CI CN CU : Addr) : Sp := fun vs H Q E => ∃ (o dx : Addr) (x y : V), vs = [.ref o, x, y] ∧ H o = some (.ins CF dx []) ∧ ((NoSeq H x ∧ Raised CT "value" x H E) ∨ ∃ (p : Addr) (xs : List V), x = .ref p ∧ LT H p xs ∧
  ((¬ (1 ≤ xs.length ∧ xs.length ≤ 2) ∧ Raised CT "value" x H E) ∨ (1 ≤ xs.length ∧ xs.length ≤ 2 ∧
    ((∃ (good : List V) (u : V) (more : List V), xs = good ++ u :: more ∧ (∀ g ∈ good, TermOk C H g) ∧ TermBad C H u ∧ Raised CI "term" u H E) ∨
     ∃ ts : List TD, xs = ts.map tV ∧ (∀ z ∈ ts, TermAt C H z) ∧ ((ItemOk H y ∧ Raised CN "value" y H E) ∨ ∃ (a t r : Addr) (b : Int) (ds : List Int) (ks : List (Addr × (Int × Int))), y = .ref a ∧ SchemeAt C H a t r b ds ks ∧ ds.length ≤ 60 ∧
       ((∃ (l : List TD) (u : TD) (m : List TD), ts = l ++ u :: m ∧ (∀ z ∈ l, z.b.natAbs = b.natAbs) ∧ u.b.natAbs ≠ b.natAbs ∧ Raised CU "value" (.int u.b) H E) ∨
        ((∀ z ∈ ts, z.b.natAbs = b.natAbs) ∧ ∀ (tt g : Addr) (H' : Hp), But o H H' → H' o = some (.ins CF dx [("_terms", .ref tt), ("_target", .ref a), ("_graph", .ref g)]) → H' tt = some (.tup xs) → Q .non H')))))))
theorem raised_up {C : Addr} {f : Str} {v : V} {H H1 : Hp} {E : XK} (q : Raised C f v H E) (s : Same H H1) : Raised C f v H1 E := fun fs d H' hd t e => q fs d H' (free_same s hd) (s.trans t) e
abbrev nFo : List Str := ["self", "terms", "target", "_", "scheme"]
theorem scFo : FnScope nFo ["self", "terms", "target"] (defScope sFoInit) := ⟨rfl, rfl, rfl, by decide +kernel, rfl, by decide +kernel, by decide +kernel⟩
theorem abs_ne (a b : Int) : (!decide (V.int (if a < 0 then -a else a) = V.int (if b < 0 then -b else b))) = !decide (a.natAbs = b.natAbs) := by
  have e : (V.int (if a < 0 then -a else a) = V.int (if b < 0 then -b else b)) ↔ a.natAbs = b.natAbs := by
    constructor
    · intro z
      have z := V.int.inj z
      split at z <;> split at z <;> omega
    · intro z
      congr 1
      split <;> split <;> omega
  rw [decide_eq_decide.mpr e]
set_option maxHeartbeats 2000000 in
theorem ok_form {f fT fS fC fB fG fI CF CG C CT CI CN CU p : Addr} {fd fdT fdS fdC fdB fdG fdI : FuncData} (F : Fun K "__init__" "Form.__init__" sFoInit f fd) (cF : Cls K CF) (n1 : NoAttr K CF "_terms") (n2 : NoAttr K CF "_target") (n3 : NoAttr K CF "_graph")
    (GT : FnOk P w K mg base (L2.CX P w) 5 fT fdT ["value", "fits"] (spCheckT K C CT CI fS)) (gT : mg "check_terms" = some (.ref fT)) (kT : PySem.W.keepIn K (.ref fT) = true) (bT : Binds K fdT ["value", "fits"] []) (gS : mg "is_scheme" = some (.ref fS))
    (GC : FnOk P w K mg base (L2.CX P w) 5 fC fdC ["value"] (spCheckS C CN)) (gC : mg "check_scheme" = some (.ref fC)) (kC : PySem.W.keepIn K (.ref fC) = true) (bC : Binds K fdC ["value"] [])
    (c : Cls K C) (pB : PropOf K C "base" p fB) (GB : FnOk P w K mg base CX0 1 fB fdB ["self"] (spPB C)) (bB : Binds K fdB ["self"] []) (ma : mg "abs" = none) (mt : mg "tuple" = none)
    (GI : FnOk P w K mg base CX0 3 fI fdI ["self", "value"] (spInit K "value" CU)) (T : ErrC K mg "UnlikeBases" "value" CU fI) (bI : Binds K fdI ["self", "value"] [])
    (MG : Mk K CG fG) (GG : FnOk P w K mg base CX0 14 fG fdG ["self", "terms", "target"] (spGraphI CG C)) (gG : mg "StateGraph" = some (.ref CG)) (bG : Binds K fdG ["self", "terms", "target"] []) :
    FnOk P w K mg base (L2.CX P w) 16 f fd ["self", "terms", "target"] (spForm CF C CT CI CN CU) := by
  refine F.okX scFo (fun vs H Q E h => ?_) (fun cdv A outer s H vs Q E hr h => ?_)
  · obtain ⟨o, dx, x, y, rfl, _⟩ := h
    rfl
  · obtain ⟨o, dx, x, y, rfl, ho, h⟩ := h
    have hr2 : Room 2 _ := hr.mono (by decide)
    have hr5 : Room 5 _ := hr.mono (by decide)
    have hr4 : Room 4 _ := hr.mono (by decide)
    apply Exists.intro
    apply And.intro
    · apply pss_cons
      · exact ps_expr (pe_call GT hr5 (by rfl) gT kT bT .nil (passes_call (W := fun cl d _ J => E cl d J) (takes_of rfl rfl rfl rfl) (fun _ _ _ _ z => z)) (pa_cons (pv 1) (pa_cons (pe_glob (v := .ref fS) (by rfl) gS rfl) pa_nil)))
      apply pss_cons
      · exact ps_expr (pe_call GC hr5 (by rfl) gC kC bC .nil (passes_call (W := fun cl d _ J => E cl d J) (takes_of rfl rfl rfl rfl) (fun _ _ _ _ z => z)) (pa_cons (pv 2) pa_nil))
      apply pss_cons
      · exact ps_for (passes_of rfl) rfl (pi_sq (pv 1)) (pg_tup rfl (pgs_cons (pg_name (i := 3) scFo.nd rfl (.inl rfl)) (pgs_cons (pg_name (i := 4) scFo.nd rfl (.inl rfl)) pgs_nil)))
          (pss_one (ps_if (pt_cmpR op_ne (pe_callB call_abs (by rfl) ma (by decide +kernel) (pa_cons (pe_prop (pv 4) c pB GB hr2 bB .nil pass0 (by rfl)) pa_nil)) (pe_callB call_abs (by rfl) ma (by decide +kernel) (pa_cons (pe_prop (pv 2) c pB GB hr2 bB .nil pass0 (by rfl)) pa_nil)) (nomark _))
            (pss_one (ps_raise rfl (takes_of rfl rfl rfl rfl) (pmk_oex T.ox T.iC T.tI GI hr4 bI .nil pass0 (by rfl) T.g (pa_cons (pe_prop (pv 4) c pB GB hr2 bB .nil pass0 (by rfl)) pa_nil)))) pss_nil))
      apply pss_cons
      · exact ps_fld (pv 0) (pe_callTy call_tuple_of (by rfl) mt (by decide +kernel) (pa_cons (pv 1) pa_nil)) rfl
      apply pss_cons
      · exact ps_fld (pv 0) (pv 2) rfl
      apply pss_one
      · exact ps_fld (pv 0) (pe_make MG GG hr (by rfl) gG bG .nil pass0 (pa_cons (pe_fld (pv 0) rfl) (pa_cons (pv 2) pa_nil))) rfl
    refine ⟨x, rfl, x, rfl, ?_⟩
    rcases h with ⟨no, hE⟩ | ⟨p1, xs, rfl, hp, h⟩
    · exact .inl ⟨no, hE⟩
    rcases h with ⟨nl, hE⟩ | ⟨l1, l2, h⟩
    · exact .inr ⟨p1, xs, rfl, hp.seq, .inl ⟨nl, hE⟩⟩
    rcases h with ⟨good, u, more, e, hg, bad, hE⟩ | ⟨ts, rfl, hts, h⟩
    · exact .inr ⟨p1, xs, rfl, hp.seq, .inr ⟨l1, l2, good, u :: more, e, hg, .inl ⟨u, more, rfl, bad, hE⟩⟩⟩
    refine .inr ⟨p1, _, rfl, hp.seq, .inr ⟨l1, l2, ts.map tV, [], (List.append_nil _).symm, fun g hg => ?_, .inr ⟨rfl, fun H1 s1 => ?_⟩⟩⟩
    · obtain ⟨z, hz, rfl⟩ := List.mem_map.mp hg
      exact (hts z hz).ok
    refine ⟨y, rfl, y, rfl, ?_⟩
    rcases h with ⟨oy, hE⟩ | ⟨a, t, r, b, ds, ks, rfl, S, few, h⟩
    · exact .inr ⟨oy.same s1, raised_up hE s1⟩
    obtain ⟨⟨dy, hy⟩, _⟩ := id S
    refine .inl ⟨⟨a, dy, _, rfl, s1 _ _ hy⟩, ?_⟩
    obtain ⟨kd, hkd⟩ : ∃ kd : Bool, ∀ H', Same H H' → Sq K kd H' p1 (ts.map tV) := by
      rcases hp with z | z
      · exact ⟨true, fun H' s => SqL.of (s _ _ z)⟩
      · exact ⟨false, fun H' s => SqT.of (s _ _ z)⟩
    refine ⟨.ref p1, rfl, p1, rfl, for_sq (k := kd) (xs := ts.map tV) (fun i σ H' => (∃ v v2, σ = [some (.ref o), some (.ref p1), some (.ref a), v, v2]) ∧ Same H H' ∧ ∀ z ∈ ts.take i, z.b.natAbs = b.natAbs) ⟨⟨none, none, rfl⟩, s1, fun z hz => nomatch hz⟩ (fun i σ H' _ h => hkd H' h.2.1) ?_ ?_⟩
    · rintro i z σ H' hz ⟨⟨v, v2, rfl⟩, s2, all⟩
      rw [List.getElem?_map] at hz
      obtain ⟨w0, hw, rfl⟩ := Option.map_eq_some_iff.mp hz
      have tw := (hts w0 (List.mem_of_getElem? hw)).same s2
      obtain ⟨⟨dw, hw1⟩, _⟩ := id tw.sch
      have S2 := S.same s2
      refine ⟨w0.p, _, rfl, SqT.of tw.tup, rfl, .int w0.f, _, rfl, .ref w0.s, [], rfl, rfl, ?_⟩
      refine ⟨.ref w0.s, rfl, w0.s, dw, _, rfl, hw1, w0.s, w0.t, w0.r, w0.b, w0.ds, w0.ks, rfl, tw.sch, w0.b, rfl, .ref a, rfl, a, dy, _, rfl, s2 _ _ hy, a, t, r, b, ds, ks, rfl, S2, b, rfl, rfl, _, rfl, ?_⟩
      by_cases same : w0.b.natAbs = b.natAbs
      · refine iteFB (by rw [abs_ne, decide_eq_true same]; rfl) ⟨⟨_, _, rfl⟩, s2, fun z hz => ?_⟩
        rw [take_more hw] at hz
        rcases List.mem_append.mp hz with hz | hz
        · exact all z hz
        · rw [List.mem_singleton.mp hz]
          exact same
      · refine iteTB (by rw [abs_ne, decide_eq_false same]; rfl) ?_
        rcases h with ⟨l, u, m, e, hl, hu, hE⟩ | ⟨allb, _⟩
        · have eu : u = w0 := by
            have il : l.length = i := by
              rcases Nat.lt_trichotomy i l.length with c | c | c
              · exfalso
                rw [e, List.getElem?_append_left c] at hw
                exact same (hl w0 (List.mem_of_getElem? hw))
              · exact c.symm
              · exfalso
                have z : (ts.take i)[l.length]? = some u := by
                  rw [List.getElem?_take_of_lt c, e, List.getElem?_append_right (Nat.le_refl _), Nat.sub_self]
                  rfl
                exact hu (all u (List.mem_of_getElem? z))
            subst il
            rw [e, List.getElem?_append_right (Nat.le_refl _), Nat.sub_self] at hw
            exact Option.some.inj hw
          subst eu
          exact ⟨.ref u.s, rfl, u.s, dw, _, rfl, hw1, u.s, u.t, u.r, u.b, u.ds, u.ks, rfl, tw.sch, raised_ok (K := K) (σ := [some (.ref o), some (.ref p1), some (.ref a), some (.int u.f), some (.ref u.s)]) (D := { nx := fun _ H' => Q .non H', rt := Q }) hE s2⟩
        · exact absurd (allb w0 (List.mem_of_getElem? hw)) same
    · rintro σ H' ⟨⟨v, v2, rfl⟩, s2, all⟩
      rw [List.length_map, List.take_length] at all
      rcases h with ⟨l, u, m, e, hl, hu, hE⟩ | ⟨_, q⟩
      · exact absurd (all u (by rw [e]; exact List.mem_append_right _ List.mem_cons_self)) hu
      refine ⟨.ref p1, rfl, ?_⟩
      rcases hp with z | z
      · refine ⟨p1, _, rfl, .inl ⟨SqL.of (s2 _ _ z), fun tt htt => ?_⟩⟩
        have s3 := s2.trans (same_new (o := .tup (ts.map tV)) htt)
        have ett : (upd H' tt (.tup (ts.map tV))) tt = some (.tup (ts.map tV)) := upd_same
        generalize upd H' tt (.tup (ts.map tV)) = H2 at s3 ett ⊢
        refine ⟨.ref o, rfl, o, CF, dx, [], rfl, s3 _ _ ho, cF, n1, (by show 0 < 1000; decide), ?_⟩
        have t1 : But o H (upd H2 o (.ins CF dx (putF "_terms" (.ref tt) []))) := (But.of_same s3).trans But.at_
        have nt : tt ≠ o := fun z => by
          rw [z, s3 _ _ ho] at ett
          cases ett
        have e1 : (upd H2 o (.ins CF dx (putF "_terms" (.ref tt) []))) o = some (.ins CF dx [("_terms", .ref tt)]) := upd_same
        have et1 : (upd H2 o (.ins CF dx (putF "_terms" (.ref tt) []))) tt = some (.tup (ts.map tV)) := (upd_ne nt).trans ett
        generalize upd H2 o (.ins CF dx (putF "_terms" (.ref tt) [])) = H3 at t1 e1 et1 ⊢
        refine ⟨.ref a, rfl, .ref o, rfl, o, CF, dx, _, rfl, e1, cF, n2, (by show 1 < 1000; decide), ?_⟩
        have t2 : But o H (upd H3 o (.ins CF dx (putF "_target" (.ref a) [("_terms", .ref tt)]))) := t1.trans But.at_
        have e2 : (upd H3 o (.ins CF dx (putF "_target" (.ref a) [("_terms", .ref tt)]))) o = some (.ins CF dx [("_terms", .ref tt), ("_target", .ref a)]) := upd_same
        have et2 : (upd H3 o (.ins CF dx (putF "_target" (.ref a) [("_terms", .ref tt)]))) tt = some (.tup (ts.map tV)) := (upd_ne nt).trans et1
        generalize upd H3 o (.ins CF dx (putF "_target" (.ref a) [("_terms", .ref tt)])) = H4 at t2 e2 et2 ⊢
        have S4 := scheme_but S ho (by decide) t2
        refine ⟨.ref o, rfl, o, CF, dx, _, .ref tt, rfl, e2, cF, n1, (by rw [lookup_put, if_pos rfl]), .ref a, rfl, fun x dz hx hdz nz => ?_⟩
        have s0 : Same H4 (upd (upd H4 dz (.own x)) x (.ins CG dz [])) := same_made hx hdz But.refl
        refine ⟨x, dz, tt, a, t, r, _, b, ds, ks, rfl, upd_same, s0 _ _ et2, l2, S4.same s0, few, fun H5 t5 => ⟨rfl, ?_⟩⟩
        have s5 : Same H4 H5 := same_made hx hdz t5
        refine ⟨.ref o, rfl, o, CF, dx, _, rfl, s5 _ _ e2, cF, n3, (by show 2 < 1000; decide), ?_⟩
        exact q tt x _ (t2.trans ((But.of_same s5).trans But.at_)) upd_same ((upd_ne nt).trans (s5 _ _ et2))
      · refine ⟨p1, _, rfl, .inr ⟨SqT.of (s2 _ _ z), ?_⟩⟩
        have s3 := s2
        have ett := s2 _ _ z
        clear s2
        refine ⟨.ref o, rfl, o, CF, dx, [], rfl, s3 _ _ ho, cF, n1, (by show 0 < 1000; decide), ?_⟩
        have t1 : But o H (upd H' o (.ins CF dx (putF "_terms" (.ref p1) []))) := (But.of_same s3).trans But.at_
        have nt : p1 ≠ o := fun z => by
          rw [z, s3 _ _ ho] at ett
          cases ett
        have e1 : (upd H' o (.ins CF dx (putF "_terms" (.ref p1) []))) o = some (.ins CF dx [("_terms", .ref p1)]) := upd_same
        have et1 : (upd H' o (.ins CF dx (putF "_terms" (.ref p1) []))) p1 = some (.tup (ts.map tV)) := (upd_ne nt).trans ett
        generalize upd H' o (.ins CF dx (putF "_terms" (.ref p1) [])) = H3 at t1 e1 et1 ⊢
        refine ⟨.ref a, rfl, .ref o, rfl, o, CF, dx, _, rfl, e1, cF, n2, (by show 1 < 1000; decide), ?_⟩
        have t2 : But o H (upd H3 o (.ins CF dx (putF "_target" (.ref a) [("_terms", .ref p1)]))) := t1.trans But.at_
        have e2 : (upd H3 o (.ins CF dx (putF "_target" (.ref a) [("_terms", .ref p1)]))) o = some (.ins CF dx [("_terms", .ref p1), ("_target", .ref a)]) := upd_same
        have et2 : (upd H3 o (.ins CF dx (putF "_target" (.ref a) [("_terms", .ref p1)]))) p1 = some (.tup (ts.map tV)) := (upd_ne nt).trans et1
        generalize upd H3 o (.ins CF dx (putF "_target" (.ref a) [("_terms", .ref p1)])) = H4 at t2 e2 et2 ⊢
        have S4 := scheme_but S ho (by decide) t2
        refine ⟨.ref o, rfl, o, CF, dx, _, .ref p1, rfl, e2, cF, n1, (by rw [lookup_put, if_pos rfl]), .ref a, rfl, fun x dz hx hdz nz => ?_⟩
        have s0 : Same H4 (upd (upd H4 dz (.own x)) x (.ins CG dz [])) := same_made hx hdz But.refl
        refine ⟨x, dz, p1, a, t, r, _, b, ds, ks, rfl, upd_same, s0 _ _ et2, l2, S4.same s0, few, fun H5 t5 => ⟨rfl, ?_⟩⟩
        have s5 : Same H4 H5 := same_made hx hdz t5
        refine ⟨.ref o, rfl, o, CF, dx, _, rfl, s5 _ _ e2, cF, n3, (by show 2 < 1000; decide), ?_⟩
        exact q p1 x _ (t2.trans ((But.of_same s5).trans But.at_)) upd_same ((upd_ne nt).trans (s5 _ _ et2))
end
end K31
namespace K31
open PySem PySem.Spec PyProof.Rows L2 OF
section
variable {P : Program} {w : World} {K : PySem.W.Frag} {mg : Str → Option Value} {base : Heap}
/-! ### a form that stands in the heap; == -/
structure FormAt (CF C : Addr) (H : Hp) (o tt : Addr) (ts : List TD) (a t r : Addr) (b : Int) (ds : List Int) (ks : List (Addr × (Int × Int))) : Prop where
  ins : ∃ dx g, H o = some (.ins CF dx [("_terms", .ref tt), ("_target", .ref a), ("_graph", .ref g)])
  tms : H tt = some (.tup (ts.map tV))
  each : ∀ z ∈ ts, TermAt C H z
  tgt : SchemeAt C H a t r b ds ks
  few : ds.length ≤ 60
  two : ts.length ≤ 2
theorem FormAt.same {CF C : Addr} {H H' : Hp} {o tt : Addr} {ts : List TD} {a t r : Addr} {b : Int} {ds : List Int} {ks : List (Addr × (Int × Int))} (h : FormAt CF C H o tt ts a t r b ds ks) (s : Same H H') : FormAt CF C H' o tt ts a t r b ds ks :=
  let ⟨⟨dx, g, i⟩, m, e, S, f, l⟩ := h; ⟨⟨dx, g, s _ _ i⟩, s _ _ m, fun z hz => (e z hz).same s, S.same s, f, l⟩
theorem lkf_terms {tt a g : Addr} : ([("_terms", V.ref tt), ("_target", .ref a), ("_graph", .ref g)] : List (Str × V)).lookup ("_terms" : Str) = some (.ref tt) := by
  rw [lookup_put, if_pos rfl]
theorem lkf_target {tt a g : Addr} : ([("_terms", V.ref tt), ("_target", .ref a), ("_graph", .ref g)] : List (Str × V)).lookup ("_target" : Str) = some (.ref a) := by
  rw [lookup_put, if_neg (by decide), lookup_put, if_pos rfl]
def spFT (CF : Addr) : Sp := fun vs H Q _ => ∃ (o dx tt a g : Addr), vs = [.ref o] ∧ H o = some (.ins CF dx [("_terms", .ref tt), ("_target", .ref a), ("_graph", .ref g)]) ∧ Q (.ref tt) H
def spFG (CF : Addr) : Sp := fun vs H Q _ => ∃ (o dx tt a g : Addr), vs = [.ref o] ∧ H o = some (.ins CF dx [("_terms", .ref tt), ("_target", .ref a), ("_graph", .ref g)]) ∧ Q (.ref a) H
theorem scFt : FnScope ["self"] ["self"] (defScope sFoTerms) := ⟨rfl, rfl, rfl, by decide +kernel, rfl, by decide +kernel, by decide +kernel⟩
theorem ok_fterms {f CF : Addr} {fd : FuncData} (F : Fun K "terms" "Form.terms" sFoTerms f fd) (c : Cls K CF) (n : NoAttr K CF "_terms") : FnOk P w K mg base CX0 1 f fd ["self"] (spFT CF) := by
  refine F.ok scFt (fun vs H Q E h => ?_) (fun cdv A outer s H vs Q E hr h => ?_)
  · obtain ⟨o, dx, tt, a, g, rfl, _⟩ := h
    rfl
  · obtain ⟨o, dx, tt, a, g, rfl, ho, q⟩ := h
    exact ⟨_, pss_one (ps_ret (pe_fld (pv 0) rfl)), .ref o, rfl, o, CF, dx, _, .ref tt, rfl, ho, c, n, lkf_terms, q⟩
theorem scFg : FnScope ["self"] ["self"] (defScope sFoTarget) := ⟨rfl, rfl, rfl, by decide +kernel, rfl, by decide +kernel, by decide +kernel⟩
theorem ok_ftarget {f CF : Addr} {fd : FuncData} (F : Fun K "target" "Form.target" sFoTarget f fd) (c : Cls K CF) (n : NoAttr K CF "_target") : FnOk P w K mg base CX0 1 f fd ["self"] (spFG CF) := by
  refine F.ok scFg (fun vs H Q E h => ?_) (fun cdv A outer s H vs Q E hr h => ?_)
  · obtain ⟨o, dx, tt, a, g, rfl, _⟩ := h
    rfl
  · obtain ⟨o, dx, tt, a, g, rfl, ho, q⟩ := h
    exact ⟨_, pss_one (ps_ret (pe_fld (pv 0) rfl)), .ref o, rfl, o, CF, dx, _, .ref a, rfl, ho, c, n, lkf_target, q⟩
/-- what == says of two schemes -/
def eqSch (b b2 : Int) (ds ds2 : List Int) (ks ks2 : List (Addr × (Int × Int))) : Bool := decide (b = b2) && (PyData.eqv (.tuple (ds.map .int)) (.tuple (ds2.map .int)) && PyData.eqv (.tuple (ks.map fun p => pd2 p.2)) (.tuple (ks2.map fun p => pd2 p.2)))
theorem eqSch_self (b : Int) (ds : List Int) (ks : List (Addr × (Int × Int))) : eqSch b b ds ds ks ks = true := by
  unfold eqSch
  rw [decide_eq_true rfl, SeqAt.eqv_refl _ (SeqAt.canLay_of_shaped (ints_shapedT ds)), SeqAt.eqv_refl _ (SeqAt.canLay_of_shaped (bars_shaped ks))]
  rfl
theorem ints_inj : ∀ {ns ms : List Int}, ns.map V.int = ms.map V.int → ns = ms
  | [], [], _ => rfl
  | [], _ :: _, e => by cases e
  | _ :: _, [], e => by cases e
  | a :: l, b :: m, e => by
    rw [List.map_cons, List.map_cons, List.cons.injEq] at e
    rw [V.int.inj e.1, ints_inj e.2]
theorem bars_inj {H : Hp} : ∀ {ks ls : List (Addr × (Int × Int))}, (ks.map fun p => V.ref p.1) = (ls.map fun p => V.ref p.1) → (∀ p ∈ ks, H p.1 = some (.tup [.int p.2.1, .int p.2.2])) → (∀ p ∈ ls, H p.1 = some (.tup [.int p.2.1, .int p.2.2])) → ks = ls
  | [], [], _, _, _ => rfl
  | [], _ :: _, e, _, _ => by cases e
  | _ :: _, [], e, _, _ => by cases e
  | p :: l, q :: m, e, h1, h2 => by
    rw [List.map_cons, List.map_cons, List.cons.injEq] at e
    have e1 : p.1 = q.1 := V.ref.inj e.1
    have a1 := h1 p List.mem_cons_self
    have a2 := h2 q List.mem_cons_self
    rw [e1, a2] at a1
    simp only [Option.some.injEq, HO.tup.injEq, List.cons.injEq, V.int.injEq, and_true] at a1
    have : p = q := Prod.ext e1 (Prod.ext a1.1.symm a1.2.symm)
    rw [this, bars_inj e.2 (fun p hp => h1 p (List.mem_cons_of_mem _ hp)) fun p hp => h2 p (List.mem_cons_of_mem _ hp)]
theorem SchemeAt.det {C : Addr} {H : Hp} {a t r t2 r2 : Addr} {b b2 : Int} {ds ds2 : List Int} {ks ks2 : List (Addr × (Int × Int))} (h : SchemeAt C H a t r b ds ks) (h2 : SchemeAt C H a t2 r2 b2 ds2 ks2) : b = b2 ∧ ds = ds2 ∧ ks = ks2 := by
  obtain ⟨⟨dx, i⟩, d, m, e⟩ := h
  obtain ⟨⟨dx2, i2⟩, d2, m2, e2⟩ := h2
  rw [i] at i2
  simp only [Option.some.injEq, HO.ins.injEq, List.cons.injEq, Prod.mk.injEq, V.int.injEq, V.ref.injEq, and_true, true_and] at i2
  obtain ⟨_, rfl, rfl, rfl⟩ := i2
  rw [d] at d2
  rw [m] at m2
  refine ⟨rfl, ints_inj (HO.tup.inj (Option.some.inj d2)), bars_inj (HO.tup.inj (Option.some.inj m2)) e e2⟩
def eqT (z u : TD) : Bool := decide (z.f = u.f) && eqSch z.b u.b z.ds u.ds z.ks u.ks
def eqTs : List TD → List TD → Bool
  | [], [] => true
  | z :: l, u :: m => eqT z u && eqTs l m
  | _, _ => false
def eI (ts us : List TD) (i : Nat) : Bool := match ts[i]?, us[i]? with
  | some z, some u => eqT z u
  | _, _ => true
theorem eqTs_all : ∀ ts us : List TD, eqTs ts us = ((List.range (min ts.length us.length)).all (eI ts us) && decide (ts.length = us.length))
  | [], [] => rfl
  | [], _ :: _ => rfl
  | _ :: _, [] => rfl
  | z :: l, u :: m => by
    have e := eqTs_all l m
    have hm : min (z :: l).length (u :: m).length = min l.length m.length + 1 := by
      rw [List.length_cons, List.length_cons]
      omega
    rw [hm, List.range_succ_eq_map, List.all_cons, List.all_map]
    have h0 : eI (z :: l) (u :: m) 0 = eqT z u := rfl
    have hs : (eI (z :: l) (u :: m) ∘ Nat.succ) = eI l m := rfl
    have hl : decide ((z :: l).length = (u :: m).length) = decide (l.length = m.length) := by
      rw [decide_eq_decide, List.length_cons, List.length_cons]
      omega
    rw [h0, hs, hl, eqTs, e, Bool.and_assoc]
theorem TermAt.det {C : Addr} {H : Hp} {z u : TD} (h : TermAt C H z) (h2 : TermAt C H u) (e : z.p = u.p) : eqT z u = true := by
  have a1 := h.tup
  have a2 := h2.tup
  rw [e, a2] at a1
  simp only [Option.some.injEq, HO.tup.injEq, List.cons.injEq, V.int.injEq, V.ref.injEq, and_true] at a1
  have s1 := h.sch
  have s2 := h2.sch
  rw [a1.2] at s2
  obtain ⟨b, d, k⟩ := s1.det s2
  unfold eqT
  rw [a1.1, b, d, k, eqSch_self, decide_eq_true rfl]
  rfl
theorem TermAt.sdet {C : Addr} {H : Hp} {z u : TD} (h : TermAt C H z) (h2 : TermAt C H u) (e : z.s = u.s) : eqSch z.b u.b z.ds u.ds z.ks u.ks = true := by
  have s2 := h2.sch
  rw [← e] at s2
  obtain ⟨b, d, k⟩ := h.sch.det s2
  rw [b, d, k, eqSch_self]
theorem eqTs_self {C : Addr} {H : Hp} : ∀ {ts us : List TD}, ts.map tV = us.map tV → (∀ z ∈ ts, TermAt C H z) → (∀ z ∈ us, TermAt C H z) → eqTs ts us = true
  | [], [], _, _, _ => rfl
  | [], _ :: _, e, _, _ => by cases e
  | _ :: _, [], e, _, _ => by cases e
  | z :: l, u :: m, e, h1, h2 => by
    rw [List.map_cons, List.map_cons, List.cons.injEq] at e
    rw [eqTs, (h1 z List.mem_cons_self).det (h2 u List.mem_cons_self) (V.ref.inj e.1), eqTs_self e.2 (fun z hz => h1 z (List.mem_cons_of_mem _ hz)) fun z hz => h2 z (List.mem_cons_of_mem _ hz)]
    rfl
/-- the items of a term -/
def DIt (K : PySem.W.Frag) (C : Addr) : EqvB := fun x y b H => DFlatB x y b H ∨ DInsB C (spEqA K C) E0 x y b H
abbrev DTm (K : PySem.W.Frag) (C : Addr) : EqvB := DTupB K (DIt K C)
theorem term_D {C : Addr} {H : Hp} {z u : TD} (h : TermAt C H z) (h2 : TermAt C H u) : DTm K C (tV z) (tV u) (eqT z u) H := by
  obtain ⟨⟨dx, i⟩, d, m, e⟩ := id h.sch
  obtain ⟨⟨dx2, i2⟩, d2, m2, e2⟩ := id h2.sch
  refine ⟨z.p, u.p, _, _, fun k => if k = 0 then decide (z.f = u.f) else eqSch z.b u.b z.ds u.ds z.ks u.ks, rfl, rfl, SqT.of h.tup, SqT.of h2.tup, ⟨fun k x y hx hy => ?_⟩, fun e => h.det h2 e, ?_⟩
  · match k with
    | 0 =>
      cases hx
      cases hy
      refine .inl ⟨rfl, rfl, ?_⟩
      show eqV (.int z.f) (.int u.f) = decide (z.f = u.f)
      show (z.f == u.f) = _
      by_cases q : z.f = u.f
      · rw [decide_eq_true q, q]
        simp
      · rw [decide_eq_false q]
        simpa using q
    | 1 =>
      cases hx
      cases hy
      refine .inr ⟨z.s, u.s, dx, dx2, _, _, rfl, rfl, i, i2, fun e => h.sdet h2 e, ?_⟩
      exact .inl ⟨z.s, z.t, z.r, u.s, u.t, u.r, z.b, u.b, z.ds, u.ds, z.ks, u.ks, rfl, h.sch, h2.sch, h.few, h2.few, rfl, rfl⟩
    | k + 2 =>
      exfalso
      exact absurd hx (by simp)
  · show eqT z u = ((List.range 2).all _ && decide (2 = 2))
    rw [decide_eq_true rfl, Bool.and_true]
    show (decide (z.f = u.f) && eqSch z.b u.b z.ds u.ds z.ks u.ks) = (List.range 2).all _
    rw [show List.range 2 = [0, 1] from rfl]
    simp
theorem terms_P {C : Addr} {H : Hp} {ts us : List TD} (h1 : ∀ z ∈ ts, TermAt C H z) (h2 : ∀ z ∈ us, TermAt C H z) : PrsB (DTm K C) (ts.map tV) (us.map tV) (eI ts us) H := ⟨fun i x y hx hy => by
  rw [List.getElem?_map] at hx hy
  obtain ⟨z, hz, rfl⟩ := Option.map_eq_some_iff.mp hx
  obtain ⟨u, hu, rfl⟩ := Option.map_eq_some_iff.mp hy
  have e : eI ts us i = eqT z u := by
    unfold eI
    rw [hz, hu]
  rw [e]
  exact term_D (h1 z (List.mem_of_getElem? hz)) (h2 u (List.mem_of_getElem? hu))⟩
theorem terms_D {C : Addr} {H : Hp} {p q : Addr} {ts us : List TD} (e1 : H p = some (.tup (ts.map tV))) (e2 : H q = some (.tup (us.map tV))) (h1 : ∀ z ∈ ts, TermAt C H z) (h2 : ∀ z ∈ us, TermAt C H z) : DTupB K (DTm K C) (.ref p) (.ref q) (eqTs ts us) H :=
  ⟨p, q, _, _, eI ts us, rfl, rfl, SqT.of e1, SqT.of e2, terms_P h1 h2, fun e => eqTs_self (by rw [e, e2] at e1; exact (HO.tup.inj (Option.some.inj e1)).symm) h1 h2, by rw [eqTs_all, List.length_map, List.length_map]⟩
theorem eqB_terms {X : Cx} {fE C : Addr} {fdE : FuncData} (GE : FnOk X.prog X.w X.K X.mg X.base CX0 1 fE fdE ["self", "other"] (spEqA X.K C)) (mE : Meth X.K C "__eq__" fE) (bE : Binds X.K fdE ["self", "other"] []) : EqB X 2 (DTm X.K C) :=
  eqB_tup ((eqB_flat.mono (Nat.zero_le 1)).or (eqB_ins GE mE.at_ mE.fn bE pass0))
/-! ### == of forms -/
def spEqF (K : PySem.W.Frag) (CF C : Addr) : Sp := fun vs H Q _ => (∃ (o tt o2 tt2 : Addr) (ts us : List TD) (a t r a2 t2 r2 : Addr) (b b2 : Int) (ds ds2 : List Int) (ks ks2 : List (Addr × (Int × Int))), vs = [.ref o, .ref o2] ∧ FormAt CF C H o tt ts a t r b ds ks ∧ FormAt CF C H o2 tt2 us a2 t2 r2 b2 ds2 ks2 ∧ Q (.bl (eqTs ts us && eqSch b b2 ds ds2 ks ks2)) H) ∨
  ∃ (o : Addr) (x : V), vs = [.ref o, x] ∧ NotOf K CF H x ∧ Q (.bl false) H
theorem scFe : FnScope ["self", "other"] ["self", "other"] (defScope sFoEq) := ⟨rfl, rfl, rfl, by decide +kernel, rfl, by decide +kernel, by decide +kernel⟩
set_option maxHeartbeats 1000000 in
theorem ok_feq {f fE CF C : Addr} {fd fdE : FuncData} (F : Fun K "__eq__" "Form.__eq__" sFoEq f fd) (I : IsC K CF) (n1 : NoAttr K CF "_terms") (n2 : NoAttr K CF "_target") (gC : mg "Form" = some (.ref CF)) (mis : mg "isinstance" = none)
    (GE : FnOk P w K mg base CX0 1 fE fdE ["self", "other"] (spEqA K C)) (mE : Meth K C "__eq__" fE) (bE : Binds K fdE ["self", "other"] []) : FnOk P w K mg base CX0 5 f fd ["self", "other"] (spEqF K CF C) := by
  refine F.ok scFe (fun vs H Q E h => ?_) (fun cdv A outer s H vs Q E hr h => ?_)
  · rcases h with ⟨o, tt, o2, tt2, ts, us, a, t, r, a2, t2, r2, b, b2, ds, ds2, ks, ks2, rfl, _⟩ | ⟨o, x, rfl, _⟩
    · rfl
    · rfl
  · have hr1 : Room 1 _ := hr.mono (by decide)
    have hr3 : Room 3 _ := hr.mono (by decide)
    apply Exists.intro
    apply And.intro
    · apply pss_one
      · exact ps_ret (pe_and (pe_callB call_isi (by rfl) mis PyProof.Rows.boot_isinstance (pa_cons (pv 1) (pa_cons (pe_glob (v := .ref CF) (by rfl) gC rfl) pa_nil)))
          (pe_and (pe_cmpR (op_eqB (rcB_tup (eqB_terms (C := C) GE mE bE)) hr3) (pe_fld (pv 0) rfl) (pe_fld (pv 1) rfl) (nomark _)) (pe_one (pe_cmpR (op_eqB (rcB_ins GE mE.at_ mE.fn bE pass0) hr1) (pe_fld (pv 0) rfl) (pe_fld (pv 1) rfl) (nomark _)))))
    rcases h with ⟨o, tt, o2, tt2, ts, us, a, t, r, a2, t2, r2, b, b2, ds, ds2, ks, ks2, rfl, A1, A2, q⟩ | ⟨o, x, rfl, ⟨ty, tyx, k⟩, q⟩
    case' inr => exact ⟨x, rfl, x, .ref CF, ty, .ref CF, false, rfl, .own CF, tyx, k, false, rfl, iteF q⟩
    obtain ⟨⟨dx, g, i⟩, m, e, S, fw, _⟩ := A1
    obtain ⟨⟨dx2, g2, i2⟩, m2, e2, S2, fw2, _⟩ := A2
    refine ⟨.ref o2, rfl, .ref o2, .ref CF, .ref CF, .ref CF, true, rfl, .own CF, .base (.ins i2 I.cl I.ha I.hn I.ht I.hm), I.own, true, rfl, iteT ?_⟩
    refine ⟨.ref o, rfl, o, CF, dx, _, .ref tt, rfl, i, I.cl, n1, lkf_terms, .ref o2, rfl, o2, CF, dx2, _, .ref tt2, rfl, i2, I.cl, n1, lkf_terms, _, terms_D m m2 e e2, _, rfl, ?_⟩
    refine iteAnd (fun z => ?_) q
    obtain ⟨⟨dy, j⟩, _⟩ := id S
    obtain ⟨⟨dy2, j2⟩, _⟩ := id S2
    refine ⟨.ref o, rfl, o, CF, dx, _, .ref a, rfl, i, I.cl, n2, lkf_target, .ref o2, rfl, o2, CF, dx2, _, .ref a2, rfl, i2, I.cl, n2, lkf_target, eqSch b b2 ds ds2 ks ks2, ?_, z⟩
    refine ⟨a, a2, dy, dy2, _, _, rfl, rfl, j, j2, fun e => ?_, .inl ⟨a, t, r, a2, t2, r2, b, b2, ds, ds2, ks, ks2, rfl, S, S2, fw, fw2, rfl, rfl⟩⟩
    subst e
    obtain ⟨rfl, rfl, rfl⟩ := S.det S2
    exact eqSch_self _ _ _
end
end K31
set_option maxHeartbeats 1000000
/-! zip of two tuples, walked by one name: what it hands out may stay alive. -/
namespace OF
open PySem RZ
/-! ### what a step leaves as it was -/
def Fr (L : List Addr) (h h' : Heap) : Prop := h'.objs.size = h.objs.size ∧ ∀ c, c ∉ L → h'.get? c = h.get? c
theorem Fr.of {a : Addr} {h h' : Heap} (s : Heap.SameBut a h h') : Fr [a] h h' := ⟨s.1, fun c hc => s.2 c fun e => hc (by rw [e]; exact List.mem_singleton.mpr rfl)⟩
theorem Fr.trans {L M : List Addr} {h h' h'' : Heap} (x : Fr L h h') (y : Fr M h' h'') : Fr (L ++ M) h h'' :=
  ⟨y.1.trans x.1, fun c hc => (y.2 c fun e => hc (List.mem_append_right _ e)).trans (x.2 c fun e => hc (List.mem_append_left _ e))⟩
theorem Fr.iter {L : List Addr} {h h' : Heap} {i l : Addr} {k : Nat} (x : Fr L h h') (hc : i ∉ L) (hi : h.IsTupleIter i l k) : h'.IsTupleIter i l k := hi.at fun o e => (x.2 i hc).trans e
theorem Fr.tup {L : List Addr} {h h' : Heap} {l : Addr} {xs : Array Value} (x : Fr L h h') (hc : l ∉ L) (hl : h.IsTuple l xs) : h'.IsTuple l xs := by
  obtain ⟨o, e, r⟩ := hl
  exact ⟨o, (x.2 l hc).trans e, r⟩
/-! ### a zip at a turn -/
def zipO (f0 f1 : Value) (TI TO : Addr) : Obj := { cls := .type "zip", dict := none, data := .fields #[f0, f1, .bool false, .ref TI, .ref TO], slots := #[] }
def Last (v : Value) : Prop := v = .none ∨ ∃ n t, v = .int n t
structure ZipAt (z TI TO i1 i2 l1 l2 : Addr) (k : Nat) (h : Heap) : Prop where
  zp : ∃ f0 f1, Last f0 ∧ h.get? z = some (zipO f0 f1 TI TO)
  ti : IsPair h TI (.ref i1) (.ref i2)
  to : ∃ a b, IsPair h TO a b
  w1 : h.IsTupleIter i1 l1 k
  w2 : h.IsTupleIter i2 l2 k
section
variable {prog : Program} {w : World} {A : Around} {E : Value → Shared → Prop} {s : Shared} {z TI TO i1 i2 l1 l2 : Addr} {k : Nat}
theorem ZipAt.keep {h h' : Heap} (st : ZipAt z TI TO i1 i2 l1 l2 k h) (same : ∀ c ∈ [z, TI, TO, i1, i2], ∀ o, h.get? c = some o → h'.get? c = some o) : ZipAt z TI TO i1 i2 l1 l2 k h' := by
  obtain ⟨⟨f0, f1, l, e⟩, t, ⟨a, b, o⟩, w1, w2⟩ := st
  exact ⟨⟨f0, f1, l, same z (by simp) _ e⟩, same TI (by simp) _ t, ⟨a, b, same TO (by simp) _ o⟩, w1.at fun o e => same i1 (by simp) o e, w2.at fun o e => same i2 (by simp) o e⟩
theorem ZipAt.there {h : Heap} (st : ZipAt z TI TO i1 i2 l1 l2 k h) : ∀ c ∈ [z, TI, TO, i1, i2], ∃ o, h.get? c = some o ∧ ∀ v, o.data ≠ .cell v := by
  obtain ⟨⟨f0, f1, l, e⟩, t, ⟨a, b, o⟩, ⟨o1, e1, _, d1⟩, ⟨o2, e2, _, d2⟩⟩ := st
  intro c hc
  simp only [List.mem_cons, List.not_mem_nil, or_false] at hc
  rcases hc with rfl | rfl | rfl | rfl | rfl
  · exact ⟨_, e, fun v q => nomatch q⟩
  · exact ⟨_, t, fun v q => nomatch q⟩
  · exact ⟨_, o, fun v q => nomatch q⟩
  · exact ⟨o1, e1, fun v q => by rw [d1] at q; cases q⟩
  · exact ⟨o2, e2, fun v q => by rw [d2] at q; cases q⟩
theorem alive {a : Addr} {Q : Option Obj → Shared → Prop} (h : Q (s.heap.get? a) s) : wpAny (model prog w) A (loadIfAlive a) Q E s := fun _ _ _ => by
  unfold loadIfAlive
  rw [Sem.wp_loadIfAlive]
  simpa using h
/-- one field of the zip is set -/
theorem put {f0 f1 v : Value} {j : Nat} {Q : Unit → Shared → Prop} (e : s.heap.get? z = some (zipO f0 f1 TI TO)) (hj : j < 5) (q : ∀ h', h'.get? z = some { cls := .type "zip", dict := none, data := .fields ((#[f0, f1, .bool false, .ref TI, .ref TO] : Array Value).setIfInBounds j v), slots := #[] } → Fr [z] s.heap h' → Q () { s with heap := h' }) :
    wpAny (model prog w) A (setField (.ref z) j v) Q E s := wpAny_setField_rec e (by simpa using hj) fun h' e' b => q h' e' (.of b)
/-- is the pair handed out last still alive? -/
theorem last_free {f0 f1 : Value} {Q : Bool → Shared → Prop} (e : s.heap.get? z = some (zipO f0 f1 TI TO)) (l : Last f0) (qt : Q true s) (qf : ∀ h' f1', h'.get? z = some (zipO f0 f1' TI TO) → Fr [z] s.heap h' → Q false { s with heap := h' }) :
    wpAny (model prog w) A (Builtin.SmallTypes.ownedTupleIsFree (.ref z)) Q E s := by
  unfold Builtin.SmallTypes.ownedTupleIsFree
  refine wpAny_bind (wpAny_field e rfl (x := f0) rfl ?_)
  rcases l with rfl | ⟨n, t, rfl⟩
  · exact wpAny_pure qt
  · refine wpAny_bind (alive ?_)
    cases s.heap.get? n.toNat with
    | none => exact wpAny_pure qt
    | some o =>
      show wpAny _ _ (field (.ref z) 1 >>= _) _ _ s
      refine wpAny_bind (wpAny_field e rfl (x := f1) rfl ?_)
      show wpAny _ _ (if (f1 != .bool true) = true then _ else _) _ _ s
      by_cases h : (f1 != .bool true) = true
      · rw [if_pos h]
        exact wpAny_bind (put e (by decide) fun h' e' r => wpAny_pure (qf h' _ e' r))
      · rw [if_neg h]
        exact wpAny_bind (wpAny_pure (wpAny_pure (qf s.heap f1 e ⟨rfl, fun _ _ => rfl⟩)))
/-- the next item of a walk, what else stays -/
theorem item {it l : Addr} {xs : Array Value} {x : Value} {Q : Value → Shared → Prop} (hi : s.heap.IsTupleIter it l k) (hl : s.heap.IsTuple l xs) (hx : xs[k]? = some x) (q : ∀ h', Fr [it] s.heap h' → h'.IsTupleIter it l (k + 1) → Q x { s with heap := h' }) :
    wpAny (model prog w) A (Builtin.SmallTypes.nextOf (.ref it)) Q E s := nextOf_tuple_item hi hl hx fun h' a b => q h' (.of b) a
/-- a place of the kept pair is filled -/
theorem fill {a b x : Value} {j : Nat} {Q : Unit → Shared → Prop} (e : IsPair s.heap TO a b) (hj : j < 2) (q : ∀ h' a' b', IsPair h' TO a' b' → (a' = if j = 0 then x else a) → (b' = if j = 0 then b else x) → Fr [TO] s.heap h' → Q () { s with heap := h' }) :
    wpAny (model prog w) A (updateSeq TO (·.setIfInBounds j x)) Q E s := wpAny_updateSeq_pair e fun h' e' r => by
  match j, hj with
  | 0, _ => exact q h' x b e' rfl rfl (.of r)
  | 1, _ => exact q h' a x e' rfl rfl (.of r)
/-- what a turn gives: a new pair, all but the zip's own as it was -/
structure Gave (s : Shared) (z TI TO i1 i2 l1 l2 : Addr) (k : Nat) (x y : Value) (h' : Heap) : Prop where
  st : ZipAt z TI TO i1 i2 l1 l2 (k + 1) h'
  new : IsPair h' s.heap.objs.size x y
  fr : ∀ c o, c ∉ [z, TO, i1, i2] → s.heap.get? c = some o → h'.get? c = some o
theorem gives {xs ys : Array Value} {x y : Value} {Q : Value → Shared → Prop} (D : ZipApart z TI TO i1 i2 l1 l2) (st : ZipAt z TI TO i1 i2 l1 l2 k s.heap)
    (hl1 : s.heap.IsTuple l1 xs) (hl2 : s.heap.IsTuple l2 ys) (hx : xs[k]? = some x) (hy : ys[k]? = some y) (q : ∀ h', Gave s z TI TO i1 i2 l1 l2 k x y h' → Q (.ref s.heap.objs.size) { s with heap := h' }) :
    wpAny (model prog w) A (Builtin.«zip.__next__» ⟨[.ref z], []⟩) (fun fin s' => ∃ v, fin = .done (.ret v) ∧ Q v s') E s := by
  obtain ⟨⟨f0, f1, l, ez⟩, eI, ⟨a, b, eO⟩, w1, w2⟩ := st
  have zs := Heap.lt_size ez
  refine wpAny_bind (m := field (.ref z) 2) (wpAny_field ez rfl (x := .bool false) rfl (wpAny_bind (m := field (.ref z) 3) (wpAny_field ez rfl (x := .ref TI) rfl (wpAny_bind (wpAny_seqItems eI rfl ?_)))))
  refine wpAny_bind (m := Builtin.SmallTypes.ownedTupleIsFree (.ref z)) (last_free ez l ?_ fun h1 f1' ez1 r1 => ?_)
  · -- the kept pair is filled and handed out anew
    rw [if_pos rfl]
    refine wpAny_bind (wpAny_rule (wpAny_bind (wpAny_field ez rfl (x := .ref TO) rfl (wpAny_bind (put ez (by decide) fun h1 ez1 r1 => wpAny_bind ?_)))))
    simp only [List.zipIdx_cons, List.zipIdx_nil, List.forIn_cons, List.forIn_nil]
    refine wpAny_bind (wpAny_bind (wpAny_onRaise ?_))
    refine wpAny_bind (m := Builtin.SmallTypes.nextOf (.ref i1)) (item (r1.iter (by simp [D.i1z]) w1) (r1.tup (by simp [D.l1z]) hl1) hx fun h2 r2 w1' => wpAny_pure ?_)
    have r12 := r1.trans r2
    have eO2 : IsPair h2 TO a b := (r12.2 TO (by simp [D.TOz, D.TOi1])).trans eO
    refine wpAny_bind (wpAny_seqItems eO2 rfl (wpAny_bind (fill eO2 (by decide) fun h3 a' b' eO3 ea eb r3 => wpAny_bind (wpAny_letGo (wpAny_pure ?_)))))
    subst ea eb
    have r13 := r12.trans r3
    refine wpAny_bind (wpAny_bind (wpAny_onRaise ?_))
    refine wpAny_bind (m := Builtin.SmallTypes.nextOf (.ref i2)) (item (r13.iter (by simp [D.i2z, D.i12.symm, D.TOi2.symm]) w2) (r13.tup (by simp [D.l2z, D.l2i1, D.l2TO]) hl2) hy fun h4 r4 w2' => wpAny_pure ?_)
    have eO4 := (r4.2 TO (by simp [D.TOi2])).trans eO3
    refine wpAny_bind (wpAny_seqItems eO4 rfl (wpAny_bind (fill eO4 (by decide) fun h5 a' b' eO5 ea eb r5 => wpAny_bind (wpAny_letGo (wpAny_pure (wpAny_pure ?_))))))
    subst ea eb
    have r15 := (r13.trans r4).trans r5
    have r25 := ((r2.trans r3).trans r4).trans r5
    refine wpAny_bind (wpAny_seqItems eO5 rfl (wpAny_bind (wpAny_newTuple ?_)))
    have ez5 : h5.get? z = some (zipO .ellipsis f1 TI TO) := (r25.2 z (by simp [D.TOz.symm, D.i1z.symm, D.i2z.symm])).trans ez1
    have z5 : h5.objs.size = s.heap.objs.size := r15.1
    refine wpAny_bind (m := Builtin.SmallTypes.ownedTupleHandOut (.ref z) (.ref h5.objs.size)) ?_
    unfold Builtin.SmallTypes.ownedTupleHandOut
    refine wpAny_bind (put (Heap.get?_push_of_some _ ez5) (by decide) fun h6 ez6 r6 => put (f0 := rawInt h5.objs.size) (f1 := f1) ez6 (by decide) fun h7 ez7 r7 => wpAny_pure ⟨_, rfl, ?_⟩)
    show Q (.ref h5.objs.size) { s with heap := h7 }
    have r67 := r6.trans r7
    have up : ∀ c o, c ≠ z → h5.get? c = some o → h7.get? c = some o := fun c o n e => (r67.2 c (by simp [n])).trans (Heap.get?_push_of_some _ e)
    rw [z5] at ez7 ⊢
    refine q h7 ⟨⟨⟨_, _, .inr ⟨_, _, rfl⟩, ez7⟩, up _ _ D.TIz ((r15.2 TI (by simp [D.TIz, D.TIi1, D.TITO, D.TIi2])).trans eI), ⟨_, _, up _ _ D.TOz eO5⟩, ?_, ?_⟩, ?_, fun c o hc e => ?_⟩
    · exact ((((r3.trans r4).trans r5).iter (by simp [D.TOi1.symm, D.i12]) w1')).at fun o e => up _ o D.i1z e
    · exact (r5.iter (by simp [D.TOi2.symm]) w2').at fun o e => up _ o D.i2z e
    · rw [← z5]
      refine (r67.2 _ fun e => ?_).trans (Heap.get?_push_size _ rfl)
      have e2 : h5.objs.size = z := by simpa using e
      rw [← z5, e2] at zs
      exact Nat.lt_irrefl _ zs
    · simp only [List.mem_cons, List.not_mem_nil, or_false, not_or] at hc
      exact up c o hc.1 ((r15.2 c (by simp [hc])).trans e)
  · -- a pair of its own
    rw [if_neg Bool.false_ne_true]
    refine wpAny_bind ?_
    rw [← Array.forIn_toList]
    simp only [List.forIn_cons, List.forIn_nil]
    refine wpAny_bind (wpAny_bind (wpAny_holding ?_))
    refine wpAny_bind (m := Builtin.SmallTypes.nextOf (.ref i1)) (item (r1.iter (by simp [D.i1z]) w1) (r1.tup (by simp [D.l1z]) hl1) hx fun h2 r2 w1' => wpAny_pure (wpAny_pure ?_))
    have r12 := r1.trans r2
    refine wpAny_bind (wpAny_bind (wpAny_holding ?_))
    refine wpAny_bind (m := Builtin.SmallTypes.nextOf (.ref i2)) (item (r12.iter (by simp [D.i2z, D.i12.symm]) w2) (r12.tup (by simp [D.l2z, D.l2i1]) hl2) hy fun h3 r3 w2' => wpAny_pure (wpAny_pure (wpAny_pure ?_)))
    have r13 := r12.trans r3
    have r23 := r2.trans r3
    have z3 : h3.objs.size = s.heap.objs.size := r13.1
    refine wpAny_bind (wpAny_newTuple ?_ (by show 2 ≤ sizeLine; decide))
    refine wpAny_pure ⟨_, rfl, ?_⟩
    show Q (.ref h3.objs.size) { s with heap := h3.push { cls := .type "tuple", data := .seq #[x, y] } }
    have up : ∀ c o, h3.get? c = some o → (h3.push { cls := .type "tuple", data := .seq #[x, y] }).get? c = some o := fun c o e => Heap.get?_push_of_some _ e
    rw [z3]
    refine q _ ⟨⟨⟨f0, f1', l, up _ _ ((r23.2 z (by simp [D.i1z.symm, D.i2z.symm])).trans ez1)⟩, up _ _ ((r13.2 TI (by simp [D.TIz, D.TIi1, D.TIi2])).trans eI), ⟨a, b, up _ _ ((r13.2 TO (by simp [D.TOz, D.TOi1, D.TOi2])).trans eO)⟩, (r3.iter (by simp [D.i12]) w1').at fun o e => up _ o e, w2'.at fun o e => up _ o e⟩, ?_, fun c o hc e => ?_⟩
    · rw [← z3]
      exact Heap.get?_push_size _ rfl
    · simp only [List.mem_cons, List.not_mem_nil, or_false, not_or] at hc
      exact up c o ((r13.2 c (by simp [hc])).trans e)
theorem ends {xs ys : Array Value} {Q : Fin → Shared → Prop} (hh : A.handled = none) (D : ZipApart z TI TO i1 i2 l1 l2) (st : ZipAt z TI TO i1 i2 l1 l2 k s.heap)
    (hl1 : s.heap.IsTuple l1 xs) (hl2 : s.heap.IsTuple l2 ys) (over : xs[k]? = none ∨ ys[k]? = none) (q : ∀ h' e, (∀ c o, c ∉ [z, TO, i1, i2] → s.heap.get? c = some o → h'.get? c = some o) → (∃ o, h'.get? e = some o ∧ o.cls = .type "StopIteration") → E (.ref e) { s with heap := h' }) :
    wpAny (model prog w) A (Builtin.«zip.__next__» ⟨[.ref z], []⟩) Q E s := by
  obtain ⟨⟨f0, f1, l, ez⟩, eI, ⟨a, b, eO⟩, w1, w2⟩ := st
  refine wpAny_bind (m := field (.ref z) 2) (wpAny_field ez rfl (x := .bool false) rfl (wpAny_bind (m := field (.ref z) 3) (wpAny_field ez rfl (x := .ref TI) rfl (wpAny_bind (wpAny_seqItems eI rfl ?_)))))
  have kind : ∀ {h : Heap} {e : Addr} {f g : Value}, h.get? z = some (zipO f g TI TO) → (∃ o, h.get? e = some o ∧ o.cls = .type "StopIteration") → e ≠ z := fun ez he x => by
    obtain ⟨o, ho, hc⟩ := he
    rw [x, ez] at ho
    cases ho
    have hc : Value.type "zip" = Value.type "StopIteration" := hc
    exact absurd (Value.type.inj hc) (by decide)
  refine wpAny_bind (m := Builtin.SmallTypes.ownedTupleIsFree (.ref z)) (last_free ez l ?_ fun h1 f1' ez1 r1 => ?_)
  · rw [if_pos rfl]
    refine wpAny_bind (wpAny_rule (wpAny_bind (wpAny_field ez rfl (x := .ref TO) rfl (wpAny_bind (put ez (by decide) fun h1 ez1 r1 => wpAny_bind ?_)))))
    simp only [List.zipIdx_cons, List.zipIdx_nil, List.forIn_cons, List.forIn_nil]
    refine wpAny_bind (wpAny_bind (wpAny_onRaise ?_))
    cases hx : xs[k]? with
    | none =>
      refine wpAny_bind (m := Builtin.SmallTypes.nextOf (.ref i1)) (nextOf_tuple_end hh (r1.iter (by simp [D.i1z]) w1) (r1.tup (by simp [D.l1z]) hl1) hx fun h2 e x2 he => ?_)
      have ez2 := x2 z _ D.i1z.symm ez1
      refine put (f0 := .ellipsis) (f1 := f1) ez2 (by decide) fun h3 _ r3 => q h3 e (fun c o hc g => ?_) ?_
      · simp only [List.mem_cons, List.not_mem_nil, or_false, not_or] at hc
        exact (r3.2 c (by simp [hc])).trans (x2 c o hc.2.2.1 ((r1.2 c (by simp [hc])).trans g))
      · obtain ⟨o, ho, hc⟩ := he
        exact ⟨o, (r3.2 e (by simpa using kind ez2 ⟨o, ho, hc⟩)).trans ho, hc⟩
    | some x =>
      have hy : ys[k]? = none := over.resolve_left (by rw [hx]; exact fun e => nomatch e)
      refine wpAny_bind (m := Builtin.SmallTypes.nextOf (.ref i1)) (item (r1.iter (by simp [D.i1z]) w1) (r1.tup (by simp [D.l1z]) hl1) hx fun h2 r2 w1' => wpAny_pure ?_)
      have r12 := r1.trans r2
      have eO2 : IsPair h2 TO a b := (r12.2 TO (by simp [D.TOz, D.TOi1])).trans eO
      refine wpAny_bind (wpAny_seqItems eO2 rfl (wpAny_bind (fill eO2 (by decide) fun h3 a' b' eO3 ea eb r3 => wpAny_bind (wpAny_letGo (wpAny_pure ?_)))))
      have r13 := r12.trans r3
      refine wpAny_bind (wpAny_bind (wpAny_onRaise ?_))
      refine wpAny_bind (m := Builtin.SmallTypes.nextOf (.ref i2)) (nextOf_tuple_end hh (r13.iter (by simp [D.i2z, D.i12.symm, D.TOi2.symm]) w2) (r13.tup (by simp [D.l2z, D.l2i1, D.l2TO]) hl2) hy fun h4 e x4 he => ?_)
      have ez4 := x4 z _ D.i2z.symm (((r2.trans r3).2 z (by simp [D.TOz.symm, D.i1z.symm])).trans ez1)
      refine put (f0 := .ellipsis) (f1 := f1) ez4 (by decide) fun h5 _ r5 => q h5 e (fun c o hc g => ?_) ?_
      · simp only [List.mem_cons, List.not_mem_nil, or_false, not_or] at hc
        exact (r5.2 c (by simp [hc])).trans (x4 c o hc.2.2.2 ((r13.2 c (by simp [hc])).trans g))
      · obtain ⟨o, ho, hc⟩ := he
        exact ⟨o, (r5.2 e (by simpa using kind ez4 ⟨o, ho, hc⟩)).trans ho, hc⟩
  · rw [if_neg Bool.false_ne_true]
    refine wpAny_bind ?_
    rw [← Array.forIn_toList]
    simp only [List.forIn_cons, List.forIn_nil]
    refine wpAny_bind (wpAny_bind (wpAny_holding ?_))
    cases hx : xs[k]? with
    | none =>
      refine wpAny_bind (m := Builtin.SmallTypes.nextOf (.ref i1)) (nextOf_tuple_end hh (r1.iter (by simp [D.i1z]) w1) (r1.tup (by simp [D.l1z]) hl1) hx fun h2 e x2 he => q h2 e (fun c o hc g => ?_) he)
      simp only [List.mem_cons, List.not_mem_nil, or_false, not_or] at hc
      exact x2 c o hc.2.2.1 ((r1.2 c (by simp [hc])).trans g)
    | some x =>
      have hy : ys[k]? = none := over.resolve_left (by rw [hx]; exact fun e => nomatch e)
      refine wpAny_bind (m := Builtin.SmallTypes.nextOf (.ref i1)) (item (r1.iter (by simp [D.i1z]) w1) (r1.tup (by simp [D.l1z]) hl1) hx fun h2 r2 w1' => wpAny_pure (wpAny_pure ?_))
      have r12 := r1.trans r2
      refine wpAny_bind (wpAny_bind (wpAny_holding ?_))
      refine wpAny_bind (m := Builtin.SmallTypes.nextOf (.ref i2)) (nextOf_tuple_end hh (r12.iter (by simp [D.i2z, D.i12.symm]) w2) (r12.tup (by simp [D.l2z, D.l2i1]) hl2) hy fun h3 e x3 he => q h3 e (fun c o hc g => ?_) he)
      simp only [List.mem_cons, List.not_mem_nil, or_false, not_or] at hc
      exact x3 c o hc.2.2.2 ((r12.2 c (by simp [hc])).trans g)
theorem ZipAt.kind {h : Heap} (st : ZipAt z TI TO i1 i2 l1 l2 k h) : ∃ o, h.get? z = some o ∧ o.cls = .type "zip" := by
  obtain ⟨⟨f0, f1, _, e⟩, _⟩ := st
  exact ⟨_, e, rfl⟩
/-- next(..), behind it what the loop reads -/
theorem next_gives {xs ys : Array Value} {x y : Value} {Q : Option Value → Shared → Prop} (D : ZipApart z TI TO i1 i2 l1 l2) (st : ZipAt z TI TO i1 i2 l1 l2 k s.heap)
    (hl1 : s.heap.IsTuple l1 xs) (hl2 : s.heap.IsTuple l2 ys) (hx : xs[k]? = some x) (hy : ys[k]? = some y) (q : ∀ h', Gave s z TI TO i1 i2 l1 l2 k x y h' → Q (some (.ref s.heap.objs.size)) { s with heap := h' }) :
    wpAny (model prog w) A (pyNext (.ref z)) Q E s := by
  unfold pyNext
  refine wpAny_bind (wpAny_attempt (wpAny_callSpecial?_slot (name := Str.ofString "__next__") st.kind F.slot_zip_next (wpAny_call_entry F.slot_zip_next st.kind F.entry_zip_next ?_ (F.args_zip_next_1 _))))
  exact gives D st hl1 hl2 hx hy fun h' g => wpAny_pure (q h' g)
theorem next_ends {xs ys : Array Value} {Q : Option Value → Shared → Prop} (hh : A.handled = none) (D : ZipApart z TI TO i1 i2 l1 l2) (st : ZipAt z TI TO i1 i2 l1 l2 k s.heap)
    (hl1 : s.heap.IsTuple l1 xs) (hl2 : s.heap.IsTuple l2 ys) (over : xs[k]? = none ∨ ys[k]? = none) (q : ∀ h', (∀ c o, c ∉ [z, TO, i1, i2] → s.heap.get? c = some o → h'.get? c = some o) → Q none { s with heap := h' }) :
    wpAny (model prog w) A (pyNext (.ref z)) Q E s := by
  unfold pyNext
  refine wpAny_bind (wpAny_attempt (wpAny_callSpecial?_slot (name := Str.ofString "__next__") st.kind F.slot_zip_next (wpAny_call_entry F.slot_zip_next st.kind F.entry_zip_next ?_ (F.args_zip_next_1 _))))
  refine ends hh D st hl1 hl2 over fun h' e keep he => ?_
  exact wpAny_bind (wpAny_isInstance (T := "StopIteration") (b := true) he isSubtype_stop (wpAny_pure (q h' keep)))
end
section
open PySem.Spec PyProof.Rows L2
/-- the walk, by one name -/
theorem walksN {P : Program} {w : World} {K : PySem.W.Frag} {nm : Str} {tpos : Pos} {a b z TI TO i1 i2 : Addr} (D : ZipApart z TI TO i1 i2 a b) : Turn P w K (.Name nm tpos) (ItzT K a b) [z, TI, TO, i1, i2] z (ZipAt z TI TO i1 i2 a b) where
  mem := List.mem_cons_self
  obj := fun _ _ st => st.there
  keep := fun _ _ _ st => st.keep
  self := fun _ _ _ _ _ st h => by
    refine wpAny_pyIter_slot st.kind F.slot_zip_iter (wpAny_call_entry F.slot_zip_iter st.kind F.entry_zip_iter ?_ (F.args_zip_iter_1 _))
    exact wpAny_pure ⟨_, rfl, "zip", _, st.kind, F.slot_zip_next.lookup, h⟩
  item := fun X hP hw hK hc i pins s σ H E I free st hg => by
    subst hP hw hK
    obtain ⟨xs, ys, x, y, sx, sy, hx, hy⟩ := hg
    obtain ⟨us, ru, px, _⟩ := I.tuple sx
    obtain ⟨vs, rv, py, _⟩ := I.tuple sy
    obtain ⟨u, hu, xu⟩ := ru.get hx
    obtain ⟨v, hv, yv⟩ := rv.get hy
    refine next_gives D st px py (x := u) (y := v) (by simpa using hu) (by simpa using hv) fun h' g => ⟨_, rfl, wpAny_pure ?_⟩
    have low : ∀ c ∈ [z, TI, TO, i1, i2], c < s.heap.objs.size := fun c hc => by
      obtain ⟨o, e, _⟩ := st.there c hc
      exact Heap.lt_size e
    have J : Inv X pins σ (upd H s.heap.objs.size (.tup [x, y])) { s with heap := h' } := by
      refine I.turnedNew (t' := s.toks) (ch := [z, TI, TO, i1, i2]) (fun c o n e => g.fr c o (fun m => n ?_) e) free (Nat.le_refl _) ⟨(by show 2 ≤ sizeLine; decide), [u, v], .cons xu (.cons yv .nil), ⟨_, g.new, rfl, _, rfl⟩⟩
      simp only [List.mem_cons, List.not_mem_nil, or_false] at m ⊢
      rcases m with m | m | m | m
      · exact .inl m
      · exact .inr (.inr (.inl m))
      · exact .inr (.inr (.inr (.inl m)))
      · exact .inr (.inr (.inr (.inr m)))
    refine ⟨.ref s.heap.objs.size, _, J, rfl, ⟨_, x, y, rfl, I.hok.fresh (Nat.le_refl _), rfl, fun l hl => ?_, fun l hl => ?_⟩, g.st, fun c hc => ?_⟩
    · rw [I.tuple_inj hl sx]
      exact hx
    · rw [I.tuple_inj hl sy]
      exact hy
    · rw [upd_ne (Nat.ne_of_lt (low c hc))]
      exact (free c hc).1
  done := fun X hP hw hK hc i pins s σ H E I free st hg => by
    subst hP hw hK
    obtain ⟨xs, ys, sx, sy, over⟩ := hg
    obtain ⟨us, ru, px, _⟩ := I.tuple sx
    obtain ⟨vs, rv, py, _⟩ := I.tuple sy
    have n1 := ru.length
    have n2 := rv.length
    have none_ : us.toArray[i]? = none ∨ vs.toArray[i]? = none := by
      rcases over with h | h
      · exact .inl (by simp; omega)
      · exact .inr (by simp; omega)
    refine next_ends (I.ok.hd hc) D st px py none_ fun h' keep => ⟨rfl, I.turnedL (t' := s.toks) (ch := [z, TI, TO, i1, i2]) (fun c o n e => keep c o (fun m => n ?_) e) free⟩
    simp only [List.mem_cons, List.not_mem_nil, or_false] at m ⊢
    rcases m with m | m | m | m
    · exact .inl m
    · exact .inr (.inr (.inl m))
    · exact .inr (.inr (.inr (.inl m)))
    · exact .inr (.inr (.inr (.inr m)))
/-- zip of two tuples, walked by one name -/
def iZipN (K : PySem.W.Frag) (ta : TA) : TI := fun σ H R => ta σ H fun vs H1 => ∃ a b xs ys, vs = [.ref a, .ref b] ∧ SqT K H1 a xs ∧ SqT K H1 b ys ∧ R (ItzT K a b) H1
theorem pi_zipN {X : Cx} {e e2 : Expr} {ta : TA} {p pos tpos : Pos} {nm : Str} (hg : Gl X "zip") (hm : X.mg "zip" = none) (ha : PA X [e, e2] ta)
    (hs : starEach [e, e2] X.env = (false, eval e X.env) :: starEach [e2] X.env := by rfl) (hpl : (backTo pos (starEach [e2] X.env)).any (·.1) = false := by rfl) : PI X (.Name nm tpos) (.Call (.Name "zip" p) [e, e2] [] pos) (iZipN X.K ta) where
  run := fun pins s σ H R I h => by
    refine Call_ (ld_blt I hg hm PyProof.Rows.boot_zip (PyProof.Rows.callWith_type1 (thn (ha.run pos pins s σ H _ I h) fun us s1 q => ?_) hs hpl))
    obtain ⟨_, H1, J, rel, a, b, xs, ys, rfl, sx, sy, goal⟩ := q
    obtain ⟨u, v, rfl, ru, rv⟩ := vals2 rel
    cases ru
    cases rv
    obtain ⟨us, _, px, _⟩ := J.tuple sx
    obtain ⟨vs, _, py, _⟩ := J.tuple sy
    obtain ⟨_, ea, _⟩ := id px
    obtain ⟨_, eb, _⟩ := id py
    generalize hN : s1.heap.objs.size = N at *
    have free : ∀ c ∈ [N + 4, N + 2, N + 3, N, N + 1], FpOk X pins H1 c := fun c hc => by
      have ge : s1.heap.objs.size ≤ c := by
        simp only [List.mem_cons, List.not_mem_nil, or_false] at hc
        rw [hN]
        rcases hc with e | e | e | e | e <;> rw [e]
        exact Nat.le_add_right _ _
        exact Nat.le_add_right _ _
        exact Nat.le_add_right _ _
        exact Nat.le_refl _
        exact Nat.le_add_right _ _
      exact J.fpOk ge (J.hok.fresh ge)
    refine call_zipT px py fun h' ez eI eO w1 w2 _ keep => ?_
    rw [hN] at ez eI eO w1 w2 ⊢
    have st : ZipAt (N + 4) (N + 2) (N + 3) N (N + 1) a b 0 h' := ⟨⟨.none, .bool false, .inl rfl, ez⟩, eI, ⟨_, _, eO⟩, w1, w2⟩
    have D : ZipApart (N + 4) (N + 2) (N + 3) N (N + 1) a b := by
      rw [← hN]
      exact PySem.W.ktu_apart s1.heap.objs.size a b (Heap.lt_size ea) (Heap.lt_size eb)
    exact (walksN (K := X.K) (nm := nm) (tpos := tpos) D).self _ 0 { s1 with heap := h' } _ _ st ⟨N + 4, _, _, _, H1, rfl, J.kept (t' := s1.toks) keep, walksN D, st, free, goal⟩
end
end OF
set_option maxHeartbeats 1000000
/-! zip of a tuple and a list, walked by a tuple of names. -/
namespace OF
open PySem RZ
theorem Fr.liter {L : List Addr} {h h' : Heap} {i l : Addr} {k : Nat} (x : Fr L h h') (hc : i ∉ L) (hi : h.IsListIter i l k) : h'.IsListIter i l k := hi.at fun o e => (x.2 i hc).trans e
theorem Fr.lst {L : List Addr} {h h' : Heap} {l : Addr} {xs : Array Value} (x : Fr L h h') (hc : l ∉ L) (hl : h.IsList l xs) : h'.IsList l xs := by
  obtain ⟨o, e, r⟩ := hl
  exact ⟨o, (x.2 l hc).trans e, r⟩
structure ZipTL (z TI TO i1 i2 l1 l2 : Addr) (k : Nat) (h : Heap) : Prop where
  zp : IsZip h z TI TO .none
  ti : IsPair h TI (.ref i1) (.ref i2)
  to : ∃ a b, IsPair h TO a b
  w1 : h.IsTupleIter i1 l1 k
  w2 : h.IsListIter i2 l2 k
section
variable {prog : Program} {w : World} {A : Around} {E : Value → Shared → Prop} {s : Shared} {z TI TO i1 i2 l1 l2 : Addr} {k : Nat}
theorem ZipTL.keep {h h' : Heap} (st : ZipTL z TI TO i1 i2 l1 l2 k h) (same : ∀ c ∈ [z, TI, TO, i1, i2], ∀ o, h.get? c = some o → h'.get? c = some o) : ZipTL z TI TO i1 i2 l1 l2 k h' := by
  obtain ⟨e, t, ⟨a, b, o⟩, w1, w2⟩ := st
  exact ⟨same z (by simp) _ e, same TI (by simp) _ t, ⟨a, b, same TO (by simp) _ o⟩, w1.at fun o e => same i1 (by simp) o e, w2.at fun o e => same i2 (by simp) o e⟩
theorem ZipTL.there {h : Heap} (st : ZipTL z TI TO i1 i2 l1 l2 k h) : ∀ c ∈ [z, TI, TO, i1, i2], ∃ o, h.get? c = some o ∧ ∀ v, o.data ≠ .cell v := by
  obtain ⟨e, t, ⟨a, b, o⟩, ⟨o1, e1, _, d1⟩, ⟨o2, e2, _, d2⟩⟩ := st
  intro c hc
  simp only [List.mem_cons, List.not_mem_nil, or_false] at hc
  rcases hc with rfl | rfl | rfl | rfl | rfl
  · exact ⟨_, e, fun v q => nomatch q⟩
  · exact ⟨_, t, fun v q => nomatch q⟩
  · exact ⟨_, o, fun v q => nomatch q⟩
  · exact ⟨o1, e1, fun v q => by rw [d1] at q; cases q⟩
  · exact ⟨o2, e2, fun v q => by rw [d2] at q; cases q⟩
theorem itemL {it l : Addr} {xs : Array Value} {x : Value} {Q : Value → Shared → Prop} (hi : s.heap.IsListIter it l k) (hl : s.heap.IsList l xs) (hx : xs[k]? = some x) (q : ∀ h', Fr [it] s.heap h' → h'.IsListIter it l (k + 1) → Q x { s with heap := h' }) :
    wpAny (model prog w) A (Builtin.SmallTypes.nextOf (.ref it)) Q E s := wpAny_nextOf_list_item hi hl hx fun h' a b => q h' (.of b) a
theorem last_none {Q : Bool → Shared → Prop} (e : IsZip s.heap z TI TO .none) (qt : Q true s) : wpAny (model prog w) A (Builtin.SmallTypes.ownedTupleIsFree (.ref z)) Q E s := by
  unfold Builtin.SmallTypes.ownedTupleIsFree
  exact wpAny_bind (wpAny_field e rfl (x := .none) rfl (wpAny_pure qt))
/-- a turn's answer -/
structure GaveTL (s : Shared) (z TI TO i1 i2 l1 l2 : Addr) (k : Nat) (x y : Value) (h' : Heap) : Prop where
  zp : IsZip h' z TI TO (rawInt s.heap.objs.size)
  ti : IsPair h' TI (.ref i1) (.ref i2)
  to : ∃ a b, IsPair h' TO a b
  w1 : h'.IsTupleIter i1 l1 (k + 1)
  w2 : h'.IsListIter i2 l2 (k + 1)
  new : IsPair h' s.heap.objs.size x y
  fr : ∀ c o, c ∉ [z, TO, i1, i2] → s.heap.get? c = some o → h'.get? c = some o
theorem givesTL {xs ys : Array Value} {x y : Value} {Q : Value → Shared → Prop} (D : ZipApart z TI TO i1 i2 l1 l2) (st : ZipTL z TI TO i1 i2 l1 l2 k s.heap)
    (hl1 : s.heap.IsTuple l1 xs) (hl2 : s.heap.IsList l2 ys) (hx : xs[k]? = some x) (hy : ys[k]? = some y) (q : ∀ h', GaveTL s z TI TO i1 i2 l1 l2 k x y h' → Q (.ref s.heap.objs.size) { s with heap := h' }) :
    wpAny (model prog w) A (Builtin.«zip.__next__» ⟨[.ref z], []⟩) (fun fin s' => ∃ v, fin = .done (.ret v) ∧ Q v s') E s := by
  obtain ⟨ez, eI, ⟨a, b, eO⟩, w1, w2⟩ := st
  have zs := Heap.lt_size ez
  refine wpAny_bind (m := field (.ref z) 2) (wpAny_field ez rfl (x := .bool false) rfl (wpAny_bind (m := field (.ref z) 3) (wpAny_field ez rfl (x := .ref TI) rfl (wpAny_bind (wpAny_seqItems eI rfl ?_)))))
  refine wpAny_bind (m := Builtin.SmallTypes.ownedTupleIsFree (.ref z)) (last_none ez ?_)
  · rw [if_pos rfl]
    refine wpAny_bind (wpAny_rule (wpAny_bind (wpAny_field ez rfl (x := .ref TO) rfl (wpAny_bind (put (f0 := .none) (f1 := .bool false) ez (by decide) fun h1 ez1 r1 => wpAny_bind ?_)))))
    simp only [List.zipIdx_cons, List.zipIdx_nil, List.forIn_cons, List.forIn_nil]
    refine wpAny_bind (wpAny_bind (wpAny_onRaise ?_))
    refine wpAny_bind (m := Builtin.SmallTypes.nextOf (.ref i1)) (item (r1.iter (by simp [D.i1z]) w1) (r1.tup (by simp [D.l1z]) hl1) hx fun h2 r2 w1' => wpAny_pure ?_)
    have r12 := r1.trans r2
    have eO2 : IsPair h2 TO a b := (r12.2 TO (by simp [D.TOz, D.TOi1])).trans eO
    refine wpAny_bind (wpAny_seqItems eO2 rfl (wpAny_bind (fill eO2 (by decide) fun h3 a' b' eO3 ea eb r3 => wpAny_bind (wpAny_letGo (wpAny_pure ?_)))))
    subst ea eb
    have r13 := r12.trans r3
    refine wpAny_bind (wpAny_bind (wpAny_onRaise ?_))
    refine wpAny_bind (m := Builtin.SmallTypes.nextOf (.ref i2)) (itemL (r13.liter (by simp [D.i2z, D.i12.symm, D.TOi2.symm]) w2) (r13.lst (by simp [D.l2z, D.l2i1, D.l2TO]) hl2) hy fun h4 r4 w2' => wpAny_pure ?_)
    have eO4 := (r4.2 TO (by simp [D.TOi2])).trans eO3
    refine wpAny_bind (wpAny_seqItems eO4 rfl (wpAny_bind (fill eO4 (by decide) fun h5 a' b' eO5 ea eb r5 => wpAny_bind (wpAny_letGo (wpAny_pure (wpAny_pure ?_))))))
    subst ea eb
    have r15 := (r13.trans r4).trans r5
    have r25 := ((r2.trans r3).trans r4).trans r5
    refine wpAny_bind (wpAny_seqItems eO5 rfl (wpAny_bind (wpAny_newTuple ?_)))
    have ez5 : h5.get? z = some (zipO .ellipsis (.bool false) TI TO) := (r25.2 z (by simp [D.TOz.symm, D.i1z.symm, D.i2z.symm])).trans ez1
    have z5 : h5.objs.size = s.heap.objs.size := r15.1
    refine wpAny_bind (m := Builtin.SmallTypes.ownedTupleHandOut (.ref z) (.ref h5.objs.size)) ?_
    unfold Builtin.SmallTypes.ownedTupleHandOut
    refine wpAny_bind (put (Heap.get?_push_of_some _ ez5) (by decide) fun h6 ez6 r6 => put (f0 := rawInt h5.objs.size) (f1 := .bool false) ez6 (by decide) fun h7 ez7 r7 => wpAny_pure ⟨_, rfl, ?_⟩)
    show Q (.ref h5.objs.size) { s with heap := h7 }
    have r67 := r6.trans r7
    have up : ∀ c o, c ≠ z → h5.get? c = some o → h7.get? c = some o := fun c o n e => (r67.2 c (by simp [n])).trans (Heap.get?_push_of_some _ e)
    rw [z5] at ez7 ⊢
    refine q h7 ⟨ez7, up _ _ D.TIz ((r15.2 TI (by simp [D.TIz, D.TIi1, D.TITO, D.TIi2])).trans eI), ⟨_, _, up _ _ D.TOz eO5⟩, ?_, ?_, ?_, fun c o hc e => ?_⟩
    · exact ((((r3.trans r4).trans r5).iter (by simp [D.TOi1.symm, D.i12]) w1')).at fun o e => up _ o D.i1z e
    · exact (r5.liter (by simp [D.TOi2.symm]) w2').at fun o e => up _ o D.i2z e
    · rw [← z5]
      refine (r67.2 _ fun e => ?_).trans (Heap.get?_push_size _ rfl)
      have e2 : h5.objs.size = z := by simpa using e
      rw [← z5, e2] at zs
      exact Nat.lt_irrefl _ zs
    · simp only [List.mem_cons, List.not_mem_nil, or_false, not_or] at hc
      exact up c o hc.1 ((r15.2 c (by simp [hc])).trans e)
theorem endsTL {xs ys : Array Value} {Q : Fin → Shared → Prop} (hh : A.handled = none) (D : ZipApart z TI TO i1 i2 l1 l2) (st : ZipTL z TI TO i1 i2 l1 l2 k s.heap)
    (hl1 : s.heap.IsTuple l1 xs) (hl2 : s.heap.IsList l2 ys) (over : xs[k]? = none ∨ ys[k]? = none) (q : ∀ h' e, (∀ c o, c ∉ [z, TO, i1, i2] → s.heap.get? c = some o → h'.get? c = some o) → (∃ o, h'.get? e = some o ∧ o.cls = .type "StopIteration") → E (.ref e) { s with heap := h' }) :
    wpAny (model prog w) A (Builtin.«zip.__next__» ⟨[.ref z], []⟩) Q E s := by
  obtain ⟨ez, eI, ⟨a, b, eO⟩, w1, w2⟩ := st
  refine wpAny_bind (m := field (.ref z) 2) (wpAny_field ez rfl (x := .bool false) rfl (wpAny_bind (m := field (.ref z) 3) (wpAny_field ez rfl (x := .ref TI) rfl (wpAny_bind (wpAny_seqItems eI rfl ?_)))))
  have kind : ∀ {h : Heap} {e : Addr} {f g : Value}, h.get? z = some (zipO f g TI TO) → (∃ o, h.get? e = some o ∧ o.cls = .type "StopIteration") → e ≠ z := fun ez he x => by
    obtain ⟨o, ho, hc⟩ := he
    rw [x, ez] at ho
    cases ho
    have hc : Value.type "zip" = Value.type "StopIteration" := hc
    exact absurd (Value.type.inj hc) (by decide)
  refine wpAny_bind (m := Builtin.SmallTypes.ownedTupleIsFree (.ref z)) (last_none ez ?_)
  rw [if_pos rfl]
  refine wpAny_bind (wpAny_rule (wpAny_bind (wpAny_field ez rfl (x := .ref TO) rfl (wpAny_bind (put (f0 := .none) (f1 := .bool false) ez (by decide) fun h1 ez1 r1 => wpAny_bind ?_)))))
  simp only [List.zipIdx_cons, List.zipIdx_nil, List.forIn_cons, List.forIn_nil]
  refine wpAny_bind (wpAny_bind (wpAny_onRaise ?_))
  cases hx : xs[k]? with
  | none =>
    refine wpAny_bind (m := Builtin.SmallTypes.nextOf (.ref i1)) (nextOf_tuple_end hh (r1.iter (by simp [D.i1z]) w1) (r1.tup (by simp [D.l1z]) hl1) hx fun h2 e x2 he => ?_)
    have ez2 := x2 z _ D.i1z.symm ez1
    refine put (f0 := .ellipsis) (f1 := .bool false) ez2 (by decide) fun h3 _ r3 => q h3 e (fun c o hc g => ?_) ?_
    · simp only [List.mem_cons, List.not_mem_nil, or_false, not_or] at hc
      exact (r3.2 c (by simp [hc])).trans (x2 c o hc.2.2.1 ((r1.2 c (by simp [hc])).trans g))
    · obtain ⟨o, ho, hc⟩ := he
      exact ⟨o, (r3.2 e (by simpa using kind (f := .ellipsis) (g := .bool false) ez2 ⟨o, ho, hc⟩)).trans ho, hc⟩
  | some x =>
    have hy : ys[k]? = none := over.resolve_left (by rw [hx]; exact fun e => nomatch e)
    refine wpAny_bind (m := Builtin.SmallTypes.nextOf (.ref i1)) (item (r1.iter (by simp [D.i1z]) w1) (r1.tup (by simp [D.l1z]) hl1) hx fun h2 r2 w1' => wpAny_pure ?_)
    have r12 := r1.trans r2
    have eO2 : IsPair h2 TO a b := (r12.2 TO (by simp [D.TOz, D.TOi1])).trans eO
    refine wpAny_bind (wpAny_seqItems eO2 rfl (wpAny_bind (fill eO2 (by decide) fun h3 a' b' eO3 ea eb r3 => wpAny_bind (wpAny_letGo (wpAny_pure ?_)))))
    have r13 := r12.trans r3
    refine wpAny_bind (wpAny_bind (wpAny_onRaise ?_))
    refine wpAny_bind (m := Builtin.SmallTypes.nextOf (.ref i2)) (wpAny_nextOf_list_end hh (r13.liter (by simp [D.i2z, D.i12.symm, D.TOi2.symm]) w2) (r13.lst (by simp [D.l2z, D.l2i1, D.l2TO]) hl2) hy fun h4 e x4 he => ?_)
    have ez4 := x4 z _ D.i2z.symm (((r2.trans r3).2 z (by simp [D.TOz.symm, D.i1z.symm])).trans ez1)
    refine put (f0 := .ellipsis) (f1 := .bool false) ez4 (by decide) fun h5 _ r5 => q h5 e (fun c o hc g => ?_) ?_
    · simp only [List.mem_cons, List.not_mem_nil, or_false, not_or] at hc
      exact (r5.2 c (by simp [hc])).trans (x4 c o hc.2.2.2 ((r13.2 c (by simp [hc])).trans g))
    · obtain ⟨o, ho, hc⟩ := he
      exact ⟨o, (r5.2 e (by simpa using kind (f := .ellipsis) (g := .bool false) ez4 ⟨o, ho, hc⟩)).trans ho, hc⟩
theorem ZipTL.kind {h : Heap} (st : ZipTL z TI TO i1 i2 l1 l2 k h) : ∃ o, h.get? z = some o ∧ o.cls = .type "zip" := ⟨_, st.zp, rfl⟩
theorem next_givesTL {xs ys : Array Value} {x y : Value} {Q : Option Value → Shared → Prop} (D : ZipApart z TI TO i1 i2 l1 l2) (st : ZipTL z TI TO i1 i2 l1 l2 k s.heap)
    (hl1 : s.heap.IsTuple l1 xs) (hl2 : s.heap.IsList l2 ys) (hx : xs[k]? = some x) (hy : ys[k]? = some y) (q : ∀ h', GaveTL s z TI TO i1 i2 l1 l2 k x y h' → Q (some (.ref s.heap.objs.size)) { s with heap := h' }) :
    wpAny (model prog w) A (pyNext (.ref z)) Q E s := by
  unfold pyNext
  refine wpAny_bind (wpAny_attempt (wpAny_callSpecial?_slot (name := Str.ofString "__next__") st.kind F.slot_zip_next (wpAny_call_entry F.slot_zip_next st.kind F.entry_zip_next ?_ (F.args_zip_next_1 _))))
  exact givesTL D st hl1 hl2 hx hy fun h' g => wpAny_pure (q h' g)
theorem next_endsTL {xs ys : Array Value} {Q : Option Value → Shared → Prop} (hh : A.handled = none) (D : ZipApart z TI TO i1 i2 l1 l2) (st : ZipTL z TI TO i1 i2 l1 l2 k s.heap)
    (hl1 : s.heap.IsTuple l1 xs) (hl2 : s.heap.IsList l2 ys) (over : xs[k]? = none ∨ ys[k]? = none) (q : ∀ h', (∀ c o, c ∉ [z, TO, i1, i2] → s.heap.get? c = some o → h'.get? c = some o) → Q none { s with heap := h' }) :
    wpAny (model prog w) A (pyNext (.ref z)) Q E s := by
  unfold pyNext
  refine wpAny_bind (wpAny_attempt (wpAny_callSpecial?_slot (name := Str.ofString "__next__") st.kind F.slot_zip_next (wpAny_call_entry F.slot_zip_next st.kind F.entry_zip_next ?_ (F.args_zip_next_1 _))))
  refine endsTL hh D st hl1 hl2 over fun h' e keep he => ?_
  exact wpAny_bind (wpAny_isInstance (T := "StopIteration") (b := true) he isSubtype_stop (wpAny_pure (q h' keep)))
end
/-! ### zip(t, l), made -/
structure ZipNew (h h' : Heap) (l1 l2 : Addr) : Prop where
  zp : IsZip h' (h.objs.size + 4) (h.objs.size + 2) (h.objs.size + 3) .none
  ti : IsPair h' (h.objs.size + 2) (.ref h.objs.size) (.ref (h.objs.size + 1))
  to : IsPair h' (h.objs.size + 3) .none .none
  w1 : h'.IsTupleIter h.objs.size l1 0
  w2 : h'.IsListIter (h.objs.size + 1) l2 0
  up : ∀ c o, h.get? c = some o → h'.get? c = some o
theorem zip_new {hp h1 h2 h3 h4 h5 : Heap} {l1 l2 : Addr} (e1 : h1 = hp.push { cls := .type "tuple_iterator", data := .fields #[.ref l1, .int 0 0] }) (e2 : h2 = h1.push { cls := .type "list_iterator", data := .fields #[.ref l2, .int 0 0] })
    (e3 : h3 = h2.push { cls := .type "tuple", data := .seq #[.ref hp.objs.size, .ref h1.objs.size] }) (e4 : h4 = h3.push { cls := .type "tuple", data := .seq #[.none, .none] })
    (e5 : h5 = h4.push { cls := .type "zip", data := .fields #[.none, .bool false, .bool false, .ref h2.objs.size, .ref h3.objs.size] }) : h4.objs.size = hp.objs.size + 4 ∧ ZipNew hp h5 l1 l2 := by
  have z1 : h1.objs.size = hp.objs.size + 1 := by rw [e1, Heap.size_push]
  have z2 : h2.objs.size = hp.objs.size + 2 := by rw [e2, Heap.size_push, z1]
  have z3 : h3.objs.size = hp.objs.size + 3 := by rw [e3, Heap.size_push, z2]
  have z4 : h4.objs.size = hp.objs.size + 4 := by rw [e4, Heap.size_push, z3]
  have u5 : ∀ c o, h4.get? c = some o → h5.get? c = some o := fun c o x => by rw [e5]; exact Heap.get?_push_of_some _ x
  have u4 : ∀ c o, h3.get? c = some o → h5.get? c = some o := fun c o x => u5 c o (by rw [e4]; exact Heap.get?_push_of_some _ x)
  have u3 : ∀ c o, h2.get? c = some o → h5.get? c = some o := fun c o x => u4 c o (by rw [e3]; exact Heap.get?_push_of_some _ x)
  have u2 : ∀ c o, h1.get? c = some o → h5.get? c = some o := fun c o x => u3 c o (by rw [e2]; exact Heap.get?_push_of_some _ x)
  have u1 : ∀ c o, hp.get? c = some o → h5.get? c = some o := fun c o x => u2 c o (by rw [e1]; exact Heap.get?_push_of_some _ x)
  refine ⟨z4, ⟨?_, ?_, ?_, ⟨_, u2 _ _ (by rw [e1]; exact Heap.get?_push_size _ rfl), rfl, rfl⟩, ⟨_, u3 _ _ (by rw [e2, ← z1]; exact Heap.get?_push_size _ rfl), rfl, rfl⟩, u1⟩⟩
  · show h5.get? _ = _
    rw [← z4, ← z2, ← z3, e5]
    exact Heap.get?_push_size _ rfl
  · refine u4 _ _ ?_
    rw [← z2, ← z1, e3]
    exact Heap.get?_push_size _ rfl
  · refine u5 _ _ ?_
    rw [← z3, e4]
    exact Heap.get?_push_size _ rfl
theorem meets_zipTL (l1 l2 : Addr) (xs ys : Array Value) :
    Meets (Builtin.«zip.__new__» ⟨[.type "zip", .ref l1, .ref l2], []⟩) (fun _ R s => s.heap.IsTuple l1 xs ∧ s.heap.IsList l2 ys ∧ ∀ h', ZipNew s.heap h' l1 l2 → R (.ok (.ret (.ref (s.heap.objs.size + 4)))) { s with heap := h' }) :=
  .of_wp fun prog w A R s h => by
    obtain ⟨hp, g, d, tk, os⟩ := s
    obtain ⟨hl1, hl2, h⟩ := h
    have hsub := sub_zip
    have a1 : Heap.IsTuple (Shared.heap ⟨hp, g, d, tk, os⟩) l1 xs := hl1
    have a2 : Heap.IsList (Shared.heap ⟨hp.push { cls := .type "tuple_iterator", data := .fields #[.ref l1, .int 0 0] }, g, d, tk, os⟩) l2 ys := Heap.IsList.push hl2 _
    wp_walk using wpAny_pyIter_tuple a1, wpAny_pyIter_list a2
    refine ⟨_, rfl, ?_⟩
    have go : ∀ (n : Nat) (h5 : Heap), n = hp.objs.size + 4 → ZipNew hp h5 l1 l2 → R (.ok (.ret (.ref n))) { heap := h5, gens := g, drawn := d, toks := tk, os := os } := fun n h5 e z => by
      rw [e]
      exact h h5 z
    have k := @zip_new hp _ _ _ _ _ l1 l2 rfl rfl rfl rfl rfl
    exact go _ _ k.1 k.2
section
open PySem.Spec PyProof.Rows L2
def ItzM (K : PySem.W.Frag) (a b : Addr) : It :=
  ⟨fun i H => ∃ (xs ys : List V) (x y : V), SqT K H a xs ∧ SqL K H b ys ∧ xs[i]? = some x ∧ ys[i]? = some y,
    fun i H v H' => ∃ T x y, v = .ref T ∧ H T = none ∧ H' = upd H T (.tup [x, y]) ∧ (∀ xs, SqT K H a xs → xs[i]? = some x) ∧ ∀ ys, SqL K H b ys → ys[i]? = some y,
    fun i H => ∃ xs ys : List V, SqT K H a xs ∧ SqL K H b ys ∧ (xs.length ≤ i ∨ ys.length ≤ i)⟩
theorem walksM {P : Program} {w : World} {K : PySem.W.Frag} {elts : List Expr} {kk : Nat} {tpos : Pos} {a b z TI TO i1 i2 : Addr} (D : ZipApart z TI TO i1 i2 a b) : Turn P w K (.Tuple elts kk tpos) (ItzM K a b) [z, TI, TO, i1, i2] z (ZipTL z TI TO i1 i2 a b) where
  mem := List.mem_cons_self
  obj := fun _ _ st => st.there
  keep := fun _ _ _ st => st.keep
  self := fun _ _ _ _ _ st h => by
    refine wpAny_pyIter_slot st.kind F.slot_zip_iter (wpAny_call_entry F.slot_zip_iter st.kind F.entry_zip_iter ?_ (F.args_zip_iter_1 _))
    exact wpAny_pure ⟨_, rfl, "zip", _, st.kind, F.slot_zip_next.lookup, h⟩
  item := fun X hP hw hK hc i pins s σ H E I free st hg => by
    subst hP hw hK
    obtain ⟨xs, ys, x, y, sx, sy, hx, hy⟩ := hg
    obtain ⟨us, ru, px, _⟩ := I.tuple sx
    obtain ⟨vs, rv, py, _⟩ := I.list sy
    obtain ⟨u, hu, xu⟩ := ru.get hx
    obtain ⟨v, hv, yv⟩ := rv.get hy
    have zlow : z < s.heap.objs.size := Heap.lt_size st.zp
    refine next_givesTL D st px py.isList (x := u) (y := v) (by simpa using hu) (by simpa using hv) fun h' g => ⟨_, rfl, wpAny_letOwnedTupleGo_zip (s := { s with heap := h' }) g.zp fun h'' ez sb => ?_⟩
    have low : ∀ c ∈ [z, TI, TO, i1, i2], c < s.heap.objs.size := fun c hc => by
      obtain ⟨o, e, _⟩ := st.there c hc
      exact Heap.lt_size e
    have new2 : IsPair h'' s.heap.objs.size u v := (sb.2 _ (Nat.ne_of_gt zlow)).trans g.new
    have J : Inv X pins σ (upd H s.heap.objs.size (.tup [x, y])) { s with heap := h'' } := by
      refine I.turnedNew (t' := s.toks) (ch := [z, TI, TO, i1, i2]) (fun c o n e => (sb.2 c (fun m => n (by rw [m]; exact List.mem_cons_self))).trans (g.fr c o (fun m => n ?_) e)) free (Nat.le_refl _) ⟨(by show 2 ≤ sizeLine; decide), [u, v], .cons xu (.cons yv .nil), ⟨_, new2, rfl, _, rfl⟩⟩
      simp only [List.mem_cons, List.not_mem_nil, or_false] at m ⊢
      rcases m with m | m | m | m
      · exact .inl m
      · exact .inr (.inr (.inl m))
      · exact .inr (.inr (.inr (.inl m)))
      · exact .inr (.inr (.inr (.inr m)))
    obtain ⟨ta, tb, eO⟩ := g.to
    refine ⟨.ref s.heap.objs.size, _, J, rfl, ⟨_, x, y, rfl, I.hok.fresh (Nat.le_refl _), rfl, fun l hl => ?_, fun l hl => ?_⟩, ⟨ez, (sb.2 _ D.TIz).trans g.ti, ⟨ta, tb, (sb.2 _ D.TOz).trans eO⟩, g.w1.at fun o q => (sb.2 _ D.i1z).trans q, g.w2.at fun o q => (sb.2 _ D.i2z).trans q⟩, fun c hc => ?_⟩
    · rw [I.tuple_inj hl sx]
      exact hx
    · rw [I.list_inj hl sy]
      exact hy
    · rw [upd_ne (Nat.ne_of_lt (low c hc))]
      exact (free c hc).1
  done := fun X hP hw hK hc i pins s σ H E I free st hg => by
    subst hP hw hK
    obtain ⟨xs, ys, sx, sy, over⟩ := hg
    obtain ⟨us, ru, px, _⟩ := I.tuple sx
    obtain ⟨vs, rv, py, _⟩ := I.list sy
    have n1 := ru.length
    have n2 := rv.length
    have none_ : us.toArray[i]? = none ∨ vs.toArray[i]? = none := by
      rcases over with h | h
      · exact .inl (by simp; omega)
      · exact .inr (by simp; omega)
    refine next_endsTL (I.ok.hd hc) D st px py.isList none_ fun h' keep => ⟨rfl, I.turnedL (t' := s.toks) (ch := [z, TI, TO, i1, i2]) (fun c o n e => keep c o (fun m => n ?_) e) free⟩
    simp only [List.mem_cons, List.not_mem_nil, or_false] at m ⊢
    rcases m with m | m | m | m
    · exact .inl m
    · exact .inr (.inr (.inl m))
    · exact .inr (.inr (.inr (.inl m)))
    · exact .inr (.inr (.inr (.inr m)))
/-- zip of a tuple and a list or tuple -/
def iZipM (K : PySem.W.Frag) (ta : TA) : TI := fun σ H R => ta σ H fun vs H1 => ∃ a b xs ys, vs = [.ref a, .ref b] ∧ SqT K H1 a xs ∧ ((SqL K H1 b ys ∧ R (ItzM K a b) H1) ∨ (SqT K H1 b ys ∧ R (ItzT K a b) H1))
theorem pi_zipM {X : Cx} {e e2 : Expr} {ta : TA} {p pos tpos : Pos} {elts : List Expr} {kk : Nat} (hg : Gl X "zip") (hm : X.mg "zip" = none) (ha : PA X [e, e2] ta)
    (hs : starEach [e, e2] X.env = (false, eval e X.env) :: starEach [e2] X.env := by rfl) (hpl : (backTo pos (starEach [e2] X.env)).any (·.1) = false := by rfl) : PI X (.Tuple elts kk tpos) (.Call (.Name "zip" p) [e, e2] [] pos) (iZipM X.K ta) where
  run := fun pins s σ H R I h => by
    refine Call_ (ld_blt I hg hm PyProof.Rows.boot_zip (PyProof.Rows.callWith_type1 (thn (ha.run pos pins s σ H _ I h) fun us s1 q => ?_) hs hpl))
    obtain ⟨_, H1, J, rel, a, b, xs, ys, rfl, sx, goal⟩ := q
    obtain ⟨u, v, rfl, ru, rv⟩ := vals2 rel
    cases ru
    cases rv
    obtain ⟨us, _, px, _⟩ := J.tuple sx
    obtain ⟨_, ea, _⟩ := id px
    have free : ∀ c ∈ [s1.heap.objs.size + 4, s1.heap.objs.size + 2, s1.heap.objs.size + 3, s1.heap.objs.size, s1.heap.objs.size + 1], FpOk X pins H1 c := fun c hc => by
      have ge : s1.heap.objs.size ≤ c := by
        simp only [List.mem_cons, List.not_mem_nil, or_false] at hc
        rcases hc with e | e | e | e | e <;> rw [e]
        exact Nat.le_add_right _ _
        exact Nat.le_add_right _ _
        exact Nat.le_add_right _ _
        exact Nat.le_refl _
        exact Nat.le_add_right _ _
      exact J.fpOk ge (J.hok.fresh ge)
    rcases goal with ⟨sy, goal⟩ | ⟨sy, goal⟩
    · obtain ⟨vs, _, py, _⟩ := J.list sy
      refine callType_new F.called_zip (by decide) (F.typeCall_zip_2 _ _) (F.newCall_zip_2 _ _) (fun obj => F.args_object_init_3 obj _ _) F.entry_zip_new (meets_zipTL a b us.toArray vs.toArray) ⟨px, py.isList, fun h' n => ⟨⟨_, n.zp, rfl⟩, ?_⟩⟩
      have st : ZipTL (s1.heap.objs.size + 4) (s1.heap.objs.size + 2) (s1.heap.objs.size + 3) s1.heap.objs.size (s1.heap.objs.size + 1) a b 0 h' := ⟨n.zp, n.ti, ⟨_, _, n.to⟩, n.w1, n.w2⟩
      have D : ZipApart (s1.heap.objs.size + 4) (s1.heap.objs.size + 2) (s1.heap.objs.size + 3) s1.heap.objs.size (s1.heap.objs.size + 1) a b := PySem.W.ktu_apart s1.heap.objs.size a b (Heap.lt_size ea) py.lt
      exact (walksM (K := X.K) (elts := elts) (kk := kk) (tpos := tpos) D).self _ 0 { s1 with heap := h' } _ _ st ⟨s1.heap.objs.size + 4, _, _, _, H1, rfl, J.kept (t' := s1.toks) n.up, walksM D, st, free, goal⟩
    · obtain ⟨vs, _, py, _⟩ := J.tuple sy
      obtain ⟨_, eb, _⟩ := id py
      refine call_zipT px py fun h' ez eI eO w1 w2 _ keep => wpAny_pyIter_zip ez ?_
      exact ⟨s1.heap.objs.size + 4, _, _, _, H1, rfl, J.kept (t' := s1.toks) keep, turn_zipT (PySem.W.ktu_apart s1.heap.objs.size a b (Heap.lt_size ea) (Heap.lt_size eb)), ⟨ez, eI, ⟨_, _, eO⟩, w1, w2⟩, free, goal⟩
/-- walked, the list or tuple of one length -/
theorem walk_zipM {K : PySem.W.Frag} {a b : Addr} {xs ys : List V} {n : Nat} (h1 : xs.length = n) (h2 : ys.length = n) : Walk (ItzM K a b) n (fun H => SqT K H a xs ∧ SqL K H b ys) (YPair (fun i => xs[i]?) (fun i => ys[i]?)) where
  goes := fun i H hi g => ⟨xs, ys, xs[i], ys[i], g.1, g.2, List.getElem?_eq_getElem (by omega), List.getElem?_eq_getElem (by omega)⟩
  stops := fun H g => ⟨xs, ys, g.1, g.2, .inl (by omega)⟩
  yields := fun i H x H' hi g y => by
    obtain ⟨T, u, v, rfl, hT, rfl, hu, hv⟩ := y
    exact ⟨T, u, v, rfl, hT, rfl, hu xs g.1, hv ys g.2⟩
end
end OF
/-! A comprehension over zip of a tuple and what may be a list or a tuple. -/
namespace OF
open PySem PySem.Spec PyProof.Rows L2
section
variable {K : PySem.W.Frag} {kd : Bool} {a b : Addr} {xs ys : List V} {n : Nat} {g : TG} {tt : TT} {te : TE} {vs : List Nat} {σ : L2.St} {H1 : Hp} {Q : Addr → Hp → Prop}
abbrev LcR (J : It) (g : TG) (tt : TT) (te : TE) (vs : List Nat) (σ : L2.St) (H1 : Hp) (Q : Addr → Hp → Prop) : Prop := ∀ D, H1 D = none → ∃ W : Nat → Nat → Hp → Prop, (∃ m, W 0 m (upd H1 D (.lst []))) ∧ ∀ i m H, W i m H →
  (J.stop i H ∧ Q D H) ∨ (J.go i H ∧ ∃ Nx : Hp → Prop, (∀ H', Nx H' → ∃ m', m' < m ∧ W (i + 1) m' H') ∧ ∀ x H', J.yld i H x H' → g x (wipe σ vs) H' fun σ2 H2 => wipe σ2 vs = wipe σ vs ∧ tt σ2 H2 fun b H3 =>
    if b = true then te σ2 H3 fun y H4 => ∃ acc, H4 D = some (.lst acc) ∧ acc.length < sizeLine ∧ Nx (upd H4 D (.lst (acc ++ [y]))) else Nx H3)
/-- what a turn asks -/
structure LcZ (K : PySem.W.Frag) (kd : Bool) (a b : Addr) (xs ys : List V) (n : Nat) (g : TG) (tt : TT) (te : TE) (vs : List Nat) (σ : L2.St) (H1 : Hp) (Q : Addr → Hp → Prop) (D : Addr) (Pv : Nat → Hp → Prop) : Prop where
  h0 : Pv 0 (upd H1 D (.lst []))
  st : ∀ i H, i ≤ n → Pv i H → SqT K H a xs ∧ Sq K kd H b ys
  tn : ∀ i T x y H, xs[i]? = some x → ys[i]? = some y → Pv i H → H T = none → g (.ref T) (wipe σ vs) (upd H T (.tup [x, y])) fun σ2 H2 => wipe σ2 vs = wipe σ vs ∧ tt σ2 H2 fun b H3 =>
    if b = true then te σ2 H3 fun y H4 => ∃ acc, H4 D = some (.lst acc) ∧ acc.length < sizeLine ∧ Pv (i + 1) (upd H4 D (.lst (acc ++ [y]))) else Pv (i + 1) H3
  en : ∀ H, Pv n H → Q D H
theorem lc_zipM (h1 : xs.length = n) (h2 : ys.length = n) (hx : SqT K H1 a xs) (hy : Sq K kd H1 b ys) (main : ∀ D, H1 D = none → ∃ Pv, LcZ K kd a b xs ys n g tt te vs σ H1 Q D Pv) :
    (SqL K H1 b ys ∧ LcR (ItzM K a b) g tt te vs σ H1 Q) ∨ (SqT K H1 b ys ∧ LcR (RZ.ItzT K a b) g tt te vs σ H1 Q) := by
  cases kd with
  | true =>
    refine .inl ⟨hy, fun D hD => ?_⟩
    obtain ⟨Pv, z⟩ := main D hD
    refine lc_it (walk_zipM (K := K) (a := a) (b := b) h1 h2) Pv z.h0 (fun i H hi p => z.st i H hi p) ?_ z.en
    rintro i x H H' hi p ⟨T, u, v, rfl, hT, rfl, hu, hv⟩
    exact z.tn i T u v H hu hv p hT
  | false =>
    refine .inr ⟨hy, fun D hD => ?_⟩
    obtain ⟨Pv, z⟩ := main D hD
    refine lc_it (walk_zipT (K := K) (a := a) (b := b) h1 (Nat.le_of_eq h2.symm)) Pv z.h0 (fun i H hi p => z.st i H hi p) ?_ z.en
    rintro i x H H' hi p ⟨T, u, v, rfl, hT, rfl, hu, hv⟩
    exact z.tn i T u v H hu hv p hT
end
end OF
/-! len(o) of an own class with __len__; o == x, x an int or a tuple. -/
namespace OF
open PySem PySem.Spec PyProof.Rows L2
section
variable {X : Cx} {CX : CXT} {n : Nat} {f C : Addr} {fd : FuncData} {ps : List Str} {sp : Sp} {E : XK}
def rLenOwn (C : Addr) (sp : Sp) (E : XK) : List V → Hp → VK → Prop := fun xs H Q => ∃ a dx fs, xs = [.ref a] ∧ H a = some (.ins C dx fs) ∧ sp [.ref a] H (fun z H' => ∃ m : Nat, z = .int m ∧ m < 1000 ∧ Q (.int m) H') E
theorem call_lenOwn (hs : PySem.W.findIn X.K (.ref C) "__len__" = some (some (.ref f))) (hf : PySem.W.isFn X.K (.ref f) = true) (F : FnOk X.prog X.w X.K X.mg X.base CX n f fd ps sp) (hb : Binds X.K fd ps []) (hr : Room (n + 1) X.A) (hx : Passes CX X E) :
    CallR X (.builtin "len") (rLenOwn C sp E) := by
  intro pins s σ H xs us Q I r h
  obtain ⟨a, dx, fs, rfl, ha, q⟩ := h
  obtain ⟨u, rfl, ru⟩ := vals1 r
  cases ru
  obtain ⟨mA, J, _⟩ := ins_get I.hok ha
  obtain ⟨od, J, _⟩ := J.look
  obtain ⟨m, hF⟩ := I.fr
  refine PySem.W.len_K hF I.ok.mod.kin J hs hf ?_
  have bn := hb s [.ref a] I.kIn (F.len _ _ _ _ q)
  refine wpAny_call (codeAny_mono (F.run X.A.in1 X.stack s H ⟨[.ref a], []⟩ [.ref a] [.ref a] _ E hr.in1 I.env0.in1 bn (.cons rfl .nil) q) fun r s' hq => ?_)
  cases r with
  | error e => exact hx pins σ H s e s' I hq
  | ok fl =>
    cases fl with
    | ret u =>
      obtain ⟨z, H', I', rz, k, rfl, hk, q'⟩ := I.after hq
      obtain ⟨t, rfl⟩ := rz
      exact ⟨⟨by omega, by omega⟩, .int k, H', I'.tok _, ⟨_, rfl⟩, q'⟩
    | next => exact hq.elim
    | brk => exact hq.elim
    | cont => exact hq.elim
/-- o == x, x an int or a tuple -/
def rEqOther (C : Addr) (sp : Sp) (E : XK) : R2 := fun x y H Q => ∃ a dx fs, x = .ref a ∧ H a = some (.ins C dx fs) ∧ ((∃ n : Int, y = .int n) ∨ ∃ t ys, y = .ref t ∧ H t = some (.tup ys)) ∧ sp [x, y] H (fun z H' => ∃ b : Bool, z = .bl b ∧ Q z H') E
theorem op_eqOther (hs : PySem.W.findIn X.K (.ref C) "__eq__" = some (some (.ref f))) (hf : PySem.W.isFn X.K (.ref f) = true) (n1 : PySem.W.subIn X.K (.type "int") (.ref C) = some false) (n2 : PySem.W.subIn X.K (.type "tuple") (.ref C) = some false)
    (F : FnOk X.prog X.w X.K X.mg X.base CX n f fd ps sp) (hb : Binds X.K fd ps []) (hr : Room n X.A) (hx : Passes CX X E) : OpR X (compareOp .Eq) (rEqOther C sp E) := by
  intro pins s σ H x y v u Q I rx ry h
  obtain ⟨a, dx, fs, rfl, ha, hy, q⟩ := h
  cases (show v = Value.ref a from rx)
  obtain ⟨mA, J, _⟩ := ins_get I.hok ha
  obtain ⟨od, J, _⟩ := J.look
  obtain ⟨m, hF⟩ := I.fr
  have main : ∀ {tb : Value}, PySem.W.Looks (model X.prog X.w) s.heap (typeOf u) tb → PySem.W.notFirst X.K C tb = true → wpAny (model X.prog X.w) X.A (compareOp .Eq (.ref a) u) (EP X pins σ Q) X.xe s := fun {tb} lk nf => by
    refine PySem.W.cmp_K (op := .Eq) (tb := tb) hr.units0 hF I.ok.mod.kin J lk nf hs hf ?_
    refine wpAny_mono (run_fn (us := [.ref a, u]) (vs := [.ref a, y]) F hr hb .nil hx I (.cons rfl (.cons ry .nil)) q) (fun w s' z => ?_) fun _ _ e => e
    obtain ⟨z', H', I', rz, c, rfl, q'⟩ := z
    cases rz
    exact ⟨.bl c, H', I', rfl, q'⟩
  rcases hy with ⟨k, rfl⟩ | ⟨t, ys, rfl, ht⟩
  · obtain ⟨tk, rfl⟩ := ry
    exact main (tb := .type "int") (PySem.W.Looks.of_pure rfl) (by unfold PySem.W.notFirst; rw [n1]; rfl)
  · cases (show u = Value.ref t from ry)
    obtain ⟨its, _, ⟨o, ho, hc, _⟩, _⟩ := I.tuple (SqT.of ht)
    have lk : PySem.W.Looks (model X.prog X.w) s.heap (typeOf (.ref t)) (.type "tuple") := by
      rw [← hc]
      exact (PySem.W.Looks.ld ho).andThen .now
    exact main lk (by unfold PySem.W.notFirst; rw [n2]; rfl)
end
end OF
/-! o == p, p an instance of another own class. -/
namespace OF
open PySem PySem.Spec PyProof.Rows L2
section
variable {X : Cx} {CX : CXT} {n : Nat} {f C C2 : Addr} {fd : FuncData} {ps : List Str} {sp : Sp} {E : XK}
def rEqOwn2 (C C2 : Addr) (sp : Sp) (E : XK) : R2 := fun x y H Q => ∃ a dx fs b dy gs, x = .ref a ∧ y = .ref b ∧ H a = some (.ins C dx fs) ∧ H b = some (.ins C2 dy gs) ∧ sp [x, y] H (fun z H' => ∃ b : Bool, z = .bl b ∧ Q z H') E
theorem op_eqOwn2 (hs : PySem.W.findIn X.K (.ref C) "__eq__" = some (some (.ref f))) (hf : PySem.W.isFn X.K (.ref f) = true) (ns : PySem.W.subIn X.K (.ref C2) (.ref C) = some false) (F : FnOk X.prog X.w X.K X.mg X.base CX n f fd ps sp) (hb : Binds X.K fd ps []) (hr : Room n X.A) (hx : Passes CX X E) :
    OpR X (compareOp .Eq) (rEqOwn2 C C2 sp E) := by
  intro pins s σ H x y v u Q I rx ry h
  obtain ⟨a, dx, fs, b, dy, gs, rfl, rfl, ha, hb', q⟩ := h
  cases (show v = Value.ref a from rx)
  cases (show u = Value.ref b from ry)
  obtain ⟨mA, J, _⟩ := ins_get I.hok ha
  obtain ⟨mB, J', _⟩ := ins_get I.hok hb'
  obtain ⟨od, J, _⟩ := J.look
  obtain ⟨od', J', _⟩ := J'.look
  obtain ⟨m, hF⟩ := I.fr
  refine PySem.W.cmp_K (op := .Eq) (tb := .ref C2) hr.units0 hF I.ok.mod.kin J J'.type (by unfold PySem.W.notFirst; rw [ns]; simp) hs hf ?_
  refine wpAny_mono (run_fn (us := [.ref a, .ref b]) (vs := [.ref a, .ref b]) F hr hb .nil hx I (.cons rfl (.cons rfl .nil)) q) (fun w s' z => ?_) fun _ _ e => e
  obtain ⟨z', H', I', rz, c, rfl, q'⟩ := z
  cases rz
  exact ⟨.bl c, H', I', rfl, q'⟩
end
end OF
namespace K31
open PySem PySem.Spec PyProof.Rows L2 OF
abbrev sFoVal : Stmt := inClass (topS 66) 4
abbrev sCheckR : Stmt := topS 67
section
variable {P : Program} {w : World} {K : PySem.W.Frag} {mg : Str → Option Value} {base : Heap}
/-! ### rows judged -/
/-- whether a value is a row of the term's scheme -/
def InS (H : Hp) (z : TD) (x : V) (b : Bool) : Prop := (NoTup H x ∧ b = false) ∨ ∃ (p : Addr) (xs : List V), x = .ref p ∧ H p = some (.tup xs) ∧ xs.length ≤ 1000 ∧ (∀ y ∈ xs, ItemOk H y) ∧ b = rowB z.ds z.ks xs
theorem InS.same {H H' : Hp} {z : TD} {x : V} {b : Bool} (h : InS H z x b) (s : Same H H') : InS H' z x b := by
  rcases h with ⟨n, e⟩ | ⟨p, xs, e, hp, l, it, eb⟩
  · exact .inl ⟨n.same s, e⟩
  · exact .inr ⟨p, xs, e, s _ _ hp, l, fun y hy => (it y hy).same s, eb⟩
/-- what is due -/
structure RowsJ (H : Hp) (ts : List TD) (xs : List V) (bs : List Bool) : Prop where
  l1 : xs.length = ts.length
  l2 : bs.length = ts.length
  it : ∀ (i : Nat) z v b, ts[i]? = some z → xs[i]? = some v → bs[i]? = some b → InS H z v b
theorem RowsJ.same {H H' : Hp} {ts : List TD} {xs : List V} {bs : List Bool} (h : RowsJ H ts xs bs) (s : Same H H') : RowsJ H' ts xs bs := ⟨h.l1, h.l2, fun i z v b a c d => (h.it i z v b a c d).same s⟩
def spCheckR (CF C CR : Addr) : Sp := fun vs H Q E => ∃ (o tt : Addr) (ts : List TD) (a t r : Addr) (b : Int) (ds : List Int) (ks : List (Addr × (Int × Int))) (x : V), vs = [.ref o, x] ∧ FormAt CF C H o tt ts a t r b ds ks ∧
  ((NoSeq H x ∧ Raised CR "rows" x H E) ∨ ∃ (p : Addr) (xs : List V), x = .ref p ∧ LT H p xs ∧ ((xs.length ≠ ts.length ∧ Raised CR "rows" x H E) ∨
    ∃ bs : List Bool, RowsJ H ts xs bs ∧ (bs.all id = false → Raised CR "rows" x H E) ∧ (bs.all id = true → ∀ H', Same H H' → Q .non H')))
abbrev nCr : List Str := ["form", "value", "_", "scheme", "row"]
theorem scCr : FnScope nCr ["form", "value"] (defScope sCheckR) := ⟨rfl, rfl, rfl, by decide +kernel, rfl, by decide +kernel, by decide +kernel⟩
set_option maxHeartbeats 2000000 in
theorem ok_checkr {f fT fH fI CF C CR pT : Addr} {fd fdT fdH fdI : FuncData} (F : Fun K "check_rows" "check_rows" sCheckR f fd) (cF : Cls K CF) (pF : PropOf K CF "terms" pT fT) (GT : FnOk P w K mg base CX0 1 fT fdT ["self"] (spFT CF)) (bT : Binds K fdT ["self"] [])
    (mH : Meth K C "__contains__" fH) (GH : FnOk P w K mg base CX0 6 fH fdH ["self", "row"] (spHas C)) (bH : Binds K fdH ["self", "row"] [])
    (GI : FnOk P w K mg base CX0 3 fI fdI ["self", "rows"] (spInit K "rows" CR)) (T : ErrC K mg "InvalidRows" "rows" CR fI) (bI : Binds K fdI ["self", "rows"] [])
    (mis : mg "isinstance" = none) (mli : mg "list" = none) (mt : mg "tuple" = none) (ml : mg "len" = none) (mall : mg "all" = none) (mz : mg "zip" = none) : FnOk P w K mg base (L2.CX P w) 7 f fd ["form", "value"] (spCheckR CF C CR) := by
  refine F.okX scCr (fun vs H Q E h => ?_) (fun cdv A outer s H vs Q E hr h => ?_)
  · obtain ⟨o, tt, ts, a, t, r, b, ds, ks, x, rfl, _⟩ := h
    rfl
  · obtain ⟨o, tt, ts, a, t, r, b, ds, ks, x, rfl, FA, h⟩ := h
    have hr2 : Room 2 _ := hr.mono (by decide)
    have hr4 : Room 4 _ := hr.mono (by decide)
    apply Exists.intro
    apply And.intro
    · apply pss_cons
      · exact ps_if (PW.pt (pw_or (pt_not (pt_val (pe_callB call_isiT (by rfl) mis PyProof.Rows.boot_isinstance (pa_cons (pv 1) (pa_cons (pe_tup (pa_cons (pe_bltn (v := .ty "list") (by rfl) mli PyProof.Rows.boot_list rfl) (pa_cons (pe_bltn (v := .ty "tuple") (by rfl) mt (by decide +kernel) rfl) pa_nil))) pa_nil)))))
            (pw_or1 (pt_cmpR op_ne (pe_callB call_len_seq (by rfl) ml PySem.boot_len (pa_cons (pv 1) pa_nil)) (pe_callB call_len_seq (by rfl) ml PySem.boot_len (pa_cons (pe_prop (pv 0) cF pF GT hr2 bT .nil pass0 (by rfl)) pa_nil)) (nomark _)))))
          (pss_one (ps_raise rfl (takes_of rfl rfl rfl rfl) (pmk_oex T.ox T.iC T.tI GI hr4 bI .nil pass0 (by rfl) T.g (pa_cons (pv 1) pa_nil)))) pss_nil
      apply pss_one
      · exact ps_if (pt_not (pt_val (pe_callB (cr_all rfl) (by rfl) mall (by decide +kernel) (pa_cons (pe_lc (own := [("_", 2), ("scheme", 3), ("row", 4)]) (g := gTup K 2 (gCons (gTup K 2 (gCons (gName 2) (gCons (gName 3) gNil))) (gCons (gName 4) gNil))) (tt := tYes) rfl scCr.nd
            (pi_zipM (by rfl) mz (pa_cons (pe_prop (pv 0) cF pF GT hr2 bT .nil pass0 (by rfl)) (pa_cons (pv 1) pa_nil)))
            (blkOk_by (own := [("_", 2), ("scheme", 3), ("row", 4)]) (N := nCr) (sc := defScope sCheckR) (by decide +kernel))
            (fun _ _ _ _ _ => by exact (pg_tup rfl (pgs_cons (pg_tup rfl (pgs_cons (pg_name (i := 2) scCr.nd rfl (Or.inl rfl)) (pgs_cons (pg_name (i := 3) scCr.nd rfl (Or.inl rfl)) pgs_nil))) (pgs_cons (pg_name (i := 4) scCr.nd rfl (Or.inl rfl)) pgs_nil))))
            (fun _ _ _ _ _ => pts_nil) (fun _ _ _ _ _ => by exact (pe_cmpR (op_inOwn mH.at_ mH.fn GH bH hr pass0) (pv 4) (pv 3) rfl))) pa_nil))))
          (pss_one (ps_raise rfl (takes_of rfl rfl rfl rfl) (pmk_oex T.ox T.iC T.tI GI hr4 bI .nil pass0 (by rfl) T.g (pa_cons (pv 1) pa_nil)))) pss_nil
    have raise : ∀ {H1 : Hp}, Raised CR "rows" x H E → Same H H1 → _ := fun {H1} hE s1 => raised_ok (K := K) (σ := start nCr [.ref o, x]) (D := { nx := fun _ H' => Q .non H', rt := Q }) hE s1
    refine ⟨x, rfl, (by show 2 ≤ sizeLine; decide), fun U hU => ?_⟩
    have s1 : Same H (upd H U (.tup [.ty "list", .ty "tuple"])) := same_new hU
    rcases h with ⟨no, hE⟩ | ⟨p, xs, rfl, hp, h⟩
    · obtain ⟨t, ty, k⟩ := (no.same s1).kit (K := K)
      exact ⟨x, U, _, t, _, false, rfl, upd_same, .cons (.ty _) (.cons (.ty _) .nil), ty, k, false, rfl, iteT ⟨x, rfl, raise hE s1⟩⟩
    obtain ⟨ty, hty, k⟩ := ((hp.seq (K := K)).same s1).lt
    refine ⟨.ref p, U, _, ty, _, true, rfl, upd_same, .cons (.ty _) (.cons (.ty _) .nil), hty, k, true, rfl, iteF ?_⟩
    generalize upd H U (.tup [.ty "list", .ty "tuple"]) = H1 at s1 ⊢
    have p1 := hp.same s1
    obtain ⟨⟨dx, g, ho⟩, hm, each, _⟩ := FA.same s1
    refine ⟨.ref p, rfl, p, xs, rfl, p1.seq.sq, .ref o, rfl, o, dx, _, rfl, ho, o, dx, tt, a, g, rfl, ho, tt, _, rfl, .inr (SqT.of hm), rfl, _, rfl, ?_⟩
    have lens : (!decide (V.int (xs.length : Int) = V.int ((ts.map tV).length : Int))) = !decide (xs.length = ts.length) := by
      rw [List.length_map]
      congr 1
      rw [decide_eq_decide]
      exact ⟨fun z => by have := V.int.inj z; omega, fun z => by rw [z]⟩
    rcases h with ⟨ne, hE⟩ | ⟨bs, J, hE, q⟩
    · exact iteTB (by rw [lens, decide_eq_false ne]; rfl) ⟨.ref p, rfl, raise hE s1⟩
    refine iteFB (by rw [lens, decide_eq_true J.l1]; rfl) ?_
    obtain ⟨kd, hkd⟩ : ∃ kd : Bool, ∀ H', Same H1 H' → Sq K kd H' p xs := by
      rcases p1 with z | z
      · exact ⟨true, fun H' s => SqL.of (s _ _ z)⟩
      · exact ⟨false, fun H' s => SqT.of (s _ _ z)⟩
    refine ⟨.ref o, rfl, o, dx, _, rfl, ho, o, dx, tt, a, g, rfl, ho, .ref p, rfl, tt, p, _, xs, rfl, SqT.of hm, lc_zipM (n := ts.length) (by rw [List.length_map]) J.l1 (SqT.of hm) (hkd H1 (Same.refl _)) fun D hD => ⟨fun i H' => Same H1 H' ∧ H' D = some (.lst ((bs.take i).map V.bl)), ⟨⟨same_new hD, upd_same⟩, (fun i H' _ z => ⟨SqT.of (z.1 _ _ hm), hkd H' z.1⟩), ?_, ?_⟩⟩⟩
    · rintro i U2 x y H' hx hy ⟨s2, e2⟩ hU2
      rw [List.getElem?_map] at hx
      obtain ⟨z, hz, rfl⟩ := Option.map_eq_some_iff.mp hx
      have hi : i < bs.length := by
        rw [J.l2]
        exact (List.getElem?_eq_some_iff.mp hz).1
      have hb : bs[i]? = some bs[i] := List.getElem?_eq_getElem hi
      have s3 := same_new (o := .tup [tV z, y]) hU2
      have s23 := s2.trans s3
      have tz := (each z (List.mem_of_getElem? hz)).same s23
      obtain ⟨⟨dz, iz⟩, _⟩ := id tz.sch
      refine ⟨U2, _, rfl, SqT.of upd_same, rfl, tV z, [y], rfl, z.p, _, rfl, SqT.of tz.tup, rfl, .int z.f, _, rfl, .ref z.s, [], rfl, rfl, y, [], rfl, rfl, rfl, tYes_if ?_⟩
      refine ⟨y, rfl, .ref z.s, rfl, z.s, dz, _, rfl, iz, z.s, z.t, z.r, z.b, z.ds, z.ks, y, rfl, tz.sch, ?_⟩
      have fin : ∀ H2, Same (upd H' U2 (.tup [tV z, y])) H2 → ∃ acc, H2 D = some (.lst acc) ∧ acc.length < sizeLine ∧ (Same H1 (upd H2 D (.lst (acc ++ [.bl bs[i]]))) ∧ (upd H2 D (.lst (acc ++ [.bl bs[i]]))) D = some (.lst ((bs.take (i + 1)).map V.bl))) := fun H2 s4 => by
        refine ⟨_, s4 _ _ (s3 _ _ e2), ?_, Same.store (s23.trans s4) hD, ?_⟩
        · rw [List.length_map]
          refine Nat.lt_of_le_of_lt (List.length_take_le' _ _) ?_
          rw [J.l2]
          exact small1000 (Nat.le_trans FA.two (by decide))
        · rw [upd_same, take_more hb, List.map_append]
          rfl
      rcases (J.it i z y _ hz hy hb).same (s1.trans s23) with ⟨no, eb⟩ | ⟨q2, ys, rfl, hq, l, it, eb⟩
      · rw [eb] at fin
        exact .inl ⟨no, fun H2 s4 => ⟨false, rfl, fin H2 s4⟩⟩
      · rw [eb] at fin
        exact .inr ⟨q2, ys, rfl, hq, l, it, fun H2 s4 => ⟨_, rfl, fin H2 s4⟩⟩
    · rintro H' ⟨s2, e2⟩
      rw [← J.l2, List.take_length] at e2
      refine ⟨D, bs, rfl, SqL.of e2, ?_⟩
      have s3 := s1.trans s2
      cases hall : bs.all id with
      | false => exact ⟨_, rfl, iteTB rfl ⟨.ref p, rfl, raise (hE hall) s3⟩⟩
      | true => exact ⟨_, rfl, iteFB rfl (q hall H' s3)⟩

/-! ### value_of -/
def spFVal (CF C CR : Addr) : Sp := fun vs H Q E => ∃ (o tt : Addr) (ts : List TD) (a t r : Addr) (b : Int) (ds : List Int) (ks : List (Addr × (Int × Int))) (x : V), vs = [.ref o, x] ∧ FormAt CF C H o tt ts a t r b ds ks ∧
  ((NoSeq H x ∧ Raised CR "rows" x H E) ∨ ∃ (p : Addr) (xs : List V), x = .ref p ∧ LT H p xs ∧ ((xs.length ≠ ts.length ∧ Raised CR "rows" x H E) ∨
    ∃ bs : List Bool, RowsJ H ts xs bs ∧ (bs.all id = false → Raised CR "rows" x H E) ∧ (bs.all id = true → ∀ (nss : List (List Int)) (H' : Hp), nss.length = ts.length → (∀ (i : Nat) ns, nss[i]? = some ns → ∃ q, xs[i]? = some (.ref q) ∧ H q = some (.tup (ns.map V.int))) → Same H H' →
      Q (.int ((ts.zip nss).map fun z => z.1.f * valI z.1.b z.2).sum) H')))
abbrev nFv : List Str := ["self", "rows", "factor", "scheme", "row"]
theorem scFv : FnScope nFv ["self", "rows"] (defScope sFoVal) := ⟨rfl, rfl, rfl, by decide +kernel, rfl, by decide +kernel, by decide +kernel⟩
theorem ints_it {H : Hp} (ns : List Int) : ∀ v ∈ ns.map V.int, ItemOk H v := fun v hv => by
  obtain ⟨n, _, rfl⟩ := List.mem_map.mp hv
  exact .inl ⟨n, rfl⟩
/-- a row of the term: its digits -/
def RowOf (H : Hp) (z : TD) (v : V) (ns : List Int) : Prop := ∃ q : Addr, v = .ref q ∧ H q = some (.tup (ns.map V.int)) ∧ rowB z.ds z.ks (ns.map V.int) = true ∧ ns.length ≤ 1000
theorem rows_of {H : Hp} : ∀ (ts : List TD) (xs : List V) (bs : List Bool), RowsJ H ts xs bs → bs.all id = true → ∃ nss : List (List Int), nss.length = ts.length ∧ ∀ (i : Nat) z v ns, ts[i]? = some z → xs[i]? = some v → nss[i]? = some ns → RowOf H z v ns
  | [], xs, bs, J, _ => ⟨[], rfl, fun i z v ns h => by simp at h⟩
  | z :: ts, xs, bs, J, all => by
    obtain ⟨l1, l2, it⟩ := J
    cases xs with
    | nil => exact absurd l1 (by simp)
    | cons v xs =>
      cases bs with
      | nil => exact absurd l2 (by simp)
      | cons b bs =>
        rw [List.all_cons, Bool.and_eq_true] at all
        obtain ⟨nss, ln, each⟩ := rows_of ts xs bs ⟨by simpa using l1, by simpa using l2, fun i z v b h1 h2 h3 => it (i + 1) z v b h1 h2 h3⟩ all.2
        have h0 := it 0 z v b rfl rfl rfl
        have hb : b = true := all.1
        obtain ⟨q, ys, rfl, hq, l, io, eb⟩ : ∃ (p : Addr) (xs : List V), v = .ref p ∧ H p = some (.tup xs) ∧ xs.length ≤ 1000 ∧ (∀ y ∈ xs, ItemOk H y) ∧ b = rowB z.ds z.ks xs := by
          rcases h0 with ⟨_, e⟩ | h0
          · rw [hb] at e
            cases e
          · exact h0
        rw [hb] at eb
        obtain ⟨ns, rfl⟩ := rowB_ints eb.symm
        rw [List.length_map] at l
        refine ⟨ns :: nss, by rw [List.length_cons, List.length_cons, ln], fun i z2 v2 ns2 h1 h2 h3 => ?_⟩
        cases i with
        | zero =>
          cases h1
          cases h2
          cases h3
          exact ⟨q, rfl, hq, eb.symm, l⟩
        | succ i => exact each i z2 v2 ns2 h1 h2 h3
theorem fac_small {n : Int} (h : facB n = true) : -2 ≤ n ∧ n ≤ 2 := by
  unfold facB at h
  rw [Bool.and_eq_true, Bool.and_eq_true, decide_eq_true_eq, decide_eq_true_eq] at h
  exact h.1
set_option maxHeartbeats 2000000 in
theorem ok_fval {f fK fV CF C CR CW : Addr} {fd fdK fdV : FuncData} (F : Fun K "value_of" "Form.value_of" sFoVal f fd) (cF : Cls K CF) (n1 : NoAttr K CF "_terms")
    (GK : FnOk P w K mg base (L2.CX P w) 7 fK fdK ["form", "value"] (spCheckR CF C CR)) (gK : mg "check_rows" = some (.ref fK)) (kK : PySem.W.keepIn K (.ref fK) = true) (bK : Binds K fdK ["form", "value"] [])
    (c : Cls K C) (mV : Meth K C "value_of" fV) (GV : FnOk P w K mg base (L2.CX P w) 7 fV fdV ["self", "row"] (spValueOf C CW)) (bV : Binds K fdV ["self", "row"] [])
    (msu : mg "sum" = none) (mz : mg "zip" = none) : FnOk P w K mg base (L2.CX P w) 8 f fd ["self", "rows"] (spFVal CF C CR) := by
  refine F.okX scFv (fun vs H Q E h => ?_) (fun cdv A outer s H vs Q E hr h => ?_)
  · obtain ⟨o, tt, ts, a, t, r, b, ds, ks, x, rfl, _⟩ := h
    rfl
  · obtain ⟨o, tt, ts, a, t, r, b, ds, ks, x, rfl, FA, h⟩ := h
    apply Exists.intro
    apply And.intro
    · apply pss_cons
      · exact ps_expr (pe_call GK hr (by rfl) gK kK bK .nil (passes_call (W := fun cl d _ J => E cl d J) (takes_of rfl rfl rfl rfl) (fun _ _ _ _ z => z)) (pa_cons (pv 0) (pa_cons (pv 1) pa_nil)))
      apply pss_one
      · exact ps_ret (pe_callB (cr_sum rfl) (by rfl) msu (by decide +kernel) (pa_cons (pe_lc (own := [("factor", 2), ("scheme", 3), ("row", 4)]) (g := gTup K 2 (gCons (gTup K 2 (gCons (gName 2) (gCons (gName 3) gNil))) (gCons (gName 4) gNil))) (tt := tYes) rfl scFv.nd
            (pi_zipM (by rfl) mz (pa_cons (pe_fld (pv 0) rfl) (pa_cons (pv 1) pa_nil)))
            (blkOk_by (own := [("factor", 2), ("scheme", 3), ("row", 4)]) (N := nFv) (sc := defScope sFoVal) (by decide +kernel))
            (fun _ _ _ _ _ => by exact (pg_tup rfl (pgs_cons (pg_tup rfl (pgs_cons (pg_name (i := 2) scFv.nd rfl (Or.inl rfl)) (pgs_cons (pg_name (i := 3) scFv.nd rfl (Or.inl rfl)) pgs_nil))) (pgs_cons (pg_name (i := 4) scFv.nd rfl (Or.inl rfl)) pgs_nil))))
            (fun _ _ _ _ _ => pts_nil) (fun _ _ _ _ _ => by exact (pe_op op_mul (pv 2) (pe_meth (pv 3) c mV GV hr bV .nil passNo (pa_cons (pv 4) pa_nil))))) pa_nil))
    refine ⟨.ref o, rfl, x, rfl, o, tt, ts, a, t, r, b, ds, ks, x, rfl, FA, ?_⟩
    rcases h with ⟨no, hE⟩ | ⟨p, xs, rfl, hp, h⟩
    · exact .inl ⟨no, hE⟩
    rcases h with ⟨ne, hE⟩ | ⟨bs, J, hE, q⟩
    · exact .inr ⟨p, xs, rfl, hp, .inl ⟨ne, hE⟩⟩
    refine .inr ⟨p, xs, rfl, hp, .inr ⟨bs, J, hE, fun hall H1 s1 => ?_⟩⟩
    obtain ⟨nss, ln, rows⟩ := rows_of ts xs bs J hall
    have p1 := hp.same s1
    obtain ⟨⟨dx, g, ho⟩, hm, each, _, _, two⟩ := FA.same s1
    obtain ⟨kd, hkd⟩ : ∃ kd : Bool, ∀ H', Same H1 H' → Sq K kd H' p xs := by
      rcases p1 with z | z
      · exact ⟨true, fun H' s => SqL.of (s _ _ z)⟩
      · exact ⟨false, fun H' s => SqT.of (s _ _ z)⟩
    refine ⟨.ref o, rfl, o, CF, dx, _, .ref tt, rfl, ho, cF, n1, lkf_terms, .ref p, rfl, tt, p, _, xs, rfl, SqT.of hm, lc_zipM (n := ts.length) (by rw [List.length_map]) J.l1 (SqT.of hm) (hkd H1 (Same.refl _)) fun D hD => ⟨fun i H' => Same H1 H' ∧ H' D = some (.lst (((ts.zip nss).take i).map fun z => V.int (z.1.f * valI z.1.b z.2))), ⟨⟨same_new hD, upd_same⟩, (fun i H' _ z => ⟨SqT.of (z.1 _ _ hm), hkd H' z.1⟩), ?_, ?_⟩⟩⟩
    · rintro i U2 x y H' hx hy ⟨s2, e2⟩ hU2
      rw [List.getElem?_map] at hx
      obtain ⟨z, hz, rfl⟩ := Option.map_eq_some_iff.mp hx
      have hi : i < nss.length := by
        rw [ln]
        exact (List.getElem?_eq_some_iff.mp hz).1
      have hn : nss[i]? = some nss[i] := List.getElem?_eq_getElem hi
      obtain ⟨q2, rfl, hq, hrow, hl⟩ := rows i z y _ hz hy hn
      have s3 := same_new (o := .tup [tV z, .ref q2]) hU2
      have s23 := s2.trans s3
      have tz := (each z (List.mem_of_getElem? hz)).same s23
      obtain ⟨⟨dz, iz⟩, _⟩ := id tz.sch
      have hzip : (ts.zip nss)[i]? = some (z, nss[i]) := by
        rw [List.getElem?_zip_eq_some]
        exact ⟨hz, hn⟩
      have fs := fac_small tz.fac
      refine ⟨U2, _, rfl, SqT.of upd_same, rfl, tV z, [.ref q2], rfl, z.p, _, rfl, SqT.of tz.tup, rfl, .int z.f, _, rfl, .ref z.s, [], rfl, rfl, .ref q2, [], rfl, rfl, rfl, tYes_if ?_⟩
      refine ⟨.int z.f, rfl, .ref z.s, rfl, z.s, dz, _, rfl, iz, rfl, .ref q2, rfl, z.s, z.t, z.r, z.b, z.ds, z.ks, .ref q2, rfl, tz.sch, tz.bas, .inr ⟨q2, _, rfl, (s1.trans s23) _ _ hq, by rw [List.length_map]; exact hl, ints_it _, fun ns2 e2' _ H2 s4 => ?_, fun hf => ?_⟩⟩
      · have e3 := ints_inj e2'
        subst e3
        refine ⟨_, _, rfl, rfl, .inl ⟨by omega, by omega⟩, _, s4 _ _ (s3 _ _ e2), ?_, Same.store (s23.trans s4) hD, ?_⟩
        · rw [List.length_map]
          refine Nat.lt_of_le_of_lt (List.length_take_le' _ _) ?_
          rw [List.length_zip, ln, Nat.min_self]
          exact small1000 (Nat.le_trans two (by decide))
        · rw [upd_same, take_more hzip, List.map_append]
          rfl
      · rw [hrow] at hf
        cases hf
    · rintro H' ⟨s2, e2⟩
      have lz : (ts.zip nss).length = ts.length := by rw [List.length_zip, ln, Nat.min_self]
      rw [← lz, List.take_length] at e2
      refine ⟨D, (ts.zip nss).map fun z => z.1.f * valI z.1.b z.2, rfl, SqL.of (by rw [e2, List.map_map]; rfl), ?_⟩
      refine q hall nss H' ln (fun i ns hns => ?_) (s1.trans s2)
      have hi : i < ts.length := by
        rw [← ln]
        exact (List.getElem?_eq_some_iff.mp hns).1
      have hx : i < xs.length := by
        rw [J.l1]
        exact hi
      obtain ⟨q2, e, hq, _⟩ := rows i _ _ ns (List.getElem?_eq_getElem hi) (List.getElem?_eq_getElem hx) hns
      exact ⟨q2, by rw [List.getElem?_eq_getElem hx, e], hq⟩
end
end K31
namespace K31
open PySem PySem.Spec PyProof.Rows L2 OF
abbrev sCell : Stmt := topS 69
abbrev sBox : Stmt := topS 70
abbrev sTake : Stmt := topS 71
abbrev sMixed : Stmt := topS 72
abbrev sDigits : Stmt := topS 73
abbrev sPairs : Stmt := topS 74
abbrev sKin : Stmt := topS 75
abbrev sIsRow : Stmt := topS 76
abbrev sValue : Stmt := topS 77
abbrev sRow : Stmt := topS 78
abbrev sScheme : Stmt := topS 79
abbrev sTold : Stmt := topS 80
abbrev sGoodT : Stmt := topS 81
abbrev sDue : Stmt := topS 82
abbrev sSpoilt : Stmt := topS 83
abbrev sNear : Stmt := topS 84
abbrev sLate : Stmt := topS 85
abbrev sValues : Stmt := topS 86
abbrev sRight : Stmt := topS 87
abbrev sLaw : Stmt := topS 88


section
variable {P : Program} {w : World} {K : PySem.W.Frag} {mg : Str → Option Value} {base : Heap}
theorem scC : FnScope ["_law_script", "_law_k"] ["_law_script", "_law_k"] (defScope sCell) := ⟨rfl, rfl, rfl, by decide +kernel, rfl, by decide +kernel, by decide +kernel⟩
theorem ok_cell {f : Addr} {fd : FuncData} (F : Fun K "_law_cell" "_law_cell" sCell f fd) (ml : mg "len" = none) : FnOk P w K mg base CX0 1 f fd ["_law_script", "_law_k"] (OF.spCell K) := by
  refine F.ok scC (fun vs H Q E h => ?_) (fun cdv A outer s H vs Q E hr h => ?_)
  · obtain ⟨a, ns, k, rfl, _⟩ := h
    rfl
  · obtain ⟨a, ns, k, rfl, hS, hk, q⟩ := h
    refine ⟨_, pss_cons (ps_if (pt_cmpR op_lt (pv 1) (pe_callB call_len_seq (by rfl) ml PySem.boot_len (pa_cons (pv 0) pa_nil)) (nomark _))
        (pss_one (ps_ret (pe_ix ix_list (pv 0) (pv 1) (fun _ _ => rfl)))) pss_nil)
      (pss_one (ps_ret (pe_op op_add (pe_op op_mul pe_int (pv 1)) pe_int))), ?_⟩
    refine ⟨.int k, rfl, .ref a, rfl, a, ns.map V.int, rfl, .inl hS, k, _, rfl, rfl, _, rfl, ite2 (fun c => ?_) (fun c => ?_)⟩
    · have c1 : k < ns.length := by
        have c2 := of_decide_eq_true c
        rw [List.length_map] at c2
        omega
      have g : (ns.map V.int)[k]? = some (.int ns[k]) := by
        rw [List.getElem?_map, List.getElem?_eq_getElem c1]
        rfl
      exact ⟨.ref a, rfl, .int k, rfl, a, _, k, .int ns[k], rfl, rfl, hS, atI_nat g, q _⟩
    · exact ⟨.int k, rfl, _, _, rfl, rfl, .inl ⟨by decide, by decide⟩, _, _, rfl, rfl, q _⟩
theorem scB : FnScope ["_law_cell_here"] ["_law_cell_here"] (defScope sBox) := ⟨rfl, rfl, rfl, by decide +kernel, rfl, by decide +kernel, by decide +kernel⟩
theorem ok_box {f : Addr} {fd : FuncData} (F : Fun K "_law_box" "_law_box" sBox f fd) (mi : mg "int" = none) (mm : mg "max" = none) : FnOk P w K mg base CX0 1 f fd ["_law_cell_here"] spBox := by
  refine F.ok scB (fun vs H Q E h => ?_) (fun cdv A outer s H vs Q E hr h => ?_)
  · obtain ⟨c, rfl, _⟩ := h
    rfl
  · obtain ⟨c, rfl, q⟩ := h
    refine ⟨_, pss_one (ps_ret (pe_lst (pa_cons (pe_callB (call_max2 rfl) (by rfl) mm PyProof.Rows.boot_max (pa_cons pe_int (pa_cons (pe_op op_sub (pv 0) (pe_op op_pow pe_int pe_int)) pa_nil)))
      (pa_cons (pe_op op_modR (pe_callTy call_int1 (by rfl) mi PyProof.Rows.boot_int (pa_cons (pv 0) pa_nil)) pe_int) (pa_cons pe_int pa_nil))))), ?_⟩
    refine ⟨.int c, rfl, _, _, rfl, rfl, ⟨by decide, by decide, by decide⟩, _, _, rfl, rfl, _, _, rfl, .int c, rfl, .inl ⟨_, rfl, _, _, rfl, rfl, by decide, fun r r0 r1 => ?_⟩⟩
    refine ⟨by show 3 ≤ sizeLine; decide, fun p hp => ?_⟩
    refine q p _ hp (same_new hp) ⟨_, r, 0, upd_same, ?_, r0, by omega, by decide, by decide⟩
    split <;> omega
theorem scT : FnScope ["_law_box_here", "_law_many", "_law_digit", "_law_number"] ["_law_box_here", "_law_many"] (defScope sTake) := ⟨rfl, rfl, rfl, by decide +kernel, rfl, by decide +kernel, by decide +kernel⟩
theorem ok_take {f : Addr} {fd : FuncData} (F : Fun K "_law_take" "_law_take" sTake f fd) (mi : mg "int" = none) : FnOk P w K mg base CX0 1 f fd ["_law_box_here", "_law_many"] spTake := by
  refine F.ok scT (fun vs H Q E h => ?_) (fun cdv A outer s H vs Q E hr h => ?_)
  · obtain ⟨a, m, n, rfl, _⟩ := h
    rfl
  · obtain ⟨a, m, n, rfl, ⟨b0, b1, b2, hH, p0, p1, q1, p2, q2⟩, hn, hm, hmb, q⟩ := h
    refine ⟨_, pss_cons (ps_if (pt_cmpR op_gt (pe_ix ix_list (pv 0) pe_int (fun _ _ => rfl)) pe_int (nomark _))
        (pss_cons (ps_set (i := 2) scT.nd rfl (.inl rfl) (pe_op op_modR (pe_callTy call_int1 (by rfl) mi PyProof.Rows.boot_int (pa_cons (pe_ix ix_list (pv 0) pe_int (fun _ _ => rfl)) pa_nil)) (pv 1)))
        (pss_cons (ps_asg (pe_op op_fdivW (pe_ix ix_list (pv 0) pe_int (fun _ _ => rfl)) (pv 1)) (pg_sub (pv 0) pe_int set_list))
        (pss_one (ps_ret (pv 2))))) pss_nil)
      (pss_cons (ps_asg (pe_op op_add (pe_ix ix_list (pv 0) pe_int (fun _ _ => rfl)) pe_int) (pg_sub (pv 0) pe_int set_list))
      (pss_cons (ps_set (i := 3) scT.nd rfl (.inl rfl) (pe_op op_modR (pe_op op_pow (pe_callTy call_int1 (by rfl) mi PyProof.Rows.boot_int
          (pa_cons (pe_op op_add (pe_op op_add (pe_ix ix_list (pv 0) pe_int (fun _ _ => rfl)) (pe_op op_mul pe_int (pe_ix ix_list (pv 0) pe_int (fun _ _ => rfl)))) pe_int) pa_nil)) pe_int) pe_int))
      (pss_cons (ps_set (i := 3) scT.nd rfl (.inl rfl) (pe_op op_modR (pe_op op_pow (pe_callTy call_int1 (by rfl) mi PyProof.Rows.boot_int
          (pa_cons (pe_op op_add (pv 3) (pe_op op_mul pe_int (pe_ix ix_list (pv 0) pe_int (fun _ _ => rfl)))) pa_nil)) pe_int) pe_int))
      (pss_one (ps_ret (pe_op op_modR (pe_callTy call_int1 (by rfl) mi PyProof.Rows.boot_int (pa_cons (pe_op op_fdiv (pv 3) pe_int) pa_nil)) (pv 1))))))), ?_⟩
    refine ⟨.ref a, rfl, a, _, 0, .int b0, rfl, rfl, SqL.of hH, atI_nat (j := 0) rfl, b0, 0, rfl, rfl, _, rfl, ite2 (fun c => ?_) (fun c => ?_)⟩
    · refine ⟨.ref a, rfl, a, _, 0, .int b0, rfl, rfl, SqL.of hH, atI_nat (j := 0) rfl, .inl ⟨b0, rfl, .int m, rfl, b0, m, rfl, rfl, hm, fun r r0 r1 => ?_⟩⟩
      refine ⟨.ref a, rfl, a, _, 0, .int b0, rfl, rfl, SqL.of hH, atI_nat (j := 0) rfl, .int m, rfl, b0, m, rfl, rfl, wide_div hm hmb (by decide) (by decide), ?_⟩
      refine ⟨.ref a, rfl, a, _, 0, 0, rfl, rfl, hH, rfl, ?_⟩
      refine ⟨.int r, rfl, q r _ r0 r1 But.at_ ⟨b0 / m, b1, b2, upd_same, Int.ediv_nonneg p0 (by omega), p1, q1, p2, by omega⟩⟩
    · refine ⟨.ref a, rfl, a, _, 2, .int b2, rfl, rfl, SqL.of hH, atI_nat (j := 2) rfl, b2, 1, rfl, rfl, .ref a, rfl, a, _, 2, 2, rfl, rfl, hH, rfl, ?_⟩
      have hH1 : (upd H a (.lst [.int b0, .int b1, .int (b2 + 1)])) a = some (.lst [.int b0, .int b1, .int (b2 + 1)]) := upd_same
      refine ⟨.ref a, rfl, a, _, 1, .int b1, rfl, rfl, SqL.of hH1, atI_nat (j := 1) rfl, .ref a, rfl, a, _, 2, .int (b2 + 1), rfl, rfl, SqL.of hH1, atI_nat (j := 2) rfl,
        _, _, rfl, rfl, .inl ⟨by decide, by decide⟩, _, _, rfl, rfl, _, _, rfl, rfl, .inl ⟨_, rfl, _, _, rfl, rfl, ⟨by decide, by decide, by omega⟩, _, _, rfl, rfl, by decide, fun r r0 r1 => ?_⟩⟩
      refine ⟨.int r, rfl, .ref a, rfl, a, _, 2, .int (b2 + 1), rfl, rfl, SqL.of hH1, atI_nat (j := 2) rfl,
        _, _, rfl, rfl, .inl ⟨by decide, by decide⟩, _, _, rfl, rfl, .inl ⟨_, rfl, _, _, rfl, rfl, ⟨by decide, by decide, by omega⟩, _, _, rfl, rfl, by decide, fun r' r0' r1' => ?_⟩⟩
      refine ⟨.int r', rfl, _, _, rfl, rfl, ⟨by decide, by decide⟩, .inl ⟨_, rfl, .int m, rfl, _, _, rfl, rfl, hm, fun r2 h0 h1 => ?_⟩⟩
      exact q r2 _ h0 h1 But.at_ ⟨b0, b1, b2 + 1, upd_same, p0, p1, q1, by omega, by omega⟩

theorem _root_.OF.But.free_ {a p : Addr} {H H' : Hp} (t : OF.But a H H') (n : p ≠ a) (h : H' p = none) : H p = none := by
  rcases Option.eq_none_or_eq_some (H p) with z | ⟨o, z⟩
  · exact z
  · rw [t p o n z] at h
    cases h
/-! ### lists in order -/
theorem sorted_ext {α : Type} {r : α → α → Prop} (as : ∀ a b, r a b → ¬ r b a) : ∀ {l m : List α}, l.Pairwise r → m.Pairwise r → (∀ x, x ∈ l ↔ x ∈ m) → l = m
  | [], [], _, _, _ => rfl
  | [], y :: m, _, _, h => absurd ((h y).mpr List.mem_cons_self) List.not_mem_nil
  | x :: l, [], _, _, h => absurd ((h x).mp List.mem_cons_self) List.not_mem_nil
  | x :: l, y :: m, h1, h2, h => by
    obtain ⟨a1, b1⟩ := List.pairwise_cons.mp h1
    obtain ⟨a2, b2⟩ := List.pairwise_cons.mp h2
    have e : x = y := by
      rcases List.mem_cons.mp ((h x).mp List.mem_cons_self) with z | z
      · exact z
      · rcases List.mem_cons.mp ((h y).mpr List.mem_cons_self) with z2 | z2
        · exact z2.symm
        · exact absurd (a1 y z2) (as _ _ (a2 x z))
    subst e
    have e2 : l = m := sorted_ext as b1 b2 fun z => by
      constructor
      · intro hz
        rcases List.mem_cons.mp ((h z).mp (List.mem_cons_of_mem _ hz)) with q | q
        · subst q
          exact absurd (a1 z hz) (as _ _ (a1 z hz))
        · exact q
      · intro hz
        rcases List.mem_cons.mp ((h z).mpr (List.mem_cons_of_mem _ hz)) with q | q
        · subst q
          exact absurd (a2 z hz) (as _ _ (a2 z hz))
        · exact q
    rw [e2]
theorem erase_map {α β : Type} (f : α → β) : ∀ (l : List α) (k : Nat), (l.map f).eraseIdx k = (l.eraseIdx k).map f
  | [], _ => rfl
  | _ :: _, 0 => rfl
  | x :: l, k + 1 => by
    show f x :: (l.map f).eraseIdx k = f x :: (l.eraseIdx k).map f
    rw [erase_map f l k]
theorem erase_perm {α : Type} : ∀ (l : List α) (k : Nat) (h : k < l.length), (l[k] :: l.eraseIdx k).Perm l
  | x :: l, 0, _ => List.Perm.refl _
  | x :: l, k + 1, h => by
    have h2 : k < l.length := Nat.lt_of_succ_lt_succ h
    show (l[k] :: x :: l.eraseIdx k).Perm (x :: l)
    exact (List.Perm.swap _ _ _).trans ((erase_perm l k h2).cons x)
/-- pairs by their order -/
def lexP (p q : Int × Int) : Prop := p.1 < q.1 ∨ (p.1 = q.1 ∧ p.2 < q.2)
theorem lexP_as (p q : Int × Int) (h : lexP p q) : ¬ lexP q p := by
  intro z
  unfold lexP at h z
  omega
/-- all pairs, in order -/
def prod (ns : List Int) : List (Int × Int) := ns.flatMap fun x => ns.map fun y => (x, y)
theorem prod_aux {ms : List Int} (hm : ms.Pairwise (· < ·)) : ∀ {ns : List Int}, ns.Pairwise (· < ·) → (ns.flatMap fun x => ms.map fun y => (x, y)).Pairwise lexP
  | [], _ => List.Pairwise.nil
  | x :: ns, h => by
    obtain ⟨a, b⟩ := List.pairwise_cons.mp h
    rw [List.flatMap_cons, List.pairwise_append]
    refine ⟨?_, prod_aux hm b, fun p hp q hq => ?_⟩
    · rw [List.pairwise_map]
      exact hm.imp fun z => .inr ⟨rfl, z⟩
    · obtain ⟨y, _, rfl⟩ := List.mem_map.mp hp
      obtain ⟨x2, hx2, hq⟩ := List.mem_flatMap.mp hq
      obtain ⟨y2, _, rfl⟩ := List.mem_map.mp hq
      exact .inl (a x2 hx2)
theorem prod_mem {ns : List Int} {p : Int × Int} (h : p ∈ prod ns) : p.1 ∈ ns ∧ p.2 ∈ ns := by
  obtain ⟨x, hx, hp⟩ := List.mem_flatMap.mp h
  obtain ⟨y, hy, rfl⟩ := List.mem_map.mp hp
  exact ⟨hx, hy⟩
theorem flat_len {ms : List Int} : ∀ (ns : List Int), (ns.flatMap fun x => ms.map fun y => (x, y)).length = ns.length * ms.length
  | [] => by simp
  | x :: ns => by
    rw [List.flatMap_cons, List.length_append, flat_len ns, List.length_map, List.length_cons, Nat.succ_mul]
    omega
/-- the parts of a scheme that a law draws -/
structure Good (b : Int) (ns : List Int) (ps : List (Int × Int)) : Prop where
  b : isBase b = true
  asc : ns.Pairwise (· < ·)
  one : 1 ≤ ns.length
  six : ns.length ≤ 6
  dg : ∀ n ∈ ns, dig n = true
  mem : ∀ p ∈ ps, p.1 ∈ ns ∧ p.2 ∈ ns
  lex : ps.Pairwise lexP
  few : ps.length ≤ 36
/-- the list of these parts in the heap -/
structure ModAt (H : Hp) (m dl pl : Addr) (b : Int) (ns : List Int) (ks : List (Addr × (Int × Int))) : Prop where
  mo : H m = some (.lst [.int b, .ref dl, .ref pl])
  di : H dl = some (.lst (ns.map V.int))
  pa : H pl = some (.lst (ks.map fun p => V.ref p.1))
  pr : ∀ p ∈ ks, H p.1 = some (.tup [.int p.2.1, .int p.2.2])
theorem ModAt.same {H H' : Hp} {m dl pl : Addr} {b : Int} {ns : List Int} {ks : List (Addr × (Int × Int))} (h : ModAt H m dl pl b ns ks) (s : Same H H') : ModAt H' m dl pl b ns ks :=
  ⟨s _ _ h.mo, s _ _ h.di, s _ _ h.pa, fun p hp => s _ _ (h.pr p hp)⟩
/-- the law's parts of a scheme at m, wherever but the box at a may change -/
def Model (a : Addr) (H : Hp) (m : Addr) (b : Int) (ns : List Int) (ps : List (Int × Int)) : Prop := ∃ (dl pl : Addr) (ks : List (Addr × (Int × Int))), ks.map (·.2) = ps ∧ ∀ H', But a H H' → ModAt H' m dl pl b ns ks
theorem Model.but {a m : Addr} {H H' : Hp} {b : Int} {ns : List Int} {ps : List (Int × Int)} (h : Model a H m b ns ps) (t : But a H H') : Model a H' m b ns ps := by
  obtain ⟨dl, pl, ks, e, z⟩ := h
  exact ⟨dl, pl, ks, e, fun H2 t2 => z H2 (t.trans t2)⟩

/-! ### digits, drawn -/
def mA (b : Int) : Int := if b < 0 then -b else b
theorem mA_cases {b : Int} (h : isBase b = true) : mA b = 2 ∨ mA b = 3 ∨ mA b = 4 ∨ mA b = 5 ∨ mA b = 6 := by
  unfold isBase at h
  unfold mA
  simp only [Bool.or_eq_true, Bool.and_eq_true, decide_eq_true_eq] at h
  split <;> omega
def spDigits : Sp := fun vs H Q _ => ∃ (a : Addr) (b n : Int), vs = [.ref a, .int b] ∧ Box n H a ∧ n ≤ 800000 ∧ isBase b = true ∧
  ∀ (D : Addr) (ns : List Int) (H' : Hp), H D = none → But a H H' → Box (n + 30) H' a → H' D = some (.lst (ns.map V.int)) → ns.Nodup → 1 ≤ ns.length → ns.length ≤ 6 → (∀ k ∈ ns, dig k = true) → Q (.ref D) H'
abbrev nDi : List Str := ["_law_box_here", "_law_base", "_law_way", "_law_many", "_law_first", "_law_some", "_law_pool", "_law_k", "_law_digit"]
theorem scDi : FnScope nDi ["_law_box_here", "_law_base"] (defScope sDigits) := ⟨rfl, rfl, rfl, by decide +kernel, rfl, by decide +kernel, by decide +kernel⟩
theorem rg_ints (a b : Int) : rgV a b = ((List.range (b - a).toNat).map fun (i : Nat) => a + (i : Int)).map V.int := by
  unfold rgV
  rw [List.map_map]
  rfl
theorem rg_nodup (a : Int) (n : Nat) : ((List.range n).map fun (i : Nat) => a + (i : Int)).Nodup := by
  rw [List.nodup_iff_pairwise_ne, List.pairwise_map]
  refine List.nodup_range.imp fun {i j} h e => h ?_
  omega
theorem dig_of {k : Int} (h : -9 ≤ k) (h2 : k ≤ 9) : dig k = true := by
  unfold dig
  rw [decide_eq_true h, decide_eq_true h2]
  rfl
/-- what the second way makes: one number for each remainder -/
def Spread (m : Int) (vs : List Int) (lo hi : Int) : Prop := ∀ (j : Nat) (v : Int), vs[j]? = some v → ∃ c : Int, v = j + m * c ∧ lo ≤ c ∧ c ≤ hi
theorem spread_push {m lo hi c : Int} {vs : List Int} (h : Spread m vs lo hi) (h0 : lo ≤ c) (h1 : c ≤ hi) : Spread m (vs ++ [vs.length + m * c]) lo hi := by
  intro j v e
  rcases Nat.lt_trichotomy j vs.length with z | z | z
  · rw [List.getElem?_append_left z] at e
    exact h j v e
  · subst z
    rw [List.getElem?_append_right (Nat.le_refl _), Nat.sub_self] at e
    cases Option.some.inj e
    exact ⟨c, rfl, h0, h1⟩
  · rw [List.getElem?_eq_none (by rw [List.length_append]; show vs.length + 1 ≤ j; omega)] at e
    cases e
theorem spread_nodup {m lo hi : Int} {vs : List Int} (h : Spread m vs lo hi) (hm : m = 2 ∨ m = 3 ∨ m = 4 ∨ m = 5 ∨ m = 6) (hl : (vs.length : Int) ≤ m) : vs.Nodup := by
  rw [List.nodup_iff_pairwise_ne, List.pairwise_iff_getElem]
  intro i j hi hj hij e
  obtain ⟨c, e1, _⟩ := h i _ (List.getElem?_eq_getElem hi)
  obtain ⟨d, e2, _⟩ := h j _ (List.getElem?_eq_getElem hj)
  rw [e1, e2] at e
  rcases hm with rfl | rfl | rfl | rfl | rfl <;> omega
set_option maxHeartbeats 2000000 in
theorem ok_digits {f fT : Addr} {fd fdT : FuncData} (F : Fun K "_law_digits" "_law_digits" sDigits f fd) (FT : Fun K "_law_take" "_law_take" sTake fT fdT) (gT : mg "_law_take" = some (.ref fT)) (bT : Binds K fdT ["_law_box_here", "_law_many"] [])
    (mi : mg "int" = none) (ml : mg "len" = none) (mr : mg "range" = none) (ms : mg "list" = none) (ma : mg "abs" = none) : FnOk P w K mg base CX0 2 f fd ["_law_box_here", "_law_base"] spDigits := by
  have GT : FnOk P w K mg base CX0 1 fT fdT ["_law_box_here", "_law_many"] spTake := ok_take FT mi
  refine F.ok scDi (fun vs H Q E h => ?_) (fun cdv A outer s H vs Q E hr h => ?_)
  · obtain ⟨a, b, n, rfl, _⟩ := h
    rfl
  · obtain ⟨a, b, n, rfl, hB, hn, hb, q⟩ := h
    apply Exists.intro
    apply And.intro
    · apply pss_cons
      · exact ps_par (i := 2) (j := 3) rfl scDi.nd rfl rfl (by decide) rfl rfl (pa_cons (pe_call GT hr (by rfl) gT FT.kp bT .nil pass0 (pa_cons (pv 0) (pa_cons pe_int pa_nil))) (pa_cons (pe_op op_add pe_int (pe_call GT hr (by rfl) gT FT.kp bT .nil pass0 (pa_cons (pv 0) (pa_cons pe_int pa_nil)))) pa_nil)) (by rfl)
      apply pss_cons
      · exact ps_if (pt_cmpR op_eq (pv 2) pe_int (nomark _)) (pss_cons (ps_set (i := 4) scDi.nd rfl (.inl rfl) (pe_op op_sub (pe_call GT hr (by rfl) gT FT.kp bT .nil pass0 (pa_cons (pv 0) (pa_cons pe_int pa_nil))) pe_int))
          (pss_one (ps_ret (pe_listRg rfl (by rfl) ms (prg_2 (by rfl) mr (pv 4) (pe_op op_add (pv 4) (pv 3))))))) pss_nil
      apply pss_cons
      · exact ps_if (pt_cmpR op_eq (pv 2) pe_int (nomark _)) (pss_cons (ps_setLc (i := 5) (own := [("_law_k", 7)]) (g := gName 7) (tt := tYes) rfl scDi.nd rfl rfl (sw_true rfl rfl rfl (by decide +kernel)) (pi_range1 rfl mr (pa_cons (pe_callB call_abs (by rfl) ma (by decide +kernel) (pa_cons (pv 1) pa_nil)) pa_nil))
              (blkOk_by (own := [("_law_k", 7)]) (N := nDi) (sc := defScope sDigits) (by decide +kernel)) (fun _ _ _ _ _ => pg_name (i := 7) scDi.nd rfl (Or.inl rfl)) (fun _ _ _ _ _ => pts_nil)
              (fun _ _ _ _ _ => by exact (pe_op op_add (pv 7) (pe_op op_mul (pe_callB call_abs (by rfl) ma (by decide +kernel) (pa_cons (pv 1) pa_nil)) (pe_op op_sub (pe_call GT hr (by rfl) gT FT.kp bT .nil pass0 (pa_cons (pv 0) (pa_cons pe_int pa_nil))) pe_int)))))
          (pss_one (ps_ret (pe_lc (own := [("_law_digit", 8)]) (g := gName 8) (tt := tYes) rfl scDi.nd (pi_list (pv 5)) (blkOk_by (own := [("_law_digit", 8)]) (N := nDi) (sc := defScope sDigits) (by decide +kernel)) (fun _ _ _ _ _ => pg_name (i := 8) scDi.nd rfl (Or.inl rfl)) (fun _ _ _ _ _ => pts_nil)
              (fun _ _ _ _ _ => by exact (pe_op op_sub (pv 8) (pe_op op_mul (pe_callB call_abs (by rfl) ma (by decide +kernel) (pa_cons (pv 1) pa_nil)) (pe_callTy call_int1 (by rfl) mi PyProof.Rows.boot_int (pa_cons (pe_cmpR op_gt (pv 8) pe_int (nomark _)) pa_nil)))))))) ) pss_nil
      apply pss_cons
      · exact ps_set (i := 6) scDi.nd rfl (.inr rfl) (pe_listRg rfl (by rfl) ms (prg_2 (by rfl) mr (pe_un un_neg pe_int) pe_int))
      apply pss_one
      · exact ps_ret (pe_lc (own := [("_law_k", 7)]) (g := gName 7) (tt := tYes) (te := tBM K "list" rPopAt (tVar 6) (tCons (tCall spTake [] E0 (tCons (tVar 0) (tCons (tCB (rLenS K) (tCons (tVar 6) tNil)) tNil))) tNil)) rfl scDi.nd (pi_range1 rfl mr (pa_cons (pv 3) pa_nil))
        (blkOk_by (own := [("_law_k", 7)]) (N := nDi) (sc := defScope sDigits) (by decide +kernel)) (fun _ _ _ _ _ => pg_name (i := 7) scDi.nd rfl (Or.inl rfl)) (fun _ _ _ _ _ => pts_nil)
        (fun _ _ _ _ _ => by exact (pe_bm PySem.F.plainAttrs_list PySem.F.slot_list_pop PySem.F.type_list_pop mt_popAt (pv 6)
          (pa_cons (pe_call GT hr (by rfl) gT FT.kp bT .nil pass0 (pa_cons (pv 0) (pa_cons (pe_callB call_len_seq (by rfl) ml PySem.boot_len (pa_cons (pv 6) pa_nil)) pa_nil))) pa_nil))))
    refine ⟨.ref a, rfl, a, 4, n, rfl, hB, by omega, by decide, by decide, fun wy H1 w0 w1 t1 B1 => ?_⟩
    refine ⟨.ref a, rfl, a, 6, n + 1, rfl, B1, by omega, by decide, by decide, fun mm H2 m0 m1 t2 B2 => ?_⟩
    have T2 := t1.trans t2
    refine ⟨1, mm, rfl, rfl, .int wy, .int (1 + mm), rfl, ?_⟩
    refine ⟨.int wy, rfl, rfl, _, rfl, ite2 (fun c => ?_) (fun c => ?_)⟩
    · refine ⟨.ref a, rfl, a, 4, n + 1 + 1, rfl, B2, by omega, by decide, by decide, fun r H3 r0 r1 t3 B3 => ?_⟩
      refine ⟨r, 3, rfl, rfl, .int (r - 3), rfl, .int (r - 3), rfl, .int (1 + mm), rfl, r - 3, 1 + mm, rfl, rfl, r - 3, r - 3 + (1 + mm), rfl, rfl, ⟨by omega, by omega, by omega, by omega, by omega⟩, fun D hD => ?_⟩
      have nDa := B3.ne hD
      have hD0 : H D = none := (T2.trans t3).free_ nDa hD
      refine q D ((List.range (r - 3 + (1 + mm) - (r - 3)).toNat).map fun (i : Nat) => (r - 3) + (i : Int)) _ hD0 ((T2.trans t3).trans (But.new hD)) ((B3.new hD).mono (by omega)) ?_ (rg_nodup _ _) ?_ ?_ fun k hk => ?_
      · rw [upd_same, rg_ints]
      · rw [List.length_map, List.length_range]
        omega
      · rw [List.length_map, List.length_range]
        omega
      · obtain ⟨i, hi, rfl⟩ := List.mem_map.mp hk
        have := List.mem_range.mp hi
        exact dig_of (by omega) (by omega)
    · refine ⟨.int wy, rfl, rfl, _, rfl, ite2 (fun c1 => ?_) (fun c1 => ?_)⟩
      · have hm := mA_cases hb
        refine ⟨.int b, rfl, b, rfl, mA b, rfl, by omega, by omega, fun D hD => ?_⟩
        have nDa := B2.ne hD
        refine lc_range (lo := 0) (n := (mA b).toNat) (fun i H' => But a H2 H' ∧ Box (n + 2 + i) H' a ∧ ∃ ws : List Int, H' D = some (.lst (ws.map V.int)) ∧ ws.length = i ∧ Spread (mA b) ws (-1) 1) ⟨But.new hD, (B2.new hD).mono (by omega), [], upd_same, rfl, fun j v e => by simp at e⟩ ?_ ?_
        · rintro i H' hi ⟨t, B, ws, eD, lw, hs⟩
          refine ⟨rfl, tYes_if ⟨.int (0 + i), rfl, .int b, rfl, b, rfl, .ref a, rfl, a, 3, n + 2 + i, rfl, B, by omega, by decide, by decide, fun r H3 r0 r1 t3 B3 => ?_⟩⟩
          refine ⟨r, 1, rfl, rfl, mA b, r - 1, rfl, rfl, .inl ⟨by omega, by omega⟩, 0 + i, mA b * (r - 1), rfl, rfl, _, t3 _ _ nDa eD, ?_, (t.trans t3).store hD, (B3.upd nDa).mono (by omega), ws ++ [(ws.length : Int) + mA b * (r - 1)], ?_, ?_, spread_push hs (by omega) (by omega)⟩
          · rw [List.length_map, lw]
            exact small1000 (by omega)
          · rw [upd_same, List.map_append, lw, Int.zero_add]
            rfl
          · rw [List.length_append, lw]
            rfl
        · rintro H3 ⟨t, B, ws, eD, lw, hs⟩
          refine ⟨.ref D, rfl, D, rfl, ⟨_, SqL.of eD⟩, fun D2 hD2 => ?_⟩
          have nD2a := B.ne hD2
          have hD20 : H D2 = none := (T2.trans t).free_ nD2a hD2
          refine lc_list (K := K) (a := D) (xs := ws.map V.int) (fun i H' => Same H3 H' ∧ ∃ ms : List Int, H' D2 = some (.lst (ms.map V.int)) ∧ ms.length = i ∧ Spread (mA b) ms (-2) 1 ∧ ∀ k ∈ ms, dig k = true) ⟨same_new hD2, [], upd_same, rfl, (fun j v e => by simp at e), fun k h => by cases h⟩ (fun i H' _ h => SqL.of (h.1 _ _ eD)) ?_ ?_
          · rintro i x H' hx ⟨s3, ms, e2, lm, sp, dg⟩
            obtain ⟨v, hv, rfl⟩ := get_map hx
            obtain ⟨c0, ev, c1', c2'⟩ := hs i v hv
            have hi : i < ws.length := (List.getElem?_eq_some_iff.mp hv).1
            have key : ∃ cc : Int, v - mA b * (if (decide ((9 : Int) < v)) = true then 1 else 0) = (i : Int) + mA b * cc ∧ -2 ≤ cc ∧ cc ≤ 1 ∧ -9 ≤ (i : Int) + mA b * cc ∧ (i : Int) + mA b * cc ≤ 9 := by
              by_cases h9 : (9 : Int) < v
              · rw [decide_eq_true h9, if_pos rfl]
                refine ⟨c0 - 1, ?_, by omega, by omega, ?_, ?_⟩ <;> rcases hm with e | e | e | e | e <;> rw [e] at ev lw ⊢ <;> omega
              · rw [decide_eq_false h9, if_neg (by decide)]
                refine ⟨c0, ?_, by omega, by omega, ?_, ?_⟩ <;> rcases hm with e | e | e | e | e <;> rw [e] at ev lw ⊢ <;> omega
            obtain ⟨cc, ek, k1, k2, k3, k4⟩ := key
            refine ⟨rfl, tYes_if ⟨.int v, rfl, .int b, rfl, b, rfl, .int v, rfl, v, 9, rfl, rfl, .inr ⟨_, rfl, mA b, (if (decide ((9 : Int) < v)) = true then 1 else 0), rfl, rfl, .inl ⟨by omega, by omega⟩, v, mA b * (if (decide ((9 : Int) < v)) = true then 1 else 0), rfl, rfl, _, e2, ?_, Same.store s3 hD2, ms ++ [(ms.length : Int) + mA b * cc], ?_, ?_, spread_push sp k1 k2, fun k hk => ?_⟩⟩⟩
            · rw [List.length_map, lm]
              exact small1000 (by omega)
            · rw [upd_same, List.map_append, lm, ← ek]
              rfl
            · rw [List.length_append, lm]
              rfl
            · rcases List.mem_append.mp hk with z | z
              · exact dg k z
              · cases List.mem_singleton.mp z
                rw [lm]
                exact dig_of k3 k4
          · rintro H4 ⟨s4, ms, e2, lm, sp, dg⟩
            rw [List.length_map] at lm
            refine q D2 ms H4 hD20 ((T2.trans t).trans (But.of_same s4)) ((B.same s4).mono (by omega)) e2 (spread_nodup sp hm (by omega)) (by omega) (by omega) dg
      · refine ⟨9, rfl, -9, 10, rfl, rfl, ⟨by decide, by decide, by decide, by decide, by decide⟩, fun l hl => ?_⟩
        have nla := B2.ne hl
        have hl0 : H l = none := T2.free_ nla hl
        have el : (upd H2 l (.lst (rgV (-9) 10))) l = some (.lst (((List.range 19).map fun (i : Nat) => (-9 : Int) + (i : Int)).map V.int)) := by
          rw [upd_same, rg_ints]
          rfl
        have tn : But a H2 (upd H2 l (.lst (rgV (-9) 10))) := But.new hl
        have Bn : Box (n + 2) (upd H2 l (.lst (rgV (-9) 10))) a := (B2.new hl).mono (by omega)
        have nfull : ((List.range 19).map fun (i : Nat) => (-9 : Int) + (i : Int)).Nodup := rg_nodup _ _
        have dfull : ∀ k ∈ ((List.range 19).map fun (i : Nat) => (-9 : Int) + (i : Int)), dig k = true := by decide +kernel
        have lfull : ((List.range 19).map fun (i : Nat) => (-9 : Int) + (i : Int)).length = 19 := by decide +kernel
        generalize ((List.range 19).map fun (i : Nat) => (-9 : Int) + (i : Int)) = full at el nfull dfull lfull
        generalize upd H2 l (.lst (rgV (-9) 10)) = H3 at el tn Bn ⊢
        refine ⟨.int (1 + mm), rfl, 1 + mm, rfl, by omega, by omega, fun D hD => ?_⟩
        have hDl : D ≠ l := fun e => by rw [e, el] at hD; cases hD
        have nDa := Bn.ne hD
        have hD0 : H D = none := (T2.trans tn).free_ nDa hD
        refine lc_range (lo := 0) (n := (1 + mm).toNat) (fun i H' => But a H H' ∧ Box (n + 2 + i) H' a ∧ ∃ ls acc : List Int, H' l = some (.lst (ls.map V.int)) ∧ H' D = some (.lst (acc.map V.int)) ∧ acc.length = i ∧ (acc ++ ls).Perm full) ?_ ?_ ?_
        · exact ⟨(T2.trans tn).trans (But.new hD), (Bn.new hD).mono (by omega), full, [], by rw [upd_ne hDl.symm]; exact el, upd_same, rfl, List.Perm.refl _⟩
        · rintro i H' hi ⟨t, B, ls, acc, el2, ea, la, pm⟩
          have ll : ls.length + i = 19 := by
            have := pm.length_eq
            rw [List.length_append, lfull] at this
            omega
          refine ⟨rfl, tYes_if ?_⟩
          refine ⟨.ref l, rfl, .inl ⟨rfl, _, SqL.of el2⟩, .ref a, rfl, .ref l, rfl, l, _, rfl, .inl (SqL.of el2), a, ((ls.map V.int).length : Int), n + 2 + i, rfl, B, by omega, by rw [List.length_map]; omega, by rw [List.length_map, Int.natAbs_natCast]; exact Nat.lt_of_le_of_lt (by omega : ls.length ≤ 19) (by decide), fun r H4 r0 r1 t4 B4 => ?_⟩
          rw [List.length_map] at r1
          have e4 : H4 l = some (.lst (ls.map V.int)) := t4 _ _ nla el2
          have hk : r.toNat < ls.length := by omega
          have hk2 : (ls.map V.int)[r.toNat]? = some (.int ls[r.toNat]) := by
            rw [List.getElem?_map, List.getElem?_eq_getElem hk]
            rfl
          refine ⟨l, ls.map V.int, r, r.toNat, .int ls[r.toNat], rfl, rfl, e4, by omega, by omega, (ixN_seq (ixN_in r0 (by rw [List.length_map]; omega))).1, hk2, ?_⟩
          refine ⟨acc.map V.int, ?_, by rw [List.length_map, la]; exact small1000 (by omega), ?_⟩
          · rw [upd_ne hDl]
            exact t4 _ _ nDa ea
          · refine ⟨((t.trans t4).store hl0).store hD0, ((B4.upd nla).upd nDa).mono (by omega), ls.eraseIdx r.toNat, acc ++ [ls[r.toNat]], ?_, ?_, ?_, ?_⟩
            · rw [upd_ne hDl.symm, upd_same, erase_map]
            · rw [upd_same, List.map_append]
              rfl
            · rw [List.length_append, la]
              rfl
            · rw [List.append_assoc]
              exact (List.Perm.append_left acc (erase_perm ls r.toNat hk)).trans pm
        · rintro H' ⟨t, B, ls, acc, el2, ea, la, pm⟩
          have nd : acc.Nodup := (List.nodup_append.mp (pm.nodup_iff.mpr nfull)).1
          refine q D acc H' hD0 t (B.mono (by omega)) ea nd (by omega) (by omega) fun k hk => dfull k (pm.mem_iff.mp (List.mem_append_left _ hk))

/-! ### pairs -/
def spPairs (K : PySem.W.Frag) : Sp := fun vs H Q _ => ∃ (dl : Addr) (ns : List Int), vs = [.ref dl] ∧ SqL K H dl (ns.map V.int) ∧ ns.length ≤ 6 ∧
  ∀ (pl : Addr) (ks : List (Addr × (Int × Int))) (H' : Hp), Same H H' → H pl = none → H' pl = some (.lst (ks.map fun p => V.ref p.1)) → (∀ p ∈ ks, H p.1 = none ∧ H' p.1 = some (.tup [.int p.2.1, .int p.2.2])) → ks.map (·.2) = prod ns → Q (.ref pl) H'
abbrev nPa : List Str := ["_law_digits_here", "_law_found", "_law_left", "_law_right_here"]
theorem scPs : FnScope nPa ["_law_digits_here"] (defScope sPairs) := ⟨rfl, rfl, rfl, by decide +kernel, rfl, by decide +kernel, by decide +kernel⟩
theorem ok_pairs {f : Addr} {fd : FuncData} (F : Fun K "_law_pairs" "_law_pairs" sPairs f fd) : FnOk P w K mg base CX0 1 f fd ["_law_digits_here"] (spPairs K) := by
  refine F.ok scPs (fun vs H Q E h => ?_) (fun cdv A outer s H vs Q E hr h => ?_)
  · obtain ⟨dl, ns, rfl, _⟩ := h
    rfl
  · obtain ⟨dl, ns, rfl, hd, h6, q⟩ := h
    apply Exists.intro
    apply And.intro
    · apply pss_cons
      · exact ps_set (i := 1) scPs.nd rfl (.inl rfl) (pe_lst pa_nil)
      apply pss_cons
      · exact ps_for PassesOwn.never rfl (pi_list (pv 0)) (pg_name (i := 2) scPs.nd rfl (.inr rfl))
          (pss_one (ps_set (i := 1) scPs.nd rfl (.inl rfl) (pe_op op_cat (pv 1) (pe_lc (own := [("_law_right_here", 3)]) (g := gName 3) (tt := tYes) rfl scPs.nd (pi_list (pv 0)) (blkOk_by (own := [("_law_right_here", 3)]) (N := nPa) (sc := defScope sPairs) (by decide +kernel)) (fun _ _ _ _ _ => pg_name (i := 3) scPs.nd rfl (Or.inl rfl)) (fun _ _ _ _ _ => pts_nil)
            (fun _ _ _ _ _ => by exact (pe_tup (pa_cons (pv 2) (pa_cons (pv 3) pa_nil))))))))
      apply pss_one
      · exact ps_ret (pv 1)
    refine ⟨(by show 0 ≤ sizeLine; decide), fun p0 hp0 => ?_⟩
    have s0 := same_new (o := .lst []) hp0
    refine ⟨.ref dl, rfl, dl, rfl, ⟨_, s0.seq hd⟩, for_list (K := K) (a := dl) (xs := ns.map V.int) (fun i σ H' => ∃ (p : Addr) (v : Option V) (ks : List (Addr × (Int × Int))), σ = [some (.ref dl), some (.ref p), v, none] ∧ Same H H' ∧ H p = none ∧ H' p = some (.lst (ks.map fun p => V.ref p.1)) ∧ (∀ p ∈ ks, H p.1 = none ∧ H' p.1 = some (.tup [.int p.2.1, .int p.2.2])) ∧ ks.map (·.2) = (ns.take i).flatMap fun x => ns.map fun y => (x, y))
      ⟨p0, none, [], rfl, s0, hp0, upd_same, (fun p h => by cases h), rfl⟩ (fun i σ H' _ h => by obtain ⟨_, _, _, _, s, _⟩ := h; exact s.seq hd) ?_ ?_⟩
    · rintro i x σ H1 hx ⟨p, v, ks, rfl, s1, hp, ep, ek, em⟩
      obtain ⟨n, hn, rfl⟩ := get_map hx
      have hlk : ks.length ≤ 36 := by
        have e := congrArg List.length em
        rw [List.length_map, flat_len] at e
        have h1 : (ns.take i).length ≤ 6 := Nat.le_trans (List.length_take_le' _ _) h6
        rw [e]
        exact Nat.le_trans (Nat.mul_le_mul h1 h6) (by decide)
      refine ⟨.ref p, rfl, .ref dl, rfl, dl, rfl, ⟨_, s1.seq hd⟩, fun D hD => ?_⟩
      refine lc_list (K := K) (a := dl) (xs := ns.map V.int) (fun j H' => Same H1 H' ∧ ∃ kk : List (Addr × (Int × Int)), H' D = some (.lst (kk.map fun p => V.ref p.1)) ∧ kk.length = j ∧ (∀ p ∈ kk, H1 p.1 = none ∧ H' p.1 = some (.tup [.int p.2.1, .int p.2.2])) ∧ kk.map (·.2) = (ns.take j).map fun y => (n, y)) ⟨same_new hD, [], upd_same, rfl, (fun p h => by cases h), rfl⟩ (fun j H' _ h => (s1.trans h.1).seq hd) ?_ ?_
      · rintro j y H2 hy ⟨s2, kk, eD, lk, ekk, emk⟩
        obtain ⟨m, hm, rfl⟩ := get_map hy
        have hj : j < ns.length := (List.getElem?_eq_some_iff.mp hm).1
        refine ⟨rfl, tYes_if ⟨.int n, rfl, .int m, rfl, (by show 2 ≤ sizeLine; decide), fun T hT => ?_⟩⟩
        have s3 := same_new (o := .tup [.int n, .int m]) hT
        have hT1 : H1 T = none := s2.free hT
        refine ⟨kk.map (fun p => V.ref p.1), s3 _ _ eD, ?_, Same.store (s2.trans s3) hD, kk ++ [(T, (n, m))], ?_, ?_, fun p hp => ?_, ?_⟩
        · rw [List.length_map, lk]
          exact small1000 (by omega)
        · rw [upd_same, List.map_append]
          rfl
        · rw [List.length_append, lk]
          rfl
        · have nTD : p.1 = T → p.1 ≠ D := fun e z => by
            have h1 := s3 _ _ eD
            rw [← z, e, upd_same] at h1
            cases h1
          rcases List.mem_append.mp hp with h | h
          · obtain ⟨h1, h2⟩ := ekk p h
            refine ⟨h1, ?_⟩
            have h3 := s3 _ _ h2
            rw [upd_ne (fun z => by rw [z] at h2; rw [eD] at h2; cases h2)]
            exact h3
          · cases List.mem_singleton.mp h
            refine ⟨hT1, ?_⟩
            rw [upd_ne (nTD rfl)]
            exact upd_same
        · rw [List.map_append, take_more hm, List.map_append, emk]
          rfl
      · rintro H2 ⟨s2, kk, eD, lk, ekk, emk⟩
        rw [List.length_map] at lk emk
        rw [List.take_length] at emk
        have ep2 := s2 _ _ ep
        refine ⟨p, D, _, _, rfl, rfl, ep2, eD, ?_, fun p3 hp3 => ?_⟩
        · rw [List.length_map, List.length_map, sizeLine_eq]
          omega
        have s4 := same_new (o := .lst ((ks.map fun p => V.ref p.1) ++ kk.map fun p => V.ref p.1)) hp3
        have s14 := s1.trans (s2.trans s4)
        refine ⟨p3, some (.int n), ks ++ kk, rfl, s14, (s1.trans s2).free hp3, ?_, fun r hr2 => ?_, ?_⟩
        · rw [upd_same, List.map_append]
        · rcases List.mem_append.mp hr2 with h | h
          · exact ⟨(ek r h).1, (s2.trans s4) _ _ (ek r h).2⟩
          · exact ⟨s1.free (ekk r h).1, s4 _ _ (ekk r h).2⟩
        · rw [List.map_append, em, emk, take_more hn, List.flatMap_append]
          simp only [List.flatMap_cons, List.flatMap_nil, List.append_nil]
    · rintro σ H1 ⟨p, v, ks, rfl, s1, hp, ep, ek, em⟩
      rw [List.length_map, List.take_length] at em
      exact ⟨_, rfl, q p ks H1 s1 hp ep ek em⟩
end
end K31
/-! -o and str(o) of an own class with __neg__, __str__. -/
namespace OF
open PySem PySem.Spec PyProof.Rows L2
section
variable {X : Cx} {CX : CXT} {n : Nat} {f C : Addr} {fd : FuncData} {ps : List Str} {sp : Sp} {E : XK}
def rNegOwn (C : Addr) (sp : Sp) (E : XK) : V → Hp → VK → Prop := fun x H Q => ∃ a dx fs, x = .ref a ∧ H a = some (.ins C dx fs) ∧ sp [.ref a] H Q E
theorem un_negOwn (hs : PySem.W.findIn X.K (.ref C) "__neg__" = some (some (.ref f))) (hf : PySem.W.isFn X.K (.ref f) = true) (F : FnOk X.prog X.w X.K X.mg X.base CX n f fd ps sp) (hb : Binds X.K fd ps []) (hr : Room n X.A) (hx : Passes CX X E) :
    UnR X (unaryOp .USub) (rNegOwn C sp E) := by
  intro pins s σ H x v Q I rx h
  obtain ⟨a, dx, fs, rfl, ha, q⟩ := h
  cases (show v = Value.ref a from rx)
  obtain ⟨mA, J, _⟩ := ins_get I.hok ha
  obtain ⟨od, J, _⟩ := J.look
  obtain ⟨m, hF⟩ := I.fr
  exact PySem.W.ksp_neg hF I.ok.mod.kin J hs hf (run_fn (us := [.ref a]) (vs := [.ref a]) F hr hb .nil hx I (.cons rfl .nil) q)
def rStrOwn (C : Addr) (sp : Sp) (E : XK) : List V → Hp → VK → Prop := fun xs H Q => ∃ a dx fs, xs = [.ref a] ∧ H a = some (.ins C dx fs) ∧ sp [.ref a] H (fun z H' => ∃ y : Str, z = .str y ∧ Q z H') E
theorem call_strOwn (hs : PySem.W.findIn X.K (.ref C) "__str__" = some (some (.ref f))) (hf : PySem.W.isFn X.K (.ref f) = true) (F : FnOk X.prog X.w X.K X.mg X.base CX n f fd ps sp) (hb : Binds X.K fd ps []) (hr : Room (n + 2) X.A) (hx : Passes CX X E) :
    CallR X (.type "str") (rStrOwn C sp E) := by
  intro pins s σ H xs us Q I r h
  obtain ⟨a, dx, fs, rfl, ha, q⟩ := h
  obtain ⟨u, rfl, ru⟩ := vals1 r
  cases ru
  obtain ⟨mA, J, _⟩ := ins_get I.hok ha
  obtain ⟨od, J, _⟩ := J.look
  obtain ⟨m, hF⟩ := I.fr
  refine PySem.W.kso_call hr.in1.in1.units0 I.kIn J hs hf ?_
  have bn := hb s [.ref a] I.kIn (F.len _ _ _ _ q)
  refine wpAny_call (codeAny_mono (F.run X.A.in1.in1 X.stack s H ⟨[.ref a], []⟩ [.ref a] [.ref a] _ E hr.in1.in1 I.env0.in1.in1 bn (.cons rfl .nil) q) fun r s' hq => ?_)
  cases r with
  | error e => exact hx pins σ H s e s' I hq
  | ok fl =>
    cases fl with
    | ret u =>
      obtain ⟨z, H', I', rz, y, rfl, q'⟩ := I.after hq
      obtain ⟨t, rfl⟩ := rz
      exact ⟨.str y, H', I', ⟨_, rfl⟩, q'⟩
    | next => exact hq.elim
    | brk => exact hq.elim
    | cont => exact hq.elim
end
end OF
namespace K31
open PySem PySem.Spec PyProof.Rows L2 OF
section
variable {P : Program} {w : World} {K : PySem.W.Frag} {mg : Str → Option Value} {base : Heap}
/-! ### what is due -/
inductive Ver
  | base (x : V)
  | dig (x : V)
  | bar (x : V)
  | made (b : Int) (ns : List Int) (ks : List (Addr × List Int))
inductive Due (K : PySem.W.Frag) (H : Hp) : V → V → V → Ver → Prop
  | base {x y z : V} (ix : ItemOk H x) (bx : baseV x = false) : Due K H x y z (.base x)
  | digN {b : Int} {y z : V} (hb : isBase b = true) (n : NoSeq H y) : Due K H (.int b) y z (.dig y)
  | digA {b : Int} {p : Addr} {xs : List V} {z : V} (hb : isBase b = true) (s : IsSeq K H p xs) (it : ∀ v ∈ xs, ItemOk H v) (l : xs.length ≤ 60) (bad : xs.all digV = false) : Due K H (.int b) (.ref p) z (.dig (.ref p))
  | digS {b : Int} {p : Addr} {ns : List Int} {z : V} (hb : isBase b = true) (s : IsSeq K H p (ns.map V.int)) (l : ns.length ≤ 60) (ok : ns.all dig = true) (six : SixOf ns false) : Due K H (.int b) (.ref p) z (.dig (.ref p))
  | barN {b : Int} {p : Addr} {ns : List Int} {z : V} (hb : isBase b = true) (s : IsSeq K H p (ns.map V.int)) (l : ns.length ≤ 60) (ok : ns.all dig = true) (six : SixOf ns true) (n : NoSeq H z) : Due K H (.int b) (.ref p) z (.bar z)
  | barB {b : Int} {p q : Addr} {ns : List Int} {ks : List (Addr × List Int)} {u : V} {more : List V} (hb : isBase b = true) (s : IsSeq K H p (ns.map V.int)) (l : ns.length ≤ 60) (ok : ns.all dig = true) (six : SixOf ns true) (t : IsSeq K H q (ks.map (fun p => V.ref p.1) ++ u :: more)) (few : ks.length < 64) (hk : ∀ p ∈ ks, BarOk H ns p) (bad : BadBar H ns u) : Due K H (.int b) (.ref p) (.ref q) (.bar u)
  | made {b : Int} {p q : Addr} {ns : List Int} {ks : List (Addr × List Int)} (hb : isBase b = true) (s : IsSeq K H p (ns.map V.int)) (l : ns.length ≤ 60) (ok : ns.all dig = true) (six : SixOf ns true) (t : IsSeq K H q (ks.map fun p => V.ref p.1)) (few : ks.length < 64) (hk : ∀ p ∈ ks, BarOk H ns p) : Due K H (.int b) (.ref p) (.ref q) (.made b ns ks)
theorem ints_item {H : Hp} (ns : List Int) : ∀ v ∈ ns.map V.int, ItemOk H v := fun v hv => by
  obtain ⟨n, _, rfl⟩ := List.mem_map.mp hv
  exact .inl ⟨n, rfl⟩
theorem ints_digV (ns : List Int) : (ns.map V.int).all digV = ns.all dig := by
  rw [List.all_map]
  rfl
/-- a new instance's heap -/
abbrev newAt (H : Hp) (C a dx : Addr) : Hp := upd (upd H dx (.own a)) a (.ins C dx [])
theorem newAt_same {H : Hp} {C a dx : Addr} (ha : H a = none) (hd : H dx = none) : Same H (newAt H C a dx) := fun c o hc => by
  show upd (upd H dx (.own a)) a (.ins C dx []) c = some o
  rw [upd_ne (ne_of_none hc ha), upd_ne (ne_of_none hc hd)]
  exact hc
theorem IsSeq.pairs {H H' : Hp} {ns : List Int} {ks : List (Addr × List Int)} (h : ∀ p ∈ ks, BarOk H ns p) (s : Same H H') : ∀ p ∈ ks, BarOk H' ns p := fun p hp => by
  obtain ⟨x, y, e, hp2, z⟩ := h p hp
  exact ⟨x, y, e, s _ _ hp2, z⟩
/-- Scheme(..) of any values, by what is due: the errors, or the parts -/
theorem new_due {C CB CD CP a dx : Addr} {H : Hp} {x y z : V} {v : Ver} {Q : VK} {E : XK} (d : Due K H x y z v) (ha : H a = none) (hd : H dx = none)
    (qe : ∀ (C' : Addr) (f : Str) (u : V), (v = .base u ∧ C' = CB ∨ v = .dig u ∧ C' = CD ∨ v = .bar u ∧ C' = CP) → ∀ (fs : List (Str × V)) (d : Addr) (H' : Hp), Same H H' → H' d = some (.xd (("value", u) :: fs)) → E (.ref C') (some d) H')
    (qm : ∀ (b : Int) (ns : List Int) (ks : List (Addr × List Int)), v = .made b ns ks → ∀ (ds : List Int) (L : List (Addr × List Int)) (t r : Addr) (H' : Hp), ds.Pairwise (· < ·) → (∀ k, k ∈ ds ↔ k ∈ ns) → (∀ p ∈ L, p ∈ ks) → (∀ p ∈ ks, p.2 ∈ L.map (·.2)) → (L.map (·.2)).Nodup → L.Pairwise (fun q r => SrtO.lexB (duo r.2) (duo q.2) = false) →
      Same H H' → H' a = some (.ins C dx [("_base", .int b), ("_digits", .ref t), ("_bars", .ref r)]) → H' t = some (.tup (ds.map V.int)) → H' r = some (.tup (L.map fun q => V.ref q.1)) → Q .non H') :
    spNew K C CB CD CP [.ref a, x, y, z] (newAt H C a dx) Q E := by
  have s0 := newAt_same (C := C) ha hd
  have ea : (newAt H C a dx) a = some (.ins C dx []) := upd_same
  have up : ∀ {H'}, But a (newAt H C a dx) H' → Same H H' := fun t c o hc => t c o (ne_of_none hc ha) (s0 c o hc)
  have er : ∀ (C' : Addr) (u : V), (v = .base u ∧ C' = CB ∨ v = .dig u ∧ C' = CD ∨ v = .bar u ∧ C' = CP) → RaisedA a C' "value" u (newAt H C a dx) E := fun C' u hv fs d H' _ t ed => qe C' "value" u hv fs d H' (up t) ed
  refine ⟨a, dx, x, y, z, rfl, ea, ?_⟩
  cases d with
  | base ix bx => exact .inl ⟨ix.same s0, bx, er CB x (.inl ⟨rfl, rfl⟩)⟩
  | digN hb n => exact .inr ⟨_, rfl, hb, .inl ⟨n.same s0, er CD y (.inr (.inl ⟨rfl, rfl⟩))⟩⟩
  | digA hb s it l bad =>
    refine .inr ⟨_, rfl, hb, .inr ⟨_, _, rfl, s.same s0, fun v hv => (it v hv).same s0, l, fun _ => er CD _ (.inr (.inl ⟨rfl, rfl⟩)), fun ns e ok => ?_⟩⟩
    rw [e, ints_digV, ok] at bad
    cases bad
  | @digS b p ns _ hb s l ok six =>
    refine .inr ⟨_, rfl, hb, .inr ⟨_, _, rfl, s.same s0, ints_item ns, (by rw [List.length_map]; exact l), fun _ => er CD _ (.inr (.inl ⟨rfl, rfl⟩)), fun ns2 e _ => ⟨false, ?_, fun _ => er CD _ (.inr (.inl ⟨rfl, rfl⟩)), fun z => nomatch z⟩⟩⟩
    cases ints_inj e
    exact six
  | @barN b p ns _ hb s l ok six n =>
    refine .inr ⟨_, rfl, hb, .inr ⟨_, _, rfl, s.same s0, ints_item ns, (by rw [List.length_map]; exact l), (fun h => by rw [ints_digV, ok] at h; cases h), fun ns2 e _ => ⟨true, ?_, (fun z => nomatch z), fun _ => .inl ⟨n.same s0, er CP _ (.inr (.inr ⟨rfl, rfl⟩))⟩⟩⟩⟩
    cases ints_inj e
    exact six
  | @barB b p q ns ks u more hb s l ok six t few hk bad =>
    refine .inr ⟨_, rfl, hb, .inr ⟨_, _, rfl, s.same s0, ints_item ns, (by rw [List.length_map]; exact l), (fun h => by rw [ints_digV, ok] at h; cases h), fun ns2 e _ => ?_⟩⟩
    cases ints_inj e
    exact ⟨true, six, (fun z => nomatch z), fun _ => .inr ⟨_, ks, u :: more, rfl, t.same s0, few, IsSeq.pairs hk s0, .inl ⟨u, more, rfl, bad.same s0, er CP _ (.inr (.inr ⟨rfl, rfl⟩))⟩⟩⟩
  | @made b p q ns ks hb s l ok six t few hk =>
    refine .inr ⟨_, rfl, hb, .inr ⟨_, _, rfl, s.same s0, ints_item ns, (by rw [List.length_map]; exact l), (fun h => by rw [ints_digV, ok] at h; cases h), fun ns2 e _ => ?_⟩⟩
    cases ints_inj e
    refine ⟨true, six, (fun z => nomatch z), fun _ => .inr ⟨_, ks, [], rfl, by rw [List.append_nil]; exact t.same s0, few, IsSeq.pairs hk s0, .inr ⟨rfl, fun ds L t r H' asc m sub all nd pw tb e1 e2 e3 => ?_⟩⟩⟩
    exact qm _ _ _ rfl ds L t r H' asc m sub all nd pw (up tb) e1 e2 e3


/-! ### a scheme, whole -/
def IsS (C : Addr) (H : Hp) (a : Addr) (b : Int) (ds : List Int) (ps : List (Int × Int)) : Prop := Good b ds ps ∧ ∃ (t r : Addr) (ks : List (Addr × (Int × Int))), ks.map (·.2) = ps ∧ SchemeAt C H a t r b ds ks
theorem IsS.same {C a : Addr} {H H' : Hp} {b : Int} {ds : List Int} {ps : List (Int × Int)} (h : IsS C H a b ds ps) (s : Same H H') : IsS C H' a b ds ps := by
  obtain ⟨G, t, r, ks, e, S⟩ := h
  exact ⟨G, t, r, ks, e, S.same s⟩
theorem lexP_tot {p q : Int × Int} (h : SrtO.lexB q p = false) (n : p ≠ q) : lexP p q := by
  have h2 : ¬ (q.1 < p.1 ∨ (q.1 = p.1 ∧ q.2 < p.2)) := fun z => by
    rw [SrtO.lexB_iff.mpr z] at h
    cases h
  unfold lexP
  rcases p with ⟨p1, p2⟩
  rcases q with ⟨q1, q2⟩
  have h3 : ¬ (p1 = q1 ∧ p2 = q2) := fun z => n (by rw [z.1, z.2])
  simp only at h2 ⊢
  omega
/-- the pairs of a list, as the program holds them -/
def asL (p : Addr × (Int × Int)) : Addr × List Int := (p.1, [p.2.1, p.2.2])
/-- Scheme(..) of good parts in any order, twice told or not -/
theorem new_made {C CB CD CP a dx p q : Addr} {H : Hp} {b : Int} {ns ds : List Int} {ks : List (Addr × (Int × Int))} {ps : List (Int × Int)} {Q : VK} {E : XK} (hb : isBase b = true) (s : IsSeq K H p (ns.map V.int)) (l : ns.length ≤ 60) (ok : ns.all dig = true)
    (t : IsSeq K H q (ks.map fun p => V.ref p.1)) (few : ks.length < 64) (hk : ∀ p ∈ ks, H p.1 = some (.tup [.int p.2.1, .int p.2.2])) (G : Good b ds ps) (md : ∀ k, k ∈ ds ↔ k ∈ ns) (mp : ∀ z, z ∈ ps ↔ z ∈ ks.map (·.2))
    (ha : H a = none) (hd : H dx = none) (qm : ∀ H', Same H H' → IsS C H' a b ds ps → Q .non H') : spNew K C CB CD CP [.ref a, .int b, .ref p, .ref q] (newAt H C a dx) Q E := by
  have six : SixOf ns true := fun k nd mem => by
    have pm : k.Perm ds := (List.perm_ext_iff_of_nodup nd (by rw [List.nodup_iff_pairwise_ne]; exact G.asc.imp fun h => by omega)).mpr fun z => (mem z).trans (md z).symm
    rw [pm.length_eq, decide_eq_true G.one, decide_eq_true G.six]
    rfl
  have one : ∀ n ∈ ds, isOne ns n = true := fun n hn => by
    unfold isOne
    rw [G.dg n hn, decide_eq_true ((md n).mp hn)]
    rfl
  have hk2 : ∀ z ∈ ks.map asL, BarOk H ns z := fun z hz => by
    obtain ⟨y, hy, rfl⟩ := List.mem_map.mp hz
    obtain ⟨m1, m2⟩ := G.mem y.2 ((mp _).mpr (List.mem_map.mpr ⟨y, hy, rfl⟩))
    exact ⟨_, _, rfl, hk y hy, one _ m1, one _ m2⟩
  have t2 : IsSeq K H q ((ks.map asL).map fun p => V.ref p.1) := by
    rw [List.map_map]
    exact t
  refine new_due (.made hb s l ok six t2 (by rw [List.length_map]; exact few) hk2) ha hd (fun C' f u z => ?_) fun b2 ns2 ks2 e => ?_
  · rcases z with ⟨z, _⟩ | ⟨z, _⟩ | ⟨z, _⟩ <;> cases z
  cases e
  intro ds2 L t3 r3 H' asc mds sub all nd pw s2 e1 e2 e3
  have eds : ds2 = ds := sorted_ext (r := (· < ·)) (fun a b h => by omega) asc G.asc fun x => (mds x).trans (md x).symm
  subst eds
  have two : ∀ p ∈ L, p.2 = [(duo p.2).1, (duo p.2).2] := fun p hp => by
    obtain ⟨z, _, rfl⟩ := List.mem_map.mp (sub p hp)
    rfl
  have eL : (L.map fun p => (p.1, duo p.2)).map (·.2) = ps := by
    refine sorted_ext lexP_as ?_ G.lex fun z => ?_
    · rw [List.map_map, List.pairwise_map]
      rw [List.nodup_iff_pairwise_ne, List.pairwise_map] at nd
      refine List.Pairwise.imp_of_mem (fun {q1 q2} h1 h2 ⟨z1, z2⟩ => ?_) (pw.and nd)
      refine lexP_tot z1 fun e => z2 ?_
      have e2 : duo q1.2 = duo q2.2 := e
      rw [two q1 h1, two q2 h2, e2]
    · rw [mp]
      constructor
      · intro hz
        rw [List.map_map] at hz
        obtain ⟨y, hy, rfl⟩ := List.mem_map.mp hz
        obtain ⟨x, hx, rfl⟩ := List.mem_map.mp (sub y hy)
        exact List.mem_map.mpr ⟨x, hx, rfl⟩
      · intro hz
        obtain ⟨x, hx, rfl⟩ := List.mem_map.mp hz
        obtain ⟨y, hy, e⟩ := List.mem_map.mp (all (asL x) (List.mem_map.mpr ⟨x, hx, rfl⟩))
        rw [List.map_map]
        refine List.mem_map.mpr ⟨y, hy, ?_⟩
        show duo y.2 = x.2
        rw [e]
        rfl
  refine qm H' s2 ⟨G, t3, r3, L.map fun p => (p.1, duo p.2), eL, ⟨⟨dx, e1⟩, e2, ?_, fun z hz => ?_⟩⟩
  · rw [e3, List.map_map]
    rfl
  · obtain ⟨y, hy, rfl⟩ := List.mem_map.mp hz
    obtain ⟨x, hx, rfl⟩ := List.mem_map.mp (sub y hy)
    exact s2 _ _ (hk x hx)

/-! ### the text of a row of digits -/
def spRowI : Sp := fun vs H Q _ => ∃ (p : Addr) (is : List Int), vs = [.ref p] ∧ H p = some (.tup (is.map V.int)) ∧ is.length ≤ 200 ∧ (∀ i ∈ is, dig i = true) ∧ ∀ H', Same H H' → Q (.str (textOf is)) H'
theorem dig_in {i : Int} (h : dig i = true) : -9 ≤ i ∧ i ≤ 9 := by
  unfold dig at h
  rw [Bool.and_eq_true, decide_eq_true_eq, decide_eq_true_eq] at h
  exact h
theorem scRT : FnScope ["row", "digit"] ["row"] (defScope sRowText) := ⟨rfl, rfl, rfl, by decide +kernel, rfl, by decide +kernel, by decide +kernel⟩
theorem eqv_nil : ∀ is : List Int, PyData.eqv (.tuple (is.map PyData.int)) (.tuple []) = decide (is = [])
  | [] => by decide +kernel
  | i :: is => by
    rw [decide_eq_false (List.cons_ne_nil i is)]
    simp only [PyData.eqv, List.map_cons, PyData.eqvAll]
set_option maxHeartbeats 2000000 in
theorem ok_rowtext {f fA fI C : Addr} {fd fdA fdI : FuncData} {tE : Tok} (F : Fun K "row_text" "row_text" sRowText f fd) (GA : FnOk P w K mg base CX0 4 fA fdA ["items"] (spAre K)) (gA : mg "are_digits" = some (.ref fA)) (kA : PySem.W.keepIn K (.ref fA) = true) (bA : Binds K fdA ["items"] [])
    (GI : FnOk P w K mg base CX0 3 fI fdI ["self", "row"] (spInit K "row" C)) (T : ErrC K mg "InvalidRow" "row" C fI) (bI : Binds K fdI ["self", "row"] [])
    (gE : mg "EMPTY_TEXT" = some (.str "." tE)) (mis : mg "isinstance" = none) (mt : mg "tuple" = none) (ms : mg "str" = none) : FnOk P w K mg base (L2.CX P w) 5 f fd ["row"] spRowI := by
  refine F.okX scRT (fun vs H Q E h => ?_) (fun cdv A outer s H vs Q E hr h => ?_)
  · obtain ⟨p, is, rfl, _⟩ := h
    rfl
  · obtain ⟨p, is, rfl, ep, hl, hdg, q⟩ := h
    have hd : ∀ i ∈ is, -9 ≤ i ∧ i ≤ 9 := fun i hi => dig_in (hdg i hi)
    apply Exists.intro
    apply And.intro
    · apply pss_cons
      · exact ps_if (PW.pt (pw_or (pt_not (pt_val (pe_callB call_isi (by rfl) mis PyProof.Rows.boot_isinstance (pa_cons (pv 0) (pa_cons (pe_bltn (v := .ty "tuple") (by rfl) mt (by decide +kernel) rfl) pa_nil)))))
            (pw_or1 (pt_not (pt_val (pe_call GA hr (by rfl) gA kA bA .nil pass0 (pa_cons (pv 0) pa_nil)))))))
          (pss_one (ps_raise rfl (takes_of rfl rfl rfl rfl) (pmk_oex T.ox T.iC T.tI GI hr bI .nil pass0 (by rfl) T.g (pa_cons (pv 0) pa_nil)))) pss_nil
      apply pss_cons
      · exact ps_if (pt_cmpR (op_eqD hr.units) (pv 0) (pe_tup pa_nil) (nomark _)) (pss_one (ps_ret (pe_glob (v := .str ".") rfl gE ⟨_, rfl⟩))) pss_nil
      apply pss_one
      · exact ps_ret (pe_join pe_str (pe_lc (own := [("digit", 1)]) (g := gName 1) (tt := tYes) rfl scRT.nd (pi_tup (pv 0)) (blkOk_by (own := [("digit", 1)]) (N := ["row", "digit"]) (sc := defScope sRowText) (by decide +kernel))
            (fun _ _ _ _ _ => pg_name (i := 1) scRT.nd rfl (Or.inl rfl)) (fun _ _ _ _ _ => pts_nil) (fun _ _ _ _ _ => by exact (pe_callTy call_str_int (by rfl) ms PyProof.Rows.boot_str (pa_cons (pv 1) pa_nil)))))
    refine ⟨.ref p, rfl, .ref p, .ty "tuple", .type "tuple", .type "tuple", true, rfl, .ty _, .base (.tup ep), kit_ty (by decide +kernel), true, rfl, iteF ?_⟩
    refine ⟨.ref p, rfl, p, _, rfl, .inr (SqT.of ep), ints_item is, by rw [List.length_map]; omega, fun H1 s1 => ⟨_, rfl, ?_⟩⟩
    rw [ints_digV, List.all_eq_true.mpr hdg]
    refine iteF ?_
    have ep1 := s1 _ _ ep
    refine ⟨.ref p, rfl, (by show 0 ≤ sizeLine; decide), fun t ht => ?_⟩
    have s2 := same_new (o := .tup []) ht
    have d1 := DatOf.tup (K := K) (s2 _ _ ep1)
    have d2 := DatOf.tup (K := K) (is := []) (upd_same (H := H1) (a := t) (o := .tup []))
    refine ⟨_, _, d1.dp _ (Same.refl _), d2.dp _ (Same.refl _), shaped_of d1.can (Nat.le_trans d1.dep (by decide)), shaped_of d2.can (Nat.le_trans d2.dep (by decide)), _, rfl, ?_⟩
    rw [show PyData.eqv (.tuple (is.map PyData.int)) (.tuple (([] : List Int).map PyData.int)) = decide (is = []) from eqv_nil is]
    have sA := s1.trans s2
    by_cases hn : is = []
    · refine iteTB (decide_eq_true hn) ?_
      have e : textOf is = Str.ofString "." := if_pos hn
      rw [e] at q
      exact q _ sA
    · refine iteFB (decide_eq_false hn) ?_
      have e : textOf is = Txt.join (Str.ofString " ") (is.map strI) := if_neg hn
      rw [e] at q
      have ep2 := s2 _ _ ep1
      generalize upd H1 t (.tup []) = H2 at sA ep2 ⊢
      refine ⟨⟨_, rfl⟩, .ref p, rfl, p, rfl, ⟨_, SqT.of ep2⟩, fun D hD => ?_⟩
      refine lc_tup (K := K) (a := p) (xs := is.map V.int) (fun i H' => Same H2 H' ∧ H' D = some (.lst ((is.take i).map fun k => V.str (strI k)))) ⟨same_new hD, upd_same⟩ (fun i H' _ h => SqT.of (h.1 _ _ ep2)) ?_ ?_
      · rintro i x H' hi ⟨s3, e3⟩
        obtain ⟨k, hk, rfl⟩ := get_map hi
        have hk2 := hd k (List.mem_of_getElem? hk)
        refine ⟨rfl, tYes_if ⟨_, rfl, _, rfl, log_le (by omega), _, e3, ?_, Same.store s3 hD, ?_⟩⟩
        · rw [List.length_map]
          exact Nat.lt_of_le_of_lt (List.length_take_le' _ _) (small1000 (by omega))
        · rw [upd_same, take_more hk, List.map_append]
          rfl
      · rintro H3 ⟨s3, e3⟩
        rw [List.length_map, List.take_length] at e3
        have em : (is.map fun k => V.str (strI k)) = (is.map strI).map V.str := by
          rw [List.map_map]
          rfl
        rw [em] at e3
        refine ⟨_, D, is.map strI, rfl, rfl, .inl (SqL.of e3), ?_, q _ (sA.trans s3)⟩
        have h1 := sum_len (n := 2) (ps := is.map strI) fun y hy => by
          obtain ⟨i, hi, rfl⟩ := List.mem_map.mp hy
          exact (strI_ok (hd i hi)).1
        have h2 : (Str.ofString " ").length = 1 := by decide +kernel
        rw [h2]
        rw [List.length_map] at h1 ⊢
        omega
end
end K31
namespace K31
open PySem PySem.Spec PyProof.Rows L2 OF
section
variable {P : Program} {w : World} {K : PySem.W.Frag} {mg : Str → Option Value} {base : Heap}

/-! ### a scheme's parts, drawn -/
/-- the law's parts of a scheme at m, all new but for what they hold -/
def ModelN (a : Addr) (H0 H : Hp) (m : Addr) (b : Int) (ns : List Int) (ps : List (Int × Int)) : Prop := ∃ (dl pl : Addr) (ks : List (Addr × (Int × Int))), ks.map (·.2) = ps ∧ (∀ (D : Addr) (xs : List V), D ≠ a → H0 D = some (.lst xs) → D ≠ m ∧ D ≠ dl ∧ D ≠ pl) ∧ ∀ H', But a H H' → ModAt H' m dl pl b ns ks
def spKin : Sp := fun vs H Q _ => ∃ (a : Addr) (n z : Int), vs = [.ref a, .int z, .int 6] ∧ Box n H a ∧ n ≤ 700000 ∧ 2 ≤ z ∧ z ≤ 6 ∧
  ∀ (m : Addr) (b : Int) (ns : List Int) (ps : List (Int × Int)) (H' : Hp), b.natAbs = z.natAbs → But a H H' → Box (n + 100) H' a → Good b ns ps → ModelN a H H' m b ns ps → Q (.ref m) H'
abbrev nSc : List Str := ["_law_box_here", "_law_size", "_law_most", "_law_base", "_law_digits_here", "_law_way", "_law_pairs_here", "_law_pair"]
theorem scSc : FnScope nSc ["_law_box_here", "_law_size", "_law_most"] (defScope sKin) := ⟨rfl, rfl, rfl, by decide +kernel, rfl, by decide +kernel, by decide +kernel⟩
theorem strict_of {ns : List Int} (h : ns.Pairwise (· ≤ ·)) (nd : ns.Nodup) : ns.Pairwise (· < ·) := by
  rw [List.nodup_iff_pairwise_ne] at nd
  exact (h.and nd).imp fun ⟨h1, h2⟩ => by omega
theorem good_of {b : Int} {ns : List Int} {ps : List (Int × Int)} (hb : isBase b = true) (asc : ns.Pairwise (· < ·)) (h1 : 1 ≤ ns.length) (h6 : ns.length ≤ 6) (dg : ∀ n ∈ ns, dig n = true) (sub : ps.Sublist (prod ns)) : Good b ns ps := by
  refine ⟨hb, asc, h1, h6, dg, fun p hp => prod_mem (sub.subset hp), (prod_aux asc asc).sublist sub, ?_⟩
  have e : (prod ns).length = ns.length * ns.length := flat_len ns
  exact Nat.le_trans sub.length_le (by rw [e]; exact Nat.le_trans (Nat.mul_le_mul h6 h6) (by decide))
theorem cut6 (ns : List Int) (h : ns.length ≤ 6) : cutV (ns.map V.int) none (some 6) = ns.map V.int := by
  unfold cutV
  have e1 : HT.sIx (ns.map V.int).length 0 none = 0 := rfl
  have e2 : HT.sIx (ns.map V.int).length (ns.map V.int).length (some 6) = ns.length := by
    rw [List.length_map]
    unfold HT.sIx
    simp <;> omega
  rw [e1, e2, List.drop_zero, Nat.sub_zero]
  exact List.take_of_length_le (by rw [List.length_map]; exact Nat.le_refl _)
set_option maxHeartbeats 2000000 in
theorem ok_kin {f fT fD fP : Addr} {fd fdT fdD fdP : FuncData} (F : Fun K "_law_kin" "_law_kin" sKin f fd) (FT : Fun K "_law_take" "_law_take" sTake fT fdT) (gT : mg "_law_take" = some (.ref fT)) (bT : Binds K fdT ["_law_box_here", "_law_many"] [])
    (GD : FnOk P w K mg base CX0 2 fD fdD ["_law_box_here", "_law_base"] spDigits) (gD : mg "_law_digits" = some (.ref fD)) (kD : PySem.W.keepIn K (.ref fD) = true) (bD : Binds K fdD ["_law_box_here", "_law_base"] [])
    (GP : FnOk P w K mg base CX0 1 fP fdP ["_law_digits_here"] (spPairs K)) (gP : mg "_law_pairs" = some (.ref fP)) (kP : PySem.W.keepIn K (.ref fP) = true) (bP : Binds K fdP ["_law_digits_here"] [])
    (mi : mg "int" = none) (mso : mg "sorted" = none) : FnOk P w K mg base CX0 3 f fd ["_law_box_here", "_law_size", "_law_most"] spKin := by
  have GT : FnOk P w K mg base CX0 1 fT fdT ["_law_box_here", "_law_many"] spTake := ok_take FT mi
  refine F.ok scSc (fun vs H Q E h => ?_) (fun cdv A outer s H vs Q E hr2 h => ?_)
  · obtain ⟨a, n, z, rfl, _⟩ := h
    rfl
  · obtain ⟨a, n, z, rfl, hB, hn, z2, z6, q⟩ := h
    have hr : Room 1 _ := hr2.mono (by decide)
    apply Exists.intro
    apply And.intro
    · apply pss_cons
      · exact ps_set (i := 3) scSc.nd rfl (.inl rfl) (pe_op op_mul (pv 1) (pe_op op_sub pe_int (pe_op op_mul pe_int (pe_call GT hr (by rfl) gT FT.kp bT .nil pass0 (pa_cons (pv 0) (pa_cons pe_int pa_nil))))))
      apply pss_cons
      · exact ps_par (i := 4) (j := 5) rfl scSc.nd rfl rfl (by decide) rfl rfl (pa_cons (pe_callB cr_sorted (by rfl) mso (by decide +kernel) (pa_cons (pe_slice sl_list (pe_call GD hr2 (by rfl) gD kD bD .nil pass0 (pa_cons (pv 0) (pa_cons (pv 3) pa_nil))) po_none (po_some (pv 2))) pa_nil)) (pa_cons (pe_call GT hr (by rfl) gT FT.kp bT .nil pass0 (pa_cons (pv 0) (pa_cons pe_int pa_nil))) pa_nil)) (by rfl)
      apply pss_cons
      · exact ps_set (i := 6) scSc.nd rfl (.inl rfl) (pe_call GP hr (by rfl) gP kP bP .nil pass0 (pa_cons (pv 4) pa_nil))
      apply pss_cons
      · exact ps_if (pt_cmpR op_eq (pv 5) pe_int (nomark _)) (pss_one (ps_ret (pe_lst (pa_cons (pv 3) (pa_cons (pv 4) (pa_cons (pe_lc (own := [("_law_pair", 7)]) (g := gName 7)
            (tt := tAnd (tTest (tOp rNe (tOp (rIxT K) (tVar 7) (tC (.int 0))) (tC (.int 0)))) (tTest (tOp rNe (tOp (rIxT K) (tVar 7) (tC (.int 1))) (tC (.int 0))))) (te := tVar 7) rfl scSc.nd (pi_list (pv 6)) (blkOk_by (own := [("_law_pair", 7)]) (N := nSc) (sc := defScope sKin) (by decide +kernel)) (fun _ _ _ _ _ => pg_name (i := 7) scSc.nd rfl (Or.inl rfl))
            (fun _ _ _ _ _ => by exact (pts_one (PW.pt (pw_and (pt_cmpR op_ne (pe_ix ix_tup (pv 7) pe_int (fun _ _ => rfl)) pe_int (nomark _)) (pw_and1 (pt_cmpR op_ne (pe_ix ix_tup (pv 7) pe_int (fun _ _ => rfl)) pe_int (nomark _))))))) (fun _ _ _ _ _ => by exact (pv 7))) pa_nil)))))) pss_nil
      apply pss_cons
      · exact ps_if (pt_cmpR op_eq (pv 5) pe_int (nomark _)) (pss_one (ps_ret (pe_lst (pa_cons (pv 3) (pa_cons (pv 4) (pa_cons (pe_lc (own := [("_law_pair", 7)]) (g := gName 7)
            (tt := tTest (tOp rEq (tCall spTake [] E0 (tCons (tVar 0) (tCons (tC (.int 4)) tNil))) (tC (.int 0)))) (te := tVar 7) rfl scSc.nd (pi_list (pv 6)) (blkOk_by (own := [("_law_pair", 7)]) (N := nSc) (sc := defScope sKin) (by decide +kernel)) (fun _ _ _ _ _ => pg_name (i := 7) scSc.nd rfl (Or.inl rfl))
            (fun _ _ _ _ _ => by exact (pts_one (pt_cmpR op_eq (pe_call GT hr (by rfl) gT FT.kp bT .nil pass0 (pa_cons (pv 0) (pa_cons pe_int pa_nil))) pe_int (nomark _)))) (fun _ _ _ _ _ => by exact (pv 7))) pa_nil)))))) pss_nil
      apply pss_one
      · exact ps_ret (pe_lst (pa_cons (pv 3) (pa_cons (pv 4) (pa_cons (pe_lst pa_nil) pa_nil))))
    -- the base
    refine ⟨.int z, rfl, .ref a, rfl, a, 2, n, rfl, hB, by omega, by decide, by decide, fun r H1 r0 r1 t1 B1 => ?_⟩
    have hb : isBase (z * (1 - 2 * r)) = true := by
      have hr01 : r = 0 ∨ r = 1 := by omega
      have hz : z = 2 ∨ z = 3 ∨ z = 4 ∨ z = 5 ∨ z = 6 := by omega
      rcases hr01 with rfl | rfl <;> rcases hz with rfl | rfl | rfl | rfl | rfl <;> decide
    have hz2 : (z * (1 - 2 * r)).natAbs = z.natAbs := by
      have hr01 : r = 0 ∨ r = 1 := by omega
      rcases hr01 with rfl | rfl
      · congr 1
        omega
      · omega
    refine ⟨_, _, rfl, rfl, .inl ⟨by decide, by decide⟩, _, _, rfl, rfl, _, _, rfl, rfl, .inl ⟨by omega, by omega⟩, ?_⟩
    have T1 : But a H H1 := t1
    -- the digits
    refine ⟨.ref a, rfl, .int (z * (1 - 2 * r)), rfl, a, z * (1 - 2 * r), n + 1, rfl, B1, by omega, hb, fun D0 ns H2 hD t2 B2 eD0 nd l1 l6 dg => ?_⟩
    refine ⟨.int 6, rfl, 6, rfl, D0, _, rfl, SqL.of eD0, fun D hDD => ?_⟩
    rw [cut6 ns l6]
    have t2 := t2.trans (But.new (o := .lst (ns.map V.int)) hDD)
    have B2 := B2.new (o := .lst (ns.map V.int)) hDD
    have eD : (upd H2 D (.lst (ns.map V.int))) D = some (.lst (ns.map V.int)) := upd_same
    generalize upd H2 D (.lst (ns.map V.int)) = H2 at t2 B2 eD ⊢
    refine ⟨D, ns, rfl, SqL.of eD, by omega, fun ns' dl pm srt hdl => ?_⟩
    have ndl := B2.ne hdl
    have asc := strict_of srt (pm.nodup_iff.mpr nd)
    have dg' : ∀ k ∈ ns', dig k = true := fun k hk => dg k (pm.mem_iff.mp hk)
    have l1' : 1 ≤ ns'.length := by rw [pm.length_eq]; exact l1
    have l6' : ns'.length ≤ 6 := by rw [pm.length_eq]; exact l6
    have T2 : But a H (upd H2 dl (.lst (ns'.map V.int))) := (T1.trans t2).trans (But.new hdl)
    refine ⟨.ref a, rfl, a, 4, n + 1 + 30, rfl, B2.new hdl, by omega, by decide, by decide, fun wy H3 w0 w1 t3 B3 => ?_⟩
    have ed := t3 _ _ ndl upd_same
    have T3 := T2.trans t3
    clear pm srt nd dg l1 l6 eD
    refine ⟨.ref dl, .int wy, rfl, ?_⟩
    -- the pairs
    refine ⟨.ref dl, rfl, dl, ns', rfl, SqL.of ed, l6', fun pl ks H4 s4 npl epl ek em => ?_⟩
    have B4 := B3.same s4
    have T4 := T3.trans (But.of_same s4)
    have ed4 := s4 _ _ ed
    have pair : ∀ p ∈ ks, p.1 ≠ a := fun p hp z => by
      obtain ⟨b0, b1, b2, hb0, _⟩ := B3
      have := (ek p hp).1
      rw [z, hb0] at this
      cases this
    have fin : ∀ (H5 : Hp) (fl : Addr) (kk : List (Addr × (Int × Int))) (mo : Addr), But a H4 H5 → Box (n + 90) H5 a → (∃ H6, But a H4 H6 ∧ H6 fl = none) → fl ≠ a → H5 fl = some (.lst (kk.map fun p => V.ref p.1)) → kk.Sublist ks → H5 mo = none → Q (.ref mo) (upd H5 mo (.lst [.int (z * (1 - 2 * r)), .ref dl, .ref fl])) := by
      intro H5 fl kk mo t5 B5 hfl nfl efl sub hmo
      obtain ⟨Hf, tf, hfl⟩ := hfl
      have nmo := B5.ne hmo
      have ed5 := t5 _ _ ndl ed4
      have ek5 : ∀ p ∈ kk, H5 p.1 = some (.tup [.int p.2.1, .int p.2.2]) := fun p hp => t5 _ _ (pair p (sub.subset hp)) (ek p (sub.subset hp)).2
      have sub2 : (kk.map (·.2)).Sublist (prod ns') := em ▸ sub.map (·.2)
      refine q mo (z * (1 - 2 * r)) ns' (kk.map (·.2)) _ hz2 ((T4.trans t5).trans (But.new hmo)) ((B5.new hmo).mono (by omega)) (good_of hb asc l1' l6' dg' sub2) ⟨dl, fl, kk, rfl, (fun E xs nE e => ⟨(fun z => by rw [z] at nE e; rw [(T4.trans t5) _ _ nE e] at hmo; cases hmo), (fun z => by rw [z] at nE e; rw [(T1.trans t2) _ _ nE e] at hdl; cases hdl), (fun z => by rw [z] at nE e; rw [(T4.trans tf) _ _ nE e] at hfl; cases hfl)⟩), fun H6 t6 => ⟨t6 _ _ nmo upd_same, t6 _ _ ndl (same_new hmo _ _ ed5), t6 _ _ nfl (same_new hmo _ _ efl), fun p hp => t6 _ _ (pair p (sub.subset hp)) (same_new hmo _ _ (ek5 p hp))⟩⟩
    have lks : ks.length ≤ 36 := by
      have e := congrArg List.length em
      rw [List.length_map] at e
      have e2 : (prod ns').length = ns'.length * ns'.length := flat_len ns'
      rw [e, e2]
      exact Nat.le_trans (Nat.mul_le_mul l6' l6') (by decide)
    have sub_more : ∀ {i : Nat} {p : Addr × (Int × Int)} {kk : List (Addr × (Int × Int))}, ks[i]? = some p → kk.Sublist (ks.take i) → (kk ++ [p]).Sublist (ks.take (i + 1)) ∧ kk.Sublist (ks.take (i + 1)) := fun {i p kk} hp hs => by
      rw [take_more hp]
      exact ⟨List.Sublist.append hs (List.Sublist.refl _), hs.trans (List.sublist_append_left _ _)⟩
    have small : ∀ {i : Nat} {kk : List (Addr × (Int × Int))}, kk.Sublist (ks.take i) → (kk.map fun p => V.ref p.1).length < sizeLine := fun {i kk} hs => by
      rw [List.length_map]
      have := hs.length_le
      have h2 : (ks.take i).length ≤ ks.length := List.length_take_le' _ _
      exact small1000 (by omega)
    refine ⟨.int wy, rfl, rfl, _, rfl, ite2 (fun c => ?_) (fun c => ?_)⟩
    · refine ⟨.int (z * (1 - 2 * r)), rfl, .ref dl, rfl, .ref pl, rfl, pl, rfl, ⟨_, SqL.of epl⟩, fun D2 hD2 => ?_⟩
      have nD2 := B4.ne hD2
      refine lc_list (K := K) (a := pl) (xs := ks.map fun p => V.ref p.1) (fun i H' => Same H4 H' ∧ ∃ kk, H' D2 = some (.lst (kk.map fun p => V.ref p.1)) ∧ kk.Sublist (ks.take i)) ⟨same_new hD2, [], upd_same, List.nil_sublist _⟩ (fun i H' _ h => SqL.of (h.1 _ _ epl)) ?_ ?_
      · rintro i x H' hx ⟨s5, kk, e5, sub⟩
        obtain ⟨p, hp, rfl⟩ := get_map hx
        have tp := s5 _ _ (ek p (List.mem_of_getElem? hp)).2
        have more := sub_more hp sub
        refine ⟨rfl, .ref p.1, rfl, p.1, _, 0, .int p.2.1, rfl, rfl, SqT.of tp, atI_nat (j := 0) rfl, rfl, _, rfl, ite2 (fun zz => ?_) (fun zz => ?_)⟩
        · refine ⟨.ref p.1, rfl, p.1, _, 1, .int p.2.2, rfl, rfl, SqT.of tp, atI_nat (j := 1) rfl, rfl, _, rfl, ite2 (fun z2 => ?_) (fun z2 => ?_)⟩
          · exact ⟨.ref p.1, rfl, _, e5, small sub, Same.store s5 hD2, kk ++ [p], by rw [upd_same, List.map_append]; rfl, more.1⟩
          · exact ⟨s5, kk, e5, more.2⟩
        · exact iteF ⟨s5, kk, e5, more.2⟩
      · rintro H' ⟨s5, kk, e5, sub⟩
        refine ⟨(by show 3 ≤ sizeLine; decide), fun mo hmo => fin H' D2 kk mo (But.of_same s5) ((B4.same s5).mono (by omega)) ⟨H4, But.refl, hD2⟩ nD2 e5 (sub.trans (List.take_sublist _ _)) hmo⟩
    · refine ⟨.int wy, rfl, rfl, _, rfl, ite2 (fun c1 => ?_) (fun c1 => ?_)⟩
      · refine ⟨.int (z * (1 - 2 * r)), rfl, .ref dl, rfl, .ref pl, rfl, pl, rfl, ⟨_, SqL.of epl⟩, fun D2 hD2 => ?_⟩
        have nD2 := B4.ne hD2
        have npa : pl ≠ a := fun z => by
          obtain ⟨b0, b1, b2, hb0, _⟩ := B3
          rw [z, hb0] at npl
          cases npl
        refine lc_list (K := K) (a := pl) (xs := ks.map fun p => V.ref p.1) (fun i H' => But a H4 H' ∧ Box (n + 32 + i) H' a ∧ ∃ kk, H' D2 = some (.lst (kk.map fun p => V.ref p.1)) ∧ kk.Sublist (ks.take i)) ⟨But.new hD2, (B4.new hD2).mono (by omega), [], upd_same, List.nil_sublist _⟩ (fun i H' _ h => SqL.of (h.1 _ _ npa epl)) ?_ ?_
        · rintro i x H' hx ⟨t5, B5, kk, e5, sub⟩
          obtain ⟨p, hp, rfl⟩ := get_map hx
          have hi : i < ks.length := (List.getElem?_eq_some_iff.mp hp).1
          have more := sub_more hp sub
          refine ⟨rfl, .ref a, rfl, a, 4, n + 32 + i, rfl, B5, by omega, by decide, by decide, fun r2 H6 k0 k1 t6 B6 => ⟨rfl, _, rfl, ite2 (fun zz => ?_) (fun zz => ?_)⟩⟩
          · exact ⟨.ref p.1, rfl, _, t6 _ _ nD2 e5, small sub, (t5.trans t6).store hD2, (B6.upd nD2).mono (by omega), kk ++ [p], by rw [upd_same, List.map_append]; rfl, more.1⟩
          · exact ⟨t5.trans t6, B6.mono (by omega), kk, t6 _ _ nD2 e5, more.2⟩
        · rintro H' ⟨t5, B5, kk, e5, sub⟩
          rw [List.length_map] at B5
          refine ⟨(by show 3 ≤ sizeLine; decide), fun mo hmo => fin H' D2 kk mo t5 (B5.mono (by omega)) ⟨H4, But.refl, hD2⟩ nD2 e5 (sub.trans (List.take_sublist _ _)) hmo⟩
      · refine ⟨.int (z * (1 - 2 * r)), rfl, .ref dl, rfl, (by show 0 ≤ sizeLine; decide), fun fl hfl => ⟨(by show 3 ≤ sizeLine; decide), fun mo hmo => ?_⟩⟩
        exact fin _ fl [] mo (But.new hfl) ((B4.new hfl).mono (by omega)) ⟨H4, But.refl, hfl⟩ (B4.ne hfl) upd_same (List.nil_sublist _) hmo
end
end K31
namespace K31
open PySem PySem.Spec PyProof.Rows L2 OF
section
variable {P : Program} {w : World} {K : PySem.W.Frag} {mg : Str → Option Value} {base : Heap}
/-! ### the law's own look at a row -/
def hasP (ps : List (Int × Int)) (x y : Int) : Bool := (ps.map pd2).any fun z => PyData.eqv z (pd2 (x, y))
def adjR (ps : List (Int × Int)) : List Int → Bool
  | x :: y :: l => !hasP ps x y && adjR ps (y :: l)
  | _ => true
def rowI (ns : List Int) (ps : List (Int × Int)) (ls : List Int) : Bool := ls.all (fun x => decide (x ∈ ns)) && adjR ps ls
theorem adjR_iff {ps : List (Int × Int)} : ∀ {ls : List Int}, adjR ps ls = true ↔ ∀ (i : Nat) (x y : Int), ls[i]? = some x → ls[i + 1]? = some y → hasP ps x y = false
  | [] => by
    refine ⟨fun _ i x y h => by simp at h, fun _ => rfl⟩
  | [u] => by
    refine ⟨fun _ i x y h1 h2 => ?_, fun _ => rfl⟩
    simp at h2
  | u :: v :: l => by
    unfold adjR
    rw [Bool.and_eq_true, adjR_iff (ls := v :: l)]
    constructor
    · rintro ⟨h1, h2⟩ i x y hx hy
      cases i with
      | zero =>
        cases Option.some.inj hx
        cases Option.some.inj hy
        cases e : hasP ps u v with
        | false => rfl
        | true => rw [e] at h1; cases h1
      | succ i => exact h2 i x y hx hy
    · intro h
      refine ⟨?_, fun i x y hx hy => h (i + 1) x y hx hy⟩
      rw [h 0 u v rfl rfl]
      rfl
theorem row_same {ns : List Int} {ks : List (Addr × (Int × Int))} {ps : List (Int × Int)} (hk : ks.map (·.2) = ps) (dg : ∀ n ∈ ns, dig n = true) : ∀ ls : List Int, rowB ns ks (ls.map V.int) = rowI ns ps ls := by
  have one : ∀ x : Int, isOne ns x = decide (x ∈ ns) := fun x => by
    unfold isOne
    by_cases h : x ∈ ns
    · rw [dg x h, Bool.true_and]
    · rw [decide_eq_false h, Bool.and_false]
  have bar : ∀ x y : Int, hasBar ks x y = hasP ps x y := fun x y => by
    unfold hasBar hasP
    rw [← hk, List.map_map]
    rfl
  intro ls
  induction ls with
  | nil => rfl
  | cons x l ih =>
    cases l with
    | nil =>
      show (isOne ns x && true) = ((decide (x ∈ ns) && true) && true)
      rw [one, Bool.and_true, Bool.and_true]
    | cons y l =>
      have e1 : rowB ns ks ((x :: y :: l).map V.int) = ((isOne ns x && (isOne ns y && !hasBar ks x y)) && rowB ns ks ((y :: l).map V.int)) := rfl
      rw [e1, ih, one, one, bar]
      show ((decide (x ∈ ns) && (decide (y ∈ ns) && !hasP ps x y)) && ((decide (y ∈ ns) && l.all fun x => decide (x ∈ ns)) && adjR ps (y :: l))) = ((decide (x ∈ ns) && (decide (y ∈ ns) && l.all fun x => decide (x ∈ ns))) && (!hasP ps x y && adjR ps (y :: l)))
      cases decide (x ∈ ns) <;> cases decide (y ∈ ns) <;> cases hasP ps x y <;> cases (l.all fun x => decide (x ∈ ns)) <;> cases adjR ps (y :: l) <;> rfl
theorem eqv_nilL : ∀ ds : List PyData, PyData.eqv (.list ds) (.list []) = ds.isEmpty
  | [] => by simp [PyData.eqv, PyData.eqvAll]
  | d :: ds => by simp [PyData.eqv, PyData.eqvAll]
theorem nil_shaped : SeqAt.shaped (.list []) = true := by decide +kernel
theorem ps_shaped {ks : List (Addr × (Int × Int))} {ps : List (Int × Int)} (e : ks.map (·.2) = ps) : SeqAt.shaped (.list (ps.map pd2)) = true := by
  obtain ⟨h1, h2⟩ := bars_can ks
  have e2 : (ks.map fun p => pd2 p.2) = ps.map pd2 := by rw [← e, List.map_map]; rfl
  rw [e2] at h1 h2
  refine shaped_of ?_ ?_
  · simp only [PyData.canLay0, h1]
  · simp only [PyData.depth]
    omega
theorem ps_dp {K : PySem.W.Frag} {H : Hp} {pl : Addr} {ks : List (Addr × (Int × Int))} {ps : List (Int × Int)} (e : ks.map (·.2) = ps) (hp : H pl = some (.lst (ks.map fun p => V.ref p.1))) (hk : ∀ p ∈ ks, H p.1 = some (.tup [.int p.2.1, .int p.2.2])) : Dp K H (.ref pl) (.list (ps.map pd2)) := by
  have e2 : (ks.map fun p => pd2 p.2) = ps.map pd2 := by rw [← e, List.map_map]; rfl
  rw [← e2]
  exact .lst (SqL.of hp) (bars_dp ks hk)
def spIsRow : Sp := fun vs H Q _ => ∃ (m dl pl p : Addr) (b : Int) (ns ls : List Int) (ks : List (Addr × (Int × Int))), vs = [.ref m, .ref p] ∧ ModAt H m dl pl b ns ks ∧ H p = some (.tup (ls.map V.int)) ∧ ls.length ≤ 1000 ∧
  ∀ H', Same H H' → Q (.bl (rowI ns (ks.map (·.2)) ls)) H'
abbrev nIr : List Str := ["_law_model", "_law_row_here", "_law_digit", "_law_k"]
theorem scIr : FnScope nIr ["_law_model", "_law_row_here"] (defScope sIsRow) := ⟨rfl, rfl, rfl, by decide +kernel, rfl, by decide +kernel, by decide +kernel⟩
theorem in_list_ints (n : Int) (ds : List Int) : inV (.int n) (ds.map V.int) = decide (n ∈ ds) := in_ints n ds
set_option maxHeartbeats 2000000 in
theorem ok_isrow {f : Addr} {fd : FuncData} (F : Fun K "_law_is_row" "_law_is_row" sIsRow f fd) (ml : mg "len" = none) (mr : mg "range" = none) : FnOk P w K mg base CX0 1 f fd ["_law_model", "_law_row_here"] spIsRow := by
  refine F.ok scIr (fun vs H Q E h => ?_) (fun cdv A outer s H vs Q E hr h => ?_)
  · obtain ⟨m, dl, pl, p, b, ns, ls, ks, rfl, _⟩ := h
    rfl
  · obtain ⟨m, dl, pl, p, b, ns, ls, ks, rfl, M, hp, hl, q⟩ := h
    have hu : A.units + 3 + 65 < cLine := by
      have := hr.un
      have e : (A.deeper (envOfC "_law_is_row" (defScope sIsRow) s.heap.objs.size f cdv)).units = A.units + 3 := rfl
      omega
    apply Exists.intro
    apply And.intro
    · apply pss_cons
      · exact ps_if (pt_cmpR (op_neD hr.units) (pe_lc (own := [("_law_digit", 2)]) (g := gName 2) (tt := tTest (tOp (rIn K true) (tVar 2) (tOp (rIxL K) (tVar 0) (tC (.int 1))))) (te := tVar 2) rfl scIr.nd (pi_tup (pv 1)) (blkOk_by (own := [("_law_digit", 2)]) (N := nIr) (sc := defScope sIsRow) (by decide +kernel)) (fun _ _ _ _ _ => pg_name (i := 2) scIr.nd rfl (Or.inl rfl))
            (fun _ _ _ _ _ => by exact (pts_one (pt_cmpR op_notIn_seq (pv 2) (pe_ix ix_list (pv 0) pe_int (fun _ _ => rfl)) rfl))) (fun _ _ _ _ _ => by exact (pv 2))) (pe_lst pa_nil) (nomark _)) (pss_one (ps_ret pe_bl)) pss_nil
      apply pss_one
      · exact ps_ret (pe_cmpR (op_eqD hr.units) (pe_lc (own := [("_law_k", 3)]) (g := gName 3) (tt := tTest (tOp (rInD K) (tTup (tCons (tOp (rIxT K) (tVar 1) (tOp (rI0 fun i j => .int (i - j)) (tVar 3) (tC (.int 1)))) (tCons (tOp (rIxT K) (tVar 1) (tVar 3)) tNil))) (tOp (rIxL K) (tVar 0) (tC (.int 2))))) (te := tVar 3) rfl scIr.nd (pi_range2 rfl mr (pa_cons pe_int (pa_cons (pe_callB call_len_seq (by rfl) ml PySem.boot_len (pa_cons (pv 1) pa_nil)) pa_nil))) (blkOk_by (own := [("_law_k", 3)]) (N := nIr) (sc := defScope sIsRow) (by decide +kernel)) (fun _ _ _ _ _ => pg_name (i := 3) scIr.nd rfl (Or.inl rfl))
            (fun _ _ _ _ _ => by exact (pts_one (pt_cmpR (op_inD hu) (pe_tup (pa_cons (pe_ix ix_tup (pv 1) (pe_op op_sub (pv 3) pe_int) (fun _ _ => rfl)) (pa_cons (pe_ix ix_tup (pv 1) (pv 3) (fun _ _ => rfl)) pa_nil))) (pe_ix ix_list (pv 0) pe_int (fun _ _ => rfl)) rfl))) (fun _ _ _ _ _ => by exact (pv 3))) (pe_lst pa_nil) (nomark _))
    refine ⟨.ref p, rfl, p, rfl, ⟨_, SqT.of hp⟩, fun D hD => ?_⟩
    refine lc_tup (K := K) (a := p) (xs := ls.map V.int) (fun i H' => Same H H' ∧ H' D = some (.lst (((ls.take i).filter fun x => !decide (x ∈ ns)).map V.int))) ⟨same_new hD, upd_same⟩ (fun i H' _ h => SqT.of (h.1 _ _ hp)) ?_ ?_
    · rintro i x H1 hx ⟨s1, e1⟩
      obtain ⟨n, hn, rfl⟩ := get_map hx
      have M1 := M.same s1
      refine ⟨rfl, .int n, rfl, .ref m, rfl, m, _, 1, .ref dl, rfl, rfl, SqL.of M1.mo, atI_nat (j := 1) rfl, dl, _, rfl, .inl (SqL.of M1.di), rfl, flat_ints ns, _, rfl, ?_⟩
      have ein : inV (.int n) (ns.map V.int) = decide (n ∈ ns) := in_ints n ns
      rw [if_pos rfl, ein]
      by_cases hin : n ∈ ns
      · rw [decide_eq_true hin]
        refine iteF ⟨s1, ?_⟩
        rw [take_more hn, List.filter_append]
        rw [e1]
        simp [hin]
      · rw [decide_eq_false hin]
        refine iteT ⟨.int n, rfl, _, e1, ?_, Same.store s1 hD, ?_⟩
        · rw [List.length_map]
          refine Nat.lt_of_le_of_lt (Nat.le_trans (List.length_filter_le _ _) (List.length_take_le' _ _)) (small1000 hl)
        · rw [upd_same, take_more hn, List.filter_append, List.map_append]
          simp [hin]
    · rintro H1 ⟨s1, e1⟩
      rw [List.length_map, List.take_length] at e1
      refine ⟨(by show 0 ≤ sizeLine; decide), fun l0 hl0 => ?_⟩
      have s2 := same_new (o := .lst []) hl0
      refine ⟨.list ((ls.filter fun x => !decide (x ∈ ns)).map .int), .list [], .lst (SqL.of (s2 _ _ e1)) (dp_ints _), .lst (SqL.of upd_same) .nil, ints_shapedL _, nil_shaped, _, rfl, ?_⟩
      rw [eqv_nilL]
      have sA := s1.trans s2
      cases hf : ls.all (fun x => decide (x ∈ ns)) with
      | false =>
        have ne : (ls.filter fun x => !decide (x ∈ ns)).isEmpty = false := by
          rw [Bool.eq_false_iff]
          intro z
          have z2 := List.isEmpty_iff.mp z
          have : ls.all (fun x => decide (x ∈ ns)) = true := List.all_eq_true.mpr fun x hx => by
            cases hd : decide (x ∈ ns) with
            | true => rfl
            | false =>
              have : x ∈ ls.filter fun x => !decide (x ∈ ns) := List.mem_filter.mpr ⟨hx, by rw [hd]; rfl⟩
              rw [z2] at this
              cases this
          rw [this] at hf
          cases hf
        refine iteTB (by rw [List.isEmpty_map, ne]; rfl) ?_
        have z := q _ sA
        unfold rowI at z
        rw [hf, Bool.false_and] at z
        exact z
      | true =>
        have ne : (ls.filter fun x => !decide (x ∈ ns)) = [] := by
          rw [List.filter_eq_nil_iff]
          intro x hx
          rw [List.all_eq_true.mp hf x hx]
          decide
        refine iteFB (by rw [ne]; rfl) ?_
        generalize upd H1 l0 (.lst []) = H2 at sA ⊢
        refine ⟨.ref p, rfl, p, _, rfl, .inr (SqT.of (sA _ _ hp)), 1, ((ls.map V.int).length : Int), rfl, ⟨by decide, by decide, by rw [List.length_map]; omega, by rw [List.length_map]; omega⟩, fun D2 hD2 => ?_⟩
        refine lc_range (lo := 1) (n := (((ls.map V.int).length : Int) - 1).toNat) (fun i H' => Same H2 H' ∧ ∃ is : List Int, H' D2 = some (.lst (is.map V.int)) ∧ is.length ≤ i ∧ (is = [] ↔ ∀ (j : Nat) (x y : Int), j < i → ls[j]? = some x → ls[j + 1]? = some y → hasP (ks.map (·.2)) x y = false)) ⟨same_new hD2, [], upd_same, Nat.le_refl _, ⟨fun _ j x y h => by omega, fun _ => rfl⟩⟩ ?_ ?_
        · rintro i H3 hi ⟨s3, is, e3, l3, iff3⟩
          rw [List.length_map] at hi
          have hi1 : i + 1 < ls.length := by omega
          have hi0 : i < ls.length := by omega
          have sB := sA.trans s3
          have hp3 := sB _ _ hp
          have g0 : (ls.map V.int)[i]? = some (.int ls[i]) := by rw [List.getElem?_map, List.getElem?_eq_getElem hi0]; rfl
          have g1 : (ls.map V.int)[i + 1]? = some (.int ls[i + 1]) := by rw [List.getElem?_map, List.getElem?_eq_getElem hi1]; rfl
          have q0 : (1 + (i : Int)) - 1 = ((i : Nat) : Int) := by omega
          have q1 : (1 + (i : Int)) = ((i + 1 : Nat) : Int) := by omega
          refine ⟨rfl, .ref p, rfl, .int (1 + i), rfl, 1 + i, 1, rfl, rfl, p, _, (1 + (i : Int)) - 1, .int ls[i], rfl, rfl, SqT.of hp3, (by rw [q0]; exact atI_nat g0), .ref p, rfl, .int (1 + i), rfl, p, _, 1 + i, .int ls[i + 1], rfl, rfl, SqT.of hp3, (by rw [q1]; exact atI_nat g1), (by show 2 ≤ sizeLine; decide), fun T hT => ?_⟩
          have s4 := same_new (o := .tup [.int ls[i], .int ls[i + 1]]) hT
          have M4 := M.same (sB.trans s4)
          refine ⟨.ref m, rfl, m, _, 2, .ref pl, rfl, rfl, SqL.of M4.mo, atI_nat (j := 2) rfl, pd2 (ls[i], ls[i + 1]), (ks.map (·.2)).map pd2, .tup (SqT.of upd_same) (.cons (.int _) (.cons (.int _) .nil)), ps_dp rfl M4.pa M4.pr, pd2_shaped _, ps_shaped rfl, _, rfl, ?_⟩
          have e4 := s4 _ _ e3
          cases hh : hasP (ks.map (·.2)) ls[i] ls[i + 1] with
          | false =>
            refine iteFB hh ⟨s3.trans s4, is, e4, by omega, ?_⟩
            rw [iff3]
            constructor
            · intro z j x y hj hx hy
              rcases Nat.lt_or_ge j i with hlt | hge
              · exact z j x y hlt hx hy
              · have e : j = i := by omega
                subst e
                rw [List.getElem?_eq_getElem hi0] at hx
                rw [List.getElem?_eq_getElem hi1] at hy
                cases Option.some.inj hx
                cases Option.some.inj hy
                exact hh
            · intro z j x y hj hx hy
              exact z j x y (by omega) hx hy
          | true =>
            refine iteTB hh ⟨.int (1 + i), rfl, _, e4, ?_, Same.store (s3.trans s4) hD2, is ++ [1 + (i : Int)], ?_, ?_, ?_⟩
            · rw [List.length_map]
              exact small1000 (by omega)
            · rw [upd_same, List.map_append]
              rfl
            · rw [List.length_append]
              show is.length + 1 ≤ i + 1
              omega
            · constructor
              · intro z
                exact absurd z (by simp)
              · intro z
                have := z i _ _ (by omega) (List.getElem?_eq_getElem hi0) (List.getElem?_eq_getElem hi1)
                rw [this] at hh
                cases hh
        · rintro H3 ⟨s3, is, e3, l3, iff3⟩
          rw [List.length_map] at iff3
          refine ⟨(by show 0 ≤ sizeLine; decide), fun l1 hl1 => ?_⟩
          have s4 := same_new (o := .lst []) hl1
          refine ⟨.list (is.map .int), .list [], .lst (SqL.of (s4 _ _ e3)) (dp_ints _), .lst (SqL.of upd_same) .nil, ints_shapedL _, nil_shaped, ?_⟩
          rw [eqv_nilL, List.isEmpty_map]
          have z := q _ (sA.trans (s3.trans s4))
          have eb : is.isEmpty = adjR (ks.map (·.2)) ls := by
            rw [Bool.eq_iff_iff, List.isEmpty_iff, iff3, adjR_iff]
            constructor
            · intro z j x y hx hy
              have := (List.getElem?_eq_some_iff.mp hy).1
              exact z j x y (by omega) hx hy
            · intro z j x y _ hx hy
              exact z j x y hx hy
          unfold rowI at z
          rw [hf, Bool.true_and] at z
          rw [eb]
          exact z
/-! ### the law's own value -/
def spValue : Sp := fun vs H Q _ => ∃ (b : Int) (p : Addr) (ns : List Int), vs = [.int b, .ref p] ∧ H p = some (.tup (ns.map V.int)) ∧ b.natAbs ≤ 6 ∧ Q (.int (valI b ns)) H
abbrev nVa : List Str := ["_law_base", "_law_row_here", "_law_total", "_law_digit"]
theorem scVa : FnScope nVa ["_law_base", "_law_row_here"] (defScope sValue) := ⟨rfl, rfl, rfl, by decide +kernel, rfl, by decide +kernel, by decide +kernel⟩
theorem ok_value {f : Addr} {fd : FuncData} (F : Fun K "_law_value" "_law_value" sValue f fd) : FnOk P w K mg base CX0 1 f fd ["_law_base", "_law_row_here"] spValue := by
  refine F.ok scVa (fun vs H Q E h => ?_) (fun cdv A outer s H vs Q E hr h => ?_)
  · obtain ⟨b, p, ns, rfl, _⟩ := h
    rfl
  · obtain ⟨b, p, ns, rfl, hp, hb, q⟩ := h
    refine ⟨_, pss_cons (ps_set (i := 2) scVa.nd rfl (.inl rfl) pe_int) (pss_cons (ps_for PassesOwn.never rfl (pi_tup (pv 1)) (pg_name (i := 3) scVa.nd rfl (.inl rfl)) (pss_one (ps_set (i := 2) scVa.nd rfl (.inl rfl) (pe_op op_add (pe_op op_mul (pv 2) (pv 0)) (pv 3))))) (pss_one (ps_ret (pv 2)))), ?_⟩
    refine ⟨.ref p, rfl, p, rfl, ⟨_, SqT.of hp⟩, for_tup (K := K) (a := p) (xs := ns.map V.int) (fun i σ H2 => (∃ v, σ = [some (.int b), some (.ref p), some (.int (valI b (ns.take i))), v]) ∧ H2 = H) ⟨⟨none, rfl⟩, rfl⟩ (fun i σ H2 _ h => by rw [h.2]; exact SqT.of hp) ?_ ?_⟩
    · rintro i x σ H2 hx ⟨⟨v, rfl⟩, rfl⟩
      obtain ⟨n, hn, rfl⟩ := get_map hx
      refine ⟨_, rfl, .int b, rfl, _, _, rfl, rfl, .inr ⟨by omega, by omega⟩, .int n, rfl, _, _, rfl, rfl, ⟨some (.int n), ?_⟩, rfl⟩
      rw [take_more hn]
      unfold valI
      rw [List.foldl_append]
      rfl
    · rintro σ H2 ⟨⟨v, rfl⟩, rfl⟩
      rw [List.length_map, List.take_length]
      exact ⟨_, rfl, q⟩

/-- what may stand right of a row's end -/
def nextOk (ps : List (Int × Int)) (ls : List Int) (x : Int) : Prop := ∀ y, ls.getLast? = some y → hasP ps y x = false
theorem adj_push {ps : List (Int × Int)} : ∀ {ls : List Int} {x : Int}, adjR ps ls = true → nextOk ps ls x → adjR ps (ls ++ [x]) = true
  | [], x, _, _ => rfl
  | [u], x, _, n => by
    show (!hasP ps u x && true) = true
    rw [n u rfl]
    rfl
  | u :: v :: l, x, h, n => by
    show (!hasP ps u v && adjR ps ((v :: l) ++ [x])) = true
    have h2 : (!hasP ps u v && adjR ps (v :: l)) = true := h
    rw [Bool.and_eq_true] at h2
    rw [h2.1, adj_push h2.2 fun y e => n y (by rw [List.getLast?_cons_cons]; exact e)]
    rfl
theorem rowI_of {ns : List Int} {ps : List (Int × Int)} {ls : List Int} (h : ∀ x ∈ ls, x ∈ ns) (a : adjR ps ls = true) : rowI ns ps ls = true := by
  unfold rowI
  rw [a, Bool.and_true, List.all_eq_true]
  exact fun x hx => decide_eq_true (h x hx)
/-! ### a row, drawn -/
def spRow : Sp := fun vs H Q _ => ∃ (a m : Addr) (n many b : Int) (ns : List Int) (ps : List (Int × Int)), vs = [.ref a, .ref m, .int many] ∧ Box n H a ∧ n ≤ 700000 ∧ Model a H m b ns ps ∧ ns.length ≤ 6 ∧ 0 ≤ many ∧ many ≤ 300 ∧
  ∀ (p : Addr) (ls : List Int) (H' : Hp), But a H H' → Box (n + 300) H' a → H' p = some (.tup (ls.map V.int)) → (ls.length : Int) ≤ many → rowI ns ps ls = true → Q (.ref p) H'
abbrev nRw : List Str := ["_law_box_here", "_law_model", "_law_many", "_law_row_here", "_law_k", "_law_some", "_law_digit"]
theorem scRw : FnScope nRw ["_law_box_here", "_law_model", "_law_many"] (defScope sRow) := ⟨rfl, rfl, rfl, by decide +kernel, rfl, by decide +kernel, by decide +kernel⟩
set_option maxHeartbeats 2000000 in
theorem ok_row {f fT : Addr} {fd fdT : FuncData} (F : Fun K "_law_row" "_law_row" sRow f fd) (FT : Fun K "_law_take" "_law_take" sTake fT fdT) (gT : mg "_law_take" = some (.ref fT)) (bT : Binds K fdT ["_law_box_here", "_law_many"] [])
    (mi : mg "int" = none) (ml : mg "len" = none) (mr : mg "range" = none) (mt : mg "tuple" = none) : FnOk P w K mg base CX0 2 f fd ["_law_box_here", "_law_model", "_law_many"] spRow := by
  have GT : FnOk P w K mg base CX0 1 fT fdT ["_law_box_here", "_law_many"] spTake := ok_take FT mi
  refine F.ok scRw (fun vs H Q E h => ?_) (fun cdv A outer s H vs Q E hr h => ?_)
  · obtain ⟨a, m, n, many, b, ns, ps, rfl, _⟩ := h
    rfl
  · obtain ⟨a, m, n, many, b, ns, ps, rfl, hB, hn, ⟨dl, pl, ks, rfl, MM⟩, h6, hm0, hm1, q⟩ := h
    have hu : A.units + 3 + 65 < cLine := by
      have := hr.un
      have e : (A.deeper (envOfC "_law_row" (defScope sRow) s.heap.objs.size f cdv)).units = A.units + 3 := rfl
      omega
    apply Exists.intro
    apply And.intro
    · apply pss_cons
      · exact ps_set (i := 3) scRw.nd rfl (.inr rfl) (pe_lst pa_nil)
      apply pss_cons
      · exact ps_for PassesOwn.never rfl (pi_range1 rfl mr (pa_cons (pv 2) pa_nil)) (pg_name (i := 4) scRw.nd rfl (.inl rfl))
          (pss_cons (ps_setLc (i := 5) (own := [("_law_digit", 6)]) (g := gName 6) (tt := tOr (tTest (tOp (rEqD K) (tVar 3) (tLst tNil))) (tTest (tOp (rNotInD K) (tTup (tCons (tOp (rIxL K) (tVar 3) (tUn (rU fun i => .int (-i)) (tC (.int 1)))) (tCons (tVar 6) tNil))) (tOp (rIxL K) (tVar 1) (tC (.int 2)))))) (te := tVar 6) rfl scRw.nd rfl rfl (sw_true rfl rfl rfl (by decide +kernel)) (pi_list (pe_ix ix_list (pv 1) pe_int (fun _ _ => rfl)))
              (blkOk_by (own := [("_law_digit", 6)]) (N := nRw) (sc := defScope sRow) (by decide +kernel)) (fun _ _ _ _ _ => pg_name (i := 6) scRw.nd rfl (Or.inl rfl))
              (fun _ _ _ _ _ => by exact (pts_one (PW.pt (pw_or (pt_cmpR (op_eqD hr.units) (pv 3) (pe_lst pa_nil) (nomark _)) (pw_or1 (pt_cmpR (op_notInD hu) (pe_tup (pa_cons (pe_ix ix_list (pv 3) (pe_un un_neg pe_int) (fun _ _ => rfl)) (pa_cons (pv 6) pa_nil))) (pe_ix ix_list (pv 1) pe_int (fun _ _ => rfl)) rfl)))))) (fun _ _ _ _ _ => by exact (pv 6)))
          (pss_one (ps_if (pt_cmpR (op_neD hr.units) (pv 5) (pe_lst pa_nil) (nomark _)) (pss_one (ps_expr (pe_bm PySem.F.plainAttrs_list PySem.F.slot_list_append PySem.F.type_list_append mt_append (pv 3) (pa_cons (pe_ix ix_list (pv 5) (pe_call GT hr (by rfl) gT FT.kp bT .nil pass0 (pa_cons (pv 0) (pa_cons (pe_callB call_len_seq (by rfl) ml PySem.boot_len (pa_cons (pv 5) pa_nil)) pa_nil))) (fun _ _ => rfl)) pa_nil)))) pss_nil)))
      apply pss_one
      · exact ps_ret (pe_callTy call_tuple_of (by rfl) mt (by decide +kernel) (pa_cons (pv 3) pa_nil))
    refine ⟨(by show 0 ≤ sizeLine; decide), fun L hL => ?_⟩
    have nLa := hB.ne hL
    have s0 := same_new (o := .lst []) hL
    refine ⟨.int many, rfl, many, rfl, by omega, by omega, for_range (lo := 0) (n := many.toNat) (fun i σ H' => ∃ (v v2 : Option V) (ls : List Int), σ = [some (.ref a), some (.ref m), some (.int many), some (.ref L), v, v2, none] ∧ But a H H' ∧ Box (n + i) H' a ∧ H' L = some (.lst (ls.map V.int)) ∧ ls.length ≤ i ∧ (∀ x ∈ ls, x ∈ ns) ∧ adjR (ks.map (·.2)) ls = true)
      ⟨none, none, [], rfl, But.of_same s0, (hB.same s0).mono (by omega), upd_same, Nat.le_refl _, (fun x h => by cases h), rfl⟩ ?_ ?_⟩
    · rintro i σ H1 hi ⟨v, v2, ls, rfl, t1, B1, eL, ll, ln, la⟩
      have M1 := MM H1 t1
      refine ⟨.ref m, rfl, m, _, 1, .ref dl, rfl, rfl, SqL.of M1.mo, atI_nat (j := 1) rfl, dl, rfl, ⟨_, SqL.of M1.di⟩, fun D hD => ?_⟩
      have nDa := B1.ne hD
      refine lc_list (K := K) (a := dl) (xs := ns.map V.int) (fun j H' => Same H1 H' ∧ ∃ is : List Int, H' D = some (.lst (is.map V.int)) ∧ is.length ≤ j ∧ ∀ x ∈ is, x ∈ ns ∧ nextOk (ks.map (·.2)) ls x) ⟨same_new hD, [], upd_same, Nat.le_refl _, fun x h => by cases h⟩ (fun j H' _ h => SqL.of (h.1 _ _ M1.di)) ?_ ?_
      · rintro j x H2 hx ⟨s2, is, eD, li, lin⟩
        obtain ⟨d, hd, rfl⟩ := get_map hx
        have hj : j < ns.length := (List.getElem?_eq_some_iff.mp hd).1
        have eL2 := s2 _ _ eL
        have add : nextOk (ks.map (·.2)) ls d → ∀ H3, Same H2 H3 → ∃ acc, H3 D = some (.lst acc) ∧ acc.length < sizeLine ∧ (Same H1 (upd H3 D (.lst (acc ++ [.int d]))) ∧ ∃ is : List Int, (upd H3 D (.lst (acc ++ [.int d]))) D = some (.lst (is.map V.int)) ∧ is.length ≤ j + 1 ∧ ∀ x ∈ is, x ∈ ns ∧ nextOk (ks.map (·.2)) ls x) := fun nx H3 s3 => by
          refine ⟨_, s3 _ _ eD, ?_, Same.store (s2.trans s3) hD, is ++ [d], ?_, ?_, fun x hx2 => ?_⟩
          · rw [List.length_map]
            exact small1000 (by omega)
          · rw [upd_same, List.map_append]
            rfl
          · rw [List.length_append]
            show is.length + 1 ≤ j + 1
            omega
          · rcases List.mem_append.mp hx2 with z | z
            · exact lin x z
            · cases List.mem_singleton.mp z
              exact ⟨List.mem_of_getElem? hd, nx⟩
        refine ⟨rfl, .ref L, rfl, (by show 0 ≤ sizeLine; decide), fun l0 hl0 => ?_⟩
        have s3 := same_new (o := .lst []) hl0
        refine ⟨.list (ls.map .int), .list [], .lst (SqL.of (s3 _ _ eL2)) (dp_ints _), .lst (SqL.of upd_same) .nil, ints_shapedL _, nil_shaped, _, rfl, ?_⟩
        rw [eqv_nilL, List.isEmpty_map]
        generalize upd H2 l0 (.lst []) = H3 at s3 ⊢
        by_cases hls : ls = []
        · exact iteTB (by rw [hls]; rfl) (iteT ⟨.int d, rfl, add (fun y e => by rw [hls] at e; cases e) H3 s3⟩)
        · refine iteFB (by rw [List.isEmpty_eq_false_iff]; exact hls) ?_
          obtain ⟨ls', y, rfl⟩ : ∃ ls' y, ls = ls' ++ [y] := ⟨ls.dropLast, ls.getLast hls, (List.dropLast_concat_getLast hls).symm⟩
          have eL3 := s3 _ _ eL2
          rw [List.map_append] at eL3
          refine ⟨.ref L, rfl, 1, rfl, L, _, -1, .int y, rfl, rfl, SqL.of eL3, atI_last _ _, .int d, rfl, (by show 2 ≤ sizeLine; decide), fun T hT => ?_⟩
          have s4 := same_new (o := .tup [.int y, .int d]) hT
          have M4 := M1.same (s2.trans (s3.trans s4))
          refine ⟨.ref m, rfl, m, _, 2, .ref pl, rfl, rfl, SqL.of M4.mo, atI_nat (j := 2) rfl, pd2 (y, d), (ks.map (·.2)).map pd2, .tup (SqT.of upd_same) (.cons (.int _) (.cons (.int _) .nil)), ps_dp rfl M4.pa M4.pr, pd2_shaped _, ps_shaped rfl, _, rfl, ite2 (fun z => ?_) (fun z => ?_)⟩
          · exact ⟨.int d, rfl, add (fun y2 e => by
              rw [List.getLast?_append] at e
              cases e
              unfold hasP
              simpa using z) _ (s3.trans s4)⟩
          · exact ⟨s2.trans (s3.trans s4), is, s4 _ _ (s3 _ _ eD), by omega, lin⟩
      · rintro H2 ⟨s2, is, eD, li, lin⟩
        rw [List.length_map] at li
        refine ⟨.ref D, rfl, (by show 0 ≤ sizeLine; decide), fun l0 hl0 => ?_⟩
        have s3 := same_new (o := .lst []) hl0
        refine ⟨.list (is.map .int), .list [], .lst (SqL.of (s3 _ _ eD)) (dp_ints _), .lst (SqL.of upd_same) .nil, ints_shapedL _, nil_shaped, _, rfl, ?_⟩
        rw [eqv_nilL, List.isEmpty_map]
        have sB := s2.trans s3
        have eD3 := s3 _ _ eD
        generalize upd H2 l0 (.lst []) = H3 at sB eD3 ⊢
        have t3 := t1.trans (But.of_same sB)
        have B3 := B1.same sB
        have eL3 := sB _ _ eL
        by_cases his : is = []
        · exact iteFB (by rw [his]; rfl) ⟨some (.int (0 + i)), some (.ref D), ls, rfl, t3, B3.mono (by omega), eL3, by omega, ln, la⟩
        · refine iteTB (by rw [List.isEmpty_eq_false_iff.mpr his]; rfl) ?_
          have hpos : 1 ≤ is.length := by
            cases is with
            | nil => exact absurd rfl his
            | cons _ _ => exact Nat.succ_le_succ (Nat.zero_le _)
          refine ⟨.ref L, rfl, .inl ⟨rfl, _, SqL.of eL3⟩, .ref D, rfl, .ref a, rfl, .ref D, rfl, D, _, rfl, .inl (SqL.of eD3), a, ((is.map V.int).length : Int), n + i, rfl, B3, by omega, by rw [List.length_map]; omega, by rw [List.length_map, Int.natAbs_natCast]; exact Nat.lt_of_le_of_lt (by omega : is.length ≤ 6) (by decide), fun r H4 r0 r1 t4 B4 => ?_⟩
          rw [List.length_map] at r1
          have hk : r.toNat < is.length := by omega
          have eD4 := t4 _ _ nDa eD3
          have er : ((r.toNat : Nat) : Int) = r := by omega
          have g : (is.map V.int)[r.toNat]? = some (.int is[r.toNat]) := by rw [List.getElem?_map, List.getElem?_eq_getElem hk]; rfl
          have ga := atI_nat g
          rw [er] at ga
          refine ⟨D, _, r, .int is[r.toNat], rfl, rfl, SqL.of eD4, ga, ?_⟩
          have eL4 := t4 _ _ nLa eL3
          refine ⟨L, _, _, rfl, rfl, eL4, ?_, ?_⟩
          · rw [List.length_map]
            exact small1000 (by omega)
          · refine ⟨some (.int (0 + i)), some (.ref D), ls ++ [is[r.toNat]], rfl, (t3.trans t4).store hL, (B4.upd nLa).mono (by omega), ?_, ?_, (fun x hx2 => ?_), ?_⟩
            · rw [upd_same, List.map_append]
              rfl
            · rw [List.length_append]
              show ls.length + 1 ≤ i + 1
              omega
            · rcases List.mem_append.mp hx2 with z | z
              · exact ln x z
              · cases List.mem_singleton.mp z
                exact (lin _ (List.getElem_mem hk)).1
            · exact adj_push la (lin _ (List.getElem_mem hk)).2
    · rintro σ H1 ⟨v, v2, ls, rfl, t1, B1, eL, ll, ln, la⟩
      refine ⟨.ref L, rfl, L, _, rfl, .inl ⟨SqL.of eL, fun p hp => ?_⟩⟩
      exact q p ls _ (t1.trans (But.new hp)) ((B1.new hp).mono (by omega)) upd_same (by omega) (rowI_of ln la)

end
end K31
namespace K31
open PySem PySem.Spec PyProof.Rows L2 OF
section
variable {P : Program} {w : World} {K : PySem.W.Frag} {mg : Str → Option Value} {base : Heap}
def gDef {α : Type} (us ms ws : List α) : List α := us ++ ms
theorem kbDef {f T : Addr} {fd : FuncData} (F : FunD K "__init__" "Scheme.__init__" (defArgs sInit) (defBody sInit) (defScope sInit) [] [("bars", .ref T)] f fd) : ∃ mv : List Value, KBn K fd ["self", "base", "digits", "bars"] 3 [] (fun us ws => gDef us mv ws) (fun vs zs => gDef vs [.ref T] zs) :=
  F.kbinds0 (ps := ["self", "base", "digits", "bars"]) 3 [] [("bars", .ref T)] gDef (fun z => by cases z) (fun q hq => hq) (fun r1 r2 _ => r1.append r2) (fun D doc pm an cdv ct us mv ws l1 l2 l3 => by
    match us, mv, ws, l1, l2, l3 with
    | [x, y, z], [d], [], _, _, _ => exact ⟨_, _, _, _, _, _, rfl, rfl, rfl⟩)

def gApp {α : Type} (us ws : List α) : List α := us ++ ws
theorem kbNew {f : Addr} {fd : FuncData} (G : ∃ kws, FunD K "__init__" "Scheme.__init__" (defArgs sInit) (defBody sInit) (defScope sInit) [] kws f fd) : KBn K fd ["self", "base", "digits", "bars"] 3 ["bars"] gApp gApp := by
  obtain ⟨kws, F⟩ := G
  obtain ⟨oc, od, dV, kV, doc, pm, an, cdv, ct, osl, rfl, lk, hcd, hD, _⟩ := F.ex
  rcases hD with ⟨_, rfl⟩ | ⟨e, _⟩
  · refine ⟨fun s us ws X l1 l2 => ?_, fun {vs us zs ws} r1 r2 => r1.append r2⟩
    match us, ws, l1, l2 with
    | [x, y, z], [v], _, _ => exact .of_eq rfl
  · exact absurd rfl e

/-! ### schemes that come of others -/
theorem made_ok {C CB CD CP p q : Addr} {H : Hp} {b : Int} {ns ds : List Int} {ks : List (Addr × (Int × Int))} {ps : List (Int × Int)} {Q : VK} {E : XK} (hb : isBase b = true) (s : IsSeq K H p (ns.map V.int)) (l : ns.length ≤ 60) (ok : ns.all dig = true)
    (t : IsSeq K H q (ks.map fun p => V.ref p.1)) (few : ks.length < 64) (hk : ∀ p ∈ ks, H p.1 = some (.tup [.int p.2.1, .int p.2.2])) (G : Good b ds ps) (md : ∀ k, k ∈ ds ↔ k ∈ ns) (mp : ∀ z, z ∈ ps ↔ z ∈ ks.map (·.2))
    (qm : ∀ o H', Same H H' → IsS C H' o b ds ps → Q (.ref o) H') : ∀ o d, H o = none → H d = none → d ≠ o → spNew K C CB CD CP [.ref o, .int b, .ref p, .ref q] (upd (upd H d (.own o)) o (.ins C d [])) (fun v H3 => v = .non ∧ Q (.ref o) H3) E :=
  fun o d ho hd _ => new_made hb s l ok t few hk G md mp ho hd fun H' s' S => ⟨rfl, qm o H' s' S⟩
theorem Good.all {b : Int} {ds : List Int} {ps : List (Int × Int)} (G : Good b ds ps) : ds.all dig = true := List.all_eq_true.mpr G.dg
/-! ### a scheme made of the law's parts -/
def spMadeL (C : Addr) : Sp := fun vs H Q _ => ∃ (m dl pl : Addr) (b : Int) (ds : List Int) (ks : List (Addr × (Int × Int))), vs = [.ref m] ∧ ModAt H m dl pl b ds ks ∧ Good b ds (ks.map (·.2)) ∧ ∀ o H', Same H H' → IsS C H' o b ds (ks.map (·.2)) → Q (.ref o) H'
theorem scMd : FnScope ["_law_model"] ["_law_model"] (defScope sScheme) := ⟨rfl, rfl, rfl, by decide +kernel, rfl, by decide +kernel, by decide +kernel⟩
theorem ok_scheme {f fN C CB CD CP T : Addr} {fd fdN : FuncData} (F : Fun K "_law_scheme" "_law_scheme" sScheme f fd) 
    (FN : FunD K "__init__" "Scheme.__init__" (defArgs sInit) (defBody sInit) (defScope sInit) [] [("bars", .ref T)] fN fdN) (M : Mk K C fN) (gC : mg "Scheme" = some (.ref C)) (GN : FnOk P w K mg base (L2.CX P w) 7 fN fdN ["self", "base", "digits", "bars"] (spNew K C CB CD CP)) :
    FnOk P w K mg base CX0 9 f fd ["_law_model"] (spMadeL C) := by
  have kbN := kbNew ⟨_, FN⟩
  refine F.ok scMd (fun vs H Q E h => ?_) (fun cdv A outer s H vs Q E hr h => ?_)
  · obtain ⟨m, dl, pl, b, ns, ks, rfl, _⟩ := h
    rfl
  · obtain ⟨m, dl, pl, b, ns, ks, rfl, ⟨hm, hd, hp, hk⟩, G, q⟩ := h
    apply Exists.intro
    apply And.intro
    · apply pss_one
      · exact ps_ret (pe_makeK M GN hr (by rfl) gC kbN passNo (pa_cons (pe_ix ix_list (pv 0) pe_int (fun _ _ => rfl)) (pa_cons (pe_ix ix_list (pv 0) pe_int (fun _ _ => rfl)) pa_nil)) (pk_cons (pe_ix ix_list (pv 0) pe_int (fun _ _ => rfl)) pk_nil))
    refine ⟨.ref m, rfl, m, _, 0, .int b, rfl, rfl, SqL.of hm, atI_nat (j := 0) rfl, .ref m, rfl, m, _, 1, .ref dl, rfl, rfl, SqL.of hm, atI_nat (j := 1) rfl, .ref m, rfl, m, _, 2, .ref pl, rfl, rfl, SqL.of hm, atI_nat (j := 2) rfl, rfl, rfl, ?_⟩
    have h6 := G.six
    have h36 := G.few
    rw [List.length_map] at h36
    exact made_ok G.b (.lst hd) (by omega) G.all (.lst hp) (by omega) hk G (fun _ => .rfl) (fun _ => .rfl) q
/-! ### what is due of a form -/
inductive VerF
  | terms
  | term (u : V)
  | scheme
  | base (b : Int)
  | made
inductive DueF (C : Addr) (H : Hp) : V → V → VerF → Prop
  | terms0 {x y : V} (n : NoSeq H x) : DueF C H x y .terms
  | terms1 {p : Addr} {xs : List V} {y : V} (s : LT H p xs) (l : ¬ (1 ≤ xs.length ∧ xs.length ≤ 2)) : DueF C H (.ref p) y .terms
  | term {p : Addr} {good : List V} {u : V} {more : List V} {y : V} (s : LT H p (good ++ u :: more)) (l : (good ++ u :: more).length ≤ 2) (g : ∀ z ∈ good, TermOk C H z) (b : TermBad C H u) : DueF C H (.ref p) y (.term u)
  | scheme {p : Addr} {ts : List TD} {y : V} (s : LT H p (ts.map tV)) (l1 : 1 ≤ ts.length) (l2 : ts.length ≤ 2) (t : ∀ z ∈ ts, TermAt C H z) (o : ItemOk H y) : DueF C H (.ref p) y .scheme
  | base {p a t r : Addr} {l m : List TD} {u : TD} {b : Int} {ds : List Int} {ks : List (Addr × (Int × Int))} (s : LT H p ((l ++ u :: m).map tV)) (l2 : (l ++ u :: m).length ≤ 2) (tt : ∀ z ∈ l ++ u :: m, TermAt C H z) (S : SchemeAt C H a t r b ds ks) (few : ds.length ≤ 60) (al : ∀ z ∈ l, z.b.natAbs = b.natAbs) (ne : u.b.natAbs ≠ b.natAbs) : DueF C H (.ref p) (.ref a) (.base u.b)
  | made {p a t r : Addr} {ts : List TD} {b : Int} {ds : List Int} {ks : List (Addr × (Int × Int))} (s : LT H p (ts.map tV)) (l1 : 1 ≤ ts.length) (l2 : ts.length ≤ 2) (tt : ∀ z ∈ ts, TermAt C H z) (S : SchemeAt C H a t r b ds ks) (few : ds.length ≤ 60) (al : ∀ z ∈ ts, z.b.natAbs = b.natAbs) : DueF C H (.ref p) (.ref a) .made
theorem DueF.same {C : Addr} {H H' : Hp} {x y : V} {v : VerF} (d : DueF C H x y v) (s : Same H H') : DueF C H' x y v := by
  cases d with
  | terms0 n => exact .terms0 (n.same s)
  | terms1 q l => exact .terms1 (q.same s) l
  | term q l g b => exact .term (q.same s) l (fun z hz => (g z hz).same s) (b.same s)
  | scheme q l1 l2 t o => exact .scheme (q.same s) l1 l2 (fun z hz => (t z hz).same s) (o.same s)
  | base q l2 t S f a n => exact .base (q.same s) l2 (fun z hz => (t z hz).same s) (S.same s) f a n
  | made q l1 l2 t S f a => exact .made (q.same s) l1 l2 (fun z hz => (t z hz).same s) (S.same s) f a
/-- which error -/
def ErrF (CT CI CN CU : Addr) (v : VerF) (x y : V) (C' : Addr) (f : Str) (u : V) : Prop :=
  (v = .terms ∧ C' = CT ∧ f = "value" ∧ u = x) ∨ (∃ z, v = .term z ∧ C' = CI ∧ f = "term" ∧ u = z) ∨ (v = .scheme ∧ C' = CN ∧ f = "value" ∧ u = y) ∨ (∃ b, v = .base b ∧ C' = CU ∧ f = "value" ∧ u = .int b)
theorem form_due {CF C CT CI CN CU o dx : Addr} {H : Hp} {x y : V} {v : VerF} {Q : VK} {E : XK} (d : DueF C H x y v) (ho : H o = none) (hd : H dx = none)
    (qe : ∀ (C' : Addr) (f : Str) (u : V), ErrF CT CI CN CU v x y C' f u → ∀ (fs : List (Str × V)) (d : Addr) (H' : Hp), Same H H' → H' d = some (.xd ((f, u) :: fs)) → E (.ref C') (some d) H')
    (qm : v = .made → ∀ (p tt a t r : Addr) (ts : List TD) (b : Int) (ds : List Int) (ks : List (Addr × (Int × Int))) (H' : Hp), x = .ref p → y = .ref a → LT H p (ts.map tV) → Same H H' → FormAt CF C H' o tt ts a t r b ds ks → Q .non H') :
    spForm CF C CT CI CN CU [.ref o, x, y] (newAt H CF o dx) Q E := by
  have s0 := newAt_same (C := CF) ho hd
  have eo : (newAt H CF o dx) o = some (.ins CF dx []) := upd_same
  have up : ∀ {H'}, But o (newAt H CF o dx) H' → Same H H' := fun t c u hc => t c u (ne_of_none hc ho) (s0 c u hc)
  have er : ∀ (C' : Addr) (f : Str) (u : V), ErrF CT CI CN CU v x y C' f u → Raised C' f u (newAt H CF o dx) E := fun C' f u hv fs d H' _ s ed => qe C' f u hv fs d H' (s0.trans s) ed
  refine ⟨o, dx, x, y, rfl, eo, ?_⟩
  cases d with
  | terms0 n => exact .inl ⟨n.same s0, er _ _ _ (.inl ⟨rfl, rfl, rfl, rfl⟩)⟩
  | terms1 q l => exact .inr ⟨_, _, rfl, q.same s0, .inl ⟨l, er _ _ _ (.inl ⟨rfl, rfl, rfl, rfl⟩)⟩⟩
  | @term p good u more y q l g b => exact .inr ⟨_, _, rfl, q.same s0, .inr ⟨by rw [List.length_append, List.length_cons]; omega, l, .inl ⟨good, u, more, rfl, (fun z hz => (g z hz).same s0), b.same s0, er _ _ _ (.inr (.inl ⟨_, rfl, rfl, rfl, rfl⟩))⟩⟩⟩
  | @scheme p ts y q l1 l2 t oy => exact .inr ⟨_, _, rfl, q.same s0, .inr ⟨by rw [List.length_map]; exact l1, by rw [List.length_map]; exact l2, .inr ⟨ts, rfl, (fun z hz => (t z hz).same s0), .inl ⟨oy.same s0, er _ _ _ (.inr (.inr (.inl ⟨rfl, rfl, rfl, rfl⟩)))⟩⟩⟩⟩
  | @base p a t r l m u b ds ks q l2 tt S few al ne =>
    exact .inr ⟨_, _, rfl, q.same s0, .inr ⟨by rw [List.length_map, List.length_append, List.length_cons]; omega, by rw [List.length_map]; exact l2, .inr ⟨_, rfl, (fun z hz => (tt z hz).same s0), .inr ⟨a, t, r, b, ds, ks, rfl, S.same s0, few, .inl ⟨l, u, m, rfl, al, ne, er _ _ _ (.inr (.inr (.inr ⟨_, rfl, rfl, rfl, rfl⟩)))⟩⟩⟩⟩⟩
  | @made p a t r ts b ds ks q l1 l2 tt S few al =>
    refine .inr ⟨_, _, rfl, q.same s0, .inr ⟨by rw [List.length_map]; exact l1, by rw [List.length_map]; exact l2, .inr ⟨_, rfl, (fun z hz => (tt z hz).same s0), .inr ⟨a, t, r, b, ds, ks, rfl, S.same s0, few, .inr ⟨al, fun t2 g H' b2 e1 e2 => ?_⟩⟩⟩⟩⟩
    have s2 := up b2
    exact qm rfl p t2 a t r ts b ds ks H' rfl rfl q s2 ⟨⟨dx, g, e1⟩, e2, fun z hz => (tt z hz).same s2, S.same s2, few, l2⟩
/-- what is told of it -/
def TellAt (H : Hp) (v : VerF) (x y : V) (l : Addr) : Prop := match v with
  | .terms => H l = some (.lst [.str "terms", x, .bl true])
  | .term u => H l = some (.lst [.str "term", u])
  | .scheme => H l = some (.lst [.str "scheme", y])
  | .base b => H l = some (.lst [.str "base", .int b])
  | .made => ∃ (p L : Addr) (ts : List TD), x = .ref p ∧ LT H p (ts.map tV) ∧ H l = some (.lst [.str "made", .ref L, y]) ∧ H L = some (.lst (ts.map tV))
theorem kbFo {f : Addr} {fd : FuncData} (F : Fun K "__init__" "Form.__init__" sFoInit f fd) : KBn K fd ["self", "terms", "target"] 3 [] gApp gApp := by
  obtain ⟨oc, od, kV, doc, pm, an, cdv, ct, osl, rfl, lk, hcd⟩ := F.ex
  refine ⟨fun s us ws X l1 l2 => ?_, fun {vs us zs ws} r1 r2 => r1.append r2⟩
  match us, ws, l1, l2 with
  | [x, y, z], [], _, _ => exact .of_eq rfl
def gTurn {α : Type} (us ws : List α) : List α := us ++ ws.reverse
theorem kbFoN {f : Addr} {fd : FuncData} (F : Fun K "__init__" "Form.__init__" sFoInit f fd) : KBn K fd ["self", "terms", "target"] 1 ["target", "terms"] gTurn gTurn := by
  obtain ⟨oc, od, kV, doc, pm, an, cdv, ct, osl, rfl, lk, hcd⟩ := F.ex
  refine ⟨fun s us ws X l1 l2 => ?_, fun {vs us zs ws} r1 r2 => ?_⟩
  · match us, ws, l1, l2 with
    | [x], [y, z], _, _ => exact .of_eq rfl
  · refine r1.append ?_
    clear r1
    induction r2 with
    | nil => exact .nil
    | cons h _ ih =>
      rw [List.reverse_cons, List.reverse_cons]
      exact ih.append (.cons h .nil)
/-! ### what the program tells -/
def spTold (C : Addr) : Sp := fun vs H Q _ => ∃ (x y : V) (v : VerF), vs = [x, y] ∧ DueF C H x y v ∧ ∀ l H', Same H H' → TellAt H' v x y l → Q (.ref l) H'
abbrev nTo : List Str := ["_law_summands", "_law_goal", "_law_made", "e"]
theorem scTo : FnScope nTo ["_law_summands", "_law_goal"] (defScope sTold) := ⟨rfl, rfl, rfl, by decide +kernel, rfl, by decide +kernel, by decide +kernel⟩
def t_told (CF C CT CI CN CU : Addr) (W : WX) : TS := tAsg (tMakeS CF 2 0 (spForm CF C CT CI CN CU) gApp (WE W) (tCons (tVar 0) (tCons (tVar 1) tNil)) tNil) (gName 2)
def t_t1 (K : PySem.W.Frag) (CT CG : Addr) : Addr → Value → Option Addr → TS := fun a cls d => tRet (tLst (tCons (tC (.str "terms")) (tCons (tXf a cls d CT "value" (tVar 3)) (tCons (tCB (rAsk K CT a cls d) (tCons (tVar 3) (tCons (tC (.ref CG)) tNil))) tNil))))
def t_t2 (CI : Addr) : Addr → Value → Option Addr → TS := fun a cls d => tRet (tLst (tCons (tC (.str "term")) (tCons (tXf a cls d CI "term" (tVar 3)) tNil)))
def t_t3 (CN : Addr) : Addr → Value → Option Addr → TS := fun a cls d => tRet (tLst (tCons (tC (.str "scheme")) (tCons (tXf a cls d CN "value" (tVar 3)) tNil)))
def t_t4 (CU : Addr) : Addr → Value → Option Addr → TS := fun a cls d => tRet (tLst (tCons (tC (.str "base")) (tCons (tXf a cls d CU "value" (tVar 3)) tNil)))
abbrev toldC (K : PySem.W.Frag) (CT CI CN CU CG : Addr) : Clauses := [(.ref CT, 3, t_t1 K CT CG), (.ref CI, 3, t_t2 CI), (.ref CN, 3, t_t3 CN), (.ref CU, 3, t_t4 CU)]
/-- the classes are told apart -/
structure Apart (K : PySem.W.Frag) (CT CI CN CU : Addr) : Prop where
  a : PySem.W.exmOne K (.ref CI) (.ref CT) = some false
  b : PySem.W.exmOne K (.ref CN) (.ref CT) = some false
  c : PySem.W.exmOne K (.ref CN) (.ref CI) = some false
  d : PySem.W.exmOne K (.ref CU) (.ref CT) = some false
  e : PySem.W.exmOne K (.ref CU) (.ref CI) = some false
  f : PySem.W.exmOne K (.ref CU) (.ref CN) = some false
set_option maxHeartbeats 2000000 in
theorem ok_told {f fN fI1 fI2 fI3 fI4 CF C CT CI CN CU CG fG pT pG gT gG : Addr} {fd fdN fdT fdG : FuncData} (F : Fun K "_law_told" "_law_told" sTold f fd) (c : Cls K CF)
    (FN : Fun K "__init__" "Form.__init__" sFoInit fN fdN) (M : Mk K CF fN) (gC : mg "Form" = some (.ref CF)) (GN : FnOk P w K mg base (L2.CX P w) 16 fN fdN ["self", "terms", "target"] (spForm CF C CT CI CN CU))
    (qT : PropOf K CF "terms" pT gT) (GT : FnOk P w K mg base CX0 1 gT fdT ["self"] (spFT CF)) (bT : Binds K fdT ["self"] []) (qG : PropOf K CF "target" pG gG) (GG : FnOk P w K mg base CX0 1 gG fdG ["self"] (spFG CF)) (bG : Binds K fdG ["self"] [])
    (T1 : ErrC K mg "InvalidTerms" "value" CT fI1) (T2 : ErrC K mg "InvalidTerm" "term" CI fI2) (T3 : ErrC K mg "NotScheme" "value" CN fI3) (T4 : ErrC K mg "UnlikeBases" "value" CU fI4) (TF : FigC K mg CG fG) (ask : AskC K CT) (kk : PySem.W.kitOne K (.ref CT) (.ref CG) = some true) (mis : mg "isinstance" = none) (mli : mg "list" = none) (ap : Apart K CT CI CN CU) :
    FnOk P w K mg base CX0 18 f fd ["_law_summands", "_law_goal"] (spTold C) := by
  refine F.ok scTo (fun vs H Q E h => ?_) (fun cdv A outer s H vs Q E hr h => ⟨tSeq (fun D σ H => t_told CF C CT CI CN CU (wManyA K (fun _ _ _ _ => False) D (toldC K CT CI CN CU CG)) D σ H) (tRet (tLst (tCons (tC (.str "made")) (tCons (tCB (fun xs H Q => ∃ p ys, xs = [.ref p] ∧ (SqL K H p ys ∨ SqT K H p ys) ∧ ∀ l, H l = none → Q (.ref l) (upd H l (.lst ys))) (tCons (tProp CF (spFT CF) [] E0 (tVar 2)) tNil)) (tCons (tProp CF (spFG CF) [] E0 (tVar 2)) tNil))))), ?_, ?_⟩)
  · obtain ⟨x, y, v, rfl, _⟩ := h
    rfl
  · have hr2 : Room 2 _ := hr.mono (by decide)
    exact pss_cons (ps_try_manyA (l := toldC K CT CI CN CU CG) (tb := t_told CF C CT CI CN CU) (Wout := fun _ _ _ _ => False) rfl rfl scTo.nd takes0
      (fun W pn xe tk _ => pss_one (ps_set (i := 2) scTo.nd rfl (.inl rfl) (by exact (pe_makeS M GN hr (by rfl) gC (kbFo FN) (fun σ => passAt tk σ) (by exact (pa_cons (pv 0) (pa_cons (pv 1) pa_nil))) (by exact pk_nil)))))
      (.cons ⟨rfl, by decide, Or.inl T1.g⟩ rfl rfl (fun a oe cls d pn hz hf => pss_one (ps_ret (by exact (pe_lst (pa_cons pe_str (pa_cons (pe_xf T1.xf T1.no hz hf (pv 3)) (pa_cons (pe_callB (call_ask ask hz hf) (by rfl) mis PyProof.Rows.boot_isinstance (pa_cons (pv 3) (pa_cons (pe_glob (v := .ref CG) rfl TF.g rfl) pa_nil))) pa_nil)))))))
      (.cons ⟨rfl, by decide, Or.inl T2.g⟩ rfl rfl (fun a oe cls d pn hz hf => pss_one (ps_ret (by exact (pe_lst (pa_cons pe_str (pa_cons (pe_xf T2.xf T2.no hz hf (pv 3)) pa_nil))))))
      (.cons ⟨rfl, by decide, Or.inl T3.g⟩ rfl rfl (fun a oe cls d pn hz hf => pss_one (ps_ret (by exact (pe_lst (pa_cons pe_str (pa_cons (pe_xf T3.xf T3.no hz hf (pv 3)) pa_nil))))))
      (.cons ⟨rfl, by decide, Or.inl T4.g⟩ rfl rfl (fun a oe cls d pn hz hf => pss_one (ps_ret (by exact (pe_lst (pa_cons pe_str (pa_cons (pe_xf T4.xf T4.no hz hf (pv 3)) pa_nil)))))) .nil)))))
      (pss_one (ps_ret (pe_lst (pa_cons pe_str (pa_cons (pe_callTy call_list_of (by rfl) mli PyProof.Rows.boot_list (pa_cons (pe_prop (pv 2) c qT GT hr2 bT .nil pass0 (by rfl)) pa_nil)) (pa_cons (pe_prop (pv 2) c qG GG hr2 bG .nil pass0 (by rfl)) pa_nil))))))
  · obtain ⟨x, y, v, rfl, due, q⟩ := h
    refine ⟨x, rfl, y, rfl, rfl, rfl, fun o dx ho hd _ => ?_⟩
    refine form_due due ho hd (fun C' fl u hv fs d H' s1 ed => ?_) fun ev p tt a t r ts b ds ks H' ex ey lt s1 FA => ⟨rfl, ?_⟩
    · rcases hv with ⟨ev, rfl, rfl, rfl⟩ | ⟨z, ev, rfl, rfl, rfl⟩ | ⟨ev, rfl, rfl, rfl⟩ | ⟨b, ev, rfl, rfl, rfl⟩
      · refine ⟨true, T1.te, fun _ a ha => ?_, fun q => nomatch q⟩
        refine ⟨.ref a, rfl, rfl, rfl, d, _, u, rfl, ed, by simp [List.lookup], .ref a, rfl, d, _, .ref CG, .ref CG, true, rfl, rfl, ed, rfl, fun u hu => hu, kk, ?_⟩
        exact ⟨(by show 3 ≤ sizeLine; decide), fun l hl => q l _ (Same.store s1 (s1.free hl)) (by rw [ev]; exact upd_same)⟩
      · refine ⟨false, ap.a, (fun q => nomatch q), fun _ => ⟨true, T2.te, fun _ a ha => ?_, fun q => nomatch q⟩⟩
        refine ⟨.ref a, rfl, rfl, rfl, d, _, u, rfl, ed, by simp [List.lookup], ?_⟩
        exact ⟨(by show 2 ≤ sizeLine; decide), fun l hl => q l _ (Same.store s1 (s1.free hl)) (by rw [ev]; exact upd_same)⟩
      · refine ⟨false, ap.b, (fun q => nomatch q), fun _ => ⟨false, ap.c, (fun q => nomatch q), fun _ => ⟨true, T3.te, fun _ a ha => ?_, fun q => nomatch q⟩⟩⟩
        refine ⟨.ref a, rfl, rfl, rfl, d, _, u, rfl, ed, by simp [List.lookup], ?_⟩
        exact ⟨(by show 2 ≤ sizeLine; decide), fun l hl => q l _ (Same.store s1 (s1.free hl)) (by rw [ev]; exact upd_same)⟩
      · refine ⟨false, ap.d, (fun q => nomatch q), fun _ => ⟨false, ap.e, (fun q => nomatch q), fun _ => ⟨false, ap.f, (fun q => nomatch q), fun _ => ⟨true, T4.te, fun _ a ha => ?_, fun q => nomatch q⟩⟩⟩⟩
        refine ⟨.ref a, rfl, rfl, rfl, d, _, .int b, rfl, ed, by simp [List.lookup], ?_⟩
        exact ⟨(by show 2 ≤ sizeLine; decide), fun l hl => q l _ (Same.store s1 (s1.free hl)) (by rw [ev]; exact upd_same)⟩
    · subst ev ex ey
      obtain ⟨⟨dy, g, i⟩, m, _⟩ := id FA
      refine ⟨.ref o, rfl, o, dy, _, rfl, i, o, dy, tt, a, g, rfl, i, tt, _, rfl, .inr (SqT.of m), fun L hL => ?_⟩
      have s2 := same_new (o := .lst (ts.map tV)) hL
      refine ⟨.ref o, rfl, o, dy, _, rfl, s2 _ _ i, o, dy, tt, a, g, rfl, s2 _ _ i, (by show 3 ≤ sizeLine; decide), fun l hl => ?_⟩
      have s3 := same_new (o := .lst [.str "made", .ref L, .ref a]) hl
      exact q l _ (s1.trans (s2.trans s3)) ⟨p, L, ts, rfl, lt.same (s1.trans (s2.trans s3)), upd_same, s3 _ _ upd_same⟩
end
end K31
namespace K31
open PySem PySem.Spec PyProof.Rows L2 OF
section
variable {P : Program} {w : World} {K : PySem.W.Frag} {mg : Str → Option Value} {base : Heap}
/-! ### the law's own look at a term -/
def spGoodT (C : Addr) : Sp := fun vs H Q _ => ∃ x : V, vs = [x] ∧ ((TermOk C H x ∧ ∀ H', Same H H' → Q (.bl true) H') ∨ (TermBad C H x ∧ ∀ H', Same H H' → Q (.bl false) H'))
theorem scGt : FnScope ["_law_item"] ["_law_item"] (defScope sGoodT) := ⟨rfl, rfl, rfl, by decide +kernel, rfl, by decide +kernel, by decide +kernel⟩
theorem fac_in (n : Int) : decide (n ∈ ([-2, -1, 1, 2] : List Int)) = facB n := by
  unfold facB
  have e : (!decide (V.int n = V.int 0)) = !decide (n = 0) := by
    congr 1
    rw [decide_eq_decide]
    exact ⟨fun z => V.int.inj z, fun z => by rw [z]⟩
  rw [e]
  by_cases h : n ∈ ([-2, -1, 1, 2] : List Int)
  · rw [decide_eq_true h]
    simp only [List.mem_cons, List.not_mem_nil, or_false] at h
    rcases h with rfl | rfl | rfl | rfl <;> decide
  · rw [decide_eq_false h]
    simp only [List.mem_cons, List.not_mem_nil, or_false, not_or] at h
    by_cases h0 : n = 0
    · rw [decide_eq_true h0]
      simp
    · by_cases h1 : -2 ≤ n
      · rw [decide_eq_false (show ¬ n ≤ 2 by omega)]
        simp
      · rw [decide_eq_false h1]
        simp
theorem bool_of {H : Hp} {x : V} (o : Odd H x) : ∃ t b, TyX K H x t ∧ PySem.W.kitOne K t (.type "int") = some b ∧ (b = true → PySem.W.kitOne K t (.type "bool") = some true) := by
  obtain ⟨t, b, h1, h2, h3⟩ := o.kit (K := K)
  exact ⟨t, b, h1, h2, h3⟩
set_option maxHeartbeats 1000000 in
theorem ok_goodt {f C : Addr} {fd : FuncData} (F : Fun K "_law_good_term" "_law_good_term" sGoodT f fd) (IC : IsC K C) (NT : NoTupC K C) (N : NotK K C) (gC : mg "Scheme" = some (.ref C)) (mis : mg "isinstance" = none) (mt : mg "tuple" = none) (ml : mg "len" = none) (mi : mg "int" = none) (mb : mg "bool" = none) :
    FnOk P w K mg base CX0 2 f fd ["_law_item"] (spGoodT C) := by
  refine F.ok scGt (fun vs H Q E h => ?_) (fun cdv A outer s H vs Q E hr h => ?_)
  · obtain ⟨x, rfl, _⟩ := h
    rfl
  · obtain ⟨x, rfl, h⟩ := h
    apply Exists.intro
    apply And.intro
    · apply pss_cons
      · exact ps_if (PW.pt (pw_or (pt_not (pt_val (pe_callB call_isi (by rfl) mis PyProof.Rows.boot_isinstance (pa_cons (pv 0) (pa_cons (pe_bltn (v := .ty "tuple") (by rfl) mt (by decide +kernel) rfl) pa_nil)))))
            (pw_or (pt_cmpR op_ne (pe_callB call_len_seq (by rfl) ml PySem.boot_len (pa_cons (pv 0) pa_nil)) pe_int (nomark _))
              (pw_or1 (pt_not (pt_val (pe_callB call_isi (by rfl) mis PyProof.Rows.boot_isinstance (pa_cons (pe_ix ix_tup (pv 0) pe_int (fun _ _ => rfl)) (pa_cons (pe_glob (v := .ref C) (by rfl) gC rfl) pa_nil))))))))) (pss_one (ps_ret pe_bl)) pss_nil
      apply pss_one
      · exact ps_ret (pe_and (pe_callB call_isi (by rfl) mis PyProof.Rows.boot_isinstance (pa_cons (pe_ix ix_tup (pv 0) pe_int (fun _ _ => rfl)) (pa_cons (pe_bltn (v := .ty "int") (by rfl) mi PyProof.Rows.boot_int rfl) pa_nil)))
          (pe_and (pe_not (pe_callB call_isi (by rfl) mis PyProof.Rows.boot_isinstance (pa_cons (pe_ix ix_tup (pv 0) pe_int (fun _ _ => rfl)) (pa_cons (pe_bltn (v := .ty "bool") (by rfl) mb PyProof.Rows.boot_bool rfl) pa_nil))))
            (pe_one (pe_cmpR op_in_seq (pe_ix ix_tup (pv 0) pe_int (fun _ _ => rfl)) (pe_lst (pa_cons (pe_un un_neg pe_int) (pa_cons (pe_un un_neg pe_int) (pa_cons pe_int (pa_cons pe_int pa_nil))))) rfl))))
    have kt : PySem.W.kitOne K (.type "tuple") (.type "tuple") = some true := kit_ty (by decide +kernel)
    have h2 : (∃ ty, TyX K H x ty ∧ PySem.W.kitOne K ty (.type "tuple") = some false ∧ ∀ H', Same H H' → Q (.bl false) H') ∨ (∃ a y, x = .ref a ∧ H a = some (.tup [y]) ∧ ∀ H', Same H H' → Q (.bl false) H') ∨
        (∃ a u z, x = .ref a ∧ H a = some (.tup [u, z]) ∧ InsOf C H z ∧ ((∃ n, u = .int n ∧ ∀ H', Same H H' → Q (.bl (facB n)) H') ∨ (Odd H u ∧ ∀ H', Same H H' → Q (.bl false) H'))) ∨ ∃ a u z, x = .ref a ∧ H a = some (.tup [u, z]) ∧ ItemOk H z ∧ ∀ H', Same H H' → Q (.bl false) H' := by
      rcases h with ⟨⟨a, n, z, rfl, e, f, i⟩, q⟩ | ⟨bad, q⟩
      · exact .inr (.inr (.inl ⟨a, _, z, rfl, e, i, .inl ⟨n, rfl, by rw [f]; exact q⟩⟩))
      · cases bad with
        | int n => exact .inl ⟨_, .base (.int n), kit_ty (by decide +kernel), q⟩
        | ins iz =>
          obtain ⟨a, dx, fs, rfl, ha⟩ := iz
          exact .inl ⟨_, .base (.ins ha IC.cl IC.ha IC.hn IC.ht IC.hm), NT, q⟩
        | lst e => exact .inl ⟨_, .base (.lst e), kit_ty (by decide +kernel), q⟩
        | one e => exact .inr (.inl ⟨_, _, rfl, e, q⟩)
        | odd e o k =>
          rcases k with k | k
          · exact .inr (.inr (.inl ⟨_, _, _, rfl, e, k, .inr ⟨o, q⟩⟩))
          · exact .inr (.inr (.inr ⟨_, _, _, rfl, e, k, q⟩))
        | fac e b k =>
          rcases k with k | k
          · exact .inr (.inr (.inl ⟨_, _, _, rfl, e, k, .inl ⟨_, rfl, by rw [b]; exact q⟩⟩))
          · exact .inr (.inr (.inr ⟨_, _, _, rfl, e, k, q⟩))
        | sch e b o => exact .inr (.inr (.inr ⟨_, _, _, rfl, e, o, q⟩))
    clear h
    rcases h2 with ⟨ty, tx, k, q⟩ | ⟨a, y, rfl, e, q⟩ | ⟨a, u, z, rfl, e, ⟨az, dz, fz, rfl, iz⟩, h⟩ | ⟨a, u, z, rfl, e, o, q⟩
    · exact ⟨x, rfl, x, .ty "tuple", ty, .type "tuple", false, rfl, .ty _, tx, k, false, rfl, iteT (q H (Same.refl H))⟩
    · exact ⟨.ref a, rfl, .ref a, .ty "tuple", .type "tuple", .type "tuple", true, rfl, .ty _, .base (.tup e), kt, true, rfl, iteF ⟨.ref a, rfl, a, _, rfl, .inr (SqT.of e), rfl, _, rfl, iteTB rfl (q H (Same.refl H))⟩⟩
    · refine ⟨.ref a, rfl, .ref a, .ty "tuple", .type "tuple", .type "tuple", true, rfl, .ty _, .base (.tup e), kt, true, rfl, iteF ⟨.ref a, rfl, a, _, rfl, .inr (SqT.of e), rfl, _, rfl, iteFB rfl ?_⟩⟩
      refine ⟨.ref a, rfl, a, _, 1, .ref az, rfl, rfl, SqT.of e, rfl, .ref az, .ref C, .ref C, .ref C, true, rfl, .own C, .base (.ins iz IC.cl IC.ha IC.hn IC.ht IC.hm), IC.own, true, rfl, iteF ?_⟩
      rcases h with ⟨n, rfl, q⟩ | ⟨o, q⟩
      · refine ⟨.ref a, rfl, a, _, 0, .int n, rfl, rfl, SqT.of e, rfl, .int n, .ty "int", .type "int", .type "int", true, rfl, .ty _, .base (.int n), kit_ty (by decide +kernel), true, rfl, iteT ?_⟩
        refine ⟨.ref a, rfl, a, _, 0, .int n, rfl, rfl, SqT.of e, rfl, .int n, .ty "bool", .type "int", .type "bool", false, rfl, .ty _, .base (.int n), kit_ty (by decide +kernel), false, rfl, _, rfl, iteT ?_⟩
        refine ⟨.ref a, rfl, a, _, 0, .int n, rfl, rfl, SqT.of e, rfl, 2, rfl, 1, rfl, (by show 4 ≤ sizeLine; decide), fun L hL => ?_⟩
        have s1 := same_new (o := .lst [.int (-2), .int (-1), .int 1, .int 2]) hL
        refine ⟨L, _, rfl, .inl (SqL.of upd_same), rfl, flat_ints ([-2, -1, 1, 2] : List Int), ?_⟩
        have ein : inV (.int n) (([-2, -1, 1, 2] : List Int).map V.int) = decide (n ∈ ([-2, -1, 1, 2] : List Int)) := in_ints n _
        have z := q _ s1
        rw [← fac_in, ← ein] at z
        exact z
      · obtain ⟨ty, b, tx, k1, k2⟩ := o.kit (K := K)
        refine ⟨.ref a, rfl, a, _, 0, u, rfl, rfl, SqT.of e, rfl, u, .ty "int", ty, .type "int", b, rfl, .ty _, tx, k1, b, rfl, ?_⟩
        cases b with
        | false => exact iteF (q H (Same.refl H))
        | true => exact iteT ⟨.ref a, rfl, a, _, 0, u, rfl, rfl, SqT.of e, rfl, u, .ty "bool", ty, .type "bool", true, rfl, .ty _, tx, k2 rfl, true, rfl, _, rfl, iteF (q H (Same.refl H))⟩
    · obtain ⟨t, ty, k⟩ := N.item o
      exact ⟨.ref a, rfl, .ref a, .ty "tuple", .type "tuple", .type "tuple", true, rfl, .ty _, .base (.tup e), kt, true, rfl, iteF ⟨.ref a, rfl, a, _, rfl, .inr (SqT.of e), rfl, _, rfl, iteFB rfl ⟨.ref a, rfl, a, _, 1, z, rfl, rfl, SqT.of e, rfl, z, .ref C, t, .ref C, false, rfl, .own C, ty, k, false, rfl, iteT (q H (Same.refl H))⟩⟩⟩

/-! ### what is due, by the law -/
def spDue (C : Addr) : Sp := fun vs H Q _ => ∃ (x y : V) (v : VerF), vs = [x, y] ∧ DueF C H x y v ∧ ∀ l H', Same H H' → TellAt H' v x y l → Q (.ref l) H'
abbrev nDu : List Str := ["_law_summands", "_law_goal", "_law_item", "_law_factor", "_law_scheme_here"]
theorem scDu : FnScope nDu ["_law_summands", "_law_goal"] (defScope sDue) := ⟨rfl, rfl, rfl, by decide +kernel, rfl, by decide +kernel, by decide +kernel⟩
set_option maxHeartbeats 2000000 in
theorem ok_due {f fT fB C p : Addr} {fd fdT fdB : FuncData} (F : Fun K "_law_due" "_law_due" sDue f fd) (IC : IsC K C) (N : NotK K C) (gC : mg "Scheme" = some (.ref C))
    (GT : FnOk P w K mg base CX0 2 fT fdT ["_law_item"] (spGoodT C)) (gT : mg "_law_good_term" = some (.ref fT)) (kT : PySem.W.keepIn K (.ref fT) = true) (bT : Binds K fdT ["_law_item"] [])
    (pB : PropOf K C "base" p fB) (GB : FnOk P w K mg base CX0 1 fB fdB ["self"] (spPB C)) (bB : Binds K fdB ["self"] [])
    (mis : mg "isinstance" = none) (mt : mg "tuple" = none) (mli : mg "list" = none) (ml : mg "len" = none) (ma : mg "abs" = none) : FnOk P w K mg base CX0 3 f fd ["_law_summands", "_law_goal"] (spDue C) := by
  refine F.ok scDu (fun vs H Q E h => ?_) (fun cdv A outer s H vs Q E hr h => ?_)
  · obtain ⟨x, y, v, rfl, _⟩ := h
    rfl
  · obtain ⟨x, y, v, rfl, due, q⟩ := h
    apply Exists.intro
    apply And.intro
    · apply pss_cons
      · exact ps_if (PW.pt (pw_or (pt_not (pt_val (pe_callB call_isiT (by rfl) mis PyProof.Rows.boot_isinstance (pa_cons (pv 0) (pa_cons (pe_tup (pa_cons (pe_bltn (v := .ty "list") (by rfl) mli PyProof.Rows.boot_list rfl) (pa_cons (pe_bltn (v := .ty "tuple") (by rfl) mt (by decide +kernel) rfl) pa_nil))) pa_nil)))))
            (pw_or (pt_cmpR op_lt (pe_callB call_len_seq (by rfl) ml PySem.boot_len (pa_cons (pv 0) pa_nil)) pe_int (nomark _)) (pw_or1 (pt_cmpR op_gt (pe_callB call_len_seq (by rfl) ml PySem.boot_len (pa_cons (pv 0) pa_nil)) pe_int (nomark _))))))
          (pss_one (ps_ret (pe_lst (pa_cons pe_str (pa_cons (pv 0) (pa_cons pe_bl pa_nil)))))) pss_nil
      apply pss_cons
      · exact ps_for PassesOwn.never rfl (pi_sq (pv 0)) (pg_name (i := 2) scDu.nd rfl (.inl rfl)) (pss_one (ps_if (pt_not (pt_val (pe_call GT hr (by rfl) gT kT bT .nil pass0 (pa_cons (pv 2) pa_nil)))) (pss_one (ps_ret (pe_lst (pa_cons pe_str (pa_cons (pv 2) pa_nil))))) pss_nil))
      apply pss_cons
      · exact ps_if (pt_not (pt_val (pe_callB call_isi (by rfl) mis PyProof.Rows.boot_isinstance (pa_cons (pv 1) (pa_cons (pe_glob (v := .ref C) (by rfl) gC rfl) pa_nil))))) (pss_one (ps_ret (pe_lst (pa_cons pe_str (pa_cons (pv 1) pa_nil))))) pss_nil
      apply pss_cons
      · exact ps_for PassesOwn.never rfl (pi_sq (pv 0)) (pg_tup rfl (pgs_cons (pg_name (i := 3) scDu.nd rfl (.inl rfl)) (pgs_cons (pg_name (i := 4) scDu.nd rfl (.inl rfl)) pgs_nil)))
          (pss_one (ps_if (pt_cmpR op_ne (pe_callB call_abs (by rfl) ma (by decide +kernel) (pa_cons (pe_prop (pv 4) IC.cl pB GB hr bB .nil pass0 (by rfl)) pa_nil)) (pe_callB call_abs (by rfl) ma (by decide +kernel) (pa_cons (pe_prop (pv 1) IC.cl pB GB hr bB .nil pass0 (by rfl)) pa_nil)) (nomark _))
            (pss_one (ps_ret (pe_lst (pa_cons pe_str (pa_cons (pe_prop (pv 4) IC.cl pB GB hr bB .nil pass0 (by rfl)) pa_nil))))) pss_nil))
      apply pss_one
      · exact ps_ret (pe_lst (pa_cons pe_str (pa_cons (pe_callTy call_list_of (by rfl) mli PyProof.Rows.boot_list (pa_cons (pv 0) pa_nil)) (pa_cons (pv 1) pa_nil))))
    have ret : ∀ {H1 : Hp} {ys : List V}, Same H H1 → ys.length ≤ sizeLine → (∀ l H', Same H H' → H' l = some (.lst ys) → Q (.ref l) H') → (ys.length ≤ sizeLine ∧ ∀ l, H1 l = none → Q (.ref l) (upd H1 l (.lst ys))) := fun s1 hl qq => ⟨hl, fun l hn => qq l _ (Same.store s1 (free_same s1 hn)) upd_same⟩
    refine ⟨x, rfl, (by show 2 ≤ sizeLine; decide), fun U hU => ?_⟩
    have s1 : Same H (upd H U (.tup [.ty "list", .ty "tuple"])) := same_new hU
    have core : (v = .terms ∧ (NoSeq H x ∨ ∃ p xs, x = .ref p ∧ LT H p xs ∧ ¬ (1 ≤ xs.length ∧ xs.length ≤ 2))) ∨ ∃ (p : Addr) (good rest : List V), x = .ref p ∧ LT H p (good ++ rest) ∧ 1 ≤ (good ++ rest).length ∧ (good ++ rest).length ≤ 2 ∧ (∀ g ∈ good, TermOk C H g) ∧
        ((∃ u more, rest = u :: more ∧ TermBad C H u ∧ v = .term u) ∨ (rest = [] ∧ ∃ ts : List TD, good = ts.map tV ∧ (∀ z ∈ ts, TermAt C H z) ∧ ((ItemOk H y ∧ v = .scheme) ∨ ∃ (a t r : Addr) (b : Int) (ds : List Int) (ks : List (Addr × (Int × Int))), y = .ref a ∧ SchemeAt C H a t r b ds ks ∧
          ((∃ l u m, ts = l ++ u :: m ∧ (∀ z ∈ l, z.b.natAbs = b.natAbs) ∧ u.b.natAbs ≠ b.natAbs ∧ v = .base u.b) ∨ ((∀ z ∈ ts, z.b.natAbs = b.natAbs) ∧ v = .made))))) := by
      cases due with
      | terms0 n => exact .inl ⟨rfl, .inl n⟩
      | terms1 s l => exact .inl ⟨rfl, .inr ⟨_, _, rfl, s, l⟩⟩
      | @term p good u more _ s l g b => exact .inr ⟨p, good, u :: more, rfl, s, by rw [List.length_append, List.length_cons]; omega, l, g, .inl ⟨u, more, rfl, b, rfl⟩⟩
      | @scheme p ts _ s l1 l2 tt o => exact .inr ⟨p, _, [], rfl, by rw [List.append_nil]; exact s, by rw [List.append_nil, List.length_map]; exact l1, by rw [List.append_nil, List.length_map]; exact l2, (fun g hg => by obtain ⟨z, hz, rfl⟩ := List.mem_map.mp hg; exact (tt z hz).ok), .inr ⟨rfl, ts, rfl, tt, .inl ⟨o, rfl⟩⟩⟩
      | @base p a t r l m u b ds ks s l2 tt S few al ne => exact .inr ⟨p, _, [], rfl, by rw [List.append_nil]; exact s, by rw [List.append_nil, List.length_map, List.length_append, List.length_cons]; omega, by rw [List.append_nil, List.length_map]; exact l2, (fun g hg => by obtain ⟨z, hz, rfl⟩ := List.mem_map.mp hg; exact (tt z hz).ok), .inr ⟨rfl, _, rfl, tt, .inr ⟨a, t, r, b, ds, ks, rfl, S, .inl ⟨l, u, m, rfl, al, ne, rfl⟩⟩⟩⟩
      | @made p a t r ts b ds ks s l1 l2 tt S few al => exact .inr ⟨p, _, [], rfl, by rw [List.append_nil]; exact s, by rw [List.append_nil, List.length_map]; exact l1, by rw [List.append_nil, List.length_map]; exact l2, (fun g hg => by obtain ⟨z, hz, rfl⟩ := List.mem_map.mp hg; exact (tt z hz).ok), .inr ⟨rfl, ts, rfl, tt, .inr ⟨a, t, r, b, ds, ks, rfl, S, .inr ⟨al, rfl⟩⟩⟩⟩
    rcases core with ⟨rfl, h⟩ | ⟨p, good, rest, rfl, hp, l1, l2, hg, h⟩
    · have fin := ret (ys := [.str "terms", x, .bl true]) s1 (by show 3 ≤ sizeLine; decide) fun l H' s e => q l H' s e
      rcases h with no | ⟨p, xs, rfl, hp, nl⟩
      · obtain ⟨t, ty, k⟩ := (no.same s1).kit (K := K)
        exact ⟨x, U, _, t, _, false, rfl, upd_same, .cons (.ty _) (.cons (.ty _) .nil), ty, k, false, rfl, iteT ⟨x, rfl, fin⟩⟩
      · obtain ⟨ty, hty, k⟩ := ((hp.seq (K := K)).same s1).lt
        have sq := ((hp.same s1).seq (K := K)).sq
        refine ⟨.ref p, U, _, ty, _, true, rfl, upd_same, .cons (.ty _) (.cons (.ty _) .nil), hty, k, true, rfl, iteF ?_⟩
        refine ⟨.ref p, rfl, p, xs, rfl, sq, (xs.length : Int), 1, rfl, rfl, _, rfl, ?_⟩
        by_cases z : 1 ≤ xs.length
        · exact iteFB (decide_eq_false (by omega)) ⟨.ref p, rfl, p, xs, rfl, sq, (xs.length : Int), 2, rfl, rfl, _, rfl, iteTB (decide_eq_true (by omega)) ⟨.ref p, rfl, fin⟩⟩
        · exact iteTB (decide_eq_true (by omega)) ⟨.ref p, rfl, fin⟩
    obtain ⟨ty, hty, k⟩ := ((hp.seq (K := K)).same s1).lt
    have sq := ((hp.same s1).seq (K := K)).sq
    refine ⟨.ref p, U, _, ty, _, true, rfl, upd_same, .cons (.ty _) (.cons (.ty _) .nil), hty, k, true, rfl, iteF ?_⟩
    refine ⟨.ref p, rfl, p, _, rfl, sq, ((good ++ rest).length : Int), 1, rfl, rfl, _, rfl, iteFB (decide_eq_false (by omega)) ⟨.ref p, rfl, p, _, rfl, sq, ((good ++ rest).length : Int), 2, rfl, rfl, _, rfl, iteFB (decide_eq_false (by omega)) ?_⟩⟩
    generalize upd H U (.tup [.ty "list", .ty "tuple"]) = H1 at s1 ⊢
    obtain ⟨kd, hkd⟩ : ∃ kd : Bool, ∀ H', Same H H' → Sq K kd H' p (good ++ rest) := by
      rcases hp with z | z
      · exact ⟨true, fun H' s => SqL.of (s _ _ z)⟩
      · exact ⟨false, fun H' s => SqT.of (s _ _ z)⟩
    have nth : ∀ (i : Nat) (z : V), (good ++ rest)[i]? = some z → i ≤ good.length → (i < good.length ∧ z ∈ good) ∨ ∃ more, rest = z :: more := fun i z hz hi => by
      rcases Nat.lt_or_ge i good.length with c | c
      · rw [List.getElem?_append_left c] at hz
        exact .inl ⟨c, List.mem_of_getElem? hz⟩
      · have : i = good.length := by omega
        subst this
        rw [List.getElem?_append_right (Nat.le_refl _), Nat.sub_self] at hz
        cases rest with
        | nil => cases hz
        | cons y m =>
          cases hz
          exact .inr ⟨m, rfl⟩
    refine ⟨.ref p, rfl, p, rfl, for_sq (k := kd) (xs := good ++ rest) (fun i σ H' => (∃ v, σ = [some (.ref p), some y, v, none, none]) ∧ Same H H' ∧ i ≤ good.length) ⟨⟨none, rfl⟩, s1, Nat.zero_le _⟩ (fun i σ H' _ h => hkd H' h.2.1) ?_ ?_⟩
    · rintro i z σ H' hz ⟨⟨v2, rfl⟩, s2, hi⟩
      rcases nth i z hz hi with ⟨hi2, mg⟩ | ⟨more, er⟩
      · exact ⟨z, rfl, z, rfl, .inl ⟨(hg z mg).same s2, fun H3 s3 => ⟨true, rfl, iteF ⟨⟨_, rfl⟩, s2.trans s3, hi2⟩⟩⟩⟩
      · rcases h with ⟨u, m2, e2, bad, ev⟩ | ⟨e2, _⟩
        · rw [er] at e2
          cases e2
          subst ev
          refine ⟨z, rfl, z, rfl, .inr ⟨bad.same s2, fun H3 s3 => ⟨false, rfl, iteT ⟨z, rfl, ?_⟩⟩⟩⟩
          exact ret (ys := [.str "term", z]) (s2.trans s3) (by show 2 ≤ sizeLine; decide) fun l H' s e => q l H' s e
        · rw [er] at e2
          cases e2
    rintro σ H2 ⟨⟨v2, rfl⟩, s2, hi⟩
    rw [List.length_append] at hi
    have er : rest = [] := List.eq_nil_of_length_eq_zero (by omega)
    rcases h with ⟨_, _, e2, _⟩ | ⟨_, ts, rfl, tt, h⟩
    · rw [er] at e2
      cases e2
    subst er
    rw [List.append_nil] at hkd hp l1 l2
    rcases h with ⟨oy, rfl⟩ | ⟨a, t, r, b, ds, ks, rfl, S, h⟩
    · obtain ⟨ty2, tx2, k2⟩ := N.item (oy.same s2)
      exact ⟨y, rfl, y, .ref C, ty2, .ref C, false, rfl, .own C, tx2, k2, false, rfl, iteT ⟨y, rfl, ret (ys := [.str "scheme", y]) s2 (by show 2 ≤ sizeLine; decide) fun l H' s e => q l H' s e⟩⟩
    have S2 := S.same s2
    obtain ⟨⟨dy, hy⟩, _⟩ := id S2
    refine ⟨.ref a, rfl, .ref a, .ref C, .ref C, .ref C, true, rfl, .own C, .base (.ins hy IC.cl IC.ha IC.hn IC.ht IC.hm), IC.own, true, rfl, iteF ?_⟩
    refine ⟨.ref p, rfl, p, rfl, for_sq (k := kd) (xs := ts.map tV) (fun i σ H' => (∃ v v3 v4, σ = [some (.ref p), some (.ref a), v, v3, v4]) ∧ Same H2 H' ∧ ∀ z ∈ ts.take i, z.b.natAbs = b.natAbs) ⟨⟨v2, none, none, rfl⟩, Same.refl _, fun z hz => nomatch hz⟩ (fun i σ H' _ h => hkd H' (s2.trans h.2.1)) ?_ ?_⟩
    · rintro i z σ H' hz ⟨⟨v, v3, v4, rfl⟩, s3, all⟩
      rw [List.getElem?_map] at hz
      obtain ⟨w0, hw, rfl⟩ := Option.map_eq_some_iff.mp hz
      have s23 := s2.trans s3
      have tw := (tt w0 (List.mem_of_getElem? hw)).same s23
      obtain ⟨⟨dw, hw1⟩, _⟩ := id tw.sch
      have S3 := S.same s23
      refine ⟨w0.p, _, rfl, SqT.of tw.tup, rfl, .int w0.f, _, rfl, .ref w0.s, [], rfl, rfl, ?_⟩
      refine ⟨.ref w0.s, rfl, w0.s, dw, _, rfl, hw1, w0.s, w0.t, w0.r, w0.b, w0.ds, w0.ks, rfl, tw.sch, w0.b, rfl, .ref a, rfl, a, dy, _, rfl, s3 _ _ hy, a, t, r, b, ds, ks, rfl, S3, b, rfl, rfl, _, rfl, ?_⟩
      by_cases same : w0.b.natAbs = b.natAbs
      · refine iteFB (by rw [abs_ne, decide_eq_true same]; rfl) ⟨⟨_, _, _, rfl⟩, s3, fun z hz => ?_⟩
        rw [take_more hw] at hz
        rcases List.mem_append.mp hz with hz | hz
        · exact all z hz
        · rw [List.mem_singleton.mp hz]
          exact same
      · refine iteTB (by rw [abs_ne, decide_eq_false same]; rfl) ?_
        rcases h with ⟨l, u, m, e, hl, hu, rfl⟩ | ⟨allb, _⟩
        · have eu : u = w0 := by
            have il : l.length = i := by
              rcases Nat.lt_trichotomy i l.length with c | c | c
              · exfalso
                rw [e, List.getElem?_append_left c] at hw
                exact same (hl w0 (List.mem_of_getElem? hw))
              · exact c.symm
              · exfalso
                have z : (ts.take i)[l.length]? = some u := by
                  rw [List.getElem?_take_of_lt c, e, List.getElem?_append_right (Nat.le_refl _), Nat.sub_self]
                  rfl
                exact hu (all u (List.mem_of_getElem? z))
            subst il
            rw [e, List.getElem?_append_right (Nat.le_refl _), Nat.sub_self] at hw
            exact Option.some.inj hw
          subst eu
          exact ⟨.ref u.s, rfl, u.s, dw, _, rfl, hw1, u.s, u.t, u.r, u.b, u.ds, u.ks, rfl, tw.sch, ret (ys := [.str "base", .int u.b]) s23 (by show 2 ≤ sizeLine; decide) fun l H' s e => q l H' s e⟩
        · exact absurd (allb w0 (List.mem_of_getElem? hw)) same
    · rintro σ H' ⟨⟨v, v3, v4, rfl⟩, s3, all⟩
      rw [List.length_map, List.take_length] at all
      rcases h with ⟨l, u, m, e, hl, hu, _⟩ | ⟨_, rfl⟩
      · exact absurd (all u (by rw [e]; exact List.mem_append_right _ List.mem_cons_self)) hu
      have s23 := s2.trans s3
      refine ⟨.ref p, rfl, p, _, rfl, (hp.same s23).seq.sq, fun L hL => ?_⟩
      have s4 := same_new (o := .lst (ts.map tV)) hL
      refine ⟨.ref a, rfl, (by show 3 ≤ sizeLine; decide), fun l hl => ?_⟩
      have s5 := same_new (o := .lst [.str "made", .ref L, .ref a]) hl
      have s25 := s23.trans (s4.trans s5)
      exact q l _ s25 ⟨p, L, ts, rfl, hp.same s25, upd_same, s5 _ _ upd_same⟩
end
end K31
namespace K31
open PySem PySem.Spec PyProof.Rows L2 OF
section
variable {P : Program} {w : World} {K : PySem.W.Frag} {mg : Str → Option Value} {base : Heap}
/-! ### what holds while the box changes -/
def Kp (a : Addr) (H : Hp) (F : Hp → Prop) : Prop := ∀ H', But a H H' → F H'
theorem Kp.but {a : Addr} {H H' : Hp} {F : Hp → Prop} (h : Kp a H F) (t : But a H H') : Kp a H' F := fun H2 t2 => h H2 (t.trans t2)
theorem Kp.same {a : Addr} {H H' : Hp} {F : Hp → Prop} (h : Kp a H F) (s : Same H H') : Kp a H' F := h.but (But.of_same s)
theorem Kp.now {a : Addr} {H : Hp} {F : Hp → Prop} (h : Kp a H F) : F H := h H But.refl
theorem Kp.imp {a : Addr} {H : Hp} {F G : Hp → Prop} (h : Kp a H F) (g : ∀ H', F H' → G H') : Kp a H G := fun H' t => g H' (h H' t)
theorem Kp.obj {a p : Addr} {H : Hp} {o : HO} (n : p ≠ a) (e : H p = some o) : Kp a H (fun H' => H' p = some o) := fun H' t => t _ _ n e
/-- a good term -/
def TermG (C : Addr) (H : Hp) (z : TD) : Prop := TermAt C H z ∧ Good z.b z.ds (z.ks.map (·.2))
def GoalOk (C : Addr) (H : Hp) (y : V) : Prop := ItemOk H y ∨ ∃ (a t r : Addr) (b : Int) (ds : List Int) (ks : List (Addr × (Int × Int))), y = .ref a ∧ SchemeAt C H a t r b ds ks ∧ ds.length ≤ 60
def ItemS (C : Addr) (H : Hp) (x : V) : Prop := (∃ z : TD, x = tV z ∧ TermG C H z) ∨ TermBad C H x
/-- what the terms may be -/
def XOk (k : Nat) (C : Addr) (H : Hp) (x : V) : Prop := NoSeq H x ∨ (∃ (p : Addr) (n : Int) (s : V), x = .ref p ∧ H p = some (.tup [.int n, s])) ∨ ∃ (l : Addr) (xs : List V), x = .ref l ∧ H l = some (.lst xs) ∧ xs.length ≤ k ∧ ∀ z ∈ xs, ItemS C H z
theorem TermG.ins {C : Addr} {H : Hp} {z : TD} (h : TermG C H z) : InsOf C H (.ref z.s) := by
  obtain ⟨⟨dx, i⟩, _⟩ := h.1.sch
  exact ⟨z.s, dx, _, rfl, i⟩
theorem cut_mem {xs : List V} {lo hi : Option Int} {x : V} (hx : x ∈ cutV xs lo hi) : x ∈ xs := List.mem_of_mem_drop (List.mem_of_mem_take hx)
theorem cut_len (xs : List V) (lo hi : Option Int) : (cutV xs lo hi).length ≤ xs.length := by
  unfold cutV
  rw [List.length_take, List.length_drop]
  omega
theorem kbD_ {f T : Addr} {fd : FuncData} (F : FunD K "__init__" "Scheme.__init__" (defArgs sInit) (defBody sInit) (defScope sInit) [] [("bars", .ref T)] f fd) : ∃ mv : List Value, KBn K fd ["self", "base", "digits", "bars"] 3 [] (fun us ws => gDef us mv ws) (fun vs zs => gDef vs [.ref T] zs) := kbDef F
theorem tupne {n : Int} {H : Hp} {a p : Addr} {xs : List V} (B : Box n H a) (e : H p = some (.tup xs)) : p ≠ a := fun z => by
  obtain ⟨b0, b1, b2, hb, _⟩ := B
  rw [z, hb] at e
  cases e
theorem insne {n : Int} {H : Hp} {a p C dx : Addr} {fs : List (Str × V)} (B : Box n H a) (e : H p = some (.ins C dx fs)) : p ≠ a := fun z => by
  obtain ⟨b0, b1, b2, hb, _⟩ := B
  rw [z, hb] at e
  cases e
theorem kp_sch {n : Int} {C : Addr} {H : Hp} {a x t r : Addr} {b : Int} {ds : List Int} {ks : List (Addr × (Int × Int))} (B : Box n H a) (S : SchemeAt C H x t r b ds ks) : Kp a H (fun H' => SchemeAt C H' x t r b ds ks) := fun H' u => by
  obtain ⟨⟨dx, i⟩, d, m, e⟩ := S
  exact ⟨⟨dx, u _ _ (insne B i) i⟩, u _ _ (tupne B d) d, u _ _ (tupne B m) m, fun p hp => u _ _ (tupne B (e p hp)) (e p hp)⟩
theorem kp_term {n : Int} {C : Addr} {H : Hp} {a : Addr} {z : TD} (B : Box n H a) (h : TermG C H z) : Kp a H (TermG C · z) := fun H' u => by
  obtain ⟨⟨t, f, S, fw, bs⟩, G⟩ := h
  exact ⟨⟨u _ _ (tupne B t) t, f, kp_sch B S H' u, fw, bs⟩, G⟩
theorem Good.fr {b b2 : Int} {ds : List Int} {ps : List (Int × Int)} (G : Good b ds ps) (h : isBase b2 = true) : Good b2 ds [] := ⟨h, G.asc, G.one, G.six, G.dg, (fun p h => by cases h), .nil, Nat.zero_le _⟩
theorem base6 {b : Int} (h : isBase b = true) : b.natAbs ≤ 6 := by
  unfold isBase at h
  rw [Bool.or_eq_true, Bool.and_eq_true, Bool.and_eq_true, decide_eq_true_eq, decide_eq_true_eq, decide_eq_true_eq, decide_eq_true_eq] at h
  omega
theorem bases5 : ∀ b ∈ ([2, -3, 4, -5, 6] : List Int), isBase b = true := by decide
/-! ### terms and a goal, spoilt -/
def spSpoilt (C : Addr) : Sp := fun vs H Q _ => ∃ (a l : Addr) (y : V) (n : Int) (ts : List TD), vs = [.ref a, .ref l, y] ∧ Box n H a ∧ n ≤ 700000 ∧ 1 ≤ ts.length ∧ ts.length ≤ 6 ∧ Kp a H (fun H' => H' l = some (.lst (ts.map tV)) ∧ ∀ z ∈ ts, TermG C H' z) ∧ Kp a H (GoalOk C · y) ∧
  ∀ (R : Addr) (x' y' : V) (H' : Hp), But a H H' → Box (n + 50) H' a → H' R = some (.lst [x', y']) → Kp a H' (fun H2 => XOk (3 * ts.length) C H2 x' ∧ GoalOk C H2 y') → Q (.ref R) H'
abbrev nSp : List Str := ["_law_box_here", "_law_summands", "_law_goal", "_law_way", "_law_at", "_law_factor", "_law_scheme_here", "_law_odd", "_law_other", "_law_item"]
theorem scSp : FnScope nSp ["_law_box_here", "_law_summands", "_law_goal"] (defScope sSpoilt) := ⟨rfl, rfl, rfl, by decide +kernel, rfl, by decide +kernel, by decide +kernel⟩
set_option maxHeartbeats 4000000 in
theorem ok_spoilt {f fT fN fD C CB CD CP TT p : Addr} {fd fdT fdN fdD : FuncData} (F : Fun K "_law_spoilt" "_law_spoilt" sSpoilt f fd) (FT : Fun K "_law_take" "_law_take" sTake fT fdT) (gT : mg "_law_take" = some (.ref fT)) (bT : Binds K fdT ["_law_box_here", "_law_many"] []) (c : Cls K C)
    (FN : FunD K "__init__" "Scheme.__init__" (defArgs sInit) (defBody sInit) (defScope sInit) [] [("bars", .ref TT)] fN fdN) (hT : ∀ H, IsSeq K H TT []) (M : Mk K C fN) (gC : mg "Scheme" = some (.ref C)) (GN : FnOk P w K mg base (L2.CX P w) 7 fN fdN ["self", "base", "digits", "bars"] (spNew K C CB CD CP))
    (pD : PropOf K C "digits" p fD) (GD : FnOk P w K mg base CX0 1 fD fdD ["self"] (spPD C)) (bD : Binds K fdD ["self"] [])
    (mi : mg "int" = none) (ml : mg "len" = none) : FnOk P w K mg base CX0 9 f fd ["_law_box_here", "_law_summands", "_law_goal"] (spSpoilt C) := by
  have GT : FnOk P w K mg base CX0 1 fT fdT ["_law_box_here", "_law_many"] spTake := ok_take FT mi
  obtain ⟨mvD, kbD⟩ := kbDef FN
  refine F.ok scSp (fun vs H Q E h => ?_) (fun cdv A outer s H vs Q E hr8 h => ?_)
  · obtain ⟨a, l, y, n, ts, rfl, _⟩ := h
    rfl
  · obtain ⟨a, l, y, n, ts, rfl, hB, hn, l1, l6, hL, hY, q⟩ := h
    have hr : Room 1 _ := hr8.mono (by decide)
    have hr2 : Room 2 _ := hr8.mono (by decide)
    apply Exists.intro
    apply And.intro
    · apply pss_cons
      · exact ps_par (i := 3) (j := 4) rfl scSp.nd rfl rfl (by decide) rfl rfl (pa_cons (pe_call GT hr (by rfl) gT FT.kp bT .nil pass0 (pa_cons (pv 0) (pa_cons pe_int pa_nil))) (pa_cons (pe_call GT hr (by rfl) gT FT.kp bT .nil pass0 (pa_cons (pv 0) (pa_cons (pe_callB call_len_seq (by rfl) ml PySem.boot_len (pa_cons (pv 1) pa_nil)) pa_nil))) pa_nil)) (by rfl)
      apply pss_cons
      · exact ps_asg (pe_ix ix_list (pv 1) (pv 4) (fun _ _ => rfl)) (pg_tup rfl (pgs_cons (pg_name (i := 5) scSp.nd rfl (.inl rfl)) (pgs_cons (pg_name (i := 6) scSp.nd rfl (.inl rfl)) pgs_nil)))
      apply pss_cons
      · exact ps_set (i := 7) scSp.nd rfl (.inr rfl) (pe_lst (pa_cons (pe_tup (pa_cons pe_int (pa_cons (pv 6) pa_nil))) (pa_cons (pe_tup (pa_cons pe_int (pa_cons (pv 6) pa_nil))) (pa_cons (pe_tup (pa_cons pe_bl (pa_cons (pv 6) pa_nil))) (pa_cons (pe_lst (pa_cons (pv 5) (pa_cons (pv 6) pa_nil)))
          (pa_cons (pe_tup (pa_cons (pv 5) pa_nil)) (pa_cons (pe_tup (pa_cons (pv 5) (pa_cons pe_non pa_nil))) (pa_cons (pv 6) (pa_cons (pe_tup (pa_cons (pe_un un_neg pe_int) (pa_cons (pv 6) pa_nil))) pa_nil)))))))))
      apply pss_cons
      · exact ps_if (PW.pt (pw_and (pt_cmpR op_eq (pv 3) pe_int (nomark _)) (pw_and1 (pt_cmpR op_eq (pe_call GT hr (by rfl) gT FT.kp bT .nil pass0 (pa_cons (pv 0) (pa_cons pe_int pa_nil))) pe_int (nomark _)))))
          (pss_one (ps_ret (pe_lst (pa_cons (pe_lc (own := [("_law_item", 9)]) (g := gName 9) (tt := tYes) (te := tOp (rIxL K) (tVar 7) (tCall spTake [] E0 (tCons (tVar 0) (tCons (tC (.int 8)) tNil)))) rfl scSp.nd (pi_list (pv 1)) (blkOk_by (own := [("_law_item", 9)]) (N := nSp) (sc := defScope sSpoilt) (by decide +kernel)) (fun _ _ _ _ _ => pg_name (i := 9) scSp.nd rfl (Or.inl rfl)) (fun _ _ _ _ _ => pts_nil)
              (fun _ _ _ _ _ => by exact (pe_ix ix_list (pv 7) (pe_call GT hr (by rfl) gT FT.kp bT .nil pass0 (pa_cons (pv 0) (pa_cons pe_int pa_nil))) (fun _ _ => rfl)))) (pa_cons (pv 2) pa_nil))))) pss_nil
      apply pss_cons
      · exact ps_if (pt_cmpR op_eq (pv 3) pe_int (nomark _)) (pss_one (ps_ret (pe_lst (pa_cons (pe_op op_cat (pe_op op_cat (pe_slice sl_list (pv 1) po_none (po_some (pv 4))) (pe_lst (pa_cons (pe_ix ix_list (pv 7) (pe_call GT hr (by rfl) gT FT.kp bT .nil pass0 (pa_cons (pv 0) (pa_cons pe_int pa_nil))) (fun _ _ => rfl)) pa_nil))) (pe_slice sl_list (pv 1) (po_some (pe_op op_add (pv 4) pe_int)) po_none)) (pa_cons (pv 2) pa_nil))))) pss_nil
      apply pss_cons
      · exact ps_if (pt_cmpR op_eq (pv 3) pe_int (nomark _)) (pss_one (ps_ret (pe_lst (pa_cons (pe_ix ix_list (pe_lst (pa_cons (pe_lst pa_nil) (pa_cons (pe_op op_cat (pe_op op_cat (pv 1) (pv 1)) (pv 1)) (pa_cons pe_non (pa_cons pe_int (pa_cons pe_dnewK (pa_cons (pe_ix ix_list (pv 1) pe_int (fun _ _ => rfl)) pa_nil))))))) (pe_call GT hr (by rfl) gT FT.kp bT .nil pass0 (pa_cons (pv 0) (pa_cons pe_int pa_nil))) (fun _ _ => rfl)) (pa_cons (pv 2) pa_nil))))) pss_nil
      apply pss_cons
      · exact ps_if (pt_cmpR op_eq (pv 3) pe_int (nomark _)) (pss_one (ps_ret (pe_lst (pa_cons (pv 1) (pa_cons (pe_ix ix_list (pe_lst (pa_cons pe_non (pa_cons pe_int (pa_cons (pv 1) (pa_cons pe_str (pa_cons pe_bl pa_nil)))))) (pe_call GT hr (by rfl) gT FT.kp bT .nil pass0 (pa_cons (pv 0) (pa_cons pe_int pa_nil))) (fun _ _ => rfl)) pa_nil))))) pss_nil
      apply pss_cons
      · exact ps_if (pt_cmpR op_eq (pv 3) pe_int (nomark _)) (pss_cons (ps_set (i := 8) scSp.nd rfl (.inl rfl) (pe_makeK M GN hr8 (by rfl) gC kbD passNo (pa_cons (pe_ix ix_list (pe_lst (pa_cons pe_int (pa_cons (pe_un un_neg pe_int) (pa_cons pe_int (pa_cons (pe_un un_neg pe_int) (pa_cons pe_int pa_nil)))))) (pe_call GT hr (by rfl) gT FT.kp bT .nil pass0 (pa_cons (pv 0) (pa_cons pe_int pa_nil))) (fun _ _ => rfl)) (pa_cons (pe_prop (pv 6) c pD GD hr2 bD .nil pass0 (by rfl)) pa_nil)) pk_nil))
          (pss_one (ps_ret (pe_lst (pa_cons (pe_op op_cat (pe_op op_cat (pe_slice sl_list (pv 1) po_none (po_some (pv 4))) (pe_lst (pa_cons (pe_tup (pa_cons (pv 5) (pa_cons (pv 8) pa_nil))) pa_nil))) (pe_slice sl_list (pv 1) (po_some (pe_op op_add (pv 4) pe_int)) po_none)) (pa_cons (pv 2) pa_nil)))))) pss_nil
      apply pss_one
      · exact ps_ret (pe_lst (pa_cons (pv 1) (pa_cons (pv 2) pa_nil)))
    have eL := hL.now.1
    refine ⟨.ref a, rfl, a, 7, n, rfl, hB, by omega, by decide, by decide, fun wy H1 w0 w1 t1 B1 => ?_⟩
    have eL1 := (hL.but t1).now.1
    refine ⟨.ref a, rfl, .ref l, rfl, l, _, rfl, .inl (SqL.of eL1), a, ((ts.map tV).length : Int), n + 1, rfl, B1, by omega, by rw [List.length_map]; omega, by rw [List.length_map, Int.natAbs_natCast]; exact Nat.lt_of_le_of_lt (by omega : ts.length ≤ 19) (by decide), fun at_ H2 a0 a1 t2 B2 => ?_⟩
    have T2 := t1.trans t2
    have L2_ := hL.but T2
    have Y2 := hY.but T2
    obtain ⟨v, hv, mv⟩ := pick (xs := ts.map tV) a0 a1
    obtain ⟨z, mz, rfl⟩ := List.mem_map.mp mv
    have tz := L2_.now.2 z mz
    refine ⟨.int wy, .int at_, rfl, .ref l, rfl, .int at_, rfl, l, _, at_, tV z, rfl, rfl, SqL.of L2_.now.1, hv, ?_⟩
    refine ⟨z.p, _, rfl, SqT.of tz.1.tup, rfl, .int z.f, _, rfl, .ref z.s, [], rfl, rfl, ?_⟩
    have S0 : Same H2 H2 := Same.refl _
    have G0 : H2 = H2 := rfl
    clear G0
    refine ⟨.ref z.s, rfl, (by show 2 ≤ sizeLine; decide), fun p1 hp1 => ?_⟩
    have n1 : p1 ≠ a := (B2.same S0).ne hp1
    have u1 := same_new (o := .tup [.int 0, .ref z.s]) hp1
    have S1 := S0.trans u1
    have e1 : (upd H2 p1 (.tup [.int 0, .ref z.s])) p1 = some (.tup [.int 0, .ref z.s]) := upd_same
    generalize upd H2 p1 (.tup [.int 0, .ref z.s]) = I1 at u1 S1 e1  ⊢
    refine ⟨.ref z.s, rfl, (by show 2 ≤ sizeLine; decide), fun p2 hp2 => ?_⟩
    have n2 : p2 ≠ a := (B2.same S1).ne hp2
    have u2 := same_new (o := .tup [.int 3, .ref z.s]) hp2
    have S2 := S1.trans u2
    have e2 : (upd I1 p2 (.tup [.int 3, .ref z.s])) p2 = some (.tup [.int 3, .ref z.s]) := upd_same
    have f1 := u2 _ _ e1
    clear e1
    generalize upd I1 p2 (.tup [.int 3, .ref z.s]) = I2 at u2 S2 e2 f1 ⊢
    have e1 := f1
    clear f1
    refine ⟨.ref z.s, rfl, (by show 2 ≤ sizeLine; decide), fun p3 hp3 => ?_⟩
    have n3 : p3 ≠ a := (B2.same S2).ne hp3
    have u3 := same_new (o := .tup [.bl true, .ref z.s]) hp3
    have S3 := S2.trans u3
    have e3 : (upd I2 p3 (.tup [.bl true, .ref z.s])) p3 = some (.tup [.bl true, .ref z.s]) := upd_same
    have f1 := u3 _ _ e1
    have f2 := u3 _ _ e2
    clear e1 e2
    generalize upd I2 p3 (.tup [.bl true, .ref z.s]) = I3 at u3 S3 e3 f1 f2 ⊢
    have e1 := f1
    have e2 := f2
    clear f1 f2
    refine ⟨.int z.f, rfl, .ref z.s, rfl, (by show 2 ≤ sizeLine; decide), fun p4 hp4 => ?_⟩
    have n4 : p4 ≠ a := (B2.same S3).ne hp4
    have u4 := same_new (o := .lst [.int z.f, .ref z.s]) hp4
    have S4 := S3.trans u4
    have e4 : (upd I3 p4 (.lst [.int z.f, .ref z.s])) p4 = some (.lst [.int z.f, .ref z.s]) := upd_same
    have f1 := u4 _ _ e1
    have f2 := u4 _ _ e2
    have f3 := u4 _ _ e3
    clear e1 e2 e3
    generalize upd I3 p4 (.lst [.int z.f, .ref z.s]) = I4 at u4 S4 e4 f1 f2 f3 ⊢
    have e1 := f1
    have e2 := f2
    have e3 := f3
    clear f1 f2 f3
    refine ⟨.int z.f, rfl, (by show 1 ≤ sizeLine; decide), fun p5 hp5 => ?_⟩
    have n5 : p5 ≠ a := (B2.same S4).ne hp5
    have u5 := same_new (o := .tup [.int z.f]) hp5
    have S5 := S4.trans u5
    have e5 : (upd I4 p5 (.tup [.int z.f])) p5 = some (.tup [.int z.f]) := upd_same
    have f1 := u5 _ _ e1
    have f2 := u5 _ _ e2
    have f3 := u5 _ _ e3
    have f4 := u5 _ _ e4
    clear e1 e2 e3 e4
    generalize upd I4 p5 (.tup [.int z.f]) = I5 at u5 S5 e5 f1 f2 f3 f4 ⊢
    have e1 := f1
    have e2 := f2
    have e3 := f3
    have e4 := f4
    clear f1 f2 f3 f4
    refine ⟨.int z.f, rfl, (by show 2 ≤ sizeLine; decide), fun p6 hp6 => ?_⟩
    have n6 : p6 ≠ a := (B2.same S5).ne hp6
    have u6 := same_new (o := .tup [.int z.f, .non]) hp6
    have S6 := S5.trans u6
    have e6 : (upd I5 p6 (.tup [.int z.f, .non])) p6 = some (.tup [.int z.f, .non]) := upd_same
    have f1 := u6 _ _ e1
    have f2 := u6 _ _ e2
    have f3 := u6 _ _ e3
    have f4 := u6 _ _ e4
    have f5 := u6 _ _ e5
    clear e1 e2 e3 e4 e5
    generalize upd I5 p6 (.tup [.int z.f, .non]) = I6 at u6 S6 e6 f1 f2 f3 f4 f5 ⊢
    have e1 := f1
    have e2 := f2
    have e3 := f3
    have e4 := f4
    have e5 := f5
    clear f1 f2 f3 f4 f5
    refine ⟨.ref z.s, rfl, 3, rfl, .ref z.s, rfl, (by show 2 ≤ sizeLine; decide), fun p7 hp7 => ?_⟩
    have n7 : p7 ≠ a := (B2.same S6).ne hp7
    have u7 := same_new (o := .tup [.int (-3), .ref z.s]) hp7
    have S7 := S6.trans u7
    have e7 : (upd I6 p7 (.tup [.int (-3), .ref z.s])) p7 = some (.tup [.int (-3), .ref z.s]) := upd_same
    have f1 := u7 _ _ e1
    have f2 := u7 _ _ e2
    have f3 := u7 _ _ e3
    have f4 := u7 _ _ e4
    have f5 := u7 _ _ e5
    have f6 := u7 _ _ e6
    clear e1 e2 e3 e4 e5 e6
    generalize upd I6 p7 (.tup [.int (-3), .ref z.s]) = I7 at u7 S7 e7 f1 f2 f3 f4 f5 f6 ⊢
    have e1 := f1
    have e2 := f2
    have e3 := f3
    have e4 := f4
    have e5 := f5
    have e6 := f6
    clear f1 f2 f3 f4 f5 f6
    refine ⟨(by show 8 ≤ sizeLine; decide), fun D hD => ?_⟩
    have nD : D ≠ a := (B2.same S7).ne hD
    have uD := same_new (o := .lst [.ref p1, .ref p2, .ref p3, .ref p4, .ref p5, .ref p6, .ref z.s, .ref p7]) hD
    have S8 := S7.trans uD
    have eD : (upd I7 D (.lst [.ref p1, .ref p2, .ref p3, .ref p4, .ref p5, .ref p6, .ref z.s, .ref p7])) D = some (.lst [.ref p1, .ref p2, .ref p3, .ref p4, .ref p5, .ref p6, .ref z.s, .ref p7]) := upd_same
    have ODD : Kp a (upd I7 D (.lst [.ref p1, .ref p2, .ref p3, .ref p4, .ref p5, .ref p6, .ref z.s, .ref p7])) (fun H' => ∀ v ∈ [V.ref p1, .ref p2, .ref p3, .ref p4, .ref p5, .ref p6, .ref z.s, .ref p7], TermBad C H' v) := fun H' t v hv => by
      have tz' := (L2_.but ((But.of_same S8).trans t)).now.2 z mz
      have i := tz'.ins
      simp only [List.mem_cons, List.not_mem_nil, or_false] at hv
      rcases hv with rfl | rfl | rfl | rfl | rfl | rfl | rfl | rfl
      · exact .fac (t _ _ n1 (uD _ _ e1)) (by decide) (.inl i)
      · exact .fac (t _ _ n2 (uD _ _ e2)) (by decide) (.inl i)
      · exact .odd (t _ _ n3 (uD _ _ e3)) (.bl true) (.inl i)
      · exact .lst (t _ _ n4 (uD _ _ e4))
      · exact .one (t _ _ n5 (uD _ _ e5))
      · exact .sch (t _ _ n6 (uD _ _ e6)) tz'.1.fac (.inr .non)
      · exact .ins i
      · exact .fac (t _ _ n7 (uD _ _ e7)) (by decide) (.inl i)
    generalize upd I7 D (.lst [.ref p1, .ref p2, .ref p3, .ref p4, .ref p5, .ref p6, .ref z.s, .ref p7]) = H3 at uD S8 eD ODD ⊢
    clear e1 e2 e3 e4 e5 e6 e7 u1 u2 u3 u4 u5 u6 u7 S1 S2 S3 S4 S5 S6 S7
    have T3 := T2.trans (But.of_same S8)
    have B3 : Box (n + 2) H3 a := (B2.same S8).mono (by omega)
    have L3 := L2_.same S8
    have Y3 := Y2.same S8
    clear S0 S8 uD
    have pickO : ∀ {r : Int}, 0 ≤ r → r < 8 → ∃ v, atI [V.ref p1, .ref p2, .ref p3, .ref p4, .ref p5, .ref p6, .ref z.s, .ref p7] r = some v ∧ v ∈ [V.ref p1, .ref p2, .ref p3, .ref p4, .ref p5, .ref p6, .ref z.s, .ref p7] := fun h0 h1 => pick h0 h1
    -- what is told at the end
    have fin : ∀ (x' y' : V) (H4 : Hp), But a H3 H4 → Box (n + 40) H4 a → Kp a H4 (fun H5 => XOk (3 * ts.length) C H5 x' ∧ GoalOk C H5 y') → ([x', y'].length ≤ sizeLine ∧ ∀ R, H4 R = none → Q (.ref R) (upd H4 R (.lst [x', y']))) := fun x' y' H4 t4 B4 k4 => ⟨(by show 2 ≤ sizeLine; decide), fun R hR => q R x' y' _ ((T3.trans t4).trans (But.new hR)) ((B4.new hR).mono (by omega)) upd_same (k4.same (same_new hR))⟩
    have LX : Kp a H3 (fun H' => XOk (3 * ts.length) C H' (.ref l)) := fun H' t => .inr (.inr ⟨l, _, rfl, (L3 H' t).1, by rw [List.length_map]; omega, fun u hu => by
      obtain ⟨z0, hz0, rfl⟩ := List.mem_map.mp hu
      exact .inl ⟨z0, rfl, (L3 H' t).2 z0 hz0⟩⟩)
    refine ⟨.int wy, rfl, rfl, _, rfl, ite2 (fun c0 => ?_) (fun c0 => ?_)⟩
    · refine ⟨.ref a, rfl, a, 3, n + 2, rfl, B3, by omega, by decide, by decide, fun r0_ H4 k0 k1 t4 B4 => ⟨rfl, _, rfl, ite2 (fun c1 => ?_) (fun c1 => ?_)⟩⟩
      · refine ⟨.ref l, rfl, l, rfl, ⟨_, SqL.of (L3.but t4).now.1⟩, fun D2 hD2 => ?_⟩
        have nD2 := B4.ne hD2
        refine lc_list (K := K) (a := l) (xs := ts.map tV) (fun i H' => But a H4 H' ∧ Box (n + 3 + i) H' a ∧ ∃ acc : List V, H' D2 = some (.lst acc) ∧ acc.length = i ∧ ∀ v ∈ acc, v ∈ [V.ref p1, .ref p2, .ref p3, .ref p4, .ref p5, .ref p6, .ref z.s, .ref p7]) ⟨But.new hD2, (B4.new hD2).mono (by omega), [], upd_same, rfl, fun v h => by cases h⟩ (fun i H' _ h => SqL.of (L3.but (t4.trans h.1)).now.1) ?_ ?_
        · rintro i x H5 hx ⟨t5, B5, acc, eacc, lacc, macc⟩
          have hi : i < ts.length := by
            have := (List.getElem?_eq_some_iff.mp hx).1
            rw [List.length_map] at this
            exact this
          refine ⟨rfl, tYes_if ⟨.ref D, rfl, .ref a, rfl, a, 8, n + 3 + i, rfl, B5, by omega, by decide, by decide, fun r H6 r0 r1 t6 B6 => ?_⟩⟩
          obtain ⟨v, hv, mv⟩ := pickO r0 r1
          refine ⟨D, _, r, v, rfl, rfl, SqL.of (((t4.trans t5).trans t6) _ _ nD eD), hv, acc, t6 _ _ nD2 eacc, by rw [lacc]; exact small1000 (by omega), (t5.trans t6).store hD2, (B6.upd nD2).mono (by omega), acc ++ [v], upd_same, by rw [List.length_append, lacc]; rfl, fun u hu => ?_⟩
          rcases List.mem_append.mp hu with hu | hu
          · exact macc u hu
          · rw [List.mem_singleton.mp hu]
            exact mv
        · rintro H5 ⟨t5, B5, acc, eacc, lacc, macc⟩
          have t45 := t4.trans t5
          rw [List.length_map] at B5 lacc
          exact ⟨y, rfl, fin (.ref D2) y H5 t45 (B5.mono (by omega)) fun H' t => ⟨.inr (.inr ⟨D2, acc, rfl, t _ _ nD2 eacc, by omega, fun v hv => .inr ((ODD.but t45) H' t v (macc v hv))⟩), (Y3.but t45) H' t⟩⟩
      · refine ⟨.int wy, rfl, rfl, _, rfl, iteTB c0 ?_⟩
        refine ⟨.ref l, rfl, .int at_, rfl, at_, rfl, l, _, rfl, SqL.of (L3.but t4).now.1, fun q1 hq1 => ?_⟩
        have nq1 : q1 ≠ a := B4.ne hq1
        have eq1 : (upd H4 q1 (.lst (cutV (ts.map tV) none (some at_)))) q1 = some (.lst (cutV (ts.map tV) none (some at_))) := upd_same
        have sq1 := same_new (o := .lst (cutV (ts.map tV) none (some at_))) hq1
        have tq1 := t4.trans (But.new (o := .lst (cutV (ts.map tV) none (some at_))) hq1)
        have Bq1 := B4.new (o := .lst (cutV (ts.map tV) none (some at_))) hq1
        generalize upd H4 q1 (.lst (cutV (ts.map tV) none (some at_))) = J1 at eq1 tq1 Bq1 sq1 ⊢
        refine ⟨.ref D, rfl, .ref a, rfl, a, 8, n + 20, rfl, Bq1.mono (by omega), by omega, by decide, by decide, fun r J2 r0 r1 t2' B6 => ?_⟩
        have t6 := tq1.trans t2'
        have eq1b := t2' _ _ nq1 eq1
        obtain ⟨v, hv, mv⟩ := pickO r0 r1
        have V6 : Kp a J2 (fun H' => ItemS C H' v) := (ODD.but t6).imp fun H' o => .inr (o v mv)
        refine ⟨D, _, r, v, rfl, rfl, SqL.of (t6 _ _ nD eD), hv, (by show 1 ≤ sizeLine; decide), fun q2 hq2 => ?_⟩
        have nq2 : q2 ≠ a := B6.ne hq2
        have eq2 : (upd J2 q2 (.lst [v])) q2 = some (.lst [v]) := upd_same
        have tq2 := t6.trans (But.new (o := .lst [v]) hq2)
        have Bq2 := B6.new (o := .lst [v]) hq2
        have eq1c := same_new (o := .lst [v]) hq2 _ _ eq1b
        have V2 := V6.same (same_new (o := .lst [v]) hq2)
        generalize upd J2 q2 (.lst [v]) = J3 at eq2 tq2 Bq2 eq1c V2 ⊢
        refine ⟨q1, q2, _, _, rfl, rfl, eq1c, eq2, ?_, fun q3 hq3 => ?_⟩
        · have := cut_len (ts.map tV) none (some at_)
          rw [List.length_map] at this
          rw [sizeLine_eq]
          show _ + 1 ≤ _
          omega
        have nq3 : q3 ≠ a := Bq2.ne hq3
        have eq3 : (upd J3 q3 (.lst (cutV (ts.map tV) none (some at_) ++ [v]))) q3 = some (.lst (cutV (ts.map tV) none (some at_) ++ [v])) := upd_same
        have tq3 := tq2.trans (But.new (o := .lst (cutV (ts.map tV) none (some at_) ++ [v])) hq3)
        have Bq3 := Bq2.new (o := .lst (cutV (ts.map tV) none (some at_) ++ [v])) hq3
        have V3 := V2.same (same_new (o := .lst (cutV (ts.map tV) none (some at_) ++ [v])) hq3)
        generalize upd J3 q3 (.lst (cutV (ts.map tV) none (some at_) ++ [v])) = J4 at eq3 tq3 Bq3 V3 ⊢
        refine ⟨.ref l, rfl, .int at_, rfl, _, _, rfl, rfl, _, rfl, l, _, rfl, SqL.of (L3.but tq3).now.1, fun q4 hq4 => ?_⟩
        have nq4 : q4 ≠ a := Bq3.ne hq4
        have eq4 : (upd J4 q4 (.lst (cutV (ts.map tV) (some (at_ + 1)) none))) q4 = some (.lst (cutV (ts.map tV) (some (at_ + 1)) none)) := upd_same
        have tq4 := tq3.trans (But.new (o := .lst (cutV (ts.map tV) (some (at_ + 1)) none)) hq4)
        have Bq4 := Bq3.new (o := .lst (cutV (ts.map tV) (some (at_ + 1)) none)) hq4
        have V4 := V3.same (same_new (o := .lst (cutV (ts.map tV) (some (at_ + 1)) none)) hq4)
        have eq3b := same_new (o := .lst (cutV (ts.map tV) (some (at_ + 1)) none)) hq4 _ _ eq3
        generalize upd J4 q4 (.lst (cutV (ts.map tV) (some (at_ + 1)) none)) = J5 at eq4 tq4 Bq4 V4 eq3b ⊢
        have cl1 := cut_len (ts.map tV) none (some at_)
        have cl2 := cut_len (ts.map tV) (some (at_ + 1)) none
        rw [List.length_map] at cl1 cl2
        have clen : (cutV (ts.map tV) none (some at_) ++ [v] ++ cutV (ts.map tV) (some (at_ + 1)) none).length ≤ 3 * ts.length := by
          rw [List.length_append, List.length_append]
          show _ + 1 + _ ≤ 3 * ts.length
          omega
        refine ⟨q3, q4, _, _, rfl, rfl, eq3b, eq4, by rw [List.length_append] at clen; rw [sizeLine_eq]; omega, fun q5 hq5 => ?_⟩
        have nq5 : q5 ≠ a := Bq4.ne hq5
        have tq5 := tq4.trans (But.new (o := .lst (cutV (ts.map tV) none (some at_) ++ [v] ++ cutV (ts.map tV) (some (at_ + 1)) none)) hq5)
        have Bq5 := Bq4.new (o := .lst (cutV (ts.map tV) none (some at_) ++ [v] ++ cutV (ts.map tV) (some (at_ + 1)) none)) hq5
        have V5 := V4.same (same_new (o := .lst (cutV (ts.map tV) none (some at_) ++ [v] ++ cutV (ts.map tV) (some (at_ + 1)) none)) hq5)
        refine ⟨y, rfl, fin (.ref q5) y _ tq5 (Bq5.mono (by omega)) fun H' t => ⟨.inr (.inr ⟨q5, _, rfl, t _ _ nq5 upd_same, clen, fun u hu => ?_⟩), (Y3.but tq5) H' t⟩⟩
        rcases List.mem_append.mp hu with hu | hu
        · rcases List.mem_append.mp hu with hu | hu
          · obtain ⟨z0, hz0, rfl⟩ := List.mem_map.mp (cut_mem hu)
            exact .inl ⟨z0, rfl, ((L3.but tq5) H' t).2 z0 hz0⟩
          · cases List.mem_singleton.mp hu
            exact V5 H' t
        · obtain ⟨z0, hz0, rfl⟩ := List.mem_map.mp (cut_mem hu)
          exact .inl ⟨z0, rfl, ((L3.but tq5) H' t).2 z0 hz0⟩
    · refine iteF ⟨.int wy, rfl, rfl, _, rfl, iteFB (by simpa using c0) ⟨.int wy, rfl, rfl, _, rfl, ite2 (fun c1 => ?_) (fun c1 => ?_)⟩⟩
      · -- other lists of terms
        obtain ⟨z0, m0, e0⟩ : ∃ z0 m0, ts = z0 :: m0 := by
          cases ts with
          | nil => exact absurd l1 (by decide)
          | cons z0 m0 => exact ⟨z0, m0, rfl⟩
        refine ⟨(by show 0 ≤ sizeLine; decide), fun g1 hg1 => ?_⟩
        have ng1 := B3.ne hg1
        have s1 := same_new (o := .lst []) hg1
        have f1 : (upd H3 g1 (.lst [])) g1 = some (.lst []) := upd_same
        generalize upd H3 g1 (.lst []) = J1 at s1 f1 ⊢
        have eL1' := (L3.same s1).now.1
        have big : (ts.map tV ++ ts.map tV).length ≤ 12 := by
          rw [List.length_append, List.length_map]
          omega
        refine ⟨.ref l, rfl, .ref l, rfl, l, l, _, _, rfl, rfl, eL1', eL1', by rw [List.length_append] at big; exact Nat.le_trans big (by decide), fun g2 hg2 => ?_⟩
        have s2 := s1.trans (same_new (o := .lst (ts.map tV ++ ts.map tV)) hg2)
        have f2 : (upd J1 g2 (.lst (ts.map tV ++ ts.map tV))) g2 = some (.lst (ts.map tV ++ ts.map tV)) := upd_same
        have f1b := same_new (o := .lst (ts.map tV ++ ts.map tV)) hg2 _ _ f1
        generalize upd J1 g2 (.lst (ts.map tV ++ ts.map tV)) = J2 at s2 f2 f1b ⊢
        have big3 : (ts.map tV ++ ts.map tV ++ ts.map tV).length ≤ 3 * ts.length := by
          rw [List.length_append, List.length_append, List.length_map]
          omega
        refine ⟨.ref l, rfl, g2, l, _, _, rfl, rfl, f2, (L3.same s2).now.1, by rw [List.length_append] at big3; exact Nat.le_trans big3 (by rw [sizeLine_eq]; omega), fun g3 hg3 => ?_⟩
        have ng3 := (B3.same s2).ne hg3
        have s3 := s2.trans (same_new (o := .lst (ts.map tV ++ ts.map tV ++ ts.map tV)) hg3)
        have f3 : (upd J2 g3 (.lst (ts.map tV ++ ts.map tV ++ ts.map tV))) g3 = some (.lst (ts.map tV ++ ts.map tV ++ ts.map tV)) := upd_same
        have f1c := same_new (o := .lst (ts.map tV ++ ts.map tV ++ ts.map tV)) hg3 _ _ f1b
        generalize upd J2 g3 (.lst (ts.map tV ++ ts.map tV ++ ts.map tV)) = J3 at s3 f3 f1c ⊢
        refine fun g4 hg4 => ?_
        have ng4 := (B3.same s3).ne hg4
        have s4 := s3.trans (same_new (o := .dK []) hg4)
        have f4 : (upd J3 g4 (.dK [])) g4 = some (.dK []) := upd_same
        have f1d := same_new (o := .dK []) hg4 _ _ f1c
        have f3d := same_new (o := .dK []) hg4 _ _ f3
        generalize upd J3 g4 (.dK []) = J4 at s4 f4 f1d f3d ⊢
        refine ⟨.ref l, rfl, l, _, 0, tV z0, rfl, rfl, SqL.of (L3.same s4).now.1, by rw [e0]; exact atI_nat (j := 0) rfl, (by show 6 ≤ sizeLine; decide), fun g5 hg5 => ?_⟩
        have ng5 := (B3.same s4).ne hg5
        have u5 := same_new (o := .lst [.ref g1, .ref g3, .non, .int 3, .ref g4, tV z0]) hg5
        have f5 : (upd J4 g5 (.lst [.ref g1, .ref g3, .non, .int 3, .ref g4, tV z0])) g5 = some (.lst [.ref g1, .ref g3, .non, .int 3, .ref g4, tV z0]) := upd_same
        have s5 := s4.trans u5
        have f1e := u5 _ _ f1d
        have f3e := u5 _ _ f3d
        have f4e := u5 _ _ f4
        generalize upd J4 g5 (.lst [.ref g1, .ref g3, .non, .int 3, .ref g4, tV z0]) = J5 at s5 f5 f1e f3e f4e ⊢
        refine ⟨.ref a, rfl, a, 6, n + 2, rfl, B3.same s5, by omega, by decide, by decide, fun r J6 r0 r1 t6 B6 => ?_⟩
        obtain ⟨v, hv, mv⟩ := pick (xs := [V.ref g1, .ref g3, .non, .int 3, .ref g4, tV z0]) r0 r1
        refine ⟨g5, _, r, v, rfl, rfl, SqL.of (t6 _ _ ng5 f5), hv, ?_⟩
        have T6 := (But.of_same s5).trans t6
        refine ⟨y, rfl, fin v y J6 T6 (B6.mono (by omega)) fun H' t => ⟨?_, (Y3.but T6) H' t⟩⟩
        have up : ∀ {p : Addr} {o : HO}, p ≠ a → J5 p = some o → H' p = some o := fun n e => t _ _ n (t6 _ _ n e)
        simp only [List.mem_cons, List.not_mem_nil, or_false] at mv
        rcases mv with rfl | rfl | rfl | rfl | rfl | rfl
        · exact .inr (.inr ⟨g1, [], rfl, up ng1 f1e, Nat.zero_le _, fun u hu => by cases hu⟩)
        · refine .inr (.inr ⟨g3, _, rfl, up ng3 f3e, big3, fun u hu => ?_⟩)
          have hu2 : u ∈ ts.map tV := by
            rcases List.mem_append.mp hu with hu | hu
            · rcases List.mem_append.mp hu with hu | hu <;> exact hu
            · exact hu
          obtain ⟨z1, hz1, rfl⟩ := List.mem_map.mp hu2
          exact .inl ⟨z1, rfl, ((L3.but T6) H' t).2 z1 hz1⟩
        · exact .inl .non
        · exact .inl (.int 3)
        · exact .inl (.dK (up ng4 f4e))
        · exact .inr (.inl ⟨z0.p, z0.f, .ref z0.s, rfl, (((L3.but T6) H' t).2 z0 (by rw [e0]; exact List.mem_cons_self)).1.tup⟩)
      · refine ⟨.int wy, rfl, rfl, _, rfl, ite2 (fun c2 => ?_) (fun c2 => ?_)⟩
        · -- other goals
          refine ⟨.ref l, rfl, .ref l, rfl, (by show 5 ≤ sizeLine; decide), fun g1 hg1 => ?_⟩
          have ng1 := B3.ne hg1
          have s1 := same_new (o := .lst [.non, .int 2, .ref l, .str "base 2; digits 0 1", .bl true]) hg1
          have f1 : (upd H3 g1 (.lst [.non, .int 2, .ref l, .str "base 2; digits 0 1", .bl true])) g1 = some (.lst [.non, .int 2, .ref l, .str "base 2; digits 0 1", .bl true]) := upd_same
          generalize upd H3 g1 (.lst [.non, .int 2, .ref l, .str "base 2; digits 0 1", .bl true]) = J1 at s1 f1 ⊢
          refine ⟨.ref a, rfl, a, 5, n + 2, rfl, B3.same s1, by omega, by decide, by decide, fun r J6 r0 r1 t6 B6 => ?_⟩
          obtain ⟨v, hv, mv⟩ := pick (xs := [V.non, .int 2, .ref l, .str "base 2; digits 0 1", .bl true]) r0 r1
          have T6 := (But.of_same s1).trans t6
          refine ⟨g1, _, r, v, rfl, rfl, SqL.of (t6 _ _ ng1 f1), hv, fin (.ref l) v J6 T6 (B6.mono (by omega)) fun H' t => ⟨(LX.but T6) H' t, ?_⟩⟩
          simp only [List.mem_cons, List.not_mem_nil, or_false] at mv
          rcases mv with rfl | rfl | rfl | rfl | rfl
          · exact .inl (.inr .non)
          · exact .inl (.inl ⟨2, rfl⟩)
          · exact .inl (.inr (.lst ((L3.but T6) H' t).1))
          · exact .inl (.inr (.str _))
          · exact .inl (.inr (.bl _))
        · refine ⟨.int wy, rfl, rfl, _, rfl, ite2 (fun c3 => ?_) (fun c3 => ?_)⟩
          · -- another base
            refine ⟨3, rfl, 5, rfl, (by show 5 ≤ sizeLine; decide), fun g1 hg1 => ?_⟩
            have ng1 := B3.ne hg1
            have s1 := same_new (o := .lst [.int 2, .int (-3), .int 4, .int (-5), .int 6]) hg1
            have f1 : (upd H3 g1 (.lst [.int 2, .int (-3), .int 4, .int (-5), .int 6])) g1 = some (.lst [.int 2, .int (-3), .int 4, .int (-5), .int 6]) := upd_same
            generalize upd H3 g1 (.lst [.int 2, .int (-3), .int 4, .int (-5), .int 6]) = J0 at s1 f1 ⊢
            refine ⟨.ref a, rfl, a, 5, n + 2, rfl, B3.same s1, by omega, by decide, by decide, fun r H4 r0 r1 t6 B6 => ?_⟩
            obtain ⟨vb, hvb, mvb⟩ := pick (xs := ([2, -3, 4, -5, 6] : List Int).map V.int) r0 r1
            obtain ⟨b2, mb2, rfl⟩ := List.mem_map.mp mvb
            have hb2 := bases5 b2 mb2
            have t4 := (But.of_same s1).trans t6
            have tz := (L3.but t4).now.2 z mz
            obtain ⟨⟨dz, iz⟩, idg, _⟩ := id tz.1.sch
            refine ⟨g1, _, r, .int b2, rfl, rfl, SqL.of (t6 _ _ ng1 f1), hvb, .ref z.s, rfl, z.s, dz, _, rfl, iz, z.s, z.t, z.r, z.b, z.ds, z.ks, rfl, tz.1.sch, rfl, rfl, ?_⟩
            refine fun o dxo ho hdo _ => new_made (ks := []) hb2 (.tup idg) (by have := tz.2.six; omega) tz.2.all (hT _) (by decide) (fun p h => by cases h) (tz.2.fr hb2) (fun _ => .rfl) (fun _ => .rfl) ho hdo fun H5 s7 NS0 => ⟨rfl, ?_⟩
            obtain ⟨_, nt, nr, nk, enk, NS⟩ := NS0
            have t4 := t4.trans (But.of_same s7)
            have B4 : Box (n + 3) H5 a := (B6.same s7).mono (by omega)
            clear iz idg
            have tz := (L3.but t4).now.2 z mz
            refine ⟨.ref l, rfl, .int at_, rfl, at_, rfl, l, _, rfl, SqL.of (L3.but t4).now.1, fun q1 hq1 => ?_⟩
            have nq1 : q1 ≠ a := B4.ne hq1
            have eq1 : (upd H5 q1 (.lst (cutV (ts.map tV) none (some at_)))) q1 = some (.lst (cutV (ts.map tV) none (some at_))) := upd_same
            have sq1 := same_new (o := .lst (cutV (ts.map tV) none (some at_))) hq1
            have tq1 := t4.trans (But.new (o := .lst (cutV (ts.map tV) none (some at_))) hq1)
            have Bq1 := B4.new (o := .lst (cutV (ts.map tV) none (some at_))) hq1
            generalize upd H5 q1 (.lst (cutV (ts.map tV) none (some at_))) = J1 at eq1 tq1 Bq1 sq1 ⊢
            refine ⟨.int z.f, rfl, .ref o, rfl, (by show 2 ≤ sizeLine; decide), fun g3 hg3 => ?_⟩
            obtain ⟨J2, eJ2⟩ : ∃ J2, J2 = upd J1 g3 (.tup [.int z.f, .ref o]) := ⟨_, rfl⟩
            rw [← eJ2]
            have s6 : Same J1 J2 := by rw [eJ2]; exact same_new hg3
            have e6 : J2 g3 = some (.tup [.int z.f, .ref o]) := by rw [eJ2]; exact upd_same
            have B6 : Box (n + 21) J2 a := (Bq1.same s6).mono (by omega)
            have t6 := tq1.trans (But.of_same s6)
            have eq1b := s6 _ _ eq1
            obtain ⟨v, hv⟩ : ∃ v : V, v = .ref g3 := ⟨_, rfl⟩
            rw [← hv]
            have V6 : Kp a J2 (fun H' => ItemS C H' v) := fun H' t => .inl ⟨⟨g3, z.f, o, nt, nr, b2, z.ds, nk⟩, hv, kp_term (z := ⟨g3, z.f, o, nt, nr, b2, z.ds, nk⟩) B6 ⟨⟨e6, tz.1.fac, (NS.same (sq1.trans s6)), by have := tz.2.six; show z.ds.length ≤ 60; omega, base6 hb2⟩, by show Good b2 z.ds (nk.map (·.2)); rw [enk]; exact tz.2.fr hb2⟩ H' t⟩
            refine ⟨(by show 1 ≤ sizeLine; decide), fun q2 hq2 => ?_⟩
            have nq2 : q2 ≠ a := B6.ne hq2
            have eq2 : (upd J2 q2 (.lst [v])) q2 = some (.lst [v]) := upd_same
            have tq2 := t6.trans (But.new (o := .lst [v]) hq2)
            have Bq2 := B6.new (o := .lst [v]) hq2
            have eq1c := same_new (o := .lst [v]) hq2 _ _ eq1b
            have V2 := V6.same (same_new (o := .lst [v]) hq2)
            generalize upd J2 q2 (.lst [v]) = J3 at eq2 tq2 Bq2 eq1c V2 ⊢
            refine ⟨q1, q2, _, _, rfl, rfl, eq1c, eq2, ?_, fun q3 hq3 => ?_⟩
            · have := cut_len (ts.map tV) none (some at_)
              rw [List.length_map] at this
              rw [sizeLine_eq]
              show _ + 1 ≤ _
              omega
            have nq3 : q3 ≠ a := Bq2.ne hq3
            have eq3 : (upd J3 q3 (.lst (cutV (ts.map tV) none (some at_) ++ [v]))) q3 = some (.lst (cutV (ts.map tV) none (some at_) ++ [v])) := upd_same
            have tq3 := tq2.trans (But.new (o := .lst (cutV (ts.map tV) none (some at_) ++ [v])) hq3)
            have Bq3 := Bq2.new (o := .lst (cutV (ts.map tV) none (some at_) ++ [v])) hq3
            have V3 := V2.same (same_new (o := .lst (cutV (ts.map tV) none (some at_) ++ [v])) hq3)
            generalize upd J3 q3 (.lst (cutV (ts.map tV) none (some at_) ++ [v])) = J4 at eq3 tq3 Bq3 V3 ⊢
            refine ⟨.ref l, rfl, .int at_, rfl, _, _, rfl, rfl, _, rfl, l, _, rfl, SqL.of (L3.but tq3).now.1, fun q4 hq4 => ?_⟩
            have nq4 : q4 ≠ a := Bq3.ne hq4
            have eq4 : (upd J4 q4 (.lst (cutV (ts.map tV) (some (at_ + 1)) none))) q4 = some (.lst (cutV (ts.map tV) (some (at_ + 1)) none)) := upd_same
            have tq4 := tq3.trans (But.new (o := .lst (cutV (ts.map tV) (some (at_ + 1)) none)) hq4)
            have Bq4 := Bq3.new (o := .lst (cutV (ts.map tV) (some (at_ + 1)) none)) hq4
            have V4 := V3.same (same_new (o := .lst (cutV (ts.map tV) (some (at_ + 1)) none)) hq4)
            have eq3b := same_new (o := .lst (cutV (ts.map tV) (some (at_ + 1)) none)) hq4 _ _ eq3
            generalize upd J4 q4 (.lst (cutV (ts.map tV) (some (at_ + 1)) none)) = J5 at eq4 tq4 Bq4 V4 eq3b ⊢
            have cl1 := cut_len (ts.map tV) none (some at_)
            have cl2 := cut_len (ts.map tV) (some (at_ + 1)) none
            rw [List.length_map] at cl1 cl2
            have clen : (cutV (ts.map tV) none (some at_) ++ [v] ++ cutV (ts.map tV) (some (at_ + 1)) none).length ≤ 3 * ts.length := by
              rw [List.length_append, List.length_append]
              show _ + 1 + _ ≤ 3 * ts.length
              omega
            refine ⟨q3, q4, _, _, rfl, rfl, eq3b, eq4, by rw [List.length_append] at clen; rw [sizeLine_eq]; omega, fun q5 hq5 => ?_⟩
            have nq5 : q5 ≠ a := Bq4.ne hq5
            have tq5 := tq4.trans (But.new (o := .lst (cutV (ts.map tV) none (some at_) ++ [v] ++ cutV (ts.map tV) (some (at_ + 1)) none)) hq5)
            have Bq5 := Bq4.new (o := .lst (cutV (ts.map tV) none (some at_) ++ [v] ++ cutV (ts.map tV) (some (at_ + 1)) none)) hq5
            have V5 := V4.same (same_new (o := .lst (cutV (ts.map tV) none (some at_) ++ [v] ++ cutV (ts.map tV) (some (at_ + 1)) none)) hq5)
            refine ⟨y, rfl, fin (.ref q5) y _ tq5 (Bq5.mono (by omega)) fun H' t => ⟨.inr (.inr ⟨q5, _, rfl, t _ _ nq5 upd_same, clen, fun u hu => ?_⟩), (Y3.but tq5) H' t⟩⟩
            rcases List.mem_append.mp hu with hu | hu
            · rcases List.mem_append.mp hu with hu | hu
              · obtain ⟨z0, hz0, rfl⟩ := List.mem_map.mp (cut_mem hu)
                exact .inl ⟨z0, rfl, ((L3.but tq5) H' t).2 z0 hz0⟩
              · cases List.mem_singleton.mp hu
                exact V5 H' t
            · obtain ⟨z0, hz0, rfl⟩ := List.mem_map.mp (cut_mem hu)
              exact .inl ⟨z0, rfl, ((L3.but tq5) H' t).2 z0 hz0⟩
          · exact ⟨.ref l, rfl, y, rfl, fin (.ref l) y H3 But.refl (B3.mono (by omega)) fun H' t => ⟨LX H' t, Y3 H' t⟩⟩
end
end K31
/-! A list of whatever items against the empty list; an int sought among whatever items. -/
namespace OF
open PySem PySem.Spec PyProof.Rows L2
section
variable {X : Cx}
/-- xs == [] -/
def rEqNil (K : PySem.W.Frag) : R2 := fun x y H Q => ∃ (p q : Addr) (xs : List V), x = .ref p ∧ y = .ref q ∧ SqL K H p xs ∧ SqL K H q [] ∧ Q (.bl xs.isEmpty) H
def rNeNil (K : PySem.W.Frag) : R2 := fun x y H Q => ∃ (p q : Addr) (xs : List V), x = .ref p ∧ y = .ref q ∧ SqL K H p xs ∧ SqL K H q [] ∧ Q (.bl (!xs.isEmpty)) H
theorem vals_nil {us : List Value} (h : Vals [] us) : us = [] := by cases h; rfl
theorem vals_empty {xs : List V} {us : List Value} (h : Vals xs us) : xs.isEmpty = us.isEmpty := by cases h <;> rfl
theorem op_eqNil (hu : X.A.units + 64 < cLine) : OpR X (compareOp .Eq) (rEqNil X.K) := by
  intro pins s σ H x y v u Q I rx ry h
  obtain ⟨p, q, xs, rfl, rfl, hp, hq, z⟩ := h
  cases rx
  cases ry
  obtain ⟨its, r1, l1, _⟩ := I.list hp
  obtain ⟨its2, r2, l2, _⟩ := I.list hq
  cases vals_nil r2
  rw [vals_empty r1] at z
  cases its with
  | nil => exact SeqAt.eq_listAt (e := fun _ => true) l1.isList l2.isList rfl (by omega) (fun j h1 => absurd h1 (Nat.not_lt_zero j)) ⟨.bl true, H, I, rfl, z⟩
  | cons a m => exact SeqAt.eq_list_lengthsAt l1.isList l2.isList (by simp) (by omega) ⟨.bl false, H, I, rfl, z⟩
theorem op_neNil (hu : X.A.units + 64 < cLine) : OpR X (compareOp .NotEq) (rNeNil X.K) := by
  intro pins s σ H x y v u Q I rx ry h
  obtain ⟨p, q, xs, rfl, rfl, hp, hq, z⟩ := h
  cases rx
  cases ry
  obtain ⟨its, r1, l1, _⟩ := I.list hp
  obtain ⟨its2, r2, l2, _⟩ := I.list hq
  cases vals_nil r2
  rw [vals_empty r1] at z
  cases its with
  | nil => exact SeqAt.RcNeAt.lists (e := fun _ => true) l1.isList l2.isList rfl (by omega) (fun j h1 => absurd h1 (Nat.not_lt_zero j)) X.prog X.w X.xe _ ⟨.bl false, H, I, rfl, z⟩
  | cons a m => exact SeqAt.RcNeAt.lists_lengths l1.isList l2.isList (by simp) (by omega) X.prog X.w X.xe _ ⟨.bl true, H, I, rfl, z⟩
end
end OF
namespace K31
open PySem PySem.Spec PyProof.Rows L2 OF
section
variable {P : Program} {w : World} {K : PySem.W.Frag} {mg : Str → Option Value} {base : Heap}
/-! ### the law's models with their factors -/
structure MD where
  p : Addr
  m : Addr
  f : Int
  b : Int
  ns : List Int
  ps : List (Int × Int)
structure MAt (a : Addr) (H : Hp) (M : MD) : Prop where
  tup : H M.p = some (.tup [.int M.f, .ref M.m])
  mo : Model a H M.m M.b M.ns M.ps
  good : Good M.b M.ns M.ps
abbrev mV (M : MD) : V := .ref M.p
abbrev qV (q : Addr × List Int) : V := .ref q.1
/-- lines of digits -/
def LinesAt (H : Hp) (L : Addr) (qs : List (Addr × List Int)) : Prop := H L = some (.lst (qs.map qV)) ∧ ∀ q ∈ qs, H q.1 = some (.tup (q.2.map V.int))
/-- lines of which one is no row -/
def NearL (ms : List MD) (H : Hp) (x : V) : Prop := ∃ (l : Addr) (qs : List (Addr × List Int)), x = .ref l ∧ LinesAt H l qs ∧ qs.length = ms.length ∧ (∀ q ∈ qs, q.2.length ≤ 10 ∧ ∀ d ∈ q.2, d.natAbs ≤ 9) ∧ ∃ (i : Nat) (M : MD) (q : Addr × List Int), ms[i]? = some M ∧ qs[i]? = some q ∧ rowI M.ns M.ps q.2 = false
def spNear : Sp := fun vs H Q _ => ∃ (a L S : Addr) (n : Int) (ms : List MD) (qs : List (Addr × List Int)), vs = [.ref a, .ref L, .ref S] ∧ Box n H a ∧ n ≤ 700000 ∧ 1 ≤ ms.length ∧ ms.length ≤ 2 ∧ qs.length = ms.length ∧ (∀ q ∈ qs, q.2.length ≤ 7 ∧ ∀ d ∈ q.2, d.natAbs ≤ 9) ∧
  Kp a H (fun H' => LinesAt H' L qs ∧ H' S = some (.lst (ms.map mV)) ∧ ∀ M ∈ ms, MAt a H' M) ∧
  ∀ (R : Addr) (xs : List V) (H' : Hp), But a H H' → Box (n + 50) H' a → H' R = some (.lst xs) → xs.length ≤ 6 → Kp a H' (fun H2 => ∀ x ∈ xs, NearL ms H2 x) → Q (.ref R) H'
/-- such lines, apart from the box and from the list that is filled -/
def NearK (ms : List MD) (a N : Addr) (H : Hp) (x : V) : Prop := ∃ (l : Addr) (qs : List (Addr × List Int)), x = .ref l ∧ l ≠ a ∧ l ≠ N ∧ LinesAt H l qs ∧ qs.length = ms.length ∧ (∀ q ∈ qs, q.2.length ≤ 10 ∧ ∀ d ∈ q.2, d.natAbs ≤ 9) ∧ ∃ (i : Nat) (M : MD) (q : Addr × List Int), ms[i]? = some M ∧ qs[i]? = some q ∧ rowI M.ns M.ps q.2 = false
theorem NearK.but {ms : List MD} {a N : Addr} {n : Int} {H H' : Hp} {x : V} (h : NearK ms a N H x) (B : Box n H a) (t : But a H H') : NearK ms a N H' x := by
  obtain ⟨l, qs, e, na, nN, ⟨e1, e2⟩, r⟩ := h
  exact ⟨l, qs, e, na, nN, ⟨t _ _ na e1, fun q hq => t _ _ (tupne B (e2 q hq)) (e2 q hq)⟩, r⟩
theorem NearK.same {ms : List MD} {a N : Addr} {H H' : Hp} {x : V} (h : NearK ms a N H x) (s : Same H H') : NearK ms a N H' x := by
  obtain ⟨l, qs, e, na, nN, ⟨e1, e2⟩, r⟩ := h
  exact ⟨l, qs, e, na, nN, ⟨s _ _ e1, fun q hq => s _ _ (e2 q hq)⟩, r⟩
theorem NearK.store {ms : List MD} {a N : Addr} {H : Hp} {x : V} {xs : List V} {o : HO} (h : NearK ms a N H x) (e : H N = some (.lst xs)) : NearK ms a N (upd H N o) x := by
  obtain ⟨l, qs, e0, na, nN, ⟨e1, e2⟩, r⟩ := h
  refine ⟨l, qs, e0, na, nN, ⟨(upd_ne nN).trans e1, fun q hq => (upd_ne fun z => ?_).trans (e2 q hq)⟩, r⟩
  have e3 := e2 q hq
  rw [z, e] at e3
  cases e3
theorem NearK.near {ms : List MD} {a N : Addr} {H : Hp} {x : V} (h : NearK ms a N H x) : NearL ms H x := by
  obtain ⟨l, qs, e0, na, nN, e1, r⟩ := h
  exact ⟨l, qs, e0, e1, r⟩
theorem cut_take {α : Type} {f : α → V} (qs : List α) (i : Nat) (h : i ≤ qs.length) : cutV (qs.map f) none (some (0 + (i : Int))) = (qs.take i).map f := by
  unfold cutV
  rw [Int.zero_add, HT.sIx_none, HT.sIx_nat, List.length_map, Nat.min_eq_left h, List.drop_zero, Nat.sub_zero, List.map_take]
theorem cut_drop {α : Type} {f : α → V} (qs : List α) (i : Nat) (h : i < qs.length) : cutV (qs.map f) (some (0 + (i : Int) + 1)) none = (qs.drop (i + 1)).map f := by
  unfold cutV
  rw [Int.zero_add, show ((i : Int) + 1) = ((i + 1 : Nat) : Int) by omega, HT.sIx_none, HT.sIx_nat, List.length_map, Nat.min_eq_left (by omega), ← List.map_drop]
  exact List.take_of_length_le (by rw [List.length_map, List.length_drop]; exact Nat.le_refl _)
theorem sub_len : ∀ (l ns : List Int), l.Nodup → (∀ x ∈ l, x ∈ ns) → l.length ≤ ns.length
  | [], _, _, _ => Nat.zero_le _
  | x :: l, ns, nd, h => by
    obtain ⟨n1, n2⟩ := List.nodup_cons.mp nd
    have hx := h x List.mem_cons_self
    have e := List.length_erase_of_mem hx
    have p := List.length_pos_of_mem hx
    have ih := sub_len l (ns.erase x) n2 fun y hy => by
      have ne : y ≠ x := fun z => n1 (z ▸ hy)
      exact (List.mem_erase_of_ne ne).mpr (h y (List.mem_cons_of_mem _ hy))
    rw [List.length_cons]
    omega
/-- the digits that a scheme lacks -/
def lackD (ns : List Int) (j : Nat) : List Int := ((List.range j).map fun k : Nat => (-9 : Int) + k).filter fun d => !decide (d ∈ ns)
theorem lack_len (ns : List Int) (j : Nat) : (lackD ns j).length ≤ j := by
  unfold lackD
  refine Nat.le_trans (List.length_filter_le _ _) ?_
  rw [List.length_map, List.length_range]
  exact Nat.le_refl _
theorem lack_some (ns : List Int) (h : ns.length ≤ 6) : 1 ≤ (lackD ns 19).length := by
  rcases Nat.eq_zero_or_pos (lackD ns 19).length with z | z
  · exfalso
    have e := List.eq_nil_of_length_eq_zero z
    have all : ∀ x ∈ ((List.range 19).map fun k : Nat => (-9 : Int) + k), x ∈ ns := fun x hx => by
      by_cases hd : x ∈ ns
      · exact hd
      · have : x ∈ lackD ns 19 := List.mem_filter.mpr ⟨hx, by rw [decide_eq_false hd]; rfl⟩
        rw [e] at this
        cases this
    have nd : ((List.range 19).map fun k : Nat => (-9 : Int) + k).Nodup := by decide
    have := sub_len _ _ nd all
    rw [List.length_map, List.length_range] at this
    omega
  · exact z
theorem lack_mem {ns : List Int} {d : Int} {j : Nat} (hj : j ≤ 19) (h : d ∈ lackD ns j) : d ∉ ns ∧ d.natAbs ≤ 9 := by
  obtain ⟨h1, h2⟩ := List.mem_filter.mp h
  obtain ⟨k, hk, rfl⟩ := List.mem_map.mp h1
  have := List.mem_range.mp hk
  refine ⟨fun z => ?_, by omega⟩
  rw [decide_eq_true z] at h2
  cases h2
theorem row_lack {ns : List Int} {ps : List (Int × Int)} {ls : List Int} {d : Int} (h : d ∉ ns) : rowI ns ps (ls ++ [d]) = false := by
  unfold rowI
  rw [List.all_append]
  simp [h]
theorem row_barred {ns : List Int} {ps : List (Int × Int)} {p : Int × Int} (h : p ∈ ps) : rowI ns ps [p.1, p.2] = false := by
  have e : hasP ps p.1 p.2 = true := by
    unfold hasP
    rw [List.any_eq_true]
    refine ⟨pd2 p, List.mem_map.mpr ⟨p, h, rfl⟩, ?_⟩
    exact SeqAt.eqv_refl _ (SeqAt.canLay_of_shaped (pd2_shaped p))
  unfold rowI adjR
  rw [e]
  simp
/-- the lines with one exchanged -/
theorem near_put {ms : List MD} {a N l T : Addr} {H : Hp} {qs : List (Addr × List Int)} {i : Nat} {M : MD} {ls : List Int} (hi : i < qs.length) (lq : qs.length = ms.length) (na : l ≠ a) (nN : l ≠ N) (e : H l = some (.lst ((qs.take i).map qV ++ [.ref T] ++ (qs.drop (i + 1)).map qV))) (eq : ∀ q ∈ qs, H q.1 = some (.tup (q.2.map V.int)))
    (eT : H T = some (.tup (ls.map V.int))) (hq : ∀ q ∈ qs, q.2.length ≤ 7 ∧ ∀ d ∈ q.2, d.natAbs ≤ 9) (hl : ls.length ≤ 10 ∧ ∀ d ∈ ls, d.natAbs ≤ 9) (hM : ms[i]? = some M) (bad : rowI M.ns M.ps ls = false) : NearK ms a N H (.ref l) := by
  have memd : ∀ q ∈ qs.take i ++ [(T, ls)] ++ qs.drop (i + 1), q = (T, ls) ∨ q ∈ qs := fun q hq => by
    rcases List.mem_append.mp hq with hq | hq
    · rcases List.mem_append.mp hq with hq | hq
      · exact .inr (List.mem_of_mem_take hq)
      · exact .inl (List.mem_singleton.mp hq)
    · exact .inr (List.mem_of_mem_drop hq)
  refine ⟨l, qs.take i ++ [(T, ls)] ++ qs.drop (i + 1), rfl, na, nN, ⟨by rw [e, List.map_append, List.map_append]; rfl, fun q hq => ?_⟩, ?_, fun q h => ?_, i, M, (T, ls), hM, ?_, bad⟩
  · rcases memd q hq with rfl | hq
    · exact eT
    · exact eq q hq
  · rw [List.length_append, List.length_append, List.length_take, List.length_drop]
    show min i qs.length + 1 + (qs.length - (i + 1)) = ms.length
    omega
  · rcases memd q h with rfl | h
    · exact hl
    · exact ⟨by have := (hq q h).1; omega, (hq q h).2⟩
  · have lt : (qs.take i).length = i := by rw [List.length_take]; omega
    rw [List.append_assoc, List.getElem?_append_right (by omega), lt, Nat.sub_self]
    rfl
abbrev nNe : List Str := ["_law_box_here", "_law_lines", "_law_summands", "_law_near", "_law_k", "_law_model", "_law_lacking", "_law_line", "_law_turned", "_law_fits", "_law_digit"]
theorem scNe : FnScope nNe ["_law_box_here", "_law_lines", "_law_summands"] (defScope sNear) := ⟨rfl, rfl, rfl, by decide +kernel, rfl, by decide +kernel, by decide +kernel⟩
set_option maxHeartbeats 4000000 in
theorem ok_near {f fT fI : Addr} {fd fdT fdI : FuncData} (F : Fun K "_law_near_rows" "_law_near_rows" sNear f fd) (FT : Fun K "_law_take" "_law_take" sTake fT fdT) (gT : mg "_law_take" = some (.ref fT)) (bT : Binds K fdT ["_law_box_here", "_law_many"] [])
    (GI : FnOk P w K mg base CX0 1 fI fdI ["_law_model", "_law_row_here"] spIsRow) (gI : mg "_law_is_row" = some (.ref fI)) (kI : PySem.W.keepIn K (.ref fI) = true) (bI : Binds K fdI ["_law_model", "_law_row_here"] [])
    (mi : mg "int" = none) (ml : mg "len" = none) (mr : mg "range" = none) : FnOk P w K mg base CX0 2 f fd ["_law_box_here", "_law_lines", "_law_summands"] spNear := by
  have GT : FnOk P w K mg base CX0 1 fT fdT ["_law_box_here", "_law_many"] spTake := ok_take FT mi
  refine F.ok scNe (fun vs H Q E h => ?_) (fun cdv A outer s H vs Q E hr h => ?_)
  · obtain ⟨a, L, S, n, ms, qs, rfl, _⟩ := h
    rfl
  · obtain ⟨a, L, S, n, ms, qs, rfl, hB, hn, l1, l2, lq, hq, hK, q⟩ := h
    have hu := hr.units
    apply Exists.intro
    apply And.intro
    · apply pss_cons
      · exact ps_set (i := 3) scNe.nd rfl (.inl rfl) (pe_lst pa_nil)
      apply pss_cons
      · apply ps_for
        · exact PassesOwn.never
        · exact rfl
        · exact (pi_range1 rfl mr (pa_cons (pe_callB call_len_seq (by rfl) ml PySem.boot_len (pa_cons (pv 2) pa_nil)) pa_nil))
        · exact (pg_name (i := 4) scNe.nd rfl (.inl rfl))
        apply pss_cons
        · exact ps_set (i := 5) scNe.nd rfl (.inr rfl) (pe_ix ix_tup (pe_ix ix_list (pv 2) (pv 4) (fun _ _ => rfl)) pe_int (fun _ _ => rfl))
        apply pss_cons
        · exact ps_setLc (i := 6) (own := [("_law_digit", 10)]) (g := gName 10) (tt := tTest (tOp (rIn K true) (tVar 10) (tOp (rIxL K) (tVar 5) (tC (.int 1))))) (te := tVar 10) rfl scNe.nd rfl rfl (sw_true rfl rfl rfl (by decide +kernel)) (pi_range2 rfl mr (pa_cons (pe_un un_neg pe_int) (pa_cons pe_int pa_nil))) (blkOk_by (own := [("_law_digit", 10)]) (N := nNe) (sc := defScope sNear) (by decide +kernel)) (fun _ _ _ _ _ => pg_name (i := 10) scNe.nd rfl (Or.inl rfl))
            (fun _ _ _ _ _ => by exact (pts_one (pt_cmpR op_notIn_seq (pv 10) (pe_ix ix_list (pv 5) pe_int (fun _ _ => rfl)) rfl))) (fun _ _ _ _ _ => by exact (pv 10))
        apply pss_cons
        · exact ps_set (i := 7) scNe.nd rfl (.inl rfl) (pe_op op_cat2 (pe_ix ix_list (pv 1) (pv 4) (fun _ _ => rfl)) (pe_tup (pa_cons (pe_ix ix_list (pv 6) (pe_call GT hr (by rfl) gT FT.kp bT .nil pass0 (pa_cons (pv 0) (pa_cons (pe_callB call_len_seq (by rfl) ml PySem.boot_len (pa_cons (pv 6) pa_nil)) pa_nil))) (fun _ _ => rfl)) pa_nil)))
        apply pss_cons
        · exact ps_expr (pe_bm PySem.F.plainAttrs_list PySem.F.slot_list_append PySem.F.type_list_append mt_append (pv 3) (pa_cons (pe_op op_cat (pe_op op_cat (pe_slice sl_list (pv 1) po_none (po_some (pv 4))) (pe_lst (pa_cons (pv 7) pa_nil))) (pe_slice sl_list (pv 1) (po_some (pe_op op_add (pv 4) pe_int)) po_none)) pa_nil))
        apply pss_one
        · exact ps_if (pt_cmpR (op_neNil hu) (pe_ix ix_list (pv 5) pe_int (fun _ _ => rfl)) (pe_lst pa_nil) (nomark _))
            (pss_one (ps_expr (pe_bm PySem.F.plainAttrs_list PySem.F.slot_list_append PySem.F.type_list_append mt_append (pv 3) (pa_cons (pe_op op_cat (pe_op op_cat (pe_slice sl_list (pv 1) po_none (po_some (pv 4))) (pe_lst (pa_cons (pe_ix ix_list (pe_ix ix_list (pv 5) pe_int (fun _ _ => rfl)) (pe_call GT hr (by rfl) gT FT.kp bT .nil pass0 (pa_cons (pv 0) (pa_cons (pe_callB call_len_seq (by rfl) ml PySem.boot_len (pa_cons (pe_ix ix_list (pv 5) pe_int (fun _ _ => rfl)) pa_nil)) pa_nil))) (fun _ _ => rfl)) pa_nil))) (pe_slice sl_list (pv 1) (po_some (pe_op op_add (pv 4) pe_int)) po_none)) pa_nil)))) pss_nil
        · intro _; rfl
      apply pss_cons
      · exact ps_set (i := 8) scNe.nd rfl (.inr rfl) (pe_revL (pv 1))
      apply pss_cons
      · exact ps_setLc (i := 9) (own := [("_law_k", 4)]) (g := gName 4) (tt := tYes) (te := tCall spIsRow [] E0 (tCons (tOp (rIxT K) (tOp (rIxL K) (tVar 2) (tVar 4)) (tC (.int 1))) (tCons (tOp (rIxL K) (tVar 8) (tVar 4)) tNil))) rfl scNe.nd rfl rfl (sw_true rfl rfl rfl (by decide +kernel)) (pi_range1 rfl mr (pa_cons (pe_callB call_len_seq (by rfl) ml PySem.boot_len (pa_cons (pv 1) pa_nil)) pa_nil)) (blkOk_by (own := [("_law_k", 4)]) (N := nNe) (sc := defScope sNear) (by decide +kernel)) (fun _ _ _ _ _ => pg_name (i := 4) scNe.nd rfl (Or.inl rfl)) (fun _ _ _ _ _ => pts_nil)
            (fun _ _ _ _ _ => by exact (pe_call GI hr (by rfl) gI kI bI .nil pass0 (pa_cons (pe_ix ix_tup (pe_ix ix_list (pv 2) (pv 4) (fun _ _ => rfl)) pe_int (fun _ _ => rfl)) (pa_cons (pe_ix ix_list (pv 8) (pv 4) (fun _ _ => rfl)) pa_nil))))
      apply pss_one
      · exact ps_ret (pe_op op_cat (pv 3) (pe_op op_rep (pe_lst (pa_cons (pv 8) pa_nil)) (pe_callTy call_int1 (by rfl) mi PyProof.Rows.boot_int (pa_cons (pe_cmpR op_in_seq pe_bl (pv 9) rfl) pa_nil))))
    have eS := hK.now.2.1
    refine ⟨(by show 0 ≤ sizeLine; decide), fun N hN => ?_⟩
    have nN := hB.ne hN
    have s0 := same_new (o := .lst []) hN
    have T0 : But a H (upd H N (.lst [])) := But.new hN
    refine ⟨.ref S, rfl, S, _, rfl, .inl (SqL.of (s0 _ _ eS)), _, rfl, ?_, ?_, for_range (lo := 0) (n := _) (fun i σ H' => (∃ v4 v5 v6 v7, σ = [some (.ref a), some (.ref L), some (.ref S), some (.ref N), v4, v5, v6, v7, none, none, none]) ∧ But a H H' ∧ Box (n + 2 * i) H' a ∧ ∃ xs : List V, H' N = some (.lst xs) ∧ xs.length ≤ 2 * i ∧ ∀ x ∈ xs, NearK ms a N H' x)
      ⟨⟨none, none, none, none, rfl⟩, T0, (hB.new hN).mono (by omega), [], upd_same, Nat.zero_le _, fun x hx => by cases hx⟩ ?_ ?_⟩
    · rw [List.length_map]
      omega
    · rw [List.length_map]
      omega
    · rintro i σ H1 hi0 ⟨⟨v4, v5, v6, v7, rfl⟩, To, Bo, xs0, eN0, lx0, nk0⟩
      have hi : i < qs.length := by
        rw [List.length_map] at hi0
        omega
      have hiM : i < ms.length := by omega
      have hM : ms[i]? = some ms[i] := List.getElem?_eq_getElem hiM
      have hQ : qs[i]? = some qs[i] := List.getElem?_eq_getElem hi
      obtain ⟨M, eM⟩ : ∃ M, ms[i] = M := ⟨_, rfl⟩
      obtain ⟨qq, eQ⟩ : ∃ qq, qs[i] = qq := ⟨_, rfl⟩
      rw [eM] at hM
      rw [eQ] at hQ
      have mM : M ∈ ms := List.mem_of_getElem? hM
      have mQ : qq ∈ qs := List.mem_of_getElem? hQ
      have K1 := (hK.but To).now
      have AM := K1.2.2 M mM
      obtain ⟨dl, pl, ks, ek, MM⟩ := id AM.mo
      have M1 := MM H1 But.refl
      have gM : atI (ms.map mV) (0 + (i : Int)) = some (mV M) := by
        rw [Int.zero_add]
        exact atI_nat (by rw [List.getElem?_map, hM]; rfl)
      have gQ : atI (qs.map qV) (0 + (i : Int)) = some (qV qq) := by
        rw [Int.zero_add]
        exact atI_nat (by rw [List.getElem?_map, hQ]; rfl)
      refine ⟨.ref S, rfl, .int (0 + i), rfl, S, _, 0 + i, mV M, rfl, rfl, SqL.of K1.2.1, gM, M.p, _, 1, .ref M.m, rfl, rfl, SqT.of AM.tup, rfl, ?_⟩
      -- what it lacks
      refine ⟨9, rfl, -9, 10, rfl, ⟨by decide, by decide, by decide, by decide⟩, fun D hD => ?_⟩
      have nD := Bo.ne hD
      refine lc_range (lo := -9) (n := ((10 : Int) - -9).toNat) (fun j H' => Same H1 H' ∧ H' D = some (.lst ((lackD M.ns j).map V.int))) ⟨same_new hD, upd_same⟩ ?_ ?_
      · rintro j H2 hj ⟨s2, e2⟩
        have M2 := M1.same s2
        refine ⟨rfl, .int (-9 + j), rfl, .ref M.m, rfl, M.m, _, 1, .ref dl, rfl, rfl, SqL.of M2.mo, atI_nat (j := 1) rfl, dl, _, rfl, .inl (SqL.of M2.di), rfl, flat_ints M.ns, _, rfl, ?_⟩
        have ein : inV (.int (-9 + (j : Int))) (M.ns.map V.int) = decide ((-9 + (j : Int)) ∈ M.ns) := in_ints _ _
        have step : lackD M.ns (j + 1) = lackD M.ns j ++ ([(-9 : Int) + j].filter fun d => !decide (d ∈ M.ns)) := by
          unfold lackD
          rw [List.range_succ, List.map_append, List.filter_append]
          rfl
        rw [if_pos rfl, ein, step]
        by_cases hin : (-9 + (j : Int)) ∈ M.ns
        · rw [decide_eq_true hin]
          refine iteF ⟨s2, ?_⟩
          rw [e2]
          simp [hin]
        · rw [decide_eq_false hin]
          refine iteT ⟨.int (-9 + j), rfl, _, e2, ?_, Same.store s2 hD, ?_⟩
          · rw [List.length_map]
            have := lack_len M.ns j
            have hj2 : j < 19 := hj
            exact small1000 (by omega)
          · rw [upd_same, List.map_append]
            simp [hin]
      rintro H2 ⟨s2, e2⟩
      have e2 : H2 D = some (.lst ((lackD M.ns 19).map V.int)) := e2
      have T2 := To.trans (But.of_same s2)
      have K2 := (hK.but T2).now
      have lk1 := lack_some M.ns AM.good.six
      have lk2 := lack_len M.ns 19
      -- the line
      refine ⟨.ref L, rfl, .int (0 + i), rfl, L, _, _, qV qq, rfl, rfl, SqL.of K2.1.1, gQ, .ref D, rfl, .ref a, rfl, .ref D, rfl, D, _, rfl, .inl (SqL.of e2), a, (((lackD M.ns 19).map V.int).length : Int), n + 2 * i, rfl, Bo.same s2, by omega, by rw [List.length_map]; omega, by rw [List.length_map, Int.natAbs_natCast]; exact Nat.lt_of_le_of_lt lk2 (by decide), fun r H3 r0 r1 t3 B3 => ?_⟩
      obtain ⟨vd, hvd, mvd⟩ := pick (xs := (lackD M.ns 19).map V.int) r0 r1
      obtain ⟨d, md, rfl⟩ := List.mem_map.mp mvd
      obtain ⟨dno, d9⟩ := lack_mem (Nat.le_refl 19) md
      refine ⟨D, _, r, .int d, rfl, rfl, SqL.of (t3 _ _ nD e2), hvd, (by show 1 ≤ sizeLine; decide), fun U1 hU1 => ?_⟩
      have sU := same_new (o := .tup [.int d]) hU1
      have eU1 : (upd H3 U1 (.tup [.int d])) U1 = some (.tup [.int d]) := upd_same
      generalize upd H3 U1 (.tup [.int d]) = H4 at sU eU1 ⊢
      have T4 := (T2.trans t3).trans (But.of_same sU)
      have K4 := (hK.but T4).now
      have lq7 := (hq qq mQ)
      refine ⟨qq.1, U1, _, _, rfl, rfl, K4.1.2 qq mQ, eU1, ?_, fun T H5 s5 eT => ?_⟩
      · rw [List.length_map]
        exact Nat.le_trans (show _ + 1 ≤ 1000 by omega) (by decide)
      have eT : H5 T = some (.tup ((qq.2 ++ [d]).map V.int)) := by
        rw [eT, List.map_append]
        rfl
      have T5 := T4.trans (But.of_same s5)
      have B5' : Box (n + 2 * i + 1) H5 a := (B3.same sU).same s5
      have eN5 : H5 N = some (.lst xs0) := s5 _ _ (sU _ _ (t3 _ _ nN (s2 _ _ eN0)))
      have nk5 : ∀ x ∈ xs0, NearK ms a N H5 x := fun x hx => ((((nk0 x hx).same s2).but (Bo.same s2) t3).same sU).same s5
      clear eN0 nk0
      have eN0 := eN5
      have nk0 := nk5
      clear eN5 nk5
      refine ⟨.ref N, rfl, .inl ⟨rfl, _, SqL.of eN0⟩, ?_⟩
      refine ⟨.ref L, rfl, .int (0 + i), rfl, (0 + i), rfl, L, _, rfl, SqL.of (hK.but T5).now.1.1, fun g1 hg1 => ?_⟩
      rw [cut_take qs i (Nat.le_of_lt hi)]
      have m1 : g1 ≠ a := B5'.ne hg1
      have x1 : (upd H5 g1 (.lst ((qs.take i).map qV))) g1 = some (.lst ((qs.take i).map qV)) := upd_same
      have s1 := same_new (o := .lst ((qs.take i).map qV)) hg1
      generalize upd H5 g1 (.lst ((qs.take i).map qV)) = J1 at x1 s1 ⊢
      have t1 : But a H5 J1 := But.of_same s1
      have B1 := B5'.same s1
      obtain ⟨J2, eJ2⟩ : ∃ J2, J2 = J1 := ⟨_, rfl⟩
      rw [← eJ2]
      have t2 : But a J1 J2 := by rw [eJ2]; exact But.refl
      have B2 : Box (n + 2 * i + 1) J2 a := by rw [eJ2]; exact B1
      obtain ⟨v, hv⟩ : ∃ v : V, v = .ref T := ⟨_, rfl⟩
      refine ⟨.ref T, rfl, ?_⟩
      rw [← hv]
      have x1b := t2 _ _ m1 x1
      refine ⟨(by show 1 ≤ sizeLine; decide), fun g2 hg2 => ?_⟩
      have s2 := same_new (o := .lst [v]) hg2
      have x2 : (upd J2 g2 (.lst [v])) g2 = some (.lst [v]) := upd_same
      have x1c := s2 _ _ x1b
      generalize upd J2 g2 (.lst [v]) = J3 at x2 s2 x1c ⊢
      refine ⟨g1, g2, _, _, rfl, rfl, x1c, x2, ?_, fun g3 hg3 => ?_⟩
      · rw [List.length_map, List.length_take]
        exact Nat.le_trans (show _ + 1 ≤ 1000 by omega) (by decide)
      have s3 := s2.trans (same_new (o := .lst ((qs.take i).map qV ++ [v])) hg3)
      have x3 : (upd J3 g3 (.lst ((qs.take i).map qV ++ [v]))) g3 = some (.lst ((qs.take i).map qV ++ [v])) := upd_same
      generalize upd J3 g3 (.lst ((qs.take i).map qV ++ [v])) = J4 at x3 s3 ⊢
      have T4 := ((T5.trans t1).trans t2).trans (But.of_same s3)
      refine ⟨.ref L, rfl, .int (0 + i), rfl, _, _, rfl, rfl, _, rfl, L, _, rfl, SqL.of (hK.but T4).now.1.1, fun g4 hg4 => ?_⟩
      rw [cut_drop qs i hi]
      have s4 := s3.trans (same_new (o := .lst ((qs.drop (i + 1)).map qV)) hg4)
      have x4 : (upd J4 g4 (.lst ((qs.drop (i + 1)).map qV))) g4 = some (.lst ((qs.drop (i + 1)).map qV)) := upd_same
      have x3b := same_new (o := .lst ((qs.drop (i + 1)).map qV)) hg4 _ _ x3
      generalize upd J4 g4 (.lst ((qs.drop (i + 1)).map qV)) = J5 at x4 s4 x3b ⊢
      refine ⟨g3, g4, _, _, rfl, rfl, x3b, x4, ?_, fun g5 hg5 => ?_⟩
      · rw [List.length_append, List.length_map, List.length_map, List.length_take, List.length_drop]
        exact Nat.le_trans (show _ + 1 + _ ≤ 1000 by omega) (by decide)
      have B5 := B2.same s4
      have m5 : g5 ≠ a := B5.ne hg5
      have s5 := s4.trans (same_new (o := .lst ((qs.take i).map qV ++ [v] ++ (qs.drop (i + 1)).map qV)) hg5)
      have x5 : (upd J5 g5 (.lst ((qs.take i).map qV ++ [v] ++ (qs.drop (i + 1)).map qV))) g5 = some (.lst ((qs.take i).map qV ++ [v] ++ (qs.drop (i + 1)).map qV)) := upd_same
      have eN5 := s4 _ _ (t2 _ _ nN (t1 _ _ nN eN0))
      have m5N : g5 ≠ N := (ne_of_none eN5 hg5).symm
      have eN6 := same_new (o := .lst ((qs.take i).map qV ++ [v] ++ (qs.drop (i + 1)).map qV)) hg5 _ _ eN5
      generalize upd J5 g5 (.lst ((qs.take i).map qV ++ [v] ++ (qs.drop (i + 1)).map qV)) = J6 at x5 s5 eN6 ⊢
      have T6 := ((T5.trans t1).trans t2).trans (But.of_same s5)
      have B6 := B2.same s5
      have old : ∀ x ∈ xs0, NearK ms a N J6 x := fun x hx => ((((nk0 x hx).but B5' t1).but B1 t2)).same s5
      have gT : J6 T = some (.tup ((qq.2 ++ [d]).map V.int)) := s5 _ _ (t2 _ _ (tupne B1 (t1 _ _ (tupne B5' eT) eT)) (t1 _ _ (tupne B5' eT) eT))
      have new1 : NearK ms a N J6 (.ref g5) := near_put hi lq m5 m5N (by rw [x5, hv]) (fun q hq' => (hK.but T6).now.1.2 q hq') gT hq ⟨by rw [List.length_append]; show _ + 1 ≤ 10; omega, fun e he => by
        rcases List.mem_append.mp he with he | he
        · exact lq7.2 e he
        · rw [List.mem_singleton.mp he]
          exact d9⟩ hM (row_lack dno)
      refine ⟨N, _, _, rfl, rfl, eN6, small1000 (by omega), ?_⟩
      have T7 : But a H (upd J6 N (.lst (xs0 ++ [.ref g5]))) := T6.store hN
      have B7 : Box (n + 2 * i + 1) (upd J6 N (.lst (xs0 ++ [.ref g5]))) a := B6.upd nN
      have eN7 : (upd J6 N (.lst (xs0 ++ [.ref g5]))) N = some (.lst (xs0 ++ [.ref g5])) := upd_same
      have nk7 : ∀ x ∈ xs0 ++ [.ref g5], NearK ms a N (upd J6 N (.lst (xs0 ++ [.ref g5]))) x := fun x hx => by
        rcases List.mem_append.mp hx with hx | hx
        · exact (old x hx).store eN6
        · rw [List.mem_singleton.mp hx]
          exact new1.store eN6
      have lx7 : (xs0 ++ [V.ref g5]).length ≤ 2 * i + 1 := by
        rw [List.length_append]
        show xs0.length + 1 ≤ _
        omega
      generalize upd J6 N (.lst (xs0 ++ [.ref g5])) = H7 at T7 B7 eN7 nk7 ⊢
      generalize xs0 ++ [V.ref g5] = xs7 at eN7 nk7 lx7 ⊢
      clear new1 gT old x5 s5 eN6 T6 B6 x4 s4 x3b x3 s3 x2 s2 x1c x1b t2 B2 t1 x1 s1 nk0 eN0 lx0
      -- barred neighbours
      obtain ⟨dl, pl, ks, ek, MM⟩ := id ((hK.but T7).now.2.2 M mM).mo
      have M7 := MM H7 But.refl
      refine ⟨.ref M.m, rfl, M.m, _, 2, .ref pl, rfl, rfl, SqL.of M7.mo, atI_nat (j := 2) rfl, (by show 0 ≤ sizeLine; decide), fun z0 hz0 => ?_⟩
      have sz := same_new (o := .lst []) hz0
      refine ⟨pl, z0, _, rfl, rfl, SqL.of (sz _ _ M7.pa), SqL.of upd_same, _, rfl, ?_⟩
      have T8 := T7.trans (But.of_same sz)
      have B8 : Box (n + 2 * i + 1) (upd H7 z0 (.lst [])) a := B7.same sz
      have eN8 := sz _ _ eN7
      have nk8 : ∀ x ∈ xs7, NearK ms a N (upd H7 z0 (.lst [])) x := fun x hx => (nk7 x hx).same sz
      have M8 := M7.same sz
      generalize upd H7 z0 (.lst []) = H8 at T8 B8 eN8 nk8 M8 ⊢
      cases hks : ks with
      | nil => exact iteFB rfl ⟨⟨_, _, _, _, rfl⟩, T8, B8.mono (by omega), xs7, eN8, by omega, nk8⟩
      | cons k0 kr =>
        refine iteTB rfl ?_
        refine ⟨.ref N, rfl, .inl ⟨rfl, _, SqL.of eN8⟩, ?_⟩
        refine ⟨.ref L, rfl, .int (0 + i), rfl, (0 + i), rfl, L, _, rfl, SqL.of (hK.but T8).now.1.1, fun g1 hg1 => ?_⟩
        rw [cut_take qs i (Nat.le_of_lt hi)]
        have m1 : g1 ≠ a := B8.ne hg1
        have x1 : (upd H8 g1 (.lst ((qs.take i).map qV))) g1 = some (.lst ((qs.take i).map qV)) := upd_same
        have s1 := same_new (o := .lst ((qs.take i).map qV)) hg1
        generalize upd H8 g1 (.lst ((qs.take i).map qV)) = J1 at x1 s1 ⊢
        have t1 : But a H8 J1 := But.of_same s1
        have B1 := B8.same s1
        have M9 := M8.same s1
        refine ⟨.ref M.m, rfl, M.m, _, 2, .ref pl, rfl, rfl, SqL.of M9.mo, atI_nat (j := 2) rfl, .ref a, rfl, .ref M.m, rfl, M.m, _, 2, .ref pl, rfl, rfl, SqL.of M9.mo, atI_nat (j := 2) rfl, pl, _, rfl, .inl (SqL.of M9.pa), a, ((ks.map fun p => V.ref p.1).length : Int), n + 2 * i + 1, rfl, B1, by omega, by rw [hks]; simp, ?_, fun r J2 r0 r1 t2 B2 => ?_⟩
        · have few := AM.good.few
          rw [← ek, List.length_map] at few
          rw [List.length_map, Int.natAbs_natCast]
          exact Nat.lt_of_le_of_lt few (by decide)
        obtain ⟨v, hv, mv⟩ := pick (xs := ks.map fun p => V.ref p.1) r0 r1
        obtain ⟨kk, mkk, ekk⟩ := List.mem_map.mp mv
        have npl : pl ≠ a := fun z => by
          have := M9.pa
          obtain ⟨b0, b1, b2, hb, _⟩ := B1
          rw [z, hb] at this
          rw [hks] at this
          cases this
        refine ⟨pl, _, r, v, rfl, rfl, SqL.of (t2 _ _ npl M9.pa), hv, ?_⟩
        have x1b := t2 _ _ m1 x1
        refine ⟨(by show 1 ≤ sizeLine; decide), fun g2 hg2 => ?_⟩
        have s2 := same_new (o := .lst [v]) hg2
        have x2 : (upd J2 g2 (.lst [v])) g2 = some (.lst [v]) := upd_same
        have x1c := s2 _ _ x1b
        generalize upd J2 g2 (.lst [v]) = J3 at x2 s2 x1c ⊢
        refine ⟨g1, g2, _, _, rfl, rfl, x1c, x2, ?_, fun g3 hg3 => ?_⟩
        · rw [List.length_map, List.length_take]
          exact Nat.le_trans (show _ + 1 ≤ 1000 by omega) (by decide)
        have s3 := s2.trans (same_new (o := .lst ((qs.take i).map qV ++ [v])) hg3)
        have x3 : (upd J3 g3 (.lst ((qs.take i).map qV ++ [v]))) g3 = some (.lst ((qs.take i).map qV ++ [v])) := upd_same
        generalize upd J3 g3 (.lst ((qs.take i).map qV ++ [v])) = J4 at x3 s3 ⊢
        have T4 := ((T8.trans t1).trans t2).trans (But.of_same s3)
        refine ⟨.ref L, rfl, .int (0 + i), rfl, _, _, rfl, rfl, _, rfl, L, _, rfl, SqL.of (hK.but T4).now.1.1, fun g4 hg4 => ?_⟩
        rw [cut_drop qs i hi]
        have s4 := s3.trans (same_new (o := .lst ((qs.drop (i + 1)).map qV)) hg4)
        have x4 : (upd J4 g4 (.lst ((qs.drop (i + 1)).map qV))) g4 = some (.lst ((qs.drop (i + 1)).map qV)) := upd_same
        have x3b := same_new (o := .lst ((qs.drop (i + 1)).map qV)) hg4 _ _ x3
        generalize upd J4 g4 (.lst ((qs.drop (i + 1)).map qV)) = J5 at x4 s4 x3b ⊢
        refine ⟨g3, g4, _, _, rfl, rfl, x3b, x4, ?_, fun g5 hg5 => ?_⟩
        · rw [List.length_append, List.length_map, List.length_map, List.length_take, List.length_drop]
          exact Nat.le_trans (show _ + 1 + _ ≤ 1000 by omega) (by decide)
        have B5 := B2.same s4
        have m5 : g5 ≠ a := B5.ne hg5
        have s5 := s4.trans (same_new (o := .lst ((qs.take i).map qV ++ [v] ++ (qs.drop (i + 1)).map qV)) hg5)
        have x5 : (upd J5 g5 (.lst ((qs.take i).map qV ++ [v] ++ (qs.drop (i + 1)).map qV))) g5 = some (.lst ((qs.take i).map qV ++ [v] ++ (qs.drop (i + 1)).map qV)) := upd_same
        have eN5 := s4 _ _ (t2 _ _ nN (t1 _ _ nN eN8))
        have m5N : g5 ≠ N := (ne_of_none eN5 hg5).symm
        have eN6 := same_new (o := .lst ((qs.take i).map qV ++ [v] ++ (qs.drop (i + 1)).map qV)) hg5 _ _ eN5
        generalize upd J5 g5 (.lst ((qs.take i).map qV ++ [v] ++ (qs.drop (i + 1)).map qV)) = J6 at x5 s5 eN6 ⊢
        have T6 := ((T8.trans t1).trans t2).trans (But.of_same s5)
        have B6 := B2.same s5
        have old : ∀ x ∈ xs7, NearK ms a N J6 x := fun x hx => ((((nk8 x hx).but B8 t1).but B1 t2)).same s5
        have gk : J6 kk.1 = some (.tup ([kk.2.1, kk.2.2].map V.int)) := s5 _ _ (t2 _ _ (tupne B1 (M9.pr kk mkk)) (M9.pr kk mkk))
        have mp : kk.2 ∈ M.ps := by
          rw [← ek]
          exact List.mem_map.mpr ⟨kk, mkk, rfl⟩
        have two := AM.good.mem kk.2 mp
        have d1 := dig_in (AM.good.dg _ two.1)
        have d2 := dig_in (AM.good.dg _ two.2)
        have new1 : NearK ms a N J6 (.ref g5) := near_put hi lq m5 m5N (by rw [x5, ← ekk]) (fun q hq' => (hK.but T6).now.1.2 q hq') gk hq ⟨by show 2 ≤ 10; decide, fun e he => by
          simp only [List.mem_cons, List.not_mem_nil, or_false] at he
          rcases he with rfl | rfl <;> omega⟩ hM (row_barred mp)
        refine ⟨N, _, _, rfl, rfl, eN6, small1000 (by omega), ?_⟩
        refine ⟨⟨_, _, _, _, rfl⟩, T6.store hN, (B6.upd nN).mono (by omega), _, upd_same, by rw [List.length_append]; show xs7.length + 1 ≤ _; omega, fun x hx => ?_⟩
        rcases List.mem_append.mp hx with hx | hx
        · exact (old x hx).store eN6
        · rw [List.mem_singleton.mp hx]
          exact new1.store eN6
    · rintro σ H1 ⟨⟨v4, v5, v6, v7, rfl⟩, T1, B1, xs, eN, lx, nk⟩
      rw [List.length_map] at B1 lx
      -- the lines, turned
      have K1 := (hK.but T1).now
      refine ⟨.ref L, rfl, L, _, rfl, SqL.of K1.1.1, fun U hU => ?_⟩
      rw [← List.map_reverse]
      have nU := B1.ne hU
      have nUN : U ≠ N := (ne_of_none eN hU).symm
      have sU := same_new (o := .lst (qs.reverse.map qV)) hU
      have eU : (upd H1 U (.lst (qs.reverse.map qV))) U = some (.lst (qs.reverse.map qV)) := upd_same
      generalize upd H1 U (.lst (qs.reverse.map qV)) = H2 at sU eU ⊢
      have T2 := T1.trans (But.of_same sU)
      have B2 := B1.same sU
      have eN2 := sU _ _ eN
      have nk2 : ∀ x ∈ xs, NearK ms a N H2 x := fun x hx => (nk x hx).same sU
      refine ⟨.ref L, rfl, L, _, rfl, .inl (SqL.of (hK.but T2).now.1.1), _, rfl, by rw [List.length_map]; omega, by rw [List.length_map]; omega, fun D hD => ?_⟩
      refine lc_range (lo := 0) (n := ((qs.map qV).length : Int).toNat) (fun i H' => Same H2 H' ∧ ∃ bs : List Bool, H' D = some (.lst (bs.map V.bl)) ∧ bs.length = i ∧ ∀ (j : Nat) M q, j < i → ms[j]? = some M → qs.reverse[j]? = some q → bs[j]? = some (rowI M.ns M.ps q.2)) ⟨same_new hD, [], upd_same, rfl, fun j M q h => by omega⟩ ?_ ?_
      · rintro i H3 hi0 ⟨s3, bs, eD, lb, hb⟩
        have hi : i < qs.length := by
          rw [List.length_map] at hi0
          omega
        have hM : ms[i]? = some ms[i] := List.getElem?_eq_getElem (by omega)
        have hir : i < qs.reverse.length := by rw [List.length_reverse]; exact hi
        have hQ : qs.reverse[i]? = some qs.reverse[i] := List.getElem?_eq_getElem hir
        obtain ⟨M, eM⟩ : ∃ M, ms[i] = M := ⟨_, rfl⟩
        obtain ⟨qq, eQ⟩ : ∃ qq, qs.reverse[i] = qq := ⟨_, rfl⟩
        rw [eM] at hM
        rw [eQ] at hQ
        have mM : M ∈ ms := List.mem_of_getElem? hM
        have mQ : qq ∈ qs := List.mem_reverse.mp (List.mem_of_getElem? hQ)
        have T3 := T2.trans (But.of_same s3)
        have K3 := (hK.but T3).now
        have AM := K3.2.2 M mM
        obtain ⟨dl, pl, ks, ek, MM⟩ := id AM.mo
        have gM : atI (ms.map mV) (0 + (i : Int)) = some (mV M) := by
          rw [Int.zero_add]
          exact atI_nat (by rw [List.getElem?_map, hM]; rfl)
        have gQ : atI (qs.reverse.map qV) (0 + (i : Int)) = some (qV qq) := by
          rw [Int.zero_add]
          exact atI_nat (by rw [List.getElem?_map, hQ]; rfl)
        refine ⟨rfl, tYes_if ⟨.ref S, rfl, .int (0 + i), rfl, S, _, 0 + i, mV M, rfl, rfl, SqL.of K3.2.1, gM, M.p, _, 1, .ref M.m, rfl, rfl, SqT.of AM.tup, rfl, .ref U, rfl, .int (0 + i), rfl, U, _, 0 + i, qV qq, rfl, rfl, SqL.of (s3 _ _ eU), gQ, ?_⟩⟩
        refine ⟨M.m, dl, pl, qq.1, M.b, M.ns, qq.2, ks, rfl, MM H3 But.refl, K3.1.2 qq mQ, by have := (hq qq mQ).1; omega, fun H4 s4 => ⟨_, s4 _ _ eD, ?_, Same.store (s3.trans s4) hD, bs ++ [rowI M.ns (ks.map (·.2)) qq.2], ?_, ?_, fun j M' q' hj h1 h2 => ?_⟩⟩
        · rw [List.length_map, lb]
          exact small1000 (by omega)
        · rw [upd_same, List.map_append]
          rfl
        · rw [List.length_append, lb]
          rfl
        · rcases Nat.lt_or_ge j i with z | z
          · rw [List.getElem?_append_left (by omega)]
            exact hb j M' q' z h1 h2
          · have ej : j = i := by omega
            subst ej
            rw [hM] at h1
            rw [hQ] at h2
            cases h1
            cases h2
            rw [List.getElem?_append_right (by omega), lb, Nat.sub_self, ek]
            rfl
      rintro H3 ⟨s3, bs, eD, lb, hb⟩
      rw [List.length_map] at lb
      have T3 := T2.trans (But.of_same s3)
      refine ⟨.ref N, rfl, .ref U, rfl, (by show 1 ≤ sizeLine; decide), fun g1 hg1 => ?_⟩
      have s4 := s3.trans (same_new (o := .lst [.ref U]) hg1)
      have e4 : (upd H3 g1 (.lst [.ref U])) g1 = some (.lst [.ref U]) := upd_same
      have eD4 := same_new (o := .lst [.ref U]) hg1 _ _ eD
      generalize upd H3 g1 (.lst [.ref U]) = H4 at s4 e4 eD4 ⊢
      refine ⟨.ref D, rfl, D, _, rfl, .inl (SqL.of eD4), rfl, ?_, .inr ⟨_, rfl, ?_⟩⟩
      · rw [List.all_map]
        exact List.all_eq_true.mpr fun _ _ => rfl
      have e5 : inV (.bl false) (bs.map V.bl) = decide (false ∈ bs) := by
        unfold inV
        rw [List.any_map]
        rw [Bool.eq_iff_iff, List.any_eq_true, decide_eq_true_eq]
        constructor
        · rintro ⟨b, hb1, hb2⟩
          cases b with
          | false => exact hb1
          | true => exact absurd hb2 (by decide)
        · intro h
          exact ⟨false, h, by decide⟩
      rw [if_neg Bool.false_ne_true, e5]
      have fin : ∀ (ys : List V), ys.length ≤ 1 → (∀ y ∈ ys, NearK ms a N H4 y) → ∀ g2, H4 g2 = none → rCat (.ref N) (.ref g2) (upd H4 g2 (.lst ys)) Q := fun ys ly ny g2 hg2 => by
        have s5 := s4.trans (same_new (o := .lst ys) hg2)
        refine ⟨N, g2, _, _, rfl, rfl, s5 _ _ eN2, upd_same, Nat.le_trans (show _ ≤ 1000 by omega) (by decide), fun R hR => ?_⟩
        have s6 := s5.trans (same_new (o := .lst (xs ++ ys)) hR)
        have B6 := B2.same s6
        refine q R _ _ (T2.trans (But.of_same s6)) (B6.mono (by omega)) upd_same (by rw [List.length_append]; omega) fun H' t x hx => ?_
        have nx : NearK ms a N (upd (upd H4 g2 (.lst ys)) R (.lst (xs ++ ys))) x := by
          rcases List.mem_append.mp hx with hx | hx
          · exact (nk2 x hx).same s6
          · exact ((ny x hx).same (same_new hg2)).same (same_new hR)
        exact (nx.but B6 t).near
      by_cases hin : false ∈ bs
      · rw [decide_eq_true hin, if_pos rfl]
        refine ⟨g1, 1, _, rfl, rfl, e4, by decide, by decide, (by show 1 * 1 ≤ sizeLine; decide), fun g2 hg2 => ?_⟩
        obtain ⟨j, hj, ebj⟩ := List.getElem_of_mem hin
        have hjb : j < ((qs.length : Int)).toNat := by rw [← lb]; exact hj
        have hjq : j < qs.length := by rw [Int.toNat_natCast] at hjb; exact hjb
        have hjm : j < ms.length := by rw [← lq]; exact hjq
        have hQ : qs.reverse[j]? = some qs.reverse[j]! := by
          have : j < qs.reverse.length := by rw [List.length_reverse]; exact hjq
          rw [List.getElem!_eq_getElem?_getD, List.getElem?_eq_getElem this]
          rfl
        have hM : ms[j]? = some (ms[j]'hjm) := List.getElem?_eq_getElem hjm
        have bad := hb j _ _ (by rw [List.length_map]; exact hjb) hM hQ
        rw [List.getElem?_eq_getElem hj, ebj] at bad
        have bad := (Option.some.inj bad).symm
        refine fin [.ref U] (Nat.le_refl _) (fun y hy => ?_) g2 hg2
        rw [List.mem_singleton.mp hy]
        have K4 := (hK.but (T2.trans (But.of_same s4))).now
        exact ⟨U, qs.reverse, rfl, nU, nUN, ⟨s4 _ _ eU, fun q hq' => K4.1.2 q (List.mem_reverse.mp hq')⟩, by rw [List.length_reverse]; exact lq, fun q hq' => by
          have := hq q (List.mem_reverse.mp hq')
          exact ⟨by omega, this.2⟩, j, _, _, hM, hQ, bad⟩
      · rw [decide_eq_false hin, if_neg Bool.false_ne_true]
        refine ⟨g1, 0, _, rfl, rfl, e4, by decide, by decide, (by show 1 * 0 ≤ sizeLine; decide), fun g2 hg2 => ?_⟩
        exact fin [] (Nat.zero_le _) (fun y hy => by cases hy) g2 hg2
end
end K31
namespace K31
open PySem PySem.Spec PyProof.Rows L2 OF
section
variable {P : Program} {w : World} {K : PySem.W.Frag} {mg : Str → Option Value} {base : Heap}
/-! ### value_of, read -/
structure RowsOk (ts : List TD) (qs : List (Addr × List Int)) : Prop where
  len : qs.length = ts.length
  it : ∀ (i : Nat) z q, ts[i]? = some z → qs[i]? = some q → rowB z.ds z.ks (q.2.map V.int) = true ∧ q.2.length ≤ 10
def totalF (ts : List TD) (qs : List (Addr × List Int)) : Int := ((ts.zip (qs.map (·.2))).map fun z => z.1.f * valI z.1.b z.2).sum
theorem fval_good {CF C CR o tt a t r p : Addr} {H : Hp} {ts : List TD} {b : Int} {ds : List Int} {ks : List (Addr × (Int × Int))} {qs : List (Addr × List Int)} {Q : VK} {E : XK} (FA : FormAt CF C H o tt ts a t r b ds ks) (R : RowsOk ts qs) (lt : LT H p (qs.map qV)) (eq : ∀ q ∈ qs, H q.1 = some (.tup (q.2.map V.int)))
    (q : ∀ H', Same H H' → Q (.int (totalF ts qs)) H') : spFVal CF C CR [.ref o, .ref p] H Q E := by
  refine ⟨o, tt, ts, a, t, r, b, ds, ks, .ref p, rfl, FA, .inr ⟨p, _, rfl, lt, .inr ⟨List.replicate ts.length true, ⟨by rw [List.length_map]; exact R.len, List.length_replicate .., fun i z v bb hz hv hb => ?_⟩, fun h => ?_, fun _ nss H' ln hn s => ?_⟩⟩⟩
  · rw [List.getElem?_map] at hv
    obtain ⟨qq, hq, rfl⟩ := Option.map_eq_some_iff.mp hv
    have ebb : bb = true := by
      have := List.mem_of_getElem? hb
      exact (List.mem_replicate.mp this).2
    obtain ⟨h1, h2⟩ := R.it i z qq hz hq
    exact .inr ⟨qq.1, _, rfl, eq qq (List.mem_of_getElem? hq), by rw [List.length_map]; omega, ints_it _, by rw [ebb, h1]⟩
  · exfalso
    have : (List.replicate ts.length true).all id = true := List.all_eq_true.mpr fun x hx => (List.mem_replicate.mp hx).2
    rw [this] at h
    cases h
  · have e : nss = qs.map (·.2) := by
      refine List.ext_getElem? fun i => ?_
      rcases Nat.lt_or_ge i nss.length with c | c
      · have g := List.getElem?_eq_getElem c
        obtain ⟨q', h1, h2⟩ := hn i _ g
        rw [List.getElem?_map] at h1
        obtain ⟨qq, hq, e1⟩ := Option.map_eq_some_iff.mp h1
        have e2 : qq.1 = q' := V.ref.inj e1
        have h3 := eq qq (List.mem_of_getElem? hq)
        rw [e2, h2] at h3
        have e3 := ints_inj (HO.tup.inj (Option.some.inj h3))
        rw [g, List.getElem?_map, hq, e3]
        rfl
      · rw [List.getElem?_eq_none c, List.getElem?_eq_none]
        rw [List.length_map, R.len, ← ln]
        exact c
    rw [e]
    exact q H' s
def Refused (H : Hp) (ts : List TD) (x : V) : Prop := NoSeq H x ∨ ∃ (p : Addr) (xs : List V), x = .ref p ∧ LT H p xs ∧ (xs.length ≠ ts.length ∨ ∃ bs : List Bool, RowsJ H ts xs bs ∧ bs.all id = false)
theorem fval_bad {CF C CR o tt a t r : Addr} {H : Hp} {ts : List TD} {b : Int} {ds : List Int} {ks : List (Addr × (Int × Int))} {x : V} {Q : VK} {E : XK} (FA : FormAt CF C H o tt ts a t r b ds ks) (R : Refused H ts x) (hE : Raised CR "rows" x H E) : spFVal CF C CR [.ref o, x] H Q E := by
  refine ⟨o, tt, ts, a, t, r, b, ds, ks, x, rfl, FA, ?_⟩
  rcases R with no | ⟨p, xs, rfl, lt, h | ⟨bs, J, e⟩⟩
  · exact .inl ⟨no, hE⟩
  · exact .inr ⟨p, xs, rfl, lt, .inl ⟨h, hE⟩⟩
  · exact .inr ⟨p, xs, rfl, lt, .inr ⟨bs, J, fun _ => hE, fun h => by rw [e] at h; cases h⟩⟩
/-! ### lists that change behind the call -/
def spLate (CF C : Addr) : Sp := fun vs H Q _ => ∃ (o tt L a t r : Addr) (ts : List TD) (b : Int) (ds : List Int) (ks : List (Addr × (Int × Int))) (qs : List (Addr × List Int)), vs = [.ref o, .ref L] ∧ FormAt CF C H o tt ts a t r b ds ks ∧ 1 ≤ ts.length ∧ RowsOk ts qs ∧ LinesAt H L qs ∧ ∀ H', Same H H' → Q (.bl true) H'
abbrev nLa : List Str := ["_law_form", "_law_lines", "_law_some", "_law_late", "e"]
theorem scLa : FnScope nLa ["_law_form", "_law_lines"] (defScope sLate) := ⟨rfl, rfl, rfl, by decide +kernel, rfl, by decide +kernel, by decide +kernel⟩
def t_late (CF C CR : Addr) (W : WX) : TS := tSeq (tDrop (tMethS CF "value_of" (spFVal CF C CR) (WE W) (tVar 0) (tCons (tVar 3) tNil))) (tRet (tC (.bl false)))
def t_lateS (K : PySem.W.Frag) (CR : Addr) : Addr → Value → Option Addr → TS := fun a cls d => tSeq (tDrop (tBM K "list" rAppend (tVar 3) (tCons (tC (.int 7)) tNil))) (tIfS (tTest (tOp (rNeSame K) (tXf a cls d CR "rows" (tVar 4)) (tVar 3))) (tRet (tC (.bl false))) tNext)
set_option maxHeartbeats 2000000 in
theorem ok_late {f fV fI CF C CR : Addr} {fd fdV : FuncData} (F : Fun K "_law_late_right" "_law_late_right" sLate f fd) (c : Cls K CF) (mV : Meth K CF "value_of" fV) (GV : FnOk P w K mg base (L2.CX P w) 8 fV fdV ["self", "rows"] (spFVal CF C CR)) (bV : Binds K fdV ["self", "rows"] [])
    (T : ErrC K mg "InvalidRows" "rows" CR fI) (mli : mg "list" = none) : FnOk P w K mg base CX0 9 f fd ["_law_form", "_law_lines"] (spLate CF C) := by
  refine F.ok scLa (fun vs H Q E h => ?_) (fun cdv A outer s H vs Q E hr h => ?_)
  · obtain ⟨o, tt, L, a, t, r, ts, b, ds, ks, qs, rfl, _⟩ := h
    rfl
  · obtain ⟨o, tt, L, a, t, r, ts, b, ds, ks, qs, rfl, FA, l1, RO, hL, q⟩ := h
    apply Exists.intro
    apply And.intro
    · apply pss_cons
      · exact ps_set (i := 2) scLa.nd rfl (.inl rfl) (pe_callTy call_list_of (by rfl) mli PyProof.Rows.boot_list (pa_cons (pv 1) pa_nil))
      apply pss_cons
      · exact ps_if (pt_cmpR op_ne (pe_meth (pv 0) c mV GV hr bV .nil passNo (pa_cons (pv 2) pa_nil)) (pe_meth (pv 0) c mV GV hr bV .nil passNo (pa_cons (pv 1) pa_nil)) (nomark _)) (pss_one (ps_ret pe_bl)) pss_nil
      apply pss_cons
      · exact ps_expr (pe_bm PySem.F.plainAttrs_list PySem.F.slot_list_append PySem.F.type_list_append mt_append (pv 2) (pa_cons (pe_tup pa_nil) pa_nil))
      apply pss_cons
      · exact ps_for PassesOwn.never rfl (pi_list (pe_lst (pa_cons (pv 2) (pa_cons (pe_lst (pa_cons (pe_lst (pa_cons pe_int pa_nil)) pa_nil)) pa_nil)))) (pg_name (i := 3) scLa.nd rfl (.inl rfl))
          (tb := tSeq (fun D σ H => t_late CF C CR (wAs K (.ref CR) 4 (t_lateS K CR) (fun _ _ _ _ => False) D) D σ H) tNext)
          (pss_cons (ps_try_as (i := 4) (tb := t_late CF C CR) (ts := t_lateS K CR) (Wout := fun _ _ _ _ => False) rfl rfl scLa.nd rfl rfl ⟨rfl, by decide, Or.inl T.g⟩ takes0
            (fun W pn xe tk _ => pss_cons (ps_expr (by exact (pe_methSX (pv 0) c mV GV hr bV (fun σ => passAt tk σ) (by exact (pa_cons (pv 3) pa_nil))))) (pss_one (ps_ret pe_bl)))
            (fun a oe cls d pn hz hf => pss_cons (ps_expr (by exact (pe_bm PySem.F.plainAttrs_list PySem.F.slot_list_append PySem.F.type_list_append mt_append (pv 3) (pa_cons pe_int pa_nil))))
              (pss_one (ps_if (by exact (pt_cmpR (op_neSame hr.units) (pe_xf T.xf T.no hz hf (pv 4)) (pv 3) (nomark _))) (pss_one (ps_ret pe_bl)) pss_nil)))) pss_nil)
      apply pss_one
      · exact ps_ret pe_bl
    obtain ⟨⟨dx, g, io⟩, _⟩ := id FA
    obtain ⟨eL, eq⟩ := hL
    have lq := RO.len
    have two := FA.two
    refine ⟨.ref L, rfl, L, _, rfl, .inl (SqL.of eL), fun S hS => ?_⟩
    have s1 := same_new (o := .lst (qs.map qV)) hS
    have eS : (upd H S (.lst (qs.map qV))) S = some (.lst (qs.map qV)) := upd_same
    generalize upd H S (.lst (qs.map qV)) = H1 at s1 eS ⊢
    refine ⟨.ref o, rfl, o, dx, _, rfl, s1 _ _ io, rfl, .ref S, rfl, ?_⟩
    dsimp only [tNil]
    refine fval_good (FA.same s1) RO (.inl eS) (fun q hq => s1 _ _ (eq q hq)) fun H2 s2 => ?_
    have s12 := s1.trans s2
    refine ⟨.ref o, rfl, o, dx, _, rfl, s12 _ _ io, rfl, .ref L, rfl, ?_⟩
    dsimp only [tNil]
    refine fval_good (FA.same s12) RO (.inl (s12 _ _ eL)) (fun q hq => s12 _ _ (eq q hq)) fun H3 s3 => ⟨rfl, _, rfl, iteFB (by rw [decide_eq_true rfl]; rfl) ?_⟩
    have s13 := s12.trans s3
    have eS3 := (s2.trans s3) _ _ eS
    refine ⟨.ref S, rfl, .inl ⟨rfl, _, SqL.of eS3⟩, (by show 0 ≤ sizeLine; decide), fun e0 he0 => ?_⟩
    have s4 := same_new (o := .tup []) he0
    have f0 : (upd H3 e0 (.tup [])) e0 = some (.tup []) := upd_same
    have eS4 := s4 _ _ eS3
    have s14 := s13.trans s4
    generalize upd H3 e0 (.tup []) = H4 at f0 eS4 s14 ⊢
    have lens : (qs.map qV).length ≤ 2 := by
      rw [List.length_map]
      omega
    refine ⟨S, _, _, rfl, rfl, eS4, small1000 (by omega), ?_⟩
    have s5 : Same H (upd H4 S (.lst (qs.map qV ++ [.ref e0]))) := Same.store s14 hS
    have f0' : (upd H4 S (.lst (qs.map qV ++ [.ref e0]))) e0 = some (.tup []) := by
      rw [upd_ne (fun z => by rw [z, eS4] at f0; cases f0)]
      exact f0
    have eS5 : (upd H4 S (.lst (qs.map qV ++ [.ref e0]))) S = some (.lst (qs.map qV ++ [.ref e0])) := upd_same
    generalize upd H4 S (.lst (qs.map qV ++ [.ref e0])) = H5 at s5 f0' eS5 ⊢
    refine ⟨.ref S, rfl, (by show 1 ≤ sizeLine; decide), fun p1 hp1 => ?_⟩
    have u1 := same_new (o := .lst [.int 1]) hp1
    have e1 : (upd H5 p1 (.lst [.int 1])) p1 = some (.lst [.int 1]) := upd_same
    have s6 := s5.trans u1
    have eS6 := u1 _ _ eS5
    generalize upd H5 p1 (.lst [.int 1]) = H6 at e1 s6 eS6 ⊢
    refine ⟨(by show 1 ≤ sizeLine; decide), fun p2 hp2 => ?_⟩
    have u2 := same_new (o := .lst [.ref p1]) hp2
    have e2 : (upd H6 p2 (.lst [.ref p1])) p2 = some (.lst [.ref p1]) := upd_same
    have e1' := u2 _ _ e1
    have s7 := s6.trans u2
    have eS7 := u2 _ _ eS6
    have n21 : p2 ≠ p1 := (ne_of_none e1 hp2).symm
    have n2S : p2 ≠ S := (ne_of_none eS6 hp2).symm
    generalize upd H6 p2 (.lst [.ref p1]) = H7 at e2 e1' s7 eS7 ⊢
    refine ⟨(by show 2 ≤ sizeLine; decide), fun U hU => ?_⟩
    have u3 := same_new (o := .lst [.ref S, .ref p2]) hU
    have eU : (upd H7 U (.lst [.ref S, .ref p2])) U = some (.lst [.ref S, .ref p2]) := upd_same
    have s8 := s7.trans u3
    have e1'' := u3 _ _ e1'
    have e2' := u3 _ _ e2
    have eS8 := u3 _ _ eS7
    have nUS : U ≠ S := (ne_of_none eS7 hU).symm
    have nU2 : U ≠ p2 := (ne_of_none e2 hU).symm
    have n1S : p1 ≠ S := (ne_of_none eS5 hp1).symm
    generalize upd H7 U (.lst [.ref S, .ref p2]) = H8 at eU s8 e1'' e2' eS8 ⊢
    have fresh : H S = none ∧ H p2 = none := ⟨hS, free_same s6 hp2⟩
    refine ⟨U, rfl, ⟨_, SqL.of eU⟩, for_list (K := K) (a := U) (xs := [V.ref S, .ref p2]) (fun i σ H' => (∃ v, σ = [some (.ref o), some (.ref L), some (.ref S), v, none]) ∧ Same H H' ∧ H' U = some (.lst [.ref S, .ref p2]) ∧ (i = 0 → H' S = some (.lst (qs.map qV ++ [.ref e0]))) ∧ (i ≤ 1 → H' p2 = some (.lst [.ref p1]) ∧ H' p1 = some (.lst [.int 1]))) ⟨⟨none, rfl⟩, s8, eU, fun _ => eS8, fun _ => ⟨e2', e1''⟩⟩ (fun i σ H' _ h => SqL.of h.2.2.1) ?_ ?_⟩
    · rintro i x σ H' hx ⟨⟨v, rfl⟩, s9, eU9, hs, h2⟩
      -- what the suite behind the error does
      have hand : ∀ (l : Addr) (xs : List V) (N : Ends), x = .ref l → H' l = some (.lst xs) → xs.length ≤ 10 → (∀ v ∈ xs, flatB v = true ∨ ∃ a, v = .ref a) → (∀ H2, Same H' H2 → N.nx [some (.ref o), some (.ref L), some (.ref S), some x, none] (upd H2 l (.lst (xs ++ [.int 7])))) →
          Raised CR "rows" x H' (WE (wAs K (.ref CR) 4 (t_lateS K CR) (fun _ _ _ _ => False) N) [some (.ref o), some (.ref L), some (.ref S), some x, none]) := fun l xs N ex e len fl nx fs d H2 hd s ed => by
        subst ex
        refine ⟨true, T.te, fun _ a ha => ?_, fun q => nomatch q⟩
        have el := s _ _ e
        have nd : d ≠ l := fun z => by
          rw [z, el] at ed
          cases ed
        refine ⟨.ref l, rfl, .inl ⟨rfl, _, SqL.of el⟩, l, _, _, rfl, rfl, el, small1000 (by omega), ?_⟩
        refine ⟨.ref a, rfl, rfl, rfl, d, _, .ref l, rfl, (upd_ne nd).trans ed, by simp [List.lookup], .ref l, rfl, l, l, _, rfl, rfl, SqL.of upd_same, SqL.of upd_same, fun v hv => ?_, _, rfl, iteF (nx H2 s)⟩
        rcases List.mem_append.mp hv with hv | hv
        · exact fl v hv
        · rw [List.mem_singleton.mp hv]
          exact .inl rfl
      have FA9 := FA.same s9
      have io9 := s9 _ _ io
      match i, hx, hs, h2 with
      | 0, hx, hs, h2 =>
        cases hx
        refine ⟨.ref o, rfl, o, dx, _, rfl, io9, rfl, .ref S, rfl, ?_⟩
        dsimp only [tNil]
        refine fval_bad FA9 (.inr ⟨S, _, rfl, .inl (hs rfl), .inl (by rw [List.length_append, List.length_map, lq]; show ts.length + 1 ≠ ts.length; omega)⟩) (hand S _ _ rfl (hs rfl) (by rw [List.length_append, List.length_map]; show qs.length + 1 ≤ 10; omega) (fun v hv => ?_) fun H2 s2 => ?_)
        · rcases List.mem_append.mp hv with hv | hv
          · obtain ⟨qq, _, rfl⟩ := List.mem_map.mp hv
            exact .inr ⟨_, rfl⟩
          · rw [List.mem_singleton.mp hv]
            exact .inr ⟨_, rfl⟩
        · obtain ⟨a2, a1⟩ := h2 (by decide)
          exact ⟨⟨_, rfl⟩, Same.store (s9.trans s2) hS, (upd_ne nUS).trans (s2 _ _ eU9), (fun z => nomatch z), fun _ => ⟨(upd_ne n2S).trans (s2 _ _ a2), (upd_ne n1S).trans (s2 _ _ a1)⟩⟩
      | 1, hx, hs, h2 =>
        cases hx
        obtain ⟨a2, a1⟩ := h2 (by decide)
        refine ⟨.ref o, rfl, o, dx, _, rfl, io9, rfl, .ref p2, rfl, ?_⟩
        dsimp only [tNil]
        have ref : Refused H' ts (.ref p2) := by
          refine .inr ⟨p2, _, rfl, .inl a2, ?_⟩
          by_cases h1 : ts.length = 1
          · refine .inr ⟨[false], ⟨h1.symm, h1.symm, fun j z v bb hz hv hb => ?_⟩, rfl⟩
            match j, hv, hb with
            | 0, hv, hb =>
              cases hv
              cases hb
              exact .inl ⟨.lst a1, rfl⟩
            | j + 1, hv, _ => exact absurd hv (by simp)
          · exact .inl fun z => h1 z.symm
        refine fval_bad FA9 ref (hand p2 _ _ rfl a2 (by show 1 ≤ 10; decide) (fun v hv => ?_) fun H2 s2 => ?_)
        · rw [List.mem_singleton.mp hv]
          exact .inr ⟨_, rfl⟩
        · exact ⟨⟨_, rfl⟩, Same.store (s9.trans s2) fresh.2, (upd_ne nU2).trans (s2 _ _ eU9), (fun z => nomatch z), fun z => absurd z (by decide)⟩
      | j + 2, hx, _, _ => exact absurd hx (by simp)
    · rintro σ H' ⟨⟨v, rfl⟩, s9, _⟩
      exact q H' s9
end
end K31
set_option maxHeartbeats 4000000
/-! sorted(xs) of a list of pairs of any ints. -/
namespace OF
open PySem PySem.Spec PyProof.Rows L2
section
variable {P : Program} {w : World} {A : Around} {E : Value → Shared → Prop} {s : Shared}
theorem sorted_list_duos {a : Addr} {L : List (Addr × List Int)} {items : List Value} {Q : Value → Shared → Prop} (lst : s.heap.IsList a items.toArray) (rows : items = L.map fun q => Value.ref q.1) (each : ∀ p ∈ L, IsT P w s.heap p.2 p.1) (few : L.length < 64) (two : ∀ p ∈ L, p.2.length = 2)
    (fin : ∀ (s' : Shared) (p : Addr) (out : List Value) (c : Nat) (L' : List (Addr × List Int)), (∀ b o, s.heap.get? b = some o → s'.heap.get? b = some o) → s'.gens = s.gens → s'.os = s.os → s.heap.objs.size ≤ p →
      s'.heap.get? p = some (seqObj "list" out.toArray c) → out = L'.map (fun q => Value.ref q.1) → L'.Perm L → L'.Pairwise (fun q r => SrtO.lexB (duo r.2) (duo q.2) = false) → Q (.ref p) s') : wpAny (model P w) A (call (.builtin "sorted") [.ref a]) Q E s := by
  apply Calls.call_function_entry kind_sorted plain_sorted entry_sorted (args_sorted1 _)
  unfold Builtin.«sorted»
  refine wpAny_bind (m := checkCount "sorted" 1 1 _) (wpAny_pure ?_)
  apply wpAny_bind
  have short : items.length < 64 := by
    rw [rows, List.length_map]
    exact few
  have room : items.length ≤ sizeLine := by
    rw [sizeLine_eq]
    omega
  refine collect_list (A := A.in1) lst ?_ room
  have k1 : ∀ b o, s.heap.get? b = some o → ((s.heap.push (seqObj "list" #[] 0)).update s.heap.objs.size (Obj.mapSeq (· ++ items.toArray))).get? b = some o := fun b o e => by
    have lt := Heap.lt_size e
    rw [Heap.get?_update_ne _ _ _ _ (Nat.ne_of_lt lt)]
    exact Heap.get?_push_of_some _ e
  have z1 : s.heap.objs.size ≤ ((s.heap.push (seqObj "list" #[] 0)).update s.heap.objs.size (Obj.mapSeq (· ++ items.toArray))).objs.size := by
    rw [Heap.size_update, Heap.size_push]
    exact Nat.le_succ _
  generalize hh1 : (s.heap.push (seqObj "list" #[] 0)).update s.heap.objs.size (Obj.mapSeq (· ++ items.toArray)) = h1 at k1 z1 ⊢
  have g1 : ({ s with heap := h1 } : Shared).gens = s.gens := rfl
  have o1 : ({ s with heap := h1 } : Shared).os = s.os := rfl
  generalize hs1 : ({ s with heap := h1 } : Shared) = s1 at g1 o1 ⊢
  have eh : h1 = s1.heap := by rw [← hs1]
  subst eh
  generalize items = vs at rows room short ⊢
  have pm : vs.Perm (L.map fun q => Value.ref q.1) := by rw [rows]
  refine wpAny_bind (wpAny_newList ?_ room)
  have laid : (s1.heap.push (seqObj "list" vs.toArray 0)).get? s1.heap.objs.size = some (seqObj "list" vs.toArray 0) := Heap.get?_push_size _ rfl
  have tup : ∀ q ∈ L, TS.TupInts (s1.heap.push (seqObj "list" vs.toArray 0)) (.ref q.1) q.2 := by
    intro q hq
    exact tupInts_of (P := P) (w := w) (isT_keep (each q hq) fun b u e => Heap.get?_push_of_some _ (k1 b u e))
  have pair : ∀ v ∈ vs, Srt.IsPair (s1.heap.push (seqObj "list" vs.toArray 0)) v (duo (TS.intsOf (s1.heap.push (seqObj "list" vs.toArray 0)) v)).1 (duo (TS.intsOf (s1.heap.push (seqObj "list" vs.toArray 0)) v)).2 := by
    intro v hv
    obtain ⟨q, hq, e⟩ := List.mem_map.mp (pm.mem_iff.mp hv)
    subst e
    rw [(tup q hq).ints]
    obtain ⟨b, xs, e1, ⟨u, hu, hc, m, hd2⟩, ii⟩ := tup q hq
    have l2 := two q hq
    match hq2 : q.2, l2 with
    | [x, y], _ =>
      rw [hq2] at ii
      obtain ⟨xl⟩ := xs
      cases ii with
      | cons t1 k1' r1 => cases r1 with
        | cons t2 k2' r2 => cases r2 with
          | nil => exact ⟨b, u, _, _, m, e1, hu, hc, hd2⟩
  refine wpAny_bind (wpAny_holding (wpAny_call_entry slot_list_sort ⟨_, laid, rfl⟩ entry_list_sort (SrtO.list_sort_ord (s := { s1 with heap := s1.heap.push (seqObj "list" vs.toArray 0) }) (SrtO.swo_lex fun v => duo (TS.intsOf (s1.heap.push (seqObj "list" vs.toArray 0)) v)) laid room (fun h2 => ?sorts) fun out hs hb => ⟨_, rfl, ?done⟩) (args_list_sort _)))
  case sorts =>
    refine SrtO.pairs_sortableO (by omega) pair ?_
    intro u hu c
    rw [laid] at hu
    have := Option.some.inj hu
    subst this
    exact absurd (Value.type.inj c) (by decide)
  case done =>
    obtain ⟨c, hc⟩ := sortedHeap_at (vs := vs) (out := out.toArray) laid
    obtain ⟨L', pL, eL⟩ := perm_back (hb.perm.trans pm) L rfl
    refine wpAny_pure ⟨_, rfl, fin _ s1.heap.objs.size out c L' ?_ g1 o1 z1 hc eL pL ?_⟩
    · intro b u e
      have q := k1 b u e
      have lt := Heap.lt_size q
      show (sortedHeap (s1.heap.push (seqObj "list" vs.toArray 0)) s1.heap.objs.size vs out.toArray).get? b = some u
      rw [sortedHeap_old (Nat.ne_of_lt lt) (by rw [size_push']; exact Nat.lt_succ_of_lt lt)]
      exact Heap.get?_push_of_some _ q
    · have hs2 := hs
      rw [eL] at hs2
      refine List.Pairwise.imp_of_mem (fun {q r} hq hr z => ?_) (List.pairwise_map.mp hs2)
      have z2 : SrtO.lexB (duo (TS.intsOf (s1.heap.push (seqObj "list" vs.toArray 0)) (.ref r.1))) (duo (TS.intsOf (s1.heap.push (seqObj "list" vs.toArray 0)) (.ref q.1))) = false := z
      rw [(tup q (pL.mem_iff.mp hq)).ints, (tup r (pL.mem_iff.mp hr)).ints] at z2
      exact z2
end
section
variable {X : Cx}
/-- sorted of a list of pairs of ints -/
def rSortedDL (K : PySem.W.Frag) : List V → Hp → VK → Prop := fun vs H Q => ∃ (a : Addr) (L : List (Addr × List Int)), vs = [V.ref a] ∧ SqL K H a (L.map fun q => V.ref q.1) ∧ (∀ p ∈ L, SqT K H p.1 (p.2.map V.int)) ∧ (∀ p ∈ L, p.2.length = 2) ∧ L.length < 64 ∧
  ∀ (L' : List (Addr × List Int)) (p : Addr), L'.Perm L → L'.Pairwise (fun q r => SrtO.lexB (duo r.2) (duo q.2) = false) → H p = none → Q (.ref p) (upd H p (.lst (L'.map fun q => V.ref q.1)))
theorem cr_sortedDL (hc : X.calm = true) : CallR X (.builtin "sorted") (rSortedDL X.K) := by
  intro pins s σ H vs us Q I r h
  obtain ⟨a, L, rfl, ha, hk, two, few, q⟩ := h
  obtain ⟨u, rfl, ru⟩ := vals1 r
  cases ru
  obtain ⟨its, rv, pl, _⟩ := I.list ha
  apply sorted_list_duos (P := X.prog) (w := X.w) pl.isList (refs_vals rv) (fun p hp => I.isT (hk p hp)) few two
  intro s' p out c L' k g o hp hg eo pm pw
  have short : L'.length < 64 := by
    rw [pm.length_eq]
    exact few
  have room : (L'.map fun q => V.ref q.1).length ≤ sizeLine := by
    rw [List.length_map, sizeLine_eq]
    omega
  have free : H p = none := I.hok.fresh hp
  subst eo
  have vals : Vals (L'.map fun q => V.ref q.1) (L'.map fun q => Value.ref q.1) := vals_of_refs L'
  obtain ⟨h', g', d', t', o'⟩ := s'
  have e1 : g' = s.gens := g
  have e2 : o' = s.os := o
  subst e1 e2
  have J : Inv X pins σ (upd H p (.lst (L'.map fun q => V.ref q.1))) ⟨h', s.gens, d', t', s.os⟩ :=
    I.call (ch := []) (Un.laid k hp free) (I.hok.laid k hp ⟨room, _, c, vals, hg⟩) I.bare (fun _ z => nomatch z)
  exact ⟨.ref p, _, J, rfl, q L' p pm pw free⟩
end
end OF
namespace K31
open PySem PySem.Spec PyProof.Rows L2 OF
section
variable {P : Program} {w : World} {K : PySem.W.Frag} {mg : Str → Option Value} {base : Heap}
/-! ### data that is short when shown -/
structure Sm (d : PyData) (dp wt : Nat) : Prop where
  sh : d.showable = true
  nd : d.hasDict = false
  dp : d.depth ≤ dp
  lv : d.leavesShort 60 = true
  wt : d.weight ≤ wt
theorem Sm.mono {d : PyData} {dp wt dp2 wt2 : Nat} (h : Sm d dp wt) (h1 : dp ≤ dp2) (h2 : wt ≤ wt2) : Sm d dp2 wt2 := ⟨h.sh, h.nd, Nat.le_trans h.dp h1, h.lv, Nat.le_trans h.wt h2⟩
theorem sm_all {dp wt : Nat} : ∀ {ds : List PyData}, (∀ d ∈ ds, Sm d dp wt) → PyData.showableAll ds = true ∧ PyData.hasDictAll ds = false ∧ PyData.depthAll ds ≤ dp ∧ PyData.leavesShortAll 60 ds = true ∧ PyData.weightAll ds ≤ (wt + 1) * ds.length
  | [], _ => ⟨rfl, rfl, Nat.zero_le _, rfl, Nat.zero_le _⟩
  | d :: ds, h => by
    obtain ⟨i1, i2, i3, i4, i5⟩ := sm_all (ds := ds) fun x hx => h x (List.mem_cons_of_mem _ hx)
    have z := h d List.mem_cons_self
    refine ⟨?_, ?_, ?_, ?_, ?_⟩
    · rw [PyData.showableAll, z.sh, i1]
      rfl
    · rw [PyData.hasDictAll, z.nd, i2]
      rfl
    · rw [PyData.depthAll]
      exact Nat.max_le.mpr ⟨z.dp, i3⟩
    · rw [PyData.leavesShortAll, z.lv, i4]
      rfl
    · rw [PyData.weightAll, List.length_cons, Nat.mul_succ]
      have := z.wt
      omega
theorem sm_list {dp wt k : Nat} {ds : List PyData} (h : ∀ d ∈ ds, Sm d dp wt) (l : ds.length ≤ k) : Sm (.list ds) (dp + 1) ((wt + 1) * k) := by
  obtain ⟨i1, i2, i3, i4, i5⟩ := sm_all h
  refine ⟨by simpa only [PyData.showable] using i1, by simpa only [PyData.hasDict] using i2, ?_, by simpa only [PyData.leavesShort] using i4, ?_⟩
  · simp only [PyData.depth]
    omega
  · simp only [PyData.weight]
    exact Nat.le_trans i5 (Nat.mul_le_mul (Nat.le_refl _) l)
theorem sm_tup {dp wt k : Nat} {ds : List PyData} (h : ∀ d ∈ ds, Sm d dp wt) (l : ds.length ≤ k) : Sm (.tuple ds) (dp + 1) ((wt + 1) * k) := by
  obtain ⟨i1, i2, i3, i4, i5⟩ := sm_all h
  refine ⟨by simpa only [PyData.showable] using i1, by simpa only [PyData.hasDict] using i2, ?_, by simpa only [PyData.leavesShort] using i4, ?_⟩
  · simp only [PyData.depth]
    omega
  · simp only [PyData.weight]
    exact Nat.le_trans i5 (Nat.mul_le_mul (Nat.le_refl _) l)
def okInt (n : Int) : Bool := PyData.showable (.int n) && (PyData.leavesShort 60 (.int n) && decide (PyData.weight (.int n) ≤ 4))
theorem sm_int {n : Int} (h : n.natAbs ≤ 10) : Sm (.int n) 0 4 := by
  have all : ∀ k : Nat, k < 21 → okInt ((-10 : Int) + (k : Int)) = true := by decide +kernel
  have z := all (n + 10).toNat (by omega)
  have e : (-10 : Int) + (((n + 10).toNat : Nat) : Int) = n := by omega
  rw [e] at z
  unfold okInt at z
  rw [Bool.and_eq_true, Bool.and_eq_true, decide_eq_true_eq] at z
  exact ⟨z.1, rfl, Nat.le_refl _, z.2.1, z.2.2⟩
theorem sm_bool (b : Bool) : Sm (.bool b) 0 4 := ⟨rfl, rfl, Nat.le_refl _, by cases b <;> decide +kernel, by cases b <;> decide +kernel⟩
theorem Sm.shown {d : PyData} (h : Sm d 3 500) : d.shown.length ≤ sizeLine := by
  have := PyData.shown_le 60 (by decide) d h.lv
  have := h.wt
  rw [sizeLine_eq]
  have : (60 + 2) * d.weight ≤ 62 * 500 := Nat.mul_le_mul (Nat.le_refl _) h.wt
  omega
/-! ### wrong rows -/
structure WrongV (K : PySem.W.Frag) (H : Hp) (ts : List TD) (x : V) : Prop where
  ref : Refused H ts x
  sh : ∃ d, (∀ H', Same H H' → Dp K H' x d) ∧ Sm d 3 500
theorem Refused.same {H H' : Hp} {ts : List TD} {x : V} (h : Refused H ts x) (s : Same H H') : Refused H' ts x := by
  rcases h with h | ⟨p, xs, e, lt, h | ⟨bs, J, z⟩⟩
  · exact .inl (h.same s)
  · exact .inr ⟨p, xs, e, lt.same s, .inl h⟩
  · exact .inr ⟨p, xs, e, lt.same s, .inr ⟨bs, J.same s, z⟩⟩
theorem WrongV.same {K : PySem.W.Frag} {H H' : Hp} {ts : List TD} {x : V} (h : WrongV K H ts x) (s : Same H H') : WrongV K H' ts x :=
  ⟨h.ref.same s, let ⟨d, h1, h2⟩ := h.sh; ⟨d, fun H2 s2 => h1 H2 (s.trans s2), h2⟩⟩
def leafD : V → PyData
  | .int n => .int n
  | .bl b => .bool b
  | _ => .none
def LeafV (v : V) : Prop := (∃ n : Int, v = .int n ∧ n.natAbs ≤ 10) ∨ ∃ b, v = .bl b
theorem LeafV.item {H : Hp} {v : V} (h : LeafV v) : ItemOk H v := by
  rcases h with ⟨n, rfl, _⟩ | ⟨b, rfl⟩
  · exact .inl ⟨n, rfl⟩
  · exact .inr (.bl b)
theorem LeafV.sm {v : V} (h : LeafV v) : Sm (leafD v) 0 4 := by
  rcases h with ⟨n, rfl, h⟩ | ⟨b, rfl⟩
  · exact sm_int h
  · exact sm_bool b
theorem leaf_dp {K : PySem.W.Frag} {H : Hp} : ∀ {vs : List V}, (∀ v ∈ vs, LeafV v) → DpAll K H vs (vs.map leafD)
  | [], _ => .nil
  | v :: vs, h => by
    refine .cons ?_ (leaf_dp fun x hx => h x (List.mem_cons_of_mem _ hx))
    rcases h v List.mem_cons_self with ⟨n, rfl, _⟩ | ⟨b, rfl⟩
    · exact .int n
    · exact .bl b
/-- lines of leaves -/
structure LeafL (H : Hp) (rs : List (Addr × List V)) : Prop where
  it : ∀ r ∈ rs, H r.1 = some (.tup r.2) ∧ r.2.length ≤ 10 ∧ ∀ v ∈ r.2, LeafV v
  few : rs.length ≤ 3
abbrev rV (r : Addr × List V) : V := .ref r.1
theorem LeafL.same {H H' : Hp} {rs : List (Addr × List V)} (h : LeafL H rs) (s : Same H H') : LeafL H' rs := ⟨fun r hr => ⟨s _ _ (h.it r hr).1, (h.it r hr).2⟩, h.few⟩
theorem lines_dp {K : PySem.W.Frag} {H : Hp} : ∀ {rs : List (Addr × List V)}, (∀ r ∈ rs, H r.1 = some (.tup r.2) ∧ r.2.length ≤ 10 ∧ ∀ v ∈ r.2, LeafV v) → DpAll K H (rs.map rV) (rs.map fun r => .tuple (r.2.map leafD))
  | [], _ => .nil
  | r :: rs, h => .cons (.tup (SqT.of (h r List.mem_cons_self).1) (leaf_dp (h r List.mem_cons_self).2.2)) (lines_dp fun x hx => h x (List.mem_cons_of_mem _ hx))
theorem lines_sh {K : PySem.W.Frag} {H : Hp} {l : Addr} {rs : List (Addr × List V)} (e : H l = some (.lst (rs.map rV))) (h : LeafL H rs) : ∃ d, (∀ H', Same H H' → Dp K H' (.ref l) d) ∧ Sm d 3 500 := by
  refine ⟨.list (rs.map fun r => .tuple (r.2.map leafD)), fun H' s => .lst (SqL.of (s _ _ e)) (lines_dp (h.same s).it), ?_⟩
  refine (sm_list (dp := 1) (wt := 50) (k := 3) (fun d hd => ?_) (by rw [List.length_map]; exact h.few)).mono (by decide) (by decide)
  obtain ⟨r, hr, rfl⟩ := List.mem_map.mp hd
  refine (sm_tup (dp := 0) (wt := 4) (k := 10) (fun d hd => ?_) (by rw [List.length_map]; exact (h.it r hr).2.1)).mono (by decide) (by decide)
  obtain ⟨v, hv, rfl⟩ := List.mem_map.mp hd
  exact ((h.it r hr).2.2 v hv).sm
theorem wrong_len {K : PySem.W.Frag} {H : Hp} {ts : List TD} {l : Addr} {rs : List (Addr × List V)} (e : H l = some (.lst (rs.map rV))) (h : LeafL H rs) (ne : rs.length ≠ ts.length) : WrongV K H ts (.ref l) :=
  ⟨.inr ⟨l, _, rfl, .inl e, .inl (by rw [List.length_map]; exact ne)⟩, lines_sh e h⟩
theorem wrong_rows {K : PySem.W.Frag} {H : Hp} {ts : List TD} {l : Addr} {rs : List (Addr × List V)} (e : H l = some (.lst (rs.map rV))) (h : LeafL H rs) (len : rs.length = ts.length) (bad : ∃ (i : Nat) (z : TD) (r : Addr × List V), ts[i]? = some z ∧ rs[i]? = some r ∧ rowB z.ds z.ks r.2 = false) : WrongV K H ts (.ref l) := by
  refine ⟨.inr ⟨l, _, rfl, .inl e, .inr ⟨(ts.zip rs).map fun z => rowB z.1.ds z.1.ks z.2.2, ⟨by rw [List.length_map, len], by rw [List.length_map, List.length_zip, len, Nat.min_self], fun i z v b hz hv hb => ?_⟩, ?_⟩⟩, lines_sh e h⟩
  · rw [List.getElem?_map] at hv hb
    obtain ⟨r, hr, rfl⟩ := Option.map_eq_some_iff.mp hv
    obtain ⟨zr, hzr, rfl⟩ := Option.map_eq_some_iff.mp hb
    rw [List.getElem?_zip_eq_some] at hzr
    rw [hz, hr] at hzr
    have e1 := Option.some.inj hzr.1
    have e2 := Option.some.inj hzr.2
    rw [← e1, ← e2]
    obtain ⟨h1, h2, h3⟩ := h.it r (List.mem_of_getElem? hr)
    exact .inr ⟨r.1, r.2, rfl, h1, by omega, fun y hy => (h3 y hy).item, rfl⟩
  · obtain ⟨i, z, r, hz, hr, hb⟩ := bad
    rw [List.all_eq_false]
    have g : (ts.zip rs)[i]? = some (z, r) := by
      rw [List.getElem?_zip_eq_some]
      exact ⟨hz, hr⟩
    exact ⟨rowB z.ds z.ks r.2, List.mem_map.mpr ⟨(z, r), List.mem_of_getElem? g, rfl⟩, by rw [hb]; decide⟩
/-- the models are those of the terms -/
structure Mtch (ms : List MD) (ts : List TD) : Prop where
  len : ms.length = ts.length
  it : ∀ (i : Nat) M z, ms[i]? = some M → ts[i]? = some z → M.f = z.f ∧ M.b = z.b ∧ M.ns = z.ds ∧ z.ks.map (·.2) = M.ps
def leafQ (q : Addr × List Int) : Addr × List V := (q.1, q.2.map V.int)
theorem leafQ_map (qs : List (Addr × List Int)) : (qs.map leafQ).map rV = qs.map qV := by
  rw [List.map_map]
  rfl
theorem leafQ_ok {H : Hp} {qs : List (Addr × List Int)} (e : ∀ q ∈ qs, H q.1 = some (.tup (q.2.map V.int))) (h : ∀ q ∈ qs, q.2.length ≤ 10 ∧ ∀ d ∈ q.2, d.natAbs ≤ 9) (few : qs.length ≤ 3) : LeafL H (qs.map leafQ) := by
  refine ⟨fun r hr => ?_, by rw [List.length_map]; exact few⟩
  obtain ⟨q, hq, rfl⟩ := List.mem_map.mp hr
  refine ⟨e q hq, by show (q.2.map V.int).length ≤ 10; rw [List.length_map]; exact (h q hq).1, fun v hv => ?_⟩
  obtain ⟨d, hd, rfl⟩ := List.mem_map.mp hv
  exact .inl ⟨d, rfl, by have := (h q hq).2 d hd; omega⟩
theorem near_wrong {K : PySem.W.Frag} {H : Hp} {ms : List MD} {ts : List TD} {x : V} (h : NearL ms H x) (m : Mtch ms ts) (two : ts.length ≤ 2) (dg : ∀ z ∈ ts, ∀ n ∈ z.ds, dig n = true) : WrongV K H ts x := by
  obtain ⟨l, qs, rfl, ⟨e, eq⟩, len, small, i, M, q, hM, hq, bad⟩ := h
  have lq : qs.length = ts.length := by rw [len, m.len]
  refine wrong_rows (rs := qs.map leafQ) (by rw [leafQ_map]; exact e) (leafQ_ok eq small (by omega)) (by rw [List.length_map]; exact lq) ?_
  have hi : i < ts.length := by
    rw [← lq]
    exact (List.getElem?_eq_some_iff.mp hq).1
  have hz := List.getElem?_eq_getElem hi
  obtain ⟨_, _, e3, e4⟩ := m.it i M _ hM hz
  refine ⟨i, _, leafQ q, hz, by rw [List.getElem?_map, hq]; rfl, ?_⟩
  show rowB _ _ (q.2.map V.int) = false
  rw [row_same e4 (dg _ (List.mem_of_getElem? hz)), ← e3]
  exact bad
theorem kbVal {f : Addr} {fd : FuncData} (F : Fun K "value_of" "Form.value_of" sFoVal f fd) : KBn K fd ["self", "rows"] 1 ["rows"] gApp gApp := by
  obtain ⟨oc, od, kV, doc, pm, an, cdv, ct, osl, rfl, lk, hcd⟩ := F.ex
  refine ⟨fun s us ws X l1 l2 => ?_, fun {vs us zs ws} r1 r2 => r1.append r2⟩
  match us, ws, l1, l2 with
  | [x], [y], _, _ => exact .of_eq rfl
theorem kp_form {n : Int} {CF C : Addr} {H : Hp} {a o tt g_ t r : Addr} {ts : List TD} {b : Int} {ds : List Int} {ks : List (Addr × (Int × Int))} (B : Box n H a) (h : FormAt CF C H o tt ts g_ t r b ds ks) : Kp a H (fun H' => FormAt CF C H' o tt ts g_ t r b ds ks) := fun H' u => by
  obtain ⟨⟨dx, g, i⟩, m, e, S, fw, tw⟩ := h
  exact ⟨⟨dx, g, u _ _ (insne B i) i⟩, u _ _ (tupne B m) m, fun z hz => let k := e z hz; ⟨u _ _ (tupne B k.tup) k.tup, k.fac, kp_sch B k.sch H' u, k.few, k.bas⟩, kp_sch B S H' u, fw, tw⟩
theorem kp_mat {n : Int} {H : Hp} {a : Addr} {M : MD} (B : Box n H a) (h : MAt a H M) : Kp a H (MAt a · M) := fun H' u => ⟨u _ _ (tupne B h.tup) h.tup, h.mo.but u, h.good⟩
theorem cut_last {α : Type} {f : α → V} (qs : List α) (h : 1 ≤ qs.length) : cutV (qs.map f) none (some (-1)) = (qs.take (qs.length - 1)).map f := by
  unfold cutV
  have e1 : HT.sIx (qs.map f).length 0 none = 0 := rfl
  have e2 : HT.sIx (qs.map f).length (qs.map f).length (some (-1)) = qs.length - 1 := by
    rw [List.length_map]
    unfold HT.sIx
    simp <;> omega
  rw [e1, e2, List.drop_zero, Nat.sub_zero, List.map_take]
theorem row10 (ds : List Int) (ks : List (Addr × (Int × Int))) : rowB ds ks [.int 10] = false := by
  show (isOne ds 10 && true) = false
  unfold isOne
  have : dig 10 = false := by decide
  rw [this]
  rfl
theorem rowT (ds : List Int) (ks : List (Addr × (Int × Int))) : rowB ds ks [.bl true] = false := rfl
/-- a line put in the place of the last one -/
theorem last_bad {ts : List TD} {rs : List (Addr × List V)} {u : Addr × List V} (l1 : 1 ≤ ts.length) (len : rs.length = ts.length) (bad : ∀ z : TD, rowB z.ds z.ks u.2 = false) : (rs.take (rs.length - 1) ++ [u]).length = ts.length ∧ ∃ (i : Nat) (z : TD) (r : Addr × List V), ts[i]? = some z ∧ (rs.take (rs.length - 1) ++ [u])[i]? = some r ∧ rowB z.ds z.ks r.2 = false := by
  have lt : (rs.take (rs.length - 1)).length = ts.length - 1 := by rw [List.length_take]; omega
  refine ⟨by rw [List.length_append, lt]; show ts.length - 1 + 1 = ts.length; omega, ts.length - 1, ts[ts.length - 1]'(by omega), u, List.getElem?_eq_getElem (by omega), ?_, bad _⟩
  rw [List.getElem?_append_right (by omega), lt, Nat.sub_self]
  rfl
theorem leaf_take {H : Hp} {rs : List (Addr × List V)} (h : LeafL H rs) (k : Nat) : LeafL H (rs.take k) := ⟨fun r hr => h.it r (List.mem_of_mem_take hr), Nat.le_trans (List.length_take_le' _ _) h.few⟩
theorem leaf_put {H : Hp} {rs : List (Addr × List V)} {u : Addr × List V} (h : LeafL H rs) (l : rs.length ≤ 2) (hu : H u.1 = some (.tup u.2) ∧ u.2.length ≤ 10 ∧ ∀ v ∈ u.2, LeafV v) : LeafL H (rs ++ [u]) := by
  refine ⟨fun r hr => ?_, by rw [List.length_append]; show rs.length + 1 ≤ 3; omega⟩
  rcases List.mem_append.mp hr with hr | hr
  · exact h.it r hr
  · rw [List.mem_singleton.mp hr]
    exact hu
/-- lists in the place of tuples -/
theorem wrong_lists {K : PySem.W.Frag} {H : Hp} {ts : List TD} {l : Addr} {rs : List (Addr × List V)} (e : H l = some (.lst (rs.map rV))) (h : ∀ r ∈ rs, H r.1 = some (.lst r.2) ∧ r.2.length ≤ 10 ∧ ∀ v ∈ r.2, LeafV v) (few : rs.length ≤ 3) (l1 : 1 ≤ ts.length) (len : rs.length = ts.length) : WrongV K H ts (.ref l) := by
  refine ⟨.inr ⟨l, _, rfl, .inl e, .inr ⟨List.replicate ts.length false, ⟨by rw [List.length_map, len], List.length_replicate .., fun i z v b hz hv hb => ?_⟩, ?_⟩⟩, .list (rs.map fun r => .list (r.2.map leafD)), fun H' s => ?_, ?_⟩
  · rw [List.getElem?_map] at hv
    obtain ⟨r, hr, rfl⟩ := Option.map_eq_some_iff.mp hv
    exact .inl ⟨.lst (h r (List.mem_of_getElem? hr)).1, (List.mem_replicate.mp (List.mem_of_getElem? hb)).2⟩
  · rw [List.all_eq_false]
    exact ⟨false, List.mem_replicate.mpr ⟨by omega, rfl⟩, by decide⟩
  · refine .lst (SqL.of (s _ _ e)) ?_
    have go : ∀ {m : List (Addr × List V)}, (∀ r ∈ m, H r.1 = some (.lst r.2) ∧ r.2.length ≤ 10 ∧ ∀ v ∈ r.2, LeafV v) → DpAll K H' (m.map rV) (m.map fun r => .list (r.2.map leafD)) := by
      intro m
      induction m with
      | nil => exact fun _ => .nil
      | cons r m ih => exact fun hm => .cons (.lst (SqL.of (s _ _ (hm r List.mem_cons_self).1)) (leaf_dp (hm r List.mem_cons_self).2.2)) (ih fun x hx => hm x (List.mem_cons_of_mem _ hx))
    exact go h
  · refine (sm_list (dp := 1) (wt := 50) (k := 3) (fun d hd => ?_) (by rw [List.length_map]; exact few)).mono (by decide) (by decide)
    obtain ⟨r, hr, rfl⟩ := List.mem_map.mp hd
    refine (sm_list (dp := 0) (wt := 4) (k := 10) (fun d hd => ?_) (by rw [List.length_map]; exact (h r hr).2.1)).mono (by decide) (by decide)
    obtain ⟨v, hv, rfl⟩ := List.mem_map.mp hd
    exact ((h r hr).2.2 v hv).sm
/-! ### values of rows -/
def spValues (CF C : Addr) : Sp := fun vs H Q _ => ∃ (a o S tt g_ t r : Addr) (n : Int) (ms : List MD) (ts : List TD) (b : Int) (ds : List Int) (ks : List (Addr × (Int × Int))), vs = [.ref a, .ref o, .ref S] ∧ Box n H a ∧ n ≤ 300000 ∧ 1 ≤ ms.length ∧ ms.length ≤ 2 ∧ Mtch ms ts ∧ S ≠ a ∧ H S = some (.lst (ms.map mV)) ∧ (∀ M ∈ ms, MAt a H M) ∧ FormAt CF C H o tt ts g_ t r b ds ks ∧ (∀ z ∈ ts, ∀ n ∈ z.ds, dig n = true) ∧
  ∀ H', But a H H' → Box (n + 1000) H' a → Q (.bl true) H'
abbrev nVr : List Str := ["_law_box_here", "_law_form", "_law_summands", "_law_lines", "_law_due_here", "_law_odd", "_law_near", "_law_wrong", "e", "_law_factor", "_law_model", "_law_k", "_law_row_here"]
theorem scVr : FnScope nVr ["_law_box_here", "_law_form", "_law_summands"] (defScope sValues) := ⟨rfl, rfl, rfl, by decide +kernel, rfl, by decide +kernel, by decide +kernel⟩
def t_val (CF C CR : Addr) (W : WX) : TS := tSeq (tDrop (tMethS CF "value_of" (spFVal CF C CR) (WE W) (tVar 1) (tCons (tVar 7) tNil))) (tRet (tC (.bl false)))
def t_valS (K : PySem.W.Frag) (CR : Addr) : Addr → Value → Option Addr → TS := fun a cls d => tIfS (tTest (tOp rNe (tCB (rReprD K) (tCons (tXf a cls d CR "rows" (tVar 8)) tNil)) (tCB (rReprD K) (tCons (tVar 7) tNil)))) (tRet (tC (.bl false))) tNext
def teVal : TE := tOp (rI CMul fun i j => .int (i * j)) (tOp (rIxT K) (tOp (rIxL K) (tVar 2) (tVar 11)) (tC (.int 0))) (tCall spValue [] E0 (tCons (tOp (rIxL K) (tOp (rIxT K) (tOp (rIxL K) (tVar 2) (tVar 11)) (tC (.int 1))) (tC (.int 0))) (tCons (tOp (rIxL K) (tVar 3) (tVar 11)) tNil)))
set_option maxHeartbeats 4000000 in
theorem ok_values {f fT fW fU fV fL fN fI CF C CR : Addr} {fd fdT fdW fdU fdV fdL fdN : FuncData} (F : Fun K "_law_values_right" "_law_values_right" sValues f fd) (FT : Fun K "_law_take" "_law_take" sTake fT fdT) (gT : mg "_law_take" = some (.ref fT)) (bT : Binds K fdT ["_law_box_here", "_law_many"] []) (c : Cls K CF)
    (GW : FnOk P w K mg base CX0 2 fW fdW ["_law_box_here", "_law_model", "_law_many"] spRow) (gW : mg "_law_row" = some (.ref fW)) (kW : PySem.W.keepIn K (.ref fW) = true) (bW : Binds K fdW ["_law_box_here", "_law_model", "_law_many"] [])
    (GU : FnOk P w K mg base CX0 1 fU fdU ["_law_base", "_law_row_here"] spValue) (gU : mg "_law_value" = some (.ref fU)) (kU : PySem.W.keepIn K (.ref fU) = true) (bU : Binds K fdU ["_law_base", "_law_row_here"] [])
    (FV : Fun K "value_of" "Form.value_of" sFoVal fV fdV) (mVa : Meth K CF "value_of" fV) (GV : FnOk P w K mg base (L2.CX P w) 8 fV fdV ["self", "rows"] (spFVal CF C CR)) (bV : Binds K fdV ["self", "rows"] [])
    (GL : FnOk P w K mg base CX0 9 fL fdL ["_law_form", "_law_lines"] (spLate CF C)) (gL : mg "_law_late_right" = some (.ref fL)) (kL : PySem.W.keepIn K (.ref fL) = true) (bL : Binds K fdL ["_law_form", "_law_lines"] [])
    (GN : FnOk P w K mg base CX0 2 fN fdN ["_law_box_here", "_law_lines", "_law_summands"] spNear) (gN : mg "_law_near_rows" = some (.ref fN)) (kN : PySem.W.keepIn K (.ref fN) = true) (bN : Binds K fdN ["_law_box_here", "_law_lines", "_law_summands"] [])
    (T : ErrC K mg "InvalidRows" "rows" CR fI) (mi : mg "int" = none) (ml : mg "len" = none) (mr : mg "range" = none) (msu : mg "sum" = none) (mt : mg "tuple" = none) (mli : mg "list" = none) (mrp : mg "repr" = none) : FnG P w K mg base 10 f fd ["_law_box_here", "_law_form", "_law_summands"] (spValues CF C) := by
  have GT : FnOk P w K mg base CX0 1 fT fdT ["_law_box_here", "_law_many"] spTake := ok_take FT mi
  refine okG F scVr (fun vs H Q E h => ?_) (fun cdv A outer s H vs Q E gu hr h => ?_)
  · obtain ⟨a, o, S, tt, g_, t, r, n, ms, ts, b, ds, ks, rfl, _⟩ := h
    rfl
  · obtain ⟨a, o, S, tt, g_, t, r, n, ms, ts, b, ds, ks, rfl, hB, hn, l1, l2, MM, nS, eS, hM, FA, hdg, q⟩ := h
    have hr1 : Room 1 _ := hr.mono (by decide)
    have hr2 : Room 2 _ := hr.mono (by decide)
    have hr8 : Room 8 _ := hr.mono (by decide)
    apply Exists.intro
    apply And.intro
    · apply pss_cons
      · exact ps_set (i := 3) scVr.nd rfl (.inr rfl) (pe_lc (own := [("_law_factor", 9), ("_law_model", 10)]) (g := gTup K 2 (gCons (gName 9) (gCons (gName 10) gNil))) (tt := tYes) (te := tCall spRow [] E0 (tCons (tVar 0) (tCons (tVar 10) (tCons (tCall spTake [] E0 (tCons (tVar 0) (tCons (tC (.int 7)) tNil))) tNil)))) rfl scVr.nd (pi_list (pv 2))
            (blkOk_by (own := [("_law_factor", 9), ("_law_model", 10)]) (N := nVr) (sc := defScope sValues) (by decide +kernel)) (fun _ _ _ _ _ => by exact (pg_tup rfl (pgs_cons (pg_name (i := 9) scVr.nd rfl (Or.inl rfl)) (pgs_cons (pg_name (i := 10) scVr.nd rfl (Or.inl rfl)) pgs_nil)))) (fun _ _ _ _ _ => pts_nil)
            (fun _ _ _ _ _ => by exact (pe_call GW hr2 (by rfl) gW kW bW .nil pass0 (pa_cons (pv 0) (pa_cons (pv 10) (pa_cons (pe_call GT hr1 (by rfl) gT FT.kp bT .nil pass0 (pa_cons (pv 0) (pa_cons pe_int pa_nil))) pa_nil))))))
      apply pss_cons
      · exact ps_set (i := 4) scVr.nd rfl (.inl rfl) (pe_callB (cr_sum rfl) (by rfl) msu (by decide +kernel) (pa_cons (pe_lc (own := [("_law_k", 11)]) (g := gName 11) (tt := tYes) (te := teVal (K := K)) rfl scVr.nd (pi_range1 rfl mr (pa_cons (pe_callB call_len_seq (by rfl) ml PySem.boot_len (pa_cons (pv 3) pa_nil)) pa_nil))
            (blkOk_by (own := [("_law_k", 11)]) (N := nVr) (sc := defScope sValues) (by decide +kernel)) (fun _ _ _ _ _ => pg_name (i := 11) scVr.nd rfl (Or.inl rfl)) (fun _ _ _ _ _ => pts_nil)
            (fun _ _ _ _ _ => by exact (pe_op op_mul (pe_ix ix_tup (pe_ix ix_list (pv 2) (pv 11) (fun _ _ => rfl)) pe_int (fun _ _ => rfl)) (pe_call GU hr1 (by rfl) gU kU bU .nil pass0 (pa_cons (pe_ix ix_list (pe_ix ix_tup (pe_ix ix_list (pv 2) (pv 11) (fun _ _ => rfl)) pe_int (fun _ _ => rfl)) pe_int (fun _ _ => rfl)) (pa_cons (pe_ix ix_list (pv 3) (pv 11) (fun _ _ => rfl)) pa_nil)))))) pa_nil))
      apply pss_cons
      · exact ps_if (PW.pt (pw_or (pt_cmpR op_ne (pe_meth (pv 1) c mVa GV hr8 bV .nil passNo (pa_cons (pv 3) pa_nil)) (pv 4) (nomark _)) (pw_or1 (pt_cmpR op_ne (pe_methN0 (pv 1) c mVa GV hr8 (kbVal FV) passNo (pk_cons (pe_callTy call_tuple_of (by rfl) mt (by decide +kernel) (pa_cons (pv 3) pa_nil)) pk_nil)) (pv 4) (nomark _))))) (pss_one (ps_ret pe_bl)) pss_nil
      apply pss_cons
      · exact ps_set (i := 5) scVr.nd rfl (.inl rfl) (pe_lst (pa_cons (pe_slice sl_list (pv 3) po_none (po_some (pe_un un_neg pe_int))) (pa_cons (pe_op op_cat (pv 3) (pe_lst (pa_cons (pe_tup pa_nil) pa_nil))) (pa_cons (pe_lc (own := [("_law_row_here", 12)]) (g := gName 12) (tt := tYes) (te := tCB (fun xs H Q => ∃ p ys, xs = [.ref p] ∧ (SqL K H p ys ∨ SqT K H p ys) ∧ ∀ l, H l = none → Q (.ref l) (upd H l (.lst ys))) (tCons (tVar 12) tNil)) rfl scVr.nd (pi_list (pv 3))
              (blkOk_by (own := [("_law_row_here", 12)]) (N := nVr) (sc := defScope sValues) (by decide +kernel)) (fun _ _ _ _ _ => pg_name (i := 12) scVr.nd rfl (Or.inl rfl)) (fun _ _ _ _ _ => pts_nil) (fun _ _ _ _ _ => by exact (pe_callTy call_list_of (by rfl) mli PyProof.Rows.boot_list (pa_cons (pv 12) pa_nil))))
            (pa_cons (pe_op op_cat (pe_slice sl_list (pv 3) po_none (po_some (pe_un un_neg pe_int))) (pe_lst (pa_cons (pe_tup (pa_cons pe_int pa_nil)) pa_nil))) (pa_cons pe_non (pa_cons pe_int (pa_cons pe_str pa_nil))))))))
      apply pss_cons
      · exact ps_if (pt_not (pt_val (pe_call GL hr (by rfl) gL kL bL .nil pass0 (pa_cons (pv 1) (pa_cons (pv 3) pa_nil))))) (pss_one (ps_ret pe_bl)) pss_nil
      apply pss_cons
      · exact ps_set (i := 6) scVr.nd rfl (.inl rfl) (pe_call GN hr2 (by rfl) gN kN bN .nil pass0 (pa_cons (pv 0) (pa_cons (pv 3) (pa_cons (pv 2) pa_nil))))
      apply pss_cons
      · exact ps_for PassesOwn.never rfl (pi_list (pe_op op_cat (pe_op op_cat (pv 5) (pv 6)) (pe_lst (pa_cons (pe_op op_cat (pe_slice sl_list (pv 3) po_none (po_some (pe_un un_neg pe_int))) (pe_lst (pa_cons (pe_tup (pa_cons pe_bl pa_nil)) pa_nil))) pa_nil)))) (pg_name (i := 7) scVr.nd rfl (.inl rfl))
          (tb := tSeq (fun D σ H => t_val CF C CR (wAs K (.ref CR) 8 (t_valS K CR) (fun _ _ _ _ => False) D) D σ H) tNext)
          (pss_cons (ps_try_as (i := 8) (tb := t_val CF C CR) (ts := t_valS K CR) (Wout := fun _ _ _ _ => False) rfl rfl scVr.nd rfl rfl ⟨rfl, by decide, Or.inl T.g⟩ takes0
            (fun W pn xe tk _ => pss_cons (ps_expr (by exact (pe_methSX (pv 1) c mVa GV hr8 bV (fun σ => passAt tk σ) (by exact (pa_cons (pv 7) pa_nil))))) (pss_one (ps_ret pe_bl)))
            (fun a oe cls d pn hz hf => pss_one (ps_if (by exact (pt_cmpR op_ne (pe_callB (call_reprD gu hr.units) (by rfl) mrp PyProof.Rows.boot_repr (pa_cons (pe_xf T.xf T.no hz hf (pv 8)) pa_nil)) (pe_callB (call_reprD gu hr.units) (by rfl) mrp PyProof.Rows.boot_repr (pa_cons (pv 7) pa_nil)) (nomark _))) (pss_one (ps_ret pe_bl)) pss_nil))) pss_nil)
      apply pss_one
      · exact ps_ret pe_bl
    have lt : ts.length = ms.length := MM.len.symm
    have kS := Kp.obj nS eS
    have kM : Kp a H (fun H' => ∀ M ∈ ms, MAt a H' M) := fun H' u M hMm => kp_mat hB (hM M hMm) H' u
    have kF := kp_form hB FA
    -- the rows
    refine ⟨.ref S, rfl, S, rfl, ⟨_, SqL.of eS⟩, fun L hL => ?_⟩
    have nL := hB.ne hL
    refine lc_list (K := K) (a := S) (xs := ms.map mV) (fun i H' => But a H H' ∧ Box (n + 301 * i) H' a ∧ ∃ qs : List (Addr × List Int), H' L = some (.lst (qs.map qV)) ∧ qs.length = i ∧ ∀ (j : Nat) M q, ms[j]? = some M → qs[j]? = some q → H' q.1 = some (.tup (q.2.map V.int)) ∧ rowI M.ns M.ps q.2 = true ∧ q.2.length ≤ 6) ⟨But.new hL, (hB.new hL).mono (by omega), [], upd_same, rfl, fun j M q _ h => by simp at h⟩ (fun i H' _ h => SqL.of (kS.but h.1).now) ?_ ?_
    · rintro i x H1 hx ⟨t1, B1, qs, eQ, lq, hq⟩
      rw [List.getElem?_map] at hx
      obtain ⟨M, hMi, rfl⟩ := Option.map_eq_some_iff.mp hx
      have mM := List.mem_of_getElem? hMi
      have hi : i < ms.length := (List.getElem?_eq_some_iff.mp hMi).1
      have AM := (kM.but t1).now M mM
      refine ⟨M.p, _, rfl, SqT.of AM.tup, rfl, .int M.f, _, rfl, .ref M.m, [], rfl, rfl, rfl, tYes_if ⟨.ref a, rfl, .ref M.m, rfl, .ref a, rfl, a, 7, n + 301 * i, rfl, B1, by omega, by decide, by decide, fun r1 H2 r0 r7 t2 B2 => ?_⟩⟩
      refine ⟨a, M.m, n + 301 * i + 1, r1, M.b, M.ns, M.ps, rfl, B2, by omega, AM.mo.but t2, AM.good.six, r0, by omega, fun p ls H3 t3 B3 ep ll hrow => ?_⟩
      have eQ3 := t3 _ _ nL (t2 _ _ nL eQ)
      have npL : p ≠ L := fun z => by
        rw [z, eQ3] at ep
        cases ep
      refine ⟨_, eQ3, by rw [List.length_map, lq]; exact small1000 (by omega), ((t1.trans t2).trans t3).store hL, (B3.upd nL).mono (by omega), qs ++ [(p, ls)], ?_, by rw [List.length_append, lq]; rfl, fun j M' q' h1 h2 => ?_⟩
      · rw [upd_same, List.map_append]
        rfl
      · rcases Nat.lt_trichotomy j qs.length with z | z | z
        · rw [List.getElem?_append_left z] at h2
          obtain ⟨k1, k2, k3⟩ := hq j M' q' h1 h2
          have k4 := t3 _ _ (tupne B2 (t2 _ _ (tupne B1 k1) k1)) (t2 _ _ (tupne B1 k1) k1)
          exact ⟨(upd_ne fun z => by rw [z, eQ3] at k4; cases k4).trans k4, k2, k3⟩
        · subst z
          rw [List.getElem?_append_right (Nat.le_refl _), Nat.sub_self] at h2
          cases Option.some.inj h2
          rw [lq, hMi] at h1
          cases h1
          exact ⟨(upd_ne npL).trans ep, hrow, by show ls.length ≤ 6; omega⟩
        · rw [List.getElem?_eq_none (by rw [List.length_append]; show qs.length + 1 ≤ j; omega)] at h2
          cases h2
    rintro H1 ⟨T1, B1, qs, eL1, lq, hq⟩
    rw [List.length_map] at lq B1
    have B1 : Box (n + 602) H1 a := B1.mono (by omega)
    have at_ : ∀ q ∈ qs, ∃ (i : Nat) (M : MD) (z : TD), ms[i]? = some M ∧ ts[i]? = some z ∧ qs[i]? = some q := fun q hqm => by
      obtain ⟨i, hi, e⟩ := List.getElem_of_mem hqm
      exact ⟨i, ms[i]'(by omega), ts[i]'(by omega), List.getElem?_eq_getElem _, List.getElem?_eq_getElem _, by rw [List.getElem?_eq_getElem hi, e]⟩
    have eq1 : ∀ q ∈ qs, H1 q.1 = some (.tup (q.2.map V.int)) := fun q hqm => by
      obtain ⟨i, M, z, h1, h2, h3⟩ := at_ q hqm
      exact (hq i M q h1 h3).1
    have small : ∀ q ∈ qs, q.2.length ≤ 7 ∧ ∀ d ∈ q.2, d.natAbs ≤ 9 := fun q hqm => by
      obtain ⟨i, M, z, h1, h2, h3⟩ := at_ q hqm
      obtain ⟨_, k2, k3⟩ := hq i M q h1 h3
      refine ⟨by omega, fun d hd => ?_⟩
      unfold rowI at k2
      rw [Bool.and_eq_true] at k2
      have := dig_in ((hM M (List.mem_of_getElem? h1)).good.dg d (of_decide_eq_true (List.all_eq_true.mp k2.1 d hd)))
      omega
    have small10 : ∀ q ∈ qs, q.2.length ≤ 10 ∧ ∀ d ∈ q.2, d.natAbs ≤ 9 := fun q hqm => ⟨by have := (small q hqm).1; omega, (small q hqm).2⟩
    have RO : RowsOk ts qs := ⟨by omega, fun i z q h1 h2 => by
      have hi : i < ms.length := by
        rw [← lt]
        exact (List.getElem?_eq_some_iff.mp h1).1
      have hMi := List.getElem?_eq_getElem hi
      obtain ⟨_, k2, k3⟩ := hq i _ q hMi h2
      obtain ⟨_, _, e3, e4⟩ := MM.it i _ z hMi h1
      refine ⟨?_, by omega⟩
      rw [row_same e4 (hdg z (List.mem_of_getElem? h1)), ← e3]
      exact k2⟩
    have kL : Kp a H1 (fun H' => LinesAt H' L qs) := fun H' u => ⟨u _ _ nL eL1, fun q hqm => u _ _ (tupne B1 (eq1 q hqm)) (eq1 q hqm)⟩
    have kS1 := kS.but T1
    have kM1 := kM.but T1
    have kF1 := kF.but T1
    clear kS kM kF
    -- their value
    refine ⟨.ref L, rfl, L, _, rfl, .inl (SqL.of eL1), _, rfl, by rw [List.length_map]; omega, by rw [List.length_map]; omega, fun D2 hD2 => ?_⟩
    refine lc_range (lo := 0) (n := ((qs.map qV).length : Int).toNat) (fun i H' => Same H1 H' ∧ ∃ ws : List Int, H' D2 = some (.lst (ws.map V.int)) ∧ ws.length = i ∧ ∀ (j : Nat) M q, j < i → ms[j]? = some M → qs[j]? = some q → ws[j]? = some (M.f * valI M.b q.2)) ⟨same_new hD2, [], upd_same, rfl, fun j M q h => by omega⟩ ?_ ?_
    · rintro i H2 hi0 ⟨s2, ws, eW, lw, hw⟩
      have hi : i < qs.length := by
        rw [List.length_map] at hi0
        omega
      have hMi : ms[i]? = some (ms[i]'(by omega)) := List.getElem?_eq_getElem _
      have hzi : ts[i]? = some (ts[i]'(by omega)) := List.getElem?_eq_getElem _
      have hQ : qs[i]? = some qs[i] := List.getElem?_eq_getElem hi
      obtain ⟨M, eM⟩ : ∃ M, (ms[i]'(by omega)) = M := ⟨_, rfl⟩
      obtain ⟨zz, ez⟩ : ∃ zz, (ts[i]'(by omega)) = zz := ⟨_, rfl⟩
      obtain ⟨qq, eQ⟩ : ∃ qq, qs[i] = qq := ⟨_, rfl⟩
      rw [eM] at hMi
      rw [ez] at hzi
      rw [eQ] at hQ
      have AM := (kM1.same s2).now M (List.mem_of_getElem? hMi)
      obtain ⟨dl, pl, ks0, ek, MO⟩ := id AM.mo
      have m0 := (MO H2 But.refl).mo
      have fs : -2 ≤ M.f ∧ M.f ≤ 2 := by
        rw [(MM.it i M zz hMi hzi).1]
        exact fac_small (FA.each zz (List.mem_of_getElem? hzi)).fac
      have gM : atI (ms.map mV) (0 + (i : Int)) = some (mV M) := by
        rw [Int.zero_add]
        exact atI_nat (by rw [List.getElem?_map, hMi]; rfl)
      have gQ : atI (qs.map qV) (0 + (i : Int)) = some (qV qq) := by
        rw [Int.zero_add]
        exact atI_nat (by rw [List.getElem?_map, hQ]; rfl)
      have sS := SqL.of (K := K) (kS1.same s2).now
      refine ⟨rfl, tYes_if ⟨.ref S, rfl, .int (0 + i), rfl, S, _, 0 + i, mV M, rfl, rfl, sS, gM, M.p, _, 0, .int M.f, rfl, rfl, SqT.of AM.tup, rfl, .ref S, rfl, .int (0 + i), rfl, S, _, 0 + i, mV M, rfl, rfl, sS, gM, M.p, _, 1, .ref M.m, rfl, rfl, SqT.of AM.tup, rfl, M.m, _, 0, .int M.b, rfl, rfl, SqL.of m0, atI_nat (j := 0) rfl,
        .ref L, rfl, .int (0 + i), rfl, L, _, 0 + i, qV qq, rfl, rfl, SqL.of (s2 _ _ eL1), gQ, ?_⟩⟩
      refine ⟨M.b, qq.1, qq.2, rfl, s2 _ _ (eq1 qq (List.mem_of_getElem? hQ)), base6 AM.good.b, _, _, rfl, rfl, .inl ⟨by omega, by omega⟩, _, eW, by rw [List.length_map, lw]; exact small1000 (by omega), Same.store s2 hD2, ws ++ [M.f * valI M.b qq.2], ?_, by rw [List.length_append, lw]; rfl, fun j M' q' hj h1 h2 => ?_⟩
      · rw [upd_same, List.map_append]
        rfl
      · rcases Nat.lt_or_ge j i with z | z
        · rw [List.getElem?_append_left (by omega)]
          exact hw j M' q' z h1 h2
        · have ej : j = i := by omega
          subst ej
          rw [hMi] at h1
          rw [hQ] at h2
          cases h1
          cases h2
          rw [List.getElem?_append_right (by omega), lw, Nat.sub_self]
          rfl
    rintro H2 ⟨s2, ws, eW, lw, hw⟩
    rw [List.length_map, Int.toNat_natCast] at lw
    rw [List.length_map, Int.toNat_natCast] at hw
    have sum : ws.sum = totalF ts qs := by
      unfold totalF
      congr 1
      refine List.ext_getElem? fun i => ?_
      rcases Nat.lt_or_ge i qs.length with c1 | c1
      · have hMi : ms[i]? = some (ms[i]'(by omega)) := List.getElem?_eq_getElem _
        have hzi : ts[i]? = some (ts[i]'(by omega)) := List.getElem?_eq_getElem _
        have hQ : qs[i]? = some qs[i] := List.getElem?_eq_getElem c1
        have g : (ts.zip (qs.map (·.2)))[i]? = some (ts[i]'(by omega), qs[i].2) := by
          rw [List.getElem?_zip_eq_some]
          exact ⟨hzi, by rw [List.getElem?_map, hQ]; rfl⟩
        obtain ⟨e1, e2, _⟩ := MM.it i _ _ hMi hzi
        rw [hw i _ _ c1 hMi hQ, List.getElem?_map, g, e1, e2]
        rfl
      · rw [List.getElem?_eq_none (by omega), List.getElem?_eq_none]
        rw [List.length_map, List.length_zip, List.length_map]
        omega
    refine ⟨D2, ws, rfl, SqL.of eW, ?_⟩
    rw [sum]
    have FA2 := (kF1.same s2).now
    obtain ⟨⟨dx, gr, io⟩, _⟩ := id FA2
    have eL2 := s2 _ _ eL1
    have eq2 : ∀ q ∈ qs, H2 q.1 = some (.tup (q.2.map V.int)) := fun q hqm => s2 _ _ (eq1 q hqm)
    refine ⟨.ref o, rfl, o, dx, _, rfl, io, rfl, .ref L, rfl, ?_⟩
    dsimp only [tNil]
    refine fval_good FA2 RO (.inl eL2) eq2 fun H3 s3 => ⟨_, rfl, rfl, _, rfl, iteFB (by rw [decide_eq_true rfl]; rfl) ?_⟩
    have eL3 := s3 _ _ eL2
    refine ⟨.ref o, rfl, o, dx, _, rfl, s3 _ _ io, rfl, .ref L, rfl, L, _, rfl, .inl ⟨SqL.of eL3, fun tp htp => ⟨rfl, ?_⟩⟩⟩
    have s4 := s3.trans (same_new (o := .tup (qs.map qV)) htp)
    have etp : (upd H3 tp (.tup (qs.map qV))) tp = some (.tup (qs.map qV)) := upd_same
    generalize upd H3 tp (.tup (qs.map qV)) = H4 at s4 etp ⊢
    refine fval_good (FA2.same s4) RO (.inr etp) (fun q hqm => s4 _ _ (eq2 q hqm)) fun H5 s5 => ⟨_, rfl, rfl, _, rfl, iteFB (by rw [decide_eq_true rfl]; rfl) ?_⟩
    have s15 : Same H1 H5 := s2.trans (s4.trans s5)
    clear s2 s3 s4 s5 etp eW eL2 eL3 io FA2 eq2
    have q1 : 1 ≤ qs.length := by omega
    have q2 : qs.length ≤ 2 := by omega
    have len2 : (qs.map qV).length ≤ 2 := by rw [List.length_map]; exact q2
    -- the odd ones
    have eL5 := s15 _ _ eL1
    refine ⟨.ref L, rfl, 1, rfl, -1, rfl, L, _, rfl, SqL.of eL5, fun g1 hg1 => ?_⟩
    rw [cut_last qs q1]
    have n1 := (B1.same s15).ne hg1
    have u1 := same_new (o := .lst ((qs.take (qs.length - 1)).map qV)) hg1
    have e1 : (upd H5 g1 (.lst ((qs.take (qs.length - 1)).map qV))) g1 = some (.lst ((qs.take (qs.length - 1)).map qV)) := upd_same
    have s16 := s15.trans u1
    generalize upd H5 g1 (.lst ((qs.take (qs.length - 1)).map qV)) = H6 at e1 s16 ⊢
    refine ⟨.ref L, rfl, (by show 0 ≤ sizeLine; decide), fun u0 hu0 => ?_⟩
    have u2 := same_new (o := .tup []) hu0
    have f0 : (upd H6 u0 (.tup [])) u0 = some (.tup []) := upd_same
    have s17 := s16.trans u2
    have e1 := u2 _ _ e1
    generalize upd H6 u0 (.tup []) = H7 at f0 s17 e1 ⊢
    refine ⟨(by show 1 ≤ sizeLine; decide), fun g2 hg2 => ?_⟩
    have u3 := same_new (o := .lst [.ref u0]) hg2
    have e2 : (upd H7 g2 (.lst [.ref u0])) g2 = some (.lst [.ref u0]) := upd_same
    have s18 := s17.trans u3
    have e1 := u3 _ _ e1
    have f0 := u3 _ _ f0
    generalize upd H7 g2 (.lst [.ref u0]) = H8 at e2 s18 e1 f0 ⊢
    refine ⟨L, g2, _, _, rfl, rfl, s18 _ _ eL1, e2, Nat.le_trans (show _ + 1 ≤ 1000 by omega) (by decide), fun g3 hg3 => ?_⟩
    have n3 := (B1.same s18).ne hg3
    have u4 := same_new (o := .lst (qs.map qV ++ [.ref u0])) hg3
    have e3 : (upd H8 g3 (.lst (qs.map qV ++ [.ref u0]))) g3 = some (.lst (qs.map qV ++ [.ref u0])) := upd_same
    have s19 := s18.trans u4
    have e1 := u4 _ _ e1
    have f0 := u4 _ _ f0
    clear e2
    generalize upd H8 g3 (.lst (qs.map qV ++ [.ref u0])) = H9 at e3 s19 e1 f0 ⊢
    refine ⟨.ref L, rfl, L, rfl, ⟨_, SqL.of (s19 _ _ eL1)⟩, fun D3 hD3 => ?_⟩
    have nD3 := (B1.same s19).ne hD3
    refine lc_list (K := K) (a := L) (xs := qs.map qV) (fun i H' => Same H9 H' ∧ ∃ ls : List (Addr × List V), H' D3 = some (.lst (ls.map rV)) ∧ ls.length = i ∧ ∀ r ∈ ls, r.1 ≠ a ∧ H' r.1 = some (.lst r.2) ∧ ∃ q ∈ qs, r.2 = q.2.map V.int) ⟨same_new hD3, [], upd_same, rfl, fun r h => by cases h⟩ (fun i H' _ h => SqL.of (h.1 _ _ (s19 _ _ eL1))) ?_ ?_
    · rintro i x H10 hx ⟨s, ls, eD, ll, hl⟩
      have hi : i < qs.length := by
        have := (List.getElem?_eq_some_iff.mp hx).1
        rw [List.length_map] at this
        exact this
      rw [List.getElem?_map] at hx
      obtain ⟨qq, hQ, rfl⟩ := Option.map_eq_some_iff.mp hx
      have mq := List.mem_of_getElem? hQ
      refine ⟨rfl, tYes_if ⟨.ref qq.1, rfl, qq.1, _, rfl, .inr (SqT.of (s _ _ (s19 _ _ (eq1 qq mq)))), fun l hl0 => ?_⟩⟩
      have ul := same_new (o := .lst (qq.2.map V.int)) hl0
      have eDl := ul _ _ eD
      have nlD : l ≠ D3 := (ne_of_none eD hl0).symm
      have nla : l ≠ a := ((B1.same s19).same s).ne hl0
      refine ⟨_, eDl, by rw [List.length_map, ll]; exact small1000 (by omega), Same.store (s.trans ul) hD3, ls ++ [(l, qq.2.map V.int)], ?_, by rw [List.length_append, ll]; rfl, fun r hr => ?_⟩
      · rw [upd_same, List.map_append]
        rfl
      · rcases List.mem_append.mp hr with hr | hr
        · obtain ⟨k0, k1, k2⟩ := hl r hr
          have k3 := ul _ _ k1
          refine ⟨k0, (upd_ne fun z => ?_).trans k3, k2⟩
          have hz : H9 r.1 = none := by rw [z]; exact hD3
          rw [z, eDl] at k3
          obtain ⟨qz, _, ez⟩ := k2
          rw [ez] at k3
          have := HO.lst.inj (Option.some.inj k3)
          have l0 : ls ≠ [] := fun z => by rw [z] at hr; cases hr
          cases ls with
          | nil => exact l0 rfl
          | cons r0 rs =>
            cases hz2 : qz.2 with
            | nil => rw [hz2] at this; cases this
            | cons d0 dr => rw [hz2] at this; cases this
        · rw [List.mem_singleton.mp hr]
          exact ⟨nla, (upd_ne nlD).trans upd_same, qq, mq, rfl⟩
    rintro H10 ⟨v10, ls, eD3, ll, hl⟩
    rw [List.length_map] at ll
    have s110 := s19.trans v10
    have e1 := v10 _ _ e1
    have e3 := v10 _ _ e3
    have f0 := v10 _ _ f0
    refine ⟨.ref L, rfl, 1, rfl, -1, rfl, L, _, rfl, SqL.of (s110 _ _ eL1), fun g5 hg5 => ?_⟩
    rw [cut_last qs q1]
    have u6 := same_new (o := .lst ((qs.take (qs.length - 1)).map qV)) hg5
    have e5 : (upd H10 g5 (.lst ((qs.take (qs.length - 1)).map qV))) g5 = some (.lst ((qs.take (qs.length - 1)).map qV)) := upd_same
    have w1 := v10.trans u6
    have s111 := s110.trans u6
    generalize upd H10 g5 (.lst ((qs.take (qs.length - 1)).map qV)) = H11 at e5 u6 w1 s111 ⊢
    refine ⟨(by show 1 ≤ sizeLine; decide), fun u1_ hu1 => ?_⟩
    have u7 := u6.trans (same_new (o := .tup [.int 10]) hu1)
    have f1 : (upd H11 u1_ (.tup [.int 10])) u1_ = some (.tup [.int 10]) := upd_same
    have e5 := same_new (o := .tup [.int 10]) hu1 _ _ e5
    have s112 := s111.trans (same_new (o := .tup [.int 10]) hu1)
    generalize upd H11 u1_ (.tup [.int 10]) = H12 at f1 u7 e5 s112 ⊢
    refine ⟨(by show 1 ≤ sizeLine; decide), fun g6 hg6 => ?_⟩
    have u8 := u7.trans (same_new (o := .lst [.ref u1_]) hg6)
    have e6 : (upd H12 g6 (.lst [.ref u1_])) g6 = some (.lst [.ref u1_]) := upd_same
    have e5 := same_new (o := .lst [.ref u1_]) hg6 _ _ e5
    have f1 := same_new (o := .lst [.ref u1_]) hg6 _ _ f1
    have s113 := s112.trans (same_new (o := .lst [.ref u1_]) hg6)
    generalize upd H12 g6 (.lst [.ref u1_]) = H13 at e6 u8 e5 f1 s113 ⊢
    refine ⟨g5, g6, _, _, rfl, rfl, e5, e6, ?_, fun g7 hg7 => ?_⟩
    · rw [List.length_map, List.length_take]
      exact Nat.le_trans (show _ + 1 ≤ 1000 by omega) (by decide)
    have n7 := (B1.same s113).ne hg7
    have u9 := u8.trans (same_new (o := .lst ((qs.take (qs.length - 1)).map qV ++ [.ref u1_])) hg7)
    have e7 : (upd H13 g7 (.lst ((qs.take (qs.length - 1)).map qV ++ [.ref u1_]))) g7 = some (.lst ((qs.take (qs.length - 1)).map qV ++ [.ref u1_])) := upd_same
    have f1 := same_new (o := .lst ((qs.take (qs.length - 1)).map qV ++ [.ref u1_])) hg7 _ _ f1
    have s114 := s113.trans (same_new (o := .lst ((qs.take (qs.length - 1)).map qV ++ [.ref u1_])) hg7)
    generalize upd H13 g7 (.lst ((qs.take (qs.length - 1)).map qV ++ [.ref u1_])) = H14 at e7 u9 f1 s114 ⊢
    refine ⟨(by show 7 ≤ sizeLine; decide), fun O hO => ?_⟩
    have nO := (B1.same s114).ne hO
    have uO := same_new (o := .lst [.ref g1, .ref g3, .ref D3, .ref g7, .non, .int 3, .str "ab"]) hO
    have eO : (upd H14 O (.lst [.ref g1, .ref g3, .ref D3, .ref g7, .non, .int 3, .str "ab"])) O = some (.lst [.ref g1, .ref g3, .ref D3, .ref g7, .non, .int 3, .str "ab"]) := upd_same
    have up := u9.trans uO
    have e1 := up _ _ e1
    have e3 := up _ _ e3
    have f0 := up _ _ f0
    have eD3 := up _ _ eD3
    have e7 := uO _ _ e7
    have f1 := uO _ _ f1
    have hl : ∀ r ∈ ls, r.1 ≠ a ∧ (upd H14 O (.lst [.ref g1, .ref g3, .ref D3, .ref g7, .non, .int 3, .str "ab"])) r.1 = some (.lst r.2) ∧ ∃ q ∈ qs, r.2 = q.2.map V.int := fun r hr => ⟨(hl r hr).1, up _ _ (hl r hr).2.1, (hl r hr).2.2⟩
    have s115 := s114.trans uO
    generalize upd H14 O (.lst [.ref g1, .ref g3, .ref D3, .ref g7, .non, .int 3, .str "ab"]) = H15 at eO e1 e3 f0 eD3 e7 f1 hl s115 ⊢
    clear up uO u9 u8 u7 u6 w1 v10 e5 e6
    -- lists that change behind
    refine ⟨.ref o, rfl, .ref L, rfl, o, tt, L, g_, t, r, ts, b, ds, ks, qs, rfl, (kF1.same s115).now, by omega, RO, (kL.same s115).now, fun H16 s16' => ⟨true, rfl, iteF ?_⟩⟩
    have s116 := s115.trans s16'
    refine ⟨.ref a, rfl, .ref L, rfl, .ref S, rfl, a, L, S, n + 602, ms, qs, rfl, B1.same s116, by omega, l1, l2, lq, small, (fun H' u => ⟨(kL.same s116) H' u, (kS1.same s116) H' u, (kM1.same s116) H' u⟩), fun N xs H17 t17 B17 eN few kn => ?_⟩
    have B16 := B1.same s116
    have mv : ∀ {p : Addr} {o : HO}, p ≠ a → H15 p = some o → H17 p = some o := fun np e => t17 _ _ np (s16' _ _ e)
    have mt_ : ∀ {p : Addr} {ys : List V}, H15 p = some (.tup ys) → H17 p = some (.tup ys) := fun e => mv (tupne (B1.same s115) e) e
    have T17 : But a H1 H17 := (But.of_same s116).trans t17
    have LQ := (kL.but T17).now
    have LF : LeafL H17 (qs.map leafQ) := leafQ_ok LQ.2 small10 (by omega)
    have lfl : (qs.map leafQ).length = ts.length := by rw [List.length_map]; omega
    have tk : ((qs.take (qs.length - 1)).map qV) = ((qs.map leafQ).take ((qs.map leafQ).length - 1)).map rV := by
      rw [List.length_map, ← List.map_take, leafQ_map]
    have BAD : ∀ x ∈ [V.ref g1, .ref g3, .ref D3, .ref g7, .non, .int 3, .str "ab"], WrongV K H17 ts x := fun x hx => by
      simp only [List.mem_cons, List.not_mem_nil, or_false] at hx
      rcases hx with rfl | rfl | rfl | rfl | rfl | rfl | rfl
      · exact wrong_len (by rw [mv n1 e1, tk]) (leaf_take LF _) (by rw [List.length_take]; omega)
      · refine wrong_len (rs := qs.map leafQ ++ [(u0, [])]) (by rw [mv n3 e3, List.map_append, leafQ_map]; rfl) (leaf_put LF (by omega) ⟨mt_ f0, by show 0 ≤ 10; decide, fun v hv => by cases hv⟩) (by rw [List.length_append]; show _ + 1 ≠ _; omega)
      · exact wrong_lists (mv nD3 eD3) (fun r hr => by
          obtain ⟨k0, k1, qz, mz, ez⟩ := hl r hr
          refine ⟨mv k0 k1, by rw [ez, List.length_map]; exact (small10 qz mz).1, fun v hv => ?_⟩
          rw [ez] at hv
          obtain ⟨d, hd, rfl⟩ := List.mem_map.mp hv
          exact .inl ⟨d, rfl, by have := (small10 qz mz).2 d hd; omega⟩) (by omega) (by omega) (by omega)
      · obtain ⟨b1, b2⟩ := last_bad (ts := ts) (rs := qs.map leafQ) (u := (u1_, [.int 10])) (by omega) lfl fun z => row10 z.ds z.ks
        exact wrong_rows (by rw [mv n7 e7, tk, List.map_append]; rfl) (leaf_put (leaf_take LF _) (by rw [List.length_take]; omega) ⟨mt_ f1, by show 1 ≤ 10; decide, fun v hv => by rw [List.mem_singleton.mp hv]; exact .inl ⟨10, rfl, by decide⟩⟩) b1 b2
      · exact ⟨.inl .non, .none, fun _ _ => .non, ⟨rfl, rfl, by decide +kernel, by decide +kernel, by decide +kernel⟩⟩
      · exact ⟨.inl (.int 3), .int 3, fun _ _ => .int 3, (sm_int (by decide)).mono (by decide) (by decide)⟩
      · exact ⟨.inl (.str _), .str "ab", fun _ _ => .str _, ⟨rfl, rfl, by decide +kernel, by decide +kernel, by decide +kernel⟩⟩
    have NEAR : ∀ x ∈ xs, WrongV K H17 ts x := fun x hx => near_wrong (kn.now x hx) MM (by omega) hdg
    -- all of them
    refine ⟨.ref O, rfl, .ref N, rfl, O, N, _, _, rfl, rfl, mv nO eO, eN, Nat.le_trans (show 7 + _ ≤ 1000 by omega) (by decide), fun k1 hk1 => ?_⟩
    have a1 := same_new (o := .lst ([.ref g1, .ref g3, .ref D3, .ref g7, .non, .int 3, .str "ab"] ++ xs)) hk1
    have x1 : (upd H17 k1 (.lst ([.ref g1, .ref g3, .ref D3, .ref g7, .non, .int 3, .str "ab"] ++ xs))) k1 = some (.lst ([.ref g1, .ref g3, .ref D3, .ref g7, .non, .int 3, .str "ab"] ++ xs)) := upd_same
    generalize upd H17 k1 (.lst ([.ref g1, .ref g3, .ref D3, .ref g7, .non, .int 3, .str "ab"] ++ xs)) = J1 at a1 x1 ⊢
    refine ⟨.ref L, rfl, 1, rfl, -1, rfl, L, _, rfl, SqL.of (a1 _ _ LQ.1), fun k2 hk2 => ?_⟩
    rw [cut_last qs q1]
    have a2 := a1.trans (same_new (o := .lst ((qs.take (qs.length - 1)).map qV)) hk2)
    have x2 : (upd J1 k2 (.lst ((qs.take (qs.length - 1)).map qV))) k2 = some (.lst ((qs.take (qs.length - 1)).map qV)) := upd_same
    have x1 := same_new (o := .lst ((qs.take (qs.length - 1)).map qV)) hk2 _ _ x1
    generalize upd J1 k2 (.lst ((qs.take (qs.length - 1)).map qV)) = J2 at a2 x2 x1 ⊢
    refine ⟨(by show 1 ≤ sizeLine; decide), fun k3 hk3 => ?_⟩
    have b3 := same_new (o := .tup [.bl true]) hk3
    have a3 := a2.trans b3
    have x3 : (upd J2 k3 (.tup [.bl true])) k3 = some (.tup [.bl true]) := upd_same
    have x1 := b3 _ _ x1
    have x2 := b3 _ _ x2
    generalize upd J2 k3 (.tup [.bl true]) = J3 at a3 x3 x1 x2 ⊢
    refine ⟨(by show 1 ≤ sizeLine; decide), fun k4 hk4 => ?_⟩
    have b4 := same_new (o := .lst [.ref k3]) hk4
    have a4 := a3.trans b4
    have x4 : (upd J3 k4 (.lst [.ref k3])) k4 = some (.lst [.ref k3]) := upd_same
    have x1 := b4 _ _ x1
    have x2 := b4 _ _ x2
    have x3 := b4 _ _ x3
    generalize upd J3 k4 (.lst [.ref k3]) = J4 at a4 x4 x1 x2 x3 ⊢
    refine ⟨k2, k4, _, _, rfl, rfl, x2, x4, ?_, fun k5 hk5 => ?_⟩
    · rw [List.length_map, List.length_take]
      exact Nat.le_trans (show _ + 1 ≤ 1000 by omega) (by decide)
    have b5 := same_new (o := .lst ((qs.take (qs.length - 1)).map qV ++ [.ref k3])) hk5
    have a5 := a4.trans b5
    have x5 : (upd J4 k5 (.lst ((qs.take (qs.length - 1)).map qV ++ [.ref k3]))) k5 = some (.lst ((qs.take (qs.length - 1)).map qV ++ [.ref k3])) := upd_same
    have x1 := b5 _ _ x1
    have x3 := b5 _ _ x3
    generalize upd J4 k5 (.lst ((qs.take (qs.length - 1)).map qV ++ [.ref k3])) = J5 at a5 x5 x1 x3 ⊢
    refine ⟨(by show 1 ≤ sizeLine; decide), fun k6 hk6 => ?_⟩
    have b6 := same_new (o := .lst [.ref k5]) hk6
    have a6 := a5.trans b6
    have x6 : (upd J5 k6 (.lst [.ref k5])) k6 = some (.lst [.ref k5]) := upd_same
    have x1 := b6 _ _ x1
    have x3 := b6 _ _ x3
    have x5 := b6 _ _ x5
    generalize upd J5 k6 (.lst [.ref k5]) = J6 at a6 x6 x1 x3 x5 ⊢
    refine ⟨k1, k6, _, _, rfl, rfl, x1, x6, ?_, fun W hW => ?_⟩
    · rw [List.length_append]
      exact Nat.le_trans (show 7 + _ + 1 ≤ 1000 by omega) (by decide)
    have b7 := same_new (o := .lst ([.ref g1, .ref g3, .ref D3, .ref g7, .non, .int 3, .str "ab"] ++ xs ++ [.ref k5])) hW
    have a7 := a6.trans b7
    have xW : (upd J6 W (.lst ([.ref g1, .ref g3, .ref D3, .ref g7, .non, .int 3, .str "ab"] ++ xs ++ [.ref k5]))) W = some (.lst ([.ref g1, .ref g3, .ref D3, .ref g7, .non, .int 3, .str "ab"] ++ xs ++ [.ref k5])) := upd_same
    have x3 := b7 _ _ x3
    have x5 := b7 _ _ x5
    generalize upd J6 W (.lst ([.ref g1, .ref g3, .ref D3, .ref g7, .non, .int 3, .str "ab"] ++ xs ++ [.ref k5])) = J7 at a7 xW x3 x5 ⊢
    have ALL : ∀ x ∈ [V.ref g1, .ref g3, .ref D3, .ref g7, .non, .int 3, .str "ab"] ++ xs ++ [.ref k5], WrongV K J7 ts x := fun x hx => by
      rcases List.mem_append.mp hx with hx | hx
      · rcases List.mem_append.mp hx with hx | hx
        · exact (BAD x hx).same a7
        · exact (NEAR x hx).same a7
      · rw [List.mem_singleton.mp hx]
        obtain ⟨b1, b2⟩ := last_bad (ts := ts) (rs := qs.map leafQ) (u := (k3, [.bl true])) (by omega) lfl fun z => rowT z.ds z.ks
        exact wrong_rows (by rw [x5, tk, List.map_append]; rfl) (leaf_put ((leaf_take LF _).same a7) (by rw [List.length_take]; omega) ⟨x3, by show 1 ≤ 10; decide, fun v hv => by rw [List.mem_singleton.mp hv]; exact .inr ⟨true, rfl⟩⟩) b1 b2
    have FA7 := ((kF1.but T17).same a7).now
    generalize [V.ref g1, .ref g3, .ref D3, .ref g7, .non, .int 3, .str "ab"] ++ xs ++ [V.ref k5] = wr at xW ALL ⊢
    refine ⟨W, rfl, ⟨_, SqL.of xW⟩, for_list (K := K) (a := W) (xs := wr) (fun i σ H' => (∃ v, σ = [some (.ref a), some (.ref o), some (.ref S), some (.ref L), some (.int (totalF ts qs)), some (.ref O), some (.ref N), v, none, none, none, none, none]) ∧ Same J7 H') ⟨⟨none, rfl⟩, Same.refl _⟩ (fun i σ H' _ h => SqL.of (h.2 _ _ xW)) ?_ ?_⟩
    · rintro i x σ H' hx ⟨⟨v, rfl⟩, s⟩
      have WX := (ALL x (List.mem_of_getElem? hx)).same s
      obtain ⟨⟨dy, gy, iy⟩, _⟩ := id (FA7.same s)
      refine ⟨.ref o, rfl, o, dy, _, rfl, iy, rfl, x, rfl, ?_⟩
      dsimp only [tNil]
      refine fval_bad (FA7.same s) WX.ref fun fs d H'' hd s2 ed => ⟨true, T.te, fun _ e0 he0 => ?_, fun q => nomatch q⟩
      obtain ⟨dd, dp, sm⟩ := WX.sh
      refine ⟨.ref e0, rfl, rfl, rfl, d, _, x, rfl, ed, by simp [List.lookup], x, dd, rfl, dp _ s2, sm.sh, sm.nd, sm.shown, Nat.le_trans sm.dp (by decide), x, rfl, x, dd, rfl, dp _ s2, sm.sh, sm.nd, sm.shown, Nat.le_trans sm.dp (by decide), rfl, _, rfl, iteFB (by rw [decide_eq_true rfl]; rfl) ⟨⟨_, rfl⟩, s.trans s2⟩⟩
    · rintro σ H' ⟨⟨v, rfl⟩, s⟩
      have sE := a7.trans s
      exact q H' ((T1.trans T17).trans (But.of_same sE)) ((B17.same sE).mono (by omega))
end
end K31
namespace K31
open PySem PySem.Spec PyProof.Rows L2 OF
section
variable {P : Program} {w : World} {K : PySem.W.Frag} {mg : Str → Option Value} {base : Heap}
/-! ### what is due of what was spoilt -/
theorem items_split {C : Addr} {H : Hp} : ∀ {xs : List V}, (∀ x ∈ xs, ItemS C H x) → (∃ ts : List TD, xs = ts.map tV ∧ ∀ z ∈ ts, TermG C H z) ∨ ∃ (good : List V) (u : V) (more : List V), xs = good ++ u :: more ∧ (∀ z ∈ good, TermOk C H z) ∧ TermBad C H u
  | [], _ => .inl ⟨[], rfl, fun z h => by cases h⟩
  | x :: l, h => by
    rcases h x List.mem_cons_self with ⟨z, rfl, hz⟩ | bad
    · rcases items_split (xs := l) fun y hy => h y (List.mem_cons_of_mem _ hy) with ⟨ts, rfl, ht⟩ | ⟨good, u, more, rfl, g, b⟩
      · refine .inl ⟨z :: ts, rfl, fun y hy => ?_⟩
        rcases List.mem_cons.mp hy with rfl | hy
        · exact hz
        · exact ht y hy
      · refine .inr ⟨tV z :: good, u, more, rfl, fun y hy => ?_, b⟩
        rcases List.mem_cons.mp hy with rfl | hy
        · exact hz.1.ok
        · exact g y hy
    · exact .inr ⟨[], x, l, rfl, (fun z h => by cases h), bad⟩
theorem bases_split (k : Nat) : ∀ ts : List TD, (∀ z ∈ ts, z.b.natAbs = k) ∨ ∃ (l : List TD) (u : TD) (m : List TD), ts = l ++ u :: m ∧ (∀ z ∈ l, z.b.natAbs = k) ∧ u.b.natAbs ≠ k
  | [] => .inl fun z h => by cases h
  | x :: l => by
    by_cases hx : x.b.natAbs = k
    · rcases bases_split k l with h | ⟨l1, u, m, rfl, g, b⟩
      · refine .inl fun y hy => ?_
        rcases List.mem_cons.mp hy with rfl | hy
        · exact hx
        · exact h y hy
      · refine .inr ⟨x :: l1, u, m, rfl, fun y hy => ?_, b⟩
        rcases List.mem_cons.mp hy with rfl | hy
        · exact hx
        · exact g y hy
    · exact .inr ⟨[], x, l, rfl, (fun z h => by cases h), hx⟩
theorem due_of {k : Nat} {C : Addr} {H : Hp} {x y : V} (hx : XOk k C H x) (hy : GoalOk C H y) : ∃ v, DueF C H x y v := by
  rcases hx with n | ⟨p, n, s, rfl, e⟩ | ⟨l, xs, rfl, e, few, hxs⟩
  · exact ⟨_, .terms0 n⟩
  · exact ⟨_, .term (good := []) (u := .int n) (more := [s]) (.inr e) (by show 2 ≤ 2; decide) (fun z h => by cases h) (.int n)⟩
  · by_cases hl : 1 ≤ xs.length ∧ xs.length ≤ 2
    · rcases items_split hxs with ⟨ts, rfl, ht⟩ | ⟨good, u, more, rfl, g, b⟩
      · rw [List.length_map] at hl
        rcases hy with o | ⟨a, t, r, b, ds, ks, rfl, S, fw⟩
        · exact ⟨_, .scheme (.inl e) hl.1 hl.2 (fun z hz => (ht z hz).1) o⟩
        · rcases bases_split b.natAbs ts with al | ⟨l1, u, m, rfl, al, ne⟩
          · exact ⟨_, .made (.inl e) hl.1 hl.2 (fun z hz => (ht z hz).1) S fw al⟩
          · exact ⟨_, .base (.inl e) hl.2 (fun z hz => (ht z hz).1) S fw al ne⟩
      · exact ⟨_, .term (.inl e) hl.2 g b⟩
    · exact ⟨_, .terms1 (.inl e) hl⟩
theorem TellAt.same {H H' : Hp} {v : VerF} {x y : V} {l : Addr} (h : TellAt H v x y l) (s : Same H H') : TellAt H' v x y l := by
  cases v with
  | terms => exact s _ _ h
  | term u => exact s _ _ h
  | scheme => exact s _ _ h
  | base b => exact s _ _ h
  | made =>
    obtain ⟨p, L, ts, e, lt, e1, e2⟩ := h
    exact ⟨p, L, ts, e, lt.same s, s _ _ e1, s _ _ e2⟩
/-! ### two lists that were told: equal, and the same truths -/
def DTold : EqvB := fun x y b H => DFlatB x y b H ∨ (DSame x y b H ∨ DListB DSame x y b H)
def BoolI (K : PySem.W.Frag) (H : Hp) (v : V) (b : Bool) : Prop := ∀ H', Same H H' → ∃ t, TyX K H' v t ∧ PySem.W.kitOne K t (.type "bool") = some b
/-- own instances are no truths -/
def NoBoolC (K : PySem.W.Frag) (C : Addr) : Prop := PySem.W.kitOne K (.ref C) (.type "bool") = some false
theorem bi_int (n : Int) (H : Hp) : BoolI K H (.int n) false := fun H' s => ⟨_, .base (.int n), kit_ty (by decide +kernel)⟩
theorem bi_str (z : Str) (H : Hp) : BoolI K H (.str z) false := fun H' s => ⟨_, .base (.str z), kit_ty (by decide +kernel)⟩
theorem bi_bl (z : Bool) (H : Hp) : BoolI K H (.bl z) true := fun H' s => ⟨_, .base (.bl z), kit_ty (by decide +kernel)⟩
theorem bi_non (H : Hp) : BoolI K H .non false := fun H' s => ⟨_, .base .non, kit_ty (by decide +kernel)⟩
theorem bi_lst {H : Hp} {a : Addr} {xs : List V} (e : H a = some (.lst xs)) : BoolI K H (.ref a) false := fun H' s => ⟨_, .base (.lst (s _ _ e)), kit_ty (by decide +kernel)⟩
theorem bi_tup {H : Hp} {a : Addr} {xs : List V} (e : H a = some (.tup xs)) : BoolI K H (.ref a) false := fun H' s => ⟨_, .base (.tup (s _ _ e)), kit_ty (by decide +kernel)⟩
theorem bi_dK {H : Hp} {a : Addr} {kvs : List (Key × V)} (e : H a = some (.dK kvs)) : BoolI K H (.ref a) false := fun H' s => ⟨_, .base (.dK (s _ _ e)), kit_ty (by decide +kernel)⟩
theorem bi_lt {H : Hp} {a : Addr} {xs : List V} (e : LT H a xs) : BoolI K H (.ref a) false := e.elim bi_lst bi_tup
theorem bi_ins {C : Addr} {H : Hp} {x : V} (I : IsC K C) (N : NoBoolC K C) (h : InsOf C H x) : BoolI K H x false := fun H' s => by
  obtain ⟨a, dx, fs, rfl, ha⟩ := h.same s
  exact ⟨_, .base (.ins ha I.cl I.ha I.hn I.ht I.hm), N⟩
theorem bi_odd {H : Hp} {x : V} (o : Odd H x) : ∃ b, BoolI K H x b := by
  cases o with
  | non => exact ⟨_, bi_non H⟩
  | bl b => exact ⟨_, bi_bl b H⟩
  | str z => exact ⟨_, bi_str z H⟩
  | lst e => exact ⟨_, bi_lst e⟩
  | tup e => exact ⟨_, bi_tup e⟩
  | dK e => exact ⟨_, bi_dK e⟩
theorem bi_noseq {H : Hp} {x : V} (o : NoSeq H x) : ∃ b, BoolI K H x b := by
  cases o with
  | int n => exact ⟨_, bi_int n H⟩
  | non => exact ⟨_, bi_non H⟩
  | bl b => exact ⟨_, bi_bl b H⟩
  | str z => exact ⟨_, bi_str z H⟩
  | dK e => exact ⟨_, bi_dK e⟩
theorem bi_bad {C : Addr} {H : Hp} {x : V} (I : IsC K C) (N : NoBoolC K C) (o : TermBad C H x) : ∃ b, BoolI K H x b := by
  cases o with
  | int n => exact ⟨_, bi_int n H⟩
  | ins i => exact ⟨_, bi_ins I N i⟩
  | lst e => exact ⟨_, bi_lst e⟩
  | one e => exact ⟨_, bi_tup e⟩
  | odd e o k => exact ⟨_, bi_tup e⟩
  | fac e b k => exact ⟨_, bi_tup e⟩
  | sch e b o => exact ⟨_, bi_tup e⟩
def Plain (v : V) : Prop := flatV v = true ∨ ∃ a, v = .ref a
theorem pl_odd {H : Hp} {x : V} (o : Odd H x) : Plain x := by
  cases o with
  | non => exact .inl rfl
  | bl b => exact .inl rfl
  | str z => exact .inl rfl
  | lst e => exact .inr ⟨_, rfl⟩
  | tup e => exact .inr ⟨_, rfl⟩
  | dK e => exact .inr ⟨_, rfl⟩
theorem pl_noseq {H : Hp} {x : V} (o : NoSeq H x) : Plain x := by
  cases o with
  | int n => exact .inl rfl
  | non => exact .inl rfl
  | bl b => exact .inl rfl
  | str z => exact .inl rfl
  | dK e => exact .inr ⟨_, rfl⟩
theorem pl_bad {C : Addr} {H : Hp} {x : V} (o : TermBad C H x) : Plain x := by
  cases o with
  | int n => exact .inl rfl
  | ins i =>
    obtain ⟨a, dx, fs, rfl, ha⟩ := i
    exact .inr ⟨_, rfl⟩
  | lst e => exact .inr ⟨_, rfl⟩
  | one e => exact .inr ⟨_, rfl⟩
  | odd e o k => exact .inr ⟨_, rfl⟩
  | fac e b k => exact .inr ⟨_, rfl⟩
  | sch e b o => exact .inr ⟨_, rfl⟩
theorem eqV_self {v : V} (h : flatV v = true) : eqV v v = true := by
  cases v with
  | non => rfl
  | bl b => simp [eqV]
  | int n => simp [eqV]
  | str z => simp [eqV]
  | byt _ => cases h
  | flt _ => cases h
  | ref _ => cases h
  | ty _ => cases h
theorem told_self {v : V} {H : Hp} (h : Plain v) : DTold v v true H := by
  rcases h with h | ⟨a, rfl⟩
  · exact .inl ⟨h, h, eqV_self h⟩
  · exact .inr (.inl ⟨a, rfl, rfl, rfl⟩)
theorem bools_of {H : Hp} : ∀ xs : List V, (∀ u ∈ xs, ∃ b, BoolI K H u b) → ∃ bs : List Bool, ∀ (i : Nat) u, xs[i]? = some u → BoolI K H u (bs[i]?.getD false)
  | [], _ => ⟨[], fun i u h => by cases h⟩
  | x :: l, h => by
    obtain ⟨b, hb⟩ := h x List.mem_cons_self
    obtain ⟨bs, hs⟩ := bools_of l fun u hu => h u (List.mem_cons_of_mem _ hu)
    refine ⟨b :: bs, fun i u hi => ?_⟩
    match i with
    | 0 =>
      cases hi
      exact hb
    | j + 1 => exact hs j u hi
structure Twin (K : PySem.W.Frag) (H : Hp) (l1 l2 : Addr) (xs ys : List V) (bs : List Bool) : Prop where
  a : H l1 = some (.lst xs)
  b : H l2 = some (.lst ys)
  len : xs.length = ys.length
  few : xs.length ≤ 3
  pr : PrsB DTold xs ys (fun _ => true) H
  tx : ∀ (i : Nat) u, xs[i]? = some u → BoolI K H u (bs[i]?.getD false)
  ty : ∀ (i : Nat) u, ys[i]? = some u → BoolI K H u (bs[i]?.getD false)
theorem twin_self {H : Hp} {l1 l2 : Addr} {xs : List V} (a : H l1 = some (.lst xs)) (b : H l2 = some (.lst xs)) (few : xs.length ≤ 3) (h : ∀ u ∈ xs, (∃ b, BoolI K H u b) ∧ Plain u) : ∃ xs ys bs, Twin K H l1 l2 xs ys bs := by
  obtain ⟨bs, hs⟩ := bools_of xs fun u hu => (h u hu).1
  refine ⟨xs, xs, bs, a, b, rfl, few, ⟨fun i x y hx hy => ?_⟩, hs, hs⟩
  rw [hx] at hy
  cases hy
  exact told_self (h x (List.mem_of_getElem? hx)).2
theorem tell_two {C : Addr} {H : Hp} {x y : V} {v : VerF} {l1 l2 : Addr} (I : IsC K C) (N : NoBoolC K C) (d : DueF C H x y v) (t1 : TellAt H v x y l1) (t2 : TellAt H v x y l2) : ∃ xs ys bs, Twin K H l1 l2 xs ys bs := by
  cases d with
  | terms0 n =>
    exact twin_self t1 t2 (by show 3 ≤ 3; decide) fun u hu => by
      simp only [List.mem_cons, List.not_mem_nil, or_false] at hu
      rcases hu with rfl | rfl | rfl
      · exact ⟨⟨_, bi_str _ H⟩, .inl rfl⟩
      · exact ⟨bi_noseq n, pl_noseq n⟩
      · exact ⟨⟨_, bi_bl _ H⟩, .inl rfl⟩
  | terms1 q l =>
    exact twin_self t1 t2 (by show 3 ≤ 3; decide) fun u hu => by
      simp only [List.mem_cons, List.not_mem_nil, or_false] at hu
      rcases hu with rfl | rfl | rfl
      · exact ⟨⟨_, bi_str _ H⟩, .inl rfl⟩
      · exact ⟨⟨_, bi_lt q⟩, .inr ⟨_, rfl⟩⟩
      · exact ⟨⟨_, bi_bl _ H⟩, .inl rfl⟩
  | term q l g b =>
    exact twin_self t1 t2 (by show 2 ≤ 3; decide) fun u hu => by
      simp only [List.mem_cons, List.not_mem_nil, or_false] at hu
      rcases hu with rfl | rfl
      · exact ⟨⟨_, bi_str _ H⟩, .inl rfl⟩
      · exact ⟨bi_bad I N b, pl_bad b⟩
  | scheme q l1 l2 t o =>
    exact twin_self t1 t2 (by show 2 ≤ 3; decide) fun u hu => by
      simp only [List.mem_cons, List.not_mem_nil, or_false] at hu
      rcases hu with rfl | rfl
      · exact ⟨⟨_, bi_str _ H⟩, .inl rfl⟩
      · rcases o with ⟨n, rfl⟩ | o
        · exact ⟨⟨_, bi_int n H⟩, .inl rfl⟩
        · exact ⟨bi_odd o, pl_odd o⟩
  | base q l2 t S f a n =>
    exact twin_self t1 t2 (by show 2 ≤ 3; decide) fun u hu => by
      simp only [List.mem_cons, List.not_mem_nil, or_false] at hu
      rcases hu with rfl | rfl
      · exact ⟨⟨_, bi_str _ H⟩, .inl rfl⟩
      · exact ⟨⟨_, bi_int _ H⟩, .inl rfl⟩
  | @made p a t r ts b ds ks q la lb tt S f al =>
    obtain ⟨p1, L1, ts1, e1, q1, a1, b1⟩ := t1
    obtain ⟨p2, L2, ts2, e2, q2, a2, b2⟩ := t2
    cases e1
    cases e2
    have es : ts1.map tV = ts2.map tV := by
      rcases q1 with q1 | q1 <;> rcases q2 with q2 | q2 <;> rw [q1] at q2 <;> simp only [Option.some.injEq, HO.lst.injEq, HO.tup.injEq, reduceCtorEq] at q2 <;> assumption
    rw [← es] at b2
    obtain ⟨⟨dx, i⟩, _⟩ := id S
    have bi : BoolI K H (.ref a) false := bi_ins I N ⟨a, dx, _, rfl, i⟩
    refine ⟨_, _, [false, false, false], a1, a2, rfl, by show 3 ≤ 3; decide, ⟨fun i x y hx hy => ?_⟩, fun i u hu => ?_, fun i u hu => ?_⟩
    · match i, hx, hy with
      | 0, hx, hy =>
        cases hx
        cases hy
        exact told_self (.inl rfl)
      | 1, hx, hy =>
        cases hx
        cases hy
        refine .inr (.inr ⟨L1, L2, _, _, fun _ => true, rfl, rfl, b1, b2, rfl, ⟨fun j x y hx hy => ?_⟩, fun _ => rfl, (all_true fun _ _ => rfl).symm⟩)
        rw [hx] at hy
        cases hy
        rw [List.getElem?_map] at hx
        obtain ⟨z, _, rfl⟩ := Option.map_eq_some_iff.mp hx
        exact ⟨_, rfl, rfl, rfl⟩
      | 2, hx, hy =>
        cases hx
        cases hy
        exact told_self (.inr ⟨_, rfl⟩)
      | k + 3, hx, hy => exact absurd hx (by simp)
    · match i, hu with
      | 0, hu =>
        cases hu
        exact bi_str _ H
      | 1, hu =>
        cases hu
        exact bi_lst b1
      | 2, hu =>
        cases hu
        exact bi
      | k + 3, hu => exact absurd hu (by simp)
    · match i, hu with
      | 0, hu =>
        cases hu
        exact bi_str _ H
      | 1, hu =>
        cases hu
        exact bi_lst b2
      | 2, hu =>
        cases hu
        exact bi
      | k + 3, hu => exact absurd hu (by simp)
theorem Twin.eq {H : Hp} {l1 l2 : Addr} {xs ys : List V} {bs : List Bool} (t : Twin K H l1 l2 xs ys bs) : DListB DTold (.ref l1) (.ref l2) true H :=
  ⟨l1, l2, xs, ys, fun _ => true, rfl, rfl, t.a, t.b, t.len, t.pr, fun _ => rfl, (all_true fun _ _ => rfl).symm⟩
theorem eqB_told {X : Cx} : EqB X 1 DTold := (eqB_flat.mono (Nat.zero_le 1)).or ((eqB_same.mono (Nat.zero_le 1)).or (eqB_list eqB_same))
theorem DTold.same {H H' : Hp} {x y : V} {b : Bool} (h : DTold x y b H) (s : Same H H') : DTold x y b H' := by
  rcases h with h | h | ⟨l, m, xs, ys, e, hx, hy, a, c, len, p, z⟩
  · exact .inl h
  · exact .inr (.inl h)
  · exact .inr (.inr ⟨l, m, xs, ys, e, hx, hy, s _ _ a, s _ _ c, len, ⟨fun i u v hu hv => p.it i u v hu hv⟩, z⟩)
theorem Twin.same {H H' : Hp} {l1 l2 : Addr} {xs ys : List V} {bs : List Bool} (t : Twin K H l1 l2 xs ys bs) (s : Same H H') : Twin K H' l1 l2 xs ys bs :=
  ⟨s _ _ t.a, s _ _ t.b, t.len, t.few, ⟨fun i x y hx hy => (t.pr.it i x y hx hy).same s⟩, fun i u hu H2 s2 => t.tx i u hu H2 (s.trans s2), fun i u hu H2 s2 => t.ty i u hu H2 (s.trans s2)⟩
theorem XOk.mono {k m : Nat} {C : Addr} {H : Hp} {x : V} (h : XOk k C H x) (km : k ≤ m) : XOk m C H x := by
  rcases h with h | h | ⟨l, xs, e, a, f, z⟩
  · exact .inl h
  · exact .inr (.inl h)
  · exact .inr (.inr ⟨l, xs, e, a, Nat.le_trans f km, z⟩)
/-- a list of good terms stands still while the box changes -/
theorem kp_terms {k : Nat} {n : Int} {a l : Addr} {C : Addr} {H : Hp} {ts : List TD} {y : V} (B : Box n H a) (h : Kp a H (fun H' => XOk k C H' (.ref l) ∧ GoalOk C H' y)) (e : H l = some (.lst (ts.map tV))) (ht : ∀ z ∈ ts, TermG C H z) : Kp a H (fun H' => H' l = some (.lst (ts.map tV)) ∧ ∀ z ∈ ts, TermG C H' z) := by
  have na : l ≠ a := fun z => by
    subst z
    have q := (h (fun c => if c = l then none else H c) (fun c o n w => (if_neg n).trans w)).1
    rcases q with q | ⟨p, n, s, e1, q⟩ | ⟨l1, xs, e1, q, _⟩
    · cases q with
      | dK e2 => simp at e2
    · cases e1
      simp at q
    · cases e1
      simp at q
  exact fun H' u => ⟨u _ _ na e, fun z hz => kp_term B (ht z hz) H' u⟩
/-! ### a form made of good terms -/
theorem form_ok {CF C CT CI CN CU p a t r o dx : Addr} {H : Hp} {ts : List TD} {b : Int} {ds : List Int} {ks : List (Addr × (Int × Int))} {R : Hp → Prop} {E : XK} (lt : LT H p (ts.map tV)) (l1 : 1 ≤ ts.length) (l2 : ts.length ≤ 2) (tt : ∀ z ∈ ts, TermAt C H z) (S : SchemeAt C H a t r b ds ks) (few : ds.length ≤ 60) (al : ∀ z ∈ ts, z.b.natAbs = b.natAbs)
    (ho : H o = none) (hd : H dx = none) (qm : ∀ (tt2 : Addr) (H' : Hp), Same H H' → FormAt CF C H' o tt2 ts a t r b ds ks → R H') :
    spForm CF C CT CI CN CU [.ref o, .ref p, .ref a] (newAt H CF o dx) (fun v H3 => v = .non ∧ R H3) E := by
  have s0 := newAt_same (C := CF) ho hd
  have eo : (newAt H CF o dx) o = some (.ins CF dx []) := upd_same
  have up : ∀ {H'}, But o (newAt H CF o dx) H' → Same H H' := fun t c u hc => t c u (ne_of_none hc ho) (s0 c u hc)
  refine ⟨o, dx, .ref p, .ref a, rfl, eo, .inr ⟨p, _, rfl, lt.same s0, .inr ⟨by rw [List.length_map]; exact l1, by rw [List.length_map]; exact l2, .inr ⟨ts, rfl, (fun z hz => (tt z hz).same s0), .inr ⟨a, t, r, b, ds, ks, rfl, S.same s0, few, .inr ⟨al, fun t2 g H' b2 e1 e2 => ?_⟩⟩⟩⟩⟩⟩
  have s2 := up b2
  exact ⟨rfl, qm t2 H' s2 ⟨⟨dx, g, e1⟩, e2, fun z hz => (tt z hz).same s2, S.same s2, few, l2⟩⟩
end
end K31
/-! t != t2, two tuples of the very same things. -/
namespace OF
open PySem PySem.Spec PyProof.Rows L2
def rNeSameT (K : PySem.W.Frag) : R2 := fun x y H Q => ∃ (l l2 : Addr) (xs : List V), x = .ref l ∧ y = .ref l2 ∧ SqT K H l xs ∧ SqT K H l2 xs ∧ (∀ v ∈ xs, flatB v = true ∨ ∃ a, v = .ref a) ∧ Q (.bl false) H
theorem op_neSameT {X : Cx} (hu : X.A.units + 64 < cLine) : OpR X (compareOp .NotEq) (rNeSameT X.K) := by
  intro pins s σ H x y v u Q I rx ry h
  obtain ⟨l, l2, xs, rfl, rfl, h1, h2, hs, q⟩ := h
  cases rx
  cases ry
  obtain ⟨us, r1, p1, _⟩ := I.tuple h1
  obtain ⟨ws, r2, p2, _⟩ := I.tuple h2
  have n1 := r1.length
  have n2 := r2.length
  have hsz : us.toArray.size = ws.toArray.size := by
    rw [List.size_toArray, List.size_toArray]
    omega
  have key := SeqAt.RcNeAt.tuples (A := X.A) (e := fun _ => true) p1 p2 (by omega) (fun j h1 h2 => ?_)
  · refine key X.prog X.w _ _ ?_
    rw [show ((List.range (min us.toArray.size ws.toArray.size)).all fun _ => true) = true from List.all_eq_true.mpr fun _ _ => rfl, hsz, Bool.true_and, beq_self_eq_true]
    exact ⟨.bl false, H, I, rfl, q⟩
  · have j1 : j < us.length := by simpa using h1
    have jx : j < xs.length := by omega
    obtain ⟨a, ea, ra⟩ := Vals.get r1 (List.getElem?_eq_getElem jx)
    obtain ⟨b, eb, rb⟩ := Vals.get r2 (List.getElem?_eq_getElem jx)
    have e1 : us.toArray[j] = a := by
      have := List.getElem?_eq_getElem j1
      rw [this] at ea
      simpa using Option.some.inj ea
    have e2 : ws.toArray[j] = b := by
      have j2 : j < ws.length := by omega
      have := List.getElem?_eq_getElem j2
      rw [this] at eb
      simpa using Option.some.inj eb
    rw [e1, e2]
    rcases hs _ (List.getElem_mem jx) with hf | ⟨p, hp⟩
    · exact eqAt_same ra rb hf
    · rw [hp] at ra rb
      cases ra
      cases rb
      exact SeqAt.EqAt.same _
end OF
namespace K31
open PySem PySem.Spec PyProof.Rows L2 OF
section
variable {P : Program} {w : World} {K : PySem.W.Frag} {mg : Str → Option Value} {base : Heap}
/-! ### models behind a list that grows -/
theorem ModAt.put {a D m dl pl : Addr} {J H' : Hp} {o : HO} {xs : List V} {b : Int} {ns : List Int} {ks : List (Addr × (Int × Int))} (h : ∀ H', But a J H' → ModAt H' m dl pl b ns ks) (e : J D = some (.lst xs)) (n : D ≠ m ∧ D ≠ dl ∧ D ≠ pl) (u : But a (upd J D o) H') : ModAt H' m dl pl b ns ks := by
  have k := h (fun c => if c = a then none else J c) (fun c o n z => (if_neg n).trans z)
  have mv : ∀ {p : Addr} {o : HO}, p ≠ D → (fun c => if c = a then none else J c) p = some o → H' p = some o := fun {p o} np z => by
    by_cases q : p = a
    · simp [q] at z
    · exact u _ _ q ((upd_ne np).trans ((if_neg q).symm.trans z))
  refine ⟨mv (Ne.symm n.1) k.mo, mv (Ne.symm n.2.1) k.di, mv (Ne.symm n.2.2) k.pa, fun p hp => mv (fun z => ?_) (k.pr p hp)⟩
  have kp := k.pr p hp
  rw [z] at kp
  by_cases q : D = a
  · simp [q] at kp
  · rw [if_neg q, e] at kp
    cases kp
structure MatD (a D : Addr) (H : Hp) (M : MD) : Prop where
  tup : H M.p = some (.tup [.int M.f, .ref M.m])
  mo : ∃ (dl pl : Addr) (ks : List (Addr × (Int × Int))), ks.map (·.2) = M.ps ∧ (D ≠ M.m ∧ D ≠ dl ∧ D ≠ pl) ∧ ∀ H', But a H H' → ModAt H' M.m dl pl M.b M.ns ks
  good : Good M.b M.ns M.ps
theorem MatD.mat {a D : Addr} {H : Hp} {M : MD} (h : MatD a D H M) : MAt a H M := by
  obtain ⟨t, ⟨dl, pl, ks, e, _, m⟩, g⟩ := h
  exact ⟨t, ⟨dl, pl, ks, e, m⟩, g⟩
theorem MatD.but {n : Int} {a D : Addr} {H H' : Hp} {M : MD} (h : MatD a D H M) (B : Box n H a) (u : But a H H') : MatD a D H' M := by
  obtain ⟨t, ⟨dl, pl, ks, e, d, m⟩, g⟩ := h
  exact ⟨u _ _ (tupne B t) t, ⟨dl, pl, ks, e, d, fun H2 u2 => m H2 (u.trans u2)⟩, g⟩
theorem MatD.put {a D : Addr} {J : Hp} {o : HO} {xs : List V} {M : MD} (h : MatD a D J M) (e : J D = some (.lst xs)) : MatD a D (upd J D o) M := by
  obtain ⟨t, ⟨dl, pl, ks, ek, d, m⟩, g⟩ := h
  refine ⟨(upd_ne fun z => ?_).trans t, ⟨dl, pl, ks, ek, d, fun H2 u2 => ModAt.put m e d u2⟩, g⟩
  rw [z, e] at t
  cases t
theorem SchemeAt.lput {C D x t r : Addr} {H : Hp} {b : Int} {ds : List Int} {ks : List (Addr × (Int × Int))} {xs : List V} {o : HO} (h : SchemeAt C H x t r b ds ks) (e : H D = some (.lst xs)) : SchemeAt C (upd H D o) x t r b ds ks := by
  obtain ⟨⟨dx, i⟩, d, m, k⟩ := h
  refine ⟨⟨dx, (upd_ne fun z => ?_).trans i⟩, (upd_ne fun z => ?_).trans d, (upd_ne fun z => ?_).trans m, fun p hp => (upd_ne fun z => ?_).trans (k p hp)⟩
  · rw [z, e] at i
    cases i
  · rw [z, e] at d
    cases d
  · rw [z, e] at m
    cases m
  · have := k p hp
    rw [z, e] at this
    cases this
theorem TermAt.lput {C D : Addr} {H : Hp} {z : TD} {xs : List V} {o : HO} (h : TermAt C H z) (e : H D = some (.lst xs)) : TermAt C (upd H D o) z := by
  refine ⟨(upd_ne fun q => ?_).trans h.tup, h.fac, h.sch.lput e, h.few, h.bas⟩
  have k := h.tup
  rw [q, e] at k
  cases k
theorem FormAt.lput {CF C D o tt a t r : Addr} {H : Hp} {ts : List TD} {b : Int} {ds : List Int} {ks : List (Addr × (Int × Int))} {xs : List V} {u : HO} (h : FormAt CF C H o tt ts a t r b ds ks) (e : H D = some (.lst xs)) : FormAt CF C (upd H D u) o tt ts a t r b ds ks := by
  obtain ⟨⟨dx, g, i⟩, m, k, S, f, l⟩ := h
  refine ⟨⟨dx, g, (upd_ne fun z => ?_).trans i⟩, (upd_ne fun z => ?_).trans m, fun z hz => (k z hz).lput e, S.lput e, f, l⟩
  · rw [z, e] at i
    cases i
  · rw [z, e] at m
    cases m
theorem rev_eq {ts : List TD} (h1 : 1 ≤ ts.length) (h2 : ts.length ≤ 2) : eqTs ts ts.reverse = (List.range ts.reverse.length).all (eI ts.reverse ts) := by
  match ts, h1, h2 with
  | [x], _, _ =>
    show (eqT x x && true) = (List.range 1).all (eI [x] [x])
    rw [show List.range 1 = [0] from rfl]
    rfl
  | [x, y], _, _ =>
    show (eqT x y && (eqT y x && true)) = (List.range 2).all (eI [y, x] [x, y])
    rw [show List.range 2 = [0, 1] from rfl]
    show (eqT x y && (eqT y x && true)) = (eqT y x && (eqT x y && true))
    rw [Bool.and_true, Bool.and_true, Bool.and_comm]
  | x :: y :: z :: l, _, h => exact absurd h (by simp)
theorem eqTs_len {ts us : List TD} (h : ts.length ≠ us.length) : eqTs ts us = false := by
  rw [eqTs_all, decide_eq_false h, Bool.and_false]
theorem cut_one {α : Type} {f : α → V} (z : α) (m : List α) : cutV ((z :: m).map f) none (some 1) = [z].map f := by
  unfold cutV
  rw [HT.sIx_none, show (some (1 : Int)) = some ((1 : Nat) : Int) from rfl, HT.sIx_nat, List.length_map, List.length_cons, Nat.min_eq_left (by omega)]
  rfl
theorem cut_rest {α : Type} {f : α → V} (z : α) (m : List α) : cutV ((z :: m).map f) (some 1) none = m.map f := by
  unfold cutV
  rw [HT.sIx_none, show (some (1 : Int)) = some ((1 : Nat) : Int) from rfl, HT.sIx_nat, List.length_map, List.length_cons, Nat.min_eq_left (by omega)]
  show (m.map f).take (m.length + 1 - 1) = _
  exact List.take_of_length_le (by rw [List.length_map]; omega)
theorem rep_one (z : TD) (k : Nat) : (List.replicate k ([z].map tV)).flatten = (List.replicate k z).map tV := by
  induction k with
  | zero => rfl
  | succ k ih =>
    rw [List.replicate_succ, List.flatten_cons, ih, List.replicate_succ, List.map_cons]
    rfl
theorem fac_neg {f : Int} (h : facB f = true) : facB (-f) = true ∧ decide (f = -f) = false := by
  have e : ∀ n : Int, facB n = true → n ∈ ([-2, -1, 1, 2] : List Int) := fun n hn => by
    rw [← fac_in] at hn
    exact of_decide_eq_true hn
  have m := e f h
  simp only [List.mem_cons, List.not_mem_nil, or_false] at m
  rcases m with rfl | rfl | rfl | rfl <;> decide
def kq : Nat → Nat
  | 0 => 2
  | 1 => 6
  | _ => 18
theorem kq_up {i n k : Nat} (hi : i ≤ 1) (h : n ≤ kq i) (hk : k ≤ 3 * n) : k ≤ kq (i + 1) := by
  match i, hi with
  | 0, _ =>
    have : n ≤ 2 := h
    show k ≤ 6
    omega
  | 1, _ =>
    have : n ≤ 6 := h
    show k ≤ 18
    omega
theorem kq_le {i : Nat} (hi : i ≤ 1) : kq i ≤ 6 ∧ kq i ≤ kq (i + 1) := by
  match i, hi with
  | 0, _ => exact ⟨by decide, by decide⟩
  | 1, _ => exact ⟨by decide, by decide⟩
theorem kq_18 (i : Nat) : kq i ≤ 18 := by
  match i with
  | 0 => exact (by decide)
  | 1 => exact (by decide)
  | _ + 2 => exact Nat.le_refl _
theorem no_list {H : Hp} {x : V} (h : NoSeq H x ∨ ∃ (p : Addr) (n : Int) (s : V), x = .ref p ∧ H p = some (.tup [.int n, s])) : ∃ ty, TyX K H x ty ∧ PySem.W.kitOne K ty (.type "list") = some false := by
  rcases h with h | ⟨p, n, s, rfl, e⟩
  · cases h with
    | int n => exact ⟨_, .base (.int n), kit_ty (by decide +kernel)⟩
    | non => exact ⟨_, .base .non, kit_ty (by decide +kernel)⟩
    | bl b => exact ⟨_, .base (.bl b), kit_ty (by decide +kernel)⟩
    | str z => exact ⟨_, .base (.str z), kit_ty (by decide +kernel)⟩
    | dK e => exact ⟨_, .base (.dK e), kit_ty (by decide +kernel)⟩
  · exact ⟨_, .base (.tup e), kit_ty (by decide +kernel)⟩
theorem all_terms {C : Addr} {H : Hp} : ∀ {xs : List V}, (∀ x ∈ xs, ∃ z : TD, x = tV z ∧ TermG C H z) → ∃ ts : List TD, xs = ts.map tV ∧ ∀ z ∈ ts, TermG C H z
  | [], _ => ⟨[], rfl, fun z h => by cases h⟩
  | x :: l, h => by
    obtain ⟨z, rfl, hz⟩ := h x List.mem_cons_self
    obtain ⟨ts, rfl, ht⟩ := all_terms (xs := l) fun y hy => h y (List.mem_cons_of_mem _ hy)
    refine ⟨z :: ts, rfl, fun y hy => ?_⟩
    rcases List.mem_cons.mp hy with rfl | hy
    · exact hz
    · exact ht y hy
def blsAt (bs : List Bool) (n : Nat) : List V := (List.range n).map fun k => V.bl (bs[k]?.getD false)
theorem bls_more (bs : List Bool) (n : Nat) : blsAt bs (n + 1) = blsAt bs n ++ [V.bl (bs[n]?.getD false)] := by
  unfold blsAt
  rw [List.range_succ, List.map_append]
  rfl
theorem bls_len (bs : List Bool) (n : Nat) : (blsAt bs n).length = n := by
  unfold blsAt
  rw [List.length_map, List.length_range]
theorem bls_pr (bs : List Bool) (n : Nat) (H : Hp) : PrsB DFlatB (blsAt bs n) (blsAt bs n) (fun _ => true) H := ⟨fun i x y hx hy => by
  rw [hx] at hy
  cases hy
  unfold blsAt at hx
  rw [List.getElem?_map] at hx
  obtain ⟨k, _, rfl⟩ := Option.map_eq_some_iff.mp hx
  exact ⟨rfl, rfl, eqV_self rfl⟩⟩
/-! ### _law_right -/
def spRight : Sp := fun vs H Q _ => ∃ (a : Addr), vs = [.ref a] ∧ Box 0 H a ∧ ∀ H', But a H H' → Q (.bl true) H'
abbrev nRi : List Str := ["_law_box_here", "_law_size", "_law_models", "_law_summands", "_law_goal", "_law_given", "_law_form", "_law_other", "_law_turned", "_law_turn", "_law_good", "_law_told_here", "_law_due_here", "_law_truths", "_law_k", "_law_factor", "_law_model", "_law_item"]
theorem scRi : FnScope nRi ["_law_box_here"] (defScope sRight) := ⟨rfl, rfl, rfl, by decide +kernel, rfl, by decide +kernel, by decide +kernel⟩
def teItem (K : PySem.W.Frag) : TE := tTup (tCons (tOp (rIxL K) (tLst (tCons (tC (.int 1)) (tCons (tUn (rU fun i => .int (-i)) (tC (.int 1))) (tCons (tC (.int 2)) (tCons (tUn (rU fun i => .int (-i)) (tC (.int 2))) tNil))))) (tCall spTake [] E0 (tCons (tVar 0) (tCons (tC (.int 4)) tNil)))) (tCons (tCall spKin [] E0 (tCons (tVar 0) (tCons (tVar 1) (tCons (tC (.int 6)) tNil)))) tNil))
def teSum (C : Addr) : TE := tTup (tCons (tVar 15) (tCons (tCall (spMadeL C) [] E0 (tCons (tVar 16) tNil)) tNil))
def teBool (K : PySem.W.Frag) : TE := tCB (rIsi K) (tCons (tVar 17) (tCons (tC (.ty "bool")) tNil))
set_option maxHeartbeats 4000000 in
theorem ok_right {f fT fK fM fN fE fS fV fP fTo fD fGd gT_ gG_ pT pG CF C CT CI CN CU : Addr} {fd fdT fdK fdM fdN fdE fdS fdV fdP fdTo fdD fdGd fdgT fdgG : FuncData} (F : Fun K "_law_right" "_law_right" sRight f fd) (FT : Fun K "_law_take" "_law_take" sTake fT fdT) (gT : mg "_law_take" = some (.ref fT)) (bT : Binds K fdT ["_law_box_here", "_law_many"] [])
    (GK : FnOk P w K mg base CX0 3 fK fdK ["_law_box_here", "_law_size", "_law_most"] spKin) (gK : mg "_law_kin" = some (.ref fK)) (kK : PySem.W.keepIn K (.ref fK) = true) (bK : Binds K fdK ["_law_box_here", "_law_size", "_law_most"] [])
    (GM : FnOk P w K mg base CX0 9 fM fdM ["_law_model"] (spMadeL C)) (gM : mg "_law_scheme" = some (.ref fM)) (kM : PySem.W.keepIn K (.ref fM) = true) (bM : Binds K fdM ["_law_model"] [])
    (FN : Fun K "__init__" "Form.__init__" sFoInit fN fdN) (M : Mk K CF fN) (gC : mg "Form" = some (.ref CF)) (GN : FnOk P w K mg base (L2.CX P w) 16 fN fdN ["self", "terms", "target"] (spForm CF C CT CI CN CU))
    (c : Cls K CF) (qT : PropOf K CF "terms" pT gT_) (GgT : FnOk P w K mg base CX0 1 gT_ fdgT ["self"] (spFT CF)) (bgT : Binds K fdgT ["self"] []) (qG : PropOf K CF "target" pG gG_) (GgG : FnOk P w K mg base CX0 1 gG_ fdgG ["self"] (spFG CF)) (bgG : Binds K fdgG ["self"] [])
    (GE : FnOk P w K mg base CX0 5 fE fdE ["self", "other"] (spEqF K CF C)) (mE : Meth K CF "__eq__" fE) (bE : Binds K fdE ["self", "other"] [])
    (GS : FnOk P w K mg base CX0 1 fS fdS ["self", "other"] (spEqA K C)) (mS : Meth K C "__eq__" fS) (bS : Binds K fdS ["self", "other"] [])
    (ns : PySem.W.subIn K (.ref C) (.ref CF) = some false) (n1 : PySem.W.subIn K (.type "int") (.ref CF) = some false) (n2 : PySem.W.subIn K (.type "tuple") (.ref CF) = some false) (nC : PySem.W.kitOne K (.ref C) (.ref CF) = some false) (nT : PySem.W.kitOne K (.type "tuple") (.ref CF) = some false)
    (GV : FnG P w K mg base 10 fV fdV ["_law_box_here", "_law_form", "_law_summands"] (spValues CF C)) (gV : mg "_law_values_right" = some (.ref fV)) (kV : PySem.W.keepIn K (.ref fV) = true) (bV : Binds K fdV ["_law_box_here", "_law_form", "_law_summands"] [])
    (GP : FnOk P w K mg base CX0 9 fP fdP ["_law_box_here", "_law_summands", "_law_goal"] (spSpoilt C)) (gP : mg "_law_spoilt" = some (.ref fP)) (kP : PySem.W.keepIn K (.ref fP) = true) (bP : Binds K fdP ["_law_box_here", "_law_summands", "_law_goal"] [])
    (GTo : FnOk P w K mg base CX0 18 fTo fdTo ["_law_summands", "_law_goal"] (spTold C)) (gTo : mg "_law_told" = some (.ref fTo)) (kTo : PySem.W.keepIn K (.ref fTo) = true) (bTo : Binds K fdTo ["_law_summands", "_law_goal"] [])
    (GD : FnOk P w K mg base CX0 3 fD fdD ["_law_summands", "_law_goal"] (spDue C)) (gD : mg "_law_due" = some (.ref fD)) (kD : PySem.W.keepIn K (.ref fD) = true) (bD : Binds K fdD ["_law_summands", "_law_goal"] [])
    (GGd : FnOk P w K mg base CX0 2 fGd fdGd ["_law_item"] (spGoodT C)) (gGd : mg "_law_good_term" = some (.ref fGd)) (kGd : PySem.W.keepIn K (.ref fGd) = true) (bGd : Binds K fdGd ["_law_item"] [])
    (IC : IsC K C) (NB : NoBoolC K C) (mi : mg "int" = none) (ml : mg "len" = none) (mr : mg "range" = none) (mt : mg "tuple" = none) (mli : mg "list" = none) (mis : mg "isinstance" = none) (mb : mg "bool" = none) : FnG P w K mg base 19 f fd ["_law_box_here"] spRight := by
  have GT : FnOk P w K mg base CX0 1 fT fdT ["_law_box_here", "_law_many"] spTake := ok_take FT mi
  refine okG F scRi (fun vs H Q E h => ?_) (fun cdv A outer s H vs Q E gu hr h => ?_)
  · obtain ⟨a, rfl, _⟩ := h
    rfl
  · obtain ⟨a, rfl, hB, q⟩ := h
    have hr1 : Room 1 _ := hr.mono (by decide)
    have hr2 : Room 2 _ := hr.mono (by decide)
    have hr3 : Room 3 _ := hr.mono (by decide)
    have hr5 : Room 5 _ := hr.mono (by decide)
    have hr9 : Room 9 _ := hr.mono (by decide)
    have hr10 : Room 10 _ := hr.mono (by decide)
    have hr17 : Room 17 _ := hr.mono (by decide)
    apply Exists.intro
    apply And.intro
    · apply pss_cons
      · exact ps_set (i := 1) scRi.nd rfl (.inr rfl) (pe_op op_add pe_int (pe_call GT hr1 (by rfl) gT FT.kp bT .nil pass0 (pa_cons (pv 0) (pa_cons pe_int pa_nil))))
      apply pss_cons
      · exact ps_setLc (i := 2) (own := [("_law_k", 14)]) (g := gName 14) (tt := tYes) (te := teItem K) rfl scRi.nd rfl rfl (sw_true rfl rfl rfl (by decide +kernel)) (pi_range1 rfl mr (pa_cons (pe_op op_add pe_int (pe_call GT hr1 (by rfl) gT FT.kp bT .nil pass0 (pa_cons (pv 0) (pa_cons pe_int pa_nil)))) pa_nil))
          (blkOk_by (own := [("_law_k", 14)]) (N := nRi) (sc := defScope sRight) (by decide +kernel)) (fun _ _ _ _ _ => pg_name (i := 14) scRi.nd rfl (Or.inl rfl)) (fun _ _ _ _ _ => pts_nil)
          (fun _ _ _ _ _ => by exact (pe_tup (pa_cons (pe_ix ix_list (pe_lst (pa_cons pe_int (pa_cons (pe_un un_neg pe_int) (pa_cons pe_int (pa_cons (pe_un un_neg pe_int) pa_nil))))) (pe_call GT hr1 (by rfl) gT FT.kp bT .nil pass0 (pa_cons (pv 0) (pa_cons pe_int pa_nil))) (fun _ _ => rfl))
            (pa_cons (pe_call GK hr3 (by rfl) gK kK bK .nil pass0 (pa_cons (pv 0) (pa_cons (pv 1) (pa_cons pe_int pa_nil)))) pa_nil))))
      apply pss_cons
      · exact ps_par (i := 3) (j := 4) rfl scRi.nd rfl rfl (by decide) rfl rfl (pa_cons (pe_lc (own := [("_law_factor", 15), ("_law_model", 16)]) (g := gTup K 2 (gCons (gName 15) (gCons (gName 16) gNil))) (tt := tYes) (te := teSum C) rfl scRi.nd (pi_list (pv 2))
            (blkOk_by (own := [("_law_factor", 15), ("_law_model", 16)]) (N := nRi) (sc := defScope sRight) (by decide +kernel)) (fun _ _ _ _ _ => by exact (pg_tup rfl (pgs_cons (pg_name (i := 15) scRi.nd rfl (Or.inl rfl)) (pgs_cons (pg_name (i := 16) scRi.nd rfl (Or.inl rfl)) pgs_nil)))) (fun _ _ _ _ _ => pts_nil)
            (fun _ _ _ _ _ => by exact (pe_tup (pa_cons (pv 15) (pa_cons (pe_call GM hr9 (by rfl) gM kM bM .nil pass0 (pa_cons (pv 16) pa_nil)) pa_nil)))))
          (pa_cons (pe_call GM hr9 (by rfl) gM kM bM .nil pass0 (pa_cons (pe_call GK hr3 (by rfl) gK kK bK .nil pass0 (pa_cons (pv 0) (pa_cons (pv 1) (pa_cons pe_int pa_nil)))) pa_nil)) pa_nil)) (by rfl)
      apply pss_cons
      · exact ps_set (i := 5) scRi.nd rfl (.inl rfl) (pe_callTy call_list_of (by rfl) mli PyProof.Rows.boot_list (pa_cons (pv 3) pa_nil))
      apply pss_cons
      · exact ps_set (i := 6) scRi.nd rfl (.inl rfl) (pe_makeK0 M GN hr17 (by rfl) gC (kbFoN FN) passNo (pk_cons (pv 4) (pk_cons (pv 5) pk_nil)))
      apply pss_cons
      · exact ps_expr (pe_bm PySem.F.plainAttrs_list PySem.F.slot_list_append PySem.F.type_list_append mt_append (pv 5) (pa_cons pe_non pa_nil))
      apply pss_cons
      · exact ps_if (PW.pt (pw_or (pt_cmpR (op_neSameT hr.units) (pe_prop (pv 6) c qT GgT hr2 bgT .nil pass0 (by rfl)) (pe_callTy call_tuple_of (by rfl) mt (by decide +kernel) (pa_cons (pv 3) pa_nil)) (nomark _))
            (pw_or (pt_not (pt_cmpR (op_eqOwn mS.at_ mS.fn GS bS hr1 pass0) (pe_prop (pv 6) c qG GgG hr2 bgG .nil pass0 (by rfl)) (pv 4) (nomark _)))
              (pw_or1 (pt_not (pt_cmpR (op_eqOwn mE.at_ mE.fn GE bE hr5 pass0) (pv 6) (pe_makeK M GN hr17 (by rfl) gC (kbFo FN) passNo (pa_cons (pe_callTy call_tuple_of (by rfl) mt (by decide +kernel) (pa_cons (pv 3) pa_nil)) (pa_cons (pv 4) pa_nil)) pk_nil) (nomark _))))))) (pss_one (ps_ret pe_bl)) pss_nil
      apply pss_cons
      · exact ps_set (i := 7) scRi.nd rfl (.inl rfl) (pe_call GM hr9 (by rfl) gM kM bM .nil pass0 (pa_cons (pe_call GK hr3 (by rfl) gK kK bK .nil pass0 (pa_cons (pv 0) (pa_cons (pv 1) (pa_cons pe_int pa_nil)))) pa_nil))
      apply pss_cons
      · exact ps_if (PW.pt (pw_or (pt_cmpR op_ne (pe_cmpR (op_eqOwn mE.at_ mE.fn GE bE hr5 pass0) (pv 6) (pe_makeK M GN hr17 (by rfl) gC (kbFo FN) passNo (pa_cons (pv 3) (pa_cons (pv 7) pa_nil)) pk_nil) (nomark _)) (pe_cmpR (op_eqOwn mS.at_ mS.fn GS bS hr1 pass0) (pv 4) (pv 7) (nomark _)) (nomark _))
            (pw_or (pt_cmpR (op_eqOwn2 mE.at_ mE.fn ns GE bE hr5 pass0) (pv 6) (pv 4) (nomark _))
              (pw_or1 (pt_cmpR (op_eqOther mE.at_ mE.fn n1 n2 GE bE hr5 pass0) (pv 6) (pe_prop (pv 6) c qT GgT hr2 bgT .nil pass0 (by rfl)) (nomark _)))))) (pss_one (ps_ret pe_bl)) pss_nil
      apply pss_cons
      · exact ps_if (pt_cmpR op_ne (pe_cmpR (op_eqOwn mE.at_ mE.fn GE bE hr5 pass0) (pv 6) (pe_makeK M GN hr17 (by rfl) gC (kbFo FN) passNo (pa_cons (pe_revL (pv 3)) (pa_cons (pv 4) pa_nil)) pk_nil) (nomark _))
            (pe_cmpR (op_eqB (rcB_list (eqB_terms (C := C) GS mS bS)) hr3) (pe_revL (pv 3)) (pv 3) (nomark _)) (nomark _)) (pss_one (ps_ret pe_bl)) pss_nil
      apply pss_cons
      · exact ps_if (pt_cmpR (op_eqOwn mE.at_ mE.fn GE bE hr5 pass0) (pv 6) (pe_makeK M GN hr17 (by rfl) gC (kbFo FN) passNo (pa_cons (pe_op op_rep (pe_slice sl_list (pv 3) po_none (po_some pe_int)) (pe_op op_sub pe_int (pe_callB call_len_seq (by rfl) ml PySem.boot_len (pa_cons (pv 3) pa_nil)))) (pa_cons (pv 4) pa_nil)) pk_nil) (nomark _)) (pss_one (ps_ret pe_bl)) pss_nil
      apply pss_cons
      · exact ps_set (i := 8) scRi.nd rfl (.inl rfl) (pe_op op_cat (pe_lst (pa_cons (pe_tup (pa_cons (pe_un un_neg (pe_ix ix_tup (pe_ix ix_list (pv 3) pe_int (fun _ _ => rfl)) pe_int (fun _ _ => rfl))) (pa_cons (pe_ix ix_tup (pe_ix ix_list (pv 3) pe_int (fun _ _ => rfl)) pe_int (fun _ _ => rfl)) pa_nil))) pa_nil)) (pe_slice sl_list (pv 3) (po_some pe_int) po_none))
      apply pss_cons
      · exact ps_if (PW.pt (pw_or (pt_cmpR (op_eqOwn mE.at_ mE.fn GE bE hr5 pass0) (pv 6) (pe_makeK M GN hr17 (by rfl) gC (kbFo FN) passNo (pa_cons (pv 8) (pa_cons (pv 4) pa_nil)) pk_nil) (nomark _))
            (pw_or1 (pt_not (pt_val (pe_callG GV gu hr10 (by rfl) gV kV bV pass0 (pa_cons (pv 0) (pa_cons (pv 6) (pa_cons (pv 2) pa_nil))))))))) (pss_one (ps_ret pe_bl)) pss_nil
      apply pss_cons
      · exact ps_for PassesOwn.never rfl (pi_range1 rfl mr (pa_cons (pe_op op_add pe_int (pe_call GT hr1 (by rfl) gT FT.kp bT .nil pass0 (pa_cons (pv 0) (pa_cons pe_int pa_nil)))) pa_nil)) (pg_name (i := 9) scRi.nd rfl (.inl rfl))
          (pss_cons (ps_set (i := 10) scRi.nd rfl (.inl rfl) (pe_ifExp (pt_val (pe_callB call_isi (by rfl) mis PyProof.Rows.boot_isinstance (pa_cons (pv 3) (pa_cons (pe_bltn (v := .ty "list") (by rfl) mli PyProof.Rows.boot_list rfl) pa_nil))))
              (pe_lc (own := [("_law_item", 17)]) (g := gName 17) (tt := tTest (tCall (spGoodT C) [] E0 (tCons (tVar 17) tNil))) (te := tVar 17) rfl scRi.nd (pi_list (pv 3)) (blkOk_by (own := [("_law_item", 17)]) (N := nRi) (sc := defScope sRight) (by decide +kernel)) (fun _ _ _ _ _ => pg_name (i := 17) scRi.nd rfl (Or.inl rfl))
                (fun _ _ _ _ _ => by exact (pts_one (pt_val (pe_call GGd hr2 (by rfl) gGd kGd bGd .nil pass0 (pa_cons (pv 17) pa_nil))))) (fun _ _ _ _ _ => by exact (pv 17)))
              (pe_lst pa_nil)))
            (pss_one (ps_if (PW.pt (pw_and (pt_cmpR (op_neNil hr.units) (pv 10) (pe_lst pa_nil) (nomark _)) (pw_and1 (pt_cmpR op_eq (pe_callB call_len_seq (by rfl) ml PySem.boot_len (pa_cons (pv 10) pa_nil)) (pe_callB call_len_seq (by rfl) ml PySem.boot_len (pa_cons (pv 3) pa_nil)) (nomark _)))))
              (pss_one (ps_asg (pe_call GP hr9 (by rfl) gP kP bP .nil pass0 (pa_cons (pv 0) (pa_cons (pv 3) (pa_cons (pv 4) pa_nil)))) (pg_lst rfl (pgs_cons (pg_name (i := 3) scRi.nd rfl (.inl rfl)) (pgs_cons (pg_name (i := 4) scRi.nd rfl (.inl rfl)) pgs_nil))))) pss_nil)))
      apply pss_cons
      · exact ps_par (i := 11) (j := 12) rfl scRi.nd rfl rfl (by decide) rfl rfl (pa_cons (pe_call GTo hr (by rfl) gTo kTo bTo .nil pass0 (pa_cons (pv 3) (pa_cons (pv 4) pa_nil))) (pa_cons (pe_call GD hr3 (by rfl) gD kD bD .nil pass0 (pa_cons (pv 3) (pa_cons (pv 4) pa_nil))) pa_nil)) (by rfl)
      apply pss_cons
      · exact ps_setLc (i := 13) (own := [("_law_item", 17)]) (g := gName 17) (tt := tYes) (te := teBool K) rfl scRi.nd rfl rfl (sw_true rfl rfl rfl (by decide +kernel)) (pi_list (pv 11)) (blkOk_by (own := [("_law_item", 17)]) (N := nRi) (sc := defScope sRight) (by decide +kernel)) (fun _ _ _ _ _ => pg_name (i := 17) scRi.nd rfl (Or.inl rfl)) (fun _ _ _ _ _ => pts_nil)
          (fun _ _ _ _ _ => by exact (pe_callB call_isi (by rfl) mis PyProof.Rows.boot_isinstance (pa_cons (pv 17) (pa_cons (pe_bltn (v := .ty "bool") (by rfl) mb PyProof.Rows.boot_bool rfl) pa_nil))))
      apply pss_one
      · exact ps_ret (pe_and (pe_cmpR (op_eqB (rcB_list eqB_told) hr2) (pv 11) (pv 12) (nomark _)) (pe_one (pe_cmpR (op_eqB (rcB_list eqB_flat) hr1) (pv 13)
          (pe_lc (own := [("_law_item", 17)]) (g := gName 17) (tt := tYes) (te := teBool K) rfl scRi.nd (pi_list (pv 12)) (blkOk_by (own := [("_law_item", 17)]) (N := nRi) (sc := defScope sRight) (by decide +kernel)) (fun _ _ _ _ _ => pg_name (i := 17) scRi.nd rfl (Or.inl rfl)) (fun _ _ _ _ _ => pts_nil)
            (fun _ _ _ _ _ => by exact (pe_callB call_isi (by rfl) mis PyProof.Rows.boot_isinstance (pa_cons (pv 17) (pa_cons (pe_bltn (v := .ty "bool") (by rfl) mb PyProof.Rows.boot_bool rfl) pa_nil))))) (nomark _))))
    -- the size
    refine ⟨.ref a, rfl, a, 5, 0, rfl, hB, by decide, by decide, by decide, fun z0 H1 z1 z2 t1 B1 => ?_⟩
    refine ⟨2, z0, rfl, rfl, ?_⟩
    have sz2 : 2 ≤ 2 + z0 ∧ 2 + z0 ≤ 6 := by omega
    clear z1 z2
    -- the models
    refine ⟨.ref a, rfl, a, 2, 1, rfl, B1, by decide, by decide, by decide, fun k0 H2 k1 k2 t2 B2 => ?_⟩
    refine ⟨1, k0, rfl, rfl, _, rfl, by omega, by omega, fun D hD => ?_⟩
    have nD := B2.ne hD
    have T2 := t1.trans t2
    clear t1 t2
    refine lc_range (lo := 0) (n := (1 + k0).toNat) (fun i H' => But a H2 H' ∧ Box (2 + 200 * i) H' a ∧ ∃ ms : List MD, H' D = some (.lst (ms.map mV)) ∧ ms.length = i ∧ ∀ M ∈ ms, MatD a D H' M ∧ facB M.f = true ∧ M.b.natAbs = (2 + z0).natAbs) ⟨But.new hD, (B2.new hD).mono (by omega), [], upd_same, rfl, fun M h => by cases h⟩ ?_ ?_
    · rintro i H3 hi ⟨T3, B3, ms, eD, lm, hm⟩
      have i2 : i ≤ 1 := by omega
      refine ⟨rfl, tYes_if ?_⟩
      refine ⟨1, rfl, 2, rfl, (by show 4 ≤ sizeLine; decide), fun g1 hg1 => ?_⟩
      have ng1 := B3.ne hg1
      have s1 := same_new (o := .lst [.int 1, .int (-1), .int 2, .int (-2)]) hg1
      have f1 : (upd H3 g1 (.lst [.int 1, .int (-1), .int 2, .int (-2)])) g1 = some (.lst [.int 1, .int (-1), .int 2, .int (-2)]) := upd_same
      generalize upd H3 g1 (.lst [.int 1, .int (-1), .int 2, .int (-2)]) = J1 at s1 f1 ⊢
      refine ⟨.ref a, rfl, a, 4, 2 + 200 * i, rfl, B3.same s1, by omega, by decide, by decide, fun r J2 r0 r1 t2 B4 => ?_⟩
      obtain ⟨v, hv, mv⟩ := pick (xs := ([1, -1, 2, -2] : List Int).map V.int) r0 r1
      obtain ⟨f, mf, rfl⟩ := List.mem_map.mp mv
      have hf : facB f = true := by
        simp only [List.mem_cons, List.not_mem_nil, or_false] at mf
        rcases mf with rfl | rfl | rfl | rfl <;> decide
      refine ⟨g1, _, r, .int f, rfl, rfl, SqL.of (t2 _ _ ng1 f1), hv, ?_⟩
      refine ⟨.ref a, rfl, .int (2 + z0), rfl, a, 2 + 200 * i + 1, 2 + z0, rfl, B4, by omega, sz2.1, sz2.2, fun m b ns ps J3 hb t3 B5 G Mo => ?_⟩
      refine ⟨(by show 2 ≤ sizeLine; decide), fun p hp => ?_⟩
      have s4 := same_new (o := .tup [.int f, .ref m]) hp
      have f4 : (upd J3 p (.tup [.int f, .ref m])) p = some (.tup [.int f, .ref m]) := upd_same
      generalize upd J3 p (.tup [.int f, .ref m]) = J4 at s4 f4 ⊢
      have T4 := (((But.of_same s1).trans t2).trans t3).trans (But.of_same s4)
      have eD4 := T4 _ _ nD eD
      refine ⟨_, eD4, by rw [List.length_map, lm]; exact small1000 (by omega), ?_⟩
      have B6 := B5.same s4
      have npD : p ≠ D := fun z => by
        rw [z, eD4] at f4
        cases f4
      obtain ⟨dl, pl, ks, ek, fr, mo⟩ := Mo
      have nx := fr D _ nD (t2 _ _ nD (s1 _ _ eD))
      refine ⟨(T3.trans T4).store hD, (B6.upd nD).mono (by omega), ms ++ [⟨p, m, f, b, ns, ps⟩], ?_, by rw [List.length_append, lm]; rfl, fun M hM => ?_⟩
      · rw [upd_same, List.map_append]
        rfl
      · rcases List.mem_append.mp hM with hM | hM
        · obtain ⟨k1, k2, k3⟩ := hm M hM
          exact ⟨(k1.but B3 T4).put eD4, k2, k3⟩
        · cases List.mem_singleton.mp hM
          exact ⟨MatD.put ⟨f4, ⟨dl, pl, ks, ek, nx, fun H' u => mo H' ((But.of_same s4).trans u)⟩, G⟩ eD4, hf, hb⟩
    rintro H3 ⟨T3, B3, ms, eD, lm, hm⟩
    have B3 : Box 410 H3 a := B3.mono (by omega)
    have l12 : 1 ≤ ms.length ∧ ms.length ≤ 2 := by omega
    have T3 := T2.trans T3
    clear T2 k1 k2 hD B1 B2
    have hm : ∀ M ∈ ms, MAt a H3 M ∧ facB M.f = true ∧ M.b.natAbs = (2 + z0).natAbs := fun M hM => ⟨(hm M hM).1.mat, (hm M hM).2⟩
    -- their schemes
    refine ⟨.ref D, rfl, D, rfl, ⟨_, SqL.of eD⟩, fun S hS => ?_⟩
    have nS := B3.ne hS
    refine lc_list (K := K) (a := D) (xs := ms.map mV) (fun i H' => Same H3 H' ∧ ∃ ts : List TD, H' S = some (.lst (ts.map tV)) ∧ ts.length = i ∧ (∀ z ∈ ts, TermG C H' z) ∧ ∀ (j : Nat) M z, ms[j]? = some M → ts[j]? = some z → M.f = z.f ∧ M.b = z.b ∧ M.ns = z.ds ∧ z.ks.map (·.2) = M.ps) ⟨same_new hS, [], upd_same, rfl, (fun z h => by cases h), fun j M z _ h => by simp at h⟩ (fun i H' _ h => SqL.of (h.1 _ _ eD)) ?_ ?_
    · rintro i x H4 hx ⟨s4, ts, eS, lt, ht, hj⟩
      rw [List.getElem?_map] at hx
      obtain ⟨M, hMi, rfl⟩ := Option.map_eq_some_iff.mp hx
      have mM := List.mem_of_getElem? hMi
      have hi : i < ms.length := (List.getElem?_eq_some_iff.mp hMi).1
      obtain ⟨AM, hf, hb⟩ := hm M mM
      have AM := kp_mat B3 AM H4 (But.of_same s4)
      obtain ⟨dl, pl, ks0, ek, mo⟩ := id AM.mo
      refine ⟨M.p, _, rfl, SqT.of AM.tup, rfl, .int M.f, _, rfl, .ref M.m, [], rfl, rfl, rfl, tYes_if ⟨.int M.f, rfl, .ref M.m, rfl, M.m, dl, pl, M.b, M.ns, ks0, rfl, mo H4 But.refl, by rw [ek]; exact AM.good, fun o H5 s5 IS => ?_⟩⟩
      obtain ⟨G, t, r, ks, e, SA⟩ := IS
      refine ⟨(by show 2 ≤ sizeLine; decide), fun p hp => ?_⟩
      have s6 := same_new (o := .tup [.int M.f, .ref o]) hp
      have f6 : (upd H5 p (.tup [.int M.f, .ref o])) p = some (.tup [.int M.f, .ref o]) := upd_same
      generalize upd H5 p (.tup [.int M.f, .ref o]) = H6 at s6 f6 ⊢
      have eS6 := s6 _ _ (s5 _ _ eS)
      have six := G.six
      refine ⟨_, eS6, by rw [List.length_map, lt]; exact small1000 (by omega), Same.store ((s4.trans s5).trans s6) hS, ts ++ [⟨p, M.f, o, t, r, M.b, M.ns, ks⟩], ?_, by rw [List.length_append, lt]; rfl, fun z hz => ?_, fun j M' z h1 h2 => ?_⟩
      · rw [upd_same, List.map_append]
        rfl
      · rcases List.mem_append.mp hz with hz | hz
        · obtain ⟨k1, k2⟩ := ht z hz
          exact ⟨((k1.same s5).same s6).lput eS6, k2⟩
        · cases List.mem_singleton.mp hz
          exact ⟨TermAt.lput ⟨f6, hf, SA.same s6, by show M.ns.length ≤ 60; omega, base6 G.b⟩ eS6, by rw [← e] at G; exact G⟩
      · rcases Nat.lt_trichotomy j ts.length with z1 | z1 | z1
        · rw [List.getElem?_append_left z1] at h2
          exact hj j M' z h1 h2
        · subst z1
          rw [List.getElem?_append_right (Nat.le_refl _), Nat.sub_self] at h2
          cases Option.some.inj h2
          rw [lt, hMi] at h1
          cases h1
          exact ⟨rfl, rfl, rfl, by rw [e, ek]⟩
        · rw [List.getElem?_eq_none (by rw [List.length_append]; show ts.length + 1 ≤ j; omega)] at h2
          cases h2
    rintro H4 ⟨s4, ts, eS, lt, ht, hj⟩
    rw [List.length_map] at lt
    have MM : Mtch ms ts := ⟨lt.symm, hj⟩
    have B4 := B3.same s4
    have T4 := T3.trans (But.of_same s4)
    have al : ∀ z ∈ ts, z.b.natAbs = (2 + z0).natAbs := fun z hz => by
      obtain ⟨i, hi, e⟩ := List.getElem_of_mem hz
      have h1 := List.getElem?_eq_getElem (show i < ms.length by omega)
      obtain ⟨_, k2, _⟩ := hj i _ z h1 (by rw [List.getElem?_eq_getElem hi, e])
      rw [← k2]
      exact (hm _ (List.getElem_mem _)).2.2
    have kM : Kp a H4 (fun H' => H' D = some (.lst (ms.map mV)) ∧ ∀ M ∈ ms, MAt a H' M) := fun H' u => ⟨u _ _ nD (s4 _ _ eD), fun M hM => kp_mat B3 (hm M hM).1 H' ((But.of_same s4).trans u)⟩
    have kS : Kp a H4 (fun H' => H' S = some (.lst (ts.map tV)) ∧ ∀ z ∈ ts, TermG C H' z) := fun H' u => ⟨u _ _ nS eS, fun z hz => kp_term B4 (ht z hz) H' u⟩
    clear hm s4 hS eS ht hj eD B3 T3 lm
    -- the goal
    refine ⟨.ref a, rfl, .int (2 + z0), rfl, a, 410, 2 + z0, rfl, B4, by decide, sz2.1, sz2.2, fun m b ns ps H5 hb t5 B5 G Mo => ?_⟩
    obtain ⟨dl, pl, ks0, ek, _, mo⟩ := Mo
    refine ⟨m, dl, pl, b, ns, ks0, rfl, mo H5 But.refl, by rw [ek]; exact G, fun g H6 s6 IS => ?_⟩
    obtain ⟨_, gt, gr, gks, eg, SG⟩ := IS
    rw [ek] at eg
    have T6 := t5.trans (But.of_same s6)
    have B6 : Box 510 H6 a := B5.same s6
    have kG : Kp a H6 (SchemeAt C · g gt gr b ns gks) := kp_sch B6 SG
    have kM := kM.but T6
    have kS := kS.but T6
    have T6 := T4.trans T6
    have al : ∀ z ∈ ts, z.b.natAbs = b.natAbs := fun z hz => by rw [al z hz, hb]
    clear T4 B4 B5 mo ek t5 s6
    have n60 : ns.length ≤ 60 := by have := G.six; omega
    have lt1 : 1 ≤ ts.length := by omega
    have lt2 : ts.length ≤ 2 := by omega
    refine ⟨.ref S, .ref g, rfl, ?_⟩
    -- the form
    refine ⟨.ref S, rfl, S, _, rfl, .inl (SqL.of kS.now.1), fun L hL => ?_⟩
    have nL := B6.ne hL
    have s7 := same_new (o := .lst (ts.map tV)) hL
    have eL : (upd H6 L (.lst (ts.map tV))) L = some (.lst (ts.map tV)) := upd_same
    generalize upd H6 L (.lst (ts.map tV)) = H7 at s7 eL ⊢
    refine ⟨.ref g, rfl, .ref L, rfl, rfl, rfl, ?_⟩
    refine fun o dx0 ho hdx _ => form_ok (.inl eL) lt1 lt2 (fun z hz => ((kS.same s7).now.2 z hz).1) ((kG.same s7).now) n60 al ho hdx fun tt H8 s8 FA => ?_
    have s68 := s7.trans s8
    have eL8 := s8 _ _ eL
    refine ⟨.ref L, rfl, .inl ⟨rfl, _, SqL.of eL8⟩, L, _, _, rfl, rfl, eL8, small1000 (by rw [List.length_map]; omega), ?_⟩
    have s69 : Same H6 (upd H8 L (.lst (ts.map tV ++ [.non]))) := Same.store s68 hL
    have FA := FA.lput (u := .lst (ts.map tV ++ [.non])) eL8
    generalize upd H8 L (.lst (ts.map tV ++ [.non])) = H9 at s69 FA ⊢
    clear eL8 s68 s8 eL s7 ho hdx
    have kM := kM.same s69
    have kS := kS.same s69
    have kG := kG.same s69
    have B9 := B6.same s69
    have T9 := T6.trans (But.of_same s69)
    clear s69 T6 B6 hL
    have tself : eqTs ts ts = true := eqTs_self rfl (fun z hz => (kS.now.2 z hz).1) fun z hz => (kS.now.2 z hz).1
    -- the terms are equal, the target, the form
    obtain ⟨⟨dx, gg, io⟩, ett, _⟩ := id FA
    obtain ⟨⟨dg, ig⟩, _⟩ := id kG.now
    refine ⟨.ref o, rfl, o, dx, _, rfl, io, o, dx, tt, g, gg, rfl, io, .ref S, rfl, S, _, rfl, .inl ⟨SqL.of kS.now.1, fun q1 hq1 => ?_⟩⟩
    have s1 := same_new (o := .tup (ts.map tV)) hq1
    have e1 : (upd H9 q1 (.tup (ts.map tV))) q1 = some (.tup (ts.map tV)) := upd_same
    generalize upd H9 q1 (.tup (ts.map tV)) = I1 at s1 e1 ⊢
    refine ⟨tt, q1, _, rfl, rfl, SqT.of (s1 _ _ ett), SqT.of e1, (fun v hv => ?_), ⟨false, rfl, iteF ?_⟩⟩
    · obtain ⟨z, _, rfl⟩ := List.mem_map.mp hv
      exact .inr ⟨_, rfl⟩
    refine ⟨.ref o, rfl, o, dx, _, rfl, s1 _ _ io, o, dx, tt, g, gg, rfl, s1 _ _ io, .ref g, rfl, g, dg, _, g, dg, _, rfl, rfl, s1 _ _ ig, s1 _ _ ig, .inl ⟨g, gt, gr, g, gt, gr, b, b, ns, ns, gks, gks, rfl, (kG.same s1).now, (kG.same s1).now, n60, n60, eqSch b b ns ns gks gks, rfl, eqSch b b ns ns gks gks, rfl, iteFB (by rw [eqSch_self]; rfl) ?_⟩⟩
    refine ⟨.ref o, rfl, .ref S, rfl, S, _, rfl, .inl ⟨SqL.of (kS.same s1).now.1, fun q2 hq2 => ?_⟩⟩
    have s2 := s1.trans (same_new (o := .tup (ts.map tV)) hq2)
    have e2 : (upd I1 q2 (.tup (ts.map tV))) q2 = some (.tup (ts.map tV)) := upd_same
    generalize upd I1 q2 (.tup (ts.map tV)) = I2 at s2 e2 ⊢
    refine ⟨.ref g, rfl, rfl, rfl, ?_⟩
    refine fun o2 dx2 ho2 hd2 _ => form_ok (.inr e2) lt1 lt2 (fun z hz => ((kS.same s2).now.2 z hz).1) ((kG.same s2).now) n60 al ho2 hd2 fun tt2 I3 s3 FA2 => ?_
    have s3 := s2.trans s3
    obtain ⟨⟨dx2', gg2, io2⟩, _⟩ := id FA2
    refine ⟨o, dx, _, o2, dx2', _, rfl, rfl, s3 _ _ io, io2, .inl ⟨o, tt, o2, tt2, ts, ts, g, gt, gr, g, gt, gr, b, b, ns, ns, gks, gks, rfl, FA.same s3, FA2, _, rfl, _, rfl, iteFB (by rw [tself, eqSch_self]; rfl) ?_⟩⟩
    clear e1 e2 s1 s2 hq1 hq2 io2 FA2 ho2 hd2
    have FA := FA.same s3
    have kM := kM.same s3
    have kS := kS.same s3
    have kG := kG.same s3
    have B9 := B9.same s3
    have T9 := T9.trans (But.of_same s3)
    have io := s3 _ _ io
    clear s3
    -- another target
    refine ⟨.ref a, rfl, .int (2 + z0), rfl, a, 510, 2 + z0, rfl, B9, by decide, sz2.1, sz2.2, fun m2 b2 ns2 ps2 J1 hb2 t1 B1 G2 Mo2 => ?_⟩
    obtain ⟨dl2, pl2, ks2, ek2, _, mo2⟩ := Mo2
    refine ⟨m2, dl2, pl2, b2, ns2, ks2, rfl, mo2 J1 But.refl, by rw [ek2]; exact G2, fun h J2 s2 IS => ?_⟩
    obtain ⟨_, ht, hr_, hks, eh, SH⟩ := IS
    have t2 := t1.trans (But.of_same s2)
    have FA := kp_form B9 FA J2 t2
    have kM := kM.but t2
    have kS := kS.but t2
    have kG := kG.but t2
    have T9 := T9.trans t2
    have io := t2 _ _ (insne B9 io) io
    have B9 := B1.same s2
    clear t1 t2 s2 mo2 B1
    have n602 : ns2.length ≤ 60 := by have := G2.six; omega
    have al2 : ∀ z ∈ ts, z.b.natAbs = b2.natAbs := fun z hz => by rw [al z hz, hb, hb2]
    refine ⟨.ref o, rfl, .ref S, rfl, .ref h, rfl, rfl, rfl, ?_⟩
    refine fun o2 dx2 ho2 hd2 _ => form_ok (.inl kS.now.1) lt1 lt2 (fun z hz => (kS.now.2 z hz).1) SH n602 al2 ho2 hd2 fun tt2 I3 s3 FA2 => ?_
    obtain ⟨⟨dx2', gg2, io2⟩, _⟩ := id FA2
    have FA := FA.same s3
    have kM := kM.same s3
    have kS := kS.same s3
    have kG := kG.same s3
    have SH := SH.same s3
    have B9 := B9.same s3
    have T9 := T9.trans (But.of_same s3)
    have io := s3 _ _ io
    clear s3
    obtain ⟨⟨dg, ig⟩, _⟩ := id kG.now
    obtain ⟨⟨dh, ih⟩, _⟩ := id SH
    have ett := FA.tms
    refine ⟨o, dx, _, o2, dx2', _, rfl, rfl, io, io2, .inl ⟨o, tt, o2, tt2, ts, ts, g, gt, gr, h, ht, hr_, b, b2, ns, ns2, gks, hks, rfl, FA, FA2, _, rfl, ?_⟩⟩
    refine ⟨.ref g, rfl, .ref h, rfl, g, dg, _, h, dh, _, rfl, rfl, ig, ih, .inl ⟨g, gt, gr, h, ht, hr_, b, b2, ns, ns2, gks, hks, rfl, kG.now, SH, n60, n602, eqSch b b2 ns ns2 gks hks, rfl, ?_⟩⟩
    refine ⟨rfl, _, rfl, iteFB (by rw [tself, Bool.true_and]; exact (show (!decide (V.bl (eqSch b b2 ns ns2 gks hks) = V.bl (eqSch b b2 ns ns2 gks hks))) = false by rw [decide_eq_true rfl]; rfl)) ?_⟩
    refine ⟨.ref o, rfl, .ref g, rfl, o, dx, _, g, dg, _, rfl, rfl, io, ig, .inr ⟨o, .ref g, rfl, ⟨.ref C, .base (.ins ig IC.cl IC.ha IC.hn IC.ht IC.hm), nC⟩, false, rfl, false, rfl, iteF ?_⟩⟩
    refine ⟨.ref o, rfl, .ref o, rfl, o, dx, _, rfl, io, o, dx, tt, g, gg, rfl, io, o, dx, _, rfl, io, .inr ⟨tt, _, rfl, ett⟩, .inr ⟨o, .ref tt, rfl, ⟨_, .base (.tup ett), nT⟩, false, rfl, false, rfl, iteF ?_⟩⟩
    clear io2 FA2 ho2 hd2 SH ih al2 n602 eh hb2 G2
    -- the other way round
    refine ⟨.ref o, rfl, .ref S, rfl, S, _, rfl, SqL.of kS.now.1, fun q1 hq1 => ?_⟩
    rw [← List.map_reverse]
    have s1 := same_new (o := .lst (ts.reverse.map tV)) hq1
    have e1 : (upd I3 q1 (.lst (ts.reverse.map tV))) q1 = some (.lst (ts.reverse.map tV)) := upd_same
    generalize upd I3 q1 (.lst (ts.reverse.map tV)) = J3 at s1 e1 ⊢
    have rmem : ∀ z ∈ ts.reverse, z ∈ ts := fun z hz => List.mem_reverse.mp hz
    refine ⟨.ref g, rfl, rfl, rfl, ?_⟩
    refine fun o2 dx2 ho2 hd2 _ => form_ok (ts := ts.reverse) (.inl e1) (by rw [List.length_reverse]; exact lt1) (by rw [List.length_reverse]; exact lt2) (fun z hz => ((kS.same s1).now.2 z (rmem z hz)).1) (kG.same s1).now n60 (fun z hz => al z (rmem z hz)) ho2 hd2 fun tt2 J4 s2 FA2 => ?_
    obtain ⟨⟨dx2', gg2, io2⟩, _⟩ := id FA2
    have s2 := s1.trans s2
    refine ⟨o, dx, _, o2, dx2', _, rfl, rfl, s2 _ _ io, io2, .inl ⟨o, tt, o2, tt2, ts, ts.reverse, g, gt, gr, g, gt, gr, b, b, ns, ns, gks, gks, rfl, FA.same s2, FA2, _, rfl, ?_⟩⟩
    refine ⟨.ref S, rfl, S, _, rfl, SqL.of (kS.same s2).now.1, fun q2 hq2 => ?_⟩
    rw [← List.map_reverse]
    have nq := ne_of_none (kS.same s2).now.1 hq2
    have s3 := s2.trans (same_new (o := .lst (ts.reverse.map tV)) hq2)
    have e2 : (upd J4 q2 (.lst (ts.reverse.map tV))) q2 = some (.lst (ts.reverse.map tV)) := upd_same
    generalize upd J4 q2 (.lst (ts.reverse.map tV)) = J5 at s3 e2 ⊢
    refine ⟨.ref S, rfl, (List.range ts.reverse.length).all (eI ts.reverse ts), ⟨q2, S, _, _, eI ts.reverse ts, rfl, rfl, e2, (kS.same s3).now.1, by rw [List.length_map, List.length_map, List.length_reverse], terms_P (fun z hz => ((kS.same s3).now.2 z (rmem z hz)).1) (fun z hz => ((kS.same s3).now.2 z hz).1), (fun z => absurd z.symm nq), by rw [List.length_map]⟩, rfl, _, rfl, iteFB (by rw [eqSch_self, Bool.and_true, rev_eq lt1 lt2, decide_eq_true rfl]; rfl) ?_⟩
    have FA := FA.same s3
    have kM := kM.same s3
    have kS := kS.same s3
    have kG := kG.same s3
    have B9 := B9.same s3
    have T9 := T9.trans (But.of_same s3)
    have io := s3 _ _ io
    clear s3 s2 s1 e1 e2 io2 FA2 ho2 hd2 nq hq1 hq2
    -- another number of terms
    obtain ⟨zz, mm, ezm⟩ : ∃ zz mm, ts = zz :: mm := by
      cases ts with
      | nil => exact absurd lt1 (by decide)
      | cons zz mm => exact ⟨zz, mm, rfl⟩
    have hzz : zz ∈ ts := by rw [ezm]; exact List.mem_cons_self
    refine ⟨.ref o, rfl, .ref S, rfl, 1, rfl, S, _, rfl, SqL.of kS.now.1, fun q1 hq1 => ?_⟩
    rw [show cutV (ts.map tV) none (some 1) = [zz].map tV by rw [ezm]; exact cut_one zz mm]
    have s1 := same_new (o := .lst ([zz].map tV)) hq1
    have e1 : (upd J5 q1 (.lst ([zz].map tV))) q1 = some (.lst ([zz].map tV)) := upd_same
    generalize upd J5 q1 (.lst ([zz].map tV)) = J6 at s1 e1 ⊢
    obtain ⟨kk, ekk, k1, k2⟩ : ∃ kk : Nat, (3 : Int) - ((ts.map tV).length : Int) = (kk : Int) ∧ 1 ≤ kk ∧ kk + ts.length = 3 := ⟨3 - ts.length, by rw [List.length_map]; omega, by omega, by omega⟩
    refine ⟨.ref S, rfl, S, _, rfl, .inl (SqL.of (kS.same s1).now.1), 3, _, rfl, rfl, q1, kk, _, rfl, congrArg V.int ekk, e1, by omega, by omega, ?_, fun q2 hq2 => ?_⟩
    · rw [Int.toNat_natCast]
      exact Nat.le_trans (show 1 * kk ≤ 1000 by omega) (by decide)
    rw [Int.toNat_natCast, rep_one]
    have s2 := s1.trans (same_new (o := .lst ((List.replicate kk zz).map tV)) hq2)
    have e2 : (upd J6 q2 (.lst ((List.replicate kk zz).map tV))) q2 = some (.lst ((List.replicate kk zz).map tV)) := upd_same
    generalize upd J6 q2 (.lst ((List.replicate kk zz).map tV)) = J7 at s2 e2 ⊢
    refine ⟨.ref g, rfl, rfl, rfl, ?_⟩
    refine fun o2 dx2 ho2 hd2 _ => form_ok (ts := List.replicate kk zz) (.inl e2) (by rw [List.length_replicate]; exact k1) (by rw [List.length_replicate]; omega) (fun z hz => by rw [List.eq_of_mem_replicate hz]; exact ((kS.same s2).now.2 zz hzz).1) (kG.same s2).now n60 (fun z hz => by rw [List.eq_of_mem_replicate hz]; exact al zz hzz) ho2 hd2 fun tt2 J8 s3 FA2 => ?_
    have s3 := s2.trans s3
    obtain ⟨⟨dx2', gg2, io2⟩, _⟩ := id FA2
    refine ⟨o, dx, _, o2, dx2', _, rfl, rfl, s3 _ _ io, io2, .inl ⟨o, tt, o2, tt2, ts, List.replicate kk zz, g, gt, gr, g, gt, gr, b, b, ns, ns, gks, gks, rfl, FA.same s3, FA2, _, rfl, _, rfl, iteFB (by rw [eqTs_len (by rw [List.length_replicate]; omega), Bool.false_and]) ?_⟩⟩
    have FA := FA.same s3
    have kM := kM.same s3
    have kS := kS.same s3
    have kG := kG.same s3
    have B9 := B9.same s3
    have T9 := T9.trans (But.of_same s3)
    have io := s3 _ _ io
    clear s3 s2 s1 e1 e2 io2 FA2 ho2 hd2 hq1 hq2 ekk k1 k2
    -- the first term turned
    have tz := kS.now.2 zz hzz
    have a0 : atI (ts.map tV) 0 = some (tV zz) := by rw [ezm]; exact atI_nat (j := 0) rfl
    refine ⟨.ref S, rfl, S, _, 0, tV zz, rfl, rfl, SqL.of kS.now.1, a0, zz.p, _, 0, .int zz.f, rfl, rfl, SqT.of tz.1.tup, atI_nat (j := 0) rfl, zz.f, rfl, .ref S, rfl, S, _, 0, tV zz, rfl, rfl, SqL.of kS.now.1, a0, zz.p, _, 1, .ref zz.s, rfl, rfl, SqT.of tz.1.tup, atI_nat (j := 1) rfl, (by show 2 ≤ sizeLine; decide), fun p1 hp1 => ?_⟩
    have s1 := same_new (o := .tup [.int (-zz.f), .ref zz.s]) hp1
    have e1 : (upd J8 p1 (.tup [.int (-zz.f), .ref zz.s])) p1 = some (.tup [.int (-zz.f), .ref zz.s]) := upd_same
    generalize upd J8 p1 (.tup [.int (-zz.f), .ref zz.s]) = K1 at s1 e1 ⊢
    refine ⟨(by show 1 ≤ sizeLine; decide), fun p2 hp2 => ?_⟩
    have s2 := s1.trans (same_new (o := .lst [.ref p1]) hp2)
    have e1 := same_new (o := .lst [.ref p1]) hp2 _ _ e1
    have e2 : (upd K1 p2 (.lst [.ref p1])) p2 = some (.lst [.ref p1]) := upd_same
    generalize upd K1 p2 (.lst [.ref p1]) = K2 at s2 e1 e2 ⊢
    refine ⟨.ref S, rfl, 1, rfl, S, _, rfl, SqL.of (kS.same s2).now.1, fun p3 hp3 => ?_⟩
    rw [show cutV (ts.map tV) (some 1) none = mm.map tV by rw [ezm]; exact cut_rest zz mm]
    have s3 := s2.trans (same_new (o := .lst (mm.map tV)) hp3)
    have e1 := same_new (o := .lst (mm.map tV)) hp3 _ _ e1
    have e2 := same_new (o := .lst (mm.map tV)) hp3 _ _ e2
    have e3 : (upd K2 p3 (.lst (mm.map tV))) p3 = some (.lst (mm.map tV)) := upd_same
    generalize upd K2 p3 (.lst (mm.map tV)) = K3 at s3 e1 e2 e3 ⊢
    have lmm : mm.length + 1 = ts.length := by rw [ezm]; rfl
    refine ⟨p2, p3, _, _, rfl, rfl, e2, e3, (by rw [List.length_map]; exact Nat.le_trans (show 1 + mm.length ≤ 1000 by omega) (by decide)), fun p4 hp4 => ?_⟩
    have s4 := s3.trans (same_new (o := .lst ([.ref p1] ++ mm.map tV)) hp4)
    have e1 := same_new (o := .lst ([.ref p1] ++ mm.map tV)) hp4 _ _ e1
    have e4 : (upd K3 p4 (.lst ([.ref p1] ++ mm.map tV))) p4 = some (.lst (((⟨p1, -zz.f, zz.s, zz.t, zz.r, zz.b, zz.ds, zz.ks⟩ : TD) :: mm).map tV)) := upd_same
    generalize upd K3 p4 (.lst ([.ref p1] ++ mm.map tV)) = K4 at s4 e1 e4 ⊢
    obtain ⟨fn, fne⟩ := fac_neg tz.1.fac
    have tz4 := ((kS.same s4).now.2 zz hzz).1
    have tn : TermAt C K4 ⟨p1, -zz.f, zz.s, zz.t, zz.r, zz.b, zz.ds, zz.ks⟩ := ⟨e1, fn, tz4.sch, tz4.few, tz4.bas⟩
    have mmem : ∀ z ∈ mm, z ∈ ts := fun z hz => by rw [ezm]; exact List.mem_cons_of_mem _ hz
    refine ⟨.ref o, rfl, .ref p4, rfl, .ref g, rfl, rfl, rfl, ?_⟩
    refine fun o2 dx2 ho2 hd2 _ => form_ok (.inl e4) (by show 1 ≤ mm.length + 1; omega) (by show mm.length + 1 ≤ 2; omega) (fun z hz => ?_) (kG.same s4).now n60 (fun z hz => ?_) ho2 hd2 fun tt2 K5 s5 FA2 => ?_
    · rcases List.mem_cons.mp hz with rfl | hz
      · exact tn
      · exact ((kS.same s4).now.2 z (mmem z hz)).1
    · rcases List.mem_cons.mp hz with rfl | hz
      · exact al zz hzz
      · exact al z (mmem z hz)
    have s5 := s4.trans s5
    obtain ⟨⟨dx2', gg2, io2⟩, _⟩ := id FA2
    refine ⟨o, dx, _, o2, dx2', _, rfl, rfl, s5 _ _ io, io2, .inl ⟨o, tt, o2, tt2, ts, _, g, gt, gr, g, gt, gr, b, b, ns, ns, gks, gks, rfl, FA.same s5, FA2, _, rfl, _, rfl, iteFB (by rw [ezm, eqTs, eqT, fne, Bool.false_and, Bool.false_and, Bool.false_and]) ?_⟩⟩
    have FA := FA.same s5
    have kM := kM.same s5
    have kS := kS.same s5
    have kG := kG.same s5
    have B9 := B9.same s5
    have T9 := T9.trans (But.of_same s5)
    clear s5 s4 s3 s2 s1 e1 e2 e3 e4 io2 FA2 ho2 hd2 tn tz4 tz io
    -- values
    refine ⟨.ref a, rfl, .ref o, rfl, .ref D, rfl, a, o, D, tt, g, gt, gr, _, ms, ts, b, ns, gks, rfl, B9, by decide, l12.1, l12.2, MM, nD, kM.now.1, kM.now.2, FA, (fun z hz => (kS.now.2 z hz).2.dg), fun K6 t6 B10 => ?_⟩
    refine ⟨true, rfl, iteF ?_⟩
    have kS := kS.but t6
    have kG := kG.but t6
    have T10 := T9.trans t6
    clear kM FA T9 B9 t6
    -- spoilt once or twice
    refine ⟨.ref a, rfl, a, 2, 1610, rfl, B10, by decide, by decide, by decide, fun w0 H1 w1 w2 t1 B1 => ?_⟩
    refine ⟨1, w0, rfl, rfl, _, rfl, by omega, by omega, ?_⟩
    have kS := kS.but t1
    have kG := kG.but t1
    have T10 := T10.trans t1
    clear B10 t1
    refine for_range (lo := 0) (n := (1 + w0).toNat) (fun i σ H' => (∃ (x y : V) (v9 v10 : Option V), σ = [some (.ref a), some (.int (2 + z0)), some (.ref D), some x, some y, some (.ref L), some (.ref o), some (.ref h), some (.ref p4), v9, v10, none, none, none, none, none, none, none] ∧ Kp a H' (fun H2 => XOk (kq i) C H2 x ∧ GoalOk C H2 y)) ∧ But a H1 H' ∧ Box (1611 + 60 * i) H' a)
      ⟨⟨.ref S, .ref g, none, none, rfl, fun H2 u => ⟨.inr (.inr ⟨S, _, rfl, (kS H2 u).1, by rw [List.length_map]; exact lt2, fun v hv => ?_⟩), .inr ⟨g, gt, gr, b, ns, gks, rfl, kG H2 u, n60⟩⟩⟩, But.refl, B1.mono (by decide)⟩ ?_ ?_
    · obtain ⟨z, hz, rfl⟩ := List.mem_map.mp hv
      exact .inl ⟨z, rfl, (kS H2 u).2 z hz⟩
    · rintro i σ H2 hi ⟨⟨x, y, v9, v10, rfl, kX⟩, t2, B2⟩
      have i1 : i ≤ 1 := by omega
      have skip : ∀ (H3 : Hp) (v10' : Option V), Same H2 H3 → (∃ (x0 y0 : V) (v9 v10 : Option V), [some (V.ref a), some (.int (2 + z0)), some (.ref D), some x, some y, some (.ref L), some (.ref o), some (.ref h), some (.ref p4), some (.int (0 + i)), v10', none, none, none, none, none, none, none] = [some (.ref a), some (.int (2 + z0)), some (.ref D), some x0, some y0, some (.ref L), some (.ref o), some (.ref h), some (.ref p4), v9, v10, none, none, none, none, none, none, none] ∧ Kp a H3 (fun H2 => XOk (kq (i + 1)) C H2 x0 ∧ GoalOk C H2 y0)) ∧ But a H1 H3 ∧ Box (1611 + 60 * ((i + 1 : Nat) : Int)) H3 a :=
        fun H3 v10' s3 => ⟨⟨x, y, _, _, rfl, (kX.same s3).imp fun H' q => ⟨q.1.mono (kq_le i1).2, q.2⟩⟩, t2.trans (But.of_same s3), (B2.same s3).mono (by omega)⟩
      have sh : (∃ ty, TyX K H2 x ty ∧ PySem.W.kitOne K ty (.type "list") = some false) ∨ ∃ (l : Addr) (xs : List V), x = .ref l ∧ H2 l = some (.lst xs) ∧ xs.length ≤ kq i ∧ ∀ z ∈ xs, ItemS C H2 z := by
        rcases kX.now.1 with n | n | n
        · exact .inl (no_list (.inl n))
        · exact .inl (no_list (.inr n))
        · exact .inr n
      rcases sh with ⟨ty, tx, kt⟩ | ⟨l, xs, rfl, el, fewl, hxs⟩
      · refine ⟨x, rfl, x, .ty "list", ty, .type "list", false, rfl, .ty _, tx, kt, false, rfl, iteF ⟨(by show 0 ≤ sizeLine; decide), fun G hG => ?_⟩⟩
        have s3 := same_new (o := .lst []) hG
        have eG : (upd H2 G (.lst [])) G = some (.lst []) := upd_same
        generalize upd H2 G (.lst []) = H3 at s3 eG ⊢
        refine ⟨.ref G, rfl, (by show 0 ≤ sizeLine; decide), fun N hN => ?_⟩
        have s4 := same_new (o := .lst []) hN
        exact ⟨G, N, [], rfl, rfl, SqL.of (s4 _ _ eG), SqL.of upd_same, _, rfl, iteFB rfl (skip _ _ (s3.trans s4))⟩
      · refine ⟨.ref l, rfl, .ref l, .ty "list", .type "list", .type "list", true, rfl, .ty _, .base (.lst el), kit_ty (by decide +kernel), true, rfl, iteT ?_⟩
        have f18 := kq_18 i
        refine ⟨.ref l, rfl, l, rfl, ⟨_, SqL.of el⟩, fun G hG => ?_⟩
        refine lc_list (K := K) (a := l) (xs := xs) (fun i H' => Same H2 H' ∧ ∃ gs : List V, H' G = some (.lst gs) ∧ gs.length ≤ i ∧ (gs.length = i → ∀ u ∈ xs.take i, ∃ z : TD, u = tV z ∧ TermG C H2 z)) ⟨same_new hG, [], upd_same, Nat.le_refl _, fun _ u hu => by simp at hu⟩ (fun i H' _ h => SqL.of (h.1 _ _ el)) ?_ ?_
        · rintro j u H3 hu ⟨s3, gs, eG, lg, hg⟩
          have hj := (List.getElem?_eq_some_iff.mp hu).1
          have tk : xs.take (j + 1) = xs.take j ++ [u] := by rw [List.take_succ, hu]; rfl
          rcases hxs u (List.mem_of_getElem? hu) with ⟨z, rfl, hz⟩ | bad
          · refine ⟨rfl, tV z, rfl, tV z, rfl, .inl ⟨(hz.1.same s3).ok, fun H4 s4 => ⟨true, rfl, iteT ⟨tV z, rfl, gs, s4 _ _ eG, small1000 (by omega), Same.store (s3.trans s4) hG, gs ++ [tV z], upd_same, by rw [List.length_append]; show gs.length + 1 ≤ j + 1; omega, fun e u hu2 => ?_⟩⟩⟩⟩
            rw [List.length_append] at e
            rw [tk] at hu2
            rcases List.mem_append.mp hu2 with k | k
            · exact hg (by have : gs.length + 1 = j + 1 := e; omega) u k
            · cases List.mem_singleton.mp k
              exact ⟨z, rfl, hz⟩
          · exact ⟨rfl, u, rfl, u, rfl, .inr ⟨bad.same s3, fun H4 s4 => ⟨false, rfl, iteF ⟨s3.trans s4, gs, s4 _ _ eG, by omega, fun e => by omega⟩⟩⟩⟩
        rintro H3 ⟨s3, gs, eG, lg, hg⟩
        rw [List.take_length] at hg
        refine ⟨.ref G, rfl, (by show 0 ≤ sizeLine; decide), fun N hN => ?_⟩
        have s4 := same_new (o := .lst []) hN
        have eN : (upd H3 N (.lst [])) N = some (.lst []) := upd_same
        have eG := s4 _ _ eG
        generalize upd H3 N (.lst []) = H4 at s4 eG eN ⊢
        have s4 := s3.trans s4
        refine ⟨G, N, gs, rfl, rfl, SqL.of eG, SqL.of eN, _, rfl, ?_⟩
        by_cases hgs : gs = []
        · exact iteFB (by rw [hgs]; rfl) (skip _ _ s4)
        refine iteTB (by rw [List.isEmpty_eq_false_iff.mpr hgs]; rfl) ?_
        have lg1 : 1 ≤ gs.length := by
          cases gs with
          | nil => exact absurd rfl hgs
          | cons _ _ => exact Nat.succ_le_succ (Nat.zero_le _)
        refine ⟨.ref G, rfl, G, _, rfl, .inl (SqL.of eG), .ref l, rfl, l, _, rfl, .inl (SqL.of (s4 _ _ el)), rfl, _, rfl, ?_⟩
        by_cases hc : gs.length = xs.length
        case neg => exact iteFB (decide_eq_false fun e => hc (by have := V.int.inj e; omega)) (skip _ _ s4)
        refine iteTB (by rw [hc]; exact decide_eq_true rfl) ?_
        obtain ⟨us, rfl, hus⟩ := all_terms (hg hc)
        rw [List.length_map] at fewl hc
        have k6 := (kq_le i1).1
        have B4 := B2.same s4
        refine ⟨.ref a, rfl, .ref l, rfl, y, rfl, a, l, y, 1611 + 60 * i, us, rfl, B4, by omega, by omega, by omega, kp_terms B4 (kX.same s4) (s4 _ _ el) (fun z hz => ⟨(hus z hz).1.same s4, (hus z hz).2⟩), (kX.same s4).imp (fun H' q => q.2), fun R x' y' H5 t5 B5 eR kX5 => ?_⟩
        refine ⟨R, _, rfl, SqL.of eR, rfl, x', _, rfl, y', [], rfl, rfl, ?_⟩
        exact ⟨⟨x', y', _, _, rfl, kX5.imp fun H' q => ⟨q.1.mono (kq_up i1 fewl (Nat.le_refl _)), q.2⟩⟩, (t2.trans (But.of_same s4)).trans t5, B5.mono (by omega)⟩
    rintro σ H2 ⟨⟨x, y, v9, v10, rfl, kX⟩, t2, B2⟩
    have T11 := T10.trans t2
    obtain ⟨v, due⟩ := due_of kX.now.1 kX.now.2
    clear kX kS kG
    refine ⟨x, rfl, y, rfl, x, y, v, rfl, due, fun l1 H3 s3 tl1 => ⟨x, rfl, y, rfl, x, y, v, rfl, due.same s3, fun l2 H4 s4 tl2 => ⟨.ref l1, .ref l2, rfl, ?_⟩⟩⟩
    obtain ⟨xs, ys, bs, tw⟩ := tell_two IC NB (due.same (s3.trans s4)) (tl1.same s4) tl2
    have T11 := T11.trans (But.of_same (s3.trans s4))
    clear due tl1 tl2 s3 s4
    refine ⟨.ref l1, rfl, l1, rfl, ⟨_, SqL.of tw.a⟩, fun G hG => ?_⟩
    refine lc_list (K := K) (a := l1) (xs := xs) (fun i H' => Same H4 H' ∧ H' G = some (.lst (blsAt bs i))) ⟨same_new hG, upd_same⟩ (fun i H' _ h => SqL.of (h.1 _ _ tw.a)) ?_ ?_
    · rintro i u H5 hu ⟨s5, eG⟩
      obtain ⟨ty, tx, kt⟩ := tw.tx i u hu H5 s5
      have hi := (List.getElem?_eq_some_iff.mp hu).1
      have fw := tw.few
      exact ⟨rfl, tYes_if ⟨u, rfl, u, .ty "bool", ty, .type "bool", _, rfl, .ty _, tx, kt, _, eG, by rw [bls_len]; exact small1000 (by omega), Same.store s5 hG, by rw [upd_same, bls_more]⟩⟩
    rintro H5 ⟨s5, eG⟩
    have tw := tw.same s5
    have T11 := T11.trans (But.of_same s5)
    clear s5 hG
    refine ⟨.ref l1, rfl, .ref l2, rfl, true, tw.eq, true, rfl, iteT ?_⟩
    refine ⟨.ref G, rfl, .ref l2, rfl, l2, rfl, ⟨_, SqL.of tw.b⟩, fun G2 hG2 => ?_⟩
    refine lc_list (K := K) (a := l2) (xs := ys) (fun i H' => Same H5 H' ∧ H' G2 = some (.lst (blsAt bs i))) ⟨same_new hG2, upd_same⟩ (fun i H' _ h => SqL.of (h.1 _ _ tw.b)) ?_ ?_
    · rintro i u H6 hu ⟨s6, eG2⟩
      obtain ⟨ty, tx, kt⟩ := tw.ty i u hu H6 s6
      have hi := (List.getElem?_eq_some_iff.mp hu).1
      have fw := tw.few
      have le := tw.len
      exact ⟨rfl, tYes_if ⟨u, rfl, u, .ty "bool", ty, .type "bool", _, rfl, .ty _, tx, kt, _, eG2, by rw [bls_len]; exact small1000 (by omega), Same.store s6 hG2, by rw [upd_same, bls_more]⟩⟩
    rintro H6 ⟨s6, eG2⟩
    rw [← tw.len] at eG2
    exact ⟨true, ⟨G, G2, _, _, fun _ => true, rfl, rfl, s6 _ _ eG, eG2, rfl, bls_pr bs _ _, fun _ => rfl, (all_true fun _ _ => rfl).symm⟩, q H6 (T11.trans (But.of_same s6))⟩
end
end K31
namespace K31
open PySem PySem.Spec PyProof.Rows L2 OF
abbrev sFig : Stmt := inClass (topS 2) 0
abbrev sInBase : Stmt := inClass (topS 3) 0
abbrev sInDig : Stmt := inClass (topS 4) 0
abbrev sInBars : Stmt := inClass (topS 5) 0
abbrev sInRow : Stmt := inClass (topS 6) 0
abbrev sInTerms : Stmt := inClass (topS 8) 0
abbrev sInTerm : Stmt := inClass (topS 9) 0
abbrev sInRows : Stmt := inClass (topS 10) 0
abbrev sUnl : Stmt := inClass (topS 12) 0
abbrev sNotS : Stmt := inClass (topS 13) 0
section
variable {P : Program} {w : World} {K : PySem.W.Frag} {mg : Str → Option Value} {base : Heap}

/-- no built-in kind is below an own class -/
theorem notK_of {C : Addr} (ty : PySem.W.typeIn K (.ref C) = some (.type "type")) (ic : PySem.W.isClsIn K C = true) : NotK K C := by
  have ic2 : (PySem.W.clsIn K C).isSome = true := ic
  have one : ∀ (T : String) (l : List Value), fastBuiltinMro T = some l → l.contains (.ref C) = false → PySem.W.kitOne K (.type T) (.ref C) = some false := fun T l h hl => by
    unfold PySem.W.kitOne
    split
    · rename_i e
      have e2 : Value.type T = Value.ref C := eq_of_beq e
      cases e2
    · unfold PySem.W.kitCls
      simp only [ty, ic2, beq_self_eq_true, Bool.and_self, if_true]
      show (fastBuiltinMro T).map (·.contains (Value.ref C)) = some false
      rw [h, Option.map_some, hl]
  exact ⟨one "NoneType" _ rfl rfl, one "bool" _ rfl rfl, one "int" _ rfl rfl, one "str" _ rfl rfl, one "list" _ rfl rfl, one "tuple" _ rfl rfl, one "dict" _ rfl rfl⟩
theorem exm_off {S D : Addr} (h1 : PySem.W.subIn K (.ref D) (.type "BaseException") = some true) (h2 : PySem.W.isClsIn K D = true) (h3 : PySem.W.typeIn K (.ref D) = some (.type "type")) (h4 : PySem.W.subIn K (.ref S) (.ref D) = some false) (h5 : PySem.W.subIn K (.ref S) (.ref S) = some true) : PySem.W.exmOne K (.ref S) (.ref D) = some false :=
  exm_other h1 h2 h3 h4 fun e => by
    subst e
    rw [h4] at h5
    cases h5

/-- an own class is not below another, nor below a built-in kind -/
theorem kit_off {S D : Addr} (h2 : PySem.W.isClsIn K D = true) (h3 : PySem.W.typeIn K (.ref D) = some (.type "type")) (h4 : PySem.W.subIn K (.ref S) (.ref D) = some false) (h5 : PySem.W.subIn K (.ref S) (.ref S) = some true) : PySem.W.kitOne K (.ref S) (.ref D) = some false := by
  have h2' : (PySem.W.clsIn K D).isSome = true := h2
  unfold PySem.W.kitOne
  split
  · rename_i e
    have e2 : Value.ref S = Value.ref D := eq_of_beq e
    cases e2
    rw [h4] at h5
    cases h5
  · unfold PySem.W.kitCls
    simp only [h3, h4, h2', beq_self_eq_true, Bool.and_self, if_true]
theorem kit_offT {S : Addr} {T : String} (hm : PySem.W.kitMeta T = true) (h : PySem.W.subIn K (.ref S) (.type T) = some false) : PySem.W.kitOne K (.ref S) (.type T) = some false := by
  unfold PySem.W.kitOne
  split
  · rename_i e
    have e2 : Value.ref S = Value.type T := eq_of_beq e
    cases e2
  · unfold PySem.W.kitCls
    simp only [hm, if_true]
    exact h
theorem scFig : FnScope ["self", "text"] ["self", "text"] (defScope sFig) := ⟨rfl, rfl, rfl, by decide +kernel, rfl, by decide +kernel, by decide +kernel⟩
theorem ok_fig {f : Addr} {fd : FuncData} (F : Fun K "__init__" "FigureError.__init__" sFig f fd) (mV : mg "ValueError" = none) (vV : PySem.W.findCls K (.type "ValueError") (.type "type") "__init__" = some (.val (.builtin "ValueError.__init__"))) :
    FnOk P w K mg base CX0 1 f fd ["self", "text"] (spFig K) := by
  refine F.ok scFig (fun vs H Q E h => ?_) (fun cdv A outer s H vs Q E hr h => ?_)
  · obtain ⟨a, C, v, nm, rfl, _⟩ := h
    rfl
  · obtain ⟨a, C, v, nm, rfl, T, N, ha, q⟩ := h
    refine ⟨_, pss_cons (ps_expr (pe_veinit (by rfl) mV vV (pa_cons (pv 0) (pa_cons (pv 1) pa_nil)))) (pss_one (ps_ost (pv 0) (pe_cname (pv 0)))), ?_⟩
    exact ⟨.ref a, rfl, v, rfl, a, C, [v], rfl, (by show 1 ≤ 1000; decide), T, ha, .ref a, rfl, a, C, nm, rfl, ha, N, .ref a, rfl, a, C, rfl, T, N.no, .inl ⟨ha, fun d hd nd => q d hd nd⟩⟩
theorem sc_InvalidBase : FnScope ["self", "value"] ["self", "value"] (defScope sInBase) := ⟨rfl, rfl, rfl, by decide +kernel, rfl, by decide +kernel, by decide +kernel⟩
theorem ok_InvalidBase {f f0 C C0 : Addr} {fd fd0 : FuncData} (F : Fun K "__init__" "InvalidBase.__init__" sInBase f fd) (F0 : Fun K "__init__" "FigureError.__init__" sFig f0 fd0) (T0 : FigC K mg C0 f0) (b0 : Binds K fd0 ["self", "text"] []) (T : ErrC K mg "InvalidBase" "value" C f)
    (mV : mg "ValueError" = none) (vV : PySem.W.findCls K (.type "ValueError") (.type "type") "__init__" = some (.val (.builtin "ValueError.__init__"))) :
    FnOk P w K mg base CX0 2 f fd ["self", "value"] (spInit K "value" C) := by
  have G0 : FnOk P w K mg base CX0 1 f0 fd0 ["self", "text"] (spFig K) := ok_fig F0 mV vV
  refine F.ok sc_InvalidBase (fun vs H Q E h => ?_) (fun cdv A outer s H vs Q E hr h => ?_)
  · obtain ⟨a, v, rfl, _⟩ := h
    rfl
  · obtain ⟨a, v, rfl, ha, q⟩ := h
    refine ⟨_, pss_cons (ps_expr (pe_unb G0 hr (by rfl) T0.g T0.rd T0.val T0.kp b0 pass0 (pa_cons (pv 0) (pa_cons pe_str pa_nil)))) (pss_one (ps_ost (pv 0) (pv 1))), ?_⟩
    obtain ⟨nm, N⟩ := T.nam
    refine ⟨.ref a, rfl, a, C, _, nm, rfl, T.ox, N, ha, fun d hd nd => ?_⟩
    refine ⟨v, rfl, .ref a, rfl, a, C, rfl, T.ox, T.no, .inr ⟨d, _, upd_same, by rw [upd_ne nd]; exact upd_same, (by show 1 ≤ 900; decide), ?_⟩⟩
    rw [upd_swap nd]
    exact q _ d hd nd

theorem sc_InvalidDigits : FnScope ["self", "value"] ["self", "value"] (defScope sInDig) := ⟨rfl, rfl, rfl, by decide +kernel, rfl, by decide +kernel, by decide +kernel⟩
theorem ok_InvalidDigits {f f0 C C0 : Addr} {fd fd0 : FuncData} (F : Fun K "__init__" "InvalidDigits.__init__" sInDig f fd) (F0 : Fun K "__init__" "FigureError.__init__" sFig f0 fd0) (T0 : FigC K mg C0 f0) (b0 : Binds K fd0 ["self", "text"] []) (T : ErrC K mg "InvalidDigits" "value" C f)
    (mV : mg "ValueError" = none) (vV : PySem.W.findCls K (.type "ValueError") (.type "type") "__init__" = some (.val (.builtin "ValueError.__init__"))) :
    FnOk P w K mg base CX0 2 f fd ["self", "value"] (spInit K "value" C) := by
  have G0 : FnOk P w K mg base CX0 1 f0 fd0 ["self", "text"] (spFig K) := ok_fig F0 mV vV
  refine F.ok sc_InvalidDigits (fun vs H Q E h => ?_) (fun cdv A outer s H vs Q E hr h => ?_)
  · obtain ⟨a, v, rfl, _⟩ := h
    rfl
  · obtain ⟨a, v, rfl, ha, q⟩ := h
    refine ⟨_, pss_cons (ps_expr (pe_unb G0 hr (by rfl) T0.g T0.rd T0.val T0.kp b0 pass0 (pa_cons (pv 0) (pa_cons pe_str pa_nil)))) (pss_one (ps_ost (pv 0) (pv 1))), ?_⟩
    obtain ⟨nm, N⟩ := T.nam
    refine ⟨.ref a, rfl, a, C, _, nm, rfl, T.ox, N, ha, fun d hd nd => ?_⟩
    refine ⟨v, rfl, .ref a, rfl, a, C, rfl, T.ox, T.no, .inr ⟨d, _, upd_same, by rw [upd_ne nd]; exact upd_same, (by show 1 ≤ 900; decide), ?_⟩⟩
    rw [upd_swap nd]
    exact q _ d hd nd

theorem sc_InvalidBars : FnScope ["self", "value"] ["self", "value"] (defScope sInBars) := ⟨rfl, rfl, rfl, by decide +kernel, rfl, by decide +kernel, by decide +kernel⟩
theorem ok_InvalidBars {f f0 C C0 : Addr} {fd fd0 : FuncData} (F : Fun K "__init__" "InvalidBars.__init__" sInBars f fd) (F0 : Fun K "__init__" "FigureError.__init__" sFig f0 fd0) (T0 : FigC K mg C0 f0) (b0 : Binds K fd0 ["self", "text"] []) (T : ErrC K mg "InvalidBars" "value" C f)
    (mV : mg "ValueError" = none) (vV : PySem.W.findCls K (.type "ValueError") (.type "type") "__init__" = some (.val (.builtin "ValueError.__init__"))) :
    FnOk P w K mg base CX0 2 f fd ["self", "value"] (spInit K "value" C) := by
  have G0 : FnOk P w K mg base CX0 1 f0 fd0 ["self", "text"] (spFig K) := ok_fig F0 mV vV
  refine F.ok sc_InvalidBars (fun vs H Q E h => ?_) (fun cdv A outer s H vs Q E hr h => ?_)
  · obtain ⟨a, v, rfl, _⟩ := h
    rfl
  · obtain ⟨a, v, rfl, ha, q⟩ := h
    refine ⟨_, pss_cons (ps_expr (pe_unb G0 hr (by rfl) T0.g T0.rd T0.val T0.kp b0 pass0 (pa_cons (pv 0) (pa_cons pe_str pa_nil)))) (pss_one (ps_ost (pv 0) (pv 1))), ?_⟩
    obtain ⟨nm, N⟩ := T.nam
    refine ⟨.ref a, rfl, a, C, _, nm, rfl, T.ox, N, ha, fun d hd nd => ?_⟩
    refine ⟨v, rfl, .ref a, rfl, a, C, rfl, T.ox, T.no, .inr ⟨d, _, upd_same, by rw [upd_ne nd]; exact upd_same, (by show 1 ≤ 900; decide), ?_⟩⟩
    rw [upd_swap nd]
    exact q _ d hd nd

theorem sc_InvalidRow : FnScope ["self", "row"] ["self", "row"] (defScope sInRow) := ⟨rfl, rfl, rfl, by decide +kernel, rfl, by decide +kernel, by decide +kernel⟩
theorem ok_InvalidRow {f f0 C C0 : Addr} {fd fd0 : FuncData} (F : Fun K "__init__" "InvalidRow.__init__" sInRow f fd) (F0 : Fun K "__init__" "FigureError.__init__" sFig f0 fd0) (T0 : FigC K mg C0 f0) (b0 : Binds K fd0 ["self", "text"] []) (T : ErrC K mg "InvalidRow" "row" C f)
    (mV : mg "ValueError" = none) (vV : PySem.W.findCls K (.type "ValueError") (.type "type") "__init__" = some (.val (.builtin "ValueError.__init__"))) :
    FnOk P w K mg base CX0 2 f fd ["self", "row"] (spInit K "row" C) := by
  have G0 : FnOk P w K mg base CX0 1 f0 fd0 ["self", "text"] (spFig K) := ok_fig F0 mV vV
  refine F.ok sc_InvalidRow (fun vs H Q E h => ?_) (fun cdv A outer s H vs Q E hr h => ?_)
  · obtain ⟨a, v, rfl, _⟩ := h
    rfl
  · obtain ⟨a, v, rfl, ha, q⟩ := h
    refine ⟨_, pss_cons (ps_expr (pe_unb G0 hr (by rfl) T0.g T0.rd T0.val T0.kp b0 pass0 (pa_cons (pv 0) (pa_cons pe_str pa_nil)))) (pss_one (ps_ost (pv 0) (pv 1))), ?_⟩
    obtain ⟨nm, N⟩ := T.nam
    refine ⟨.ref a, rfl, a, C, _, nm, rfl, T.ox, N, ha, fun d hd nd => ?_⟩
    refine ⟨v, rfl, .ref a, rfl, a, C, rfl, T.ox, T.no, .inr ⟨d, _, upd_same, by rw [upd_ne nd]; exact upd_same, (by show 1 ≤ 900; decide), ?_⟩⟩
    rw [upd_swap nd]
    exact q _ d hd nd

theorem sc_InvalidTerms : FnScope ["self", "value"] ["self", "value"] (defScope sInTerms) := ⟨rfl, rfl, rfl, by decide +kernel, rfl, by decide +kernel, by decide +kernel⟩
theorem ok_InvalidTerms {f f0 C C0 : Addr} {fd fd0 : FuncData} (F : Fun K "__init__" "InvalidTerms.__init__" sInTerms f fd) (F0 : Fun K "__init__" "FigureError.__init__" sFig f0 fd0) (T0 : FigC K mg C0 f0) (b0 : Binds K fd0 ["self", "text"] []) (T : ErrC K mg "InvalidTerms" "value" C f)
    (mV : mg "ValueError" = none) (vV : PySem.W.findCls K (.type "ValueError") (.type "type") "__init__" = some (.val (.builtin "ValueError.__init__"))) :
    FnOk P w K mg base CX0 2 f fd ["self", "value"] (spInit K "value" C) := by
  have G0 : FnOk P w K mg base CX0 1 f0 fd0 ["self", "text"] (spFig K) := ok_fig F0 mV vV
  refine F.ok sc_InvalidTerms (fun vs H Q E h => ?_) (fun cdv A outer s H vs Q E hr h => ?_)
  · obtain ⟨a, v, rfl, _⟩ := h
    rfl
  · obtain ⟨a, v, rfl, ha, q⟩ := h
    refine ⟨_, pss_cons (ps_expr (pe_unb G0 hr (by rfl) T0.g T0.rd T0.val T0.kp b0 pass0 (pa_cons (pv 0) (pa_cons pe_str pa_nil)))) (pss_one (ps_ost (pv 0) (pv 1))), ?_⟩
    obtain ⟨nm, N⟩ := T.nam
    refine ⟨.ref a, rfl, a, C, _, nm, rfl, T.ox, N, ha, fun d hd nd => ?_⟩
    refine ⟨v, rfl, .ref a, rfl, a, C, rfl, T.ox, T.no, .inr ⟨d, _, upd_same, by rw [upd_ne nd]; exact upd_same, (by show 1 ≤ 900; decide), ?_⟩⟩
    rw [upd_swap nd]
    exact q _ d hd nd

theorem sc_InvalidTerm : FnScope ["self", "term"] ["self", "term"] (defScope sInTerm) := ⟨rfl, rfl, rfl, by decide +kernel, rfl, by decide +kernel, by decide +kernel⟩
theorem ok_InvalidTerm {f f0 C C0 : Addr} {fd fd0 : FuncData} (F : Fun K "__init__" "InvalidTerm.__init__" sInTerm f fd) (F0 : Fun K "__init__" "FigureError.__init__" sFig f0 fd0) (T0 : FigC K mg C0 f0) (b0 : Binds K fd0 ["self", "text"] []) (T : ErrC K mg "InvalidTerm" "term" C f)
    (mV : mg "ValueError" = none) (vV : PySem.W.findCls K (.type "ValueError") (.type "type") "__init__" = some (.val (.builtin "ValueError.__init__"))) :
    FnOk P w K mg base CX0 2 f fd ["self", "term"] (spInit K "term" C) := by
  have G0 : FnOk P w K mg base CX0 1 f0 fd0 ["self", "text"] (spFig K) := ok_fig F0 mV vV
  refine F.ok sc_InvalidTerm (fun vs H Q E h => ?_) (fun cdv A outer s H vs Q E hr h => ?_)
  · obtain ⟨a, v, rfl, _⟩ := h
    rfl
  · obtain ⟨a, v, rfl, ha, q⟩ := h
    refine ⟨_, pss_cons (ps_expr (pe_unb G0 hr (by rfl) T0.g T0.rd T0.val T0.kp b0 pass0 (pa_cons (pv 0) (pa_cons pe_str pa_nil)))) (pss_one (ps_ost (pv 0) (pv 1))), ?_⟩
    obtain ⟨nm, N⟩ := T.nam
    refine ⟨.ref a, rfl, a, C, _, nm, rfl, T.ox, N, ha, fun d hd nd => ?_⟩
    refine ⟨v, rfl, .ref a, rfl, a, C, rfl, T.ox, T.no, .inr ⟨d, _, upd_same, by rw [upd_ne nd]; exact upd_same, (by show 1 ≤ 900; decide), ?_⟩⟩
    rw [upd_swap nd]
    exact q _ d hd nd

theorem sc_InvalidRows : FnScope ["self", "rows"] ["self", "rows"] (defScope sInRows) := ⟨rfl, rfl, rfl, by decide +kernel, rfl, by decide +kernel, by decide +kernel⟩
theorem ok_InvalidRows {f f0 C C0 : Addr} {fd fd0 : FuncData} (F : Fun K "__init__" "InvalidRows.__init__" sInRows f fd) (F0 : Fun K "__init__" "FigureError.__init__" sFig f0 fd0) (T0 : FigC K mg C0 f0) (b0 : Binds K fd0 ["self", "text"] []) (T : ErrC K mg "InvalidRows" "rows" C f)
    (mV : mg "ValueError" = none) (vV : PySem.W.findCls K (.type "ValueError") (.type "type") "__init__" = some (.val (.builtin "ValueError.__init__"))) :
    FnOk P w K mg base CX0 2 f fd ["self", "rows"] (spInit K "rows" C) := by
  have G0 : FnOk P w K mg base CX0 1 f0 fd0 ["self", "text"] (spFig K) := ok_fig F0 mV vV
  refine F.ok sc_InvalidRows (fun vs H Q E h => ?_) (fun cdv A outer s H vs Q E hr h => ?_)
  · obtain ⟨a, v, rfl, _⟩ := h
    rfl
  · obtain ⟨a, v, rfl, ha, q⟩ := h
    refine ⟨_, pss_cons (ps_expr (pe_unb G0 hr (by rfl) T0.g T0.rd T0.val T0.kp b0 pass0 (pa_cons (pv 0) (pa_cons pe_str pa_nil)))) (pss_one (ps_ost (pv 0) (pv 1))), ?_⟩
    obtain ⟨nm, N⟩ := T.nam
    refine ⟨.ref a, rfl, a, C, _, nm, rfl, T.ox, N, ha, fun d hd nd => ?_⟩
    refine ⟨v, rfl, .ref a, rfl, a, C, rfl, T.ox, T.no, .inr ⟨d, _, upd_same, by rw [upd_ne nd]; exact upd_same, (by show 1 ≤ 900; decide), ?_⟩⟩
    rw [upd_swap nd]
    exact q _ d hd nd

theorem sc_UnlikeBases : FnScope ["self", "value"] ["self", "value"] (defScope sUnl) := ⟨rfl, rfl, rfl, by decide +kernel, rfl, by decide +kernel, by decide +kernel⟩
theorem ok_UnlikeBases {f f0 C C0 : Addr} {fd fd0 : FuncData} (F : Fun K "__init__" "UnlikeBases.__init__" sUnl f fd) (F0 : Fun K "__init__" "FigureError.__init__" sFig f0 fd0) (T0 : FigC K mg C0 f0) (b0 : Binds K fd0 ["self", "text"] []) (T : ErrC K mg "UnlikeBases" "value" C f)
    (mV : mg "ValueError" = none) (vV : PySem.W.findCls K (.type "ValueError") (.type "type") "__init__" = some (.val (.builtin "ValueError.__init__"))) :
    FnOk P w K mg base CX0 2 f fd ["self", "value"] (spInit K "value" C) := by
  have G0 : FnOk P w K mg base CX0 1 f0 fd0 ["self", "text"] (spFig K) := ok_fig F0 mV vV
  refine F.ok sc_UnlikeBases (fun vs H Q E h => ?_) (fun cdv A outer s H vs Q E hr h => ?_)
  · obtain ⟨a, v, rfl, _⟩ := h
    rfl
  · obtain ⟨a, v, rfl, ha, q⟩ := h
    refine ⟨_, pss_cons (ps_expr (pe_unb G0 hr (by rfl) T0.g T0.rd T0.val T0.kp b0 pass0 (pa_cons (pv 0) (pa_cons pe_str pa_nil)))) (pss_one (ps_ost (pv 0) (pv 1))), ?_⟩
    obtain ⟨nm, N⟩ := T.nam
    refine ⟨.ref a, rfl, a, C, _, nm, rfl, T.ox, N, ha, fun d hd nd => ?_⟩
    refine ⟨v, rfl, .ref a, rfl, a, C, rfl, T.ox, T.no, .inr ⟨d, _, upd_same, by rw [upd_ne nd]; exact upd_same, (by show 1 ≤ 900; decide), ?_⟩⟩
    rw [upd_swap nd]
    exact q _ d hd nd

theorem sc_NotScheme : FnScope ["self", "value"] ["self", "value"] (defScope sNotS) := ⟨rfl, rfl, rfl, by decide +kernel, rfl, by decide +kernel, by decide +kernel⟩
theorem ok_NotScheme {f f0 C C0 : Addr} {fd fd0 : FuncData} (F : Fun K "__init__" "NotScheme.__init__" sNotS f fd) (F0 : Fun K "__init__" "FigureError.__init__" sFig f0 fd0) (T0 : FigC K mg C0 f0) (b0 : Binds K fd0 ["self", "text"] []) (T : ErrC K mg "NotScheme" "value" C f)
    (mV : mg "ValueError" = none) (vV : PySem.W.findCls K (.type "ValueError") (.type "type") "__init__" = some (.val (.builtin "ValueError.__init__"))) :
    FnOk P w K mg base CX0 2 f fd ["self", "value"] (spInit K "value" C) := by
  have G0 : FnOk P w K mg base CX0 1 f0 fd0 ["self", "text"] (spFig K) := ok_fig F0 mV vV
  refine F.ok sc_NotScheme (fun vs H Q E h => ?_) (fun cdv A outer s H vs Q E hr h => ?_)
  · obtain ⟨a, v, rfl, _⟩ := h
    rfl
  · obtain ⟨a, v, rfl, ha, q⟩ := h
    refine ⟨_, pss_cons (ps_expr (pe_unb G0 hr (by rfl) T0.g T0.rd T0.val T0.kp b0 pass0 (pa_cons (pv 0) (pa_cons pe_str pa_nil)))) (pss_one (ps_ost (pv 0) (pv 1))), ?_⟩
    obtain ⟨nm, N⟩ := T.nam
    refine ⟨.ref a, rfl, a, C, _, nm, rfl, T.ox, N, ha, fun d hd nd => ?_⟩
    refine ⟨v, rfl, .ref a, rfl, a, C, rfl, T.ox, T.no, .inr ⟨d, _, upd_same, by rw [upd_ne nd]; exact upd_same, (by show 1 ≤ 900; decide), ?_⟩⟩
    rw [upd_swap nd]
    exact q _ d hd nd


def spLaw (K : PySem.W.Frag) : Sp := fun vs H Q _ => ∃ (a : Addr) (ns : List Int), vs = [.ref a] ∧ SqL K H a (ns.map V.int) ∧ ns.length ≤ 63 ∧ ∀ H', Q (.bl true) H'
theorem scL : FnScope ["_law_script", "_law_k"] ["_law_script"] (defScope sLaw) := ⟨rfl, rfl, rfl, by decide +kernel, rfl, by decide +kernel, by decide +kernel⟩
theorem ok_law {f fC fX fR : Addr} {fd fdC fdX fdR : FuncData} (F : Fun K "law" "law" sLaw f fd)
    (FC : Fun K "_law_cell" "_law_cell" sCell fC fdC) (gC : mg "_law_cell" = some (.ref fC)) (bC : Binds K fdC ["_law_script", "_law_k"] [])
    (FX : Fun K "_law_box" "_law_box" sBox fX fdX) (gX : mg "_law_box" = some (.ref fX)) (bX : Binds K fdX ["_law_cell_here"] [])
    (GR : FnG P w K mg base 19 fR fdR ["_law_box_here"] spRight) (gR : mg "_law_right" = some (.ref fR)) (kR : PySem.W.keepIn K (.ref fR) = true) (bR : Binds K fdR ["_law_box_here"] [])
    (mi : mg "int" = none) (ml : mg "len" = none) (mr : mg "range" = none) (mx : mg "max" = none) (mn : mg "min" = none) : FnG P w K mg base 20 f fd ["_law_script"] (spLaw K) := by
  have GC : FnOk P w K mg base CX0 1 fC fdC ["_law_script", "_law_k"] (OF.spCell K) := ok_cell FC ml
  have GX : FnOk P w K mg base CX0 1 fX fdX ["_law_cell_here"] spBox := ok_box FX mi mx
  refine okG F scL (fun vs H Q E h => ?_) (fun cdv A outer s H vs Q E gu hr h => ?_)
  · obtain ⟨a, ns, rfl, _⟩ := h
    rfl
  · obtain ⟨a, ns, rfl, hS, hlen, q⟩ := h
    have hr1 : Room 1 _ := hr.mono (by decide)
    apply Exists.intro
    apply And.intro
    · apply pss_cons
      · exact ps_for PassesOwn.never rfl (pi_range1 rfl mr (pa_cons (pe_callB (call_max2 rfl) (by rfl) mx PyProof.Rows.boot_max (pa_cons pe_int (pa_cons
            (pe_callB (call_min2 rfl) (by rfl) mn PyProof.Rows.boot_min (pa_cons pe_int (pa_cons (pe_callB call_len_seq (by rfl) ml PySem.boot_len (pa_cons (pv 0) pa_nil)) pa_nil))) pa_nil))) pa_nil))
          (pg_name (i := 1) scL.nd rfl (.inl rfl))
          (pss_one (ps_if (pt_not (pt_val (pe_callG GR gu hr (by rfl) gR kR bR pass0 (pa_cons (pe_call GX hr1 (by rfl) gX FX.kp bX .nil pass0 (pa_cons (pe_call GC hr1 (by rfl) gC FC.kp bC .nil pass0 (pa_cons (pv 0) (pa_cons (pv 1) pa_nil))) pa_nil)) pa_nil))))
            (pss_one (ps_ret pe_bl)) pss_nil))
      apply pss_one
      · exact ps_ret pe_bl
    refine ⟨.ref a, rfl, a, _, rfl, .inl hS, _, _, rfl, _, _, rfl, _, rfl, ?_, ?_, for_range (lo := 0) (n := _) (fun i σ H' => ∃ v, σ = [some (.ref a), v] ∧ SqL K H' a (ns.map V.int)) ⟨none, rfl, hS⟩ ?_ ?_⟩
    · rw [List.length_map]
      split <;> split <;> omega
    · rw [List.length_map]
      split <;> split <;> omega
    · rintro i σ H' hi ⟨v, rfl, hS'⟩
      have hi' : i < 1000 := by
        rw [List.length_map] at hi
        split at hi <;> split at hi <;> omega
      refine ⟨.ref a, rfl, .int (0 + i), rfl, a, ns, i, ?_, hS', hi', fun c => ?_⟩
      · rw [Int.zero_add]
        rfl
      refine ⟨c, rfl, fun p H1 hp s1 B1 => ?_⟩
      refine ⟨p, rfl, B1, fun H2 t2 => ⟨true, rfl, iteF ?_⟩⟩
      exact ⟨some (.int (0 + i)), rfl, seq_past hp s1 t2 hS'⟩
    · rintro σ H' ⟨v, rfl, hS'⟩
      exact q H'
end
end K31
namespace K31
open PySem PySem.Spec PyProof.Rows L2 OF
set_option maxHeartbeats 4000000 in
theorem all_mk {l : PySem.W.OpenLaw} {w : World} {K : PySem.W.Frag} {h : Heap} {mg : Str → Option Value} {fa f1 f2 f3 f4 f5 f6 f7 f8 f9 f10 f11 f12 f13 f14 f15 f16 f17 f18 f19 f20 f21 f22 f23 f24 f25 f26 f27 f28 f29 f30 f31 f32 f33 f34 f35 f36 CF fF CS h1 h2 h3 h4 C1 fI1 C2 fI2 C3 fI3 C4 fI4 C5 fI5 C6 fI6 C7 fI7 C8 fI8 C9 fI9 : Addr}
    {od1 an1 od2 an2 od3 an3 od4 an4 od5 an5 od6 an6 od7 an7 od8 an8 od9 an9 od10 an10 od11 an11 od12 an12 od13 an13 od14 an14 od15 an15 od16 an16 od17 an17 od18 an18 od19 an19 od20 an20 od21 an21 od22 an22 od23 an23 od24 an24 od25 an25 od26 an26 od27 an27 od28 an28 od29 an29 od30 an30 od31 an31 od32 an32 od33 an33 od34 an34 od35 an35 od36 an36 odF anF odM1 anM1 odM2 anM2 odM3 anM3 odM4 anM4 odI1 anI1 odI2 anI2 odI3 anI3 odI4 anI4 odI5 anI5 odI6 anI6 odI7 anI7 odI8 anI8 odI9 anI9 : Option Addr}
    {sl1 sl2 sl3 sl4 sl5 sl6 sl7 sl8 sl9 sl10 sl11 sl12 sl13 sl14 sl15 sl16 sl17 sl18 sl19 sl20 sl21 sl22 sl23 sl24 sl25 sl26 sl27 sl28 sl29 sl30 sl31 sl32 sl33 sl34 sl35 sl36 slF slM1 slM2 slM3 slM4 slI1 slI2 slI3 slI4 slI5 slI6 slI7 slI8 slI9 : Array (Option Value)}
    {oc1 kV1 dc1 pm1 cd1 ct1 oc2 kV2 dc2 pm2 cd2 ct2 oc3 kV3 dc3 pm3 cd3 ct3 oc4 kV4 dc4 pm4 cd4 ct4 oc5 kV5 dc5 pm5 cd5 ct5 oc6 kV6 dc6 pm6 cd6 ct6 oc7 kV7 dc7 pm7 cd7 ct7 oc8 kV8 dc8 pm8 cd8 ct8 oc9 kV9 dc9 pm9 cd9 ct9 oc10 kV10 dc10 pm10 cd10 ct10 oc11 kV11 dc11 pm11 cd11 ct11 oc12 kV12 dc12 pm12 cd12 ct12 oc13 kV13 dc13 pm13 cd13 ct13 oc14 kV14 dc14 pm14 cd14 ct14 oc15 kV15 dc15 pm15 cd15 ct15 oc16 kV16 dc16 pm16 cd16 ct16 oc17 kV17 dc17 pm17 cd17 ct17 oc18 kV18 dc18 pm18 cd18 ct18 oc19 kV19 dc19 pm19 cd19 ct19 oc20 kV20 dc20 pm20 cd20 ct20 oc21 kV21 dc21 pm21 cd21 ct21 oc22 kV22 dc22 pm22 cd22 ct22 oc23 kV23 dc23 pm23 cd23 ct23 oc24 kV24 dc24 pm24 cd24 ct24 oc25 kV25 dc25 pm25 cd25 ct25 oc26 kV26 dc26 pm26 cd26 ct26 oc27 kV27 dc27 pm27 cd27 ct27 oc28 kV28 dc28 pm28 cd28 ct28 oc29 kV29 dc29 pm29 cd29 ct29 oc30 kV30 dc30 pm30 cd30 ct30 oc31 kV31 dc31 pm31 cd31 ct31 oc32 kV32 dc32 pm32 cd32 ct32 oc33 kV33 dc33 pm33 cd33 ct33 oc34 kV34 dc34 pm34 cd34 ct34 oc35 kV35 dc35 pm35 cd35 ct35 oc36 kV36 dc36 pm36 cd36 ct36 ocF kVF dcF pmF cdF ctF ocM1 kVM1 dcM1 pmM1 cdM1 ctM1 ocM2 kVM2 dcM2 pmM2 cdM2 ctM2 ocM3 kVM3 dcM3 pmM3 cdM3 ctM3 ocM4 kVM4 dcM4 pmM4 cdM4 ctM4 ocI1 kVI1 dcI1 pmI1 cdI1 ctI1 ocI2 kVI2 dcI2 pmI2 cdI2 ctI2 ocI3 kVI3 dcI3 pmI3 cdI3 ctI3 ocI4 kVI4 dcI4 pmI4 cdI4 ctI4 ocI5 kVI5 dcI5 pmI5 cdI5 ctI5 ocI6 kVI6 dcI6 pmI6 cdI6 ctI6 ocI7 kVI7 dcI7 pmI7 cdI7 ctI7 ocI8 kVI8 dcI8 pmI8 cdI8 ctI8 ocI9 kVI9 dcI9 pmI9 cdI9 ctI9 : Value}
    {t6 t9 tb tgf tmt : Tok}
    {hN pB pD pT pG TD DK CO CP CA CC CG gB gD hFN hFE hFV gT gG hON hAN hKN hKB hGN : Addr}
    {odPB anPB odPD anPD odFN anFN odFE anFE odFV anFV odFT anFT odFG anFG odON anON odAN anAN odKN anKN odKB anKB odGN anGN odIn anIn odT : Option Addr}
    {slPB slPD slFN slFE slFV slFT slFG slON slAN slKN slKB slGN slIn slT : Array (Option Value)}
    {ocPB kVPB dcPB pmPB cdPB ctPB ocPD kVPD dcPD pmPD cdPD ctPD ocFN kVFN dcFN pmFN cdFN ctFN ocFE kVFE dcFE pmFE cdFE ctFE ocFV kVFV dcFV pmFV cdFV ctFV ocFT kVFT dcFT pmFT cdFT ctFT ocFG kVFG dcFG pmFG cdFG ctFG ocON kVON dcON pmON cdON ctON ocAN kVAN dcAN pmAN cdAN ctAN ocKN kVKN dcKN pmKN cdKN ctKN ocKB kVKB dcKB pmKB cdKB ctKB ocGN kVGN dcGN pmGN cdGN ctGN ocIn dcIn pmIn cdIn ctIn : Value}
    {restB restD restT restG : List Value}
    {nT : Nat}
    {nm1 q1 : Str} {N1 : Addr} {bs1 : List Value} {sn1 : List Str} {sub1 : List Value} {ab1 : Bool} {col1 : Option Bool} {dd1 : Option Addr} {m01 m11 m31 m51 : Option Value} {cn1 : Str} {tkE1 : Tok}
    {nm2 q2 : Str} {N2 : Addr} {bs2 : List Value} {sn2 : List Str} {sub2 : List Value} {ab2 : Bool} {col2 : Option Bool} {dd2 : Option Addr} {m02 m12 m32 m52 : Option Value} {cn2 : Str} {tkE2 : Tok}
    {nm3 q3 : Str} {N3 : Addr} {bs3 : List Value} {sn3 : List Str} {sub3 : List Value} {ab3 : Bool} {col3 : Option Bool} {dd3 : Option Addr} {m03 m13 m33 m53 : Option Value} {cn3 : Str} {tkE3 : Tok}
    {nm4 q4 : Str} {N4 : Addr} {bs4 : List Value} {sn4 : List Str} {sub4 : List Value} {ab4 : Bool} {col4 : Option Bool} {dd4 : Option Addr} {m04 m14 m34 m54 : Option Value} {cn4 : Str} {tkE4 : Tok}
    {nm5 q5 : Str} {N5 : Addr} {bs5 : List Value} {sn5 : List Str} {sub5 : List Value} {ab5 : Bool} {col5 : Option Bool} {dd5 : Option Addr} {m05 m15 m35 m55 : Option Value} {cn5 : Str} {tkE5 : Tok}
    {nm6 q6 : Str} {N6 : Addr} {bs6 : List Value} {sn6 : List Str} {sub6 : List Value} {ab6 : Bool} {col6 : Option Bool} {dd6 : Option Addr} {m06 m16 m36 m56 : Option Value} {cn6 : Str} {tkE6 : Tok}
    {nm7 q7 : Str} {N7 : Addr} {bs7 : List Value} {sn7 : List Str} {sub7 : List Value} {ab7 : Bool} {col7 : Option Bool} {dd7 : Option Addr} {m07 m17 m37 m57 : Option Value} {cn7 : Str} {tkE7 : Tok}
    {nm8 q8 : Str} {N8 : Addr} {bs8 : List Value} {sn8 : List Str} {sub8 : List Value} {ab8 : Bool} {col8 : Option Bool} {dd8 : Option Addr} {m08 m18 m38 m58 : Option Value} {cn8 : Str} {tkE8 : Tok}
    {nm9 q9 : Str} {N9 : Addr} {bs9 : List Value} {sn9 : List Str} {sub9 : List Value} {ab9 : Bool} {col9 : Option Bool} {dd9 : Option Addr} {m09 m19 m39 m59 : Option Value} {cn9 : Str} {tkE9 : Tok}
    (X : K.In h) (G : h.Ns mainGlobals mg) (hfa : mg "law" = some (.ref fa))
    (a1 : PySem.W.nsIn K mainGlobals "is_whole" = some (some (.ref f1)))
    (l1 : K.lookup f1 = some ⟨oc1, od1, .func (PySem.W.fnOf "is_whole" "is_whole" (defArgs sWhole) (defBody sWhole) (defScope sWhole) .none kV1 dc1 pm1 an1 cd1 ct1), sl1⟩)
    (c1 : PySem.W.codeIn K cd1 "is_whole" = true)
    (k1 : PySem.W.keepIn K (.ref f1) = true)
    (a2 : PySem.W.nsIn K mainGlobals "is_integer" = some (some (.ref f2)))
    (l2 : K.lookup f2 = some ⟨oc2, od2, .func (PySem.W.fnOf "is_integer" "is_integer" (defArgs sIsInt) (defBody sIsInt) (defScope sIsInt) .none kV2 dc2 pm2 an2 cd2 ct2), sl2⟩)
    (c2 : PySem.W.codeIn K cd2 "is_integer" = true)
    (k2 : PySem.W.keepIn K (.ref f2) = true)
    (a3 : PySem.W.nsIn K mainGlobals "is_base" = some (some (.ref f3)))
    (l3 : K.lookup f3 = some ⟨oc3, od3, .func (PySem.W.fnOf "is_base" "is_base" (defArgs sIsBase) (defBody sIsBase) (defScope sIsBase) .none kV3 dc3 pm3 an3 cd3 ct3), sl3⟩)
    (c3 : PySem.W.codeIn K cd3 "is_base" = true)
    (k3 : PySem.W.keepIn K (.ref f3) = true)
    (a4 : PySem.W.nsIn K mainGlobals "is_digit" = some (some (.ref f4)))
    (l4 : K.lookup f4 = some ⟨oc4, od4, .func (PySem.W.fnOf "is_digit" "is_digit" (defArgs sIsDigit) (defBody sIsDigit) (defScope sIsDigit) .none kV4 dc4 pm4 an4 cd4 ct4), sl4⟩)
    (c4 : PySem.W.codeIn K cd4 "is_digit" = true)
    (k4 : PySem.W.keepIn K (.ref f4) = true)
    (a5 : PySem.W.nsIn K mainGlobals "are_digits" = some (some (.ref f5)))
    (l5 : K.lookup f5 = some ⟨oc5, od5, .func (PySem.W.fnOf "are_digits" "are_digits" (defArgs sAre) (defBody sAre) (defScope sAre) .none kV5 dc5 pm5 an5 cd5 ct5), sl5⟩)
    (c5 : PySem.W.codeIn K cd5 "are_digits" = true)
    (k5 : PySem.W.keepIn K (.ref f5) = true)
    (a6 : PySem.W.nsIn K mainGlobals "_is_one_of" = some (some (.ref f6)))
    (l6 : K.lookup f6 = some ⟨oc6, od6, .func (PySem.W.fnOf "_is_one_of" "_is_one_of" (defArgs sOneOf) (defBody sOneOf) (defScope sOneOf) .none kV6 dc6 pm6 an6 cd6 ct6), sl6⟩)
    (c6 : PySem.W.codeIn K cd6 "_is_one_of" = true)
    (k6 : PySem.W.keepIn K (.ref f6) = true)
    (a7 : PySem.W.nsIn K mainGlobals "_is_pair" = some (some (.ref f7)))
    (l7 : K.lookup f7 = some ⟨oc7, od7, .func (PySem.W.fnOf "_is_pair" "_is_pair" (defArgs sIsPair) (defBody sIsPair) (defScope sIsPair) .none kV7 dc7 pm7 an7 cd7 ct7), sl7⟩)
    (c7 : PySem.W.codeIn K cd7 "_is_pair" = true)
    (k7 : PySem.W.keepIn K (.ref f7) = true)
    (a8 : PySem.W.nsIn K mainGlobals "_is_digit_list" = some (some (.ref f8)))
    (l8 : K.lookup f8 = some ⟨oc8, od8, .func (PySem.W.fnOf "_is_digit_list" "_is_digit_list" (defArgs sDigList) (defBody sDigList) (defScope sDigList) .none kV8 dc8 pm8 an8 cd8 ct8), sl8⟩)
    (c8 : PySem.W.codeIn K cd8 "_is_digit_list" = true)
    (k8 : PySem.W.keepIn K (.ref f8) = true)
    (a9 : PySem.W.nsIn K mainGlobals "_different_digits" = some (some (.ref f9)))
    (l9 : K.lookup f9 = some ⟨oc9, od9, .func (PySem.W.fnOf "_different_digits" "_different_digits" (defArgs sDiffDig) (defBody sDiffDig) (defScope sDiffDig) .none kV9 dc9 pm9 an9 cd9 ct9), sl9⟩)
    (c9 : PySem.W.codeIn K cd9 "_different_digits" = true)
    (k9 : PySem.W.keepIn K (.ref f9) = true)
    (a10 : PySem.W.nsIn K mainGlobals "_different_pairs" = some (some (.ref f10)))
    (l10 : K.lookup f10 = some ⟨oc10, od10, .func (PySem.W.fnOf "_different_pairs" "_different_pairs" (defArgs sDiffPair) (defBody sDiffPair) (defScope sDiffPair) .none kV10 dc10 pm10 an10 cd10 ct10), sl10⟩)
    (c10 : PySem.W.codeIn K cd10 "_different_pairs" = true)
    (k10 : PySem.W.keepIn K (.ref f10) = true)
    (a11 : PySem.W.nsIn K mainGlobals "left_digits" = some (some (.ref f11)))
    (l11 : K.lookup f11 = some ⟨oc11, od11, .func (PySem.W.fnOf "left_digits" "left_digits" (defArgs sLeft) (defBody sLeft) (defScope sLeft) .none kV11 dc11 pm11 an11 cd11 ct11), sl11⟩)
    (c11 : PySem.W.codeIn K cd11 "left_digits" = true)
    (k11 : PySem.W.keepIn K (.ref f11) = true)
    (a12 : PySem.W.nsIn K mainGlobals "all_left_digits" = some (some (.ref f12)))
    (l12 : K.lookup f12 = some ⟨oc12, od12, .func (PySem.W.fnOf "all_left_digits" "all_left_digits" (defArgs sAllLeft) (defBody sAllLeft) (defScope sAllLeft) .none kV12 dc12 pm12 an12 cd12 ct12), sl12⟩)
    (c12 : PySem.W.codeIn K cd12 "all_left_digits" = true)
    (k12 : PySem.W.keepIn K (.ref f12) = true)
    (a13 : PySem.W.nsIn K mainGlobals "is_factor" = some (some (.ref f13)))
    (l13 : K.lookup f13 = some ⟨oc13, od13, .func (PySem.W.fnOf "is_factor" "is_factor" (defArgs sFactor) (defBody sFactor) (defScope sFactor) .none kV13 dc13 pm13 an13 cd13 ct13), sl13⟩)
    (c13 : PySem.W.codeIn K cd13 "is_factor" = true)
    (k13 : PySem.W.keepIn K (.ref f13) = true)
    (a14 : PySem.W.nsIn K mainGlobals "check_terms" = some (some (.ref f14)))
    (l14 : K.lookup f14 = some ⟨oc14, od14, .func (PySem.W.fnOf "check_terms" "check_terms" (defArgs sCheckT) (defBody sCheckT) (defScope sCheckT) .none kV14 dc14 pm14 an14 cd14 ct14), sl14⟩)
    (c14 : PySem.W.codeIn K cd14 "check_terms" = true)
    (k14 : PySem.W.keepIn K (.ref f14) = true)
    (a15 : PySem.W.nsIn K mainGlobals "is_scheme" = some (some (.ref f15)))
    (l15 : K.lookup f15 = some ⟨oc15, od15, .func (PySem.W.fnOf "is_scheme" "is_scheme" (defArgs sIsSch) (defBody sIsSch) (defScope sIsSch) .none kV15 dc15 pm15 an15 cd15 ct15), sl15⟩)
    (c15 : PySem.W.codeIn K cd15 "is_scheme" = true)
    (k15 : PySem.W.keepIn K (.ref f15) = true)
    (a16 : PySem.W.nsIn K mainGlobals "check_scheme" = some (some (.ref f16)))
    (l16 : K.lookup f16 = some ⟨oc16, od16, .func (PySem.W.fnOf "check_scheme" "check_scheme" (defArgs sCheckS) (defBody sCheckS) (defScope sCheckS) .none kV16 dc16 pm16 an16 cd16 ct16), sl16⟩)
    (c16 : PySem.W.codeIn K cd16 "check_scheme" = true)
    (k16 : PySem.W.keepIn K (.ref f16) = true)
    (a17 : PySem.W.nsIn K mainGlobals "check_rows" = some (some (.ref f17)))
    (l17 : K.lookup f17 = some ⟨oc17, od17, .func (PySem.W.fnOf "check_rows" "check_rows" (defArgs sCheckR) (defBody sCheckR) (defScope sCheckR) .none kV17 dc17 pm17 an17 cd17 ct17), sl17⟩)
    (c17 : PySem.W.codeIn K cd17 "check_rows" = true)
    (k17 : PySem.W.keepIn K (.ref f17) = true)
    (a18 : PySem.W.nsIn K mainGlobals "_law_cell" = some (some (.ref f18)))
    (l18 : K.lookup f18 = some ⟨oc18, od18, .func (PySem.W.fnOf "_law_cell" "_law_cell" (defArgs sCell) (defBody sCell) (defScope sCell) .none kV18 dc18 pm18 an18 cd18 ct18), sl18⟩)
    (c18 : PySem.W.codeIn K cd18 "_law_cell" = true)
    (k18 : PySem.W.keepIn K (.ref f18) = true)
    (a19 : PySem.W.nsIn K mainGlobals "_law_box" = some (some (.ref f19)))
    (l19 : K.lookup f19 = some ⟨oc19, od19, .func (PySem.W.fnOf "_law_box" "_law_box" (defArgs sBox) (defBody sBox) (defScope sBox) .none kV19 dc19 pm19 an19 cd19 ct19), sl19⟩)
    (c19 : PySem.W.codeIn K cd19 "_law_box" = true)
    (k19 : PySem.W.keepIn K (.ref f19) = true)
    (a20 : PySem.W.nsIn K mainGlobals "_law_take" = some (some (.ref f20)))
    (l20 : K.lookup f20 = some ⟨oc20, od20, .func (PySem.W.fnOf "_law_take" "_law_take" (defArgs sTake) (defBody sTake) (defScope sTake) .none kV20 dc20 pm20 an20 cd20 ct20), sl20⟩)
    (c20 : PySem.W.codeIn K cd20 "_law_take" = true)
    (k20 : PySem.W.keepIn K (.ref f20) = true)
    (a21 : PySem.W.nsIn K mainGlobals "_law_digits" = some (some (.ref f21)))
    (l21 : K.lookup f21 = some ⟨oc21, od21, .func (PySem.W.fnOf "_law_digits" "_law_digits" (defArgs sDigits) (defBody sDigits) (defScope sDigits) .none kV21 dc21 pm21 an21 cd21 ct21), sl21⟩)
    (c21 : PySem.W.codeIn K cd21 "_law_digits" = true)
    (k21 : PySem.W.keepIn K (.ref f21) = true)
    (a22 : PySem.W.nsIn K mainGlobals "_law_pairs" = some (some (.ref f22)))
    (l22 : K.lookup f22 = some ⟨oc22, od22, .func (PySem.W.fnOf "_law_pairs" "_law_pairs" (defArgs sPairs) (defBody sPairs) (defScope sPairs) .none kV22 dc22 pm22 an22 cd22 ct22), sl22⟩)
    (c22 : PySem.W.codeIn K cd22 "_law_pairs" = true)
    (k22 : PySem.W.keepIn K (.ref f22) = true)
    (a23 : PySem.W.nsIn K mainGlobals "_law_kin" = some (some (.ref f23)))
    (l23 : K.lookup f23 = some ⟨oc23, od23, .func (PySem.W.fnOf "_law_kin" "_law_kin" (defArgs sKin) (defBody sKin) (defScope sKin) .none kV23 dc23 pm23 an23 cd23 ct23), sl23⟩)
    (c23 : PySem.W.codeIn K cd23 "_law_kin" = true)
    (k23 : PySem.W.keepIn K (.ref f23) = true)
    (a24 : PySem.W.nsIn K mainGlobals "_law_is_row" = some (some (.ref f24)))
    (l24 : K.lookup f24 = some ⟨oc24, od24, .func (PySem.W.fnOf "_law_is_row" "_law_is_row" (defArgs sIsRow) (defBody sIsRow) (defScope sIsRow) .none kV24 dc24 pm24 an24 cd24 ct24), sl24⟩)
    (c24 : PySem.W.codeIn K cd24 "_law_is_row" = true)
    (k24 : PySem.W.keepIn K (.ref f24) = true)
    (a25 : PySem.W.nsIn K mainGlobals "_law_value" = some (some (.ref f25)))
    (l25 : K.lookup f25 = some ⟨oc25, od25, .func (PySem.W.fnOf "_law_value" "_law_value" (defArgs sValue) (defBody sValue) (defScope sValue) .none kV25 dc25 pm25 an25 cd25 ct25), sl25⟩)
    (c25 : PySem.W.codeIn K cd25 "_law_value" = true)
    (k25 : PySem.W.keepIn K (.ref f25) = true)
    (a26 : PySem.W.nsIn K mainGlobals "_law_row" = some (some (.ref f26)))
    (l26 : K.lookup f26 = some ⟨oc26, od26, .func (PySem.W.fnOf "_law_row" "_law_row" (defArgs sRow) (defBody sRow) (defScope sRow) .none kV26 dc26 pm26 an26 cd26 ct26), sl26⟩)
    (c26 : PySem.W.codeIn K cd26 "_law_row" = true)
    (k26 : PySem.W.keepIn K (.ref f26) = true)
    (a27 : PySem.W.nsIn K mainGlobals "_law_scheme" = some (some (.ref f27)))
    (l27 : K.lookup f27 = some ⟨oc27, od27, .func (PySem.W.fnOf "_law_scheme" "_law_scheme" (defArgs sScheme) (defBody sScheme) (defScope sScheme) .none kV27 dc27 pm27 an27 cd27 ct27), sl27⟩)
    (c27 : PySem.W.codeIn K cd27 "_law_scheme" = true)
    (k27 : PySem.W.keepIn K (.ref f27) = true)
    (a28 : PySem.W.nsIn K mainGlobals "_law_told" = some (some (.ref f28)))
    (l28 : K.lookup f28 = some ⟨oc28, od28, .func (PySem.W.fnOf "_law_told" "_law_told" (defArgs sTold) (defBody sTold) (defScope sTold) .none kV28 dc28 pm28 an28 cd28 ct28), sl28⟩)
    (c28 : PySem.W.codeIn K cd28 "_law_told" = true)
    (k28 : PySem.W.keepIn K (.ref f28) = true)
    (a29 : PySem.W.nsIn K mainGlobals "_law_good_term" = some (some (.ref f29)))
    (l29 : K.lookup f29 = some ⟨oc29, od29, .func (PySem.W.fnOf "_law_good_term" "_law_good_term" (defArgs sGoodT) (defBody sGoodT) (defScope sGoodT) .none kV29 dc29 pm29 an29 cd29 ct29), sl29⟩)
    (c29 : PySem.W.codeIn K cd29 "_law_good_term" = true)
    (k29 : PySem.W.keepIn K (.ref f29) = true)
    (a30 : PySem.W.nsIn K mainGlobals "_law_due" = some (some (.ref f30)))
    (l30 : K.lookup f30 = some ⟨oc30, od30, .func (PySem.W.fnOf "_law_due" "_law_due" (defArgs sDue) (defBody sDue) (defScope sDue) .none kV30 dc30 pm30 an30 cd30 ct30), sl30⟩)
    (c30 : PySem.W.codeIn K cd30 "_law_due" = true)
    (k30 : PySem.W.keepIn K (.ref f30) = true)
    (a31 : PySem.W.nsIn K mainGlobals "_law_spoilt" = some (some (.ref f31)))
    (l31 : K.lookup f31 = some ⟨oc31, od31, .func (PySem.W.fnOf "_law_spoilt" "_law_spoilt" (defArgs sSpoilt) (defBody sSpoilt) (defScope sSpoilt) .none kV31 dc31 pm31 an31 cd31 ct31), sl31⟩)
    (c31 : PySem.W.codeIn K cd31 "_law_spoilt" = true)
    (k31 : PySem.W.keepIn K (.ref f31) = true)
    (a32 : PySem.W.nsIn K mainGlobals "_law_near_rows" = some (some (.ref f32)))
    (l32 : K.lookup f32 = some ⟨oc32, od32, .func (PySem.W.fnOf "_law_near_rows" "_law_near_rows" (defArgs sNear) (defBody sNear) (defScope sNear) .none kV32 dc32 pm32 an32 cd32 ct32), sl32⟩)
    (c32 : PySem.W.codeIn K cd32 "_law_near_rows" = true)
    (k32 : PySem.W.keepIn K (.ref f32) = true)
    (a33 : PySem.W.nsIn K mainGlobals "_law_late_right" = some (some (.ref f33)))
    (l33 : K.lookup f33 = some ⟨oc33, od33, .func (PySem.W.fnOf "_law_late_right" "_law_late_right" (defArgs sLate) (defBody sLate) (defScope sLate) .none kV33 dc33 pm33 an33 cd33 ct33), sl33⟩)
    (c33 : PySem.W.codeIn K cd33 "_law_late_right" = true)
    (k33 : PySem.W.keepIn K (.ref f33) = true)
    (a34 : PySem.W.nsIn K mainGlobals "_law_values_right" = some (some (.ref f34)))
    (l34 : K.lookup f34 = some ⟨oc34, od34, .func (PySem.W.fnOf "_law_values_right" "_law_values_right" (defArgs sValues) (defBody sValues) (defScope sValues) .none kV34 dc34 pm34 an34 cd34 ct34), sl34⟩)
    (c34 : PySem.W.codeIn K cd34 "_law_values_right" = true)
    (k34 : PySem.W.keepIn K (.ref f34) = true)
    (a35 : PySem.W.nsIn K mainGlobals "_law_right" = some (some (.ref f35)))
    (l35 : K.lookup f35 = some ⟨oc35, od35, .func (PySem.W.fnOf "_law_right" "_law_right" (defArgs sRight) (defBody sRight) (defScope sRight) .none kV35 dc35 pm35 an35 cd35 ct35), sl35⟩)
    (c35 : PySem.W.codeIn K cd35 "_law_right" = true)
    (k35 : PySem.W.keepIn K (.ref f35) = true)
    (a36 : PySem.W.nsIn K mainGlobals "law" = some (some (.ref f36)))
    (l36 : K.lookup f36 = some ⟨oc36, od36, .func (PySem.W.fnOf "law" "law" (defArgs sLaw) (defBody sLaw) (defScope sLaw) .none kV36 dc36 pm36 an36 cd36 ct36), sl36⟩)
    (c36 : PySem.W.codeIn K cd36 "law" = true)
    (k36 : PySem.W.keepIn K (.ref f36) = true)
    (aF : PySem.W.nsIn K mainGlobals "FigureError" = some (some (.ref CF)))
    (rF : PySem.W.readsIn K CF (.type "type") = true)
    (gaF : PySem.W.specialIn K (.ref CF) "__getattribute__" = some (some (.builtin "type.__getattribute__")))
    (atF : PySem.W.findCls K (.ref CF) (.type "type") "__init__" = some (.val (.ref fF)))
    (lF : K.lookup fF = some ⟨ocF, odF, .func (PySem.W.fnOf "__init__" "FigureError.__init__" (defArgs sFig) (defBody sFig) (defScope sFig) .none kVF dcF pmF anF cdF ctF), slF⟩)
    (cF : PySem.W.codeIn K cdF "FigureError.__init__" = true)
    (kF : PySem.W.keepIn K (.ref fF) = true)
    (vV : PySem.W.findCls K (.type "ValueError") (.type "type") "__init__" = some (.val (.builtin "ValueError.__init__")))
    (aC1 : PySem.W.nsIn K mainGlobals "InvalidBase" = some (some (.ref C1)))
    (xC1 : K.lookup C1 = some (excClassObj nm1 q1 C1 N1 bs1 [.ref CF, .type "ValueError", .type "Exception", .type "BaseException", .type "object"] true sn1 sub1 ab1 col1 dd1 m01 m11 (some (.str cn1 tkE1)) m31 m51 "ValueError.__new__"))
    (sa1 : PySem.W.findIn K (.ref C1) "__setattr__" = some (some (.builtin "object.__setattr__")))
    (ex1 : PySem.W.subIn K (.ref C1) (.type "BaseException") = some true)
    (ty1 : PySem.W.typeIn K (.ref C1) = some (.type "type"))
    (kC1 : PySem.W.keepIn K (.ref C1) = true)
    (iC1 : PySem.W.findIn K (.ref C1) "__init__" = some (some (.ref fI1)))
    (tI1 : PySem.W.typeIn K (.ref fI1) = some (.type "function"))
    (no1 : PySem.W.findIn K (.ref C1) "value" = some none)
    (ga1 : PySem.W.findIn K (.ref C1) "__getattribute__" = some (some (.builtin "BaseException.__getattribute__")))
    (gg1 : PySem.W.findIn K (.ref C1) "__getattr__" = some none)
    (hd1 : PySem.W.hasDictIn K C1 = true)
    (sb1 : PySem.W.subIn K (.ref C1) (.ref C1) = some true)
    (ic1 : PySem.W.isClsIn K C1 = true)
    (lI1 : K.lookup fI1 = some ⟨ocI1, odI1, .func (PySem.W.fnOf "__init__" "InvalidBase.__init__" (defArgs sInBase) (defBody sInBase) (defScope sInBase) .none kVI1 dcI1 pmI1 anI1 cdI1 ctI1), slI1⟩)
    (cI1 : PySem.W.codeIn K cdI1 "InvalidBase.__init__" = true)
    (kI1 : PySem.W.keepIn K (.ref fI1) = true)
    (aC2 : PySem.W.nsIn K mainGlobals "InvalidDigits" = some (some (.ref C2)))
    (xC2 : K.lookup C2 = some (excClassObj nm2 q2 C2 N2 bs2 [.ref CF, .type "ValueError", .type "Exception", .type "BaseException", .type "object"] true sn2 sub2 ab2 col2 dd2 m02 m12 (some (.str cn2 tkE2)) m32 m52 "ValueError.__new__"))
    (sa2 : PySem.W.findIn K (.ref C2) "__setattr__" = some (some (.builtin "object.__setattr__")))
    (ex2 : PySem.W.subIn K (.ref C2) (.type "BaseException") = some true)
    (ty2 : PySem.W.typeIn K (.ref C2) = some (.type "type"))
    (kC2 : PySem.W.keepIn K (.ref C2) = true)
    (iC2 : PySem.W.findIn K (.ref C2) "__init__" = some (some (.ref fI2)))
    (tI2 : PySem.W.typeIn K (.ref fI2) = some (.type "function"))
    (no2 : PySem.W.findIn K (.ref C2) "value" = some none)
    (ga2 : PySem.W.findIn K (.ref C2) "__getattribute__" = some (some (.builtin "BaseException.__getattribute__")))
    (gg2 : PySem.W.findIn K (.ref C2) "__getattr__" = some none)
    (hd2 : PySem.W.hasDictIn K C2 = true)
    (sb2 : PySem.W.subIn K (.ref C2) (.ref C2) = some true)
    (ic2 : PySem.W.isClsIn K C2 = true)
    (lI2 : K.lookup fI2 = some ⟨ocI2, odI2, .func (PySem.W.fnOf "__init__" "InvalidDigits.__init__" (defArgs sInDig) (defBody sInDig) (defScope sInDig) .none kVI2 dcI2 pmI2 anI2 cdI2 ctI2), slI2⟩)
    (cI2 : PySem.W.codeIn K cdI2 "InvalidDigits.__init__" = true)
    (kI2 : PySem.W.keepIn K (.ref fI2) = true)
    (aC3 : PySem.W.nsIn K mainGlobals "InvalidBars" = some (some (.ref C3)))
    (xC3 : K.lookup C3 = some (excClassObj nm3 q3 C3 N3 bs3 [.ref CF, .type "ValueError", .type "Exception", .type "BaseException", .type "object"] true sn3 sub3 ab3 col3 dd3 m03 m13 (some (.str cn3 tkE3)) m33 m53 "ValueError.__new__"))
    (sa3 : PySem.W.findIn K (.ref C3) "__setattr__" = some (some (.builtin "object.__setattr__")))
    (ex3 : PySem.W.subIn K (.ref C3) (.type "BaseException") = some true)
    (ty3 : PySem.W.typeIn K (.ref C3) = some (.type "type"))
    (kC3 : PySem.W.keepIn K (.ref C3) = true)
    (iC3 : PySem.W.findIn K (.ref C3) "__init__" = some (some (.ref fI3)))
    (tI3 : PySem.W.typeIn K (.ref fI3) = some (.type "function"))
    (no3 : PySem.W.findIn K (.ref C3) "value" = some none)
    (ga3 : PySem.W.findIn K (.ref C3) "__getattribute__" = some (some (.builtin "BaseException.__getattribute__")))
    (gg3 : PySem.W.findIn K (.ref C3) "__getattr__" = some none)
    (hd3 : PySem.W.hasDictIn K C3 = true)
    (sb3 : PySem.W.subIn K (.ref C3) (.ref C3) = some true)
    (ic3 : PySem.W.isClsIn K C3 = true)
    (lI3 : K.lookup fI3 = some ⟨ocI3, odI3, .func (PySem.W.fnOf "__init__" "InvalidBars.__init__" (defArgs sInBars) (defBody sInBars) (defScope sInBars) .none kVI3 dcI3 pmI3 anI3 cdI3 ctI3), slI3⟩)
    (cI3 : PySem.W.codeIn K cdI3 "InvalidBars.__init__" = true)
    (kI3 : PySem.W.keepIn K (.ref fI3) = true)
    (aC4 : PySem.W.nsIn K mainGlobals "InvalidRow" = some (some (.ref C4)))
    (xC4 : K.lookup C4 = some (excClassObj nm4 q4 C4 N4 bs4 [.ref CF, .type "ValueError", .type "Exception", .type "BaseException", .type "object"] true sn4 sub4 ab4 col4 dd4 m04 m14 (some (.str cn4 tkE4)) m34 m54 "ValueError.__new__"))
    (sa4 : PySem.W.findIn K (.ref C4) "__setattr__" = some (some (.builtin "object.__setattr__")))
    (ex4 : PySem.W.subIn K (.ref C4) (.type "BaseException") = some true)
    (ty4 : PySem.W.typeIn K (.ref C4) = some (.type "type"))
    (kC4 : PySem.W.keepIn K (.ref C4) = true)
    (iC4 : PySem.W.findIn K (.ref C4) "__init__" = some (some (.ref fI4)))
    (tI4 : PySem.W.typeIn K (.ref fI4) = some (.type "function"))
    (no4 : PySem.W.findIn K (.ref C4) "row" = some none)
    (ga4 : PySem.W.findIn K (.ref C4) "__getattribute__" = some (some (.builtin "BaseException.__getattribute__")))
    (gg4 : PySem.W.findIn K (.ref C4) "__getattr__" = some none)
    (hd4 : PySem.W.hasDictIn K C4 = true)
    (sb4 : PySem.W.subIn K (.ref C4) (.ref C4) = some true)
    (ic4 : PySem.W.isClsIn K C4 = true)
    (lI4 : K.lookup fI4 = some ⟨ocI4, odI4, .func (PySem.W.fnOf "__init__" "InvalidRow.__init__" (defArgs sInRow) (defBody sInRow) (defScope sInRow) .none kVI4 dcI4 pmI4 anI4 cdI4 ctI4), slI4⟩)
    (cI4 : PySem.W.codeIn K cdI4 "InvalidRow.__init__" = true)
    (kI4 : PySem.W.keepIn K (.ref fI4) = true)
    (aC5 : PySem.W.nsIn K mainGlobals "InvalidTerms" = some (some (.ref C5)))
    (xC5 : K.lookup C5 = some (excClassObj nm5 q5 C5 N5 bs5 [.ref CF, .type "ValueError", .type "Exception", .type "BaseException", .type "object"] true sn5 sub5 ab5 col5 dd5 m05 m15 (some (.str cn5 tkE5)) m35 m55 "ValueError.__new__"))
    (sa5 : PySem.W.findIn K (.ref C5) "__setattr__" = some (some (.builtin "object.__setattr__")))
    (ex5 : PySem.W.subIn K (.ref C5) (.type "BaseException") = some true)
    (ty5 : PySem.W.typeIn K (.ref C5) = some (.type "type"))
    (kC5 : PySem.W.keepIn K (.ref C5) = true)
    (iC5 : PySem.W.findIn K (.ref C5) "__init__" = some (some (.ref fI5)))
    (tI5 : PySem.W.typeIn K (.ref fI5) = some (.type "function"))
    (no5 : PySem.W.findIn K (.ref C5) "value" = some none)
    (ga5 : PySem.W.findIn K (.ref C5) "__getattribute__" = some (some (.builtin "BaseException.__getattribute__")))
    (gg5 : PySem.W.findIn K (.ref C5) "__getattr__" = some none)
    (hd5 : PySem.W.hasDictIn K C5 = true)
    (sb5 : PySem.W.subIn K (.ref C5) (.ref C5) = some true)
    (ic5 : PySem.W.isClsIn K C5 = true)
    (lI5 : K.lookup fI5 = some ⟨ocI5, odI5, .func (PySem.W.fnOf "__init__" "InvalidTerms.__init__" (defArgs sInTerms) (defBody sInTerms) (defScope sInTerms) .none kVI5 dcI5 pmI5 anI5 cdI5 ctI5), slI5⟩)
    (cI5 : PySem.W.codeIn K cdI5 "InvalidTerms.__init__" = true)
    (kI5 : PySem.W.keepIn K (.ref fI5) = true)
    (aC6 : PySem.W.nsIn K mainGlobals "InvalidTerm" = some (some (.ref C6)))
    (xC6 : K.lookup C6 = some (excClassObj nm6 q6 C6 N6 bs6 [.ref CF, .type "ValueError", .type "Exception", .type "BaseException", .type "object"] true sn6 sub6 ab6 col6 dd6 m06 m16 (some (.str cn6 tkE6)) m36 m56 "ValueError.__new__"))
    (sa6 : PySem.W.findIn K (.ref C6) "__setattr__" = some (some (.builtin "object.__setattr__")))
    (ex6 : PySem.W.subIn K (.ref C6) (.type "BaseException") = some true)
    (ty6 : PySem.W.typeIn K (.ref C6) = some (.type "type"))
    (kC6 : PySem.W.keepIn K (.ref C6) = true)
    (iC6 : PySem.W.findIn K (.ref C6) "__init__" = some (some (.ref fI6)))
    (tI6 : PySem.W.typeIn K (.ref fI6) = some (.type "function"))
    (no6 : PySem.W.findIn K (.ref C6) "term" = some none)
    (ga6 : PySem.W.findIn K (.ref C6) "__getattribute__" = some (some (.builtin "BaseException.__getattribute__")))
    (gg6 : PySem.W.findIn K (.ref C6) "__getattr__" = some none)
    (hd6 : PySem.W.hasDictIn K C6 = true)
    (sb6 : PySem.W.subIn K (.ref C6) (.ref C6) = some true)
    (ic6 : PySem.W.isClsIn K C6 = true)
    (lI6 : K.lookup fI6 = some ⟨ocI6, odI6, .func (PySem.W.fnOf "__init__" "InvalidTerm.__init__" (defArgs sInTerm) (defBody sInTerm) (defScope sInTerm) .none kVI6 dcI6 pmI6 anI6 cdI6 ctI6), slI6⟩)
    (cI6 : PySem.W.codeIn K cdI6 "InvalidTerm.__init__" = true)
    (kI6 : PySem.W.keepIn K (.ref fI6) = true)
    (aC7 : PySem.W.nsIn K mainGlobals "InvalidRows" = some (some (.ref C7)))
    (xC7 : K.lookup C7 = some (excClassObj nm7 q7 C7 N7 bs7 [.ref CF, .type "ValueError", .type "Exception", .type "BaseException", .type "object"] true sn7 sub7 ab7 col7 dd7 m07 m17 (some (.str cn7 tkE7)) m37 m57 "ValueError.__new__"))
    (sa7 : PySem.W.findIn K (.ref C7) "__setattr__" = some (some (.builtin "object.__setattr__")))
    (ex7 : PySem.W.subIn K (.ref C7) (.type "BaseException") = some true)
    (ty7 : PySem.W.typeIn K (.ref C7) = some (.type "type"))
    (kC7 : PySem.W.keepIn K (.ref C7) = true)
    (iC7 : PySem.W.findIn K (.ref C7) "__init__" = some (some (.ref fI7)))
    (tI7 : PySem.W.typeIn K (.ref fI7) = some (.type "function"))
    (no7 : PySem.W.findIn K (.ref C7) "rows" = some none)
    (ga7 : PySem.W.findIn K (.ref C7) "__getattribute__" = some (some (.builtin "BaseException.__getattribute__")))
    (gg7 : PySem.W.findIn K (.ref C7) "__getattr__" = some none)
    (hd7 : PySem.W.hasDictIn K C7 = true)
    (sb7 : PySem.W.subIn K (.ref C7) (.ref C7) = some true)
    (ic7 : PySem.W.isClsIn K C7 = true)
    (lI7 : K.lookup fI7 = some ⟨ocI7, odI7, .func (PySem.W.fnOf "__init__" "InvalidRows.__init__" (defArgs sInRows) (defBody sInRows) (defScope sInRows) .none kVI7 dcI7 pmI7 anI7 cdI7 ctI7), slI7⟩)
    (cI7 : PySem.W.codeIn K cdI7 "InvalidRows.__init__" = true)
    (kI7 : PySem.W.keepIn K (.ref fI7) = true)
    (aC8 : PySem.W.nsIn K mainGlobals "UnlikeBases" = some (some (.ref C8)))
    (xC8 : K.lookup C8 = some (excClassObj nm8 q8 C8 N8 bs8 [.ref CF, .type "ValueError", .type "Exception", .type "BaseException", .type "object"] true sn8 sub8 ab8 col8 dd8 m08 m18 (some (.str cn8 tkE8)) m38 m58 "ValueError.__new__"))
    (sa8 : PySem.W.findIn K (.ref C8) "__setattr__" = some (some (.builtin "object.__setattr__")))
    (ex8 : PySem.W.subIn K (.ref C8) (.type "BaseException") = some true)
    (ty8 : PySem.W.typeIn K (.ref C8) = some (.type "type"))
    (kC8 : PySem.W.keepIn K (.ref C8) = true)
    (iC8 : PySem.W.findIn K (.ref C8) "__init__" = some (some (.ref fI8)))
    (tI8 : PySem.W.typeIn K (.ref fI8) = some (.type "function"))
    (no8 : PySem.W.findIn K (.ref C8) "value" = some none)
    (ga8 : PySem.W.findIn K (.ref C8) "__getattribute__" = some (some (.builtin "BaseException.__getattribute__")))
    (gg8 : PySem.W.findIn K (.ref C8) "__getattr__" = some none)
    (hd8 : PySem.W.hasDictIn K C8 = true)
    (sb8 : PySem.W.subIn K (.ref C8) (.ref C8) = some true)
    (ic8 : PySem.W.isClsIn K C8 = true)
    (lI8 : K.lookup fI8 = some ⟨ocI8, odI8, .func (PySem.W.fnOf "__init__" "UnlikeBases.__init__" (defArgs sUnl) (defBody sUnl) (defScope sUnl) .none kVI8 dcI8 pmI8 anI8 cdI8 ctI8), slI8⟩)
    (cI8 : PySem.W.codeIn K cdI8 "UnlikeBases.__init__" = true)
    (kI8 : PySem.W.keepIn K (.ref fI8) = true)
    (aC9 : PySem.W.nsIn K mainGlobals "NotScheme" = some (some (.ref C9)))
    (xC9 : K.lookup C9 = some (excClassObj nm9 q9 C9 N9 bs9 [.ref CF, .type "ValueError", .type "Exception", .type "BaseException", .type "object"] true sn9 sub9 ab9 col9 dd9 m09 m19 (some (.str cn9 tkE9)) m39 m59 "ValueError.__new__"))
    (sa9 : PySem.W.findIn K (.ref C9) "__setattr__" = some (some (.builtin "object.__setattr__")))
    (ex9 : PySem.W.subIn K (.ref C9) (.type "BaseException") = some true)
    (ty9 : PySem.W.typeIn K (.ref C9) = some (.type "type"))
    (kC9 : PySem.W.keepIn K (.ref C9) = true)
    (iC9 : PySem.W.findIn K (.ref C9) "__init__" = some (some (.ref fI9)))
    (tI9 : PySem.W.typeIn K (.ref fI9) = some (.type "function"))
    (no9 : PySem.W.findIn K (.ref C9) "value" = some none)
    (ga9 : PySem.W.findIn K (.ref C9) "__getattribute__" = some (some (.builtin "BaseException.__getattribute__")))
    (gg9 : PySem.W.findIn K (.ref C9) "__getattr__" = some none)
    (hd9 : PySem.W.hasDictIn K C9 = true)
    (sb9 : PySem.W.subIn K (.ref C9) (.ref C9) = some true)
    (ic9 : PySem.W.isClsIn K C9 = true)
    (lI9 : K.lookup fI9 = some ⟨ocI9, odI9, .func (PySem.W.fnOf "__init__" "NotScheme.__init__" (defArgs sNotS) (defBody sNotS) (defScope sNotS) .none kVI9 dcI9 pmI9 anI9 cdI9 ctI9), slI9⟩)
    (cI9 : PySem.W.codeIn K cdI9 "NotScheme.__init__" = true)
    (kI9 : PySem.W.keepIn K (.ref fI9) = true)
    (aS : PySem.W.nsIn K mainGlobals "Scheme" = some (some (.ref CS)))
    (pgS : PySem.W.plainGet K CS Str.empty = true)
    (hdS : PySem.W.hasDictIn K CS = true)
    (poS : PySem.W.plainOver K CS = true)
    (saS : PySem.W.findIn K (.ref CS) "__setattr__" = some (some (.builtin "object.__setattr__")))
    (mkS : PySem.W.makesIn K CS = true)
    (nB : PySem.W.findIn K (.ref CS) "_base" = some none)
    (nD : PySem.W.findIn K (.ref CS) "_digits" = some none)
    (nR : PySem.W.findIn K (.ref CS) "_bars" = some none)
    (haS : PySem.W.findIn K (.ref CS) "__class__" = some (some (.builtin "object.__class__")))
    (xn : PySem.W.specialIn K (.builtin "object.__class__") "__get__" = some (some (.builtin "getset_descriptor.__get__")))
    (xt : PySem.W.takesIn K (.builtin "object.__class__") = some true)
    (hmS : PySem.W.mroIn K CS (.type "object") = some true)
    (sbS : PySem.W.subIn K (.ref CS) (.ref CS) = some true)
    (icS : PySem.W.isClsIn K CS = true)
    (tyS : PySem.W.typeIn K (.ref CS) = some (.type "type"))
    (kpS : PySem.W.keepIn K (.ref CS) = true)
    (at1 : PySem.W.findIn K (.ref CS) "__eq__" = some (some (.ref h1)))
    (fn1 : PySem.W.isFn K (.ref h1) = true)
    (lM1 : K.lookup h1 = some ⟨ocM1, odM1, .func (PySem.W.fnOf "__eq__" "Scheme.__eq__" (defArgs sEq) (defBody sEq) (defScope sEq) .none kVM1 dcM1 pmM1 anM1 cdM1 ctM1), slM1⟩)
    (cM1 : PySem.W.codeIn K cdM1 "Scheme.__eq__" = true)
    (kM1 : PySem.W.keepIn K (.ref h1) = true)
    (at2 : PySem.W.findIn K (.ref CS) "__contains__" = some (some (.ref h2)))
    (fn2 : PySem.W.isFn K (.ref h2) = true)
    (lM2 : K.lookup h2 = some ⟨ocM2, odM2, .func (PySem.W.fnOf "__contains__" "Scheme.__contains__" (defArgs sHas) (defBody sHas) (defScope sHas) .none kVM2 dcM2 pmM2 anM2 cdM2 ctM2), slM2⟩)
    (cM2 : PySem.W.codeIn K cdM2 "Scheme.__contains__" = true)
    (kM2 : PySem.W.keepIn K (.ref h2) = true)
    (at3 : PySem.W.findIn K (.ref CS) "allows" = some (some (.ref h3)))
    (fn3 : PySem.W.isFn K (.ref h3) = true)
    (lM3 : K.lookup h3 = some ⟨ocM3, odM3, .func (PySem.W.fnOf "allows" "Scheme.allows" (defArgs sAllows) (defBody sAllows) (defScope sAllows) .none kVM3 dcM3 pmM3 anM3 cdM3 ctM3), slM3⟩)
    (cM3 : PySem.W.codeIn K cdM3 "Scheme.allows" = true)
    (kM3 : PySem.W.keepIn K (.ref h3) = true)
    (at4 : PySem.W.findIn K (.ref CS) "value_of" = some (some (.ref h4)))
    (fn4 : PySem.W.isFn K (.ref h4) = true)
    (lM4 : K.lookup h4 = some ⟨ocM4, odM4, .func (PySem.W.fnOf "value_of" "Scheme.value_of" (defArgs sValueOf) (defBody sValueOf) (defScope sValueOf) .none kVM4 dcM4 pmM4 anM4 cdM4 ctM4), slM4⟩)
    (cM4 : PySem.W.codeIn K cdM4 "Scheme.value_of" = true)
    (kM4 : PySem.W.keepIn K (.ref h4) = true)
    (xs : PySem.W.subIn K (.ref C5) (.ref CF) = some true)
    (xi : PySem.W.isClsIn K CF = true)
    (xy : PySem.W.typeIn K (.ref CF) = some (.type "type"))
    (q65 : PySem.W.subIn K (.ref C6) (.ref C5) = some false)
    (q95 : PySem.W.subIn K (.ref C9) (.ref C5) = some false)
    (q96 : PySem.W.subIn K (.ref C9) (.ref C6) = some false)
    (q85 : PySem.W.subIn K (.ref C8) (.ref C5) = some false)
    (q86 : PySem.W.subIn K (.ref C8) (.ref C6) = some false)
    (q89 : PySem.W.subIn K (.ref C8) (.ref C9) = some false)
    (apB : PySem.W.findIn K (.ref CS) "base" = some (some (.ref pB)))
    (gtB : PySem.W.specialIn K (.ref pB) "__get__" = some (some (.builtin "property.__get__")))
    (tkB : PySem.W.takesIn K (.ref pB) = some true)
    (rcB : PySem.W.recIn K pB "property" = some (.ref gB :: restB))
    (apD : PySem.W.findIn K (.ref CS) "digits" = some (some (.ref pD)))
    (gtD : PySem.W.specialIn K (.ref pD) "__get__" = some (some (.builtin "property.__get__")))
    (tkD : PySem.W.takesIn K (.ref pD) = some true)
    (rcD : PySem.W.recIn K pD "property" = some (.ref gD :: restD))
    (apT : PySem.W.findIn K (.ref CO) "terms" = some (some (.ref pT)))
    (gtT : PySem.W.specialIn K (.ref pT) "__get__" = some (some (.builtin "property.__get__")))
    (tkT : PySem.W.takesIn K (.ref pT) = some true)
    (rcT : PySem.W.recIn K pT "property" = some (.ref gT :: restT))
    (apG : PySem.W.findIn K (.ref CO) "target" = some (some (.ref pG)))
    (gtG : PySem.W.specialIn K (.ref pG) "__get__" = some (some (.builtin "property.__get__")))
    (tkG : PySem.W.takesIn K (.ref pG) = some true)
    (rcG : PySem.W.recIn K pG "property" = some (.ref gG :: restG))
    (atN : PySem.W.findIn K (.ref CS) "__init__" = some (some (.ref hN)))
    (fnN : PySem.W.isFn K (.ref hN) = true)
    (lIn : K.lookup hN = some ⟨ocIn, odIn, .func (PySem.W.fnOf "__init__" "Scheme.__init__" (defArgs sInit) (defBody sInit) (defScope sInit) .none (.ref DK) dcIn pmIn anIn cdIn ctIn), slIn⟩)
    (cIn : PySem.W.codeIn K cdIn "Scheme.__init__" = true)
    (kIn : PySem.W.keepIn K (.ref hN) = true)
    (nsB : PySem.W.nsIn K DK "bars" = some (some (.ref TD)))
    (lT : K.lookup TD = some ⟨.type "tuple", odT, .seq #[] nT, slT⟩)
    (aKO : PySem.W.nsIn K mainGlobals "Form" = some (some (.ref CO)))
    (pgO : PySem.W.plainGet K CO Str.empty = true)
    (hdKO : PySem.W.hasDictIn K CO = true)
    (poO : PySem.W.plainOver K CO = true)
    (saKO : PySem.W.findIn K (.ref CO) "__setattr__" = some (some (.builtin "object.__setattr__")))
    (mkO : PySem.W.makesIn K CO = true)
    (kpO : PySem.W.keepIn K (.ref CO) = true)
    (noO1 : PySem.W.findIn K (.ref CO) "_terms" = some none)
    (noO2 : PySem.W.findIn K (.ref CO) "_target" = some none)
    (noO3 : PySem.W.findIn K (.ref CO) "_graph" = some none)
    (atFN : PySem.W.findIn K (.ref CO) "__init__" = some (some (.ref hFN)))
    (fnFN : PySem.W.isFn K (.ref hFN) = true)
    (atFE : PySem.W.findIn K (.ref CO) "__eq__" = some (some (.ref hFE)))
    (fnFE : PySem.W.isFn K (.ref hFE) = true)
    (atFV : PySem.W.findIn K (.ref CO) "value_of" = some (some (.ref hFV)))
    (fnFV : PySem.W.isFn K (.ref hFV) = true)
    (aKP : PySem.W.nsIn K mainGlobals "OpenPlaces" = some (some (.ref CP)))
    (pgP : PySem.W.plainGet K CP Str.empty = true)
    (hdKP : PySem.W.hasDictIn K CP = true)
    (poP : PySem.W.plainOver K CP = true)
    (saKP : PySem.W.findIn K (.ref CP) "__setattr__" = some (some (.builtin "object.__setattr__")))
    (mkP : PySem.W.makesIn K CP = true)
    (kpP : PySem.W.keepIn K (.ref CP) = true)
    (noP1 : PySem.W.findIn K (.ref CP) "_base" = some none)
    (noP2 : PySem.W.findIn K (.ref CP) "_lefts" = some none)
    (noP3 : PySem.W.findIn K (.ref CP) "_known" = some none)
    (atON : PySem.W.findIn K (.ref CP) "__init__" = some (some (.ref hON)))
    (fnON : PySem.W.isFn K (.ref hON) = true)
    (aKA : PySem.W.nsIn K mainGlobals "Pairs" = some (some (.ref CA)))
    (pgA : PySem.W.plainGet K CA Str.empty = true)
    (hdKA : PySem.W.hasDictIn K CA = true)
    (poA : PySem.W.plainOver K CA = true)
    (saKA : PySem.W.findIn K (.ref CA) "__setattr__" = some (some (.builtin "object.__setattr__")))
    (mkA : PySem.W.makesIn K CA = true)
    (kpA : PySem.W.keepIn K (.ref CA) = true)
    (noA1 : PySem.W.findIn K (.ref CA) "_base" = some none)
    (noA2 : PySem.W.findIn K (.ref CA) "_places" = some none)
    (noA3 : PySem.W.findIn K (.ref CA) "_behind" = some none)
    (atAN : PySem.W.findIn K (.ref CA) "__init__" = some (some (.ref hAN)))
    (fnAN : PySem.W.isFn K (.ref hAN) = true)
    (aKC : PySem.W.nsIn K mainGlobals "Carries" = some (some (.ref CC)))
    (pgC : PySem.W.plainGet K CC Str.empty = true)
    (hdKC : PySem.W.hasDictIn K CC = true)
    (poC : PySem.W.plainOver K CC = true)
    (saKC : PySem.W.findIn K (.ref CC) "__setattr__" = some (some (.builtin "object.__setattr__")))
    (mkC : PySem.W.makesIn K CC = true)
    (kpC : PySem.W.keepIn K (.ref CC) = true)
    (noC1 : PySem.W.findIn K (.ref CC) "_pairs" = some none)
    (noC2 : PySem.W.findIn K (.ref CC) "_listed" = some none)
    (noC3 : PySem.W.findIn K (.ref CC) "_bits" = some none)
    (noC4 : PySem.W.findIn K (.ref CC) "_bits_behind" = some none)
    (noC5 : PySem.W.findIn K (.ref CC) "_unions" = some none)
    (noC6 : PySem.W.findIn K (.ref CC) "_decoded" = some none)
    (atKN : PySem.W.findIn K (.ref CC) "__init__" = some (some (.ref hKN)))
    (fnKN : PySem.W.isFn K (.ref hKN) = true)
    (atKB : PySem.W.findIn K (.ref CC) "bits_of" = some (some (.ref hKB)))
    (fnKB : PySem.W.isFn K (.ref hKB) = true)
    (aKG : PySem.W.nsIn K mainGlobals "StateGraph" = some (some (.ref CG)))
    (pgG : PySem.W.plainGet K CG Str.empty = true)
    (hdKG : PySem.W.hasDictIn K CG = true)
    (poG : PySem.W.plainOver K CG = true)
    (saKG : PySem.W.findIn K (.ref CG) "__setattr__" = some (some (.builtin "object.__setattr__")))
    (mkG : PySem.W.makesIn K CG = true)
    (kpG : PySem.W.keepIn K (.ref CG) = true)
    (noG1 : PySem.W.findIn K (.ref CG) "_terms" = some none)
    (noG2 : PySem.W.findIn K (.ref CG) "_target" = some none)
    (noG3 : PySem.W.findIn K (.ref CG) "_carries" = some none)
    (noG4 : PySem.W.findIn K (.ref CG) "_turns" = some none)
    (noG5 : PySem.W.findIn K (.ref CG) "_nodes" = some none)
    (noG6 : PySem.W.findIn K (.ref CG) "_known" = some none)
    (noG7 : PySem.W.findIn K (.ref CG) "_sources" = some none)
    (noG8 : PySem.W.findIn K (.ref CG) "_passed" = some none)
    (atGN : PySem.W.findIn K (.ref CG) "__init__" = some (some (.ref hGN)))
    (fnGN : PySem.W.isFn K (.ref hGN) = true)
    (haO : PySem.W.findIn K (.ref CO) "__class__" = some (some (.builtin "object.__class__")))
    (hmO : PySem.W.mroIn K CO (.type "object") = some true)
    (sbO : PySem.W.subIn K (.ref CO) (.ref CO) = some true)
    (icO : PySem.W.isClsIn K CO = true)
    (tyO : PySem.W.typeIn K (.ref CO) = some (.type "type"))
    (sOS : PySem.W.subIn K (.ref CS) (.ref CO) = some false)
    (sOI : PySem.W.subIn K (.type "int") (.ref CO) = some false)
    (sOT : PySem.W.subIn K (.type "tuple") (.ref CO) = some false)
    (sCT : PySem.W.subIn K (.ref CS) (.type "tuple") = some false)
    (sCB : PySem.W.subIn K (.ref CS) (.type "bool") = some false)
    (lPB : K.lookup gB = some ⟨ocPB, odPB, .func (PySem.W.fnOf "base" "Scheme.base" (defArgs sPBase) (defBody sPBase) (defScope sPBase) .none kVPB dcPB pmPB anPB cdPB ctPB), slPB⟩)
    (cPB : PySem.W.codeIn K cdPB "Scheme.base" = true)
    (kPB : PySem.W.keepIn K (.ref gB) = true)
    (lPD : K.lookup gD = some ⟨ocPD, odPD, .func (PySem.W.fnOf "digits" "Scheme.digits" (defArgs sPDigits) (defBody sPDigits) (defScope sPDigits) .none kVPD dcPD pmPD anPD cdPD ctPD), slPD⟩)
    (cPD : PySem.W.codeIn K cdPD "Scheme.digits" = true)
    (kPD : PySem.W.keepIn K (.ref gD) = true)
    (lFN : K.lookup hFN = some ⟨ocFN, odFN, .func (PySem.W.fnOf "__init__" "Form.__init__" (defArgs sFoInit) (defBody sFoInit) (defScope sFoInit) .none kVFN dcFN pmFN anFN cdFN ctFN), slFN⟩)
    (cFN : PySem.W.codeIn K cdFN "Form.__init__" = true)
    (kFN : PySem.W.keepIn K (.ref hFN) = true)
    (lFE : K.lookup hFE = some ⟨ocFE, odFE, .func (PySem.W.fnOf "__eq__" "Form.__eq__" (defArgs sFoEq) (defBody sFoEq) (defScope sFoEq) .none kVFE dcFE pmFE anFE cdFE ctFE), slFE⟩)
    (cFE : PySem.W.codeIn K cdFE "Form.__eq__" = true)
    (kFE : PySem.W.keepIn K (.ref hFE) = true)
    (lFV : K.lookup hFV = some ⟨ocFV, odFV, .func (PySem.W.fnOf "value_of" "Form.value_of" (defArgs sFoVal) (defBody sFoVal) (defScope sFoVal) .none kVFV dcFV pmFV anFV cdFV ctFV), slFV⟩)
    (cFV : PySem.W.codeIn K cdFV "Form.value_of" = true)
    (kFV : PySem.W.keepIn K (.ref hFV) = true)
    (lFT : K.lookup gT = some ⟨ocFT, odFT, .func (PySem.W.fnOf "terms" "Form.terms" (defArgs sFoTerms) (defBody sFoTerms) (defScope sFoTerms) .none kVFT dcFT pmFT anFT cdFT ctFT), slFT⟩)
    (cFT : PySem.W.codeIn K cdFT "Form.terms" = true)
    (kFT : PySem.W.keepIn K (.ref gT) = true)
    (lFG : K.lookup gG = some ⟨ocFG, odFG, .func (PySem.W.fnOf "target" "Form.target" (defArgs sFoTarget) (defBody sFoTarget) (defScope sFoTarget) .none kVFG dcFG pmFG anFG cdFG ctFG), slFG⟩)
    (cFG : PySem.W.codeIn K cdFG "Form.target" = true)
    (kFG : PySem.W.keepIn K (.ref gG) = true)
    (lON : K.lookup hON = some ⟨ocON, odON, .func (PySem.W.fnOf "__init__" "OpenPlaces.__init__" (defArgs sOpInit) (defBody sOpInit) (defScope sOpInit) .none kVON dcON pmON anON cdON ctON), slON⟩)
    (cON : PySem.W.codeIn K cdON "OpenPlaces.__init__" = true)
    (kON : PySem.W.keepIn K (.ref hON) = true)
    (lAN : K.lookup hAN = some ⟨ocAN, odAN, .func (PySem.W.fnOf "__init__" "Pairs.__init__" (defArgs sPaInit) (defBody sPaInit) (defScope sPaInit) .none kVAN dcAN pmAN anAN cdAN ctAN), slAN⟩)
    (cAN : PySem.W.codeIn K cdAN "Pairs.__init__" = true)
    (kAN : PySem.W.keepIn K (.ref hAN) = true)
    (lKN : K.lookup hKN = some ⟨ocKN, odKN, .func (PySem.W.fnOf "__init__" "Carries.__init__" (defArgs sCaInit) (defBody sCaInit) (defScope sCaInit) .none kVKN dcKN pmKN anKN cdKN ctKN), slKN⟩)
    (cKN : PySem.W.codeIn K cdKN "Carries.__init__" = true)
    (kKN : PySem.W.keepIn K (.ref hKN) = true)
    (lKB : K.lookup hKB = some ⟨ocKB, odKB, .func (PySem.W.fnOf "bits_of" "Carries.bits_of" (defArgs sBits) (defBody sBits) (defScope sBits) .none kVKB dcKB pmKB anKB cdKB ctKB), slKB⟩)
    (cKB : PySem.W.codeIn K cdKB "Carries.bits_of" = true)
    (kKB : PySem.W.keepIn K (.ref hKB) = true)
    (lGN : K.lookup hGN = some ⟨ocGN, odGN, .func (PySem.W.fnOf "__init__" "StateGraph.__init__" (defArgs sGrInit) (defBody sGrInit) (defScope sGrInit) .none kVGN dcGN pmGN anGN cdGN ctGN), slGN⟩)
    (cGN : PySem.W.codeIn K cdGN "StateGraph.__init__" = true)
    (kGN : PySem.W.keepIn K (.ref hGN) = true)
    (z1 : PySem.W.nsIn K mainGlobals "len" = some none)
    (z2 : PySem.W.nsIn K mainGlobals "range" = some none)
    (z3 : PySem.W.nsIn K mainGlobals "int" = some none)
    (z4 : PySem.W.nsIn K mainGlobals "bool" = some none)
    (z5 : PySem.W.nsIn K mainGlobals "isinstance" = some none)
    (z6 : PySem.W.nsIn K mainGlobals "repr" = some none)
    (z7 : PySem.W.nsIn K mainGlobals "list" = some none)
    (z8 : PySem.W.nsIn K mainGlobals "tuple" = some none)
    (z9 : PySem.W.nsIn K mainGlobals "set" = some none)
    (z10 : PySem.W.nsIn K mainGlobals "sorted" = some none)
    (z11 : PySem.W.nsIn K mainGlobals "all" = some none)
    (z12 : PySem.W.nsIn K mainGlobals "max" = some none)
    (z13 : PySem.W.nsIn K mainGlobals "min" = some none)
    (z14 : PySem.W.nsIn K mainGlobals "abs" = some none)
    (z15 : PySem.W.nsIn K mainGlobals "ValueError" = some none)
    (z16 : PySem.W.nsIn K mainGlobals "zip" = some none)
    (z17 : PySem.W.nsIn K mainGlobals "sum" = some none)
    (v1 : PySem.W.nsIn K mainGlobals "MOST_DIGITS" = some (some (.int 6 t6)))
    (v2 : PySem.W.nsIn K mainGlobals "GREATEST_DIGIT" = some (some (.int 9 t9)))
    (v3 : PySem.W.nsIn K mainGlobals "GREATEST_BASE" = some (some (.int 6 tb)))
    (v4 : PySem.W.nsIn K mainGlobals "GREATEST_FACTOR" = some (some (.int 2 tgf)))
    (v5 : PySem.W.nsIn K mainGlobals "MOST_TERMS" = some (some (.int 2 tmt)))
    (haE1 : PySem.W.findIn K (.ref C1) "__class__" = some (some (.builtin "object.__class__")))
    (hmE1 : PySem.W.mroIn K C1 (.type "object") = some true)
    (fcE1 : PySem.W.findCls K (.ref C1) (.type "type") "__name__" = some (.get (.builtin "getset_descriptor.__get__") (.builtin "type.__name__") (.ref C1) (.type "type")))
    (nnE1 : PySem.W.findIn K (.ref C1) "class_name" = some none)
    (haE2 : PySem.W.findIn K (.ref C2) "__class__" = some (some (.builtin "object.__class__")))
    (hmE2 : PySem.W.mroIn K C2 (.type "object") = some true)
    (fcE2 : PySem.W.findCls K (.ref C2) (.type "type") "__name__" = some (.get (.builtin "getset_descriptor.__get__") (.builtin "type.__name__") (.ref C2) (.type "type")))
    (nnE2 : PySem.W.findIn K (.ref C2) "class_name" = some none)
    (haE3 : PySem.W.findIn K (.ref C3) "__class__" = some (some (.builtin "object.__class__")))
    (hmE3 : PySem.W.mroIn K C3 (.type "object") = some true)
    (fcE3 : PySem.W.findCls K (.ref C3) (.type "type") "__name__" = some (.get (.builtin "getset_descriptor.__get__") (.builtin "type.__name__") (.ref C3) (.type "type")))
    (nnE3 : PySem.W.findIn K (.ref C3) "class_name" = some none)
    (haE4 : PySem.W.findIn K (.ref C4) "__class__" = some (some (.builtin "object.__class__")))
    (hmE4 : PySem.W.mroIn K C4 (.type "object") = some true)
    (fcE4 : PySem.W.findCls K (.ref C4) (.type "type") "__name__" = some (.get (.builtin "getset_descriptor.__get__") (.builtin "type.__name__") (.ref C4) (.type "type")))
    (nnE4 : PySem.W.findIn K (.ref C4) "class_name" = some none)
    (haE5 : PySem.W.findIn K (.ref C5) "__class__" = some (some (.builtin "object.__class__")))
    (hmE5 : PySem.W.mroIn K C5 (.type "object") = some true)
    (fcE5 : PySem.W.findCls K (.ref C5) (.type "type") "__name__" = some (.get (.builtin "getset_descriptor.__get__") (.builtin "type.__name__") (.ref C5) (.type "type")))
    (nnE5 : PySem.W.findIn K (.ref C5) "class_name" = some none)
    (haE6 : PySem.W.findIn K (.ref C6) "__class__" = some (some (.builtin "object.__class__")))
    (hmE6 : PySem.W.mroIn K C6 (.type "object") = some true)
    (fcE6 : PySem.W.findCls K (.ref C6) (.type "type") "__name__" = some (.get (.builtin "getset_descriptor.__get__") (.builtin "type.__name__") (.ref C6) (.type "type")))
    (nnE6 : PySem.W.findIn K (.ref C6) "class_name" = some none)
    (haE7 : PySem.W.findIn K (.ref C7) "__class__" = some (some (.builtin "object.__class__")))
    (hmE7 : PySem.W.mroIn K C7 (.type "object") = some true)
    (fcE7 : PySem.W.findCls K (.ref C7) (.type "type") "__name__" = some (.get (.builtin "getset_descriptor.__get__") (.builtin "type.__name__") (.ref C7) (.type "type")))
    (nnE7 : PySem.W.findIn K (.ref C7) "class_name" = some none)
    (haE8 : PySem.W.findIn K (.ref C8) "__class__" = some (some (.builtin "object.__class__")))
    (hmE8 : PySem.W.mroIn K C8 (.type "object") = some true)
    (fcE8 : PySem.W.findCls K (.ref C8) (.type "type") "__name__" = some (.get (.builtin "getset_descriptor.__get__") (.builtin "type.__name__") (.ref C8) (.type "type")))
    (nnE8 : PySem.W.findIn K (.ref C8) "class_name" = some none)
    (haE9 : PySem.W.findIn K (.ref C9) "__class__" = some (some (.builtin "object.__class__")))
    (hmE9 : PySem.W.mroIn K C9 (.type "object") = some true)
    (fcE9 : PySem.W.findCls K (.ref C9) (.type "type") "__name__" = some (.get (.builtin "getset_descriptor.__get__") (.builtin "type.__name__") (.ref C9) (.type "type")))
    (nnE9 : PySem.W.findIn K (.ref C9) "class_name" = some none)
    (xnE : PySem.W.specialIn K (.builtin "object.__class__") "__get__" = some (some (.builtin "getset_descriptor.__get__")))
    (xtE : PySem.W.takesIn K (.builtin "object.__class__") = some true)
    (stE : PySem.W.nsIn K cStatics "thirdparty.any" = some none)
    : ∃ fd : FuncData, (∀ (s : Shared) (v : Value), BindsTo s fd ⟨[v], []⟩ [("_law_script", v)]) ∧ ∀ base : Heap, K.In base → base.Ns mainGlobals mg → FnG l.prog w K mg base 20 fa fd ["_law_script"] (spLaw K) := by
  have e := hfa.symm.trans (PySem.W.mg_of X G a36)
  cases e
  have F1 := fun_mk (st := sWhole) l1 c1 k1
  have g1 := PySem.W.mg_of X G a1
  have b1 := F1.binds (ps := ["value"]) fun _ _ _ _ _ _ us hl => match us, hl with | [_], _ => rfl
  have F2 := fun_mk (st := sIsInt) l2 c2 k2
  have g2 := PySem.W.mg_of X G a2
  have b2 := F2.binds (ps := ["value", "low", "high"]) fun _ _ _ _ _ _ us hl => match us, hl with | [_, _, _], _ => rfl
  have F3 := fun_mk (st := sIsBase) l3 c3 k3
  have g3 := PySem.W.mg_of X G a3
  have b3 := F3.binds (ps := ["value"]) fun _ _ _ _ _ _ us hl => match us, hl with | [_], _ => rfl
  have F4 := fun_mk (st := sIsDigit) l4 c4 k4
  have g4 := PySem.W.mg_of X G a4
  have b4 := F4.binds (ps := ["value"]) fun _ _ _ _ _ _ us hl => match us, hl with | [_], _ => rfl
  have F5 := fun_mk (st := sAre) l5 c5 k5
  have g5 := PySem.W.mg_of X G a5
  have b5 := F5.binds (ps := ["items"]) fun _ _ _ _ _ _ us hl => match us, hl with | [_], _ => rfl
  have F6 := fun_mk (st := sOneOf) l6 c6 k6
  have g6 := PySem.W.mg_of X G a6
  have b6 := F6.binds (ps := ["digits", "value"]) fun _ _ _ _ _ _ us hl => match us, hl with | [_, _], _ => rfl
  have F7 := fun_mk (st := sIsPair) l7 c7 k7
  have g7 := PySem.W.mg_of X G a7
  have b7 := F7.binds (ps := ["digits", "value"]) fun _ _ _ _ _ _ us hl => match us, hl with | [_, _], _ => rfl
  have F8 := fun_mk (st := sDigList) l8 c8 k8
  have g8 := PySem.W.mg_of X G a8
  have b8 := F8.binds (ps := ["value"]) fun _ _ _ _ _ _ us hl => match us, hl with | [_], _ => rfl
  have F9 := fun_mk (st := sDiffDig) l9 c9 k9
  have g9 := PySem.W.mg_of X G a9
  have b9 := F9.binds (ps := ["digits"]) fun _ _ _ _ _ _ us hl => match us, hl with | [_], _ => rfl
  have F10 := fun_mk (st := sDiffPair) l10 c10 k10
  have g10 := PySem.W.mg_of X G a10
  have b10 := F10.binds (ps := ["digits", "bars"]) fun _ _ _ _ _ _ us hl => match us, hl with | [_, _], _ => rfl
  have F11 := fun_mk (st := sLeft) l11 c11 k11
  have g11 := PySem.W.mg_of X G a11
  have b11 := F11.binds (ps := ["scheme", "right"]) fun _ _ _ _ _ _ us hl => match us, hl with | [_, _], _ => rfl
  have F12 := fun_mk (st := sAllLeft) l12 c12 k12
  have g12 := PySem.W.mg_of X G a12
  have b12 := F12.binds (ps := ["scheme"]) fun _ _ _ _ _ _ us hl => match us, hl with | [_], _ => rfl
  have F13 := fun_mk (st := sFactor) l13 c13 k13
  have g13 := PySem.W.mg_of X G a13
  have b13 := F13.binds (ps := ["value"]) fun _ _ _ _ _ _ us hl => match us, hl with | [_], _ => rfl
  have F14 := fun_mk (st := sCheckT) l14 c14 k14
  have g14 := PySem.W.mg_of X G a14
  have b14 := F14.binds (ps := ["value", "fits"]) fun _ _ _ _ _ _ us hl => match us, hl with | [_, _], _ => rfl
  have F15 := fun_mk (st := sIsSch) l15 c15 k15
  have g15 := PySem.W.mg_of X G a15
  have b15 := F15.binds (ps := ["value"]) fun _ _ _ _ _ _ us hl => match us, hl with | [_], _ => rfl
  have F16 := fun_mk (st := sCheckS) l16 c16 k16
  have g16 := PySem.W.mg_of X G a16
  have b16 := F16.binds (ps := ["value"]) fun _ _ _ _ _ _ us hl => match us, hl with | [_], _ => rfl
  have F17 := fun_mk (st := sCheckR) l17 c17 k17
  have g17 := PySem.W.mg_of X G a17
  have b17 := F17.binds (ps := ["form", "value"]) fun _ _ _ _ _ _ us hl => match us, hl with | [_, _], _ => rfl
  have F18 := fun_mk (st := sCell) l18 c18 k18
  have g18 := PySem.W.mg_of X G a18
  have b18 := F18.binds (ps := ["_law_script", "_law_k"]) fun _ _ _ _ _ _ us hl => match us, hl with | [_, _], _ => rfl
  have F19 := fun_mk (st := sBox) l19 c19 k19
  have g19 := PySem.W.mg_of X G a19
  have b19 := F19.binds (ps := ["_law_cell_here"]) fun _ _ _ _ _ _ us hl => match us, hl with | [_], _ => rfl
  have F20 := fun_mk (st := sTake) l20 c20 k20
  have g20 := PySem.W.mg_of X G a20
  have b20 := F20.binds (ps := ["_law_box_here", "_law_many"]) fun _ _ _ _ _ _ us hl => match us, hl with | [_, _], _ => rfl
  have F21 := fun_mk (st := sDigits) l21 c21 k21
  have g21 := PySem.W.mg_of X G a21
  have b21 := F21.binds (ps := ["_law_box_here", "_law_base"]) fun _ _ _ _ _ _ us hl => match us, hl with | [_, _], _ => rfl
  have F22 := fun_mk (st := sPairs) l22 c22 k22
  have g22 := PySem.W.mg_of X G a22
  have b22 := F22.binds (ps := ["_law_digits_here"]) fun _ _ _ _ _ _ us hl => match us, hl with | [_], _ => rfl
  have F23 := fun_mk (st := sKin) l23 c23 k23
  have g23 := PySem.W.mg_of X G a23
  have b23 := F23.binds (ps := ["_law_box_here", "_law_size", "_law_most"]) fun _ _ _ _ _ _ us hl => match us, hl with | [_, _, _], _ => rfl
  have F24 := fun_mk (st := sIsRow) l24 c24 k24
  have g24 := PySem.W.mg_of X G a24
  have b24 := F24.binds (ps := ["_law_model", "_law_row_here"]) fun _ _ _ _ _ _ us hl => match us, hl with | [_, _], _ => rfl
  have F25 := fun_mk (st := sValue) l25 c25 k25
  have g25 := PySem.W.mg_of X G a25
  have b25 := F25.binds (ps := ["_law_base", "_law_row_here"]) fun _ _ _ _ _ _ us hl => match us, hl with | [_, _], _ => rfl
  have F26 := fun_mk (st := sRow) l26 c26 k26
  have g26 := PySem.W.mg_of X G a26
  have b26 := F26.binds (ps := ["_law_box_here", "_law_model", "_law_many"]) fun _ _ _ _ _ _ us hl => match us, hl with | [_, _, _], _ => rfl
  have F27 := fun_mk (st := sScheme) l27 c27 k27
  have g27 := PySem.W.mg_of X G a27
  have b27 := F27.binds (ps := ["_law_model"]) fun _ _ _ _ _ _ us hl => match us, hl with | [_], _ => rfl
  have F28 := fun_mk (st := sTold) l28 c28 k28
  have g28 := PySem.W.mg_of X G a28
  have b28 := F28.binds (ps := ["_law_summands", "_law_goal"]) fun _ _ _ _ _ _ us hl => match us, hl with | [_, _], _ => rfl
  have F29 := fun_mk (st := sGoodT) l29 c29 k29
  have g29 := PySem.W.mg_of X G a29
  have b29 := F29.binds (ps := ["_law_item"]) fun _ _ _ _ _ _ us hl => match us, hl with | [_], _ => rfl
  have F30 := fun_mk (st := sDue) l30 c30 k30
  have g30 := PySem.W.mg_of X G a30
  have b30 := F30.binds (ps := ["_law_summands", "_law_goal"]) fun _ _ _ _ _ _ us hl => match us, hl with | [_, _], _ => rfl
  have F31 := fun_mk (st := sSpoilt) l31 c31 k31
  have g31 := PySem.W.mg_of X G a31
  have b31 := F31.binds (ps := ["_law_box_here", "_law_summands", "_law_goal"]) fun _ _ _ _ _ _ us hl => match us, hl with | [_, _, _], _ => rfl
  have F32 := fun_mk (st := sNear) l32 c32 k32
  have g32 := PySem.W.mg_of X G a32
  have b32 := F32.binds (ps := ["_law_box_here", "_law_lines", "_law_summands"]) fun _ _ _ _ _ _ us hl => match us, hl with | [_, _, _], _ => rfl
  have F33 := fun_mk (st := sLate) l33 c33 k33
  have g33 := PySem.W.mg_of X G a33
  have b33 := F33.binds (ps := ["_law_form", "_law_lines"]) fun _ _ _ _ _ _ us hl => match us, hl with | [_, _], _ => rfl
  have F34 := fun_mk (st := sValues) l34 c34 k34
  have g34 := PySem.W.mg_of X G a34
  have b34 := F34.binds (ps := ["_law_box_here", "_law_form", "_law_summands"]) fun _ _ _ _ _ _ us hl => match us, hl with | [_, _, _], _ => rfl
  have F35 := fun_mk (st := sRight) l35 c35 k35
  have g35 := PySem.W.mg_of X G a35
  have b35 := F35.binds (ps := ["_law_box_here"]) fun _ _ _ _ _ _ us hl => match us, hl with | [_], _ => rfl
  have F36 := fun_mk (st := sLaw) l36 c36 k36
  have g36 := PySem.W.mg_of X G a36
  have b36 := F36.binds (ps := ["_law_script"]) fun _ _ _ _ _ _ us hl => match us, hl with | [_], _ => rfl
  have FF := fun_mk (st := sFig) lF cF kF
  have bF := FF.binds (ps := ["self", "text"]) fun _ _ _ _ _ _ us hl => match us, hl with | [_, _], _ => rfl
  have TF : FigC K mg CF fF := ⟨PySem.W.mg_of X G aF, ⟨rF, gaF⟩, atF, kF⟩
  have FI1 := fun_mk (st := sInBase) lI1 cI1 kI1
  have bI1 := FI1.binds (ps := ["self", "value"]) fun _ _ _ _ _ _ us hl => match us, hl with | [_, _], _ => rfl
  have T1 : ErrC K mg "InvalidBase" "value" C1 fI1 := ⟨PySem.W.mg_of X G aC1, ⟨⟨_, _, _, _, _, _, _, _, _, _, _, _, _, _, _, xC1, by first | rfl | decide +kernel⟩, sa1, ex1, ty1, kC1⟩, iC1, tI1, no1, ⟨ga1, gg1, ex1, hd1⟩, exm_own ex1 ic1 ty1 sb1, ⟨cn1, ⟨⟨ga1, gg1, ex1, hd1⟩, by simpa [PySem.W.isClsIn] using ic1, haE1, xnE, xtE, hmE1, ty1, stE, fcE1, ⟨_, tkE1, xC1, rfl, rfl⟩, nnE1⟩⟩⟩
  have FI2 := fun_mk (st := sInDig) lI2 cI2 kI2
  have bI2 := FI2.binds (ps := ["self", "value"]) fun _ _ _ _ _ _ us hl => match us, hl with | [_, _], _ => rfl
  have T2 : ErrC K mg "InvalidDigits" "value" C2 fI2 := ⟨PySem.W.mg_of X G aC2, ⟨⟨_, _, _, _, _, _, _, _, _, _, _, _, _, _, _, xC2, by first | rfl | decide +kernel⟩, sa2, ex2, ty2, kC2⟩, iC2, tI2, no2, ⟨ga2, gg2, ex2, hd2⟩, exm_own ex2 ic2 ty2 sb2, ⟨cn2, ⟨⟨ga2, gg2, ex2, hd2⟩, by simpa [PySem.W.isClsIn] using ic2, haE2, xnE, xtE, hmE2, ty2, stE, fcE2, ⟨_, tkE2, xC2, rfl, rfl⟩, nnE2⟩⟩⟩
  have FI3 := fun_mk (st := sInBars) lI3 cI3 kI3
  have bI3 := FI3.binds (ps := ["self", "value"]) fun _ _ _ _ _ _ us hl => match us, hl with | [_, _], _ => rfl
  have T3 : ErrC K mg "InvalidBars" "value" C3 fI3 := ⟨PySem.W.mg_of X G aC3, ⟨⟨_, _, _, _, _, _, _, _, _, _, _, _, _, _, _, xC3, by first | rfl | decide +kernel⟩, sa3, ex3, ty3, kC3⟩, iC3, tI3, no3, ⟨ga3, gg3, ex3, hd3⟩, exm_own ex3 ic3 ty3 sb3, ⟨cn3, ⟨⟨ga3, gg3, ex3, hd3⟩, by simpa [PySem.W.isClsIn] using ic3, haE3, xnE, xtE, hmE3, ty3, stE, fcE3, ⟨_, tkE3, xC3, rfl, rfl⟩, nnE3⟩⟩⟩
  have FI4 := fun_mk (st := sInRow) lI4 cI4 kI4
  have bI4 := FI4.binds (ps := ["self", "row"]) fun _ _ _ _ _ _ us hl => match us, hl with | [_, _], _ => rfl
  have T4 : ErrC K mg "InvalidRow" "row" C4 fI4 := ⟨PySem.W.mg_of X G aC4, ⟨⟨_, _, _, _, _, _, _, _, _, _, _, _, _, _, _, xC4, by first | rfl | decide +kernel⟩, sa4, ex4, ty4, kC4⟩, iC4, tI4, no4, ⟨ga4, gg4, ex4, hd4⟩, exm_own ex4 ic4 ty4 sb4, ⟨cn4, ⟨⟨ga4, gg4, ex4, hd4⟩, by simpa [PySem.W.isClsIn] using ic4, haE4, xnE, xtE, hmE4, ty4, stE, fcE4, ⟨_, tkE4, xC4, rfl, rfl⟩, nnE4⟩⟩⟩
  have FI5 := fun_mk (st := sInTerms) lI5 cI5 kI5
  have bI5 := FI5.binds (ps := ["self", "value"]) fun _ _ _ _ _ _ us hl => match us, hl with | [_, _], _ => rfl
  have T5 : ErrC K mg "InvalidTerms" "value" C5 fI5 := ⟨PySem.W.mg_of X G aC5, ⟨⟨_, _, _, _, _, _, _, _, _, _, _, _, _, _, _, xC5, by first | rfl | decide +kernel⟩, sa5, ex5, ty5, kC5⟩, iC5, tI5, no5, ⟨ga5, gg5, ex5, hd5⟩, exm_own ex5 ic5 ty5 sb5, ⟨cn5, ⟨⟨ga5, gg5, ex5, hd5⟩, by simpa [PySem.W.isClsIn] using ic5, haE5, xnE, xtE, hmE5, ty5, stE, fcE5, ⟨_, tkE5, xC5, rfl, rfl⟩, nnE5⟩⟩⟩
  have FI6 := fun_mk (st := sInTerm) lI6 cI6 kI6
  have bI6 := FI6.binds (ps := ["self", "term"]) fun _ _ _ _ _ _ us hl => match us, hl with | [_, _], _ => rfl
  have T6 : ErrC K mg "InvalidTerm" "term" C6 fI6 := ⟨PySem.W.mg_of X G aC6, ⟨⟨_, _, _, _, _, _, _, _, _, _, _, _, _, _, _, xC6, by first | rfl | decide +kernel⟩, sa6, ex6, ty6, kC6⟩, iC6, tI6, no6, ⟨ga6, gg6, ex6, hd6⟩, exm_own ex6 ic6 ty6 sb6, ⟨cn6, ⟨⟨ga6, gg6, ex6, hd6⟩, by simpa [PySem.W.isClsIn] using ic6, haE6, xnE, xtE, hmE6, ty6, stE, fcE6, ⟨_, tkE6, xC6, rfl, rfl⟩, nnE6⟩⟩⟩
  have FI7 := fun_mk (st := sInRows) lI7 cI7 kI7
  have bI7 := FI7.binds (ps := ["self", "rows"]) fun _ _ _ _ _ _ us hl => match us, hl with | [_, _], _ => rfl
  have T7 : ErrC K mg "InvalidRows" "rows" C7 fI7 := ⟨PySem.W.mg_of X G aC7, ⟨⟨_, _, _, _, _, _, _, _, _, _, _, _, _, _, _, xC7, by first | rfl | decide +kernel⟩, sa7, ex7, ty7, kC7⟩, iC7, tI7, no7, ⟨ga7, gg7, ex7, hd7⟩, exm_own ex7 ic7 ty7 sb7, ⟨cn7, ⟨⟨ga7, gg7, ex7, hd7⟩, by simpa [PySem.W.isClsIn] using ic7, haE7, xnE, xtE, hmE7, ty7, stE, fcE7, ⟨_, tkE7, xC7, rfl, rfl⟩, nnE7⟩⟩⟩
  have FI8 := fun_mk (st := sUnl) lI8 cI8 kI8
  have bI8 := FI8.binds (ps := ["self", "value"]) fun _ _ _ _ _ _ us hl => match us, hl with | [_, _], _ => rfl
  have T8 : ErrC K mg "UnlikeBases" "value" C8 fI8 := ⟨PySem.W.mg_of X G aC8, ⟨⟨_, _, _, _, _, _, _, _, _, _, _, _, _, _, _, xC8, by first | rfl | decide +kernel⟩, sa8, ex8, ty8, kC8⟩, iC8, tI8, no8, ⟨ga8, gg8, ex8, hd8⟩, exm_own ex8 ic8 ty8 sb8, ⟨cn8, ⟨⟨ga8, gg8, ex8, hd8⟩, by simpa [PySem.W.isClsIn] using ic8, haE8, xnE, xtE, hmE8, ty8, stE, fcE8, ⟨_, tkE8, xC8, rfl, rfl⟩, nnE8⟩⟩⟩
  have FI9 := fun_mk (st := sNotS) lI9 cI9 kI9
  have bI9 := FI9.binds (ps := ["self", "value"]) fun _ _ _ _ _ _ us hl => match us, hl with | [_, _], _ => rfl
  have T9 : ErrC K mg "NotScheme" "value" C9 fI9 := ⟨PySem.W.mg_of X G aC9, ⟨⟨_, _, _, _, _, _, _, _, _, _, _, _, _, _, _, xC9, by first | rfl | decide +kernel⟩, sa9, ex9, ty9, kC9⟩, iC9, tI9, no9, ⟨ga9, gg9, ex9, hd9⟩, exm_own ex9 ic9 ty9 sb9, ⟨cn9, ⟨⟨ga9, gg9, ex9, hd9⟩, by simpa [PySem.W.isClsIn] using ic9, haE9, xnE, xtE, hmE9, ty9, stE, fcE9, ⟨_, tkE9, xC9, rfl, rfl⟩, nnE9⟩⟩⟩
  have cS : Cls K CS := ⟨pgS, hdS, poS, saS⟩
  have iS : IsC K CS := ⟨cS, haS, xn, xt, hmS, kit_own icS tyS sbS⟩
  have gS := PySem.W.mg_of X G aS
  have FM1 := fun_mk (st := sEq) lM1 cM1 kM1
  have bM1 := FM1.binds (ps := ["self", "other"]) fun _ _ _ _ _ _ us hl => match us, hl with | [_, _], _ => rfl
  have mm1 : Meth K CS "__eq__" h1 := ⟨at1, fn1, kM1⟩
  have FM2 := fun_mk (st := sHas) lM2 cM2 kM2
  have bM2 := FM2.binds (ps := ["self", "row"]) fun _ _ _ _ _ _ us hl => match us, hl with | [_, _], _ => rfl
  have mm2 : Meth K CS "__contains__" h2 := ⟨at2, fn2, kM2⟩
  have FM3 := fun_mk (st := sAllows) lM3 cM3 kM3
  have bM3 := FM3.binds (ps := ["self", "left", "right"]) fun _ _ _ _ _ _ us hl => match us, hl with | [_, _, _], _ => rfl
  have mm3 : Meth K CS "allows" h3 := ⟨at3, fn3, kM3⟩
  have FM4 := fun_mk (st := sValueOf) lM4 cM4 kM4
  have bM4 := FM4.binds (ps := ["self", "row"]) fun _ _ _ _ _ _ us hl => match us, hl with | [_, _], _ => rfl
  have mm4 : Meth K CS "value_of" h4 := ⟨at4, fn4, kM4⟩
  have XPB := fun_mk (st := sPBase) lPB cPB kPB
  have bXPB := XPB.binds (ps := ["self"]) fun _ _ _ _ _ _ us hl => match us, hl with | [_], _ => rfl
  have XPD := fun_mk (st := sPDigits) lPD cPD kPD
  have bXPD := XPD.binds (ps := ["self"]) fun _ _ _ _ _ _ us hl => match us, hl with | [_], _ => rfl
  have XFN := fun_mk (st := sFoInit) lFN cFN kFN
  have bXFN := XFN.binds (ps := ["self", "terms", "target"]) fun _ _ _ _ _ _ us hl => match us, hl with | [_, _, _], _ => rfl
  have XFE := fun_mk (st := sFoEq) lFE cFE kFE
  have bXFE := XFE.binds (ps := ["self", "other"]) fun _ _ _ _ _ _ us hl => match us, hl with | [_, _], _ => rfl
  have XFV := fun_mk (st := sFoVal) lFV cFV kFV
  have bXFV := XFV.binds (ps := ["self", "rows"]) fun _ _ _ _ _ _ us hl => match us, hl with | [_, _], _ => rfl
  have XFT := fun_mk (st := sFoTerms) lFT cFT kFT
  have bXFT := XFT.binds (ps := ["self"]) fun _ _ _ _ _ _ us hl => match us, hl with | [_], _ => rfl
  have XFG := fun_mk (st := sFoTarget) lFG cFG kFG
  have bXFG := XFG.binds (ps := ["self"]) fun _ _ _ _ _ _ us hl => match us, hl with | [_], _ => rfl
  have XON := fun_mk (st := sOpInit) lON cON kON
  have bXON := XON.binds (ps := ["self", "scheme"]) fun _ _ _ _ _ _ us hl => match us, hl with | [_, _], _ => rfl
  have XAN := fun_mk (st := sPaInit) lAN cAN kAN
  have bXAN := XAN.binds (ps := ["self", "target"]) fun _ _ _ _ _ _ us hl => match us, hl with | [_, _], _ => rfl
  have XKN := fun_mk (st := sCaInit) lKN cKN kKN
  have bXKN := XKN.binds (ps := ["self", "target"]) fun _ _ _ _ _ _ us hl => match us, hl with | [_, _], _ => rfl
  have XKB := fun_mk (st := sBits) lKB cKB kKB
  have bXKB := XKB.binds (ps := ["self", "pairs"]) fun _ _ _ _ _ _ us hl => match us, hl with | [_, _], _ => rfl
  have XGN := fun_mk (st := sGrInit) lGN cGN kGN
  have bXGN := XGN.binds (ps := ["self", "terms", "target"]) fun _ _ _ _ _ _ us hl => match us, hl with | [_, _, _], _ => rfl
  have clO : Cls K CO := ⟨pgO, hdKO, poO, saKO⟩
  have glO := PySem.W.mg_of X G aKO
  have MO : Mk K CO hFN := ⟨mkO, atFN, fnFN, kpO⟩
  have mXFE : Meth K CO "__eq__" hFE := ⟨atFE, fnFE, kFE⟩
  have mXFV : Meth K CO "value_of" hFV := ⟨atFV, fnFV, kFV⟩
  have clP : Cls K CP := ⟨pgP, hdKP, poP, saKP⟩
  have glP := PySem.W.mg_of X G aKP
  have MP : Mk K CP hON := ⟨mkP, atON, fnON, kpP⟩
  have clA : Cls K CA := ⟨pgA, hdKA, poA, saKA⟩
  have glA := PySem.W.mg_of X G aKA
  have MA : Mk K CA hAN := ⟨mkA, atAN, fnAN, kpA⟩
  have clC : Cls K CC := ⟨pgC, hdKC, poC, saKC⟩
  have glC := PySem.W.mg_of X G aKC
  have MC : Mk K CC hKN := ⟨mkC, atKN, fnKN, kpC⟩
  have mXKB : Meth K CC "bits_of" hKB := ⟨atKB, fnKB, kKB⟩
  have clG : Cls K CG := ⟨pgG, hdKG, poG, saKG⟩
  have glG := PySem.W.mg_of X G aKG
  have MG : Mk K CG hGN := ⟨mkG, atGN, fnGN, kpG⟩
  have pb : PropOf K CS "base" pB gB := ⟨apB, gtB, tkB, ⟨_, rcB⟩⟩
  have pd : PropOf K CS "digits" pD gD := ⟨apD, gtD, tkD, ⟨_, rcD⟩⟩
  have pt : PropOf K CO "terms" pT gT := ⟨apT, gtT, tkT, ⟨_, rcT⟩⟩
  have pgl : PropOf K CO "target" pG gG := ⟨apG, gtG, tkG, ⟨_, rcG⟩⟩
  have FIn : FunD K "__init__" "Scheme.__init__" (defArgs sInit) (defBody sInit) (defScope sInit) [] [("bars", .ref TD)] hN _ := ⟨⟨_, _, _, _, _, _, _, _, _, _, rfl, lIn, cIn, .inl ⟨rfl, rfl⟩, .inr ⟨DK, rfl, fun q hq => by cases List.mem_singleton.mp hq; exact ⟨_, nsB, rfl⟩⟩⟩, kIn⟩
  have hT : ∀ H, IsSeq K H TD [] := fun H => .kt lT rfl (.inr ⟨_, #[], nT, lT, rfl, rfl, by decide, .nil⟩)
  have y_len := PySem.W.mg_none_of X G z1
  have y_range := PySem.W.mg_none_of X G z2
  have y_int := PySem.W.mg_none_of X G z3
  have y_bool := PySem.W.mg_none_of X G z4
  have y_isinstance := PySem.W.mg_none_of X G z5
  have y_repr := PySem.W.mg_none_of X G z6
  have y_list := PySem.W.mg_none_of X G z7
  have y_tuple := PySem.W.mg_none_of X G z8
  have y_set := PySem.W.mg_none_of X G z9
  have y_sorted := PySem.W.mg_none_of X G z10
  have y_all := PySem.W.mg_none_of X G z11
  have y_max := PySem.W.mg_none_of X G z12
  have y_min := PySem.W.mg_none_of X G z13
  have y_abs := PySem.W.mg_none_of X G z14
  have y_ValueError := PySem.W.mg_none_of X G z15
  have y_zip := PySem.W.mg_none_of X G z16
  have y_sum := PySem.W.mg_none_of X G z17
  have u_MOST_DIGITS := PySem.W.mg_of X G v1
  have u_GREATEST_DIGIT := PySem.W.mg_of X G v2
  have u_GREATEST_BASE := PySem.W.mg_of X G v3
  have u_GREATEST_FACTOR := PySem.W.mg_of X G v4
  have u_MOST_TERMS := PySem.W.mg_of X G v5
  refine ⟨PySem.W.fnOf "law" "law" (defArgs sLaw) (defBody sLaw) (defScope sLaw) .none kV36 dc36 pm36 an36 cd36 ct36, fun s v => .of_eq rfl, fun base _ _ => ?_⟩
  have E1 := (ok_InvalidBase (P := l.prog) (w := w) (base := base) FI1 FF TF bF T1 y_ValueError vV).mono (by decide : 2 ≤ 3)
  have E2 := (ok_InvalidDigits (P := l.prog) (w := w) (base := base) FI2 FF TF bF T2 y_ValueError vV).mono (by decide : 2 ≤ 3)
  have E3 := (ok_InvalidBars (P := l.prog) (w := w) (base := base) FI3 FF TF bF T3 y_ValueError vV).mono (by decide : 2 ≤ 3)
  have E4 := (ok_InvalidRow (P := l.prog) (w := w) (base := base) FI4 FF TF bF T4 y_ValueError vV).mono (by decide : 2 ≤ 3)
  have E5 := (ok_InvalidTerms (P := l.prog) (w := w) (base := base) FI5 FF TF bF T5 y_ValueError vV).mono (by decide : 2 ≤ 3)
  have E6 := (ok_InvalidTerm (P := l.prog) (w := w) (base := base) FI6 FF TF bF T6 y_ValueError vV).mono (by decide : 2 ≤ 3)
  have E7 := (ok_InvalidRows (P := l.prog) (w := w) (base := base) FI7 FF TF bF T7 y_ValueError vV).mono (by decide : 2 ≤ 3)
  have E8 := (ok_UnlikeBases (P := l.prog) (w := w) (base := base) FI8 FF TF bF T8 y_ValueError vV).mono (by decide : 2 ≤ 3)
  have E9 := (ok_NotScheme (P := l.prog) (w := w) (base := base) FI9 FF TF bF T9 y_ValueError vV).mono (by decide : 2 ≤ 3)
  have G1 := ok_whole (P := l.prog) (w := w) (base := base) F1 y_isinstance y_int y_bool
  have G2 := ok_isint (P := l.prog) (w := w) (base := base) F2 G1 g1 F1.kp b1
  have G3 := ok_isbase (P := l.prog) (w := w) (base := base) F3 G2 g2 F2.kp b2 u_GREATEST_BASE
  have G4 := ok_isdigit (P := l.prog) (w := w) (base := base) F4 G2 g2 F2.kp b2 u_GREATEST_DIGIT
  have G5 := ok_are (P := l.prog) (w := w) (base := base) F5 G4 g4 F4.kp b4 y_all
  have G6 := ok_oneof (P := l.prog) (w := w) (base := base) F6 G4 g4 F4.kp b4
  have G7 := ok_ispair (P := l.prog) (w := w) (base := base) F7 G6 g6 F6.kp b6 y_isinstance y_len y_all y_tuple
  have G8 := ok_diglist (P := l.prog) (w := w) (base := base) F8 G5 g5 F5.kp b5 y_isinstance y_list y_tuple
  have G9 := ok_diffdig (P := l.prog) (w := w) (base := base) F9 G8 g8 F8.kp b8 E2 T2 bI2 u_MOST_DIGITS y_len y_set y_sorted y_tuple
  have G10 := ok_diffpair (P := l.prog) (w := w) (base := base) F10 G7 g7 F7.kp b7 E3 T3 bI3 y_isinstance y_list y_set y_sorted y_tuple
  have GN := ok_new (P := l.prog) (w := w) (base := base) ⟨_, FIn⟩ cS nB nD nR G3 g3 F3.kp b3 G9 g9 F9.kp b9 G10 g10 F10.kp b10 E1 T1 bI1
  have MK : Mk K CS hN := ⟨mkS, atN, fnN, kpS⟩
  have GE := ok_eq (P := l.prog) (w := w) (base := base) FM1 iS nB nD nR gS y_isinstance
  have PBx := ok_pbase (mg := mg) (P := l.prog) (w := w) (base := base) XPB cS nB
  have PDx := ok_pdigits (mg := mg) (P := l.prog) (w := w) (base := base) XPD cS nD
  have GA := ok_allows (P := l.prog) (w := w) (base := base) FM3 cS nD nR G6 g6 F6.kp b6
  have GH := ok_has (P := l.prog) (w := w) (base := base) FM2 cS mm3 GA bM3 y_isinstance y_tuple y_all y_zip
  have GV := ok_valueof (P := l.prog) (w := w) (base := base) FM4 cS nB mm2 GH bM2 E4 T4 bI4
  have LFx := ok_left (P := l.prog) (w := w) (base := base) F11 cS pd PDx bXPD mm3 GA bM3
  have ALx := ok_allleft (P := l.prog) (w := w) (base := base) F12 cS pd PDx bXPD LFx g11 F11.kp b11
  have OPx := ok_open (P := l.prog) (w := w) (base := base) XON clP noP1 noP2 noP3 cS pb PBx bXPB ALx g12 F12.kp b12
  have PAx := ok_pairsI (P := l.prog) (w := w) (base := base) XAN clA noA1 noA2 noA3 cS pb PBx bXPB MP OPx glP bXON
  have CAx := ok_carI (P := l.prog) (w := w) (base := base) XKN clC noC1 noC2 noC3 noC4 noC5 noC6 MA PAx glA bXAN
  have BIx := ok_bits (P := l.prog) (w := w) (base := base) XKB clC noC2 noC3 y_len
  have GRx := ok_graph (P := l.prog) (w := w) (base := base) XGN clG noG1 noG2 noG3 noG4 noG5 noG6 noG7 noG8 MC CAx glC bXKN clC noG3 mXKB BIx bXKB y_tuple
  have NK : NotK K CS := notK_of tyS icS
  have NKO : NotK K CO := notK_of tyO icO
  have NT : NoTupC K CS := kit_offT (by decide +kernel) sCT
  have NB : NoBoolC K CS := kit_offT (by decide +kernel) sCB
  have kCO := kit_off icO tyO sOS sbS
  have FAx := ok_factor (P := l.prog) (w := w) (base := base) F13 G2 g2 F2.kp b2 u_GREATEST_FACTOR
  have ISx := ok_issch (P := l.prog) (w := w) (base := base) F15 iS NK gS y_isinstance
  have CSx := ok_checks (P := l.prog) (w := w) (base := base) F16 ISx g15 F15.kp b15 E9 T9 bI9
  have CTx := ok_checkt (P := l.prog) (w := w) (base := base) F14 iS NT ISx F15.kp b15 FAx g13 F13.kp b13 E5 T5 bI5 E6 T6 bI6 u_MOST_TERMS y_isinstance y_list y_tuple y_len
  have FOx := ok_form (fdS := PySem.W.fnOf "is_scheme" "is_scheme" (defArgs sIsSch) (defBody sIsSch) (defScope sIsSch) .none kV15 dc15 pm15 an15 cd15 ct15) (P := l.prog) (w := w) (base := base) XFN clO noO1 noO2 noO3 CTx g14 F14.kp b14 g15 CSx g16 F16.kp b16 cS pb PBx bXPB y_abs y_tuple E8 T8 bI8 MG GRx glG bXGN
  have FTx := ok_fterms (mg := mg) (P := l.prog) (w := w) (base := base) XFT clO noO1
  have FGx := ok_ftarget (mg := mg) (P := l.prog) (w := w) (base := base) XFG clO noO2
  have iO : IsC K CO := ⟨clO, haO, xn, xt, hmO, kit_own icO tyO sbO⟩
  have FEx := ok_feq (P := l.prog) (w := w) (base := base) XFE iO noO1 noO2 glO y_isinstance GE mm1 bM1
  have CRx := ok_checkr (P := l.prog) (w := w) (base := base) F17 clO pt FTx bXFT mm2 GH bM2 E7 T7 bI7 y_isinstance y_list y_tuple y_len y_all y_zip
  have FVx := ok_fval (P := l.prog) (w := w) (base := base) XFV clO noO1 CRx g17 F17.kp b17 cS mm4 GV bM4 y_sum y_zip
  have ask : AskC K C5 := ⟨by simpa [PySem.W.isClsIn] using ic5, T5.xf, haE5, xn, xt, hmE5⟩
  have kk : PySem.W.kitOne K (.ref C5) (.ref CF) = some true := kit_own xi xy xs
  have ap : Apart K C5 C6 C9 C8 := ⟨exm_off ex5 ic5 ty5 q65 sb6, exm_off ex5 ic5 ty5 q95 sb9, exm_off ex6 ic6 ty6 q96 sb9, exm_off ex5 ic5 ty5 q85 sb8, exm_off ex6 ic6 ty6 q86 sb8, exm_off ex9 ic9 ty9 q89 sb8⟩
  have DG := ok_digits (P := l.prog) (w := w) (base := base) F21 F20 g20 b20 y_int y_len y_range y_list y_abs
  have PR := ok_pairs (mg := mg) (P := l.prog) (w := w) (base := base) F22
  have KI := ok_kin (P := l.prog) (w := w) (base := base) F23 F20 g20 b20 DG g21 F21.kp b21 PR g22 F22.kp b22 y_int y_sorted
  have IR := ok_isrow (P := l.prog) (w := w) (base := base) F24 y_len y_range
  have VA := ok_value (mg := mg) (P := l.prog) (w := w) (base := base) F25
  have RW := ok_row (P := l.prog) (w := w) (base := base) F26 F20 g20 b20 y_int y_len y_range y_tuple
  have SC := ok_scheme (P := l.prog) (w := w) (base := base) F27 FIn MK gS GN
  have TO := ok_told (P := l.prog) (w := w) (base := base) F28 clO XFN MO glO FOx pt FTx bXFT pgl FGx bXFG T5 T6 T9 T8 TF ask kk y_isinstance y_list ap
  have GD := ok_goodt (P := l.prog) (w := w) (base := base) F29 iS NT NK gS y_isinstance y_tuple y_len y_int y_bool
  have DU := ok_due (P := l.prog) (w := w) (base := base) F30 iS NK gS GD g29 F29.kp b29 pb PBx bXPB y_isinstance y_tuple y_list y_len y_abs
  have SP := ok_spoilt (P := l.prog) (w := w) (base := base) F31 F20 g20 b20 cS FIn hT MK gS GN pd PDx bXPD y_int y_len
  have NE := ok_near (P := l.prog) (w := w) (base := base) F32 F20 g20 b20 IR g24 F24.kp b24 y_int y_len y_range
  have LA := ok_late (P := l.prog) (w := w) (base := base) F33 clO mXFV FVx bXFV T7 y_list
  have VR := ok_values (P := l.prog) (w := w) (base := base) F34 F20 g20 b20 clO RW g26 F26.kp b26 VA g25 F25.kp b25 XFV mXFV FVx bXFV LA g33 F33.kp b33 NE g32 F32.kp b32 T7 y_int y_len y_range y_sum y_tuple y_list y_repr
  have R := ok_right (P := l.prog) (w := w) (base := base) F35 F20 g20 b20 KI g23 F23.kp b23 SC g27 F27.kp b27 XFN MO glO FOx clO pt FTx bXFT pgl FGx bXFG FEx mXFE bXFE GE mm1 bM1 sOS sOI sOT kCO NKO.tup VR g34 F34.kp b34 SP g31 F31.kp b31 TO g28 F28.kp b28 DU g30 F30.kp b30 GD g29 F29.kp b29 iS NB y_int y_len y_range y_tuple y_list y_isinstance y_bool
  exact ok_law F36 F18 g18 b18 F19 g19 b19 R g35 F35.kp b35 y_int y_len y_range y_max y_min
end K31
open PySem PySem.W PyProof.Rows
set_option maxRecDepth 100000 in
set_option maxHeartbeats 0 in
theorem PySem.Challenge.cw_oddfigures_k31_forms_made_holds : PySem.Challenge.rw_oddfigures_k31_forms_made.Holds := by
  w_on; o_law; k_head; (case hw => w_witness2)
  k_fill
  refine OF.walkG (l := PySem.Challenge.rw_oddfigures_k31_forms_made) (m := 63) (n := 20) (x := "_law_script") (sp := fun w => K31.spLaw _) rfl (by decide) rfl ⟨rfl, by decide, by decide⟩ (fun w h Y => PySem.W.kIn_of Y) ?F (fun _ _ a ns hl hS => ⟨a, ns, rfl, hS, hl, fun _ => rfl⟩)
  case F =>
    intro w mg fa h KX G hmg
    refine' K31.all_mk KX G hmg ?a1 ?l1 ?c1 ?k1 ?a2 ?l2 ?c2 ?k2 ?a3 ?l3 ?c3 ?k3 ?a4 ?l4 ?c4 ?k4 ?a5 ?l5 ?c5 ?k5 ?a6 ?l6 ?c6 ?k6 ?a7 ?l7 ?c7 ?k7 ?a8 ?l8 ?c8 ?k8 ?a9 ?l9 ?c9 ?k9 ?a10 ?l10 ?c10 ?k10 ?a11 ?l11 ?c11 ?k11 ?a12 ?l12 ?c12 ?k12 ?a13 ?l13 ?c13 ?k13 ?a14 ?l14 ?c14 ?k14 ?a15 ?l15 ?c15 ?k15 ?a16 ?l16 ?c16 ?k16 ?a17 ?l17 ?c17 ?k17 ?a18 ?l18 ?c18 ?k18 ?a19 ?l19 ?c19 ?k19 ?a20 ?l20 ?c20 ?k20 ?a21 ?l21 ?c21 ?k21 ?a22 ?l22 ?c22 ?k22 ?a23 ?l23 ?c23 ?k23 ?a24 ?l24 ?c24 ?k24 ?a25 ?l25 ?c25 ?k25 ?a26 ?l26 ?c26 ?k26 ?a27 ?l27 ?c27 ?k27 ?a28 ?l28 ?c28 ?k28 ?a29 ?l29 ?c29 ?k29 ?a30 ?l30 ?c30 ?k30 ?a31 ?l31 ?c31 ?k31 ?a32 ?l32 ?c32 ?k32 ?a33 ?l33 ?c33 ?k33 ?a34 ?l34 ?c34 ?k34 ?a35 ?l35 ?c35 ?k35 ?a36 ?l36 ?c36 ?k36 ?aF ?rF ?gaF ?atF ?lF ?cF ?kF ?vV ?aC1 ?xC1 ?sa1 ?ex1 ?ty1 ?kC1 ?iC1 ?tI1 ?no1 ?ga1 ?gg1 ?hd1 ?sb1 ?ic1 ?lI1 ?cI1 ?kI1 ?aC2 ?xC2 ?sa2 ?ex2 ?ty2 ?kC2 ?iC2 ?tI2 ?no2 ?ga2 ?gg2 ?hd2 ?sb2 ?ic2 ?lI2 ?cI2 ?kI2 ?aC3 ?xC3 ?sa3 ?ex3 ?ty3 ?kC3 ?iC3 ?tI3 ?no3 ?ga3 ?gg3 ?hd3 ?sb3 ?ic3 ?lI3 ?cI3 ?kI3 ?aC4 ?xC4 ?sa4 ?ex4 ?ty4 ?kC4 ?iC4 ?tI4 ?no4 ?ga4 ?gg4 ?hd4 ?sb4 ?ic4 ?lI4 ?cI4 ?kI4 ?aC5 ?xC5 ?sa5 ?ex5 ?ty5 ?kC5 ?iC5 ?tI5 ?no5 ?ga5 ?gg5 ?hd5 ?sb5 ?ic5 ?lI5 ?cI5 ?kI5 ?aC6 ?xC6 ?sa6 ?ex6 ?ty6 ?kC6 ?iC6 ?tI6 ?no6 ?ga6 ?gg6 ?hd6 ?sb6 ?ic6 ?lI6 ?cI6 ?kI6 ?aC7 ?xC7 ?sa7 ?ex7 ?ty7 ?kC7 ?iC7 ?tI7 ?no7 ?ga7 ?gg7 ?hd7 ?sb7 ?ic7 ?lI7 ?cI7 ?kI7 ?aC8 ?xC8 ?sa8 ?ex8 ?ty8 ?kC8 ?iC8 ?tI8 ?no8 ?ga8 ?gg8 ?hd8 ?sb8 ?ic8 ?lI8 ?cI8 ?kI8 ?aC9 ?xC9 ?sa9 ?ex9 ?ty9 ?kC9 ?iC9 ?tI9 ?no9 ?ga9 ?gg9 ?hd9 ?sb9 ?ic9 ?lI9 ?cI9 ?kI9 ?aS ?pgS ?hdS ?poS ?saS ?mkS ?nB ?nD ?nR ?haS ?xn ?xt ?hmS ?sbS ?icS ?tyS ?kpS ?at1 ?fn1 ?lM1 ?cM1 ?kM1 ?at2 ?fn2 ?lM2 ?cM2 ?kM2 ?at3 ?fn3 ?lM3 ?cM3 ?kM3 ?at4 ?fn4 ?lM4 ?cM4 ?kM4 ?xs ?xi ?xy ?q65 ?q95 ?q96 ?q85 ?q86 ?q89 ?apB ?gtB ?tkB ?rcB ?apD ?gtD ?tkD ?rcD ?apT ?gtT ?tkT ?rcT ?apG ?gtG ?tkG ?rcG ?atN ?fnN ?lIn ?cIn ?kIn ?nsB ?lT ?aKO ?pgO ?hdKO ?poO ?saKO ?mkO ?kpO ?noO1 ?noO2 ?noO3 ?atFN ?fnFN ?atFE ?fnFE ?atFV ?fnFV ?aKP ?pgP ?hdKP ?poP ?saKP ?mkP ?kpP ?noP1 ?noP2 ?noP3 ?atON ?fnON ?aKA ?pgA ?hdKA ?poA ?saKA ?mkA ?kpA ?noA1 ?noA2 ?noA3 ?atAN ?fnAN ?aKC ?pgC ?hdKC ?poC ?saKC ?mkC ?kpC ?noC1 ?noC2 ?noC3 ?noC4 ?noC5 ?noC6 ?atKN ?fnKN ?atKB ?fnKB ?aKG ?pgG ?hdKG ?poG ?saKG ?mkG ?kpG ?noG1 ?noG2 ?noG3 ?noG4 ?noG5 ?noG6 ?noG7 ?noG8 ?atGN ?fnGN ?haO ?hmO ?sbO ?icO ?tyO ?sOS ?sOI ?sOT ?sCT ?sCB ?lPB ?cPB ?kPB ?lPD ?cPD ?kPD ?lFN ?cFN ?kFN ?lFE ?cFE ?kFE ?lFV ?cFV ?kFV ?lFT ?cFT ?kFT ?lFG ?cFG ?kFG ?lON ?cON ?kON ?lAN ?cAN ?kAN ?lKN ?cKN ?kKN ?lKB ?cKB ?kKB ?lGN ?cGN ?kGN ?z1 ?z2 ?z3 ?z4 ?z5 ?z6 ?z7 ?z8 ?z9 ?z10 ?z11 ?z12 ?z13 ?z14 ?z15 ?z16 ?z17 ?v1 ?v2 ?v3 ?v4 ?v5 ?haE1 ?hmE1 ?fcE1 ?nnE1 ?haE2 ?hmE2 ?fcE2 ?nnE2 ?haE3 ?hmE3 ?fcE3 ?nnE3 ?haE4 ?hmE4 ?fcE4 ?nnE4 ?haE5 ?hmE5 ?fcE5 ?nnE5 ?haE6 ?hmE6 ?fcE6 ?nnE6 ?haE7 ?hmE7 ?fcE7 ?nnE7 ?haE8 ?hmE8 ?fcE8 ?nnE8 ?haE9 ?hmE9 ?fcE9 ?nnE9 ?xnE ?xtE ?stE
    (case a1 => k_is)
    (case l1 => k_is)
    (case c1 => k_is)
    (case k1 => k_is)
    (case a2 => k_is)
    (case l2 => k_is)
    (case c2 => k_is)
    (case k2 => k_is)
    (case a3 => k_is)
    (case l3 => k_is)
    (case c3 => k_is)
    (case k3 => k_is)
    (case a4 => k_is)
    (case l4 => k_is)
    (case c4 => k_is)
    (case k4 => k_is)
    (case a5 => k_is)
    (case l5 => k_is)
    (case c5 => k_is)
    (case k5 => k_is)
    (case a6 => k_is)
    (case l6 => k_is)
    (case c6 => k_is)
    (case k6 => k_is)
    (case a7 => k_is)
    (case l7 => k_is)
    (case c7 => k_is)
    (case k7 => k_is)
    (case a8 => k_is)
    (case l8 => k_is)
    (case c8 => k_is)
    (case k8 => k_is)
    (case a9 => k_is)
    (case l9 => k_is)
    (case c9 => k_is)
    (case k9 => k_is)
    (case a10 => k_is)
    (case l10 => k_is)
    (case c10 => k_is)
    (case k10 => k_is)
    (case a11 => k_is)
    (case l11 => k_is)
    (case c11 => k_is)
    (case k11 => k_is)
    (case a12 => k_is)
    (case l12 => k_is)
    (case c12 => k_is)
    (case k12 => k_is)
    (case a13 => k_is)
    (case l13 => k_is)
    (case c13 => k_is)
    (case k13 => k_is)
    (case a14 => k_is)
    (case l14 => k_is)
    (case c14 => k_is)
    (case k14 => k_is)
    (case a15 => k_is)
    (case l15 => k_is)
    (case c15 => k_is)
    (case k15 => k_is)
    (case a16 => k_is)
    (case l16 => k_is)
    (case c16 => k_is)
    (case k16 => k_is)
    (case a17 => k_is)
    (case l17 => k_is)
    (case c17 => k_is)
    (case k17 => k_is)
    (case a18 => k_is)
    (case l18 => k_is)
    (case c18 => k_is)
    (case k18 => k_is)
    (case a19 => k_is)
    (case l19 => k_is)
    (case c19 => k_is)
    (case k19 => k_is)
    (case a20 => k_is)
    (case l20 => k_is)
    (case c20 => k_is)
    (case k20 => k_is)
    (case a21 => k_is)
    (case l21 => k_is)
    (case c21 => k_is)
    (case k21 => k_is)
    (case a22 => k_is)
    (case l22 => k_is)
    (case c22 => k_is)
    (case k22 => k_is)
    (case a23 => k_is)
    (case l23 => k_is)
    (case c23 => k_is)
    (case k23 => k_is)
    (case a24 => k_is)
    (case l24 => k_is)
    (case c24 => k_is)
    (case k24 => k_is)
    (case a25 => k_is)
    (case l25 => k_is)
    (case c25 => k_is)
    (case k25 => k_is)
    (case a26 => k_is)
    (case l26 => k_is)
    (case c26 => k_is)
    (case k26 => k_is)
    (case a27 => k_is)
    (case l27 => k_is)
    (case c27 => k_is)
    (case k27 => k_is)
    (case a28 => k_is)
    (case l28 => k_is)
    (case c28 => k_is)
    (case k28 => k_is)
    (case a29 => k_is)
    (case l29 => k_is)
    (case c29 => k_is)
    (case k29 => k_is)
    (case a30 => k_is)
    (case l30 => k_is)
    (case c30 => k_is)
    (case k30 => k_is)
    (case a31 => k_is)
    (case l31 => k_is)
    (case c31 => k_is)
    (case k31 => k_is)
    (case a32 => k_is)
    (case l32 => k_is)
    (case c32 => k_is)
    (case k32 => k_is)
    (case a33 => k_is)
    (case l33 => k_is)
    (case c33 => k_is)
    (case k33 => k_is)
    (case a34 => k_is)
    (case l34 => k_is)
    (case c34 => k_is)
    (case k34 => k_is)
    (case a35 => k_is)
    (case l35 => k_is)
    (case c35 => k_is)
    (case k35 => k_is)
    (case a36 => k_is)
    (case l36 => k_is)
    (case c36 => k_is)
    (case k36 => k_is)
    (case aF => k_is)
    (case rF => k_is)
    (case gaF => k_is)
    (case atF => k_is)
    (case lF => k_is)
    (case cF => k_is)
    (case kF => k_is)
    (case vV => k_is)
    (case aC1 => k_is)
    (case xC1 => k_is)
    (case sa1 => k_is)
    (case ex1 => k_is)
    (case ty1 => k_is)
    (case kC1 => k_is)
    (case iC1 => k_is)
    (case tI1 => k_is)
    (case no1 => k_is)
    (case ga1 => k_is)
    (case gg1 => k_is)
    (case hd1 => k_is)
    (case sb1 => k_is)
    (case ic1 => k_is)
    (case lI1 => k_is)
    (case cI1 => k_is)
    (case kI1 => k_is)
    (case aC2 => k_is)
    (case xC2 => k_is)
    (case sa2 => k_is)
    (case ex2 => k_is)
    (case ty2 => k_is)
    (case kC2 => k_is)
    (case iC2 => k_is)
    (case tI2 => k_is)
    (case no2 => k_is)
    (case ga2 => k_is)
    (case gg2 => k_is)
    (case hd2 => k_is)
    (case sb2 => k_is)
    (case ic2 => k_is)
    (case lI2 => k_is)
    (case cI2 => k_is)
    (case kI2 => k_is)
    (case aC3 => k_is)
    (case xC3 => k_is)
    (case sa3 => k_is)
    (case ex3 => k_is)
    (case ty3 => k_is)
    (case kC3 => k_is)
    (case iC3 => k_is)
    (case tI3 => k_is)
    (case no3 => k_is)
    (case ga3 => k_is)
    (case gg3 => k_is)
    (case hd3 => k_is)
    (case sb3 => k_is)
    (case ic3 => k_is)
    (case lI3 => k_is)
    (case cI3 => k_is)
    (case kI3 => k_is)
    (case aC4 => k_is)
    (case xC4 => k_is)
    (case sa4 => k_is)
    (case ex4 => k_is)
    (case ty4 => k_is)
    (case kC4 => k_is)
    (case iC4 => k_is)
    (case tI4 => k_is)
    (case no4 => k_is)
    (case ga4 => k_is)
    (case gg4 => k_is)
    (case hd4 => k_is)
    (case sb4 => k_is)
    (case ic4 => k_is)
    (case lI4 => k_is)
    (case cI4 => k_is)
    (case kI4 => k_is)
    (case aC5 => k_is)
    (case xC5 => k_is)
    (case sa5 => k_is)
    (case ex5 => k_is)
    (case ty5 => k_is)
    (case kC5 => k_is)
    (case iC5 => k_is)
    (case tI5 => k_is)
    (case no5 => k_is)
    (case ga5 => k_is)
    (case gg5 => k_is)
    (case hd5 => k_is)
    (case sb5 => k_is)
    (case ic5 => k_is)
    (case lI5 => k_is)
    (case cI5 => k_is)
    (case kI5 => k_is)
    (case aC6 => k_is)
    (case xC6 => k_is)
    (case sa6 => k_is)
    (case ex6 => k_is)
    (case ty6 => k_is)
    (case kC6 => k_is)
    (case iC6 => k_is)
    (case tI6 => k_is)
    (case no6 => k_is)
    (case ga6 => k_is)
    (case gg6 => k_is)
    (case hd6 => k_is)
    (case sb6 => k_is)
    (case ic6 => k_is)
    (case lI6 => k_is)
    (case cI6 => k_is)
    (case kI6 => k_is)
    (case aC7 => k_is)
    (case xC7 => k_is)
    (case sa7 => k_is)
    (case ex7 => k_is)
    (case ty7 => k_is)
    (case kC7 => k_is)
    (case iC7 => k_is)
    (case tI7 => k_is)
    (case no7 => k_is)
    (case ga7 => k_is)
    (case gg7 => k_is)
    (case hd7 => k_is)
    (case sb7 => k_is)
    (case ic7 => k_is)
    (case lI7 => k_is)
    (case cI7 => k_is)
    (case kI7 => k_is)
    (case aC8 => k_is)
    (case xC8 => k_is)
    (case sa8 => k_is)
    (case ex8 => k_is)
    (case ty8 => k_is)
    (case kC8 => k_is)
    (case iC8 => k_is)
    (case tI8 => k_is)
    (case no8 => k_is)
    (case ga8 => k_is)
    (case gg8 => k_is)
    (case hd8 => k_is)
    (case sb8 => k_is)
    (case ic8 => k_is)
    (case lI8 => k_is)
    (case cI8 => k_is)
    (case kI8 => k_is)
    (case aC9 => k_is)
    (case xC9 => k_is)
    (case sa9 => k_is)
    (case ex9 => k_is)
    (case ty9 => k_is)
    (case kC9 => k_is)
    (case iC9 => k_is)
    (case tI9 => k_is)
    (case no9 => k_is)
    (case ga9 => k_is)
    (case gg9 => k_is)
    (case hd9 => k_is)
    (case sb9 => k_is)
    (case ic9 => k_is)
    (case lI9 => k_is)
    (case cI9 => k_is)
    (case kI9 => k_is)
    (case aS => k_is)
    (case pgS => k_is)
    (case hdS => k_is)
    (case poS => k_is)
    (case saS => k_is)
    (case mkS => k_is)
    (case nB => k_is)
    (case nD => k_is)
    (case nR => k_is)
    (case haS => k_is)
    (case xn => k_is)
    (case xt => k_is)
    (case hmS => k_is)
    (case sbS => k_is)
    (case icS => k_is)
    (case tyS => k_is)
    (case kpS => k_is)
    (case at1 => k_is)
    (case fn1 => k_is)
    (case lM1 => k_is)
    (case cM1 => k_is)
    (case kM1 => k_is)
    (case at2 => k_is)
    (case fn2 => k_is)
    (case lM2 => k_is)
    (case cM2 => k_is)
    (case kM2 => k_is)
    (case at3 => k_is)
    (case fn3 => k_is)
    (case lM3 => k_is)
    (case cM3 => k_is)
    (case kM3 => k_is)
    (case at4 => k_is)
    (case fn4 => k_is)
    (case lM4 => k_is)
    (case cM4 => k_is)
    (case kM4 => k_is)
    (case xs => k_is)
    (case xi => k_is)
    (case xy => k_is)
    (case q65 => k_is)
    (case q95 => k_is)
    (case q96 => k_is)
    (case q85 => k_is)
    (case q86 => k_is)
    (case q89 => k_is)
    (case apB => k_is)
    (case gtB => k_is)
    (case tkB => k_is)
    (case rcB => k_is)
    (case apD => k_is)
    (case gtD => k_is)
    (case tkD => k_is)
    (case rcD => k_is)
    (case apT => k_is)
    (case gtT => k_is)
    (case tkT => k_is)
    (case rcT => k_is)
    (case apG => k_is)
    (case gtG => k_is)
    (case tkG => k_is)
    (case rcG => k_is)
    (case atN => k_is)
    (case fnN => k_is)
    (case lIn => k_is)
    (case cIn => k_is)
    (case kIn => k_is)
    (case nsB => k_is)
    (case lT => k_is)
    (case aKO => k_is)
    (case pgO => k_is)
    (case hdKO => k_is)
    (case poO => k_is)
    (case saKO => k_is)
    (case mkO => k_is)
    (case kpO => k_is)
    (case noO1 => k_is)
    (case noO2 => k_is)
    (case noO3 => k_is)
    (case atFN => k_is)
    (case fnFN => k_is)
    (case atFE => k_is)
    (case fnFE => k_is)
    (case atFV => k_is)
    (case fnFV => k_is)
    (case aKP => k_is)
    (case pgP => k_is)
    (case hdKP => k_is)
    (case poP => k_is)
    (case saKP => k_is)
    (case mkP => k_is)
    (case kpP => k_is)
    (case noP1 => k_is)
    (case noP2 => k_is)
    (case noP3 => k_is)
    (case atON => k_is)
    (case fnON => k_is)
    (case aKA => k_is)
    (case pgA => k_is)
    (case hdKA => k_is)
    (case poA => k_is)
    (case saKA => k_is)
    (case mkA => k_is)
    (case kpA => k_is)
    (case noA1 => k_is)
    (case noA2 => k_is)
    (case noA3 => k_is)
    (case atAN => k_is)
    (case fnAN => k_is)
    (case aKC => k_is)
    (case pgC => k_is)
    (case hdKC => k_is)
    (case poC => k_is)
    (case saKC => k_is)
    (case mkC => k_is)
    (case kpC => k_is)
    (case noC1 => k_is)
    (case noC2 => k_is)
    (case noC3 => k_is)
    (case noC4 => k_is)
    (case noC5 => k_is)
    (case noC6 => k_is)
    (case atKN => k_is)
    (case fnKN => k_is)
    (case atKB => k_is)
    (case fnKB => k_is)
    (case aKG => k_is)
    (case pgG => k_is)
    (case hdKG => k_is)
    (case poG => k_is)
    (case saKG => k_is)
    (case mkG => k_is)
    (case kpG => k_is)
    (case noG1 => k_is)
    (case noG2 => k_is)
    (case noG3 => k_is)
    (case noG4 => k_is)
    (case noG5 => k_is)
    (case noG6 => k_is)
    (case noG7 => k_is)
    (case noG8 => k_is)
    (case atGN => k_is)
    (case fnGN => k_is)
    (case haO => k_is)
    (case hmO => k_is)
    (case sbO => k_is)
    (case icO => k_is)
    (case tyO => k_is)
    (case sOS => k_is)
    (case sOI => k_is)
    (case sOT => k_is)
    (case sCT => k_is)
    (case sCB => k_is)
    (case lPB => k_is)
    (case cPB => k_is)
    (case kPB => k_is)
    (case lPD => k_is)
    (case cPD => k_is)
    (case kPD => k_is)
    (case lFN => k_is)
    (case cFN => k_is)
    (case kFN => k_is)
    (case lFE => k_is)
    (case cFE => k_is)
    (case kFE => k_is)
    (case lFV => k_is)
    (case cFV => k_is)
    (case kFV => k_is)
    (case lFT => k_is)
    (case cFT => k_is)
    (case kFT => k_is)
    (case lFG => k_is)
    (case cFG => k_is)
    (case kFG => k_is)
    (case lON => k_is)
    (case cON => k_is)
    (case kON => k_is)
    (case lAN => k_is)
    (case cAN => k_is)
    (case kAN => k_is)
    (case lKN => k_is)
    (case cKN => k_is)
    (case kKN => k_is)
    (case lKB => k_is)
    (case cKB => k_is)
    (case kKB => k_is)
    (case lGN => k_is)
    (case cGN => k_is)
    (case kGN => k_is)
    (case z1 => k_is)
    (case z2 => k_is)
    (case z3 => k_is)
    (case z4 => k_is)
    (case z5 => k_is)
    (case z6 => k_is)
    (case z7 => k_is)
    (case z8 => k_is)
    (case z9 => k_is)
    (case z10 => k_is)
    (case z11 => k_is)
    (case z12 => k_is)
    (case z13 => k_is)
    (case z14 => k_is)
    (case z15 => k_is)
    (case z16 => k_is)
    (case z17 => k_is)
    (case v1 => k_is)
    (case v2 => k_is)
    (case v3 => k_is)
    (case v4 => k_is)
    (case v5 => k_is)
    (case haE1 => k_is)
    (case hmE1 => k_is)
    (case fcE1 => k_is)
    (case nnE1 => k_is)
    (case haE2 => k_is)
    (case hmE2 => k_is)
    (case fcE2 => k_is)
    (case nnE2 => k_is)
    (case haE3 => k_is)
    (case hmE3 => k_is)
    (case fcE3 => k_is)
    (case nnE3 => k_is)
    (case haE4 => k_is)
    (case hmE4 => k_is)
    (case fcE4 => k_is)
    (case nnE4 => k_is)
    (case haE5 => k_is)
    (case hmE5 => k_is)
    (case fcE5 => k_is)
    (case nnE5 => k_is)
    (case haE6 => k_is)
    (case hmE6 => k_is)
    (case fcE6 => k_is)
    (case nnE6 => k_is)
    (case haE7 => k_is)
    (case hmE7 => k_is)
    (case fcE7 => k_is)
    (case nnE7 => k_is)
    (case haE8 => k_is)
    (case hmE8 => k_is)
    (case fcE8 => k_is)
    (case nnE8 => k_is)
    (case haE9 => k_is)
    (case hmE9 => k_is)
    (case fcE9 => k_is)
    (case nnE9 => k_is)
    (case xnE => k_is)
    (case xtE => k_is)
    (case stE => k_is)
