import PyProof.Rows.All
import Wide.All
import OpenK.AllK
import Wide.FinOn
import HandS.ForMost
import HandS.IsInst
import HandS.Defaults
import HandS.Wide
import HandS.ForExc
import HandS.ExcInit
import HandS.ExcField
import KE.KExcIs
import KE.KTypeName
import HandS.ClsMeth
import HandS.DictComp
import HandS.More
import PyProof.ReprRoads
import HandS.SetFor
import HandS.Strs
import HandS.TupSets
import HandS.SortRule
import HandS.Deep
import HandS.TupAny
import HandS.Style
import HandS.Zip
import HandS.Walk
import HandS.MakeKwOnly
import HandS.RaiseMore
import HandS.Property
import OpenK.KOps
import HandS.Conv
import KE.KCallOwn
import KE.KOpsOwn
import HandS.FStr
import HandS.Gcd
import HandS.Codes
import HandS.Call
import PyProof.EqKinds
import KE.KEqDict
import PyProof.ReprLen
import PyProof.FitsInt
import PySem.Challenge.RW_oddfigures_k66_values_of_endless_rows
set_option Elab.async false
set_option linter.all false
set_option maxRecDepth 100000
/-! What the laws of this program have in common: heaps that stay but for one box, the box that draws are taken from, calls by names alone, repr of a truth. -/
namespace OF
open PySem PySem.Spec PyProof.Rows L2

/-! ### heaps that stay but for one place -/
/-- all that was tracked, but for the box at a, is as it was -/
def But (a : Addr) (H H' : Hp) : Prop := ∀ b o, b ≠ a → H b = some o → H' b = some o
theorem But.refl {a : Addr} {H : Hp} : But a H H := fun _ _ _ h => h
theorem But.trans {a : Addr} {H H1 H2 : Hp} (x : But a H H1) (y : But a H1 H2) : But a H H2 := fun b o n h => y b o n (x b o n h)
theorem But.of_same {a : Addr} {H H' : Hp} (x : Same H H') : But a H H' := fun b o _ h => x b o h
theorem But.new {a p : Addr} {H : Hp} {o : HO} (hp : H p = none) : But a H (upd H p o) := fun b u _ h => by
  rw [upd_ne (ne_of_none h hp)]; exact h
theorem But.at_ {a : Addr} {H : Hp} {o : HO} : But a H (upd H a o) := fun b u n h => by
  rw [upd_ne n]; exact h
/-- what was none ahead of the steps is a new place: a store to it keeps all -/
theorem But.store {a p : Addr} {H H1 : Hp} {o : HO} (x : But a H H1) (hp : H p = none) : But a H (upd H1 p o) := fun b u n h => by
  rw [upd_ne (ne_of_none h hp)]; exact x b u n h
theorem But.seqL {K : PySem.W.Frag} {a p : Addr} {H H' : Hp} {xs : List V} (x : But a H H') (n : p ≠ a) (h : SqL K H p xs) : SqL K H' p xs := by
  rcases h with (h | ⟨o, h⟩) | h
  · exact .inl (.inl (x _ _ n h))
  · exact .inl (.inr ⟨o, x _ _ n h⟩)
  · exact .inr h
theorem But.seqT {K : PySem.W.Frag} {a p : Addr} {H H' : Hp} {xs : List V} (x : But a H H') (n : p ≠ a) (h : SqT K H p xs) : SqT K H' p xs := by
  rcases h with (h | ⟨o, h⟩) | h
  · exact .inl (.inl (x _ _ n h))
  · exact .inl (.inr ⟨o, x _ _ n h⟩)
  · exact .inr h
theorem same_new {H : Hp} {p : Addr} {o : HO} (h : H p = none) : Same H (upd H p o) := fun b x e => by
  rw [upd_ne (ne_of_none e h)]; exact e

/-! ### the box -/
/-- at a stands a box: what is left of a large cell, a seed, how many were mixed (at most n) -/
def Box (n : Int) (H : Hp) (a : Addr) : Prop := ∃ b0 b1 b2 : Int, H a = some (.lst [.int b0, .int b1, .int b2]) ∧ 0 ≤ b0 ∧ 0 ≤ b1 ∧ b1 < 2147483648 ∧ 0 ≤ b2 ∧ b2 ≤ n
theorem Box.mono {n m : Int} {H : Hp} {a : Addr} (h : Box n H a) (hm : n ≤ m) : Box m H a := by
  obtain ⟨b0, b1, b2, h1, h2, h3, h4, h5, h6⟩ := h
  exact ⟨b0, b1, b2, h1, h2, h3, h4, h5, by omega⟩
theorem Box.same {n : Int} {H H' : Hp} {a : Addr} (h : Box n H a) (s : Same H H') : Box n H' a := by
  obtain ⟨b0, b1, b2, h1, r⟩ := h
  exact ⟨b0, b1, b2, s _ _ h1, r⟩
theorem Box.new {n : Int} {H : Hp} {a p : Addr} {o : HO} (h : Box n H a) (hp : H p = none) : Box n (upd H p o) a := h.same (same_new hp)
theorem Box.ne {n : Int} {H : Hp} {a p : Addr} (h : Box n H a) (hp : H p = none) : p ≠ a := by
  obtain ⟨b0, b1, b2, h1, r⟩ := h
  exact (ne_of_none h1 hp).symm
theorem Box.upd {n : Int} {H : Hp} {a p : Addr} {o : HO} (h : Box n H a) (hp : p ≠ a) : Box n (L2.upd H p o) a := by
  obtain ⟨b0, b1, b2, h1, r⟩ := h
  exact ⟨b0, b1, b2, by rw [upd_ne hp.symm]; exact h1, r⟩

/-- a draw: box, many; a number from 0 to many - 1, the box goes on -/
def spTake : Sp := fun vs H Q _ => ∃ (a : Addr) (m n : Int), vs = [.ref a, .int m] ∧ Box n H a ∧ n ≤ 1000000 ∧ 0 < m ∧ m.natAbs < 2 ^ 400 ∧
  ∀ (r : Int) (H' : Hp), 0 ≤ r → r < m → But a H H' → Box (n + 1) H' a → Q (.int r) H'
/-- a cell of the script, or a number made of the place -/
def spCell (K : PySem.W.Frag) : Sp := fun vs H Q _ => ∃ (a : Addr) (ns : List Int) (k : Nat), vs = [.ref a, .int k] ∧ SqL K H a (ns.map V.int) ∧ k < 1000 ∧ ∀ c : Int, Q (.int c) H
/-- a new box of a cell -/
def spBox : Sp := fun vs H Q _ => ∃ c : Int, vs = [.int c] ∧ ∀ (p : Addr) (H' : Hp), H p = none → Same H H' → Box 0 H' p → Q (.ref p) H'
/-- a list's items in a drawn order -/
def spMixed (K : PySem.W.Frag) : Sp := fun vs H Q _ => ∃ (a p : Addr) (xs : List V) (n : Int), vs = [.ref a, .ref p] ∧ Box n H a ∧ SqL K H p xs ∧ p ≠ a ∧ xs.length ≤ 1000 ∧ n ≤ 900000 ∧
  ∀ (D : Addr) (ys : List V) (H' : Hp), H D = none → But a H H' → Box (n + xs.length) H' a → H' D = some (.lst ys) → ys.length = xs.length → (∀ y ∈ ys, y ∈ xs) → Q (.ref D) H'

/-! ### calls by names alone -/
section
variable {X : Cx} {CX : CXT} {k : Nat} {f : Addr} {fd : FuncData} {ps ks : List Str} {sp : Sp} {E : XK} {x : Str} {p pos : Pos} {kws : List Keyword} {tk : TA} {g : List Value → List Value → List Value} {gV : List V → List V → List V}
/-- f(k = v, ..) -/
theorem pe_callN0 (F : FnOk X.prog X.w X.K X.mg X.base CX k f fd ps sp) (hr : Room k X.A) (hg : Gl X x) (hm : X.mg x = some (.ref f)) (hk : PySem.W.keepIn X.K (.ref f) = true) (hb : KBn X.K fd ps 0 ks g gV) (hx : Passes CX X E)
    (hkw : PK X kws tk) (hall : (backToKw pos (keywordEach kws X.env)).all (·.1.isSome) = true := by rfl) (hks : (backToKw pos (keywordEach kws X.env)).filterMap (·.1) = ks := by rfl)
    (hdb : (x == ("__debug__" : Str)) = false := by decide)
    (hpl : ((backTo pos (starEach [] X.env)).any (·.1) || (backToKw pos (keywordEach kws X.env)).any (·.1.isNone)) = false := by rfl) :
    PE X (.Call (.Name x p) [] kws pos) (tCallN 0 ks.length sp gV E tNil tk) := by
  refine ⟨fun pins s σ H Q I h => ?_⟩
  refine wpAny_Call_Name_kw (ld_glob I hg hm ?_ hdb)
  refine PySem.W.callWith_KW0 (h₀ := X.base) I.ok.mod.kin hk hall (thn (hkw.run pos pins s σ H _ I h) fun ws s2 ⟨zs, H2, I2, rz, l1, l2, q2⟩ => ⟨I2.kIn, ?_⟩) hpl
  rw [hks]
  exact run_fnN (us := []) (vs := []) F hr hb hx I2 .nil rz l1 l2 q2
/-- % by a positive number: some rest, in its bounds -/
theorem op_modR : OpR X (binaryOp .Mod) (fun x y H Q => ∃ i j : Int, x = .int i ∧ y = .int j ∧ 0 < j ∧ ∀ r : Int, 0 ≤ r → r < j → Q (.int r) H) := by
  intro pins s σ H x y v u Q I rx ry h
  obtain ⟨i, j, e1, e2, hj, q⟩ := h
  exact op_mod pins s σ H x y v u Q I rx ry ⟨i, j, e1, e2, hj, q _ (Int.emod_nonneg _ (by omega)) (Int.emod_lt_of_pos _ hj)⟩
theorem call_repr_bool : CallR X (.builtin "repr") (fun xs H Q => ∃ b, xs = [.bl b] ∧ Q (.str (if b then "True" else "False")) H) := by
  intro pins s σ H xs us Q I r h
  obtain ⟨b, rfl, q⟩ := h
  obtain ⟨u, rfl, hu⟩ := vals1 r
  cases hu
  exact PySem.P.repr_of_bool ⟨.str _, H, I.tok _, ⟨_, rfl⟩, q⟩
end
end OF
namespace OF
open PySem PySem.Spec PyProof.Rows L2
/-- len of a list or tuple -/
abbrev rLenS (K : PySem.W.Frag) : List V → Hp → VK → Prop := fun xs H Q => ∃ p ys, xs = [.ref p] ∧ (SqL K H p ys ∨ SqT K H p ys) ∧ Q (.int ys.length) H
theorem tYes_if {σ : L2.St} {H : Hp} {A B : Hp → Prop} (h : A H) : tYes σ H (fun b H3 => if b = true then A H3 else B H3) := by
  show (if true = true then A H else B H)
  rw [if_pos rfl]
  exact h
/-- both ways of a test lead to the same rest -/
theorem iteDup {c : Bool} {A B R : Prop} (f : R → c = true → A) (g : R → c = false → B) (r : R) : if c = true then A else B := by
  cases c with
  | true => exact iteT (f r rfl)
  | false => exact iteF (g r rfl)
theorem iteAnd {c d : Bool} {A : Prop} {Q : V → Hp → Prop} {H : Hp} (hA : Q (.bl d) H → A) (h : Q (.bl (c && d)) H) : if c = true then A else Q (.bl false) H := by
  cases c with
  | true => exact iteT (hA h)
  | false => exact iteF h
theorem iteOr {c d : Bool} {A : Prop} {Q : V → Hp → Prop} {H : Hp} (hA : Q (.bl d) H → A) (h : Q (.bl (c || d)) H) : if c = true then Q (.bl true) H else A := by
  cases c with
  | true => exact iteT h
  | false => exact iteF (hA h)
/-- an if whose test is known -/
theorem iteTB {c : Bool} {A B : Prop} (e : c = true) (h : A) : if c = true then A else B := by rw [if_pos e]; exact h
theorem iteFB {c : Bool} {A B : Prop} (e : c = false) (h : B) : if c = true then A else B := by rw [if_neg (by rw [e]; exact Bool.false_ne_true)]; exact h
/-- two values that are the same: no difference -/
theorem neSame {x y : V} (h : x = y) : (!decide (x = y)) = false := by rw [decide_eq_true h]; rfl
theorem eqSame {x y : V} (h : x = y) : decide (x = y) = true := decide_eq_true h
theorem seq_past {K : PySem.W.Frag} {H H1 H2 : Hp} {a p : Addr} {xs : List V} (hp : H p = none) (s : Same H H1) (b : But p H1 H2) (h : SqL K H a xs) : SqL K H2 a xs := by
  rcases h with (h | ⟨o, h⟩) | h
  · exact .inl (.inl (b _ _ (ne_of_none h hp) (s _ _ h)))
  · exact .inl (.inr ⟨o, b _ _ (ne_of_none h hp) (s _ _ h)⟩)
  · exact .inr h
/-- an item at a place within -/
theorem pick {xs : List V} {r : Int} (h0 : 0 ≤ r) (h1 : r < xs.length) : ∃ v, atI xs r = some v ∧ v ∈ xs := by
  obtain ⟨k, rfl⟩ := Int.eq_ofNat_of_zero_le h0
  have hk : k < xs.length := by omega
  exact ⟨xs[k], atI_nat (List.getElem?_eq_getElem hk), List.getElem_mem hk⟩
theorem ixN_in {n : Nat} {r : Int} (h0 : 0 ≤ r) (h1 : r < n) : ixN n r = some r.toNat := by
  unfold ixN
  rw [if_pos h0, if_pos h1]
/-- a value of a kind that is no int, or a truth -/
inductive Odd (H : Hp) : V → Prop
  | non : Odd H .non
  | bl (b : Bool) : Odd H (.bl b)
  | str (z : Str) : Odd H (.str z)
  | lst {a : Addr} {xs : List V} (e : H a = some (.lst xs)) : Odd H (.ref a)
  | tup {a : Addr} {xs : List V} (e : H a = some (.tup xs)) : Odd H (.ref a)
  | dK {a : Addr} {kvs : List (Key × V)} (e : H a = some (.dK kvs)) : Odd H (.ref a)
theorem Odd.same {H H' : Hp} {x : V} (h : Odd H x) (s : Same H H') : Odd H' x := by
  cases h with
  | non => exact .non
  | bl b => exact .bl b
  | str z => exact .str z
  | lst e => exact .lst (s _ _ e)
  | tup e => exact .tup (s _ _ e)
  | dK e => exact .dK (s _ _ e)
theorem Odd.kit {K : PySem.W.Frag} {H : Hp} {x : V} (h : Odd H x) : ∃ (t : Value) (b : Bool), TyX K H x t ∧ PySem.W.kitOne K t (.type "int") = some b ∧ (b = true → PySem.W.kitOne K t (.type "bool") = some true) := by
  cases h with
  | non => exact ⟨_, false, .base .non, kit_ty (by decide +kernel), fun z => nomatch z⟩
  | bl b => exact ⟨_, true, .base (.bl b), kit_ty (by decide +kernel), fun _ => kit_ty (by decide +kernel)⟩
  | str z => exact ⟨_, false, .base (.str z), kit_ty (by decide +kernel), fun z => nomatch z⟩
  | lst e => exact ⟨_, false, .base (.lst e), kit_ty (by decide +kernel), fun z => nomatch z⟩
  | tup e => exact ⟨_, false, .base (.tup e), kit_ty (by decide +kernel), fun z => nomatch z⟩
  | dK e => exact ⟨_, false, .base (.dK e), kit_ty (by decide +kernel), fun z => nomatch z⟩
theorem Odd.but {a : Addr} {H H' : Hp} {x : V} (h : Odd H x) (hx : x ≠ .ref a) (t : But a H H') : Odd H' x := by
  cases h with
  | non => exact .non
  | bl b => exact .bl b
  | str z => exact .str z
  | lst e => exact .lst (t _ _ (fun z => hx (congrArg V.ref z)) e)
  | tup e => exact .tup (t _ _ (fun z => hx (congrArg V.ref z)) e)
  | dK e => exact .dK (t _ _ (fun z => hx (congrArg V.ref z)) e)
theorem Same.store {p : Addr} {H H1 : Hp} {o : HO} (x : Same H H1) (hp : H p = none) : Same H (upd H1 p o) := fun b u h => by
  rw [upd_ne (ne_of_none h hp)]; exact x b u h
theorem q_eq {Q : V → Hp → Prop} {H : Hp} {x y : V} (h : x = y) (q : Q (.bl true) H) : Q (.bl (decide (x = y))) H := by
  rw [decide_eq_true h]; exact q
end OF
/-! e.__class__.__name__ of an error that is being made. -/
namespace PySem.W
open PySem PySem.Calls PyProof.Rows PyProof.V PySem.Spec Builtin Builtin.ObjectAttr Builtin.Getset_descriptor
section
variable {prog : Program} {w : World} {A : Around} {E : Value → Shared → Prop} {s : Shared} {K : Frag} {x C : Addr} {ox : Obj} {od : Option Obj} {expr : Bool} {Q : Value → Shared → Prop} {gt : Option Value}
theorem exc_class (X : K.In s.heap) (I : InstAt s.heap x ox C od) (hga : findIn K (.ref C) "__getattribute__" = some (some (.builtin "BaseException.__getattribute__"))) (hgt : findIn K (.ref C) "__getattr__" = some gt)
    (hsub : subIn K (.ref C) (.type "BaseException") = some true) (hf : findObj K C od "__class__" = some (.bind (.builtin "getset_descriptor.__get__") (.builtin "object.__class__"))) (hm : mroIn K C (.type "object") = some true)
    (h : Q (.ref C) { s with toks := s.toks + 1 }) : wpAny (model prog w) A (getAttr (.ref x) "__class__" expr) Q E s := by
  obtain ⟨hp, g, d, t, os⟩ := s
  have L0 := I.type (M := model prog w)
  have L1 := looks_findIn (M := model prog w) X hga
  have L2 := looks_findIn (M := model prog w) X hgt
  have L3 := looks_find (M := model prog w) X I hf
  have sub : Looks (model prog w) hp (isInstance (.ref x) (.type "BaseException")) true := L0.andThen (looks_subIn X hsub)
  have hx0 : (expr && onTheHeap (Value.builtin "BaseException.__getattribute__")) = false := by cases expr <;> rfl
  have hx2 : (Value.builtin "BaseException.__getattribute__" == Value.builtin "object.__getattribute__") = false := by decide +kernel
  have hx1 : (onTheHeap (Value.ref C) && Value.builtin "BaseException.__getattribute__" == Value.builtin "object.__getattribute__") = false := by rw [hx2]; rfl
  unfold getAttr getAttrBy
  refine wpAny_bind (wpAny_mkText (wpAny_holding (wpAny_bind (L0.at (wpAny_bind (L1.at ?_))))))
  show wpAny _ _ (if (onTheHeap (Value.ref C) && Value.builtin "BaseException.__getattribute__" == Value.builtin "object.__getattribute__") = true then _ else _) _ _ _
  rw [hx1, if_neg Bool.false_ne_true]
  unfold getAttrByItsOwn hookBefore
  refine wpAny_bind ?_
  rw [if_pos (show onTheHeap (Value.ref C) = true from rfl)]
  refine L2.at ?_
  refine wpAny_bind (wpAny_attempt (wpAny_holding ?_))
  unfold callGetattribute
  rw [hx0, if_neg Bool.false_ne_true]
  unfold boundAndCalled
  rw [PySem.F.excAttr_ValueError.ga.bind (.ref x)]
  refine wpAny_bind (wpAny_pure ?_)
  show wpAny _ _ (call (.builtin "BaseException.__getattribute__") [.ref x, .str "__class__" t]) _ _ _
  refine wpAny_call (codeAny_call_builtin PySem.F.excAttr_ValueError.ga.plain PySem.F.entry_bexc_ga ?_)
  refine @PySem.W.check_slot (model prog w) _ _ ⟨hp, g, d, t + 1, os⟩ "BaseException.__getattribute__" "BaseException" "__getattribute__" (.ref x) [.str "__class__" t] [] _ (by decide +kernel) (by decide +kernel) sub (PySem.F.args_bexc_ga (.ref x) (.str "__class__" t)) ?_
  unfold Builtin.«object.__getattribute__»
  refine wpAny_bind (wpAny_of_eq (a := ((Value.ref x : Value), [Value.str "__class__" t])) (by first | rfl | (simp only [slotArgs]; rfl)) ?_)
  refine wpAny_bind (wpAny_pure (wpAny_bind (L0.at (wpAny_bind (L3.at ?_)))))
  refine wpAny_bind (wpAny_holding (wpAny_call (class_get (s := ⟨hp, g, d, t + 1, os⟩) (ox := ox) (od := od) X I hm ?_)))
  refine wpAny_pure ?_
  show wpAny _ _ (handedOut (.ref C)) _ _ _
  rw [handedOut_of (show handedIn (.ref C) = true from rfl)]
  first | exact wpAny_pure h | exact wpAny_pure (wpAny_pure h)
theorem cn_dga (d tp : Value) (a : Addr) : descrGetArgs ⟨[d, .ref a, tp], []⟩ = pure (d, some (.ref a), given tp) := by kernel_rfl
theorem cn_get {R : Result → Shared → Prop} {tp v : Value} {o : Obj} (ho : s.heap.get? C = some o) (hc : o.cls = .type "type") (hv : o.slots[2]?.join = some v) (h : R (.ok (.ret v)) s) :
    codeAny (model prog w) A (.call (.builtin "getset_descriptor.__get__") ⟨[.builtin "type.__name__", .ref C, tp], []⟩) R s := by
  obtain ⟨hh, g, dr, t, os⟩ := s
  have L0 : Looks (model prog w) hh (typeOf (.ref C)) (.type "type") := by
    rw [← hc]
    exact (Looks.ld ho).andThen .now
  have L1 : Looks (model prog w) hh (isSubtype (.type "type") (.type "type")) true := Looks.of_pure (by rw [isSubtype_type]; kernel_rfl)
  refine codeAny_call_builtin KF.slot_gs.plain KF.entry_gs (KF.slot_gs.check _ _ _ _ _ _ _ _ ktyn_type (KF.args_gs _ _ _) ?_)
  unfold Builtin.«getset_descriptor.__get__» descrGet
  rw [cn_dga]
  refine wpAny_bind (wpAny_pure ?_)
  unfold descrGetter descrCheckInstance descrNameAndClass isInstance
  simp only [ktyn_owner]
  repeat lk
  refine ⟨Code.quiet_builtin _ (by decide +kernel), codeAny_builtin ktyn_entry ?_⟩
  unfold Builtin.«type.__name__» keptObject slotAt
  dsimp only
  refine wpAny_bind (wpAny_bind (wpAny_loadPart_at ho (wpAny_pure ?_)))
  rw [hv]
  exact wpAny_pure h
theorem cn_attr {v : Value} {o : Obj} (X : K.In s.heap) (ty : typeIn K (.ref C) = some (.type "type")) (st : nsIn K cStatics "thirdparty.any" = some none)
    (e : findCls K (.ref C) (.type "type") "__name__" = some (.get (.builtin "getset_descriptor.__get__") (.builtin "type.__name__") (.ref C) (.type "type"))) (lk : K.lookup C = some o) (hc : o.cls = .type "type") (hv : o.slots[2]?.join = some v) (hh : handedIn v = true)
    (h : Q v { s with toks := s.toks + 1 }) : wpAny (model prog w) A (getAttr (.ref C) "__name__" expr) Q E s := by
  have ho := X _ _ lk
  have L0 : Looks (model prog w) s.heap (typeOf (.ref C)) (.type "type") := by
    rw [← hc]
    exact (Looks.ld ho).andThen .now
  have hg : findIn K (.type "type") "__getattribute__" = some (some (.builtin "type.__getattribute__")) := type_tga
  refine cls_open X (looks_opaque X st) L0 hg (looks_hook X (r := none) (by rfl)) (by show subIn K _ _ = _; rfl) e ?_
  show wpAny _ _ (do ret (← holding [Value.builtin "type.__name__"] (call (.builtin "getset_descriptor.__get__") [.builtin "type.__name__", .ref C, .type "type"]))) _ _ _
  refine wpAny_bind (wpAny_holding (wpAny_call (cn_get (s := { s with toks := s.toks + 1 }) ho hc hv ?_)))
  refine wpAny_pure ?_
  show wpAny _ _ (handedOut v) _ _ _
  rw [handedOut_of hh]
  first | exact wpAny_pure h | exact wpAny_pure (wpAny_pure h)
end
end PySem.W
namespace OF
open PySem PySem.Spec PyProof.Rows L2
/-- what an error class says, so that the name of its class is told -/
structure NamC (K : PySem.W.Frag) (C : Addr) (nm : Str) : Prop where
  xf : XfC K C
  cl : (PySem.W.clsIn K C).isSome = true
  ha : PySem.W.findIn K (.ref C) "__class__" = some (some (.builtin "object.__class__"))
  hn : PySem.W.specialIn K (.builtin "object.__class__") "__get__" = some (some (.builtin "getset_descriptor.__get__"))
  ht : PySem.W.takesIn K (.builtin "object.__class__") = some true
  hm : PySem.W.mroIn K C (.type "object") = some true
  ty : PySem.W.typeIn K (.ref C) = some (.type "type")
  st : PySem.W.nsIn K cStatics "thirdparty.any" = some none
  fc : PySem.W.findCls K (.ref C) (.type "type") "__name__" = some (.get (.builtin "getset_descriptor.__get__") (.builtin "type.__name__") (.ref C) (.type "type"))
  lk : ∃ (o : Obj) (t : Tok), K.lookup C = some o ∧ o.cls = .type "type" ∧ o.slots[2]?.join = some (.str nm t)
  no : PySem.W.findIn K (.ref C) "class_name" = some none
section
variable {X : Cx} {e : Expr} {te : TE} {p1 p2 : Pos}
/-- e.__class__.__name__ -/
def tCname (K : PySem.W.Frag) (te : TE) : TE := fun σ H Q => te σ H fun x H1 => ∃ (a C : Addr) (nm : Str), x = .ref a ∧ H1 a = some (exo a C none) ∧ NamC K C nm ∧ Q (.str nm) H1
theorem pe_cname (he : PE X e te) (hb : attributeBase e "__class__" X.env (eval e X.env) = eval e X.env := by rfl) (hb2 : attributeBase (.Attribute e "__class__" p1) "__name__" X.env (eval (.Attribute e "__class__" p1) X.env) = eval (.Attribute e "__class__" p1) X.env := by rfl) :
    PE X (.Attribute (.Attribute e "__class__" p1) "__name__" p2) (tCname X.K te) := by
  refine ⟨fun pins s σ H Q I h => ?_⟩
  refine attr_of hb2 (attr_of hb (thn (he.run pins s σ H _ I h) fun u s1 hh => ?_))
  obtain ⟨x, H1, I1, rx, a, C, nm, ex, ea, N, q⟩ := hh
  subst ex
  obtain rfl : u = Value.ref a := rx
  obtain ⟨t1, ho⟩ := exo_at I1.hok ea
  have J : PySem.W.InstAt s1.heap a { cls := .ref C, dict := none, data := .fields #[.ref t1, .none, .none, .none, .bool false, .none] } C none := ⟨ho, rfl, rfl, trivial⟩
  refine PySem.W.exc_class I1.kIn J N.xf.ga N.xf.gg N.xf.exC (PySem.W.findObj_dataE N.cl N.ha N.hn N.ht) N.hm ?_
  obtain ⟨o, t, lk, hc, hv⟩ := N.lk
  refine PySem.W.cn_attr (s := { s1 with toks := s1.toks + 1 }) (I1.tok _).kIn N.ty N.st N.fc lk hc hv rfl ?_
  exact ⟨.str nm, H1, (I1.tok _).tok _, ⟨_, rfl⟩, q⟩
end
end OF
/-! The errors of the program: two classes deep, each with an __init__ of its own that calls the one above by its class. -/
namespace OF
open PySem PySem.Spec PyProof.Rows L2

/-! ### C.m(e, ..), m a plain def read off the class -/
section
variable {X : Cx} {CX : CXT} {k : Nat} {C f : Addr} {fd : FuncData} {ps : List Str} {sp : Sp} {E : XK} {x m : Str} {p p1 p2 pos : Pos} {e : Expr} {es : List Expr} {t : TA} {mc : Value}
theorem pe_unb {pl : Sem Bool} (F : FnOk X.prog X.w X.K X.mg X.base CX k f fd ps sp) (hr : Room k X.A) (hg : Gl X x) (hm : X.mg x = some (.ref C)) (r : ClX.CRead X.K C mc) (c : ClX.CVal X.K C mc m (.ref f) (.ref f)) (hk : PySem.W.keepIn X.K (.ref f) = true)
    (hb : Binds X.K fd ps []) (hx : Passes CX X E) (ha : PA X (e :: es) t)
    (hc : eval (.Call (.Attribute (.Name x p1) m p2) (e :: es) [] pos) X.env = (do
      let ov ← eval (.Name x p1) X.env
      standAt p2.atName
      let (f, first) ← holding [ov] (getMethod ov m pl)
      callWith pos f first (backTo pos (starEach (e :: es) X.env)) (backToKw pos (keywordEach [] X.env))) := by rfl)
    (hdb : (x == ("__debug__" : Str)) = false := by decide) (he : starEach (e :: es) X.env = (false, eval e X.env) :: starEach es X.env := by rfl) (hpl : (backTo pos (starEach es X.env)).any (·.1) = false := by rfl) :
    PE X (.Call (.Attribute (.Name x p1) m p2) (e :: es) [] pos) (tCall sp [] E t) := by
  refine ⟨fun pins s σ H Q I h => ?_⟩
  refine PySem.W.methodCall_KW (ld_glob I hg hm ?_ hdb) hc
  refine PySem.W.method_cls I.kIn r.ga (ClX.getcval_ok I r c fun s' I' => ?_)
  show wpAny _ _ (callWith pos (Value.ref f) [] (backTo pos (starEach (e :: es) X.env)) []) _ _ _
  refine PySem.W.callWith_K (h₀ := X.base) I.ok.mod.kin hk (thn (ha.run pos pins s' σ H _ I' h) fun us s1 ⟨vs, H1, I1, r1, q⟩ => ⟨I1.kIn, ?_⟩) he hpl
  exact run_fn F hr hb .nil hx I1 r1 q
end

/-! ### promises of the makers -/
/-- FigureError.__init__: the name of the class is kept -/
def spFig (K : PySem.W.Frag) : Sp := fun vs H Q _ => ∃ (a C : Addr) (v : V) (nm : Str), vs = [.ref a, v] ∧ OexC K C ∧ NamC K C nm ∧ H a = some (exo a C none) ∧ ∀ d, H d = none → d ≠ a → Q .non (upd (upd H d (exd d [("class_name", .str nm)])) a (exo a C (some d)))
/-- X.__init__ of the class at C: one field, and what was kept -/
def spInit (K : PySem.W.Frag) (f : Str) (C : Addr) : Sp := fun vs H Q _ => ∃ (a : Addr) (v : V), vs = [.ref a, v] ∧ H a = some (exo a C none) ∧ ∀ (fs : List (Str × V)) (d : Addr), H d = none → d ≠ a → Q .non (upd (upd H d (exd d ((f, v) :: fs))) a (exo a C (some d)))
theorem upd_swap {H : Hp} {a d : Addr} {x y z : HO} (n : d ≠ a) : upd (upd (upd H d x) a y) d z = upd (upd H d z) a y := by
  funext b
  by_cases h : b = d
  · subst h
    rw [upd_same, upd_ne n, upd_same]
  · rw [upd_ne h]
    by_cases h2 : b = a
    · subst h2
      rw [upd_same, upd_same]
    · rw [upd_ne h2, upd_ne h2, upd_ne h, upd_ne h]
/-- what the top says of FigureError -/
structure FigC (K : PySem.W.Frag) (mg : Str → Option Value) (C f : Addr) : Prop where
  g : mg "FigureError" = some (.ref C)
  rd : ClX.CRead K C (.type "type")
  at_ : PySem.W.findCls K (.ref C) (.type "type") "__init__" = some (.val (.ref f))
  kp : PySem.W.keepIn K (.ref f) = true
theorem FigC.val {K : PySem.W.Frag} {mg : Str → Option Value} {C f : Addr} (T : FigC K mg C f) : ClX.CVal K C (.type "type") "__init__" (.ref f) (.ref f) := ⟨T.at_, rfl⟩
/-- what the top says of an error class below it, its field f, its maker at fI -/
structure ErrC (K : PySem.W.Frag) (mg : Str → Option Value) (x f : Str) (C fI : Addr) : Prop where
  g : mg x = some (.ref C)
  ox : OexC K C
  iC : PySem.W.findIn K (.ref C) "__init__" = some (some (.ref fI))
  tI : PySem.W.typeIn K (.ref fI) = some (.type "function")
  no : PySem.W.findIn K (.ref C) f = some none
  xf : XfC K C
  te : PySem.W.exmOne K (.ref C) (.ref C) = some true
  nam : ∃ nm, NamC K C nm
/-- a raised error of the class at C with its field -/
def Raised (C : Addr) (f : Str) (v : V) (H : Hp) (E : XK) : Prop := ∀ (fs : List (Str × V)) (d : Addr) (H' : Hp), H d = none → Same H H' → H' d = some (.xd ((f, v) :: fs)) → E (.ref C) (some d) H'
theorem raised_ok {C : Addr} {f : Str} {v : V} {H H1 : Hp} {E : XK} (q : Raised C f v H E) (s : Same H H1) {K : PySem.W.Frag} {σ : L2.St} {D : Ends} : 
    ([v].length ≤ 1000 ∧ ∀ a, H1 a = none → spInit K f C (.ref a :: ([v] ++ [])) (upd H1 a (exo a C none))
      (fun v' H2 => v' = .non ∧ ∃ (d : Addr) (fs : List (Str × V)), H2 a = some (exo a C (some d)) ∧ H2 d = some (exd d fs) ∧ H1 d = none ∧ E (.ref C) (some d) (upd (del H2 a) d (.xd fs))) (fun _ _ _ => False)) := by
  refine ⟨(by show 1 ≤ 1000; decide), fun a ha => ⟨a, v, rfl, upd_same, fun fs d hd nda => ⟨rfl, d, (f, v) :: fs, upd_same, ?_, ?_, ?_⟩⟩⟩
  · rw [upd_ne nda]
    exact upd_same
  · rw [upd_ne nda] at hd
    exact hd
  · rw [upd_ne nda] at hd
    refine q fs d _ (s.free hd) (fun b o h => ?_) upd_same
    have h1 := s b o h
    have hba : b ≠ a := ne_of_none h1 ha
    have hbd : b ≠ d := ne_of_none h1 hd
    rw [upd_ne hbd, del_ne hba, upd_ne hba, upd_ne hbd, upd_ne hba]
    exact h1
/-- dict comprehensions over a range -/
theorem dc_range {lo : Int} {n : Nat} {g : TG} {tt : TT} {tk tv : TE} {vs : List Nat} {σ : L2.St} {H1 : Hp} {D : Addr} {Qd : Hp → Prop} (Pv : Nat → Hp → Prop) (h0 : Pv 0 (upd H1 D (.dK [])))
    (hs : ∀ i H, i < n → Pv i H → g (.int (lo + i)) (wipe σ vs) H fun σ2 H2 => wipe σ2 vs = wipe σ vs ∧ tt σ2 H2 fun b H3 =>
      if b = true then tk σ2 H3 fun y H4 => tv σ2 H4 fun z H5 => ∃ kvs k, y = kV k ∧ H5 D = some (.dK kvs) ∧ kvs.length < sizeLine ∧ Pv (i + 1) (upd H5 D (.dK (putK kvs k z))) else Pv (i + 1) H3) (hd : ∀ H, Pv n H → Qd H) :
    ∃ W : Nat → Nat → Hp → Prop, (∃ m, W 0 m (upd H1 D (.dK []))) ∧ ∀ i m H, W i m H →
      ((Itr lo n).stop i H ∧ Qd H) ∨ ((Itr lo n).go i H ∧ ∃ Nx : Hp → Prop, (∀ H', Nx H' → ∃ m', m' < m ∧ W (i + 1) m' H') ∧ ∀ x H', (Itr lo n).yld i H x H' → g x (wipe σ vs) H' fun σ2 H2 => wipe σ2 vs = wipe σ vs ∧ tt σ2 H2 fun b H3 =>
        if b = true then tk σ2 H3 fun y H4 => tv σ2 H4 fun z H5 => ∃ kvs k, y = kV k ∧ H5 D = some (.dK kvs) ∧ kvs.length < sizeLine ∧ Nx (upd H5 D (.dK (putK kvs k z))) else Nx H3) := by
  refine ⟨fun i m H => m = n - i ∧ i ≤ n ∧ Pv i H, ⟨n, by simp, Nat.zero_le _, h0⟩, ?_⟩
  rintro i m H ⟨rfl, hi, p⟩
  by_cases hlt : i < n
  · refine .inr ⟨hlt, Pv (i + 1), fun H' p' => ⟨n - (i + 1), by omega, rfl, hlt, p'⟩, fun x H' y => ?_⟩
    obtain ⟨e, y⟩ := y
    subst e y
    exact hs i _ hlt p
  · have e : i = n := by omega
    subst e
    exact .inl ⟨Nat.le_refl _, hd H p⟩
/-- an error of a class is what an except clause of that class names -/
theorem exm_own {K : PySem.W.Frag} {S : Addr} (h1 : PySem.W.subIn K (.ref S) (.type "BaseException") = some true) (h2 : PySem.W.isClsIn K S = true) (h3 : PySem.W.typeIn K (.ref S) = some (.type "type")) (h4 : PySem.W.subIn K (.ref S) (.ref S) = some true) :
    PySem.W.exmOne K (.ref S) (.ref S) = some true := by
  have h2' : (PySem.W.clsIn K S).isSome = true := h2
  unfold PySem.W.exmOne
  simp only [h1, beq_self_eq_true, if_true]
  unfold PySem.W.kitCls
  simp only [h3, h4, h2', beq_self_eq_true, Bool.and_self, if_true]

/-! ### isinstance(e, C), e the error that the suite holds, with a dict of its own -/
/-- what the class D of the error says, so that it is asked rightly -/
structure AskC (K : PySem.W.Frag) (D : Addr) : Prop where
  cl : (PySem.W.clsIn K D).isSome = true
  xf : XfC K D
  ha : PySem.W.findIn K (.ref D) "__class__" = some (some (.builtin "object.__class__"))
  hn : PySem.W.specialIn K (.builtin "object.__class__") "__get__" = some (some (.builtin "getset_descriptor.__get__"))
  ht : PySem.W.takesIn K (.builtin "object.__class__") = some true
  hm : PySem.W.mroIn K D (.type "object") = some true
def rAsk (K : PySem.W.Frag) (D a : Addr) (cls : Value) (d : Option Addr) : List V → Hp → VK → Prop := fun xs H Q => ∃ (dd : Addr) (fs : List (Str × V)) (c : V) (cv : Value) (b : Bool), cls = .ref D ∧ d = some dd ∧ H dd = some (.xd fs) ∧ xs = [.ref a, c] ∧ (∀ u, RelV c u → u = cv) ∧ PySem.W.kitOne K (.ref D) cv = some b ∧ Q (.bl b) H
theorem call_ask {X : Cx} {a D : Addr} {oe : Obj} {cls : Value} {d : Option Addr} {pn : List (Addr × Obj)} (C : AskC X.K D) (hz : Zc cls d oe) (hf : ∃ vs, oe.data = .fields vs) : CallR (X.suite a ((a, oe) :: pn)) (.builtin "isinstance") (rAsk X.K D a cls d) := by
  intro pins s σ H xs us Q I r h
  obtain ⟨dd, fs, c, cv, b, ec, ed, ea, rfl, hcv, e, q⟩ := h
  obtain ⟨u1, u2, rfl, r1, r2⟩ := vals2 r
  cases r1
  cases hcv _ r2
  subst ec
  subst ed
  obtain ⟨hget, _⟩ := I.pin (a, oe) (List.mem_append_left _ List.mem_cons_self)
  obtain ⟨vs, hv⟩ := hf
  have hx : ObjOk X.prog X.w H s.heap dd (.xd fs) := I.hok dd _ ea
  obtain ⟨mA, hns, _⟩ := hx
  obtain ⟨od, ho, _⟩ := lookIn_ns hns
  have J : PySem.W.InstAt s.heap a oe D (some od) := ⟨hget, hz.1, by unfold PySem.W.notCls; rw [hv] <;> rfl, by rw [hz.2]; exact ho⟩
  exact PySem.W.kia_one (PySem.W.kitx_exc C.cl C.xf.ga C.xf.gg C.xf.exC C.ha C.hn C.ht C.hm) I.kIn J e (fun z => nomatch z) fun tk => ⟨.bl b, H, I.kept (t' := tk) fun _ _ z => z, rfl, q⟩

/-! ### lists of the same things -/
/-- l != l2, two lists of the very same things -/
def rNeSame (K : PySem.W.Frag) : R2 := fun x y H Q => ∃ (l l2 : Addr) (xs : List V), x = .ref l ∧ y = .ref l2 ∧ SqL K H l xs ∧ SqL K H l2 xs ∧ (∀ v ∈ xs, flatB v = true ∨ ∃ a, v = .ref a) ∧ Q (.bl false) H
theorem op_neSame {X : Cx} (hu : X.A.units + 64 < cLine) : OpR X (compareOp .NotEq) (rNeSame X.K) := by
  intro pins s σ H x y v u Q I rx ry h
  obtain ⟨l, l2, xs, rfl, rfl, h1, h2, hs, q⟩ := h
  cases rx
  cases ry
  obtain ⟨us, r1, p1, _⟩ := I.list h1
  obtain ⟨ws, r2, p2, _⟩ := I.list h2
  have n1 := r1.length
  have n2 := r2.length
  have hsz : us.toArray.size = ws.toArray.size := by
    rw [List.size_toArray, List.size_toArray]
    omega
  have key := SeqAt.RcNeAt.lists (A := X.A) (e := fun _ => true) p1.isList p2.isList hsz (by omega) (fun j h1 h2 => ?_)
  · refine key X.prog X.w _ _ ?_
    rw [show ((List.range us.toArray.size).all fun _ => true) = true from List.all_eq_true.mpr fun _ _ => rfl]
    exact ⟨.bl false, H, I, rfl, q⟩
  · have j1 : j < us.length := by simpa using h1
    have jx : j < xs.length := by omega
    obtain ⟨a, ea, ra⟩ := Vals.get r1 (List.getElem?_eq_getElem jx)
    obtain ⟨b, eb, rb⟩ := Vals.get r2 (List.getElem?_eq_getElem jx)
    have e1 : us.toArray[j] = a := by
      have := List.getElem?_eq_getElem j1
      rw [this] at ea
      simpa using Option.some.inj ea
    have e2 : ws.toArray[j] = b := by
      have j2 : j < ws.length := by omega
      have := List.getElem?_eq_getElem j2
      rw [this] at eb
      simpa using Option.some.inj eb
    rw [e1, e2]
    rcases hs _ (List.getElem_mem jx) with hf | ⟨p, hp⟩
    · exact eqAt_same ra rb hf
    · rw [hp] at ra rb
      cases ra
      cases rb
      exact SeqAt.EqAt.same _
/-- isinstance's answer by an own class that is the class itself or above it -/
theorem kit_own {K : PySem.W.Frag} {S C : Addr} (h2 : PySem.W.isClsIn K C = true) (h3 : PySem.W.typeIn K (.ref C) = some (.type "type")) (h4 : PySem.W.subIn K (.ref S) (.ref C) = some true) : PySem.W.kitOne K (.ref S) (.ref C) = some true := by
  have h2' : (PySem.W.clsIn K C).isSome = true := h2
  unfold PySem.W.kitOne
  split
  · rfl
  · unfold PySem.W.kitCls
    simp only [h3, h4, h2', beq_self_eq_true, Bool.and_self, if_true]
end OF
/-! Rows as texts: what read_row makes of a text. -/
namespace OF
open PySem PySem.Spec PyProof.Rows L2 TL
/-- the texts of the digits, with their digits -/
def digL : List (Key × V) := (List.range 19).map fun (i : Nat) => (Sum.inr (Str.ofString (toString ((-9 : Int) + (i : Int)))), V.int ((-9 : Int) + (i : Int)))
theorem digL_put : ∀ i : Nat, i < 19 → putK (digL.take i) (Sum.inr (Str.ofString (toString ((-9 : Int) + (i : Int))))) (V.int ((-9 : Int) + (i : Int))) = digL.take (i + 1) := by decide +kernel
theorem digL_all : digL.take 19 = digL := by decide +kernel
/-- the digit that a word is -/
def digV (w : Str) : Option V := valV digL (Sum.inr w)
/-- the digits that words are -/
def rowOf (ws : List Str) : Option (List V) := if ws.all (fun w => (digV w).isSome) = true then some (ws.map fun w => (digV w).getD .non) else none
/-- the row whose text it is -/
def readV (z : Str) : Option (List V) := if z = Str.ofString "." then some [] else rowOf (Txt.split z (Str.ofString " "))
/-- a value of a kind that is no text -/
inductive NoStr (H : Hp) : V → Prop
  | non : NoStr H .non
  | bl (b : Bool) : NoStr H (.bl b)
  | int (i : Int) : NoStr H (.int i)
  | lst {a : Addr} {xs : List V} (e : H a = some (.lst xs)) : NoStr H (.ref a)
  | tup {a : Addr} {xs : List V} (e : H a = some (.tup xs)) : NoStr H (.ref a)
  | dK {a : Addr} {kvs : List (Key × V)} (e : H a = some (.dK kvs)) : NoStr H (.ref a)
theorem NoStr.kit {K : PySem.W.Frag} {H : Hp} {x : V} (h : NoStr H x) : ∃ t : Value, TyX K H x t ∧ PySem.W.kitOne K t (.type "str") = some false := by
  cases h with
  | non => exact ⟨_, .base .non, kit_ty (by decide +kernel)⟩
  | bl b => exact ⟨_, .base (.bl b), kit_ty (by decide +kernel)⟩
  | int z => exact ⟨_, .base (.int z), kit_ty (by decide +kernel)⟩
  | lst e => exact ⟨_, .base (.lst e), kit_ty (by decide +kernel)⟩
  | tup e => exact ⟨_, .base (.tup e), kit_ty (by decide +kernel)⟩
  | dK e => exact ⟨_, .base (.dK e), kit_ty (by decide +kernel)⟩
theorem NoStr.same {H H' : Hp} {x : V} (h : NoStr H x) (s : Same H H') : NoStr H' x := by
  cases h with
  | non => exact .non
  | bl b => exact .bl b
  | int z => exact .int z
  | lst e => exact .lst (s _ _ e)
  | tup e => exact .tup (s _ _ e)
  | dK e => exact .dK (s _ _ e)
/-- read_row: the row, or an error with the very value -/
def spRead (C : Addr) : Sp := fun vs H Q E => ∃ x : V, vs = [x] ∧
  ((∃ z : Str, x = .str z ∧ z.length ≤ 100000 ∧ (∀ ds, readV z = some ds → ∀ p H', H p = none → Same H H' → H' p = some (.tup ds) → Q (.ref p) H') ∧ (readV z = none → Raised C "text" (.str z) H E)) ∨
    (NoStr H x ∧ Raised C "text" x H E))
theorem take_more {α : Type} : ∀ {l : List α} {i : Nat} {x : α}, l[i]? = some x → l.take (i + 1) = l.take i ++ [x]
  | [], i, x, h => by simp at h
  | a :: l, 0, x, h => by
    have e : a = x := Option.some.inj h
    subst e
    rfl
  | a :: l, i + 1, x, h => by
    have ih := take_more (l := l) (i := i) (x := x) h
    show a :: l.take (i + 1) = a :: l.take i ++ [x]
    rw [ih]
    rfl
theorem get_map {α β : Type} {f : α → β} {l : List α} {i : Nat} {y : β} (h : (l.map f)[i]? = some y) : ∃ x, l[i]? = some x ∧ y = f x := by
  rw [List.getElem?_map] at h
  cases e : l[i]? with
  | none => rw [e] at h; cases h
  | some x => rw [e] at h; exact ⟨x, rfl, (Option.some.inj h).symm⟩
theorem log_le {n : Int} (h : n.natAbs ≤ 1000) : n.natAbs.log2 < 1920 := Nat.lt_of_le_of_lt (Nat.log2_le_self _) (by omega)
theorem vals_signs : ∀ (L : List Nat) (l : List Value), l.length = L.length → (∀ (j : Nat) (v : Value), l[j]? = some v → ∃ (c : Nat) (u : Tok), L[j]? = some c ∧ v = Value.str ⟨#[c]⟩ u) → Vals (L.map fun c => V.str ⟨#[c]⟩) l
  | [], [], _, _ => .nil
  | c :: L, v :: l, hl, h => by
    obtain ⟨c', u, e1, e2⟩ := h 0 v rfl
    cases (show c = c' from Option.some.inj e1)
    exact .cons ⟨u, e2⟩ (vals_signs L l (Nat.succ.inj hl) fun j w hw => h (j + 1) w hw)
/-- list(text) -/
theorem call_list_signs {X : Cx} (hc : X.calm = true) : CallR X (.type "list") (fun xs H Q => ∃ z : Str, xs = [.str z] ∧ z.length ≤ sizeLine ∧ ∀ l, H l = none → Q (.ref l) (upd H l (.lst ((tl z).map fun c => V.str ⟨#[c]⟩)))) := by
  intro pins s σ H xs us Q I r h
  obtain ⟨z, rfl, hz, q⟩ := h
  obtain ⟨u, rfl, t, rfl⟩ := vals1 r
  refine PySem.call_list_str (I.ok.hd hc) z t (fun h' tk acc' c' hk hS' hacc => ?_) (by exact hz)
  have hl : acc'.toList.length = (tl z).length := by
    rw [Array.length_toList, hacc.1]
    rfl
  refine ⟨.ref s.heap.objs.size, _, I.laid (t' := tk) hk (Nat.le_refl _) (show ObjOk X.prog X.w _ h' _ (.lst ((tl z).map fun c => V.str ⟨#[c]⟩)) from ⟨?_, acc'.toList, c', ?_, ?_⟩), rfl, q _ (I.hok.fresh (Nat.le_refl _))⟩
  · rw [List.length_map, ← len_tl]
    exact hz
  · refine vals_signs _ _ hl fun j v hv => ?_
    obtain ⟨c, u, e1, e2⟩ := hacc.2 j v (by rw [← Array.getElem?_toList]; exact hv)
    exact ⟨c, u, by rw [Array.getElem?_toList]; exact e1, e2⟩
  · rw [Array.toArray_toList]
    exact hS'

/-! ### a word as the law reads it -/
def sgB (w : Str) : Bool := decide (V.str (cutS w none (some 1)) = V.str (Str.ofString "-"))
def sgI (w : Str) : Int := if sgB w then 1 else 0
def restS (w : Str) : Str := cutS w (some (sgI w)) none
def figs : List V := (tl (Str.ofString "0123456789")).map fun c => V.str ⟨#[c]⟩
def figVal (w : Str) : Int := Txt.find (Str.ofString "0123456789") (restS w) * (1 - 2 * sgI w)
theorem digV_is {w : Str} {v : V} (h : digV w = some v) : ∃ i : Nat, i < 19 ∧ w = Str.ofString (toString ((-9 : Int) + (i : Int))) ∧ v = V.int ((-9 : Int) + (i : Int)) := by
  unfold digV valV digL at h
  rw [List.find?_map] at h
  cases e : List.find? ((fun kv : Key × V => decide (kv.1 = Sum.inr w)) ∘ fun (i : Nat) => ((Sum.inr (Str.ofString (toString ((-9 : Int) + (i : Int)))), V.int ((-9 : Int) + (i : Int))) : Key × V)) (List.range 19) with
  | none => rw [e] at h; cases h
  | some i =>
    rw [e] at h
    have p := List.find?_some e
    have m := List.mem_of_find?_eq_some e
    refine ⟨i, List.mem_range.mp m, ?_, (Option.some.inj h).symm⟩
    exact (Sum.inr.inj (of_decide_eq_true p)).symm
theorem digs_ok : ∀ i : Nat, i < 19 → inV (.str (restS (Str.ofString (toString ((-9 : Int) + (i : Int)))))) figs = true ∧ decide (V.str (Str.ofString (toString ((-9 : Int) + (i : Int)))) = V.str (Str.ofString "-0")) = false ∧
    figVal (Str.ofString (toString ((-9 : Int) + (i : Int)))) = (-9 : Int) + (i : Int) := by decide +kernel
theorem word_some {w : Str} {v : V} (h : digV w = some v) : inV (.str (restS w)) figs = true ∧ decide (V.str w = V.str (Str.ofString "-0")) = false ∧ v = V.int (figVal w) := by
  obtain ⟨i, hi, rfl, rfl⟩ := digV_is h
  obtain ⟨h1, h2, h3⟩ := digs_ok i hi
  exact ⟨h1, h2, by rw [h3]⟩
theorem figs_words : ∀ c ∈ tl (Str.ofString "0123456789"), (digV ⟨#[c]⟩).isSome = true ∧ ((digV (⟨(45 :: [c]).toArray⟩ : Str)).isSome = true ∨ (⟨(45 :: [c]).toArray⟩ : Str) = Str.ofString "-0") := by decide +kernel
theorem cut_rest {w : Str} (h : sgB w = true) : tl w = 45 :: tl (cutS w (some 1) none) := by
  have e : cutS w none (some 1) = Str.ofString "-" := V.str.inj (of_decide_eq_true h)
  have e2 : tl (cutS w none (some 1)) = [45] := by rw [e]; decide +kernel
  have hL : ∀ lo hi, tl (cutS w lo hi) = ((tl w).drop (HT.sIx w.length 0 lo)).take (HT.sIx w.length w.length hi - HT.sIx w.length 0 lo) := fun lo hi => by
    unfold cutS
    exact List.toList_toArray ..
  rw [hL] at e2 ⊢
  rw [HT.sIx_none, show HT.sIx w.length w.length (some 1) = min 1 w.length from HT.sIx_nat w.length w.length 1] at e2
  rw [HT.sIx_none, show HT.sIx w.length 0 (some 1) = min 1 w.length from HT.sIx_nat w.length 0 1]
  have el := len_tl w
  cases hw : tl w with
  | nil => rw [hw] at e2; simp at e2
  | cons a r =>
    rw [hw] at e2 el
    have : min 1 w.length = 1 := by rw [el, List.length_cons]; omega
    rw [this] at e2 ⊢
    have ea : a = 45 := by simpa using e2
    rw [ea, el]
    simp
theorem cut_all {w : Str} (h : sgB w = false) : restS w = w := by
  unfold restS sgI
  rw [h]
  unfold cutS
  rw [show HT.sIx w.length 0 (some (if false = true then (1 : Int) else 0)) = min 0 w.length from HT.sIx_nat w.length 0 0, HT.sIx_none, Nat.zero_min, List.drop_zero, Nat.sub_zero]
  rw [List.take_of_length_le (by rw [← len_tl]; exact Nat.le_refl _)]
theorem word_none {w : Str} (h : digV w = none) : inV (.str (restS w)) figs = false ∨ decide (V.str w = V.str (Str.ofString "-0")) = true := by
  cases hi : inV (.str (restS w)) figs with
  | false => exact .inl rfl
  | true =>
    right
    unfold inV figs at hi
    obtain ⟨y, hy, e⟩ := List.any_eq_true.mp hi
    obtain ⟨c, hc, rfl⟩ := List.mem_map.mp hy
    have er : restS w = ⟨#[c]⟩ := by
      have : (⟨#[c]⟩ : Str) = restS w := by simpa [eqV] using e
      exact this.symm
    obtain ⟨h1, h2⟩ := figs_words c hc
    cases hs : sgB w with
    | false =>
      rw [cut_all hs] at er
      rw [er] at h
      rw [h] at h1
      cases h1
    | true =>
      have e1 := cut_rest hs
      have e3 : restS w = cutS w (some 1) none := by
        unfold restS sgI
        rw [hs]
        rfl
      have ew : w = (⟨(45 :: [c]).toArray⟩ : Str) := by
        rw [← mk_tl w, e1, ← e3, er]
      rcases h2 with h2 | h2
      · rw [← ew, h] at h2
        cases h2
      · exact decide_eq_true (congrArg V.str (ew.trans h2))

/-! ### texts of few and plain signs -/
def TOk (n : Nat) (z : Str) : Prop := (tl z).length ≤ n ∧ ∀ c ∈ tl z, c < 1114112
theorem TOk.mono {n m : Nat} {z : Str} (h : TOk n z) (hm : n ≤ m) : TOk m z := ⟨Nat.le_trans h.1 hm, h.2⟩
theorem TOk.len {n : Nat} {z : Str} (h : TOk n z) : z.length ≤ n := by rw [len_tl]; exact h.1
theorem TOk.ok {n : Nat} {z : Str} (h : TOk n z) : PyData.strOk z = true := by
  unfold PyData.strOk
  rw [Array.all_eq_true']
  intro c hc
  exact decide_eq_true (h.2 c (by show c ∈ z.cps.toList; exact Array.mem_toList_iff.mpr hc))
theorem tl_cut (w : Str) (lo hi : Option Int) : tl (cutS w lo hi) = ((tl w).drop (HT.sIx w.length 0 lo)).take (HT.sIx w.length w.length hi - HT.sIx w.length 0 lo) := by
  unfold cutS
  exact List.toList_toArray ..
theorem TOk.cut {n : Nat} {z : Str} (h : TOk n z) (lo hi : Option Int) : TOk n (cutS z lo hi) := by
  unfold TOk
  rw [tl_cut]
  refine ⟨?_, fun c hc => h.2 c (List.mem_of_mem_drop (List.mem_of_mem_take hc))⟩
  refine Nat.le_trans (List.length_take_le' _ _) ?_
  rw [List.length_drop]
  exact Nat.le_trans (Nat.sub_le _ _) h.1
theorem TOk.app {n m : Nat} {x y : Str} (h : TOk n x) (k : TOk m y) : TOk (n + m) (x ++ y) := by
  unfold TOk
  rw [tl_append, List.length_append]
  refine ⟨Nat.add_le_add h.1 k.1, fun c hc => ?_⟩
  rcases List.mem_append.mp hc with hc | hc
  · exact h.2 c hc
  · exact k.2 c hc
theorem in_join {S : List Nat} : ∀ {ps : List (List Nat)} {p : List Nat}, p ∈ ps → p.length ≤ (joinL S ps).length ∧ ∀ c ∈ p, c ∈ joinL S ps
  | [q], p, h => by
    cases List.mem_singleton.mp h
    exact ⟨Nat.le_refl _, fun c hc => hc⟩
  | q :: r :: ps, p, h => by
    have e : joinL S (q :: r :: ps) = q ++ (S ++ joinL S (r :: ps)) := rfl
    rw [e]
    rcases List.mem_cons.mp h with h | h
    · rw [h]
      refine ⟨?_, fun c hc => List.mem_append_left _ hc⟩
      rw [List.length_append]
      omega
    · obtain ⟨h1, h2⟩ := in_join (S := S) h
      refine ⟨?_, fun c hc => List.mem_append_right _ (List.mem_append_right _ (h2 c hc))⟩
      rw [List.length_append, List.length_append]
      omega
theorem join_in {S : List Nat} {P : Nat → Prop} (hS : ∀ c ∈ S, P c) : ∀ {ps : List (List Nat)} {n : Nat}, (∀ p ∈ ps, p.length ≤ n ∧ ∀ c ∈ p, P c) → (joinL S ps).length ≤ ps.length * (n + S.length) ∧ ∀ c ∈ joinL S ps, P c
  | [], n, _ => ⟨Nat.zero_le _, fun c hc => by cases hc⟩
  | [q], n, h => by
    obtain ⟨h1, h2⟩ := h q (List.mem_singleton.mpr rfl)
    refine ⟨?_, h2⟩
    show q.length ≤ 1 * (n + S.length)
    omega
  | q :: r :: ps, n, h => by
    obtain ⟨h1, h2⟩ := h q (List.mem_cons_self ..)
    obtain ⟨h3, h4⟩ := join_in hS (ps := r :: ps) (n := n) fun p hp => h p (List.mem_cons_of_mem _ hp)
    have e : joinL S (q :: r :: ps) = q ++ (S ++ joinL S (r :: ps)) := rfl
    rw [e]
    refine ⟨?_, fun c hc => ?_⟩
    · rw [List.length_append, List.length_append, List.length_cons, Nat.succ_mul]
      omega
    · rcases List.mem_append.mp hc with hc | hc
      · exact h2 c hc
      · rcases List.mem_append.mp hc with hc | hc
        · exact hS c hc
        · exact h4 c hc
theorem TOk.parts {n : Nat} {z y : Str} (h : TOk n z) : ∀ w ∈ Txt.split z y, TOk n w := fun w hw => by
  have e := StrLaws.join_split z y
  have e2 := tl_join y (Txt.split z y)
  rw [e] at e2
  obtain ⟨h1, h2⟩ := in_join (S := tl y) (ps := (Txt.split z y).map tl) (List.mem_map.mpr ⟨w, hw, rfl⟩)
  rw [← e2] at h1 h2
  exact ⟨Nat.le_trans h1 h.1, fun c hc => h.2 c (h2 c hc)⟩
theorem TOk.join {n m : Nat} {y : Str} {ps : List Str} (hy : TOk m y) (h : ∀ p ∈ ps, TOk n p) : TOk (ps.length * (n + m)) (Txt.join y ps) := by
  rw [TL.join_eq]
  unfold TOk
  rw [tl_join]
  obtain ⟨h1, h2⟩ := join_in (S := tl y) (P := fun c => c < 1114112) hy.2 (ps := ps.map tl) (n := n) fun p hp => by
    obtain ⟨w, hw, rfl⟩ := List.mem_map.mp hp
    exact h w hw
  refine ⟨Nat.le_trans h1 ?_, h2⟩
  rw [List.length_map]
  exact Nat.mul_le_mul_left _ (Nat.add_le_add_left hy.1 _)
theorem sum_len {n : Nat} : ∀ {ps : List Str}, (∀ p ∈ ps, TOk n p) → (ps.map (·.length)).sum ≤ ps.length * n
  | [], _ => Nat.zero_le _
  | p :: ps, h => by
    have h1 := (h p (List.mem_cons_self ..)).len
    have h2 := sum_len (ps := ps) fun q hq => h q (List.mem_cons_of_mem _ hq)
    rw [List.map_cons, List.sum_cons, List.length_cons, Nat.succ_mul]
    omega
theorem join_pos {y : Str} {ps : List Str} {p : Str} (hp : p ∈ ps) (h : 1 ≤ p.length) : 1 ≤ (Txt.join y ps).length := by
  rw [TL.join_eq, len_tl, tl_join]
  have h1 := (in_join (S := tl y) (ps := ps.map tl) (List.mem_map.mpr ⟨p, hp, rfl⟩)).1
  rw [← len_tl] at h1
  omega
instance (n : Nat) (z : Str) : Decidable (TOk n z) := inferInstanceAs (Decidable (_ ∧ _))
theorem digit_texts : ∀ i : Nat, i < 19 → TOk 2 (Str.ofString (toString ((-9 : Int) + (i : Int)))) ∧ 1 ≤ (Str.ofString (toString ((-9 : Int) + (i : Int)))).length := by decide +kernel
/-- text data that may be compared -/
theorem shaped_str {z : Str} (h : PyData.strOk z = true) : SeqAt.shaped (.str z) = true := by
  unfold SeqAt.shaped
  rw [show PyData.canLay0 (.str z) = PyData.strOk z by simp only [PyData.canLay0], h]
  rfl

/-! ### data that may be compared -/
theorem dp_ints {K : PySem.W.Frag} {H : Hp} : ∀ is : List Int, DpAll K H (is.map V.int) (is.map PyData.int)
  | [] => .nil
  | i :: is => .cons (.int i) (dp_ints is)
theorem can_ints : ∀ is : List Int, PyData.canLayAll0 (is.map PyData.int) = true
  | [] => by simp only [List.map_nil, PyData.canLayAll0]
  | i :: is => by
    rw [List.map_cons, PyData.canLayAll0, can_ints is]
    simp only [PyData.canLay0, Bool.and_true]
theorem dep_ints : ∀ is : List Int, PyData.depthAll (is.map PyData.int) = 0
  | [] => by simp only [List.map_nil, PyData.depthAll]
  | i :: is => by
    rw [List.map_cons, PyData.depthAll, dep_ints is]
    simp only [PyData.depth, Nat.max_self]
theorem shaped_of {d : PyData} (h : d.canLay0 = true) (k : d.depth ≤ 64) : SeqAt.shaped d = true := by
  unfold SeqAt.shaped
  rw [h, decide_eq_true k]
  rfl
theorem can_pair {z : Str} {d : PyData} (hz : PyData.strOk z = true) (hd : d.canLay0 = true) : (PyData.list [.str z, d]).canLay0 = true := by
  simp only [PyData.canLay0, PyData.canLayAll0, hz, hd, Bool.and_true]
theorem dep_pair {z : Str} {d : PyData} {n : Nat} (hd : d.depth ≤ n) : (PyData.list [.str z, d]).depth ≤ n + 1 := by
  simp only [PyData.depth, PyData.depthAll]
  omega
/-- the item's own data: what stands at it reads so, whatever is made later -/
structure DatOf (K : PySem.W.Frag) (H : Hp) (x : V) (d : PyData) : Prop where
  dp : ∀ H', Same H H' → Dp K H' x d
  can : d.canLay0 = true
  dep : d.depth ≤ 10
theorem DatOf.same {K : PySem.W.Frag} {H H1 : Hp} {x : V} {d : PyData} (h : DatOf K H x d) (s : Same H H1) : DatOf K H1 x d := ⟨fun H' s' => h.dp H' (s.trans s'), h.can, h.dep⟩
theorem DatOf.str {K : PySem.W.Frag} {H : Hp} {z : Str} (hz : PyData.strOk z = true) : DatOf K H (.str z) (.str z) := ⟨fun _ _ => .str z, by simp only [PyData.canLay0, hz], by simp only [PyData.depth]; omega⟩
theorem DatOf.non {K : PySem.W.Frag} {H : Hp} : DatOf K H .non .none := ⟨fun _ _ => .non, by simp only [PyData.canLay0], by simp only [PyData.depth]; omega⟩
theorem DatOf.bl {K : PySem.W.Frag} {H : Hp} {b : Bool} : DatOf K H (.bl b) (.bool b) := ⟨fun _ _ => .bl b, by simp only [PyData.canLay0], by simp only [PyData.depth]; omega⟩
theorem DatOf.int {K : PySem.W.Frag} {H : Hp} {i : Int} : DatOf K H (.int i) (.int i) := ⟨fun _ _ => .int i, by simp only [PyData.canLay0], by simp only [PyData.depth]; omega⟩
theorem DatOf.tup {K : PySem.W.Frag} {H : Hp} {p : Addr} {is : List Int} (e : H p = some (.tup (is.map V.int))) : DatOf K H (.ref p) (.tuple (is.map PyData.int)) :=
  ⟨fun _ s => .tup (SqT.of (s _ _ e)) (dp_ints is), by simp only [PyData.canLay0, can_ints], by simp only [PyData.depth, dep_ints]; omega⟩
theorem DatOf.lst1 {K : PySem.W.Frag} {H : Hp} {p : Addr} {z : Str} (hz : PyData.strOk z = true) (e : H p = some (.lst [.str z])) : DatOf K H (.ref p) (.list [.str z]) :=
  ⟨fun _ s => .lst (SqL.of (s _ _ e)) (.cons (.str z) .nil), by simp only [PyData.canLay0, PyData.canLayAll0, hz, Bool.and_true], by simp only [PyData.depth, PyData.depthAll]; omega⟩
/-- two lists of a word and the same thing: equal -/
theorem pair_eqv {z : Str} {d : PyData} (hz : PyData.strOk z = true) (hd : d.canLay0 = true) : PyData.eqv (.list [.str z, d]) (.list [.str z, d]) = true := SeqAt.eqv_refl _ (can_pair hz hd)
theorem pair_ne {K : PySem.W.Frag} {H : Hp} {l l2 : Addr} {z : Str} {x y : V} {d : PyData} {Q : V → Hp → Prop} (hz : PyData.strOk z = true) (e1 : H l = some (.lst [.str z, x])) (e2 : H l2 = some (.lst [.str z, y])) (h1 : Dp K H x d) (h2 : Dp K H y d) (hc : d.canLay0 = true) (hd : d.depth ≤ 10)
    (q : Q (.bl false) H) : rNeD K (.ref l) (.ref l2) H Q := by
  have sh := shaped_of (can_pair hz hc) (Nat.le_trans (dep_pair hd) (by decide))
  refine ⟨_, _, Dp.lst (SqL.of e1) (.cons (.str z) (.cons h1 .nil)), Dp.lst (SqL.of e2) (.cons (.str z) (.cons h2 .nil)), sh, sh, ?_⟩
  rw [pair_eqv hz hc]
  exact q
theorem pair_eq {K : PySem.W.Frag} {H : Hp} {l l2 : Addr} {z : Str} {x y : V} {d : PyData} {Q : V → Hp → Prop} (hz : PyData.strOk z = true) (e1 : H l = some (.lst [.str z, x])) (e2 : H l2 = some (.lst [.str z, y])) (h1 : Dp K H x d) (h2 : Dp K H y d) (hc : d.canLay0 = true) (hd : d.depth ≤ 10)
    (q : Q (.bl true) H) : rEqD K (.ref l) (.ref l2) H Q := by
  have sh := shaped_of (can_pair hz hc) (Nat.le_trans (dep_pair hd) (by decide))
  refine ⟨_, _, Dp.lst (SqL.of e1) (.cons (.str z) (.cons h1 .nil)), Dp.lst (SqL.of e2) (.cons (.str z) (.cons h2 .nil)), sh, sh, ?_⟩
  rw [pair_eqv hz hc]
  exact q
/-- the digits of a text are ints -/
theorem readV_ints {z : Str} {ds : List V} (h : readV z = some ds) : ∃ is : List Int, ds = is.map V.int := by
  unfold readV at h
  split at h
  · cases Option.some.inj h
    exact ⟨[], rfl⟩
  · unfold rowOf at h
    split at h
    · rename_i hall
      have e := Option.some.inj h
      refine ⟨(Txt.split z (Str.ofString " ")).map fun w => match digV w with | some (.int i) => i | _ => 0, ?_⟩
      rw [← e, List.map_map]
      refine List.map_congr_left fun w hw => ?_
      have hs := List.all_eq_true.mp hall w hw
      obtain ⟨v, hv⟩ := Option.isSome_iff_exists.mp hs
      obtain ⟨i, _, _, rfl⟩ := digV_is hv
      simp only [Function.comp, hv, Option.getD_some]
    · cases h
theorem read_empty : readV (Str.ofString "") = none := by decide +kernel
theorem read_dot : readV (Str.ofString ".") = some [] := by decide +kernel
/-- two ways, heaps behind them of their own, one rest -/
theorem iteDupH {c : Bool} {A B : Prop} {G : Hp} {S : Hp → Prop} (f : (∀ H', Same G H' → S H') → c = true → A) (g : (∀ H', Same G H' → S H') → c = false → B) (r : ∀ H', Same G H' → S H') : if c = true then A else B := by
  cases c with
  | true => exact iteT (f r rfl)
  | false => exact iteF (g r rfl)

/-! ### rows as texts -/
/-- a value of a kind that is no tuple -/
inductive NoTup (H : Hp) : V → Prop
  | non : NoTup H .non
  | bl (b : Bool) : NoTup H (.bl b)
  | int (i : Int) : NoTup H (.int i)
  | str (z : Str) : NoTup H (.str z)
  | lst {a : Addr} {xs : List V} (e : H a = some (.lst xs)) : NoTup H (.ref a)
  | dK {a : Addr} {kvs : List (Key × V)} (e : H a = some (.dK kvs)) : NoTup H (.ref a)
theorem NoTup.kit {K : PySem.W.Frag} {H : Hp} {x : V} (h : NoTup H x) : ∃ t : Value, TyX K H x t ∧ PySem.W.kitOne K t (.type "tuple") = some false := by
  cases h with
  | non => exact ⟨_, .base .non, kit_ty (by decide +kernel)⟩
  | bl b => exact ⟨_, .base (.bl b), kit_ty (by decide +kernel)⟩
  | int z => exact ⟨_, .base (.int z), kit_ty (by decide +kernel)⟩
  | str z => exact ⟨_, .base (.str z), kit_ty (by decide +kernel)⟩
  | lst e => exact ⟨_, .base (.lst e), kit_ty (by decide +kernel)⟩
  | dK e => exact ⟨_, .base (.dK e), kit_ty (by decide +kernel)⟩
theorem NoTup.same {H H' : Hp} {x : V} (h : NoTup H x) (s : Same H H') : NoTup H' x := by
  cases h with
  | non => exact .non
  | bl b => exact .bl b
  | int z => exact .int z
  | str z => exact .str z
  | lst e => exact .lst (s _ _ e)
  | dK e => exact .dK (s _ _ e)
/-- an int, or a value of another kind -/
def IntOdd (H : Hp) (x : V) : Prop := (∃ n : Int, x = .int n) ∨ Odd H x
theorem IntOdd.same {H H' : Hp} {x : V} (h : IntOdd H x) (s : Same H H') : IntOdd H' x := by
  rcases h with h | h
  · exact .inl h
  · exact .inr (h.same s)
def digI (n : Int) : Bool := decide (-9 ≤ n) && decide (n ≤ 9)
/-- a digit -/
def digB : V → Bool
  | .int n => digI n
  | _ => false
theorem digB_odd {H : Hp} {x : V} (h : Odd H x) : digB x = false := by cases h <;> rfl
theorem digs_ints : ∀ {xs : List V}, xs.all digB = true → ∃ is : List Int, xs = is.map V.int ∧ ∀ i ∈ is, -9 ≤ i ∧ i ≤ 9
  | [], _ => ⟨[], rfl, fun i h => by cases h⟩
  | x :: xs, h => by
    rw [List.all_cons, Bool.and_eq_true] at h
    obtain ⟨is, e, k⟩ := digs_ints h.2
    cases x with
    | int n =>
      have h1 : digI n = true := h.1
      unfold digI at h1
      rw [Bool.and_eq_true, decide_eq_true_eq, decide_eq_true_eq] at h1
      refine ⟨n :: is, by rw [e]; rfl, fun i hi => ?_⟩
      rcases List.mem_cons.mp hi with hi | hi
      · rw [hi]; exact h1
      · exact k i hi
    | non => exact absurd h.1 Bool.false_ne_true
    | bl b => exact absurd h.1 Bool.false_ne_true
    | str z => exact absurd h.1 Bool.false_ne_true
    | byt z => exact absurd h.1 Bool.false_ne_true
    | flt z => exact absurd h.1 Bool.false_ne_true
    | ref a => exact absurd h.1 Bool.false_ne_true
    | ty n => exact absurd h.1 Bool.false_ne_true
theorem ints_digs {is : List Int} (h : ∀ i ∈ is, -9 ≤ i ∧ i ≤ 9) : (is.map V.int).all digB = true := by
  rw [List.all_map]
  refine List.all_eq_true.mpr fun i hi => ?_
  obtain ⟨h1, h2⟩ := h i hi
  show digI i = true
  unfold digI
  rw [decide_eq_true h1, decide_eq_true h2]
  rfl
/-- the text of a digit -/
def strI (i : Int) : Str := Str.ofString (toString i)
theorem strI_ok {i : Int} (h : -9 ≤ i ∧ i ≤ 9) : TOk 2 (strI i) ∧ 1 ≤ (strI i).length := by
  obtain ⟨h1, h2⟩ := h
  have e : i = (-9 : Int) + (((i + 9).toNat : Nat) : Int) := by omega
  have := digit_texts (i + 9).toNat (by omega)
  rw [← e] at this
  exact this
theorem digV_all : ∀ k : Nat, k < 19 → digV (Str.ofString (toString ((-9 : Int) + (k : Int)))) = some (V.int ((-9 : Int) + (k : Int))) ∧ (32 : Nat) ∉ tl (Str.ofString (toString ((-9 : Int) + (k : Int)))) ∧ Str.ofString (toString ((-9 : Int) + (k : Int))) ≠ Str.ofString "." ∧ (46 : Nat) ∉ tl (Str.ofString (toString ((-9 : Int) + (k : Int)))) := by decide +kernel
theorem digV_of {i : Int} (h : -9 ≤ i ∧ i ≤ 9) : digV (strI i) = some (V.int i) ∧ (32 : Nat) ∉ tl (strI i) ∧ (46 : Nat) ∉ tl (strI i) := by
  obtain ⟨h1, h2⟩ := h
  have e : i = (-9 : Int) + (((i + 9).toNat : Nat) : Int) := by omega
  obtain ⟨k1, k2, _, k4⟩ := digV_all (i + 9).toNat (by omega)
  rw [← e] at k1 k2 k4
  exact ⟨k1, k2, k4⟩
/-- the text of a row -/
def textOf (is : List Int) : Str := if is = [] then Str.ofString "." else Txt.join (Str.ofString " ") (is.map strI)
theorem textOf_ok {is : List Int} (h : ∀ i ∈ is, -9 ≤ i ∧ i ≤ 9) (hl : is.length ≤ 200) : TOk 600 (textOf is) := by
  unfold textOf
  split
  · decide +kernel
  · refine (TOk.join blankOk (n := 2) fun p hp => ?_).mono ?_
    · obtain ⟨i, hi, rfl⟩ := List.mem_map.mp hp
      exact (strI_ok (h i hi)).1
    · rw [List.length_map]
      omega
where blankOk : TOk 1 (Str.ofString " ") := by decide +kernel
theorem not_dot {is : List Int} (h : ∀ i ∈ is, -9 ≤ i ∧ i ≤ 9) (hn : is ≠ []) : Txt.join (Str.ofString " ") (is.map strI) ≠ Str.ofString "." := fun e => by
  cases is with
  | nil => exact hn rfl
  | cons i r =>
    have hp : strI i ∈ (i :: r).map strI := List.mem_map.mpr ⟨i, List.mem_cons_self .., rfl⟩
    have hi := h i (List.mem_cons_self ..)
    have h2 := (in_join (S := tl (Str.ofString " ")) (ps := ((i :: r).map strI).map tl) (List.mem_map.mpr ⟨_, hp, rfl⟩)).2
    have e2 := congrArg tl e
    rw [TL.join_eq, tl_join] at e2
    rw [e2] at h2
    have hpos := (strI_ok hi).2
    rw [len_tl] at hpos
    cases hs : tl (strI i) with
    | nil => rw [hs] at hpos; exact absurd hpos (by decide)
    | cons c cs =>
      have hc := h2 c (by rw [hs]; exact List.mem_cons_self ..)
      have : c = 46 := by
        have e3 : tl (Str.ofString ".") = [46] := by decide +kernel
        rw [e3] at hc
        exact List.mem_singleton.mp hc
      exact (digV_of hi).2.2 (by rw [hs, this]; exact List.mem_cons_self ..)
/-- a row's text is read as the row -/
theorem read_text {is : List Int} (h : ∀ i ∈ is, -9 ≤ i ∧ i ≤ 9) : readV (textOf is) = some (is.map V.int) := by
  unfold textOf
  by_cases hn : is = []
  · rw [if_pos hn, hn]
    exact read_dot
  · rw [if_neg hn]
    unfold readV
    rw [if_neg (not_dot h hn)]
    have e : Txt.split (Txt.join (Str.ofString " ") (is.map strI)) (Str.ofString " ") = is.map strI := by
      refine TL.split_join (s := 32) (S := []) (by decide +kernel) (by decide +kernel) (fun z => hn (List.map_eq_nil_iff.mp z)) fun p hp => ?_
      obtain ⟨i, hi, rfl⟩ := List.mem_map.mp hp
      exact (digV_of (h i hi)).2.1
    rw [e]
    unfold rowOf
    rw [if_pos]
    · rw [List.map_map]
      congr 1
      refine List.map_congr_left fun i hi => ?_
      show (digV (strI i)).getD .non = V.int i
      rw [(digV_of (h i hi)).1]
      rfl
    · rw [List.all_map]
      refine List.all_eq_true.mpr fun i hi => ?_
      show (digV (strI i)).isSome = true
      rw [(digV_of (h i hi)).1]
      rfl
end OF
/-! Defs that are promised only where no repr is under way, the law among them; repr of lists. -/
namespace OF
open PySem PySem.Spec PyProof.Rows L2

/-! ### promises where no repr is under way -/
structure FnG (P : Program) (w : World) (K : PySem.W.Frag) (mg : Str → Option Value) (base : Heap) (n : Nat) (f : Addr) (fd : FuncData) (ps : List Str) (sp : Sp) : Prop where
  len : ∀ vs H Q E, sp vs H Q E → vs.length = ps.length
  go : ∀ (A : Around) (fr : List Env) (s : Shared) (H : Hp) (ar : Args) (us : List Value) (vs : List V) (Q : VK) (E : XK), A.guards = some [] → Room n A → Env0 P w K mg base A fr s H → BindsTo s fd ar (ps.zip us) → Vals vs us → sp vs H Q E →
    codeAny (model P w) A (.call (.ref f) ar) (CR CX0 fr P w H s Q E) s
section
variable {P : Program} {w : World} {K : PySem.W.Frag} {mg : Str → Option Value} {base : Heap}
theorem guards_in {A : Around} {e : Env} (h : A.guards = some []) : (A.deeper e).guards = some [] := by
  first | exact h | simpa [Around.deeper] using h
theorem okG {x q : Str} {st : Stmt} {f : Addr} {fd : FuncData} {N ps : List Str} {n : Nat} {sp : Sp} (F : Fun K x q st f fd) (S : FnScope N ps (defScope st)) (len : ∀ vs H Q E, sp vs H Q E → vs.length = ps.length)
    (body : ∀ (cv : Value) (A : Around) (fr : List Env) (s : Shared) (H : Hp) (vs : List V) (Q : VK) (E : XK), (A.deeper (envOfC q (defScope st) s.heap.objs.size f cv)).guards = some [] → Room n (A.deeper (envOfC q (defScope st) s.heap.objs.size f cv)) → sp vs H Q E →
      ∃ t, PSs (cxOf CX0 P w K mg base N q (defScope st) f cv A fr s H E).nox (defBody st) t ∧ t { nx := fun _ H' => Q .non H', rt := Q } (start N vs) H) : FnG P w K mg base (n + 1) f fd ps sp := by
  obtain ⟨_, _, kV, dc, pm, an, cv, ct, _, e, lk, cc⟩ := F.ex
  subst e
  constructor
  · exact len
  · intro A fr s H ar us vs Q E gu room e0 bn rel hsp
    have keep := fun b o z => (e0.bs b o z).1
    have inHeap := e0.mod.kin.keeps keep
    have noLim := e0.mod.nolimit.keeps keep
    apply codeAny_call_function room.depth (inHeap _ _ lk) rfl S.co S.gen rfl (PySem.W.codeRec_of inHeap cc)
    apply bn
    apply wpAny_newFunctionEnv_cells S.kind
    · rintro ⟨y, v⟩ hy
      rcases S.par y (List.of_mem_zip hy).1 with p | p
      · exact Or.inl p
      · exact Or.inr ⟨p, PySem.W.cellsFrom_some _ _ _ (Or.inl p)⟩
    · intro env he s1 inc
      subst he
      constructor
      · exact noLim.keeps inc.toInCall.keep
      · apply codeAny_func
        obtain ⟨t, pss, rd⟩ := body cv A fr s H vs Q E (guards_in gu) (room.deeper _) hsp
        have inv := inv_start (CX := CX0) (P := P) (w := w) (E := E) S room.hd e0 (len _ _ _ _ hsp) rel inc
        apply wpAny_mono (pss.nox.run [] s1 (start N vs) H _ inv rd) (hE := fun _ _ z => z)
        intro fl s2 z
        cases fl with
        | ret u => obtain ⟨v, _, H2, J, rv, qv⟩ := z; exact ⟨v, H2, J.os, J.bare, J.base, J.hok, rv, qv⟩
        | next => obtain ⟨_, H2, J, qv⟩ := z; exact ⟨V.non, H2, J.os, J.bare, J.base, J.hok, rfl, qv⟩
        | brk => obtain ⟨_, _, _, no⟩ := z; cases no
        | cont => obtain ⟨_, _, _, no⟩ := z; cases no
end
section
variable {X : Cx} {n : Nat} {f : Addr} {fd : FuncData} {ps : List Str} {sp : Sp} {E : XK} {x : Str} {p pos : Pos} {e : Expr} {es : List Expr} {t : TA}
theorem pe_callG (F : FnG X.prog X.w X.K X.mg X.base n f fd ps sp) (gu : X.A.guards = some []) (room : Room n X.A) (hg : Gl X x) (hm : X.mg x = some (.ref f)) (kp : PySem.W.keepIn X.K (.ref f) = true) (hb : Binds X.K fd ps []) (hx : Passes CX0 X E) (ha : PA X (e :: es) t)
    (hdb : (x == ("__debug__" : Str)) = false := by decide) (he : starEach (e :: es) X.env = (false, eval e X.env) :: starEach es X.env := by rfl) (hpl : (backTo pos (starEach es X.env)).any (·.1) = false := by rfl) :
    PE X (.Call (.Name x p) (e :: es) [] pos) (tCall sp [] E t) := by
  constructor
  intro pins s σ H Q I h
  refine wpAny_Call_Name_kw (ld_glob I hg hm ?_ hdb)
  refine PySem.W.callWith_K (h₀ := X.base) I.ok.mod.kin kp (thn (ha.run pos pins s σ H _ I h) ?_) he hpl
  rintro us s1 ⟨vs, H1, I1, r1, q⟩
  refine ⟨I1.kIn, ?_⟩
  rw [List.append_nil] at q
  have bn := hb s1 us I1.kIn (by rw [List.append_nil, ← r1.length]; exact F.len _ _ _ _ q)
  rw [List.append_nil] at bn
  apply wpAny_call
  apply codeAny_mono (F.go X.A X.stack s1 H1 ⟨us, []⟩ us vs Q E gu room I1.env0 bn r1 q)
  intro r s2 z
  cases r with
  | error er => exact hx pins σ H1 s1 er s2 I1 z
  | ok fl =>
    cases fl with
    | ret u => exact I1.after z
    | next => cases z
    | brk => cases z
    | cont => cases z
end
end OF
namespace OF
open PySem PySem.Spec PyProof.Rows L2
section
variable {P : Program} {w : World} {K : PySem.W.Frag} {mg mb : Str → Option Value}
/-- namespaces stand in what is left where a list alone is hidden -/
theorem ns_left {h : Heap} {H : Hp} {a b : Addr} {xs : Array Value} {m : Str → Option Value} (ha : h.get? a = some { cls := .type "list", data := .seq xs }) (near : ∀ c, H c ≠ none → c = a) (z : h.Ns b m) : (hidT h H).Ns b m := by
  obtain ⟨o, es, ep, eo, ed, rest⟩ := z
  have free : H b = none := Classical.byContradiction fun no => by
    have := near b no
    subst this
    rw [eo] at ha
    have e2 := Option.some.inj ha
    subst e2
    cases ed
  exact ⟨o, es, ep, hidT_get eo free, ed, rest⟩
/-- what is tracked at the law's start -/
theorem script_heap {h : Heap} {a : Addr} {vs : List Value} {ns : List Int} (KX : K.In h) (ha : h.get? a = some { cls := .type "list", data := .seq vs.toArray }) (hi : IntsAre vs ns) (hl : ns.length ≤ sizeLine) :
    ∃ H : Hp, Only H ∧ SqL K H a (ns.map V.int) ∧ HOk P w H h ∧ (∀ c, H c ≠ none → c = a) ∧ (H a ≠ none → K.lookup a = none) := by
  have rel := vals_ints hi
  have n1 : vs.length = ns.length := hi.length
  cases known : K.lookup a with
  | some o =>
    have same := KX a o known
    rw [ha] at same
    have := Option.some.inj same
    subst this
    refine ⟨fun _ => none, fun c => Or.inl rfl, ?_, ?_, fun c z => absurd rfl z, fun z => absurd rfl z⟩
    case refine_2 =>
      intro c o z
      have z2 : (none : Option HO) = some o := z
      cases z2
    right
    refine ⟨_, vs.toArray, _, known, rfl, rfl, rfl, ?_, ?_⟩
    · rw [List.size_toArray, n1]; exact hl
    · rw [List.toList_toArray]; exact rel
  | none =>
    refine ⟨fun c => if c = a then some (.frz { cls := .type "list", data := .seq vs.toArray } (.lst (ns.map V.int))) else none, ?_, ?_, ?_, ?_, fun _ => rfl⟩
    · intro c
      by_cases z : c = a
      · right; exact ⟨_, _, if_pos z⟩
      · left; exact if_neg z
    · left; right; exact ⟨_, if_pos rfl⟩
    · intro c o z
      by_cases y : c = a
      · subst y
        have := (if_pos rfl).symm.trans z
        cases this
        refine ⟨ha, ?_, vs, _, rel, ha⟩
        rw [List.length_map]; exact hl
      · have := (if_neg y).symm.trans z
        cases this
    · intro c z
      exact Classical.byContradiction fun y => z (if_neg y)
theorem law_callG {n : Nat} {fa a : Addr} {fd : FuncData} {x : Str} {sp : Sp} {s : Shared} {vs : List Value} {ns : List Int} (KX : K.In s.heap) (hg : s.heap.Ns mainGlobals mg) (hb : s.heap.Ns builtinsNs mb) (hbb : ∀ y : Str, y ≠ "__name__" → mb y = bootBuiltins y)
    (hlim : s.heap.NoLimit) (he : s.gens = #[]) (ha : s.heap.get? a = some { cls := .type "list", data := .seq vs.toArray }) (hi : IntsAre vs ns) (hl : ns.length ≤ sizeLine) (room : Room n callerA)
    (F : ∀ base : Heap, K.In base → base.Ns mainGlobals mg → FnG P w K mg base n fa fd [x] sp) (bind : ∀ (s : Shared) (u : Value), BindsTo s fd ⟨[u], []⟩ [(x, u)])
    (hsp : ∀ H : Hp, SqL K H a (ns.map V.int) → sp [.ref a] H (fun v _ => v = .bl true) fun _ _ _ => False) :
    codeAny (model P w) callerA (.call (.ref fa) ⟨[.ref a], []⟩) (fun r s' => r = .ok (.ret (.bool true)) ∧ OldK s.heap s'.heap ∧ s'.os = s.os ∧ AllBare s'.gens) s := by
  obtain ⟨H, only, seq, hok, near, out⟩ := script_heap (P := P) (w := w) KX ha hi hl
  have KB : K.In (hidT s.heap H) := by
    intro c o z
    refine hidT_get (KX c o z) (Classical.byContradiction fun no => ?_)
    have := near c no
    subst this
    rw [out no] at z
    cases z
  have lim : (hidT s.heap H).NoLimit := by
    obtain ⟨mc, h1, h2⟩ := hlim
    exact ⟨mc, ns_left ha near h1, h2⟩
  have M : Mod K mg (hidT s.heap H) := { kin := KB, glob := ns_left ha near hg, blt := ⟨mb, ns_left ha near hb, hbb⟩, nolimit := lim }
  have E0 : Env0 P w K mg (hidT s.heap H) callerA [] s H := {
    frames := rfl, mod := M, bs := fun c o z => of_hidT z, bsz := Nat.le_of_eq (hidT_size _ _), funs := trivial
    frf := fun c z => (by cases z), hok := hok, bare := AllBare.of_eq he }
  have main := (F _ KB (ns_left ha near hg)).go callerA [] s H ⟨[.ref a], []⟩ [.ref a] [.ref a] _ _ rfl room E0 (bind s (.ref a)) (.cons rfl .nil) (hsp H seq)
  apply codeAny_mono main
  intro r s' z
  cases r with
  | error er => cases z
  | ok fl =>
    cases fl with
    | next => cases z
    | brk => cases z
    | cont => cases z
    | ret u =>
      obtain ⟨v, H', sameOs, bare, un, hok', rv, ev⟩ := z
      have ev2 : v = .bl true := ev
      subst ev2
      have eu : u = Value.bool true := rv
      subst eu
      refine ⟨rfl, OldK.of_keep ?_, sameOs, bare⟩
      intro c o z
      rcases only c with fr | ⟨o2, xs, fr⟩
      · apply un.keep c o z fr
        · intro y; cases y
        · intro y; cases y
      · have fr2 := un.frzs c o2 _ fr
        have g1 := (hok c _ fr).1
        have g2 := (hok' c _ fr2).1
        rw [z] at g1
        rw [g2, ← Option.some.inj g1]
theorem walkG {l : PySem.W.OpenLaw} {m n : Nat} {q : Program} {loose : List Str} {XP : (Str → Option Value) → Heap → Prop} {YP : World → Heap → Prop} {d : DefRec} {K : Params → PySem.W.Frag} {sp : World → Sp} {x : Str}
    (hm : l.most = some m) (hm2 : m ≤ sizeLine) (hdf : d.params.defaults = []) (room : Room n callerA) (hY : ∀ (w : World) (h : Heap), YP w h → (K w.params).In h)
    (F : ∀ (w : World) (mg : Str → Option Value) (fa : Addr) (h : Heap), (K w.params).In h → h.Ns mainGlobals mg → mg d.name = some (.ref fa) →
      ∃ fd : FuncData, (∀ (s : Shared) (u : Value), BindsTo s fd ⟨[u], []⟩ [(x, u)]) ∧ ∀ base : Heap, (K w.params).In base → base.Ns mainGlobals mg → FnG l.prog w (K w.params) mg base n fa fd [x] (sp w))
    (hsp : ∀ (w : World) (H : Hp) (a : Addr) (ns : List Int), ns.length ≤ m → SqL (K w.params) H a (ns.map V.int) → sp w [.ref a] H (fun v _ => v = .bl true) fun _ _ _ => False) :
    PySem.W.WalkO q loose XP YP l.row.toRowW d [] (fun f vs => PySem.call f vs) := by
  apply Att.attach_call hm hdf
  intro w s₀ s₁ mg mb fa o pm cd doc a vs ns G Y ho hd hcd hmg hobj hints hlen hg
  obtain ⟨fd, bind, FF⟩ := F w mg fa _ (hY w _ Y) G.T.g hmg
  exact law_callG (hY w _ Y) G.T.g G.T.b G.T.builtins G.T.nolimit hg hobj hints (Nat.le_trans hlen hm2) room FF bind fun H => hsp w H a ns hlen
end
end OF
/-! What repr shows: plain values, tuples and lists of such, dicts of ints; repr of a list of these. -/
namespace OF
open PySem PySem.Spec PyProof.Rows L2
section
variable {X : Cx} {H : Hp}
/-- v reads as d and is shown so, wherever the heap is tracked by H -/
def Rp (X : Cx) (H : Hp) (v : V) (d : PyData) : Prop := ∀ (pins : List (Addr × Obj)) (σ : L2.St) (s : Shared) (u : Value), Inv X pins σ H s → RelV v u →
  (∃ as, Reads s.heap u d as) ∧ ∃ bs, ReadAtMost s.heap d.depth bs ∧ ReprK X.prog X.w bs s.heap d.depth u d.shown
inductive RpAll (X : Cx) (H : Hp) : List V → List PyData → Prop
  | nil : RpAll X H [] []
  | cons {v : V} {d : PyData} {vs : List V} {ds : List PyData} : Rp X H v d → RpAll X H vs ds → RpAll X H (v :: vs) (d :: ds)
theorem RpAll.reads {vs : List V} {ds : List PyData} (h : RpAll X H vs ds) : ∀ {pins : List (Addr × Obj)} {σ : L2.St} {s : Shared} {us : List Value}, Inv X pins σ H s → Vals vs us →
    (∃ as, ReadsAll s.heap us ds as) ∧ ∃ bs, ReadAtMost s.heap (PyData.depthAll ds) bs ∧ ReprAllK X.prog X.w bs s.heap (PyData.depthAll ds) us (PyData.shownAll ds) := by
  induction h with
  | nil =>
    intro pins σ s us I r
    cases r
    refine ⟨⟨[], .nil⟩, [], ?_, ?_⟩
    · intro c z
      cases z
    · simp only [PyData.shownAll]
      exact .nil
  | cons h1 _ ih =>
    intro pins σ s us I r
    cases r with
    | cons r1 r2 =>
      obtain ⟨⟨as, q1⟩, b1, m1, k1⟩ := h1 pins σ s _ I r1
      obtain ⟨⟨cs, q2⟩, b2, m2, k2⟩ := ih I r2
      simp only [PyData.depthAll, PyData.shownAll]
      refine ⟨⟨as ++ cs, .cons q1 q2⟩, b1 ++ b2, (m1.mono (Nat.le_max_left _ _)).append (m2.mono (Nat.le_max_right _ _)), .cons ?_ ?_⟩
      · exact (k1.more fun c z => List.mem_append_left _ z).level_le (Nat.le_max_left _ _)
      · exact k2.more_le (fun c z => List.mem_append_right _ z) (Nat.le_max_right _ _)
/-- what the library reads -/
theorem Rp.dp {v : V} {d : PyData} (h : Dp X.K H v d) (hs : d.showable = true) (hn : d.hasDict = false) (hz : d.shown.length ≤ sizeLine) : Rp X H v d := fun pins σ s u I r => by
  obtain ⟨as, q⟩ := Dp.reads I d v u h r
  exact ⟨⟨as, q⟩, ReprK.of_reads q hs (PyData.noDict_hsm hn) hz⟩
theorem Rp.tup {a : Addr} {xs : List V} {ds : List PyData} (h : SqT X.K H a xs) (ha : RpAll X H xs ds) : Rp X H (.ref a) (.tuple ds) := fun pins σ s u I r => by
  cases r
  obtain ⟨its, rv, ⟨o, ho, hc, n, hd⟩, _⟩ := I.tuple h
  obtain ⟨⟨as, q⟩, bs, m, k⟩ := ha.reads I rv
  have R : Reads s.heap (.ref a) (.tuple ds) as := .tuple ho hc hd q
  have out : a ∉ bs := not_mem_of_deeper R (by simp only [PyData.depth]; omega) m
  refine ⟨⟨as, R⟩, a :: bs, ReadAtMost.cons R (by simp only [PyData.depth]; omega) m, ?_⟩
  simp only [PyData.depth, PyData.shown]
  exact ReprK.tuple ho hc hd out k
def keyD : Key → PyData
  | .inl i => .int i
  | .inr z => .str z
theorem pairs_read {P : Program} {w : World} {h : Heap} : ∀ (kvs : List (Key × Int)) (vs : List (Key × Value)) (es : List DictEntry), KV (kvs.map fun p => (p.1, V.int p.2)) vs → Pairs (mixKind P w) es vs →
    ReadsAll h (es.map (·.key)) ((kvs.map fun p => (keyD p.1, PyData.int p.2)).map (·.1)) [] ∧ ReadsAll h (es.map (·.val)) ((kvs.map fun p => (keyD p.1, PyData.int p.2)).map (·.2)) []
  | [], _, _, r, q => by
    cases r
    cases q
    exact ⟨.nil, .nil⟩
  | p :: kvs, _, _, r, q => by
    cases r with
    | cons r1 r2 =>
      cases q with
      | @cons en _ _ _ k1 v1 q2 =>
        obtain ⟨h1, h2⟩ := pairs_read (h := h) kvs _ _ r2 q2
        obtain ⟨e1, t, e2⟩ := r1
        constructor
        · refine ReadsAll.cons (as := []) (bs := []) ?_ h1
          rw [← e1] at k1
          rcases keyIs_shape k1 with ⟨i, t, x1, x2⟩ | ⟨z, t, x1, x2⟩
          · show Reads h en.key (keyD p.1) []
            rw [x2, show p.1 = Sum.inl i from x1]
            exact .int i t
          · show Reads h en.key (keyD p.1) []
            rw [x2, show p.1 = Sum.inr z from x1]
            exact .str z t
        · refine ReadsAll.cons (as := []) (bs := []) ?_ h2
          show Reads h en.val (.int p.2) []
          rw [v1, e2]
          exact .int _ _
theorem Rp.dct {a : Addr} {kvs : List (Key × Int)} (h : H a = some (.dK (kvs.map fun p => (p.1, V.int p.2)))) (hs : (PyData.dict (kvs.map fun p => (keyD p.1, PyData.int p.2))).showable = true) (hz : (PyData.dict (kvs.map fun p => (keyD p.1, PyData.int p.2))).shown.length ≤ sizeLine) :
    Rp X H (.ref a) (.dict (kvs.map fun p => (keyD p.1, .int p.2))) := fun pins σ s u I r => by
  cases r
  obtain ⟨_, hm, vs, rel, o, es, ep, ho, hx, hd, _, hp, _⟩ := dk_of I.hok h
  obtain ⟨h1, h2⟩ := pairs_read (h := s.heap) kvs vs es.toList rel hp
  have R : Reads s.heap (.ref a) (.dict (kvs.map fun p => (keyD p.1, .int p.2))) (a :: [] ++ []) := .dict ho hx.1 hd h1 h2
  refine ⟨⟨_, R⟩, ReprK.of_reads R hs (fun _ z => ?_) hz⟩
  have z2 : sysModules ∈ [a] := z
  rw [List.mem_singleton] at z2
  rw [← z2] at hm
  exact absurd hm (by decide)
/-- repr of a list -/
def rRepr (X : Cx) : List V → Hp → VK → Prop := fun xs H Q => ∃ (a : Addr) (ys : List V) (ds : List PyData), xs = [.ref a] ∧ SqL X.K H a ys ∧ RpAll X H ys ds ∧ PyData.depthAll ds ≤ 40 ∧ (PyData.list ds).shown.length ≤ sizeLine ∧ Q (.str (PyData.list ds).shown) H
theorem call_reprL (gu : X.A.guards = some []) (hu : X.A.units + 64 < cLine) : CallR X (.builtin "repr") (rRepr X) := by
  intro pins s σ H xs us Q I r h
  obtain ⟨a, ys, ds, rfl, hl, hd, dep, hz, q⟩ := h
  obtain ⟨u, rfl, ru⟩ := vals1 r
  cases ru
  obtain ⟨its, rv, ⟨o, n, ho, hc, _, hdat⟩, _⟩ := I.list hl
  obtain ⟨⟨as, rd⟩, bs, m, k⟩ := hd.reads I rv
  have R : Reads s.heap (.ref a) (.list ds) (a :: as) := .list ho hc hdat rd
  have out : a ∉ bs := not_mem_of_deeper R (by simp only [PyData.depth]; omega) m
  refine call_repr_slot (by omega) ⟨o, ho, hc⟩ F.slot_list_repr.toG ?_
  have fin : ∀ (h' : Heap) (t tk : Nat), (∀ c o, s.heap.get? c = some o → h'.get? c = some o) → ∃ x u, Value.str (PyData.list ds).shown t = Value.str x u ∧ EP X pins σ Q (Value.str (PyData.list ds).shown t) { s with heap := h', toks := tk } := fun h' t tk kp =>
    ⟨_, _, rfl, .str _, H, I.kept kp, ⟨_, rfl⟩, q⟩
  simp only [PyData.shown] at fin hz
  cases its with
  | nil =>
    cases rd
    simp only [PyData.shownAll, listText_nil] at fin
    exact call_list_repr_empty ⟨o, ho, hc⟩ ho hdat (fin s.heap _ _ fun _ _ z => z)
  | cons x l =>
    exact call_list_reprK (s := s) ho hc hdat out (by simpa using k.length_eq) (fun i y z => k.item i y (by simpa using z)) gu (fun b _ => Clear.nil b) (show X.A.units + 1 + (PyData.depthAll ds + 1) < cLine by omega) (fun _ _ z => z) fin hz
end
end OF
set_option maxHeartbeats 4000000
/-! Errors of the program's own classes as values: made by position and by names. -/
namespace OF
open PySem PySem.Spec PyProof.Rows L2 PySem.HandSPX
section
variable {prog : Program} {w : World} {A : Around} {E : Value → Shared → Prop} {h : Heap} {g : Array GenState} {d : Drawn} {t : Nat} {os : OsState} {nm q : Str} {C N : Addr} {bs bm bmB : List Value} {hdct ab : Bool} {sn : List Str} {sub rest : List Value} {col : Option Bool} {dd : Option Addr}
  {k0 k1 k2 k3 k5 : Option Value} {B newId initId : String} {kw : List (Str × Value)}
theorem kw_new_ok {M : Model} {Q : Unit → Shared → Prop} (F : ExcBaseFacts B newId initId bmB) (same : ∀ T : String, bm.contains (.type T) = bmB.contains (.type T)) (hC : h.get? C = some (excClassObj nm q C N bs bm hdct sn sub ab col dd k0 k1 k2 k3 k5 newId))
    (fin : Q () ⟨h, g, d, t, os⟩) : wpAny M A (checkBuiltinCall newId ⟨.ref C :: rest, kw⟩) Q E ⟨h, g, d, t, os⟩ := by
  have below : (Value.ref C :: bm).contains (.type B) = true := by
    rw [List.contains_cons, same, F.hasB]
    exact Bool.or_true _
  have short := F.noStar
  simp only [checkBuiltinCall, F.newSplit, F.newKind, F.newRow]
  repeat first
    | refine wpAny_loadPart_at hC ?_
    | (refine wpAny_isSubtype_exc hC ?_; rw [below])
    | refine wpAny_staticBase_exc hC ?_
    | refine wpAny_madeBy_exc hC ?_
    | simp only [Bool.false_eq_true, bne_self_eq_false, if_false]
    | wp_step
  exact fin

theorem kw_new_run {R : Result → Shared → Prop} (F : ExcBaseFacts B newId initId bmB) (same : ∀ T : String, bm.contains (.type T) = bmB.contains (.type T)) (hC : h.get? C = some (excClassObj nm q C N bs bm hdct sn sub ab col dd k0 k1 k2 k3 k5 newId)) (small : rest.length ≤ sizeLine)
    (fin : R (.ok (.ret (.ref (h.objs.size + 1)))) ⟨(h.push (PySem.W.kdv_tup rest)).push (excO C h.objs.size), g, d, t, os⟩) : codeAny (model prog w) A (.builtin newId ⟨.ref C :: rest, kw⟩) R ⟨h, g, d, t, os⟩ := by
  have ends := F.ends
  have inB : (Value.ref C :: bm).contains (.type B) = true := by
    rw [List.contains_cons, same, F.hasB]
    exact Bool.or_true _
  have outA : (Value.ref C :: bm).contains (.type "AttributeError") = false := by
    rw [List.contains_cons, same, F.noAttr] <;> rfl
  have outN : (Value.ref C :: bm).contains (.type "NameError") = false := by
    rw [List.contains_cons, same, F.noName] <;> rfl
  apply codeAny_builtinAt F.entry
  unfold Builtin.«BaseException.__new__»
  apply PySem.wpAt_bind
  show PySem.wpAt _ _ _ (stack >>= _) _ _ _
  apply PySem.wpAt_bind
  apply PySem.wpAt_stack
  intro p rest'
  apply PySem.wpAt_of_wpAny
  wp_walk
  apply PySem.wpAt_of_wpAny
  rw [F.owner]
  repeat first
    | with_reducible refine wpAny_madeHere_exc F.canon hC ?_
    | with_reducible refine wpAny_loadPart_at hC ?_
    | (with_reducible refine wpAny_isSubtype_exc hC ?_
       first | rw [inB] | rw [outA] | rw [outN])
    | wp_step
  show R _ _
  rw [Heap.size_push]
  exact fin
theorem kw_call_run {fI : Addr} {Q : Fin → Shared → Prop} (F : ExcBaseFacts B newId initId bmB) (same : ∀ T : String, bm.contains (.type T) = bmB.contains (.type T)) (hC : h.get? C = some (excClassObj nm q C N bs bm hdct sn sub ab col dd k0 k1 k2 k3 k5 newId)) (small : rest.length ≤ sizeLine)
    (li : PySem.W.Looks (model prog w) h (typeLookup (.ref C) "__init__") (some (.ref fI))) (lb : ∀ v, PySem.W.Looks (model prog w) h (bindSpecial (.ref fI) v) (.ref fI, [v]))
    (fin : codeAny (model prog w) A (.call (.ref fI) ⟨.ref (h.objs.size + 1) :: rest, kw⟩) (fun r s' => match r with | .ok (.ret v) => v = .none ∧ Q (.done (.ret (.ref (h.objs.size + 1)))) s' | .ok _ => False | .error e => E e s')
      ⟨(h.push (PySem.W.kdv_tup rest)).push (excO C h.objs.size), g, d, t, os⟩) : wpAny (model prog w) A (Builtin.«type.__call__» ⟨.ref C :: rest, kw⟩) Q E ⟨h, g, d, t, os⟩ := by
  repeat first
    | with_reducible refine wpAny_loadPart_at hC ?_
    | with_reducible refine wpAny_madeBy_exc hC ?_
    | wp_step
  apply codeAny_call_builtin_code (Code.quiet_builtin _ F.quiet) (kw_new_ok F same hC _)
  apply kw_new_run F same hC small
  show wpAny _ _ _ _ _ _
  have keep : ∀ c o, h.get? c = some o → ((h.push (PySem.W.kdv_tup rest)).push (excO C h.objs.size)).get? c = some o := by
    intro c o z
    exact Heap.get?_push_of_some _ (Heap.get?_push_of_some _ z)
  have hC2 := keep _ _ hC
  have there : ((h.push (PySem.W.kdv_tup rest)).push (excO C h.objs.size)).get? (h.objs.size + 1) = some (excO C h.objs.size) := by heap_get
  have self : (Value.ref C :: bm).contains (.ref C) = true := by simp
  have li2 := li.keeps keep
  have lb2 := (lb (.ref (h.objs.size + 1))).keeps keep
  unfold isInstance
  repeat first
    | with_reducible refine wpAny_loadPart_at there ?_
    | (with_reducible refine wpAny_isSubtype_exc hC2 ?_
       rw [self])
    | wp_step
  show wpAny _ _ (typeLookup (.ref C) _) _ _ _
  apply li2.at
  apply wpAny_holding
  apply wpAny_bind
  apply lb2.at
  apply wpAny_bind
  apply wpAny_call
  apply codeAny_mono fin
  intro r s' z
  cases r with
  | error e => exact z
  | ok fl =>
    cases fl with
    | next => exact z.elim
    | brk => exact z.elim
    | cont => exact z.elim
    | ret v =>
      obtain ⟨ev, z⟩ := z
      subst ev
      first
        | exact wpAny_pure (wpAny_pure z)
        | (wp_walk; exact z)
theorem kw_call {fI : Addr} {R : Result → Shared → Prop} (F : ExcBaseFacts B newId initId bmB) (same : ∀ T : String, bm.contains (.type T) = bmB.contains (.type T)) (hC : h.get? C = some (excClassObj nm q C N bs bm hdct sn sub ab col dd k0 k1 k2 k3 k5 newId)) (small : rest.length ≤ sizeLine)
    (li : PySem.W.Looks (model prog w) h (typeLookup (.ref C) "__init__") (some (.ref fI))) (lb : ∀ v, PySem.W.Looks (model prog w) h (bindSpecial (.ref fI) v) (.ref fI, [v]))
    (fin : codeAny (model prog w) (A.under (.builtin "type.__call__" ⟨.ref C :: rest, kw⟩)) (.call (.ref fI) ⟨.ref (h.objs.size + 1) :: rest, kw⟩) (PySem.W.InitBack (h.objs.size + 1) R)
      ⟨(h.push (PySem.W.kdv_tup rest)).push (excO C h.objs.size), g, d, t, os⟩) : codeAny (model prog w) A (.call (.ref C) ⟨rest, kw⟩) R ⟨h, g, d, t, os⟩ := by
  have f1 := tc_lookup
  have f2 := tc_bind (.ref C)
  have isT : (⟨h, g, d, t, os⟩ : Shared).TypeIs (.ref C) "type" := ⟨_, hC, rfl⟩
  apply codeAny_of_tree
  show wpAny _ _ (callAny (.ref C) _) _ _ _
  repeat any_goals first
    | assumption
    | with_reducible refine wpAny_loadPart_at hC ?_
    | wp_step
  constructor
  · rfl
  have typ : PySem.W.Looks (model prog w) h (isInstance (.ref C) (.type "type")) true := by
    unfold isInstance
    have ty : PySem.W.Looks (model prog w) h (typeOf (.ref C)) (.type "type") := (PySem.W.Looks.ld hC).andThen .now
    exact ty.andThen (PySem.W.Looks.of_pure tc_sub)
  apply codeAny_call_builtin_at (Code.quiet_builtin _ (by decide +kernel)) entry_typeCall
  apply PySem.W.check_slot tc_kind tc_split typ (PySem.W.tc_args _ _ _)
  apply kw_call_run F same hC small li lb
  apply codeAny_mono fin
  intro r s' z
  cases r with
  | error e => exact z
  | ok fl => cases fl <;> exact z
end
end OF
/-! Errors of the program's own classes as values: the rules. -/
namespace OF
open PySem PySem.Spec PyProof.Rows L2
/-- what the maker of an error must do, and what then holds -/
def MadeBy (C : Addr) (sp : Sp) (xs : Addr → List V) (H : Hp) (Q : VK) : Prop := ∀ a, H a = none → sp (xs a) (upd H a (exo a C none)) (fun v H2 => v = .non ∧ Q (.ref a) H2) (fun _ _ _ => False)
def tMadeP (C : Addr) (sp : Sp) (ta : TA) : TE := fun σ H Q => ta σ H fun vs H1 => vs.length ≤ 1000 ∧ MadeBy C sp (fun a => .ref a :: vs) H1 Q
def tMadeN (C : Addr) (m : Nat) (sp : Sp) (gV : List V → List V → List V) (tk : TA) : TE := fun σ H Q => tk σ H fun zs H1 => zs.length = m ∧ MadeBy C sp (fun a => gV [.ref a] zs) H1 Q
section
variable {X : Cx} {CX : CXT} {x : Str} {C fI : Addr} {k n : Nat} {fd : FuncData} {ps ks : List Str} {sp : Sp} {e : Expr} {es : List Expr} {kws : List Keyword} {ta tk : TA} {p pos : Pos} {g : List Value → List Value → List Value} {gV : List V → List V → List V}
theorem run_made {pins : List (Addr × Obj)} {σ : L2.St} {H : Hp} {s : Shared} {us ws : List Value} {vs zs : List V} {Q : VK} (T : OexC X.K C) (iC : PySem.W.findIn X.K (.ref C) "__init__" = some (some (.ref fI))) (tI : PySem.W.typeIn X.K (.ref fI) = some (.type "function"))
    (F1 : FnOk X.prog X.w X.K X.mg X.base CX k fI fd ps sp) (room : Room (k + 1) X.A) (hb : KBn X.K fd ps (n + 1) ks g gV) (hx : Passes CX X (fun _ _ _ => False)) (I : Inv X pins σ H s) (r : Vals vs us) (rz : Vals zs ws) (l1 : vs.length = n) (l2 : zs.length = ks.length) (small : vs.length ≤ 1000)
    (h : MadeBy C sp (fun a => gV (.ref a :: vs) zs) H Q) : wpAny (model X.prog X.w) X.A (call (.ref C) us (ks.zip ws)) (EP X pins σ Q) X.xe s := by
  obtain ⟨nm, q, N, bs, bm, sn, sub, ab, col, dd, k0, k1, k2, k3, k5, hC, hbm⟩ := T.cls
  obtain ⟨hp, gn, dr, t, os⟩ := s
  have le : hp.objs.size ≤ hp.objs.size + 1 := Nat.le_succ _
  have hq := h (hp.objs.size + 1) (I.hok.fresh le)
  have keep : ∀ c o, hp.get? c = some o → ((hp.push (PySem.W.kdv_tup us)).push (PySem.HandSPX.excO C hp.objs.size)).get? c = some o := by
    intro c o z
    exact Heap.get?_push_of_some _ (Heap.get?_push_of_some _ z)
  have there : ((hp.push (PySem.W.kdv_tup us)).push (PySem.HandSPX.excO C hp.objs.size)).get? (hp.objs.size + 1) = some (PySem.HandSPX.excO C hp.objs.size) := by heap_get
  have J : Inv X pins σ (upd H (hp.objs.size + 1) (exo (hp.objs.size + 1) C none)) ⟨(hp.push (PySem.W.kdv_tup us)).push (PySem.HandSPX.excO C hp.objs.size), gn, dr, t, os⟩ :=
    I.laid (t' := t) keep le (exo_ok there)
  have r1 : Vals (V.ref (hp.objs.size + 1) :: vs) (Value.ref (hp.objs.size + 1) :: us) := .cons rfl r
  have n1 : (Value.ref (hp.objs.size + 1) :: us).length = n + 1 := by rw [List.length_cons, ← r.length, l1]
  have n2 : us.length ≤ sizeLine := by
    rw [← r.length, sizeLine_eq]
    omega
  apply wpAny_call
  apply kw_call F.excBase_ValueError (fun Y => PySem.HandSPX.refsVE_contains Y bm hbm) (I.kIn _ _ hC) n2 (PySem.W.looks_findIn I.kIn iC) (fun v => PySem.W.bind_fn I.kIn v tI)
  apply codeAny_mono (F1.run _ X.stack _ _ ⟨Value.ref (hp.objs.size + 1) :: us, ks.zip ws⟩ (g (Value.ref (hp.objs.size + 1) :: us) ws) _ _ (fun _ _ _ => False) (room.make C us (ks.zip ws)) (J.env0.make C us (ks.zip ws))
    (hb.to _ (Value.ref (hp.objs.size + 1) :: us) ws J.kIn n1 (rz.length.symm.trans l2)) (hb.rel r1 rz) hq)
  intro res s' z
  cases res with
  | error er => exact hx pins σ _ _ er s' J z
  | ok fl =>
    cases fl with
    | next => cases z
    | brk => cases z
    | cont => cases z
    | ret u =>
      obtain ⟨v, H', J2, rv, ev, q2⟩ := J.after z
      subst ev
      exact ⟨rv, V.ref (hp.objs.size + 1), H', J2, rfl, q2⟩
/-- positions alone are names of none -/
theorem kb_pos (b : Binds X.K fd ps []) : KBn X.K fd ps ps.length [] (fun us _ => us) (fun vs _ => vs) := by
  constructor
  · intro s us ws KX l1 l2
    have := b s us KX (by rw [List.append_nil]; exact l1)
    rw [List.append_nil] at this
    exact this
  · intro vs us zs ws r _
    exact r
/-- C(e, ..) -/
theorem pe_madeP (T : OexC X.K C) (iC : PySem.W.findIn X.K (.ref C) "__init__" = some (some (.ref fI))) (tI : PySem.W.typeIn X.K (.ref fI) = some (.type "function")) (F1 : FnOk X.prog X.w X.K X.mg X.base CX k fI fd ps sp) (room : Room (k + 1) X.A) (b : Binds X.K fd ps [])
    (hx : Passes CX X (fun _ _ _ => False)) (hg : Gl X x) (hm : X.mg x = some (.ref C)) (ha : PA X (e :: es) ta)
    (hdb : (x == ("__debug__" : Str)) = false := by decide) (he : starEach (e :: es) X.env = (false, eval e X.env) :: starEach es X.env := by rfl) (hpl : (backTo pos (starEach es X.env)).any (·.1) = false := by rfl) :
    PE X (.Call (.Name x p) (e :: es) [] pos) (tMadeP C sp ta) := by
  constructor
  intro pins s σ H Q I h
  refine wpAny_Call_Name_kw (ld_glob I hg hm ?_ hdb)
  refine PySem.W.callWith_K (h₀ := X.base) I.ok.mod.kin T.kC (thn (ha.run pos pins s σ H _ I h) ?_) he hpl
  rintro us s1 ⟨vs, H1, I1, r1, small, q⟩
  refine ⟨I1.kIn, ?_⟩
  have hl : ps.length = vs.length + 1 := by
    have z := F1.len _ _ _ _ (q (s1.heap.objs.size + 1) (I1.hok.fresh (Nat.le_succ _)))
    rw [← z]
    rfl
  have kb := kb_pos (X := X) b
  rw [hl] at kb
  exact run_made (zs := []) (ws := []) T iC tI F1 room kb hx I1 r1 .nil rfl rfl small q
/-- C() -/
theorem pe_made0 (T : OexC X.K C) (iC : PySem.W.findIn X.K (.ref C) "__init__" = some (some (.ref fI))) (tI : PySem.W.typeIn X.K (.ref fI) = some (.type "function")) (F1 : FnOk X.prog X.w X.K X.mg X.base CX k fI fd ["self"] sp) (room : Room (k + 1) X.A) (b : Binds X.K fd ["self"] [])
    (hx : Passes CX X (fun _ _ _ => False)) (hg : Gl X x) (hm : X.mg x = some (.ref C)) (hdb : (x == ("__debug__" : Str)) = false := by decide) :
    PE X (.Call (.Name x p) [] [] pos) (tMadeP C sp tNil) := by
  constructor
  intro pins s σ H Q I h
  refine wpAny_Call_Name_kw (ld_glob I hg hm ?_ hdb)
  exact PySem.W.callWith_K0 I.kIn T.kC (run_made (n := 0) (us := []) (vs := []) (zs := []) (ws := []) T iC tI F1 room (kb_pos (X := X) b) hx I .nil .nil rfl rfl (Nat.zero_le _) h.2)
/-- C(k = e, ..) -/
theorem pe_madeN (T : OexC X.K C) (iC : PySem.W.findIn X.K (.ref C) "__init__" = some (some (.ref fI))) (tI : PySem.W.typeIn X.K (.ref fI) = some (.type "function")) (F1 : FnOk X.prog X.w X.K X.mg X.base CX k fI fd ps sp) (room : Room (k + 1) X.A) (kb : KBn X.K fd ps 1 ks g gV)
    (hx : Passes CX X (fun _ _ _ => False)) (hg : Gl X x) (hm : X.mg x = some (.ref C)) (hkw : PK X kws tk) (hall : (backToKw pos (keywordEach kws X.env)).all (·.1.isSome) = true := by rfl) (hks : (backToKw pos (keywordEach kws X.env)).filterMap (·.1) = ks := by rfl)
    (hdb : (x == ("__debug__" : Str)) = false := by decide) (hpl : ((backTo pos (starEach [] X.env)).any (·.1) || (backToKw pos (keywordEach kws X.env)).any (·.1.isNone)) = false := by rfl) :
    PE X (.Call (.Name x p) [] kws pos) (tMadeN C ks.length sp gV tk) := by
  constructor
  intro pins s σ H Q I h
  refine wpAny_Call_Name_kw (ld_glob I hg hm ?_ hdb)
  refine PySem.W.callWith_KW0 (h₀ := X.base) I.ok.mod.kin T.kC hall (thn (hkw.run pos pins s σ H _ I h) ?_) hpl
  rintro ws s2 ⟨zs, H2, I2, rz, l2, q⟩
  refine ⟨I2.kIn, ?_⟩
  rw [hks]
  exact run_made (n := 0) (us := []) (vs := []) T iC tI F1 room kb hx I2 .nil rz rfl l2 (Nat.zero_le _) q
/-- e.f of such a value -/
def tFldC (K : PySem.W.Frag) (f : Str) (te : TE) : TE := fun σ H Q => te σ H fun x H1 => ∃ (a d C : Addr) (fs : List (Str × V)) (v : V), x = .ref a ∧ XfC K C ∧ PySem.W.findIn K (.ref C) f = some none ∧ H1 a = some (exo a C (some d)) ∧ H1 d = some (exd d fs) ∧ fs.lookup f = some v ∧ Q v H1
theorem pe_fldV {f : Str} {te : TE} (he : PE X e te) (hb : attributeBase e f X.env (eval e X.env) = eval e X.env := by rfl) : PE X (.Attribute e f pos) (tFldC X.K f te) := by
  constructor
  intro pins s σ H Q I h
  refine attr_of hb (thn (he.run pins s σ H _ I h) ?_)
  rintro u s1 ⟨y, H1, I1, ru, a, d, C, fs, v, ey, T, no, ea, ed, l, q⟩
  subst ey
  cases ru
  obtain ⟨t1, ho⟩ := exo_at I1.hok ea
  obtain ⟨mA, hns, rel⟩ := exd_at I1.hok ed
  obtain ⟨od, hod, hl⟩ := lookIn_ns hns
  obtain ⟨u, hu, rv⟩ := RelO.some_of (v := v) (o := mA f) (by rw [← l]; exact rel f)
  have J : PySem.W.InstAt s1.heap a _ C (some od) := ⟨ho, rfl, rfl, hod⟩
  exact PySem.HandSPX.exc_get I1.kIn J T.ga T.gg T.exC (PySem.W.findObj_own T.hdC no rfl (by rw [hl, hu])) (handed_of rv) ⟨v, H1, I1.tok _, rv, q⟩
/-- isinstance(e, C) of such a value -/
def rAskV (K : PySem.W.Frag) : List V → Hp → VK → Prop := fun xs H Q => ∃ (a D : Addr) (d : Option Addr) (c : V) (cv : Value) (b : Bool), xs = [.ref a, c] ∧ AskC K D ∧ H a = some (exo a D d) ∧ (∀ d', d = some d' → ∃ fs, H d' = some (exd d' fs)) ∧ (∀ u, RelV c u → u = cv) ∧ PySem.W.kitOne K (.ref D) cv = some b ∧ Q (.bl b) H
theorem call_askV : CallR X (.builtin "isinstance") (rAskV X.K) := by
  intro pins s σ H xs us Q I r h
  obtain ⟨a, D, d, c, cv, b, rfl, T, ea, ed, hcv, kit, q⟩ := h
  obtain ⟨u1, u2, rfl, r1, r2⟩ := vals2 r
  cases r1
  cases hcv _ r2
  obtain ⟨t1, ho⟩ := exo_at I.hok ea
  have J : ∃ ox od, PySem.W.InstAt s.heap a ox D od := by
    cases d with
    | none => exact ⟨_, none, ho, rfl, rfl, trivial⟩
    | some d' =>
      obtain ⟨fs, e'⟩ := ed d' rfl
      obtain ⟨mA, hns, _⟩ := exd_at I.hok e'
      obtain ⟨od, hod, _⟩ := lookIn_ns hns
      exact ⟨_, some od, ho, rfl, rfl, hod⟩
  obtain ⟨ox, od, J⟩ := J
  exact PySem.W.kia_one (PySem.W.kitx_exc T.cl T.xf.ga T.xf.gg T.xf.exC T.ha T.hn T.ht T.hm) I.kIn J kit (fun z => nomatch z) fun tk => ⟨.bl b, H, I.kept (t' := tk) fun _ _ z => z, rfl, q⟩
end
end OF
/-! The error classes of the program, one promise a kind: one field, two fields, none. -/
namespace OF
open PySem PySem.Spec PyProof.Rows L2
def bmF : List Value := [.type "ValueError", .type "Exception", .type "BaseException", .type "object"]
def bmE (CF : Addr) : List Value := .ref CF :: bmF
/-- what the top says of an error class: C under the name x, its maker st at fI, bm above it -/
structure Kl (K : PySem.W.Frag) (mg : Str → Option Value) (x q : Str) (st : Stmt) (C fI : Addr) (bm : List Value) : Prop where
  g : mg x = some (.ref C)
  cls : ∃ nm q N bs sn sub ab col dd k0 k1 k2 k3 k5, K.lookup C = some (excClassObj nm q C N bs bm true sn sub ab col dd k0 k1 k2 k3 k5 "ValueError.__new__")
  sa : PySem.W.findIn K (.ref C) "__setattr__" = some (some (.builtin "object.__setattr__"))
  kC : PySem.W.keepIn K (.ref C) = true
  iC : PySem.W.findIn K (.ref C) "__init__" = some (some (.ref fI))
  tI : PySem.W.typeIn K (.ref fI) = some (.type "function")
  ga : PySem.W.findIn K (.ref C) "__getattribute__" = some (some (.builtin "BaseException.__getattribute__"))
  gg : PySem.W.findIn K (.ref C) "__getattr__" = some none
  ha : PySem.W.findIn K (.ref C) "__class__" = some (some (.builtin "object.__class__"))
  fn : ∃ fd, Fun K "__init__" q st fI fd
  fc : PySem.W.findCls K (.ref C) (.type "type") "__name__" = some (.get (.builtin "getset_descriptor.__get__") (.builtin "type.__name__") (.ref C) (.type "type"))
  nn : PySem.W.findIn K (.ref C) "class_name" = some none
  nk : ∃ (nm : Str) (o : Obj) (t : Tok), K.lookup C = some o ∧ o.cls = .type "type" ∧ o.slots[2]?.join = some (.str nm t)
section
variable {K : PySem.W.Frag} {mg : Str → Option Value} {x q : Str} {st : Stmt} {C fI : Addr} {bm : List Value}
theorem Kl.cd (T : Kl K mg x q st C fI bm) : ∃ cd, PySem.W.clsIn K C = some cd ∧ cd.mro = .ref C :: bm ∧ cd.hasDict = true := by
  obtain ⟨nm, q, N, bs, sn, sub, ab, col, dd, k0, k1, k2, k3, k5, h⟩ := T.cls
  have e : PySem.W.clsIn K C = some { name := nm, bases := bs, mro := .ref C :: bm, ns := N, qualname := q, hasDict := true, slotNames := sn, subclasses := sub, abstract := ab, collection := col, hasDel := false } := by
    unfold PySem.W.clsIn
    rw [h] <;> rfl
  exact ⟨_, e, rfl, rfl⟩
theorem Kl.sub (T : Kl K mg x q st C fI bm) (b : Value) : PySem.W.subIn K (.ref C) b = some ((Value.ref C :: bm).contains b) := by
  obtain ⟨cd, h, hm, _⟩ := T.cd
  show PySem.W.mroIn K C b = _
  unfold PySem.W.mroIn
  rw [h, Option.bind_some, hm]
  rfl
theorem Kl.ty (T : Kl K mg x q st C fI bm) : PySem.W.typeIn K (.ref C) = some (.type "type") := by
  obtain ⟨nm, q, N, bs, sn, sub, ab, col, dd, k0, k1, k2, k3, k5, h⟩ := T.cls
  show (K.lookup C).map (·.cls) = _
  rw [h] <;> rfl
theorem Kl.dic (T : Kl K mg x q st C fI bm) : PySem.W.hasDictIn K C = true := by
  obtain ⟨cd, h, _, hd⟩ := T.cd
  unfold PySem.W.hasDictIn
  rw [h]
  exact hd
/-- what stands above every error -/
structure Above (bm : List Value) : Prop where
  ve : PySem.HandSPX.refsVE bm = true
  be : ∀ C : Addr, (Value.ref C :: bm).contains (.type "BaseException") = true
  ob : ∀ C : Addr, (Value.ref C :: bm).contains (.type "object") = true
  va : ∀ C : Addr, (Value.ref C :: bm).contains (.type "ValueError") = true
theorem above_F : Above bmF := ⟨by decide +kernel, fun C => by simp [bmF], fun C => by simp [bmF], fun C => by simp [bmF]⟩
theorem above_E (CF : Addr) : Above (bmE CF) := ⟨by show PySem.HandSPX.refsVE bmF = true; decide +kernel, fun C => by simp [bmF, bmE], fun C => by simp [bmF, bmE], fun C => by simp [bmF, bmE]⟩
theorem Kl.ox (T : Kl K mg x q st C fI bm) (B : Above bm) : OexC K C := by
  obtain ⟨nm, q, N, bs, sn, sub, ab, col, dd, k0, k1, k2, k3, k5, h⟩ := T.cls
  exact ⟨⟨_, _, _, _, _, _, _, _, _, _, _, _, _, _, _, h, B.ve⟩, T.sa, (T.sub _).trans (congrArg some (B.be C)), T.ty, T.kC⟩
theorem Kl.xf (T : Kl K mg x q st C fI bm) (B : Above bm) : XfC K C := ⟨T.ga, T.gg, (T.sub _).trans (congrArg some (B.be C)), T.dic⟩
theorem Kl.ask (T : Kl K mg x q st C fI bm) (B : Above bm) (hn : PySem.W.specialIn K (.builtin "object.__class__") "__get__" = some (some (.builtin "getset_descriptor.__get__"))) (ht : PySem.W.takesIn K (.builtin "object.__class__") = some true) : AskC K C := by
  obtain ⟨cd, h, _, _⟩ := T.cd
  exact ⟨by rw [h]; rfl, T.xf B, T.ha, hn, ht, (T.sub _).trans (congrArg some (B.ob C))⟩
theorem Kl.nam (T : Kl K mg x q st C fI bm) (B : Above bm) (hn : PySem.W.specialIn K (.builtin "object.__class__") "__get__" = some (some (.builtin "getset_descriptor.__get__"))) (ht : PySem.W.takesIn K (.builtin "object.__class__") = some true) (st' : PySem.W.nsIn K cStatics "thirdparty.any" = some none) : ∃ nm, NamC K C nm := by
  obtain ⟨cd, h, _, _⟩ := T.cd
  obtain ⟨nm, o, t, lk⟩ := T.nk
  exact ⟨nm, ⟨T.xf B, by rw [h]; rfl, T.ha, hn, ht, (T.sub _).trans (congrArg some (B.ob C)), T.ty, st', T.fc, ⟨o, t, lk⟩, T.nn⟩⟩
/-- isinstance of an error of the class D, by the class C -/
theorem Kl.kit {x2 q2 : Str} {st2 : Stmt} {D fD : Addr} {bm2 : List Value} (T : Kl K mg x q st C fI bm) (U : Kl K mg x2 q2 st2 D fD bm2) : PySem.W.kitOne K (.ref D) (.ref C) = some ((Value.ref D :: bm2).contains (.ref C)) := by
  obtain ⟨cd, h, _, _⟩ := T.cd
  unfold PySem.W.kitOne
  split
  · rename_i e
    have e2 : Value.ref D = Value.ref C := eq_of_beq e
    rw [e2]
    simp
  · unfold PySem.W.kitCls
    simp only [T.ty, h, Option.isSome_some, beq_self_eq_true, Bool.and_self, if_true]
    exact U.sub _
theorem Kl.kitV (U : Kl K mg x q st C fI bm) (B : Above bm) : PySem.W.kitOne K (.ref C) (.type "ValueError") = some true := by
  unfold PySem.W.kitOne
  split
  · rfl
  · unfold PySem.W.kitCls
    simp only [show PySem.W.kitMeta "ValueError" = true by decide +kernel, if_true]
    exact (U.sub _).trans (congrArg some (B.va C))
theorem kl_mk {h : Heap} {nm q' : Str} {N : Addr} {bs sub : List Value} {sn : List Str} {ab : Bool} {col : Option Bool} {dd od an : Option Addr} {cn : Str} {tk : Tok} {k0 k1 k3 k5 : Option Value} {oc kV dc pm cd ct : Value} {sl : Array (Option Value)} (X : K.In h) (G : h.Ns mainGlobals mg)
    (a : PySem.W.nsIn K mainGlobals x = some (some (.ref C))) (l : K.lookup C = some (excClassObj nm q' C N bs bm true sn sub ab col dd k0 k1 (some (.str cn tk)) k3 k5 "ValueError.__new__"))
    (sa : PySem.W.findIn K (.ref C) "__setattr__" = some (some (.builtin "object.__setattr__"))) (kC : PySem.W.keepIn K (.ref C) = true) (iC : PySem.W.findIn K (.ref C) "__init__" = some (some (.ref fI))) (tI : PySem.W.typeIn K (.ref fI) = some (.type "function"))
    (ga : PySem.W.findIn K (.ref C) "__getattribute__" = some (some (.builtin "BaseException.__getattribute__"))) (gg : PySem.W.findIn K (.ref C) "__getattr__" = some none) (ha : PySem.W.findIn K (.ref C) "__class__" = some (some (.builtin "object.__class__")))
    (lI : K.lookup fI = some ⟨oc, od, .func (PySem.W.fnOf "__init__" q (defArgs st) (defBody st) (defScope st) .none kV dc pm an cd ct), sl⟩) (cI : PySem.W.codeIn K cd q = true) (kI : PySem.W.keepIn K (.ref fI) = true)
    (fc : PySem.W.findCls K (.ref C) (.type "type") "__name__" = some (.get (.builtin "getset_descriptor.__get__") (.builtin "type.__name__") (.ref C) (.type "type"))) (nn : PySem.W.findIn K (.ref C) "class_name" = some none) : Kl K mg x q st C fI bm :=
  ⟨PySem.W.mg_of X G a, ⟨_, _, _, _, _, _, _, _, _, _, _, _, _, _, l⟩, sa, kC, iC, tI, ga, gg, ha, ⟨_, fun_mk lI cI kI⟩, fc, nn, ⟨cn, _, tk, l, rfl, rfl⟩⟩
end

/-! ### errors in the heap -/
/-- an error of the class C with the fields fs -/
def IsE (C : Addr) (fs : List (Str × V)) (H : Hp) (a : Addr) : Prop := ∃ d rest, H a = some (exo a C (some d)) ∧ H d = some (exd d (fs ++ rest))
/-- an error of the class C -/
def Err (C : Addr) (H : Hp) (a : Addr) : Prop := ∃ d, H a = some (exo a C d) ∧ ∀ d', d = some d' → ∃ fs, H d' = some (exd d' fs)
theorem IsE.same {C a : Addr} {fs : List (Str × V)} {H H' : Hp} (h : IsE C fs H a) (s : Same H H') : IsE C fs H' a := by
  obtain ⟨d, r, h1, h2⟩ := h
  exact ⟨d, r, s _ _ h1, s _ _ h2⟩
theorem IsE.err {C a : Addr} {fs : List (Str × V)} {H : Hp} (h : IsE C fs H a) : Err C H a := by
  obtain ⟨d, r, h1, h2⟩ := h
  exact ⟨some d, h1, fun d' e => by cases e; exact ⟨_, h2⟩⟩
theorem Err.same {C a : Addr} {H H' : Hp} (h : Err C H a) (s : Same H H') : Err C H' a := by
  obtain ⟨d, h1, h2⟩ := h
  refine ⟨d, s _ _ h1, fun d' e => ?_⟩
  obtain ⟨fs, h3⟩ := h2 d' e
  exact ⟨fs, s _ _ h3⟩
/-- X.__init__ of two fields -/
def spInit2 (f g : Str) (C : Addr) : Sp := fun vs H Q _ => ∃ (a : Addr) (v u : V), vs = [.ref a, v, u] ∧ H a = some (exo a C none) ∧ ∀ (fs : List (Str × V)) (d : Addr), H d = none → d ≠ a → Q .non (upd (upd H d (exd d ((g, u) :: (f, v) :: fs))) a (exo a C (some d)))
/-- X.__init__ of none -/
def spInit0 (C : Addr) : Sp := fun vs H Q _ => ∃ a : Addr, vs = [.ref a] ∧ H a = some (exo a C none) ∧ ∀ (fs : List (Str × V)) (d : Addr), H d = none → d ≠ a → Q .non (upd (upd H d (exd d fs)) a (exo a C (some d)))
section
variable {K : PySem.W.Frag} {C : Addr} {f g : Str} {v u : V} {H : Hp} {Q : VK}
theorem same_two {H : Hp} {a d : Addr} {x y z : HO} (ha : H a = none) (hd : upd H a z d = none) (ne : d ≠ a) : Same H (upd (upd (upd H a z) d x) a y) := by
  rw [upd_ne ne] at hd
  intro b o hb
  rw [upd_ne (ne_of_none hb ha), upd_ne (ne_of_none hb hd), upd_ne (ne_of_none hb ha)]
  exact hb
theorem made1 (h : ∀ a H', Same H H' → IsE C [(f, v)] H' a → Q (.ref a) H') : MadeBy C (spInit K f C) (fun a => [.ref a, v]) H Q := fun a ha => by
  refine ⟨a, v, rfl, upd_same, fun fs d hd ne => ⟨rfl, h a _ (same_two ha hd ne) ⟨d, fs, upd_same, ?_⟩⟩⟩
  rw [upd_ne ne]
  exact upd_same
theorem made2 (h : ∀ a H', Same H H' → IsE C [(g, u), (f, v)] H' a → Q (.ref a) H') : MadeBy C (spInit2 f g C) (fun a => [.ref a, v, u]) H Q := fun a ha => by
  refine ⟨a, v, u, rfl, upd_same, fun fs d hd ne => ⟨rfl, h a _ (same_two ha hd ne) ⟨d, fs, upd_same, ?_⟩⟩⟩
  rw [upd_ne ne]
  exact upd_same
theorem made0 (h : ∀ a H', Same H H' → Err C H' a → Q (.ref a) H') : MadeBy C (spInit0 C) (fun a => [.ref a]) H Q := fun a ha => by
  refine ⟨a, rfl, upd_same, fun fs d hd ne => ⟨rfl, h a _ (same_two ha hd ne) ⟨some d, upd_same, fun d' e => ?_⟩⟩⟩
  cases e
  exact ⟨fs, by rw [upd_ne ne]; exact upd_same⟩
theorem made_F {nm : Str} (T : OexC K C) (N : NamC K C nm) (h : ∀ a H', Same H H' → Err C H' a → Q (.ref a) H') : MadeBy C (spFig K) (fun a => [.ref a, v]) H Q := fun a ha => by
  refine ⟨a, C, v, nm, rfl, T, N, upd_same, fun d hd ne => ⟨rfl, h a _ (same_two ha hd ne) ⟨some d, upd_same, fun d' e => ?_⟩⟩⟩
  cases e
  exact ⟨_, by rw [upd_ne ne]; exact upd_same⟩
end

/-! ### lists of the same things -/
/-- l == l2, two lists of the very same things -/
def rEqSame (K : PySem.W.Frag) : R2 := fun x y H Q => ∃ (l l2 : Addr) (xs : List V), x = .ref l ∧ y = .ref l2 ∧ SqL K H l xs ∧ SqL K H l2 xs ∧ (∀ v ∈ xs, flatB v = true ∨ ∃ a, v = .ref a) ∧ Q (.bl true) H
theorem op_eqSame {X : Cx} (hu : X.A.units + 64 < cLine) : OpR X (compareOp .Eq) (rEqSame X.K) := by
  intro pins s σ H x y v u Q I rx ry h
  obtain ⟨l, l2, xs, rfl, rfl, h1, h2, hs, q⟩ := h
  cases rx
  cases ry
  obtain ⟨us, r1, p1, _⟩ := I.list h1
  obtain ⟨ws, r2, p2, _⟩ := I.list h2
  have n1 := r1.length
  have n2 := r2.length
  have hsz : us.toArray.size = ws.toArray.size := by
    rw [List.size_toArray, List.size_toArray]
    omega
  have key := SeqAt.RcAt.lists (A := X.A) (e := fun _ => true) p1.isList p2.isList hsz (by omega) (fun j h1 h2 => ?_)
  · refine key X.prog X.w _ _ ?_
    rw [show ((List.range us.toArray.size).all fun _ => true) = true from List.all_eq_true.mpr fun _ _ => rfl]
    exact ⟨.bl true, H, I, rfl, q⟩
  · have j1 : j < us.length := by simpa using h1
    have jx : j < xs.length := by omega
    obtain ⟨a, ea, ra⟩ := Vals.get r1 (List.getElem?_eq_getElem jx)
    obtain ⟨b, eb, rb⟩ := Vals.get r2 (List.getElem?_eq_getElem jx)
    have e1 : us.toArray[j] = a := by
      have := List.getElem?_eq_getElem j1
      rw [this] at ea
      simpa using Option.some.inj ea
    have e2 : ws.toArray[j] = b := by
      have j2 : j < ws.length := by omega
      have := List.getElem?_eq_getElem j2
      rw [this] at eb
      simpa using Option.some.inj eb
    rw [e1, e2]
    rcases hs _ (List.getElem_mem jx) with hf | ⟨p, hp⟩
    · exact eqAt_same ra rb hf
    · rw [hp] at ra rb
      cases ra
      cases rb
      exact SeqAt.EqAt.same _
/-- comprehensions over enumerate of a list that stays -/
theorem lc_enum {K : PySem.W.Frag} {a : Addr} {xs : List V} {g : TG} {tt : TT} {te : TE} {vs : List Nat} {σ : L2.St} {H1 : Hp} {D : Addr} {Qd : Hp → Prop} (Pv : Nat → Hp → Prop) (h0 : Pv 0 (upd H1 D (.lst []))) (hl : ∀ i H, i ≤ xs.length → Pv i H → SqL K H a xs)
    (hs : ∀ (i : Nat) x H T, xs[i]? = some x → Pv i H → H T = none → g (.ref T) (wipe σ vs) (upd H T (.tup [.int (i : Int), x])) fun σ2 H2 => wipe σ2 vs = wipe σ vs ∧ tt σ2 H2 fun b H3 =>
      if b = true then te σ2 H3 fun y H4 => ∃ acc, H4 D = some (.lst acc) ∧ acc.length < sizeLine ∧ Pv (i + 1) (upd H4 D (.lst (acc ++ [y]))) else Pv (i + 1) H3) (hd : ∀ H, Pv xs.length H → Qd H) :
    ∃ W : Nat → Nat → Hp → Prop, (∃ m, W 0 m (upd H1 D (.lst []))) ∧ ∀ i m H, W i m H →
      ((Ite K a).stop i H ∧ Qd H) ∨ ((Ite K a).go i H ∧ ∃ Nx : Hp → Prop, (∀ H', Nx H' → ∃ m', m' < m ∧ W (i + 1) m' H') ∧ ∀ x H', (Ite K a).yld i H x H' → g x (wipe σ vs) H' fun σ2 H2 => wipe σ2 vs = wipe σ vs ∧ tt σ2 H2 fun b H3 =>
        if b = true then te σ2 H3 fun y H4 => ∃ acc, H4 D = some (.lst acc) ∧ acc.length < sizeLine ∧ Nx (upd H4 D (.lst (acc ++ [y]))) else Nx H3) := by
  refine ⟨fun i m H => m = xs.length - i ∧ i ≤ xs.length ∧ Pv i H, ⟨xs.length, by simp, Nat.zero_le _, h0⟩, ?_⟩
  rintro i m H ⟨em, hi, p⟩
  subst em
  have q := hl i H hi p
  rcases Nat.lt_or_ge i xs.length with hlt | hge
  · right
    refine ⟨⟨xs, xs[i], q, List.getElem?_eq_getElem hlt⟩, Pv (i + 1), fun H' p' => ⟨xs.length - (i + 1), by omega, rfl, hlt, p'⟩, ?_⟩
    rintro z H' ⟨T, x, ez, hT, eH, hx⟩
    subst ez
    subst eH
    exact hs i x H T (hx xs q) p hT
  · left
    have e : i = xs.length := by omega
    subst e
    exact ⟨⟨xs, q, Nat.le_refl _⟩, hd H p⟩
end OF
set_option maxHeartbeats 4000000
/-! set(xs) of a list or tuple of ints, sorted of it. -/
namespace OF
open PySem PySem.Spec PyProof.Rows L2
/-- an empty set, just made -/
abbrev setObj0 (w : World) : Obj := { cls := .type "set", dict := none, data := .set #[] 0 (.fresh 0 0 (!w.params.followText "set-order")) }
section
variable {P : Program} {w : World} {A : Around} {E : Value → Shared → Prop}
theorem set_of_list {h : Heap} {g : Array GenState} {d : Drawn} {t : Nat} {os : OsState} {l : Addr} {xs : Array Value} (ns : List Int) {Q : Value → Shared → Prop} (calm : A.handled = none) (lst : h.IsList l xs) (allInt : IntsAre xs.toList ns) (few : ns.length + 1 < scanBound)
    (fin : ∀ (h' : Heap) (tk c : Nat), SetR w h' h.objs.size (fun j => decide (j ∈ ns)) c → c ≤ ns.length → (∀ b o, h.get? b = some o → h'.get? b = some o) → Q (.ref h.objs.size) ⟨h', g, d, tk, os⟩) :
    wpAny (model P w) A (call (.type "set") [.ref l]) Q E ⟨h, g, d, t, os⟩ := by
  have size : xs.size = ns.length := by
    rw [← Array.length_toList]
    exact allInt.length
  obtain ⟨c, tl, hmro⟩ := F.called_set.mro
  have f1 := F.called_set.made
  have f2 := F.called_set.sub
  have f3 := F.called_set.notType
  have f4 := F.called_set.canCreate
  have f5 := F.typeCall_set_1 (.ref l)
  apply wpAny_call
  apply codeAny_of_tree
  show wpAny _ _ (callAny (.type "set") _) _ _ _
  apply wpAny_pure
  refine ⟨Code.quiet_builtin _ (by decide +kernel), codeAny_builtin F.entry_type_call ?_⟩
  rw [Around.under_plain (weight_type_call_type "set" [.ref l] []) rfl]
  repeat any_goals first
    | assumption
    | wp_step
  refine codeAny_mono (code_set_led1 (s := ⟨h, g, d, t, os⟩) (.ref l) (E := E) (Q₁ := fun v s1 => v = .ref h.objs.size ∧ s1 = ⟨h.push (setObj0 w), g, d, t, os⟩) ⟨rfl, rfl⟩) ?_
  intro r s1 z
  cases r with
  | error e => exact z
  | ok fl =>
    cases fl with
    | next => exact z.elim
    | brk => exact z.elim
    | cont => exact z.elim
    | ret v =>
      obtain ⟨ev, es⟩ := z
      subst ev es
      have there : (h.push (setObj0 w)).get? h.objs.size = some (setObj0 w) := Heap.get?_push_size _ rfl
      have isSet : Shared.TypeIs ⟨h.push (setObj0 w), g, d, t, os⟩ (.ref h.objs.size) "set" := ⟨_, there, rfl⟩
      have i1 := F.called_set.init.lookup
      have i2 := F.called_set.init.bind (.ref h.objs.size)
      repeat any_goals first
        | assumption
        | wp_step
      refine codeAny_mono (codeAny_call_builtin (R := wants (fun r s2 => r = .none ∧ ∃ h' tk c, s2 = ⟨h', g, d, tk, os⟩ ∧ SetR w h' h.objs.size (fun j => decide (j ∈ ns)) c ∧ c ≤ ns.length ∧ (∀ b o, h.get? b = some o → h'.get? b = some o)) E)
        F.called_set.init.plain F.entry_set_init (check_set_init_1 isSet ?inner)) ?outer
      case outer =>
        intro r2 s2 z2
        cases r2 with
        | error e => exact z2
        | ok fl2 =>
          cases fl2 with
          | next => exact z2.elim
          | brk => exact z2.elim
          | cont => exact z2.elim
          | ret v2 =>
            obtain ⟨ev, h', tk, c', es, hS, hc, hk⟩ := z2
            subst ev es
            repeat any_goals first
              | assumption
              | wp_step
            exact fin _ _ _ hS hc hk
      case inner =>
        obtain ⟨o1, ho1, hc1, m1, hd1⟩ := lst
        obtain ⟨k1, k2, k3, k4⟩ := o1
        simp only at hc1 hd1
        subst hc1 hd1
        have there2 : (h.push (setObj0 w)).get? l = some { cls := .type "list", dict := k2, data := .seq xs m1, slots := k4 } := Heap.get?_push_of_some _ ho1
        have s1 := F.sub_list_set
        have s2 := F.sub_list_frozenset
        have apart : (Value.type "list" == Value.type "dict") = false := by decide
        have lst1 : (h.push (setObj0 w)).IsList l xs := ⟨_, there2, rfl, m1, rfl⟩
        unfold Builtin.«set.__init__» noKeywords Builtin.Frozenset.updateFrom
        generalize same : pyIter = PI
        wp_walk
        subst same
        apply wpAny_pyIter_list lst1
        apply wpAny_bind
        apply wpAny_runValue
        have below : l < h.objs.size := Heap.lt_size ho1
        have calm3 : A.in1.in1.in1.handled = none := by simp [calm]
        have sz : (h.push (setObj0 w)).objs.size = h.objs.size + 1 := Heap.size_push ..
        have ne1 : l ≠ (h.push (setObj0 w)).objs.size := by
          rw [sz]
          exact Nat.ne_of_lt (Nat.lt_succ_of_lt below)
        have ne2 : h.objs.size ∉ [(h.push (setObj0 w)).objs.size, l] := by
          rw [sz]
          simp only [List.mem_cons, List.not_mem_nil, or_false, not_or]
          exact ⟨Nat.ne_of_lt (Nat.lt_succ_self _), Nat.ne_of_gt below⟩
        have vals : ∀ (i : Nat) (v : Value), xs[i]? = some v → ∃ k t, ns[i]? = some k ∧ v = .int k t := by
          intro i v hv
          have hi : i < ns.length := by
            rw [← size]
            exact (Array.getElem?_eq_some_iff.mp hv).1
          obtain ⟨t, e⟩ := PyProof.Rows.IntsAre.int_at allInt i v (by rw [Array.getElem?_toList]; exact hv)
          rw [List.getD_eq_getElem?_getD, List.getElem?_eq_getElem hi] at e
          exact ⟨ns[i], t, List.getElem?_eq_getElem hi, e⟩
        refine set_update_ints ((Walks.list calm3 _ l ne1 xs).toS) h.objs.size ne2 ns size few vals (xs.size - 0) 0 _ (by omega) (Nat.zero_le _) ⟨⟨_, Heap.get?_push_size _ rfl, rfl, rfl⟩, (lst1.push _)⟩ ?start ?stop
        case start =>
          have got : ((h.push (setObj0 w)).push { cls := .type "list_iterator", data := .fields #[.ref l, .int 0 0] }).get? h.objs.size = some (setObj0 w) := Heap.get?_push_of_some _ there
          exact ⟨0, Nat.le_refl 0, setR_new_at got⟩
        case stop =>
          intro s' c' hm hc' hS
          obtain ⟨h', g2, d2, tk, os2⟩ := s'
          have eg : g2 = g := hm.gens
          have ed : d2 = d := hm.drawn
          have eo : os2 = os := hm.os
          subst eg ed eo
          show wpAny _ _ _ _ _ _
          apply wpAny_pure
          show wpAny _ _ (ret Value.none) _ _ _
          rw [size] at hc'
          apply wpAny_pure
          refine ⟨rfl, h', tk, c', rfl, hS, hc', fun b o z => ?_⟩
          have b0 : b < h.objs.size := Heap.lt_size z
          refine hm.heap b o ?_ (Heap.get?_push_of_some _ (Heap.get?_push_of_some _ z))
          simp only [List.mem_cons, List.not_mem_nil, or_false, not_or]
          rw [sz]
          exact ⟨Nat.ne_of_lt b0, Nat.ne_of_lt (Nat.lt_succ_of_lt b0)⟩
end
section
variable {X : Cx}
/-- set(xs): xs a list or tuple of ints -/
def rSetB (K : PySem.W.Frag) (w : World) : List V → Hp → VK → Prop := fun xs H Q => ∃ (l : Addr) (ns : List Int), xs = [.ref l] ∧ (SqL K H l (ns.map V.int) ∨ SqT K H l (ns.map V.int)) ∧ ns.length ≤ 4000 ∧
  ∀ (p : Addr) (ks : List Int), H p = none → ks.Nodup → (∀ k, k ∈ ks ↔ k ∈ ns) → Q (.ref p) (upd H p (SetO w p (fun j => decide (j ∈ ns)) ks.length))
theorem ints_vals : ∀ {ns : List Int} {us : List Value}, Vals (ns.map V.int) us → IntsAre us ns
  | [], _, .nil => .nil
  | _ :: ns, _, .cons r t => by
    obtain ⟨k, rfl⟩ := r
    exact .cons _ k (ints_vals t)
theorem cr_setB (hc : X.calm = true) : CallR X (.type "set") (rSetB X.K X.w) := by
  intro pins s σ H xs us Q I r h
  obtain ⟨l, ns, rfl, hl, few, q⟩ := h
  obtain ⟨u, rfl, ru⟩ := vals1 r
  cases ru
  have hn : H s.heap.objs.size = none := I.hok.fresh (Nat.le_refl _)
  have room : ns.length + 1 < scanBound := by
    unfold scanBound
    omega
  have fin : ∀ (h' : Heap) (tk c : Nat), SetR X.w h' s.heap.objs.size (fun j => decide (j ∈ ns)) c → c ≤ ns.length → (∀ b o, s.heap.get? b = some o → h'.get? b = some o) → EP X pins σ Q (.ref s.heap.objs.size) { s with heap := h', toks := tk } := by
    intro h' tk c R hc2 k
    have R2 := R
    obtain ⟨o, es, ep, st, _, _, _, _, nd, mem, _, _, ec, _⟩ := R2
    have e : (es.toList.map keyOf).length = c := by rw [List.length_map, Array.length_toList, ec]
    have q2 := q s.heap.objs.size (es.toList.map keyOf) hn nd fun k => ⟨fun z => of_decide_eq_true ((mem k).mpr z), fun z => (mem k).mp (decide_eq_true z)⟩
    rw [e] at q2
    exact ⟨.ref s.heap.objs.size, _, I.laid (t' := tk) k (Nat.le_refl _) (setO_new R), rfl, q2⟩
  rcases hl with hl | hl
  · obtain ⟨its, rv, pl, _⟩ := I.list hl
    obtain ⟨hp, g, d, t, os⟩ := s
    exact set_of_list ns (I.ok.hd hc) pl.isList (by simpa using ints_vals rv) room fin
  · obtain ⟨its, rv, pl, _⟩ := I.tuple hl
    exact call_set_tupI ns (I.ok.hd hc) pl (by simpa using ints_vals rv) room fin
/-- .. of few ints -/
def rSetI (K : PySem.W.Frag) (w : World) : List V → Hp → VK → Prop := fun xs H Q => ∃ (l : Addr) (ns : List Int), xs = [.ref l] ∧ (SqL K H l (ns.map V.int) ∨ SqT K H l (ns.map V.int)) ∧ ns.length ≤ 60 ∧
  ∀ (p : Addr) (ks : List Int), H p = none → ks.Nodup → (∀ k, k ∈ ks ↔ k ∈ ns) → Q (.ref p) (upd H p (SetO w p (fun j => decide (j ∈ ns)) ks.length))
theorem cr_setI (hc : X.calm = true) : CallR X (.type "set") (rSetI X.K X.w) := fun pins s σ H xs us Q I r ⟨l, ns, e, hl, few, q⟩ => cr_setB hc pins s σ H xs us Q I r ⟨l, ns, e, hl, Nat.le_trans few (by decide), q⟩
/-- len of such a set -/
def rLenSetO (w : World) : List V → Hp → VK → Prop := fun xs H Q => ∃ (a : Addr) (S : Int → Bool) (n : Nat), xs = [.ref a] ∧ H a = some (SetO w a S n) ∧ Q (.int n) H
theorem call_lenSetO : CallR X (.builtin "len") (rLenSetO X.w) := by
  intro pins s σ H xs us Q I r h
  obtain ⟨a, S, n, rfl, ha, q⟩ := h
  obtain ⟨u, rfl, ru⟩ := vals1 r
  cases ru
  obtain ⟨o, es, ep, t, ho, hx, hd, _, _, _, fits, small, en, _⟩ := setO_get I ha
  refine call_len_set ho hx hd small (by unfold scanBound at fits; omega) ⟨.int n, H, I.tok _, ⟨_, by rw [en]⟩, q⟩
end
end OF
set_option maxHeartbeats 4000000
/-! sorted(set(..)) of pairs of any ints. -/
namespace OF
open PySem PySem.Spec PyProof.Rows L2
theorem perm_back {α β : Type} {f : α → β} {l m : List β} (h : l.Perm m) : ∀ L : List α, m = L.map f → ∃ L' : List α, L'.Perm L ∧ l = L'.map f := by
  induction h with
  | nil =>
    intro L e
    exact ⟨L, List.Perm.refl _, e⟩
  | cons x _ ih =>
    intro L e
    cases L with
    | nil => cases e
    | cons y L =>
      have e2 := List.cons.inj e
      obtain ⟨L', p, q⟩ := ih L e2.2
      exact ⟨y :: L', p.cons y, by rw [q, e2.1]; rfl⟩
  | swap x y l =>
    intro L e
    match L, e with
    | [], e => cases e
    | [_], e => cases (List.cons.inj e).2
    | a :: b :: L, e =>
      obtain ⟨e1, e2⟩ := List.cons.inj e
      obtain ⟨e3, e4⟩ := List.cons.inj e2
      exact ⟨b :: a :: L, List.Perm.swap _ _ _, by rw [e1, e3, e4]; rfl⟩
  | trans _ _ ih1 ih2 =>
    intro L e
    obtain ⟨L2, p2, q2⟩ := ih2 L e
    obtain ⟨L1, p1, q1⟩ := ih1 L2 q2
    exact ⟨L1, p1.trans p2, q1⟩
/-- a list of two ints as a pair -/
def duo : List Int → Int × Int
  | [x, y] => (x, y)
  | _ => (0, 0)
section
variable {P : Program} {w : World} {A : Around} {E : Value → Shared → Prop} {s : Shared}
theorem sorted_set_duos {a : Addr} {L : List (Addr × List Int)} {es : Array (Int × Value)} {ep : Nat} {t : SetTable} {Q : Value → Shared → Prop} (R : SetTR P w s.heap a L es ep t) (calm : A.handled = none) (two : ∀ p ∈ L, p.2.length = 2)
    (fin : ∀ (s' : Shared) (p : Addr) (out : List Value) (c : Nat) (L' : List (Addr × List Int)), (∀ b o, s.heap.get? b = some o → s'.heap.get? b = some o) → s'.gens = s.gens → s'.os = s.os → s.heap.objs.size ≤ p →
      s'.heap.get? p = some (seqObj "list" out.toArray c) → out = L'.map (fun q => Value.ref q.1) → L'.Perm L → L'.Pairwise (fun q r => SrtO.lexB (duo r.2) (duo q.2) = false) → Q (.ref p) s') : wpAny (model P w) A (call (.builtin "sorted") [.ref a]) Q E s := by
  obtain ⟨o, ho, hx, hd⟩ := R.ob
  have hsz := R.size
  have few := R.few
  apply Calls.call_function_entry kind_sorted plain_sorted entry_sorted (args_sorted1 _)
  unfold Builtin.«sorted»
  refine wpAny_bind (m := checkCount "sorted" 1 1 _) (wpAny_pure ?_)
  apply wpAny_bind
  apply collect_set (A := A.in1) calm ⟨o, ho, hx.1, hd⟩ R.fits (by unfold scanBound; omega) R.tab.ris R.led
  intro s1 vs k1 z1 g1 o1 pm
  have rows : es.toList.map (·.2) = L.map fun q => Value.ref q.1 := by
    rw [R.rows]
    unfold rowsOf
    rw [List.map_map] <;> rfl
  rw [rows] at pm
  have short : vs.length < 64 := by
    rw [pm.length_eq, List.length_map]
    exact few
  have room : vs.length ≤ sizeLine := by
    rw [sizeLine_eq]
    omega
  refine wpAny_bind (wpAny_newList ?_ room)
  have laid : (s1.heap.push (seqObj "list" vs.toArray 0)).get? s1.heap.objs.size = some (seqObj "list" vs.toArray 0) := Heap.get?_push_size _ rfl
  have tup : ∀ q ∈ L, TS.TupInts (s1.heap.push (seqObj "list" vs.toArray 0)) (.ref q.1) q.2 := by
    intro q hq
    exact tupInts_of (P := P) (w := w) (isT_keep (R.tup q hq) fun b u e => Heap.get?_push_of_some _ (k1 b u e))
  have pair : ∀ v ∈ vs, Srt.IsPair (s1.heap.push (seqObj "list" vs.toArray 0)) v (duo (TS.intsOf (s1.heap.push (seqObj "list" vs.toArray 0)) v)).1 (duo (TS.intsOf (s1.heap.push (seqObj "list" vs.toArray 0)) v)).2 := by
    intro v hv
    obtain ⟨q, hq, e⟩ := List.mem_map.mp (pm.mem_iff.mp hv)
    subst e
    rw [(tup q hq).ints]
    obtain ⟨b, xs, e1, ⟨u, hu, hc, m, hd2⟩, ii⟩ := tup q hq
    have l2 := two q hq
    match hq2 : q.2, l2 with
    | [x, y], _ =>
      rw [hq2] at ii
      obtain ⟨xl⟩ := xs
      cases ii with
      | cons t1 k1' r1 => cases r1 with
        | cons t2 k2' r2 => cases r2 with
          | nil => exact ⟨b, u, _, _, m, e1, hu, hc, hd2⟩
  refine wpAny_bind (wpAny_holding (wpAny_call_entry slot_list_sort ⟨_, laid, rfl⟩ entry_list_sort (SrtO.list_sort_ord (s := { s1 with heap := s1.heap.push (seqObj "list" vs.toArray 0) }) (SrtO.swo_lex fun v => duo (TS.intsOf (s1.heap.push (seqObj "list" vs.toArray 0)) v)) laid room (fun h2 => ?sorts) fun out hs hb => ⟨_, rfl, ?done⟩) (args_list_sort _)))
  case sorts =>
    refine SrtO.pairs_sortableO (by omega) pair ?_
    intro u hu c
    rw [laid] at hu
    have := Option.some.inj hu
    subst this
    exact absurd (Value.type.inj c) (by decide)
  case done =>
    obtain ⟨c, hc⟩ := sortedHeap_at (vs := vs) (out := out.toArray) laid
    obtain ⟨L', pL, eL⟩ := perm_back (hb.perm.trans pm) L rfl
    refine wpAny_pure ⟨_, rfl, fin _ s1.heap.objs.size out c L' ?_ g1 o1 z1 hc eL pL ?_⟩
    · intro b u e
      have q := k1 b u e
      have lt := Heap.lt_size q
      show (sortedHeap (s1.heap.push (seqObj "list" vs.toArray 0)) s1.heap.objs.size vs out.toArray).get? b = some u
      rw [sortedHeap_old (Nat.ne_of_lt lt) (by rw [size_push']; exact Nat.lt_succ_of_lt lt)]
      exact Heap.get?_push_of_some _ q
    · have hs2 := hs
      rw [eL] at hs2
      refine List.Pairwise.imp_of_mem (fun {q r} hq hr z => ?_) (List.pairwise_map.mp hs2)
      have z2 : SrtO.lexB (duo (TS.intsOf (s1.heap.push (seqObj "list" vs.toArray 0)) (.ref r.1))) (duo (TS.intsOf (s1.heap.push (seqObj "list" vs.toArray 0)) (.ref q.1))) = false := z
      rw [(tup q (pL.mem_iff.mp hq)).ints, (tup r (pL.mem_iff.mp hr)).ints] at z2
      exact z2
end
section
variable {X : Cx}
/-- sorted of a set of pairs of ints -/
def rSortedDuo (K : PySem.W.Frag) (P : Program) (w : World) : List V → Hp → VK → Prop := fun vs H Q => ∃ (a : Addr) (L : List (Addr × List Int)), vs = [V.ref a] ∧ H a = some (SetTO P w a L) ∧ (∀ p ∈ L, SqT K H p.1 (p.2.map V.int)) ∧ (∀ p ∈ L, p.2.length = 2) ∧
  ∀ (L' : List (Addr × List Int)) (p : Addr), L'.Perm L → (L'.map (·.2)).Nodup → L'.length < 64 → L'.Pairwise (fun q r => SrtO.lexB (duo r.2) (duo q.2) = false) → H p = none → Q (.ref p) (upd H p (.lst (L'.map fun q => V.ref q.1)))
theorem cr_sortedDuo (hc : X.calm = true) : CallR X (.builtin "sorted") (rSortedDuo X.K X.prog X.w) := by
  intro pins s σ H vs us Q I r h
  obtain ⟨a, L, rfl, ha, hk, two, q⟩ := h
  obtain ⟨u, rfl, ru⟩ := vals1 r
  cases ru
  have R0 : SetT0 X.prog X.w s.heap a L := (I.hok a _ ha).1
  obtain ⟨es, ep, t, R⟩ := R0.full fun p hp => I.isT (hk p hp)
  apply sorted_set_duos R (I.ok.hd hc) two
  intro s' p out c L' k g o hp hg eo pm pw
  have short : L'.length < 64 := by
    rw [pm.length_eq]
    exact R.few
  have room : (L'.map fun q => V.ref q.1).length ≤ sizeLine := by
    rw [List.length_map, sizeLine_eq]
    omega
  have free : H p = none := I.hok.fresh hp
  subst eo
  have vals : Vals (L'.map fun q => V.ref q.1) (L'.map fun q => Value.ref q.1) := vals_of_refs L'
  obtain ⟨h', g', d', t', o'⟩ := s'
  have e1 : g' = s.gens := g
  have e2 : o' = s.os := o
  subst e1 e2
  have J : Inv X pins σ (upd H p (.lst (L'.map fun q => V.ref q.1))) ⟨h', s.gens, d', t', s.os⟩ :=
    I.call (ch := []) (Un.laid k hp free) (I.hok.laid k hp ⟨room, _, c, vals, hg⟩) I.bare (fun _ z => nomatch z)
  exact ⟨.ref p, _, J, rfl, q L' p pm ((pm.map (·.2)).nodup_iff.mpr R.nd) short pw free⟩
end
end OF
namespace OF
open PySem PySem.Spec PyProof.Rows L2
section
variable {X : Cx}
/-- x not in a tuple of data -/
def rNotInT (K : PySem.W.Frag) : R2 := fun x y H Q => ∃ d ds, Dp K H x d ∧ Dp K H y (.tuple ds) ∧ SeqAt.shaped d = true ∧ SeqAt.shaped (.tuple ds) = true ∧ Q (.bl (!ds.any fun z => PyData.eqv z d)) H
theorem op_notInT (hu : X.A.units + 65 < cLine) : OpR X (compareOp .NotIn) (rNotInT X.K) := by
  intro pins s σ H x y v u Q I rx ry h
  obtain ⟨d, ds, hd, he, sd, se, q⟩ := h
  obtain ⟨as, r1⟩ := Dp.reads I d x v hd rx
  obtain ⟨bs, r2⟩ := Dp.reads I (.tuple ds) y u he ry
  exact SeqAt.notIn_tuple_reads r2 r1 (SeqAt.canLay_of_shaped se) (SeqAt.canLay_of_shaped sd) (room_in_shaped sd hu) ⟨.bl _, H, I, rfl, q⟩
end
end OF
/-! x in o and o == p of instances of an own class with __contains__, __eq__ of its own. -/
namespace OF
open PySem PySem.Spec PyProof.Rows L2
section
variable {M : Model} {A : Around} {E : Value → Shared → Prop} {s : Shared} {K : PySem.W.Frag} {x C f : Addr} {ox : Obj} {od : Option Obj} {v : Value}
theorem contains_own {Q : Bool → Shared → Prop} (X : K.In s.heap) (I : PySem.W.InstAt s.heap x ox C od) (hs : PySem.W.findIn K (.ref C) "__contains__" = some (some (.ref f))) (hf : PySem.W.isFn K (.ref f) = true)
    (h : wpAny M A (call (.ref f) [.ref x, v]) (fun r s' => ∃ b, r = .bool b ∧ Q b s') E s) : wpAny M A (contains (.ref x) v) Q E s := by
  unfold contains
  refine wpAny_holding ?_
  rw [show stdlibNamesSay? (.ref x) v = none from by unfold stdlibNamesSay?; split <;> simp_all]
  refine wpAny_bind (m := specialOf (.ref x) (Str.ofString "__contains__")) (wpAny_bind (I.type.here ((PySem.W.looks_findIn X hs).here ?_)))
  show wpAny M A (if (some (Value.ref f) == some Value.none) = true then _ else _) Q E s
  rw [if_neg (by simp)]
  refine wpAny_bind (m := callSpecialUnlessNone? (.ref x) (Str.ofString "__contains__") [v] _) ?_
  unfold callSpecialUnlessNone?
  refine wpAny_bind (m := specialOf (.ref x) (Str.ofString "__contains__")) (wpAny_bind (I.type.here ((PySem.W.looks_findIn X hs).here ?_)))
  refine wpAny_holding (wpAny_bind ((PySem.W.bind_fn X _ (beq_iff_eq.mp hf)).here ?_))
  show wpAny M A (if (Value.ref f == Value.none) = true then _ else _) _ E s
  rw [if_neg (by simp)]
  refine wpAny_bind (wpAny_mono h (fun r s' hr => ?_) fun _ _ e => e)
  obtain ⟨b, rfl, q⟩ := hr
  exact wpAny_pure (wpAny_pure q)
end
section
variable {X : Cx} {CX : CXT} {n : Nat} {f C : Addr} {fd : FuncData} {ps : List Str} {sp : Sp} {E : XK}
/-- x in o, o an instance of the class at C with its own __contains__ -/
def rInOwn (C : Addr) (sp : Sp) (E : XK) (neg : Bool) : R2 := fun x y H Q => ∃ a dx fs, y = .ref a ∧ H a = some (.ins C dx fs) ∧ sp [y, x] H (fun z H' => ∃ b : Bool, z = .bl b ∧ Q (.bl (if neg then !b else b)) H') E
theorem op_inOwn (hs : PySem.W.findIn X.K (.ref C) "__contains__" = some (some (.ref f))) (hf : PySem.W.isFn X.K (.ref f) = true) (F : FnOk X.prog X.w X.K X.mg X.base CX n f fd ps sp) (hb : Binds X.K fd ps []) (hr : Room n X.A) (hx : Passes CX X E) :
    OpR X (compareOp .In) (rInOwn C sp E false) := by
  intro pins s σ H x y v u Q I rx ry h
  obtain ⟨a, dx, fs, rfl, ha, q⟩ := h
  cases (show u = Value.ref a from ry)
  obtain ⟨mA, J, _⟩ := ins_get I.hok ha
  obtain ⟨od, J, _⟩ := J.look
  show wpAny _ _ (do return Value.bool (← contains (.ref a) v)) _ _ _
  refine wpAny_bind (contains_own I.kIn J hs hf (wpAny_mono (run_fn (us := [.ref a, v]) (vs := [.ref a, x]) F hr hb .nil hx I (.cons rfl (.cons rx .nil)) q) (fun r s' z => ?_) fun _ _ e => e))
  obtain ⟨z', H', I', rz, b, rfl, q'⟩ := z
  cases rz
  exact ⟨b, rfl, wpAny_pure ⟨.bl b, H', I', rfl, q'⟩⟩
theorem op_notInOwn (hs : PySem.W.findIn X.K (.ref C) "__contains__" = some (some (.ref f))) (hf : PySem.W.isFn X.K (.ref f) = true) (F : FnOk X.prog X.w X.K X.mg X.base CX n f fd ps sp) (hb : Binds X.K fd ps []) (hr : Room n X.A) (hx : Passes CX X E) :
    OpR X (compareOp .NotIn) (rInOwn C sp E true) := by
  intro pins s σ H x y v u Q I rx ry h
  obtain ⟨a, dx, fs, rfl, ha, q⟩ := h
  cases (show u = Value.ref a from ry)
  obtain ⟨mA, J, _⟩ := ins_get I.hok ha
  obtain ⟨od, J, _⟩ := J.look
  show wpAny _ _ (do return Value.bool (!(← contains (.ref a) v))) _ _ _
  refine wpAny_bind (contains_own I.kIn J hs hf (wpAny_mono (run_fn (us := [.ref a, v]) (vs := [.ref a, x]) F hr hb .nil hx I (.cons rfl (.cons rx .nil)) q) (fun r s' z => ?_) fun _ _ e => e))
  obtain ⟨z', H', I', rz, b, rfl, q'⟩ := z
  cases rz
  exact ⟨b, rfl, wpAny_pure ⟨.bl (!b), H', I', rfl, q'⟩⟩
/-- o == p, two instances of the class at C with its own __eq__ -/
def rEqOwn (C : Addr) (sp : Sp) (E : XK) : R2 := fun x y H Q => ∃ a dx fs b dy gs, x = .ref a ∧ y = .ref b ∧ H a = some (.ins C dx fs) ∧ H b = some (.ins C dy gs) ∧ sp [x, y] H (fun z H' => ∃ b : Bool, z = .bl b ∧ Q z H') E
theorem op_eqOwn (hs : PySem.W.findIn X.K (.ref C) "__eq__" = some (some (.ref f))) (hf : PySem.W.isFn X.K (.ref f) = true) (F : FnOk X.prog X.w X.K X.mg X.base CX n f fd ps sp) (hb : Binds X.K fd ps []) (hr : Room n X.A) (hx : Passes CX X E) :
    OpR X (compareOp .Eq) (rEqOwn C sp E) := by
  intro pins s σ H x y v u Q I rx ry h
  obtain ⟨a, dx, fs, b, dy, gs, rfl, rfl, ha, hb', q⟩ := h
  cases (show v = Value.ref a from rx)
  cases (show u = Value.ref b from ry)
  obtain ⟨mA, J, _⟩ := ins_get I.hok ha
  obtain ⟨od, J, _⟩ := J.look
  obtain ⟨mB, J', _⟩ := ins_get I.hok hb'
  obtain ⟨od', J', _⟩ := J'.look
  obtain ⟨m, hF⟩ := I.fr
  refine PySem.W.cmp_K (op := .Eq) (tb := .ref C) hr.units0 hF I.ok.mod.kin J J'.type (by simp [PySem.W.notFirst]) hs hf ?_
  refine wpAny_mono (run_fn (us := [.ref a, .ref b]) (vs := [.ref a, .ref b]) F hr hb .nil hx I (.cons rfl (.cons rfl .nil)) q) (fun w s' z => ?_) fun _ _ e => e
  obtain ⟨z', H', I', rz, c, rfl, q'⟩ := z
  cases rz
  exact ⟨.bl c, H', I', rfl, q'⟩
end
end OF
/-! tuples: t + u, t[lo:hi], t[::-1] where the answer may be an operand itself; zip of tuples walked. -/
namespace OF
open PySem PySem.Spec PyProof.Rows L2
section
variable {X : Cx}
/-- t + u -/
def rCat2 : R2 := fun x y H Q => ∃ a b xs ys, x = .ref a ∧ y = .ref b ∧ H a = some (.tup xs) ∧ H b = some (.tup ys) ∧ xs.length + ys.length ≤ sizeLine ∧ ∀ p H', Same H H' → H' p = some (.tup (xs ++ ys)) → Q (.ref p) H'
theorem op_cat2 : OpR X (binaryOp .Add) rCat2 := by
  intro pins s σ H x y v u Q I rx ry h
  obtain ⟨a, b, xs, ys, rfl, rfl, ha, hb, hz, q⟩ := h
  refine op_catA pins s σ H _ _ v u Q I rx ry ⟨a, b, xs, ys, rfl, rfl, SqT.of ha, SqT.of hb, hz, fun e => ?_, fun _ e => ?_, fun _ _ p hp => q p _ (same_new hp) upd_same⟩
  · subst e
    exact q b H (Same.refl H) hb
  · subst e
    exact q a H (Same.refl H) (by rw [List.append_nil]; exact ha)
theorem cutV_whole (xs : List V) (lo hi : Option Int) (h : HT.sIx xs.length 0 lo = 0 ∧ HT.sIx xs.length xs.length hi = xs.length) : cutV xs lo hi = xs := by
  unfold cutV
  rw [h.1, h.2, List.drop_zero, Nat.sub_zero, List.take_length]
/-- t[lo:hi] -/
def rSl2 : V → Option Int → Option Int → Hp → VK → Prop := fun x lo hi H Q => ∃ a xs, x = .ref a ∧ H a = some (.tup xs) ∧ ∀ p H', Same H H' → H' p = some (.tup (cutV xs lo hi)) → Q (.ref p) H'
theorem sl_tup2 : SlR X rSl2 := by
  intro pins s σ H x v vl vu lo hi sl Q I rx hs pl pu h
  obtain ⟨a, xs, rfl, hx, q⟩ := h
  refine sl_tupA pins s σ H _ v vl vu lo hi sl Q I rx hs pl pu ⟨a, xs, rfl, SqT.of hx, fun e => q a H (Same.refl H) (by rw [cutV_whole xs lo hi e]; exact hx), fun _ p hp => q p _ (same_new hp) upd_same⟩
end
/-! ### t[::-1] -/
section
variable {prog : Program} {w : World} {A : Around} {E : Value → Shared → Prop} {s : Shared}
theorem sliceApplied_rev {sl : Addr} {vs : Value} {n : Nat} {Q : Int × Int × Nat → Shared → Prop} (hs : s.heap.IsSliceOf sl .none .none vs) (ps : PySem.IsPart vs (some (-1)))
    (h : Q ((n : Int) - 1, -1, n) s) : wpAny (model prog w) A (Builtin.Slice.sliceApplied (.ref sl) (pure (n : Int))) Q E s := by
  obtain ⟨os, hos, hcs, hds⟩ := id hs
  unfold Builtin.Slice.sliceApplied Builtin.Slice.sliceFields
  refine wpAny_bind (wpAny_bind (wpAny_field hos hds (x := .none) rfl (wpAny_bind (wpAny_field hos hds (x := .none) rfl (wpAny_bind (wpAny_field hos hds (x := vs) rfl (wpAny_pure ?_)))))))
  refine wpAny_bind (HT.slicePart_ ps ?_)
  show wpAny _ _ (if ((-1 : Int) == 0) = true then _ else _) _ _ s
  rw [if_neg (by decide)]
  refine wpAny_bind (slicePart_none (wpAny_bind (slicePart_none (wpAny_bind (wpAny_pure ?_)))))
  show wpAny _ _ (pure ((n : Int) - 1, (-1 : Int), Builtin.Slice.slicePlaces ((n : Int) - 1) (-1) (-1))) _ _ s
  have e : Builtin.Slice.slicePlaces ((n : Int) - 1) (-1) (-1) = n := by
    unfold Builtin.Slice.slicePlaces
    have h1 : ¬ ((-1 : Int) > 0) := by decide
    simp only [h1, if_false]
    split
    · rw [show (- -1 : Int) = 1 by decide, Int.ediv_one]
      omega
    · omega
  rw [e]
  exact wpAny_pure h
theorem fm_congr {α β : Type} {f g : α → Option β} : ∀ {l : List α}, (∀ x ∈ l, f x = g x) → l.filterMap f = l.filterMap g
  | [], _ => rfl
  | x :: l, h => by
    rw [List.filterMap_cons, List.filterMap_cons, h x List.mem_cons_self, fm_congr fun y hy => h y (List.mem_cons_of_mem _ hy)]
theorem pick_rev (xs : Array Value) : ((List.range xs.size).filterMap fun (k : Nat) => xs[(((xs.size : Int) - 1) + (k : Int) * (-1)).toNat]?).toArray = xs.toList.reverse.toArray := by
  have e : (List.range xs.size).filterMap (fun (k : Nat) => xs[(((xs.size : Int) - 1) + (k : Int) * (-1)).toNat]?) = ((List.range xs.size).map fun k => xs.size - 1 - k).filterMap (xs[·]?) := by
    rw [List.filterMap_map]
    refine fm_congr fun k hk => ?_
    have := List.mem_range.mp hk
    have e2 : (((xs.size : Int) - 1) + (k : Int) * (-1)).toNat = xs.size - 1 - k := by omega
    show _ = xs[xs.size - 1 - k]?
    rw [e2]
  rw [e, PySem.W.krv_range, List.filterMap_reverse, PySem.W.krv_all]
theorem getItem_tuple_rev {t sl : Addr} {items : Array Value} {vs : Value} {Q : Value → Shared → Prop} (ht : IsTup s.heap t items) (hs : s.heap.IsSliceOf sl .none .none vs) (ps : PySem.IsPart vs (some (-1)))
    (h : Q (.ref s.heap.objs.size) { s with heap := s.heap.push { cls := .type "tuple", data := .seq items.toList.reverse.toArray } })
    (hsz : items.size ≤ sizeLine) : wpAny (model prog w) A (getItem (.ref t) (.ref sl)) Q E s := by
  have htake : sizeOk (.seq items.toList.reverse.toArray) := by
    show items.toList.reverse.toArray.size ≤ sizeLine
    rw [List.size_toArray, List.length_reverse, Array.length_toList]
    exact hsz
  obtain ⟨os, hos, hcs, hds⟩ := id hs
  have hTs : s.TypeIs (.ref sl) "slice" := ⟨os, hos, hcs⟩
  unfold getItem
  try with_reducible refine wpAny_holding ?_
  first | refine wpAny_bind (wpAny_pure ?_) | skip
  refine wpAny_bind (wpAny_sequenceKey ht.typeIs (by decide) ?_)
  refine wpAny_bind (wpAny_callSpecial?_slot (name := Str.ofString "__getitem__") ht.typeIs PyProof.Rows.slot_tuple_getitem
    (wpAny_call_entry PyProof.Rows.slot_tuple_getitem ht.typeIs entry_tuple_getitem ?_ (args_tuple_getitem _ _)))
  show wpAny _ _ (Builtin.Tuple.tupleItemsOf (.ref t) >>= _) _ _ s
  refine wpAny_bind (tupleItemsOf_ ht ?_)
  refine wpAny_bind (wpAny_typeOf hTs ?_)
  rw [if_pos (by decide)]
  refine wpAny_bind (sliceApplied_rev hs ps ?_)
  have hno : ¬ ((((items.size : Int) - 1) == 0 && (-1 : Int) == 1 && items.size == items.size) = true) := by
    intro q
    rw [Bool.and_eq_true, Bool.and_eq_true] at q
    exact absurd q.1.2 (by decide)
  show wpAny _ _ (if (((items.size : Int) - 1) == 0 && (-1 : Int) == 1 && items.size == items.size) = true then _ else _) _ _ s
  rw [if_neg hno, pick_rev]
  first
    | exact wpAny_bind (m := Builtin.Tuple.tupleExact _) (wpAny_newObj_type (wpAny_pure ⟨_, rfl, wpAny_pure h⟩) htake)
    | exact wpAny_bind (m := Builtin.Tuple.tupleExact _) (wpAny_newObj_type (wpAny_bind (wpAny_pure (wpAny_pure ⟨_, rfl, wpAny_pure h⟩))) htake)
    | exact wpAny_bind (wpAny_bind (m := Builtin.Tuple.tupleExact _) (wpAny_newObj_type (wpAny_pure (wpAny_pure ⟨_, rfl, wpAny_pure h⟩)) htake))
    | exact wpAny_bind (wpAny_bind (m := Builtin.Tuple.tupleExact _) (wpAny_newObj_type (wpAny_pure ⟨_, rfl, wpAny_pure h⟩) htake))
end
section
variable {X : Cx}
def tRevT (K : PySem.W.Frag) (te : TE) : TE := fun σ H Q => te σ H fun x H1 => ∃ a xs, x = .ref a ∧ SqT K H1 a xs ∧ ∀ p, H1 p = none → Q (.ref p) (upd H1 p (.tup xs.reverse))
theorem pe_revT {e : Expr} {te : TE} {k : Nat} {p1 p2 p3 pos : Pos} (he : PE X e te) : PE X (.Subscript e (.Slice none none (some (.UnaryOp .USub (.Constant (.int 1) k p1) p2)) p3) pos) (tRevT X.K te) := by
  refine ⟨fun pins s σ H Q I h => ?_⟩
  refine Subscript_ (thn (he.run pins s σ H _ I h) fun v s1 ⟨x, H1, I1, r1, q1⟩ => ?_)
  obtain ⟨a, xs, ex, hx, q⟩ := q1
  subst ex
  cases r1
  have hst : PO X (some (.UnaryOp .USub (.Constant (.int 1) k p1) p2)) (tPart (tUn (rU fun i => .int (-i)) (tC (.int 1)))) := po_some (pe_un un_neg pe_int)
  refine wpAny_Slice (thn (po_none.run pins s1 σ H1 (fun o H2 => o = none ∧ H2 = H1) I1 ⟨rfl, rfl⟩) fun vl s2 ⟨l, H2, I2, pl, el, e2⟩ => ?_)
  subst el e2
  refine thn (po_none.run pins s2 σ H2 (fun o H3 => o = none ∧ H3 = H2) I2 ⟨rfl, rfl⟩) fun vu s3 ⟨u, H3, I3, pu, eu, e3⟩ => ?_
  subst eu e3
  cases pl
  cases pu
  refine thn (hst.run pins s3 σ H3 (fun o H4 => o = some (-1) ∧ H4 = H3) I3 ⟨1, rfl, -1, rfl, rfl, rfl⟩) fun vs s4 ⟨o, H4, I4, ps, eo, e4⟩ => ?_
  subst eo e4
  have I5 : Inv X pins σ H4 { s4 with heap := s4.heap.push { cls := .type "slice", data := .fields #[.none, .none, vs] } } := I4.kept (t' := s4.toks) fun b ob q => Heap.get?_push_of_some _ q
  obtain ⟨its, r, ht, hz⟩ := I5.tuple hx
  have hlen := r.length
  show wpAny (model X.prog X.w) X.A (subscriptTail e (.Slice none none (some (.UnaryOp .USub (.Constant (.int 1) k p1) p2)) p3) (.ref a) (.ref s4.heap.objs.size)) (EP X pins σ Q) X.xe { s4 with heap := s4.heap.push { cls := .type "slice", data := .fields #[.none, .none, vs] } }
  refine tail_any (ops := [.ref a, .ref s4.heap.objs.size]) ht.typeIs (PyProof.Rows.slot_tuple_getitem.lookup) ?_ (by with_unfolding_all rfl)
  refine getItem_tuple_rev ht (Heap.IsSliceOf.new _ .none .none vs) ps ?_ (by rw [List.size_toArray]; omega)
  refine ⟨.ref _, _, I5.laid (t' := s4.toks) (o := .tup xs.reverse) (fun b ob q => Heap.get?_push_of_some _ q) (Nat.le_refl _) ?_, rfl, q _ (I5.hok.fresh (Nat.le_refl _))⟩
  exact ⟨by rw [List.length_reverse]; exact hz, _, r.reverse, _, Heap.get?_push_size _ rfl, rfl, _, rfl⟩
end
/-- zip of two tuples of one length -/
theorem walk_zipT {K : PySem.W.Frag} {a b : Addr} {xs ys : List V} {n : Nat} (h1 : xs.length = n) (h2 : n ≤ ys.length) : Walk (RZ.ItzT K a b) n (fun H => SqT K H a xs ∧ SqT K H b ys) (YPair (fun i => xs[i]?) (fun i => ys[i]?)) :=
  ⟨fun i _ hi q => ⟨xs, ys, xs[i]'(by omega), ys[i]'(by omega), q.1, q.2, List.getElem?_eq_getElem _, List.getElem?_eq_getElem _⟩, fun _ q => ⟨xs, ys, q.1, q.2, .inl (by omega)⟩, fun _ _ _ _ _ q ⟨T, x, y, e, hT, eH, hx, hy⟩ => ⟨T, x, y, e, hT, eH, hx xs q.1, hy ys q.2⟩⟩
end OF
namespace K66
open PySem PySem.Spec PyProof.Rows L2 OF
def topS (i : Nat) : Stmt := PySem.Challenge.pw_oddfigures_k66_values_of_endless_rows.main.body.getD i (.Pass ⟨0, 0, 0, 0⟩)
abbrev sWhole : Stmt := topS 15
abbrev sIsInt : Stmt := topS 16
abbrev sIsBase : Stmt := topS 17
abbrev sIsDigit : Stmt := topS 18
abbrev sAre : Stmt := topS 19
abbrev sRowText : Stmt := topS 20
abbrev sRead : Stmt := topS 21
abbrev sOneOf : Stmt := topS 23
abbrev sIsPair : Stmt := topS 24
abbrev sDigList : Stmt := topS 25
abbrev sDiffDig : Stmt := topS 26
abbrev sDiffPair : Stmt := topS 27
abbrev sInit : Stmt := inClass (topS 29) 0
abbrev sAllows : Stmt := inClass (topS 29) 9
section
variable {P : Program} {w : World} {K : PySem.W.Frag} {mg : Str → Option Value} {base : Heap}

/-- is_whole -/
def spWhole : Sp := fun vs H Q _ => ∃ x : V, vs = [x] ∧ ((∃ n : Int, x = .int n ∧ Q (.bl true) H) ∨ (Odd H x ∧ Q (.bl false) H))
theorem scWh : FnScope ["value"] ["value"] (defScope sWhole) := ⟨rfl, rfl, rfl, by decide +kernel, rfl, by decide +kernel, by decide +kernel⟩
theorem ok_whole {f : Addr} {fd : FuncData} (F : Fun K "is_whole" "is_whole" sWhole f fd) (ms : mg "isinstance" = none) (mi : mg "int" = none) (mb : mg "bool" = none) : FnOk P w K mg base CX0 1 f fd ["value"] spWhole := by
  refine F.ok scWh (fun vs H Q E h => ?_) (fun cdv A outer s H vs Q E hr h => ?_)
  · obtain ⟨x, rfl, _⟩ := h
    rfl
  · obtain ⟨x, rfl, h⟩ := h
    refine ⟨_, pss_one (ps_ret (pe_and (pe_callB call_isi (by rfl) ms PyProof.Rows.boot_isinstance (pa_cons (pv 0) (pa_cons (pe_bltn (v := .ty "int") (by rfl) mi PyProof.Rows.boot_int rfl) pa_nil)))
      (pe_one (pe_not (pe_callB call_isi (by rfl) ms PyProof.Rows.boot_isinstance (pa_cons (pv 0) (pa_cons (pe_bltn (v := .ty "bool") (by rfl) mb PyProof.Rows.boot_bool rfl) pa_nil))))))), ?_⟩
    rcases h with ⟨n, rfl, q⟩ | ⟨o, q⟩
    · refine ⟨.int n, rfl, .int n, .ty "int", .type "int", .type "int", true, rfl, .ty _, .base (.int n), kit_ty (by decide +kernel), true, rfl, iteT ?_⟩
      exact ⟨.int n, rfl, .int n, .ty "bool", .type "int", .type "bool", false, rfl, .ty _, .base (.int n), kit_ty (by decide +kernel), false, rfl, q⟩
    · obtain ⟨t, b, ty, k1, k2⟩ := o.kit (K := K)
      refine ⟨x, rfl, x, .ty "int", t, .type "int", b, rfl, .ty _, ty, k1, b, rfl, ?_⟩
      cases b with
      | false => exact iteF q
      | true => exact iteT ⟨x, rfl, x, .ty "bool", t, .type "bool", true, rfl, .ty _, ty, k2 rfl, true, rfl, q⟩
/-- is_integer -/
def spIsInt : Sp := fun vs H Q _ => ∃ (x : V) (lo hi : Int), vs = [x, .int lo, .int hi] ∧ ((∃ n : Int, x = .int n ∧ Q (.bl (decide (lo ≤ n) && decide (n ≤ hi))) H) ∨ (Odd H x ∧ Q (.bl false) H))
def spIsDigit : Sp := fun vs H Q _ => ∃ (x : V), vs = [x] ∧ ((∃ n : Int, x = .int n ∧ Q (.bl (decide (-9 ≤ n) && decide (n ≤ 9))) H) ∨ (Odd H x ∧ Q (.bl false) H))
theorem scI : FnScope ["value", "low", "high"] ["value", "low", "high"] (defScope sIsInt) := ⟨rfl, rfl, rfl, by decide +kernel, rfl, by decide +kernel, by decide +kernel⟩
theorem ok_isint {f fW : Addr} {fd fdW : FuncData} (F : Fun K "is_integer" "is_integer" sIsInt f fd) (GW : FnOk P w K mg base CX0 1 fW fdW ["value"] spWhole) (gW : mg "is_whole" = some (.ref fW)) (kW : PySem.W.keepIn K (.ref fW) = true) (bW : Binds K fdW ["value"] []) : FnOk P w K mg base CX0 2 f fd ["value", "low", "high"] spIsInt := by
  refine F.ok scI (fun vs H Q E h => ?_) (fun cdv A outer s H vs Q E hr h => ?_)
  · obtain ⟨x, lo, hi, rfl, _⟩ := h
    rfl
  · obtain ⟨x, lo, hi, rfl, h⟩ := h
    refine ⟨_, pss_one (ps_ret (pe_and (pe_call GW hr (by rfl) gW kW bW .nil pass0 (pa_cons (pv 0) pa_nil)) (pe_one (pe_chain op_le op_le (pv 1) (pv 0) (pv 2))))), ?_⟩
    rcases h with ⟨n, rfl, q⟩ | ⟨o, q⟩
    · exact ⟨.int n, rfl, .int n, rfl, .inl ⟨n, rfl, true, rfl, iteT ⟨.int lo, rfl, .int n, rfl, lo, n, rfl, rfl, _, rfl, iteAnd (fun z => ⟨.int hi, rfl, n, hi, rfl, rfl, z⟩) q⟩⟩⟩
    · exact ⟨x, rfl, x, rfl, .inr ⟨o, false, rfl, iteF q⟩⟩
def isBase (n : Int) : Bool := (decide (2 ≤ n) && decide (n ≤ 6)) || (decide (-6 ≤ n) && decide (n ≤ -2))
def spIsBase : Sp := fun vs H Q _ => ∃ (x : V), vs = [x] ∧ ((∃ n : Int, x = .int n ∧ Q (.bl (isBase n)) H) ∨ (Odd H x ∧ Q (.bl false) H))
theorem scIB : FnScope ["value"] ["value"] (defScope sIsBase) := ⟨rfl, rfl, rfl, by decide +kernel, rfl, by decide +kernel, by decide +kernel⟩
theorem ok_isbase {f fI : Addr} {fd fdI : FuncData} {t : Tok} (F : Fun K "is_base" "is_base" sIsBase f fd) (GI : FnOk P w K mg base CX0 2 fI fdI ["value", "low", "high"] spIsInt) (gI : mg "is_integer" = some (.ref fI)) (kI : PySem.W.keepIn K (.ref fI) = true) (bI : Binds K fdI ["value", "low", "high"] [])
    (gG : mg "GREATEST_BASE" = some (.int 6 t)) : FnOk P w K mg base CX0 3 f fd ["value"] spIsBase := by
  refine F.ok scIB (fun vs H Q E h => ?_) (fun cdv A outer s H vs Q E hr h => ?_)
  · obtain ⟨x, rfl, _⟩ := h
    rfl
  · obtain ⟨x, rfl, h⟩ := h
    refine ⟨_, pss_one (ps_ret (pe_or (pe_call GI hr (by rfl) gI kI bI .nil pass0 (pa_cons (pv 0) (pa_cons pe_int (pa_cons (pe_glob (v := .int 6) rfl gG ⟨_, rfl⟩) pa_nil))))
      (pe_one (pe_call GI hr (by rfl) gI kI bI .nil pass0 (pa_cons (pv 0) (pa_cons (pe_un un_neg (pe_glob (v := .int 6) rfl gG ⟨_, rfl⟩)) (pa_cons (pe_un un_neg pe_int) pa_nil))))))), ?_⟩
    rcases h with ⟨n, rfl, q⟩ | ⟨o, q⟩
    · exact ⟨.int n, rfl, _, 2, 6, rfl, .inl ⟨n, rfl, _, rfl, iteOr (fun z => ⟨.int n, rfl, 6, rfl, 2, rfl, _, -6, -2, rfl, .inl ⟨n, rfl, z⟩⟩) q⟩⟩
    · exact ⟨x, rfl, _, 2, 6, rfl, .inr ⟨o, _, rfl, iteF ⟨x, rfl, 6, rfl, 2, rfl, _, -6, -2, rfl, .inr ⟨o, q⟩⟩⟩⟩
theorem scID : FnScope ["value"] ["value"] (defScope sIsDigit) := ⟨rfl, rfl, rfl, by decide +kernel, rfl, by decide +kernel, by decide +kernel⟩
theorem ok_isdigit {f fI : Addr} {fd fdI : FuncData} {t : Tok} (F : Fun K "is_digit" "is_digit" sIsDigit f fd) (GI : FnOk P w K mg base CX0 2 fI fdI ["value", "low", "high"] spIsInt) (gI : mg "is_integer" = some (.ref fI)) (kI : PySem.W.keepIn K (.ref fI) = true) (bI : Binds K fdI ["value", "low", "high"] [])
    (gG : mg "GREATEST_DIGIT" = some (.int 9 t)) : FnOk P w K mg base CX0 3 f fd ["value"] spIsDigit := by
  refine F.ok scID (fun vs H Q E h => ?_) (fun cdv A outer s H vs Q E hr h => ?_)
  · obtain ⟨x, rfl, _⟩ := h
    rfl
  · obtain ⟨x, rfl, h⟩ := h
    refine ⟨_, pss_one (ps_ret (pe_call GI hr (by rfl) gI kI bI .nil pass0 (pa_cons (pv 0) (pa_cons (pe_un un_neg (pe_glob (v := .int 9) rfl gG ⟨_, rfl⟩)) (pa_cons (pe_glob (v := .int 9) rfl gG ⟨_, rfl⟩) pa_nil))))), ?_⟩
    rcases h with ⟨n, rfl, q⟩ | ⟨o, q⟩
    · exact ⟨.int n, rfl, 9, rfl, _, -9, 9, rfl, .inl ⟨n, rfl, q⟩⟩
    · exact ⟨x, rfl, 9, rfl, _, -9, 9, rfl, .inr ⟨o, q⟩⟩
/-- a digit -/
def dig (n : Int) : Bool := decide (-9 ≤ n) && decide (n ≤ 9)
theorem same_seqT {K : PySem.W.Frag} {H H' : Hp} {a : Addr} {xs : List V} (s : Same H H') (h : SqT K H a xs) : SqT K H' a xs := by
  rcases h with (h | ⟨o, h⟩) | h
  · exact .inl (.inl (s _ _ h))
  · exact .inl (.inr ⟨o, s _ _ h⟩)
  · exact .inr h

/-! ### values of any kind -/
def ItemOk (H : Hp) (x : V) : Prop := (∃ n : Int, x = .int n) ∨ Odd H x
theorem ItemOk.same {H H' : Hp} {x : V} (h : ItemOk H x) (s : Same H H') : ItemOk H' x := h.imp id fun o => o.same s
def digV : V → Bool
  | .int n => dig n
  | _ => false
theorem digV_odd {H : Hp} {x : V} (o : Odd H x) : digV x = false := by cases o <;> rfl
/-- no list, no tuple -/
inductive NoSeq (H : Hp) : V → Prop
  | int (n : Int) : NoSeq H (.int n)
  | non : NoSeq H .non
  | bl (b : Bool) : NoSeq H (.bl b)
  | str (z : Str) : NoSeq H (.str z)
  | dK {a : Addr} {kvs : List (Key × V)} (e : H a = some (.dK kvs)) : NoSeq H (.ref a)
theorem NoSeq.same {H H' : Hp} {x : V} (h : NoSeq H x) (s : Same H H') : NoSeq H' x := by
  cases h with
  | int n => exact .int n
  | non => exact .non
  | bl b => exact .bl b
  | str z => exact .str z
  | dK e => exact .dK (s _ _ e)
theorem NoSeq.kit {K : PySem.W.Frag} {H : Hp} {x : V} (h : NoSeq H x) : ∃ t, TyX K H x t ∧ PySem.W.kitAny K t [.type "list", .type "tuple"] = some false := by
  have go : ∀ a : String, kitB a "list" = some false → kitB a "tuple" = some false → PySem.W.kitAny K (.type a) [.type "list", .type "tuple"] = some false := fun a h1 h2 =>
    kitAny_cons (b := false) (kit_ty h1) (fun _ => kitAny_cons (b := false) (kit_ty h2) (fun _ => kitAny_nil) fun z => nomatch z) fun z => nomatch z
  cases h with
  | int n => exact ⟨_, .base (.int n), go "int" (by decide +kernel) (by decide +kernel)⟩
  | non => exact ⟨_, .base .non, go "NoneType" (by decide +kernel) (by decide +kernel)⟩
  | bl b => exact ⟨_, .base (.bl b), go "bool" (by decide +kernel) (by decide +kernel)⟩
  | str z => exact ⟨_, .base (.str z), go "str" (by decide +kernel) (by decide +kernel)⟩
  | dK e => exact ⟨_, .base (.dK e), go "dict" (by decide +kernel) (by decide +kernel)⟩
/-- a list or tuple, a tuple that the text has written too -/
inductive IsSeq (K : PySem.W.Frag) (H : Hp) (p : Addr) (xs : List V) : Prop
  | lst (e : H p = some (.lst xs)) : IsSeq K H p xs
  | tup (e : H p = some (.tup xs)) : IsSeq K H p xs
  | kt {o : Obj} (e : K.lookup p = some o) (c : o.cls = .type "tuple") (h : SqT K H p xs) : IsSeq K H p xs
theorem IsSeq.same {K : PySem.W.Frag} {H H' : Hp} {p : Addr} {xs : List V} (h : IsSeq K H p xs) (s : Same H H') : IsSeq K H' p xs := by
  cases h with
  | lst e => exact .lst (s _ _ e)
  | tup e => exact .tup (s _ _ e)
  | kt e c h => exact .kt e c (same_seqT s h)
theorem IsSeq.sq {K : PySem.W.Frag} {H : Hp} {p : Addr} {xs : List V} (h : IsSeq K H p xs) : SqL K H p xs ∨ SqT K H p xs := by
  cases h with
  | lst e => exact .inl (SqL.of e)
  | tup e => exact .inr (SqT.of e)
  | kt e c h => exact .inr h
theorem IsSeq.lt {K : PySem.W.Frag} {H : Hp} {p : Addr} {xs : List V} (h : IsSeq K H p xs) : ∃ t, TyX K H (.ref p) t ∧ PySem.W.kitAny K t [.type "list", .type "tuple"] = some true := by
  have tu : PySem.W.kitAny K (.type "tuple") [.type "list", .type "tuple"] = some true := kitAny_cons (b := false) (kit_ty (by decide +kernel)) (fun _ => kitAny_cons (b := true) (kit_ty (by decide +kernel)) (fun z => nomatch z) fun _ => rfl) fun z => nomatch z
  cases h with
  | lst e => exact ⟨_, .base (.lst e), kitAny_cons (b := true) (kit_ty (by decide +kernel)) (fun z => nomatch z) fun _ => rfl⟩
  | tup e => exact ⟨_, .base (.tup e), tu⟩
  | kt e c h => exact ⟨_, .kTuple e c, tu⟩
/-- are_digits of a list or tuple of any items -/
def spAre (K : PySem.W.Frag) : Sp := fun vs H Q _ => ∃ (p : Addr) (xs : List V), vs = [.ref p] ∧ (SqL K H p xs ∨ SqT K H p xs) ∧ (∀ x ∈ xs, ItemOk H x) ∧ xs.length ≤ 1000 ∧ ∀ H', Same H H' → Q (.bl (xs.all digV)) H'
theorem scAr : FnScope ["items", "item"] ["items"] (defScope sAre) := ⟨rfl, rfl, rfl, by decide +kernel, rfl, by decide +kernel, by decide +kernel⟩
theorem ok_are {f fD : Addr} {fd fdD : FuncData} (F : Fun K "are_digits" "are_digits" sAre f fd) (GD : FnOk P w K mg base CX0 3 fD fdD ["value"] spIsDigit) (gD : mg "is_digit" = some (.ref fD)) (kD : PySem.W.keepIn K (.ref fD) = true) (bD : Binds K fdD ["value"] [])
    (mall : mg "all" = none) : FnOk P w K mg base CX0 4 f fd ["items"] (spAre K) := by
  refine F.ok scAr (fun vs H Q E h => ?_) (fun cdv A outer s H vs Q E hr h => ?_)
  · obtain ⟨p, xs, rfl, _⟩ := h
    rfl
  · obtain ⟨p, xs, rfl, hp, it, hl, q⟩ := h
    have turn : ∀ (i : Nat) (x : V) (H' : Hp) (D : Addr), H D = none → xs[i]? = some x → (Same H H' ∧ H' D = some (.lst ((xs.take i).map fun x => V.bl (digV x)))) →
        tCall spIsDigit [] E0 (tCons (tVar 1) tNil) [some (.ref p), some x] H' (fun v H2 => ∃ acc, H2 D = some (.lst acc) ∧ acc.length < sizeLine ∧ (Same H (upd H2 D (.lst (acc ++ [v]))) ∧ (upd H2 D (.lst (acc ++ [v]))) D = some (.lst ((xs.take (i + 1)).map fun x => V.bl (digV x))))) := by
      intro i x H' D hD hx ⟨s1, e1⟩
      have fin : ∃ acc, H' D = some (.lst acc) ∧ acc.length < sizeLine ∧ (Same H (upd H' D (.lst (acc ++ [.bl (digV x)]))) ∧ (upd H' D (.lst (acc ++ [.bl (digV x)]))) D = some (.lst ((xs.take (i + 1)).map fun x => V.bl (digV x)))) := by
        refine ⟨_, e1, ?_, Same.store s1 hD, ?_⟩
        · rw [List.length_map]
          exact Nat.lt_of_le_of_lt (List.length_take_le' _ _) (small1000 hl)
        · rw [upd_same, take_more hx, List.map_append]
          rfl
      rcases it x (List.mem_of_getElem? hx) with ⟨n, rfl⟩ | o
      · exact ⟨.int n, rfl, .int n, rfl, .inl ⟨n, rfl, fin⟩⟩
      · rw [digV_odd o] at fin
        exact ⟨x, rfl, x, rfl, .inr ⟨o.same s1, fin⟩⟩
    have done : ∀ (D : Addr) (H' : Hp), H' D = some (.lst ((xs.take xs.length).map fun x => V.bl (digV x))) → H' D = some (.lst ((xs.map digV).map V.bl)) ∧ (xs.map digV).all id = xs.all digV := by
      intro D H' e
      rw [List.take_length] at e
      refine ⟨by rw [e, List.map_map]; rfl, ?_⟩
      rw [List.all_map]
      rfl
    rcases hp with hp | hp
    · refine ⟨_, pss_one (ps_ret (pe_callB (cr_all rfl) (by rfl) mall (by decide +kernel) (pa_cons (pe_lc (own := [("item", 1)]) (g := gName 1) (tt := tYes) (te := tCall spIsDigit [] E0 (tCons (tVar 1) tNil)) rfl scAr.nd (pi_list (pv 0))
            (blkOk_by (own := [("item", 1)]) (N := ["items", "item"]) (sc := defScope sAre) (by decide +kernel)) (fun _ _ _ _ _ => pg_name (i := 1) scAr.nd rfl (Or.inl rfl)) (fun _ _ _ _ _ => pts_nil)
            (fun _ _ _ _ _ => by exact (pe_call GD hr (by rfl) gD kD bD .nil pass0 (pa_cons (pv 1) pa_nil)))) pa_nil))), ?_⟩
      refine ⟨.ref p, rfl, p, rfl, ⟨_, hp⟩, fun D hD => ?_⟩
      refine lc_list (K := K) (a := p) (xs := xs) (fun i H' => Same H H' ∧ H' D = some (.lst ((xs.take i).map fun x => V.bl (digV x)))) ⟨same_new hD, upd_same⟩ (fun i H' _ h => h.1.seq hp) ?_ ?_
      · rintro i x H' hx h
        exact ⟨rfl, tYes_if (turn i x H' D hD hx h)⟩
      · rintro H' ⟨s1, e1⟩
        obtain ⟨e2, e3⟩ := done D H' e1
        exact ⟨D, xs.map digV, rfl, SqL.of e2, by rw [e3]; exact q H' s1⟩
    · refine ⟨_, pss_one (ps_ret (pe_callB (cr_all rfl) (by rfl) mall (by decide +kernel) (pa_cons (pe_lc (own := [("item", 1)]) (g := gName 1) (tt := tYes) (te := tCall spIsDigit [] E0 (tCons (tVar 1) tNil)) rfl scAr.nd (pi_tup (pv 0))
            (blkOk_by (own := [("item", 1)]) (N := ["items", "item"]) (sc := defScope sAre) (by decide +kernel)) (fun _ _ _ _ _ => pg_name (i := 1) scAr.nd rfl (Or.inl rfl)) (fun _ _ _ _ _ => pts_nil)
            (fun _ _ _ _ _ => by exact (pe_call GD hr (by rfl) gD kD bD .nil pass0 (pa_cons (pv 1) pa_nil)))) pa_nil))), ?_⟩
      refine ⟨.ref p, rfl, p, rfl, ⟨_, hp⟩, fun D hD => ?_⟩
      refine lc_tup (K := K) (a := p) (xs := xs) (fun i H' => Same H H' ∧ H' D = some (.lst ((xs.take i).map fun x => V.bl (digV x)))) ⟨same_new hD, upd_same⟩ (fun i H' _ h => same_seqT h.1 hp) ?_ ?_
      · rintro i x H' hx h
        exact ⟨rfl, tYes_if (turn i x H' D hD hx h)⟩
      · rintro H' ⟨s1, e1⟩
        obtain ⟨e2, e3⟩ := done D H' e1
        exact ⟨D, xs.map digV, rfl, SqL.of e2, by rw [e3]; exact q H' s1⟩

/-- _is_digit_list of any value -/
def spDigList (K : PySem.W.Frag) : Sp := fun vs H Q _ => ∃ x : V, vs = [x] ∧ ((NoSeq H x ∧ ∀ H', Same H H' → Q (.bl false) H') ∨ ∃ (p : Addr) (xs : List V), x = .ref p ∧ IsSeq K H p xs ∧ (∀ y ∈ xs, ItemOk H y) ∧ xs.length ≤ 1000 ∧ ∀ H', Same H H' → Q (.bl (xs.all digV)) H')
theorem scDl : FnScope ["value"] ["value"] (defScope sDigList) := ⟨rfl, rfl, rfl, by decide +kernel, rfl, by decide +kernel, by decide +kernel⟩
theorem ok_diglist {f fA : Addr} {fd fdA : FuncData} (F : Fun K "_is_digit_list" "_is_digit_list" sDigList f fd) (GA : FnOk P w K mg base CX0 4 fA fdA ["items"] (spAre K)) (gA : mg "are_digits" = some (.ref fA)) (kA : PySem.W.keepIn K (.ref fA) = true) (bA : Binds K fdA ["items"] [])
    (mis : mg "isinstance" = none) (ml : mg "list" = none) (mt : mg "tuple" = none) : FnOk P w K mg base CX0 5 f fd ["value"] (spDigList K) := by
  refine F.ok scDl (fun vs H Q E h => ?_) (fun cdv A outer s H vs Q E hr h => ?_)
  · obtain ⟨x, rfl, _⟩ := h
    rfl
  · obtain ⟨x, rfl, h⟩ := h
    refine ⟨_, pss_one (ps_ret (pe_and (pe_callB call_isiT (by rfl) mis PyProof.Rows.boot_isinstance (pa_cons (pv 0) (pa_cons (pe_tup (pa_cons (pe_bltn (v := .ty "list") (by rfl) ml PyProof.Rows.boot_list rfl) (pa_cons (pe_bltn (v := .ty "tuple") (by rfl) mt (by decide +kernel) rfl) pa_nil))) pa_nil)))
      (pe_one (pe_call GA hr (by rfl) gA kA bA .nil pass0 (pa_cons (pv 0) pa_nil))))), ?_⟩
    refine ⟨x, rfl, (by show 2 ≤ sizeLine; decide), fun T hT => ?_⟩
    have s1 := same_new (o := .tup [.ty "list", .ty "tuple"]) hT
    rcases h with ⟨no, q⟩ | ⟨p, xs, rfl, hp, it, hl, q⟩
    · obtain ⟨t, ty, k⟩ := (no.same s1).kit (K := K)
      exact ⟨x, T, _, t, _, false, rfl, upd_same, .cons (.ty _) (.cons (.ty _) .nil), ty, k, false, rfl, iteF (q _ s1)⟩
    · obtain ⟨t, ty, k⟩ := (hp.same s1).lt (K := K)
      exact ⟨.ref p, T, _, t, _, true, rfl, upd_same, .cons (.ty _) (.cons (.ty _) .nil), ty, k, true, rfl, iteT ⟨.ref p, rfl, p, xs, rfl, (hp.same s1).sq, (fun y hy => (it y hy).same s1), hl, fun H' s2 => q H' (s1.trans s2)⟩⟩
theorem all_ints {xs : List V} (h : xs.all digV = true) : ∃ ns : List Int, xs = ns.map V.int ∧ ns.all dig = true := by
  induction xs with
  | nil => exact ⟨[], rfl, rfl⟩
  | cons x l ih =>
    rw [List.all_cons, Bool.and_eq_true] at h
    obtain ⟨ns, rfl, h2⟩ := ih h.2
    cases x with
    | int n => exact ⟨n :: ns, rfl, by rw [List.all_cons, h2, Bool.and_true]; exact h.1⟩
    | _ => exact absurd (show false = true from h.1) Bool.false_ne_true
/-- _different_digits of any value -/
def spDiffDig (K : PySem.W.Frag) (C : Addr) : Sp := fun vs H Q E => ∃ x : V, vs = [x] ∧ ((NoSeq H x ∧ Raised C "value" x H E) ∨ ∃ (p : Addr) (xs : List V), x = .ref p ∧ IsSeq K H p xs ∧ (∀ y ∈ xs, ItemOk H y) ∧ xs.length ≤ 60 ∧ (xs.all digV = false → Raised C "value" x H E) ∧
  ∀ ns : List Int, xs = ns.map V.int → ns.all dig = true → ∃ six : Bool, (∀ ks : List Int, ks.Nodup → (∀ k, k ∈ ks ↔ k ∈ ns) → (decide (1 ≤ ks.length) && decide (ks.length ≤ 6)) = six) ∧ (six = false → Raised C "value" x H E) ∧
    (six = true → ∀ (ds : List Int) (t : Addr) (H' : Hp), ds.Pairwise (· < ·) → (∀ k, k ∈ ds ↔ k ∈ ns) → Same H H' → H t = none → H' t = some (.tup (ds.map V.int)) → Q (.ref t) H'))
theorem scDd : FnScope ["digits"] ["digits"] (defScope sDiffDig) := ⟨rfl, rfl, rfl, by decide +kernel, rfl, by decide +kernel, by decide +kernel⟩
theorem ok_diffdig {f fL fI C : Addr} {fd fdL fdI : FuncData} {t6 : Tok} (F : Fun K "_different_digits" "_different_digits" sDiffDig f fd) (GL : FnOk P w K mg base CX0 5 fL fdL ["value"] (spDigList K)) (gL : mg "_is_digit_list" = some (.ref fL)) (kL : PySem.W.keepIn K (.ref fL) = true) (bL : Binds K fdL ["value"] [])
    (GI : FnOk P w K mg base CX0 3 fI fdI ["self", "value"] (spInit K "value" C)) (T : ErrC K mg "InvalidDigits" "value" C fI) (bI : Binds K fdI ["self", "value"] [])
    (g6 : mg "MOST_DIGITS" = some (.int 6 t6)) (ml : mg "len" = none) (ms : mg "set" = none) (mso : mg "sorted" = none) (mt : mg "tuple" = none) : FnOk P w K mg base (L2.CX P w) 6 f fd ["digits"] (spDiffDig K C) := by
  refine F.okX scDd (fun vs H Q E h => ?_) (fun cdv A outer s H vs Q E hr h => ?_)
  · obtain ⟨x, rfl, _⟩ := h
    rfl
  · obtain ⟨x, rfl, h⟩ := h
    have hr3 : Room 4 _ := hr.mono (by decide)
    apply Exists.intro
    apply And.intro
    · apply pss_cons
      · exact ps_if (PW.pt (pw_or (pt_not (pt_val (pe_call GL hr (by rfl) gL kL bL .nil pass0 (pa_cons (pv 0) pa_nil))))
            (pw_or1 (pt_not (pt_chain op_le op_le pe_int (pe_callB call_lenSetO (by rfl) ml PySem.boot_len (pa_cons (pe_callTy (cr_setI rfl) (by rfl) ms PyProof.Rows.boot_set (pa_cons (pv 0) pa_nil)) pa_nil)) (pe_glob (v := .int 6) (by rfl) g6 ⟨_, rfl⟩))))))
          (pss_one (ps_raise rfl (takes_of rfl rfl rfl rfl) (pmk_oex T.ox T.iC T.tI GI hr3 bI .nil pass0 (by rfl) T.g (pa_cons (pv 0) pa_nil)))) pss_nil
      apply pss_one
      · exact ps_ret (pe_callTy call_tuple_of (by rfl) mt (by decide +kernel) (pa_cons (pe_callB (cr_sortedSet rfl) (by rfl) mso (by decide +kernel) (pa_cons (pe_callTy (cr_setI rfl) (by rfl) ms PyProof.Rows.boot_set (pa_cons (pv 0) pa_nil)) pa_nil)) pa_nil))
    have raise : ∀ {H1 : Hp}, Raised C "value" x H E → Same H H1 → _ := fun {H1} hE s1 => raised_ok (K := K) (σ := start ["digits"] [x]) (D := { nx := fun _ H' => Q .non H', rt := Q }) hE s1
    rcases h with ⟨no, hE⟩ | ⟨p, xs, rfl, hp, it, hl, hE, hq⟩
    · exact ⟨x, rfl, x, rfl, .inl ⟨no, fun H1 s1 => ⟨false, rfl, iteT ⟨x, rfl, raise hE s1⟩⟩⟩⟩
    · refine ⟨.ref p, rfl, .ref p, rfl, .inr ⟨p, xs, rfl, hp, it, by omega, fun H1 s1 => ?_⟩⟩
      cases hd : xs.all digV with
      | false => exact ⟨false, rfl, iteT ⟨.ref p, rfl, raise (hE hd) s1⟩⟩
      | true =>
        obtain ⟨ns, rfl, hn⟩ := all_ints hd
        obtain ⟨six, h6, hE6, q⟩ := hq ns rfl hn
        rw [List.length_map] at hl
        refine ⟨true, rfl, iteF ?_⟩
        refine ⟨.ref p, rfl, p, ns, rfl, (hp.same s1).sq, hl, fun S1 ks hS1 nd mem => ?_⟩
        have h66 := h6 ks nd mem
        have s2 : Same H (upd H1 S1 (SetO w S1 (fun j => decide (j ∈ ns)) ks.length)) := s1.trans (same_new hS1)
        refine ⟨S1, _, ks.length, rfl, upd_same, 1, (ks.length : Int), rfl, rfl, _, rfl, ?_⟩
        have e1 : decide ((1 : Int) ≤ (ks.length : Int)) = decide (1 ≤ ks.length) := by
          rw [decide_eq_decide]
          omega
        have e6 : decide ((ks.length : Int) ≤ 6) = decide (ks.length ≤ 6) := by
          rw [decide_eq_decide]
          omega
        cases six with
        | false =>
          cases h1 : decide ((1 : Int) ≤ (ks.length : Int)) with
          | false => exact iteFB rfl ⟨_, rfl, iteTB rfl ⟨.ref p, rfl, raise (hE6 rfl) s2⟩⟩
          | true =>
            refine iteTB rfl ⟨(ks.length : Int), 6, rfl, rfl, _, rfl, ?_⟩
            rw [← e1, h1, Bool.true_and, ← e6] at h66
            exact iteTB (by rw [h66]; rfl) ⟨.ref p, rfl, raise (hE6 rfl) s2⟩
        | true =>
          rw [← e1, ← e6, Bool.and_eq_true] at h66
          refine iteTB h66.1 ⟨(ks.length : Int), 6, rfl, rfl, _, rfl, iteFB (by rw [h66.2]; rfl) ?_⟩
          refine ⟨.ref p, rfl, p, ns, rfl, (hp.same s2).sq, hl, fun S2 ks2 hS2 nd2 mem2 => ?_⟩
          have k66 := h6 ks2 nd2 mem2
          rw [Bool.and_eq_true, decide_eq_true_eq, decide_eq_true_eq] at k66
          refine ⟨S2, _, _, rfl, upd_same, by omega, fun ds D asc mds lds hD => ?_⟩
          have s3 : Same H (upd (upd (upd H1 S1 (SetO w S1 (fun j => decide (j ∈ ns)) ks.length)) S2 (SetO w S2 (fun j => decide (j ∈ ns)) ks2.length)) D (.lst (ds.map V.int))) := s2.trans ((same_new hS2).trans (same_new hD))
          refine ⟨D, _, rfl, .inl ⟨SqL.of upd_same, fun t ht => ?_⟩⟩
          exact q rfl ds t _ asc (fun k => (mds k).trans ⟨fun z => of_decide_eq_true z, fun z => decide_eq_true z⟩) (Same.store s3 (s3.free ht)) (s3.free ht) upd_same
end
end K66
set_option maxHeartbeats 4000000
/-! set(xs) of a tuple of tuples of ints. -/
namespace OF
open PySem PySem.Spec PyProof.Rows L2
section
variable {P : Program} {w : World} {A : Around} {E : Value → Shared → Prop}
theorem set_of_tuple2 {h : Heap} {g : Array GenState} {d : Drawn} {t : Nat} {os : OsState} {l : Addr} {xs : Array Value} (ks : List (Addr × List Int)) {Q : Value → Shared → Prop} (calm : A.handled = none) (tpl : h.IsTuple l xs)
    (refs : xs.toList = ks.map fun p => Value.ref p.1) (each : ∀ p ∈ ks, IsT P w h p.2 p.1) (few : ks.length < 64) (room : A.units + 3 < cLine)
    (fin : ∀ (h' : Heap) (tk : Nat) L es ep t', SetTR P w h' h.objs.size L es ep t' → Got ks ks.length L → (∀ b o, h.get? b = some o → h'.get? b = some o) → Q (.ref h.objs.size) ⟨h', g, d, tk, os⟩) :
    wpAny (model P w) A (call (.type "set") [.ref l]) Q E ⟨h, g, d, t, os⟩ := by
  have size : xs.size = ks.length := by
    rw [← Array.length_toList, refs, List.length_map]
  obtain ⟨c, tl, hmro⟩ := F.called_set.mro
  have f1 := F.called_set.made
  have f2 := F.called_set.sub
  have f3 := F.called_set.notType
  have f4 := F.called_set.canCreate
  have f5 := F.typeCall_set_1 (.ref l)
  apply wpAny_call
  apply codeAny_of_tree
  show wpAny _ _ (callAny (.type "set") _) _ _ _
  apply wpAny_pure
  refine ⟨Code.quiet_builtin _ (by decide +kernel), codeAny_builtin F.entry_type_call ?_⟩
  rw [Around.under_plain (weight_type_call_type "set" [.ref l] []) rfl]
  repeat any_goals first
    | assumption
    | wp_step
  refine codeAny_mono (code_set_led1 (s := ⟨h, g, d, t, os⟩) (.ref l) (E := E) (Q₁ := fun v s1 => v = .ref h.objs.size ∧ s1 = ⟨h.push (setObj0 w), g, d, t, os⟩) ⟨rfl, rfl⟩) ?_
  intro r s1 z
  cases r with
  | error e => exact z
  | ok fl =>
    cases fl with
    | next => exact z.elim
    | brk => exact z.elim
    | cont => exact z.elim
    | ret v =>
      obtain ⟨ev, es⟩ := z
      subst ev es
      have there : (h.push (setObj0 w)).get? h.objs.size = some (setObj0 w) := Heap.get?_push_size _ rfl
      have isSet : Shared.TypeIs ⟨h.push (setObj0 w), g, d, t, os⟩ (.ref h.objs.size) "set" := ⟨_, there, rfl⟩
      have i1 := F.called_set.init.lookup
      have i2 := F.called_set.init.bind (.ref h.objs.size)
      repeat any_goals first
        | assumption
        | wp_step
      refine codeAny_mono (codeAny_call_builtin (R := wants (fun r s2 => r = .none ∧ ∃ h' tk L es ep t', s2 = ⟨h', g, d, tk, os⟩ ∧ SetTR P w h' h.objs.size L es ep t' ∧ Got ks ks.length L ∧ (∀ b o, h.get? b = some o → h'.get? b = some o)) E)
        F.called_set.init.plain F.entry_set_init (check_set_init_1 isSet ?inner)) ?outer
      case outer =>
        intro r2 s2 z2
        cases r2 with
        | error e => exact z2
        | ok fl2 =>
          cases fl2 with
          | next => exact z2.elim
          | brk => exact z2.elim
          | cont => exact z2.elim
          | ret v2 =>
            obtain ⟨ev, h', tk, L, es, ep, t', e2, hS, hc, hk⟩ := z2
            subst ev e2
            repeat any_goals first
              | assumption
              | wp_step
            exact fin _ _ _ _ _ _ hS hc hk
      case inner =>
        obtain ⟨o1, ho1, hc1, m1, hd1⟩ := tpl
        obtain ⟨k1, k2, k3, k4⟩ := o1
        simp only at hc1 hd1
        subst hc1 hd1
        have there2 : (h.push (setObj0 w)).get? l = some { cls := .type "tuple", dict := k2, data := .seq xs m1, slots := k4 } := Heap.get?_push_of_some _ ho1
        have s1 := F.sub_tuple_set
        have s2 := F.sub_tuple_frozenset
        have apart : (Value.type "tuple" == Value.type "dict") = false := by decide
        have tpl1 : (h.push (setObj0 w)).IsTuple l xs := ⟨_, there2, rfl, m1, rfl⟩
        unfold Builtin.«set.__init__» noKeywords Builtin.Frozenset.updateFrom
        generalize same : pyIter = PI
        wp_walk
        subst same
        apply wpAny_pyIter_tuple tpl1
        apply wpAny_bind
        apply wpAny_runValue
        have below : l < h.objs.size := Heap.lt_size ho1
        have calm3 : A.in1.in1.in1.handled = none := by simp [calm]
        have sz : (h.push (setObj0 w)).objs.size = h.objs.size + 1 := Heap.size_push ..
        have ne1 : l ≠ (h.push (setObj0 w)).objs.size := by
          rw [sz]
          exact Nat.ne_of_lt (Nat.lt_succ_of_lt below)
        have ne2 : h.objs.size ∉ [(h.push (setObj0 w)).objs.size, l] := by
          rw [sz]
          simp only [List.mem_cons, List.not_mem_nil, or_false, not_or]
          exact ⟨Nat.ne_of_lt (Nat.lt_succ_self _), Nat.ne_of_gt below⟩
        have vals : ∀ (i : Nat) (v : Value), xs[i]? = some v → ∃ p, ks[i]? = some p ∧ v = .ref p.1 := by
          intro i v hv
          have e : xs.toList[i]? = some v := by
            rw [Array.getElem?_toList]
            exact hv
          rw [refs, List.getElem?_map] at e
          obtain ⟨p, hp, rfl⟩ := Option.map_eq_some_iff.mp e
          exact ⟨p, hp, rfl⟩
        have nothing : ∀ b, h.objs.size ≤ b → h.get? b = none := by
          intro b hb
          rcases Option.eq_none_or_eq_some (h.get? b) with z | ⟨o, z⟩
          · exact z
          · exact absurd (Nat.lt_of_lt_of_le (Heap.lt_size z) hb) (Nat.lt_irrefl _)
        refine set_update_tups ((Walks.tuple calm3 _ l ne1 xs).toS) h.objs.size ne2 ks size few vals h each (nothing _ (Nat.le_refl _)) (fun b hb => ?_) room (xs.size - 0) 0 _ (by omega) (Nat.zero_le _) ⟨⟨_, Heap.get?_push_size _ rfl, rfl, rfl⟩, (tpl1.push _)⟩ (fun b o e => Heap.get?_push_of_some _ (Heap.get?_push_of_some _ e)) ?start ?stop
        · rw [List.mem_singleton.mp hb, sz]
          exact nothing _ (Nat.le_succ _)
        case start =>
          have got : ((h.push (setObj0 w)).push { cls := .type "tuple_iterator", data := .fields #[.ref l, .int 0 0] }).get? h.objs.size = some (setObj0 w) := Heap.get?_push_of_some _ there
          exact ⟨[], #[], 0, _, setTR_fresh got, Got.zero ks⟩
        case stop =>
          intro s' L es ep t' hm hS hc hk
          obtain ⟨h', g2, d2, tk, os2⟩ := s'
          have eg : g2 = g := hm.gens
          have ed : d2 = d := hm.drawn
          have eo : os2 = os := hm.os
          subst eg ed eo
          show wpAny _ _ _ _ _ _
          apply wpAny_pure
          show wpAny _ _ (ret Value.none) _ _ _
          rw [size] at hc
          exact wpAny_pure ⟨rfl, h', tk, L, es, ep, t', rfl, hS, hc, hk⟩
end
section
variable {X : Cx}
/-- set(xs): xs a list or a tuple of tuples of ints -/
def rSetOfA (K : PySem.W.Frag) (P : Program) (w : World) : List V → Hp → VK → Prop := fun xs H Q => ∃ (l : Addr) (ks : List (Addr × List Int)), xs = [V.ref l] ∧ (SqL K H l (ks.map fun p => V.ref p.1) ∨ SqT K H l (ks.map fun p => V.ref p.1)) ∧ (∀ p ∈ ks, SqT K H p.1 (p.2.map V.int)) ∧ ks.length < 64 ∧
  ∀ a L, H a = none → (∀ p ∈ L, p ∈ ks) → (∀ p ∈ ks, p.2 ∈ L.map (·.2)) → Q (.ref a) (upd H a (SetTO P w a L))
theorem refs_vals : ∀ {ks : List (Addr × List Int)} {us : List Value}, Vals (ks.map fun p => V.ref p.1) us → us = ks.map fun p => Value.ref p.1
  | [], _, .nil => rfl
  | p :: ks, _, .cons r t => by
    cases r
    rw [refs_vals t, List.map_cons]
theorem cr_setOfA (hc : X.calm = true) (hu : X.A.units + 64 < cLine) : CallR X (.type "set") (rSetOfA X.K X.prog X.w) := by
  intro pins s σ H xs us Q I r h
  obtain ⟨l, ks, rfl, hl, hk, few, q⟩ := h
  rcases hl with hl | hl
  · exact cr_setOfT hc hu pins s σ H _ us Q I r ⟨l, ks, rfl, hl, hk, few, q⟩
  · obtain ⟨u, rfl, ru⟩ := vals1 r
    cases ru
    have hn : H s.heap.objs.size = none := I.hok.fresh (Nat.le_refl _)
    obtain ⟨its, rv, pl, _⟩ := I.tuple hl
    have each : ∀ p ∈ ks, IsT X.prog X.w s.heap p.2 p.1 := fun p hp => I.isT (hk p hp)
    have hd := I.ok.hd hc
    have rv2 := refs_vals rv
    obtain ⟨hp, g, d, t, os⟩ := s
    refine set_of_tuple2 ks hd pl (by simpa using rv2) each few (by omega) fun h' tk L es ep t' R gt k => ?_
    refine ⟨.ref hp.objs.size, upd H hp.objs.size (SetTO X.prog X.w hp.objs.size L), I.laid (t' := tk) k (Nat.le_refl _) (setTO_new R.t0), rfl, q _ L hn (fun p hp => ?_) fun p hp => ?_⟩
    · exact List.mem_of_mem_take (gt.sub p hp)
    · exact gt.all p (by rw [List.take_length]; exact hp)
end
end OF
/-! o.m(k = v, ..) by names alone; o.m(e) within a try, m may raise. -/
namespace OF
open PySem PySem.Spec PyProof.Rows L2
section
variable {X : Cx} {CX : CXT} {k n : Nat} {f C : Addr} {fd : FuncData} {ps ks : List Str} {sp : Sp} {E : XK} {m : Str} {p apos pos : Pos} {o e : Expr} {es : List Expr} {kws : List Keyword} {ta : TE} {t tk : TA} {g : List Value → List Value → List Value} {gV : List V → List V → List V}
def tMethN (C : Addr) (m : Str) (j : Nat) (sp : Sp) (gV : List V → List V → List V) (E : XK) (ta : TE) (tk : TA) : TE := fun σ H Q => ta σ H fun x H1 => ∃ a dx fs, x = .ref a ∧ H1 a = some (.ins C dx fs) ∧ fs.lookup m = none ∧
  tk σ H1 fun zs H2 => zs.length = j ∧ sp (gV [x] zs) H2 Q E
theorem pe_methN0 {pl : Sem Bool} (he : PE X o ta) (c : Cls X.K C) (hm : Meth X.K C m f) (F : FnOk X.prog X.w X.K X.mg X.base CX k f fd ps sp) (hr : Room k X.A) (hb : KBn X.K fd ps 1 ks g gV) (hx : Passes CX X E) (hkw : PK X kws tk)
    (hall : (backToKw pos (keywordEach kws X.env)).all (·.1.isSome) = true := by rfl) (hks : (backToKw pos (keywordEach kws X.env)).filterMap (·.1) = ks := by rfl)
    (hpl : ((backTo pos (starEach [] X.env)).any (·.1) || (backToKw pos (keywordEach kws X.env)).any (·.1.isNone)) = false := by rfl)
    (ht : eval (.Call (.Attribute o m apos) [] kws pos) X.env = (do
      let ov ← eval o X.env
      standAt apos.atName
      let (f, first) ← holding [ov] (getMethod ov m pl)
      callWith pos f first (backTo pos (starEach [] X.env)) (backToKw pos (keywordEach kws X.env))) := by rfl) :
    PE X (.Call (.Attribute o m apos) [] kws pos) (tMethN C m ks.length sp gV E ta tk) := by
  refine ⟨fun pins s σ H Q I h => ?_⟩
  refine PySem.W.methodCall_KW (pl := pl) (thn (he.run pins s σ H _ I h) fun u s1 ⟨x, H1, I1, rx, a, dx, fs, ex, ea, l, q⟩ => ?_) ht
  subst ex
  obtain rfl : u = Value.ref a := rx
  refine getmeth_ok I1 ea c hm l ?_
  refine PySem.W.callWith_KW0 (first := [.ref a]) (h₀ := X.base) I.ok.mod.kin hm.kp hall (thn (hkw.run pos pins s1 σ H1 _ I1 q) fun ws s2 ⟨zs, H2, I2, rz, l2, q2⟩ => ⟨I2.kIn, ?_⟩) hpl
  rw [hks]
  exact run_fnN (us := [.ref a]) (vs := [.ref a]) F hr hb hx I2 (.cons rfl .nil) rz rfl l2 q2
def tMethS (C : Addr) (m : Str) (sp : Sp) (E : L2.St → XK) (ta : TE) (t : TA) : TE := fun σ H Q => ta σ H fun x H1 => ∃ a dx fs, x = .ref a ∧ H1 a = some (.ins C dx fs) ∧ fs.lookup m = none ∧
  t σ H1 fun vs H2 => sp (x :: vs) H2 Q (E σ)
theorem pe_methSX {pl : Sem Bool} {E : L2.St → XK} (he : PE X o ta) (c : Cls X.K C) (hm : Meth X.K C m f) (F : FnOk X.prog X.w X.K X.mg X.base CX k f fd ps sp) (hr : Room k X.A) (hb : Binds X.K fd ps []) (hx : ∀ σ, PassesAt CX X σ (E σ)) (ha : PA X (e :: es) t)
    (hst : starEach (e :: es) X.env = (false, eval e X.env) :: starEach es X.env := by rfl) (hpl : (backTo pos (starEach es X.env)).any (·.1) = false := by rfl)
    (ht : eval (.Call (.Attribute o m apos) (e :: es) [] pos) X.env = (do
      let ov ← eval o X.env
      standAt apos.atName
      let (f, first) ← holding [ov] (getMethod ov m pl)
      callWith pos f first (backTo pos (starEach (e :: es) X.env)) (backToKw pos (keywordEach [] X.env))) := by rfl) :
    PE X (.Call (.Attribute o m apos) (e :: es) [] pos) (tMethS C m sp E ta t) := by
  refine ⟨fun pins s σ H Q I h => ?_⟩
  refine PySem.W.methodCall_KW (pl := pl) (thn (he.run pins s σ H _ I h) fun u s1 ⟨x, H1, I1, rx, a, dx, fs, ex, ea, l, q⟩ => ?_) ht
  subst ex
  obtain rfl : u = Value.ref a := rx
  refine getmeth_ok I1 ea c hm l ?_
  refine PySem.W.callWith_K (first := [.ref a]) (h₀ := X.base) I.ok.mod.kin hm.kp (thn (ha.run pos pins s1 σ H1 _ I1 q) fun us s2 ⟨vs, H2, I2, r, q2⟩ => ⟨I2.kIn, ?_⟩) hst hpl
  exact run_fnS (us := .ref a :: us) (vs := .ref a :: vs) F hr hb (hx σ) I2 (.cons rfl r) q2
end
end OF
/-! try: .. with several clauses «except X as n». -/
namespace OF
open PySem PySem.Spec PyProof.Rows L2
/-- behind a clause its name (slot i) is gone -/
def dropE (i : Nat) (D : Ends) : Ends := ⟨fun τ J => D.nx (τ.set i none) J, D.rt, fun τ J => D.bk (τ.set i none) J, fun τ J => D.ct (τ.set i none) J⟩
/-- the clauses: class, the name's slot, the suite's reading -/
abbrev Clauses := List (Value × Nat × (Addr → Value → Option Addr → TS))
def wManyA (K : PySem.W.Frag) (Wout : WX) (D : Ends) : Clauses → WX
  | [] => Wout
  | t :: rest => fun kl d τ J => ∃ b, PySem.W.exmOne K kl t.1 = some b ∧ (b = true → ∀ q, J q = none → t.2.2 q kl d (dropE t.2.1 D) (τ.set t.2.1 (some (.ref q))) J) ∧ (b = false → wManyA K Wout D rest kl d τ J)
inductive HdA (X : Cx) : List ExceptHandler → Clauses → Prop
  | nil : HdA X [] []
  | cons {x m : Str} {c : Value} {i : Nat} {ts : Addr → Value → Option Addr → TS} {first : Stmt} {suite : List Stmt} {p1 p2 : Pos} {more : List ExceptHandler} {l : Clauses} (named : Names X x c) (slot : X.N[i]? = some m) (own : X.env.kindOf m = some .local)
      (run : ∀ (q : Addr) (oe : Obj) (kl : Value) (d : Option Addr) (pn : List (Addr × Obj)), Zc kl d oe → (∃ vs, oe.data = .fields vs) → PSs (X.suite q ((q, oe) :: pn)) (first :: suite) (ts q kl d)) (rest : HdA X more l) :
      HdA X (.ExceptHandler (some (.Name x p1)) (some m) (first :: suite) p2 :: more) ((c, i, ts) :: l)
section
variable {X : Cx} {body : List Stmt} {h0 : ExceptHandler} {more : List ExceptHandler} {l : Clauses} {pos : Pos} {tb : WX → TS} {Wout : WX}
theorem not_frame {a : Addr} {B : Heap} {L : List Env} {h : Heap} {o : Obj} {vs : Array Value} (ff : h.FunFrames B L) (e : h.get? a = some o) (dd : o.data = .fields vs) : a ∉ frs L := by
  intro hm
  obtain ⟨_, o2, e2, no⟩ := ff.mem hm
  rw [e] at e2
  cases e2
  exact no _ dd
theorem ps_try_manyA (hs : X.stack = X.env :: X.outer) (hf : X.env.frame = some X.env.locals) (nd : X.N.Nodup) (tk : Takes X Wout)
    (hb : ∀ (W : WX) (pn : List (Addr × Obj)) (xe : Value → Shared → Prop), Takes (X.tr pn xe) W → PassesOwn (model X.prog X.w) X.A X.env xe → PSs (X.tr pn xe) body (tb W))
    (hh : HdA X (h0 :: more) l) : PS X (.Try body (h0 :: more) [] [] pos) (fun D τ J => tb (wManyA X.K Wout D l) D τ J) := by
  constructor
  intro pins s τ J D I reading
  have fine := I.ok
  have frames : X.A.frames = some (X.env :: X.outer) := fine.frames.trans (by rw [hs])
  refine wpAny_Try_except ?_
  refine wpAny_mono ((hb (wManyA X.K Wout D l) (X.pn ++ pins) (fun e t1 => wpAny (model X.prog X.w) X.A (noteFrame e X.env)
      (fun _ t2 => wpAny (model X.prog X.w) X.A (setFlight e none) (fun _ t3 => wpAny (model X.prog X.w) X.A (handleBy e X.env (h0 :: more)) (SP X pins D) X.xe t3) X.xe t2) X.xe t1) ?caught PassesOwn.looking).run [] s τ J D (I.toTry _) reading) ?through fun _ _ z => z
  case through =>
    intro fl t1 w
    cases fl with
    | next =>
      obtain ⟨τ1, J1, I1, z⟩ := w
      exact wpAny_execs_nil ⟨τ1, J1, I1.ofTry fine, z⟩
    | brk => exact let ⟨τ1, J1, I1, z⟩ := w; ⟨τ1, J1, I1.ofTry fine, z⟩
    | cont => exact let ⟨τ1, J1, I1, z⟩ := w; ⟨τ1, J1, I1.ofTry fine, z⟩
    | ret u => exact let ⟨v, τ1, J1, I1, r, z⟩ := w; ⟨v, τ1, J1, I1.ofTry fine, r, z⟩
  case caught =>
    intro u t1 raised
    obtain ⟨a, B, sI, pins2, τ1, J1, kl, d, rfl, I0, nb, up, sky, na, os, ag, wish⟩ := raised
    have I1 : Inv X pins τ1 J1 sI := I0.ofTry fine
    have sky1 : Sky B (X.env :: X.outer) a (Zc kl d) X.env.locals t1.heap := hs ▸ sky
    show wpAny (model X.prog X.w) X.A (noteFrame (.ref a) X.env) _ _ _
    refine Sky.land Zc.steady frames hf sky1 fun g fl up2 => ?_
    have I2 : Inv X pins τ1 J1 { t1 with heap := g } := I1.landed nb fl.1 (up.trans up2) os ag
    obtain ⟨oe, vs, at_e, ze, fe⟩ := fl.there
    have nf := not_frame fl.2.2.1 at_e fe
    have aL : a ≠ X.env.locals := fun z => nf (List.mem_filterMap.mpr ⟨X.env, List.mem_cons_self, hf.trans (congrArg some z.symm)⟩)
    have aF : a ∉ X.fs := fun hm => by
      obtain ⟨en, hen, q⟩ := List.mem_filterMap.mp hm
      exact nf (List.mem_filterMap.mpr ⟨en, List.mem_cons_of_mem _ hen, q⟩)
    have inSuite := I2.suite at_e fe na aL aF
    suffices go : ∀ {hds : List ExceptHandler} {cl : Clauses}, HdA X hds cl → wManyA X.K Wout D cl kl d τ1 J1 → wpAny (model X.prog X.w) X.A (handleBy (.ref a) X.env hds) (SP X pins D) X.xe { t1 with heap := g } from go hh wish
    intro hds cl hk
    induction hk with
    | nil =>
      intro out
      refine wpAny_handleBy_nil ?_
      obtain ⟨_, _, _, o1, _, T, _, _, at1, _, f1, i1, _⟩ := id fl
      unfold PySem.passOn
      refine wpAny_bind (wpAny_field at1 f1 i1 ?_)
      rw [if_neg (fun z => by simp at z)]
      have last : wpAny (model X.prog X.w) X.A (setFlight (.ref a) X.env.frame) (fun _ t4 => wpAny (model X.prog X.w) X.A (throw (.ref a) : Sem Flow) (SP X pins D) X.xe t4) X.xe { t1 with heap := g } := by
        rw [hf]
        refine HandSPX.setFlight_upZ fl fun g2 hg2 up3 => wpAny_throw (tk _ _ ⟨a, B, sI, pins, τ1, J1, kl, d, rfl, I1, nb, (up.trans up2).trans up3, .inr (.inr ?_), na, os, ag, out⟩)
        rw [hs]
        exact hg2
      first
        | exact wpAny_bind (wpAny_pure (wpAny_bind last))
        | exact wpAny_bind last
    | @cons x m c i ts first suite p1 p2 more2 l2 named slot own run _ ih =>
      intro w
      obtain ⟨b, asked, yes, no⟩ := w
      refine wpAny_handleBy_cons (codeAny_handlers_test ?_) (fun z => nomatch z)
      have isT : PySem.W.Looks (model X.prog X.w) g (typeOf (.ref a)) kl := fun _ _ _ t4 k z => wpAny_typeOf_ref (k _ _ at_e) (by rw [ze.1]; exact z)
      have isM := PySem.W.exm_one (M := model X.prog X.w) (I2.kIn) isT asked
      have name : ∀ {R E : Value → Shared → Prop}, R c { t1 with heap := g } → wpAny (model X.prog X.w) (X.A.mark (some (.ref a))) (eval (.Name x p1) X.env) R E { t1 with heap := g } := by
        intro R E z
        obtain ⟨gl, nodbg, mine | ⟨free, boot, nn⟩⟩ := named
        · exact ld_glob (X := X.suite a ((a, oe) :: (X.pn ++ pins))) inSuite gl mine z nodbg
        · exact ld_blt (X := X.suite a ((a, oe) :: (X.pn ++ pins))) inSuite gl free boot z nn nodbg
      refine name (isM.here ?_)
      cases b with
      | false =>
        show wpAny _ X.A (handleBy (.ref a) X.env more2) _ _ _
        exact ih (no rfl)
      | true =>
        refine codeAny_handlers_suite_as (HandSPX.lands_againZ fl fun g2 fl2 up3 => ?_)
        have I3 : Inv X pins τ1 J1 { t1 with heap := g2 } := I1.landed nb fl2.1 ((up.trans up2).trans up3) os ag
        obtain ⟨oe2, vs2, at2, ze2, fe2⟩ := fl2.there
        have S := I3.suite at2 fe2 na aL aF
        refine store_ok (X := X.suite a ((a, oe2) :: (X.pn ++ pins))) (v := .ref a) S nd slot (.inl own) rfl (fun t5 S5 => ?_) (.inr own)
        refine wpAny_mono ((run a oe2 kl d (X.pn ++ pins) ze2 ⟨_, fe2⟩).run [] t5 _ J1 _ S5 (yes rfl a na)) ?_ fun _ _ z => z.elim
        intro fl6 t6 w6
        have gone : ∀ {τ6 : L2.St} {J6 : Hp} {R : Shared → Prop}, Inv (X.suite a ((a, oe2) :: (X.pn ++ pins))) [] τ6 J6 t6 → (∀ t7, Inv X pins (τ6.set i none) J6 t7 → R t7) →
            wpAny (model X.prog X.w) X.A (do bindName X.env m .none; unbindBehindTheSuite X.env m p2) (fun _ t7 => R t7) X.xe t6 := fun S6 z => gone_ok (S6.unsuite fine) nd slot own z
        cases fl6 with
        | next => exact let ⟨τ6, J6, S6, z⟩ := w6; gone S6 fun _ I7 => ⟨_, _, I7, z⟩
        | brk => exact let ⟨τ6, J6, S6, z⟩ := w6; gone S6 fun _ I7 => ⟨_, _, I7, z⟩
        | cont => exact let ⟨τ6, J6, S6, z⟩ := w6; gone S6 fun _ I7 => ⟨_, _, I7, z⟩
        | ret u => exact let ⟨v6, τ6, J6, S6, r6, z⟩ := w6; gone S6 fun _ I7 => ⟨_, _, _, I7, r6, z⟩
end
end OF
/-! repr of any data without dicts; a value equal to itself; what an except clause does not take. -/
namespace OF
open PySem PySem.Spec PyProof.Rows L2
/-- repr of data -/
def rReprD (K : PySem.W.Frag) : List V → Hp → VK → Prop := fun xs H Q => ∃ (v : V) (d : PyData), xs = [v] ∧ Dp K H v d ∧ d.showable = true ∧ d.hasDict = false ∧ d.shown.length ≤ sizeLine ∧ d.depth ≤ 40 ∧ Q (.str d.shown) H
theorem call_reprD {X : Cx} (gu : X.A.guards = some []) (hu : X.A.units + 64 < cLine) : CallR X (.builtin "repr") (rReprD X.K) := by
  intro pins s σ H xs us Q I r h
  obtain ⟨v, d, rfl, hd, sh, nd, len, dep, q⟩ := h
  obtain ⟨u, rfl, ru⟩ := vals1 r
  have big : ∀ {p : Addr}, v = .ref p → wpAny (model X.prog X.w) X.A (call (.builtin "repr") [u]) (EP X pins σ Q) X.xe s := fun {p} e => by
    subst e
    cases ru
    obtain ⟨as, rd⟩ := Dp.reads I d _ _ hd rfl
    exact PySem.repr_of_reads' rd sh (fun z => by rw [nd] at z; cases z) gu (by omega) (fun _ _ z => z) (fun h' t tk kp => ⟨.str _, H, I.kept kp, ⟨_, rfl⟩, q⟩) len
  cases hd with
  | non =>
    cases ru
    exact PySem.P.repr_of_none ⟨.str _, H, I.tok _, ⟨_, rfl⟩, q⟩
  | bl b =>
    cases ru
    exact PySem.P.repr_of_bool ⟨.str _, H, I.tok _, ⟨_, rfl⟩, by cases b <;> exact q⟩
  | int i =>
    obtain ⟨t, rfl⟩ := ru
    exact PySem.P.repr_of_int (of_decide_eq_true sh) ⟨.str _, H, I.tok _, ⟨_, rfl⟩, q⟩
  | str z =>
    obtain ⟨t, rfl⟩ := ru
    exact PySem.P.repr_of_str ⟨.str _, H, I.tok _, ⟨_, rfl⟩, q⟩ len
  | lst h1 h2 => exact big rfl
  | tup h1 h2 => exact big rfl
/-- a value is equal to itself -/
def rEqSelf (K : PySem.W.Frag) : R2 := fun x y H Q => x = y ∧ ((∃ d, Dp K H x d ∧ SeqAt.shaped d = true) ∨ ∃ p, x = .ref p ∧ H p = some (.dK [])) ∧ Q (.bl true) H
theorem op_eqSelf {X : Cx} (hu : X.A.units + 64 < cLine) : OpR X (compareOp .Eq) (rEqSelf X.K) := by
  intro pins s σ H x y v u Q I rx ry h
  obtain ⟨rfl, h, q⟩ := h
  rcases h with ⟨d, hd, sh⟩ | ⟨p, rfl, hp⟩
  · refine op_eqD hu pins s σ H x x v u Q I rx ry ⟨d, d, hd, hd, sh, sh, ?_⟩
    rw [SeqAt.eqv_refl d (SeqAt.canLay_of_shaped sh)]
    exact q
  · exact op_eq_dictA (by omega) pins s σ H _ _ v u Q I rx ry ⟨p, p, [], [], rfl, rfl, hp, hp, rfl, (fun z hz => by cases hz), q⟩
/-- an error of another class -/
theorem exm_other {K : PySem.W.Frag} {S D : Addr} (h1 : PySem.W.subIn K (.ref D) (.type "BaseException") = some true) (h2 : PySem.W.isClsIn K D = true) (h3 : PySem.W.typeIn K (.ref D) = some (.type "type")) (h4 : PySem.W.subIn K (.ref S) (.ref D) = some false) (ne : S ≠ D) :
    PySem.W.exmOne K (.ref S) (.ref D) = some false := by
  have h2' : (PySem.W.clsIn K D).isSome = true := h2
  unfold PySem.W.exmOne
  simp only [h1, beq_self_eq_true, if_true]
  unfold PySem.W.kitCls
  simp only [h3, h4, h2', beq_self_eq_true, Bool.and_self, if_true]
end OF
namespace K66
open PySem PySem.Spec PyProof.Rows L2 OF
section
variable {P : Program} {w : World} {K : PySem.W.Frag} {mg : Str → Option Value} {base : Heap}
def spOneOf (K : PySem.W.Frag) : Sp := fun vs H Q _ => ∃ (t : Addr) (ds : List Int) (x : V), vs = [.ref t, x] ∧ SqT K H t (ds.map V.int) ∧ ((∃ n : Int, x = .int n ∧ Q (.bl (dig n && decide (n ∈ ds))) H) ∨ (Odd H x ∧ Q (.bl false) H))
theorem in_ints (n : Int) : ∀ ds : List Int, inV (.int n) (ds.map V.int) = decide (n ∈ ds)
  | [] => by
    show false = _
    rw [decide_eq_false (List.not_mem_nil)]
  | d :: ds => by
    show ((d == n) || inV (.int n) (ds.map V.int)) = _
    rw [in_ints n ds, Bool.eq_iff_iff]
    simp only [Bool.or_eq_true, beq_iff_eq, decide_eq_true_eq, List.mem_cons]
    constructor
    · rintro (h | h)
      · exact .inl h.symm
      · exact .inr h
    · rintro (h | h)
      · exact .inl h.symm
      · exact .inr h
theorem flat_ints : ∀ ds : List Int, (ds.map V.int).all flatV = true
  | [] => rfl
  | _ :: ds => flat_ints ds
theorem scOn : FnScope ["digits", "value"] ["digits", "value"] (defScope sOneOf) := ⟨rfl, rfl, rfl, by decide +kernel, rfl, by decide +kernel, by decide +kernel⟩
theorem ok_oneof {f fD : Addr} {fd fdD : FuncData} (F : Fun K "_is_one_of" "_is_one_of" sOneOf f fd) (GD : FnOk P w K mg base CX0 3 fD fdD ["value"] spIsDigit) (gD : mg "is_digit" = some (.ref fD)) (kD : PySem.W.keepIn K (.ref fD) = true) (bD : Binds K fdD ["value"] []) :
    FnOk P w K mg base CX0 4 f fd ["digits", "value"] (spOneOf K) := by
  refine F.ok scOn (fun vs H Q E h => ?_) (fun cdv A outer s H vs Q E hr h => ?_)
  · obtain ⟨t, ds, x, rfl, _⟩ := h
    rfl
  · obtain ⟨t, ds, x, rfl, ht, h⟩ := h
    refine ⟨_, pss_one (ps_ret (pe_and (pe_call GD hr (by rfl) gD kD bD .nil pass0 (pa_cons (pv 1) pa_nil)) (pe_one (pe_cmpR op_in_seq (pv 1) (pv 0) rfl)))), ?_⟩
    rcases h with ⟨n, rfl, q⟩ | ⟨o, q⟩
    · refine ⟨.int n, rfl, .int n, rfl, .inl ⟨n, rfl, _, rfl, iteAnd (fun z => ?_) q⟩⟩
      refine ⟨.int n, rfl, .ref t, rfl, t, _, rfl, .inr ht, rfl, flat_ints ds, ?_⟩
      have z2 := z
      rw [← in_ints n ds] at z2
      exact z2
    · exact ⟨x, rfl, x, rfl, .inr ⟨o, _, rfl, iteF q⟩⟩
theorem passNo {X : Cx} {P' : Program} {w' : World} : Passes (L2.CX P' w') X E0 := fun _ _ _ _ _ _ _ h => by
  obtain ⟨_, _, _, _, _, _, _, _, _, _, _, _, z⟩ := h
  exact z.elim

def isOne (ds : List Int) (n : Int) : Bool := dig n && decide (n ∈ ds)
def oneV (ds : List Int) : V → Bool
  | .int n => isOne ds n
  | _ => false
theorem oneV_odd {H : Hp} {ds : List Int} {x : V} (o : Odd H x) : oneV ds x = false := by cases o <;> rfl
/-- no tuple -/
inductive NoTup (H : Hp) : V → Prop
  | no {x : V} (h : NoSeq H x) : NoTup H x
  | lst {a : Addr} {xs : List V} (e : H a = some (.lst xs)) : NoTup H (.ref a)
theorem NoTup.same {H H' : Hp} {x : V} (h : NoTup H x) (s : Same H H') : NoTup H' x := by
  cases h with
  | no h => exact .no (h.same s)
  | lst e => exact .lst (s _ _ e)
theorem NoTup.kit {K : PySem.W.Frag} {H : Hp} {x : V} (h : NoTup H x) : ∃ t, TyX K H x t ∧ PySem.W.kitOne K t (.type "tuple") = some false := by
  cases h with
  | lst e => exact ⟨_, .base (.lst e), kit_ty (by decide +kernel)⟩
  | no h =>
    cases h with
    | int n => exact ⟨_, .base (.int n), kit_ty (by decide +kernel)⟩
    | non => exact ⟨_, .base .non, kit_ty (by decide +kernel)⟩
    | bl b => exact ⟨_, .base (.bl b), kit_ty (by decide +kernel)⟩
    | str z => exact ⟨_, .base (.str z), kit_ty (by decide +kernel)⟩
    | dK e => exact ⟨_, .base (.dK e), kit_ty (by decide +kernel)⟩
def pairB (ds : List Int) (xs : List V) : Bool := decide (xs.length = 2) && xs.all (oneV ds)
/-- _is_pair of any value -/
def spIsPair (K : PySem.W.Frag) : Sp := fun vs H Q _ => ∃ (t : Addr) (ds : List Int) (x : V), vs = [.ref t, x] ∧ SqT K H t (ds.map V.int) ∧ ((NoTup H x ∧ Q (.bl false) H) ∨ ∃ (p : Addr) (xs : List V), x = .ref p ∧ H p = some (.tup xs) ∧ xs.length ≤ 1000 ∧ (∀ y ∈ xs, ItemOk H y) ∧ ∀ H', Same H H' → Q (.bl (pairB ds xs)) H')
abbrev nIp : List Str := ["digits", "value", "item"]
theorem scIp : FnScope nIp ["digits", "value"] (defScope sIsPair) := ⟨rfl, rfl, rfl, by decide +kernel, rfl, by decide +kernel, by decide +kernel⟩
theorem ok_ispair {f fO : Addr} {fd fdO : FuncData} (F : Fun K "_is_pair" "_is_pair" sIsPair f fd) (GO : FnOk P w K mg base CX0 4 fO fdO ["digits", "value"] (spOneOf K)) (gO : mg "_is_one_of" = some (.ref fO)) (kO : PySem.W.keepIn K (.ref fO) = true) (bO : Binds K fdO ["digits", "value"] [])
    (mis : mg "isinstance" = none) (ml : mg "len" = none) (mall : mg "all" = none) (mt : mg "tuple" = none) : FnOk P w K mg base CX0 5 f fd ["digits", "value"] (spIsPair K) := by
  refine F.ok scIp (fun vs H Q E h => ?_) (fun cdv A outer s H vs Q E hr h => ?_)
  · obtain ⟨t, ds, x, rfl, _⟩ := h
    rfl
  · obtain ⟨t, ds, x, rfl, ht, h⟩ := h
    refine ⟨_, pss_one (ps_ret (pe_and (pe_callB call_isi (by rfl) mis PyProof.Rows.boot_isinstance (pa_cons (pv 1) (pa_cons (pe_bltn (v := .ty "tuple") (by rfl) mt (by decide +kernel) rfl) pa_nil)))
      (pe_and (pe_cmpR op_eq (pe_callB call_len_seq (by rfl) ml PySem.boot_len (pa_cons (pv 1) pa_nil)) pe_int (nomark _))
      (pe_one (pe_callB (cr_all rfl) (by rfl) mall (by decide +kernel) (pa_cons (pe_lc (own := [("item", 2)]) (g := gName 2) (tt := tYes) (te := tCall (spOneOf K) [] E0 (tCons (tVar 0) (tCons (tVar 2) tNil))) rfl scIp.nd (pi_tup (pv 1))
            (blkOk_by (own := [("item", 2)]) (N := nIp) (sc := defScope sIsPair) (by decide +kernel)) (fun _ _ _ _ _ => pg_name (i := 2) scIp.nd rfl (Or.inl rfl)) (fun _ _ _ _ _ => pts_nil)
            (fun _ _ _ _ _ => by exact (pe_call GO hr (by rfl) gO kO bO .nil pass0 (pa_cons (pv 0) (pa_cons (pv 2) pa_nil))))) pa_nil)))))), ?_⟩
    rcases h with ⟨no, q⟩ | ⟨p, xs, rfl, hp, hl, it, q⟩
    · obtain ⟨ty, tyx, k⟩ := no.kit (K := K)
      exact ⟨x, rfl, x, .ty "tuple", ty, .type "tuple", false, rfl, .ty _, tyx, k, false, rfl, iteF q⟩
    refine ⟨.ref p, rfl, .ref p, .ty "tuple", .type "tuple", .type "tuple", true, rfl, .ty _, .base (.tup hp), kit_ty (by decide +kernel), true, rfl, iteT ?_⟩
    refine ⟨.ref p, rfl, p, _, rfl, .inr (SqT.of hp), rfl, _, rfl, ?_⟩
    by_cases c : xs.length = 2
    · refine iteTB (decide_eq_true (congrArg (fun n : Nat => V.int (n : Int)) c)) ⟨.ref p, rfl, p, rfl, ⟨_, SqT.of hp⟩, fun D hD => ?_⟩
      refine lc_tup (K := K) (a := p) (xs := xs) (fun i H' => Same H H' ∧ H' D = some (.lst ((xs.take i).map fun x => V.bl (oneV ds x)))) ⟨same_new hD, upd_same⟩ (fun i H' _ h => SqT.of (h.1 _ _ hp)) ?_ ?_
      · rintro i z H' hi ⟨s1, e1⟩
        have fin : ∃ acc, H' D = some (.lst acc) ∧ acc.length < sizeLine ∧ (Same H (upd H' D (.lst (acc ++ [.bl (oneV ds z)]))) ∧ (upd H' D (.lst (acc ++ [.bl (oneV ds z)]))) D = some (.lst ((xs.take (i + 1)).map fun x => V.bl (oneV ds x)))) := by
          refine ⟨_, e1, ?_, Same.store s1 hD, ?_⟩
          · rw [List.length_map]
            exact Nat.lt_of_le_of_lt (List.length_take_le' _ _) (small1000 hl)
          · rw [upd_same, take_more hi, List.map_append]
            rfl
        refine ⟨rfl, tYes_if ⟨.ref t, rfl, z, rfl, t, ds, z, rfl, same_seqT s1 ht, ?_⟩⟩
        rcases it z (List.mem_of_getElem? hi) with ⟨n, rfl⟩ | o
        · exact .inl ⟨n, rfl, fin⟩
        · rw [oneV_odd o] at fin
          exact .inr ⟨o.same s1, fin⟩
      · rintro H' ⟨s1, e1⟩
        rw [List.take_length] at e1
        have z := q H' s1
        have e : pairB ds xs = (xs.map (oneV ds)).all id := by
          unfold pairB
          rw [decide_eq_true c, Bool.true_and, List.all_map]
          rfl
        rw [e] at z
        exact ⟨D, xs.map (oneV ds), rfl, SqL.of (by rw [e1, List.map_map]; rfl), z⟩
    · have z := q H (Same.refl H)
      have e : pairB ds xs = false := by
        unfold pairB
        rw [decide_eq_false c, Bool.false_and]
      rw [e] at z
      refine iteFB (decide_eq_false fun y => c ?_) z
      have y2 : ((xs.length : Nat) : Int) = 2 := V.int.inj y
      omega

/-- bars of a list or tuple: two of the digits each -/
def BarOk (H : Hp) (ds : List Int) (p : Addr × List Int) : Prop := ∃ x y, p.2 = [x, y] ∧ H p.1 = some (.tup [.int x, .int y]) ∧ isOne ds x = true ∧ isOne ds y = true
/-- an item that is no pair of the digits -/
def BadBar (H : Hp) (ds : List Int) (x : V) : Prop := NoTup H x ∨ ∃ (p : Addr) (xs : List V), x = .ref p ∧ H p = some (.tup xs) ∧ xs.length ≤ 1000 ∧ (∀ y ∈ xs, ItemOk H y) ∧ pairB ds xs = false
theorem BadBar.same {H H' : Hp} {ds : List Int} {x : V} (h : BadBar H ds x) (s : Same H H') : BadBar H' ds x := by
  rcases h with h | ⟨p, xs, e, hp, l, it, b⟩
  · exact .inl (h.same s)
  · exact .inr ⟨p, xs, e, s _ _ hp, l, fun y hy => (it y hy).same s, b⟩
/-- _different_pairs of any value: no list; a first bar that is none behind good ones; good ones alone -/
def spDiffPair (K : PySem.W.Frag) (C : Addr) : Sp := fun vs H Q E => ∃ (t : Addr) (ds : List Int) (x : V), vs = [.ref t, x] ∧ SqT K H t (ds.map V.int) ∧ ((NoSeq H x ∧ Raised C "value" x H E) ∨ ∃ (l : Addr) (ks : List (Addr × List Int)) (rest : List V), x = .ref l ∧ IsSeq K H l (ks.map (fun p => V.ref p.1) ++ rest) ∧ ks.length < 64 ∧ (∀ p ∈ ks, BarOk H ds p) ∧
  ((∃ (y : V) (more : List V), rest = y :: more ∧ BadBar H ds y ∧ Raised C "value" y H E) ∨ (rest = [] ∧
    ∀ (L : List (Addr × List Int)) (r : Addr) (H' : Hp), (∀ p ∈ L, p ∈ ks) → (∀ p ∈ ks, p.2 ∈ L.map (·.2)) → (L.map (·.2)).Nodup → L.Pairwise (fun q r => SrtO.lexB (duo r.2) (duo q.2) = false) → Same H H' → H' r = some (.tup (L.map fun q => V.ref q.1)) → Q (.ref r) H')))
abbrev nDp : List Str := ["digits", "bars", "item"]
theorem scDp : FnScope nDp ["digits", "bars"] (defScope sDiffPair) := ⟨rfl, rfl, rfl, by decide +kernel, rfl, by decide +kernel, by decide +kernel⟩
theorem barOk_pair {H : Hp} {ds : List Int} {p : Addr × List Int} (h : BarOk H ds p) : ∃ xs : List V, H p.1 = some (.tup xs) ∧ xs.length ≤ 1000 ∧ (∀ y ∈ xs, ItemOk H y) ∧ pairB ds xs = true := by
  obtain ⟨x, y, _, e, hx, hy⟩ := h
  refine ⟨_, e, (by show 2 ≤ 1000; decide), fun z hz => ?_, ?_⟩
  · simp only [List.mem_cons, List.not_mem_nil, or_false] at hz
    rcases hz with rfl | rfl
    · exact .inl ⟨_, rfl⟩
    · exact .inl ⟨_, rfl⟩
  · show (decide (2 = 2) && (isOne ds x && (isOne ds y && true))) = true
    rw [hx, hy]
    rfl
set_option maxHeartbeats 2000000 in
theorem ok_diffpair {f fO fI C : Addr} {fd fdO fdI : FuncData} (F : Fun K "_different_pairs" "_different_pairs" sDiffPair f fd) (GO : FnOk P w K mg base CX0 5 fO fdO ["digits", "value"] (spIsPair K)) (gO : mg "_is_pair" = some (.ref fO)) (kO : PySem.W.keepIn K (.ref fO) = true) (bO : Binds K fdO ["digits", "value"] [])
    (GI : FnOk P w K mg base CX0 3 fI fdI ["self", "value"] (spInit K "value" C)) (T : ErrC K mg "InvalidBars" "value" C fI) (bI : Binds K fdI ["self", "value"] [])
    (mis : mg "isinstance" = none) (mli : mg "list" = none) (ms : mg "set" = none) (mso : mg "sorted" = none) (mt : mg "tuple" = none) : FnOk P w K mg base (L2.CX P w) 6 f fd ["digits", "bars"] (spDiffPair K C) := by
  refine F.okX scDp (fun vs H Q E h => ?_) (fun cdv A outer s H vs Q E hr h => ?_)
  · obtain ⟨t, ds, x, rfl, _⟩ := h
    rfl
  · obtain ⟨t, ds, x, rfl, ht, h⟩ := h
    have hr3 : Room 4 _ := hr.mono (by decide)
    rcases h with ⟨no, hE⟩ | ⟨l, ks, rest, rfl, hl, few, hk, h⟩
    · refine ⟨_, pss_cons (ps_if (pt_not (pt_val (pe_callB call_isiT (by rfl) mis PyProof.Rows.boot_isinstance (pa_cons (pv 1) (pa_cons (pe_tup (pa_cons (pe_bltn (v := .ty "list") (by rfl) mli PyProof.Rows.boot_list rfl) (pa_cons (pe_bltn (v := .ty "tuple") (by rfl) mt (by decide +kernel) rfl) pa_nil))) pa_nil)))))
          (pss_one (ps_raise rfl (takes_of rfl rfl rfl rfl) (pmk_oex T.ox T.iC T.tI GI hr3 bI .nil pass0 (by rfl) T.g (pa_cons (pv 1) pa_nil)))) pss_nil)
        (pss_cons (ps_for (passes_of rfl) rfl (pi_list (pv 1)) (pg_name (i := 2) scDp.nd rfl (.inl rfl))
          (pss_one (ps_if (pt_not (pt_val (pe_call GO hr (by rfl) gO kO bO .nil pass0 (pa_cons (pv 0) (pa_cons (pv 2) pa_nil)))))
            (pss_one (ps_raise rfl (takes_of rfl rfl rfl rfl) (pmk_oex T.ox T.iC T.tI GI hr3 bI .nil pass0 (by rfl) T.g (pa_cons (pv 2) pa_nil)))) pss_nil)))
        (pss_one (ps_ret (pe_callTy call_tuple_of (by rfl) mt (by decide +kernel) (pa_cons (pe_callB (cr_sortedDuo rfl) (by rfl) mso (by decide +kernel) (pa_cons (pe_callTy (cr_setOfA rfl hr.units) (by rfl) ms PyProof.Rows.boot_set (pa_cons (pv 1) pa_nil)) pa_nil)) pa_nil))))), ?_⟩
      refine ⟨x, rfl, (by show 2 ≤ sizeLine; decide), fun U hU => ?_⟩
      have s1 : Same H (upd H U (.tup [.ty "list", .ty "tuple"])) := same_new hU
      obtain ⟨ty, hty, k⟩ := (no.same s1).kit (K := K)
      exact ⟨x, U, _, ty, _, false, rfl, upd_same, .cons (.ty _) (.cons (.ty _) .nil), hty, k, false, rfl, iteT ⟨x, rfl, raised_ok (K := K) (σ := start nDp [.ref t, x]) (D := { nx := fun _ H' => Q .non H', rt := Q }) hE s1⟩⟩
    have each : ∀ (i : Nat) (z : V), (ks.map (fun p => V.ref p.1) ++ rest)[i]? = some z → (i < ks.length ∧ ∃ p ∈ ks, z = .ref p.1) ∨ (∃ (more : List V), rest = z :: more) ∨ (ks.length < i) := fun i z hz => by
      rcases Nat.lt_trichotomy i ks.length with c | c | c
      · rw [List.getElem?_append_left (by rw [List.length_map]; exact c)] at hz
        obtain ⟨p, hp, e⟩ := get_map hz
        exact .inl ⟨c, p, List.mem_of_getElem? hp, e⟩
      · rw [List.getElem?_append_right (by rw [List.length_map, c]; exact Nat.le_refl _), List.length_map, c, Nat.sub_self] at hz
        cases rest with
        | nil => cases hz
        | cons y m =>
          cases Option.some.inj hz
          exact .inr (.inl ⟨m, rfl⟩)
      · exact .inr (.inr c)
    have tups : ∀ (H2 : Hp), Same H H2 → ∀ p ∈ ks, SqT K H2 p.1 (p.2.map V.int) := by
      intro H2 s3 p hp
      obtain ⟨x, y, e, ep, _⟩ := hk p hp
      rw [e]
      exact SqT.of (s3 _ _ ep)
    rcases hl.sq with sq | sq
    · refine ⟨_, pss_cons (ps_if (pt_not (pt_val (pe_callB call_isiT (by rfl) mis PyProof.Rows.boot_isinstance (pa_cons (pv 1) (pa_cons (pe_tup (pa_cons (pe_bltn (v := .ty "list") (by rfl) mli PyProof.Rows.boot_list rfl) (pa_cons (pe_bltn (v := .ty "tuple") (by rfl) mt (by decide +kernel) rfl) pa_nil))) pa_nil)))))
          (pss_one (ps_raise rfl (takes_of rfl rfl rfl rfl) (pmk_oex T.ox T.iC T.tI GI hr3 bI .nil pass0 (by rfl) T.g (pa_cons (pv 1) pa_nil)))) pss_nil)
        (pss_cons (ps_for (passes_of rfl) rfl (pi_list (pv 1)) (pg_name (i := 2) scDp.nd rfl (.inl rfl))
          (pss_one (ps_if (pt_not (pt_val (pe_call GO hr (by rfl) gO kO bO .nil pass0 (pa_cons (pv 0) (pa_cons (pv 2) pa_nil)))))
            (pss_one (ps_raise rfl (takes_of rfl rfl rfl rfl) (pmk_oex T.ox T.iC T.tI GI hr3 bI .nil pass0 (by rfl) T.g (pa_cons (pv 2) pa_nil)))) pss_nil)))
        (pss_one (ps_ret (pe_callTy call_tuple_of (by rfl) mt (by decide +kernel) (pa_cons (pe_callB (cr_sortedDuo rfl) (by rfl) mso (by decide +kernel) (pa_cons (pe_callTy (cr_setOfA rfl hr.units) (by rfl) ms PyProof.Rows.boot_set (pa_cons (pv 1) pa_nil)) pa_nil)) pa_nil))))), ?_⟩
      refine ⟨.ref l, rfl, (by show 2 ≤ sizeLine; decide), fun U hU => ?_⟩
      have s1 : Same H (upd H U (.tup [.ty "list", .ty "tuple"])) := same_new hU
      obtain ⟨ty, hty, k⟩ := (hl.same s1).lt
      refine ⟨.ref l, U, _, ty, _, true, rfl, upd_same, .cons (.ty _) (.cons (.ty _) .nil), hty, k, true, rfl, iteF ?_⟩
      generalize upd H U (.tup [.ty "list", .ty "tuple"]) = H1 at s1 ⊢
      refine ⟨.ref l, rfl, l, rfl, ⟨_, s1.seq sq⟩, for_list (K := K) (a := l) (xs := ks.map (fun p => V.ref p.1) ++ rest) (fun i σ H' => (∃ v, σ = [some (.ref t), some (.ref l), v]) ∧ Same H H' ∧ i ≤ ks.length) ⟨⟨none, rfl⟩, s1, Nat.zero_le _⟩ (fun i σ H' _ h => h.2.1.seq sq) ?_ ?_⟩
      · rintro i z σ H' hz ⟨⟨v, rfl⟩, s2, hi⟩
        rcases each i z hz with ⟨hi2, p, hp, rfl⟩ | ⟨more, er⟩ | c
        · obtain ⟨xs, e, l1, it, b⟩ := barOk_pair (hk p hp)
          refine ⟨.ref t, rfl, .ref p.1, rfl, t, ds, .ref p.1, rfl, same_seqT s2 ht, .inr ⟨p.1, xs, rfl, s2 _ _ e, l1, (fun y hy => (it y hy).same s2), fun H3 s3 => ⟨_, rfl, ?_⟩⟩⟩
          rw [b]
          exact iteF ⟨⟨_, rfl⟩, s2.trans s3, hi2⟩
        · rcases h with ⟨y, m2, e2, bad, hE⟩ | ⟨e2, _⟩
          · rw [er] at e2
            cases e2
            refine ⟨.ref t, rfl, z, rfl, t, ds, z, rfl, same_seqT s2 ht, ?_⟩
            have go : ∀ {H3 : Hp}, Same H H3 → _ := fun {H3} s3 => raised_ok (K := K) (σ := [some (.ref t), some (.ref l), some z]) (D := { nx := fun _ H' => Q .non H', rt := Q }) hE s3
            rcases bad with no | ⟨p, xs, rfl, hp, l1, it, b⟩
            · exact .inl ⟨no.same s2, false, rfl, iteT ⟨z, rfl, go s2⟩⟩
            · refine .inr ⟨p, xs, rfl, s2 _ _ hp, l1, (fun y hy => (it y hy).same s2), fun H3 s3 => ⟨_, rfl, ?_⟩⟩
              rw [b]
              exact iteT ⟨.ref p, rfl, go (s2.trans s3)⟩
          · rw [er] at e2
            cases e2
        · omega
      · rintro σ H' ⟨⟨v, rfl⟩, s2, hi⟩
        rw [List.length_append, List.length_map] at hi
        have er : rest = [] := List.eq_nil_of_length_eq_zero (by omega)
        rcases h with ⟨y, m2, e2, _⟩ | ⟨_, q⟩
        · rw [er] at e2
          cases e2
        subst er
        rw [List.append_nil] at sq
        refine ⟨.ref l, rfl, l, ks, rfl, .inl (s2.seq sq), tups H' s2, few, fun S L hS sub all => ?_⟩
        have s3 : Same H (upd H' S (SetTO P w S L)) := s2.trans (same_new hS)
        refine ⟨S, L, rfl, upd_same, fun p hp => tups _ s3 p (sub p hp), fun p hp => ?_, fun L' D pm nd sh pw hD => ?_⟩
        · obtain ⟨x, y, e, _⟩ := hk p (sub p hp)
          rw [e]
          rfl
        have s4 : Same H (upd (upd H' S (SetTO P w S L)) D (.lst (L'.map fun q => V.ref q.1))) := s3.trans (same_new hD)
        refine ⟨D, _, rfl, .inl ⟨SqL.of upd_same, fun r hr2 => ?_⟩⟩
        exact q L' r _ (fun p hp => sub p (pm.mem_iff.mp hp)) (fun p hp => (pm.map (·.2)).mem_iff.mpr (all p hp)) nd pw (Same.store s4 (s4.free hr2)) upd_same
    · refine ⟨_, pss_cons (ps_if (pt_not (pt_val (pe_callB call_isiT (by rfl) mis PyProof.Rows.boot_isinstance (pa_cons (pv 1) (pa_cons (pe_tup (pa_cons (pe_bltn (v := .ty "list") (by rfl) mli PyProof.Rows.boot_list rfl) (pa_cons (pe_bltn (v := .ty "tuple") (by rfl) mt (by decide +kernel) rfl) pa_nil))) pa_nil)))))
          (pss_one (ps_raise rfl (takes_of rfl rfl rfl rfl) (pmk_oex T.ox T.iC T.tI GI hr3 bI .nil pass0 (by rfl) T.g (pa_cons (pv 1) pa_nil)))) pss_nil)
        (pss_cons (ps_for (passes_of rfl) rfl (pi_tup (pv 1)) (pg_name (i := 2) scDp.nd rfl (.inl rfl))
          (pss_one (ps_if (pt_not (pt_val (pe_call GO hr (by rfl) gO kO bO .nil pass0 (pa_cons (pv 0) (pa_cons (pv 2) pa_nil)))))
            (pss_one (ps_raise rfl (takes_of rfl rfl rfl rfl) (pmk_oex T.ox T.iC T.tI GI hr3 bI .nil pass0 (by rfl) T.g (pa_cons (pv 2) pa_nil)))) pss_nil)))
        (pss_one (ps_ret (pe_callTy call_tuple_of (by rfl) mt (by decide +kernel) (pa_cons (pe_callB (cr_sortedDuo rfl) (by rfl) mso (by decide +kernel) (pa_cons (pe_callTy (cr_setOfA rfl hr.units) (by rfl) ms PyProof.Rows.boot_set (pa_cons (pv 1) pa_nil)) pa_nil)) pa_nil))))), ?_⟩
      refine ⟨.ref l, rfl, (by show 2 ≤ sizeLine; decide), fun U hU => ?_⟩
      have s1 : Same H (upd H U (.tup [.ty "list", .ty "tuple"])) := same_new hU
      obtain ⟨ty, hty, k⟩ := (hl.same s1).lt
      refine ⟨.ref l, U, _, ty, _, true, rfl, upd_same, .cons (.ty _) (.cons (.ty _) .nil), hty, k, true, rfl, iteF ?_⟩
      generalize upd H U (.tup [.ty "list", .ty "tuple"]) = H1 at s1 ⊢
      refine ⟨.ref l, rfl, l, rfl, ⟨_, same_seqT s1 sq⟩, for_tup (K := K) (a := l) (xs := ks.map (fun p => V.ref p.1) ++ rest) (fun i σ H' => (∃ v, σ = [some (.ref t), some (.ref l), v]) ∧ Same H H' ∧ i ≤ ks.length) ⟨⟨none, rfl⟩, s1, Nat.zero_le _⟩ (fun i σ H' _ h => same_seqT h.2.1 sq) ?_ ?_⟩
      · rintro i z σ H' hz ⟨⟨v, rfl⟩, s2, hi⟩
        rcases each i z hz with ⟨hi2, p, hp, rfl⟩ | ⟨more, er⟩ | c
        · obtain ⟨xs, e, l1, it, b⟩ := barOk_pair (hk p hp)
          refine ⟨.ref t, rfl, .ref p.1, rfl, t, ds, .ref p.1, rfl, same_seqT s2 ht, .inr ⟨p.1, xs, rfl, s2 _ _ e, l1, (fun y hy => (it y hy).same s2), fun H3 s3 => ⟨_, rfl, ?_⟩⟩⟩
          rw [b]
          exact iteF ⟨⟨_, rfl⟩, s2.trans s3, hi2⟩
        · rcases h with ⟨y, m2, e2, bad, hE⟩ | ⟨e2, _⟩
          · rw [er] at e2
            cases e2
            refine ⟨.ref t, rfl, z, rfl, t, ds, z, rfl, same_seqT s2 ht, ?_⟩
            have go : ∀ {H3 : Hp}, Same H H3 → _ := fun {H3} s3 => raised_ok (K := K) (σ := [some (.ref t), some (.ref l), some z]) (D := { nx := fun _ H' => Q .non H', rt := Q }) hE s3
            rcases bad with no | ⟨p, xs, rfl, hp, l1, it, b⟩
            · exact .inl ⟨no.same s2, false, rfl, iteT ⟨z, rfl, go s2⟩⟩
            · refine .inr ⟨p, xs, rfl, s2 _ _ hp, l1, (fun y hy => (it y hy).same s2), fun H3 s3 => ⟨_, rfl, ?_⟩⟩
              rw [b]
              exact iteT ⟨.ref p, rfl, go (s2.trans s3)⟩
          · rw [er] at e2
            cases e2
        · omega
      · rintro σ H' ⟨⟨v, rfl⟩, s2, hi⟩
        rw [List.length_append, List.length_map] at hi
        have er : rest = [] := List.eq_nil_of_length_eq_zero (by omega)
        rcases h with ⟨y, m2, e2, _⟩ | ⟨_, q⟩
        · rw [er] at e2
          cases e2
        subst er
        rw [List.append_nil] at sq
        refine ⟨.ref l, rfl, l, ks, rfl, .inr (same_seqT s2 sq), tups H' s2, few, fun S L hS sub all => ?_⟩
        have s3 : Same H (upd H' S (SetTO P w S L)) := s2.trans (same_new hS)
        refine ⟨S, L, rfl, upd_same, fun p hp => tups _ s3 p (sub p hp), fun p hp => ?_, fun L' D pm nd sh pw hD => ?_⟩
        · obtain ⟨x, y, e, _⟩ := hk p (sub p hp)
          rw [e]
          rfl
        have s4 : Same H (upd (upd H' S (SetTO P w S L)) D (.lst (L'.map fun q => V.ref q.1))) := s3.trans (same_new hD)
        refine ⟨D, _, rfl, .inl ⟨SqL.of upd_same, fun r hr2 => ?_⟩⟩
        exact q L' r _ (fun p hp => sub p (pm.mem_iff.mp hp)) (fun p hp => (pm.map (·.2)).mem_iff.mpr (all p hp)) nd pw (Same.store s4 (s4.free hr2)) upd_same
end
end K66
/-! C(e, .., k = v, ..) within a try: __init__ may raise. -/
namespace OF
open PySem PySem.Spec PyProof.Rows L2
section
variable {X : Cx} {CX : CXT} {k n : Nat} {f C : Addr} {fd : FuncData} {ps ks : List Str} {sp : Sp} {E : L2.St → XK} {x : Str} {p pos : Pos} {e : Expr} {es : List Expr} {kws : List Keyword} {t tk : TA} {g : List Value → List Value → List Value} {gV : List V → List V → List V}
def tMakeS (C : Addr) (n m : Nat) (sp : Sp) (gV : List V → List V → List V) (E : L2.St → XK) (t tk : TA) : TE := fun σ H Q =>
  t σ H fun vs H1 => tk σ H1 fun zs H2 => vs.length = n ∧ zs.length = m ∧ ∀ o d, H2 o = none → H2 d = none → d ≠ o →
    sp (gV (.ref o :: vs) zs) (upd (upd H2 d (.own o)) o (.ins C d [])) (fun v H3 => v = .non ∧ Q (.ref o) H3) (E σ)
theorem pe_makeS (M : Mk X.K C f) (F : FnOk X.prog X.w X.K X.mg X.base CX k f fd ps sp) (hr : Room (k + 1) X.A) (hg : Gl X x) (hm : X.mg x = some (.ref C)) (hb : KBn X.K fd ps (n + 1) ks g gV)
    (hx : ∀ σ, PassesAt CX X σ (E σ)) (ha : PA X (e :: es) t) (hkw : PK X kws tk)
    (named : (backToKw pos (keywordEach kws X.env)).all (·.1.isSome) = true := by rfl) (names : (backToKw pos (keywordEach kws X.env)).filterMap (·.1) = ks := by rfl) (nodbg : (x == ("__debug__" : Str)) = false := by decide)
    (st : starEach (e :: es) X.env = (false, eval e X.env) :: starEach es X.env := by rfl) (nostar : ((backTo pos (starEach (e :: es) X.env)).any (·.1) || (backToKw pos (keywordEach kws X.env)).any (·.1.isNone)) = false := by rfl) :
    PE X (.Call (.Name x p) (e :: es) kws pos) (tMakeS C n ks.length sp gV E t tk) := by
  constructor
  intro pins s σ H Q I reading
  apply wpAny_Call_Name_kw
  refine ld_glob I hg hm ?_ nodbg
  refine PySem.W.callWith_KW (h₀ := X.base) I.ok.mod.kin M.kp named (thn (ha.run pos pins s σ H _ I reading) ?_) nostar st
  rintro us sA ⟨vs, HA, IA, rv, qA⟩
  refine thn (hkw.run pos pins sA σ HA _ IA qA) ?_
  rintro ws sB ⟨zs, HB, IB, rw_, l1, l2, qB⟩
  refine ⟨IB.kIn, ?_⟩
  rw [names]
  have below : HB sB.heap.objs.size = none := IB.hok.fresh (Nat.le_refl _)
  have above : HB (sB.heap.objs.size + 1) = none := IB.hok.fresh (Nat.le_succ _)
  have want := qB (sB.heap.objs.size + 1) sB.heap.objs.size above below (Nat.ne_of_lt (Nat.lt_succ_self _))
  have IC := Inv.made (C := C) IB
  have r1 : Vals (V.ref (sB.heap.objs.size + 1) :: vs) (Value.ref (sB.heap.objs.size + 1) :: us) := .cons rfl rv
  have r2 := hb.rel r1 rw_
  have many : (Value.ref (sB.heap.objs.size + 1) :: us).length = n + 1 := by
    rw [List.length_cons, ← rv.length, l1]
  have bound := hb.to _ (Value.ref (sB.heap.objs.size + 1) :: us) ws IC.kIn many (rw_.length.symm.trans l2)
  have ran := F.run _ X.stack _ _ ⟨Value.ref (sB.heap.objs.size + 1) :: us, ks.zip ws⟩ (g (Value.ref (sB.heap.objs.size + 1) :: us) ws) _ _ (E σ) (hr.make C us (ks.zip ws)) (IC.env0.make C us (ks.zip ws)) bound r2 want
  refine wpAny_call (make_map (f := f) IB.kIn M.makes M.init (beq_iff_eq.mp M.fn) (codeAny_mono ran ?_))
  intro r sC got
  match r, got with
  | .error er, got => exact hx σ pins _ _ er sC IC got
  | .ok (.ret u), got =>
    obtain ⟨v, HC, ID, rv2, ev, q3⟩ := IC.after got
    subst ev
    exact ⟨rv2, V.ref (sB.heap.objs.size + 1), HC, ID, rfl, q3⟩
  | .ok .next, got => exact got.elim
  | .ok .brk, got => exact got.elim
  | .ok .cont, got => exact got.elim
end
end OF
namespace K66
open PySem PySem.Spec PyProof.Rows L2 OF
section
variable {P : Program} {w : World} {K : PySem.W.Frag} {mg : Str → Option Value} {base : Heap}

/-! ### what stays while a new instance is filled -/
/-- an instance of the class stands at a -/
def InsAt (H : Hp) (a : Addr) : Prop := ∃ C dx fs, H a = some (.ins C dx fs)
theorem InsAt.ne {H : Hp} {a p : Addr} {o : HO} (h : InsAt H a) (e : H p = some o) (n : ∀ C dx fs, o ≠ .ins C dx fs) : p ≠ a := fun z => by
  obtain ⟨C, dx, fs, i⟩ := h
  rw [z, i] at e
  exact n _ _ _ (Option.some.inj e).symm
section
variable {a : Addr} {H H' : Hp} (I : InsAt H a) (t : But a H H')
include I t
theorem odd_but {x : V} (h : Odd H x) : Odd H' x := by
  cases h with
  | non => exact .non
  | bl b => exact .bl b
  | str z => exact .str z
  | lst e => exact .lst (t _ _ (I.ne e fun _ _ _ z => by cases z) e)
  | tup e => exact .tup (t _ _ (I.ne e fun _ _ _ z => by cases z) e)
  | dK e => exact .dK (t _ _ (I.ne e fun _ _ _ z => by cases z) e)
theorem item_but {x : V} (h : ItemOk H x) : ItemOk H' x := h.imp id fun o => odd_but I t o
theorem noseq_but {x : V} (h : NoSeq H x) : NoSeq H' x := by
  cases h with
  | int n => exact .int n
  | non => exact .non
  | bl b => exact .bl b
  | str z => exact .str z
  | dK e => exact .dK (t _ _ (I.ne e fun _ _ _ z => by cases z) e)
theorem notup_but {x : V} (h : NoTup H x) : NoTup H' x := by
  cases h with
  | no h => exact .no (noseq_but I t h)
  | lst e => exact .lst (t _ _ (I.ne e fun _ _ _ z => by cases z) e)
theorem seqT_but {p : Addr} {xs : List V} (h : SqT K H p xs) : SqT K H' p xs := by
  rcases h with (h | ⟨o, h⟩) | h
  · exact .inl (.inl (t _ _ (I.ne h fun _ _ _ z => by cases z) h))
  · exact .inl (.inr ⟨o, t _ _ (I.ne h fun _ _ _ z => by cases z) h⟩)
  · exact .inr h
theorem isseq_but {p : Addr} {xs : List V} (h : IsSeq K H p xs) : IsSeq K H' p xs := by
  cases h with
  | lst e => exact .lst (t _ _ (I.ne e fun _ _ _ z => by cases z) e)
  | tup e => exact .tup (t _ _ (I.ne e fun _ _ _ z => by cases z) e)
  | kt e c h => exact .kt e c (seqT_but I t h)
theorem bad_but {ds : List Int} {x : V} (h : BadBar H ds x) : BadBar H' ds x := by
  rcases h with h | ⟨p, xs, e, hp, l, it, b⟩
  · exact .inl (notup_but I t h)
  · exact .inr ⟨p, xs, e, t _ _ (I.ne hp fun _ _ _ z => by cases z) hp, l, fun y hy => item_but I t (it y hy), b⟩
theorem bar_but {ds : List Int} {p : Addr × List Int} (h : BarOk H ds p) : BarOk H' ds p := by
  obtain ⟨x, y, e, hp, z⟩ := h
  exact ⟨x, y, e, t _ _ (I.ne hp fun _ _ _ z => by cases z) hp, z⟩
end
/-- a raised error while the instance at a is being filled -/
def RaisedA (a C : Addr) (f : Str) (v : V) (H : Hp) (E : XK) : Prop := ∀ (fs : List (Str × V)) (d : Addr) (H' : Hp), H d = none → But a H H' → H' d = some (.xd ((f, v) :: fs)) → E (.ref C) (some d) H'
theorem RaisedA.at_ {a C : Addr} {f : Str} {v : V} {H H1 : Hp} {E : XK} (h : RaisedA a C f v H E) (I : InsAt H1 a) (t : But a H H1) : Raised C f v H1 E := fun fs d H' hd s ed => by
  have nd : H d = none := by
    by_cases e : d = a
    · obtain ⟨C2, dx, fs, i⟩ := I
      rw [e, i] at hd
      cases hd
    · rcases Option.eq_none_or_eq_some (H d) with z | ⟨o, z⟩
      · exact z
      · rw [t d o e z] at hd
        cases hd
  exact h fs d H' nd (t.trans (But.of_same s)) ed
theorem isOne_mem {ds ns : List Int} (m : ∀ k, k ∈ ds ↔ k ∈ ns) (n : Int) : isOne ds n = isOne ns n := by
  unfold isOne
  rw [decide_eq_decide.mpr (m n)]
theorem oneV_mem {ds ns : List Int} (m : ∀ k, k ∈ ds ↔ k ∈ ns) (x : V) : oneV ds x = oneV ns x := by
  cases x <;> first | rfl | exact isOne_mem m _
theorem pairB_mem {ds ns : List Int} (m : ∀ k, k ∈ ds ↔ k ∈ ns) (xs : List V) : pairB ds xs = pairB ns xs := by
  unfold pairB
  rw [show oneV ds = oneV ns from funext fun x => oneV_mem m x]
theorem BarOk.mem_ {H : Hp} {ds ns : List Int} {p : Addr × List Int} (m : ∀ k, k ∈ ds ↔ k ∈ ns) (h : BarOk H ns p) : BarOk H ds p := by
  obtain ⟨x, y, e, hp, h1, h2⟩ := h
  exact ⟨x, y, e, hp, by rw [isOne_mem m, h1], by rw [isOne_mem m, h2]⟩
theorem BadBar.mem_ {H : Hp} {ds ns : List Int} {x : V} (m : ∀ k, k ∈ ds ↔ k ∈ ns) (h : BadBar H ns x) : BadBar H ds x := by
  rcases h with h | ⟨p, xs, e, hp, l, it, b⟩
  · exact .inl h
  · exact .inr ⟨p, xs, e, hp, l, it, by rw [pairB_mem m, b]⟩
def baseV : V → Bool
  | .int n => isBase n
  | _ => false
/-- the number of different ones is from 1 to 6 -/
def SixOf (ns : List Int) (six : Bool) : Prop := ∀ ks : List Int, ks.Nodup → (∀ k, k ∈ ks ↔ k ∈ ns) → (decide (1 ≤ ks.length) && decide (ks.length ≤ 6)) = six
/-- Scheme.__init__ of any values -/
def spNew (K : PySem.W.Frag) (C CB CD CP : Addr) : Sp := fun vs H Q E => ∃ (a dx : Addr) (x y z : V), vs = [.ref a, x, y, z] ∧ H a = some (.ins C dx []) ∧ ((ItemOk H x ∧ baseV x = false ∧ RaisedA a CB "value" x H E) ∨ ∃ b : Int, x = .int b ∧ isBase b = true ∧
  ((NoSeq H y ∧ RaisedA a CD "value" y H E) ∨ ∃ (p : Addr) (xs : List V), y = .ref p ∧ IsSeq K H p xs ∧ (∀ v ∈ xs, ItemOk H v) ∧ xs.length ≤ 60 ∧ (xs.all digV = false → RaisedA a CD "value" y H E) ∧
    ∀ ns : List Int, xs = ns.map V.int → ns.all dig = true → ∃ six : Bool, SixOf ns six ∧ (six = false → RaisedA a CD "value" y H E) ∧ (six = true →
      ((NoSeq H z ∧ RaisedA a CP "value" z H E) ∨ ∃ (l : Addr) (ks : List (Addr × List Int)) (rest : List V), z = .ref l ∧ IsSeq K H l (ks.map (fun p => V.ref p.1) ++ rest) ∧ ks.length < 64 ∧ (∀ p ∈ ks, BarOk H ns p) ∧
        ((∃ (u : V) (more : List V), rest = u :: more ∧ BadBar H ns u ∧ RaisedA a CP "value" u H E) ∨ (rest = [] ∧
          ∀ (ds : List Int) (L : List (Addr × List Int)) (t r : Addr) (H' : Hp), ds.Pairwise (· < ·) → (∀ k, k ∈ ds ↔ k ∈ ns) → (∀ p ∈ L, p ∈ ks) → (∀ p ∈ ks, p.2 ∈ L.map (·.2)) → (L.map (·.2)).Nodup → L.Pairwise (fun q r => SrtO.lexB (duo r.2) (duo q.2) = false) →
            But a H H' → H' a = some (.ins C dx [("_base", .int b), ("_digits", .ref t), ("_bars", .ref r)]) → H' t = some (.tup (ds.map V.int)) → H' r = some (.tup (L.map fun q => V.ref q.1)) → Q .non H'))))))
theorem scNew : FnScope ["self", "base", "digits", "bars"] ["self", "base", "digits", "bars"] (defScope sInit) := ⟨rfl, rfl, rfl, by decide +kernel, rfl, by decide +kernel, by decide +kernel⟩
set_option maxHeartbeats 2000000 in
theorem ok_new {f fB fD fP fI C CB CD CP : Addr} {fd fdB fdD fdP fdI : FuncData} (G : ∃ kws, FunD K "__init__" "Scheme.__init__" (defArgs sInit) (defBody sInit) (defScope sInit) [] kws f fd) (c : Cls K C) (n1 : NoAttr K C "_base") (n2 : NoAttr K C "_digits") (n3 : NoAttr K C "_bars")
    (GB : FnOk P w K mg base CX0 3 fB fdB ["value"] spIsBase) (gB : mg "is_base" = some (.ref fB)) (kB : PySem.W.keepIn K (.ref fB) = true) (bB : Binds K fdB ["value"] [])
    (GD : FnOk P w K mg base (L2.CX P w) 6 fD fdD ["digits"] (spDiffDig K CD)) (gD : mg "_different_digits" = some (.ref fD)) (kD : PySem.W.keepIn K (.ref fD) = true) (bD : Binds K fdD ["digits"] [])
    (GP : FnOk P w K mg base (L2.CX P w) 6 fP fdP ["digits", "bars"] (spDiffPair K CP)) (gP : mg "_different_pairs" = some (.ref fP)) (kP : PySem.W.keepIn K (.ref fP) = true) (bP : Binds K fdP ["digits", "bars"] [])
    (GI : FnOk P w K mg base CX0 3 fI fdI ["self", "value"] (spInit K "value" CB)) (T : ErrC K mg "InvalidBase" "value" CB fI) (bI : Binds K fdI ["self", "value"] []) :
    FnOk P w K mg base (L2.CX P w) 7 f fd ["self", "base", "digits", "bars"] (spNew K C CB CD CP) := by
  obtain ⟨kws, F⟩ := G
  refine F.ok scNew (fun vs H Q E h => ?_) (fun cdv A outer s H vs Q E hr h => ?_)
  · obtain ⟨a, dx, x, y, z, rfl, _⟩ := h
    rfl
  · obtain ⟨a, dx, x, y, z, rfl, ha, h⟩ := h
    have hr2 : Room 3 _ := hr.mono (by decide)
    have hr3 : Room 4 _ := hr.mono (by decide)
    have I0 : InsAt H a := ⟨_, _, _, ha⟩
    apply Exists.intro
    apply And.intro
    · apply pss_cons
      · exact ps_if (pt_not (pt_val (pe_call GB hr2 (by rfl) gB kB bB .nil pass0 (pa_cons (pv 1) pa_nil))))
          (pss_one (ps_raise rfl (takes_of rfl rfl rfl rfl) (pmk_oex T.ox T.iC T.tI GI hr3 bI .nil pass0 (by rfl) T.g (pa_cons (pv 1) pa_nil)))) pss_nil
      apply pss_cons
      · exact ps_fld (pv 0) (pv 1) rfl
      apply pss_cons
      · exact ps_fld (pv 0) (pe_call GD hr (by rfl) gD kD bD .nil (passes_call (W := fun cl d _ J => E cl d J) (takes_of rfl rfl rfl rfl) (fun _ _ _ _ z => z)) (pa_cons (pv 2) pa_nil)) rfl
      apply pss_one
      · exact ps_fld (pv 0) (pe_call GP hr (by rfl) gP kP bP .nil (passes_call (W := fun cl d _ J => E cl d J) (takes_of rfl rfl rfl rfl) (fun _ _ _ _ z => z)) (pa_cons (pe_fld (pv 0) rfl) (pa_cons (pv 3) pa_nil))) rfl
    rcases h with ⟨ix, bx, hE⟩ | ⟨b, rfl, hb, h⟩
    · have go := raised_ok (K := K) (σ := start ["self", "base", "digits", "bars"] [.ref a, x, y, z]) (D := { nx := fun _ H' => Q .non H', rt := Q }) (hE.at_ I0 But.refl) (Same.refl H)
      rcases ix with ⟨n, rfl⟩ | o
      · refine ⟨.int n, rfl, .int n, rfl, .inl ⟨n, rfl, ?_⟩⟩
        rw [show isBase n = false from bx]
        exact ⟨false, rfl, iteT ⟨.int n, rfl, go⟩⟩
      · exact ⟨x, rfl, x, rfl, .inr ⟨o, false, rfl, iteT ⟨x, rfl, go⟩⟩⟩
    refine ⟨.int b, rfl, .int b, rfl, .inl ⟨b, rfl, ?_⟩⟩
    rw [hb]
    refine ⟨true, rfl, iteF ?_⟩
    refine ⟨.int b, rfl, .ref a, rfl, a, C, dx, [], rfl, ha, c, n1, (by show 0 < 1000; decide), ?_⟩
    have t1 : But a H (upd H a (.ins C dx (putF "_base" (.int b) []))) := But.at_
    have e1 : (upd H a (.ins C dx (putF "_base" (.int b) []))) a = some (.ins C dx [("_base", .int b)]) := upd_same
    generalize upd H a (.ins C dx (putF "_base" (.int b) [])) = H1 at t1 e1 ⊢
    have I1 : InsAt H1 a := ⟨_, _, _, e1⟩
    rcases h with ⟨no, hE⟩ | ⟨p, xs, rfl, hp, it, hl, hE, h⟩
    · exact ⟨y, rfl, y, rfl, .inl ⟨noseq_but I0 t1 no, hE.at_ I1 t1⟩⟩
    refine ⟨.ref p, rfl, .ref p, rfl, .inr ⟨p, xs, rfl, isseq_but I0 t1 hp, (fun v hv => item_but I0 t1 (it v hv)), hl, (fun e => (hE e).at_ I1 t1), fun ns en hn => ?_⟩⟩
    obtain ⟨six, h6, hE6, h⟩ := h ns en hn
    refine ⟨six, h6, (fun e => (hE6 e).at_ I1 t1), fun e6 ds t H2 asc mds s2 ht et => ?_⟩
    have e2 : H2 a = some (.ins C dx [("_base", .int b)]) := s2 _ _ e1
    have nt : t ≠ a := fun z => by
      rw [z, e2] at et
      cases et
    refine ⟨.ref a, rfl, a, C, dx, _, rfl, e2, c, n2, (by show 1 < 1000; decide), ?_⟩
    have t3 : But a H (upd H2 a (.ins C dx (putF "_digits" (.ref t) [("_base", .int b)]))) := t1.trans ((But.of_same s2).trans But.at_)
    have e3 : (upd H2 a (.ins C dx (putF "_digits" (.ref t) [("_base", .int b)]))) a = some (.ins C dx (putF "_digits" (.ref t) [("_base", .int b)])) := upd_same
    have et3 : (upd H2 a (.ins C dx (putF "_digits" (.ref t) [("_base", .int b)]))) t = some (.tup (ds.map V.int)) := by rw [upd_ne nt]; exact et
    generalize upd H2 a (.ins C dx (putF "_digits" (.ref t) [("_base", .int b)])) = H3 at t3 e3 et3 ⊢
    have I3 : InsAt H3 a := ⟨_, _, _, e3⟩
    refine ⟨.ref a, rfl, a, C, dx, _, .ref t, rfl, e3, c, n2, (by rw [lookup_putF, if_pos rfl]), z, rfl, t, ds, z, rfl, SqT.of et3, ?_⟩
    rcases h e6 with ⟨no, hP⟩ | ⟨l, ks, rest, rfl, hl2, few, hk, h⟩
    · exact .inl ⟨noseq_but I0 t3 no, hP.at_ I3 t3⟩
    refine .inr ⟨l, ks, rest, rfl, isseq_but I0 t3 hl2, few, (fun p hp => (bar_but I0 t3 (hk p hp)).mem_ mds), ?_⟩
    rcases h with ⟨u, more, er, bad, hP⟩ | ⟨er, q⟩
    · exact .inl ⟨u, more, er, (bad_but I0 t3 bad).mem_ mds, hP.at_ I3 t3⟩
    refine .inr ⟨er, fun L r H4 sub all nd pw s4 er2 => ?_⟩
    have e4 := s4 _ _ e3
    have nr : r ≠ a := fun z => by
      rw [z, e4] at er2
      cases er2
    refine ⟨.ref a, rfl, a, C, dx, _, rfl, e4, c, n3, (by show 2 < 1000; decide), ?_⟩
    exact q ds L t r _ asc mds sub all nd pw (t3.trans ((But.of_same s4).trans But.at_)) upd_same (by rw [upd_ne nt]; exact s4 _ _ et3) (by rw [upd_ne nr]; exact er2)
end
end K66
namespace K66
open PySem PySem.Spec PyProof.Rows L2 OF
abbrev sPBase : Stmt := inClass (topS 29) 1
abbrev sPDigits : Stmt := inClass (topS 29) 2
abbrev sPBars : Stmt := inClass (topS 29) 3
abbrev sEq : Stmt := inClass (topS 29) 4
abbrev sLen : Stmt := inClass (topS 29) 5
section
variable {P : Program} {w : World} {K : PySem.W.Frag} {mg : Str → Option Value} {base : Heap}
/-! ### a scheme that stands in the heap -/
def pd2 (p : Int × Int) : PyData := .tuple [.int p.1, .int p.2]
structure SchemeAt (C : Addr) (H : Hp) (a t r : Addr) (b : Int) (ds : List Int) (ks : List (Addr × (Int × Int))) : Prop where
  ins : ∃ dx, H a = some (.ins C dx [("_base", .int b), ("_digits", .ref t), ("_bars", .ref r)])
  dig : H t = some (.tup (ds.map V.int))
  bar : H r = some (.tup (ks.map fun p => V.ref p.1))
  prs : ∀ p ∈ ks, H p.1 = some (.tup [.int p.2.1, .int p.2.2])
theorem SchemeAt.same {C : Addr} {H H' : Hp} {a t r : Addr} {b : Int} {ds : List Int} {ks : List (Addr × (Int × Int))} (h : SchemeAt C H a t r b ds ks) (s : Same H H') : SchemeAt C H' a t r b ds ks := by
  obtain ⟨⟨dx, h1⟩, h2, h3, h4⟩ := h
  exact ⟨⟨dx, s _ _ h1⟩, s _ _ h2, s _ _ h3, fun p hp => s _ _ (h4 p hp)⟩
theorem bars_dp {K : PySem.W.Frag} {H : Hp} : ∀ ks : List (Addr × (Int × Int)), (∀ p ∈ ks, H p.1 = some (.tup [.int p.2.1, .int p.2.2])) → DpAll K H (ks.map fun p => V.ref p.1) (ks.map fun p => pd2 p.2)
  | [], _ => .nil
  | p :: ks, h => .cons (.tup (SqT.of (h p List.mem_cons_self)) (.cons (.int _) (.cons (.int _) .nil))) (bars_dp ks fun q hq => h q (List.mem_cons_of_mem _ hq))
theorem bars_can : ∀ ks : List (Addr × (Int × Int)), PyData.canLayAll0 (ks.map fun p => pd2 p.2) = true ∧ PyData.depthAll (ks.map fun p => pd2 p.2) ≤ 1
  | [] => ⟨by simp only [List.map_nil, PyData.canLayAll0], by simp only [List.map_nil, PyData.depthAll]; omega⟩
  | p :: ks => by
    obtain ⟨h1, h2⟩ := bars_can ks
    refine ⟨?_, ?_⟩
    · rw [List.map_cons, PyData.canLayAll0, h1]
      simp only [pd2, PyData.canLay0, PyData.canLayAll0, Bool.and_true]
    · rw [List.map_cons, PyData.depthAll]
      simp only [pd2, PyData.depth, PyData.depthAll] at h2 ⊢
      omega
theorem bars_shaped (ks : List (Addr × (Int × Int))) : SeqAt.shaped (.tuple (ks.map fun p => pd2 p.2)) = true := by
  obtain ⟨h1, h2⟩ := bars_can ks
  refine shaped_of ?_ ?_
  · simp only [PyData.canLay0, h1]
  · simp only [PyData.depth]
    omega
theorem pd2_shaped (p : Int × Int) : SeqAt.shaped (pd2 p) = true := by
  refine shaped_of ?_ ?_
  · simp only [pd2, PyData.canLay0, PyData.canLayAll0, Bool.and_true]
  · simp only [pd2, PyData.depth, PyData.depthAll]
    omega
/-- whether a pair stands among the bars -/
def hasBar (ks : List (Addr × (Int × Int))) (n m : Int) : Bool := (ks.map fun p => pd2 p.2).any fun z => PyData.eqv z (pd2 (n, m))
theorem lk_digits {b : Int} {t r : Addr} : ([("_base", V.int b), ("_digits", .ref t), ("_bars", .ref r)] : List (Str × V)).lookup ("_digits" : Str) = some (.ref t) := by
  rw [lookup_put, if_neg (by decide), lookup_put, if_pos rfl]
theorem lk_bars {b : Int} {t r : Addr} : ([("_base", V.int b), ("_digits", .ref t), ("_bars", .ref r)] : List (Str × V)).lookup ("_bars" : Str) = some (.ref r) := by
  rw [lookup_put, if_neg (by decide), lookup_put, if_neg (by decide), lookup_put, if_pos rfl]
theorem lk_base {b : Int} {t r : Addr} : ([("_base", V.int b), ("_digits", .ref t), ("_bars", .ref r)] : List (Str × V)).lookup ("_base" : Str) = some (.int b) := by
  rw [lookup_put, if_pos rfl]
/-- what isinstance asks of the class -/
structure IsC (K : PySem.W.Frag) (C : Addr) : Prop where
  cl : Cls K C
  ha : PySem.W.findIn K (.ref C) "__class__" = some (some (.builtin "object.__class__"))
  hn : PySem.W.specialIn K (.builtin "object.__class__") "__get__" = some (some (.builtin "getset_descriptor.__get__"))
  ht : PySem.W.takesIn K (.builtin "object.__class__") = some true
  hm : PySem.W.mroIn K C (.type "object") = some true
  own : PySem.W.kitOne K (.ref C) (.ref C) = some true

/-- no built-in kind is of the class -/
def NotOf (K : PySem.W.Frag) (C : Addr) (H : Hp) (x : V) : Prop := ∃ t : Value, TyX K H x t ∧ PySem.W.kitOne K t (.ref C) = some false
def spEqS (C : Addr) : Sp := fun vs H Q _ => ∃ (a t r a2 t2 r2 : Addr) (b b2 : Int) (ds ds2 : List Int) (ks ks2 : List (Addr × (Int × Int))), vs = [.ref a, .ref a2] ∧ SchemeAt C H a t r b ds ks ∧ SchemeAt C H a2 t2 r2 b2 ds2 ks2 ∧ ds.length ≤ 60 ∧ ds2.length ≤ 60 ∧
  Q (.bl (decide (b = b2) && (PyData.eqv (.tuple (ds.map .int)) (.tuple (ds2.map .int)) && PyData.eqv (.tuple (ks.map fun p => pd2 p.2)) (.tuple (ks2.map fun p => pd2 p.2))))) H

/-- == of a scheme and any value -/
def spEqA (K : PySem.W.Frag) (C : Addr) : Sp := fun vs H Q E => spEqS C vs H Q E ∨ ∃ (a t r : Addr) (b : Int) (ds : List Int) (ks : List (Addr × (Int × Int))) (x : V), vs = [.ref a, x] ∧ SchemeAt C H a t r b ds ks ∧ NotOf K C H x ∧ Q (.bl false) H
theorem scEq : FnScope ["self", "other"] ["self", "other"] (defScope sEq) := ⟨rfl, rfl, rfl, by decide +kernel, rfl, by decide +kernel, by decide +kernel⟩
theorem dp_ints {K : PySem.W.Frag} {H : Hp} : ∀ ds : List Int, DpAll K H (ds.map V.int) (ds.map PyData.int)
  | [] => .nil
  | d :: ds => .cons (.int d) (dp_ints ds)
theorem ints_can : ∀ ds : List Int, PyData.canLayAll0 (ds.map PyData.int) = true ∧ PyData.depthAll (ds.map PyData.int) = 0
  | [] => ⟨by simp only [List.map_nil, PyData.canLayAll0], by simp only [List.map_nil, PyData.depthAll]⟩
  | d :: ds => by
    obtain ⟨h1, h2⟩ := ints_can ds
    refine ⟨?_, ?_⟩
    · rw [List.map_cons, PyData.canLayAll0, h1]
      simp only [PyData.canLay0, Bool.and_true]
    · rw [List.map_cons, PyData.depthAll, h2]
      simp only [PyData.depth, Nat.max_self]
theorem ints_shapedT (ds : List Int) : SeqAt.shaped (.tuple (ds.map .int)) = true := by
  obtain ⟨h1, h2⟩ := ints_can ds
  refine shaped_of ?_ ?_
  · simp only [PyData.canLay0, h1]
  · simp only [PyData.depth, h2]
    omega
theorem ints_shapedL (ds : List Int) : SeqAt.shaped (.list (ds.map .int)) = true := by
  obtain ⟨h1, h2⟩ := ints_can ds
  refine shaped_of ?_ ?_
  · simp only [PyData.canLay0, h1]
  · simp only [PyData.depth, h2]
    omega
set_option maxHeartbeats 1000000 in
theorem ok_eq {f C : Addr} {fd : FuncData} (F : Fun K "__eq__" "Scheme.__eq__" sEq f fd) (I : IsC K C) (n1 : NoAttr K C "_base") (n2 : NoAttr K C "_digits") (n3 : NoAttr K C "_bars") (gC : mg "Scheme" = some (.ref C)) (mis : mg "isinstance" = none) :
    FnOk P w K mg base CX0 1 f fd ["self", "other"] (spEqA K C) := by
  refine F.ok scEq (fun vs H Q E h => ?_) (fun cdv A outer s H vs Q E hr h => ?_)
  · rcases h with ⟨a, t, r, a2, t2, r2, b, b2, ds, ds2, ks, ks2, rfl, _⟩ | ⟨a, t, r, b, ds, ks, x, rfl, _⟩
    · rfl
    · rfl
  · apply Exists.intro
    apply And.intro
    · apply pss_one
      · exact ps_ret (pe_and (pe_callB call_isi (by rfl) mis PyProof.Rows.boot_isinstance (pa_cons (pv 1) (pa_cons (pe_glob (v := .ref C) (by rfl) gC rfl) pa_nil)))
          (pe_and (pe_cmpR op_eq (pe_fld (pv 0) rfl) (pe_fld (pv 1) rfl) (nomark _)) (pe_and (pe_cmpR (op_eqD hr.units) (pe_fld (pv 0) rfl) (pe_fld (pv 1) rfl) (nomark _)) (pe_one (pe_cmpR (op_eqD hr.units) (pe_fld (pv 0) rfl) (pe_fld (pv 1) rfl) (nomark _))))))
    rcases h with ⟨a, t, r, a2, t2, r2, b, b2, ds, ds2, ks, ks2, rfl, ⟨⟨dx, ha⟩, ht, hrr, hks⟩, ⟨⟨dx2, ha2⟩, ht2, hrr2, hks2⟩, l1, l2, q⟩ | ⟨a, t, r, b, ds, ks, x, rfl, S, ⟨ty, tyx, k⟩, q⟩
    case' inr => exact ⟨x, rfl, x, .ref C, ty, .ref C, false, rfl, .own C, tyx, k, false, rfl, iteF q⟩
    refine ⟨.ref a2, rfl, .ref a2, .ref C, .ref C, .ref C, true, rfl, .own C, .base (.ins ha2 I.cl I.ha I.hn I.ht I.hm), I.own, true, rfl, iteT ?_⟩
    refine ⟨.ref a, rfl, a, C, dx, _, .int b, rfl, ha, I.cl, n1, lk_base, .ref a2, rfl, a2, C, dx2, _, .int b2, rfl, ha2, I.cl, n1, lk_base, rfl, ?_⟩
    by_cases hb : b = b2
    · subst hb
      refine ⟨_, rfl, iteTB (decide_eq_true rfl) ?_⟩
      refine ⟨.ref a, rfl, a, C, dx, _, .ref t, rfl, ha, I.cl, n2, lk_digits, .ref a2, rfl, a2, C, dx2, _, .ref t2, rfl, ha2, I.cl, n2, lk_digits, .tuple (ds.map .int), .tuple (ds2.map .int), .tup (SqT.of ht) (dp_ints ds), .tup (SqT.of ht2) (dp_ints ds2), ints_shapedT ds, ints_shapedT ds2, _, rfl, ?_⟩
      rw [decide_eq_true rfl, Bool.true_and] at q
      refine iteAnd (fun z => ?_) q
      exact ⟨.ref a, rfl, a, C, dx, _, .ref r, rfl, ha, I.cl, n3, lk_bars, .ref a2, rfl, a2, C, dx2, _, .ref r2, rfl, ha2, I.cl, n3, lk_bars, .tuple (ks.map fun p => pd2 p.2), .tuple (ks2.map fun p => pd2 p.2), .tup (SqT.of hrr) (bars_dp ks hks), .tup (SqT.of hrr2) (bars_dp ks2 hks2), bars_shaped ks, bars_shaped ks2, z⟩
    · refine ⟨_, rfl, iteFB (decide_eq_false fun z => hb (V.int.inj z)) ?_⟩
      rw [decide_eq_false hb, Bool.false_and] at q
      exact q

/-! ### the properties, len -/
def spPB (C : Addr) : Sp := fun vs H Q _ => ∃ (a t r : Addr) (b : Int) (ds : List Int) (ks : List (Addr × (Int × Int))), vs = [.ref a] ∧ SchemeAt C H a t r b ds ks ∧ Q (.int b) H
def spPD (C : Addr) : Sp := fun vs H Q _ => ∃ (a t r : Addr) (b : Int) (ds : List Int) (ks : List (Addr × (Int × Int))), vs = [.ref a] ∧ SchemeAt C H a t r b ds ks ∧ Q (.ref t) H
def spPR (C : Addr) : Sp := fun vs H Q _ => ∃ (a t r : Addr) (b : Int) (ds : List Int) (ks : List (Addr × (Int × Int))), vs = [.ref a] ∧ SchemeAt C H a t r b ds ks ∧ Q (.ref r) H
def spLn (C : Addr) : Sp := fun vs H Q _ => ∃ (a t r : Addr) (b : Int) (ds : List Int) (ks : List (Addr × (Int × Int))), vs = [.ref a] ∧ SchemeAt C H a t r b ds ks ∧ Q (.int ds.length) H
theorem scPb : FnScope ["self"] ["self"] (defScope sPBase) := ⟨rfl, rfl, rfl, by decide +kernel, rfl, by decide +kernel, by decide +kernel⟩
theorem ok_pbase {f C : Addr} {fd : FuncData} (F : Fun K "base" "Scheme.base" sPBase f fd) (c : Cls K C) (n : NoAttr K C "_base") : FnOk P w K mg base CX0 1 f fd ["self"] (spPB C) := by
  refine F.ok scPb (fun vs H Q E h => ?_) (fun cdv A outer s H vs Q E hr h => ?_)
  · obtain ⟨a, t, r, b, ds, ks, rfl, _⟩ := h
    rfl
  · obtain ⟨a, t, r, b, ds, ks, rfl, S, q⟩ := h
    obtain ⟨⟨dx, hins⟩, _⟩ := id S
    exact ⟨_, pss_one (ps_ret (pe_fld (pv 0) rfl)), .ref a, rfl, a, C, dx, _, .int b, rfl, hins, c, n, lk_base, q⟩
theorem scPd : FnScope ["self"] ["self"] (defScope sPDigits) := ⟨rfl, rfl, rfl, by decide +kernel, rfl, by decide +kernel, by decide +kernel⟩
theorem ok_pdigits {f C : Addr} {fd : FuncData} (F : Fun K "digits" "Scheme.digits" sPDigits f fd) (c : Cls K C) (n : NoAttr K C "_digits") : FnOk P w K mg base CX0 1 f fd ["self"] (spPD C) := by
  refine F.ok scPd (fun vs H Q E h => ?_) (fun cdv A outer s H vs Q E hr h => ?_)
  · obtain ⟨a, t, r, b, ds, ks, rfl, _⟩ := h
    rfl
  · obtain ⟨a, t, r, b, ds, ks, rfl, S, q⟩ := h
    obtain ⟨⟨dx, hins⟩, _⟩ := id S
    exact ⟨_, pss_one (ps_ret (pe_fld (pv 0) rfl)), .ref a, rfl, a, C, dx, _, .ref t, rfl, hins, c, n, lk_digits, q⟩
theorem scPr : FnScope ["self"] ["self"] (defScope sPBars) := ⟨rfl, rfl, rfl, by decide +kernel, rfl, by decide +kernel, by decide +kernel⟩
theorem ok_pbars {f C : Addr} {fd : FuncData} (F : Fun K "bars" "Scheme.bars" sPBars f fd) (c : Cls K C) (n : NoAttr K C "_bars") : FnOk P w K mg base CX0 1 f fd ["self"] (spPR C) := by
  refine F.ok scPr (fun vs H Q E h => ?_) (fun cdv A outer s H vs Q E hr h => ?_)
  · obtain ⟨a, t, r, b, ds, ks, rfl, _⟩ := h
    rfl
  · obtain ⟨a, t, r, b, ds, ks, rfl, S, q⟩ := h
    obtain ⟨⟨dx, hins⟩, _⟩ := id S
    exact ⟨_, pss_one (ps_ret (pe_fld (pv 0) rfl)), .ref a, rfl, a, C, dx, _, .ref r, rfl, hins, c, n, lk_bars, q⟩
theorem scLn : FnScope ["self"] ["self"] (defScope sLen) := ⟨rfl, rfl, rfl, by decide +kernel, rfl, by decide +kernel, by decide +kernel⟩
theorem ok_len {f C : Addr} {fd : FuncData} (F : Fun K "__len__" "Scheme.__len__" sLen f fd) (c : Cls K C) (n : NoAttr K C "_digits") (ml : mg "len" = none) : FnOk P w K mg base CX0 1 f fd ["self"] (spLn C) := by
  refine F.ok scLn (fun vs H Q E h => ?_) (fun cdv A outer s H vs Q E hr h => ?_)
  · obtain ⟨a, t, r, b, ds, ks, rfl, _⟩ := h
    rfl
  · obtain ⟨a, t, r, b, ds, ks, rfl, S, q⟩ := h
    obtain ⟨⟨dx, hins⟩, ht, _⟩ := id S
    refine ⟨_, pss_one (ps_ret (pe_callB call_len_seq (by rfl) ml PySem.boot_len (pa_cons (pe_fld (pv 0) rfl) pa_nil))), .ref a, rfl, a, C, dx, _, .ref t, rfl, hins, c, n, lk_digits, t, _, rfl, .inr (SqT.of ht), ?_⟩
    rw [List.length_map]
    exact q
end
end K66
/-! len(o) of an own class with __len__; o == x, x an int or a tuple. -/
namespace OF
open PySem PySem.Spec PyProof.Rows L2
section
variable {X : Cx} {CX : CXT} {n : Nat} {f C : Addr} {fd : FuncData} {ps : List Str} {sp : Sp} {E : XK}
def rLenOwn (C : Addr) (sp : Sp) (E : XK) : List V → Hp → VK → Prop := fun xs H Q => ∃ a dx fs, xs = [.ref a] ∧ H a = some (.ins C dx fs) ∧ sp [.ref a] H (fun z H' => ∃ m : Nat, z = .int m ∧ m < 1000 ∧ Q (.int m) H') E
theorem call_lenOwn (hs : PySem.W.findIn X.K (.ref C) "__len__" = some (some (.ref f))) (hf : PySem.W.isFn X.K (.ref f) = true) (F : FnOk X.prog X.w X.K X.mg X.base CX n f fd ps sp) (hb : Binds X.K fd ps []) (hr : Room (n + 1) X.A) (hx : Passes CX X E) :
    CallR X (.builtin "len") (rLenOwn C sp E) := by
  intro pins s σ H xs us Q I r h
  obtain ⟨a, dx, fs, rfl, ha, q⟩ := h
  obtain ⟨u, rfl, ru⟩ := vals1 r
  cases ru
  obtain ⟨mA, J, _⟩ := ins_get I.hok ha
  obtain ⟨od, J, _⟩ := J.look
  obtain ⟨m, hF⟩ := I.fr
  refine PySem.W.len_K hF I.ok.mod.kin J hs hf ?_
  have bn := hb s [.ref a] I.kIn (F.len _ _ _ _ q)
  refine wpAny_call (codeAny_mono (F.run X.A.in1 X.stack s H ⟨[.ref a], []⟩ [.ref a] [.ref a] _ E hr.in1 I.env0.in1 bn (.cons rfl .nil) q) fun r s' hq => ?_)
  cases r with
  | error e => exact hx pins σ H s e s' I hq
  | ok fl =>
    cases fl with
    | ret u =>
      obtain ⟨z, H', I', rz, k, rfl, hk, q'⟩ := I.after hq
      obtain ⟨t, rfl⟩ := rz
      exact ⟨⟨by omega, by omega⟩, .int k, H', I'.tok _, ⟨_, rfl⟩, q'⟩
    | next => exact hq.elim
    | brk => exact hq.elim
    | cont => exact hq.elim
/-- o == x, x an int or a tuple -/
def rEqOther (C : Addr) (sp : Sp) (E : XK) : R2 := fun x y H Q => ∃ a dx fs, x = .ref a ∧ H a = some (.ins C dx fs) ∧ ((∃ n : Int, y = .int n) ∨ ∃ t ys, y = .ref t ∧ H t = some (.tup ys)) ∧ sp [x, y] H (fun z H' => ∃ b : Bool, z = .bl b ∧ Q z H') E
theorem op_eqOther (hs : PySem.W.findIn X.K (.ref C) "__eq__" = some (some (.ref f))) (hf : PySem.W.isFn X.K (.ref f) = true) (n1 : PySem.W.subIn X.K (.type "int") (.ref C) = some false) (n2 : PySem.W.subIn X.K (.type "tuple") (.ref C) = some false)
    (F : FnOk X.prog X.w X.K X.mg X.base CX n f fd ps sp) (hb : Binds X.K fd ps []) (hr : Room n X.A) (hx : Passes CX X E) : OpR X (compareOp .Eq) (rEqOther C sp E) := by
  intro pins s σ H x y v u Q I rx ry h
  obtain ⟨a, dx, fs, rfl, ha, hy, q⟩ := h
  cases (show v = Value.ref a from rx)
  obtain ⟨mA, J, _⟩ := ins_get I.hok ha
  obtain ⟨od, J, _⟩ := J.look
  obtain ⟨m, hF⟩ := I.fr
  have main : ∀ {tb : Value}, PySem.W.Looks (model X.prog X.w) s.heap (typeOf u) tb → PySem.W.notFirst X.K C tb = true → wpAny (model X.prog X.w) X.A (compareOp .Eq (.ref a) u) (EP X pins σ Q) X.xe s := fun {tb} lk nf => by
    refine PySem.W.cmp_K (op := .Eq) (tb := tb) hr.units0 hF I.ok.mod.kin J lk nf hs hf ?_
    refine wpAny_mono (run_fn (us := [.ref a, u]) (vs := [.ref a, y]) F hr hb .nil hx I (.cons rfl (.cons ry .nil)) q) (fun w s' z => ?_) fun _ _ e => e
    obtain ⟨z', H', I', rz, c, rfl, q'⟩ := z
    cases rz
    exact ⟨.bl c, H', I', rfl, q'⟩
  rcases hy with ⟨k, rfl⟩ | ⟨t, ys, rfl, ht⟩
  · obtain ⟨tk, rfl⟩ := ry
    exact main (tb := .type "int") (PySem.W.Looks.of_pure rfl) (by unfold PySem.W.notFirst; rw [n1]; rfl)
  · cases (show u = Value.ref t from ry)
    obtain ⟨its, _, ⟨o, ho, hc, _⟩, _⟩ := I.tuple (SqT.of ht)
    have lk : PySem.W.Looks (model X.prog X.w) s.heap (typeOf (.ref t)) (.type "tuple") := by
      rw [← hc]
      exact (PySem.W.Looks.ld ho).andThen .now
    exact main lk (by unfold PySem.W.notFirst; rw [n2]; rfl)
end
end OF
namespace K66
open PySem PySem.Spec PyProof.Rows L2 OF
abbrev sIsSch : Stmt := topS 31
abbrev sCheckS : Stmt := topS 32
abbrev sPowP : Stmt := topS 34
abbrev sLowP : Stmt := topS 35
abbrev sFracOf : Stmt := topS 36
abbrev sCell : Stmt := topS 38
abbrev sBox : Stmt := topS 39
abbrev sTake : Stmt := topS 40
abbrev sMixed : Stmt := topS 41
abbrev sDigits : Stmt := topS 42
abbrev sFences : Stmt := topS 43
abbrev sDraft : Stmt := topS 44
abbrev sScheme : Stmt := topS 45
abbrev sIsRow : Stmt := topS 46
abbrev sValue : Stmt := topS 47
abbrev sLowest : Stmt := topS 48
abbrev sPower : Stmt := topS 53
abbrev sFraction : Stmt := topS 54
abbrev sOddS : Stmt := topS 56
abbrev sOddR : Stmt := topS 57
abbrev sRefused : Stmt := topS 58
abbrev sDrawn : Stmt := topS 59
abbrev sDue : Stmt := topS 60
abbrev sLaw : Stmt := topS 61


section
variable {P : Program} {w : World} {K : PySem.W.Frag} {mg : Str → Option Value} {base : Heap}
theorem scC : FnScope ["_law_script", "_law_k"] ["_law_script", "_law_k"] (defScope sCell) := ⟨rfl, rfl, rfl, by decide +kernel, rfl, by decide +kernel, by decide +kernel⟩
theorem ok_cell {f : Addr} {fd : FuncData} (F : Fun K "_law_cell" "_law_cell" sCell f fd) (ml : mg "len" = none) : FnOk P w K mg base CX0 1 f fd ["_law_script", "_law_k"] (OF.spCell K) := by
  refine F.ok scC (fun vs H Q E h => ?_) (fun cdv A outer s H vs Q E hr h => ?_)
  · obtain ⟨a, ns, k, rfl, _⟩ := h
    rfl
  · obtain ⟨a, ns, k, rfl, hS, hk, q⟩ := h
    refine ⟨_, pss_cons (ps_if (pt_cmpR op_lt (pv 1) (pe_callB call_len_seq (by rfl) ml PySem.boot_len (pa_cons (pv 0) pa_nil)) (nomark _))
        (pss_one (ps_ret (pe_ix ix_list (pv 0) (pv 1) (fun _ _ => rfl)))) pss_nil)
      (pss_one (ps_ret (pe_op op_add (pe_op op_mul pe_int (pv 1)) pe_int))), ?_⟩
    refine ⟨.int k, rfl, .ref a, rfl, a, ns.map V.int, rfl, .inl hS, k, _, rfl, rfl, _, rfl, ite2 (fun c => ?_) (fun c => ?_)⟩
    · have c1 : k < ns.length := by
        have c2 := of_decide_eq_true c
        rw [List.length_map] at c2
        omega
      have g : (ns.map V.int)[k]? = some (.int ns[k]) := by
        rw [List.getElem?_map, List.getElem?_eq_getElem c1]
        rfl
      exact ⟨.ref a, rfl, .int k, rfl, a, _, k, .int ns[k], rfl, rfl, hS, atI_nat g, q _⟩
    · exact ⟨.int k, rfl, _, _, rfl, rfl, .inl ⟨by decide, by decide⟩, _, _, rfl, rfl, q _⟩
theorem scB : FnScope ["_law_cell_here"] ["_law_cell_here"] (defScope sBox) := ⟨rfl, rfl, rfl, by decide +kernel, rfl, by decide +kernel, by decide +kernel⟩
theorem ok_box {f : Addr} {fd : FuncData} (F : Fun K "_law_box" "_law_box" sBox f fd) (mi : mg "int" = none) (mm : mg "max" = none) : FnOk P w K mg base CX0 1 f fd ["_law_cell_here"] spBox := by
  refine F.ok scB (fun vs H Q E h => ?_) (fun cdv A outer s H vs Q E hr h => ?_)
  · obtain ⟨c, rfl, _⟩ := h
    rfl
  · obtain ⟨c, rfl, q⟩ := h
    refine ⟨_, pss_one (ps_ret (pe_lst (pa_cons (pe_callB (call_max2 rfl) (by rfl) mm PyProof.Rows.boot_max (pa_cons pe_int (pa_cons (pe_op op_sub (pv 0) (pe_op op_pow pe_int pe_int)) pa_nil)))
      (pa_cons (pe_op op_modR (pe_callTy call_int1 (by rfl) mi PyProof.Rows.boot_int (pa_cons (pv 0) pa_nil)) pe_int) (pa_cons pe_int pa_nil))))), ?_⟩
    refine ⟨.int c, rfl, _, _, rfl, rfl, ⟨by decide, by decide, by decide⟩, _, _, rfl, rfl, _, _, rfl, .int c, rfl, .inl ⟨_, rfl, _, _, rfl, rfl, by decide, fun r r0 r1 => ?_⟩⟩
    refine ⟨by show 3 ≤ sizeLine; decide, fun p hp => ?_⟩
    refine q p _ hp (same_new hp) ⟨_, r, 0, upd_same, ?_, r0, by omega, by decide, by decide⟩
    split <;> omega
theorem scT : FnScope ["_law_box_here", "_law_many", "_law_digit", "_law_grown"] ["_law_box_here", "_law_many"] (defScope sTake) := ⟨rfl, rfl, rfl, by decide +kernel, rfl, by decide +kernel, by decide +kernel⟩
theorem ok_take {f : Addr} {fd : FuncData} (F : Fun K "_law_take" "_law_take" sTake f fd) (mi : mg "int" = none) : FnOk P w K mg base CX0 1 f fd ["_law_box_here", "_law_many"] spTake := by
  refine F.ok scT (fun vs H Q E h => ?_) (fun cdv A outer s H vs Q E hr h => ?_)
  · obtain ⟨a, m, n, rfl, _⟩ := h
    rfl
  · obtain ⟨a, m, n, rfl, ⟨b0, b1, b2, hH, p0, p1, q1, p2, q2⟩, hn, hm, hmb, q⟩ := h
    refine ⟨_, pss_cons (ps_if (pt_cmpR op_gt (pe_ix ix_list (pv 0) pe_int (fun _ _ => rfl)) pe_int (nomark _))
        (pss_cons (ps_set (i := 2) scT.nd rfl (.inl rfl) (pe_op op_modR (pe_callTy call_int1 (by rfl) mi PyProof.Rows.boot_int (pa_cons (pe_ix ix_list (pv 0) pe_int (fun _ _ => rfl)) pa_nil)) (pv 1)))
        (pss_cons (ps_asg (pe_op op_fdivW (pe_ix ix_list (pv 0) pe_int (fun _ _ => rfl)) (pv 1)) (pg_sub (pv 0) pe_int set_list))
        (pss_one (ps_ret (pv 2))))) pss_nil)
      (pss_cons (ps_asg (pe_op op_add (pe_ix ix_list (pv 0) pe_int (fun _ _ => rfl)) pe_int) (pg_sub (pv 0) pe_int set_list))
      (pss_cons (ps_set (i := 3) scT.nd rfl (.inl rfl) (pe_op op_modR (pe_op op_pow (pe_callTy call_int1 (by rfl) mi PyProof.Rows.boot_int
          (pa_cons (pe_op op_add (pe_op op_add (pe_ix ix_list (pv 0) pe_int (fun _ _ => rfl)) (pe_op op_mul pe_int (pe_ix ix_list (pv 0) pe_int (fun _ _ => rfl)))) pe_int) pa_nil)) pe_int) pe_int))
      (pss_cons (ps_set (i := 3) scT.nd rfl (.inl rfl) (pe_op op_modR (pe_op op_pow (pe_callTy call_int1 (by rfl) mi PyProof.Rows.boot_int
          (pa_cons (pe_op op_add (pv 3) (pe_op op_mul pe_int (pe_ix ix_list (pv 0) pe_int (fun _ _ => rfl)))) pa_nil)) pe_int) pe_int))
      (pss_one (ps_ret (pe_op op_modR (pe_callTy call_int1 (by rfl) mi PyProof.Rows.boot_int (pa_cons (pe_op op_fdiv (pv 3) pe_int) pa_nil)) (pv 1))))))), ?_⟩
    refine ⟨.ref a, rfl, a, _, 0, .int b0, rfl, rfl, SqL.of hH, atI_nat (j := 0) rfl, b0, 0, rfl, rfl, _, rfl, ite2 (fun c => ?_) (fun c => ?_)⟩
    · refine ⟨.ref a, rfl, a, _, 0, .int b0, rfl, rfl, SqL.of hH, atI_nat (j := 0) rfl, .inl ⟨b0, rfl, .int m, rfl, b0, m, rfl, rfl, hm, fun r r0 r1 => ?_⟩⟩
      refine ⟨.ref a, rfl, a, _, 0, .int b0, rfl, rfl, SqL.of hH, atI_nat (j := 0) rfl, .int m, rfl, b0, m, rfl, rfl, wide_div hm hmb (by decide) (by decide), ?_⟩
      refine ⟨.ref a, rfl, a, _, 0, 0, rfl, rfl, hH, rfl, ?_⟩
      refine ⟨.int r, rfl, q r _ r0 r1 But.at_ ⟨b0 / m, b1, b2, upd_same, Int.ediv_nonneg p0 (by omega), p1, q1, p2, by omega⟩⟩
    · refine ⟨.ref a, rfl, a, _, 2, .int b2, rfl, rfl, SqL.of hH, atI_nat (j := 2) rfl, b2, 1, rfl, rfl, .ref a, rfl, a, _, 2, 2, rfl, rfl, hH, rfl, ?_⟩
      have hH1 : (upd H a (.lst [.int b0, .int b1, .int (b2 + 1)])) a = some (.lst [.int b0, .int b1, .int (b2 + 1)]) := upd_same
      refine ⟨.ref a, rfl, a, _, 1, .int b1, rfl, rfl, SqL.of hH1, atI_nat (j := 1) rfl, .ref a, rfl, a, _, 2, .int (b2 + 1), rfl, rfl, SqL.of hH1, atI_nat (j := 2) rfl,
        _, _, rfl, rfl, .inl ⟨by decide, by decide⟩, _, _, rfl, rfl, _, _, rfl, rfl, .inl ⟨_, rfl, _, _, rfl, rfl, ⟨by decide, by decide, by omega⟩, _, _, rfl, rfl, by decide, fun r r0 r1 => ?_⟩⟩
      refine ⟨.int r, rfl, .ref a, rfl, a, _, 2, .int (b2 + 1), rfl, rfl, SqL.of hH1, atI_nat (j := 2) rfl,
        _, _, rfl, rfl, .inl ⟨by decide, by decide⟩, _, _, rfl, rfl, .inl ⟨_, rfl, _, _, rfl, rfl, ⟨by decide, by decide, by omega⟩, _, _, rfl, rfl, by decide, fun r' r0' r1' => ?_⟩⟩
      refine ⟨.int r', rfl, _, _, rfl, rfl, ⟨by decide, by decide⟩, .inl ⟨_, rfl, .int m, rfl, _, _, rfl, rfl, hm, fun r2 h0 h1 => ?_⟩⟩
      exact q r2 _ h0 h1 But.at_ ⟨b0, b1, b2 + 1, upd_same, p0, p1, q1, by omega, by omega⟩

theorem _root_.OF.But.free_ {a p : Addr} {H H' : Hp} (t : OF.But a H H') (n : p ≠ a) (h : H' p = none) : H p = none := by
  rcases Option.eq_none_or_eq_some (H p) with z | ⟨o, z⟩
  · exact z
  · rw [t p o n z] at h
    cases h
/-! ### lists in order -/
theorem sorted_ext {α : Type} {r : α → α → Prop} (as : ∀ a b, r a b → ¬ r b a) : ∀ {l m : List α}, l.Pairwise r → m.Pairwise r → (∀ x, x ∈ l ↔ x ∈ m) → l = m
  | [], [], _, _, _ => rfl
  | [], y :: m, _, _, h => absurd ((h y).mpr List.mem_cons_self) List.not_mem_nil
  | x :: l, [], _, _, h => absurd ((h x).mp List.mem_cons_self) List.not_mem_nil
  | x :: l, y :: m, h1, h2, h => by
    obtain ⟨a1, b1⟩ := List.pairwise_cons.mp h1
    obtain ⟨a2, b2⟩ := List.pairwise_cons.mp h2
    have e : x = y := by
      rcases List.mem_cons.mp ((h x).mp List.mem_cons_self) with z | z
      · exact z
      · rcases List.mem_cons.mp ((h y).mpr List.mem_cons_self) with z2 | z2
        · exact z2.symm
        · exact absurd (a1 y z2) (as _ _ (a2 x z))
    subst e
    have e2 : l = m := sorted_ext as b1 b2 fun z => by
      constructor
      · intro hz
        rcases List.mem_cons.mp ((h z).mp (List.mem_cons_of_mem _ hz)) with q | q
        · subst q
          exact absurd (a1 z hz) (as _ _ (a1 z hz))
        · exact q
      · intro hz
        rcases List.mem_cons.mp ((h z).mpr (List.mem_cons_of_mem _ hz)) with q | q
        · subst q
          exact absurd (a2 z hz) (as _ _ (a2 z hz))
        · exact q
    rw [e2]
theorem erase_map {α β : Type} (f : α → β) : ∀ (l : List α) (k : Nat), (l.map f).eraseIdx k = (l.eraseIdx k).map f
  | [], _ => rfl
  | _ :: _, 0 => rfl
  | x :: l, k + 1 => by
    show f x :: (l.map f).eraseIdx k = f x :: (l.eraseIdx k).map f
    rw [erase_map f l k]
theorem erase_perm {α : Type} : ∀ (l : List α) (k : Nat) (h : k < l.length), (l[k] :: l.eraseIdx k).Perm l
  | x :: l, 0, _ => List.Perm.refl _
  | x :: l, k + 1, h => by
    have h2 : k < l.length := Nat.lt_of_succ_lt_succ h
    show (l[k] :: x :: l.eraseIdx k).Perm (x :: l)
    exact (List.Perm.swap _ _ _).trans ((erase_perm l k h2).cons x)
/-- pairs by their order -/
def lexP (p q : Int × Int) : Prop := p.1 < q.1 ∨ (p.1 = q.1 ∧ p.2 < q.2)
theorem lexP_as (p q : Int × Int) (h : lexP p q) : ¬ lexP q p := by
  intro z
  unfold lexP at h z
  omega
/-- all pairs, in order -/
def prod (ns : List Int) : List (Int × Int) := ns.flatMap fun x => ns.map fun y => (x, y)
theorem prod_aux {ms : List Int} (hm : ms.Pairwise (· < ·)) : ∀ {ns : List Int}, ns.Pairwise (· < ·) → (ns.flatMap fun x => ms.map fun y => (x, y)).Pairwise lexP
  | [], _ => List.Pairwise.nil
  | x :: ns, h => by
    obtain ⟨a, b⟩ := List.pairwise_cons.mp h
    rw [List.flatMap_cons, List.pairwise_append]
    refine ⟨?_, prod_aux hm b, fun p hp q hq => ?_⟩
    · rw [List.pairwise_map]
      exact hm.imp fun z => .inr ⟨rfl, z⟩
    · obtain ⟨y, _, rfl⟩ := List.mem_map.mp hp
      obtain ⟨x2, hx2, hq⟩ := List.mem_flatMap.mp hq
      obtain ⟨y2, _, rfl⟩ := List.mem_map.mp hq
      exact .inl (a x2 hx2)
theorem prod_mem {ns : List Int} {p : Int × Int} (h : p ∈ prod ns) : p.1 ∈ ns ∧ p.2 ∈ ns := by
  obtain ⟨x, hx, hp⟩ := List.mem_flatMap.mp h
  obtain ⟨y, hy, rfl⟩ := List.mem_map.mp hp
  exact ⟨hx, hy⟩
theorem flat_len {ms : List Int} : ∀ (ns : List Int), (ns.flatMap fun x => ms.map fun y => (x, y)).length = ns.length * ms.length
  | [] => by simp
  | x :: ns => by
    rw [List.flatMap_cons, List.length_append, flat_len ns, List.length_map, List.length_cons, Nat.succ_mul]
    omega
/-- the parts of a scheme that a law draws -/
structure Good (b : Int) (ns : List Int) (ps : List (Int × Int)) : Prop where
  b : isBase b = true
  asc : ns.Pairwise (· < ·)
  one : 1 ≤ ns.length
  six : ns.length ≤ 6
  dg : ∀ n ∈ ns, dig n = true
  mem : ∀ p ∈ ps, p.1 ∈ ns ∧ p.2 ∈ ns
  lex : ps.Pairwise lexP
  few : ps.length ≤ 36
/-- the list of these parts in the heap -/
structure ModAt (H : Hp) (m dl pl : Addr) (b : Int) (ns : List Int) (ks : List (Addr × (Int × Int))) : Prop where
  mo : H m = some (.lst [.int b, .ref dl, .ref pl])
  di : H dl = some (.lst (ns.map V.int))
  pa : H pl = some (.lst (ks.map fun p => V.ref p.1))
  pr : ∀ p ∈ ks, H p.1 = some (.tup [.int p.2.1, .int p.2.2])
theorem ModAt.same {H H' : Hp} {m dl pl : Addr} {b : Int} {ns : List Int} {ks : List (Addr × (Int × Int))} (h : ModAt H m dl pl b ns ks) (s : Same H H') : ModAt H' m dl pl b ns ks :=
  ⟨s _ _ h.mo, s _ _ h.di, s _ _ h.pa, fun p hp => s _ _ (h.pr p hp)⟩
/-- the law's parts of a scheme at m, wherever but the box at a may change -/
def Model (a : Addr) (H : Hp) (m : Addr) (b : Int) (ns : List Int) (ps : List (Int × Int)) : Prop := ∃ (dl pl : Addr) (ks : List (Addr × (Int × Int))), ks.map (·.2) = ps ∧ ∀ H', But a H H' → ModAt H' m dl pl b ns ks
theorem Model.but {a m : Addr} {H H' : Hp} {b : Int} {ns : List Int} {ps : List (Int × Int)} (h : Model a H m b ns ps) (t : But a H H') : Model a H' m b ns ps := by
  obtain ⟨dl, pl, ks, e, z⟩ := h
  exact ⟨dl, pl, ks, e, fun H2 t2 => z H2 (t.trans t2)⟩
theorem scM : FnScope ["_law_box_here", "_law_some", "_law_rest", "_law_k"] ["_law_box_here", "_law_some"] (defScope sMixed) := ⟨rfl, rfl, rfl, by decide +kernel, rfl, by decide +kernel, by decide +kernel⟩
/-! ### a list of pairs in a drawn order -/
def spMixedP (K : PySem.W.Frag) : Sp := fun vs H Q _ => ∃ (a p : Addr) (ks : List V) (n : Int), vs = [.ref a, .ref p] ∧ Box n H a ∧ SqL K H p ks ∧ p ≠ a ∧ ks.length ≤ 1000 ∧ n ≤ 900000 ∧
  ∀ (D : Addr) (ls : List V) (H' : Hp), H D = none → But a H H' → Box (n + ks.length) H' a → H' D = some (.lst ls) → ls.Perm ks → Q (.ref D) H'
theorem ok_mixedP {f fT : Addr} {fd fdT : FuncData} (F : Fun K "_law_mixed" "_law_mixed" sMixed f fd) (FT : Fun K "_law_take" "_law_take" sTake fT fdT) (gT : mg "_law_take" = some (.ref fT)) (bT : Binds K fdT ["_law_box_here", "_law_many"] [])
    (mi : mg "int" = none) (ml : mg "len" = none) (mr : mg "range" = none) (ms : mg "list" = none) : FnOk P w K mg base CX0 2 f fd ["_law_box_here", "_law_some"] (spMixedP K) := by
  have GT : FnOk P w K mg base CX0 1 fT fdT ["_law_box_here", "_law_many"] spTake := ok_take FT mi
  refine F.ok scM (fun vs H Q E h => ?_) (fun cdv A outer s H vs Q E hr h => ?_)
  · obtain ⟨a, p, ks, n, rfl, _⟩ := h
    rfl
  · obtain ⟨a, p, ks, n, rfl, hB, hS, npa, hlen, hn, q⟩ := h
    refine ⟨_, pss_cons (ps_set (i := 2) scM.nd rfl (.inr rfl) (pe_callTy call_list_of (by rfl) ms PyProof.Rows.boot_list (pa_cons (pv 1) pa_nil)))
      (pss_one (ps_ret (pe_lc (own := [("_law_k", 3)]) (g := gName 3) (tt := tYes) (te := tBM K "list" rPopAt (tVar 2) (tCons (tCall spTake [] E0 (tCons (tVar 0) (tCons (tCB (rLenS K) (tCons (tVar 2) tNil)) tNil))) tNil)) rfl scM.nd (pi_range1 rfl mr (pa_cons (pe_callB call_len_seq (by rfl) ml PySem.boot_len (pa_cons (pv 1) pa_nil)) pa_nil))
        (blkOk_by (own := [("_law_k", 3)]) (N := ["_law_box_here", "_law_some", "_law_rest", "_law_k"]) (sc := defScope sMixed) (by decide +kernel)) (fun _ _ _ _ _ => pg_name (i := 3) scM.nd rfl (Or.inl rfl)) (fun _ _ _ _ _ => pts_nil)
        (fun _ _ _ _ _ => by exact (pe_bm PySem.F.plainAttrs_list PySem.F.slot_list_pop PySem.F.type_list_pop mt_popAt (pv 2)
          (pa_cons (pe_call GT hr (by rfl) gT FT.kp bT .nil pass0 (pa_cons (pv 0) (pa_cons (pe_callB call_len_seq (by rfl) ml PySem.boot_len (pa_cons (pv 2) pa_nil)) pa_nil))) pa_nil)))))), ?_⟩
    refine ⟨.ref p, rfl, p, _, rfl, .inl hS, fun l hl => ?_⟩
    have nla : l ≠ a := hB.ne hl
    have s1 : Same H (upd H l (.lst ks)) := same_new hl
    refine ⟨.ref p, rfl, p, _, rfl, .inl (s1.seq hS), _, rfl, by omega, by omega, fun D hD => ?_⟩
    have hDl : D ≠ l := fun e => by rw [e, upd_same] at hD; cases hD
    have hD0 : H D = none := s1.free hD
    have nDa : D ≠ a := hB.ne hD0
    refine lc_range (lo := 0) (n := ks.length) (fun i H' => But a H H' ∧ Box (n + i) H' a ∧ ∃ ls acc : List V, H' l = some (.lst ls) ∧ H' D = some (.lst acc) ∧ acc.length = i ∧ (acc ++ ls).Perm ks) ?_ ?_ ?_
    · refine ⟨(But.new hl).trans (But.new hD), (((hB.upd nla).upd nDa).mono (by omega)), ks, [], ?_, upd_same, rfl, List.Perm.refl _⟩
      rw [upd_ne hDl.symm]
      exact upd_same
    · rintro i H' hi ⟨t, B, ls, acc, el, ea, la, pm⟩
      have ll : ls.length + i = ks.length := by
        have := pm.length_eq
        rw [List.length_append] at this
        omega
      refine ⟨rfl, tYes_if ?_⟩
      refine ⟨.ref l, rfl, .inl ⟨rfl, _, SqL.of el⟩, .ref a, rfl, .ref l, rfl, l, _, rfl, .inl (SqL.of el), a, (ls.length : Int), n + i, rfl, B, by omega, by omega, by omega, fun r H4 r0 r1 t4 B4 => ?_⟩
      have e4 : H4 l = some (.lst ls) := t4 _ _ nla el
      have hk : r.toNat < ls.length := by omega
      have hk2 : ls[r.toNat]? = some ls[r.toNat] := by
        exact List.getElem?_eq_getElem hk
      refine ⟨l, ls, r, r.toNat, ls[r.toNat], rfl, rfl, e4, by omega, by omega, (ixN_seq (ixN_in r0 (by omega))).1, hk2, ?_⟩
      refine ⟨acc, ?_, by rw [la]; exact small1000 (by omega), ?_⟩
      · rw [upd_ne hDl]
        exact t4 _ _ nDa ea
      · refine ⟨((t.trans t4).store hl).store hD0, (((B4.upd nla).upd nDa).mono (by omega)), ls.eraseIdx r.toNat, acc ++ [ls[r.toNat]], ?_, ?_, ?_, ?_⟩
        · rw [upd_ne hDl.symm, upd_same]
        · rw [upd_same]
        · rw [List.length_append, la]
          rfl
        · rw [List.append_assoc]
          exact (List.Perm.append_left acc (erase_perm ls r.toNat hk)).trans pm
    · rintro H' ⟨t, B, ls, acc, el, ea, la, pm⟩
      have l0 : ls = [] := by
        have := pm.length_eq
        rw [List.length_append] at this
        exact List.eq_nil_of_length_eq_zero (by omega)
      subst l0
      rw [List.append_nil] at pm
      exact q D acc H' hD0 t B ea pm
end
end K66
namespace K66
open PySem PySem.Spec PyProof.Rows L2 OF
abbrev sHas : Stmt := inClass (topS 29) 7
abbrev sValueOf : Stmt := inClass (topS 29) 10
section
variable {P : Program} {w : World} {K : PySem.W.Frag} {mg : Str → Option Value} {base : Heap}
/-- allows -/
def spAllows (C : Addr) : Sp := fun vs H Q _ => ∃ (a t r : Addr) (b : Int) (ds : List Int) (ks : List (Addr × (Int × Int))) (x y : V), vs = [.ref a, x, y] ∧ SchemeAt C H a t r b ds ks ∧
  ((Odd H x ∧ ∀ H', Same H H' → Q (.bl false) H') ∨ ∃ n : Int, x = .int n ∧
    ((y = .non ∧ ∀ H', Same H H' → Q (.bl (isOne ds n)) H') ∨ (∃ m : Int, y = .int m ∧ ∀ H', Same H H' → Q (.bl (isOne ds n && (isOne ds m && !hasBar ks n m))) H') ∨ (Odd H y ∧ y ≠ .non ∧ ∀ H', Same H H' → Q (.bl false) H')))
theorem scAl : FnScope ["self", "left", "right"] ["self", "left", "right"] (defScope sAllows) := ⟨rfl, rfl, rfl, by decide +kernel, rfl, by decide +kernel, by decide +kernel⟩
theorem ok_allows {f fO C : Addr} {fd fdO : FuncData} (F : Fun K "allows" "Scheme.allows" sAllows f fd) (c : Cls K C) (n2 : NoAttr K C "_digits") (n3 : NoAttr K C "_bars")
    (GO : FnOk P w K mg base CX0 4 fO fdO ["digits", "value"] (spOneOf K)) (gO : mg "_is_one_of" = some (.ref fO)) (kO : PySem.W.keepIn K (.ref fO) = true) (bO : Binds K fdO ["digits", "value"] []) : FnOk P w K mg base CX0 5 f fd ["self", "left", "right"] (spAllows C) := by
  refine F.ok scAl (fun vs H Q E h => ?_) (fun cdv A outer s H vs Q E hr h => ?_)
  · obtain ⟨a, t, r, b, ds, ks, x, y, rfl, _⟩ := h
    rfl
  · obtain ⟨a, t, r, b, ds, ks, x, y, rfl, ⟨⟨dx, ha⟩, ht, hrr, hks⟩, h⟩ := h
    have hu : A.units + 3 + 65 < cLine := by
      have := hr.un
      have e : (A.deeper (envOfC "Scheme.allows" (defScope sAllows) s.heap.objs.size f cdv)).units = A.units + 3 := rfl
      omega
    apply Exists.intro
    apply And.intro
    · apply pss_cons
      · exact ps_if (pt_not (pt_val (pe_call GO hr (by rfl) gO kO bO .nil pass0 (pa_cons (pe_fld (pv 0) rfl) (pa_cons (pv 1) pa_nil))))) (pss_one (ps_ret pe_bl)) pss_nil
      apply pss_cons
      · exact ps_if (pt_cmpR op_isN (pv 2) pe_non (nomark _)) (pss_one (ps_ret pe_bl)) pss_nil
      apply pss_one
      · exact ps_ret (pe_and (pe_call GO hr (by rfl) gO kO bO .nil pass0 (pa_cons (pe_fld (pv 0) rfl) (pa_cons (pv 2) pa_nil))) (pe_one (pe_cmpR (op_notInT hu) (pe_tup (pa_cons (pv 1) (pa_cons (pv 2) pa_nil))) (pe_fld (pv 0) rfl) rfl)))
    rcases h with ⟨o, q⟩ | ⟨n, rfl, h⟩
    · refine ⟨.ref a, rfl, a, C, dx, _, .ref t, rfl, ha, c, n2, lk_digits, x, rfl, t, ds, x, rfl, SqT.of ht, .inr ⟨o, false, rfl, iteT ?_⟩⟩
      exact q H (Same.refl H)
    · refine ⟨.ref a, rfl, a, C, dx, _, .ref t, rfl, ha, c, n2, lk_digits, .int n, rfl, t, ds, .int n, rfl, SqT.of ht, .inl ⟨n, rfl, _, rfl, ?_⟩⟩
      cases hb : (dig n && decide (n ∈ ds)) with
      | false =>
        refine iteT ?_
        have e1 : isOne ds n = false := hb
        rcases h with ⟨_, q⟩ | ⟨m, _, q⟩ | ⟨_, _, q⟩
        · have z := q H (Same.refl H)
          rw [e1] at z
          exact z
        · have z := q H (Same.refl H)
          rw [e1] at z
          exact z
        · exact q H (Same.refl H)
      | true =>
        refine iteF ?_
        have e1 : isOne ds n = true := hb
        rcases h with ⟨rfl, q⟩ | ⟨m, rfl, q⟩ | ⟨o, ny, q⟩
        · have z := q H (Same.refl H)
          rw [e1] at z
          exact ⟨.non, rfl, rfl, _, rfl, iteTB (decide_eq_true rfl) z⟩
        · refine ⟨.int m, rfl, rfl, _, rfl, iteFB (decide_eq_false (fun z => nomatch z)) ?_⟩
          refine ⟨.ref a, rfl, a, C, dx, _, .ref t, rfl, ha, c, n2, lk_digits, .int m, rfl, t, ds, .int m, rfl, SqT.of ht, .inl ⟨m, rfl, _, rfl, ?_⟩⟩
          cases hm : (dig m && decide (m ∈ ds)) with
          | false =>
            refine iteF ?_
            have e2 : isOne ds m = false := hm
            have z := q H (Same.refl H)
            rw [e1, e2] at z
            exact z
          | true =>
            refine iteT ?_
            have e2 : isOne ds m = true := hm
            refine ⟨.int n, rfl, .int m, rfl, (by show 2 ≤ sizeLine; decide), fun T hT => ?_⟩
            have s1 := same_new (o := .tup [.int n, .int m]) hT
            have z := q _ s1
            rw [e1, e2] at z
            refine ⟨.ref a, rfl, a, C, dx, _, .ref r, rfl, s1 _ _ ha, c, n3, lk_bars, pd2 (n, m), (ks.map fun (p : Addr × (Int × Int)) => pd2 p.2), .tup (SqT.of upd_same) (.cons (.int n) (.cons (.int m) .nil)), .tup (SqT.of (s1 _ _ hrr)) (bars_dp ks fun p hp => s1 _ _ (hks p hp)), pd2_shaped _, bars_shaped ks, (by rw [Bool.true_and, Bool.true_and] at z; exact z)⟩
        · refine ⟨y, rfl, rfl, _, rfl, iteFB (decide_eq_false ny) ?_⟩
          exact ⟨.ref a, rfl, a, C, dx, _, .ref t, rfl, ha, c, n2, lk_digits, y, rfl, t, ds, y, rfl, SqT.of ht, .inr ⟨o, _, rfl, iteF (q H (Same.refl H))⟩⟩
/-! ### row in scheme -/
/-- what allows says of two values -/
def jdg (ds : List Int) (ks : List (Addr × (Int × Int))) : V → V → Bool
  | .int n, .non => isOne ds n
  | .int n, .int m => isOne ds n && (isOne ds m && !hasBar ks n m)
  | _, _ => false
def rowB (ds : List Int) (ks : List (Addr × (Int × Int))) (xs : List V) : Bool := (xs.zip (xs.tail ++ [V.non])).all fun p => jdg ds ks p.1 p.2
theorem allows_of {C : Addr} {H : Hp} {a t r : Addr} {b : Int} {ds : List Int} {ks : List (Addr × (Int × Int))} {x y : V} {Q : VK} {E : XK} (S : SchemeAt C H a t r b ds ks) (hx : ItemOk H x) (hy : ItemOk H y ∨ y = .non) (q : ∀ H', Same H H' → Q (.bl (jdg ds ks x y)) H') :
    spAllows C [.ref a, x, y] H Q E := by
  refine ⟨a, t, r, b, ds, ks, x, y, rfl, S, ?_⟩
  rcases hx with ⟨n, rfl⟩ | o
  · refine .inr ⟨n, rfl, ?_⟩
    rcases hy with (⟨m, rfl⟩ | o) | rfl
    · exact .inr (.inl ⟨m, rfl, q⟩)
    · by_cases e : y = .non
      · subst e
        exact .inl ⟨rfl, q⟩
      · refine .inr (.inr ⟨o, e, fun H' s => ?_⟩)
        have z := q H' s
        have e2 : jdg ds ks (.int n) y = false := by
          cases o with
          | non => exact absurd rfl e
          | bl b => rfl
          | str z => rfl
          | lst e => rfl
          | tup e => rfl
          | dK e => rfl
        rw [e2] at z
        exact z
    · exact .inl ⟨rfl, q⟩
  · refine .inl ⟨o, fun H' s => ?_⟩
    have z := q H' s
    have e2 : jdg ds ks x y = false := by
      cases o with
      | non => rfl
      | bl b => rfl
      | str z => rfl
      | lst e => rfl
      | tup e => rfl
      | dK e => rfl
    rw [e2] at z
    exact z
def spHas (C : Addr) : Sp := fun vs H Q _ => ∃ (a t r : Addr) (b : Int) (ds : List Int) (ks : List (Addr × (Int × Int))) (x : V), vs = [.ref a, x] ∧ SchemeAt C H a t r b ds ks ∧
  ((NoTup H x ∧ ∀ H', Same H H' → Q (.bl false) H') ∨ ∃ (p : Addr) (xs : List V), x = .ref p ∧ H p = some (.tup xs) ∧ xs.length ≤ 1000 ∧ (∀ y ∈ xs, ItemOk H y) ∧ ∀ H', Same H H' → Q (.bl (rowB ds ks xs)) H')
abbrev nHa : List Str := ["self", "row", "left", "right"]
theorem scHa : FnScope nHa ["self", "row"] (defScope sHas) := ⟨rfl, rfl, rfl, by decide +kernel, rfl, by decide +kernel, by decide +kernel⟩
theorem cutV_tail (xs : List V) : cutV xs (some 1) none = xs.tail := by
  unfold cutV
  cases xs with
  | nil => rfl
  | cons x l =>
    show ((x :: l).drop (HT.sIx (l.length + 1) 0 (some 1))).take (HT.sIx (l.length + 1) (l.length + 1) none - HT.sIx (l.length + 1) 0 (some 1)) = l
    have e1 : HT.sIx (l.length + 1) 0 (some 1) = 1 := by
      unfold HT.sIx
      simp <;> omega
    have e2 : HT.sIx (l.length + 1) (l.length + 1) none = l.length + 1 := rfl
    rw [e1, e2]
    show l.take (l.length + 1 - 1) = l
    rw [Nat.add_sub_cancel, List.take_length]
set_option maxHeartbeats 2000000 in
theorem ok_has {f fA C : Addr} {fd fdA : FuncData} (F : Fun K "__contains__" "Scheme.__contains__" sHas f fd) (c : Cls K C) (mA : Meth K C "allows" fA)
    (GA : FnOk P w K mg base CX0 5 fA fdA ["self", "left", "right"] (spAllows C)) (bA : Binds K fdA ["self", "left", "right"] [])
    (mis : mg "isinstance" = none) (mt : mg "tuple" = none) (mall : mg "all" = none) (mz : mg "zip" = none) : FnOk P w K mg base CX0 6 f fd ["self", "row"] (spHas C) := by
  refine F.ok scHa (fun vs H Q E h => ?_) (fun cdv A outer s H vs Q E hr h => ?_)
  · obtain ⟨a, t, r, b, ds, ks, x, rfl, _⟩ := h
    rfl
  · obtain ⟨a, t, r, b, ds, ks, x, rfl, S, h⟩ := h
    apply Exists.intro
    apply And.intro
    · apply pss_cons
      · exact ps_if (pt_not (pt_val (pe_callB call_isi (by rfl) mis PyProof.Rows.boot_isinstance (pa_cons (pv 1) (pa_cons (pe_bltn (v := .ty "tuple") (by rfl) mt (by decide +kernel) rfl) pa_nil))))) (pss_one (ps_ret pe_bl)) pss_nil
      apply pss_one
      · exact ps_ret (pe_callB (cr_all rfl) (by rfl) mall (by decide +kernel) (pa_cons (pe_lc (own := [("left", 2), ("right", 3)]) (g := gTup K 2 (gCons (gName 2) (gCons (gName 3) gNil))) (tt := tYes) (te := tMeth C "allows" (spAllows C) [] E0 (tVar 0) (tCons (tVar 2) (tCons (tVar 3) tNil))) rfl scHa.nd
          (RZ.pi_zipA (by rfl) mz (pa_cons (pv 1) (pa_cons (pe_op op_cat2 (pe_slice sl_tup2 (pv 1) (po_some pe_int) po_none) (pe_tup (pa_cons pe_non pa_nil))) pa_nil)))
          (blkOk_by (own := [("left", 2), ("right", 3)]) (N := nHa) (sc := defScope sHas) (by decide +kernel)) (fun _ _ _ _ _ => by exact (pg_tup rfl (pgs_cons (pg_name (i := 2) scHa.nd rfl (Or.inl rfl)) (pgs_cons (pg_name (i := 3) scHa.nd rfl (Or.inl rfl)) pgs_nil))))
          (fun _ _ _ _ _ => pts_nil) (fun _ _ _ _ _ => by exact (pe_meth (pv 0) c mA GA hr bA .nil pass0 (pa_cons (pv 2) (pa_cons (pv 3) pa_nil))))) pa_nil))
    rcases h with ⟨no, q⟩ | ⟨p, xs, rfl, hp, hlen, hit, q⟩
    · obtain ⟨ty, h1, h2⟩ := no.kit (K := K)
      exact ⟨x, rfl, x, .ty "tuple", ty, .type "tuple", false, rfl, .ty _, h1, h2, false, rfl, iteT (q H (Same.refl H))⟩
    · refine ⟨.ref p, rfl, .ref p, .ty "tuple", .type "tuple", .type "tuple", true, rfl, .ty _, .base (.tup hp), kit_ty (by decide +kernel), true, rfl, iteF ?_⟩
      refine ⟨.ref p, rfl, .ref p, rfl, 1, rfl, p, xs, rfl, hp, fun p1 H1 s1 e1 => ?_⟩
      rw [cutV_tail] at e1
      have lt : xs.tail.length ≤ 1000 := by
        rw [List.length_tail]
        omega
      refine ⟨(by show 1 ≤ sizeLine; decide), fun p2 hp2 => ?_⟩
      have s2 := same_new (o := .tup [.non]) hp2
      refine ⟨p1, p2, xs.tail, [.non], rfl, rfl, s2 _ _ e1, upd_same, (by rw [sizeLine_eq]; show xs.tail.length + 1 ≤ _; omega), fun p3 H3 s3 e3 => ?_⟩
      have sA : Same H H3 := s1.trans (s2.trans s3)
      refine ⟨p, p3, xs, xs.tail ++ [.non], rfl, .inr ⟨SqT.of (sA _ _ hp), SqT.of e3, fun D hD => ?_⟩⟩
      have lz : xs.length ≤ (xs.tail ++ [V.non]).length := by
        rw [List.length_append, List.length_tail]
        show xs.length ≤ xs.length - 1 + 1
        omega
      refine lc_it (walk_zipT (K := K) (a := p) (b := p3) (xs := xs) (ys := xs.tail ++ [.non]) (n := xs.length) rfl lz) (fun i H' => Same H3 H' ∧ H' D = some (.lst (((xs.zip (xs.tail ++ [V.non])).take i).map fun z => V.bl (jdg ds ks z.1 z.2)))) ⟨same_new hD, upd_same⟩ (fun i H' _ h => ⟨SqT.of (h.1 _ _ (sA _ _ hp)), SqT.of (h.1 _ _ e3)⟩) ?_ ?_
      · rintro i v H4 H5 hi ⟨s4, e4⟩ ⟨T, x, y, rfl, hT, rfl, hx, hy⟩
        have hz : (xs.zip (xs.tail ++ [V.non]))[i]? = some (x, y) := by
          rw [List.getElem?_zip_eq_some]
          exact ⟨hx, hy⟩
        have s5 := same_new (o := .tup [x, y]) hT
        have sB : Same H (upd H4 T (.tup [x, y])) := sA.trans (s4.trans s5)
        refine ⟨T, [x, y], rfl, SqT.of upd_same, rfl, x, [y], rfl, y, [], rfl, rfl, rfl, tYes_if ?_⟩
        obtain ⟨⟨dx, hins⟩, _⟩ := S.same sB
        refine ⟨.ref a, rfl, a, dx, _, rfl, hins, rfl, x, rfl, y, rfl, ?_⟩
        dsimp only [tNil]
        refine allows_of (S.same sB) ((hit x (List.mem_of_getElem? hx)).same sB) ?_ fun H6 s6 => ?_
        · have my := List.mem_of_getElem? hy
          rcases List.mem_append.mp my with h | h
          · exact .inl ((hit y (List.mem_of_mem_tail h)).same sB)
          · exact .inr (List.mem_singleton.mp h)
        · have eD := s6 _ _ (s5 _ _ e4)
          refine ⟨_, eD, ?_, ?_, ?_⟩
          · rw [List.length_map]
            refine Nat.lt_of_le_of_lt (List.length_take_le' _ _) ?_
            rw [List.length_zip]
            exact small1000 (by omega)
          · exact Same.store (s4.trans (s5.trans s6)) hD
          · rw [upd_same, take_more hz, List.map_append]
            rfl
      · rintro H4 ⟨s4, e4⟩
        have el : (xs.zip (xs.tail ++ [V.non])).take xs.length = xs.zip (xs.tail ++ [V.non]) := List.take_of_length_le (by rw [List.length_zip]; omega)
        rw [el] at e4
        refine ⟨D, (xs.zip (xs.tail ++ [V.non])).map fun z => jdg ds ks z.1 z.2, rfl, SqL.of (by rw [e4, List.map_map]; rfl), ?_⟩
        have z := q H4 (sA.trans s4)
        rw [List.all_map]
        exact z

/-! ### value_of -/
def valI (b : Int) (ns : List Int) : Int := ns.foldl (fun v d => v * b + d) 0
theorem jdg_int {ds : List Int} {ks : List (Addr × (Int × Int))} {x y : V} (h : jdg ds ks x y = true) : ∃ n : Int, x = .int n := by
  cases x with
  | int n => exact ⟨n, rfl⟩
  | _ => cases h
theorem row_ints {ds : List Int} {ks : List (Addr × (Int × Int))} : ∀ {xs : List V}, (∀ (i : Nat) x, xs[i]? = some x → ∃ n : Int, x = .int n) → ∃ ns : List Int, xs = ns.map V.int
  | [], _ => ⟨[], rfl⟩
  | x :: xs, h => by
    obtain ⟨n, e⟩ := h 0 x rfl
    obtain ⟨ns, e2⟩ := row_ints (ds := ds) (ks := ks) (xs := xs) fun i y hy => h (i + 1) y hy
    exact ⟨n :: ns, by rw [e, e2]; rfl⟩
theorem rowB_ints {ds : List Int} {ks : List (Addr × (Int × Int))} {xs : List V} (h : rowB ds ks xs = true) : ∃ ns : List Int, xs = ns.map V.int := by
  refine row_ints (ds := ds) (ks := ks) fun i x hx => ?_
  have hi : i < xs.length := (List.getElem?_eq_some_iff.mp hx).1
  have hl : i < (xs.tail ++ [V.non]).length := by
    rw [List.length_append, List.length_tail]
    show i < xs.length - 1 + 1
    omega
  have hz : (xs.zip (xs.tail ++ [V.non]))[i]? = some (x, (xs.tail ++ [V.non])[i]) := by
    rw [List.getElem?_zip_eq_some]
    exact ⟨hx, List.getElem?_eq_getElem hl⟩
  exact jdg_int (List.all_eq_true.mp h _ (List.mem_of_getElem? hz))
def spValueOf (C CR : Addr) : Sp := fun vs H Q E => ∃ (a t r : Addr) (b : Int) (ds : List Int) (ks : List (Addr × (Int × Int))) (x : V), vs = [.ref a, x] ∧ SchemeAt C H a t r b ds ks ∧ b.natAbs ≤ 6 ∧
  ((NoTup H x ∧ Raised CR "row" x H E) ∨ ∃ (p : Addr) (xs : List V), x = .ref p ∧ H p = some (.tup xs) ∧ xs.length ≤ 1000 ∧ (∀ y ∈ xs, ItemOk H y) ∧ (∀ ns : List Int, xs = ns.map V.int → rowB ds ks xs = true → ∀ H', Same H H' → Q (.int (valI b ns)) H') ∧ (rowB ds ks xs = false → Raised CR "row" x H E))
abbrev nVo : List Str := ["self", "row", "value", "digit"]
theorem scVo : FnScope nVo ["self", "row"] (defScope sValueOf) := ⟨rfl, rfl, rfl, by decide +kernel, rfl, by decide +kernel, by decide +kernel⟩
theorem ok_valueof {f fH fI C CR : Addr} {fd fdH fdI : FuncData} (F : Fun K "value_of" "Scheme.value_of" sValueOf f fd) (c : Cls K C) (n1 : NoAttr K C "_base") (mH : Meth K C "__contains__" fH)
    (GH : FnOk P w K mg base CX0 6 fH fdH ["self", "row"] (spHas C)) (bH : Binds K fdH ["self", "row"] [])
    (GI : FnOk P w K mg base CX0 3 fI fdI ["self", "row"] (spInit K "row" CR)) (T : ErrC K mg "InvalidRow" "row" CR fI) (bI : Binds K fdI ["self", "row"] []) :
    FnOk P w K mg base (L2.CX P w) 7 f fd ["self", "row"] (spValueOf C CR) := by
  refine F.okX scVo (fun vs H Q E h => ?_) (fun cdv A outer s H vs Q E hr h => ?_)
  · obtain ⟨a, t, r, b, ds, ks, x, rfl, _⟩ := h
    rfl
  · obtain ⟨a, t, r, b, ds, ks, x, rfl, S, hb, h⟩ := h
    have hr3 : Room 3 _ := hr.mono (by decide)
    have hr4 : Room 4 _ := hr.mono (by decide)
    apply Exists.intro
    apply And.intro
    · apply pss_cons
      · exact ps_if (pt_cmpR (op_notInOwn mH.at_ mH.fn GH bH hr pass0) (pv 1) (pv 0) rfl) (pss_one (ps_raise rfl (takes_of rfl rfl rfl rfl) (pmk_oex T.ox T.iC T.tI GI hr4 bI .nil pass0 (by rfl) T.g (pa_cons (pv 1) pa_nil)))) pss_nil
      apply pss_cons
      · exact ps_set (i := 2) scVo.nd rfl (.inl rfl) pe_int
      apply pss_cons
      · exact ps_for (passes_of rfl) rfl (pi_tup (pv 1)) (pg_name (i := 3) scVo.nd rfl (.inl rfl)) (pss_one (ps_set (i := 2) scVo.nd rfl (.inl rfl) (pe_op op_add (pe_op op_mul (pv 2) (pe_fld (pv 0) rfl)) (pv 3))))
      apply pss_one
      · exact ps_ret (pv 2)
    have S0 := S
    obtain ⟨⟨dx, hins⟩, _⟩ := S0
    rcases h with ⟨no, hE⟩ | ⟨p, xs, rfl, hp, hlen, hit, hq, hE⟩
    · refine ⟨x, rfl, .ref a, rfl, a, dx, _, rfl, hins, a, t, r, b, ds, ks, x, rfl, S, .inl ⟨no, fun H' s' => ⟨false, rfl, true, rfl, iteT ?_⟩⟩⟩
      exact ⟨x, rfl, raised_ok (σ := start nVo [.ref a, x]) (D := { nx := fun _ H' => Q .non H', rt := Q }) hE s'⟩
    · refine ⟨.ref p, rfl, .ref a, rfl, a, dx, _, rfl, hins, a, t, r, b, ds, ks, .ref p, rfl, S, .inr ⟨p, xs, rfl, hp, hlen, hit, fun H' s' => ⟨_, rfl, _, rfl, ?_⟩⟩⟩
      cases hrb : rowB ds ks xs with
      | false => exact iteT ⟨.ref p, rfl, raised_ok (σ := start nVo [.ref a, .ref p]) (D := { nx := fun _ H' => Q .non H', rt := Q }) (hE hrb) s'⟩
      | true =>
        refine iteF ?_
        obtain ⟨ns, rfl⟩ := rowB_ints hrb
        have hp' := s' _ _ hp
        refine ⟨.ref p, rfl, p, rfl, ⟨_, SqT.of hp'⟩, for_tup (K := K) (a := p) (xs := ns.map V.int) (fun i σ H2 => (∃ v, σ = [some (.ref a), some (.ref p), some (.int (valI b (ns.take i))), v]) ∧ H2 = H') ⟨⟨none, rfl⟩, rfl⟩ (fun i σ H2 _ h => by rw [h.2]; exact SqT.of hp') ?_ ?_⟩
        · rintro i x σ H2 hx ⟨⟨v, rfl⟩, rfl⟩
          obtain ⟨n, hn, rfl⟩ := get_map hx
          refine ⟨_, rfl, .ref a, rfl, a, C, dx, _, .int b, rfl, s' _ _ hins, c, n1, lk_base, _, _, rfl, rfl, .inr ⟨by omega, by omega⟩, .int n, rfl, _, _, rfl, rfl, ⟨some (.int n), ?_⟩, rfl⟩
          rw [take_more hn]
          unfold valI
          rw [List.foldl_append]
          rfl
        · rintro σ H2 ⟨⟨v, rfl⟩, rfl⟩
          rw [List.length_map, List.take_length]
          exact ⟨_, rfl, hq ns rfl hrb _ s'⟩

/-! ### == -/
end
end K66
/-! -o and str(o) of an own class with __neg__, __str__. -/
namespace OF
open PySem PySem.Spec PyProof.Rows L2
section
variable {X : Cx} {CX : CXT} {n : Nat} {f C : Addr} {fd : FuncData} {ps : List Str} {sp : Sp} {E : XK}
def rNegOwn (C : Addr) (sp : Sp) (E : XK) : V → Hp → VK → Prop := fun x H Q => ∃ a dx fs, x = .ref a ∧ H a = some (.ins C dx fs) ∧ sp [.ref a] H Q E
theorem un_negOwn (hs : PySem.W.findIn X.K (.ref C) "__neg__" = some (some (.ref f))) (hf : PySem.W.isFn X.K (.ref f) = true) (F : FnOk X.prog X.w X.K X.mg X.base CX n f fd ps sp) (hb : Binds X.K fd ps []) (hr : Room n X.A) (hx : Passes CX X E) :
    UnR X (unaryOp .USub) (rNegOwn C sp E) := by
  intro pins s σ H x v Q I rx h
  obtain ⟨a, dx, fs, rfl, ha, q⟩ := h
  cases (show v = Value.ref a from rx)
  obtain ⟨mA, J, _⟩ := ins_get I.hok ha
  obtain ⟨od, J, _⟩ := J.look
  obtain ⟨m, hF⟩ := I.fr
  exact PySem.W.ksp_neg hF I.ok.mod.kin J hs hf (run_fn (us := [.ref a]) (vs := [.ref a]) F hr hb .nil hx I (.cons rfl .nil) q)
def rStrOwn (C : Addr) (sp : Sp) (E : XK) : List V → Hp → VK → Prop := fun xs H Q => ∃ a dx fs, xs = [.ref a] ∧ H a = some (.ins C dx fs) ∧ sp [.ref a] H (fun z H' => ∃ y : Str, z = .str y ∧ Q z H') E
theorem call_strOwn (hs : PySem.W.findIn X.K (.ref C) "__str__" = some (some (.ref f))) (hf : PySem.W.isFn X.K (.ref f) = true) (F : FnOk X.prog X.w X.K X.mg X.base CX n f fd ps sp) (hb : Binds X.K fd ps []) (hr : Room (n + 2) X.A) (hx : Passes CX X E) :
    CallR X (.type "str") (rStrOwn C sp E) := by
  intro pins s σ H xs us Q I r h
  obtain ⟨a, dx, fs, rfl, ha, q⟩ := h
  obtain ⟨u, rfl, ru⟩ := vals1 r
  cases ru
  obtain ⟨mA, J, _⟩ := ins_get I.hok ha
  obtain ⟨od, J, _⟩ := J.look
  obtain ⟨m, hF⟩ := I.fr
  refine PySem.W.kso_call hr.in1.in1.units0 I.kIn J hs hf ?_
  have bn := hb s [.ref a] I.kIn (F.len _ _ _ _ q)
  refine wpAny_call (codeAny_mono (F.run X.A.in1.in1 X.stack s H ⟨[.ref a], []⟩ [.ref a] [.ref a] _ E hr.in1.in1 I.env0.in1.in1 bn (.cons rfl .nil) q) fun r s' hq => ?_)
  cases r with
  | error e => exact hx pins σ H s e s' I hq
  | ok fl =>
    cases fl with
    | ret u =>
      obtain ⟨z, H', I', rz, y, rfl, q'⟩ := I.after hq
      obtain ⟨t, rfl⟩ := rz
      exact ⟨.str y, H', I', ⟨_, rfl⟩, q'⟩
    | next => exact hq.elim
    | brk => exact hq.elim
    | cont => exact hq.elim
end
end OF
namespace K66
open PySem PySem.Spec PyProof.Rows L2 OF
section
variable {P : Program} {w : World} {K : PySem.W.Frag} {mg : Str → Option Value} {base : Heap}
/-! ### what is due -/
inductive Ver
  | base (x : V)
  | dig (x : V)
  | bar (x : V)
  | made (b : Int) (ns : List Int) (ks : List (Addr × List Int))
inductive Due (K : PySem.W.Frag) (H : Hp) : V → V → V → Ver → Prop
  | base {x y z : V} (ix : ItemOk H x) (bx : baseV x = false) : Due K H x y z (.base x)
  | digN {b : Int} {y z : V} (hb : isBase b = true) (n : NoSeq H y) : Due K H (.int b) y z (.dig y)
  | digA {b : Int} {p : Addr} {xs : List V} {z : V} (hb : isBase b = true) (s : IsSeq K H p xs) (it : ∀ v ∈ xs, ItemOk H v) (l : xs.length ≤ 60) (bad : xs.all digV = false) : Due K H (.int b) (.ref p) z (.dig (.ref p))
  | digS {b : Int} {p : Addr} {ns : List Int} {z : V} (hb : isBase b = true) (s : IsSeq K H p (ns.map V.int)) (l : ns.length ≤ 60) (ok : ns.all dig = true) (six : SixOf ns false) : Due K H (.int b) (.ref p) z (.dig (.ref p))
  | barN {b : Int} {p : Addr} {ns : List Int} {z : V} (hb : isBase b = true) (s : IsSeq K H p (ns.map V.int)) (l : ns.length ≤ 60) (ok : ns.all dig = true) (six : SixOf ns true) (n : NoSeq H z) : Due K H (.int b) (.ref p) z (.bar z)
  | barB {b : Int} {p q : Addr} {ns : List Int} {ks : List (Addr × List Int)} {u : V} {more : List V} (hb : isBase b = true) (s : IsSeq K H p (ns.map V.int)) (l : ns.length ≤ 60) (ok : ns.all dig = true) (six : SixOf ns true) (t : IsSeq K H q (ks.map (fun p => V.ref p.1) ++ u :: more)) (few : ks.length < 64) (hk : ∀ p ∈ ks, BarOk H ns p) (bad : BadBar H ns u) : Due K H (.int b) (.ref p) (.ref q) (.bar u)
  | made {b : Int} {p q : Addr} {ns : List Int} {ks : List (Addr × List Int)} (hb : isBase b = true) (s : IsSeq K H p (ns.map V.int)) (l : ns.length ≤ 60) (ok : ns.all dig = true) (six : SixOf ns true) (t : IsSeq K H q (ks.map fun p => V.ref p.1)) (few : ks.length < 64) (hk : ∀ p ∈ ks, BarOk H ns p) : Due K H (.int b) (.ref p) (.ref q) (.made b ns ks)
theorem ints_item {H : Hp} (ns : List Int) : ∀ v ∈ ns.map V.int, ItemOk H v := fun v hv => by
  obtain ⟨n, _, rfl⟩ := List.mem_map.mp hv
  exact .inl ⟨n, rfl⟩
theorem ints_digV (ns : List Int) : (ns.map V.int).all digV = ns.all dig := by
  rw [List.all_map]
  rfl
theorem ints_inj : ∀ {ns ms : List Int}, ns.map V.int = ms.map V.int → ns = ms
  | [], [], _ => rfl
  | [], _ :: _, e => by cases e
  | _ :: _, [], e => by cases e
  | a :: l, b :: m, e => by
    rw [List.map_cons, List.map_cons, List.cons.injEq] at e
    rw [V.int.inj e.1, ints_inj e.2]
/-- a new instance's heap -/
abbrev newAt (H : Hp) (C a dx : Addr) : Hp := upd (upd H dx (.own a)) a (.ins C dx [])
theorem newAt_same {H : Hp} {C a dx : Addr} (ha : H a = none) (hd : H dx = none) : Same H (newAt H C a dx) := fun c o hc => by
  show upd (upd H dx (.own a)) a (.ins C dx []) c = some o
  rw [upd_ne (ne_of_none hc ha), upd_ne (ne_of_none hc hd)]
  exact hc
theorem IsSeq.pairs {H H' : Hp} {ns : List Int} {ks : List (Addr × List Int)} (h : ∀ p ∈ ks, BarOk H ns p) (s : Same H H') : ∀ p ∈ ks, BarOk H' ns p := fun p hp => by
  obtain ⟨x, y, e, hp2, z⟩ := h p hp
  exact ⟨x, y, e, s _ _ hp2, z⟩
/-- Scheme(..) of any values, by what is due: the errors, or the parts -/
theorem new_due {C CB CD CP a dx : Addr} {H : Hp} {x y z : V} {v : Ver} {Q : VK} {E : XK} (d : Due K H x y z v) (ha : H a = none) (hd : H dx = none)
    (qe : ∀ (C' : Addr) (f : Str) (u : V), (v = .base u ∧ C' = CB ∨ v = .dig u ∧ C' = CD ∨ v = .bar u ∧ C' = CP) → ∀ (fs : List (Str × V)) (d : Addr) (H' : Hp), Same H H' → H' d = some (.xd (("value", u) :: fs)) → E (.ref C') (some d) H')
    (qm : ∀ (b : Int) (ns : List Int) (ks : List (Addr × List Int)), v = .made b ns ks → ∀ (ds : List Int) (L : List (Addr × List Int)) (t r : Addr) (H' : Hp), ds.Pairwise (· < ·) → (∀ k, k ∈ ds ↔ k ∈ ns) → (∀ p ∈ L, p ∈ ks) → (∀ p ∈ ks, p.2 ∈ L.map (·.2)) → (L.map (·.2)).Nodup → L.Pairwise (fun q r => SrtO.lexB (duo r.2) (duo q.2) = false) →
      Same H H' → H' a = some (.ins C dx [("_base", .int b), ("_digits", .ref t), ("_bars", .ref r)]) → H' t = some (.tup (ds.map V.int)) → H' r = some (.tup (L.map fun q => V.ref q.1)) → Q .non H') :
    spNew K C CB CD CP [.ref a, x, y, z] (newAt H C a dx) Q E := by
  have s0 := newAt_same (C := C) ha hd
  have ea : (newAt H C a dx) a = some (.ins C dx []) := upd_same
  have up : ∀ {H'}, But a (newAt H C a dx) H' → Same H H' := fun t c o hc => t c o (ne_of_none hc ha) (s0 c o hc)
  have er : ∀ (C' : Addr) (u : V), (v = .base u ∧ C' = CB ∨ v = .dig u ∧ C' = CD ∨ v = .bar u ∧ C' = CP) → RaisedA a C' "value" u (newAt H C a dx) E := fun C' u hv fs d H' _ t ed => qe C' "value" u hv fs d H' (up t) ed
  refine ⟨a, dx, x, y, z, rfl, ea, ?_⟩
  cases d with
  | base ix bx => exact .inl ⟨ix.same s0, bx, er CB x (.inl ⟨rfl, rfl⟩)⟩
  | digN hb n => exact .inr ⟨_, rfl, hb, .inl ⟨n.same s0, er CD y (.inr (.inl ⟨rfl, rfl⟩))⟩⟩
  | digA hb s it l bad =>
    refine .inr ⟨_, rfl, hb, .inr ⟨_, _, rfl, s.same s0, fun v hv => (it v hv).same s0, l, fun _ => er CD _ (.inr (.inl ⟨rfl, rfl⟩)), fun ns e ok => ?_⟩⟩
    rw [e, ints_digV, ok] at bad
    cases bad
  | @digS b p ns _ hb s l ok six =>
    refine .inr ⟨_, rfl, hb, .inr ⟨_, _, rfl, s.same s0, ints_item ns, (by rw [List.length_map]; exact l), fun _ => er CD _ (.inr (.inl ⟨rfl, rfl⟩)), fun ns2 e _ => ⟨false, ?_, fun _ => er CD _ (.inr (.inl ⟨rfl, rfl⟩)), fun z => nomatch z⟩⟩⟩
    cases ints_inj e
    exact six
  | @barN b p ns _ hb s l ok six n =>
    refine .inr ⟨_, rfl, hb, .inr ⟨_, _, rfl, s.same s0, ints_item ns, (by rw [List.length_map]; exact l), (fun h => by rw [ints_digV, ok] at h; cases h), fun ns2 e _ => ⟨true, ?_, (fun z => nomatch z), fun _ => .inl ⟨n.same s0, er CP _ (.inr (.inr ⟨rfl, rfl⟩))⟩⟩⟩⟩
    cases ints_inj e
    exact six
  | @barB b p q ns ks u more hb s l ok six t few hk bad =>
    refine .inr ⟨_, rfl, hb, .inr ⟨_, _, rfl, s.same s0, ints_item ns, (by rw [List.length_map]; exact l), (fun h => by rw [ints_digV, ok] at h; cases h), fun ns2 e _ => ?_⟩⟩
    cases ints_inj e
    exact ⟨true, six, (fun z => nomatch z), fun _ => .inr ⟨_, ks, u :: more, rfl, t.same s0, few, IsSeq.pairs hk s0, .inl ⟨u, more, rfl, bad.same s0, er CP _ (.inr (.inr ⟨rfl, rfl⟩))⟩⟩⟩
  | @made b p q ns ks hb s l ok six t few hk =>
    refine .inr ⟨_, rfl, hb, .inr ⟨_, _, rfl, s.same s0, ints_item ns, (by rw [List.length_map]; exact l), (fun h => by rw [ints_digV, ok] at h; cases h), fun ns2 e _ => ?_⟩⟩
    cases ints_inj e
    refine ⟨true, six, (fun z => nomatch z), fun _ => .inr ⟨_, ks, [], rfl, by rw [List.append_nil]; exact t.same s0, few, IsSeq.pairs hk s0, .inr ⟨rfl, fun ds L t r H' asc m sub all nd pw tb e1 e2 e3 => ?_⟩⟩⟩
    exact qm _ _ _ rfl ds L t r H' asc m sub all nd pw (up tb) e1 e2 e3


/-! ### a scheme, whole -/
def IsS (C : Addr) (H : Hp) (a : Addr) (b : Int) (ds : List Int) (ps : List (Int × Int)) : Prop := Good b ds ps ∧ ∃ (t r : Addr) (ks : List (Addr × (Int × Int))), ks.map (·.2) = ps ∧ SchemeAt C H a t r b ds ks
theorem IsS.same {C a : Addr} {H H' : Hp} {b : Int} {ds : List Int} {ps : List (Int × Int)} (h : IsS C H a b ds ps) (s : Same H H') : IsS C H' a b ds ps := by
  obtain ⟨G, t, r, ks, e, S⟩ := h
  exact ⟨G, t, r, ks, e, S.same s⟩
theorem lexP_tot {p q : Int × Int} (h : SrtO.lexB q p = false) (n : p ≠ q) : lexP p q := by
  have h2 : ¬ (q.1 < p.1 ∨ (q.1 = p.1 ∧ q.2 < p.2)) := fun z => by
    rw [SrtO.lexB_iff.mpr z] at h
    cases h
  unfold lexP
  rcases p with ⟨p1, p2⟩
  rcases q with ⟨q1, q2⟩
  have h3 : ¬ (p1 = q1 ∧ p2 = q2) := fun z => n (by rw [z.1, z.2])
  simp only at h2 ⊢
  omega
/-- the pairs of a list, as the program holds them -/
def asL (p : Addr × (Int × Int)) : Addr × List Int := (p.1, [p.2.1, p.2.2])
/-- Scheme(..) of good parts in any order, twice told or not -/
theorem new_made {C CB CD CP a dx p q : Addr} {H : Hp} {b : Int} {ns ds : List Int} {ks : List (Addr × (Int × Int))} {ps : List (Int × Int)} {Q : VK} {E : XK} (hb : isBase b = true) (s : IsSeq K H p (ns.map V.int)) (l : ns.length ≤ 60) (ok : ns.all dig = true)
    (t : IsSeq K H q (ks.map fun p => V.ref p.1)) (few : ks.length < 64) (hk : ∀ p ∈ ks, H p.1 = some (.tup [.int p.2.1, .int p.2.2])) (G : Good b ds ps) (md : ∀ k, k ∈ ds ↔ k ∈ ns) (mp : ∀ z, z ∈ ps ↔ z ∈ ks.map (·.2))
    (ha : H a = none) (hd : H dx = none) (qm : ∀ H', Same H H' → IsS C H' a b ds ps → Q .non H') : spNew K C CB CD CP [.ref a, .int b, .ref p, .ref q] (newAt H C a dx) Q E := by
  have six : SixOf ns true := fun k nd mem => by
    have pm : k.Perm ds := (List.perm_ext_iff_of_nodup nd (by rw [List.nodup_iff_pairwise_ne]; exact G.asc.imp fun h => by omega)).mpr fun z => (mem z).trans (md z).symm
    rw [pm.length_eq, decide_eq_true G.one, decide_eq_true G.six]
    rfl
  have one : ∀ n ∈ ds, isOne ns n = true := fun n hn => by
    unfold isOne
    rw [G.dg n hn, decide_eq_true ((md n).mp hn)]
    rfl
  have hk2 : ∀ z ∈ ks.map asL, BarOk H ns z := fun z hz => by
    obtain ⟨y, hy, rfl⟩ := List.mem_map.mp hz
    obtain ⟨m1, m2⟩ := G.mem y.2 ((mp _).mpr (List.mem_map.mpr ⟨y, hy, rfl⟩))
    exact ⟨_, _, rfl, hk y hy, one _ m1, one _ m2⟩
  have t2 : IsSeq K H q ((ks.map asL).map fun p => V.ref p.1) := by
    rw [List.map_map]
    exact t
  refine new_due (.made hb s l ok six t2 (by rw [List.length_map]; exact few) hk2) ha hd (fun C' f u z => ?_) fun b2 ns2 ks2 e => ?_
  · rcases z with ⟨z, _⟩ | ⟨z, _⟩ | ⟨z, _⟩ <;> cases z
  cases e
  intro ds2 L t3 r3 H' asc mds sub all nd pw s2 e1 e2 e3
  have eds : ds2 = ds := sorted_ext (r := (· < ·)) (fun a b h => by omega) asc G.asc fun x => (mds x).trans (md x).symm
  subst eds
  have two : ∀ p ∈ L, p.2 = [(duo p.2).1, (duo p.2).2] := fun p hp => by
    obtain ⟨z, _, rfl⟩ := List.mem_map.mp (sub p hp)
    rfl
  have eL : (L.map fun p => (p.1, duo p.2)).map (·.2) = ps := by
    refine sorted_ext lexP_as ?_ G.lex fun z => ?_
    · rw [List.map_map, List.pairwise_map]
      rw [List.nodup_iff_pairwise_ne, List.pairwise_map] at nd
      refine List.Pairwise.imp_of_mem (fun {q1 q2} h1 h2 ⟨z1, z2⟩ => ?_) (pw.and nd)
      refine lexP_tot z1 fun e => z2 ?_
      have e2 : duo q1.2 = duo q2.2 := e
      rw [two q1 h1, two q2 h2, e2]
    · rw [mp]
      constructor
      · intro hz
        rw [List.map_map] at hz
        obtain ⟨y, hy, rfl⟩ := List.mem_map.mp hz
        obtain ⟨x, hx, rfl⟩ := List.mem_map.mp (sub y hy)
        exact List.mem_map.mpr ⟨x, hx, rfl⟩
      · intro hz
        obtain ⟨x, hx, rfl⟩ := List.mem_map.mp hz
        obtain ⟨y, hy, e⟩ := List.mem_map.mp (all (asL x) (List.mem_map.mpr ⟨x, hx, rfl⟩))
        rw [List.map_map]
        refine List.mem_map.mpr ⟨y, hy, ?_⟩
        show duo y.2 = x.2
        rw [e]
        rfl
  refine qm H' s2 ⟨G, t3, r3, L.map fun p => (p.1, duo p.2), eL, ⟨⟨dx, e1⟩, e2, ?_, fun z hz => ?_⟩⟩
  · rw [e3, List.map_map]
    rfl
  · obtain ⟨y, hy, rfl⟩ := List.mem_map.mp hz
    obtain ⟨x, hx, rfl⟩ := List.mem_map.mp (sub y hy)
    exact s2 _ _ (hk x hx)

/-! ### the text of a row of digits -/
def spRowI : Sp := fun vs H Q _ => ∃ (p : Addr) (is : List Int), vs = [.ref p] ∧ H p = some (.tup (is.map V.int)) ∧ is.length ≤ 200 ∧ (∀ i ∈ is, dig i = true) ∧ ∀ H', Same H H' → Q (.str (textOf is)) H'
theorem dig_in {i : Int} (h : dig i = true) : -9 ≤ i ∧ i ≤ 9 := by
  unfold dig at h
  rw [Bool.and_eq_true, decide_eq_true_eq, decide_eq_true_eq] at h
  exact h
theorem scRT : FnScope ["row", "digit"] ["row"] (defScope sRowText) := ⟨rfl, rfl, rfl, by decide +kernel, rfl, by decide +kernel, by decide +kernel⟩
theorem eqv_nil : ∀ is : List Int, PyData.eqv (.tuple (is.map PyData.int)) (.tuple []) = decide (is = [])
  | [] => by decide +kernel
  | i :: is => by
    rw [decide_eq_false (List.cons_ne_nil i is)]
    simp only [PyData.eqv, List.map_cons, PyData.eqvAll]
set_option maxHeartbeats 2000000 in
theorem ok_rowtext {f fA fI C : Addr} {fd fdA fdI : FuncData} {tE : Tok} (F : Fun K "row_text" "row_text" sRowText f fd) (GA : FnOk P w K mg base CX0 4 fA fdA ["items"] (spAre K)) (gA : mg "are_digits" = some (.ref fA)) (kA : PySem.W.keepIn K (.ref fA) = true) (bA : Binds K fdA ["items"] [])
    (GI : FnOk P w K mg base CX0 3 fI fdI ["self", "row"] (spInit K "row" C)) (T : ErrC K mg "InvalidRow" "row" C fI) (bI : Binds K fdI ["self", "row"] [])
    (gE : mg "EMPTY_TEXT" = some (.str "." tE)) (mis : mg "isinstance" = none) (mt : mg "tuple" = none) (ms : mg "str" = none) : FnOk P w K mg base (L2.CX P w) 5 f fd ["row"] spRowI := by
  refine F.okX scRT (fun vs H Q E h => ?_) (fun cdv A outer s H vs Q E hr h => ?_)
  · obtain ⟨p, is, rfl, _⟩ := h
    rfl
  · obtain ⟨p, is, rfl, ep, hl, hdg, q⟩ := h
    have hd : ∀ i ∈ is, -9 ≤ i ∧ i ≤ 9 := fun i hi => dig_in (hdg i hi)
    apply Exists.intro
    apply And.intro
    · apply pss_cons
      · exact ps_if (PW.pt (pw_or (pt_not (pt_val (pe_callB call_isi (by rfl) mis PyProof.Rows.boot_isinstance (pa_cons (pv 0) (pa_cons (pe_bltn (v := .ty "tuple") (by rfl) mt (by decide +kernel) rfl) pa_nil)))))
            (pw_or1 (pt_not (pt_val (pe_call GA hr (by rfl) gA kA bA .nil pass0 (pa_cons (pv 0) pa_nil)))))))
          (pss_one (ps_raise rfl (takes_of rfl rfl rfl rfl) (pmk_oex T.ox T.iC T.tI GI hr bI .nil pass0 (by rfl) T.g (pa_cons (pv 0) pa_nil)))) pss_nil
      apply pss_cons
      · exact ps_if (pt_cmpR (op_eqD hr.units) (pv 0) (pe_tup pa_nil) (nomark _)) (pss_one (ps_ret (pe_glob (v := .str ".") rfl gE ⟨_, rfl⟩))) pss_nil
      apply pss_one
      · exact ps_ret (pe_join pe_str (pe_lc (own := [("digit", 1)]) (g := gName 1) (tt := tYes) rfl scRT.nd (pi_tup (pv 0)) (blkOk_by (own := [("digit", 1)]) (N := ["row", "digit"]) (sc := defScope sRowText) (by decide +kernel))
            (fun _ _ _ _ _ => pg_name (i := 1) scRT.nd rfl (Or.inl rfl)) (fun _ _ _ _ _ => pts_nil) (fun _ _ _ _ _ => by exact (pe_callTy call_str_int (by rfl) ms PyProof.Rows.boot_str (pa_cons (pv 1) pa_nil)))))
    refine ⟨.ref p, rfl, .ref p, .ty "tuple", .type "tuple", .type "tuple", true, rfl, .ty _, .base (.tup ep), kit_ty (by decide +kernel), true, rfl, iteF ?_⟩
    refine ⟨.ref p, rfl, p, _, rfl, .inr (SqT.of ep), ints_item is, by rw [List.length_map]; omega, fun H1 s1 => ⟨_, rfl, ?_⟩⟩
    rw [ints_digV, List.all_eq_true.mpr hdg]
    refine iteF ?_
    have ep1 := s1 _ _ ep
    refine ⟨.ref p, rfl, (by show 0 ≤ sizeLine; decide), fun t ht => ?_⟩
    have s2 := same_new (o := .tup []) ht
    have d1 := DatOf.tup (K := K) (s2 _ _ ep1)
    have d2 := DatOf.tup (K := K) (is := []) (upd_same (H := H1) (a := t) (o := .tup []))
    refine ⟨_, _, d1.dp _ (Same.refl _), d2.dp _ (Same.refl _), shaped_of d1.can (Nat.le_trans d1.dep (by decide)), shaped_of d2.can (Nat.le_trans d2.dep (by decide)), _, rfl, ?_⟩
    rw [show PyData.eqv (.tuple (is.map PyData.int)) (.tuple (([] : List Int).map PyData.int)) = decide (is = []) from eqv_nil is]
    have sA := s1.trans s2
    by_cases hn : is = []
    · refine iteTB (decide_eq_true hn) ?_
      have e : textOf is = Str.ofString "." := if_pos hn
      rw [e] at q
      exact q _ sA
    · refine iteFB (decide_eq_false hn) ?_
      have e : textOf is = Txt.join (Str.ofString " ") (is.map strI) := if_neg hn
      rw [e] at q
      have ep2 := s2 _ _ ep1
      generalize upd H1 t (.tup []) = H2 at sA ep2 ⊢
      refine ⟨⟨_, rfl⟩, .ref p, rfl, p, rfl, ⟨_, SqT.of ep2⟩, fun D hD => ?_⟩
      refine lc_tup (K := K) (a := p) (xs := is.map V.int) (fun i H' => Same H2 H' ∧ H' D = some (.lst ((is.take i).map fun k => V.str (strI k)))) ⟨same_new hD, upd_same⟩ (fun i H' _ h => SqT.of (h.1 _ _ ep2)) ?_ ?_
      · rintro i x H' hi ⟨s3, e3⟩
        obtain ⟨k, hk, rfl⟩ := get_map hi
        have hk2 := hd k (List.mem_of_getElem? hk)
        refine ⟨rfl, tYes_if ⟨_, rfl, _, rfl, log_le (by omega), _, e3, ?_, Same.store s3 hD, ?_⟩⟩
        · rw [List.length_map]
          exact Nat.lt_of_le_of_lt (List.length_take_le' _ _) (small1000 (by omega))
        · rw [upd_same, take_more hk, List.map_append]
          rfl
      · rintro H3 ⟨s3, e3⟩
        rw [List.length_map, List.take_length] at e3
        have em : (is.map fun k => V.str (strI k)) = (is.map strI).map V.str := by
          rw [List.map_map]
          rfl
        rw [em] at e3
        refine ⟨_, D, is.map strI, rfl, rfl, .inl (SqL.of e3), ?_, q _ (sA.trans s3)⟩
        have h1 := sum_len (n := 2) (ps := is.map strI) fun y hy => by
          obtain ⟨i, hi, rfl⟩ := List.mem_map.mp hy
          exact (strI_ok (hd i hi)).1
        have h2 : (Str.ofString " ").length = 1 := by decide +kernel
        rw [h2]
        rw [List.length_map] at h1 ⊢
        omega
end
end K66
namespace K66
open PySem PySem.Spec PyProof.Rows L2 OF
section
variable {P : Program} {w : World} {K : PySem.W.Frag} {mg : Str → Option Value} {base : Heap}

/-! ### what is no scheme -/
/-- no built-in kind is of the class -/
structure NotK (K : PySem.W.Frag) (C : Addr) : Prop where
  non : PySem.W.kitOne K (.type "NoneType") (.ref C) = some false
  bl : PySem.W.kitOne K (.type "bool") (.ref C) = some false
  str : PySem.W.kitOne K (.type "str") (.ref C) = some false
  lst : PySem.W.kitOne K (.type "list") (.ref C) = some false
  tup : PySem.W.kitOne K (.type "tuple") (.ref C) = some false
  dct : PySem.W.kitOne K (.type "dict") (.ref C) = some false
  int : PySem.W.kitOne K (.type "int") (.ref C) = some false
theorem NotK.odd {K : PySem.W.Frag} {C : Addr} {H : Hp} {x : V} (N : NotK K C) (h : ItemOk H x) : ∃ t : Value, TyX K H x t ∧ PySem.W.kitOne K t (.ref C) = some false := by
  rcases h with ⟨n, rfl⟩ | h
  · exact ⟨_, .base (.int n), N.int⟩
  cases h with
  | non => exact ⟨_, .base .non, N.non⟩
  | bl b => exact ⟨_, .base (.bl b), N.bl⟩
  | str z => exact ⟨_, .base (.str z), N.str⟩
  | lst e => exact ⟨_, .base (.lst e), N.lst⟩
  | tup e => exact ⟨_, .base (.tup e), N.tup⟩
  | dK e => exact ⟨_, .base (.dK e), N.dct⟩
def spIsSch (C : Addr) : Sp := fun vs H Q _ => ∃ x : V, vs = [x] ∧ ((∃ (a dx : Addr) (fs : List (Str × V)), x = .ref a ∧ H a = some (.ins C dx fs) ∧ Q (.bl true) H) ∨ (ItemOk H x ∧ Q (.bl false) H))
theorem scIs : FnScope ["value"] ["value"] (defScope sIsSch) := ⟨rfl, rfl, rfl, by decide +kernel, rfl, by decide +kernel, by decide +kernel⟩
theorem ok_issch {f C : Addr} {fd : FuncData} (F : Fun K "is_scheme" "is_scheme" sIsSch f fd) (I : IsC K C) (N : NotK K C) (gC : mg "Scheme" = some (.ref C)) (mis : mg "isinstance" = none) :
    FnOk P w K mg base CX0 1 f fd ["value"] (spIsSch C) := by
  refine F.ok scIs (fun vs H Q E h => ?_) (fun cdv A outer s H vs Q E hr h => ?_)
  · obtain ⟨x, rfl, _⟩ := h
    rfl
  · obtain ⟨x, rfl, h⟩ := h
    refine ⟨_, pss_one (ps_ret (pe_callB call_isi (by rfl) mis PyProof.Rows.boot_isinstance (pa_cons (pv 0) (pa_cons (pe_glob (v := .ref C) (by rfl) gC rfl) pa_nil)))), ?_⟩
    rcases h with ⟨a, dx, fs, rfl, ha, q⟩ | ⟨o, q⟩
    · exact ⟨.ref a, rfl, .ref a, .ref C, .ref C, .ref C, true, rfl, .own C, .base (.ins ha I.cl I.ha I.hn I.ht I.hm), I.own, q⟩
    · obtain ⟨t, ty, k⟩ := N.odd o
      exact ⟨x, rfl, x, .ref C, t, .ref C, false, rfl, .own C, ty, k, q⟩
def spCheckS (C CN : Addr) : Sp := fun vs H Q E => ∃ x : V, vs = [x] ∧ ((∃ (a dx : Addr) (fs : List (Str × V)), x = .ref a ∧ H a = some (.ins C dx fs) ∧ Q .non H) ∨ (ItemOk H x ∧ Raised CN "value" x H E))
theorem scCs : FnScope ["value"] ["value"] (defScope sCheckS) := ⟨rfl, rfl, rfl, by decide +kernel, rfl, by decide +kernel, by decide +kernel⟩
theorem ok_checks {f fS fI C CN : Addr} {fd fdS fdI : FuncData} (F : Fun K "check_scheme" "check_scheme" sCheckS f fd) (GS : FnOk P w K mg base CX0 1 fS fdS ["value"] (spIsSch C)) (gS : mg "is_scheme" = some (.ref fS)) (kS : PySem.W.keepIn K (.ref fS) = true) (bS : Binds K fdS ["value"] [])
    (GI : FnOk P w K mg base CX0 3 fI fdI ["self", "value"] (spInit K "value" CN)) (T : ErrC K mg "NotScheme" "value" CN fI) (bI : Binds K fdI ["self", "value"] []) :
    FnOk P w K mg base (L2.CX P w) 5 f fd ["value"] (spCheckS C CN) := by
  refine F.okX scCs (fun vs H Q E h => ?_) (fun cdv A outer s H vs Q E hr h => ?_)
  · obtain ⟨x, rfl, _⟩ := h
    rfl
  · obtain ⟨x, rfl, h⟩ := h
    have hr1 : Room 1 _ := hr.mono (by decide)
    refine ⟨_, pss_one (ps_if (pt_not (pt_val (pe_call GS hr1 (by rfl) gS kS bS .nil pass0 (pa_cons (pv 0) pa_nil))))
      (pss_one (ps_raise rfl (takes_of rfl rfl rfl rfl) (pmk_oex T.ox T.iC T.tI GI hr bI .nil pass0 (by rfl) T.g (pa_cons (pv 0) pa_nil)))) pss_nil), ?_⟩
    rcases h with ⟨a, dx, fs, rfl, ha, q⟩ | ⟨o, hE⟩
    · exact ⟨.ref a, rfl, .ref a, rfl, .inl ⟨a, dx, fs, rfl, ha, true, rfl, iteF q⟩⟩
    · exact ⟨x, rfl, x, rfl, .inr ⟨o, false, rfl, iteT ⟨x, rfl, raised_ok (σ := start ["value"] [x]) (D := { nx := fun _ H' => Q .non H', rt := Q }) hE (Same.refl H)⟩⟩⟩

/-! ### _power -/
theorem pow_lt {b : Int} (hb : b.natAbs ≤ 6) (n : Nat) : (b ^ n).natAbs < 2 ^ (3 * n + 1) := by
  rw [Int.natAbs_pow]
  refine Nat.lt_of_le_of_lt (Nat.pow_le_pow_left hb n) ?_
  have h1 : (6 : Nat) ^ n ≤ 8 ^ n := Nat.pow_le_pow_left (by decide) n
  have h2 : (8 : Nat) ^ n = 2 ^ (3 * n) := by rw [Nat.pow_mul]
  rw [Nat.pow_succ, ← h2]
  have : 0 < (8 : Nat) ^ n := Nat.pow_pos (by decide)
  omega
def spPow : Sp := fun vs H Q _ => ∃ (b : Int) (n : Nat), vs = [.int b, .int n] ∧ b.natAbs ≤ 6 ∧ n ≤ 100000 ∧ Q (.int (b ^ n)) H
theorem scPowP : FnScope ["base", "exponent", "power", "_"] ["base", "exponent"] (defScope sPowP) := ⟨rfl, rfl, rfl, by decide +kernel, rfl, by decide +kernel, by decide +kernel⟩
theorem ok_powP {f : Addr} {fd : FuncData} (F : Fun K "_power" "_power" sPowP f fd) (mr : mg "range" = none) : FnOk P w K mg base CX0 1 f fd ["base", "exponent"] spPow := by
  refine F.ok scPowP (fun vs H Q E h => ?_) (fun cdv A outer s H vs Q E hr h => ?_)
  · obtain ⟨b, n, rfl, _⟩ := h
    rfl
  · obtain ⟨b, n, rfl, hb, hn, q⟩ := h
    apply Exists.intro
    apply And.intro
    · apply pss_cons
      · exact ps_set (i := 2) scPowP.nd rfl (.inl rfl) pe_int
      apply pss_cons
      · exact ps_for PassesOwn.never rfl (pi_range1 rfl mr (pa_cons (pv 1) pa_nil)) (pg_name (i := 3) scPowP.nd rfl (.inl rfl)) (pss_one (ps_set (i := 2) scPowP.nd rfl (.inl rfl) (pe_op op_mul (pv 2) (pv 0))))
      apply pss_one
      · exact ps_ret (pv 2)
    refine ⟨.int n, rfl, _, rfl, by omega, by omega, for_range (lo := 0) (n := n) (fun i σ H' => (∃ v, σ = [some (.int b), some (.int n), some (.int (b ^ i)), v]) ∧ H' = H) ⟨⟨none, by rw [Int.pow_zero]; rfl⟩, rfl⟩ ?_ ?_⟩
    · rintro i σ H' hi ⟨⟨v, rfl⟩, rfl⟩
      refine ⟨.int (b ^ i), rfl, .int b, rfl, _, _, rfl, rfl, .inr ⟨by omega, by omega⟩, ⟨some (.int (0 + i)), ?_⟩, rfl⟩
      rw [Int.pow_succ]
      rfl
    · rintro σ H' ⟨⟨v, rfl⟩, rfl⟩
      exact ⟨_, rfl, q⟩
end
end K66
namespace K66
open PySem PySem.Spec PyProof.Rows L2 OF
/-! ### lowest terms -/
def lowC (t d : Int) : Int := if d < 0 then -((Nat.gcd t.natAbs d.natAbs : Nat) : Int) else ((Nat.gcd t.natAbs d.natAbs : Nat) : Int)
def lowI (t d : Int) : Int × Int := (t.fdiv (lowC t d), d.fdiv (lowC t d))
theorem lowC_ne {t d : Int} (h : d ≠ 0) : lowC t d ≠ 0 := by
  have g : 0 < Nat.gcd t.natAbs d.natAbs := Nat.gcd_pos_of_pos_right _ (by omega)
  unfold lowC
  split <;> omega
theorem lowC_abs (t d : Int) : (lowC t d).natAbs = Nat.gcd t.natAbs d.natAbs := by
  unfold lowC
  split <;> omega
theorem lowC_le {t d : Int} (h : d ≠ 0) : (lowC t d).natAbs ≤ d.natAbs := by
  rw [lowC_abs]
  exact Nat.gcd_le_right _ (by omega)
theorem lowC_dvd (t d : Int) : lowC t d ∣ t ∧ lowC t d ∣ d := by
  rw [← Int.natAbs_dvd_natAbs, ← Int.natAbs_dvd_natAbs, lowC_abs]
  exact ⟨Nat.gcd_dvd_left _ _, Nat.gcd_dvd_right _ _⟩
theorem lowC_mul {k t d : Int} (hk : k ≠ 0) (hd : d ≠ 0) : lowC (k * t) (k * d) = k * lowC t d := by
  unfold lowC
  rw [Int.natAbs_mul, Int.natAbs_mul, Nat.gcd_mul_left]
  generalize Nat.gcd t.natAbs d.natAbs = g
  rcases Int.lt_or_lt_of_ne hk with h | h
  · have e : (k.natAbs : Int) = -k := by omega
    rw [Int.natCast_mul, e]
    rcases Int.lt_or_lt_of_ne hd with h2 | h2
    · have h3 : 0 < k * d := Int.mul_pos_of_neg_of_neg h h2
      rw [if_neg (by omega), if_pos h2, Int.neg_mul, Int.mul_neg]
    · have h3 : k * d < 0 := Int.mul_neg_of_neg_of_pos h h2
      rw [if_pos h3, if_neg (by omega), Int.neg_mul, Int.neg_neg]
  · have e : (k.natAbs : Int) = k := by omega
    rw [Int.natCast_mul, e]
    rcases Int.lt_or_lt_of_ne hd with h2 | h2
    · have h3 : k * d < 0 := Int.mul_neg_of_pos_of_neg h h2
      rw [if_pos h3, if_pos h2, Int.mul_neg]
    · have h3 : 0 < k * d := Int.mul_pos h h2
      rw [if_neg (by omega), if_neg (by omega)]
theorem fdiv_mul {k c x : Int} (hk : k ≠ 0) (hc : c ≠ 0) (h : c ∣ x) : (k * x).fdiv (k * c) = x.fdiv c := by
  obtain ⟨y, rfl⟩ := h
  rw [Int.mul_fdiv_cancel_left _ hc, ← Int.mul_assoc, Int.mul_fdiv_cancel_left _ (Int.mul_ne_zero hk hc)]
theorem lowI_mul {k t d : Int} (hk : k ≠ 0) (hd : d ≠ 0) : lowI (k * t) (k * d) = lowI t d := by
  unfold lowI
  rw [lowC_mul hk hd, fdiv_mul hk (lowC_ne hd) (lowC_dvd t d).1, fdiv_mul hk (lowC_ne hd) (lowC_dvd t d).2]
/-! ### the value of an endless row -/
theorem valI_snoc (b : Int) (xs ys : List Int) : valI b (xs ++ ys) = valI b xs * b ^ ys.length + valI b ys := by
  have key : ∀ (ys : List Int) (v : Int), ys.foldl (fun v d => v * b + d) v = v * b ^ ys.length + ys.foldl (fun v d => v * b + d) 0 := by
    intro ys
    induction ys with
    | nil =>
      intro v
      show v = v * b ^ 0 + 0
      rw [Int.pow_zero]
      omega
    | cons y ys ih =>
      intro v
      rw [List.foldl_cons, List.foldl_cons, ih (v * b + y), ih (0 * b + y), List.length_cons, Int.pow_succ]
      rw [Int.add_mul, Int.zero_mul, Int.zero_add, Int.mul_assoc, Int.mul_comm b]
      omega
  unfold valI
  rw [List.foldl_append, key ys]
def topI (b : Int) (f r : List Int) : Int := valI b f * (b ^ r.length - 1) + valI b r
def botI (b : Int) (f r : List Int) : Int := b ^ f.length * (b ^ r.length - 1)
def fracI (b : Int) (f r : List Int) : Int × Int := lowI (topI b f r) (botI b f r)
theorem pow_big {b : Int} (hb : 2 ≤ b.natAbs) {n : Nat} (hn : 1 ≤ n) : 2 ≤ (b ^ n).natAbs := by
  rw [Int.natAbs_pow]
  obtain ⟨m, rfl⟩ : ∃ m, n = m + 1 := ⟨n - 1, by omega⟩
  rw [Nat.pow_succ]
  have : 0 < b.natAbs ^ m := Nat.pow_pos (by omega)
  calc 2 ≤ 1 * b.natAbs := by omega
    _ ≤ b.natAbs ^ m * b.natAbs := Nat.mul_le_mul_right _ this
theorem pow_ne {b : Int} (hb : 2 ≤ b.natAbs) (n : Nat) : b ^ n ≠ 0 := fun e => by
  have h := congrArg Int.natAbs e
  rw [Int.natAbs_pow] at h
  have : 0 < b.natAbs ^ n := Nat.pow_pos (by omega)
  have h0 : (0 : Int).natAbs = 0 := rfl
  omega
theorem botI_ne {b : Int} (hb : 2 ≤ b.natAbs) {f r : List Int} (hr : r ≠ []) : botI b f r ≠ 0 := by
  have h1 := pow_ne hb f.length
  have h2 := pow_big hb (n := r.length) (by cases r with | nil => exact absurd rfl hr | cons x l => rw [List.length_cons]; omega)
  exact Int.mul_ne_zero h1 (by omega)
theorem frac_front {b : Int} (hb : 2 ≤ b.natAbs) {f r : List Int} (hr : r ≠ []) : fracI b (f ++ r) r = fracI b f r := by
  have e1 : topI b (f ++ r) r = b ^ r.length * topI b f r := by
    unfold topI
    rw [valI_snoc]
    generalize b ^ r.length = p
    generalize valI b f = x
    generalize valI b r = y
    rw [Int.add_mul, Int.mul_sub, Int.mul_sub, Int.mul_one, Int.mul_one, Int.mul_add, Int.mul_sub, Int.mul_one, Int.mul_sub, Int.mul_comm p (x * p), Int.mul_comm p x, Int.mul_comm p y]
    omega
  have e2 : botI b (f ++ r) r = b ^ r.length * botI b f r := by
    unfold botI
    rw [List.length_append, Int.pow_add, Int.mul_comm (b ^ f.length), Int.mul_assoc]
  unfold fracI
  rw [e1, e2, lowI_mul (pow_ne hb _) (botI_ne hb hr)]
theorem frac_ring {b : Int} (hb : 2 ≤ b.natAbs) {f r : List Int} (hr : r ≠ []) : fracI b f (r ++ r) = fracI b f r := by
  have hp := pow_big hb (n := r.length) (by cases r with | nil => exact absurd rfl hr | cons x l => rw [List.length_cons]; omega)
  have e0 : b ^ (r ++ r).length - 1 = (b ^ r.length + 1) * (b ^ r.length - 1) := by
    rw [List.length_append, Int.pow_add]
    generalize b ^ r.length = p
    rw [Int.add_mul, Int.mul_sub, Int.one_mul, Int.mul_one]
    omega
  have e1 : topI b f (r ++ r) = (b ^ r.length + 1) * topI b f r := by
    unfold topI
    rw [e0, valI_snoc, Int.mul_add, ← Int.mul_assoc, Int.mul_comm (valI b f) (b ^ r.length + 1), Int.mul_assoc]
    have : (b ^ r.length + 1) * valI b r = valI b r * b ^ r.length + valI b r := by
      rw [Int.add_mul, Int.one_mul, Int.mul_comm]
    omega
  have e2 : botI b f (r ++ r) = (b ^ r.length + 1) * botI b f r := by
    unfold botI
    rw [e0, ← Int.mul_assoc, Int.mul_comm (b ^ f.length), Int.mul_assoc]
  unfold fracI
  rw [e1, e2, lowI_mul (by omega) (botI_ne hb hr)]
/-! ### how long they are -/
theorem val_lt {b : Int} (hb : b.natAbs ≤ 6) {xs : List Int} (h : ∀ x ∈ xs, x.natAbs ≤ 9) : (valI b xs).natAbs + 2 ≤ 2 * 9 ^ xs.length := by
  have key : ∀ (xs : List Int) (v : Int), (∀ x ∈ xs, x.natAbs ≤ 9) → (xs.foldl (fun v d => v * b + d) v).natAbs + 2 ≤ (v.natAbs + 2) * 9 ^ xs.length := by
    intro xs
    induction xs with
    | nil =>
      intro v _
      show v.natAbs + 2 ≤ (v.natAbs + 2) * 9 ^ 0
      omega
    | cons x xs ih =>
      intro v h
      rw [List.foldl_cons]
      refine Nat.le_trans (ih (v * b + x) fun y hy => h y (List.mem_cons_of_mem _ hy)) ?_
      have h2 := h x List.mem_cons_self
      have h3 : (v * b).natAbs ≤ v.natAbs * 6 := by
        rw [Int.natAbs_mul]
        exact Nat.mul_le_mul_left _ hb
      have h4 : (v * b + x).natAbs ≤ (v * b).natAbs + x.natAbs := Int.natAbs_add_le _ _
      rw [List.length_cons, Nat.pow_succ, Nat.mul_comm (9 ^ xs.length) 9, ← Nat.mul_assoc]
      exact Nat.mul_le_mul_right _ (by omega)
  exact key xs 0 h
theorem nine_pow (n : Nat) : 2 * 9 ^ n ≤ 2 ^ (4 * n + 1) := by
  have h1 : (9 : Nat) ^ n ≤ 16 ^ n := Nat.pow_le_pow_left (by decide) n
  have h2 : (16 : Nat) ^ n = 2 ^ (4 * n) := by rw [Nat.pow_mul]
  rw [Nat.pow_succ, ← h2]
  omega
theorem val_two {b : Int} (hb : b.natAbs ≤ 6) {xs : List Int} (h : ∀ x ∈ xs, x.natAbs ≤ 9) : (valI b xs).natAbs < 2 ^ (4 * xs.length + 1) := by
  have h1 := val_lt hb h
  have h2 := nine_pow xs.length
  omega
theorem less_one {x : Int} {n : Nat} (h : x.natAbs < 2 ^ n) : (x - 1).natAbs < 2 ^ (n + 1) := by
  have h1 : (x - 1).natAbs ≤ x.natAbs + 1 := by omega
  rw [Nat.pow_succ]
  have : 0 < 2 ^ n := Nat.pow_pos (by decide)
  omega
theorem add_two {x y : Int} {n : Nat} (h : x.natAbs < 2 ^ n) (k : y.natAbs < 2 ^ n) : (x + y).natAbs < 2 ^ (n + 1) := by
  have h1 := Int.natAbs_add_le x y
  rw [Nat.pow_succ]
  omega
theorem two_mono {x : Int} {n m : Nat} (h : x.natAbs < 2 ^ n) (hm : n ≤ m) : x.natAbs < 2 ^ m := Nat.lt_of_lt_of_le h (Nat.pow_le_pow_right (by decide) hm)
end K66
namespace K66
open PySem PySem.Spec PyProof.Rows L2 OF
/-! ### rows by digits and pairs alone -/
def rowP (ds : List Int) (ps : List (Int × Int)) : List Int → Bool
  | [] => true
  | [n] => decide (n ∈ ds)
  | n :: m :: l => (decide (n ∈ ds) && decide ((n, m) ∉ ps)) && rowP ds ps (m :: l)
theorem eqv_pair (z p : Int × Int) : PyData.eqv (pd2 z) (pd2 p) = decide (z = p) := by
  obtain ⟨a, b⟩ := z
  obtain ⟨n, m⟩ := p
  unfold pd2
  simp only [PyData.eqv, PyData.eqvAll, Bool.and_true]
  by_cases h1 : a = n <;> by_cases h2 : b = m <;> simp [h1, h2]
theorem hasBar_iff (ks : List (Addr × (Int × Int))) (n m : Int) : hasBar ks n m = decide ((n, m) ∈ ks.map (·.2)) := by
  unfold hasBar
  rw [List.any_map]
  induction ks with
  | nil => rfl
  | cons k ks ih =>
    rw [List.any_cons, ih, List.map_cons]
    show (PyData.eqv (pd2 k.2) (pd2 (n, m)) || _) = _
    rw [eqv_pair]
    by_cases h : k.2 = (n, m)
    · simp [h]
    · have h2 : (n, m) ≠ k.2 := fun e => h e.symm
      simp [h, h2]
theorem isOne_in {ds : List Int} (hd : ∀ d ∈ ds, dig d = true) (n : Int) : isOne ds n = decide (n ∈ ds) := by
  unfold isOne
  by_cases h : n ∈ ds
  · rw [hd n h, decide_eq_true h]
    rfl
  · rw [decide_eq_false h, Bool.and_false]
theorem rowB_pair {ds : List Int} (hd : ∀ d ∈ ds, dig d = true) {ks : List (Addr × (Int × Int))} : ∀ ns : List Int, rowB ds ks (ns.map V.int) = rowP ds (ks.map (·.2)) ns
  | [] => rfl
  | [n] => by
    show (isOne ds n && true) = _
    rw [Bool.and_true, isOne_in hd]
    rfl
  | n :: m :: l => by
    have ih := rowB_pair hd (ks := ks) (m :: l)
    show ((isOne ds n && (isOne ds m && !hasBar ks n m)) && rowB ds ks ((m :: l).map V.int)) = _
    rw [ih, isOne_in hd, isOne_in hd, hasBar_iff]
    show _ = ((decide (n ∈ ds) && decide ((n, m) ∉ ks.map (·.2))) && rowP ds (ks.map (·.2)) (m :: l))
    have : rowP ds (ks.map (·.2)) (m :: l) = true → decide (m ∈ ds) = true := fun h => by
      cases l with
      | nil => exact h
      | cons k l =>
        have h : ((decide (m ∈ ds) && decide ((m, k) ∉ ks.map (·.2))) && rowP ds (ks.map (·.2)) (k :: l)) = true := h
        rw [Bool.and_eq_true, Bool.and_eq_true] at h
        exact h.1.1
    cases hp : rowP ds (ks.map (·.2)) (m :: l) with
    | false => rw [Bool.and_false, Bool.and_false]
    | true =>
      rw [this hp]
      by_cases h : (n, m) ∈ ks.map (·.2) <;> simp [h]
theorem rowP_mem {ds : List Int} {ps : List (Int × Int)} : ∀ {ns : List Int}, rowP ds ps ns = true → ∀ n ∈ ns, n ∈ ds
  | [], _, n, h => by cases h
  | [n], h, m, hm => by
    rw [List.mem_singleton.mp hm]
    exact of_decide_eq_true h
  | n :: m :: l, h, k, hk => by
    have h : ((decide (n ∈ ds) && decide ((n, m) ∉ ps)) && rowP ds ps (m :: l)) = true := h
    rw [Bool.and_eq_true, Bool.and_eq_true, decide_eq_true_eq] at h
    rcases List.mem_cons.mp hk with rfl | hk
    · exact h.1.1
    · exact rowP_mem h.2 k hk
section
variable {P : Program} {w : World} {K : PySem.W.Frag} {mg : Str → Option Value} {base : Heap}
/-- a value that is no row -/
def NoRow (H : Hp) (ds : List Int) (ps : List (Int × Int)) (y : V) : Prop := NoTup H y ∨ ∃ (p : Addr) (xs : List V), y = .ref p ∧ H p = some (.tup xs) ∧ xs.length ≤ 1000 ∧ (∀ v ∈ xs, ItemOk H v) ∧ ∀ ns : List Int, xs = ns.map V.int → rowP ds ps ns = false
theorem NoRow.same {H H' : Hp} {ds : List Int} {ps : List (Int × Int)} {y : V} (h : NoRow H ds ps y) (s : Same H H') : NoRow H' ds ps y := by
  rcases h with h | ⟨p, xs, e, hp, l, it, no⟩
  · exact .inl (h.same s)
  · exact .inr ⟨p, xs, e, s _ _ hp, l, fun v hv => (it v hv).same s, no⟩
theorem rowB_no {ds : List Int} (hd : ∀ d ∈ ds, dig d = true) {ks : List (Addr × (Int × Int))} {xs : List V} (no : ∀ ns : List Int, xs = ns.map V.int → rowP ds (ks.map (·.2)) ns = false) : rowB ds ks xs = false := by
  cases h : rowB ds ks xs with
  | false => rfl
  | true =>
    obtain ⟨ns, e⟩ := rowB_ints h
    have z := no ns e
    rw [← rowB_pair hd, ← e, h] at z
    exact z
theorem op_fdivNW {X : Cx} : OpR X (binaryOp .FloorDiv) (rI (fun _ j => j ≠ 0 ∧ j.natAbs.log2 < 9000) fun i j => .int (i.fdiv j)) := opI fun _ _ _ _ _ _ _ hc q => floordiv_int hc.1 q (.inl (PyProof.noPylong_of_log2 hc.2))
/-! ### _lowest -/
def spLowP : Sp := fun vs H Q _ => ∃ t d : Int, vs = [.int t, .int d] ∧ d ≠ 0 ∧ d.natAbs < 2 ^ 8000 ∧ ∀ p H', Same H H' → H' p = some (.tup [.int (lowI t d).1, .int (lowI t d).2]) → Q (.ref p) H'
theorem scLowP : FnScope ["top", "bottom", "common"] ["top", "bottom"] (defScope sLowP) := ⟨rfl, rfl, rfl, by decide +kernel, rfl, by decide +kernel, by decide +kernel⟩
theorem small_c {t d : Int} (h : d ≠ 0) (hd : d.natAbs < 2 ^ 8000) : lowC t d ≠ 0 ∧ (lowC t d).natAbs.log2 < 9000 := by
  refine ⟨lowC_ne h, ?_⟩
  have := PySem.Flt.log2_lt_of (by decide : 0 < 8000) (Nat.lt_of_le_of_lt (lowC_le (t := t) h) hd)
  omega
theorem ok_lowP {f : Addr} {fd : FuncData} (F : Fun K "_lowest" "_lowest" sLowP f fd) (gG : mg "gcd" = some (.builtin "math.gcd")) : FnOk P w K mg base CX0 1 f fd ["top", "bottom"] spLowP := by
  refine F.ok scLowP (fun vs H Q E h => ?_) (fun cdv A outer s H vs Q E hr h => ?_)
  · obtain ⟨t, d, rfl, _⟩ := h
    rfl
  · obtain ⟨t, d, rfl, h0, hd, q⟩ := h
    apply Exists.intro
    apply And.intro
    · apply pss_cons
      · exact ps_set (i := 2) scLowP.nd rfl (.inl rfl) (pe_callBfun cr_gcd (by rfl) gG (pa_cons (pv 0) (pa_cons (pv 1) pa_nil)))
      apply pss_cons
      · exact ps_if (pt_cmpR op_lt (pv 1) pe_int (nomark _)) (pss_one (ps_set (i := 2) scLowP.nd rfl (.inl rfl) (pe_un un_neg (pv 2)))) pss_nil
      apply pss_one
      · exact ps_ret (pe_tup (pa_cons (pe_op op_fdivNW (pv 0) (pv 2)) (pa_cons (pe_op op_fdivNW (pv 1) (pv 2)) pa_nil)))
    have hc := small_c (t := t) h0 hd
    refine ⟨.int t, rfl, .int d, rfl, t, d, rfl, ?_⟩
    have fin : ∀ {σ : L2.St} {c : Int}, c = lowC t d → σ = [some (.int t), some (.int d), some (.int c)] → (tRet (tTup (tCons (tOp (rI (fun _ j => j ≠ 0 ∧ j.natAbs.log2 < 9000) fun i j => .int (i.fdiv j)) (tVar 0) (tVar 2)) (tCons (tOp (rI (fun _ j => j ≠ 0 ∧ j.natAbs.log2 < 9000) fun i j => .int (i.fdiv j)) (tVar 1) (tVar 2)) tNil)))) { nx := fun _ H' => Q .non H', rt := Q } σ H := by
      rintro σ c rfl rfl
      refine ⟨.int t, rfl, .int _, rfl, t, _, rfl, rfl, hc, .int d, rfl, .int _, rfl, d, _, rfl, rfl, hc, (by show 2 ≤ sizeLine; decide), fun p hp => ?_⟩
      exact q p _ (same_new hp) upd_same
    refine ⟨.int d, rfl, d, 0, rfl, rfl, _, rfl, ite2 (fun z => ?_) (fun z => ?_)⟩
    · refine ⟨_, rfl, _, rfl, fin ?_ rfl⟩
      unfold lowC
      rw [if_pos (of_decide_eq_true z)]
    · refine fin ?_ rfl
      unfold lowC
      rw [if_neg fun e => z (decide_eq_true e)]
end
end K66
namespace K66
open PySem PySem.Spec PyProof.Rows L2 OF
section
variable {P : Program} {w : World} {K : PySem.W.Frag} {mg : Str → Option Value} {base : Heap}
/-! ### fraction_of -/
def spFrac (C CN CR : Addr) : Sp := fun vs H Q E => ∃ x y z : V, vs = [x, y, z] ∧ ((ItemOk H x ∧ Raised CN "value" x H E) ∨ ∃ (o : Addr) (b : Int) (ds : List Int) (ps : List (Int × Int)), x = .ref o ∧ IsS C H o b ds ps ∧
  ((NoRow H ds ps y ∧ Raised CR "row" y H E) ∨ ∃ (p : Addr) (fs : List Int), y = .ref p ∧ H p = some (.tup (fs.map V.int)) ∧ fs.length ≤ 450 ∧ rowP ds ps fs = true ∧
    ((NoRow H ds ps z ∧ Raised CR "row" z H E) ∨ ∃ (q : Addr) (rs : List Int), z = .ref q ∧ H q = some (.tup (rs.map V.int)) ∧ rs.length ≤ 60 ∧ rowP ds ps rs = true ∧
      (((rs = [] ∨ rowP ds ps (fs ++ rs ++ rs) = false) ∧ Raised CR "row" z H E) ∨ (rs ≠ [] ∧ rowP ds ps (fs ++ rs ++ rs) = true ∧ ∀ t H', Same H H' → H' t = some (.tup [.int (fracI b fs rs).1, .int (fracI b fs rs).2]) → Q (.ref t) H')))))
theorem has_no {C : Addr} {H : Hp} {a t r : Addr} {b : Int} {ds : List Int} {ks : List (Addr × (Int × Int))} {y : V} {Q : VK} {E : XK} (S : SchemeAt C H a t r b ds ks) (hd : ∀ d ∈ ds, dig d = true) (n : NoRow H ds (ks.map (·.2)) y) (q : ∀ H', Same H H' → Q (.bl false) H') : spHas C [.ref a, y] H Q E := by
  refine ⟨a, t, r, b, ds, ks, y, rfl, S, ?_⟩
  rcases n with n | ⟨p, xs, rfl, hp, l, it, no⟩
  · exact .inl ⟨n, q⟩
  · refine .inr ⟨p, xs, rfl, hp, l, it, ?_⟩
    rw [rowB_no hd no]
    exact q
theorem has_row {C : Addr} {H : Hp} {a t r p : Addr} {b : Int} {ds ns : List Int} {ks : List (Addr × (Int × Int))} {Q : VK} {E : XK} (S : SchemeAt C H a t r b ds ks) (hd : ∀ d ∈ ds, dig d = true) (hp : H p = some (.tup (ns.map V.int))) (l : ns.length ≤ 1000) (q : ∀ H', Same H H' → Q (.bl (rowP ds (ks.map (·.2)) ns)) H') : spHas C [.ref a, .ref p] H Q E := by
  refine ⟨a, t, r, b, ds, ks, _, rfl, S, .inr ⟨p, _, rfl, hp, by rw [List.length_map]; exact l, ints_item ns, ?_⟩⟩
  rw [rowB_pair hd]
  exact q
theorem value_row {C CR : Addr} {H : Hp} {a t r p : Addr} {b : Int} {ds ns : List Int} {ks : List (Addr × (Int × Int))} {Q : VK} {E : XK} (S : SchemeAt C H a t r b ds ks) (hb : b.natAbs ≤ 6) (hd : ∀ d ∈ ds, dig d = true) (hp : H p = some (.tup (ns.map V.int))) (l : ns.length ≤ 1000) (ok : rowP ds (ks.map (·.2)) ns = true) (q : ∀ H', Same H H' → Q (.int (valI b ns)) H') : spValueOf C CR [.ref a, .ref p] H Q E := by
  refine ⟨a, t, r, b, ds, ks, _, rfl, S, hb, .inr ⟨p, _, rfl, hp, by rw [List.length_map]; exact l, ints_item ns, fun ms e _ => ?_, fun no => ?_⟩⟩
  · rw [← ints_inj e]
    exact q
  · rw [rowB_pair hd, ok] at no
    cases no
theorem base_ok {b : Int} (h : isBase b = true) : b.natAbs ≤ 6 ∧ 2 ≤ b.natAbs := by
  unfold isBase at h
  simp only [Bool.or_eq_true, Bool.and_eq_true, decide_eq_true_eq] at h
  omega
abbrev nFr : List Str := ["scheme", "front", "ring", "around", "top"]
theorem scFr : FnScope nFr ["scheme", "front", "ring"] (defScope sFracOf) := ⟨rfl, rfl, rfl, by decide +kernel, rfl, by decide +kernel, by decide +kernel⟩
set_option maxHeartbeats 4000000 in
theorem ok_frac {f fS fH fV fB fP fL fI C CN CR p2 : Addr} {fd fdS fdH fdV fdB fdP fdL fdI : FuncData} (F : Fun K "fraction_of" "fraction_of" sFracOf f fd) (c : Cls K C)
    (GS : FnOk P w K mg base (L2.CX P w) 5 fS fdS ["value"] (spCheckS C CN)) (gS : mg "check_scheme" = some (.ref fS)) (kS : PySem.W.keepIn K (.ref fS) = true) (bS : Binds K fdS ["value"] [])
    (mH : Meth K C "__contains__" fH) (GH : FnOk P w K mg base CX0 6 fH fdH ["self", "row"] (spHas C)) (bH : Binds K fdH ["self", "row"] [])
    (mV : Meth K C "value_of" fV) (GV : FnOk P w K mg base (L2.CX P w) 7 fV fdV ["self", "row"] (spValueOf C CR)) (bV : Binds K fdV ["self", "row"] [])
    (pB : PropOf K C "base" p2 fB) (GB : FnOk P w K mg base CX0 1 fB fdB ["self"] (spPB C)) (bB : Binds K fdB ["self"] [])
    (GP : FnOk P w K mg base CX0 1 fP fdP ["base", "exponent"] spPow) (gP : mg "_power" = some (.ref fP)) (kP : PySem.W.keepIn K (.ref fP) = true) (bP : Binds K fdP ["base", "exponent"] [])
    (GL : FnOk P w K mg base CX0 1 fL fdL ["top", "bottom"] spLowP) (gL : mg "_lowest" = some (.ref fL)) (kL : PySem.W.keepIn K (.ref fL) = true) (bL : Binds K fdL ["top", "bottom"] [])
    (GI : FnOk P w K mg base CX0 3 fI fdI ["self", "row"] (spInit K "row" CR)) (T : ErrC K mg "InvalidRow" "row" CR fI) (bI : Binds K fdI ["self", "row"] [])
    (ml : mg "len" = none) : FnOk P w K mg base (L2.CX P w) 8 f fd ["scheme", "front", "ring"] (spFrac C CN CR) := by
  refine F.okX scFr (fun vs H Q E h => ?_) (fun cdv A outer s H vs Q E hr h => ?_)
  · obtain ⟨x, y, z, rfl, _⟩ := h
    rfl
  · obtain ⟨x, y, z, rfl, h⟩ := h
    have hr1 : Room 1 _ := hr.mono (by decide)
    have hr2 : Room 2 _ := hr.mono (by decide)
    have hr4 : Room 4 _ := hr.mono (by decide)
    have hr5 : Room 5 _ := hr.mono (by decide)
    have hr6 : Room 6 _ := hr.mono (by decide)
    apply Exists.intro
    apply And.intro
    · apply pss_cons
      · exact ps_expr (pe_call GS hr5 (by rfl) gS kS bS .nil (passes_call (W := fun cl d _ J => E cl d J) (takes_of rfl rfl rfl rfl) (fun _ _ _ _ z => z)) (pa_cons (pv 0) pa_nil))
      apply pss_cons
      · exact ps_if (pt_cmpR (op_notInOwn mH.at_ mH.fn GH bH hr6 pass0) (pv 1) (pv 0) rfl) (pss_one (ps_raise rfl (takes_of rfl rfl rfl rfl) (pmk_oex T.ox T.iC T.tI GI hr4 bI .nil pass0 (by rfl) T.g (pa_cons (pv 1) pa_nil)))) pss_nil
      apply pss_cons
      · exact ps_if (PW.pt (pw_or (pt_cmpR (op_notInOwn mH.at_ mH.fn GH bH hr6 pass0) (pv 2) (pv 0) rfl) (pw_or (pt_cmpR (op_eqD hr.units) (pv 2) (pe_tup pa_nil) (nomark _)) (pw_or1 (pt_cmpR (op_notInOwn mH.at_ mH.fn GH bH hr6 pass0) (pe_op op_cat2 (pe_op op_cat2 (pv 1) (pv 2)) (pv 2)) (pv 0) rfl))))) (pss_one (ps_raise rfl (takes_of rfl rfl rfl rfl) (pmk_oex T.ox T.iC T.tI GI hr4 bI .nil pass0 (by rfl) T.g (pa_cons (pv 2) pa_nil)))) pss_nil
      apply pss_cons
      · exact ps_set (i := 3) scFr.nd rfl (.inl rfl) (pe_op op_sub (pe_call GP hr1 (by rfl) gP kP bP .nil pass0 (pa_cons (pe_prop (pv 0) c pB GB hr2 bB .nil pass0 (by rfl)) (pa_cons (pe_callB call_len_seq (by rfl) ml PySem.boot_len (pa_cons (pv 2) pa_nil)) pa_nil))) pe_int)
      apply pss_cons
      · exact ps_set (i := 4) scFr.nd rfl (.inl rfl) (pe_op op_add (pe_op op_mulW (pe_meth (pv 0) c mV GV hr bV .nil (passes_call (W := fun cl d _ J => E cl d J) (takes_of rfl rfl rfl rfl) (fun _ _ _ _ z => z)) (pa_cons (pv 1) pa_nil)) (pv 3)) (pe_meth (pv 0) c mV GV hr bV .nil (passes_call (W := fun cl d _ J => E cl d J) (takes_of rfl rfl rfl rfl) (fun _ _ _ _ z => z)) (pa_cons (pv 2) pa_nil)))
      apply pss_one
      · exact ps_ret (pe_call GL hr1 (by rfl) gL kL bL .nil pass0 (pa_cons (pv 4) (pa_cons (pe_op op_mulW (pe_call GP hr1 (by rfl) gP kP bP .nil pass0 (pa_cons (pe_prop (pv 0) c pB GB hr2 bB .nil pass0 (by rfl)) (pa_cons (pe_callB call_len_seq (by rfl) ml PySem.boot_len (pa_cons (pv 1) pa_nil)) pa_nil))) (pv 3)) pa_nil)))
    rcases h with ⟨o, hE⟩ | ⟨a, b, ds, ps, rfl, IS, h⟩
    · exact ⟨x, rfl, x, rfl, .inr ⟨o, hE⟩⟩
    · obtain ⟨G, t, r, ks, ek, S⟩ := IS
      subst ek
      obtain ⟨b6, b2⟩ := base_ok G.b
      have hd := G.dg
      have ins : ∀ {J : Hp}, Same H J → ∃ dx, J a = some (.ins C dx [("_base", .int b), ("_digits", .ref t), ("_bars", .ref r)]) := fun s => by
        obtain ⟨⟨dx, h⟩, _⟩ := S.same s
        exact ⟨dx, h⟩
      obtain ⟨dx, hins⟩ := ins (Same.refl H)
      refine ⟨.ref a, rfl, .ref a, rfl, .inl ⟨a, dx, _, rfl, hins, ?_⟩⟩
      rcases h with ⟨nr, hE⟩ | ⟨p, fs, rfl, hp, lf, rf, h⟩
      · refine ⟨y, rfl, .ref a, rfl, a, dx, _, rfl, hins, has_no S hd nr fun H1 s1 => ⟨false, rfl, true, rfl, iteT ?_⟩⟩
        exact ⟨y, rfl, raised_ok (σ := start nFr [.ref a, y, z]) (D := { nx := fun _ H' => Q .non H', rt := Q }) hE s1⟩
      refine ⟨.ref p, rfl, .ref a, rfl, a, dx, _, rfl, hins, has_row S hd hp (by omega) fun H1 s1 => ⟨_, rfl, _, rfl, ?_⟩⟩
      rw [rf]
      refine iteF ?_
      obtain ⟨dx1, hins1⟩ := ins s1
      rcases h with ⟨nr, hE⟩ | ⟨q0, rs, rfl, hq, lr, rr, h⟩
      · refine ⟨z, rfl, .ref a, rfl, a, dx1, _, rfl, hins1, has_no (S.same s1) hd (nr.same s1) fun H2 s2 => ⟨false, rfl, true, rfl, iteT ?_⟩⟩
        exact ⟨z, rfl, raised_ok (σ := start nFr [.ref a, .ref p, z]) (D := { nx := fun _ H' => Q .non H', rt := Q }) hE (s1.trans s2)⟩
      refine ⟨.ref q0, rfl, .ref a, rfl, a, dx1, _, rfl, hins1, has_row (S.same s1) hd (s1 _ _ hq) (by omega) fun H2 s2 => ⟨_, rfl, _, rfl, ?_⟩⟩
      rw [rr]
      refine iteF ?_
      have s12 := s1.trans s2
      refine ⟨.ref q0, rfl, (by show 0 ≤ sizeLine; decide), fun t0 ht0 => ?_⟩
      have s3 := s12.trans (same_new (o := .tup []) ht0)
      have e3 : (upd H2 t0 (.tup [])) t0 = some (.tup []) := upd_same
      generalize upd H2 t0 (.tup []) = H3 at s3 e3 ⊢
      refine ⟨.tuple (rs.map .int), .tuple (([] : List Int).map .int), .tup (SqT.of (s3 _ _ hq)) (dp_ints rs), .tup (SqT.of e3) .nil, ints_shapedT rs, ints_shapedT [], _, rfl, ?_⟩
      rw [show PyData.eqv (.tuple (rs.map PyData.int)) (.tuple (([] : List Int).map PyData.int)) = decide (rs = []) from eqv_nil rs]
      by_cases hn : rs = []
      · refine iteTB (decide_eq_true hn) ?_
        rcases h with ⟨_, hE⟩ | ⟨ne, _⟩
        · exact ⟨.ref q0, rfl, raised_ok (σ := start nFr [.ref a, .ref p, .ref q0]) (D := { nx := fun _ H' => Q .non H', rt := Q }) hE s3⟩
        · exact absurd hn ne
      refine iteFB (decide_eq_false hn) ?_
      refine ⟨.ref p, rfl, .ref q0, rfl, p, q0, _, _, rfl, rfl, s3 _ _ hp, s3 _ _ hq, (by rw [List.length_map, List.length_map, sizeLine_eq]; omega), fun c1 H4 s4 e4 => ?_⟩
      have s14 := s3.trans s4
      refine ⟨.ref q0, rfl, c1, q0, _, _, rfl, rfl, e4, s14 _ _ hq, (by rw [List.length_append, List.length_map, List.length_map, sizeLine_eq]; omega), fun c2 H5 s5 e5 => ?_⟩
      have s15 := s14.trans s5
      rw [← List.map_append, ← List.map_append] at e5
      obtain ⟨dx5, hins5⟩ := ins s15
      refine ⟨.ref a, rfl, a, dx5, _, rfl, hins5, has_row (S.same s15) hd e5 (by rw [List.length_append, List.length_append]; omega) fun H6 s6 => ⟨_, rfl, _, rfl, ?_⟩⟩
      have s16 := s15.trans s6
      rcases h with ⟨bad, hE⟩ | ⟨_, ok, q⟩
      · have bad : rowP ds (ks.map (·.2)) (fs ++ rs ++ rs) = false := by
          rcases bad with h | h
          · exact absurd h hn
          · exact h
        rw [bad]
        refine iteT ?_
        exact ⟨.ref q0, rfl, raised_ok (σ := start nFr [.ref a, .ref p, .ref q0]) (D := { nx := fun _ H' => Q .non H', rt := Q }) hE s16⟩
      rw [ok]
      refine iteF ?_
      obtain ⟨dx6, hins6⟩ := ins s16
      refine ⟨.ref a, rfl, a, dx6, _, rfl, hins6, a, t, r, b, ds, ks, rfl, S.same s16, ?_⟩
      refine ⟨.ref q0, rfl, q0, _, rfl, .inr (SqT.of (s16 _ _ hq)), b, (rs.map V.int).length, rfl, b6, (by rw [List.length_map]; omega), ?_⟩
      refine ⟨_, 1, rfl, rfl, ?_⟩
      rw [List.length_map]
      have dg9 : ∀ {ns : List Int}, rowP ds (ks.map (·.2)) ns = true → ∀ n ∈ ns, n.natAbs ≤ 9 := fun h n hn => by
        have := dig_in (hd n (rowP_mem h n hn))
        omega
      have wA : (b ^ rs.length - 1).natAbs < 2 ^ 200 := two_mono (less_one (pow_lt b6 rs.length)) (by omega)
      have wF : (valI b fs).natAbs < 2 ^ 2000 := two_mono (val_two b6 (dg9 rf)) (by omega)
      have wR : (valI b rs).natAbs < 2 ^ 2200 := two_mono (val_two b6 (dg9 rr)) (by omega)
      have wP : (b ^ fs.length).natAbs < 2 ^ 2000 := two_mono (pow_lt b6 fs.length) (by omega)
      refine ⟨.ref a, rfl, a, dx6, _, rfl, hins6, rfl, .ref p, rfl, ?_⟩
      dsimp only [tNil]
      refine value_row (S.same s16) b6 hd (s16 _ _ hp) (by omega) rf fun H7 s7 => ?_
      have s17 := s16.trans s7
      obtain ⟨dx7, hins7⟩ := ins s17
      refine ⟨.int _, rfl, valI b fs, b ^ rs.length - 1, rfl, rfl, wide_mul wF wA (by decide) (by decide) (by decide), ?_⟩
      refine ⟨.ref a, rfl, a, dx7, _, rfl, hins7, rfl, .ref q0, rfl, ?_⟩
      dsimp only [tNil]
      refine value_row (S.same s17) b6 hd (s17 _ _ hq) (by omega) rr fun H8 s8 => ?_
      have s18 := s17.trans s8
      obtain ⟨dx8, hins8⟩ := ins s18
      refine ⟨_, _, rfl, rfl, ?_⟩
      refine ⟨.int _, rfl, .ref a, rfl, a, dx8, _, rfl, hins8, a, t, r, b, ds, ks, rfl, S.same s18, ?_⟩
      refine ⟨.ref p, rfl, p, _, rfl, .inr (SqT.of (s18 _ _ hp)), b, (fs.map V.int).length, rfl, b6, (by rw [List.length_map]; omega), ?_⟩
      rw [List.length_map]
      refine ⟨.int _, rfl, b ^ fs.length, b ^ rs.length - 1, rfl, rfl, wide_mul wP wA (by decide) (by decide) (by decide), ?_⟩
      refine ⟨topI b fs rs, botI b fs rs, rfl, botI_ne b2 hn, two_mono (wide_lt wP wA) (by decide), fun p9 H9 s9 e9 => q p9 H9 (s18.trans s9) e9⟩
end
end K66
namespace K66
open PySem PySem.Spec PyProof.Rows L2 OF
section
variable {P : Program} {w : World} {K : PySem.W.Frag} {mg : Str → Option Value} {base : Heap}
/-! ### the law's own sums -/
theorem scPowL : FnScope ["_law_base", "_law_size", "_law_found", "_law_k"] ["_law_base", "_law_size"] (defScope sPower) := ⟨rfl, rfl, rfl, by decide +kernel, rfl, by decide +kernel, by decide +kernel⟩
theorem ok_power {f : Addr} {fd : FuncData} (F : Fun K "_law_power" "_law_power" sPower f fd) (mr : mg "range" = none) : FnOk P w K mg base CX0 1 f fd ["_law_base", "_law_size"] spPow := by
  refine F.ok scPowL (fun vs H Q E h => ?_) (fun cdv A outer s H vs Q E hr h => ?_)
  · obtain ⟨b, n, rfl, _⟩ := h
    rfl
  · obtain ⟨b, n, rfl, hb, hn, q⟩ := h
    apply Exists.intro
    apply And.intro
    · apply pss_cons
      · exact ps_set (i := 2) scPowL.nd rfl (.inl rfl) pe_int
      apply pss_cons
      · exact ps_for PassesOwn.never rfl (pi_range1 rfl mr (pa_cons (pv 1) pa_nil)) (pg_name (i := 3) scPowL.nd rfl (.inl rfl)) (pss_one (ps_set (i := 2) scPowL.nd rfl (.inl rfl) (pe_op op_mul (pv 2) (pv 0))))
      apply pss_one
      · exact ps_ret (pv 2)
    refine ⟨.int n, rfl, _, rfl, by omega, by omega, for_range (lo := 0) (n := n) (fun i σ H' => (∃ v, σ = [some (.int b), some (.int n), some (.int (b ^ i)), v]) ∧ H' = H) ⟨⟨none, by rw [Int.pow_zero]; rfl⟩, rfl⟩ ?_ ?_⟩
    · rintro i σ H' hi ⟨⟨v, rfl⟩, rfl⟩
      refine ⟨.int (b ^ i), rfl, .int b, rfl, _, _, rfl, rfl, .inr ⟨by omega, by omega⟩, ⟨some (.int (0 + i)), ?_⟩, rfl⟩
      rw [Int.pow_succ]
      rfl
    · rintro σ H' ⟨⟨v, rfl⟩, rfl⟩
      exact ⟨_, rfl, q⟩
def spVal : Sp := fun vs H Q _ => ∃ (b : Int) (p : Addr) (ns : List Int), vs = [.int b, .ref p] ∧ H p = some (.tup (ns.map V.int)) ∧ b.natAbs ≤ 6 ∧ Q (.int (valI b ns)) H
theorem scVal : FnScope ["_law_base", "_law_row", "_law_total", "_law_digit"] ["_law_base", "_law_row"] (defScope sValue) := ⟨rfl, rfl, rfl, by decide +kernel, rfl, by decide +kernel, by decide +kernel⟩
theorem ok_value {f : Addr} {fd : FuncData} (F : Fun K "_law_value" "_law_value" sValue f fd) : FnOk P w K mg base CX0 1 f fd ["_law_base", "_law_row"] spVal := by
  refine F.ok scVal (fun vs H Q E h => ?_) (fun cdv A outer s H vs Q E hr h => ?_)
  · obtain ⟨b, p, ns, rfl, _⟩ := h
    rfl
  · obtain ⟨b, p, ns, rfl, hp, hb, q⟩ := h
    apply Exists.intro
    apply And.intro
    · apply pss_cons
      · exact ps_set (i := 2) scVal.nd rfl (.inl rfl) pe_int
      apply pss_cons
      · exact ps_for PassesOwn.never rfl (pi_tup (pv 1)) (pg_name (i := 3) scVal.nd rfl (.inl rfl)) (pss_one (ps_set (i := 2) scVal.nd rfl (.inl rfl) (pe_op op_add (pe_op op_mul (pv 2) (pv 0)) (pv 3))))
      apply pss_one
      · exact ps_ret (pv 2)
    refine ⟨.ref p, rfl, p, rfl, ⟨_, SqT.of hp⟩, for_tup (K := K) (a := p) (xs := ns.map V.int) (fun i σ H' => (∃ v, σ = [some (.int b), some (.ref p), some (.int (valI b (ns.take i))), v]) ∧ H' = H) ⟨⟨none, rfl⟩, rfl⟩ (fun i σ H' _ h => by rw [h.2]; exact SqT.of hp) ?_ ?_⟩
    · rintro i x σ H' hx ⟨⟨v, rfl⟩, rfl⟩
      obtain ⟨n, hn, rfl⟩ := get_map hx
      refine ⟨.int _, rfl, .int b, rfl, _, _, rfl, rfl, .inr ⟨by omega, by omega⟩, .int n, rfl, _, _, rfl, rfl, ⟨some (.int n), ?_⟩, rfl⟩
      rw [take_more hn]
      unfold valI
      rw [List.foldl_append]
      rfl
    · rintro σ H' ⟨⟨v, rfl⟩, rfl⟩
      rw [List.length_map, List.take_length]
      exact ⟨_, rfl, q⟩
theorem scLow : FnScope ["_law_top", "_law_bottom", "_law_one", "_law_other"] ["_law_top", "_law_bottom"] (defScope sLowest) := ⟨rfl, rfl, rfl, by decide +kernel, rfl, by decide +kernel, by decide +kernel⟩
theorem abs_nat (t : Int) : (if t < 0 then -t else t) = (t.natAbs : Int) := by split <;> omega
set_option maxHeartbeats 1000000 in
theorem ok_lowest {f : Addr} {fd : FuncData} (F : Fun K "_law_lowest" "_law_lowest" sLowest f fd) (ma : mg "abs" = none) : FnOk P w K mg base CX0 1 f fd ["_law_top", "_law_bottom"] spLowP := by
  refine F.ok scLow (fun vs H Q E h => ?_) (fun cdv A outer s H vs Q E hr h => ?_)
  · obtain ⟨t, d, rfl, _⟩ := h
    rfl
  · obtain ⟨t, d, rfl, h0, hd, q⟩ := h
    apply Exists.intro
    apply And.intro
    · apply pss_cons
      · exact ps_par (i := 2) (j := 3) rfl scLow.nd rfl rfl (by decide) rfl rfl (pa_cons (pe_callB call_abs (by rfl) ma (by decide +kernel) (pa_cons (pv 0) pa_nil)) (pa_cons (pe_callB call_abs (by rfl) ma (by decide +kernel) (pa_cons (pv 1) pa_nil)) pa_nil)) (by rfl)
      apply pss_cons
      · exact ps_while PassesOwn.never (pt_cmpR op_ne (pv 3) pe_int (nomark _)) (pss_one (ps_par (i := 2) (j := 3) rfl scLow.nd rfl rfl (by decide) rfl rfl (pa_cons (pv 3) (pa_cons (pe_op op_mod (pv 2) (pv 3)) pa_nil)) (by rfl)))
      apply pss_cons
      · exact ps_if (pt_cmpR op_lt (pv 1) pe_int (nomark _)) (pss_one (ps_set (i := 2) scLow.nd rfl (.inl rfl) (pe_op op_sub pe_int (pv 2)))) pss_nil
      apply pss_one
      · exact ps_ret (pe_tup (pa_cons (pe_op op_fdivNW (pv 0) (pv 2)) (pa_cons (pe_op op_fdivNW (pv 1) (pv 2)) pa_nil)))
    have hc := small_c (t := t) h0 hd
    have fin : ∀ {σ : L2.St} {c : Int} {v : Option V}, c = lowC t d → σ = [some (.int t), some (.int d), some (.int c), v] → (tRet (tTup (tCons (tOp (rI (fun _ j => j ≠ 0 ∧ j.natAbs.log2 < 9000) fun i j => .int (i.fdiv j)) (tVar 0) (tVar 2)) (tCons (tOp (rI (fun _ j => j ≠ 0 ∧ j.natAbs.log2 < 9000) fun i j => .int (i.fdiv j)) (tVar 1) (tVar 2)) tNil)))) { nx := fun _ H' => Q .non H', rt := Q } σ H := by
      rintro σ c v rfl rfl
      refine ⟨.int t, rfl, .int _, rfl, t, _, rfl, rfl, hc, .int d, rfl, .int _, rfl, d, _, rfl, rfl, hc, (by show 2 ≤ sizeLine; decide), fun p hp => ?_⟩
      exact q p _ (same_new hp) upd_same
    refine ⟨.int t, rfl, t, rfl, .int d, rfl, d, rfl, _, _, rfl, ?_⟩
    refine ⟨fun m σ H' => ∃ x y : Nat, σ = [some (.int t), some (.int d), some (.int x), some (.int y)] ∧ m = y ∧ Nat.gcd x y = Nat.gcd t.natAbs d.natAbs ∧ H' = H, ⟨_, t.natAbs, d.natAbs, by rw [abs_nat, abs_nat]; rfl, rfl, rfl, rfl⟩, ?_⟩
    rintro m σ H1 ⟨x, y, rfl, rfl, g, rfl⟩
    refine ⟨.int m, rfl, rfl, _, rfl, ?_⟩
    by_cases hy : m = 0
    · subst hy
      refine iteFB (by decide) ?_
      have hx : (x : Int) = ((Nat.gcd t.natAbs d.natAbs : Nat) : Int) := by rw [← g, Nat.gcd_zero_right]
      refine ⟨.int d, rfl, d, 0, rfl, rfl, _, rfl, ite2 (fun z => ?_) (fun z => ?_)⟩
      · refine ⟨_, rfl, 0, x, rfl, rfl, fin ?_ rfl⟩
        unfold lowC
        rw [if_pos (of_decide_eq_true z), ← hx]
        omega
      · refine fin ?_ rfl
        unfold lowC
        rw [if_neg (fun e => z (decide_eq_true e)), ← hx]
    · have ne : (!decide ((V.int (m : Int)) = V.int 0)) = true := by
        rw [decide_eq_false (fun e => hy (by have := V.int.inj e; omega))]
        rfl
      refine iteTB ne ⟨fun σ' H' => σ' = [some (.int t), some (.int d), some (.int m), some (.int ((x % m : Nat) : Int))] ∧ H' = H1, ?_, ?_⟩
      · rintro σ' H' ⟨rfl, rfl⟩
        refine ⟨x % m, Nat.mod_lt _ (by omega), m, x % m, rfl, rfl, ?_, rfl⟩
        rw [← g, Nat.gcd_comm m, ← Nat.gcd_rec, Nat.gcd_comm]
      · refine ⟨.int m, rfl, .int x, rfl, .int m, rfl, x, m, rfl, rfl, by omega, _, _, rfl, rfl, rfl⟩
/-- the value of an endless row, in lowest terms -/
def spFraction : Sp := fun vs H Q _ => ∃ (b : Int) (p q : Addr) (fs rs : List Int), vs = [.int b, .ref p, .ref q] ∧ H p = some (.tup (fs.map V.int)) ∧ H q = some (.tup (rs.map V.int)) ∧ 2 ≤ b.natAbs ∧ b.natAbs ≤ 6 ∧ fs.length ≤ 450 ∧ rs.length ≤ 60 ∧ rs ≠ [] ∧ (∀ n ∈ fs, n.natAbs ≤ 9) ∧ (∀ n ∈ rs, n.natAbs ≤ 9) ∧
  ∀ t H', Same H H' → H' t = some (.tup [.int (fracI b fs rs).1, .int (fracI b fs rs).2]) → Q (.ref t) H'
abbrev nFa : List Str := ["_law_base", "_law_front", "_law_ring", "_law_far", "_law_near"]
theorem scFa : FnScope nFa ["_law_base", "_law_front", "_law_ring"] (defScope sFraction) := ⟨rfl, rfl, rfl, by decide +kernel, rfl, by decide +kernel, by decide +kernel⟩
theorem ok_fraction {f fP fV fL : Addr} {fd fdP fdV fdL : FuncData} (F : Fun K "_law_fraction" "_law_fraction" sFraction f fd)
    (GP : FnOk P w K mg base CX0 1 fP fdP ["_law_base", "_law_size"] spPow) (gP : mg "_law_power" = some (.ref fP)) (kP : PySem.W.keepIn K (.ref fP) = true) (bP : Binds K fdP ["_law_base", "_law_size"] [])
    (GV : FnOk P w K mg base CX0 1 fV fdV ["_law_base", "_law_row"] spVal) (gV : mg "_law_value" = some (.ref fV)) (kV : PySem.W.keepIn K (.ref fV) = true) (bV : Binds K fdV ["_law_base", "_law_row"] [])
    (GL : FnOk P w K mg base CX0 1 fL fdL ["_law_top", "_law_bottom"] spLowP) (gL : mg "_law_lowest" = some (.ref fL)) (kL : PySem.W.keepIn K (.ref fL) = true) (bL : Binds K fdL ["_law_top", "_law_bottom"] [])
    (ml : mg "len" = none) : FnOk P w K mg base CX0 2 f fd ["_law_base", "_law_front", "_law_ring"] spFraction := by
  refine F.ok scFa (fun vs H Q E h => ?_) (fun cdv A outer s H vs Q E hr h => ?_)
  · obtain ⟨b, p, q, fs, rs, rfl, _⟩ := h
    rfl
  · obtain ⟨b, p, q0, fs, rs, rfl, hp, hq, b2, b6, lf, lr, hn, d1, d2, q⟩ := h
    apply Exists.intro
    apply And.intro
    · apply pss_cons
      · exact ps_par (i := 3) (j := 4) rfl scFa.nd rfl rfl (by decide) rfl rfl (pa_cons (pe_op op_sub (pe_call GP hr (by rfl) gP kP bP .nil pass0 (pa_cons (pv 0) (pa_cons (pe_callB call_len_seq (by rfl) ml PySem.boot_len (pa_cons (pv 2) pa_nil)) pa_nil))) pe_int) (pa_cons (pe_call GP hr (by rfl) gP kP bP .nil pass0 (pa_cons (pv 0) (pa_cons (pe_callB call_len_seq (by rfl) ml PySem.boot_len (pa_cons (pv 1) pa_nil)) pa_nil))) pa_nil)) (by rfl)
      apply pss_one
      · exact ps_ret (pe_call GL hr (by rfl) gL kL bL .nil pass0 (pa_cons (pe_op op_add (pe_op op_mulW (pe_call GV hr (by rfl) gV kV bV .nil pass0 (pa_cons (pv 0) (pa_cons (pv 1) pa_nil))) (pv 3)) (pe_call GV hr (by rfl) gV kV bV .nil pass0 (pa_cons (pv 0) (pa_cons (pv 2) pa_nil)))) (pa_cons (pe_op op_mulW (pv 4) (pv 3)) pa_nil)))
    have wA : (b ^ rs.length - 1).natAbs < 2 ^ 200 := two_mono (less_one (pow_lt b6 rs.length)) (by omega)
    have wF : (valI b fs).natAbs < 2 ^ 2000 := two_mono (val_two b6 d1) (by omega)
    have wP : (b ^ fs.length).natAbs < 2 ^ 2000 := two_mono (pow_lt b6 fs.length) (by omega)
    refine ⟨.int b, rfl, .ref q0, rfl, q0, _, rfl, .inr (SqT.of hq), b, (rs.map V.int).length, rfl, b6, (by rw [List.length_map]; omega), ?_⟩
    rw [List.length_map]
    refine ⟨_, 1, rfl, rfl, .int b, rfl, .ref p, rfl, p, _, rfl, .inr (SqT.of hp), b, (fs.map V.int).length, rfl, b6, (by rw [List.length_map]; omega), ?_⟩
    rw [List.length_map]
    refine ⟨_, _, rfl, ?_⟩
    refine ⟨.int b, rfl, .ref p, rfl, b, p, fs, rfl, hp, b6, .int _, rfl, valI b fs, b ^ rs.length - 1, rfl, rfl, wide_mul wF wA (by decide) (by decide) (by decide), ?_⟩
    refine ⟨.int b, rfl, .ref q0, rfl, b, q0, rs, rfl, hq, b6, _, _, rfl, rfl, ?_⟩
    refine ⟨.int _, rfl, .int _, rfl, b ^ fs.length, b ^ rs.length - 1, rfl, rfl, wide_mul wP wA (by decide) (by decide) (by decide), ?_⟩
    exact ⟨topI b fs rs, botI b fs rs, rfl, botI_ne b2 hn, two_mono (wide_lt wP wA) (by decide), q⟩
end
end K66
namespace K66
open PySem PySem.Spec PyProof.Rows L2 OF
section
variable {P : Program} {w : World} {K : PySem.W.Frag} {mg : Str → Option Value} {base : Heap}
/-! ### digits, drawn -/
def mA (b : Int) : Int := if b < 0 then -b else b
theorem mA_cases {b : Int} (h : isBase b = true) : 2 ≤ mA b ∧ mA b ≤ 6 := by
  unfold isBase at h
  unfold mA
  simp only [Bool.or_eq_true, Bool.and_eq_true, decide_eq_true_eq] at h
  split <;> omega
theorem rg_ints (a b : Int) : rgV a b = ((List.range (b - a).toNat).map fun (i : Nat) => a + (i : Int)).map V.int := by
  unfold rgV
  rw [List.map_map]
  rfl
theorem dig_of {k : Int} (h : -9 ≤ k) (h2 : k ≤ 9) : dig k = true := by
  unfold dig
  rw [decide_eq_true h, decide_eq_true h2]
  rfl
def spDigits : Sp := fun vs H Q _ => ∃ (a : Addr) (b n : Int), vs = [.ref a, .int b, .int 6] ∧ Box n H a ∧ n ≤ 800000 ∧ isBase b = true ∧
  ∀ (D : Addr) (ns : List Int) (H' : Hp), H D = none → But a H H' → Box (n + 30) H' a → H' D = some (.lst (ns.map V.int)) → ns.Pairwise (· < ·) → 1 ≤ ns.length → ns.length ≤ 6 → (∀ k ∈ ns, dig k = true) → Q (.ref D) H'
abbrev nDi : List Str := ["_law_box_here", "_law_base", "_law_most", "_law_size", "_law_way", "_law_found", "_law_k"]
theorem scDi : FnScope nDi ["_law_box_here", "_law_base", "_law_most"] (defScope sDigits) := ⟨rfl, rfl, rfl, by decide +kernel, rfl, by decide +kernel, by decide +kernel⟩
def DiQ (a : Addr) (H : Hp) (n b wy : Int) (σ' : L2.St) (H' : Hp) : Prop := ∃ (D : Addr) (ns : List Int) (v6 : Option V), σ' = [some (.ref a), some (.int b), some (.int 6), some (.int (mA b)), some (.int wy), some (.ref D), v6] ∧ But a H H' ∧ Box (n + 28) H' a ∧ H' D = some (.lst (ns.map V.int)) ∧ 1 ≤ ns.length ∧ ns.length ≤ 19 ∧ ∀ k ∈ ns, -9 ≤ k ∧ k ≤ 9
set_option maxHeartbeats 4000000 in
theorem ok_digits {f fT : Addr} {fd fdT : FuncData} (F : Fun K "_law_digits" "_law_digits" sDigits f fd) (FT : Fun K "_law_take" "_law_take" sTake fT fdT) (gT : mg "_law_take" = some (.ref fT)) (bT : Binds K fdT ["_law_box_here", "_law_many"] [])
    (mi : mg "int" = none) (ml : mg "len" = none) (mr : mg "range" = none) (ms : mg "list" = none) (ma : mg "abs" = none) (mse : mg "set" = none) (mso : mg "sorted" = none) : FnOk P w K mg base CX0 2 f fd ["_law_box_here", "_law_base", "_law_most"] spDigits := by
  have GT : FnOk P w K mg base CX0 1 fT fdT ["_law_box_here", "_law_many"] spTake := ok_take FT mi
  refine F.ok scDi (fun vs H Q E h => ?_) (fun cdv A outer s H vs Q E hr h => ?_)
  · obtain ⟨a, b, n, rfl, _⟩ := h
    rfl
  · obtain ⟨a, b, n, rfl, hB, hn, hb, q⟩ := h
    apply Exists.intro
    apply And.intro
    · apply pss_cons
      · exact ps_asg (pe_tup (pa_cons (pe_callB call_abs (by rfl) ma (by decide +kernel) (pa_cons (pv 1) pa_nil)) (pa_cons (pe_call GT hr (by rfl) gT FT.kp bT .nil pass0 (pa_cons (pv 0) (pa_cons pe_int pa_nil))) pa_nil))) (pg_tup rfl (pgs_cons (pg_name (i := 3) scDi.nd rfl (.inr rfl)) (pgs_cons (pg_name (i := 4) scDi.nd rfl (.inl rfl)) pgs_nil)))
      apply C8.pss_cut
      · exact ps_if (pt_cmpR op_eq (pv 4) pe_int (nomark _)) (pss_one (ps_set (i := 5) scDi.nd rfl (.inl rfl) (pe_listRg rfl (by rfl) ms (prg_1 (by rfl) mr (pv 3))))) (pss_one
          (ps_if (pt_cmpR op_eq (pv 4) pe_int (nomark _)) (pss_one (ps_setLc (i := 5) (own := [("_law_k", 6)]) (g := gName 6) (tt := tYes) (te := tOp (rI0 fun i j => .int (i - j)) (tVar 6) (tOp (rI CMul fun i j => .int (i * j)) (tVar 3) (tCall spTake [] E0 (tCons (tVar 0) (tCons (tC (.int 2)) tNil))))) rfl scDi.nd rfl rfl (sw_true rfl rfl rfl (by decide +kernel)) (pi_range1 rfl mr (pa_cons (pv 3) pa_nil))
              (blkOk_by (own := [("_law_k", 6)]) (N := nDi) (sc := defScope sDigits) (by decide +kernel)) (fun _ _ _ _ _ => pg_name (i := 6) scDi.nd rfl (Or.inl rfl)) (fun _ _ _ _ _ => pts_nil)
              (fun _ _ _ _ _ => by exact (pe_op op_sub (pv 6) (pe_op op_mul (pv 3) (pe_call GT hr (by rfl) gT FT.kp bT .nil pass0 (pa_cons (pv 0) (pa_cons pe_int pa_nil)))))))) (pss_one
          (ps_if (pt_cmpR op_eq (pv 4) pe_int (nomark _)) (pss_one (ps_set (i := 5) scDi.nd rfl (.inl rfl) (pe_lst (pa_cons (pe_un un_neg pe_int) (pa_cons pe_int (pa_cons pe_int pa_nil)))))) (pss_one
          (ps_if (pt_cmpR op_eq (pv 4) pe_int (nomark _)) (pss_one (ps_setLc (i := 5) (own := [("_law_k", 6)]) (g := gName 6) (tt := tYes) (te := tOp (rI0 fun i j => .int (i - j)) (tVar 6) (tOp (rI CDiv fun i j => .int (i / j)) (tVar 3) (tC (.int 2)))) rfl scDi.nd rfl rfl (sw_true rfl rfl rfl (by decide +kernel)) (pi_range1 rfl mr (pa_cons (pe_op op_add (pv 3) (pe_call GT hr (by rfl) gT FT.kp bT .nil pass0 (pa_cons (pv 0) (pa_cons pe_int pa_nil)))) pa_nil))
              (blkOk_by (own := [("_law_k", 6)]) (N := nDi) (sc := defScope sDigits) (by decide +kernel)) (fun _ _ _ _ _ => pg_name (i := 6) scDi.nd rfl (Or.inl rfl)) (fun _ _ _ _ _ => pts_nil)
              (fun _ _ _ _ _ => by exact (pe_op op_sub (pv 6) (pe_op op_fdiv (pv 3) pe_int))))) (pss_one
          (ps_if (pt_cmpR op_eq (pv 4) pe_int (nomark _)) (pss_one (ps_setLc (i := 5) (own := [("_law_k", 6)]) (g := gName 6) (tt := tYes) (te := tOp (rI0 fun i j => .int (i - j)) (tCall spTake [] E0 (tCons (tVar 0) (tCons (tC (.int 19)) tNil))) (tC (.int 9))) rfl scDi.nd rfl rfl (sw_true rfl rfl rfl (by decide +kernel)) (pi_range1 rfl mr (pa_cons (pe_op op_add pe_int (pe_call GT hr (by rfl) gT FT.kp bT .nil pass0 (pa_cons (pv 0) (pa_cons (pv 2) pa_nil)))) pa_nil))
              (blkOk_by (own := [("_law_k", 6)]) (N := nDi) (sc := defScope sDigits) (by decide +kernel)) (fun _ _ _ _ _ => pg_name (i := 6) scDi.nd rfl (Or.inl rfl)) (fun _ _ _ _ _ => pts_nil)
              (fun _ _ _ _ _ => by exact (pe_op op_sub (pe_call GT hr (by rfl) gT FT.kp bT .nil pass0 (pa_cons (pv 0) (pa_cons pe_int pa_nil))) pe_int)))) (pss_one
          (ps_setLc (i := 5) (own := [("_law_k", 6)]) (g := gName 6) (tt := tYes) (te := tOp (rI0 fun i j => .int (i - j)) (tCall spTake [] E0 (tCons (tVar 0) (tCons (tC (.int 7)) tNil))) (tC (.int 3))) rfl scDi.nd rfl rfl (sw_true rfl rfl rfl (by decide +kernel)) (pi_range1 rfl mr (pa_cons (pe_op op_add pe_int (pe_call GT hr (by rfl) gT FT.kp bT .nil pass0 (pa_cons (pv 0) (pa_cons (pv 2) pa_nil)))) pa_nil))
              (blkOk_by (own := [("_law_k", 6)]) (N := nDi) (sc := defScope sDigits) (by decide +kernel)) (fun _ _ _ _ _ => pg_name (i := 6) scDi.nd rfl (Or.inl rfl)) (fun _ _ _ _ _ => pts_nil)
              (fun _ _ _ _ _ => by exact (pe_op op_sub (pe_call GT hr (by rfl) gT FT.kp bT .nil pass0 (pa_cons (pv 0) (pa_cons pe_int pa_nil))) pe_int))))))))))))
      apply pss_one
      · exact ps_ret (pe_slice sl_list (pe_callB (cr_sortedSet rfl) (by rfl) mso (by decide +kernel) (pa_cons (pe_callTy (cr_setI rfl) (by rfl) mse PyProof.Rows.boot_set (pa_cons (pv 5) pa_nil)) pa_nil)) po_none (po_some (pv 2)))
    have hm := mA_cases hb
    refine ⟨.int b, rfl, b, rfl, .ref a, rfl, a, 7, n, rfl, hB, by omega, by decide, by decide, fun wy H1 w0 w1 t1 B1 => ?_⟩
    rw [show (if b < 0 then -b else b) = mA b from rfl]
    refine ⟨(by show 2 ≤ sizeLine; decide), fun T hT => ?_⟩
    have e4 : (upd H1 T (.tup [.int (mA b), .int wy])) T = some (.tup [.int (mA b), .int wy]) := upd_same
    have t2 : But a H (upd H1 T (.tup [.int (mA b), .int wy])) := t1.trans (But.new hT)
    have B2 := B1.new (o := .tup [.int (mA b), .int wy]) hT
    refine ⟨T, _, rfl, SqT.of e4, rfl, _, _, rfl, _, _, rfl, rfl, ?_⟩
    generalize upd H1 T (.tup [.int (mA b), .int wy]) = H2 at t2 B2 ⊢
    clear e4 t1 B1 hT
    have few : ∀ {ws : List Int} {i : Nat}, ws.length = i → i ≤ 100 → (ws.map V.int).length < sizeLine := fun h hi => by
      rw [List.length_map]
      exact small1000 (by omega)
    have push : ∀ {ws : List Int} {v : Int}, (∀ k ∈ ws, -9 ≤ k ∧ k ≤ 9) → -9 ≤ v → v ≤ 9 → ∀ k ∈ ws ++ [v], -9 ≤ k ∧ k ≤ 9 := fun h h1 h2 k hk => by
      rcases List.mem_append.mp hk with z | z
      · exact h k z
      · cases List.mem_singleton.mp z
        exact ⟨h1, h2⟩
    have one : ∀ {ws : List Int} {v : Int} {i : Nat}, ws.length = i → (ws ++ [v]).length = i + 1 := fun h => by
      rw [List.length_append, h]
      rfl
    refine ⟨DiQ a H n b wy, ?_, ?_⟩
    · refine ⟨.int wy, rfl, rfl, _, rfl, ite2 (fun c => ?_) (fun c => ?_)⟩
      · refine ⟨.int (mA b), rfl, mA b, rfl, ⟨by omega, by omega, by omega, by omega, by omega⟩, fun D hD => ?_⟩
        refine ⟨D, _, _, rfl, t2.trans (But.new hD), (B2.new hD).mono (by omega), by rw [upd_same, rg_ints], ?_, ?_, fun k hk => ?_⟩
        · rw [List.length_map, List.length_range]
          omega
        · rw [List.length_map, List.length_range]
          omega
        · obtain ⟨i, hi, rfl⟩ := List.mem_map.mp hk
          have := List.mem_range.mp hi
          omega
      refine ⟨.int wy, rfl, rfl, _, rfl, ite2 (fun c => ?_) (fun c => ?_)⟩
      · refine ⟨.int (mA b), rfl, mA b, rfl, by omega, by omega, fun D hD => ?_⟩
        have nDa := B2.ne hD
        refine lc_range (lo := 0) (n := (mA b).toNat) (fun i H' => But a H2 H' ∧ Box (n + 2 + i) H' a ∧ ∃ ws : List Int, H' D = some (.lst (ws.map V.int)) ∧ ws.length = i ∧ ∀ k ∈ ws, -9 ≤ k ∧ k ≤ 9) ⟨But.new hD, (B2.new hD).mono (by omega), [], upd_same, rfl, fun k h => by cases h⟩ ?_ ?_
        · rintro i H' hi ⟨t, B, ws, eD, lw, dw⟩
          refine ⟨rfl, tYes_if ⟨.int (0 + i), rfl, .int (mA b), rfl, .ref a, rfl, a, 2, n + 2 + i, rfl, B, by omega, by decide, by decide, fun r H3 r0 r1 t3 B3 => ?_⟩⟩
          have two : mA b * r = 0 ∨ mA b * r = mA b := by
            rcases (by omega : r = 0 ∨ r = 1) with e | e
            · exact .inl (by rw [e, Int.mul_zero])
            · exact .inr (by rw [e, Int.mul_one])
          refine ⟨mA b, r, rfl, rfl, .inl ⟨by omega, by omega⟩, 0 + i, mA b * r, rfl, rfl, _, t3 _ _ nDa eD, few lw (by omega), (t.trans t3).store hD, (B3.upd nDa).mono (by omega), ws ++ [0 + i - mA b * r], ?_, one lw, push dw (by omega) (by omega)⟩
          rw [upd_same, List.map_append]
          rfl
        · rintro H3 ⟨t, B, ws, eD, lw, dw⟩
          exact ⟨D, ws, _, rfl, t2.trans t, B.mono (by omega), eD, by omega, by omega, dw⟩
      refine ⟨.int wy, rfl, rfl, _, rfl, ite2 (fun c => ?_) (fun c => ?_)⟩
      · refine ⟨1, rfl, (by show 3 ≤ sizeLine; decide), fun D hD => ?_⟩
        exact ⟨D, [-1, 0, 1], _, rfl, t2.trans (But.new hD), (B2.new hD).mono (by omega), upd_same, by decide, by decide, by decide⟩
      refine ⟨.int wy, rfl, rfl, _, rfl, ite2 (fun c => ?_) (fun c => ?_)⟩
      · refine ⟨.int (mA b), rfl, .ref a, rfl, a, 2, n + 1, rfl, B2, by omega, by decide, by decide, fun r H3 r0 r1 t3 B3 => ?_⟩
        refine ⟨mA b, r, rfl, rfl, _, rfl, by omega, by omega, fun D hD => ?_⟩
        have nDa := B3.ne hD
        refine lc_range (lo := 0) (n := (mA b + r).toNat) (fun i H' => But a H3 H' ∧ Box (n + 2 + i) H' a ∧ ∃ ws : List Int, H' D = some (.lst (ws.map V.int)) ∧ ws.length = i ∧ ∀ k ∈ ws, -9 ≤ k ∧ k ≤ 9) ⟨But.new hD, (B3.new hD).mono (by omega), [], upd_same, rfl, fun k h => by cases h⟩ ?_ ?_
        · rintro i H' hi ⟨t, B, ws, eD, lw, dw⟩
          refine ⟨rfl, tYes_if ⟨.int (0 + i), rfl, .int (mA b), rfl, mA b, 2, rfl, rfl, ⟨by omega, by omega⟩, 0 + i, mA b / 2, rfl, rfl, _, eD, few lw (by omega), t.store hD, (B.upd nDa).mono (by omega), ws ++ [0 + i - mA b / 2], ?_, one lw, push dw (by omega) (by omega)⟩⟩
          rw [upd_same, List.map_append]
          rfl
        · rintro H4 ⟨t, B, ws, eD, lw, dw⟩
          exact ⟨D, ws, _, rfl, t2.trans (t3.trans t), B.mono (by omega), eD, by omega, by omega, dw⟩
      refine ⟨.int wy, rfl, rfl, _, rfl, ite2 (fun c => ?_) (fun c => ?_)⟩
      · refine ⟨.ref a, rfl, .int 6, rfl, a, 6, n + 1, rfl, B2, by omega, by decide, by decide, fun r H3 r0 r1 t3 B3 => ?_⟩
        refine ⟨1, r, rfl, rfl, _, rfl, by omega, by omega, fun D hD => ?_⟩
        have nDa := B3.ne hD
        refine lc_range (lo := 0) (n := (1 + r).toNat) (fun i H' => But a H3 H' ∧ Box (n + 2 + i) H' a ∧ ∃ ws : List Int, H' D = some (.lst (ws.map V.int)) ∧ ws.length = i ∧ ∀ k ∈ ws, -9 ≤ k ∧ k ≤ 9) ⟨But.new hD, (B3.new hD).mono (by omega), [], upd_same, rfl, fun k h => by cases h⟩ ?_ ?_
        · rintro i H' hi ⟨t, B, ws, eD, lw, dw⟩
          refine ⟨rfl, tYes_if ⟨.ref a, rfl, a, 19, n + 2 + i, rfl, B, by omega, by decide, by decide, fun r2 H4 k0 k1 t4 B4 => ?_⟩⟩
          refine ⟨r2, 9, rfl, rfl, _, t4 _ _ nDa eD, few lw (by omega), (t.trans t4).store hD, (B4.upd nDa).mono (by omega), ws ++ [r2 - 9], ?_, one lw, push dw (by omega) (by omega)⟩
          rw [upd_same, List.map_append]
          rfl
        · rintro H4 ⟨t, B, ws, eD, lw, dw⟩
          exact ⟨D, ws, _, rfl, t2.trans (t3.trans t), B.mono (by omega), eD, by omega, by omega, dw⟩
      · refine ⟨.ref a, rfl, .int 6, rfl, a, 6, n + 1, rfl, B2, by omega, by decide, by decide, fun r H3 r0 r1 t3 B3 => ?_⟩
        refine ⟨1, r, rfl, rfl, _, rfl, by omega, by omega, fun D hD => ?_⟩
        have nDa := B3.ne hD
        refine lc_range (lo := 0) (n := (1 + r).toNat) (fun i H' => But a H3 H' ∧ Box (n + 2 + i) H' a ∧ ∃ ws : List Int, H' D = some (.lst (ws.map V.int)) ∧ ws.length = i ∧ ∀ k ∈ ws, -9 ≤ k ∧ k ≤ 9) ⟨But.new hD, (B3.new hD).mono (by omega), [], upd_same, rfl, fun k h => by cases h⟩ ?_ ?_
        · rintro i H' hi ⟨t, B, ws, eD, lw, dw⟩
          refine ⟨rfl, tYes_if ⟨.ref a, rfl, a, 7, n + 2 + i, rfl, B, by omega, by decide, by decide, fun r2 H4 k0 k1 t4 B4 => ?_⟩⟩
          refine ⟨r2, 3, rfl, rfl, _, t4 _ _ nDa eD, few lw (by omega), (t.trans t4).store hD, (B4.upd nDa).mono (by omega), ws ++ [r2 - 3], ?_, one lw, push dw (by omega) (by omega)⟩
          rw [upd_same, List.map_append]
          rfl
        · rintro H4 ⟨t, B, ws, eD, lw, dw⟩
          exact ⟨D, ws, _, rfl, t2.trans (t3.trans t), B.mono (by omega), eD, by omega, by omega, dw⟩
    · rintro σ' H3 ⟨D, ns, v6, rfl, t3, B3, eD, l1, l2, dg⟩
      refine ⟨.ref D, rfl, D, ns, rfl, .inl (SqL.of eD), by omega, fun S1 ks hS1 nd mem => ?_⟩
      have kl : ks.length ≤ 19 := by
        have nf : ((List.range 19).map fun (i : Nat) => (-9 : Int) + (i : Int)).Nodup := by decide +kernel
        have pm : ks.Perm (((List.range 19).map fun (i : Nat) => (-9 : Int) + (i : Int)).filter fun k => decide (k ∈ ns)) := (List.perm_ext_iff_of_nodup nd (nf.filter _)).mpr fun z => by
          rw [List.mem_filter, decide_eq_true_eq, mem]
          refine ⟨fun h => ⟨?_, h⟩, fun h => h.2⟩
          have := dg z h
          exact List.mem_map.mpr ⟨(z + 9).toNat, List.mem_range.mpr (by omega), by omega⟩
        rw [pm.length_eq]
        exact Nat.le_trans (List.length_filter_le _ _) (by rw [List.length_map, List.length_range]; exact Nat.le_refl _)
      refine ⟨S1, _, _, rfl, upd_same, by omega, fun ds D2 asc mds lds hD2 => ?_⟩
      have mds2 : ∀ k, k ∈ ds ↔ k ∈ ns := fun k => (mds k).trans ⟨fun z => of_decide_eq_true z, fun z => decide_eq_true z⟩
      have t4 : But a H3 (upd H3 S1 (SetO w S1 (fun j => decide (j ∈ ns)) ks.length)) := But.new hS1
      have B4 := B3.new (o := SetO w S1 (fun j => decide (j ∈ ns)) ks.length) hS1
      have t6 := (t3.trans t4).trans (But.new (o := .lst (ds.map V.int)) hD2)
      have B6 := B4.new (o := .lst (ds.map V.int)) hD2
      refine ⟨.int 6, rfl, 6, rfl, D2, _, rfl, SqL.of upd_same, fun D3 hD3 => ?_⟩
      have cut : cutV (ds.map V.int) none (some 6) = (ds.take 6).map V.int := by
        unfold cutV
        rw [show (some (6 : Int)) = some ((6 : Nat) : Int) from rfl, HT.sIx_none, HT.sIx_nat, List.drop_zero, Nat.sub_zero, List.length_map, ← List.map_take]
        congr 1
        rcases Nat.le_total 6 ds.length with h | h
        · rw [Nat.min_eq_left h]
        · rw [Nat.min_eq_right h, List.take_of_length_le (Nat.le_refl _), List.take_of_length_le h]
      rw [cut]
      have n1 : 1 ≤ ds.length := by
        obtain ⟨x, l, e⟩ : ∃ x l, ns = x :: l := by
          cases ns with
          | nil => exact absurd l1 (by decide)
          | cons x l => exact ⟨x, l, rfl⟩
        have : x ∈ ds := (mds2 x).mpr (by rw [e]; exact List.mem_cons_self)
        exact List.length_pos_of_mem this
      refine q D3 (ds.take 6) _ (t6.free_ (B6.ne hD3) hD3) (t6.trans (But.new hD3)) ((B6.new hD3).mono (by omega)) upd_same (asc.sublist (List.take_sublist _ _)) ?_ ?_ fun k hk => ?_
      · rw [List.length_take]
        omega
      · exact List.length_take_le _ _
      · have := dg k ((mds2 k).mp (List.mem_of_mem_take hk))
        exact dig_of this.1 this.2
end
end K66
namespace K66
open PySem PySem.Spec PyProof.Rows L2 OF
section
variable {P : Program} {w : World} {K : PySem.W.Frag} {mg : Str → Option Value} {base : Heap}
/-! ### barred pairs, drawn -/
def spFences : Sp := fun vs H Q _ => ∃ (a dl : Addr) (ns : List Int) (n : Int), vs = [.ref a, .ref dl] ∧ Box n H a ∧ n ≤ 800000 ∧ H dl = some (.lst (ns.map V.int)) ∧ dl ≠ a ∧ ns.length ≤ 6 ∧
  ∀ (pl : Addr) (ks : List (Addr × (Int × Int))) (H' : Hp), H pl = none → But a H H' → Box (n + 40) H' a → H' pl = some (.lst (ks.map fun p => V.ref p.1)) → (∀ p ∈ ks, H p.1 = none ∧ H' p.1 = some (.tup [.int p.2.1, .int p.2.2])) → (ks.map (·.2)).Sublist (prod ns) → Q (.ref pl) H'
abbrev nFe : List Str := ["_law_box_here", "_law_digits_here", "_law_way", "_law_found", "_law_left", "_law_right"]
theorem scFe : FnScope nFe ["_law_box_here", "_law_digits_here"] (defScope sFences) := ⟨rfl, rfl, rfl, by decide +kernel, rfl, by decide +kernel, by decide +kernel⟩
theorem fence_cond {a pl dl : Addr} {H : Hp} {n wy x y : Int} {Q : Bool → Hp → Prop} (B : Box n H a) (hn : n ≤ 900000) (q : ∀ c H', But a H H' → Box (n + 1) H' a → Q c H') :
    tOr (tAnd (tTest (tOp rEq (tVar 2) (tC (.int 2)))) (tAnd (tTest (tOp rNe (tVar 4) (tC (.int 0)))) (tTest (tOp rNe (tVar 5) (tC (.int 0)))))) (tAnd (tTest (tOp rEq (tVar 2) (tC (.int 3)))) (tTest (tOp rEq (tCall spTake [] E0 (tCons (tVar 0) (tCons (tC (.int 4)) tNil))) (tC (.int 0))))) [some (.ref a), some (.ref dl), some (.int wy), some (.ref pl), some (.int x), some (.int y)] H Q := by
  have q0 : ∀ c, Q c H := fun c => q c H But.refl (B.mono (by omega))
  have second : tAnd (tTest (tOp rEq (tVar 2) (tC (.int 3)))) (tTest (tOp rEq (tCall spTake [] E0 (tCons (tVar 0) (tCons (tC (.int 4)) tNil))) (tC (.int 0)))) [some (.ref a), some (.ref dl), some (.int wy), some (.ref pl), some (.int x), some (.int y)] H Q := by
    refine ⟨.int wy, rfl, rfl, _, rfl, ite2 (fun c => ?_) (fun c => q0 _)⟩
    exact ⟨.ref a, rfl, a, 4, n, rfl, B, by omega, by decide, by decide, fun r H' r0 r1 t B' => ⟨rfl, _, rfl, q _ H' t B'⟩⟩
  refine ⟨.int wy, rfl, rfl, _, rfl, ite2 (fun c => ?_) (fun c => ?_)⟩
  · refine ⟨.int x, rfl, rfl, _, rfl, ite2 (fun c => ?_) (fun c => ?_)⟩
    · exact ⟨.int y, rfl, rfl, _, rfl, ite2 (fun c => q0 _) (fun c => second)⟩
    · exact second
  · exact second
set_option maxHeartbeats 2000000 in
theorem ok_fences {f fT : Addr} {fd fdT : FuncData} (F : Fun K "_law_fences" "_law_fences" sFences f fd) (FT : Fun K "_law_take" "_law_take" sTake fT fdT) (gT : mg "_law_take" = some (.ref fT)) (bT : Binds K fdT ["_law_box_here", "_law_many"] [])
    (mi : mg "int" = none) : FnOk P w K mg base CX0 2 f fd ["_law_box_here", "_law_digits_here"] spFences := by
  have GT : FnOk P w K mg base CX0 1 fT fdT ["_law_box_here", "_law_many"] spTake := ok_take FT mi
  refine F.ok scFe (fun vs H Q E h => ?_) (fun cdv A outer s H vs Q E hr h => ?_)
  · obtain ⟨a, dl, ns, n, rfl, _⟩ := h
    rfl
  · obtain ⟨a, dl, ns, n, rfl, hB, hn, hd, nda, l6, q⟩ := h
    apply Exists.intro
    apply And.intro
    · apply pss_cons
      · exact ps_par (i := 2) (j := 3) rfl scFe.nd rfl rfl (by decide) rfl rfl (pa_cons (pe_call GT hr (by rfl) gT FT.kp bT .nil pass0 (pa_cons (pv 0) (pa_cons pe_int pa_nil))) (pa_cons (pe_lst pa_nil) pa_nil)) (by rfl)
      apply pss_cons
      · exact ps_for PassesOwn.never rfl (pi_list (pv 1)) (pg_name (i := 4) scFe.nd rfl (.inl rfl)) (pss_one (ps_for PassesOwn.never rfl (pi_list (pv 1)) (pg_name (i := 5) scFe.nd rfl (.inl rfl)) (pss_one
          (ps_if (PW.pt (pw_or (PW.pt (pw_and (pt_cmpR op_eq (pv 2) pe_int (nomark _)) (pw_and (pt_cmpR op_ne (pv 4) pe_int (nomark _)) (pw_and1 (pt_cmpR op_ne (pv 5) pe_int (nomark _)))))) (pw_or1 (PW.pt (pw_and (pt_cmpR op_eq (pv 2) pe_int (nomark _)) (pw_and1 (pt_cmpR op_eq (pe_call GT hr (by rfl) gT FT.kp bT .nil pass0 (pa_cons (pv 0) (pa_cons pe_int pa_nil))) pe_int (nomark _))))))))
            (pss_one (ps_expr (pe_bm PySem.F.plainAttrs_list PySem.F.slot_list_append PySem.F.type_list_append mt_append (pv 3) (pa_cons (pe_tup (pa_cons (pv 4) (pa_cons (pv 5) pa_nil))) pa_nil)))) pss_nil))))
      apply pss_one
      · exact ps_ret (pv 3)
    refine ⟨.ref a, rfl, a, 4, n, rfl, hB, by omega, by decide, by decide, fun wy H1 w0 w1 t1 B1 => ?_⟩
    refine ⟨(by show 0 ≤ sizeLine; decide), fun pl hpl => ?_⟩
    have npa := B1.ne hpl
    have hpl0 : H pl = none := t1.free_ npa hpl
    have t2 : But a H (upd H1 pl (.lst [])) := t1.trans (But.new hpl)
    have B2 := B1.new (o := .lst []) hpl
    have e2 : (upd H1 pl (.lst [])) pl = some (.lst []) := upd_same
    generalize upd H1 pl (.lst []) = H2 at t2 B2 e2 ⊢
    refine ⟨_, _, rfl, ?_⟩
    refine ⟨.ref dl, rfl, dl, rfl, ⟨_, SqL.of (t2 _ _ nda hd)⟩, ?_⟩
    refine for_list (K := K) (a := dl) (xs := ns.map V.int) (fun i σ H' => ∃ (v4 v5 : Option V) (ks : List (Addr × (Int × Int))), σ = [some (.ref a), some (.ref dl), some (.int wy), some (.ref pl), v4, v5] ∧ But a H H' ∧ Box (n + 1 + 6 * i) H' a ∧ H' pl = some (.lst (ks.map fun p => V.ref p.1)) ∧ (∀ p ∈ ks, H p.1 = none ∧ H' p.1 = some (.tup [.int p.2.1, .int p.2.2]) ∧ p.1 ≠ pl ∧ p.1 ≠ a) ∧ (ks.map (·.2)).Sublist ((ns.take i).flatMap fun x => ns.map fun y => (x, y)))
      ⟨none, none, [], rfl, t2, B2.mono (by omega), e2, (fun p h => by cases h), List.Sublist.refl _⟩ (fun i σ H' _ ⟨_, _, _, _, t, _, _, _⟩ => SqL.of (t _ _ nda hd)) ?_ ?_
    · rintro i v σ H3 hi ⟨v4, v5, ks, rfl, t3, B3, e3, k3, sub⟩
      obtain ⟨x, hx, rfl⟩ := get_map hi
      have hi6 : i < 6 := Nat.lt_of_lt_of_le (List.getElem?_eq_some_iff.mp hx).1 l6
      refine ⟨.ref dl, rfl, dl, rfl, ⟨_, SqL.of (t3 _ _ nda hd)⟩, ?_⟩
      refine for_list (K := K) (a := dl) (xs := ns.map V.int) (fun j σ H' => ∃ (v5 : Option V) (ks : List (Addr × (Int × Int))), σ = [some (.ref a), some (.ref dl), some (.int wy), some (.ref pl), some (.int x), v5] ∧ But a H H' ∧ Box (n + 1 + 6 * i + j) H' a ∧ H' pl = some (.lst (ks.map fun p => V.ref p.1)) ∧ (∀ p ∈ ks, H p.1 = none ∧ H' p.1 = some (.tup [.int p.2.1, .int p.2.2]) ∧ p.1 ≠ pl ∧ p.1 ≠ a) ∧ (ks.map (·.2)).Sublist (((ns.take i).flatMap fun x => ns.map fun y => (x, y)) ++ (ns.take j).map fun y => (x, y)))
        ⟨v5, ks, rfl, t3, B3.mono (by omega), e3, k3, by rw [List.take_zero, List.map_nil, List.append_nil]; exact sub⟩ (fun i σ H' _ ⟨_, _, _, t, _, _, _⟩ => SqL.of (t _ _ nda hd)) ?_ ?_
      · rintro j v σ H4 hj ⟨v5, ks, rfl, t4, B4, e4, k4, sub4⟩
        obtain ⟨y, hy, rfl⟩ := get_map hj
        have hj6 : j < 6 := Nat.lt_of_lt_of_le (List.getElem?_eq_some_iff.mp hy).1 l6
        refine fence_cond B4 (by omega) fun c H5 t5 B5 => ?_
        have em : ((ns.take (j + 1)).map fun y => (x, y)) = ((ns.take j).map fun y => (x, y)) ++ [(x, y)] := by
          rw [take_more hy, List.map_append]
          rfl
        have k5 : ∀ p ∈ ks, H p.1 = none ∧ H5 p.1 = some (.tup [.int p.2.1, .int p.2.2]) ∧ p.1 ≠ pl ∧ p.1 ≠ a := fun p hp => ⟨(k4 p hp).1, t5 _ _ (k4 p hp).2.2.2 (k4 p hp).2.1, (k4 p hp).2.2⟩
        have e5 := t5 _ _ npa e4
        cases c with
        | false =>
          refine iteF ⟨some (.int y), ks, rfl, t4.trans t5, B5.mono (by omega), e5, k5, ?_⟩
          rw [em, ← List.append_assoc]
          exact sub4.trans (List.sublist_append_left _ _)
        | true =>
          refine iteT ?_
          refine ⟨.ref pl, rfl, .inl ⟨rfl, _, SqL.of e5⟩, .int x, rfl, .int y, rfl, (by show 2 ≤ sizeLine; decide), fun T hT => ?_⟩
          have nTa := B5.ne hT
          have nTp : T ≠ pl := fun z => by
            rw [z, e5] at hT
            cases hT
          have t6 := (t4.trans t5).trans (But.new (o := .tup [.int x, .int y]) hT)
          have hT0 : H T = none := (t4.trans t5).free_ nTa hT
          have lk : ks.length ≤ 36 := by
            have h1 := sub4.length_le
            rw [List.length_map, List.length_append, List.length_map, List.length_take, flat_len, List.length_take] at h1
            have : min i ns.length * ns.length ≤ 5 * 6 := Nat.mul_le_mul (by omega) l6
            omega
          refine ⟨pl, _, .ref T, rfl, rfl, by rw [upd_ne nTp.symm]; exact e5, by rw [List.length_map]; exact small1000 (by omega), some (.int y), ks ++ [(T, (x, y))], rfl, t6.store hpl0, ((B5.new hT).upd npa).mono (by omega), ?_, fun p hp => ?_, ?_⟩
          · rw [upd_same, List.map_append]
            rfl
          · rcases List.mem_append.mp hp with h | h
            · obtain ⟨h1, h2, h3, h4⟩ := k5 p h
              refine ⟨h1, ?_, h3, h4⟩
              rw [upd_ne h3, upd_ne (ne_of_none h2 hT)]
              exact h2
            · rw [List.mem_singleton.mp h]
              refine ⟨hT0, ?_, nTp, nTa⟩
              rw [upd_ne nTp]
              exact upd_same
          · rw [List.map_append, em, ← List.append_assoc]
            exact sub4.append (List.Sublist.refl _)
      · rintro σ H4 ⟨v5, ks, rfl, t4, B4, e4, k4, sub4⟩
        rw [List.length_map] at B4
        rw [List.length_map, List.take_length] at sub4
        refine ⟨some (.int x), v5, ks, rfl, t4, B4.mono (by omega), e4, k4, ?_⟩
        rw [take_more hx, List.flatMap_append]
        simpa only [List.flatMap_cons, List.flatMap_nil, List.append_nil] using sub4
    · rintro σ H3 ⟨v4, v5, ks, rfl, t3, B3, e3, k3, sub⟩
      rw [List.length_map] at B3
      rw [List.length_map, List.take_length] at sub
      exact ⟨_, rfl, q pl ks H3 hpl0 t3 (B3.mono (by omega)) e3 (fun p hp => ⟨(k3 p hp).1, (k3 p hp).2.1⟩) sub⟩
end
end K66
/-! A list of whatever items against the empty list; an int sought among whatever items. -/
namespace OF
open PySem PySem.Spec PyProof.Rows L2
section
variable {X : Cx}
/-- xs == [] -/
def rEqNil (K : PySem.W.Frag) : R2 := fun x y H Q => ∃ (p q : Addr) (xs : List V), x = .ref p ∧ y = .ref q ∧ SqL K H p xs ∧ SqL K H q [] ∧ Q (.bl xs.isEmpty) H
def rNeNil (K : PySem.W.Frag) : R2 := fun x y H Q => ∃ (p q : Addr) (xs : List V), x = .ref p ∧ y = .ref q ∧ SqL K H p xs ∧ SqL K H q [] ∧ Q (.bl (!xs.isEmpty)) H
theorem vals_nil {us : List Value} (h : Vals [] us) : us = [] := by cases h; rfl
theorem vals_empty {xs : List V} {us : List Value} (h : Vals xs us) : xs.isEmpty = us.isEmpty := by cases h <;> rfl
theorem op_eqNil (hu : X.A.units + 64 < cLine) : OpR X (compareOp .Eq) (rEqNil X.K) := by
  intro pins s σ H x y v u Q I rx ry h
  obtain ⟨p, q, xs, rfl, rfl, hp, hq, z⟩ := h
  cases rx
  cases ry
  obtain ⟨its, r1, l1, _⟩ := I.list hp
  obtain ⟨its2, r2, l2, _⟩ := I.list hq
  cases vals_nil r2
  rw [vals_empty r1] at z
  cases its with
  | nil => exact SeqAt.eq_listAt (e := fun _ => true) l1.isList l2.isList rfl (by omega) (fun j h1 => absurd h1 (Nat.not_lt_zero j)) ⟨.bl true, H, I, rfl, z⟩
  | cons a m => exact SeqAt.eq_list_lengthsAt l1.isList l2.isList (by simp) (by omega) ⟨.bl false, H, I, rfl, z⟩
theorem op_neNil (hu : X.A.units + 64 < cLine) : OpR X (compareOp .NotEq) (rNeNil X.K) := by
  intro pins s σ H x y v u Q I rx ry h
  obtain ⟨p, q, xs, rfl, rfl, hp, hq, z⟩ := h
  cases rx
  cases ry
  obtain ⟨its, r1, l1, _⟩ := I.list hp
  obtain ⟨its2, r2, l2, _⟩ := I.list hq
  cases vals_nil r2
  rw [vals_empty r1] at z
  cases its with
  | nil => exact SeqAt.RcNeAt.lists (e := fun _ => true) l1.isList l2.isList rfl (by omega) (fun j h1 => absurd h1 (Nat.not_lt_zero j)) X.prog X.w X.xe _ ⟨.bl false, H, I, rfl, z⟩
  | cons a m => exact SeqAt.RcNeAt.lists_lengths l1.isList l2.isList (by simp) (by omega) X.prog X.w X.xe _ ⟨.bl true, H, I, rfl, z⟩
end
end OF
namespace K66
open PySem PySem.Spec PyProof.Rows L2 OF
section
variable {P : Program} {w : World} {K : PySem.W.Frag} {mg : Str → Option Value} {base : Heap}
def gApp {α : Type} (us ws : List α) : List α := us ++ ws
theorem kbNew {f : Addr} {fd : FuncData} (G : ∃ kws, FunD K "__init__" "Scheme.__init__" (defArgs sInit) (defBody sInit) (defScope sInit) [] kws f fd) : KBn K fd ["self", "base", "digits", "bars"] 3 ["bars"] gApp gApp := by
  obtain ⟨kws, F⟩ := G
  obtain ⟨oc, od, dV, kV, doc, pm, an, cdv, ct, osl, rfl, lk, hcd, hD, _⟩ := F.ex
  rcases hD with ⟨_, rfl⟩ | ⟨e, _⟩
  · refine ⟨fun s us ws X l1 l2 => ?_, fun {vs us zs ws} r1 r2 => r1.append r2⟩
    match us, ws, l1, l2 with
    | [x, y, z], [v], _, _ => exact .of_eq rfl
  · exact absurd rfl e

theorem made_ok {C CB CD CP p q : Addr} {H : Hp} {b : Int} {ns ds : List Int} {ks : List (Addr × (Int × Int))} {ps : List (Int × Int)} {Q : VK} {E : XK} (hb : isBase b = true) (s : IsSeq K H p (ns.map V.int)) (l : ns.length ≤ 60) (ok : ns.all dig = true)
    (t : IsSeq K H q (ks.map fun p => V.ref p.1)) (few : ks.length < 64) (hk : ∀ p ∈ ks, H p.1 = some (.tup [.int p.2.1, .int p.2.2])) (G : Good b ds ps) (md : ∀ k, k ∈ ds ↔ k ∈ ns) (mp : ∀ z, z ∈ ps ↔ z ∈ ks.map (·.2))
    (qm : ∀ o H', Same H H' → IsS C H' o b ds ps → Q (.ref o) H') : ∀ o d, H o = none → H d = none → d ≠ o → spNew K C CB CD CP [.ref o, .int b, .ref p, .ref q] (upd (upd H d (.own o)) o (.ins C d [])) (fun v H3 => v = .non ∧ Q (.ref o) H3) E :=
  fun o d ho hd _ => new_made hb s l ok t few hk G md mp ho hd fun H' s' S => ⟨rfl, qm o H' s' S⟩
theorem Good.all {b : Int} {ds : List Int} {ps : List (Int × Int)} (G : Good b ds ps) : ds.all dig = true := List.all_eq_true.mpr G.dg
theorem good_of {b : Int} {ns : List Int} {ps : List (Int × Int)} (hb : isBase b = true) (asc : ns.Pairwise (· < ·)) (h1 : 1 ≤ ns.length) (h6 : ns.length ≤ 6) (dg : ∀ n ∈ ns, dig n = true) (sub : ps.Sublist (prod ns)) : Good b ns ps := by
  refine ⟨hb, asc, h1, h6, dg, fun p hp => prod_mem (sub.subset hp), (prod_aux asc asc).sublist sub, ?_⟩
  have e : (prod ns).length = ns.length * ns.length := flat_len ns
  exact Nat.le_trans sub.length_le (by rw [e]; exact Nat.le_trans (Nat.mul_le_mul h6 h6) (by decide))

/-! ### a scheme's parts, drawn -/
def spDraft : Sp := fun vs H Q _ => ∃ (a : Addr) (n : Int), vs = [.ref a, .int 6] ∧ Box n H a ∧ n ≤ 700000 ∧
  ∀ (m : Addr) (b : Int) (ns : List Int) (ps : List (Int × Int)) (H' : Hp), But a H H' → Box (n + 80) H' a → Good b ns ps → Model a H' m b ns ps → Q (.ref m) H'
theorem scDr : FnScope ["_law_box_here", "_law_most", "_law_base", "_law_digits_here"] ["_law_box_here", "_law_most"] (defScope sDraft) := ⟨rfl, rfl, rfl, by decide +kernel, rfl, by decide +kernel, by decide +kernel⟩
theorem bases_ok : ∀ b ∈ ([2, 3, -2, -3, 2, 4, -4, 5, 6, -6, -5, 2] : List Int), isBase b = true := by decide
theorem ok_draft {f fT fD fF : Addr} {fd fdT fdD fdF : FuncData} (F : Fun K "_law_draft" "_law_draft" sDraft f fd) (FT : Fun K "_law_take" "_law_take" sTake fT fdT) (gT : mg "_law_take" = some (.ref fT)) (bT : Binds K fdT ["_law_box_here", "_law_many"] [])
    (GD : FnOk P w K mg base CX0 2 fD fdD ["_law_box_here", "_law_base", "_law_most"] spDigits) (gD : mg "_law_digits" = some (.ref fD)) (kD : PySem.W.keepIn K (.ref fD) = true) (bD : Binds K fdD ["_law_box_here", "_law_base", "_law_most"] [])
    (GF : FnOk P w K mg base CX0 2 fF fdF ["_law_box_here", "_law_digits_here"] spFences) (gF : mg "_law_fences" = some (.ref fF)) (kF : PySem.W.keepIn K (.ref fF) = true) (bF : Binds K fdF ["_law_box_here", "_law_digits_here"] [])
    (mi : mg "int" = none) : FnOk P w K mg base CX0 3 f fd ["_law_box_here", "_law_most"] spDraft := by
  have GT : FnOk P w K mg base CX0 1 fT fdT ["_law_box_here", "_law_many"] spTake := ok_take FT mi
  refine F.ok scDr (fun vs H Q E h => ?_) (fun cdv A outer s H vs Q E hr2 h => ?_)
  · obtain ⟨a, n, rfl, _⟩ := h
    rfl
  · obtain ⟨a, n, rfl, hB, hn, q⟩ := h
    have hr : Room 1 _ := hr2.mono (by decide)
    apply Exists.intro
    apply And.intro
    · apply pss_cons
      · exact ps_set (i := 2) scDr.nd rfl (.inl rfl) (pe_ix ix_list (pe_lst (pa_cons pe_int (pa_cons pe_int (pa_cons (pe_un un_neg pe_int) (pa_cons (pe_un un_neg pe_int) (pa_cons pe_int (pa_cons pe_int (pa_cons (pe_un un_neg pe_int) (pa_cons pe_int (pa_cons pe_int (pa_cons (pe_un un_neg pe_int) (pa_cons (pe_un un_neg pe_int) (pa_cons pe_int pa_nil)))))))))))))
          (pe_call GT hr (by rfl) gT FT.kp bT .nil pass0 (pa_cons (pv 0) (pa_cons pe_int pa_nil))) (fun _ _ => rfl))
      apply pss_cons
      · exact ps_set (i := 3) scDr.nd rfl (.inl rfl) (pe_call GD hr2 (by rfl) gD kD bD .nil pass0 (pa_cons (pv 0) (pa_cons (pv 2) (pa_cons (pv 1) pa_nil))))
      apply pss_one
      · exact ps_ret (pe_lst (pa_cons (pv 2) (pa_cons (pv 3) (pa_cons (pe_call GF hr2 (by rfl) gF kF bF .nil pass0 (pa_cons (pv 0) (pa_cons (pv 3) pa_nil))) pa_nil))))
    refine ⟨2, rfl, 3, rfl, 4, rfl, 6, rfl, 5, rfl, (by show 12 ≤ sizeLine; decide), fun l0 hl0 => ?_⟩
    have n0 := hB.ne hl0
    refine ⟨.ref a, rfl, a, 12, n, rfl, hB.new hl0, by omega, by decide, by decide, fun r H1 r0 r1 t1 B1 => ?_⟩
    have e0 := t1 _ _ n0 upd_same
    obtain ⟨v, hv, mv⟩ := pick (xs := ([2, 3, -2, -3, 2, 4, -4, 5, 6, -6, -5, 2] : List Int).map V.int) r0 r1
    obtain ⟨b, mb, rfl⟩ := List.mem_map.mp mv
    have hb := bases_ok b mb
    refine ⟨l0, _, r, .int b, rfl, rfl, SqL.of e0, hv, ?_⟩
    have T1 : But a H H1 := (But.new hl0).trans t1
    clear e0 hv mv mb
    refine ⟨.ref a, rfl, .int b, rfl, .int 6, rfl, a, b, n + 1, rfl, B1, by omega, hb, fun D ns H2 hD t2 B2 eD asc l1 l6 dg => ?_⟩
    have nDa : D ≠ a := B1.ne hD
    refine ⟨.int b, rfl, .ref D, rfl, .ref a, rfl, .ref D, rfl, a, D, ns, n + 31, rfl, B2.mono (by omega), by omega, eD, nDa, l6, fun pl ks H3 hpl t3 B3 epl ek sub => ?_⟩
    have npl := B2.ne hpl
    have pair : ∀ p ∈ ks, p.1 ≠ a := fun p hp => B2.ne (ek p hp).1
    refine ⟨(by show 3 ≤ sizeLine; decide), fun mo hmo => ?_⟩
    have nmo := B3.ne hmo
    have eD3 := t3 _ _ nDa eD
    exact q mo b ns (ks.map (·.2)) _ ((T1.trans (t2.trans t3)).trans (But.new hmo)) ((B3.new hmo).mono (by omega)) (good_of hb asc l1 l6 dg sub)
      ⟨D, pl, ks, rfl, fun H6 t6 => ⟨t6 _ _ nmo upd_same, t6 _ _ nDa (same_new hmo _ _ eD3), t6 _ _ npl (same_new hmo _ _ epl), fun p hp => t6 _ _ (pair p hp) (same_new hmo _ _ (ek p hp).2)⟩⟩
end
end K66
namespace K66
open PySem PySem.Spec PyProof.Rows L2 OF
theorem perm_map {α β : Type} {f : α → β} {ys zs : List β} (h : ys.Perm zs) : ∀ l : List α, zs = l.map f → ∃ l' : List α, ys = l'.map f ∧ l'.Perm l := by
  induction h with
  | nil =>
    intro l e
    have : l = [] := List.map_eq_nil_iff.mp e.symm
    exact ⟨[], rfl, by rw [this]⟩
  | cons x _ ih =>
    intro l e
    cases l with
    | nil => cases e
    | cons a l =>
      rw [List.map_cons, List.cons.injEq] at e
      obtain ⟨l', e2, p⟩ := ih l e.2
      exact ⟨a :: l', by rw [List.map_cons, e.1, e2], p.cons a⟩
  | swap x y t =>
    intro l e
    match l, e with
    | a :: b :: l, e =>
      rw [List.map_cons, List.map_cons, List.cons.injEq, List.cons.injEq] at e
      exact ⟨b :: a :: l, by rw [List.map_cons, List.map_cons, e.1, e.2.1, e.2.2], .swap _ _ _⟩
    | [a], e => cases e
  | trans _ _ ih1 ih2 =>
    intro l e
    obtain ⟨l2, e2, p2⟩ := ih2 l e
    obtain ⟨l1, e1, p1⟩ := ih1 l2 e2
    exact ⟨l1, e1, p1.trans p2⟩
theorem Model.off {a m : Addr} {b : Int} {ns : List Int} {H : Hp} {dl pl : Addr} {ks : List (Addr × (Int × Int))} (h : ∀ H', But a H H' → ModAt H' m dl pl b ns ks) : m ≠ a ∧ dl ≠ a ∧ pl ≠ a := by
  have h1 := h (upd H a (.tup [])) But.at_
  refine ⟨fun e => ?_, fun e => ?_, fun e => ?_⟩
  · have := h1.mo
    rw [e, upd_same] at this
    cases this
  · have := h1.di
    rw [e, upd_same] at this
    cases this
  · have := h1.pa
    rw [e, upd_same] at this
    cases this
section
variable {P : Program} {w : World} {K : PySem.W.Frag} {mg : Str → Option Value} {base : Heap}
/-! ### a scheme made of the law's parts, in a drawn order -/
def spSchemeL (C : Addr) : Sp := fun vs H Q _ => ∃ (a m : Addr) (n b : Int) (ds : List Int) (ps : List (Int × Int)), vs = [.ref a, .ref m] ∧ Box n H a ∧ n ≤ 700000 ∧ Good b ds ps ∧ Model a H m b ds ps ∧ ∀ o H', But a H H' → Box (n + 50) H' a → IsS C H' o b ds ps → Q (.ref o) H'
theorem scSm : FnScope ["_law_box_here", "_law_draft_here"] ["_law_box_here", "_law_draft_here"] (defScope sScheme) := ⟨rfl, rfl, rfl, by decide +kernel, rfl, by decide +kernel, by decide +kernel⟩
theorem ok_schemeL {f fN fM C CB CD CP T : Addr} {fd fdN fdM : FuncData} (F : Fun K "_law_scheme" "_law_scheme" sScheme f fd)
    (GM : FnOk P w K mg base CX0 2 fM fdM ["_law_box_here", "_law_some"] (spMixedP K)) (gM : mg "_law_mixed" = some (.ref fM)) (kM : PySem.W.keepIn K (.ref fM) = true) (bM : Binds K fdM ["_law_box_here", "_law_some"] [])
    (FN : FunD K "__init__" "Scheme.__init__" (defArgs sInit) (defBody sInit) (defScope sInit) [] [("bars", .ref T)] fN fdN) (M : Mk K C fN) (gC : mg "Scheme" = some (.ref C)) (GN : FnOk P w K mg base (L2.CX P w) 7 fN fdN ["self", "base", "digits", "bars"] (spNew K C CB CD CP)) :
    FnOk P w K mg base CX0 9 f fd ["_law_box_here", "_law_draft_here"] (spSchemeL C) := by
  have kbN := kbNew ⟨_, FN⟩
  refine F.ok scSm (fun vs H Q E h => ?_) (fun cdv A outer s H vs Q E hr h => ?_)
  · obtain ⟨a, m, n, b, ds, ps, rfl, _⟩ := h
    rfl
  · obtain ⟨a, m, n, b, ds, ps, rfl, hB, hn, G, Mm, q⟩ := h
    have hr2 : Room 2 _ := hr.mono (by decide)
    apply Exists.intro
    apply And.intro
    · apply pss_one
      · exact ps_ret (pe_makeK M GN hr (by rfl) gC kbN passNo (pa_cons (pe_ix ix_list (pv 1) pe_int (fun _ _ => rfl)) (pa_cons (pe_call GM hr2 (by rfl) gM kM bM .nil pass0 (pa_cons (pv 0) (pa_cons (pe_ix ix_list (pv 1) pe_int (fun _ _ => rfl)) pa_nil))) pa_nil)) (pk_cons (pe_call GM hr2 (by rfl) gM kM bM .nil pass0 (pa_cons (pv 0) (pa_cons (pe_ix ix_list (pv 1) pe_int (fun _ _ => rfl)) pa_nil))) pk_nil))
    obtain ⟨dl, pl, ks, rfl, MA⟩ := Mm
    obtain ⟨_, ndl, npl⟩ := Model.off MA
    have M0 := MA H But.refl
    have h6 := G.six
    have h36 := G.few
    rw [List.length_map] at h36
    refine ⟨.ref m, rfl, m, _, 0, .int b, rfl, rfl, SqL.of M0.mo, atI_nat (j := 0) rfl, ?_⟩
    refine ⟨.ref a, rfl, .ref m, rfl, m, _, 1, .ref dl, rfl, rfl, SqL.of M0.mo, atI_nat (j := 1) rfl, a, dl, _, n, rfl, hB, SqL.of M0.di, ndl, (by rw [List.length_map]; omega), by omega, fun D1 ys H1 hD1 t1 B1 e1 pm1 => ?_⟩
    obtain ⟨ms, rfl, w1⟩ := perm_map pm1 ds rfl
    rw [List.length_map] at B1
    have n1 : D1 ≠ a := hB.ne hD1
    have M1 := MA H1 t1
    refine ⟨.ref a, rfl, .ref m, rfl, m, _, 2, .ref pl, rfl, rfl, SqL.of M1.mo, atI_nat (j := 2) rfl, a, pl, _, n + ds.length, rfl, B1, SqL.of M1.pa, npl, (by rw [List.length_map]; omega), by omega, fun D2 ys H2 hD2 t2 B2 e2 pm2 => ?_⟩
    obtain ⟨kk, rfl, w2⟩ := perm_map pm2 ks rfl
    rw [List.length_map] at B2
    have M2 := MA H2 (t1.trans t2)
    refine ⟨rfl, rfl, ?_⟩
    refine made_ok G.b (.lst (t2 _ _ n1 e1)) (by rw [w1.length_eq]; omega) (List.all_eq_true.mpr fun k hk => G.dg k (w1.mem_iff.mp hk)) (.lst e2) (by rw [w2.length_eq]; omega) (fun p hp => M2.pr p (w2.mem_iff.mp hp)) G (fun k => w1.mem_iff.symm) (fun z => ((w2.map (·.2)).mem_iff).symm) fun o H3 s3 S => ?_
    exact q o H3 ((t1.trans t2).trans (But.of_same s3)) ((B2.same s3).mono (by omega)) S
end
end K66
set_option maxHeartbeats 1000000
/-! zip of two tuples, walked by one name: what it hands out may stay alive. -/
namespace OF
open PySem RZ
/-! ### what a step leaves as it was -/
def Fr (L : List Addr) (h h' : Heap) : Prop := h'.objs.size = h.objs.size ∧ ∀ c, c ∉ L → h'.get? c = h.get? c
theorem Fr.of {a : Addr} {h h' : Heap} (s : Heap.SameBut a h h') : Fr [a] h h' := ⟨s.1, fun c hc => s.2 c fun e => hc (by rw [e]; exact List.mem_singleton.mpr rfl)⟩
theorem Fr.trans {L M : List Addr} {h h' h'' : Heap} (x : Fr L h h') (y : Fr M h' h'') : Fr (L ++ M) h h'' :=
  ⟨y.1.trans x.1, fun c hc => (y.2 c fun e => hc (List.mem_append_right _ e)).trans (x.2 c fun e => hc (List.mem_append_left _ e))⟩
theorem Fr.iter {L : List Addr} {h h' : Heap} {i l : Addr} {k : Nat} (x : Fr L h h') (hc : i ∉ L) (hi : h.IsTupleIter i l k) : h'.IsTupleIter i l k := hi.at fun o e => (x.2 i hc).trans e
theorem Fr.tup {L : List Addr} {h h' : Heap} {l : Addr} {xs : Array Value} (x : Fr L h h') (hc : l ∉ L) (hl : h.IsTuple l xs) : h'.IsTuple l xs := by
  obtain ⟨o, e, r⟩ := hl
  exact ⟨o, (x.2 l hc).trans e, r⟩
/-! ### a zip at a turn -/
def zipO (f0 f1 : Value) (TI TO : Addr) : Obj := { cls := .type "zip", dict := none, data := .fields #[f0, f1, .bool false, .ref TI, .ref TO], slots := #[] }
def Last (v : Value) : Prop := v = .none ∨ ∃ n t, v = .int n t
structure ZipAt (z TI TO i1 i2 l1 l2 : Addr) (k : Nat) (h : Heap) : Prop where
  zp : ∃ f0 f1, Last f0 ∧ h.get? z = some (zipO f0 f1 TI TO)
  ti : IsPair h TI (.ref i1) (.ref i2)
  to : ∃ a b, IsPair h TO a b
  w1 : h.IsTupleIter i1 l1 k
  w2 : h.IsTupleIter i2 l2 k
section
variable {prog : Program} {w : World} {A : Around} {E : Value → Shared → Prop} {s : Shared} {z TI TO i1 i2 l1 l2 : Addr} {k : Nat}
theorem ZipAt.keep {h h' : Heap} (st : ZipAt z TI TO i1 i2 l1 l2 k h) (same : ∀ c ∈ [z, TI, TO, i1, i2], ∀ o, h.get? c = some o → h'.get? c = some o) : ZipAt z TI TO i1 i2 l1 l2 k h' := by
  obtain ⟨⟨f0, f1, l, e⟩, t, ⟨a, b, o⟩, w1, w2⟩ := st
  exact ⟨⟨f0, f1, l, same z (by simp) _ e⟩, same TI (by simp) _ t, ⟨a, b, same TO (by simp) _ o⟩, w1.at fun o e => same i1 (by simp) o e, w2.at fun o e => same i2 (by simp) o e⟩
theorem ZipAt.there {h : Heap} (st : ZipAt z TI TO i1 i2 l1 l2 k h) : ∀ c ∈ [z, TI, TO, i1, i2], ∃ o, h.get? c = some o ∧ ∀ v, o.data ≠ .cell v := by
  obtain ⟨⟨f0, f1, l, e⟩, t, ⟨a, b, o⟩, ⟨o1, e1, _, d1⟩, ⟨o2, e2, _, d2⟩⟩ := st
  intro c hc
  simp only [List.mem_cons, List.not_mem_nil, or_false] at hc
  rcases hc with rfl | rfl | rfl | rfl | rfl
  · exact ⟨_, e, fun v q => nomatch q⟩
  · exact ⟨_, t, fun v q => nomatch q⟩
  · exact ⟨_, o, fun v q => nomatch q⟩
  · exact ⟨o1, e1, fun v q => by rw [d1] at q; cases q⟩
  · exact ⟨o2, e2, fun v q => by rw [d2] at q; cases q⟩
theorem alive {a : Addr} {Q : Option Obj → Shared → Prop} (h : Q (s.heap.get? a) s) : wpAny (model prog w) A (loadIfAlive a) Q E s := fun _ _ _ => by
  unfold loadIfAlive
  rw [Sem.wp_loadIfAlive]
  simpa using h
/-- one field of the zip is set -/
theorem put {f0 f1 v : Value} {j : Nat} {Q : Unit → Shared → Prop} (e : s.heap.get? z = some (zipO f0 f1 TI TO)) (hj : j < 5) (q : ∀ h', h'.get? z = some { cls := .type "zip", dict := none, data := .fields ((#[f0, f1, .bool false, .ref TI, .ref TO] : Array Value).setIfInBounds j v), slots := #[] } → Fr [z] s.heap h' → Q () { s with heap := h' }) :
    wpAny (model prog w) A (setField (.ref z) j v) Q E s := wpAny_setField_rec e (by simpa using hj) fun h' e' b => q h' e' (.of b)
/-- is the pair handed out last still alive? -/
theorem last_free {f0 f1 : Value} {Q : Bool → Shared → Prop} (e : s.heap.get? z = some (zipO f0 f1 TI TO)) (l : Last f0) (qt : Q true s) (qf : ∀ h' f1', h'.get? z = some (zipO f0 f1' TI TO) → Fr [z] s.heap h' → Q false { s with heap := h' }) :
    wpAny (model prog w) A (Builtin.SmallTypes.ownedTupleIsFree (.ref z)) Q E s := by
  unfold Builtin.SmallTypes.ownedTupleIsFree
  refine wpAny_bind (wpAny_field e rfl (x := f0) rfl ?_)
  rcases l with rfl | ⟨n, t, rfl⟩
  · exact wpAny_pure qt
  · refine wpAny_bind (alive ?_)
    cases s.heap.get? n.toNat with
    | none => exact wpAny_pure qt
    | some o =>
      show wpAny _ _ (field (.ref z) 1 >>= _) _ _ s
      refine wpAny_bind (wpAny_field e rfl (x := f1) rfl ?_)
      show wpAny _ _ (if (f1 != .bool true) = true then _ else _) _ _ s
      by_cases h : (f1 != .bool true) = true
      · rw [if_pos h]
        exact wpAny_bind (put e (by decide) fun h' e' r => wpAny_pure (qf h' _ e' r))
      · rw [if_neg h]
        exact wpAny_bind (wpAny_pure (wpAny_pure (qf s.heap f1 e ⟨rfl, fun _ _ => rfl⟩)))
/-- the next item of a walk, what else stays -/
theorem item {it l : Addr} {xs : Array Value} {x : Value} {Q : Value → Shared → Prop} (hi : s.heap.IsTupleIter it l k) (hl : s.heap.IsTuple l xs) (hx : xs[k]? = some x) (q : ∀ h', Fr [it] s.heap h' → h'.IsTupleIter it l (k + 1) → Q x { s with heap := h' }) :
    wpAny (model prog w) A (Builtin.SmallTypes.nextOf (.ref it)) Q E s := nextOf_tuple_item hi hl hx fun h' a b => q h' (.of b) a
/-- a place of the kept pair is filled -/
theorem fill {a b x : Value} {j : Nat} {Q : Unit → Shared → Prop} (e : IsPair s.heap TO a b) (hj : j < 2) (q : ∀ h' a' b', IsPair h' TO a' b' → (a' = if j = 0 then x else a) → (b' = if j = 0 then b else x) → Fr [TO] s.heap h' → Q () { s with heap := h' }) :
    wpAny (model prog w) A (updateSeq TO (·.setIfInBounds j x)) Q E s := wpAny_updateSeq_pair e fun h' e' r => by
  match j, hj with
  | 0, _ => exact q h' x b e' rfl rfl (.of r)
  | 1, _ => exact q h' a x e' rfl rfl (.of r)
/-- what a turn gives: a new pair, all but the zip's own as it was -/
structure Gave (s : Shared) (z TI TO i1 i2 l1 l2 : Addr) (k : Nat) (x y : Value) (h' : Heap) : Prop where
  st : ZipAt z TI TO i1 i2 l1 l2 (k + 1) h'
  new : IsPair h' s.heap.objs.size x y
  fr : ∀ c o, c ∉ [z, TO, i1, i2] → s.heap.get? c = some o → h'.get? c = some o
theorem gives {xs ys : Array Value} {x y : Value} {Q : Value → Shared → Prop} (D : ZipApart z TI TO i1 i2 l1 l2) (st : ZipAt z TI TO i1 i2 l1 l2 k s.heap)
    (hl1 : s.heap.IsTuple l1 xs) (hl2 : s.heap.IsTuple l2 ys) (hx : xs[k]? = some x) (hy : ys[k]? = some y) (q : ∀ h', Gave s z TI TO i1 i2 l1 l2 k x y h' → Q (.ref s.heap.objs.size) { s with heap := h' }) :
    wpAny (model prog w) A (Builtin.«zip.__next__» ⟨[.ref z], []⟩) (fun fin s' => ∃ v, fin = .done (.ret v) ∧ Q v s') E s := by
  obtain ⟨⟨f0, f1, l, ez⟩, eI, ⟨a, b, eO⟩, w1, w2⟩ := st
  have zs := Heap.lt_size ez
  refine wpAny_bind (m := field (.ref z) 2) (wpAny_field ez rfl (x := .bool false) rfl (wpAny_bind (m := field (.ref z) 3) (wpAny_field ez rfl (x := .ref TI) rfl (wpAny_bind (wpAny_seqItems eI rfl ?_)))))
  refine wpAny_bind (m := Builtin.SmallTypes.ownedTupleIsFree (.ref z)) (last_free ez l ?_ fun h1 f1' ez1 r1 => ?_)
  · -- the kept pair is filled and handed out anew
    rw [if_pos rfl]
    refine wpAny_bind (wpAny_rule (wpAny_bind (wpAny_field ez rfl (x := .ref TO) rfl (wpAny_bind (put ez (by decide) fun h1 ez1 r1 => wpAny_bind ?_)))))
    simp only [List.zipIdx_cons, List.zipIdx_nil, List.forIn_cons, List.forIn_nil]
    refine wpAny_bind (wpAny_bind (wpAny_onRaise ?_))
    refine wpAny_bind (m := Builtin.SmallTypes.nextOf (.ref i1)) (item (r1.iter (by simp [D.i1z]) w1) (r1.tup (by simp [D.l1z]) hl1) hx fun h2 r2 w1' => wpAny_pure ?_)
    have r12 := r1.trans r2
    have eO2 : IsPair h2 TO a b := (r12.2 TO (by simp [D.TOz, D.TOi1])).trans eO
    refine wpAny_bind (wpAny_seqItems eO2 rfl (wpAny_bind (fill eO2 (by decide) fun h3 a' b' eO3 ea eb r3 => wpAny_bind (wpAny_letGo (wpAny_pure ?_)))))
    subst ea eb
    have r13 := r12.trans r3
    refine wpAny_bind (wpAny_bind (wpAny_onRaise ?_))
    refine wpAny_bind (m := Builtin.SmallTypes.nextOf (.ref i2)) (item (r13.iter (by simp [D.i2z, D.i12.symm, D.TOi2.symm]) w2) (r13.tup (by simp [D.l2z, D.l2i1, D.l2TO]) hl2) hy fun h4 r4 w2' => wpAny_pure ?_)
    have eO4 := (r4.2 TO (by simp [D.TOi2])).trans eO3
    refine wpAny_bind (wpAny_seqItems eO4 rfl (wpAny_bind (fill eO4 (by decide) fun h5 a' b' eO5 ea eb r5 => wpAny_bind (wpAny_letGo (wpAny_pure (wpAny_pure ?_))))))
    subst ea eb
    have r15 := (r13.trans r4).trans r5
    have r25 := ((r2.trans r3).trans r4).trans r5
    refine wpAny_bind (wpAny_seqItems eO5 rfl (wpAny_bind (wpAny_newTuple ?_)))
    have ez5 : h5.get? z = some (zipO .ellipsis f1 TI TO) := (r25.2 z (by simp [D.TOz.symm, D.i1z.symm, D.i2z.symm])).trans ez1
    have z5 : h5.objs.size = s.heap.objs.size := r15.1
    refine wpAny_bind (m := Builtin.SmallTypes.ownedTupleHandOut (.ref z) (.ref h5.objs.size)) ?_
    unfold Builtin.SmallTypes.ownedTupleHandOut
    refine wpAny_bind (put (Heap.get?_push_of_some _ ez5) (by decide) fun h6 ez6 r6 => put (f0 := rawInt h5.objs.size) (f1 := f1) ez6 (by decide) fun h7 ez7 r7 => wpAny_pure ⟨_, rfl, ?_⟩)
    show Q (.ref h5.objs.size) { s with heap := h7 }
    have r67 := r6.trans r7
    have up : ∀ c o, c ≠ z → h5.get? c = some o → h7.get? c = some o := fun c o n e => (r67.2 c (by simp [n])).trans (Heap.get?_push_of_some _ e)
    rw [z5] at ez7 ⊢
    refine q h7 ⟨⟨⟨_, _, .inr ⟨_, _, rfl⟩, ez7⟩, up _ _ D.TIz ((r15.2 TI (by simp [D.TIz, D.TIi1, D.TITO, D.TIi2])).trans eI), ⟨_, _, up _ _ D.TOz eO5⟩, ?_, ?_⟩, ?_, fun c o hc e => ?_⟩
    · exact ((((r3.trans r4).trans r5).iter (by simp [D.TOi1.symm, D.i12]) w1')).at fun o e => up _ o D.i1z e
    · exact (r5.iter (by simp [D.TOi2.symm]) w2').at fun o e => up _ o D.i2z e
    · rw [← z5]
      refine (r67.2 _ fun e => ?_).trans (Heap.get?_push_size _ rfl)
      have e2 : h5.objs.size = z := by simpa using e
      rw [← z5, e2] at zs
      exact Nat.lt_irrefl _ zs
    · simp only [List.mem_cons, List.not_mem_nil, or_false, not_or] at hc
      exact up c o hc.1 ((r15.2 c (by simp [hc])).trans e)
  · -- a pair of its own
    rw [if_neg Bool.false_ne_true]
    refine wpAny_bind ?_
    rw [← Array.forIn_toList]
    simp only [List.forIn_cons, List.forIn_nil]
    refine wpAny_bind (wpAny_bind (wpAny_holding ?_))
    refine wpAny_bind (m := Builtin.SmallTypes.nextOf (.ref i1)) (item (r1.iter (by simp [D.i1z]) w1) (r1.tup (by simp [D.l1z]) hl1) hx fun h2 r2 w1' => wpAny_pure (wpAny_pure ?_))
    have r12 := r1.trans r2
    refine wpAny_bind (wpAny_bind (wpAny_holding ?_))
    refine wpAny_bind (m := Builtin.SmallTypes.nextOf (.ref i2)) (item (r12.iter (by simp [D.i2z, D.i12.symm]) w2) (r12.tup (by simp [D.l2z, D.l2i1]) hl2) hy fun h3 r3 w2' => wpAny_pure (wpAny_pure (wpAny_pure ?_)))
    have r13 := r12.trans r3
    have r23 := r2.trans r3
    have z3 : h3.objs.size = s.heap.objs.size := r13.1
    refine wpAny_bind (wpAny_newTuple ?_ (by show 2 ≤ sizeLine; decide))
    refine wpAny_pure ⟨_, rfl, ?_⟩
    show Q (.ref h3.objs.size) { s with heap := h3.push { cls := .type "tuple", data := .seq #[x, y] } }
    have up : ∀ c o, h3.get? c = some o → (h3.push { cls := .type "tuple", data := .seq #[x, y] }).get? c = some o := fun c o e => Heap.get?_push_of_some _ e
    rw [z3]
    refine q _ ⟨⟨⟨f0, f1', l, up _ _ ((r23.2 z (by simp [D.i1z.symm, D.i2z.symm])).trans ez1)⟩, up _ _ ((r13.2 TI (by simp [D.TIz, D.TIi1, D.TIi2])).trans eI), ⟨a, b, up _ _ ((r13.2 TO (by simp [D.TOz, D.TOi1, D.TOi2])).trans eO)⟩, (r3.iter (by simp [D.i12]) w1').at fun o e => up _ o e, w2'.at fun o e => up _ o e⟩, ?_, fun c o hc e => ?_⟩
    · rw [← z3]
      exact Heap.get?_push_size _ rfl
    · simp only [List.mem_cons, List.not_mem_nil, or_false, not_or] at hc
      exact up c o ((r13.2 c (by simp [hc])).trans e)
theorem ends {xs ys : Array Value} {Q : Fin → Shared → Prop} (hh : A.handled = none) (D : ZipApart z TI TO i1 i2 l1 l2) (st : ZipAt z TI TO i1 i2 l1 l2 k s.heap)
    (hl1 : s.heap.IsTuple l1 xs) (hl2 : s.heap.IsTuple l2 ys) (over : xs[k]? = none ∨ ys[k]? = none) (q : ∀ h' e, (∀ c o, c ∉ [z, TO, i1, i2] → s.heap.get? c = some o → h'.get? c = some o) → (∃ o, h'.get? e = some o ∧ o.cls = .type "StopIteration") → E (.ref e) { s with heap := h' }) :
    wpAny (model prog w) A (Builtin.«zip.__next__» ⟨[.ref z], []⟩) Q E s := by
  obtain ⟨⟨f0, f1, l, ez⟩, eI, ⟨a, b, eO⟩, w1, w2⟩ := st
  refine wpAny_bind (m := field (.ref z) 2) (wpAny_field ez rfl (x := .bool false) rfl (wpAny_bind (m := field (.ref z) 3) (wpAny_field ez rfl (x := .ref TI) rfl (wpAny_bind (wpAny_seqItems eI rfl ?_)))))
  have kind : ∀ {h : Heap} {e : Addr} {f g : Value}, h.get? z = some (zipO f g TI TO) → (∃ o, h.get? e = some o ∧ o.cls = .type "StopIteration") → e ≠ z := fun ez he x => by
    obtain ⟨o, ho, hc⟩ := he
    rw [x, ez] at ho
    cases ho
    have hc : Value.type "zip" = Value.type "StopIteration" := hc
    exact absurd (Value.type.inj hc) (by decide)
  refine wpAny_bind (m := Builtin.SmallTypes.ownedTupleIsFree (.ref z)) (last_free ez l ?_ fun h1 f1' ez1 r1 => ?_)
  · rw [if_pos rfl]
    refine wpAny_bind (wpAny_rule (wpAny_bind (wpAny_field ez rfl (x := .ref TO) rfl (wpAny_bind (put ez (by decide) fun h1 ez1 r1 => wpAny_bind ?_)))))
    simp only [List.zipIdx_cons, List.zipIdx_nil, List.forIn_cons, List.forIn_nil]
    refine wpAny_bind (wpAny_bind (wpAny_onRaise ?_))
    cases hx : xs[k]? with
    | none =>
      refine wpAny_bind (m := Builtin.SmallTypes.nextOf (.ref i1)) (nextOf_tuple_end hh (r1.iter (by simp [D.i1z]) w1) (r1.tup (by simp [D.l1z]) hl1) hx fun h2 e x2 he => ?_)
      have ez2 := x2 z _ D.i1z.symm ez1
      refine put (f0 := .ellipsis) (f1 := f1) ez2 (by decide) fun h3 _ r3 => q h3 e (fun c o hc g => ?_) ?_
      · simp only [List.mem_cons, List.not_mem_nil, or_false, not_or] at hc
        exact (r3.2 c (by simp [hc])).trans (x2 c o hc.2.2.1 ((r1.2 c (by simp [hc])).trans g))
      · obtain ⟨o, ho, hc⟩ := he
        exact ⟨o, (r3.2 e (by simpa using kind ez2 ⟨o, ho, hc⟩)).trans ho, hc⟩
    | some x =>
      have hy : ys[k]? = none := over.resolve_left (by rw [hx]; exact fun e => nomatch e)
      refine wpAny_bind (m := Builtin.SmallTypes.nextOf (.ref i1)) (item (r1.iter (by simp [D.i1z]) w1) (r1.tup (by simp [D.l1z]) hl1) hx fun h2 r2 w1' => wpAny_pure ?_)
      have r12 := r1.trans r2
      have eO2 : IsPair h2 TO a b := (r12.2 TO (by simp [D.TOz, D.TOi1])).trans eO
      refine wpAny_bind (wpAny_seqItems eO2 rfl (wpAny_bind (fill eO2 (by decide) fun h3 a' b' eO3 ea eb r3 => wpAny_bind (wpAny_letGo (wpAny_pure ?_)))))
      have r13 := r12.trans r3
      refine wpAny_bind (wpAny_bind (wpAny_onRaise ?_))
      refine wpAny_bind (m := Builtin.SmallTypes.nextOf (.ref i2)) (nextOf_tuple_end hh (r13.iter (by simp [D.i2z, D.i12.symm, D.TOi2.symm]) w2) (r13.tup (by simp [D.l2z, D.l2i1, D.l2TO]) hl2) hy fun h4 e x4 he => ?_)
      have ez4 := x4 z _ D.i2z.symm (((r2.trans r3).2 z (by simp [D.TOz.symm, D.i1z.symm])).trans ez1)
      refine put (f0 := .ellipsis) (f1 := f1) ez4 (by decide) fun h5 _ r5 => q h5 e (fun c o hc g => ?_) ?_
      · simp only [List.mem_cons, List.not_mem_nil, or_false, not_or] at hc
        exact (r5.2 c (by simp [hc])).trans (x4 c o hc.2.2.2 ((r13.2 c (by simp [hc])).trans g))
      · obtain ⟨o, ho, hc⟩ := he
        exact ⟨o, (r5.2 e (by simpa using kind ez4 ⟨o, ho, hc⟩)).trans ho, hc⟩
  · rw [if_neg Bool.false_ne_true]
    refine wpAny_bind ?_
    rw [← Array.forIn_toList]
    simp only [List.forIn_cons, List.forIn_nil]
    refine wpAny_bind (wpAny_bind (wpAny_holding ?_))
    cases hx : xs[k]? with
    | none =>
      refine wpAny_bind (m := Builtin.SmallTypes.nextOf (.ref i1)) (nextOf_tuple_end hh (r1.iter (by simp [D.i1z]) w1) (r1.tup (by simp [D.l1z]) hl1) hx fun h2 e x2 he => q h2 e (fun c o hc g => ?_) he)
      simp only [List.mem_cons, List.not_mem_nil, or_false, not_or] at hc
      exact x2 c o hc.2.2.1 ((r1.2 c (by simp [hc])).trans g)
    | some x =>
      have hy : ys[k]? = none := over.resolve_left (by rw [hx]; exact fun e => nomatch e)
      refine wpAny_bind (m := Builtin.SmallTypes.nextOf (.ref i1)) (item (r1.iter (by simp [D.i1z]) w1) (r1.tup (by simp [D.l1z]) hl1) hx fun h2 r2 w1' => wpAny_pure (wpAny_pure ?_))
      have r12 := r1.trans r2
      refine wpAny_bind (wpAny_bind (wpAny_holding ?_))
      refine wpAny_bind (m := Builtin.SmallTypes.nextOf (.ref i2)) (nextOf_tuple_end hh (r12.iter (by simp [D.i2z, D.i12.symm]) w2) (r12.tup (by simp [D.l2z, D.l2i1]) hl2) hy fun h3 e x3 he => q h3 e (fun c o hc g => ?_) he)
      simp only [List.mem_cons, List.not_mem_nil, or_false, not_or] at hc
      exact x3 c o hc.2.2.2 ((r12.2 c (by simp [hc])).trans g)
theorem ZipAt.kind {h : Heap} (st : ZipAt z TI TO i1 i2 l1 l2 k h) : ∃ o, h.get? z = some o ∧ o.cls = .type "zip" := by
  obtain ⟨⟨f0, f1, _, e⟩, _⟩ := st
  exact ⟨_, e, rfl⟩
/-- next(..), behind it what the loop reads -/
theorem next_gives {xs ys : Array Value} {x y : Value} {Q : Option Value → Shared → Prop} (D : ZipApart z TI TO i1 i2 l1 l2) (st : ZipAt z TI TO i1 i2 l1 l2 k s.heap)
    (hl1 : s.heap.IsTuple l1 xs) (hl2 : s.heap.IsTuple l2 ys) (hx : xs[k]? = some x) (hy : ys[k]? = some y) (q : ∀ h', Gave s z TI TO i1 i2 l1 l2 k x y h' → Q (some (.ref s.heap.objs.size)) { s with heap := h' }) :
    wpAny (model prog w) A (pyNext (.ref z)) Q E s := by
  unfold pyNext
  refine wpAny_bind (wpAny_attempt (wpAny_callSpecial?_slot (name := Str.ofString "__next__") st.kind F.slot_zip_next (wpAny_call_entry F.slot_zip_next st.kind F.entry_zip_next ?_ (F.args_zip_next_1 _))))
  exact gives D st hl1 hl2 hx hy fun h' g => wpAny_pure (q h' g)
theorem next_ends {xs ys : Array Value} {Q : Option Value → Shared → Prop} (hh : A.handled = none) (D : ZipApart z TI TO i1 i2 l1 l2) (st : ZipAt z TI TO i1 i2 l1 l2 k s.heap)
    (hl1 : s.heap.IsTuple l1 xs) (hl2 : s.heap.IsTuple l2 ys) (over : xs[k]? = none ∨ ys[k]? = none) (q : ∀ h', (∀ c o, c ∉ [z, TO, i1, i2] → s.heap.get? c = some o → h'.get? c = some o) → Q none { s with heap := h' }) :
    wpAny (model prog w) A (pyNext (.ref z)) Q E s := by
  unfold pyNext
  refine wpAny_bind (wpAny_attempt (wpAny_callSpecial?_slot (name := Str.ofString "__next__") st.kind F.slot_zip_next (wpAny_call_entry F.slot_zip_next st.kind F.entry_zip_next ?_ (F.args_zip_next_1 _))))
  refine ends hh D st hl1 hl2 over fun h' e keep he => ?_
  exact wpAny_bind (wpAny_isInstance (T := "StopIteration") (b := true) he isSubtype_stop (wpAny_pure (q h' keep)))
end
section
open PySem.Spec PyProof.Rows L2
/-- the walk, by one name -/
theorem walksN {P : Program} {w : World} {K : PySem.W.Frag} {nm : Str} {tpos : Pos} {a b z TI TO i1 i2 : Addr} (D : ZipApart z TI TO i1 i2 a b) : Turn P w K (.Name nm tpos) (ItzT K a b) [z, TI, TO, i1, i2] z (ZipAt z TI TO i1 i2 a b) where
  mem := List.mem_cons_self
  obj := fun _ _ st => st.there
  keep := fun _ _ _ st => st.keep
  self := fun _ _ _ _ _ st h => by
    refine wpAny_pyIter_slot st.kind F.slot_zip_iter (wpAny_call_entry F.slot_zip_iter st.kind F.entry_zip_iter ?_ (F.args_zip_iter_1 _))
    exact wpAny_pure ⟨_, rfl, "zip", _, st.kind, F.slot_zip_next.lookup, h⟩
  item := fun X hP hw hK hc i pins s σ H E I free st hg => by
    subst hP hw hK
    obtain ⟨xs, ys, x, y, sx, sy, hx, hy⟩ := hg
    obtain ⟨us, ru, px, _⟩ := I.tuple sx
    obtain ⟨vs, rv, py, _⟩ := I.tuple sy
    obtain ⟨u, hu, xu⟩ := ru.get hx
    obtain ⟨v, hv, yv⟩ := rv.get hy
    refine next_gives D st px py (x := u) (y := v) (by simpa using hu) (by simpa using hv) fun h' g => ⟨_, rfl, wpAny_pure ?_⟩
    have low : ∀ c ∈ [z, TI, TO, i1, i2], c < s.heap.objs.size := fun c hc => by
      obtain ⟨o, e, _⟩ := st.there c hc
      exact Heap.lt_size e
    have J : Inv X pins σ (upd H s.heap.objs.size (.tup [x, y])) { s with heap := h' } := by
      refine I.turnedNew (t' := s.toks) (ch := [z, TI, TO, i1, i2]) (fun c o n e => g.fr c o (fun m => n ?_) e) free (Nat.le_refl _) ⟨(by show 2 ≤ sizeLine; decide), [u, v], .cons xu (.cons yv .nil), ⟨_, g.new, rfl, _, rfl⟩⟩
      simp only [List.mem_cons, List.not_mem_nil, or_false] at m ⊢
      rcases m with m | m | m | m
      · exact .inl m
      · exact .inr (.inr (.inl m))
      · exact .inr (.inr (.inr (.inl m)))
      · exact .inr (.inr (.inr (.inr m)))
    refine ⟨.ref s.heap.objs.size, _, J, rfl, ⟨_, x, y, rfl, I.hok.fresh (Nat.le_refl _), rfl, fun l hl => ?_, fun l hl => ?_⟩, g.st, fun c hc => ?_⟩
    · rw [I.tuple_inj hl sx]
      exact hx
    · rw [I.tuple_inj hl sy]
      exact hy
    · rw [upd_ne (Nat.ne_of_lt (low c hc))]
      exact (free c hc).1
  done := fun X hP hw hK hc i pins s σ H E I free st hg => by
    subst hP hw hK
    obtain ⟨xs, ys, sx, sy, over⟩ := hg
    obtain ⟨us, ru, px, _⟩ := I.tuple sx
    obtain ⟨vs, rv, py, _⟩ := I.tuple sy
    have n1 := ru.length
    have n2 := rv.length
    have none_ : us.toArray[i]? = none ∨ vs.toArray[i]? = none := by
      rcases over with h | h
      · exact .inl (by simp; omega)
      · exact .inr (by simp; omega)
    refine next_ends (I.ok.hd hc) D st px py none_ fun h' keep => ⟨rfl, I.turnedL (t' := s.toks) (ch := [z, TI, TO, i1, i2]) (fun c o n e => keep c o (fun m => n ?_) e) free⟩
    simp only [List.mem_cons, List.not_mem_nil, or_false] at m ⊢
    rcases m with m | m | m | m
    · exact .inl m
    · exact .inr (.inr (.inl m))
    · exact .inr (.inr (.inr (.inl m)))
    · exact .inr (.inr (.inr (.inr m)))
/-- zip of two tuples, walked by one name -/
def iZipN (K : PySem.W.Frag) (ta : TA) : TI := fun σ H R => ta σ H fun vs H1 => ∃ a b xs ys, vs = [.ref a, .ref b] ∧ SqT K H1 a xs ∧ SqT K H1 b ys ∧ R (ItzT K a b) H1
theorem pi_zipN {X : Cx} {e e2 : Expr} {ta : TA} {p pos tpos : Pos} {nm : Str} (hg : Gl X "zip") (hm : X.mg "zip" = none) (ha : PA X [e, e2] ta)
    (hs : starEach [e, e2] X.env = (false, eval e X.env) :: starEach [e2] X.env := by rfl) (hpl : (backTo pos (starEach [e2] X.env)).any (·.1) = false := by rfl) : PI X (.Name nm tpos) (.Call (.Name "zip" p) [e, e2] [] pos) (iZipN X.K ta) where
  run := fun pins s σ H R I h => by
    refine Call_ (ld_blt I hg hm PyProof.Rows.boot_zip (PyProof.Rows.callWith_type1 (thn (ha.run pos pins s σ H _ I h) fun us s1 q => ?_) hs hpl))
    obtain ⟨_, H1, J, rel, a, b, xs, ys, rfl, sx, sy, goal⟩ := q
    obtain ⟨u, v, rfl, ru, rv⟩ := vals2 rel
    cases ru
    cases rv
    obtain ⟨us, _, px, _⟩ := J.tuple sx
    obtain ⟨vs, _, py, _⟩ := J.tuple sy
    obtain ⟨_, ea, _⟩ := id px
    obtain ⟨_, eb, _⟩ := id py
    generalize hN : s1.heap.objs.size = N at *
    have free : ∀ c ∈ [N + 4, N + 2, N + 3, N, N + 1], FpOk X pins H1 c := fun c hc => by
      have ge : s1.heap.objs.size ≤ c := by
        simp only [List.mem_cons, List.not_mem_nil, or_false] at hc
        rw [hN]
        rcases hc with e | e | e | e | e <;> rw [e]
        exact Nat.le_add_right _ _
        exact Nat.le_add_right _ _
        exact Nat.le_add_right _ _
        exact Nat.le_refl _
        exact Nat.le_add_right _ _
      exact J.fpOk ge (J.hok.fresh ge)
    refine call_zipT px py fun h' ez eI eO w1 w2 _ keep => ?_
    rw [hN] at ez eI eO w1 w2 ⊢
    have st : ZipAt (N + 4) (N + 2) (N + 3) N (N + 1) a b 0 h' := ⟨⟨.none, .bool false, .inl rfl, ez⟩, eI, ⟨_, _, eO⟩, w1, w2⟩
    have D : ZipApart (N + 4) (N + 2) (N + 3) N (N + 1) a b := by
      rw [← hN]
      exact PySem.W.ktu_apart s1.heap.objs.size a b (Heap.lt_size ea) (Heap.lt_size eb)
    exact (walksN (K := X.K) (nm := nm) (tpos := tpos) D).self _ 0 { s1 with heap := h' } _ _ st ⟨N + 4, _, _, _, H1, rfl, J.kept (t' := s1.toks) keep, walksN D, st, free, goal⟩
end
end OF
namespace K66
open PySem PySem.Spec PyProof.Rows L2 OF
theorem rowP_all (ds : List Int) (ps : List (Int × Int)) : ∀ ns : List Int, rowP ds ps ns = ((ns.all fun n => decide (n ∈ ds)) && ((ns.zip ns.tail).all fun p => decide (p ∉ ps)))
  | [] => rfl
  | [n] => by
    show decide (n ∈ ds) = ((decide (n ∈ ds) && true) && true)
    rw [Bool.and_true, Bool.and_true]
  | n :: m :: l => by
    have ih := rowP_all ds ps (m :: l)
    show ((decide (n ∈ ds) && decide ((n, m) ∉ ps)) && rowP ds ps (m :: l)) = _
    rw [ih]
    show _ = ((decide (n ∈ ds) && ((m :: l).all fun n => decide (n ∈ ds))) && (decide ((n, m) ∉ ps) && (((m :: l).zip (m :: l).tail).all fun p => decide (p ∉ ps))))
    cases decide (n ∈ ds) <;> cases decide ((n, m) ∉ ps) <;> cases ((m :: l).all fun n => decide (n ∈ ds)) <;> rfl
theorem walk_zipT2 {K : PySem.W.Frag} {a b : Addr} {xs ys : List V} {n : Nat} (h1 : n ≤ xs.length) (h2 : ys.length = n) : Walk (RZ.ItzT K a b) n (fun H => SqT K H a xs ∧ SqT K H b ys) (YPair (fun i => xs[i]?) (fun i => ys[i]?)) :=
  ⟨fun i _ hi q => ⟨xs, ys, xs[i]'(by omega), ys[i]'(by omega), q.1, q.2, List.getElem?_eq_getElem _, List.getElem?_eq_getElem _⟩, fun _ q => ⟨xs, ys, q.1, q.2, .inr (by omega)⟩, fun _ _ _ _ _ q ⟨T, x, y, e, hT, eH, hx, hy⟩ => ⟨T, x, y, e, hT, eH, hx xs q.1, hy ys q.2⟩⟩
theorem bars_shapedL (ks : List (Addr × (Int × Int))) : SeqAt.shaped (.list (ks.map fun p => pd2 p.2)) = true := by
  obtain ⟨h1, h2⟩ := bars_can ks
  refine shaped_of ?_ ?_
  · simp only [PyData.canLay0, h1]
  · simp only [PyData.depth]
    omega
section
variable {P : Program} {w : World} {K : PySem.W.Frag} {mg : Str → Option Value} {base : Heap}
/-! ### whether it is a row -/
def spIsRow : Sp := fun vs H Q _ => ∃ (m dl pl p : Addr) (b : Int) (ds : List Int) (ks : List (Addr × (Int × Int))) (ns : List Int), vs = [.ref m, .ref p] ∧ ModAt H m dl pl b ds ks ∧ H p = some (.tup (ns.map V.int)) ∧ ns.length ≤ 1000 ∧ ∀ H', Same H H' → Q (.bl (rowP ds (ks.map (·.2)) ns)) H'
abbrev nIr : List Str := ["_law_draft_here", "_law_row", "_law_digit", "_law_pair"]
theorem scIr : FnScope nIr ["_law_draft_here", "_law_row"] (defScope sIsRow) := ⟨rfl, rfl, rfl, by decide +kernel, rfl, by decide +kernel, by decide +kernel⟩
theorem any_pair {ks : List (Addr × (Int × Int))} (x y : Int) : ((ks.map fun p => pd2 p.2).any fun z => PyData.eqv z (pd2 (x, y))) = decide ((x, y) ∈ ks.map (·.2)) := hasBar_iff ks x y
set_option maxHeartbeats 2000000 in
theorem ok_isrow {f : Addr} {fd : FuncData} (F : Fun K "_law_is_row" "_law_is_row" sIsRow f fd) (mis : mg "isinstance" = none) (mt : mg "tuple" = none) (mi : mg "int" = none) (mb : mg "bool" = none) (mz : mg "zip" = none) : FnOk P w K mg base CX0 1 f fd ["_law_draft_here", "_law_row"] spIsRow := by
  refine F.ok scIr (fun vs H Q E h => ?_) (fun cdv A outer s H vs Q E hr h => ?_)
  · obtain ⟨m, dl, pl, p, b, ds, ks, ns, rfl, _⟩ := h
    rfl
  · obtain ⟨m, dl, pl, p, b, ds, ks, ns, rfl, M, hp, hl, q⟩ := h
    have hu65 : (A.deeper (envOfC "_law_is_row" (defScope sIsRow) s.heap.objs.size f cdv)).units + 65 < cLine := by
      have := hr.un
      omega
    apply Exists.intro
    apply And.intro
    · apply pss_cons
      · exact ps_if (pt_not (pt_val (pe_callB call_isi (by rfl) mis PyProof.Rows.boot_isinstance (pa_cons (pv 1) (pa_cons (pe_bltn (v := .ty "tuple") (by rfl) mt (by decide +kernel) rfl) pa_nil))))) (pss_one (ps_ret pe_bl)) pss_nil
      apply pss_cons
      · exact ps_for PassesOwn.never rfl (pi_tup (pv 1)) (pg_name (i := 2) scIr.nd rfl (.inl rfl)) (pss_one (ps_if (PW.pt (pw_or (pt_not (pt_val (pe_callB call_isi (by rfl) mis PyProof.Rows.boot_isinstance (pa_cons (pv 2) (pa_cons (pe_bltn (v := .ty "int") (by rfl) mi (by decide +kernel) rfl) pa_nil))))) (pw_or (pt_val (pe_callB call_isi (by rfl) mis PyProof.Rows.boot_isinstance (pa_cons (pv 2) (pa_cons (pe_bltn (v := .ty "bool") (by rfl) mb (by decide +kernel) rfl) pa_nil)))) (pw_or1 (pt_cmpR op_notIn_seq (pv 2) (pe_ix ix_list (pv 0) pe_int (fun _ _ => rfl)) rfl))))) (pss_one (ps_ret pe_bl)) pss_nil))
      apply pss_one
      · exact ps_ret (pe_cmpR (op_eqNil hr.units) (pe_lc (own := [("_law_pair", 3)]) (g := gName 3) (tt := tTest (tOp (rInD K) (tVar 3) (tOp (rIxL K) (tVar 0) (tC (.int 2))))) (te := tVar 3) rfl scIr.nd
          (pi_zipN (by rfl) mz (pa_cons (pv 1) (pa_cons (pe_slice sl_tup2 (pv 1) (po_some pe_int) po_none) pa_nil)))
          (blkOk_by (own := [("_law_pair", 3)]) (N := nIr) (sc := defScope sIsRow) (by decide +kernel)) (fun _ _ _ _ _ => pg_name (i := 3) scIr.nd rfl (Or.inl rfl))
          (fun _ _ _ _ _ => by exact (pts_one (pt_cmpR (op_inD hu65) (pv 3) (pe_ix ix_list (pv 0) pe_int (fun _ _ => rfl)) rfl))) (fun _ _ _ _ _ => by exact (pv 3))) (pe_lst pa_nil) (nomark _))
    refine ⟨.ref p, rfl, .ref p, .ty "tuple", .type "tuple", .type "tuple", true, rfl, .ty _, .base (.tup hp), kit_ty (by decide +kernel), true, rfl, iteF ?_⟩
    refine ⟨.ref p, rfl, p, rfl, ⟨_, SqT.of hp⟩, ?_⟩
    refine for_tup (K := K) (a := p) (xs := ns.map V.int) (fun i σ H' => (∃ v2, σ = [some (.ref m), some (.ref p), v2, none]) ∧ H' = H ∧ ((ns.take i).all fun n => decide (n ∈ ds)) = true) ⟨⟨none, rfl⟩, rfl, rfl⟩ (fun i σ H' _ h => by rw [h.2.1]; exact SqT.of hp) ?_ ?_
    · rintro i x σ H' hx ⟨⟨v2, rfl⟩, rfl, ok⟩
      obtain ⟨k, hk, rfl⟩ := get_map hx
      refine ⟨.int k, rfl, .int k, .ty "int", .type "int", .type "int", true, rfl, .ty _, .base (.int k), kit_ty (by decide +kernel), true, rfl, ?_⟩
      refine iteF ⟨.int k, rfl, .int k, .ty "bool", .type "int", .type "bool", false, rfl, .ty _, .base (.int k), kit_ty (by decide +kernel), false, rfl, iteF ?_⟩
      refine ⟨.int k, rfl, .ref m, rfl, m, _, 1, .ref dl, rfl, rfl, SqL.of M.mo, atI_nat (j := 1) rfl, dl, _, rfl, .inl (SqL.of M.di), rfl, flat_ints ds, _, rfl, ?_⟩
      rw [in_ints]
      by_cases h : k ∈ ds
      · refine iteFB (by rw [decide_eq_true h]; rfl) ⟨⟨_, rfl⟩, rfl, ?_⟩
        rw [take_more hk, List.all_append, ok, List.all_cons, decide_eq_true h]
        rfl
      · refine iteTB (by rw [decide_eq_false h]; rfl) ?_
        have bad : rowP ds (ks.map (·.2)) ns = false := by
          rw [rowP_all, Bool.and_eq_false_imp]
          intro all
          exact absurd (of_decide_eq_true (List.all_eq_true.mp all k (List.mem_of_getElem? hk))) h
        have z := q H' (Same.refl _)
        rw [bad] at z
        exact z
    · rintro σ H' ⟨⟨v2, rfl⟩, rfl, ok⟩
      rw [List.length_map, List.take_length] at ok
      refine ⟨.ref p, rfl, .ref p, rfl, 1, rfl, p, _, rfl, hp, fun p1 H1 s1 e1 => ?_⟩
      rw [cutV_tail] at e1
      have et : (ns.map V.int).tail = ns.tail.map V.int := by cases ns <;> rfl
      rw [et] at e1
      have hz0 : ns.tail.length ≤ ns.length := by
        rw [List.length_tail]
        omega
      refine ⟨p, p1, _, _, rfl, SqT.of (s1 _ _ hp), SqT.of e1, fun D hD => ?_⟩
      refine lc_it (walk_zipT2 (K := K) (a := p) (b := p1) (xs := ns.map V.int) (ys := ns.tail.map V.int) (n := ns.tail.length) (by rw [List.length_map]; exact hz0) (by rw [List.length_map])) (fun i H' => Same H1 H' ∧ ∃ acc : List V, H' D = some (.lst acc) ∧ acc.length ≤ i ∧ acc.isEmpty = (((ns.zip ns.tail).take i).all fun p => decide (p ∉ ks.map (·.2)))) ⟨same_new hD, [], upd_same, Nat.le_refl _, rfl⟩ (fun i H' _ h => ⟨SqT.of (h.1 _ _ (s1 _ _ hp)), SqT.of (h.1 _ _ e1)⟩) ?_ ?_
      · rintro i v H4 H5 hi ⟨s4, acc, e4, la, em⟩ ⟨T, x, y, rfl, hT, rfl, hx, hy⟩
        obtain ⟨a0, ha, rfl⟩ := get_map hx
        obtain ⟨b0, hb, rfl⟩ := get_map hy
        have hz : (ns.zip ns.tail)[i]? = some (a0, b0) := by
          rw [List.getElem?_zip_eq_some]
          exact ⟨ha, hb⟩
        have s5 := same_new (o := .tup [.int a0, .int b0]) hT
        have sB : Same H' (upd H4 T (.tup [.int a0, .int b0])) := s1.trans (s4.trans s5)
        have M5 := M.same sB
        have e5 := s5 _ _ e4
        refine ⟨rfl, .ref T, rfl, .ref m, rfl, m, _, 2, .ref pl, rfl, rfl, SqL.of M5.mo, atI_nat (j := 2) rfl, pd2 (a0, b0), (ks.map fun p => pd2 p.2), .tup (SqT.of upd_same) (.cons (.int a0) (.cons (.int b0) .nil)), .lst (SqL.of M5.pa) (bars_dp ks M5.pr), pd2_shaped _, bars_shapedL ks, _, rfl, ?_⟩
        rw [any_pair]
        by_cases hin : (a0, b0) ∈ ks.map (·.2)
        · refine iteTB (decide_eq_true hin) ⟨.ref T, rfl, acc, e5, ?_, Same.store (s4.trans s5) hD, acc ++ [.ref T], upd_same, ?_, ?_⟩
          · refine Nat.lt_of_le_of_lt (Nat.le_trans la ?_) (small1000 hl)
            have := (List.getElem?_eq_some_iff.mp ha).1
            omega
          · rw [List.length_append]
            exact Nat.succ_le_succ la
          · rw [take_more hz, List.all_append, List.all_cons, decide_eq_false (by exact fun h => h hin)]
            rw [Bool.false_and, Bool.and_false]
            cases acc <;> rfl
        · refine iteFB (decide_eq_false hin) ⟨s4.trans s5, acc, e5, Nat.le_succ_of_le la, ?_⟩
          rw [take_more hz, List.all_append, List.all_cons, decide_eq_true hin, em]
          show _ = (_ && (true && true))
          rw [Bool.and_true, Bool.and_true]
      · rintro H4 ⟨s4, acc, e4, la, em⟩
        refine ⟨(by show 0 ≤ sizeLine; decide), fun g hg => ?_⟩
        have s5 := same_new (o := .lst []) hg
        refine ⟨D, g, acc, rfl, rfl, SqL.of (s5 _ _ e4), SqL.of upd_same, ?_⟩
        have lz : (ns.zip ns.tail).length ≤ ns.tail.length := by
          rw [List.length_zip]
          omega
        rw [List.take_of_length_le lz] at em
        have z := q _ (s1.trans (s4.trans s5))
        rw [rowP_all, ok, Bool.true_and, ← em] at z
        exact z
end
end K66
namespace K66
open PySem PySem.Spec PyProof.Rows L2 OF
section
variable {P : Program} {w : World} {K : PySem.W.Frag} {mg : Str → Option Value} {base : Heap}
/-! ### a row, drawn -/
def spDrawn : Sp := fun vs H Q _ => ∃ (a m : Addr) (sz : Nat) (n b : Int) (ds : List Int) (ps : List (Int × Int)), vs = [.ref a, .ref m, .int sz] ∧ Box n H a ∧ n ≤ 700000 ∧ sz ≤ 400 ∧ Good b ds ps ∧ Model a H m b ds ps ∧
  ∀ (p : Addr) (ns : List Int) (H' : Hp), But a H H' → Box (n + sz) H' a → H' p = some (.tup (ns.map V.int)) → p ≠ a → ns.length ≤ sz → (∀ k ∈ ns, k ∈ ds) → Q (.ref p) H'
abbrev nDw : List Str := ["_law_box_here", "_law_draft_here", "_law_size", "_law_row", "_law_k", "_law_some", "_law_digit"]
theorem scDw : FnScope nDw ["_law_box_here", "_law_draft_here", "_law_size"] (defScope sDrawn) := ⟨rfl, rfl, rfl, by decide +kernel, rfl, by decide +kernel, by decide +kernel⟩
theorem snoc_of {α : Type} {l : List α} (h : l ≠ []) : ∃ i x, l = i ++ [x] := ⟨l.dropLast, l.getLast h, (List.dropLast_concat_getLast h).symm⟩
theorem box_ne_tup {n : Int} {H : Hp} {a p : Addr} {xs : List V} (B : Box n H a) (e : H p = some (.tup xs)) : p ≠ a := fun z => by
  obtain ⟨b0, b1, b2, h, _⟩ := B
  rw [z, h] at e
  cases e
theorem drawn_cond {m dl pl p : Addr} {H : Hp} {b : Int} {ds ns : List Int} {ks : List (Addr × (Int × Int))} {k : Int} {σ : L2.St} {Q : Bool → Hp → Prop} (M : ModAt H m dl pl b ds ks) (hp : H p = some (.tup (ns.map V.int))) (v1 : σ[1]? = some (some (.ref m))) (v3 : σ[3]? = some (some (.ref p))) (v6 : σ[6]? = some (some (.int k))) (q : ∀ c H', Same H H' → Q c H') :
    tOr (tTest (tOp (rEqD K) (tVar 3) (tTup tNil))) (tTest (tOp (rNotInD K) (tTup (tCons (tOp (rIxT K) (tVar 3) (tUn (rU fun i => .int (-i)) (tC (.int 1)))) (tCons (tVar 6) tNil))) (tOp (rIxL K) (tVar 1) (tC (.int 2))))) σ H Q := by
  refine ⟨.ref p, v3, (by show 0 ≤ sizeLine; decide), fun t ht => ?_⟩
  have s1 := same_new (o := .tup []) ht
  refine ⟨.tuple (ns.map .int), .tuple (([] : List Int).map .int), .tup (SqT.of (s1 _ _ hp)) (dp_ints ns), .tup (SqT.of upd_same) .nil, ints_shapedT ns, ints_shapedT [], _, rfl, ?_⟩
  rw [show PyData.eqv (.tuple (ns.map PyData.int)) (.tuple (([] : List Int).map PyData.int)) = decide (ns = []) from eqv_nil ns]
  by_cases hn : ns = []
  · rw [decide_eq_true hn]
    exact iteT (q _ _ s1)
  · rw [decide_eq_false hn]
    refine iteF ?_
    obtain ⟨i, x, e⟩ := snoc_of hn
    refine ⟨.ref p, v3, 1, rfl, p, ns.map V.int, -1, .int x, rfl, rfl, SqT.of (s1 _ _ hp), by rw [e, List.map_append]; exact atI_last _ _, .int k, v6, (by show 2 ≤ sizeLine; decide), fun T hT => ?_⟩
    have s2 := same_new (o := .tup [.int x, .int k]) hT
    have M2 := M.same (s1.trans s2)
    exact ⟨.ref m, v1, m, _, 2, .ref pl, rfl, rfl, SqL.of M2.mo, atI_nat (j := 2) rfl, pd2 (x, k), (ks.map fun p => pd2 p.2), .tup (SqT.of upd_same) (.cons (.int x) (.cons (.int k) .nil)), .lst (SqL.of M2.pa) (bars_dp ks M2.pr), pd2_shaped _, bars_shapedL ks, _, rfl, q _ _ (s1.trans s2)⟩
set_option maxHeartbeats 2000000 in
theorem ok_drawn {f fT : Addr} {fd fdT : FuncData} (F : Fun K "_law_drawn" "_law_drawn" sDrawn f fd) (FT : Fun K "_law_take" "_law_take" sTake fT fdT) (gT : mg "_law_take" = some (.ref fT)) (bT : Binds K fdT ["_law_box_here", "_law_many"] [])
    (mi : mg "int" = none) (ml : mg "len" = none) (mr : mg "range" = none) : FnOk P w K mg base CX0 2 f fd ["_law_box_here", "_law_draft_here", "_law_size"] spDrawn := by
  have GT : FnOk P w K mg base CX0 1 fT fdT ["_law_box_here", "_law_many"] spTake := ok_take FT mi
  refine F.ok scDw (fun vs H Q E h => ?_) (fun cdv A outer s H vs Q E hr h => ?_)
  · obtain ⟨a, m, sz, n, b, ds, ps, rfl, _⟩ := h
    rfl
  · obtain ⟨a, m, sz, n, b, ds, ps, rfl, hB, hn, hs, G, Mm, q⟩ := h
    have hu65 : (A.deeper (envOfC "_law_drawn" (defScope sDrawn) s.heap.objs.size f cdv)).units + 65 < cLine := by
      have := hr.un
      omega
    apply Exists.intro
    apply And.intro
    · apply pss_cons
      · exact ps_set (i := 3) scDw.nd rfl (.inr rfl) (pe_tup pa_nil)
      apply pss_cons
      · exact ps_for PassesOwn.never rfl (pi_range1 rfl mr (pa_cons (pv 2) pa_nil)) (pg_name (i := 4) scDw.nd rfl (.inl rfl))
          (pss_cons (ps_setLc (i := 5) (own := [("_law_digit", 6)]) (g := gName 6) (tt := tOr (tTest (tOp (rEqD K) (tVar 3) (tTup tNil))) (tTest (tOp (rNotInD K) (tTup (tCons (tOp (rIxT K) (tVar 3) (tUn (rU fun i => .int (-i)) (tC (.int 1)))) (tCons (tVar 6) tNil))) (tOp (rIxL K) (tVar 1) (tC (.int 2)))))) (te := tVar 6) rfl scDw.nd rfl rfl (sw_true rfl rfl rfl (by decide +kernel)) (pi_list (pe_ix ix_list (pv 1) pe_int (fun _ _ => rfl)))
              (blkOk_by (own := [("_law_digit", 6)]) (N := nDw) (sc := defScope sDrawn) (by decide +kernel)) (fun _ _ _ _ _ => pg_name (i := 6) scDw.nd rfl (Or.inl rfl))
              (fun _ _ _ _ _ => by exact (pts_one (PW.pt (pw_or (pt_cmpR (op_eqD hr.units) (pv 3) (pe_tup pa_nil) (nomark _)) (pw_or1 (pt_cmpR (op_notInD hu65) (pe_tup (pa_cons (pe_ix ix_tup (pv 3) (pe_un un_neg pe_int) (fun _ _ => rfl)) (pa_cons (pv 6) pa_nil))) (pe_ix ix_list (pv 1) pe_int (fun _ _ => rfl)) rfl)))))) (fun _ _ _ _ _ => by exact (pv 6)))
          (pss_one (ps_if (pt_cmpR (op_neNil hr.units) (pv 5) (pe_lst pa_nil) (nomark _)) (pss_one (ps_set (i := 3) scDw.nd rfl (.inr rfl) (pe_op op_cat2 (pv 3) (pe_tup (pa_cons (pe_ix ix_list (pv 5) (pe_call GT hr (by rfl) gT FT.kp bT .nil pass0 (pa_cons (pv 0) (pa_cons (pe_callB call_len_seq (by rfl) ml PySem.boot_len (pa_cons (pv 5) pa_nil)) pa_nil))) (fun _ _ => rfl)) pa_nil))))) pss_nil)))
      apply pss_one
      · exact ps_ret (pv 3)
    obtain ⟨dl, pl, ks, rfl, MA⟩ := Mm
    have h6 := G.six
    refine ⟨(by show 0 ≤ sizeLine; decide), fun p0 hp0 => ?_⟩
    have n0 := hB.ne hp0
    have t0 : But a H (upd H p0 (.tup [])) := But.new hp0
    have B0 := hB.new (o := .tup []) hp0
    have e0 : (upd H p0 (.tup [])) p0 = some (.tup (([] : List Int).map V.int)) := upd_same
    generalize upd H p0 (.tup []) = H0 at t0 B0 e0 ⊢
    refine ⟨.int sz, rfl, sz, rfl, by omega, by omega, ?_⟩
    refine for_range (lo := 0) (n := sz) (fun i σ H' => ∃ (p : Addr) (ns : List Int) (v4 v5 v6 : Option V), σ = [some (.ref a), some (.ref m), some (.int sz), some (.ref p), v4, v5, v6] ∧ But a H H' ∧ Box (n + i) H' a ∧ H' p = some (.tup (ns.map V.int)) ∧ p ≠ a ∧ ns.length ≤ i ∧ ∀ k ∈ ns, k ∈ ds)
      ⟨p0, [], none, none, none, rfl, t0, B0.mono (by omega), e0, n0, Nat.le_refl _, fun k h => by cases h⟩ ?_ ?_
    · rintro i σ H1 hi ⟨p, ns, v4, v5, v6, rfl, t1, B1, e1, np, ln, mem⟩
      have M1 := MA H1 t1
      refine ⟨.ref m, rfl, m, _, 1, .ref dl, rfl, rfl, SqL.of M1.mo, atI_nat (j := 1) rfl, dl, rfl, ⟨_, SqL.of M1.di⟩, fun D hD => ?_⟩
      have nDa := B1.ne hD
      refine lc_list (K := K) (a := dl) (xs := ds.map V.int) (fun j H' => Same H1 H' ∧ ∃ ws : List Int, H' D = some (.lst (ws.map V.int)) ∧ ws.length ≤ j ∧ ∀ k ∈ ws, k ∈ ds) ⟨same_new hD, [], upd_same, Nat.le_refl _, fun k h => by cases h⟩ (fun i H' _ h => SqL.of (h.1 _ _ M1.di)) ?_ ?_
      · rintro j x H2 hj ⟨s2, ws, eD, lw, mw⟩
        obtain ⟨k, hk, rfl⟩ := get_map hj
        refine ⟨rfl, ?_⟩
        refine drawn_cond (M1.same s2) (s2 _ _ e1) rfl rfl rfl fun c H3 s3 => ?_
        have eD3 := s3 _ _ eD
        cases c with
        | false => exact iteF ⟨s2.trans s3, ws, eD3, Nat.le_succ_of_le lw, mw⟩
        | true =>
          refine iteT ⟨.int k, rfl, _, eD3, ?_, Same.store (s2.trans s3) hD, ws ++ [k], ?_, ?_, fun z hz => ?_⟩
          · rw [List.length_map]
            have := (List.getElem?_eq_some_iff.mp hk).1
            exact small1000 (by omega)
          · rw [upd_same, List.map_append]
            rfl
          · rw [List.length_append]
            exact Nat.succ_le_succ lw
          · rcases List.mem_append.mp hz with h | h
            · exact mw z h
            · rw [List.mem_singleton.mp h]
              exact List.mem_of_getElem? hk
      · rintro H2 ⟨s2, ws, eD, lw, mw⟩
        rw [List.length_map] at lw
        have t2 := t1.trans (But.of_same s2)
        have B2 := B1.same s2
        have e2 := s2 _ _ e1
        refine ⟨.ref D, rfl, (by show 0 ≤ sizeLine; decide), fun g hg => ?_⟩
        have s3 := same_new (o := .lst []) hg
        have t3 := t2.trans (But.of_same s3)
        have B3 := B2.same s3
        have eD3 := s3 _ _ eD
        have e3 := s3 _ _ e2
        refine ⟨D, g, _, rfl, rfl, SqL.of eD3, SqL.of upd_same, _, rfl, ?_⟩
        generalize upd H2 g (.lst []) = H3 at t3 B3 eD3 e3 ⊢
        rw [List.isEmpty_map]
        by_cases hw : ws = []
        · refine iteFB (by rw [hw]; rfl) ⟨p, ns, _, _, _, rfl, t3, B3.mono (by omega), e3, np, Nat.le_succ_of_le ln, mem⟩
        · have lw1 : 1 ≤ ws.length := by
            cases ws with
            | nil => exact absurd rfl hw
            | cons x l => rw [List.length_cons]; omega
          refine iteTB (by cases ws with | nil => exact absurd rfl hw | cons x l => rfl) ?_
          refine ⟨.ref p, rfl, .ref D, rfl, .ref a, rfl, .ref D, rfl, D, _, rfl, .inl (SqL.of eD3), a, _, _, rfl, B3, by omega, by rw [List.length_map]; omega, by rw [List.length_map]; exact Nat.lt_of_le_of_lt (by omega : ((ws.length : Int)).natAbs ≤ 6) (by decide), fun r H4 r0 r1 t4 B4 => ?_⟩
          obtain ⟨v, hv, mv⟩ := pick (xs := ws.map V.int) r0 r1
          obtain ⟨k, hk, rfl⟩ := List.mem_map.mp mv
          refine ⟨D, _, r, .int k, rfl, rfl, SqL.of (t4 _ _ nDa eD3), hv, (by show 1 ≤ sizeLine; decide), fun T hT => ?_⟩
          have t5 := (t3.trans t4).trans (But.new (o := .tup [.int k]) hT)
          have B5 := B4.new (o := .tup [.int k]) hT
          have e5 := same_new (o := .tup [.int k]) hT _ _ (t4 _ _ np e3)
          refine ⟨p, T, _, _, rfl, rfl, e5, upd_same, (by rw [List.length_map, sizeLine_eq]; show ns.length + 1 ≤ _; omega), fun p2 H6 s6 e6 => ?_⟩
          have n2 : p2 ≠ a := (box_ne_tup (B5.same s6) e6)
          refine ⟨p2, ns ++ [k], _, _, _, rfl, t5.trans (But.of_same s6), (B5.same s6).mono (by omega), by rw [e6, List.map_append]; rfl, n2, by rw [List.length_append]; exact Nat.succ_le_succ ln, fun z hz => ?_⟩
          rcases List.mem_append.mp hz with h | h
          · exact mem z h
          · rw [List.mem_singleton.mp h]
            exact mw k hk
    · rintro σ H1 ⟨p, ns, v4, v5, v6, rfl, t1, B1, e1, np, ln, mem⟩
      exact ⟨_, rfl, q p ns H1 t1 B1 e1 np ln mem⟩
end
end K66
namespace K66
open PySem PySem.Spec PyProof.Rows L2 OF
section
variable {P : Program} {w : World} {K : PySem.W.Frag} {mg : Str → Option Value} {base : Heap}
/-! ### what is due -/
/-- 0: the front is no row; 1: the ring is not; 2: both are right -/
def dueK (ds : List Int) (ps : List (Int × Int)) (fs rs : List Int) : Nat := if rowP ds ps fs = false then 0 else if rowP ds ps rs = false ∨ rs = [] ∨ rowP ds ps (fs ++ rs ++ rs) = false then 1 else 2
def dueL (k : Nat) (p q : Addr) : List V := match k with
  | 0 => [.str "row", .ref p]
  | 1 => [.str "row", .ref q]
  | _ => [.str "told"]
theorem due0 {ds : List Int} {ps : List (Int × Int)} {fs rs : List Int} (h : rowP ds ps fs = false) : dueK ds ps fs rs = 0 := if_pos h
theorem due1 {ds : List Int} {ps : List (Int × Int)} {fs rs : List Int} (h0 : rowP ds ps fs = true) (h : rowP ds ps rs = false ∨ rs = [] ∨ rowP ds ps (fs ++ rs ++ rs) = false) : dueK ds ps fs rs = 1 := by
  unfold dueK
  rw [if_neg (by rw [h0]; exact fun z => nomatch z), if_pos h]
theorem due2 {ds : List Int} {ps : List (Int × Int)} {fs rs : List Int} (h0 : rowP ds ps fs = true) (h1 : rowP ds ps rs = true) (h2 : rs ≠ []) (h3 : rowP ds ps (fs ++ rs ++ rs) = true) : dueK ds ps fs rs = 2 := by
  unfold dueK
  rw [if_neg (by rw [h0]; exact fun z => nomatch z), if_neg]
  rintro (h | h | h)
  · rw [h1] at h
    cases h
  · exact h2 h
  · rw [h3] at h
    cases h
def spDue : Sp := fun vs H Q _ => ∃ (m dl pl p q : Addr) (b : Int) (ds : List Int) (ks : List (Addr × (Int × Int))) (fs rs : List Int), vs = [.ref m, .ref p, .ref q] ∧ ModAt H m dl pl b ds ks ∧ H p = some (.tup (fs.map V.int)) ∧ H q = some (.tup (rs.map V.int)) ∧ fs.length ≤ 450 ∧ rs.length ≤ 60 ∧
  ∀ l H', Same H H' → H' l = some (.lst (dueL (dueK ds (ks.map (·.2)) fs rs) p q)) → Q (.ref l) H'
theorem scDu : FnScope ["_law_draft_here", "_law_front", "_law_ring"] ["_law_draft_here", "_law_front", "_law_ring"] (defScope sDue) := ⟨rfl, rfl, rfl, by decide +kernel, rfl, by decide +kernel, by decide +kernel⟩
set_option maxHeartbeats 1000000 in
theorem ok_due {f fR : Addr} {fd fdR : FuncData} (F : Fun K "_law_due" "_law_due" sDue f fd) (GR : FnOk P w K mg base CX0 1 fR fdR ["_law_draft_here", "_law_row"] spIsRow) (gR : mg "_law_is_row" = some (.ref fR)) (kR : PySem.W.keepIn K (.ref fR) = true) (bR : Binds K fdR ["_law_draft_here", "_law_row"] []) :
    FnOk P w K mg base CX0 2 f fd ["_law_draft_here", "_law_front", "_law_ring"] spDue := by
  refine F.ok scDu (fun vs H Q E h => ?_) (fun cdv A outer s H vs Q E hr h => ?_)
  · obtain ⟨m, dl, pl, p, q, b, ds, ks, fs, rs, rfl, _⟩ := h
    rfl
  · obtain ⟨m, dl, pl, p, q0, b, ds, ks, fs, rs, rfl, M, hp, hq, lf, lr, q⟩ := h
    apply Exists.intro
    apply And.intro
    · apply pss_cons
      · exact ps_if (pt_not (pt_val (pe_call GR hr (by rfl) gR kR bR .nil pass0 (pa_cons (pv 0) (pa_cons (pv 1) pa_nil))))) (pss_one (ps_ret (pe_lst (pa_cons pe_str (pa_cons (pv 1) pa_nil))))) pss_nil
      apply pss_cons
      · exact ps_if (PW.pt (pw_or (pt_not (pt_val (pe_call GR hr (by rfl) gR kR bR .nil pass0 (pa_cons (pv 0) (pa_cons (pv 2) pa_nil))))) (pw_or (pt_cmpR (op_eqD hr.units) (pv 2) (pe_tup pa_nil) (nomark _)) (pw_or1 (pt_not (pt_val (pe_call GR hr (by rfl) gR kR bR .nil pass0 (pa_cons (pv 0) (pa_cons (pe_op op_cat2 (pe_op op_cat2 (pv 1) (pv 2)) (pv 2)) pa_nil))))))))) (pss_one (ps_ret (pe_lst (pa_cons pe_str (pa_cons (pv 2) pa_nil))))) pss_nil
      apply pss_one
      · exact ps_ret (pe_lst (pa_cons pe_str pa_nil))
    refine ⟨.ref m, rfl, .ref p, rfl, m, dl, pl, p, b, ds, ks, fs, rfl, M, hp, by omega, fun H1 s1 => ⟨_, rfl, ?_⟩⟩
    cases hf : rowP ds (ks.map (·.2)) fs with
    | false =>
      refine iteT ⟨.ref p, rfl, (by show 2 ≤ sizeLine; decide), fun l hl => q l _ (Same.store s1 (s1.free hl)) ?_⟩
      rw [due0 hf]
      exact upd_same
    | true =>
      refine iteF ?_
      have bad : ∀ {H2 : Hp}, Same H H2 → (rowP ds (ks.map (·.2)) rs = false ∨ rs = [] ∨ rowP ds (ks.map (·.2)) (fs ++ rs ++ rs) = false) → ∀ l, H2 l = none → Q (.ref l) (upd H2 l (.lst [.str "row", .ref q0])) := fun {H2} s2 h l hl => by
        refine q l _ (Same.store s2 (s2.free hl)) ?_
        rw [due1 hf h]
        exact upd_same
      refine ⟨.ref m, rfl, .ref q0, rfl, m, dl, pl, q0, b, ds, ks, rs, rfl, M.same s1, s1 _ _ hq, by omega, fun H2 s2 => ⟨_, rfl, ?_⟩⟩
      have s12 := s1.trans s2
      cases hr2 : rowP ds (ks.map (·.2)) rs with
      | false => exact iteT ⟨.ref q0, rfl, (by show 2 ≤ sizeLine; decide), bad s12 (.inl hr2)⟩
      | true =>
        refine iteF ?_
        refine ⟨.ref q0, rfl, (by show 0 ≤ sizeLine; decide), fun t ht => ?_⟩
        have s3 := s12.trans (same_new (o := .tup []) ht)
        refine ⟨.tuple (rs.map .int), .tuple (([] : List Int).map .int), .tup (SqT.of (s3 _ _ hq)) (dp_ints rs), .tup (SqT.of upd_same) .nil, ints_shapedT rs, ints_shapedT [], _, rfl, ?_⟩
        rw [show PyData.eqv (.tuple (rs.map PyData.int)) (.tuple (([] : List Int).map PyData.int)) = decide (rs = []) from eqv_nil rs]
        generalize upd H2 t (.tup []) = H3 at s3 ⊢
        by_cases hn : rs = []
        · exact iteTB (decide_eq_true hn) ⟨.ref q0, rfl, (by show 2 ≤ sizeLine; decide), bad s3 (.inr (.inl hn))⟩
        refine iteFB (decide_eq_false hn) ?_
        refine ⟨.ref m, rfl, .ref p, rfl, .ref q0, rfl, p, q0, _, _, rfl, rfl, s3 _ _ hp, s3 _ _ hq, (by rw [List.length_map, List.length_map, sizeLine_eq]; omega), fun c1 H4 s4 e4 => ?_⟩
        have s14 := s3.trans s4
        refine ⟨.ref q0, rfl, c1, q0, _, _, rfl, rfl, e4, s14 _ _ hq, (by rw [List.length_append, List.length_map, List.length_map, sizeLine_eq]; omega), fun c2 H5 s5 e5 => ?_⟩
        have s15 := s14.trans s5
        rw [← List.map_append, ← List.map_append] at e5
        refine ⟨m, dl, pl, c2, b, ds, ks, fs ++ rs ++ rs, rfl, M.same s15, e5, by rw [List.length_append, List.length_append]; omega, fun H6 s6 => ⟨_, rfl, ?_⟩⟩
        have s16 := s15.trans s6
        cases hc : rowP ds (ks.map (·.2)) (fs ++ rs ++ rs) with
        | false => exact iteT ⟨.ref q0, rfl, (by show 2 ≤ sizeLine; decide), bad s16 (.inr (.inr hc))⟩
        | true =>
          refine iteF ⟨(by show 1 ≤ sizeLine; decide), fun l hl => q l _ (Same.store s16 (s16.free hl)) ?_⟩
          rw [due2 hf hr2 hn hc]
          exact upd_same
end
end K66
namespace K66
open PySem PySem.Spec PyProof.Rows L2 OF
section
variable {P : Program} {w : World} {K : PySem.W.Frag} {mg : Str → Option Value} {base : Heap}
/-! ### what fraction_of tells -/
def spRefused (C : Addr) : Sp := fun vs H Q _ => ∃ x y z : V, vs = [x, y, z] ∧ ((ItemOk H x ∧ ∀ l H', Same H H' → H' l = some (.lst [.str "scheme", x]) → Q (.ref l) H') ∨ ∃ (o : Addr) (b : Int) (ds : List Int) (ps : List (Int × Int)), x = .ref o ∧ IsS C H o b ds ps ∧
  ((NoRow H ds ps y ∧ ∀ l H', Same H H' → H' l = some (.lst [.str "row", y]) → Q (.ref l) H') ∨ ∃ (p : Addr) (fs : List Int), y = .ref p ∧ H p = some (.tup (fs.map V.int)) ∧ fs.length ≤ 450 ∧ rowP ds ps fs = true ∧
    ((NoRow H ds ps z ∧ ∀ l H', Same H H' → H' l = some (.lst [.str "row", z]) → Q (.ref l) H') ∨ ∃ (q : Addr) (rs : List Int), z = .ref q ∧ H q = some (.tup (rs.map V.int)) ∧ rs.length ≤ 60 ∧ rowP ds ps rs = true ∧
      (((rs = [] ∨ rowP ds ps (fs ++ rs ++ rs) = false) ∧ ∀ l H', Same H H' → H' l = some (.lst [.str "row", z]) → Q (.ref l) H') ∨ (rs ≠ [] ∧ rowP ds ps (fs ++ rs ++ rs) = true ∧ ∀ l H', Same H H' → H' l = some (.lst [.str "told"]) → Q (.ref l) H')))))
theorem scRe : FnScope ["_law_one", "_law_two", "_law_three", "e"] ["_law_one", "_law_two", "_law_three"] (defScope sRefused) := ⟨rfl, rfl, rfl, by decide +kernel, rfl, by decide +kernel, by decide +kernel⟩
def t_e (w f : Str) (C : Addr) : Addr → Value → Option Addr → TS := fun a cls d => tRet (tLst (tCons (tC (.str w)) (tCons (tXf a cls d C f (tVar 3)) tNil)))
abbrev refC (CN CR : Addr) : Clauses := [(.ref CN, 3, t_e "scheme" "value" CN), (.ref CR, 3, t_e "row" "row" CR)]
def t_ref (C CN CR : Addr) (W : WX) : TS := tDrop (tCallS (spFrac C CN CR) (WE W) (tCons (tVar 0) (tCons (tVar 1) (tCons (tVar 2) tNil))))
theorem ok_refused {f fF fI1 fI2 C CN CR : Addr} {fd fdF : FuncData} (F : Fun K "_law_refused" "_law_refused" sRefused f fd)
    (GF : FnOk P w K mg base (L2.CX P w) 8 fF fdF ["scheme", "front", "ring"] (spFrac C CN CR)) (gF : mg "fraction_of" = some (.ref fF)) (kF : PySem.W.keepIn K (.ref fF) = true) (bF : Binds K fdF ["scheme", "front", "ring"] [])
    (T1 : ErrC K mg "NotScheme" "value" CN fI1) (T2 : ErrC K mg "InvalidRow" "row" CR fI2) (ap : PySem.W.exmOne K (.ref CR) (.ref CN) = some false) :
    FnOk P w K mg base CX0 9 f fd ["_law_one", "_law_two", "_law_three"] (spRefused C) := by
  refine F.ok scRe (fun vs H Q E h => ?_) (fun cdv A outer s H vs Q E hr h => ⟨tSeq (fun D σ H => t_ref C CN CR (wManyA K (fun _ _ _ _ => False) D (refC CN CR)) D σ H) (tRet (tLst (tCons (tC (.str "told")) tNil))), ?_, ?_⟩)
  · obtain ⟨x, y, z, rfl, _⟩ := h
    rfl
  · exact pss_cons (ps_try_manyA (l := refC CN CR) (tb := t_ref C CN CR) (Wout := fun _ _ _ _ => False) rfl rfl scRe.nd takes0
      (fun W pn xe tk _ => pss_one (ps_expr (by exact (pe_callS GF hr (by rfl) gF kF bF (fun σ => passAt tk σ) (by exact (pa_cons (pv 0) (pa_cons (pv 1) (pa_cons (pv 2) pa_nil))))))))
      (.cons ⟨rfl, by decide, Or.inl T1.g⟩ rfl rfl (fun a oe cls d pn hz hf => pss_one (ps_ret (by exact (pe_lst (pa_cons pe_str (pa_cons (pe_xf T1.xf T1.no hz hf (pv 3)) pa_nil))))))
      (.cons ⟨rfl, by decide, Or.inl T2.g⟩ rfl rfl (fun a oe cls d pn hz hf => pss_one (ps_ret (by exact (pe_lst (pa_cons pe_str (pa_cons (pe_xf T2.xf T2.no hz hf (pv 3)) pa_nil)))))) .nil)))
      (pss_one (ps_ret (pe_lst (pa_cons pe_str pa_nil))))
  · obtain ⟨x, y, z, rfl, h⟩ := h
    have first : ∀ {D : Ends} {v : V}, D.rt = Q → (∀ l H', Same H H' → H' l = some (.lst [.str "scheme", v]) → Q (.ref l) H') → Raised CN "value" v H
        (WE (wManyA K (fun _ _ _ _ => False) D (refC CN CR)) (L2.start ["_law_one", "_law_two", "_law_three", "e"] [x, y, z])) := fun {D v} hD hq fs d H' hd s1 ed =>
      ⟨true, T1.te, fun _ a ha => ⟨.ref a, rfl, rfl, rfl, d, _, v, rfl, ed, by simp [List.lookup], (by show 2 ≤ sizeLine; decide), fun l hl => (by have z := hq l _ (Same.store s1 (s1.free hl)) upd_same; rw [← hD] at z; exact z)⟩, fun q => nomatch q⟩
    have second : ∀ {D : Ends} {v : V}, D.rt = Q → (∀ l H', Same H H' → H' l = some (.lst [.str "row", v]) → Q (.ref l) H') → Raised CR "row" v H
        (WE (wManyA K (fun _ _ _ _ => False) D (refC CN CR)) (L2.start ["_law_one", "_law_two", "_law_three", "e"] [x, y, z])) := fun {D v} hD hq fs d H' hd s1 ed =>
      ⟨false, ap, (fun q => nomatch q), fun _ => ⟨true, T2.te, fun _ a ha => ⟨.ref a, rfl, rfl, rfl, d, _, v, rfl, ed, by simp [List.lookup], (by show 2 ≤ sizeLine; decide), fun l hl => (by have z := hq l _ (Same.store s1 (s1.free hl)) upd_same; rw [← hD] at z; exact z)⟩, fun q => nomatch q⟩⟩
    refine ⟨x, rfl, y, rfl, z, rfl, x, y, z, rfl, ?_⟩
    rcases h with ⟨o, q⟩ | ⟨o, b, ds, ps, rfl, IS, h⟩
    · exact .inl ⟨o, first rfl q⟩
    refine .inr ⟨o, b, ds, ps, rfl, IS, ?_⟩
    rcases h with ⟨nr, q⟩ | ⟨p, fs, rfl, hp, lf, rf, h⟩
    · exact .inl ⟨nr, second rfl q⟩
    refine .inr ⟨p, fs, rfl, hp, lf, rf, ?_⟩
    rcases h with ⟨nr, q⟩ | ⟨q0, rs, rfl, hq, lr, rr, h⟩
    · exact .inl ⟨nr, second rfl q⟩
    refine .inr ⟨q0, rs, rfl, hq, lr, rr, ?_⟩
    rcases h with ⟨bad, q⟩ | ⟨n, ok, q⟩
    · exact .inl ⟨bad, second rfl q⟩
    · exact .inr ⟨n, ok, fun t H1 s1 et => ⟨(by show 1 ≤ sizeLine; decide), fun l hl => q l _ (Same.store s1 (s1.free hl)) upd_same⟩⟩
end
end K66
/-! A list within what is shown, of items that are shown. -/
namespace OF
open PySem PySem.Spec PyProof.Rows L2
section
variable {X : Cx} {H : Hp}
theorem Rp.lst {a : Addr} {xs : List V} {ds : List PyData} (h : SqL X.K H a xs) (ha : RpAll X H xs ds) : Rp X H (.ref a) (.list ds) := fun pins σ s u I r => by
  cases r
  obtain ⟨its, rv, ⟨o, n, ho, hc, _, hd⟩, _⟩ := I.list h
  obtain ⟨⟨as, q⟩, bs, m, k⟩ := ha.reads I rv
  have R : Reads s.heap (.ref a) (.list ds) (a :: as) := .list ho hc hd q
  have out : a ∉ bs := not_mem_of_deeper R (by simp only [PyData.depth]; omega) m
  refine ⟨⟨_, R⟩, a :: bs, ReadAtMost.cons R (by simp only [PyData.depth]; omega) m, ?_⟩
  simp only [PyData.depth, PyData.shown]
  cases its with
  | nil =>
    cases q
    simp only [PyData.shownAll, listText_nil]
    exact ReprK.listEmpty ho hc hd
  | cons x l => exact ReprK.list ho hc hd out (by simpa using k.length_eq) (fun i y z => k.item i y (by simpa using z))
end
end OF
/-! A dict is equal to no int; an int sought among items of any kind. -/
namespace OF
open PySem PySem.Spec PyProof.Rows L2 PySem.SeqAt
open MeetsSeq AutoSeq1
theorem int_no_dict (b : Int) (u : Tok) (l : Addr) (es : Array DictEntry) (ep : Nat) (dd : Option Addr) (sl : Array (Option Value)) :
    Meets (Builtin.«int.__eq__» ⟨[.int b u, .ref l], []⟩) (fun _ R s => s.heap.get? l = some { cls := .type "dict", dict := dd, data := .dict es ep, slots := sl } ∧ R (.ok (.ret .notImplemented)) s) := by
  refine .of_wp fun prog w A R s h => ?_
  obtain ⟨hp, g, d, tk, os⟩ := s
  obtain ⟨at_, z⟩ := h
  wp_walk using wpAny_loadPart' at_, wpAny_load at_
  exact ⟨_, rfl, z⟩
section
variable {A : Around} {s : Shared}
theorem dict_eq_int {a : Addr} {o : Obj} (ho : s.heap.get? a = some o) (hc : o.cls = .type "dict") {es : Array DictEntry} {ep : Nat} (hd : o.data = .dict es ep) (b : Int) (u : Tok) (hu : A.units < cLine) : EqAt A s (.ref a) (.int b u) false := fun prog w E Q h => by
  obtain ⟨cls, dd, data, sl⟩ := o
  simp only at hc hd
  subst hc hd
  have ty : s.TypeIs (.ref a) "dict" := ⟨_, ho, rfl⟩
  unfold eqBool
  refine wpAny_holding ?_
  refine wpAny_ite_split (fun same => absurd (eq_of_beq same) nofun) (fun _ => ?_)
  refine wpAny_bind ?_
  refine rc_eq_decline_or (k := false) ty (typeIs_int s b u) (by decide) F.sub_int_dict F.slot_dict_eq F.slot_int_eq_refl ?left ?right (fun _ hq => wpAny_of_eq (rfl : isSame (.ref a) (.int b u) = pure false) hq) (.inr hu) (wpAny_truthy_bool h)
  case right =>
    intro Q' hq
    exact call_meets F.slot_int_eq_refl (typeIs_int s b u) F.entry_int_eq (F.args_int_eq_2 _ _) (int_no_dict b u a es ep dd sl) ⟨ho, hq⟩
  case left =>
    intro Q' hq
    refine wpAny_call_entry F.slot_dict_eq ty F.entry_dict_eq ?_ (F.args_dict_eq_2 _ _)
    show wpAny _ _ (Builtin.Dict.dictSlotArgs "__eq__" ⟨[.ref a, .int b u], []⟩ >>= _) _ _ s
    apply wpAny_bind
    unfold Builtin.Dict.dictSlotArgs
    refine wpAny_bind (wpAny_notOrdered_dict ty ?_)
    show wpAny _ _ (pure (Value.ref a, Value.int b u)) _ _ s
    apply wpAny_pure
    refine wpAny_bind (wpAny_isInstance (typeIs_int s b u) F.sub_int_dict ?_)
    simp only [Bool.not_false, if_true]
    exact wpAny_bind (wpAny_rule (wpAny_pure ⟨_, rfl, hq⟩))
end
section
variable {X : Cx}
/-- an int among items: ints, None, truths, texts, lists, tuples, dicts -/
inductive Kind (K : PySem.W.Frag) (H : Hp) : V → Prop
  | flat {x : V} (h : flatV x = true) : Kind K H x
  | lst {a : Addr} {xs : List V} (e : H a = some (.lst xs)) : Kind K H (.ref a)
  | tup {a : Addr} {xs : List V} (e : H a = some (.tup xs)) : Kind K H (.ref a)
  | dK {a : Addr} {kvs : List (Key × V)} (e : H a = some (.dK kvs)) : Kind K H (.ref a)
theorem odd_kind {K : PySem.W.Frag} {H : Hp} {x : V} (h : Odd H x) : Kind K H x := by
  cases h with
  | non => exact .flat rfl
  | bl b => exact .flat rfl
  | str z => exact .flat rfl
  | lst e => exact .lst e
  | tup e => exact .tup e
  | dK e => exact .dK e
theorem kind_eqAt {pins : List (Addr × Obj)} {σ : L2.St} {H : Hp} {s : Shared} (I : Inv X pins σ H s) (hu : X.A.units + 64 < cLine) {y : V} {u : Value} (r : RelV y u) (k : Kind X.K H y) (n : Int) (t : Tok) : EqAt X.A.in1 s u (.int n t) (eqV y (.int n)) := by
  have hu1 : X.A.in1.units < cLine := by
    show X.A.units + _ < cLine
    omega
  cases k with
  | flat h => exact eqAt_V (x := .int n) r ⟨t, rfl⟩ h rfl
  | lst e =>
    cases r
    obtain ⟨its, _, l, _⟩ := I.list (SqL.of e)
    exact EqAt.list_int n t l.isList hu1
  | tup e =>
    cases r
    obtain ⟨its, _, l, _⟩ := I.tuple (SqT.of e)
    exact EqAt.tuple_int n t l hu1
  | dK e =>
    cases r
    obtain ⟨_, hm, vs, rel, o, es, ep, ho, hx, hd, _⟩ := dk_of I.hok e
    exact dict_eq_int ho hx.1 hd n t hu1
def rNotInK (K : PySem.W.Frag) : R2 := fun x y H Q => ∃ (n : Int) (p : Addr) (xs : List V), x = .int n ∧ y = .ref p ∧ SqL K H p xs ∧ (∀ v ∈ xs, Kind K H v) ∧ Q (.bl (!inV (.int n) xs)) H
/-- what an item's own answer is -/
def eqN (n : Int) : Value → Bool
  | .none => false
  | .bool b => eqV (.bl b) (.int n)
  | .int i _ => eqV (.int i) (.int n)
  | _ => false
theorem eqN_of {K : PySem.W.Frag} {H : Hp} {n : Int} {y : V} {u : Value} (r : RelV y u) (k : Kind K H y) : eqN n u = eqV y (.int n) := by
  cases k with
  | flat h =>
    cases y with
    | non => cases r; rfl
    | bl b => cases r; rfl
    | int i => obtain ⟨t, rfl⟩ := r; rfl
    | str z => obtain ⟨t, rfl⟩ := r; rfl
    | _ => exact absurd (show false = true from h) Bool.false_ne_true
  | lst e => cases r; rfl
  | tup e => cases r; rfl
  | dK e => cases r; rfl
theorem any_eqN {K : PySem.W.Frag} {H : Hp} {n : Int} : ∀ {xs : List V} {us : List Value}, Vals xs us → (∀ v ∈ xs, Kind K H v) → us.any (eqN n) = inV (.int n) xs
  | _, _, .nil, _ => rfl
  | y :: xs, u :: us, .cons r t, k => by
    have ih := any_eqN (n := n) t fun v hv => k v (List.mem_cons_of_mem _ hv)
    unfold inV at ih ⊢
    rw [List.any_cons, List.any_cons, eqN_of r (k y List.mem_cons_self), ih]
theorem mem_eqN {pins : List (Addr × Obj)} {σ : L2.St} {H : Hp} {s : Shared} (I : Inv X pins σ H s) (hu : X.A.units + 64 < cLine) (n : Int) (t : Tok) : ∀ {xs : List V} {us : List Value}, Vals xs us → (∀ v ∈ xs, Kind X.K H v) → ∀ u ∈ us, EqAt X.A.in1 s u (.int n t) (eqN n u)
  | _, _, .nil, _ => fun u hu2 => by cases hu2
  | y :: xs, u :: us, .cons r tl, k => fun u' hu' => by
    rcases List.mem_cons.mp hu' with rfl | h
    · rw [eqN_of r (k y List.mem_cons_self)]
      exact kind_eqAt I hu r (k y List.mem_cons_self) n t
    · exact mem_eqN I hu n t tl (fun v hv => k v (List.mem_cons_of_mem _ hv)) u' h
theorem op_notInK (hu : X.A.units + 64 < cLine) : OpR X (compareOp .NotIn) (rNotInK X.K) := by
  intro pins s σ H x y v u Q I rx ry h
  obtain ⟨n, p, xs, rfl, rfl, hp, k, q⟩ := h
  obtain ⟨t, rfl⟩ := rx
  cases ry
  obtain ⟨its, r, pl, _⟩ := I.list hp
  refine notIn_listAt (eqN n) pl.isList (fun w hw => mem_eqN I hu n t r k w (by simpa using hw)) ⟨.bl _, H, I, rfl, ?_⟩
  rw [show its.toArray.any (eqN n) = its.any (eqN n) by simp, any_eqN r k]
  exact q
end
end OF
namespace K66
open PySem PySem.Spec PyProof.Rows L2 OF
/-! ### how values are shown -/
def smI (n : Int) : Bool := decide (-10 ≤ n) && decide (n ≤ 10)
theorem smI_of {n : Int} (h : -10 ≤ n) (h2 : n ≤ 10) : smI n = true := by
  unfold smI
  rw [decide_eq_true h, decide_eq_true h2]
  rfl
theorem dig_sm {n : Int} (h : dig n = true) : smI n = true := by
  unfold dig at h
  simp only [Bool.and_eq_true, decide_eq_true_eq] at h
  exact smI_of (by omega) (by omega)
def okInt (n : Int) : Bool := PyData.showable (.int n) && (PyData.leavesShort 60 (.int n) && decide (PyData.weight (.int n) ≤ 4))
theorem okInt_sm {n : Int} (h : smI n = true) : okInt n = true := by
  unfold smI at h
  simp only [Bool.and_eq_true, decide_eq_true_eq] at h
  have all : ∀ k : Nat, k < 21 → okInt ((-10 : Int) + (k : Int)) = true := by decide +kernel
  have z := all (n + 10).toNat (by omega)
  have e : (-10 : Int) + (((n + 10).toNat : Nat) : Int) = n := by omega
  rw [e] at z
  exact z
def smS (z : Str) : Bool := PyData.showable (.str z) && (PyData.leavesShort 60 (.str z) && decide (PyData.weight (.str z) ≤ 8))
def LstAt (H : Hp) (a : Addr) : Prop := ∃ xs, H a = some (.lst xs)
theorem box_lst {n : Int} {H : Hp} {a : Addr} (h : Box n H a) : LstAt H a := by
  obtain ⟨b0, b1, b2, h1, _⟩ := h
  exact ⟨_, h1⟩
theorem LstAt.ne {H : Hp} {a p : Addr} {o : HO} (h : LstAt H a) (e : H p = some o) (n : ∀ xs, o ≠ .lst xs) : p ≠ a := fun z => by
  obtain ⟨xs, i⟩ := h
  rw [z, i] at e
  exact n _ (Option.some.inj e).symm
section
variable {X : Cx}
/-- v is shown as d, wherever but the box may change; its depth, its weight -/
structure Shn (X : Cx) (a : Addr) (H : Hp) (v : V) (d : PyData) (dp wt : Nat) : Prop where
  rp : ∀ H', But a H H' → Rp X H' v d
  dp : d.depth ≤ dp
  lv : d.leavesShort 60 = true
  wt : d.weight ≤ wt
theorem Shn.but {a : Addr} {H H' : Hp} {v : V} {d : PyData} {dp wt : Nat} (h : Shn X a H v d dp wt) (t : But a H H') : Shn X a H' v d dp wt := ⟨fun H2 t2 => h.rp H2 (t.trans t2), h.dp, h.lv, h.wt⟩
theorem Shn.mono {a : Addr} {H : Hp} {v : V} {d : PyData} {dp wt dp2 wt2 : Nat} (h : Shn X a H v d dp wt) (h1 : dp ≤ dp2) (h2 : wt ≤ wt2) : Shn X a H v d dp2 wt2 := ⟨h.rp, Nat.le_trans h.dp h1, h.lv, Nat.le_trans h.wt h2⟩
theorem shn_plain {a : Addr} {H : Hp} {v : V} {d : PyData} (h : ∀ H', Dp X.K H' v d) (hs : d.showable = true) (hn : d.hasDict = false) (dp : d.depth = 0) (lv : d.leavesShort 60 = true) (wt : d.weight ≤ 9) : Shn X a H v d 0 9 := by
  refine ⟨fun H' _ => Rp.dp (h H') hs hn ?_, Nat.le_of_eq dp, lv, wt⟩
  have := PyData.shown_le 60 (by decide) d lv
  rw [sizeLine_eq]
  omega
/-- all are shown -/
inductive ShnAll (X : Cx) (a : Addr) (H : Hp) (dp wt : Nat) : List V → List PyData → Prop
  | nil : ShnAll X a H dp wt [] []
  | cons {v : V} {d : PyData} {vs : List V} {ds : List PyData} : Shn X a H v d dp wt → ShnAll X a H dp wt vs ds → ShnAll X a H dp wt (v :: vs) (d :: ds)
theorem ShnAll.rp {a : Addr} {H H' : Hp} {dp wt : Nat} {vs : List V} {ds : List PyData} (h : ShnAll X a H dp wt vs ds) (t : But a H H') : RpAll X H' vs ds := by
  induction h with
  | nil => exact .nil
  | cons h1 _ ih => exact .cons (h1.rp _ t) ih
theorem ShnAll.bounds {a : Addr} {H : Hp} {dp wt : Nat} {vs : List V} {ds : List PyData} (h : ShnAll X a H dp wt vs ds) : PyData.depthAll ds ≤ dp ∧ PyData.leavesShortAll 60 ds = true ∧ PyData.weightAll ds ≤ (wt + 1) * vs.length := by
  induction h with
  | nil => exact ⟨Nat.zero_le _, rfl, Nat.zero_le _⟩
  | @cons v d vs ds h1 _ ih =>
    obtain ⟨i1, i2, i3⟩ := ih
    refine ⟨?_, ?_, ?_⟩
    · rw [PyData.depthAll]
      exact Nat.max_le.mpr ⟨h1.dp, i1⟩
    · rw [PyData.leavesShortAll, h1.lv, i2]
      rfl
    · rw [PyData.weightAll, List.length_cons, Nat.mul_succ]
      have := h1.wt
      omega
theorem shn_all {a : Addr} {H : Hp} {dp wt : Nat} : ∀ {vs : List V}, (∀ v ∈ vs, ∃ d, Shn X a H v d dp wt) → ∃ ds, ShnAll X a H dp wt vs ds
  | [], _ => ⟨[], .nil⟩
  | v :: vs, h => by
    obtain ⟨d, hd⟩ := h v List.mem_cons_self
    obtain ⟨ds, hds⟩ := shn_all fun u hu => h u (List.mem_cons_of_mem _ hu)
    exact ⟨d :: ds, .cons hd hds⟩
theorem shn_lst {a p : Addr} {H : Hp} {xs : List V} {dp wt wt2 : Nat} (ne : p ≠ a) (e : H p = some (.lst xs)) (h : ∀ v ∈ xs, ∃ d, Shn X a H v d dp wt) (hw : (wt + 1) * xs.length + 2 ≤ wt2) : ∃ d, Shn X a H (.ref p) d (dp + 1) wt2 := by
  obtain ⟨ds, hds⟩ := shn_all h
  obtain ⟨b1, b2, b3⟩ := hds.bounds
  refine ⟨.list ds, fun H' t => Rp.lst (SqL.of (t _ _ ne e)) (hds.rp t), ?_, ?_, ?_⟩
  · rw [PyData.depth]
    omega
  · simpa only [PyData.leavesShort] using b2
  · rw [PyData.weight]
    omega
theorem shn_tup {a p : Addr} {H : Hp} {xs : List V} {dp wt wt2 : Nat} (ne : p ≠ a) (e : H p = some (.tup xs)) (h : ∀ v ∈ xs, ∃ d, Shn X a H v d dp wt) (hw : (wt + 1) * xs.length + 2 ≤ wt2) : ∃ d, Shn X a H (.ref p) d (dp + 1) wt2 := by
  obtain ⟨ds, hds⟩ := shn_all h
  obtain ⟨b1, b2, b3⟩ := hds.bounds
  refine ⟨.tuple ds, fun H' t => Rp.tup (SqT.of (t _ _ ne e)) (hds.rp t), ?_, ?_, ?_⟩
  · rw [PyData.depth]
    omega
  · simpa only [PyData.leavesShort] using b2
  · rw [PyData.weight]
    omega
theorem shn_int {a : Addr} {H : Hp} {n : Int} (h : smI n = true) : Shn X a H (.int n) (.int n) 1 20 := by
  have k := okInt_sm h
  unfold okInt at k
  simp only [Bool.and_eq_true, decide_eq_true_eq] at k
  exact (shn_plain (fun H' => .int n) k.1 rfl rfl k.2.1 (Nat.le_trans k.2.2 (by decide))).mono (by decide) (by decide)
theorem shn_str {a : Addr} {H : Hp} {z : Str} (h : smS z = true) : Shn X a H (.str z) (.str z) 1 20 := by
  unfold smS at h
  simp only [Bool.and_eq_true, decide_eq_true_eq] at h
  exact (shn_plain (fun H' => .str z) h.1 rfl rfl h.2.1 (Nat.le_trans h.2.2 (by decide))).mono (by decide) (by decide)
theorem shn_bl {a : Addr} {H : Hp} {b : Bool} : Shn X a H (.bl b) (.bool b) 1 20 :=
  (shn_plain (fun H' => .bl b) rfl rfl rfl (by cases b <;> decide +kernel) (by cases b <;> decide +kernel)).mono (by decide) (by decide)
theorem shn_ints {a : Addr} {H : Hp} : ∀ {ds : List Int}, (∀ n ∈ ds, smI n = true) → ShnAll X a H 1 20 (ds.map V.int) (ds.map PyData.int)
  | [], _ => .nil
  | d :: ds, h => .cons (shn_int (h d List.mem_cons_self)) (shn_ints fun n hn => h n (List.mem_cons_of_mem _ hn))
theorem shn_tupE {a p : Addr} {H : Hp} {xs : List V} {ds : List PyData} {dp wt dp2 wt2 : Nat} (ne : p ≠ a) (e : H p = some (.tup xs)) (h : ShnAll X a H dp wt xs ds) (hd : dp + 1 ≤ dp2) (hw : (wt + 1) * xs.length + 2 ≤ wt2) : Shn X a H (.ref p) (.tuple ds) dp2 wt2 := by
  obtain ⟨b1, b2, b3⟩ := h.bounds
  refine ⟨fun H' t => Rp.tup (SqT.of (t _ _ ne e)) (h.rp t), ?_, ?_, ?_⟩
  · rw [PyData.depth]
    omega
  · simpa only [PyData.leavesShort] using b2
  · rw [PyData.weight]
    omega
/-- a text of few signs -/
def smT (z : Str) : Bool := PyData.leavesShort 60 (.str z) && decide (PyData.weight (.str z) ≤ 30)
theorem shn_txt {a : Addr} {H : Hp} {z : Str} (h : smT z = true) : Shn X a H (.str z) (.str z) 1 40 := by
  unfold smT at h
  simp only [Bool.and_eq_true, decide_eq_true_eq] at h
  refine ⟨fun H' _ => Rp.dp (.str z) rfl rfl ?_, by simp only [PyData.depth]; omega, h.1, Nat.le_trans h.2 (by decide)⟩
  have := PyData.shown_le 60 (by decide) (.str z) h.1
  rw [sizeLine_eq]
  omega
theorem shn_dct {a p : Addr} {H : Hp} (ne : p ≠ a) (e : H p = some (.dK [])) : Shn X a H (.ref p) (.dict []) 1 20 := by
  refine ⟨fun H' t => ?_, by decide +kernel, by decide +kernel, by decide +kernel⟩
  exact Rp.dct (kvs := []) (t _ _ ne e) (by decide +kernel) (by decide +kernel)
theorem shn_non {a : Addr} {H : Hp} : Shn X a H .non .none 1 20 := (shn_plain (fun H' => .non) rfl rfl rfl (by decide +kernel) (by decide +kernel)).mono (by decide) (by decide)
end
section
variable {P : Program} {w : World} {K : PySem.W.Frag} {mg : Str → Option Value} {base : Heap}
/-! ### what is no scheme -/
/-- a value that stays what it is, and how it is shown -/
structure OddV (a : Addr) (H : Hp) (v : V) : Prop where
  item : ∀ H2, But a H H2 → ItemOk H2 v
  shn : ∀ X : Cx, ∃ d, Shn X a H v d 5 4000
def spOddS : Sp := fun vs H Q _ => ∃ (a : Addr) (n : Int), vs = [.ref a] ∧ Box n H a ∧ n ≤ 900000 ∧ ∀ v H', But a H H' → Box (n + 1) H' a → OddV a H' v → Q v H'
theorem scOs : FnScope ["_law_box_here"] ["_law_box_here"] (defScope sOddS) := ⟨rfl, rfl, rfl, by decide +kernel, rfl, by decide +kernel, by decide +kernel⟩
theorem ok_odds {f fT : Addr} {fd fdT : FuncData} (F : Fun K "_law_odd_scheme" "_law_odd_scheme" sOddS f fd) (FT : Fun K "_law_take" "_law_take" sTake fT fdT) (gT : mg "_law_take" = some (.ref fT)) (bT : Binds K fdT ["_law_box_here", "_law_many"] []) (mi : mg "int" = none) : FnOk P w K mg base CX0 2 f fd ["_law_box_here"] spOddS := by
  have GT : FnOk P w K mg base CX0 1 fT fdT ["_law_box_here", "_law_many"] spTake := ok_take FT mi
  refine F.ok scOs (fun vs H Q E h => ?_) (fun cdv A outer s H vs Q E hr h => ?_)
  · obtain ⟨a, n, rfl, _⟩ := h
    rfl
  · obtain ⟨a, n, rfl, hB, hn, q⟩ := h
    apply Exists.intro
    apply And.intro
    · apply pss_one
      · exact ps_ret (pe_ix ix_list (pe_lst (pa_cons pe_non (pa_cons pe_int (pa_cons pe_str (pa_cons (pe_tup (pa_cons pe_int (pa_cons (pe_tup (pa_cons pe_int (pa_cons pe_int pa_nil))) pa_nil))) (pa_cons (pe_lst pa_nil) (pa_cons pe_dnewK (pa_cons pe_bl pa_nil)))))))) (pe_call GT hr (by rfl) gT FT.kp bT .nil pass0 (pa_cons (pv 0) (pa_cons pe_int pa_nil))) (fun _ _ => rfl))
    refine ⟨(by show 2 ≤ sizeLine; decide), fun p1 h1 => ?_⟩
    have s1 := same_new (o := .tup [.int 0, .int 1]) h1
    have e1 : (upd H p1 (.tup [.int 0, .int 1])) p1 = some (.tup [.int 0, .int 1]) := upd_same
    have n1 := hB.ne h1
    have B1 := hB.same s1
    generalize upd H p1 (.tup [.int 0, .int 1]) = H1 at s1 e1 B1 ⊢
    refine ⟨(by show 2 ≤ sizeLine; decide), fun p2 h2 => ?_⟩
    have s2 := same_new (o := .tup [.int 2, .ref p1]) h2
    have e2 : (upd H1 p2 (.tup [.int 2, .ref p1])) p2 = some (.tup [.int 2, .ref p1]) := upd_same
    have n2 := B1.ne h2
    have B2 := B1.same s2
    have e1 := s2 _ _ e1
    have s2 := s1.trans s2
    generalize upd H1 p2 (.tup [.int 2, .ref p1]) = H2 at s2 e2 e1 B2 ⊢
    refine ⟨(by show 0 ≤ sizeLine; decide), fun p3 h3 => ?_⟩
    have s3 := same_new (o := .lst []) h3
    have e3 : (upd H2 p3 (.lst [])) p3 = some (.lst []) := upd_same
    have n3 := B2.ne h3
    have B3 := B2.same s3
    have e1 := s3 _ _ e1
    have e2 := s3 _ _ e2
    have s3 := s2.trans s3
    generalize upd H2 p3 (.lst []) = H3 at s3 e3 e2 e1 B3 ⊢
    refine fun p4 h4 => ?_
    have s4 := same_new (o := .dK []) h4
    have e4 : (upd H3 p4 (.dK [])) p4 = some (.dK []) := upd_same
    have n4 := B3.ne h4
    have B4 := B3.same s4
    have e1 := s4 _ _ e1
    have e2 := s4 _ _ e2
    have e3 := s4 _ _ e3
    have s4 := s3.trans s4
    generalize upd H3 p4 (.dK []) = H4 at s4 e4 e3 e2 e1 B4 ⊢
    refine ⟨(by show 7 ≤ sizeLine; decide), fun L hL => ?_⟩
    have sL := same_new (o := .lst [.non, .int 7, .str "base 2; digits 0 1", .ref p2, .ref p3, .ref p4, .bl true]) hL
    have eL : (upd H4 L (.lst [.non, .int 7, .str "base 2; digits 0 1", .ref p2, .ref p3, .ref p4, .bl true])) L = some (.lst [.non, .int 7, .str "base 2; digits 0 1", .ref p2, .ref p3, .ref p4, .bl true]) := upd_same
    have nL := B4.ne hL
    have B5 := B4.same sL
    have e1 := sL _ _ e1
    have e2 := sL _ _ e2
    have e3 := sL _ _ e3
    have e4 := sL _ _ e4
    have s5 := s4.trans sL
    generalize upd H4 L (.lst [.non, .int 7, .str "base 2; digits 0 1", .ref p2, .ref p3, .ref p4, .bl true]) = H5 at s5 eL e4 e3 e2 e1 B5 ⊢
    refine ⟨.ref a, rfl, a, 7, n, rfl, B5, by omega, by decide, by decide, fun r H6 r0 r1 t6 B6 => ?_⟩
    have e1 := t6 _ _ n1 e1
    have e2 := t6 _ _ n2 e2
    have e3 := t6 _ _ n3 e3
    have e4 := t6 _ _ n4 e4
    have eL := t6 _ _ nL eL
    obtain ⟨v, hv, mv⟩ := pick (xs := [V.non, .int 7, .str "base 2; digits 0 1", .ref p2, .ref p3, .ref p4, .bl true]) r0 r1
    refine ⟨L, _, r, v, rfl, rfl, SqL.of eL, hv, q v H6 ((But.of_same s5).trans t6) B6 ?_⟩
    simp only [List.mem_cons, List.not_mem_nil, or_false] at mv
    rcases mv with rfl | rfl | rfl | rfl | rfl | rfl | rfl
    · exact ⟨fun _ _ => .inr .non, fun X => ⟨_, shn_non.mono (by decide) (by decide)⟩⟩
    · exact ⟨fun _ _ => .inl ⟨_, rfl⟩, fun X => ⟨_, (shn_int (by decide)).mono (by decide) (by decide)⟩⟩
    · exact ⟨fun _ _ => .inr (.str _), fun X => ⟨_, (shn_txt (by decide +kernel)).mono (by decide) (by decide)⟩⟩
    · refine ⟨fun H7 t7 => .inr (.tup (t7 _ _ n2 e2)), fun X => ?_⟩
      have in1 : Shn X a H6 (.ref p1) _ 2 44 := shn_tupE n1 e1 (.cons (shn_int (by decide)) (.cons (shn_int (by decide)) .nil)) (by decide) (by show 21 * 2 + 2 ≤ 44; decide)
      exact ⟨_, shn_tupE n2 e2 (.cons ((shn_int (by decide)).mono (by decide) (by decide)) (.cons in1 .nil)) (by decide) (by show 45 * 2 + 2 ≤ 4000; decide)⟩
    · refine ⟨fun H7 t7 => .inr (.lst (t7 _ _ n3 e3)), fun X => ?_⟩
      obtain ⟨d, hd⟩ := shn_lst (X := X) (dp := 1) (wt := 20) (wt2 := 44) n3 e3 (fun v hv => by cases hv) (by decide)
      exact ⟨d, hd.mono (by decide) (by decide)⟩
    · exact ⟨fun H7 t7 => .inr (.dK (t7 _ _ n4 e4)), fun X => ⟨_, (shn_dct n4 e4).mono (by decide) (by decide)⟩⟩
    · exact ⟨fun _ _ => .inr (.bl true), fun X => ⟨_, shn_bl.mono (by decide) (by decide)⟩⟩
end
end K66
namespace K66
open PySem PySem.Spec PyProof.Rows L2 OF
section
variable {P : Program} {w : World} {K : PySem.W.Frag} {mg : Str → Option Value} {base : Heap}
/-! ### what is nearly a row -/
def spOddR : Sp := fun vs H Q _ => ∃ (a m : Addr) (n b : Int) (ds : List Int) (ps : List (Int × Int)), vs = [.ref a, .ref m] ∧ Box n H a ∧ n ≤ 900000 ∧ Good b ds ps ∧ Model a H m b ds ps ∧
  ∀ (p : Addr) (ns : List Int) (H' : Hp), But a H H' → Box (n + 3) H' a → H' p = some (.tup (ns.map V.int)) → p ≠ a → 1 ≤ ns.length → ns.length ≤ 3 → (∀ k ∈ ns, dig k = true) → rowP ds ps ns = false → Q (.ref p) H'
abbrev nOr : List Str := ["_law_box_here", "_law_draft_here", "_law_strange", "_law_row", "_law_digit"]
theorem scOr : FnScope nOr ["_law_box_here", "_law_draft_here"] (defScope sOddR) := ⟨rfl, rfl, rfl, by decide +kernel, rfl, by decide +kernel, by decide +kernel⟩
theorem strange_of {ds : List Int} (nd : ds.Nodup) (h6 : ds.length ≤ 6) : ∃ x l, (((List.range 19).map fun (i : Nat) => (-9 : Int) + (i : Int)).filter fun k => decide (k ∉ ds)) = x :: l := by
  cases e : (((List.range 19).map fun (i : Nat) => (-9 : Int) + (i : Int)).filter fun k => decide (k ∉ ds)) with
  | cons x l => exact ⟨x, l, rfl⟩
  | nil =>
    exfalso
    have all : ∀ k ∈ ((List.range 19).map fun (i : Nat) => (-9 : Int) + (i : Int)), k ∈ ds := fun k hk => by
      have := List.filter_eq_nil_iff.mp e k hk
      exact Classical.byContradiction fun h => this (decide_eq_true h)
    have nf : ((List.range 19).map fun (i : Nat) => (-9 : Int) + (i : Int)).Nodup := by decide +kernel
    have pm : (ds.filter fun k => decide (k ∈ ((List.range 19).map fun (i : Nat) => (-9 : Int) + (i : Int)))).Perm ((List.range 19).map fun (i : Nat) => (-9 : Int) + (i : Int)) := (List.perm_ext_iff_of_nodup (nd.filter _) nf).mpr fun z => by
      rw [List.mem_filter, decide_eq_true_eq]
      exact ⟨fun h => h.2, fun h => ⟨all z h, h⟩⟩
    have h1 := pm.length_eq
    rw [List.length_map, List.length_range] at h1
    have h2 := List.length_filter_le (fun k => decide (k ∈ ((List.range 19).map fun (i : Nat) => (-9 : Int) + (i : Int)))) ds
    omega
set_option maxHeartbeats 2000000 in
theorem ok_oddr {f fT : Addr} {fd fdT : FuncData} (F : Fun K "_law_odd_row" "_law_odd_row" sOddR f fd) (FT : Fun K "_law_take" "_law_take" sTake fT fdT) (gT : mg "_law_take" = some (.ref fT)) (bT : Binds K fdT ["_law_box_here", "_law_many"] [])
    (mi : mg "int" = none) (ml : mg "len" = none) (mr : mg "range" = none) : FnOk P w K mg base CX0 2 f fd ["_law_box_here", "_law_draft_here"] spOddR := by
  have GT : FnOk P w K mg base CX0 1 fT fdT ["_law_box_here", "_law_many"] spTake := ok_take FT mi
  refine F.ok scOr (fun vs H Q E h => ?_) (fun cdv A outer s H vs Q E hr h => ?_)
  · obtain ⟨a, m, n, b, ds, ps, rfl, _⟩ := h
    rfl
  · obtain ⟨a, m, n, b, ds, ps, rfl, hB, hn, G, Mm, q⟩ := h
    apply Exists.intro
    apply And.intro
    · apply pss_cons
      · exact ps_set (i := 2) scOr.nd rfl (.inl rfl) (pe_ix ix_list (pe_lc (own := [("_law_digit", 4)]) (g := gName 4) (tt := tTest (tOp (rIn K true) (tVar 4) (tOp (rIxL K) (tVar 1) (tC (.int 1))))) (te := tVar 4) rfl scOr.nd (pi_range2 rfl mr (pa_cons (pe_un un_neg pe_int) (pa_cons pe_int pa_nil))) (blkOk_by (own := [("_law_digit", 4)]) (N := nOr) (sc := defScope sOddR) (by decide +kernel)) (fun _ _ _ _ _ => pg_name (i := 4) scOr.nd rfl (Or.inl rfl))
            (fun _ _ _ _ _ => by exact (pts_one (pt_cmpR op_notIn_seq (pv 4) (pe_ix ix_list (pv 1) pe_int (fun _ _ => rfl)) rfl))) (fun _ _ _ _ _ => by exact (pv 4))) pe_int (fun _ _ => rfl))
      apply pss_cons
      · exact ps_if (PW.pt (pw_or (pt_cmpR (op_eqNil hr.units) (pe_ix ix_list (pv 1) pe_int (fun _ _ => rfl)) (pe_lst pa_nil) (nomark _)) (pw_or1 (pt_cmpR op_eq (pe_call GT hr (by rfl) gT FT.kp bT .nil pass0 (pa_cons (pv 0) (pa_cons pe_int pa_nil))) pe_int (nomark _))))) (pss_one (ps_ret (pe_tup (pa_cons (pv 2) pa_nil)))) pss_nil
      apply pss_cons
      · exact ps_set (i := 3) scOr.nd rfl (.inl rfl) (pe_ix ix_list (pe_ix ix_list (pv 1) pe_int (fun _ _ => rfl)) (pe_call GT hr (by rfl) gT FT.kp bT .nil pass0 (pa_cons (pv 0) (pa_cons (pe_callB call_len_seq (by rfl) ml PySem.boot_len (pa_cons (pe_ix ix_list (pv 1) pe_int (fun _ _ => rfl)) pa_nil)) pa_nil))) (fun _ _ => rfl))
      apply pss_one
      · exact ps_ret (pe_ix ix_list (pe_lst (pa_cons (pv 3) (pa_cons (pe_op op_cat2 (pv 3) (pe_tup (pa_cons (pe_ix ix_list (pe_ix ix_list (pv 1) pe_int (fun _ _ => rfl)) pe_int (fun _ _ => rfl)) pa_nil))) (pa_cons (pe_op op_cat2 (pe_tup (pa_cons (pe_ix ix_list (pe_ix ix_list (pv 1) pe_int (fun _ _ => rfl)) (pe_un un_neg pe_int) (fun _ _ => rfl)) pa_nil)) (pv 3)) pa_nil)))) (pe_call GT hr (by rfl) gT FT.kp bT .nil pass0 (pa_cons (pv 0) (pa_cons pe_int pa_nil))) (fun _ _ => rfl))
    obtain ⟨dl, pl, ks, rfl, MA⟩ := Mm
    have M0 := MA H But.refl
    have h6 := G.six
    have nd : ds.Nodup := by
      rw [List.nodup_iff_pairwise_ne]
      exact G.asc.imp fun h => by omega
    obtain ⟨st, more, est⟩ := strange_of nd h6
    refine ⟨9, rfl, -9, 10, rfl, ⟨by decide, by decide, by decide, by decide⟩, fun D hD => ?_⟩
    refine lc_range (lo := -9) (n := 19) (fun i H' => Same H H' ∧ H' D = some (.lst ((((List.range i).map fun (j : Nat) => (-9 : Int) + (j : Int)).filter fun d => decide (d ∉ ds)).map V.int))) ⟨same_new hD, upd_same⟩ ?_ ?_
    · rintro i H' hi ⟨v1, e1⟩
      have e2 : ((List.range (i + 1)).map fun (j : Nat) => (-9 : Int) + (j : Int)) = ((List.range i).map fun (j : Nat) => (-9 : Int) + (j : Int)) ++ [(-9 : Int) + (i : Int)] := by
        rw [List.range_succ, List.map_append]
        rfl
      have M1 := M0.same v1
      refine ⟨rfl, .int (-9 + i), rfl, .ref m, rfl, m, _, 1, .ref dl, rfl, rfl, SqL.of M1.mo, atI_nat (j := 1) rfl, dl, _, rfl, .inl (SqL.of M1.di), rfl, flat_ints ds, _, rfl, ?_⟩
      rw [in_ints]
      by_cases c : (-9 : Int) + (i : Int) ∈ ds
      · refine iteFB (by rw [decide_eq_true c]; rfl) ⟨v1, ?_⟩
        rw [e1, e2, List.filter_append]
        simp [c]
      · refine iteTB (by rw [decide_eq_false c]; rfl) ⟨.int (-9 + i), rfl, _, e1, ?_, Same.store v1 hD, ?_⟩
        · rw [List.length_map]
          exact Nat.lt_of_le_of_lt (Nat.le_trans (List.length_filter_le _ _) (by rw [List.length_map, List.length_range]; omega)) (small1000 (by decide : 19 ≤ 1000))
        · rw [upd_same, e2, List.filter_append, List.map_append]
          simp [c]
    rintro H1 ⟨s1, e1⟩
    have hst : st ∉ ds ∧ -9 ≤ st ∧ st ≤ 9 := by
      have m : st ∈ (((List.range 19).map fun (i : Nat) => (-9 : Int) + (i : Int)).filter fun k => decide (k ∉ ds)) := by
        rw [est]
        exact List.mem_cons_self
      obtain ⟨h1, h2⟩ := List.mem_filter.mp m
      obtain ⟨j, hj, rfl⟩ := List.mem_map.mp h1
      have := List.mem_range.mp hj
      exact ⟨of_decide_eq_true h2, by omega, by omega⟩
    rw [est] at e1
    refine ⟨D, _, 0, .int st, rfl, rfl, SqL.of e1, atI_nat (j := 0) rfl, ?_⟩
    have B1 := hB.same s1
    have M1 := M0.same s1
    have lone : ∀ {H2 : Hp} {k : Int}, But a H H2 → Box k H2 a → k ≤ n + 3 → ∀ T, H2 T = none → Q (.ref T) (upd H2 T (.tup [.int st])) := fun {H2 k} t2 B2 hk T hT =>
      q T [st] _ (t2.trans (But.new hT)) ((B2.new hT).mono hk) upd_same (B2.ne hT) (by show 1 ≤ 1; decide) (by show 1 ≤ 3; decide) (fun z hz => by rw [List.mem_singleton.mp hz]; exact dig_of hst.2.1 hst.2.2) (decide_eq_false hst.1)
    refine ⟨.ref m, rfl, m, _, 2, .ref pl, rfl, rfl, SqL.of M1.mo, atI_nat (j := 2) rfl, (by show 0 ≤ sizeLine; decide), fun g hg => ?_⟩
    have s2 := s1.trans (same_new (o := .lst []) hg)
    have eg : (upd H1 g (.lst [])) g = some (.lst []) := upd_same
    generalize upd H1 g (.lst []) = H2 at s2 eg ⊢
    have M2 := M0.same s2
    have B2 := hB.same s2
    refine ⟨pl, g, _, rfl, rfl, SqL.of M2.pa, SqL.of eg, _, rfl, ?_⟩
    rw [List.isEmpty_map]
    by_cases hk : ks = []
    · refine iteTB (by rw [hk]; rfl) ?_
      exact ⟨.int st, rfl, (by show 1 ≤ sizeLine; decide), lone (But.of_same s2) B2 (by omega)⟩
    refine iteFB (by cases ks with | nil => exact absurd rfl hk | cons x l => rfl) ?_
    refine ⟨.ref a, rfl, a, 4, n, rfl, B2, by omega, by decide, by decide, fun r H3 r0 r1 t3 B3 => ⟨rfl, _, rfl, ite2 (fun _ => ?_) (fun _ => ?_)⟩⟩
    · exact ⟨.int st, rfl, (by show 1 ≤ sizeLine; decide), lone ((But.of_same s2).trans t3) B3 (by omega)⟩
    have t3 := (But.of_same s2).trans t3
    have M3 := MA H3 t3
    have k1 : 1 ≤ ks.length := by
      cases ks with
      | nil => exact absurd rfl hk
      | cons x l => rw [List.length_cons]; omega
    have k36 : ks.length ≤ 36 := by
      have := G.few
      rw [List.length_map] at this
      exact this
    refine ⟨.ref m, rfl, m, _, 2, .ref pl, rfl, rfl, SqL.of M3.mo, atI_nat (j := 2) rfl, ?_⟩
    refine ⟨.ref a, rfl, .ref m, rfl, m, _, 2, .ref pl, rfl, rfl, SqL.of M3.mo, atI_nat (j := 2) rfl, pl, _, rfl, .inl (SqL.of M3.pa), a, _, n + 1, rfl, B3, by omega, by rw [List.length_map]; omega, by rw [List.length_map]; exact Nat.lt_of_le_of_lt (by omega : ((ks.length : Int)).natAbs ≤ 36) (by decide), fun r2 H4 r20 r21 t4 B4 => ?_⟩
    have t4 := t3.trans t4
    have M4 := MA H4 t4
    obtain ⟨v, hv, mv⟩ := pick (xs := ks.map fun p => V.ref p.1) r20 r21
    obtain ⟨kp, hkp, rfl⟩ := List.mem_map.mp mv
    refine ⟨pl, _, r2, .ref kp.1, rfl, rfl, SqL.of M4.pa, hv, ?_⟩
    have ep := M4.pr kp hkp
    have inp : kp.2 ∈ ks.map (·.2) := List.mem_map.mpr ⟨kp, hkp, rfl⟩
    obtain ⟨T0, x, y⟩ := kp
    have ep : H4 T0 = some (.tup [.int x, .int y]) := ep
    have inp : (x, y) ∈ ks.map (·.2) := inp
    obtain ⟨mx, my⟩ := G.mem (x, y) inp
    have dx := G.dg x mx
    have dy := G.dg y my
    clear hv mv lone
    have bad2 : rowP ds (ks.map (·.2)) [x, y] = false := by
      show ((decide (x ∈ ds) && decide ((x, y) ∉ ks.map (·.2))) && decide (y ∈ ds)) = false
      rw [decide_eq_false (p := (x, y) ∉ ks.map (·.2)) (fun h => h inp), Bool.and_false]
      rfl
    have np := box_ne_tup B4 ep
    obtain ⟨d0, rest, e0⟩ : ∃ d0 rest, ds = d0 :: rest := by
      have := G.one
      cases ds with
      | nil => cases this
      | cons d l => exact ⟨d, l, rfl⟩
    obtain ⟨ini, dz, ez⟩ := snoc_of (l := ds) (by rw [e0]; exact List.cons_ne_nil _ _)
    have m0 : d0 ∈ ds := by rw [e0]; exact List.mem_cons_self
    have mz : dz ∈ ds := by rw [ez]; exact List.mem_append_right _ (List.mem_singleton.mpr rfl)
    refine ⟨.ref T0, rfl, ?_⟩
    refine ⟨.ref T0, rfl, .ref m, rfl, m, _, 1, .ref dl, rfl, rfl, SqL.of M4.mo, atI_nat (j := 1) rfl, dl, _, 0, .int d0, rfl, rfl, SqL.of M4.di, atI_nat (j := 0) (by rw [e0]; rfl), (by show 1 ≤ sizeLine; decide), fun t1 ht1 => ?_⟩
    have s5 := same_new (o := .tup [.int d0]) ht1
    refine ⟨T0, t1, _, _, rfl, rfl, s5 _ _ ep, upd_same, (by show 2 + 1 ≤ sizeLine; decide), fun c1 H5 s6 e6 => ?_⟩
    have s6 := s5.trans s6
    have M6 := M4.same s6
    refine ⟨.ref m, rfl, m, _, 1, .ref dl, rfl, rfl, SqL.of M6.mo, atI_nat (j := 1) rfl, 1, rfl, dl, _, -1, .int dz, rfl, rfl, SqL.of M6.di, by rw [ez, List.map_append]; exact atI_last _ _, (by show 1 ≤ sizeLine; decide), fun t2 ht2 => ?_⟩
    have s7 := s6.trans (same_new (o := .tup [.int dz]) ht2)
    have e67 := same_new (o := .tup [.int dz]) ht2 _ _ e6
    have et2 : (upd H5 t2 (.tup [.int dz])) t2 = some (.tup [.int dz]) := upd_same
    generalize upd H5 t2 (.tup [.int dz]) = H7 at s7 e67 et2 ⊢
    refine ⟨.ref T0, rfl, t2, T0, _, _, rfl, rfl, et2, s7 _ _ ep, (by show 1 + 2 ≤ sizeLine; decide), fun c2 H8 s8 e8 => ?_⟩
    have e68 := s8 _ _ e67
    have s8 := s7.trans s8
    refine ⟨(by show 3 ≤ sizeLine; decide), fun L hL => ?_⟩
    have sL := same_new (o := .lst [.ref T0, .ref c1, .ref c2]) hL
    have eL : (upd H8 L (.lst [.ref T0, .ref c1, .ref c2])) L = some (.lst [.ref T0, .ref c1, .ref c2]) := upd_same
    have e8 := sL _ _ e8
    have e68 := sL _ _ e68
    have s9 := s8.trans sL
    generalize upd H8 L (.lst [.ref T0, .ref c1, .ref c2]) = H9 at s9 eL e8 e68 ⊢
    have B9 := B4.same s9
    have ep9 := s9 _ _ ep
    have nL : L ≠ a := by
      intro z
      obtain ⟨b0, b1, b2, h, _⟩ := B9
      rw [z, h] at eL
      cases eL
    refine ⟨.ref a, rfl, a, 3, _, rfl, B9, by omega, by decide, by decide, fun r4 H10 r40 r41 t10 B10 => ?_⟩
    have T10 := (t4.trans (But.of_same s9)).trans t10
    have B11 := B10.mono (m := n + 3) (by omega)
    obtain ⟨v, hv, mv⟩ := pick (xs := [V.ref T0, .ref c1, .ref c2]) r40 r41
    refine ⟨L, _, r4, v, rfl, rfl, SqL.of (t10 _ _ nL eL), hv, ?_⟩
    have n1 := box_ne_tup B9 e68
    have n2 := box_ne_tup B9 e8
    simp only [List.mem_cons, List.not_mem_nil, or_false] at mv
    rcases mv with rfl | rfl | rfl
    · refine q T0 [x, y] H10 T10 B11 (t10 _ _ np ep9) np (by show 1 ≤ 2; decide) (by show 2 ≤ 3; decide) (fun z hz => ?_) bad2
      simp only [List.mem_cons, List.not_mem_nil, or_false] at hz
      rcases hz with rfl | rfl <;> assumption
    · refine q c1 [x, y, d0] H10 T10 B11 (t10 _ _ n1 e68) n1 (by show 1 ≤ 3; decide) (by show 3 ≤ 3; decide) (fun z hz => ?_) ?_
      · simp only [List.mem_cons, List.not_mem_nil, or_false] at hz
        rcases hz with rfl | rfl | rfl
        · exact dx
        · exact dy
        · exact G.dg _ m0
      · show ((decide (x ∈ ds) && decide ((x, y) ∉ ks.map (·.2))) && rowP ds (ks.map (·.2)) [y, d0]) = false
        rw [decide_eq_false (p := (x, y) ∉ ks.map (·.2)) (fun h => h inp), Bool.and_false]
        rfl
    · refine q c2 [dz, x, y] H10 T10 B11 (t10 _ _ n2 e8) n2 (by show 1 ≤ 3; decide) (by show 3 ≤ 3; decide) (fun z hz => ?_) ?_
      · simp only [List.mem_cons, List.not_mem_nil, or_false] at hz
        rcases hz with rfl | rfl | rfl
        · exact G.dg _ mz
        · exact dx
        · exact dy
      · show ((decide (dz ∈ ds) && decide ((dz, x) ∉ ks.map (·.2))) && rowP ds (ks.map (·.2)) [x, y]) = false
        rw [bad2, Bool.and_false]
end
end K66
namespace K66
open PySem PySem.Spec PyProof.Rows L2 OF
/-! ### rows joined -/
def junc (ps : List (Int × Int)) (l r : List Int) : Bool := match l.getLast?, r.head? with
  | some x, some y => decide ((x, y) ∉ ps)
  | _, _ => true
theorem rowP_append (ds : List Int) (ps : List (Int × Int)) (r : List Int) : ∀ l : List Int, rowP ds ps (l ++ r) = (rowP ds ps l && rowP ds ps r && junc ps l r)
  | [] => by
    show rowP ds ps r = (true && rowP ds ps r && true)
    rw [Bool.true_and, Bool.and_true]
  | [n] => by
    cases r with
    | nil =>
      show decide (n ∈ ds) = (decide (n ∈ ds) && true && true)
      rw [Bool.and_true, Bool.and_true]
    | cons m r =>
      show ((decide (n ∈ ds) && decide ((n, m) ∉ ps)) && rowP ds ps (m :: r)) = (decide (n ∈ ds) && rowP ds ps (m :: r) && decide ((n, m) ∉ ps))
      cases decide (n ∈ ds) <;> cases decide ((n, m) ∉ ps) <;> cases rowP ds ps (m :: r) <;> rfl
  | n :: m :: l => by
    have ih := rowP_append ds ps r (m :: l)
    have hj : junc ps (n :: m :: l) r = junc ps (m :: l) r := by
      unfold junc
      rw [List.getLast?_cons_cons]
    show ((decide (n ∈ ds) && decide ((n, m) ∉ ps)) && rowP ds ps ((m :: l) ++ r)) = (((decide (n ∈ ds) && decide ((n, m) ∉ ps)) && rowP ds ps (m :: l)) && rowP ds ps r && junc ps (n :: m :: l) r)
    rw [ih, hj]
    cases (decide (n ∈ ds) && decide ((n, m) ∉ ps)) <;> cases rowP ds ps (m :: l) <;> cases rowP ds ps r <;> rfl
theorem junc_left {ps : List (Int × Int)} {f l r : List Int} (h : l ≠ []) : junc ps (f ++ l) r = junc ps l r := by
  unfold junc
  rw [List.getLast?_append]
  cases e : l.getLast? with
  | none => exact absurd (List.getLast?_eq_none_iff.mp e) h
  | some x => rfl
theorem junc_right {ps : List (Int × Int)} {l r g : List Int} (h : r ≠ []) : junc ps l (r ++ g) = junc ps l r := by
  unfold junc
  cases r with
  | nil => exact absurd rfl h
  | cons x r => rfl
theorem row_facts {ds : List Int} {ps : List (Int × Int)} {fs rs : List Int} (hn : rs ≠ []) (h : rowP ds ps (fs ++ rs ++ rs) = true) : rowP ds ps fs = true ∧ rowP ds ps rs = true ∧ junc ps fs rs = true ∧ junc ps rs rs = true := by
  rw [rowP_append, rowP_append, junc_left hn, Bool.and_eq_true, Bool.and_eq_true, Bool.and_eq_true, Bool.and_eq_true] at h
  exact ⟨h.1.1.1.1, h.1.2, h.1.1.2, h.2⟩
theorem row_front {ds : List Int} {ps : List (Int × Int)} {fs rs : List Int} (hn : rs ≠ []) (h : rowP ds ps (fs ++ rs ++ rs) = true) : rowP ds ps (fs ++ rs) = true ∧ rowP ds ps ((fs ++ rs) ++ rs ++ rs) = true := by
  obtain ⟨h1, h2, h3, h4⟩ := row_facts hn h
  have a : rowP ds ps (fs ++ rs) = true := by
    rw [rowP_append, h1, h2, h3]
    rfl
  refine ⟨a, ?_⟩
  rw [rowP_append, h, h2, junc_left hn, h4]
  rfl
theorem row_ring {ds : List Int} {ps : List (Int × Int)} {fs rs : List Int} (hn : rs ≠ []) (h : rowP ds ps (fs ++ rs ++ rs) = true) : rowP ds ps (rs ++ rs) = true ∧ rowP ds ps (fs ++ (rs ++ rs) ++ (rs ++ rs)) = true := by
  obtain ⟨h1, h2, h3, h4⟩ := row_facts hn h
  have a : rowP ds ps (rs ++ rs) = true := by
    rw [rowP_append, h2, h4]
    rfl
  have n2 : rs ++ rs ≠ [] := fun e => hn (List.append_eq_nil_iff.mp e).1
  refine ⟨a, ?_⟩
  rw [rowP_append, rowP_append, a, h1, junc_right hn, h3, junc_left n2, junc_left hn, junc_right hn, h4]
  rfl
/-! ### what is due, as data -/
def dueP (k : Nat) (fs rs : List Int) : PyData := match k with
  | 0 => .list [.str "row", .tuple (fs.map .int)]
  | 1 => .list [.str "row", .tuple (rs.map .int)]
  | _ => .list [.str "told"]
theorem dueK_cases (ds : List Int) (ps : List (Int × Int)) (fs rs : List Int) : (dueK ds ps fs rs = 0 ∧ rowP ds ps fs = false) ∨ (dueK ds ps fs rs = 1 ∧ rowP ds ps fs = true ∧ (rowP ds ps rs = false ∨ rs = [] ∨ rowP ds ps (fs ++ rs ++ rs) = false)) ∨ (dueK ds ps fs rs = 2 ∧ rowP ds ps fs = true ∧ rowP ds ps rs = true ∧ rs ≠ [] ∧ rowP ds ps (fs ++ rs ++ rs) = true) := by
  cases h0 : rowP ds ps fs with
  | false => exact .inl ⟨due0 h0, rfl⟩
  | true =>
    by_cases h : rowP ds ps rs = false ∨ rs = [] ∨ rowP ds ps (fs ++ rs ++ rs) = false
    · exact .inr (.inl ⟨due1 h0 h, rfl, h⟩)
    · rw [not_or, not_or, Bool.not_eq_false, Bool.not_eq_false] at h
      exact .inr (.inr ⟨due2 h0 h.1 h.2.1 h.2.2, rfl, h.1, h.2.1, h.2.2⟩)
theorem dueP_shaped (k : Nat) (fs rs : List Int) : PyData.canLay0 (dueP k fs rs) = true ∧ SeqAt.shaped (dueP k fs rs) = true := by
  have can : PyData.canLay0 (.str "row") = true := by decide +kernel
  have can2 : PyData.canLay0 (.str "told") = true := by decide +kernel
  have key : ∀ ns : List Int, PyData.canLay0 (.list [.str "row", .tuple (ns.map .int)]) = true ∧ SeqAt.shaped (.list [.str "row", .tuple (ns.map .int)]) = true := fun ns => by
    obtain ⟨h1, h2⟩ := ints_can ns
    have c : PyData.canLay0 (.list [.str "row", .tuple (ns.map .int)]) = true := by
      simp only [PyData.canLay0, PyData.canLayAll0, h1, Bool.and_true]
      exact can
    refine ⟨c, shaped_of c ?_⟩
    simp only [PyData.depth, PyData.depthAll, h2]
    omega
  match k with
  | 0 => exact key fs
  | 1 => exact key rs
  | _ + 2 => exact (show PyData.canLay0 (.list [.str "told"]) = true ∧ SeqAt.shaped (.list [.str "told"]) = true from ⟨by decide +kernel, by decide +kernel⟩)
theorem dueP_told (k : Nat) (fs rs : List Int) : PyData.eqv (dueP k fs rs) (.list [.str "told"]) = decide (2 ≤ k) := by
  match k with
  | 0 => simp [dueP, PyData.eqv, PyData.eqvAll]
  | 1 => simp [dueP, PyData.eqv, PyData.eqvAll]
  | k + 2 =>
    rw [decide_eq_true (by omega : 2 ≤ k + 2)]
    show PyData.eqv (.list [.str "told"]) (.list [.str "told"]) = true
    decide +kernel
theorem dueP_dp {K : PySem.W.Frag} {H : Hp} {l p q : Addr} {k : Nat} {fs rs : List Int} (hp : H p = some (.tup (fs.map V.int))) (hq : H q = some (.tup (rs.map V.int))) (e : H l = some (.lst (dueL k p q))) : Dp K H (.ref l) (dueP k fs rs) := by
  match k, e with
  | 0, e => exact .lst (SqL.of e) (.cons (.str _) (.cons (.tup (SqT.of hp) (dp_ints fs)) .nil))
  | 1, e => exact .lst (SqL.of e) (.cons (.str _) (.cons (.tup (SqT.of hq) (dp_ints rs)) .nil))
  | k + 2, e => exact .lst (SqL.of e) (.cons (.str _) .nil)
/-! ### how a fraction is shown -/
def fracD (b : Int) (fs rs : List Int) : PyData := .tuple [.int (fracI b fs rs).1, .int (fracI b fs rs).2]
theorem frac_dp {K : PySem.W.Frag} {H : Hp} {t : Addr} {x : Int × Int} (e : H t = some (.tup [.int x.1, .int x.2])) : Dp K H (.ref t) (.tuple [.int x.1, .int x.2]) := .tup (SqT.of e) (.cons (.int _) (.cons (.int _) .nil))
theorem two_shaped (x y : Int) : PyData.canLay0 (.tuple [.int x, .int y]) = true ∧ SeqAt.shaped (.tuple [.int x, .int y]) = true := by
  have h := ints_can [x, y]
  have c : PyData.canLay0 (.tuple [.int x, .int y]) = true := by
    have := h.1
    simp only [PyData.canLay0]
    exact this
  refine ⟨c, shaped_of c ?_⟩
  simp only [PyData.depth, PyData.depthAll]
  omega
theorem fdiv_le {x c : Int} (h : c ∣ x) (hc : c ≠ 0) : (x.fdiv c).natAbs ≤ x.natAbs := by
  obtain ⟨y, rfl⟩ := h
  rw [Int.mul_fdiv_cancel_left _ hc, Int.natAbs_mul]
  have : 1 ≤ c.natAbs := by omega
  calc y.natAbs = 1 * y.natAbs := (Nat.one_mul _).symm
    _ ≤ c.natAbs * y.natAbs := Nat.mul_le_mul_right _ this
theorem frac_small {b : Int} {fs rs : List Int} (b2 : 2 ≤ b.natAbs) (b6 : b.natAbs ≤ 6) (hn : rs ≠ []) (d1 : ∀ n ∈ fs, n.natAbs ≤ 9) (d2 : ∀ n ∈ rs, n.natAbs ≤ 9) (l1 : fs.length ≤ 400) (l2 : rs.length ≤ 12) : (fracI b fs rs).1.natAbs < 2 ^ 1800 ∧ (fracI b fs rs).2.natAbs < 2 ^ 1800 := by
  have h0 := botI_ne b2 (f := fs) hn
  have wA : (b ^ rs.length - 1).natAbs < 2 ^ 40 := two_mono (less_one (pow_lt b6 rs.length)) (by omega)
  have wF : (valI b fs).natAbs < 2 ^ 1601 := two_mono (val_two b6 d1) (by omega)
  have wR : (valI b rs).natAbs < 2 ^ 1641 := two_mono (val_two b6 d2) (by omega)
  have wP : (b ^ fs.length).natAbs < 2 ^ 1300 := two_mono (pow_lt b6 fs.length) (by omega)
  have hT : (topI b fs rs).natAbs < 2 ^ 1800 := two_mono (add_two (two_mono (wide_lt wF wA) (by decide)) wR) (by decide)
  have hB : (botI b fs rs).natAbs < 2 ^ 1800 := two_mono (wide_lt wP wA) (by decide)
  exact ⟨Nat.lt_of_le_of_lt (fdiv_le (lowC_dvd _ _).1 (lowC_ne h0)) hT, Nat.lt_of_le_of_lt (fdiv_le (lowC_dvd _ _).2 (lowC_ne h0)) hB⟩
structure Shows (d : PyData) : Prop where
  sh : d.showable = true
  nd : d.hasDict = false
  len : d.shown.length ≤ sizeLine
  dep : d.depth ≤ 40
theorem frac_shows {x y : Int} (h1 : x.natAbs < 2 ^ 1800) (h2 : y.natAbs < 2 ^ 1800) : Shows (.tuple [.int x, .int y]) := by
  have l1 := PySem.Flt.log2_lt_of (by decide : 0 < 1800) h1
  have l2 := PySem.Flt.log2_lt_of (by decide : 0 < 1800) h2
  have short : ∀ i : Int, i.natAbs.log2 < 1800 → PyData.leavesShort 1900 (.int i) = true ∧ PyData.weight (.int i) ≤ 1801 := fun i h => by
    have t := int_text_length_le (a := i) (k := 1800) (by decide) h
    refine ⟨?_, ?_⟩
    · simp only [PyData.leavesShort, decide_eq_true_eq]
      have e : (PyData.shown (.int i)).length ≤ (toString i).length := by
        show (Str.ofString (toString i)).length ≤ _
        rw [PySem.ofString_length]
        exact Nat.le_refl _
      omega
    · simp only [PyData.weight]
      split <;> omega
  obtain ⟨s1, w1⟩ := short x l1
  obtain ⟨s2, w2⟩ := short y l2
  refine ⟨?_, ?_, ?_, ?_⟩
  · simp only [PyData.showable, PyData.showableAll, Bool.and_true, Bool.and_eq_true, decide_eq_true_eq]
    omega
  · simp only [PyData.hasDict, PyData.hasDictAll, Bool.or_false]
  · have ls : PyData.leavesShort 1900 (.tuple [.int x, .int y]) = true := by
      rw [PyData.leavesShort, PyData.leavesShortAll, PyData.leavesShortAll, PyData.leavesShortAll, s1, s2]
      rfl
    have := PyData.shown_le 1900 (by decide) _ ls
    have w : PyData.weight (.tuple [.int x, .int y]) ≤ 4000 := by
      rw [PyData.weight, PyData.weightAll, PyData.weightAll, PyData.weightAll]
      omega
    rw [sizeLine_eq]
    omega
  · simp only [PyData.depth, PyData.depthAll]
    decide
theorem Shows.rep {K : PySem.W.Frag} {d : PyData} (S : Shows d) {H : Hp} {v : V} {Q : VK} (h : Dp K H v d) (q : Q (.str d.shown) H) : rReprD K [v] H Q := ⟨v, d, rfl, h, S.sh, S.nd, S.len, S.dep, q⟩
end K66
namespace K66
open PySem PySem.Spec PyProof.Rows L2 OF
section
variable {X : Cx}
theorem shn_lstE {a p : Addr} {H : Hp} {xs : List V} {ds : List PyData} {dp wt dp2 wt2 : Nat} (ne : p ≠ a) (e : H p = some (.lst xs)) (h : ShnAll X a H dp wt xs ds) (hd : dp + 1 ≤ dp2) (hw : (wt + 1) * xs.length + 2 ≤ wt2) : Shn X a H (.ref p) (.list ds) dp2 wt2 := by
  obtain ⟨b1, b2, b3⟩ := h.bounds
  refine ⟨fun H' t => Rp.lst (SqL.of (t _ _ ne e)) (h.rp t), ?_, ?_, ?_⟩
  · rw [PyData.depth]
    omega
  · simpa only [PyData.leavesShort] using b2
  · rw [PyData.weight]
    omega
theorem rep_lst {a l : Addr} {H : Hp} {ys : List V} {ds : List PyData} {Q : VK} (e : H l = some (.lst ys)) (h : ShnAll X a H 8 20000 ys ds) (n : ys.length ≤ 4) (q : Q (.str (PyData.list ds).shown) H) : rRepr X [.ref l] H Q := by
  obtain ⟨b1, b2, b3⟩ := h.bounds
  refine ⟨l, _, ds, rfl, SqL.of e, h.rp But.refl, by omega, ?_, q⟩
  have := PyData.shown_le 60 (by decide) (.list ds) (by simpa only [PyData.leavesShort] using b2)
  rw [PyData.weight] at this
  rw [sizeLine_eq]
  omega
theorem ShnAll.but {a : Addr} {H H' : Hp} {dp wt : Nat} {vs : List V} {ds : List PyData} (h : ShnAll X a H dp wt vs ds) (t : But a H H') : ShnAll X a H' dp wt vs ds := by
  induction h with
  | nil => exact .nil
  | cons h3 _ ih => exact .cons (h3.but t) ih
end
/-! ### what stands in the place of the front and of the ring -/
theorem norow_same {a : Addr} {H : Hp} {ds : List Int} {ps : List (Int × Int)} {p : Addr} {xs : List V} (np : p ≠ a) (e : H p = some (.tup xs)) (l : xs.length ≤ 1000) (it : ∀ H2, But a H H2 → ∀ v ∈ xs, ItemOk H2 v) (no : ∀ ns : List Int, xs = ns.map V.int → rowP ds ps ns = false) : ∀ H2, But a H H2 → NoRow H2 ds ps (.ref p) :=
  fun H2 t => .inr ⟨p, xs, rfl, t _ _ np e, l, it H2 t, no⟩
structure WrongV (K : PySem.W.Frag) (a : Addr) (H : Hp) (ds : List Int) (ps : List (Int × Int)) (v : V) : Prop where
  dat : ∃ d, (∀ H2, But a H H2 → Dp K H2 v d) ∧ SeqAt.shaped d = true ∧ ((PyData.eqv d (.tuple []) = false ∧ ∀ H2, But a H H2 → NoRow H2 ds ps v) ∨ (PyData.eqv d (.tuple []) = true ∧ ∃ p, v = .ref p ∧ ∀ H2, But a H H2 → H2 p = some (.tup [])))
  shn : ∀ X : Cx, ∃ d, Shn X a H v d 5 4000
structure BadV (a : Addr) (H : Hp) (ds : List Int) (ps : List (Int × Int)) (v : V) : Prop where
  no : (∀ H2, But a H H2 → NoRow H2 ds ps v) ∨ ∃ p, v = .ref p ∧ ∀ H2, But a H H2 → H2 p = some (.tup [])
  shn : ∀ X : Cx, ∃ d, Shn X a H v d 5 4000
theorem WrongV.but {K : PySem.W.Frag} {a : Addr} {H H' : Hp} {ds : List Int} {ps : List (Int × Int)} {v : V} (h : WrongV K a H ds ps v) (t : But a H H') : WrongV K a H' ds ps v := by
  obtain ⟨⟨d, d1, d2, d3⟩, s⟩ := h
  refine ⟨⟨d, fun H2 t2 => d1 H2 (t.trans t2), d2, ?_⟩, fun X => ?_⟩
  · rcases d3 with ⟨e, n⟩ | ⟨e, p, ev, n⟩
    · exact .inl ⟨e, fun H2 t2 => n H2 (t.trans t2)⟩
    · exact .inr ⟨e, p, ev, fun H2 t2 => n H2 (t.trans t2)⟩
  · obtain ⟨d, h⟩ := s X
    exact ⟨d, h.but t⟩
theorem BadV.but {a : Addr} {H H' : Hp} {ds : List Int} {ps : List (Int × Int)} {v : V} (h : BadV a H ds ps v) (t : But a H H') : BadV a H' ds ps v := by
  obtain ⟨n, s⟩ := h
  refine ⟨?_, fun X => ?_⟩
  · rcases n with n | ⟨p, ev, n⟩
    · exact .inl fun H2 t2 => n H2 (t.trans t2)
    · exact .inr ⟨p, ev, fun H2 t2 => n H2 (t.trans t2)⟩
  · obtain ⟨d, h⟩ := s X
    exact ⟨d, h.but t⟩
theorem OddV.but {a : Addr} {H H' : Hp} {v : V} (h : OddV a H v) (t : But a H H') : OddV a H' v := ⟨fun H2 t2 => h.item H2 (t.trans t2), fun X => by
  obtain ⟨d, h⟩ := h.shn X
  exact ⟨d, h.but t⟩⟩
theorem eqv_ints_nil (ns : List Int) : PyData.eqv (.tuple (ns.map .int)) (.tuple []) = decide (ns = []) := eqv_nil ns
/-- a tuple of digits that is no row -/
theorem row_wrong {K : PySem.W.Frag} {a p : Addr} {H : Hp} {ds : List Int} {ps : List (Int × Int)} {ns : List Int} (np : p ≠ a) (e : H p = some (.tup (ns.map V.int))) (l1 : 1 ≤ ns.length) (l : ns.length ≤ 3) (sm : ∀ k ∈ ns, smI k = true) (no : rowP ds ps ns = false) : WrongV K a H ds ps (.ref p) := by
  refine ⟨⟨.tuple (ns.map .int), fun H2 t => .tup (SqT.of (t _ _ np e)) (dp_ints ns), ints_shapedT ns, .inl ⟨?_, ?_⟩⟩, fun X => ?_⟩
  · rw [eqv_ints_nil]
    exact decide_eq_false fun h => by
      rw [h] at l1
      cases l1
  · exact norow_same np e (by rw [List.length_map]; omega) (fun H2 _ => ints_item ns) fun ms em => by
      rw [← ints_inj em]
      exact no
  · refine ⟨_, shn_tupE np e (shn_ints sm) (by decide) ?_⟩
    rw [List.length_map]
    omega
theorem row_bad {a p : Addr} {H : Hp} {ds : List Int} {ps : List (Int × Int)} {ns : List Int} (np : p ≠ a) (e : H p = some (.tup (ns.map V.int))) (l1 : 1 ≤ ns.length) (l : ns.length ≤ 3) (sm : ∀ k ∈ ns, smI k = true) (no : rowP ds ps ns = false) : BadV a H ds ps (.ref p) := by
  refine ⟨.inl (norow_same np e (by rw [List.length_map]; omega) (fun H2 _ => ints_item ns) fun ms em => ?_), fun X => ?_⟩
  · rw [← ints_inj em]
    exact no
  · refine ⟨_, shn_tupE np e (shn_ints sm) (by decide) ?_⟩
    rw [List.length_map]
    omega
end K66
namespace K66
open PySem PySem.Spec PyProof.Rows L2 OF
section
variable {K : PySem.W.Frag} {a p : Addr} {H : Hp} {ds : List Int} {ps : List (Int × Int)}
/-! ### the values that stand in the places of the front and of the ring -/
theorem wrong_non : WrongV K a H ds ps .non := ⟨⟨.none, fun _ _ => .non, by decide +kernel, .inl ⟨by decide +kernel, fun _ _ => .inl (.no .non)⟩⟩, fun X => ⟨_, shn_non.mono (by decide) (by decide)⟩⟩
theorem wrong_seven : WrongV K a H ds ps (.int 7) := ⟨⟨.int 7, fun _ _ => .int _, by decide +kernel, .inl ⟨by decide +kernel, fun _ _ => .inl (.no (.int _))⟩⟩, fun X => ⟨_, (shn_int (by decide)).mono (by decide) (by decide)⟩⟩
theorem wrong_zero : WrongV K a H ds ps (.str "0") := ⟨⟨.str "0", fun _ _ => .str _, by decide +kernel, .inl ⟨by decide +kernel, fun _ _ => .inl (.no (.str _))⟩⟩, fun X => ⟨_, (shn_str (by decide +kernel)).mono (by decide) (by decide)⟩⟩
theorem one_shaped {d : PyData} (c : PyData.canLay0 d = true) (h : d.depth = 0) : SeqAt.shaped (.list [d]) = true := by
  refine shaped_of ?_ ?_
  · simp only [PyData.canLay0, PyData.canLayAll0, c, Bool.and_true]
  · simp only [PyData.depth, PyData.depthAll, h]
    omega
theorem int_lay (n : Int) : PyData.canLay0 (.int n) = true := by
  have h := (ints_can [n]).1
  simp only [List.map_cons, List.map_nil, PyData.canLayAll0, Bool.and_true] at h
  exact h
theorem wrong_lst {d : Int} (np : p ≠ a) (e : H p = some (.lst [.int d])) (hd : dig d = true) : WrongV K a H ds ps (.ref p) := by
  refine ⟨⟨.list [.int d], fun H2 t => .lst (SqL.of (t _ _ np e)) (.cons (.int _) .nil), one_shaped (int_lay d) (by simp only [PyData.depth]), .inl ⟨?_, fun H2 t => .inl (.lst (t _ _ np e))⟩⟩, fun X => ?_⟩
  · simp [PyData.eqv]
  · exact ⟨_, shn_lstE np e (.cons (shn_int (dig_sm hd)) .nil) (by decide) (by show 21 * 1 + 2 ≤ 4000; decide)⟩
theorem wrong_ten (np : p ≠ a) (e : H p = some (.tup [.int 10])) (hd : ∀ d ∈ ds, dig d = true) : WrongV K a H ds ps (.ref p) := by
  refine row_wrong (ns := [10]) np e (by decide) (by decide) (fun k hk => ?_) ?_
  · rw [List.mem_singleton.mp hk]
    decide
  · exact decide_eq_false fun h => by
      have := hd _ h
      revert this
      decide
theorem wrong_true (np : p ≠ a) (e : H p = some (.tup [.bl true])) : WrongV K a H ds ps (.ref p) := by
  refine ⟨⟨.tuple [.bool true], fun H2 t => .tup (SqT.of (t _ _ np e)) (.cons (.bl _) .nil), by decide +kernel, .inl ⟨by decide +kernel, ?_⟩⟩, fun X => ?_⟩
  · refine norow_same np e (by decide) (fun H2 t v hv => ?_) fun ns en => ?_
    · rw [List.mem_singleton.mp hv]
      exact .inr (.bl true)
    · cases ns with
      | nil => cases en
      | cons n l => cases en
  · exact ⟨_, shn_tupE np e (.cons shn_bl .nil) (by decide) (by show 21 * 1 + 2 ≤ 4000; decide)⟩
theorem wrong_pair {d : Int} (np : p ≠ a) (e : H p = some (.tup [.int d, .non])) (hd : dig d = true) : WrongV K a H ds ps (.ref p) := by
  refine ⟨⟨.tuple [.int d, .none], fun H2 t => .tup (SqT.of (t _ _ np e)) (.cons (.int _) (.cons .non .nil)), ?_, .inl ⟨?_, ?_⟩⟩, fun X => ?_⟩
  · refine shaped_of ?_ ?_
    · simp only [PyData.canLay0, PyData.canLayAll0, int_lay d, Bool.and_true]
    · simp only [PyData.depth, PyData.depthAll]
      omega
  · simp [PyData.eqv, PyData.eqvAll]
  · refine norow_same np e (by show 2 ≤ 1000; decide) (fun H2 t v hv => ?_) fun ns en => ?_
    · simp only [List.mem_cons, List.not_mem_nil, or_false] at hv
      rcases hv with rfl | rfl
      · exact .inl ⟨_, rfl⟩
      · exact .inr .non
    · cases ns with
      | nil => cases en
      | cons n l =>
        cases l with
        | nil => cases en
        | cons n2 l => cases en
  · exact ⟨_, shn_tupE np e (.cons (shn_int (dig_sm hd)) (.cons shn_non .nil)) (by decide) (by show 21 * 2 + 2 ≤ 4000; decide)⟩
theorem wrong_nil (np : p ≠ a) (e : H p = some (.tup [])) : WrongV K a H ds ps (.ref p) :=
  ⟨⟨.tuple [], fun H2 t => .tup (SqT.of (t _ _ np e)) .nil, by decide +kernel, .inr ⟨by decide +kernel, p, rfl, fun H2 t => t _ _ np e⟩⟩, fun X => ⟨_, shn_tupE (dp := 1) (wt := 20) np e .nil (by decide) (by decide)⟩⟩
theorem bad_non : BadV a H ds ps .non := ⟨.inl fun _ _ => .inl (.no .non), fun X => ⟨_, shn_non.mono (by decide) (by decide)⟩⟩
theorem bad_seven : BadV a H ds ps (.int 7) := ⟨.inl fun _ _ => .inl (.no (.int _)), fun X => ⟨_, (shn_int (by decide)).mono (by decide) (by decide)⟩⟩
theorem bad_lst (np : p ≠ a) (e : H p = some (.lst [.int 0])) : BadV a H ds ps (.ref p) :=
  ⟨.inl fun H2 t => .inl (.lst (t _ _ np e)), fun X => ⟨_, shn_lstE np e (.cons (shn_int (by decide)) .nil) (by decide) (by show 21 * 1 + 2 ≤ 4000; decide)⟩⟩
theorem bad_tup (np : p ≠ a) (e : H p = some (.tup [.non])) : BadV a H ds ps (.ref p) := by
  refine ⟨.inl (norow_same np e (by decide) (fun H2 t v hv => ?_) fun ns en => ?_), fun X => ?_⟩
  · rw [List.mem_singleton.mp hv]
    exact .inr .non
  · cases ns with
    | nil => cases en
    | cons n l => cases en
  · exact ⟨_, shn_tupE np e (.cons shn_non .nil) (by decide) (by show 21 * 1 + 2 ≤ 4000; decide)⟩
theorem bad_nil (np : p ≠ a) (e : H p = some (.tup [])) : BadV a H ds ps (.ref p) := ⟨.inr ⟨p, rfl, fun H2 t => t _ _ np e⟩, fun X => ⟨_, shn_tupE (dp := 1) (wt := 20) np e .nil (by decide) (by decide)⟩⟩
theorem bad_dct (np : p ≠ a) (e : H p = some (.dK [])) : BadV a H ds ps (.ref p) := ⟨.inl fun H2 t => .inl (.no (.dK (t _ _ np e))), fun X => ⟨_, (shn_dct np e).mono (by decide) (by decide)⟩⟩
end
theorem rep_bnd {X : Cx} {a : Addr} {H : Hp} {ys : List V} {ds : List PyData} (h : ShnAll X a H 8 20000 ys ds) (n : ys.length ≤ 4) : PyData.depthAll ds ≤ 8 ∧ (PyData.list ds).shown.length ≤ sizeLine := by
  obtain ⟨b1, b2, b3⟩ := h.bounds
  refine ⟨b1, ?_⟩
  have := PyData.shown_le 60 (by decide) (.list ds) (by simpa only [PyData.leavesShort] using b2)
  rw [PyData.weight] at this
  rw [sizeLine_eq]
  omega
theorem item_shn {X : Cx} {a l : Addr} {H : Hp} {z : Str} {v : V} {d : PyData} (ne : l ≠ a) (e : H l = some (.lst [.str z, v])) (hz : smT z = true) (h : Shn X a H v d 5 4000) : Shn X a H (.ref l) (.list [.str z, d]) 8 20000 :=
  shn_lstE ne e (.cons ((shn_txt hz).mono (by decide) (by decide)) (.cons h .nil)) (by decide) (by show 4001 * 2 + 2 ≤ 20000; decide)
section
variable {C o : Addr} {a : Addr} {H : Hp} {b : Int} {ds : List Int} {ps : List (Int × Int)} {u z : V} {Q : VK} {E : XK}
theorem bad_call {q : Addr} (S : IsS C H o b ds ps) (e : H q = some (.tup [])) (hz : BadV a H ds ps z) (k : ∀ l H', Same H H' → H' l = some (.lst [.str "row", z]) → Q (.ref l) H') : spRefused C [.ref o, .ref q, z] H Q E := by
  refine ⟨.ref o, .ref q, z, rfl, .inr ⟨o, b, ds, ps, rfl, S, .inr ⟨q, [], rfl, e, by decide, rfl, ?_⟩⟩⟩
  rcases hz.no with n | ⟨r, rfl, n⟩
  · exact .inl ⟨n H But.refl, k⟩
  · exact .inr ⟨r, [], rfl, n H But.refl, by decide, rfl, .inl ⟨.inl rfl, k⟩⟩
theorem wrong_call {c : Bool} (S : IsS C H o b ds ps) (hu : (c = false ∧ ∀ H2, But a H H2 → NoRow H2 ds ps u) ∨ (c = true ∧ ∃ p, u = .ref p ∧ ∀ H2, But a H H2 → H2 p = some (.tup []))) (hz : BadV a H ds ps z) (k : ∀ l H', Same H H' → H' l = some (.lst [.str "row", if c = true then z else u]) → Q (.ref l) H') : spRefused C [.ref o, u, z] H Q E := by
  rcases hu with ⟨rfl, n⟩ | ⟨rfl, p, rfl, n⟩
  · exact ⟨.ref o, u, z, rfl, .inr ⟨o, b, ds, ps, rfl, S, .inl ⟨n H But.refl, k⟩⟩⟩
  · exact bad_call S (n H But.refl) hz k
end
theorem nil_of {σ : L2.St} {H : Hp} {k : List V → Hp → Prop} (h : k [] H) : tNil σ H k := h
theorem box_ne_str {n : Int} {H : Hp} {a p : Addr} {z : Str} {v : V} (B : Box n H a) (e : H p = some (.lst [.str z, v])) : p ≠ a := fun c => by
  obtain ⟨b0, b1, b2, h, _⟩ := B
  rw [c, h] at e
  cases e
end K66
namespace K66
open PySem PySem.Spec PyProof.Rows L2 OF
section
variable {P : Program} {w : World} {K : PySem.W.Frag} {mg : Str → Option Value} {base : Heap}
/-! ### the law -/
theorem seq_but {a p : Addr} {H H' : Hp} {xs : List V} (t : But a H H') (n : p ≠ a) (h : SqL K H p xs) : SqL K H' p xs := But.seqL t n h
def spLaw (K : PySem.W.Frag) : Sp := fun vs H Q _ => ∃ (a : Addr) (ns : List Int), vs = [.ref a] ∧ SqL K H a (ns.map V.int) ∧ ns.length ≤ 63 ∧ ∀ H', Q (.bl true) H'
abbrev nL : List Str := ["_law_script", "_law_k", "_law_box_here", "_law_draft_here", "_law_scheme_here", "_law_turn", "_law_far", "_law_front", "_law_ring", "_law_due_here", "_law_wrong", "_law_odd", "_law_bad", "_law_told"]
theorem scL : FnScope nL ["_law_script"] (defScope sLaw) := ⟨rfl, rfl, rfl, by decide +kernel, rfl, by decide +kernel, by decide +kernel⟩
structure Mw (C a : Addr) (H H' : Hp) (n : Int) (o : Addr) (b : Int) (ds : List Int) (ps : List (Int × Int)) : Prop where
  t : But a H H'
  B : Box n H' a
  S : IsS C H' o b ds ps
theorem IsS.stay {C s a : Addr} {H H' : Hp} {b : Int} {ds : List Int} {ps : List (Int × Int)} (h : IsS C H s b ds ps) (l : LstAt H a) (z : But a H H') : IsS C H' s b ds ps := by
  obtain ⟨G, t, r, ks, e, ⟨⟨dx, h1⟩, h2, h3, h4⟩⟩ := h
  exact ⟨G, t, r, ks, e, ⟨dx, z _ _ (l.ne h1 fun _ y => by cases y) h1⟩, z _ _ (l.ne h2 fun _ y => by cases y) h2, z _ _ (l.ne h3 fun _ y => by cases y) h3, fun p hp => z _ _ (l.ne (h4 p hp) fun _ y => by cases y) (h4 p hp)⟩
theorem Mw.mono {C a : Addr} {H H1 : Hp} {n n2 : Int} {o : Addr} {b : Int} {ds : List Int} {ps : List (Int × Int)} (W : Mw C a H H1 n o b ds ps) (h : n ≤ n2) : Mw C a H H1 n2 o b ds ps := ⟨W.t, W.B.mono h, W.S⟩
theorem Mw.same {C a : Addr} {H H1 H2 : Hp} {n : Int} {o : Addr} {b : Int} {ds : List Int} {ps : List (Int × Int)} (W : Mw C a H H1 n o b ds ps) (s : Same H1 H2) : Mw C a H H2 n o b ds ps := ⟨W.t.trans (But.of_same s), W.B.same s, W.S.same s⟩
theorem Mw.but {C a : Addr} {H H1 H2 : Hp} {n n2 : Int} {o : Addr} {b : Int} {ds : List Int} {ps : List (Int × Int)} (W : Mw C a H H1 n o b ds ps) (t : But a H1 H2) (B : Box n2 H2 a) : Mw C a H H2 n2 o b ds ps := ⟨W.t.trans t, B, W.S.stay (box_lst W.B) t⟩
theorem dat_ne {K : PySem.W.Frag} {H : Hp} {x y : V} {d : PyData} {Q : VK} (h1 : Dp K H x d) (h2 : Dp K H y d) (sh : PyData.canLay0 d = true ∧ SeqAt.shaped d = true) (q : Q (.bl false) H) : rNeD K x y H Q := by
  refine ⟨_, _, h1, h2, sh.2, sh.2, ?_⟩
  rw [SeqAt.eqv_refl _ sh.1]
  exact q
set_option maxHeartbeats 8000000 in
theorem ok_law {f fT fC fX fD fS fR fW fF fU fE fO fV C CN CR : Addr} {fd fdT fdC fdX fdD fdS fdR fdW fdF fdU fdE fdO fdV : FuncData} (F : Fun K "law" "law" sLaw f fd)
    (FC : Fun K "_law_cell" "_law_cell" sCell fC fdC) (gC : mg "_law_cell" = some (.ref fC)) (bC : Binds K fdC ["_law_script", "_law_k"] [])
    (FX : Fun K "_law_box" "_law_box" sBox fX fdX) (gX : mg "_law_box" = some (.ref fX)) (bX : Binds K fdX ["_law_cell_here"] [])
    (FT : Fun K "_law_take" "_law_take" sTake fT fdT) (gT : mg "_law_take" = some (.ref fT)) (bT : Binds K fdT ["_law_box_here", "_law_many"] [])
    (GD : FnOk P w K mg base CX0 3 fD fdD ["_law_box_here", "_law_most"] spDraft) (gD : mg "_law_draft" = some (.ref fD)) (kD : PySem.W.keepIn K (.ref fD) = true) (bD : Binds K fdD ["_law_box_here", "_law_most"] [])
    (GS : FnOk P w K mg base CX0 9 fS fdS ["_law_box_here", "_law_draft_here"] (spSchemeL C)) (gS : mg "_law_scheme" = some (.ref fS)) (kS : PySem.W.keepIn K (.ref fS) = true) (bS : Binds K fdS ["_law_box_here", "_law_draft_here"] [])
    (GW : FnOk P w K mg base CX0 2 fW fdW ["_law_box_here", "_law_draft_here", "_law_size"] spDrawn) (gW : mg "_law_drawn" = some (.ref fW)) (kW : PySem.W.keepIn K (.ref fW) = true) (bW : Binds K fdW ["_law_box_here", "_law_draft_here", "_law_size"] [])
    (GU : FnOk P w K mg base CX0 2 fU fdU ["_law_draft_here", "_law_front", "_law_ring"] spDue) (gU : mg "_law_due" = some (.ref fU)) (kU : PySem.W.keepIn K (.ref fU) = true) (bU : Binds K fdU ["_law_draft_here", "_law_front", "_law_ring"] [])
    (GV : FnOk P w K mg base CX0 2 fV fdV ["_law_base", "_law_front", "_law_ring"] spFraction) (gV : mg "_law_fraction" = some (.ref fV)) (kV : PySem.W.keepIn K (.ref fV) = true) (bV : Binds K fdV ["_law_base", "_law_front", "_law_ring"] [])
    (GF : FnOk P w K mg base (L2.CX P w) 8 fF fdF ["scheme", "front", "ring"] (spFrac C CN CR)) (gF : mg "fraction_of" = some (.ref fF)) (kF : PySem.W.keepIn K (.ref fF) = true) (bF : Binds K fdF ["scheme", "front", "ring"] [])
    (GR : FnOk P w K mg base CX0 9 fR fdR ["_law_one", "_law_two", "_law_three"] (spRefused C)) (gR : mg "_law_refused" = some (.ref fR)) (kR : PySem.W.keepIn K (.ref fR) = true) (bR : Binds K fdR ["_law_one", "_law_two", "_law_three"] [])
    (GE : FnOk P w K mg base CX0 2 fE fdE ["_law_box_here"] spOddS) (gE : mg "_law_odd_scheme" = some (.ref fE)) (kE : PySem.W.keepIn K (.ref fE) = true) (bE : Binds K fdE ["_law_box_here"] [])
    (GO : FnOk P w K mg base CX0 2 fO fdO ["_law_box_here", "_law_draft_here"] spOddR) (gO : mg "_law_odd_row" = some (.ref fO)) (kO : PySem.W.keepIn K (.ref fO) = true) (bO : Binds K fdO ["_law_box_here", "_law_draft_here"] [])
    (mi : mg "int" = none) (ml : mg "len" = none) (mr : mg "range" = none) (mx : mg "max" = none) (mn : mg "min" = none) (mrp : mg "repr" = none) : FnG P w K mg base 10 f fd ["_law_script"] (spLaw K) := by
  have GC : FnOk P w K mg base CX0 1 fC fdC ["_law_script", "_law_k"] (OF.spCell K) := ok_cell FC ml
  have GX : FnOk P w K mg base CX0 1 fX fdX ["_law_cell_here"] spBox := ok_box FX mi mx
  have GT : FnOk P w K mg base CX0 1 fT fdT ["_law_box_here", "_law_many"] spTake := ok_take FT mi
  refine okG F scL (fun vs H Q E h => ?_) (fun cdv A outer s H vs Q E gu hr h => ?_)
  · obtain ⟨a, ns, rfl, _⟩ := h
    rfl
  · obtain ⟨a, ns, rfl, hS, hlen, q⟩ := h
    have hr1 : Room 1 _ := hr.mono (by decide)
    have hr2 : Room 2 _ := hr.mono (by decide)
    have hr3 : Room 3 _ := hr.mono (by decide)
    have hr8 : Room 8 _ := hr.mono (by decide)
    apply Exists.intro
    apply And.intro
    · apply pss_cons
      · apply ps_for
        · exact PassesOwn.never
        · exact rfl
        · exact (pi_range1 rfl mr (pa_cons (pe_callB (call_max2 rfl) (by rfl) mx PyProof.Rows.boot_max (pa_cons pe_int (pa_cons
            (pe_callB (call_min2 rfl) (by rfl) mn PyProof.Rows.boot_min (pa_cons pe_int (pa_cons (pe_callB call_len_seq (by rfl) ml PySem.boot_len (pa_cons (pv 0) pa_nil)) pa_nil))) pa_nil))) pa_nil))
        · exact (pg_name (i := 1) scL.nd rfl (.inl rfl))
        apply pss_cons
        · exact ps_set (i := 2) scL.nd rfl (.inl rfl) (pe_call GX hr1 (by rfl) gX FX.kp bX .nil pass0 (pa_cons (pe_call GC hr1 (by rfl) gC FC.kp bC .nil pass0 (pa_cons (pv 0) (pa_cons (pv 1) pa_nil))) pa_nil))
        apply pss_cons
        · exact ps_set (i := 3) scL.nd rfl (.inl rfl) (pe_call GD hr3 (by rfl) gD kD bD .nil pass0 (pa_cons (pv 2) (pa_cons pe_int pa_nil)))
        apply pss_cons
        · exact ps_set (i := 4) scL.nd rfl (.inl rfl) (pe_call GS hr (by rfl) gS kS bS .nil pass0 (pa_cons (pv 2) (pa_cons (pv 3) pa_nil)))
        apply pss_one
        · apply ps_for
          · exact PassesOwn.never
          · exact rfl
          · exact (pi_range1 rfl mr (pa_cons pe_int pa_nil))
          · exact (pg_name (i := 5) scL.nd rfl (.inl rfl))
          apply pss_cons
          · exact ps_set (i := 6) scL.nd rfl (.inl rfl) (pe_ix ix_list (pe_lst (pa_cons (pe_call GT hr1 (by rfl) gT FT.kp bT .nil pass0 (pa_cons (pv 2) (pa_cons pe_int pa_nil))) (pa_cons pe_int pa_nil))) (pe_callTy call_int1 (by rfl) mi PyProof.Rows.boot_int (pa_cons (pe_cmpR op_eq (pe_call GT hr1 (by rfl) gT FT.kp bT .nil pass0 (pa_cons (pv 2) (pa_cons pe_int pa_nil))) pe_int (nomark _)) pa_nil)) (fun _ _ => rfl))
          apply pss_cons
          · exact ps_par (i := 7) (j := 8) rfl scL.nd rfl rfl (by decide) rfl rfl (pa_cons (pe_call GW hr2 (by rfl) gW kW bW .nil pass0 (pa_cons (pv 2) (pa_cons (pv 3) (pa_cons (pv 6) pa_nil)))) (pa_cons (pe_call GW hr2 (by rfl) gW kW bW .nil pass0 (pa_cons (pv 2) (pa_cons (pv 3) (pa_cons (pe_op op_add pe_int (pe_call GT hr1 (by rfl) gT FT.kp bT .nil pass0 (pa_cons (pv 2) (pa_cons pe_int pa_nil)))) pa_nil)))) pa_nil)) (by rfl)
          apply C8.pss_cut
          · exact ps_if (PW.pt (pw_and (pt_cmpR (op_eqD hr.units) (pe_call GU hr2 (by rfl) gU kU bU .nil pass0 (pa_cons (pv 3) (pa_cons (pv 7) (pa_cons (pv 8) pa_nil)))) (pe_lst (pa_cons pe_str pa_nil)) (nomark _)) (pw_and1 (pt_cmpR op_lt (pe_callB call_len_seq (by rfl) ml PySem.boot_len (pa_cons (pe_op op_cat2 (pv 7) (pv 8)) pa_nil)) pe_int (nomark _)))))
              (pss_cons (ps_set (i := 9) scL.nd rfl (.inl rfl) (pe_call GV hr2 (by rfl) gV kV bV .nil pass0 (pa_cons (pe_ix ix_list (pv 3) pe_int (fun _ _ => rfl)) (pa_cons (pv 7) (pa_cons (pv 8) pa_nil)))))
              (pss_cons (ps_if (pt_cmpR op_ne (pe_callB (call_reprD gu hr.units) (by rfl) mrp PyProof.Rows.boot_repr (pa_cons (pe_call GF hr8 (by rfl) gF kF bF .nil passNo (pa_cons (pv 4) (pa_cons (pv 7) (pa_cons (pv 8) pa_nil)))) pa_nil)) (pe_callB (call_reprD gu hr.units) (by rfl) mrp PyProof.Rows.boot_repr (pa_cons (pv 9) pa_nil)) (nomark _)) (pss_one (ps_ret pe_bl)) pss_nil)
              (pss_cons (ps_if (pt_cmpR (op_neD hr.units) (pe_call GF hr8 (by rfl) gF kF bF .nil passNo (pa_cons (pv 4) (pa_cons (pe_op op_cat2 (pv 7) (pv 8)) (pa_cons (pv 8) pa_nil)))) (pv 9) (nomark _)) (pss_one (ps_ret pe_bl)) pss_nil)
              (pss_one (ps_if (pt_cmpR (op_neD hr.units) (pe_call GF hr8 (by rfl) gF kF bF .nil passNo (pa_cons (pv 4) (pa_cons (pv 7) (pa_cons (pe_op op_cat2 (pv 8) (pv 8)) pa_nil)))) (pv 9) (nomark _)) (pss_one (ps_ret pe_bl)) pss_nil)))))
              (pss_one (ps_if (pt_cmpR (op_eqD hr.units) (pe_call GU hr2 (by rfl) gU kU bU .nil pass0 (pa_cons (pv 3) (pa_cons (pv 7) (pa_cons (pv 8) pa_nil)))) (pe_lst (pa_cons pe_str pa_nil)) (nomark _))
                (pss_one (ps_if (pt_cmpR (op_neD hr.units) (pe_call GF hr8 (by rfl) gF kF bF .nil passNo (pa_cons (pv 4) (pa_cons (pv 7) (pa_cons (pv 8) pa_nil)))) (pe_call GV hr2 (by rfl) gV kV bV .nil pass0 (pa_cons (pe_ix ix_list (pv 3) pe_int (fun _ _ => rfl)) (pa_cons (pv 7) (pa_cons (pv 8) pa_nil)))) (nomark _)) (pss_one (ps_ret pe_bl)) pss_nil))
                (pss_one (ps_if (pt_cmpR (op_neD hr.units) (pe_call GR hr (by rfl) gR kR bR .nil pass0 (pa_cons (pv 4) (pa_cons (pv 7) (pa_cons (pv 8) pa_nil)))) (pe_call GU hr2 (by rfl) gU kU bU .nil pass0 (pa_cons (pv 3) (pa_cons (pv 7) (pa_cons (pv 8) pa_nil)))) (nomark _)) (pss_one (ps_ret pe_bl)) pss_nil))))
          apply pss_cons
          · exact ps_set (i := 10) scL.nd rfl (.inl rfl) (pe_lst (pa_cons pe_non (pa_cons pe_int (pa_cons (pe_lst (pa_cons (pe_ix ix_list (pe_ix ix_list (pv 3) pe_int (fun _ _ => rfl)) pe_int (fun _ _ => rfl)) pa_nil)) (pa_cons (pe_tup (pa_cons pe_int pa_nil)) (pa_cons (pe_tup (pa_cons pe_bl pa_nil)) (pa_cons pe_str (pa_cons (pe_tup (pa_cons (pe_ix ix_list (pe_ix ix_list (pv 3) pe_int (fun _ _ => rfl)) pe_int (fun _ _ => rfl)) (pa_cons pe_non pa_nil))) (pa_cons (pe_tup pa_nil) pa_nil)))))))))
          apply C8.pss_cut
          · exact ps_set (i := 10) scL.nd rfl (.inl rfl) (pe_ix ix_list (pe_op op_cat (pv 10) (pe_lst (pa_cons (pe_call GO hr2 (by rfl) gO kO bO .nil pass0 (pa_cons (pv 2) (pa_cons (pv 3) pa_nil))) (pa_cons (pe_call GO hr2 (by rfl) gO kO bO .nil pass0 (pa_cons (pv 2) (pa_cons (pv 3) pa_nil))) pa_nil)))) (pe_call GT hr1 (by rfl) gT FT.kp bT .nil pass0 (pa_cons (pv 2) (pa_cons pe_int pa_nil))) (fun _ _ => rfl))
          apply pss_cons
          · exact ps_set (i := 11) scL.nd rfl (.inl rfl) (pe_call GE hr2 (by rfl) gE kE bE .nil pass0 (pa_cons (pv 2) pa_nil))
          apply C8.pss_cut
          · exact ps_set (i := 12) scL.nd rfl (.inl rfl) (pe_ix ix_list (pe_lst (pa_cons pe_non (pa_cons pe_int (pa_cons (pe_lst (pa_cons pe_int pa_nil)) (pa_cons (pe_tup (pa_cons pe_non pa_nil)) (pa_cons (pe_tup pa_nil) (pa_cons pe_dnewK (pa_cons (pe_call GO hr2 (by rfl) gO kO bO .nil pass0 (pa_cons (pv 2) (pa_cons (pv 3) pa_nil))) pa_nil)))))))) (pe_call GT hr1 (by rfl) gT FT.kp bT .nil pass0 (pa_cons (pv 2) (pa_cons pe_int pa_nil))) (fun _ _ => rfl))
          apply pss_cons
          · exact ps_set (i := 13) scL.nd rfl (.inl rfl) (pe_lst (pa_cons (pe_call GR hr (by rfl) gR kR bR .nil pass0 (pa_cons (pv 11) (pa_cons (pv 10) (pa_cons (pv 12) pa_nil)))) (pa_cons (pe_call GR hr (by rfl) gR kR bR .nil pass0 (pa_cons (pv 4) (pa_cons (pv 10) (pa_cons (pv 12) pa_nil)))) (pa_cons (pe_call GR hr (by rfl) gR kR bR .nil pass0 (pa_cons (pv 4) (pa_cons (pe_tup pa_nil) (pa_cons (pv 12) pa_nil)))) pa_nil))))
          apply pss_one
          · exact ps_if (pt_cmpR op_ne (pe_callB (call_reprL gu hr.units) (by rfl) mrp PyProof.Rows.boot_repr (pa_cons (pv 13) pa_nil)) (pe_callB (call_reprL gu hr.units) (by rfl) mrp PyProof.Rows.boot_repr (pa_cons (pe_lst (pa_cons (pe_lst (pa_cons pe_str (pa_cons (pv 11) pa_nil))) (pa_cons (pe_lst (pa_cons pe_str (pa_cons (pe_ix ix_list (pe_lst (pa_cons (pv 10) (pa_cons (pv 12) pa_nil))) (pe_callTy call_int1 (by rfl) mi PyProof.Rows.boot_int (pa_cons (pe_cmpR (op_eqD hr.units) (pv 10) (pe_tup pa_nil) (nomark _)) pa_nil)) (fun _ _ => rfl)) pa_nil))) (pa_cons (pe_lst (pa_cons pe_str (pa_cons (pv 12) pa_nil))) pa_nil)))) pa_nil)) (nomark _)) (pss_one (ps_ret pe_bl)) pss_nil
          · intro _; rfl
        · intro _; rfl
      apply pss_one
      · exact ps_ret pe_bl
    refine ⟨.ref a, rfl, a, _, rfl, .inl hS, _, _, rfl, _, _, rfl, _, rfl, ?_, ?_, for_range (lo := 0) (n := _) (fun i σ H' => (∃ v1 v2 v3 v4 v5 v6 v7 v8 v9 v10 v11 v12 v13, σ = [some (.ref a), v1, v2, v3, v4, v5, v6, v7, v8, v9, v10, v11, v12, v13]) ∧ SqL K H' a (ns.map V.int)) ⟨⟨none, none, none, none, none, none, none, none, none, none, none, none, none, rfl⟩, hS⟩ ?_ ?_⟩
    · rw [List.length_map]
      split <;> split <;> omega
    · rw [List.length_map]
      split <;> split <;> omega
    case refine_4 =>
      rintro σ H' ⟨⟨v1, v2, v3, v4, v5, v6, v7, v8, v9, v10, v11, v12, v13, rfl⟩, hS'⟩
      exact q H'
    rintro i σ H' hi ⟨⟨v1, v2, v3, v4, v5, v6, v7, v8, v9, v10, v11, v12, v13, rfl⟩, hS'⟩
    have hi' : i < 1000 := by
      rw [List.length_map] at hi
      split at hi <;> split at hi <;> omega
    refine ⟨.ref a, rfl, .int (0 + i), rfl, a, ns, i, ?_, hS', hi', fun c => ?_⟩
    · rw [Int.zero_add]
      rfl
    refine ⟨c, rfl, fun p H1 hp s1 B1 => ?_⟩
    refine ⟨.ref p, rfl, p, 0, rfl, B1, by decide, fun m b ds ps H2 t2 B2 G Mm => ?_⟩
    have Mm0 := Mm
    obtain ⟨dl, pl, ks, rfl, MA⟩ := Mm
    have h6 := G.six
    obtain ⟨b6, b2⟩ := base_ok G.b
    have hd := G.dg
    have d9 : ∀ {xs : List Int}, (∀ k ∈ xs, k ∈ ds) → ∀ k ∈ xs, k.natAbs ≤ 9 := fun h k hk => by
      have := dig_in (hd k (h k hk))
      omega
    refine ⟨.ref p, rfl, .ref m, rfl, p, m, _, b, ds, _, rfl, B2, by omega, G, Mm0, fun o H3 t3 B3 S3 => ?_⟩
    refine ⟨_, rfl, by omega, by omega, for_range (lo := 0) (n := 4) (fun j σ H' => (∃ v1 v5 v6 v7 v8 v9 v10 v11 v12 v13, σ = [some (.ref a), v1, some (.ref p), some (.ref m), some (.ref o), v5, v6, v7, v8, v9, v10, v11, v12, v13]) ∧ Mw C p H2 H' (130 + 500 * j) o b ds (ks.map (·.2))) ⟨⟨_, _, _, _, _, _, _, _, _, _, rfl⟩, t3, B3.mono (by omega), S3⟩ ?_ ?_⟩
    case refine_2 =>
      rintro σ H' ⟨⟨v1, v5, v6, v7, v8, v9, v10, v11, v12, v13, rfl⟩, W⟩
      exact ⟨⟨_, _, _, _, _, _, _, _, _, _, _, _, _, rfl⟩, seq_past hp s1 (t2.trans W.t) hS'⟩
    rintro j σ H4 hj ⟨⟨v1, v5, v6, v7, v8, v9, v10, v11, v12, v13, rfl⟩, W⟩
    -- how long the front is
    refine ⟨.ref p, rfl, p, 21, _, rfl, W.B, by omega, by decide, by decide, fun r1 J1 r10 r11 u1 C1 => ?_⟩
    refine ⟨(by show 2 ≤ sizeLine; decide), fun L hL => ?_⟩
    have nL := C1.ne hL
    refine ⟨.ref p, rfl, p, 12, _, rfl, C1.new hL, by omega, by decide, by decide, fun r2 J2 r20 r21 u2 C2 => ?_⟩
    have eL := u2 _ _ nL upd_same
    have W2 : Mw C p H2 J2 (130 + 500 * j + 1 + 1) o b ds (ks.map (·.2)) := W.but (u1.trans ((But.new hL).trans u2)) C2
    have hf : ∀ c : Bool, ∃ far : Nat, atI [V.int r1, V.int 390] (if c = true then 1 else 0) = some (.int far) ∧ far ≤ 390 := fun c => by
      cases c with
      | false =>
        refine ⟨r1.toNat, ?_, by omega⟩
        rw [show ((r1.toNat : Nat) : Int) = r1 by omega]
        exact atI_nat (j := 0) rfl
      | true => exact ⟨390, atI_nat (j := 1) rfl, Nat.le_refl _⟩
    obtain ⟨far, hfar, f390⟩ := hf (decide (V.int r2 = V.int 0))
    refine ⟨rfl, .inr ⟨_, rfl, L, _, _, .int far, rfl, rfl, SqL.of eL, hfar, ?_⟩⟩
    clear eL hf hfar u1 u2 C1 C2
    -- the front and the ring
    refine ⟨.ref p, rfl, .ref m, rfl, .int far, rfl, p, m, far, _, b, ds, _, rfl, W2.B, by omega, by omega, G, Mm0.but W2.t, fun pF fs J3 u3 C3 eF nF lF mF => ?_⟩
    refine ⟨.ref p, rfl, .ref m, rfl, .ref p, rfl, p, 12, _, rfl, C3, by omega, by decide, by decide, fun r3 J4 r30 r31 u4 C4 => ?_⟩
    refine ⟨1, r3, rfl, rfl, p, m, (1 + r3).toNat, _, b, ds, _, by rw [show (((1 + r3).toNat : Nat) : Int) = 1 + r3 by omega]; rfl, C4, by omega, by omega, G, Mm0.but (W2.t.trans (u3.trans u4)), fun pR rs J5 u5 C5 eR nR lR mR => ?_⟩
    have W5 : Mw C p H2 J5 (130 + 500 * j + 406) o b ds (ks.map (·.2)) := (W2.but (u3.trans (u4.trans u5)) C5).mono (by omega)
    have eF := u5 _ _ nF (u4 _ _ nF eF)
    refine ⟨_, _, rfl, ?_⟩
    clear u3 u4 u5 C3 C4 C5 W2 W
    have lR12 : rs.length ≤ 12 := by omega
    have k2 := dueK_cases ds (ks.map (·.2)) fs rs
    refine ⟨fun σ' H' => (∃ v5' v9, σ' = [some (.ref a), v1, some (.ref p), some (.ref m), some (.ref o), v5', some (.int far), some (.ref pF), some (.ref pR), v9, v10, v11, v12, v13]) ∧ Same J5 H', ?_, ?_⟩
    · refine ⟨.ref m, rfl, .ref pF, rfl, .ref pR, rfl, m, dl, pl, pF, pR, b, ds, ks, fs, rs, rfl, MA _ (W5.t.trans (But.of_same (Same.refl J5))), (Same.refl J5) _ _ eF, (Same.refl J5) _ _ eR, by omega, by omega, fun l1 D1 s1 el1 => ?_⟩
      refine ⟨(by show 1 ≤ sizeLine; decide), fun t1 ht1 => ?_⟩
      have sn1 := same_new (o := .lst [.str "told"]) ht1
      have el1 := sn1 _ _ el1
      have et1 : (upd D1 t1 (.lst [.str "told"])) t1 = some (.lst [.str "told"]) := upd_same
      have S1 := (Same.refl J5).trans (s1.trans sn1)
      generalize upd D1 t1 (.lst [.str "told"]) = E1 at el1 et1 S1 ⊢
      refine ⟨_, _, dueP_dp (S1 _ _ eF) (S1 _ _ eR) el1, .lst (SqL.of et1) (.cons (.str _) .nil), (dueP_shaped _ _ _).2, by decide +kernel, _, rfl, ?_⟩
      rw [dueP_told]
      rcases k2 with ⟨kk, f0⟩ | ⟨kk, f0, g0⟩ | ⟨kk, f0, g0, n0, t0⟩
      · rw [kk]
        refine iteFB rfl ?_
        refine ⟨.ref m, rfl, .ref pF, rfl, .ref pR, rfl, m, dl, pl, pF, pR, b, ds, ks, fs, rs, rfl, MA _ (W5.t.trans (But.of_same S1)), S1 _ _ eF, S1 _ _ eR, by omega, by omega, fun l2 D2 s2 el2 => ?_⟩
        refine ⟨(by show 1 ≤ sizeLine; decide), fun t2 ht2 => ?_⟩
        have sn2 := same_new (o := .lst [.str "told"]) ht2
        have el2 := sn2 _ _ el2
        have et2 : (upd D2 t2 (.lst [.str "told"])) t2 = some (.lst [.str "told"]) := upd_same
        have S2 := S1.trans (s2.trans sn2)
        generalize upd D2 t2 (.lst [.str "told"]) = E2 at el2 et2 S2 ⊢
        refine ⟨_, _, dueP_dp (S2 _ _ eF) (S2 _ _ eR) el2, .lst (SqL.of et2) (.cons (.str _) .nil), (dueP_shaped _ _ _).2, by decide +kernel, _, rfl, ?_⟩
        rw [dueP_told, kk]
        refine iteFB rfl ?_
        refine ⟨.ref o, rfl, .ref pF, rfl, .ref pR, rfl, .ref o, .ref pF, .ref pR, rfl, .inr ⟨o, b, ds, _, rfl, W5.S.same S2, .inl ⟨.inr ⟨pF, fs.map V.int, rfl, S2 _ _ eF, by rw [List.length_map]; omega, ints_item fs, fun ms em => by rw [← ints_inj em]; exact f0⟩, fun l9 D9 s9 e9 => ?_⟩⟩⟩
        exact ⟨.ref m, rfl, .ref pF, rfl, .ref pR, rfl, m, dl, pl, pF, pR, b, ds, ks, fs, rs, rfl, MA _ (W5.t.trans (But.of_same (S2.trans s9))), (S2.trans s9) _ _ eF, (S2.trans s9) _ _ eR, by omega, by omega, fun l7 D7 s7 e7 => by
          have T := (S2.trans s9).trans s7
          rw [kk] at e7
          refine dat_ne (dueP_dp (k := 0) (T _ _ eF) (T _ _ eR) (s7 _ _ e9)) (dueP_dp (k := 0) (T _ _ eF) (T _ _ eR) e7) (dueP_shaped _ _ _) ?_
          exact ⟨_, rfl, iteFB rfl ⟨⟨_, _, rfl⟩, T⟩⟩⟩
      · rw [kk]
        refine iteFB rfl ?_
        refine ⟨.ref m, rfl, .ref pF, rfl, .ref pR, rfl, m, dl, pl, pF, pR, b, ds, ks, fs, rs, rfl, MA _ (W5.t.trans (But.of_same S1)), S1 _ _ eF, S1 _ _ eR, by omega, by omega, fun l2 D2 s2 el2 => ?_⟩
        refine ⟨(by show 1 ≤ sizeLine; decide), fun t2 ht2 => ?_⟩
        have sn2 := same_new (o := .lst [.str "told"]) ht2
        have el2 := sn2 _ _ el2
        have et2 : (upd D2 t2 (.lst [.str "told"])) t2 = some (.lst [.str "told"]) := upd_same
        have S2 := S1.trans (s2.trans sn2)
        generalize upd D2 t2 (.lst [.str "told"]) = E2 at el2 et2 S2 ⊢
        refine ⟨_, _, dueP_dp (S2 _ _ eF) (S2 _ _ eR) el2, .lst (SqL.of et2) (.cons (.str _) .nil), (dueP_shaped _ _ _).2, by decide +kernel, _, rfl, ?_⟩
        rw [dueP_told, kk]
        refine iteFB rfl ?_
        refine ⟨.ref o, rfl, .ref pF, rfl, .ref pR, rfl, .ref o, .ref pF, .ref pR, rfl, .inr ⟨o, b, ds, _, rfl, W5.S.same S2, .inr ⟨pF, fs, rfl, S2 _ _ eF, by omega, f0, ?_⟩⟩⟩
        cases hr0 : rowP ds (ks.map (·.2)) rs with
        | false =>
          refine .inl ⟨.inr ⟨pR, rs.map V.int, rfl, S2 _ _ eR, by rw [List.length_map]; omega, ints_item rs, fun ms em => by rw [← ints_inj em]; exact hr0⟩, fun l9 D9 s9 e9 => ?_⟩
          exact ⟨.ref m, rfl, .ref pF, rfl, .ref pR, rfl, m, dl, pl, pF, pR, b, ds, ks, fs, rs, rfl, MA _ (W5.t.trans (But.of_same (S2.trans s9))), (S2.trans s9) _ _ eF, (S2.trans s9) _ _ eR, by omega, by omega, fun l7 D7 s7 e7 => by
          have T := (S2.trans s9).trans s7
          rw [kk] at e7
          refine dat_ne (dueP_dp (k := 1) (T _ _ eF) (T _ _ eR) (s7 _ _ e9)) (dueP_dp (k := 1) (T _ _ eF) (T _ _ eR) e7) (dueP_shaped _ _ _) ?_
          exact ⟨_, rfl, iteFB rfl ⟨⟨_, _, rfl⟩, T⟩⟩⟩
        | true =>
          have g1 : rs = [] ∨ rowP ds (ks.map (·.2)) (fs ++ rs ++ rs) = false := by
            rcases g0 with g | g
            · rw [hr0] at g
              cases g
            · exact g
          refine .inr ⟨pR, rs, rfl, S2 _ _ eR, by omega, hr0, .inl ⟨g1, fun l9 D9 s9 e9 => ?_⟩⟩
          exact ⟨.ref m, rfl, .ref pF, rfl, .ref pR, rfl, m, dl, pl, pF, pR, b, ds, ks, fs, rs, rfl, MA _ (W5.t.trans (But.of_same (S2.trans s9))), (S2.trans s9) _ _ eF, (S2.trans s9) _ _ eR, by omega, by omega, fun l7 D7 s7 e7 => by
          have T := (S2.trans s9).trans s7
          rw [kk] at e7
          refine dat_ne (dueP_dp (k := 1) (T _ _ eF) (T _ _ eR) (s7 _ _ e9)) (dueP_dp (k := 1) (T _ _ eF) (T _ _ eR) e7) (dueP_shaped _ _ _) ?_
          exact ⟨_, rfl, iteFB rfl ⟨⟨_, _, rfl⟩, T⟩⟩⟩
      · have S1F := S1 _ _ eF
        have S1R := S1 _ _ eR
        rw [kk]
        refine iteTB rfl ?_
        refine ⟨.ref pF, rfl, .ref pR, rfl, pF, pR, _, _, rfl, rfl, S1F, S1R, by rw [List.length_map, List.length_map]; exact Nat.le_trans (by omega : fs.length + rs.length ≤ 1000) (by decide), fun c1 D2 s2 ec => ?_⟩
        rw [← List.map_append] at ec
        refine ⟨c1, _, rfl, .inr (SqT.of ec), ?_⟩
        have S2 := S1.trans s2
        have sml := frac_small b2 b6 n0 (d9 mF) (d9 mR) (by omega : fs.length ≤ 400) lR12
        have shw := frac_shows sml.1 sml.2
        obtain ⟨fr, ff⟩ := row_front n0 t0
        obtain ⟨gr, gf⟩ := row_ring n0 t0
        have n2 : rs ++ rs ≠ [] := fun e => n0 (List.append_eq_nil_iff.mp e).1
        have LF : fs.length ≤ 450 := by omega
        have LR : rs.length ≤ 60 := by omega
        have LFR : (fs ++ rs).length ≤ 450 := by
          rw [List.length_append]
          omega
        have LRR : (rs ++ rs).length ≤ 60 := by
          rw [List.length_append]
          omega
        refine ⟨_, _, rfl, rfl, _, rfl, ?_⟩
        have R0 := fun D2 (S2 : Same J5 D2) => MA D2 (W5.t.trans (But.of_same S2))
        by_cases lt : (((fs ++ rs).map V.int).length : Int) < 390
        · refine iteTB (decide_eq_true lt) ?_
          refine ⟨.ref m, rfl, m, _, 0, .int b, rfl, rfl, SqL.of (R0 _ S2).mo, atI_nat (j := 0) rfl, .ref pF, rfl, .ref pR, rfl, b, pF, pR, fs, rs, rfl, S2 _ _ eF, S2 _ _ eR, b2, b6, LF, LR, n0, d9 mF, d9 mR, fun t9 D3 s3 e9 => ?_⟩
          have S3 := S2.trans s3
          refine ⟨.ref o, rfl, .ref pF, rfl, .ref pR, rfl, .ref o, .ref pF, .ref pR, rfl, .inr ⟨o, b, ds, _, rfl, W5.S.same S3, .inr ⟨pF, fs, rfl, S3 _ _ eF, LF, f0, .inr ⟨pR, rs, rfl, S3 _ _ eR, LR, g0, .inr ⟨n0, t0, fun t4 D4 s4 e4 => ?_⟩⟩⟩⟩⟩
          have S4 := S3.trans s4
          have e9 := s4 _ _ e9
          refine ⟨.ref t4, _, rfl, frac_dp e4, shw.sh, shw.nd, shw.len, shw.dep, ?_⟩
          refine ⟨.ref t9, rfl, ?_⟩
          refine ⟨.ref t9, _, rfl, frac_dp e9, shw.sh, shw.nd, shw.len, shw.dep, ?_⟩
          refine ⟨rfl, _, rfl, iteFB (by rw [decide_eq_true rfl]; rfl) ?_⟩
          refine ⟨.ref o, rfl, .ref pF, rfl, .ref pR, rfl, pF, pR, _, _, rfl, rfl, S4 _ _ eF, S4 _ _ eR, by rw [List.length_map, List.length_map]; exact Nat.le_trans (by omega : fs.length + rs.length ≤ 1000) (by decide), fun c5 D5 s5 e5 => ?_⟩
          rw [← List.map_append] at e5
          have S5 := S4.trans s5
          have e9 := s5 _ _ e9
          refine ⟨.ref pR, rfl, .ref o, .ref c5, .ref pR, rfl, .inr ⟨o, b, ds, _, rfl, W5.S.same S5, .inr ⟨c5, _, rfl, e5, LFR, fr, .inr ⟨pR, rs, rfl, S5 _ _ eR, LR, g0, .inr ⟨n0, ff, fun t6 D6 s6 e6 => ?_⟩⟩⟩⟩⟩
          have S6 := S5.trans s6
          have e9 := s6 _ _ e9
          rw [frac_front b2 n0] at e6
          refine ⟨.ref t9, rfl, ?_⟩
          refine dat_ne (frac_dp e6) (frac_dp e9) (two_shaped _ _) ?_
          refine ⟨_, rfl, iteFB rfl ?_⟩
          refine ⟨.ref o, rfl, .ref pF, rfl, .ref pR, rfl, .ref pR, rfl, pR, pR, _, _, rfl, rfl, S6 _ _ eR, S6 _ _ eR, by rw [List.length_map]; exact Nat.le_trans (by omega : rs.length + rs.length ≤ 1000) (by decide), fun c7 D7 s7 e7 => ?_⟩
          rw [← List.map_append] at e7
          have S7 := S6.trans s7
          have e9 := s7 _ _ e9
          refine ⟨.ref o, .ref pF, .ref c7, rfl, .inr ⟨o, b, ds, _, rfl, W5.S.same S7, .inr ⟨pF, fs, rfl, S7 _ _ eF, LF, f0, .inr ⟨c7, _, rfl, e7, LRR, gr, .inr ⟨n2, gf, fun t8 D8 s8 e8 => ?_⟩⟩⟩⟩⟩
          have S8 := S7.trans s8
          have e9 := s8 _ _ e9
          rw [frac_ring b2 n0] at e8
          refine ⟨.ref t9, rfl, ?_⟩
          refine dat_ne (frac_dp e8) (frac_dp e9) (two_shaped _ _) ?_
          exact ⟨_, rfl, iteFB rfl ⟨⟨_, _, rfl⟩, S8⟩⟩
        · refine iteFB (decide_eq_false lt) ?_
          refine ⟨.ref m, rfl, .ref pF, rfl, .ref pR, rfl, m, dl, pl, pF, pR, b, ds, ks, fs, rs, rfl, MA _ (W5.t.trans (But.of_same S2)), S2 _ _ eF, S2 _ _ eR, by omega, by omega, fun l10 D10 s10 el10 => ?_⟩
          refine ⟨(by show 1 ≤ sizeLine; decide), fun t10 ht10 => ?_⟩
          have sn10 := same_new (o := .lst [.str "told"]) ht10
          have el10 := sn10 _ _ el10
          have et10 : (upd D10 t10 (.lst [.str "told"])) t10 = some (.lst [.str "told"]) := upd_same
          have S10 := S2.trans (s10.trans sn10)
          generalize upd D10 t10 (.lst [.str "told"]) = E10 at el10 et10 S10 ⊢
          refine ⟨_, _, dueP_dp (S10 _ _ eF) (S10 _ _ eR) el10, .lst (SqL.of et10) (.cons (.str _) .nil), (dueP_shaped _ _ _).2, by decide +kernel, _, rfl, ?_⟩
          rw [dueP_told, kk]
          refine iteTB rfl ?_
          refine ⟨.ref o, rfl, .ref pF, rfl, .ref pR, rfl, .ref o, .ref pF, .ref pR, rfl, .inr ⟨o, b, ds, _, rfl, W5.S.same S10, .inr ⟨pF, fs, rfl, S10 _ _ eF, LF, f0, .inr ⟨pR, rs, rfl, S10 _ _ eR, LR, g0, .inr ⟨n0, t0, fun t4 D4 s4 e4 => ?_⟩⟩⟩⟩⟩
          have S4 := S10.trans s4
          refine ⟨.ref m, rfl, m, _, 0, .int b, rfl, rfl, SqL.of (R0 _ S4).mo, atI_nat (j := 0) rfl, .ref pF, rfl, .ref pR, rfl, b, pF, pR, fs, rs, rfl, S4 _ _ eF, S4 _ _ eR, b2, b6, LF, LR, n0, d9 mF, d9 mR, fun t9 D5 s5 e9 => ?_⟩
          refine dat_ne (frac_dp (s5 _ _ e4)) (frac_dp e9) (two_shaped _ _) ?_
          exact ⟨_, rfl, iteFB rfl ⟨⟨_, _, rfl⟩, S4.trans s5⟩⟩
    rintro σ' F0 ⟨⟨v5', v9', rfl⟩, s0⟩
    have WF0 := W5.same s0
    obtain ⟨d0, rest, e0⟩ : ∃ d0 rest, ds = d0 :: rest := by
      have := G.one
      cases ds with
      | nil => cases this
      | cons d l => exact ⟨d, l, rfl⟩
    have m0 : d0 ∈ ds := by rw [e0]; exact List.mem_cons_self
    have dd0 := hd d0 m0
    clear s0 W5 eF eR k2
    -- what may stand for the front
    refine ⟨.ref m, rfl, m, _, 1, .ref dl, rfl, rfl, SqL.of (MA _ WF0.t).mo, atI_nat (j := 1) rfl, dl, _, 0, .int d0, rfl, rfl, SqL.of (MA _ WF0.t).di, atI_nat (j := 0) (by rw [e0]; rfl), ?_⟩
    refine ⟨(by show 1 ≤ sizeLine; decide), fun x1 hx1 => ?_⟩
    have s1 := same_new (o := .lst [.int d0]) hx1
    have ex1 : (upd F0 x1 (.lst [.int d0])) x1 = some (.lst [.int d0]) := upd_same
    have nx1 := (WF0.B).ne hx1
    have WF1 := WF0.same s1
    generalize upd F0 x1 (.lst [.int d0]) = F1 at s1 ex1 WF1  ⊢
    refine ⟨(by show 1 ≤ sizeLine; decide), fun x2 hx2 => ?_⟩
    have s2 := same_new (o := .tup [.int 10]) hx2
    have ex2 : (upd F1 x2 (.tup [.int 10])) x2 = some (.tup [.int 10]) := upd_same
    have nx2 := (WF1.B).ne hx2
    have WF2 := WF1.same s2
    have ex1 := s2 _ _ ex1
    generalize upd F1 x2 (.tup [.int 10]) = F2 at s2 ex2 WF2 ex1 ⊢
    refine ⟨(by show 1 ≤ sizeLine; decide), fun x3 hx3 => ?_⟩
    have s3 := same_new (o := .tup [.bl true]) hx3
    have ex3 : (upd F2 x3 (.tup [.bl true])) x3 = some (.tup [.bl true]) := upd_same
    have nx3 := (WF2.B).ne hx3
    have WF3 := WF2.same s3
    have ex1 := s3 _ _ ex1
    have ex2 := s3 _ _ ex2
    generalize upd F2 x3 (.tup [.bl true]) = F3 at s3 ex3 WF3 ex1 ex2 ⊢
    refine ⟨.ref m, rfl, m, _, 1, .ref dl, rfl, rfl, SqL.of (MA _ WF3.t).mo, atI_nat (j := 1) rfl, dl, _, 0, .int d0, rfl, rfl, SqL.of (MA _ WF3.t).di, atI_nat (j := 0) (by rw [e0]; rfl), ?_⟩
    refine ⟨(by show 2 ≤ sizeLine; decide), fun x4 hx4 => ?_⟩
    have s4 := same_new (o := .tup [.int d0, .non]) hx4
    have ex4 : (upd F3 x4 (.tup [.int d0, .non])) x4 = some (.tup [.int d0, .non]) := upd_same
    have nx4 := (WF3.B).ne hx4
    have WF4 := WF3.same s4
    have ex1 := s4 _ _ ex1
    have ex2 := s4 _ _ ex2
    have ex3 := s4 _ _ ex3
    generalize upd F3 x4 (.tup [.int d0, .non]) = F4 at s4 ex4 WF4 ex1 ex2 ex3 ⊢
    refine ⟨(by show 0 ≤ sizeLine; decide), fun x5 hx5 => ?_⟩
    have s5 := same_new (o := .tup []) hx5
    have ex5 : (upd F4 x5 (.tup [])) x5 = some (.tup []) := upd_same
    have nx5 := (WF4.B).ne hx5
    have WF5 := WF4.same s5
    have ex1 := s5 _ _ ex1
    have ex2 := s5 _ _ ex2
    have ex3 := s5 _ _ ex3
    have ex4 := s5 _ _ ex4
    generalize upd F4 x5 (.tup []) = F5 at s5 ex5 WF5 ex1 ex2 ex3 ex4 ⊢
    refine ⟨(by show 8 ≤ sizeLine; decide), fun x6 hx6 => ?_⟩
    have s6 := same_new (o := .lst [.non, .int 7, .ref x1, .ref x2, .ref x3, .str "0", .ref x4, .ref x5]) hx6
    have ex6 : (upd F5 x6 (.lst [.non, .int 7, .ref x1, .ref x2, .ref x3, .str "0", .ref x4, .ref x5])) x6 = some (.lst [.non, .int 7, .ref x1, .ref x2, .ref x3, .str "0", .ref x4, .ref x5]) := upd_same
    have nx6 := (WF5.B).ne hx6
    have WF6 := WF5.same s6
    have ex1 := s6 _ _ ex1
    have ex2 := s6 _ _ ex2
    have ex3 := s6 _ _ ex3
    have ex4 := s6 _ _ ex4
    have ex5 := s6 _ _ ex5
    generalize upd F5 x6 (.lst [.non, .int 7, .ref x1, .ref x2, .ref x3, .str "0", .ref x4, .ref x5]) = F6 at s6 ex6 WF6 ex1 ex2 ex3 ex4 ex5 ⊢
    refine ⟨fun σ' H' => (∃ u, σ' = [some (.ref a), v1, some (.ref p), some (.ref m), some (.ref o), v5', some (.int far), some (.ref pF), some (.ref pR), v9', some u, v11, v12, v13] ∧ WrongV K p H' ds (ks.map (·.2)) u) ∧ Mw C p H2 H' (130 + 500 * j + 413) o b ds (ks.map (·.2)), ?_, ?_⟩
    · refine ⟨.ref x6, rfl, .ref p, rfl, .ref m, rfl, p, m, _, b, ds, _, rfl, WF6.B, by omega, G, Mm0.but WF6.t, fun x7 n7 F7 t7 B7 ex7 nx7 l7a l7b d7 r7 => ?_⟩
      have WF7 := WF6.but t7 B7
      have ex1 := t7 _ _ nx1 ex1
      have ex2 := t7 _ _ nx2 ex2
      have ex3 := t7 _ _ nx3 ex3
      have ex4 := t7 _ _ nx4 ex4
      have ex5 := t7 _ _ nx5 ex5
      have ex6 := t7 _ _ nx6 ex6
      refine ⟨.ref p, rfl, .ref m, rfl, p, m, _, b, ds, _, rfl, WF7.B, by omega, G, Mm0.but WF7.t, fun x8 n8 F8 t8 B8 ex8 nx8 l8a l8b d8 r8 => ?_⟩
      have WF8 := WF7.but t8 B8
      have ex1 := t8 _ _ nx1 ex1
      have ex2 := t8 _ _ nx2 ex2
      have ex3 := t8 _ _ nx3 ex3
      have ex4 := t8 _ _ nx4 ex4
      have ex5 := t8 _ _ nx5 ex5
      have ex6 := t8 _ _ nx6 ex6
      have ex7 := t8 _ _ nx7 ex7
      refine ⟨(by show 2 ≤ sizeLine; decide), fun x9 hx9 => ?_⟩
      have s9 := same_new (o := .lst [.ref x7, .ref x8]) hx9
      have ex9 : (upd F8 x9 (.lst [.ref x7, .ref x8])) x9 = some (.lst [.ref x7, .ref x8]) := upd_same
      have nx9 := (WF8.B).ne hx9
      have WF9 := WF8.same s9
      have ex1 := s9 _ _ ex1
      have ex2 := s9 _ _ ex2
      have ex3 := s9 _ _ ex3
      have ex4 := s9 _ _ ex4
      have ex5 := s9 _ _ ex5
      have ex6 := s9 _ _ ex6
      have ex7 := s9 _ _ ex7
      have ex8 := s9 _ _ ex8
      generalize upd F8 x9 (.lst [.ref x7, .ref x8]) = F9 at s9 ex9 WF9 ex1 ex2 ex3 ex4 ex5 ex6 ex7 ex8 ⊢
      refine ⟨x6, x9, _, _, rfl, rfl, ex6, ex9, (by show 8 + 2 ≤ sizeLine; decide), fun x10 hx10 => ?_⟩
      have s10 := same_new (o := .lst [.non, .int 7, .ref x1, .ref x2, .ref x3, .str "0", .ref x4, .ref x5, .ref x7, .ref x8]) hx10
      have ex10 : (upd F9 x10 (.lst [.non, .int 7, .ref x1, .ref x2, .ref x3, .str "0", .ref x4, .ref x5, .ref x7, .ref x8])) x10 = some (.lst [.non, .int 7, .ref x1, .ref x2, .ref x3, .str "0", .ref x4, .ref x5, .ref x7, .ref x8]) := upd_same
      have nx10 := (WF9.B).ne hx10
      have WF10 := WF9.same s10
      have ex1 := s10 _ _ ex1
      have ex2 := s10 _ _ ex2
      have ex3 := s10 _ _ ex3
      have ex4 := s10 _ _ ex4
      have ex5 := s10 _ _ ex5
      have ex7 := s10 _ _ ex7
      have ex8 := s10 _ _ ex8
      refine ⟨.ref p, rfl, p, 10, _, rfl, WF10.B, by omega, by decide, by decide, fun r F11 r0 r1 t11 B11 => ?_⟩
      have WF11 := WF10.but t11 B11
      have ex1 := t11 _ _ nx1 ex1
      have ex2 := t11 _ _ nx2 ex2
      have ex3 := t11 _ _ nx3 ex3
      have ex4 := t11 _ _ nx4 ex4
      have ex5 := t11 _ _ nx5 ex5
      have ex7 := t11 _ _ nx7 ex7
      have ex8 := t11 _ _ nx8 ex8
      have ex10 := t11 _ _ nx10 ex10
      obtain ⟨v, hv, mv⟩ := pick (xs := [V.non, .int 7, .ref x1, .ref x2, .ref x3, .str "0", .ref x4, .ref x5, .ref x7, .ref x8]) r0 r1
      refine ⟨x10, _, r, v, rfl, rfl, SqL.of ex10, hv, ⟨v, rfl, ?_⟩, WF11.mono (by omega)⟩
      simp only [List.mem_cons, List.not_mem_nil, or_false] at mv
      rcases mv with rfl | rfl | rfl | rfl | rfl | rfl | rfl | rfl | rfl | rfl
      · exact wrong_non
      · exact wrong_seven
      · exact wrong_lst nx1 ex1 dd0
      · exact wrong_ten nx2 ex2 hd
      · exact wrong_true nx3 ex3
      · exact wrong_zero
      · exact wrong_pair nx4 ex4 dd0
      · exact wrong_nil nx5 ex5
      · exact row_wrong nx7 ex7 l7a l7b (fun z hz => dig_sm (d7 z hz)) r7
      · exact row_wrong nx8 ex8 l8a l8b (fun z hz => dig_sm (d8 z hz)) r8
    rintro σ' G0 ⟨⟨u, rfl, hu⟩, WG0⟩
    clear ex1 ex2 ex3 ex4 ex5 ex6 WF0 WF1 WF2 WF3 WF4 WF5 WF6 s1 s2 s3 s4 s5 s6
    -- what is no scheme
    refine ⟨.ref p, rfl, p, _, rfl, WG0.B, by omega, fun x G1 g1 BG1 hx => ?_⟩
    have WG1 := WG0.but g1 BG1
    have hu := hu.but g1
    clear WG0 g1 BG1
    refine ⟨fun σ' H' => (∃ z, σ' = [some (.ref a), v1, some (.ref p), some (.ref m), some (.ref o), v5', some (.int far), some (.ref pF), some (.ref pR), v9', some u, some x, some z, v13] ∧ WrongV K p H' ds (ks.map (·.2)) u ∧ OddV p H' x ∧ BadV p H' ds (ks.map (·.2)) z) ∧ Mw C p H2 H' (130 + 500 * j + 430) o b ds (ks.map (·.2)), ?_, ?_⟩
    · refine ⟨(by show 1 ≤ sizeLine; decide), fun x1 hx1 => ?_⟩
      have s1 := same_new (o := .lst [.int 0]) hx1
      have ex1 : (upd G1 x1 (.lst [.int 0])) x1 = some (.lst [.int 0]) := upd_same
      have nx1 := (WG1.B).ne hx1
      have WG2 := WG1.same s1
      generalize upd G1 x1 (.lst [.int 0]) = G2 at s1 ex1 WG2  ⊢
      refine ⟨(by show 1 ≤ sizeLine; decide), fun x2 hx2 => ?_⟩
      have s2 := same_new (o := .tup [.non]) hx2
      have ex2 : (upd G2 x2 (.tup [.non])) x2 = some (.tup [.non]) := upd_same
      have nx2 := (WG2.B).ne hx2
      have WG3 := WG2.same s2
      have ex1 := s2 _ _ ex1
      generalize upd G2 x2 (.tup [.non]) = G3 at s2 ex2 WG3 ex1 ⊢
      refine ⟨(by show 0 ≤ sizeLine; decide), fun x3 hx3 => ?_⟩
      have s3 := same_new (o := .tup []) hx3
      have ex3 : (upd G3 x3 (.tup [])) x3 = some (.tup []) := upd_same
      have nx3 := (WG3.B).ne hx3
      have WG4 := WG3.same s3
      have ex1 := s3 _ _ ex1
      have ex2 := s3 _ _ ex2
      generalize upd G3 x3 (.tup []) = G4 at s3 ex3 WG4 ex1 ex2 ⊢
      refine fun x4 hx4 => ?_
      have s4 := same_new (o := .dK []) hx4
      have ex4 : (upd G4 x4 (.dK [])) x4 = some (.dK []) := upd_same
      have nx4 := (WG4.B).ne hx4
      have WG5 := WG4.same s4
      have ex1 := s4 _ _ ex1
      have ex2 := s4 _ _ ex2
      have ex3 := s4 _ _ ex3
      generalize upd G4 x4 (.dK []) = G5 at s4 ex4 WG5 ex1 ex2 ex3 ⊢
      refine ⟨.ref p, rfl, .ref m, rfl, p, m, _, b, ds, _, rfl, WG5.B, by omega, G, Mm0.but WG5.t, fun x5 n5 G6 t5 B5 ex5 nx5 l5a l5b d5 r5 => ?_⟩
      have WG6 := WG5.but t5 B5
      have ex1 := t5 _ _ nx1 ex1
      have ex2 := t5 _ _ nx2 ex2
      have ex3 := t5 _ _ nx3 ex3
      have ex4 := t5 _ _ nx4 ex4
      refine ⟨(by show 7 ≤ sizeLine; decide), fun x6 hx6 => ?_⟩
      have s6 := same_new (o := .lst [.non, .int 7, .ref x1, .ref x2, .ref x3, .ref x4, .ref x5]) hx6
      have ex6 : (upd G6 x6 (.lst [.non, .int 7, .ref x1, .ref x2, .ref x3, .ref x4, .ref x5])) x6 = some (.lst [.non, .int 7, .ref x1, .ref x2, .ref x3, .ref x4, .ref x5]) := upd_same
      have nx6 := (WG6.B).ne hx6
      have WG7 := WG6.same s6
      have ex1 := s6 _ _ ex1
      have ex2 := s6 _ _ ex2
      have ex3 := s6 _ _ ex3
      have ex4 := s6 _ _ ex4
      have ex5 := s6 _ _ ex5
      generalize upd G6 x6 (.lst [.non, .int 7, .ref x1, .ref x2, .ref x3, .ref x4, .ref x5]) = G7 at s6 ex6 WG7 ex1 ex2 ex3 ex4 ex5 ⊢
      refine ⟨.ref p, rfl, p, 7, _, rfl, WG7.B, by omega, by decide, by decide, fun r G8 r0 r1 t8 B8 => ?_⟩
      have WG8 := WG7.but t8 B8
      have T18 := (((((But.of_same s1).trans (But.of_same s2)).trans (But.of_same s3)).trans (But.of_same s4)).trans t5).trans ((But.of_same s6).trans t8)
      have ex1 := t8 _ _ nx1 ex1
      have ex2 := t8 _ _ nx2 ex2
      have ex3 := t8 _ _ nx3 ex3
      have ex4 := t8 _ _ nx4 ex4
      have ex5 := t8 _ _ nx5 ex5
      have ex6 := t8 _ _ nx6 ex6
      obtain ⟨v, hv, mv⟩ := pick (xs := [V.non, .int 7, .ref x1, .ref x2, .ref x3, .ref x4, .ref x5]) r0 r1
      refine ⟨x6, _, r, v, rfl, rfl, SqL.of ex6, hv, ⟨v, rfl, hu.but T18, hx.but T18, ?_⟩, WG8.mono (by omega)⟩
      simp only [List.mem_cons, List.not_mem_nil, or_false] at mv
      rcases mv with rfl | rfl | rfl | rfl | rfl | rfl | rfl
      · exact bad_non
      · exact bad_seven
      · exact bad_lst nx1 ex1
      · exact bad_tup nx2 ex2
      · exact bad_nil nx3 ex3
      · exact bad_dct nx4 ex4
      · exact row_bad nx5 ex5 l5a l5b (fun z hz => dig_sm (d5 z hz)) r5
    rintro σ' J0 ⟨⟨z, rfl, hu, hx, hz⟩, WJ0⟩
    obtain ⟨⟨d, hdp, hsh, halt⟩, su⟩ := hu
    have halt2 : ∃ c, PyData.eqv d (.tuple []) = c ∧ ((c = false ∧ ∀ H2, But p J0 H2 → NoRow H2 ds (ks.map (·.2)) u) ∨ (c = true ∧ ∃ q, u = .ref q ∧ ∀ H2, But p J0 H2 → H2 q = some (.tup []))) := ⟨_, rfl, halt⟩
    obtain ⟨c, hc, halt⟩ := halt2
    obtain ⟨dx, sx⟩ := hx.shn (cxOf CX0 P w K mg base K66.nL "law" (defScope sLaw) f cdv A outer s H E).nox
    obtain ⟨du, su⟩ := su (cxOf CX0 P w K mg base K66.nL "law" (defScope sLaw) f cdv A outer s H E).nox
    obtain ⟨dz, sz⟩ := hz.shn (cxOf CX0 P w K mg base K66.nL "law" (defScope sLaw) f cdv A outer s H E).nox
    have hw : ∃ wv dw, wv = (if c = true then z else u) ∧ atI [u, z] (if c = true then 1 else 0) = some wv ∧ Shn (cxOf CX0 P w K mg base K66.nL "law" (defScope sLaw) f cdv A outer s H E).nox p J0 wv dw 5 4000 := by
      cases c with
      | false => exact ⟨_, du, rfl, atI_nat (j := 0) rfl, su⟩
      | true => exact ⟨_, dz, rfl, atI_nat (j := 1) rfl, sz⟩
    obtain ⟨wv, dw, ewv, hat, sw⟩ := hw
    -- what the program tells
    refine ⟨x, rfl, u, rfl, z, rfl, x, u, z, rfl, .inl ⟨hx.item J0 But.refl, fun y1 P1 s1 ey1 => ?_⟩⟩
    have WP1 := WJ0.same s1
    have ny1 : y1 ≠ p := box_ne_str WP1.B ey1
    refine ⟨.ref o, rfl, u, rfl, z, rfl, ?_⟩
    refine nil_of ?_
    refine wrong_call (c := c) WP1.S ?_ (hz.but (But.of_same s1)) fun y2 P2 s2 ey2 => ?_
    · rcases halt with ⟨e, n⟩ | ⟨e, q, eu, n⟩
      · exact .inl ⟨e, fun H2 t => n H2 ((But.of_same s1).trans t)⟩
      · exact .inr ⟨e, q, eu, fun H2 t => n H2 ((But.of_same s1).trans t)⟩
    rw [← ewv] at ey2
    have WP2 := WP1.same s2
    have T2 := s1.trans s2
    have ey1 := s2 _ _ ey1
    have ny2 : y2 ≠ p := box_ne_str WP2.B ey2
    refine ⟨.ref o, rfl, ?_⟩
    refine ⟨(by show 0 ≤ sizeLine; decide), fun y3 hy3 => ?_⟩
    have s3 := same_new (o := .tup []) hy3
    have ey3 : (upd P2 y3 (.tup [])) y3 = some (.tup []) := upd_same
    have ny3 := (WP2.B).ne hy3
    have WP3 := WP2.same s3
    have T3 := T2.trans s3
    have ey1 := s3 _ _ ey1
    have ey2 := s3 _ _ ey2
    generalize upd P2 y3 (.tup []) = P3 at s3 ey3 WP3 T3 ey1 ey2 ⊢
    refine ⟨z, rfl, ?_⟩
    refine nil_of ?_
    refine bad_call WP3.S ey3 (hz.but (But.of_same T3)) fun y4 P4 s4 ey4 => ?_
    have WP4 := WP3.same s4
    have T4 := T3.trans s4
    have ey1 := s4 _ _ ey1
    have ey2 := s4 _ _ ey2
    have ny4 : y4 ≠ p := box_ne_str WP4.B ey4
    refine ⟨(by show 3 ≤ sizeLine; decide), fun y5 hy5 => ?_⟩
    have s5 := same_new (o := .lst [.ref y1, .ref y2, .ref y4]) hy5
    have ey5 : (upd P4 y5 (.lst [.ref y1, .ref y2, .ref y4])) y5 = some (.lst [.ref y1, .ref y2, .ref y4]) := upd_same
    have ny5 := (WP4.B).ne hy5
    have WP5 := WP4.same s5
    have T5 := T4.trans s5
    have ey1 := s5 _ _ ey1
    have ey2 := s5 _ _ ey2
    have ey4 := s5 _ _ ey4
    generalize upd P4 y5 (.lst [.ref y1, .ref y2, .ref y4]) = P5 at s5 ey5 WP5 T5 ey1 ey2 ey4 ⊢
    have told : ShnAll (cxOf CX0 P w K mg base K66.nL "law" (defScope sLaw) f cdv A outer s H E).nox p P5 8 20000 [.ref y1, .ref y2, .ref y4] [.list [.str "scheme", dx], .list [.str "row", dw], .list [.str "row", dz]] :=
      .cons (item_shn ny1 ey1 (by decide +kernel) (sx.but (But.of_same T5))) (.cons (item_shn ny2 ey2 (by decide +kernel) (sw.but (But.of_same T5))) (.cons (item_shn ny4 ey4 (by decide +kernel) (sz.but (But.of_same T5))) .nil))
    obtain ⟨b1, b2⟩ := rep_bnd told (by show 3 ≤ 4; decide)
    have b0 := Nat.le_trans b1 (by decide : 8 ≤ 40)
    refine ⟨.ref y5, rfl, y5, _, _, rfl, SqL.of ey5, told.rp But.refl, b0, b2, ?_⟩
    clear told ey1 ey2 ey4 ey5
    -- what the law expects
    refine ⟨x, rfl, (by show 2 ≤ sizeLine; decide), fun y6 hy6 => ?_⟩
    have s6 := same_new (o := .lst [.str "scheme", x]) hy6
    have ey6 : (upd P5 y6 (.lst [.str "scheme", x])) y6 = some (.lst [.str "scheme", x]) := upd_same
    have ny6 := (WP5.B).ne hy6
    have WP6 := WP5.same s6
    have T6 := T5.trans s6
    generalize upd P5 y6 (.lst [.str "scheme", x]) = P6 at s6 ey6 WP6 T6  ⊢
    refine ⟨u, rfl, z, rfl, (by show 2 ≤ sizeLine; decide), fun y7 hy7 => ?_⟩
    have s7 := same_new (o := .lst [u, z]) hy7
    have ey7 : (upd P6 y7 (.lst [u, z])) y7 = some (.lst [u, z]) := upd_same
    have ny7 := (WP6.B).ne hy7
    have WP7 := WP6.same s7
    have T7 := T6.trans s7
    have ey6 := s7 _ _ ey6
    generalize upd P6 y7 (.lst [u, z]) = P7 at s7 ey7 WP7 T7 ey6 ⊢
    refine ⟨u, rfl, ?_⟩
    refine ⟨(by show 0 ≤ sizeLine; decide), fun y8 hy8 => ?_⟩
    have s8 := same_new (o := .tup []) hy8
    have ey8 : (upd P7 y8 (.tup [])) y8 = some (.tup []) := upd_same
    have ny8 := (WP7.B).ne hy8
    have WP8 := WP7.same s8
    have T8 := T7.trans s8
    have ey6 := s8 _ _ ey6
    have ey7 := s8 _ _ ey7
    generalize upd P7 y8 (.tup []) = P8 at s8 ey8 WP8 T8 ey6 ey7 ⊢
    refine ⟨d, .tuple [], hdp _ (But.of_same T8), .tup (SqT.of ey8) .nil, hsh, by decide +kernel, ?_⟩
    rw [hc]
    refine nil_of ?_
    refine .inr ⟨c, rfl, y7, _, _, wv, rfl, rfl, SqL.of ey7, hat, ?_⟩
    refine ⟨(by show 2 ≤ sizeLine; decide), fun y9 hy9 => ?_⟩
    have s9 := same_new (o := .lst [.str "row", wv]) hy9
    have ey9 : (upd P8 y9 (.lst [.str "row", wv])) y9 = some (.lst [.str "row", wv]) := upd_same
    have ny9 := (WP8.B).ne hy9
    have WP9 := WP8.same s9
    have T9 := T8.trans s9
    have ey6 := s9 _ _ ey6
    generalize upd P8 y9 (.lst [.str "row", wv]) = P9 at s9 ey9 WP9 T9 ey6 ⊢
    refine ⟨z, rfl, (by show 2 ≤ sizeLine; decide), fun y10 hy10 => ?_⟩
    have s10 := same_new (o := .lst [.str "row", z]) hy10
    have ey10 : (upd P9 y10 (.lst [.str "row", z])) y10 = some (.lst [.str "row", z]) := upd_same
    have ny10 := (WP9.B).ne hy10
    have WP10 := WP9.same s10
    have T10 := T9.trans s10
    have ey6 := s10 _ _ ey6
    have ey9 := s10 _ _ ey9
    generalize upd P9 y10 (.lst [.str "row", z]) = P10 at s10 ey10 WP10 T10 ey6 ey9 ⊢
    refine ⟨(by show 3 ≤ sizeLine; decide), fun y11 hy11 => ?_⟩
    have s11 := same_new (o := .lst [.ref y6, .ref y9, .ref y10]) hy11
    have ey11 : (upd P10 y11 (.lst [.ref y6, .ref y9, .ref y10])) y11 = some (.lst [.ref y6, .ref y9, .ref y10]) := upd_same
    have ny11 := (WP10.B).ne hy11
    have WP11 := WP10.same s11
    have T11 := T10.trans s11
    have ey6 := s11 _ _ ey6
    have ey9 := s11 _ _ ey9
    have ey10 := s11 _ _ ey10
    generalize upd P10 y11 (.lst [.ref y6, .ref y9, .ref y10]) = P11 at s11 ey11 WP11 T11 ey6 ey9 ey10 ⊢
    have due : ShnAll (cxOf CX0 P w K mg base K66.nL "law" (defScope sLaw) f cdv A outer s H E).nox p P11 8 20000 [.ref y6, .ref y9, .ref y10] [.list [.str "scheme", dx], .list [.str "row", dw], .list [.str "row", dz]] :=
      .cons (item_shn ny6 ey6 (by decide +kernel) (sx.but (But.of_same T11))) (.cons (item_shn ny9 ey9 (by decide +kernel) (sw.but (But.of_same T11))) (.cons (item_shn ny10 ey10 (by decide +kernel) (sz.but (But.of_same T11))) .nil))
    refine ⟨y11, _, _, rfl, SqL.of ey11, due.rp But.refl, b0, b2, ?_⟩
    refine ⟨rfl, _, rfl, iteFB (by rw [decide_eq_true rfl]; rfl) ?_⟩
    exact ⟨⟨_, _, _, _, _, _, _, _, _, _, rfl⟩, WP11.mono (by omega)⟩
end
end K66
namespace K66
open PySem PySem.Spec PyProof.Rows L2 OF
abbrev sFig : Stmt := inClass (topS 3) 0
abbrev sInBase : Stmt := inClass (topS 4) 0
abbrev sInDig : Stmt := inClass (topS 5) 0
abbrev sInBars : Stmt := inClass (topS 6) 0
abbrev sInRow : Stmt := inClass (topS 7) 0
abbrev sNotS : Stmt := inClass (topS 9) 0
section
variable {P : Program} {w : World} {K : PySem.W.Frag} {mg : Str → Option Value} {base : Heap}

/-- no built-in kind is below an own class -/
theorem notK_of {C : Addr} (ty : PySem.W.typeIn K (.ref C) = some (.type "type")) (ic : PySem.W.isClsIn K C = true) : NotK K C := by
  have ic2 : (PySem.W.clsIn K C).isSome = true := ic
  have one : ∀ (T : String) (l : List Value), fastBuiltinMro T = some l → l.contains (.ref C) = false → PySem.W.kitOne K (.type T) (.ref C) = some false := fun T l h hl => by
    unfold PySem.W.kitOne
    split
    · rename_i e
      have e2 : Value.type T = Value.ref C := eq_of_beq e
      cases e2
    · unfold PySem.W.kitCls
      simp only [ty, ic2, beq_self_eq_true, Bool.and_self, if_true]
      show (fastBuiltinMro T).map (·.contains (Value.ref C)) = some false
      rw [h, Option.map_some, hl]
  exact ⟨one "NoneType" _ rfl rfl, one "bool" _ rfl rfl, one "str" _ rfl rfl, one "list" _ rfl rfl, one "tuple" _ rfl rfl, one "dict" _ rfl rfl, one "int" _ rfl rfl⟩
theorem exm_off {S D : Addr} (h1 : PySem.W.subIn K (.ref D) (.type "BaseException") = some true) (h2 : PySem.W.isClsIn K D = true) (h3 : PySem.W.typeIn K (.ref D) = some (.type "type")) (h4 : PySem.W.subIn K (.ref S) (.ref D) = some false) (h5 : PySem.W.subIn K (.ref S) (.ref S) = some true) : PySem.W.exmOne K (.ref S) (.ref D) = some false :=
  exm_other h1 h2 h3 h4 fun e => by
    subst e
    rw [h4] at h5
    cases h5
theorem scFig : FnScope ["self", "text"] ["self", "text"] (defScope sFig) := ⟨rfl, rfl, rfl, by decide +kernel, rfl, by decide +kernel, by decide +kernel⟩
theorem ok_fig {f : Addr} {fd : FuncData} (F : Fun K "__init__" "FigureError.__init__" sFig f fd) (mV : mg "ValueError" = none) (vV : PySem.W.findCls K (.type "ValueError") (.type "type") "__init__" = some (.val (.builtin "ValueError.__init__"))) :
    FnOk P w K mg base CX0 1 f fd ["self", "text"] (spFig K) := by
  refine F.ok scFig (fun vs H Q E h => ?_) (fun cdv A outer s H vs Q E hr h => ?_)
  · obtain ⟨a, C, v, nm, rfl, _⟩ := h
    rfl
  · obtain ⟨a, C, v, nm, rfl, T, N, ha, q⟩ := h
    refine ⟨_, pss_cons (ps_expr (pe_veinit (by rfl) mV vV (pa_cons (pv 0) (pa_cons (pv 1) pa_nil)))) (pss_one (ps_ost (pv 0) (pe_cname (pv 0)))), ?_⟩
    exact ⟨.ref a, rfl, v, rfl, a, C, [v], rfl, (by show 1 ≤ 1000; decide), T, ha, .ref a, rfl, a, C, nm, rfl, ha, N, .ref a, rfl, a, C, rfl, T, N.no, .inl ⟨ha, fun d hd nd => q d hd nd⟩⟩
theorem sc_InvalidBase : FnScope ["self", "value"] ["self", "value"] (defScope sInBase) := ⟨rfl, rfl, rfl, by decide +kernel, rfl, by decide +kernel, by decide +kernel⟩
theorem ok_InvalidBase {f f0 C C0 : Addr} {fd fd0 : FuncData} (F : Fun K "__init__" "InvalidBase.__init__" sInBase f fd) (F0 : Fun K "__init__" "FigureError.__init__" sFig f0 fd0) (T0 : FigC K mg C0 f0) (b0 : Binds K fd0 ["self", "text"] []) (T : ErrC K mg "InvalidBase" "value" C f)
    (mV : mg "ValueError" = none) (vV : PySem.W.findCls K (.type "ValueError") (.type "type") "__init__" = some (.val (.builtin "ValueError.__init__"))) :
    FnOk P w K mg base CX0 2 f fd ["self", "value"] (spInit K "value" C) := by
  have G0 : FnOk P w K mg base CX0 1 f0 fd0 ["self", "text"] (spFig K) := ok_fig F0 mV vV
  refine F.ok sc_InvalidBase (fun vs H Q E h => ?_) (fun cdv A outer s H vs Q E hr h => ?_)
  · obtain ⟨a, v, rfl, _⟩ := h
    rfl
  · obtain ⟨a, v, rfl, ha, q⟩ := h
    refine ⟨_, pss_cons (ps_expr (pe_unb G0 hr (by rfl) T0.g T0.rd T0.val T0.kp b0 pass0 (pa_cons (pv 0) (pa_cons pe_str pa_nil)))) (pss_one (ps_ost (pv 0) (pv 1))), ?_⟩
    obtain ⟨nm, N⟩ := T.nam
    refine ⟨.ref a, rfl, a, C, _, nm, rfl, T.ox, N, ha, fun d hd nd => ?_⟩
    refine ⟨v, rfl, .ref a, rfl, a, C, rfl, T.ox, T.no, .inr ⟨d, _, upd_same, by rw [upd_ne nd]; exact upd_same, (by show 1 ≤ 900; decide), ?_⟩⟩
    rw [upd_swap nd]
    exact q _ d hd nd

theorem sc_InvalidDigits : FnScope ["self", "value"] ["self", "value"] (defScope sInDig) := ⟨rfl, rfl, rfl, by decide +kernel, rfl, by decide +kernel, by decide +kernel⟩
theorem ok_InvalidDigits {f f0 C C0 : Addr} {fd fd0 : FuncData} (F : Fun K "__init__" "InvalidDigits.__init__" sInDig f fd) (F0 : Fun K "__init__" "FigureError.__init__" sFig f0 fd0) (T0 : FigC K mg C0 f0) (b0 : Binds K fd0 ["self", "text"] []) (T : ErrC K mg "InvalidDigits" "value" C f)
    (mV : mg "ValueError" = none) (vV : PySem.W.findCls K (.type "ValueError") (.type "type") "__init__" = some (.val (.builtin "ValueError.__init__"))) :
    FnOk P w K mg base CX0 2 f fd ["self", "value"] (spInit K "value" C) := by
  have G0 : FnOk P w K mg base CX0 1 f0 fd0 ["self", "text"] (spFig K) := ok_fig F0 mV vV
  refine F.ok sc_InvalidDigits (fun vs H Q E h => ?_) (fun cdv A outer s H vs Q E hr h => ?_)
  · obtain ⟨a, v, rfl, _⟩ := h
    rfl
  · obtain ⟨a, v, rfl, ha, q⟩ := h
    refine ⟨_, pss_cons (ps_expr (pe_unb G0 hr (by rfl) T0.g T0.rd T0.val T0.kp b0 pass0 (pa_cons (pv 0) (pa_cons pe_str pa_nil)))) (pss_one (ps_ost (pv 0) (pv 1))), ?_⟩
    obtain ⟨nm, N⟩ := T.nam
    refine ⟨.ref a, rfl, a, C, _, nm, rfl, T.ox, N, ha, fun d hd nd => ?_⟩
    refine ⟨v, rfl, .ref a, rfl, a, C, rfl, T.ox, T.no, .inr ⟨d, _, upd_same, by rw [upd_ne nd]; exact upd_same, (by show 1 ≤ 900; decide), ?_⟩⟩
    rw [upd_swap nd]
    exact q _ d hd nd

theorem sc_InvalidBars : FnScope ["self", "value"] ["self", "value"] (defScope sInBars) := ⟨rfl, rfl, rfl, by decide +kernel, rfl, by decide +kernel, by decide +kernel⟩
theorem ok_InvalidBars {f f0 C C0 : Addr} {fd fd0 : FuncData} (F : Fun K "__init__" "InvalidBars.__init__" sInBars f fd) (F0 : Fun K "__init__" "FigureError.__init__" sFig f0 fd0) (T0 : FigC K mg C0 f0) (b0 : Binds K fd0 ["self", "text"] []) (T : ErrC K mg "InvalidBars" "value" C f)
    (mV : mg "ValueError" = none) (vV : PySem.W.findCls K (.type "ValueError") (.type "type") "__init__" = some (.val (.builtin "ValueError.__init__"))) :
    FnOk P w K mg base CX0 2 f fd ["self", "value"] (spInit K "value" C) := by
  have G0 : FnOk P w K mg base CX0 1 f0 fd0 ["self", "text"] (spFig K) := ok_fig F0 mV vV
  refine F.ok sc_InvalidBars (fun vs H Q E h => ?_) (fun cdv A outer s H vs Q E hr h => ?_)
  · obtain ⟨a, v, rfl, _⟩ := h
    rfl
  · obtain ⟨a, v, rfl, ha, q⟩ := h
    refine ⟨_, pss_cons (ps_expr (pe_unb G0 hr (by rfl) T0.g T0.rd T0.val T0.kp b0 pass0 (pa_cons (pv 0) (pa_cons pe_str pa_nil)))) (pss_one (ps_ost (pv 0) (pv 1))), ?_⟩
    obtain ⟨nm, N⟩ := T.nam
    refine ⟨.ref a, rfl, a, C, _, nm, rfl, T.ox, N, ha, fun d hd nd => ?_⟩
    refine ⟨v, rfl, .ref a, rfl, a, C, rfl, T.ox, T.no, .inr ⟨d, _, upd_same, by rw [upd_ne nd]; exact upd_same, (by show 1 ≤ 900; decide), ?_⟩⟩
    rw [upd_swap nd]
    exact q _ d hd nd

theorem sc_InvalidRow : FnScope ["self", "row"] ["self", "row"] (defScope sInRow) := ⟨rfl, rfl, rfl, by decide +kernel, rfl, by decide +kernel, by decide +kernel⟩
theorem ok_InvalidRow {f f0 C C0 : Addr} {fd fd0 : FuncData} (F : Fun K "__init__" "InvalidRow.__init__" sInRow f fd) (F0 : Fun K "__init__" "FigureError.__init__" sFig f0 fd0) (T0 : FigC K mg C0 f0) (b0 : Binds K fd0 ["self", "text"] []) (T : ErrC K mg "InvalidRow" "row" C f)
    (mV : mg "ValueError" = none) (vV : PySem.W.findCls K (.type "ValueError") (.type "type") "__init__" = some (.val (.builtin "ValueError.__init__"))) :
    FnOk P w K mg base CX0 2 f fd ["self", "row"] (spInit K "row" C) := by
  have G0 : FnOk P w K mg base CX0 1 f0 fd0 ["self", "text"] (spFig K) := ok_fig F0 mV vV
  refine F.ok sc_InvalidRow (fun vs H Q E h => ?_) (fun cdv A outer s H vs Q E hr h => ?_)
  · obtain ⟨a, v, rfl, _⟩ := h
    rfl
  · obtain ⟨a, v, rfl, ha, q⟩ := h
    refine ⟨_, pss_cons (ps_expr (pe_unb G0 hr (by rfl) T0.g T0.rd T0.val T0.kp b0 pass0 (pa_cons (pv 0) (pa_cons pe_str pa_nil)))) (pss_one (ps_ost (pv 0) (pv 1))), ?_⟩
    obtain ⟨nm, N⟩ := T.nam
    refine ⟨.ref a, rfl, a, C, _, nm, rfl, T.ox, N, ha, fun d hd nd => ?_⟩
    refine ⟨v, rfl, .ref a, rfl, a, C, rfl, T.ox, T.no, .inr ⟨d, _, upd_same, by rw [upd_ne nd]; exact upd_same, (by show 1 ≤ 900; decide), ?_⟩⟩
    rw [upd_swap nd]
    exact q _ d hd nd

theorem sc_NotScheme : FnScope ["self", "value"] ["self", "value"] (defScope sNotS) := ⟨rfl, rfl, rfl, by decide +kernel, rfl, by decide +kernel, by decide +kernel⟩
theorem ok_NotScheme {f f0 C C0 : Addr} {fd fd0 : FuncData} (F : Fun K "__init__" "NotScheme.__init__" sNotS f fd) (F0 : Fun K "__init__" "FigureError.__init__" sFig f0 fd0) (T0 : FigC K mg C0 f0) (b0 : Binds K fd0 ["self", "text"] []) (T : ErrC K mg "NotScheme" "value" C f)
    (mV : mg "ValueError" = none) (vV : PySem.W.findCls K (.type "ValueError") (.type "type") "__init__" = some (.val (.builtin "ValueError.__init__"))) :
    FnOk P w K mg base CX0 2 f fd ["self", "value"] (spInit K "value" C) := by
  have G0 : FnOk P w K mg base CX0 1 f0 fd0 ["self", "text"] (spFig K) := ok_fig F0 mV vV
  refine F.ok sc_NotScheme (fun vs H Q E h => ?_) (fun cdv A outer s H vs Q E hr h => ?_)
  · obtain ⟨a, v, rfl, _⟩ := h
    rfl
  · obtain ⟨a, v, rfl, ha, q⟩ := h
    refine ⟨_, pss_cons (ps_expr (pe_unb G0 hr (by rfl) T0.g T0.rd T0.val T0.kp b0 pass0 (pa_cons (pv 0) (pa_cons pe_str pa_nil)))) (pss_one (ps_ost (pv 0) (pv 1))), ?_⟩
    obtain ⟨nm, N⟩ := T.nam
    refine ⟨.ref a, rfl, a, C, _, nm, rfl, T.ox, N, ha, fun d hd nd => ?_⟩
    refine ⟨v, rfl, .ref a, rfl, a, C, rfl, T.ox, T.no, .inr ⟨d, _, upd_same, by rw [upd_ne nd]; exact upd_same, (by show 1 ≤ 900; decide), ?_⟩⟩
    rw [upd_swap nd]
    exact q _ d hd nd

end
end K66
namespace K66
open PySem PySem.Spec PyProof.Rows L2 OF
set_option maxHeartbeats 4000000 in
theorem all_mk {l : PySem.W.OpenLaw} {w : World} {K : PySem.W.Frag} {h : Heap} {mg : Str → Option Value} {fa f1 f2 f3 f4 f5 f6 f7 f8 f9 f10 f11 f12 f13 f14 f15 f16 f17 f18 f19 f20 f21 f22 f23 f24 f25 f26 f27 f28 f29 f30 f31 f32 f33 f34 CF fF CS h1 h2 h3 C1 fI1 C2 fI2 C3 fI3 C4 fI4 C5 fI5 : Addr}
    {od1 an1 od2 an2 od3 an3 od4 an4 od5 an5 od6 an6 od7 an7 od8 an8 od9 an9 od10 an10 od11 an11 od12 an12 od13 an13 od14 an14 od15 an15 od16 an16 od17 an17 od18 an18 od19 an19 od20 an20 od21 an21 od22 an22 od23 an23 od24 an24 od25 an25 od26 an26 od27 an27 od28 an28 od29 an29 od30 an30 od31 an31 od32 an32 od33 an33 od34 an34 odF anF odM1 anM1 odM2 anM2 odM3 anM3 odI1 anI1 odI2 anI2 odI3 anI3 odI4 anI4 odI5 anI5 : Option Addr}
    {sl1 sl2 sl3 sl4 sl5 sl6 sl7 sl8 sl9 sl10 sl11 sl12 sl13 sl14 sl15 sl16 sl17 sl18 sl19 sl20 sl21 sl22 sl23 sl24 sl25 sl26 sl27 sl28 sl29 sl30 sl31 sl32 sl33 sl34 slF slM1 slM2 slM3 slI1 slI2 slI3 slI4 slI5 : Array (Option Value)}
    {oc1 kV1 dc1 pm1 cd1 ct1 oc2 kV2 dc2 pm2 cd2 ct2 oc3 kV3 dc3 pm3 cd3 ct3 oc4 kV4 dc4 pm4 cd4 ct4 oc5 kV5 dc5 pm5 cd5 ct5 oc6 kV6 dc6 pm6 cd6 ct6 oc7 kV7 dc7 pm7 cd7 ct7 oc8 kV8 dc8 pm8 cd8 ct8 oc9 kV9 dc9 pm9 cd9 ct9 oc10 kV10 dc10 pm10 cd10 ct10 oc11 kV11 dc11 pm11 cd11 ct11 oc12 kV12 dc12 pm12 cd12 ct12 oc13 kV13 dc13 pm13 cd13 ct13 oc14 kV14 dc14 pm14 cd14 ct14 oc15 kV15 dc15 pm15 cd15 ct15 oc16 kV16 dc16 pm16 cd16 ct16 oc17 kV17 dc17 pm17 cd17 ct17 oc18 kV18 dc18 pm18 cd18 ct18 oc19 kV19 dc19 pm19 cd19 ct19 oc20 kV20 dc20 pm20 cd20 ct20 oc21 kV21 dc21 pm21 cd21 ct21 oc22 kV22 dc22 pm22 cd22 ct22 oc23 kV23 dc23 pm23 cd23 ct23 oc24 kV24 dc24 pm24 cd24 ct24 oc25 kV25 dc25 pm25 cd25 ct25 oc26 kV26 dc26 pm26 cd26 ct26 oc27 kV27 dc27 pm27 cd27 ct27 oc28 kV28 dc28 pm28 cd28 ct28 oc29 kV29 dc29 pm29 cd29 ct29 oc30 kV30 dc30 pm30 cd30 ct30 oc31 kV31 dc31 pm31 cd31 ct31 oc32 kV32 dc32 pm32 cd32 ct32 oc33 kV33 dc33 pm33 cd33 ct33 oc34 kV34 dc34 pm34 cd34 ct34 ocF kVF dcF pmF cdF ctF ocM1 kVM1 dcM1 pmM1 cdM1 ctM1 ocM2 kVM2 dcM2 pmM2 cdM2 ctM2 ocM3 kVM3 dcM3 pmM3 cdM3 ctM3 ocI1 kVI1 dcI1 pmI1 cdI1 ctI1 ocI2 kVI2 dcI2 pmI2 cdI2 ctI2 ocI3 kVI3 dcI3 pmI3 cdI3 ctI3 ocI4 kVI4 dcI4 pmI4 cdI4 ctI4 ocI5 kVI5 dcI5 pmI5 cdI5 ctI5 : Value}
    {t6 t9 tb : Tok}
    {hN pB pD pR gB gD gR TD DK : Addr}
    {odPB anPB odPD anPD odPR anPR odIn anIn odT : Option Addr}
    {slPB slPD slPR slIn slT : Array (Option Value)}
    {ocPB kVPB dcPB pmPB cdPB ctPB ocPD kVPD dcPD pmPD cdPD ctPD ocPR kVPR dcPR pmPR cdPR ctPR ocIn dcIn pmIn cdIn ctIn : Value}
    {restB restD restR : List Value}
    {nT : Nat}
    {nm1 q1 : Str} {N1 : Addr} {bs1 : List Value} {sn1 : List Str} {sub1 : List Value} {ab1 : Bool} {col1 : Option Bool} {dd1 : Option Addr} {m01 m11 m31 m51 : Option Value} {cn1 : Str} {tkE1 : Tok}
    {nm2 q2 : Str} {N2 : Addr} {bs2 : List Value} {sn2 : List Str} {sub2 : List Value} {ab2 : Bool} {col2 : Option Bool} {dd2 : Option Addr} {m02 m12 m32 m52 : Option Value} {cn2 : Str} {tkE2 : Tok}
    {nm3 q3 : Str} {N3 : Addr} {bs3 : List Value} {sn3 : List Str} {sub3 : List Value} {ab3 : Bool} {col3 : Option Bool} {dd3 : Option Addr} {m03 m13 m33 m53 : Option Value} {cn3 : Str} {tkE3 : Tok}
    {nm4 q4 : Str} {N4 : Addr} {bs4 : List Value} {sn4 : List Str} {sub4 : List Value} {ab4 : Bool} {col4 : Option Bool} {dd4 : Option Addr} {m04 m14 m34 m54 : Option Value} {cn4 : Str} {tkE4 : Tok}
    {nm5 q5 : Str} {N5 : Addr} {bs5 : List Value} {sn5 : List Str} {sub5 : List Value} {ab5 : Bool} {col5 : Option Bool} {dd5 : Option Addr} {m05 m15 m35 m55 : Option Value} {cn5 : Str} {tkE5 : Tok}
    (X : K.In h) (G : h.Ns mainGlobals mg) (hfa : mg "law" = some (.ref fa))
    (a1 : PySem.W.nsIn K mainGlobals "is_whole" = some (some (.ref f1)))
    (l1 : K.lookup f1 = some ⟨oc1, od1, .func (PySem.W.fnOf "is_whole" "is_whole" (defArgs sWhole) (defBody sWhole) (defScope sWhole) .none kV1 dc1 pm1 an1 cd1 ct1), sl1⟩)
    (c1 : PySem.W.codeIn K cd1 "is_whole" = true)
    (k1 : PySem.W.keepIn K (.ref f1) = true)
    (a2 : PySem.W.nsIn K mainGlobals "is_integer" = some (some (.ref f2)))
    (l2 : K.lookup f2 = some ⟨oc2, od2, .func (PySem.W.fnOf "is_integer" "is_integer" (defArgs sIsInt) (defBody sIsInt) (defScope sIsInt) .none kV2 dc2 pm2 an2 cd2 ct2), sl2⟩)
    (c2 : PySem.W.codeIn K cd2 "is_integer" = true)
    (k2 : PySem.W.keepIn K (.ref f2) = true)
    (a3 : PySem.W.nsIn K mainGlobals "is_base" = some (some (.ref f3)))
    (l3 : K.lookup f3 = some ⟨oc3, od3, .func (PySem.W.fnOf "is_base" "is_base" (defArgs sIsBase) (defBody sIsBase) (defScope sIsBase) .none kV3 dc3 pm3 an3 cd3 ct3), sl3⟩)
    (c3 : PySem.W.codeIn K cd3 "is_base" = true)
    (k3 : PySem.W.keepIn K (.ref f3) = true)
    (a4 : PySem.W.nsIn K mainGlobals "is_digit" = some (some (.ref f4)))
    (l4 : K.lookup f4 = some ⟨oc4, od4, .func (PySem.W.fnOf "is_digit" "is_digit" (defArgs sIsDigit) (defBody sIsDigit) (defScope sIsDigit) .none kV4 dc4 pm4 an4 cd4 ct4), sl4⟩)
    (c4 : PySem.W.codeIn K cd4 "is_digit" = true)
    (k4 : PySem.W.keepIn K (.ref f4) = true)
    (a5 : PySem.W.nsIn K mainGlobals "are_digits" = some (some (.ref f5)))
    (l5 : K.lookup f5 = some ⟨oc5, od5, .func (PySem.W.fnOf "are_digits" "are_digits" (defArgs sAre) (defBody sAre) (defScope sAre) .none kV5 dc5 pm5 an5 cd5 ct5), sl5⟩)
    (c5 : PySem.W.codeIn K cd5 "are_digits" = true)
    (k5 : PySem.W.keepIn K (.ref f5) = true)
    (a6 : PySem.W.nsIn K mainGlobals "_is_one_of" = some (some (.ref f6)))
    (l6 : K.lookup f6 = some ⟨oc6, od6, .func (PySem.W.fnOf "_is_one_of" "_is_one_of" (defArgs sOneOf) (defBody sOneOf) (defScope sOneOf) .none kV6 dc6 pm6 an6 cd6 ct6), sl6⟩)
    (c6 : PySem.W.codeIn K cd6 "_is_one_of" = true)
    (k6 : PySem.W.keepIn K (.ref f6) = true)
    (a7 : PySem.W.nsIn K mainGlobals "_is_pair" = some (some (.ref f7)))
    (l7 : K.lookup f7 = some ⟨oc7, od7, .func (PySem.W.fnOf "_is_pair" "_is_pair" (defArgs sIsPair) (defBody sIsPair) (defScope sIsPair) .none kV7 dc7 pm7 an7 cd7 ct7), sl7⟩)
    (c7 : PySem.W.codeIn K cd7 "_is_pair" = true)
    (k7 : PySem.W.keepIn K (.ref f7) = true)
    (a8 : PySem.W.nsIn K mainGlobals "_is_digit_list" = some (some (.ref f8)))
    (l8 : K.lookup f8 = some ⟨oc8, od8, .func (PySem.W.fnOf "_is_digit_list" "_is_digit_list" (defArgs sDigList) (defBody sDigList) (defScope sDigList) .none kV8 dc8 pm8 an8 cd8 ct8), sl8⟩)
    (c8 : PySem.W.codeIn K cd8 "_is_digit_list" = true)
    (k8 : PySem.W.keepIn K (.ref f8) = true)
    (a9 : PySem.W.nsIn K mainGlobals "_different_digits" = some (some (.ref f9)))
    (l9 : K.lookup f9 = some ⟨oc9, od9, .func (PySem.W.fnOf "_different_digits" "_different_digits" (defArgs sDiffDig) (defBody sDiffDig) (defScope sDiffDig) .none kV9 dc9 pm9 an9 cd9 ct9), sl9⟩)
    (c9 : PySem.W.codeIn K cd9 "_different_digits" = true)
    (k9 : PySem.W.keepIn K (.ref f9) = true)
    (a10 : PySem.W.nsIn K mainGlobals "_different_pairs" = some (some (.ref f10)))
    (l10 : K.lookup f10 = some ⟨oc10, od10, .func (PySem.W.fnOf "_different_pairs" "_different_pairs" (defArgs sDiffPair) (defBody sDiffPair) (defScope sDiffPair) .none kV10 dc10 pm10 an10 cd10 ct10), sl10⟩)
    (c10 : PySem.W.codeIn K cd10 "_different_pairs" = true)
    (k10 : PySem.W.keepIn K (.ref f10) = true)
    (a11 : PySem.W.nsIn K mainGlobals "is_scheme" = some (some (.ref f11)))
    (l11 : K.lookup f11 = some ⟨oc11, od11, .func (PySem.W.fnOf "is_scheme" "is_scheme" (defArgs sIsSch) (defBody sIsSch) (defScope sIsSch) .none kV11 dc11 pm11 an11 cd11 ct11), sl11⟩)
    (c11 : PySem.W.codeIn K cd11 "is_scheme" = true)
    (k11 : PySem.W.keepIn K (.ref f11) = true)
    (a12 : PySem.W.nsIn K mainGlobals "check_scheme" = some (some (.ref f12)))
    (l12 : K.lookup f12 = some ⟨oc12, od12, .func (PySem.W.fnOf "check_scheme" "check_scheme" (defArgs sCheckS) (defBody sCheckS) (defScope sCheckS) .none kV12 dc12 pm12 an12 cd12 ct12), sl12⟩)
    (c12 : PySem.W.codeIn K cd12 "check_scheme" = true)
    (k12 : PySem.W.keepIn K (.ref f12) = true)
    (a13 : PySem.W.nsIn K mainGlobals "_power" = some (some (.ref f13)))
    (l13 : K.lookup f13 = some ⟨oc13, od13, .func (PySem.W.fnOf "_power" "_power" (defArgs sPowP) (defBody sPowP) (defScope sPowP) .none kV13 dc13 pm13 an13 cd13 ct13), sl13⟩)
    (c13 : PySem.W.codeIn K cd13 "_power" = true)
    (k13 : PySem.W.keepIn K (.ref f13) = true)
    (a14 : PySem.W.nsIn K mainGlobals "_lowest" = some (some (.ref f14)))
    (l14 : K.lookup f14 = some ⟨oc14, od14, .func (PySem.W.fnOf "_lowest" "_lowest" (defArgs sLowP) (defBody sLowP) (defScope sLowP) .none kV14 dc14 pm14 an14 cd14 ct14), sl14⟩)
    (c14 : PySem.W.codeIn K cd14 "_lowest" = true)
    (k14 : PySem.W.keepIn K (.ref f14) = true)
    (a15 : PySem.W.nsIn K mainGlobals "fraction_of" = some (some (.ref f15)))
    (l15 : K.lookup f15 = some ⟨oc15, od15, .func (PySem.W.fnOf "fraction_of" "fraction_of" (defArgs sFracOf) (defBody sFracOf) (defScope sFracOf) .none kV15 dc15 pm15 an15 cd15 ct15), sl15⟩)
    (c15 : PySem.W.codeIn K cd15 "fraction_of" = true)
    (k15 : PySem.W.keepIn K (.ref f15) = true)
    (a16 : PySem.W.nsIn K mainGlobals "_law_cell" = some (some (.ref f16)))
    (l16 : K.lookup f16 = some ⟨oc16, od16, .func (PySem.W.fnOf "_law_cell" "_law_cell" (defArgs sCell) (defBody sCell) (defScope sCell) .none kV16 dc16 pm16 an16 cd16 ct16), sl16⟩)
    (c16 : PySem.W.codeIn K cd16 "_law_cell" = true)
    (k16 : PySem.W.keepIn K (.ref f16) = true)
    (a17 : PySem.W.nsIn K mainGlobals "_law_box" = some (some (.ref f17)))
    (l17 : K.lookup f17 = some ⟨oc17, od17, .func (PySem.W.fnOf "_law_box" "_law_box" (defArgs sBox) (defBody sBox) (defScope sBox) .none kV17 dc17 pm17 an17 cd17 ct17), sl17⟩)
    (c17 : PySem.W.codeIn K cd17 "_law_box" = true)
    (k17 : PySem.W.keepIn K (.ref f17) = true)
    (a18 : PySem.W.nsIn K mainGlobals "_law_take" = some (some (.ref f18)))
    (l18 : K.lookup f18 = some ⟨oc18, od18, .func (PySem.W.fnOf "_law_take" "_law_take" (defArgs sTake) (defBody sTake) (defScope sTake) .none kV18 dc18 pm18 an18 cd18 ct18), sl18⟩)
    (c18 : PySem.W.codeIn K cd18 "_law_take" = true)
    (k18 : PySem.W.keepIn K (.ref f18) = true)
    (a19 : PySem.W.nsIn K mainGlobals "_law_mixed" = some (some (.ref f19)))
    (l19 : K.lookup f19 = some ⟨oc19, od19, .func (PySem.W.fnOf "_law_mixed" "_law_mixed" (defArgs sMixed) (defBody sMixed) (defScope sMixed) .none kV19 dc19 pm19 an19 cd19 ct19), sl19⟩)
    (c19 : PySem.W.codeIn K cd19 "_law_mixed" = true)
    (k19 : PySem.W.keepIn K (.ref f19) = true)
    (a20 : PySem.W.nsIn K mainGlobals "_law_digits" = some (some (.ref f20)))
    (l20 : K.lookup f20 = some ⟨oc20, od20, .func (PySem.W.fnOf "_law_digits" "_law_digits" (defArgs sDigits) (defBody sDigits) (defScope sDigits) .none kV20 dc20 pm20 an20 cd20 ct20), sl20⟩)
    (c20 : PySem.W.codeIn K cd20 "_law_digits" = true)
    (k20 : PySem.W.keepIn K (.ref f20) = true)
    (a21 : PySem.W.nsIn K mainGlobals "_law_fences" = some (some (.ref f21)))
    (l21 : K.lookup f21 = some ⟨oc21, od21, .func (PySem.W.fnOf "_law_fences" "_law_fences" (defArgs sFences) (defBody sFences) (defScope sFences) .none kV21 dc21 pm21 an21 cd21 ct21), sl21⟩)
    (c21 : PySem.W.codeIn K cd21 "_law_fences" = true)
    (k21 : PySem.W.keepIn K (.ref f21) = true)
    (a22 : PySem.W.nsIn K mainGlobals "_law_draft" = some (some (.ref f22)))
    (l22 : K.lookup f22 = some ⟨oc22, od22, .func (PySem.W.fnOf "_law_draft" "_law_draft" (defArgs sDraft) (defBody sDraft) (defScope sDraft) .none kV22 dc22 pm22 an22 cd22 ct22), sl22⟩)
    (c22 : PySem.W.codeIn K cd22 "_law_draft" = true)
    (k22 : PySem.W.keepIn K (.ref f22) = true)
    (a23 : PySem.W.nsIn K mainGlobals "_law_scheme" = some (some (.ref f23)))
    (l23 : K.lookup f23 = some ⟨oc23, od23, .func (PySem.W.fnOf "_law_scheme" "_law_scheme" (defArgs sScheme) (defBody sScheme) (defScope sScheme) .none kV23 dc23 pm23 an23 cd23 ct23), sl23⟩)
    (c23 : PySem.W.codeIn K cd23 "_law_scheme" = true)
    (k23 : PySem.W.keepIn K (.ref f23) = true)
    (a24 : PySem.W.nsIn K mainGlobals "_law_is_row" = some (some (.ref f24)))
    (l24 : K.lookup f24 = some ⟨oc24, od24, .func (PySem.W.fnOf "_law_is_row" "_law_is_row" (defArgs sIsRow) (defBody sIsRow) (defScope sIsRow) .none kV24 dc24 pm24 an24 cd24 ct24), sl24⟩)
    (c24 : PySem.W.codeIn K cd24 "_law_is_row" = true)
    (k24 : PySem.W.keepIn K (.ref f24) = true)
    (a25 : PySem.W.nsIn K mainGlobals "_law_value" = some (some (.ref f25)))
    (l25 : K.lookup f25 = some ⟨oc25, od25, .func (PySem.W.fnOf "_law_value" "_law_value" (defArgs sValue) (defBody sValue) (defScope sValue) .none kV25 dc25 pm25 an25 cd25 ct25), sl25⟩)
    (c25 : PySem.W.codeIn K cd25 "_law_value" = true)
    (k25 : PySem.W.keepIn K (.ref f25) = true)
    (a26 : PySem.W.nsIn K mainGlobals "_law_lowest" = some (some (.ref f26)))
    (l26 : K.lookup f26 = some ⟨oc26, od26, .func (PySem.W.fnOf "_law_lowest" "_law_lowest" (defArgs sLowest) (defBody sLowest) (defScope sLowest) .none kV26 dc26 pm26 an26 cd26 ct26), sl26⟩)
    (c26 : PySem.W.codeIn K cd26 "_law_lowest" = true)
    (k26 : PySem.W.keepIn K (.ref f26) = true)
    (a27 : PySem.W.nsIn K mainGlobals "_law_power" = some (some (.ref f27)))
    (l27 : K.lookup f27 = some ⟨oc27, od27, .func (PySem.W.fnOf "_law_power" "_law_power" (defArgs sPower) (defBody sPower) (defScope sPower) .none kV27 dc27 pm27 an27 cd27 ct27), sl27⟩)
    (c27 : PySem.W.codeIn K cd27 "_law_power" = true)
    (k27 : PySem.W.keepIn K (.ref f27) = true)
    (a28 : PySem.W.nsIn K mainGlobals "_law_fraction" = some (some (.ref f28)))
    (l28 : K.lookup f28 = some ⟨oc28, od28, .func (PySem.W.fnOf "_law_fraction" "_law_fraction" (defArgs sFraction) (defBody sFraction) (defScope sFraction) .none kV28 dc28 pm28 an28 cd28 ct28), sl28⟩)
    (c28 : PySem.W.codeIn K cd28 "_law_fraction" = true)
    (k28 : PySem.W.keepIn K (.ref f28) = true)
    (a29 : PySem.W.nsIn K mainGlobals "_law_odd_scheme" = some (some (.ref f29)))
    (l29 : K.lookup f29 = some ⟨oc29, od29, .func (PySem.W.fnOf "_law_odd_scheme" "_law_odd_scheme" (defArgs sOddS) (defBody sOddS) (defScope sOddS) .none kV29 dc29 pm29 an29 cd29 ct29), sl29⟩)
    (c29 : PySem.W.codeIn K cd29 "_law_odd_scheme" = true)
    (k29 : PySem.W.keepIn K (.ref f29) = true)
    (a30 : PySem.W.nsIn K mainGlobals "_law_odd_row" = some (some (.ref f30)))
    (l30 : K.lookup f30 = some ⟨oc30, od30, .func (PySem.W.fnOf "_law_odd_row" "_law_odd_row" (defArgs sOddR) (defBody sOddR) (defScope sOddR) .none kV30 dc30 pm30 an30 cd30 ct30), sl30⟩)
    (c30 : PySem.W.codeIn K cd30 "_law_odd_row" = true)
    (k30 : PySem.W.keepIn K (.ref f30) = true)
    (a31 : PySem.W.nsIn K mainGlobals "_law_refused" = some (some (.ref f31)))
    (l31 : K.lookup f31 = some ⟨oc31, od31, .func (PySem.W.fnOf "_law_refused" "_law_refused" (defArgs sRefused) (defBody sRefused) (defScope sRefused) .none kV31 dc31 pm31 an31 cd31 ct31), sl31⟩)
    (c31 : PySem.W.codeIn K cd31 "_law_refused" = true)
    (k31 : PySem.W.keepIn K (.ref f31) = true)
    (a32 : PySem.W.nsIn K mainGlobals "_law_drawn" = some (some (.ref f32)))
    (l32 : K.lookup f32 = some ⟨oc32, od32, .func (PySem.W.fnOf "_law_drawn" "_law_drawn" (defArgs sDrawn) (defBody sDrawn) (defScope sDrawn) .none kV32 dc32 pm32 an32 cd32 ct32), sl32⟩)
    (c32 : PySem.W.codeIn K cd32 "_law_drawn" = true)
    (k32 : PySem.W.keepIn K (.ref f32) = true)
    (a33 : PySem.W.nsIn K mainGlobals "_law_due" = some (some (.ref f33)))
    (l33 : K.lookup f33 = some ⟨oc33, od33, .func (PySem.W.fnOf "_law_due" "_law_due" (defArgs sDue) (defBody sDue) (defScope sDue) .none kV33 dc33 pm33 an33 cd33 ct33), sl33⟩)
    (c33 : PySem.W.codeIn K cd33 "_law_due" = true)
    (k33 : PySem.W.keepIn K (.ref f33) = true)
    (a34 : PySem.W.nsIn K mainGlobals "law" = some (some (.ref f34)))
    (l34 : K.lookup f34 = some ⟨oc34, od34, .func (PySem.W.fnOf "law" "law" (defArgs sLaw) (defBody sLaw) (defScope sLaw) .none kV34 dc34 pm34 an34 cd34 ct34), sl34⟩)
    (c34 : PySem.W.codeIn K cd34 "law" = true)
    (k34 : PySem.W.keepIn K (.ref f34) = true)
    (aF : PySem.W.nsIn K mainGlobals "FigureError" = some (some (.ref CF)))
    (rF : PySem.W.readsIn K CF (.type "type") = true)
    (gaF : PySem.W.specialIn K (.ref CF) "__getattribute__" = some (some (.builtin "type.__getattribute__")))
    (atF : PySem.W.findCls K (.ref CF) (.type "type") "__init__" = some (.val (.ref fF)))
    (lF : K.lookup fF = some ⟨ocF, odF, .func (PySem.W.fnOf "__init__" "FigureError.__init__" (defArgs sFig) (defBody sFig) (defScope sFig) .none kVF dcF pmF anF cdF ctF), slF⟩)
    (cF : PySem.W.codeIn K cdF "FigureError.__init__" = true)
    (kF : PySem.W.keepIn K (.ref fF) = true)
    (vV : PySem.W.findCls K (.type "ValueError") (.type "type") "__init__" = some (.val (.builtin "ValueError.__init__")))
    (aC1 : PySem.W.nsIn K mainGlobals "InvalidBase" = some (some (.ref C1)))
    (xC1 : K.lookup C1 = some (excClassObj nm1 q1 C1 N1 bs1 [.ref CF, .type "ValueError", .type "Exception", .type "BaseException", .type "object"] true sn1 sub1 ab1 col1 dd1 m01 m11 (some (.str cn1 tkE1)) m31 m51 "ValueError.__new__"))
    (sa1 : PySem.W.findIn K (.ref C1) "__setattr__" = some (some (.builtin "object.__setattr__")))
    (ex1 : PySem.W.subIn K (.ref C1) (.type "BaseException") = some true)
    (ty1 : PySem.W.typeIn K (.ref C1) = some (.type "type"))
    (kC1 : PySem.W.keepIn K (.ref C1) = true)
    (iC1 : PySem.W.findIn K (.ref C1) "__init__" = some (some (.ref fI1)))
    (tI1 : PySem.W.typeIn K (.ref fI1) = some (.type "function"))
    (no1 : PySem.W.findIn K (.ref C1) "value" = some none)
    (ga1 : PySem.W.findIn K (.ref C1) "__getattribute__" = some (some (.builtin "BaseException.__getattribute__")))
    (gg1 : PySem.W.findIn K (.ref C1) "__getattr__" = some none)
    (hd1 : PySem.W.hasDictIn K C1 = true)
    (sb1 : PySem.W.subIn K (.ref C1) (.ref C1) = some true)
    (ic1 : PySem.W.isClsIn K C1 = true)
    (lI1 : K.lookup fI1 = some ⟨ocI1, odI1, .func (PySem.W.fnOf "__init__" "InvalidBase.__init__" (defArgs sInBase) (defBody sInBase) (defScope sInBase) .none kVI1 dcI1 pmI1 anI1 cdI1 ctI1), slI1⟩)
    (cI1 : PySem.W.codeIn K cdI1 "InvalidBase.__init__" = true)
    (kI1 : PySem.W.keepIn K (.ref fI1) = true)
    (aC2 : PySem.W.nsIn K mainGlobals "InvalidDigits" = some (some (.ref C2)))
    (xC2 : K.lookup C2 = some (excClassObj nm2 q2 C2 N2 bs2 [.ref CF, .type "ValueError", .type "Exception", .type "BaseException", .type "object"] true sn2 sub2 ab2 col2 dd2 m02 m12 (some (.str cn2 tkE2)) m32 m52 "ValueError.__new__"))
    (sa2 : PySem.W.findIn K (.ref C2) "__setattr__" = some (some (.builtin "object.__setattr__")))
    (ex2 : PySem.W.subIn K (.ref C2) (.type "BaseException") = some true)
    (ty2 : PySem.W.typeIn K (.ref C2) = some (.type "type"))
    (kC2 : PySem.W.keepIn K (.ref C2) = true)
    (iC2 : PySem.W.findIn K (.ref C2) "__init__" = some (some (.ref fI2)))
    (tI2 : PySem.W.typeIn K (.ref fI2) = some (.type "function"))
    (no2 : PySem.W.findIn K (.ref C2) "value" = some none)
    (ga2 : PySem.W.findIn K (.ref C2) "__getattribute__" = some (some (.builtin "BaseException.__getattribute__")))
    (gg2 : PySem.W.findIn K (.ref C2) "__getattr__" = some none)
    (hd2 : PySem.W.hasDictIn K C2 = true)
    (sb2 : PySem.W.subIn K (.ref C2) (.ref C2) = some true)
    (ic2 : PySem.W.isClsIn K C2 = true)
    (lI2 : K.lookup fI2 = some ⟨ocI2, odI2, .func (PySem.W.fnOf "__init__" "InvalidDigits.__init__" (defArgs sInDig) (defBody sInDig) (defScope sInDig) .none kVI2 dcI2 pmI2 anI2 cdI2 ctI2), slI2⟩)
    (cI2 : PySem.W.codeIn K cdI2 "InvalidDigits.__init__" = true)
    (kI2 : PySem.W.keepIn K (.ref fI2) = true)
    (aC3 : PySem.W.nsIn K mainGlobals "InvalidBars" = some (some (.ref C3)))
    (xC3 : K.lookup C3 = some (excClassObj nm3 q3 C3 N3 bs3 [.ref CF, .type "ValueError", .type "Exception", .type "BaseException", .type "object"] true sn3 sub3 ab3 col3 dd3 m03 m13 (some (.str cn3 tkE3)) m33 m53 "ValueError.__new__"))
    (sa3 : PySem.W.findIn K (.ref C3) "__setattr__" = some (some (.builtin "object.__setattr__")))
    (ex3 : PySem.W.subIn K (.ref C3) (.type "BaseException") = some true)
    (ty3 : PySem.W.typeIn K (.ref C3) = some (.type "type"))
    (kC3 : PySem.W.keepIn K (.ref C3) = true)
    (iC3 : PySem.W.findIn K (.ref C3) "__init__" = some (some (.ref fI3)))
    (tI3 : PySem.W.typeIn K (.ref fI3) = some (.type "function"))
    (no3 : PySem.W.findIn K (.ref C3) "value" = some none)
    (ga3 : PySem.W.findIn K (.ref C3) "__getattribute__" = some (some (.builtin "BaseException.__getattribute__")))
    (gg3 : PySem.W.findIn K (.ref C3) "__getattr__" = some none)
    (hd3 : PySem.W.hasDictIn K C3 = true)
    (sb3 : PySem.W.subIn K (.ref C3) (.ref C3) = some true)
    (ic3 : PySem.W.isClsIn K C3 = true)
    (lI3 : K.lookup fI3 = some ⟨ocI3, odI3, .func (PySem.W.fnOf "__init__" "InvalidBars.__init__" (defArgs sInBars) (defBody sInBars) (defScope sInBars) .none kVI3 dcI3 pmI3 anI3 cdI3 ctI3), slI3⟩)
    (cI3 : PySem.W.codeIn K cdI3 "InvalidBars.__init__" = true)
    (kI3 : PySem.W.keepIn K (.ref fI3) = true)
    (aC4 : PySem.W.nsIn K mainGlobals "InvalidRow" = some (some (.ref C4)))
    (xC4 : K.lookup C4 = some (excClassObj nm4 q4 C4 N4 bs4 [.ref CF, .type "ValueError", .type "Exception", .type "BaseException", .type "object"] true sn4 sub4 ab4 col4 dd4 m04 m14 (some (.str cn4 tkE4)) m34 m54 "ValueError.__new__"))
    (sa4 : PySem.W.findIn K (.ref C4) "__setattr__" = some (some (.builtin "object.__setattr__")))
    (ex4 : PySem.W.subIn K (.ref C4) (.type "BaseException") = some true)
    (ty4 : PySem.W.typeIn K (.ref C4) = some (.type "type"))
    (kC4 : PySem.W.keepIn K (.ref C4) = true)
    (iC4 : PySem.W.findIn K (.ref C4) "__init__" = some (some (.ref fI4)))
    (tI4 : PySem.W.typeIn K (.ref fI4) = some (.type "function"))
    (no4 : PySem.W.findIn K (.ref C4) "row" = some none)
    (ga4 : PySem.W.findIn K (.ref C4) "__getattribute__" = some (some (.builtin "BaseException.__getattribute__")))
    (gg4 : PySem.W.findIn K (.ref C4) "__getattr__" = some none)
    (hd4 : PySem.W.hasDictIn K C4 = true)
    (sb4 : PySem.W.subIn K (.ref C4) (.ref C4) = some true)
    (ic4 : PySem.W.isClsIn K C4 = true)
    (lI4 : K.lookup fI4 = some ⟨ocI4, odI4, .func (PySem.W.fnOf "__init__" "InvalidRow.__init__" (defArgs sInRow) (defBody sInRow) (defScope sInRow) .none kVI4 dcI4 pmI4 anI4 cdI4 ctI4), slI4⟩)
    (cI4 : PySem.W.codeIn K cdI4 "InvalidRow.__init__" = true)
    (kI4 : PySem.W.keepIn K (.ref fI4) = true)
    (aC5 : PySem.W.nsIn K mainGlobals "NotScheme" = some (some (.ref C5)))
    (xC5 : K.lookup C5 = some (excClassObj nm5 q5 C5 N5 bs5 [.ref CF, .type "ValueError", .type "Exception", .type "BaseException", .type "object"] true sn5 sub5 ab5 col5 dd5 m05 m15 (some (.str cn5 tkE5)) m35 m55 "ValueError.__new__"))
    (sa5 : PySem.W.findIn K (.ref C5) "__setattr__" = some (some (.builtin "object.__setattr__")))
    (ex5 : PySem.W.subIn K (.ref C5) (.type "BaseException") = some true)
    (ty5 : PySem.W.typeIn K (.ref C5) = some (.type "type"))
    (kC5 : PySem.W.keepIn K (.ref C5) = true)
    (iC5 : PySem.W.findIn K (.ref C5) "__init__" = some (some (.ref fI5)))
    (tI5 : PySem.W.typeIn K (.ref fI5) = some (.type "function"))
    (no5 : PySem.W.findIn K (.ref C5) "value" = some none)
    (ga5 : PySem.W.findIn K (.ref C5) "__getattribute__" = some (some (.builtin "BaseException.__getattribute__")))
    (gg5 : PySem.W.findIn K (.ref C5) "__getattr__" = some none)
    (hd5 : PySem.W.hasDictIn K C5 = true)
    (sb5 : PySem.W.subIn K (.ref C5) (.ref C5) = some true)
    (ic5 : PySem.W.isClsIn K C5 = true)
    (lI5 : K.lookup fI5 = some ⟨ocI5, odI5, .func (PySem.W.fnOf "__init__" "NotScheme.__init__" (defArgs sNotS) (defBody sNotS) (defScope sNotS) .none kVI5 dcI5 pmI5 anI5 cdI5 ctI5), slI5⟩)
    (cI5 : PySem.W.codeIn K cdI5 "NotScheme.__init__" = true)
    (kI5 : PySem.W.keepIn K (.ref fI5) = true)
    (aS : PySem.W.nsIn K mainGlobals "Scheme" = some (some (.ref CS)))
    (pgS : PySem.W.plainGet K CS Str.empty = true)
    (hdS : PySem.W.hasDictIn K CS = true)
    (poS : PySem.W.plainOver K CS = true)
    (saS : PySem.W.findIn K (.ref CS) "__setattr__" = some (some (.builtin "object.__setattr__")))
    (mkS : PySem.W.makesIn K CS = true)
    (nB : PySem.W.findIn K (.ref CS) "_base" = some none)
    (nD : PySem.W.findIn K (.ref CS) "_digits" = some none)
    (nR : PySem.W.findIn K (.ref CS) "_bars" = some none)
    (haS : PySem.W.findIn K (.ref CS) "__class__" = some (some (.builtin "object.__class__")))
    (xn : PySem.W.specialIn K (.builtin "object.__class__") "__get__" = some (some (.builtin "getset_descriptor.__get__")))
    (xt : PySem.W.takesIn K (.builtin "object.__class__") = some true)
    (hmS : PySem.W.mroIn K CS (.type "object") = some true)
    (sbS : PySem.W.subIn K (.ref CS) (.ref CS) = some true)
    (icS : PySem.W.isClsIn K CS = true)
    (tyS : PySem.W.typeIn K (.ref CS) = some (.type "type"))
    (kpS : PySem.W.keepIn K (.ref CS) = true)
    (at1 : PySem.W.findIn K (.ref CS) "__contains__" = some (some (.ref h1)))
    (fn1 : PySem.W.isFn K (.ref h1) = true)
    (lM1 : K.lookup h1 = some ⟨ocM1, odM1, .func (PySem.W.fnOf "__contains__" "Scheme.__contains__" (defArgs sHas) (defBody sHas) (defScope sHas) .none kVM1 dcM1 pmM1 anM1 cdM1 ctM1), slM1⟩)
    (cM1 : PySem.W.codeIn K cdM1 "Scheme.__contains__" = true)
    (kM1 : PySem.W.keepIn K (.ref h1) = true)
    (at2 : PySem.W.findIn K (.ref CS) "allows" = some (some (.ref h2)))
    (fn2 : PySem.W.isFn K (.ref h2) = true)
    (lM2 : K.lookup h2 = some ⟨ocM2, odM2, .func (PySem.W.fnOf "allows" "Scheme.allows" (defArgs sAllows) (defBody sAllows) (defScope sAllows) .none kVM2 dcM2 pmM2 anM2 cdM2 ctM2), slM2⟩)
    (cM2 : PySem.W.codeIn K cdM2 "Scheme.allows" = true)
    (kM2 : PySem.W.keepIn K (.ref h2) = true)
    (at3 : PySem.W.findIn K (.ref CS) "value_of" = some (some (.ref h3)))
    (fn3 : PySem.W.isFn K (.ref h3) = true)
    (lM3 : K.lookup h3 = some ⟨ocM3, odM3, .func (PySem.W.fnOf "value_of" "Scheme.value_of" (defArgs sValueOf) (defBody sValueOf) (defScope sValueOf) .none kVM3 dcM3 pmM3 anM3 cdM3 ctM3), slM3⟩)
    (cM3 : PySem.W.codeIn K cdM3 "Scheme.value_of" = true)
    (kM3 : PySem.W.keepIn K (.ref h3) = true)
    (q45 : PySem.W.subIn K (.ref C4) (.ref C5) = some false)
    (vG : PySem.W.nsIn K mainGlobals "gcd" = some (some (.builtin "math.gcd")))
    (apB : PySem.W.findIn K (.ref CS) "base" = some (some (.ref pB)))
    (gtB : PySem.W.specialIn K (.ref pB) "__get__" = some (some (.builtin "property.__get__")))
    (tkB : PySem.W.takesIn K (.ref pB) = some true)
    (rcB : PySem.W.recIn K pB "property" = some (.ref gB :: restB))
    (apD : PySem.W.findIn K (.ref CS) "digits" = some (some (.ref pD)))
    (gtD : PySem.W.specialIn K (.ref pD) "__get__" = some (some (.builtin "property.__get__")))
    (tkD : PySem.W.takesIn K (.ref pD) = some true)
    (rcD : PySem.W.recIn K pD "property" = some (.ref gD :: restD))
    (apR : PySem.W.findIn K (.ref CS) "bars" = some (some (.ref pR)))
    (gtR : PySem.W.specialIn K (.ref pR) "__get__" = some (some (.builtin "property.__get__")))
    (tkR : PySem.W.takesIn K (.ref pR) = some true)
    (rcR : PySem.W.recIn K pR "property" = some (.ref gR :: restR))
    (atN : PySem.W.findIn K (.ref CS) "__init__" = some (some (.ref hN)))
    (fnN : PySem.W.isFn K (.ref hN) = true)
    (lIn : K.lookup hN = some ⟨ocIn, odIn, .func (PySem.W.fnOf "__init__" "Scheme.__init__" (defArgs sInit) (defBody sInit) (defScope sInit) .none (.ref DK) dcIn pmIn anIn cdIn ctIn), slIn⟩)
    (cIn : PySem.W.codeIn K cdIn "Scheme.__init__" = true)
    (kIn : PySem.W.keepIn K (.ref hN) = true)
    (nsB : PySem.W.nsIn K DK "bars" = some (some (.ref TD)))
    (lT : K.lookup TD = some ⟨.type "tuple", odT, .seq #[] nT, slT⟩)
    (lPB : K.lookup gB = some ⟨ocPB, odPB, .func (PySem.W.fnOf "base" "Scheme.base" (defArgs sPBase) (defBody sPBase) (defScope sPBase) .none kVPB dcPB pmPB anPB cdPB ctPB), slPB⟩)
    (cPB : PySem.W.codeIn K cdPB "Scheme.base" = true)
    (kPB : PySem.W.keepIn K (.ref gB) = true)
    (lPD : K.lookup gD = some ⟨ocPD, odPD, .func (PySem.W.fnOf "digits" "Scheme.digits" (defArgs sPDigits) (defBody sPDigits) (defScope sPDigits) .none kVPD dcPD pmPD anPD cdPD ctPD), slPD⟩)
    (cPD : PySem.W.codeIn K cdPD "Scheme.digits" = true)
    (kPD : PySem.W.keepIn K (.ref gD) = true)
    (lPR : K.lookup gR = some ⟨ocPR, odPR, .func (PySem.W.fnOf "bars" "Scheme.bars" (defArgs sPBars) (defBody sPBars) (defScope sPBars) .none kVPR dcPR pmPR anPR cdPR ctPR), slPR⟩)
    (cPR : PySem.W.codeIn K cdPR "Scheme.bars" = true)
    (kPR : PySem.W.keepIn K (.ref gR) = true)
    (z1 : PySem.W.nsIn K mainGlobals "len" = some none)
    (z2 : PySem.W.nsIn K mainGlobals "range" = some none)
    (z3 : PySem.W.nsIn K mainGlobals "int" = some none)
    (z4 : PySem.W.nsIn K mainGlobals "bool" = some none)
    (z5 : PySem.W.nsIn K mainGlobals "isinstance" = some none)
    (z6 : PySem.W.nsIn K mainGlobals "repr" = some none)
    (z7 : PySem.W.nsIn K mainGlobals "list" = some none)
    (z8 : PySem.W.nsIn K mainGlobals "tuple" = some none)
    (z9 : PySem.W.nsIn K mainGlobals "set" = some none)
    (z10 : PySem.W.nsIn K mainGlobals "sorted" = some none)
    (z11 : PySem.W.nsIn K mainGlobals "all" = some none)
    (z12 : PySem.W.nsIn K mainGlobals "max" = some none)
    (z13 : PySem.W.nsIn K mainGlobals "min" = some none)
    (z14 : PySem.W.nsIn K mainGlobals "abs" = some none)
    (z15 : PySem.W.nsIn K mainGlobals "ValueError" = some none)
    (z16 : PySem.W.nsIn K mainGlobals "zip" = some none)
    (v1 : PySem.W.nsIn K mainGlobals "MOST_DIGITS" = some (some (.int 6 t6)))
    (v2 : PySem.W.nsIn K mainGlobals "GREATEST_DIGIT" = some (some (.int 9 t9)))
    (v3 : PySem.W.nsIn K mainGlobals "GREATEST_BASE" = some (some (.int 6 tb)))
    (haE1 : PySem.W.findIn K (.ref C1) "__class__" = some (some (.builtin "object.__class__")))
    (hmE1 : PySem.W.mroIn K C1 (.type "object") = some true)
    (fcE1 : PySem.W.findCls K (.ref C1) (.type "type") "__name__" = some (.get (.builtin "getset_descriptor.__get__") (.builtin "type.__name__") (.ref C1) (.type "type")))
    (nnE1 : PySem.W.findIn K (.ref C1) "class_name" = some none)
    (haE2 : PySem.W.findIn K (.ref C2) "__class__" = some (some (.builtin "object.__class__")))
    (hmE2 : PySem.W.mroIn K C2 (.type "object") = some true)
    (fcE2 : PySem.W.findCls K (.ref C2) (.type "type") "__name__" = some (.get (.builtin "getset_descriptor.__get__") (.builtin "type.__name__") (.ref C2) (.type "type")))
    (nnE2 : PySem.W.findIn K (.ref C2) "class_name" = some none)
    (haE3 : PySem.W.findIn K (.ref C3) "__class__" = some (some (.builtin "object.__class__")))
    (hmE3 : PySem.W.mroIn K C3 (.type "object") = some true)
    (fcE3 : PySem.W.findCls K (.ref C3) (.type "type") "__name__" = some (.get (.builtin "getset_descriptor.__get__") (.builtin "type.__name__") (.ref C3) (.type "type")))
    (nnE3 : PySem.W.findIn K (.ref C3) "class_name" = some none)
    (haE4 : PySem.W.findIn K (.ref C4) "__class__" = some (some (.builtin "object.__class__")))
    (hmE4 : PySem.W.mroIn K C4 (.type "object") = some true)
    (fcE4 : PySem.W.findCls K (.ref C4) (.type "type") "__name__" = some (.get (.builtin "getset_descriptor.__get__") (.builtin "type.__name__") (.ref C4) (.type "type")))
    (nnE4 : PySem.W.findIn K (.ref C4) "class_name" = some none)
    (haE5 : PySem.W.findIn K (.ref C5) "__class__" = some (some (.builtin "object.__class__")))
    (hmE5 : PySem.W.mroIn K C5 (.type "object") = some true)
    (fcE5 : PySem.W.findCls K (.ref C5) (.type "type") "__name__" = some (.get (.builtin "getset_descriptor.__get__") (.builtin "type.__name__") (.ref C5) (.type "type")))
    (nnE5 : PySem.W.findIn K (.ref C5) "class_name" = some none)
    (xnE : PySem.W.specialIn K (.builtin "object.__class__") "__get__" = some (some (.builtin "getset_descriptor.__get__")))
    (xtE : PySem.W.takesIn K (.builtin "object.__class__") = some true)
    (stE : PySem.W.nsIn K cStatics "thirdparty.any" = some none)
    : ∃ fd : FuncData, (∀ (s : Shared) (v : Value), BindsTo s fd ⟨[v], []⟩ [("_law_script", v)]) ∧ ∀ base : Heap, K.In base → base.Ns mainGlobals mg → FnG l.prog w K mg base 10 fa fd ["_law_script"] (spLaw K) := by
  have e := hfa.symm.trans (PySem.W.mg_of X G a34)
  cases e
  have F1 := fun_mk (st := sWhole) l1 c1 k1
  have g1 := PySem.W.mg_of X G a1
  have b1 := F1.binds (ps := ["value"]) fun _ _ _ _ _ _ us hl => match us, hl with | [_], _ => rfl
  have F2 := fun_mk (st := sIsInt) l2 c2 k2
  have g2 := PySem.W.mg_of X G a2
  have b2 := F2.binds (ps := ["value", "low", "high"]) fun _ _ _ _ _ _ us hl => match us, hl with | [_, _, _], _ => rfl
  have F3 := fun_mk (st := sIsBase) l3 c3 k3
  have g3 := PySem.W.mg_of X G a3
  have b3 := F3.binds (ps := ["value"]) fun _ _ _ _ _ _ us hl => match us, hl with | [_], _ => rfl
  have F4 := fun_mk (st := sIsDigit) l4 c4 k4
  have g4 := PySem.W.mg_of X G a4
  have b4 := F4.binds (ps := ["value"]) fun _ _ _ _ _ _ us hl => match us, hl with | [_], _ => rfl
  have F5 := fun_mk (st := sAre) l5 c5 k5
  have g5 := PySem.W.mg_of X G a5
  have b5 := F5.binds (ps := ["items"]) fun _ _ _ _ _ _ us hl => match us, hl with | [_], _ => rfl
  have F6 := fun_mk (st := sOneOf) l6 c6 k6
  have g6 := PySem.W.mg_of X G a6
  have b6 := F6.binds (ps := ["digits", "value"]) fun _ _ _ _ _ _ us hl => match us, hl with | [_, _], _ => rfl
  have F7 := fun_mk (st := sIsPair) l7 c7 k7
  have g7 := PySem.W.mg_of X G a7
  have b7 := F7.binds (ps := ["digits", "value"]) fun _ _ _ _ _ _ us hl => match us, hl with | [_, _], _ => rfl
  have F8 := fun_mk (st := sDigList) l8 c8 k8
  have g8 := PySem.W.mg_of X G a8
  have b8 := F8.binds (ps := ["value"]) fun _ _ _ _ _ _ us hl => match us, hl with | [_], _ => rfl
  have F9 := fun_mk (st := sDiffDig) l9 c9 k9
  have g9 := PySem.W.mg_of X G a9
  have b9 := F9.binds (ps := ["digits"]) fun _ _ _ _ _ _ us hl => match us, hl with | [_], _ => rfl
  have F10 := fun_mk (st := sDiffPair) l10 c10 k10
  have g10 := PySem.W.mg_of X G a10
  have b10 := F10.binds (ps := ["digits", "bars"]) fun _ _ _ _ _ _ us hl => match us, hl with | [_, _], _ => rfl
  have F11 := fun_mk (st := sIsSch) l11 c11 k11
  have g11 := PySem.W.mg_of X G a11
  have b11 := F11.binds (ps := ["value"]) fun _ _ _ _ _ _ us hl => match us, hl with | [_], _ => rfl
  have F12 := fun_mk (st := sCheckS) l12 c12 k12
  have g12 := PySem.W.mg_of X G a12
  have b12 := F12.binds (ps := ["value"]) fun _ _ _ _ _ _ us hl => match us, hl with | [_], _ => rfl
  have F13 := fun_mk (st := sPowP) l13 c13 k13
  have g13 := PySem.W.mg_of X G a13
  have b13 := F13.binds (ps := ["base", "exponent"]) fun _ _ _ _ _ _ us hl => match us, hl with | [_, _], _ => rfl
  have F14 := fun_mk (st := sLowP) l14 c14 k14
  have g14 := PySem.W.mg_of X G a14
  have b14 := F14.binds (ps := ["top", "bottom"]) fun _ _ _ _ _ _ us hl => match us, hl with | [_, _], _ => rfl
  have F15 := fun_mk (st := sFracOf) l15 c15 k15
  have g15 := PySem.W.mg_of X G a15
  have b15 := F15.binds (ps := ["scheme", "front", "ring"]) fun _ _ _ _ _ _ us hl => match us, hl with | [_, _, _], _ => rfl
  have F16 := fun_mk (st := sCell) l16 c16 k16
  have g16 := PySem.W.mg_of X G a16
  have b16 := F16.binds (ps := ["_law_script", "_law_k"]) fun _ _ _ _ _ _ us hl => match us, hl with | [_, _], _ => rfl
  have F17 := fun_mk (st := sBox) l17 c17 k17
  have g17 := PySem.W.mg_of X G a17
  have b17 := F17.binds (ps := ["_law_cell_here"]) fun _ _ _ _ _ _ us hl => match us, hl with | [_], _ => rfl
  have F18 := fun_mk (st := sTake) l18 c18 k18
  have g18 := PySem.W.mg_of X G a18
  have b18 := F18.binds (ps := ["_law_box_here", "_law_many"]) fun _ _ _ _ _ _ us hl => match us, hl with | [_, _], _ => rfl
  have F19 := fun_mk (st := sMixed) l19 c19 k19
  have g19 := PySem.W.mg_of X G a19
  have b19 := F19.binds (ps := ["_law_box_here", "_law_some"]) fun _ _ _ _ _ _ us hl => match us, hl with | [_, _], _ => rfl
  have F20 := fun_mk (st := sDigits) l20 c20 k20
  have g20 := PySem.W.mg_of X G a20
  have b20 := F20.binds (ps := ["_law_box_here", "_law_base", "_law_most"]) fun _ _ _ _ _ _ us hl => match us, hl with | [_, _, _], _ => rfl
  have F21 := fun_mk (st := sFences) l21 c21 k21
  have g21 := PySem.W.mg_of X G a21
  have b21 := F21.binds (ps := ["_law_box_here", "_law_digits_here"]) fun _ _ _ _ _ _ us hl => match us, hl with | [_, _], _ => rfl
  have F22 := fun_mk (st := sDraft) l22 c22 k22
  have g22 := PySem.W.mg_of X G a22
  have b22 := F22.binds (ps := ["_law_box_here", "_law_most"]) fun _ _ _ _ _ _ us hl => match us, hl with | [_, _], _ => rfl
  have F23 := fun_mk (st := sScheme) l23 c23 k23
  have g23 := PySem.W.mg_of X G a23
  have b23 := F23.binds (ps := ["_law_box_here", "_law_draft_here"]) fun _ _ _ _ _ _ us hl => match us, hl with | [_, _], _ => rfl
  have F24 := fun_mk (st := sIsRow) l24 c24 k24
  have g24 := PySem.W.mg_of X G a24
  have b24 := F24.binds (ps := ["_law_draft_here", "_law_row"]) fun _ _ _ _ _ _ us hl => match us, hl with | [_, _], _ => rfl
  have F25 := fun_mk (st := sValue) l25 c25 k25
  have g25 := PySem.W.mg_of X G a25
  have b25 := F25.binds (ps := ["_law_base", "_law_row"]) fun _ _ _ _ _ _ us hl => match us, hl with | [_, _], _ => rfl
  have F26 := fun_mk (st := sLowest) l26 c26 k26
  have g26 := PySem.W.mg_of X G a26
  have b26 := F26.binds (ps := ["_law_top", "_law_bottom"]) fun _ _ _ _ _ _ us hl => match us, hl with | [_, _], _ => rfl
  have F27 := fun_mk (st := sPower) l27 c27 k27
  have g27 := PySem.W.mg_of X G a27
  have b27 := F27.binds (ps := ["_law_base", "_law_size"]) fun _ _ _ _ _ _ us hl => match us, hl with | [_, _], _ => rfl
  have F28 := fun_mk (st := sFraction) l28 c28 k28
  have g28 := PySem.W.mg_of X G a28
  have b28 := F28.binds (ps := ["_law_base", "_law_front", "_law_ring"]) fun _ _ _ _ _ _ us hl => match us, hl with | [_, _, _], _ => rfl
  have F29 := fun_mk (st := sOddS) l29 c29 k29
  have g29 := PySem.W.mg_of X G a29
  have b29 := F29.binds (ps := ["_law_box_here"]) fun _ _ _ _ _ _ us hl => match us, hl with | [_], _ => rfl
  have F30 := fun_mk (st := sOddR) l30 c30 k30
  have g30 := PySem.W.mg_of X G a30
  have b30 := F30.binds (ps := ["_law_box_here", "_law_draft_here"]) fun _ _ _ _ _ _ us hl => match us, hl with | [_, _], _ => rfl
  have F31 := fun_mk (st := sRefused) l31 c31 k31
  have g31 := PySem.W.mg_of X G a31
  have b31 := F31.binds (ps := ["_law_one", "_law_two", "_law_three"]) fun _ _ _ _ _ _ us hl => match us, hl with | [_, _, _], _ => rfl
  have F32 := fun_mk (st := sDrawn) l32 c32 k32
  have g32 := PySem.W.mg_of X G a32
  have b32 := F32.binds (ps := ["_law_box_here", "_law_draft_here", "_law_size"]) fun _ _ _ _ _ _ us hl => match us, hl with | [_, _, _], _ => rfl
  have F33 := fun_mk (st := sDue) l33 c33 k33
  have g33 := PySem.W.mg_of X G a33
  have b33 := F33.binds (ps := ["_law_draft_here", "_law_front", "_law_ring"]) fun _ _ _ _ _ _ us hl => match us, hl with | [_, _, _], _ => rfl
  have F34 := fun_mk (st := sLaw) l34 c34 k34
  have g34 := PySem.W.mg_of X G a34
  have b34 := F34.binds (ps := ["_law_script"]) fun _ _ _ _ _ _ us hl => match us, hl with | [_], _ => rfl
  have FF := fun_mk (st := sFig) lF cF kF
  have bF := FF.binds (ps := ["self", "text"]) fun _ _ _ _ _ _ us hl => match us, hl with | [_, _], _ => rfl
  have TF : FigC K mg CF fF := ⟨PySem.W.mg_of X G aF, ⟨rF, gaF⟩, atF, kF⟩
  have FI1 := fun_mk (st := sInBase) lI1 cI1 kI1
  have bI1 := FI1.binds (ps := ["self", "value"]) fun _ _ _ _ _ _ us hl => match us, hl with | [_, _], _ => rfl
  have T1 : ErrC K mg "InvalidBase" "value" C1 fI1 := ⟨PySem.W.mg_of X G aC1, ⟨⟨_, _, _, _, _, _, _, _, _, _, _, _, _, _, _, xC1, by first | rfl | decide +kernel⟩, sa1, ex1, ty1, kC1⟩, iC1, tI1, no1, ⟨ga1, gg1, ex1, hd1⟩, exm_own ex1 ic1 ty1 sb1, ⟨cn1, ⟨⟨ga1, gg1, ex1, hd1⟩, by simpa [PySem.W.isClsIn] using ic1, haE1, xnE, xtE, hmE1, ty1, stE, fcE1, ⟨_, tkE1, xC1, rfl, rfl⟩, nnE1⟩⟩⟩
  have FI2 := fun_mk (st := sInDig) lI2 cI2 kI2
  have bI2 := FI2.binds (ps := ["self", "value"]) fun _ _ _ _ _ _ us hl => match us, hl with | [_, _], _ => rfl
  have T2 : ErrC K mg "InvalidDigits" "value" C2 fI2 := ⟨PySem.W.mg_of X G aC2, ⟨⟨_, _, _, _, _, _, _, _, _, _, _, _, _, _, _, xC2, by first | rfl | decide +kernel⟩, sa2, ex2, ty2, kC2⟩, iC2, tI2, no2, ⟨ga2, gg2, ex2, hd2⟩, exm_own ex2 ic2 ty2 sb2, ⟨cn2, ⟨⟨ga2, gg2, ex2, hd2⟩, by simpa [PySem.W.isClsIn] using ic2, haE2, xnE, xtE, hmE2, ty2, stE, fcE2, ⟨_, tkE2, xC2, rfl, rfl⟩, nnE2⟩⟩⟩
  have FI3 := fun_mk (st := sInBars) lI3 cI3 kI3
  have bI3 := FI3.binds (ps := ["self", "value"]) fun _ _ _ _ _ _ us hl => match us, hl with | [_, _], _ => rfl
  have T3 : ErrC K mg "InvalidBars" "value" C3 fI3 := ⟨PySem.W.mg_of X G aC3, ⟨⟨_, _, _, _, _, _, _, _, _, _, _, _, _, _, _, xC3, by first | rfl | decide +kernel⟩, sa3, ex3, ty3, kC3⟩, iC3, tI3, no3, ⟨ga3, gg3, ex3, hd3⟩, exm_own ex3 ic3 ty3 sb3, ⟨cn3, ⟨⟨ga3, gg3, ex3, hd3⟩, by simpa [PySem.W.isClsIn] using ic3, haE3, xnE, xtE, hmE3, ty3, stE, fcE3, ⟨_, tkE3, xC3, rfl, rfl⟩, nnE3⟩⟩⟩
  have FI4 := fun_mk (st := sInRow) lI4 cI4 kI4
  have bI4 := FI4.binds (ps := ["self", "row"]) fun _ _ _ _ _ _ us hl => match us, hl with | [_, _], _ => rfl
  have T4 : ErrC K mg "InvalidRow" "row" C4 fI4 := ⟨PySem.W.mg_of X G aC4, ⟨⟨_, _, _, _, _, _, _, _, _, _, _, _, _, _, _, xC4, by first | rfl | decide +kernel⟩, sa4, ex4, ty4, kC4⟩, iC4, tI4, no4, ⟨ga4, gg4, ex4, hd4⟩, exm_own ex4 ic4 ty4 sb4, ⟨cn4, ⟨⟨ga4, gg4, ex4, hd4⟩, by simpa [PySem.W.isClsIn] using ic4, haE4, xnE, xtE, hmE4, ty4, stE, fcE4, ⟨_, tkE4, xC4, rfl, rfl⟩, nnE4⟩⟩⟩
  have FI5 := fun_mk (st := sNotS) lI5 cI5 kI5
  have bI5 := FI5.binds (ps := ["self", "value"]) fun _ _ _ _ _ _ us hl => match us, hl with | [_, _], _ => rfl
  have T5 : ErrC K mg "NotScheme" "value" C5 fI5 := ⟨PySem.W.mg_of X G aC5, ⟨⟨_, _, _, _, _, _, _, _, _, _, _, _, _, _, _, xC5, by first | rfl | decide +kernel⟩, sa5, ex5, ty5, kC5⟩, iC5, tI5, no5, ⟨ga5, gg5, ex5, hd5⟩, exm_own ex5 ic5 ty5 sb5, ⟨cn5, ⟨⟨ga5, gg5, ex5, hd5⟩, by simpa [PySem.W.isClsIn] using ic5, haE5, xnE, xtE, hmE5, ty5, stE, fcE5, ⟨_, tkE5, xC5, rfl, rfl⟩, nnE5⟩⟩⟩
  have cS : Cls K CS := ⟨pgS, hdS, poS, saS⟩
  have iS : IsC K CS := ⟨cS, haS, xn, xt, hmS, kit_own icS tyS sbS⟩
  have gS := PySem.W.mg_of X G aS
  have FM1 := fun_mk (st := sHas) lM1 cM1 kM1
  have bM1 := FM1.binds (ps := ["self", "row"]) fun _ _ _ _ _ _ us hl => match us, hl with | [_, _], _ => rfl
  have mm1 : Meth K CS "__contains__" h1 := ⟨at1, fn1, kM1⟩
  have FM2 := fun_mk (st := sAllows) lM2 cM2 kM2
  have bM2 := FM2.binds (ps := ["self", "left", "right"]) fun _ _ _ _ _ _ us hl => match us, hl with | [_, _, _], _ => rfl
  have mm2 : Meth K CS "allows" h2 := ⟨at2, fn2, kM2⟩
  have FM3 := fun_mk (st := sValueOf) lM3 cM3 kM3
  have bM3 := FM3.binds (ps := ["self", "row"]) fun _ _ _ _ _ _ us hl => match us, hl with | [_, _], _ => rfl
  have mm3 : Meth K CS "value_of" h3 := ⟨at3, fn3, kM3⟩
  have FPB := fun_mk (st := sPBase) lPB cPB kPB
  have bPB := FPB.binds (ps := ["self"]) fun _ _ _ _ _ _ us hl => match us, hl with | [_], _ => rfl
  have FPD := fun_mk (st := sPDigits) lPD cPD kPD
  have bPD := FPD.binds (ps := ["self"]) fun _ _ _ _ _ _ us hl => match us, hl with | [_], _ => rfl
  have FPR := fun_mk (st := sPBars) lPR cPR kPR
  have bPR := FPR.binds (ps := ["self"]) fun _ _ _ _ _ _ us hl => match us, hl with | [_], _ => rfl
  have pb : PropOf K CS "base" pB gB := ⟨apB, gtB, tkB, ⟨_, rcB⟩⟩
  have pd : PropOf K CS "digits" pD gD := ⟨apD, gtD, tkD, ⟨_, rcD⟩⟩
  have pr : PropOf K CS "bars" pR gR := ⟨apR, gtR, tkR, ⟨_, rcR⟩⟩
  have FIn : FunD K "__init__" "Scheme.__init__" (defArgs sInit) (defBody sInit) (defScope sInit) [] [("bars", .ref TD)] hN _ := ⟨⟨_, _, _, _, _, _, _, _, _, _, rfl, lIn, cIn, .inl ⟨rfl, rfl⟩, .inr ⟨DK, rfl, fun q hq => by cases List.mem_singleton.mp hq; exact ⟨_, nsB, rfl⟩⟩⟩, kIn⟩
  have hT : ∀ H, IsSeq K H TD [] := fun H => .kt lT rfl (.inr ⟨_, #[], nT, lT, rfl, rfl, by decide, .nil⟩)
  have y_len := PySem.W.mg_none_of X G z1
  have y_range := PySem.W.mg_none_of X G z2
  have y_int := PySem.W.mg_none_of X G z3
  have y_bool := PySem.W.mg_none_of X G z4
  have y_isinstance := PySem.W.mg_none_of X G z5
  have y_repr := PySem.W.mg_none_of X G z6
  have y_list := PySem.W.mg_none_of X G z7
  have y_tuple := PySem.W.mg_none_of X G z8
  have y_set := PySem.W.mg_none_of X G z9
  have y_sorted := PySem.W.mg_none_of X G z10
  have y_all := PySem.W.mg_none_of X G z11
  have y_max := PySem.W.mg_none_of X G z12
  have y_min := PySem.W.mg_none_of X G z13
  have y_abs := PySem.W.mg_none_of X G z14
  have y_ValueError := PySem.W.mg_none_of X G z15
  have y_zip := PySem.W.mg_none_of X G z16
  have u_MOST_DIGITS := PySem.W.mg_of X G v1
  have u_GREATEST_DIGIT := PySem.W.mg_of X G v2
  have u_GREATEST_BASE := PySem.W.mg_of X G v3
  refine ⟨PySem.W.fnOf "law" "law" (defArgs sLaw) (defBody sLaw) (defScope sLaw) .none kV34 dc34 pm34 an34 cd34 ct34, fun s v => .of_eq rfl, fun base _ _ => ?_⟩
  have E1 := (ok_InvalidBase (P := l.prog) (w := w) (base := base) FI1 FF TF bF T1 y_ValueError vV).mono (by decide : 2 ≤ 3)
  have E2 := (ok_InvalidDigits (P := l.prog) (w := w) (base := base) FI2 FF TF bF T2 y_ValueError vV).mono (by decide : 2 ≤ 3)
  have E3 := (ok_InvalidBars (P := l.prog) (w := w) (base := base) FI3 FF TF bF T3 y_ValueError vV).mono (by decide : 2 ≤ 3)
  have E4 := (ok_InvalidRow (P := l.prog) (w := w) (base := base) FI4 FF TF bF T4 y_ValueError vV).mono (by decide : 2 ≤ 3)
  have E5 := (ok_NotScheme (P := l.prog) (w := w) (base := base) FI5 FF TF bF T5 y_ValueError vV).mono (by decide : 2 ≤ 3)
  have G1 := ok_whole (P := l.prog) (w := w) (base := base) F1 y_isinstance y_int y_bool
  have G2 := ok_isint (P := l.prog) (w := w) (base := base) F2 G1 g1 F1.kp b1
  have G3 := ok_isbase (P := l.prog) (w := w) (base := base) F3 G2 g2 F2.kp b2 u_GREATEST_BASE
  have G4 := ok_isdigit (P := l.prog) (w := w) (base := base) F4 G2 g2 F2.kp b2 u_GREATEST_DIGIT
  have G5 := ok_are (P := l.prog) (w := w) (base := base) F5 G4 g4 F4.kp b4 y_all
  have G6 := ok_oneof (P := l.prog) (w := w) (base := base) F6 G4 g4 F4.kp b4
  have G7 := ok_ispair (P := l.prog) (w := w) (base := base) F7 G6 g6 F6.kp b6 y_isinstance y_len y_all y_tuple
  have G8 := ok_diglist (P := l.prog) (w := w) (base := base) F8 G5 g5 F5.kp b5 y_isinstance y_list y_tuple
  have G9 := ok_diffdig (P := l.prog) (w := w) (base := base) F9 G8 g8 F8.kp b8 E2 T2 bI2 u_MOST_DIGITS y_len y_set y_sorted y_tuple
  have G10 := ok_diffpair (P := l.prog) (w := w) (base := base) F10 G7 g7 F7.kp b7 E3 T3 bI3 y_isinstance y_list y_set y_sorted y_tuple
  have GN := ok_new (P := l.prog) (w := w) (base := base) ⟨_, FIn⟩ cS nB nD nR G3 g3 F3.kp b3 G9 g9 F9.kp b9 G10 g10 F10.kp b10 E1 T1 bI1
  have MK : Mk K CS hN := ⟨mkS, atN, fnN, kpS⟩
  have gG := PySem.W.mg_of X G vG
  have PBx := ok_pbase (mg := mg) (P := l.prog) (w := w) (base := base) FPB cS nB
  have GA := ok_allows (P := l.prog) (w := w) (base := base) FM2 cS nD nR G6 g6 F6.kp b6
  have GH := ok_has (P := l.prog) (w := w) (base := base) FM1 cS mm2 GA bM2 y_isinstance y_tuple y_all y_zip
  have GV := ok_valueof (P := l.prog) (w := w) (base := base) FM3 cS nB mm1 GH bM1 E4 T4 bI4
  have NK : NotK K CS := notK_of tyS icS
  have ISx := ok_issch (P := l.prog) (w := w) (base := base) F11 iS NK gS y_isinstance
  have CSx := ok_checks (P := l.prog) (w := w) (base := base) F12 ISx g11 F11.kp b11 E5 T5 bI5
  have POx := ok_powP (P := l.prog) (w := w) (base := base) F13 y_range
  have LOx := ok_lowP (P := l.prog) (w := w) (base := base) F14 gG
  have FRx := ok_frac (P := l.prog) (w := w) (base := base) F15 cS CSx g12 F12.kp b12 mm1 GH bM1 mm3 GV bM3 pb PBx bPB POx g13 F13.kp b13 LOx g14 F14.kp b14 E4 T4 bI4 y_len
  have ap := exm_off ex5 ic5 ty5 q45 sb4
  have MP := ok_mixedP (P := l.prog) (w := w) (base := base) F19 F18 g18 b18 y_int y_len y_range y_list
  have DG := ok_digits (P := l.prog) (w := w) (base := base) F20 F18 g18 b18 y_int y_len y_range y_list y_abs y_set y_sorted
  have FE := ok_fences (P := l.prog) (w := w) (base := base) F21 F18 g18 b18 y_int
  have DR := ok_draft (P := l.prog) (w := w) (base := base) F22 F18 g18 b18 DG g20 F20.kp b20 FE g21 F21.kp b21 y_int
  have SC := ok_schemeL (P := l.prog) (w := w) (base := base) F23 MP g19 F19.kp b19 FIn MK gS GN
  have IR := ok_isrow (P := l.prog) (w := w) (base := base) F24 y_isinstance y_tuple y_int y_bool y_zip
  have VA := ok_value (mg := mg) (P := l.prog) (w := w) (base := base) F25
  have LW := ok_lowest (P := l.prog) (w := w) (base := base) F26 y_abs
  have PO := ok_power (P := l.prog) (w := w) (base := base) F27 y_range
  have FA := ok_fraction (P := l.prog) (w := w) (base := base) F28 PO g27 F27.kp b27 VA g25 F25.kp b25 LW g26 F26.kp b26 y_len
  have OS := ok_odds (P := l.prog) (w := w) (base := base) F29 F18 g18 b18 y_int
  have OR := ok_oddr (P := l.prog) (w := w) (base := base) F30 F18 g18 b18 y_int y_len y_range
  have RF := ok_refused (P := l.prog) (w := w) (base := base) F31 FRx g15 F15.kp b15 T5 T4 ap
  have DW := ok_drawn (P := l.prog) (w := w) (base := base) F32 F18 g18 b18 y_int y_len y_range
  have DU := ok_due (P := l.prog) (w := w) (base := base) F33 IR g24 F24.kp b24
  exact ok_law F34 F16 g16 b16 F17 g17 b17 F18 g18 b18 DR g22 F22.kp b22 SC g23 F23.kp b23 DW g32 F32.kp b32 DU g33 F33.kp b33 FA g28 F28.kp b28 FRx g15 F15.kp b15 RF g31 F31.kp b31 OS g29 F29.kp b29 OR g30 F30.kp b30 y_int y_len y_range y_max y_min y_repr
end K66
open PySem PySem.W PyProof.Rows
set_option maxRecDepth 100000 in
set_option maxHeartbeats 0 in
theorem PySem.Challenge.cw_oddfigures_k66_values_of_endless_rows_holds : PySem.Challenge.rw_oddfigures_k66_values_of_endless_rows.Holds := by
  w_on; o_law; k_head; (case hw => w_witness2)
  k_fill
  refine OF.walkG (l := PySem.Challenge.rw_oddfigures_k66_values_of_endless_rows) (m := 63) (n := 10) (x := "_law_script") (sp := fun w => K66.spLaw _) rfl (by decide) rfl ⟨rfl, by decide, by decide⟩ (fun w h Y => PySem.W.kIn_of Y) ?F (fun _ _ a ns hl hS => ⟨a, ns, rfl, hS, hl, fun _ => rfl⟩)
  case F =>
    intro w mg fa h KX G hmg
    refine' K66.all_mk KX G hmg ?a1 ?l1 ?c1 ?k1 ?a2 ?l2 ?c2 ?k2 ?a3 ?l3 ?c3 ?k3 ?a4 ?l4 ?c4 ?k4 ?a5 ?l5 ?c5 ?k5 ?a6 ?l6 ?c6 ?k6 ?a7 ?l7 ?c7 ?k7 ?a8 ?l8 ?c8 ?k8 ?a9 ?l9 ?c9 ?k9 ?a10 ?l10 ?c10 ?k10 ?a11 ?l11 ?c11 ?k11 ?a12 ?l12 ?c12 ?k12 ?a13 ?l13 ?c13 ?k13 ?a14 ?l14 ?c14 ?k14 ?a15 ?l15 ?c15 ?k15 ?a16 ?l16 ?c16 ?k16 ?a17 ?l17 ?c17 ?k17 ?a18 ?l18 ?c18 ?k18 ?a19 ?l19 ?c19 ?k19 ?a20 ?l20 ?c20 ?k20 ?a21 ?l21 ?c21 ?k21 ?a22 ?l22 ?c22 ?k22 ?a23 ?l23 ?c23 ?k23 ?a24 ?l24 ?c24 ?k24 ?a25 ?l25 ?c25 ?k25 ?a26 ?l26 ?c26 ?k26 ?a27 ?l27 ?c27 ?k27 ?a28 ?l28 ?c28 ?k28 ?a29 ?l29 ?c29 ?k29 ?a30 ?l30 ?c30 ?k30 ?a31 ?l31 ?c31 ?k31 ?a32 ?l32 ?c32 ?k32 ?a33 ?l33 ?c33 ?k33 ?a34 ?l34 ?c34 ?k34 ?aF ?rF ?gaF ?atF ?lF ?cF ?kF ?vV ?aC1 ?xC1 ?sa1 ?ex1 ?ty1 ?kC1 ?iC1 ?tI1 ?no1 ?ga1 ?gg1 ?hd1 ?sb1 ?ic1 ?lI1 ?cI1 ?kI1 ?aC2 ?xC2 ?sa2 ?ex2 ?ty2 ?kC2 ?iC2 ?tI2 ?no2 ?ga2 ?gg2 ?hd2 ?sb2 ?ic2 ?lI2 ?cI2 ?kI2 ?aC3 ?xC3 ?sa3 ?ex3 ?ty3 ?kC3 ?iC3 ?tI3 ?no3 ?ga3 ?gg3 ?hd3 ?sb3 ?ic3 ?lI3 ?cI3 ?kI3 ?aC4 ?xC4 ?sa4 ?ex4 ?ty4 ?kC4 ?iC4 ?tI4 ?no4 ?ga4 ?gg4 ?hd4 ?sb4 ?ic4 ?lI4 ?cI4 ?kI4 ?aC5 ?xC5 ?sa5 ?ex5 ?ty5 ?kC5 ?iC5 ?tI5 ?no5 ?ga5 ?gg5 ?hd5 ?sb5 ?ic5 ?lI5 ?cI5 ?kI5 ?aS ?pgS ?hdS ?poS ?saS ?mkS ?nB ?nD ?nR ?haS ?xn ?xt ?hmS ?sbS ?icS ?tyS ?kpS ?at1 ?fn1 ?lM1 ?cM1 ?kM1 ?at2 ?fn2 ?lM2 ?cM2 ?kM2 ?at3 ?fn3 ?lM3 ?cM3 ?kM3 ?q45 ?vG ?apB ?gtB ?tkB ?rcB ?apD ?gtD ?tkD ?rcD ?apR ?gtR ?tkR ?rcR ?atN ?fnN ?lIn ?cIn ?kIn ?nsB ?lT ?lPB ?cPB ?kPB ?lPD ?cPD ?kPD ?lPR ?cPR ?kPR ?z1 ?z2 ?z3 ?z4 ?z5 ?z6 ?z7 ?z8 ?z9 ?z10 ?z11 ?z12 ?z13 ?z14 ?z15 ?z16 ?v1 ?v2 ?v3 ?haE1 ?hmE1 ?fcE1 ?nnE1 ?haE2 ?hmE2 ?fcE2 ?nnE2 ?haE3 ?hmE3 ?fcE3 ?nnE3 ?haE4 ?hmE4 ?fcE4 ?nnE4 ?haE5 ?hmE5 ?fcE5 ?nnE5 ?xnE ?xtE ?stE
    (case a1 => k_is)
    (case l1 => k_is)
    (case c1 => k_is)
    (case k1 => k_is)
    (case a2 => k_is)
    (case l2 => k_is)
    (case c2 => k_is)
    (case k2 => k_is)
    (case a3 => k_is)
    (case l3 => k_is)
    (case c3 => k_is)
    (case k3 => k_is)
    (case a4 => k_is)
    (case l4 => k_is)
    (case c4 => k_is)
    (case k4 => k_is)
    (case a5 => k_is)
    (case l5 => k_is)
    (case c5 => k_is)
    (case k5 => k_is)
    (case a6 => k_is)
    (case l6 => k_is)
    (case c6 => k_is)
    (case k6 => k_is)
    (case a7 => k_is)
    (case l7 => k_is)
    (case c7 => k_is)
    (case k7 => k_is)
    (case a8 => k_is)
    (case l8 => k_is)
    (case c8 => k_is)
    (case k8 => k_is)
    (case a9 => k_is)
    (case l9 => k_is)
    (case c9 => k_is)
    (case k9 => k_is)
    (case a10 => k_is)
    (case l10 => k_is)
    (case c10 => k_is)
    (case k10 => k_is)
    (case a11 => k_is)
    (case l11 => k_is)
    (case c11 => k_is)
    (case k11 => k_is)
    (case a12 => k_is)
    (case l12 => k_is)
    (case c12 => k_is)
    (case k12 => k_is)
    (case a13 => k_is)
    (case l13 => k_is)
    (case c13 => k_is)
    (case k13 => k_is)
    (case a14 => k_is)
    (case l14 => k_is)
    (case c14 => k_is)
    (case k14 => k_is)
    (case a15 => k_is)
    (case l15 => k_is)
    (case c15 => k_is)
    (case k15 => k_is)
    (case a16 => k_is)
    (case l16 => k_is)
    (case c16 => k_is)
    (case k16 => k_is)
    (case a17 => k_is)
    (case l17 => k_is)
    (case c17 => k_is)
    (case k17 => k_is)
    (case a18 => k_is)
    (case l18 => k_is)
    (case c18 => k_is)
    (case k18 => k_is)
    (case a19 => k_is)
    (case l19 => k_is)
    (case c19 => k_is)
    (case k19 => k_is)
    (case a20 => k_is)
    (case l20 => k_is)
    (case c20 => k_is)
    (case k20 => k_is)
    (case a21 => k_is)
    (case l21 => k_is)
    (case c21 => k_is)
    (case k21 => k_is)
    (case a22 => k_is)
    (case l22 => k_is)
    (case c22 => k_is)
    (case k22 => k_is)
    (case a23 => k_is)
    (case l23 => k_is)
    (case c23 => k_is)
    (case k23 => k_is)
    (case a24 => k_is)
    (case l24 => k_is)
    (case c24 => k_is)
    (case k24 => k_is)
    (case a25 => k_is)
    (case l25 => k_is)
    (case c25 => k_is)
    (case k25 => k_is)
    (case a26 => k_is)
    (case l26 => k_is)
    (case c26 => k_is)
    (case k26 => k_is)
    (case a27 => k_is)
    (case l27 => k_is)
    (case c27 => k_is)
    (case k27 => k_is)
    (case a28 => k_is)
    (case l28 => k_is)
    (case c28 => k_is)
    (case k28 => k_is)
    (case a29 => k_is)
    (case l29 => k_is)
    (case c29 => k_is)
    (case k29 => k_is)
    (case a30 => k_is)
    (case l30 => k_is)
    (case c30 => k_is)
    (case k30 => k_is)
    (case a31 => k_is)
    (case l31 => k_is)
    (case c31 => k_is)
    (case k31 => k_is)
    (case a32 => k_is)
    (case l32 => k_is)
    (case c32 => k_is)
    (case k32 => k_is)
    (case a33 => k_is)
    (case l33 => k_is)
    (case c33 => k_is)
    (case k33 => k_is)
    (case a34 => k_is)
    (case l34 => k_is)
    (case c34 => k_is)
    (case k34 => k_is)
    (case aF => k_is)
    (case rF => k_is)
    (case gaF => k_is)
    (case atF => k_is)
    (case lF => k_is)
    (case cF => k_is)
    (case kF => k_is)
    (case vV => k_is)
    (case aC1 => k_is)
    (case xC1 => k_is)
    (case sa1 => k_is)
    (case ex1 => k_is)
    (case ty1 => k_is)
    (case kC1 => k_is)
    (case iC1 => k_is)
    (case tI1 => k_is)
    (case no1 => k_is)
    (case ga1 => k_is)
    (case gg1 => k_is)
    (case hd1 => k_is)
    (case sb1 => k_is)
    (case ic1 => k_is)
    (case lI1 => k_is)
    (case cI1 => k_is)
    (case kI1 => k_is)
    (case aC2 => k_is)
    (case xC2 => k_is)
    (case sa2 => k_is)
    (case ex2 => k_is)
    (case ty2 => k_is)
    (case kC2 => k_is)
    (case iC2 => k_is)
    (case tI2 => k_is)
    (case no2 => k_is)
    (case ga2 => k_is)
    (case gg2 => k_is)
    (case hd2 => k_is)
    (case sb2 => k_is)
    (case ic2 => k_is)
    (case lI2 => k_is)
    (case cI2 => k_is)
    (case kI2 => k_is)
    (case aC3 => k_is)
    (case xC3 => k_is)
    (case sa3 => k_is)
    (case ex3 => k_is)
    (case ty3 => k_is)
    (case kC3 => k_is)
    (case iC3 => k_is)
    (case tI3 => k_is)
    (case no3 => k_is)
    (case ga3 => k_is)
    (case gg3 => k_is)
    (case hd3 => k_is)
    (case sb3 => k_is)
    (case ic3 => k_is)
    (case lI3 => k_is)
    (case cI3 => k_is)
    (case kI3 => k_is)
    (case aC4 => k_is)
    (case xC4 => k_is)
    (case sa4 => k_is)
    (case ex4 => k_is)
    (case ty4 => k_is)
    (case kC4 => k_is)
    (case iC4 => k_is)
    (case tI4 => k_is)
    (case no4 => k_is)
    (case ga4 => k_is)
    (case gg4 => k_is)
    (case hd4 => k_is)
    (case sb4 => k_is)
    (case ic4 => k_is)
    (case lI4 => k_is)
    (case cI4 => k_is)
    (case kI4 => k_is)
    (case aC5 => k_is)
    (case xC5 => k_is)
    (case sa5 => k_is)
    (case ex5 => k_is)
    (case ty5 => k_is)
    (case kC5 => k_is)
    (case iC5 => k_is)
    (case tI5 => k_is)
    (case no5 => k_is)
    (case ga5 => k_is)
    (case gg5 => k_is)
    (case hd5 => k_is)
    (case sb5 => k_is)
    (case ic5 => k_is)
    (case lI5 => k_is)
    (case cI5 => k_is)
    (case kI5 => k_is)
    (case aS => k_is)
    (case pgS => k_is)
    (case hdS => k_is)
    (case poS => k_is)
    (case saS => k_is)
    (case mkS => k_is)
    (case nB => k_is)
    (case nD => k_is)
    (case nR => k_is)
    (case haS => k_is)
    (case xn => k_is)
    (case xt => k_is)
    (case hmS => k_is)
    (case sbS => k_is)
    (case icS => k_is)
    (case tyS => k_is)
    (case kpS => k_is)
    (case at1 => k_is)
    (case fn1 => k_is)
    (case lM1 => k_is)
    (case cM1 => k_is)
    (case kM1 => k_is)
    (case at2 => k_is)
    (case fn2 => k_is)
    (case lM2 => k_is)
    (case cM2 => k_is)
    (case kM2 => k_is)
    (case at3 => k_is)
    (case fn3 => k_is)
    (case lM3 => k_is)
    (case cM3 => k_is)
    (case kM3 => k_is)
    (case q45 => k_is)
    (case vG => k_is)
    (case apB => k_is)
    (case gtB => k_is)
    (case tkB => k_is)
    (case rcB => k_is)
    (case apD => k_is)
    (case gtD => k_is)
    (case tkD => k_is)
    (case rcD => k_is)
    (case apR => k_is)
    (case gtR => k_is)
    (case tkR => k_is)
    (case rcR => k_is)
    (case atN => k_is)
    (case fnN => k_is)
    (case lIn => k_is)
    (case cIn => k_is)
    (case kIn => k_is)
    (case nsB => k_is)
    (case lT => k_is)
    (case lPB => k_is)
    (case cPB => k_is)
    (case kPB => k_is)
    (case lPD => k_is)
    (case cPD => k_is)
    (case kPD => k_is)
    (case lPR => k_is)
    (case cPR => k_is)
    (case kPR => k_is)
    (case z1 => k_is)
    (case z2 => k_is)
    (case z3 => k_is)
    (case z4 => k_is)
    (case z5 => k_is)
    (case z6 => k_is)
    (case z7 => k_is)
    (case z8 => k_is)
    (case z9 => k_is)
    (case z10 => k_is)
    (case z11 => k_is)
    (case z12 => k_is)
    (case z13 => k_is)
    (case z14 => k_is)
    (case z15 => k_is)
    (case z16 => k_is)
    (case v1 => k_is)
    (case v2 => k_is)
    (case v3 => k_is)
    (case haE1 => k_is)
    (case hmE1 => k_is)
    (case fcE1 => k_is)
    (case nnE1 => k_is)
    (case haE2 => k_is)
    (case hmE2 => k_is)
    (case fcE2 => k_is)
    (case nnE2 => k_is)
    (case haE3 => k_is)
    (case hmE3 => k_is)
    (case fcE3 => k_is)
    (case nnE3 => k_is)
    (case haE4 => k_is)
    (case hmE4 => k_is)
    (case fcE4 => k_is)
    (case nnE4 => k_is)
    (case haE5 => k_is)
    (case hmE5 => k_is)
    (case fcE5 => k_is)
    (case nnE5 => k_is)
    (case xnE => k_is)
    (case xtE => k_is)
    (case stE => k_is)
