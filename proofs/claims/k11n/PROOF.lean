import PyProof.Rows.All
import Wide.All
import OpenK.AllK
import Wide.FinOn
import HandS.ForMost
import HandS.IsInst
import HandS.Defaults
import HandS.Wide
import HandS.ForExc
import HandS.ExcInit
import HandS.ExcField
import KE.KExcIs
import KE.KTypeName
import HandS.ClsMeth
import HandS.DictComp
import HandS.More
import PyProof.ReprRoads
import HandS.SetFor
import HandS.Strs
import HandS.TupSets
import HandS.SortRule
import HandS.Deep
import HandS.TupAny
import HandS.Style
import HandS.Zip
import HandS.Walk
import HandS.MakeKwOnly
import HandS.Property
import HandS.Conv
import HandS.RaiseMore
import HandS.MakeKw
import PySem.Challenge.RW_oddfigures_k11_steps_by_clauses
set_option Elab.async false
set_option linter.all false
set_option maxRecDepth 100000
/-! What the laws of this program have in common: heaps that stay but for one box, the box that draws are taken from, calls by names alone, repr of a truth. -/
namespace OF
open PySem PySem.Spec PyProof.Rows L2

/-! ### heaps that stay but for one place -/
/-- all that was tracked, but for the box at a, is as it was -/
def But (a : Addr) (H H' : Hp) : Prop := ∀ b o, b ≠ a → H b = some o → H' b = some o
theorem But.refl {a : Addr} {H : Hp} : But a H H := fun _ _ _ h => h
theorem But.trans {a : Addr} {H H1 H2 : Hp} (x : But a H H1) (y : But a H1 H2) : But a H H2 := fun b o n h => y b o n (x b o n h)
theorem But.of_same {a : Addr} {H H' : Hp} (x : Same H H') : But a H H' := fun b o _ h => x b o h
theorem But.new {a p : Addr} {H : Hp} {o : HO} (hp : H p = none) : But a H (upd H p o) := fun b u _ h => by
  rw [upd_ne (ne_of_none h hp)]; exact h
theorem But.at_ {a : Addr} {H : Hp} {o : HO} : But a H (upd H a o) := fun b u n h => by
  rw [upd_ne n]; exact h
/-- what was none ahead of the steps is a new place: a store to it keeps all -/
theorem But.store {a p : Addr} {H H1 : Hp} {o : HO} (x : But a H H1) (hp : H p = none) : But a H (upd H1 p o) := fun b u n h => by
  rw [upd_ne (ne_of_none h hp)]; exact x b u n h
theorem But.seqL {K : PySem.W.Frag} {a p : Addr} {H H' : Hp} {xs : List V} (x : But a H H') (n : p ≠ a) (h : SqL K H p xs) : SqL K H' p xs := by
  rcases h with (h | ⟨o, h⟩) | h
  · exact .inl (.inl (x _ _ n h))
  · exact .inl (.inr ⟨o, x _ _ n h⟩)
  · exact .inr h
theorem But.seqT {K : PySem.W.Frag} {a p : Addr} {H H' : Hp} {xs : List V} (x : But a H H') (n : p ≠ a) (h : SqT K H p xs) : SqT K H' p xs := by
  rcases h with (h | ⟨o, h⟩) | h
  · exact .inl (.inl (x _ _ n h))
  · exact .inl (.inr ⟨o, x _ _ n h⟩)
  · exact .inr h
theorem same_new {H : Hp} {p : Addr} {o : HO} (h : H p = none) : Same H (upd H p o) := fun b x e => by
  rw [upd_ne (ne_of_none e h)]; exact e

/-! ### the box -/
/-- at a stands a box: what is left of a large cell, a seed, how many were mixed (at most n) -/
def Box (n : Int) (H : Hp) (a : Addr) : Prop := ∃ b0 b1 b2 : Int, H a = some (.lst [.int b0, .int b1, .int b2]) ∧ 0 ≤ b0 ∧ 0 ≤ b1 ∧ b1 < 2147483648 ∧ 0 ≤ b2 ∧ b2 ≤ n
theorem Box.mono {n m : Int} {H : Hp} {a : Addr} (h : Box n H a) (hm : n ≤ m) : Box m H a := by
  obtain ⟨b0, b1, b2, h1, h2, h3, h4, h5, h6⟩ := h
  exact ⟨b0, b1, b2, h1, h2, h3, h4, h5, by omega⟩
theorem Box.same {n : Int} {H H' : Hp} {a : Addr} (h : Box n H a) (s : Same H H') : Box n H' a := by
  obtain ⟨b0, b1, b2, h1, r⟩ := h
  exact ⟨b0, b1, b2, s _ _ h1, r⟩
theorem Box.new {n : Int} {H : Hp} {a p : Addr} {o : HO} (h : Box n H a) (hp : H p = none) : Box n (upd H p o) a := h.same (same_new hp)
theorem Box.ne {n : Int} {H : Hp} {a p : Addr} (h : Box n H a) (hp : H p = none) : p ≠ a := by
  obtain ⟨b0, b1, b2, h1, r⟩ := h
  exact (ne_of_none h1 hp).symm
theorem Box.upd {n : Int} {H : Hp} {a p : Addr} {o : HO} (h : Box n H a) (hp : p ≠ a) : Box n (L2.upd H p o) a := by
  obtain ⟨b0, b1, b2, h1, r⟩ := h
  exact ⟨b0, b1, b2, by rw [upd_ne hp.symm]; exact h1, r⟩

/-- a draw: box, many; a number from 0 to many - 1, the box goes on -/
def spTake : Sp := fun vs H Q _ => ∃ (a : Addr) (m n : Int), vs = [.ref a, .int m] ∧ Box n H a ∧ n ≤ 1000000 ∧ 0 < m ∧ m.natAbs < 2 ^ 400 ∧
  ∀ (r : Int) (H' : Hp), 0 ≤ r → r < m → But a H H' → Box (n + 1) H' a → Q (.int r) H'
/-- a cell of the script, or a number made of the place -/
def spCell (K : PySem.W.Frag) : Sp := fun vs H Q _ => ∃ (a : Addr) (ns : List Int) (k : Nat), vs = [.ref a, .int k] ∧ SqL K H a (ns.map V.int) ∧ k < 1000 ∧ ∀ c : Int, Q (.int c) H
/-- a new box of a cell -/
def spBox : Sp := fun vs H Q _ => ∃ c : Int, vs = [.int c] ∧ ∀ (p : Addr) (H' : Hp), H p = none → Same H H' → Box 0 H' p → Q (.ref p) H'
/-- a list's items in a drawn order -/
def spMixed (K : PySem.W.Frag) : Sp := fun vs H Q _ => ∃ (a p : Addr) (xs : List V) (n : Int), vs = [.ref a, .ref p] ∧ Box n H a ∧ SqL K H p xs ∧ p ≠ a ∧ xs.length ≤ 1000 ∧ n ≤ 900000 ∧
  ∀ (D : Addr) (ys : List V) (H' : Hp), H D = none → But a H H' → Box (n + xs.length) H' a → H' D = some (.lst ys) → ys.length = xs.length → (∀ y ∈ ys, y ∈ xs) → Q (.ref D) H'

/-! ### calls by names alone -/
section
variable {X : Cx} {CX : CXT} {k : Nat} {f : Addr} {fd : FuncData} {ps ks : List Str} {sp : Sp} {E : XK} {x : Str} {p pos : Pos} {kws : List Keyword} {tk : TA} {g : List Value → List Value → List Value} {gV : List V → List V → List V}
/-- f(k = v, ..) -/
theorem pe_callN0 (F : FnOk X.prog X.w X.K X.mg X.base CX k f fd ps sp) (hr : Room k X.A) (hg : Gl X x) (hm : X.mg x = some (.ref f)) (hk : PySem.W.keepIn X.K (.ref f) = true) (hb : KBn X.K fd ps 0 ks g gV) (hx : Passes CX X E)
    (hkw : PK X kws tk) (hall : (backToKw pos (keywordEach kws X.env)).all (·.1.isSome) = true := by rfl) (hks : (backToKw pos (keywordEach kws X.env)).filterMap (·.1) = ks := by rfl)
    (hdb : (x == ("__debug__" : Str)) = false := by decide)
    (hpl : ((backTo pos (starEach [] X.env)).any (·.1) || (backToKw pos (keywordEach kws X.env)).any (·.1.isNone)) = false := by rfl) :
    PE X (.Call (.Name x p) [] kws pos) (tCallN 0 ks.length sp gV E tNil tk) := by
  refine ⟨fun pins s σ H Q I h => ?_⟩
  refine wpAny_Call_Name_kw (ld_glob I hg hm ?_ hdb)
  refine PySem.W.callWith_KW0 (h₀ := X.base) I.ok.mod.kin hk hall (thn (hkw.run pos pins s σ H _ I h) fun ws s2 ⟨zs, H2, I2, rz, l1, l2, q2⟩ => ⟨I2.kIn, ?_⟩) hpl
  rw [hks]
  exact run_fnN (us := []) (vs := []) F hr hb hx I2 .nil rz l1 l2 q2
/-- % by a positive number: some rest, in its bounds -/
theorem op_modR : OpR X (binaryOp .Mod) (fun x y H Q => ∃ i j : Int, x = .int i ∧ y = .int j ∧ 0 < j ∧ ∀ r : Int, 0 ≤ r → r < j → Q (.int r) H) := by
  intro pins s σ H x y v u Q I rx ry h
  obtain ⟨i, j, e1, e2, hj, q⟩ := h
  exact op_mod pins s σ H x y v u Q I rx ry ⟨i, j, e1, e2, hj, q _ (Int.emod_nonneg _ (by omega)) (Int.emod_lt_of_pos _ hj)⟩
theorem call_repr_bool : CallR X (.builtin "repr") (fun xs H Q => ∃ b, xs = [.bl b] ∧ Q (.str (if b then "True" else "False")) H) := by
  intro pins s σ H xs us Q I r h
  obtain ⟨b, rfl, q⟩ := h
  obtain ⟨u, rfl, hu⟩ := vals1 r
  cases hu
  exact PySem.P.repr_of_bool ⟨.str _, H, I.tok _, ⟨_, rfl⟩, q⟩
end
end OF
namespace OF
open PySem PySem.Spec PyProof.Rows L2
/-- len of a list or tuple -/
abbrev rLenS (K : PySem.W.Frag) : List V → Hp → VK → Prop := fun xs H Q => ∃ p ys, xs = [.ref p] ∧ (SqL K H p ys ∨ SqT K H p ys) ∧ Q (.int ys.length) H
theorem tYes_if {σ : L2.St} {H : Hp} {A B : Hp → Prop} (h : A H) : tYes σ H (fun b H3 => if b = true then A H3 else B H3) := by
  show (if true = true then A H else B H)
  rw [if_pos rfl]
  exact h
/-- both ways of a test lead to the same rest -/
theorem iteDup {c : Bool} {A B R : Prop} (f : R → c = true → A) (g : R → c = false → B) (r : R) : if c = true then A else B := by
  cases c with
  | true => exact iteT (f r rfl)
  | false => exact iteF (g r rfl)
theorem iteAnd {c d : Bool} {A : Prop} {Q : V → Hp → Prop} {H : Hp} (hA : Q (.bl d) H → A) (h : Q (.bl (c && d)) H) : if c = true then A else Q (.bl false) H := by
  cases c with
  | true => exact iteT (hA h)
  | false => exact iteF h
theorem iteOr {c d : Bool} {A : Prop} {Q : V → Hp → Prop} {H : Hp} (hA : Q (.bl d) H → A) (h : Q (.bl (c || d)) H) : if c = true then Q (.bl true) H else A := by
  cases c with
  | true => exact iteT h
  | false => exact iteF (hA h)
/-- an if whose test is known -/
theorem iteTB {c : Bool} {A B : Prop} (e : c = true) (h : A) : if c = true then A else B := by rw [if_pos e]; exact h
theorem iteFB {c : Bool} {A B : Prop} (e : c = false) (h : B) : if c = true then A else B := by rw [if_neg (by rw [e]; exact Bool.false_ne_true)]; exact h
/-- two values that are the same: no difference -/
theorem neSame {x y : V} (h : x = y) : (!decide (x = y)) = false := by rw [decide_eq_true h]; rfl
theorem eqSame {x y : V} (h : x = y) : decide (x = y) = true := decide_eq_true h
theorem seq_past {K : PySem.W.Frag} {H H1 H2 : Hp} {a p : Addr} {xs : List V} (hp : H p = none) (s : Same H H1) (b : But p H1 H2) (h : SqL K H a xs) : SqL K H2 a xs := by
  rcases h with (h | ⟨o, h⟩) | h
  · exact .inl (.inl (b _ _ (ne_of_none h hp) (s _ _ h)))
  · exact .inl (.inr ⟨o, b _ _ (ne_of_none h hp) (s _ _ h)⟩)
  · exact .inr h
/-- an item at a place within -/
theorem pick {xs : List V} {r : Int} (h0 : 0 ≤ r) (h1 : r < xs.length) : ∃ v, atI xs r = some v ∧ v ∈ xs := by
  obtain ⟨k, rfl⟩ := Int.eq_ofNat_of_zero_le h0
  have hk : k < xs.length := by omega
  exact ⟨xs[k], atI_nat (List.getElem?_eq_getElem hk), List.getElem_mem hk⟩
theorem ixN_in {n : Nat} {r : Int} (h0 : 0 ≤ r) (h1 : r < n) : ixN n r = some r.toNat := by
  unfold ixN
  rw [if_pos h0, if_pos h1]
/-- a value of a kind that is no int, or a truth -/
inductive Odd (H : Hp) : V → Prop
  | non : Odd H .non
  | bl (b : Bool) : Odd H (.bl b)
  | str (z : Str) : Odd H (.str z)
  | lst {a : Addr} {xs : List V} (e : H a = some (.lst xs)) : Odd H (.ref a)
  | tup {a : Addr} {xs : List V} (e : H a = some (.tup xs)) : Odd H (.ref a)
  | dK {a : Addr} {kvs : List (Key × V)} (e : H a = some (.dK kvs)) : Odd H (.ref a)
theorem Odd.same {H H' : Hp} {x : V} (h : Odd H x) (s : Same H H') : Odd H' x := by
  cases h with
  | non => exact .non
  | bl b => exact .bl b
  | str z => exact .str z
  | lst e => exact .lst (s _ _ e)
  | tup e => exact .tup (s _ _ e)
  | dK e => exact .dK (s _ _ e)
theorem Odd.kit {K : PySem.W.Frag} {H : Hp} {x : V} (h : Odd H x) : ∃ (t : Value) (b : Bool), TyX K H x t ∧ PySem.W.kitOne K t (.type "int") = some b ∧ (b = true → PySem.W.kitOne K t (.type "bool") = some true) := by
  cases h with
  | non => exact ⟨_, false, .base .non, kit_ty (by decide +kernel), fun z => nomatch z⟩
  | bl b => exact ⟨_, true, .base (.bl b), kit_ty (by decide +kernel), fun _ => kit_ty (by decide +kernel)⟩
  | str z => exact ⟨_, false, .base (.str z), kit_ty (by decide +kernel), fun z => nomatch z⟩
  | lst e => exact ⟨_, false, .base (.lst e), kit_ty (by decide +kernel), fun z => nomatch z⟩
  | tup e => exact ⟨_, false, .base (.tup e), kit_ty (by decide +kernel), fun z => nomatch z⟩
  | dK e => exact ⟨_, false, .base (.dK e), kit_ty (by decide +kernel), fun z => nomatch z⟩
theorem Odd.but {a : Addr} {H H' : Hp} {x : V} (h : Odd H x) (hx : x ≠ .ref a) (t : But a H H') : Odd H' x := by
  cases h with
  | non => exact .non
  | bl b => exact .bl b
  | str z => exact .str z
  | lst e => exact .lst (t _ _ (fun z => hx (congrArg V.ref z)) e)
  | tup e => exact .tup (t _ _ (fun z => hx (congrArg V.ref z)) e)
  | dK e => exact .dK (t _ _ (fun z => hx (congrArg V.ref z)) e)
theorem Same.store {p : Addr} {H H1 : Hp} {o : HO} (x : Same H H1) (hp : H p = none) : Same H (upd H1 p o) := fun b u h => by
  rw [upd_ne (ne_of_none h hp)]; exact x b u h
theorem q_eq {Q : V → Hp → Prop} {H : Hp} {x y : V} (h : x = y) (q : Q (.bl true) H) : Q (.bl (decide (x = y))) H := by
  rw [decide_eq_true h]; exact q
end OF
/-! e.__class__.__name__ of an error that is being made. -/
namespace PySem.W
open PySem PySem.Calls PyProof.Rows PyProof.V PySem.Spec Builtin Builtin.ObjectAttr Builtin.Getset_descriptor
section
variable {prog : Program} {w : World} {A : Around} {E : Value → Shared → Prop} {s : Shared} {K : Frag} {x C : Addr} {ox : Obj} {od : Option Obj} {expr : Bool} {Q : Value → Shared → Prop} {gt : Option Value}
theorem exc_class (X : K.In s.heap) (I : InstAt s.heap x ox C od) (hga : findIn K (.ref C) "__getattribute__" = some (some (.builtin "BaseException.__getattribute__"))) (hgt : findIn K (.ref C) "__getattr__" = some gt)
    (hsub : subIn K (.ref C) (.type "BaseException") = some true) (hf : findObj K C od "__class__" = some (.bind (.builtin "getset_descriptor.__get__") (.builtin "object.__class__"))) (hm : mroIn K C (.type "object") = some true)
    (h : Q (.ref C) { s with toks := s.toks + 1 }) : wpAny (model prog w) A (getAttr (.ref x) "__class__" expr) Q E s := by
  obtain ⟨hp, g, d, t, os⟩ := s
  have L0 := I.type (M := model prog w)
  have L1 := looks_findIn (M := model prog w) X hga
  have L2 := looks_findIn (M := model prog w) X hgt
  have L3 := looks_find (M := model prog w) X I hf
  have sub : Looks (model prog w) hp (isInstance (.ref x) (.type "BaseException")) true := L0.andThen (looks_subIn X hsub)
  have hx0 : (expr && onTheHeap (Value.builtin "BaseException.__getattribute__")) = false := by cases expr <;> rfl
  have hx2 : (Value.builtin "BaseException.__getattribute__" == Value.builtin "object.__getattribute__") = false := by decide +kernel
  have hx1 : (onTheHeap (Value.ref C) && Value.builtin "BaseException.__getattribute__" == Value.builtin "object.__getattribute__") = false := by rw [hx2]; rfl
  unfold getAttr getAttrBy
  refine wpAny_bind (wpAny_mkText (wpAny_holding (wpAny_bind (L0.at (wpAny_bind (L1.at ?_))))))
  show wpAny _ _ (if (onTheHeap (Value.ref C) && Value.builtin "BaseException.__getattribute__" == Value.builtin "object.__getattribute__") = true then _ else _) _ _ _
  rw [hx1, if_neg Bool.false_ne_true]
  unfold getAttrByItsOwn hookBefore
  refine wpAny_bind ?_
  rw [if_pos (show onTheHeap (Value.ref C) = true from rfl)]
  refine L2.at ?_
  refine wpAny_bind (wpAny_attempt (wpAny_holding ?_))
  unfold callGetattribute
  rw [hx0, if_neg Bool.false_ne_true]
  unfold boundAndCalled
  rw [PySem.F.excAttr_ValueError.ga.bind (.ref x)]
  refine wpAny_bind (wpAny_pure ?_)
  show wpAny _ _ (call (.builtin "BaseException.__getattribute__") [.ref x, .str "__class__" t]) _ _ _
  refine wpAny_call (codeAny_call_builtin PySem.F.excAttr_ValueError.ga.plain PySem.F.entry_bexc_ga ?_)
  refine @PySem.W.check_slot (model prog w) _ _ ⟨hp, g, d, t + 1, os⟩ "BaseException.__getattribute__" "BaseException" "__getattribute__" (.ref x) [.str "__class__" t] [] _ (by decide +kernel) (by decide +kernel) sub (PySem.F.args_bexc_ga (.ref x) (.str "__class__" t)) ?_
  unfold Builtin.«object.__getattribute__»
  refine wpAny_bind (wpAny_of_eq (a := ((Value.ref x : Value), [Value.str "__class__" t])) (by first | rfl | (simp only [slotArgs]; rfl)) ?_)
  refine wpAny_bind (wpAny_pure (wpAny_bind (L0.at (wpAny_bind (L3.at ?_)))))
  refine wpAny_bind (wpAny_holding (wpAny_call (class_get (s := ⟨hp, g, d, t + 1, os⟩) (ox := ox) (od := od) X I hm ?_)))
  refine wpAny_pure ?_
  show wpAny _ _ (handedOut (.ref C)) _ _ _
  rw [handedOut_of (show handedIn (.ref C) = true from rfl)]
  first | exact wpAny_pure h | exact wpAny_pure (wpAny_pure h)
theorem cn_dga (d tp : Value) (a : Addr) : descrGetArgs ⟨[d, .ref a, tp], []⟩ = pure (d, some (.ref a), given tp) := by kernel_rfl
theorem cn_get {R : Result → Shared → Prop} {tp v : Value} {o : Obj} (ho : s.heap.get? C = some o) (hc : o.cls = .type "type") (hv : o.slots[2]?.join = some v) (h : R (.ok (.ret v)) s) :
    codeAny (model prog w) A (.call (.builtin "getset_descriptor.__get__") ⟨[.builtin "type.__name__", .ref C, tp], []⟩) R s := by
  obtain ⟨hh, g, dr, t, os⟩ := s
  have L0 : Looks (model prog w) hh (typeOf (.ref C)) (.type "type") := by
    rw [← hc]
    exact (Looks.ld ho).andThen .now
  have L1 : Looks (model prog w) hh (isSubtype (.type "type") (.type "type")) true := Looks.of_pure (by rw [isSubtype_type]; kernel_rfl)
  refine codeAny_call_builtin KF.slot_gs.plain KF.entry_gs (KF.slot_gs.check _ _ _ _ _ _ _ _ ktyn_type (KF.args_gs _ _ _) ?_)
  unfold Builtin.«getset_descriptor.__get__» descrGet
  rw [cn_dga]
  refine wpAny_bind (wpAny_pure ?_)
  unfold descrGetter descrCheckInstance descrNameAndClass isInstance
  simp only [ktyn_owner]
  repeat lk
  refine ⟨Code.quiet_builtin _ (by decide +kernel), codeAny_builtin ktyn_entry ?_⟩
  unfold Builtin.«type.__name__» keptObject slotAt
  dsimp only
  refine wpAny_bind (wpAny_bind (wpAny_loadPart_at ho (wpAny_pure ?_)))
  rw [hv]
  exact wpAny_pure h
theorem cn_attr {v : Value} {o : Obj} (X : K.In s.heap) (ty : typeIn K (.ref C) = some (.type "type")) (st : nsIn K cStatics "thirdparty.any" = some none)
    (e : findCls K (.ref C) (.type "type") "__name__" = some (.get (.builtin "getset_descriptor.__get__") (.builtin "type.__name__") (.ref C) (.type "type"))) (lk : K.lookup C = some o) (hc : o.cls = .type "type") (hv : o.slots[2]?.join = some v) (hh : handedIn v = true)
    (h : Q v { s with toks := s.toks + 1 }) : wpAny (model prog w) A (getAttr (.ref C) "__name__" expr) Q E s := by
  have ho := X _ _ lk
  have L0 : Looks (model prog w) s.heap (typeOf (.ref C)) (.type "type") := by
    rw [← hc]
    exact (Looks.ld ho).andThen .now
  have hg : findIn K (.type "type") "__getattribute__" = some (some (.builtin "type.__getattribute__")) := type_tga
  refine cls_open X (looks_opaque X st) L0 hg (looks_hook X (r := none) (by rfl)) (by show subIn K _ _ = _; rfl) e ?_
  show wpAny _ _ (do ret (← holding [Value.builtin "type.__name__"] (call (.builtin "getset_descriptor.__get__") [.builtin "type.__name__", .ref C, .type "type"]))) _ _ _
  refine wpAny_bind (wpAny_holding (wpAny_call (cn_get (s := { s with toks := s.toks + 1 }) ho hc hv ?_)))
  refine wpAny_pure ?_
  show wpAny _ _ (handedOut v) _ _ _
  rw [handedOut_of hh]
  first | exact wpAny_pure h | exact wpAny_pure (wpAny_pure h)
end
end PySem.W
namespace OF
open PySem PySem.Spec PyProof.Rows L2
/-- what an error class says, so that the name of its class is told -/
structure NamC (K : PySem.W.Frag) (C : Addr) (nm : Str) : Prop where
  xf : XfC K C
  cl : (PySem.W.clsIn K C).isSome = true
  ha : PySem.W.findIn K (.ref C) "__class__" = some (some (.builtin "object.__class__"))
  hn : PySem.W.specialIn K (.builtin "object.__class__") "__get__" = some (some (.builtin "getset_descriptor.__get__"))
  ht : PySem.W.takesIn K (.builtin "object.__class__") = some true
  hm : PySem.W.mroIn K C (.type "object") = some true
  ty : PySem.W.typeIn K (.ref C) = some (.type "type")
  st : PySem.W.nsIn K cStatics "thirdparty.any" = some none
  fc : PySem.W.findCls K (.ref C) (.type "type") "__name__" = some (.get (.builtin "getset_descriptor.__get__") (.builtin "type.__name__") (.ref C) (.type "type"))
  lk : ∃ (o : Obj) (t : Tok), K.lookup C = some o ∧ o.cls = .type "type" ∧ o.slots[2]?.join = some (.str nm t)
  no : PySem.W.findIn K (.ref C) "class_name" = some none
section
variable {X : Cx} {e : Expr} {te : TE} {p1 p2 : Pos}
/-- e.__class__.__name__ -/
def tCname (K : PySem.W.Frag) (te : TE) : TE := fun σ H Q => te σ H fun x H1 => ∃ (a C : Addr) (nm : Str), x = .ref a ∧ H1 a = some (exo a C none) ∧ NamC K C nm ∧ Q (.str nm) H1
theorem pe_cname (he : PE X e te) (hb : attributeBase e "__class__" X.env (eval e X.env) = eval e X.env := by rfl) (hb2 : attributeBase (.Attribute e "__class__" p1) "__name__" X.env (eval (.Attribute e "__class__" p1) X.env) = eval (.Attribute e "__class__" p1) X.env := by rfl) :
    PE X (.Attribute (.Attribute e "__class__" p1) "__name__" p2) (tCname X.K te) := by
  refine ⟨fun pins s σ H Q I h => ?_⟩
  refine attr_of hb2 (attr_of hb (thn (he.run pins s σ H _ I h) fun u s1 hh => ?_))
  obtain ⟨x, H1, I1, rx, a, C, nm, ex, ea, N, q⟩ := hh
  subst ex
  obtain rfl : u = Value.ref a := rx
  obtain ⟨t1, ho⟩ := exo_at I1.hok ea
  have J : PySem.W.InstAt s1.heap a { cls := .ref C, dict := none, data := .fields #[.ref t1, .none, .none, .none, .bool false, .none] } C none := ⟨ho, rfl, rfl, trivial⟩
  refine PySem.W.exc_class I1.kIn J N.xf.ga N.xf.gg N.xf.exC (PySem.W.findObj_dataE N.cl N.ha N.hn N.ht) N.hm ?_
  obtain ⟨o, t, lk, hc, hv⟩ := N.lk
  refine PySem.W.cn_attr (s := { s1 with toks := s1.toks + 1 }) (I1.tok _).kIn N.ty N.st N.fc lk hc hv rfl ?_
  exact ⟨.str nm, H1, (I1.tok _).tok _, ⟨_, rfl⟩, q⟩
end
end OF
/-! The errors of the program: two classes deep, each with an __init__ of its own that calls the one above by its class. -/
namespace OF
open PySem PySem.Spec PyProof.Rows L2

/-! ### C.m(e, ..), m a plain def read off the class -/
section
variable {X : Cx} {CX : CXT} {k : Nat} {C f : Addr} {fd : FuncData} {ps : List Str} {sp : Sp} {E : XK} {x m : Str} {p p1 p2 pos : Pos} {e : Expr} {es : List Expr} {t : TA} {mc : Value}
theorem pe_unb {pl : Sem Bool} (F : FnOk X.prog X.w X.K X.mg X.base CX k f fd ps sp) (hr : Room k X.A) (hg : Gl X x) (hm : X.mg x = some (.ref C)) (r : ClX.CRead X.K C mc) (c : ClX.CVal X.K C mc m (.ref f) (.ref f)) (hk : PySem.W.keepIn X.K (.ref f) = true)
    (hb : Binds X.K fd ps []) (hx : Passes CX X E) (ha : PA X (e :: es) t)
    (hc : eval (.Call (.Attribute (.Name x p1) m p2) (e :: es) [] pos) X.env = (do
      let ov ← eval (.Name x p1) X.env
      standAt p2.atName
      let (f, first) ← holding [ov] (getMethod ov m pl)
      callWith pos f first (backTo pos (starEach (e :: es) X.env)) (backToKw pos (keywordEach [] X.env))) := by rfl)
    (hdb : (x == ("__debug__" : Str)) = false := by decide) (he : starEach (e :: es) X.env = (false, eval e X.env) :: starEach es X.env := by rfl) (hpl : (backTo pos (starEach es X.env)).any (·.1) = false := by rfl) :
    PE X (.Call (.Attribute (.Name x p1) m p2) (e :: es) [] pos) (tCall sp [] E t) := by
  refine ⟨fun pins s σ H Q I h => ?_⟩
  refine PySem.W.methodCall_KW (ld_glob I hg hm ?_ hdb) hc
  refine PySem.W.method_cls I.kIn r.ga (ClX.getcval_ok I r c fun s' I' => ?_)
  show wpAny _ _ (callWith pos (Value.ref f) [] (backTo pos (starEach (e :: es) X.env)) []) _ _ _
  refine PySem.W.callWith_K (h₀ := X.base) I.ok.mod.kin hk (thn (ha.run pos pins s' σ H _ I' h) fun us s1 ⟨vs, H1, I1, r1, q⟩ => ⟨I1.kIn, ?_⟩) he hpl
  exact run_fn F hr hb .nil hx I1 r1 q
end

/-! ### promises of the makers -/
/-- FigureError.__init__: the name of the class is kept -/
def spFig (K : PySem.W.Frag) : Sp := fun vs H Q _ => ∃ (a C : Addr) (v : V) (nm : Str), vs = [.ref a, v] ∧ OexC K C ∧ NamC K C nm ∧ H a = some (exo a C none) ∧ ∀ d, H d = none → d ≠ a → Q .non (upd (upd H d (exd d [("class_name", .str nm)])) a (exo a C (some d)))
/-- X.__init__ of the class at C: one field, and what was kept -/
def spInit (K : PySem.W.Frag) (f : Str) (C : Addr) : Sp := fun vs H Q _ => ∃ (a : Addr) (v : V), vs = [.ref a, v] ∧ H a = some (exo a C none) ∧ ∀ (fs : List (Str × V)) (d : Addr), H d = none → d ≠ a → Q .non (upd (upd H d (exd d ((f, v) :: fs))) a (exo a C (some d)))
theorem upd_swap {H : Hp} {a d : Addr} {x y z : HO} (n : d ≠ a) : upd (upd (upd H d x) a y) d z = upd (upd H d z) a y := by
  funext b
  by_cases h : b = d
  · subst h
    rw [upd_same, upd_ne n, upd_same]
  · rw [upd_ne h]
    by_cases h2 : b = a
    · subst h2
      rw [upd_same, upd_same]
    · rw [upd_ne h2, upd_ne h2, upd_ne h, upd_ne h]
/-- what the top says of FigureError -/
structure FigC (K : PySem.W.Frag) (mg : Str → Option Value) (C f : Addr) : Prop where
  g : mg "FigureError" = some (.ref C)
  rd : ClX.CRead K C (.type "type")
  at_ : PySem.W.findCls K (.ref C) (.type "type") "__init__" = some (.val (.ref f))
  kp : PySem.W.keepIn K (.ref f) = true
theorem FigC.val {K : PySem.W.Frag} {mg : Str → Option Value} {C f : Addr} (T : FigC K mg C f) : ClX.CVal K C (.type "type") "__init__" (.ref f) (.ref f) := ⟨T.at_, rfl⟩
/-- what the top says of an error class below it, its field f, its maker at fI -/
structure ErrC (K : PySem.W.Frag) (mg : Str → Option Value) (x f : Str) (C fI : Addr) : Prop where
  g : mg x = some (.ref C)
  ox : OexC K C
  iC : PySem.W.findIn K (.ref C) "__init__" = some (some (.ref fI))
  tI : PySem.W.typeIn K (.ref fI) = some (.type "function")
  no : PySem.W.findIn K (.ref C) f = some none
  xf : XfC K C
  te : PySem.W.exmOne K (.ref C) (.ref C) = some true
  nam : ∃ nm, NamC K C nm
/-- a raised error of the class at C with its field -/
def Raised (C : Addr) (f : Str) (v : V) (H : Hp) (E : XK) : Prop := ∀ (fs : List (Str × V)) (d : Addr) (H' : Hp), H d = none → Same H H' → H' d = some (.xd ((f, v) :: fs)) → E (.ref C) (some d) H'
theorem raised_ok {C : Addr} {f : Str} {v : V} {H H1 : Hp} {E : XK} (q : Raised C f v H E) (s : Same H H1) {K : PySem.W.Frag} {σ : L2.St} {D : Ends} : 
    ([v].length ≤ 1000 ∧ ∀ a, H1 a = none → spInit K f C (.ref a :: ([v] ++ [])) (upd H1 a (exo a C none))
      (fun v' H2 => v' = .non ∧ ∃ (d : Addr) (fs : List (Str × V)), H2 a = some (exo a C (some d)) ∧ H2 d = some (exd d fs) ∧ H1 d = none ∧ E (.ref C) (some d) (upd (del H2 a) d (.xd fs))) (fun _ _ _ => False)) := by
  refine ⟨(by show 1 ≤ 1000; decide), fun a ha => ⟨a, v, rfl, upd_same, fun fs d hd nda => ⟨rfl, d, (f, v) :: fs, upd_same, ?_, ?_, ?_⟩⟩⟩
  · rw [upd_ne nda]
    exact upd_same
  · rw [upd_ne nda] at hd
    exact hd
  · rw [upd_ne nda] at hd
    refine q fs d _ (s.free hd) (fun b o h => ?_) upd_same
    have h1 := s b o h
    have hba : b ≠ a := ne_of_none h1 ha
    have hbd : b ≠ d := ne_of_none h1 hd
    rw [upd_ne hbd, del_ne hba, upd_ne hba, upd_ne hbd, upd_ne hba]
    exact h1
/-- dict comprehensions over a range -/
theorem dc_range {lo : Int} {n : Nat} {g : TG} {tt : TT} {tk tv : TE} {vs : List Nat} {σ : L2.St} {H1 : Hp} {D : Addr} {Qd : Hp → Prop} (Pv : Nat → Hp → Prop) (h0 : Pv 0 (upd H1 D (.dK [])))
    (hs : ∀ i H, i < n → Pv i H → g (.int (lo + i)) (wipe σ vs) H fun σ2 H2 => wipe σ2 vs = wipe σ vs ∧ tt σ2 H2 fun b H3 =>
      if b = true then tk σ2 H3 fun y H4 => tv σ2 H4 fun z H5 => ∃ kvs k, y = kV k ∧ H5 D = some (.dK kvs) ∧ kvs.length < sizeLine ∧ Pv (i + 1) (upd H5 D (.dK (putK kvs k z))) else Pv (i + 1) H3) (hd : ∀ H, Pv n H → Qd H) :
    ∃ W : Nat → Nat → Hp → Prop, (∃ m, W 0 m (upd H1 D (.dK []))) ∧ ∀ i m H, W i m H →
      ((Itr lo n).stop i H ∧ Qd H) ∨ ((Itr lo n).go i H ∧ ∃ Nx : Hp → Prop, (∀ H', Nx H' → ∃ m', m' < m ∧ W (i + 1) m' H') ∧ ∀ x H', (Itr lo n).yld i H x H' → g x (wipe σ vs) H' fun σ2 H2 => wipe σ2 vs = wipe σ vs ∧ tt σ2 H2 fun b H3 =>
        if b = true then tk σ2 H3 fun y H4 => tv σ2 H4 fun z H5 => ∃ kvs k, y = kV k ∧ H5 D = some (.dK kvs) ∧ kvs.length < sizeLine ∧ Nx (upd H5 D (.dK (putK kvs k z))) else Nx H3) := by
  refine ⟨fun i m H => m = n - i ∧ i ≤ n ∧ Pv i H, ⟨n, by simp, Nat.zero_le _, h0⟩, ?_⟩
  rintro i m H ⟨rfl, hi, p⟩
  by_cases hlt : i < n
  · refine .inr ⟨hlt, Pv (i + 1), fun H' p' => ⟨n - (i + 1), by omega, rfl, hlt, p'⟩, fun x H' y => ?_⟩
    obtain ⟨e, y⟩ := y
    subst e y
    exact hs i _ hlt p
  · have e : i = n := by omega
    subst e
    exact .inl ⟨Nat.le_refl _, hd H p⟩
/-- an error of a class is what an except clause of that class names -/
theorem exm_own {K : PySem.W.Frag} {S : Addr} (h1 : PySem.W.subIn K (.ref S) (.type "BaseException") = some true) (h2 : PySem.W.isClsIn K S = true) (h3 : PySem.W.typeIn K (.ref S) = some (.type "type")) (h4 : PySem.W.subIn K (.ref S) (.ref S) = some true) :
    PySem.W.exmOne K (.ref S) (.ref S) = some true := by
  have h2' : (PySem.W.clsIn K S).isSome = true := h2
  unfold PySem.W.exmOne
  simp only [h1, beq_self_eq_true, if_true]
  unfold PySem.W.kitCls
  simp only [h3, h4, h2', beq_self_eq_true, Bool.and_self, if_true]

/-! ### isinstance(e, C), e the error that the suite holds, with a dict of its own -/
/-- what the class D of the error says, so that it is asked rightly -/
structure AskC (K : PySem.W.Frag) (D : Addr) : Prop where
  cl : (PySem.W.clsIn K D).isSome = true
  xf : XfC K D
  ha : PySem.W.findIn K (.ref D) "__class__" = some (some (.builtin "object.__class__"))
  hn : PySem.W.specialIn K (.builtin "object.__class__") "__get__" = some (some (.builtin "getset_descriptor.__get__"))
  ht : PySem.W.takesIn K (.builtin "object.__class__") = some true
  hm : PySem.W.mroIn K D (.type "object") = some true
def rAsk (K : PySem.W.Frag) (D a : Addr) (cls : Value) (d : Option Addr) : List V → Hp → VK → Prop := fun xs H Q => ∃ (dd : Addr) (fs : List (Str × V)) (c : V) (cv : Value) (b : Bool), cls = .ref D ∧ d = some dd ∧ H dd = some (.xd fs) ∧ xs = [.ref a, c] ∧ (∀ u, RelV c u → u = cv) ∧ PySem.W.kitOne K (.ref D) cv = some b ∧ Q (.bl b) H
theorem call_ask {X : Cx} {a D : Addr} {oe : Obj} {cls : Value} {d : Option Addr} {pn : List (Addr × Obj)} (C : AskC X.K D) (hz : Zc cls d oe) (hf : ∃ vs, oe.data = .fields vs) : CallR (X.suite a ((a, oe) :: pn)) (.builtin "isinstance") (rAsk X.K D a cls d) := by
  intro pins s σ H xs us Q I r h
  obtain ⟨dd, fs, c, cv, b, ec, ed, ea, rfl, hcv, e, q⟩ := h
  obtain ⟨u1, u2, rfl, r1, r2⟩ := vals2 r
  cases r1
  cases hcv _ r2
  subst ec
  subst ed
  obtain ⟨hget, _⟩ := I.pin (a, oe) (List.mem_append_left _ List.mem_cons_self)
  obtain ⟨vs, hv⟩ := hf
  have hx : ObjOk X.prog X.w H s.heap dd (.xd fs) := I.hok dd _ ea
  obtain ⟨mA, hns, _⟩ := hx
  obtain ⟨od, ho, _⟩ := lookIn_ns hns
  have J : PySem.W.InstAt s.heap a oe D (some od) := ⟨hget, hz.1, by unfold PySem.W.notCls; rw [hv] <;> rfl, by rw [hz.2]; exact ho⟩
  exact PySem.W.kia_one (PySem.W.kitx_exc C.cl C.xf.ga C.xf.gg C.xf.exC C.ha C.hn C.ht C.hm) I.kIn J e (fun z => nomatch z) fun tk => ⟨.bl b, H, I.kept (t' := tk) fun _ _ z => z, rfl, q⟩

/-! ### lists of the same things -/
/-- l != l2, two lists of the very same things -/
def rNeSame (K : PySem.W.Frag) : R2 := fun x y H Q => ∃ (l l2 : Addr) (xs : List V), x = .ref l ∧ y = .ref l2 ∧ SqL K H l xs ∧ SqL K H l2 xs ∧ (∀ v ∈ xs, flatB v = true ∨ ∃ a, v = .ref a) ∧ Q (.bl false) H
theorem op_neSame {X : Cx} (hu : X.A.units + 64 < cLine) : OpR X (compareOp .NotEq) (rNeSame X.K) := by
  intro pins s σ H x y v u Q I rx ry h
  obtain ⟨l, l2, xs, rfl, rfl, h1, h2, hs, q⟩ := h
  cases rx
  cases ry
  obtain ⟨us, r1, p1, _⟩ := I.list h1
  obtain ⟨ws, r2, p2, _⟩ := I.list h2
  have n1 := r1.length
  have n2 := r2.length
  have hsz : us.toArray.size = ws.toArray.size := by
    rw [List.size_toArray, List.size_toArray]
    omega
  have key := SeqAt.RcNeAt.lists (A := X.A) (e := fun _ => true) p1.isList p2.isList hsz (by omega) (fun j h1 h2 => ?_)
  · refine key X.prog X.w _ _ ?_
    rw [show ((List.range us.toArray.size).all fun _ => true) = true from List.all_eq_true.mpr fun _ _ => rfl]
    exact ⟨.bl false, H, I, rfl, q⟩
  · have j1 : j < us.length := by simpa using h1
    have jx : j < xs.length := by omega
    obtain ⟨a, ea, ra⟩ := Vals.get r1 (List.getElem?_eq_getElem jx)
    obtain ⟨b, eb, rb⟩ := Vals.get r2 (List.getElem?_eq_getElem jx)
    have e1 : us.toArray[j] = a := by
      have := List.getElem?_eq_getElem j1
      rw [this] at ea
      simpa using Option.some.inj ea
    have e2 : ws.toArray[j] = b := by
      have j2 : j < ws.length := by omega
      have := List.getElem?_eq_getElem j2
      rw [this] at eb
      simpa using Option.some.inj eb
    rw [e1, e2]
    rcases hs _ (List.getElem_mem jx) with hf | ⟨p, hp⟩
    · exact eqAt_same ra rb hf
    · rw [hp] at ra rb
      cases ra
      cases rb
      exact SeqAt.EqAt.same _
/-- isinstance's answer by an own class that is the class itself or above it -/
theorem kit_own {K : PySem.W.Frag} {S C : Addr} (h2 : PySem.W.isClsIn K C = true) (h3 : PySem.W.typeIn K (.ref C) = some (.type "type")) (h4 : PySem.W.subIn K (.ref S) (.ref C) = some true) : PySem.W.kitOne K (.ref S) (.ref C) = some true := by
  have h2' : (PySem.W.clsIn K C).isSome = true := h2
  unfold PySem.W.kitOne
  split
  · rfl
  · unfold PySem.W.kitCls
    simp only [h3, h4, h2', beq_self_eq_true, Bool.and_self, if_true]
end OF
/-! Rows as texts: what read_row makes of a text. -/
namespace OF
open PySem PySem.Spec PyProof.Rows L2 TL
/-- the texts of the digits, with their digits -/
def digL : List (Key × V) := (List.range 19).map fun (i : Nat) => (Sum.inr (Str.ofString (toString ((-9 : Int) + (i : Int)))), V.int ((-9 : Int) + (i : Int)))
theorem digL_put : ∀ i : Nat, i < 19 → putK (digL.take i) (Sum.inr (Str.ofString (toString ((-9 : Int) + (i : Int))))) (V.int ((-9 : Int) + (i : Int))) = digL.take (i + 1) := by decide +kernel
theorem digL_all : digL.take 19 = digL := by decide +kernel
/-- the digit that a word is -/
def digV (w : Str) : Option V := valV digL (Sum.inr w)
/-- the digits that words are -/
def rowOf (ws : List Str) : Option (List V) := if ws.all (fun w => (digV w).isSome) = true then some (ws.map fun w => (digV w).getD .non) else none
/-- the row whose text it is -/
def readV (z : Str) : Option (List V) := if z = Str.ofString "." then some [] else rowOf (Txt.split z (Str.ofString " "))
/-- a value of a kind that is no text -/
inductive NoStr (H : Hp) : V → Prop
  | non : NoStr H .non
  | bl (b : Bool) : NoStr H (.bl b)
  | int (i : Int) : NoStr H (.int i)
  | lst {a : Addr} {xs : List V} (e : H a = some (.lst xs)) : NoStr H (.ref a)
  | tup {a : Addr} {xs : List V} (e : H a = some (.tup xs)) : NoStr H (.ref a)
  | dK {a : Addr} {kvs : List (Key × V)} (e : H a = some (.dK kvs)) : NoStr H (.ref a)
theorem NoStr.kit {K : PySem.W.Frag} {H : Hp} {x : V} (h : NoStr H x) : ∃ t : Value, TyX K H x t ∧ PySem.W.kitOne K t (.type "str") = some false := by
  cases h with
  | non => exact ⟨_, .base .non, kit_ty (by decide +kernel)⟩
  | bl b => exact ⟨_, .base (.bl b), kit_ty (by decide +kernel)⟩
  | int z => exact ⟨_, .base (.int z), kit_ty (by decide +kernel)⟩
  | lst e => exact ⟨_, .base (.lst e), kit_ty (by decide +kernel)⟩
  | tup e => exact ⟨_, .base (.tup e), kit_ty (by decide +kernel)⟩
  | dK e => exact ⟨_, .base (.dK e), kit_ty (by decide +kernel)⟩
theorem NoStr.same {H H' : Hp} {x : V} (h : NoStr H x) (s : Same H H') : NoStr H' x := by
  cases h with
  | non => exact .non
  | bl b => exact .bl b
  | int z => exact .int z
  | lst e => exact .lst (s _ _ e)
  | tup e => exact .tup (s _ _ e)
  | dK e => exact .dK (s _ _ e)
/-- read_row: the row, or an error with the very value -/
def spRead (C : Addr) : Sp := fun vs H Q E => ∃ x : V, vs = [x] ∧
  ((∃ z : Str, x = .str z ∧ z.length ≤ 100000 ∧ (∀ ds, readV z = some ds → ∀ p H', H p = none → Same H H' → H' p = some (.tup ds) → Q (.ref p) H') ∧ (readV z = none → Raised C "text" (.str z) H E)) ∨
    (NoStr H x ∧ Raised C "text" x H E))
theorem take_more {α : Type} : ∀ {l : List α} {i : Nat} {x : α}, l[i]? = some x → l.take (i + 1) = l.take i ++ [x]
  | [], i, x, h => by simp at h
  | a :: l, 0, x, h => by
    have e : a = x := Option.some.inj h
    subst e
    rfl
  | a :: l, i + 1, x, h => by
    have ih := take_more (l := l) (i := i) (x := x) h
    show a :: l.take (i + 1) = a :: l.take i ++ [x]
    rw [ih]
    rfl
theorem get_map {α β : Type} {f : α → β} {l : List α} {i : Nat} {y : β} (h : (l.map f)[i]? = some y) : ∃ x, l[i]? = some x ∧ y = f x := by
  rw [List.getElem?_map] at h
  cases e : l[i]? with
  | none => rw [e] at h; cases h
  | some x => rw [e] at h; exact ⟨x, rfl, (Option.some.inj h).symm⟩
theorem log_le {n : Int} (h : n.natAbs ≤ 1000) : n.natAbs.log2 < 1920 := Nat.lt_of_le_of_lt (Nat.log2_le_self _) (by omega)
theorem vals_signs : ∀ (L : List Nat) (l : List Value), l.length = L.length → (∀ (j : Nat) (v : Value), l[j]? = some v → ∃ (c : Nat) (u : Tok), L[j]? = some c ∧ v = Value.str ⟨#[c]⟩ u) → Vals (L.map fun c => V.str ⟨#[c]⟩) l
  | [], [], _, _ => .nil
  | c :: L, v :: l, hl, h => by
    obtain ⟨c', u, e1, e2⟩ := h 0 v rfl
    cases (show c = c' from Option.some.inj e1)
    exact .cons ⟨u, e2⟩ (vals_signs L l (Nat.succ.inj hl) fun j w hw => h (j + 1) w hw)
/-- list(text) -/
theorem call_list_signs {X : Cx} (hc : X.calm = true) : CallR X (.type "list") (fun xs H Q => ∃ z : Str, xs = [.str z] ∧ z.length ≤ sizeLine ∧ ∀ l, H l = none → Q (.ref l) (upd H l (.lst ((tl z).map fun c => V.str ⟨#[c]⟩)))) := by
  intro pins s σ H xs us Q I r h
  obtain ⟨z, rfl, hz, q⟩ := h
  obtain ⟨u, rfl, t, rfl⟩ := vals1 r
  refine PySem.call_list_str (I.ok.hd hc) z t (fun h' tk acc' c' hk hS' hacc => ?_) (by exact hz)
  have hl : acc'.toList.length = (tl z).length := by
    rw [Array.length_toList, hacc.1]
    rfl
  refine ⟨.ref s.heap.objs.size, _, I.laid (t' := tk) hk (Nat.le_refl _) (show ObjOk X.prog X.w _ h' _ (.lst ((tl z).map fun c => V.str ⟨#[c]⟩)) from ⟨?_, acc'.toList, c', ?_, ?_⟩), rfl, q _ (I.hok.fresh (Nat.le_refl _))⟩
  · rw [List.length_map, ← len_tl]
    exact hz
  · refine vals_signs _ _ hl fun j v hv => ?_
    obtain ⟨c, u, e1, e2⟩ := hacc.2 j v (by rw [← Array.getElem?_toList]; exact hv)
    exact ⟨c, u, by rw [Array.getElem?_toList]; exact e1, e2⟩
  · rw [Array.toArray_toList]
    exact hS'

/-! ### a word as the law reads it -/
def sgB (w : Str) : Bool := decide (V.str (cutS w none (some 1)) = V.str (Str.ofString "-"))
def sgI (w : Str) : Int := if sgB w then 1 else 0
def restS (w : Str) : Str := cutS w (some (sgI w)) none
def figs : List V := (tl (Str.ofString "0123456789")).map fun c => V.str ⟨#[c]⟩
def figVal (w : Str) : Int := Txt.find (Str.ofString "0123456789") (restS w) * (1 - 2 * sgI w)
theorem digV_is {w : Str} {v : V} (h : digV w = some v) : ∃ i : Nat, i < 19 ∧ w = Str.ofString (toString ((-9 : Int) + (i : Int))) ∧ v = V.int ((-9 : Int) + (i : Int)) := by
  unfold digV valV digL at h
  rw [List.find?_map] at h
  cases e : List.find? ((fun kv : Key × V => decide (kv.1 = Sum.inr w)) ∘ fun (i : Nat) => ((Sum.inr (Str.ofString (toString ((-9 : Int) + (i : Int)))), V.int ((-9 : Int) + (i : Int))) : Key × V)) (List.range 19) with
  | none => rw [e] at h; cases h
  | some i =>
    rw [e] at h
    have p := List.find?_some e
    have m := List.mem_of_find?_eq_some e
    refine ⟨i, List.mem_range.mp m, ?_, (Option.some.inj h).symm⟩
    exact (Sum.inr.inj (of_decide_eq_true p)).symm
theorem digs_ok : ∀ i : Nat, i < 19 → inV (.str (restS (Str.ofString (toString ((-9 : Int) + (i : Int)))))) figs = true ∧ decide (V.str (Str.ofString (toString ((-9 : Int) + (i : Int)))) = V.str (Str.ofString "-0")) = false ∧
    figVal (Str.ofString (toString ((-9 : Int) + (i : Int)))) = (-9 : Int) + (i : Int) := by decide +kernel
theorem word_some {w : Str} {v : V} (h : digV w = some v) : inV (.str (restS w)) figs = true ∧ decide (V.str w = V.str (Str.ofString "-0")) = false ∧ v = V.int (figVal w) := by
  obtain ⟨i, hi, rfl, rfl⟩ := digV_is h
  obtain ⟨h1, h2, h3⟩ := digs_ok i hi
  exact ⟨h1, h2, by rw [h3]⟩
theorem figs_words : ∀ c ∈ tl (Str.ofString "0123456789"), (digV ⟨#[c]⟩).isSome = true ∧ ((digV (⟨(45 :: [c]).toArray⟩ : Str)).isSome = true ∨ (⟨(45 :: [c]).toArray⟩ : Str) = Str.ofString "-0") := by decide +kernel
theorem cut_rest {w : Str} (h : sgB w = true) : tl w = 45 :: tl (cutS w (some 1) none) := by
  have e : cutS w none (some 1) = Str.ofString "-" := V.str.inj (of_decide_eq_true h)
  have e2 : tl (cutS w none (some 1)) = [45] := by rw [e]; decide +kernel
  have hL : ∀ lo hi, tl (cutS w lo hi) = ((tl w).drop (HT.sIx w.length 0 lo)).take (HT.sIx w.length w.length hi - HT.sIx w.length 0 lo) := fun lo hi => by
    unfold cutS
    exact List.toList_toArray ..
  rw [hL] at e2 ⊢
  rw [HT.sIx_none, show HT.sIx w.length w.length (some 1) = min 1 w.length from HT.sIx_nat w.length w.length 1] at e2
  rw [HT.sIx_none, show HT.sIx w.length 0 (some 1) = min 1 w.length from HT.sIx_nat w.length 0 1]
  have el := len_tl w
  cases hw : tl w with
  | nil => rw [hw] at e2; simp at e2
  | cons a r =>
    rw [hw] at e2 el
    have : min 1 w.length = 1 := by rw [el, List.length_cons]; omega
    rw [this] at e2 ⊢
    have ea : a = 45 := by simpa using e2
    rw [ea, el]
    simp
theorem cut_all {w : Str} (h : sgB w = false) : restS w = w := by
  unfold restS sgI
  rw [h]
  unfold cutS
  rw [show HT.sIx w.length 0 (some (if false = true then (1 : Int) else 0)) = min 0 w.length from HT.sIx_nat w.length 0 0, HT.sIx_none, Nat.zero_min, List.drop_zero, Nat.sub_zero]
  rw [List.take_of_length_le (by rw [← len_tl]; exact Nat.le_refl _)]
theorem word_none {w : Str} (h : digV w = none) : inV (.str (restS w)) figs = false ∨ decide (V.str w = V.str (Str.ofString "-0")) = true := by
  cases hi : inV (.str (restS w)) figs with
  | false => exact .inl rfl
  | true =>
    right
    unfold inV figs at hi
    obtain ⟨y, hy, e⟩ := List.any_eq_true.mp hi
    obtain ⟨c, hc, rfl⟩ := List.mem_map.mp hy
    have er : restS w = ⟨#[c]⟩ := by
      have : (⟨#[c]⟩ : Str) = restS w := by simpa [eqV] using e
      exact this.symm
    obtain ⟨h1, h2⟩ := figs_words c hc
    cases hs : sgB w with
    | false =>
      rw [cut_all hs] at er
      rw [er] at h
      rw [h] at h1
      cases h1
    | true =>
      have e1 := cut_rest hs
      have e3 : restS w = cutS w (some 1) none := by
        unfold restS sgI
        rw [hs]
        rfl
      have ew : w = (⟨(45 :: [c]).toArray⟩ : Str) := by
        rw [← mk_tl w, e1, ← e3, er]
      rcases h2 with h2 | h2
      · rw [← ew, h] at h2
        cases h2
      · exact decide_eq_true (congrArg V.str (ew.trans h2))

/-! ### texts of few and plain signs -/
def TOk (n : Nat) (z : Str) : Prop := (tl z).length ≤ n ∧ ∀ c ∈ tl z, c < 1114112
theorem TOk.mono {n m : Nat} {z : Str} (h : TOk n z) (hm : n ≤ m) : TOk m z := ⟨Nat.le_trans h.1 hm, h.2⟩
theorem TOk.len {n : Nat} {z : Str} (h : TOk n z) : z.length ≤ n := by rw [len_tl]; exact h.1
theorem TOk.ok {n : Nat} {z : Str} (h : TOk n z) : PyData.strOk z = true := by
  unfold PyData.strOk
  rw [Array.all_eq_true']
  intro c hc
  exact decide_eq_true (h.2 c (by show c ∈ z.cps.toList; exact Array.mem_toList_iff.mpr hc))
theorem tl_cut (w : Str) (lo hi : Option Int) : tl (cutS w lo hi) = ((tl w).drop (HT.sIx w.length 0 lo)).take (HT.sIx w.length w.length hi - HT.sIx w.length 0 lo) := by
  unfold cutS
  exact List.toList_toArray ..
theorem TOk.cut {n : Nat} {z : Str} (h : TOk n z) (lo hi : Option Int) : TOk n (cutS z lo hi) := by
  unfold TOk
  rw [tl_cut]
  refine ⟨?_, fun c hc => h.2 c (List.mem_of_mem_drop (List.mem_of_mem_take hc))⟩
  refine Nat.le_trans (List.length_take_le' _ _) ?_
  rw [List.length_drop]
  exact Nat.le_trans (Nat.sub_le _ _) h.1
theorem TOk.app {n m : Nat} {x y : Str} (h : TOk n x) (k : TOk m y) : TOk (n + m) (x ++ y) := by
  unfold TOk
  rw [tl_append, List.length_append]
  refine ⟨Nat.add_le_add h.1 k.1, fun c hc => ?_⟩
  rcases List.mem_append.mp hc with hc | hc
  · exact h.2 c hc
  · exact k.2 c hc
theorem in_join {S : List Nat} : ∀ {ps : List (List Nat)} {p : List Nat}, p ∈ ps → p.length ≤ (joinL S ps).length ∧ ∀ c ∈ p, c ∈ joinL S ps
  | [q], p, h => by
    cases List.mem_singleton.mp h
    exact ⟨Nat.le_refl _, fun c hc => hc⟩
  | q :: r :: ps, p, h => by
    have e : joinL S (q :: r :: ps) = q ++ (S ++ joinL S (r :: ps)) := rfl
    rw [e]
    rcases List.mem_cons.mp h with h | h
    · rw [h]
      refine ⟨?_, fun c hc => List.mem_append_left _ hc⟩
      rw [List.length_append]
      omega
    · obtain ⟨h1, h2⟩ := in_join (S := S) h
      refine ⟨?_, fun c hc => List.mem_append_right _ (List.mem_append_right _ (h2 c hc))⟩
      rw [List.length_append, List.length_append]
      omega
theorem join_in {S : List Nat} {P : Nat → Prop} (hS : ∀ c ∈ S, P c) : ∀ {ps : List (List Nat)} {n : Nat}, (∀ p ∈ ps, p.length ≤ n ∧ ∀ c ∈ p, P c) → (joinL S ps).length ≤ ps.length * (n + S.length) ∧ ∀ c ∈ joinL S ps, P c
  | [], n, _ => ⟨Nat.zero_le _, fun c hc => by cases hc⟩
  | [q], n, h => by
    obtain ⟨h1, h2⟩ := h q (List.mem_singleton.mpr rfl)
    refine ⟨?_, h2⟩
    show q.length ≤ 1 * (n + S.length)
    omega
  | q :: r :: ps, n, h => by
    obtain ⟨h1, h2⟩ := h q (List.mem_cons_self ..)
    obtain ⟨h3, h4⟩ := join_in hS (ps := r :: ps) (n := n) fun p hp => h p (List.mem_cons_of_mem _ hp)
    have e : joinL S (q :: r :: ps) = q ++ (S ++ joinL S (r :: ps)) := rfl
    rw [e]
    refine ⟨?_, fun c hc => ?_⟩
    · rw [List.length_append, List.length_append, List.length_cons, Nat.succ_mul]
      omega
    · rcases List.mem_append.mp hc with hc | hc
      · exact h2 c hc
      · rcases List.mem_append.mp hc with hc | hc
        · exact hS c hc
        · exact h4 c hc
theorem TOk.parts {n : Nat} {z y : Str} (h : TOk n z) : ∀ w ∈ Txt.split z y, TOk n w := fun w hw => by
  have e := StrLaws.join_split z y
  have e2 := tl_join y (Txt.split z y)
  rw [e] at e2
  obtain ⟨h1, h2⟩ := in_join (S := tl y) (ps := (Txt.split z y).map tl) (List.mem_map.mpr ⟨w, hw, rfl⟩)
  rw [← e2] at h1 h2
  exact ⟨Nat.le_trans h1 h.1, fun c hc => h.2 c (h2 c hc)⟩
theorem TOk.join {n m : Nat} {y : Str} {ps : List Str} (hy : TOk m y) (h : ∀ p ∈ ps, TOk n p) : TOk (ps.length * (n + m)) (Txt.join y ps) := by
  rw [TL.join_eq]
  unfold TOk
  rw [tl_join]
  obtain ⟨h1, h2⟩ := join_in (S := tl y) (P := fun c => c < 1114112) hy.2 (ps := ps.map tl) (n := n) fun p hp => by
    obtain ⟨w, hw, rfl⟩ := List.mem_map.mp hp
    exact h w hw
  refine ⟨Nat.le_trans h1 ?_, h2⟩
  rw [List.length_map]
  exact Nat.mul_le_mul_left _ (Nat.add_le_add_left hy.1 _)
theorem sum_len {n : Nat} : ∀ {ps : List Str}, (∀ p ∈ ps, TOk n p) → (ps.map (·.length)).sum ≤ ps.length * n
  | [], _ => Nat.zero_le _
  | p :: ps, h => by
    have h1 := (h p (List.mem_cons_self ..)).len
    have h2 := sum_len (ps := ps) fun q hq => h q (List.mem_cons_of_mem _ hq)
    rw [List.map_cons, List.sum_cons, List.length_cons, Nat.succ_mul]
    omega
theorem join_pos {y : Str} {ps : List Str} {p : Str} (hp : p ∈ ps) (h : 1 ≤ p.length) : 1 ≤ (Txt.join y ps).length := by
  rw [TL.join_eq, len_tl, tl_join]
  have h1 := (in_join (S := tl y) (ps := ps.map tl) (List.mem_map.mpr ⟨p, hp, rfl⟩)).1
  rw [← len_tl] at h1
  omega
instance (n : Nat) (z : Str) : Decidable (TOk n z) := inferInstanceAs (Decidable (_ ∧ _))
theorem digit_texts : ∀ i : Nat, i < 19 → TOk 2 (Str.ofString (toString ((-9 : Int) + (i : Int)))) ∧ 1 ≤ (Str.ofString (toString ((-9 : Int) + (i : Int)))).length := by decide +kernel
/-- text data that may be compared -/
theorem shaped_str {z : Str} (h : PyData.strOk z = true) : SeqAt.shaped (.str z) = true := by
  unfold SeqAt.shaped
  rw [show PyData.canLay0 (.str z) = PyData.strOk z by simp only [PyData.canLay0], h]
  rfl

/-! ### data that may be compared -/
theorem dp_ints {K : PySem.W.Frag} {H : Hp} : ∀ is : List Int, DpAll K H (is.map V.int) (is.map PyData.int)
  | [] => .nil
  | i :: is => .cons (.int i) (dp_ints is)
theorem can_ints : ∀ is : List Int, PyData.canLayAll0 (is.map PyData.int) = true
  | [] => by simp only [List.map_nil, PyData.canLayAll0]
  | i :: is => by
    rw [List.map_cons, PyData.canLayAll0, can_ints is]
    simp only [PyData.canLay0, Bool.and_true]
theorem dep_ints : ∀ is : List Int, PyData.depthAll (is.map PyData.int) = 0
  | [] => by simp only [List.map_nil, PyData.depthAll]
  | i :: is => by
    rw [List.map_cons, PyData.depthAll, dep_ints is]
    simp only [PyData.depth, Nat.max_self]
theorem shaped_of {d : PyData} (h : d.canLay0 = true) (k : d.depth ≤ 64) : SeqAt.shaped d = true := by
  unfold SeqAt.shaped
  rw [h, decide_eq_true k]
  rfl
theorem can_pair {z : Str} {d : PyData} (hz : PyData.strOk z = true) (hd : d.canLay0 = true) : (PyData.list [.str z, d]).canLay0 = true := by
  simp only [PyData.canLay0, PyData.canLayAll0, hz, hd, Bool.and_true]
theorem dep_pair {z : Str} {d : PyData} {n : Nat} (hd : d.depth ≤ n) : (PyData.list [.str z, d]).depth ≤ n + 1 := by
  simp only [PyData.depth, PyData.depthAll]
  omega
/-- the item's own data: what stands at it reads so, whatever is made later -/
structure DatOf (K : PySem.W.Frag) (H : Hp) (x : V) (d : PyData) : Prop where
  dp : ∀ H', Same H H' → Dp K H' x d
  can : d.canLay0 = true
  dep : d.depth ≤ 10
theorem DatOf.same {K : PySem.W.Frag} {H H1 : Hp} {x : V} {d : PyData} (h : DatOf K H x d) (s : Same H H1) : DatOf K H1 x d := ⟨fun H' s' => h.dp H' (s.trans s'), h.can, h.dep⟩
theorem DatOf.str {K : PySem.W.Frag} {H : Hp} {z : Str} (hz : PyData.strOk z = true) : DatOf K H (.str z) (.str z) := ⟨fun _ _ => .str z, by simp only [PyData.canLay0, hz], by simp only [PyData.depth]; omega⟩
theorem DatOf.non {K : PySem.W.Frag} {H : Hp} : DatOf K H .non .none := ⟨fun _ _ => .non, by simp only [PyData.canLay0], by simp only [PyData.depth]; omega⟩
theorem DatOf.bl {K : PySem.W.Frag} {H : Hp} {b : Bool} : DatOf K H (.bl b) (.bool b) := ⟨fun _ _ => .bl b, by simp only [PyData.canLay0], by simp only [PyData.depth]; omega⟩
theorem DatOf.int {K : PySem.W.Frag} {H : Hp} {i : Int} : DatOf K H (.int i) (.int i) := ⟨fun _ _ => .int i, by simp only [PyData.canLay0], by simp only [PyData.depth]; omega⟩
theorem DatOf.tup {K : PySem.W.Frag} {H : Hp} {p : Addr} {is : List Int} (e : H p = some (.tup (is.map V.int))) : DatOf K H (.ref p) (.tuple (is.map PyData.int)) :=
  ⟨fun _ s => .tup (SqT.of (s _ _ e)) (dp_ints is), by simp only [PyData.canLay0, can_ints], by simp only [PyData.depth, dep_ints]; omega⟩
theorem DatOf.lst1 {K : PySem.W.Frag} {H : Hp} {p : Addr} {z : Str} (hz : PyData.strOk z = true) (e : H p = some (.lst [.str z])) : DatOf K H (.ref p) (.list [.str z]) :=
  ⟨fun _ s => .lst (SqL.of (s _ _ e)) (.cons (.str z) .nil), by simp only [PyData.canLay0, PyData.canLayAll0, hz, Bool.and_true], by simp only [PyData.depth, PyData.depthAll]; omega⟩
/-- two lists of a word and the same thing: equal -/
theorem pair_eqv {z : Str} {d : PyData} (hz : PyData.strOk z = true) (hd : d.canLay0 = true) : PyData.eqv (.list [.str z, d]) (.list [.str z, d]) = true := SeqAt.eqv_refl _ (can_pair hz hd)
theorem pair_ne {K : PySem.W.Frag} {H : Hp} {l l2 : Addr} {z : Str} {x y : V} {d : PyData} {Q : V → Hp → Prop} (hz : PyData.strOk z = true) (e1 : H l = some (.lst [.str z, x])) (e2 : H l2 = some (.lst [.str z, y])) (h1 : Dp K H x d) (h2 : Dp K H y d) (hc : d.canLay0 = true) (hd : d.depth ≤ 10)
    (q : Q (.bl false) H) : rNeD K (.ref l) (.ref l2) H Q := by
  have sh := shaped_of (can_pair hz hc) (Nat.le_trans (dep_pair hd) (by decide))
  refine ⟨_, _, Dp.lst (SqL.of e1) (.cons (.str z) (.cons h1 .nil)), Dp.lst (SqL.of e2) (.cons (.str z) (.cons h2 .nil)), sh, sh, ?_⟩
  rw [pair_eqv hz hc]
  exact q
theorem pair_eq {K : PySem.W.Frag} {H : Hp} {l l2 : Addr} {z : Str} {x y : V} {d : PyData} {Q : V → Hp → Prop} (hz : PyData.strOk z = true) (e1 : H l = some (.lst [.str z, x])) (e2 : H l2 = some (.lst [.str z, y])) (h1 : Dp K H x d) (h2 : Dp K H y d) (hc : d.canLay0 = true) (hd : d.depth ≤ 10)
    (q : Q (.bl true) H) : rEqD K (.ref l) (.ref l2) H Q := by
  have sh := shaped_of (can_pair hz hc) (Nat.le_trans (dep_pair hd) (by decide))
  refine ⟨_, _, Dp.lst (SqL.of e1) (.cons (.str z) (.cons h1 .nil)), Dp.lst (SqL.of e2) (.cons (.str z) (.cons h2 .nil)), sh, sh, ?_⟩
  rw [pair_eqv hz hc]
  exact q
/-- the digits of a text are ints -/
theorem readV_ints {z : Str} {ds : List V} (h : readV z = some ds) : ∃ is : List Int, ds = is.map V.int := by
  unfold readV at h
  split at h
  · cases Option.some.inj h
    exact ⟨[], rfl⟩
  · unfold rowOf at h
    split at h
    · rename_i hall
      have e := Option.some.inj h
      refine ⟨(Txt.split z (Str.ofString " ")).map fun w => match digV w with | some (.int i) => i | _ => 0, ?_⟩
      rw [← e, List.map_map]
      refine List.map_congr_left fun w hw => ?_
      have hs := List.all_eq_true.mp hall w hw
      obtain ⟨v, hv⟩ := Option.isSome_iff_exists.mp hs
      obtain ⟨i, _, _, rfl⟩ := digV_is hv
      simp only [Function.comp, hv, Option.getD_some]
    · cases h
theorem read_empty : readV (Str.ofString "") = none := by decide +kernel
theorem read_dot : readV (Str.ofString ".") = some [] := by decide +kernel
/-- two ways, heaps behind them of their own, one rest -/
theorem iteDupH {c : Bool} {A B : Prop} {G : Hp} {S : Hp → Prop} (f : (∀ H', Same G H' → S H') → c = true → A) (g : (∀ H', Same G H' → S H') → c = false → B) (r : ∀ H', Same G H' → S H') : if c = true then A else B := by
  cases c with
  | true => exact iteT (f r rfl)
  | false => exact iteF (g r rfl)

/-! ### rows as texts -/
/-- a value of a kind that is no tuple -/
inductive NoTup (H : Hp) : V → Prop
  | non : NoTup H .non
  | bl (b : Bool) : NoTup H (.bl b)
  | int (i : Int) : NoTup H (.int i)
  | str (z : Str) : NoTup H (.str z)
  | lst {a : Addr} {xs : List V} (e : H a = some (.lst xs)) : NoTup H (.ref a)
  | dK {a : Addr} {kvs : List (Key × V)} (e : H a = some (.dK kvs)) : NoTup H (.ref a)
theorem NoTup.kit {K : PySem.W.Frag} {H : Hp} {x : V} (h : NoTup H x) : ∃ t : Value, TyX K H x t ∧ PySem.W.kitOne K t (.type "tuple") = some false := by
  cases h with
  | non => exact ⟨_, .base .non, kit_ty (by decide +kernel)⟩
  | bl b => exact ⟨_, .base (.bl b), kit_ty (by decide +kernel)⟩
  | int z => exact ⟨_, .base (.int z), kit_ty (by decide +kernel)⟩
  | str z => exact ⟨_, .base (.str z), kit_ty (by decide +kernel)⟩
  | lst e => exact ⟨_, .base (.lst e), kit_ty (by decide +kernel)⟩
  | dK e => exact ⟨_, .base (.dK e), kit_ty (by decide +kernel)⟩
theorem NoTup.same {H H' : Hp} {x : V} (h : NoTup H x) (s : Same H H') : NoTup H' x := by
  cases h with
  | non => exact .non
  | bl b => exact .bl b
  | int z => exact .int z
  | str z => exact .str z
  | lst e => exact .lst (s _ _ e)
  | dK e => exact .dK (s _ _ e)
/-- an int, or a value of another kind -/
def IntOdd (H : Hp) (x : V) : Prop := (∃ n : Int, x = .int n) ∨ Odd H x
theorem IntOdd.same {H H' : Hp} {x : V} (h : IntOdd H x) (s : Same H H') : IntOdd H' x := by
  rcases h with h | h
  · exact .inl h
  · exact .inr (h.same s)
def digI (n : Int) : Bool := decide (-9 ≤ n) && decide (n ≤ 9)
/-- a digit -/
def digB : V → Bool
  | .int n => digI n
  | _ => false
theorem digB_odd {H : Hp} {x : V} (h : Odd H x) : digB x = false := by cases h <;> rfl
theorem digs_ints : ∀ {xs : List V}, xs.all digB = true → ∃ is : List Int, xs = is.map V.int ∧ ∀ i ∈ is, -9 ≤ i ∧ i ≤ 9
  | [], _ => ⟨[], rfl, fun i h => by cases h⟩
  | x :: xs, h => by
    rw [List.all_cons, Bool.and_eq_true] at h
    obtain ⟨is, e, k⟩ := digs_ints h.2
    cases x with
    | int n =>
      have h1 : digI n = true := h.1
      unfold digI at h1
      rw [Bool.and_eq_true, decide_eq_true_eq, decide_eq_true_eq] at h1
      refine ⟨n :: is, by rw [e]; rfl, fun i hi => ?_⟩
      rcases List.mem_cons.mp hi with hi | hi
      · rw [hi]; exact h1
      · exact k i hi
    | non => exact absurd h.1 Bool.false_ne_true
    | bl b => exact absurd h.1 Bool.false_ne_true
    | str z => exact absurd h.1 Bool.false_ne_true
    | byt z => exact absurd h.1 Bool.false_ne_true
    | flt z => exact absurd h.1 Bool.false_ne_true
    | ref a => exact absurd h.1 Bool.false_ne_true
    | ty n => exact absurd h.1 Bool.false_ne_true
theorem ints_digs {is : List Int} (h : ∀ i ∈ is, -9 ≤ i ∧ i ≤ 9) : (is.map V.int).all digB = true := by
  rw [List.all_map]
  refine List.all_eq_true.mpr fun i hi => ?_
  obtain ⟨h1, h2⟩ := h i hi
  show digI i = true
  unfold digI
  rw [decide_eq_true h1, decide_eq_true h2]
  rfl
/-- the text of a digit -/
def strI (i : Int) : Str := Str.ofString (toString i)
theorem strI_ok {i : Int} (h : -9 ≤ i ∧ i ≤ 9) : TOk 2 (strI i) ∧ 1 ≤ (strI i).length := by
  obtain ⟨h1, h2⟩ := h
  have e : i = (-9 : Int) + (((i + 9).toNat : Nat) : Int) := by omega
  have := digit_texts (i + 9).toNat (by omega)
  rw [← e] at this
  exact this
theorem digV_all : ∀ k : Nat, k < 19 → digV (Str.ofString (toString ((-9 : Int) + (k : Int)))) = some (V.int ((-9 : Int) + (k : Int))) ∧ (32 : Nat) ∉ tl (Str.ofString (toString ((-9 : Int) + (k : Int)))) ∧ Str.ofString (toString ((-9 : Int) + (k : Int))) ≠ Str.ofString "." ∧ (46 : Nat) ∉ tl (Str.ofString (toString ((-9 : Int) + (k : Int)))) := by decide +kernel
theorem digV_of {i : Int} (h : -9 ≤ i ∧ i ≤ 9) : digV (strI i) = some (V.int i) ∧ (32 : Nat) ∉ tl (strI i) ∧ (46 : Nat) ∉ tl (strI i) := by
  obtain ⟨h1, h2⟩ := h
  have e : i = (-9 : Int) + (((i + 9).toNat : Nat) : Int) := by omega
  obtain ⟨k1, k2, _, k4⟩ := digV_all (i + 9).toNat (by omega)
  rw [← e] at k1 k2 k4
  exact ⟨k1, k2, k4⟩
/-- the text of a row -/
def textOf (is : List Int) : Str := if is = [] then Str.ofString "." else Txt.join (Str.ofString " ") (is.map strI)
theorem textOf_ok {is : List Int} (h : ∀ i ∈ is, -9 ≤ i ∧ i ≤ 9) (hl : is.length ≤ 200) : TOk 600 (textOf is) := by
  unfold textOf
  split
  · decide +kernel
  · refine (TOk.join blankOk (n := 2) fun p hp => ?_).mono ?_
    · obtain ⟨i, hi, rfl⟩ := List.mem_map.mp hp
      exact (strI_ok (h i hi)).1
    · rw [List.length_map]
      omega
where blankOk : TOk 1 (Str.ofString " ") := by decide +kernel
theorem not_dot {is : List Int} (h : ∀ i ∈ is, -9 ≤ i ∧ i ≤ 9) (hn : is ≠ []) : Txt.join (Str.ofString " ") (is.map strI) ≠ Str.ofString "." := fun e => by
  cases is with
  | nil => exact hn rfl
  | cons i r =>
    have hp : strI i ∈ (i :: r).map strI := List.mem_map.mpr ⟨i, List.mem_cons_self .., rfl⟩
    have hi := h i (List.mem_cons_self ..)
    have h2 := (in_join (S := tl (Str.ofString " ")) (ps := ((i :: r).map strI).map tl) (List.mem_map.mpr ⟨_, hp, rfl⟩)).2
    have e2 := congrArg tl e
    rw [TL.join_eq, tl_join] at e2
    rw [e2] at h2
    have hpos := (strI_ok hi).2
    rw [len_tl] at hpos
    cases hs : tl (strI i) with
    | nil => rw [hs] at hpos; exact absurd hpos (by decide)
    | cons c cs =>
      have hc := h2 c (by rw [hs]; exact List.mem_cons_self ..)
      have : c = 46 := by
        have e3 : tl (Str.ofString ".") = [46] := by decide +kernel
        rw [e3] at hc
        exact List.mem_singleton.mp hc
      exact (digV_of hi).2.2 (by rw [hs, this]; exact List.mem_cons_self ..)
/-- a row's text is read as the row -/
theorem read_text {is : List Int} (h : ∀ i ∈ is, -9 ≤ i ∧ i ≤ 9) : readV (textOf is) = some (is.map V.int) := by
  unfold textOf
  by_cases hn : is = []
  · rw [if_pos hn, hn]
    exact read_dot
  · rw [if_neg hn]
    unfold readV
    rw [if_neg (not_dot h hn)]
    have e : Txt.split (Txt.join (Str.ofString " ") (is.map strI)) (Str.ofString " ") = is.map strI := by
      refine TL.split_join (s := 32) (S := []) (by decide +kernel) (by decide +kernel) (fun z => hn (List.map_eq_nil_iff.mp z)) fun p hp => ?_
      obtain ⟨i, hi, rfl⟩ := List.mem_map.mp hp
      exact (digV_of (h i hi)).2.1
    rw [e]
    unfold rowOf
    rw [if_pos]
    · rw [List.map_map]
      congr 1
      refine List.map_congr_left fun i hi => ?_
      show (digV (strI i)).getD .non = V.int i
      rw [(digV_of (h i hi)).1]
      rfl
    · rw [List.all_map]
      refine List.all_eq_true.mpr fun i hi => ?_
      show (digV (strI i)).isSome = true
      rw [(digV_of (h i hi)).1]
      rfl
end OF
/-! Defs that are promised only where no repr is under way, the law among them; repr of lists. -/
namespace OF
open PySem PySem.Spec PyProof.Rows L2

/-! ### promises where no repr is under way -/
structure FnG (P : Program) (w : World) (K : PySem.W.Frag) (mg : Str → Option Value) (base : Heap) (n : Nat) (f : Addr) (fd : FuncData) (ps : List Str) (sp : Sp) : Prop where
  len : ∀ vs H Q E, sp vs H Q E → vs.length = ps.length
  go : ∀ (A : Around) (fr : List Env) (s : Shared) (H : Hp) (ar : Args) (us : List Value) (vs : List V) (Q : VK) (E : XK), A.guards = some [] → Room n A → Env0 P w K mg base A fr s H → BindsTo s fd ar (ps.zip us) → Vals vs us → sp vs H Q E →
    codeAny (model P w) A (.call (.ref f) ar) (CR CX0 fr P w H s Q E) s
section
variable {P : Program} {w : World} {K : PySem.W.Frag} {mg : Str → Option Value} {base : Heap}
theorem guards_in {A : Around} {e : Env} (h : A.guards = some []) : (A.deeper e).guards = some [] := by
  first | exact h | simpa [Around.deeper] using h
theorem okG {x q : Str} {st : Stmt} {f : Addr} {fd : FuncData} {N ps : List Str} {n : Nat} {sp : Sp} (F : Fun K x q st f fd) (S : FnScope N ps (defScope st)) (len : ∀ vs H Q E, sp vs H Q E → vs.length = ps.length)
    (body : ∀ (cv : Value) (A : Around) (fr : List Env) (s : Shared) (H : Hp) (vs : List V) (Q : VK) (E : XK), (A.deeper (envOfC q (defScope st) s.heap.objs.size f cv)).guards = some [] → Room n (A.deeper (envOfC q (defScope st) s.heap.objs.size f cv)) → sp vs H Q E →
      ∃ t, PSs (cxOf CX0 P w K mg base N q (defScope st) f cv A fr s H E).nox (defBody st) t ∧ t { nx := fun _ H' => Q .non H', rt := Q } (start N vs) H) : FnG P w K mg base (n + 1) f fd ps sp := by
  obtain ⟨_, _, kV, dc, pm, an, cv, ct, _, e, lk, cc⟩ := F.ex
  subst e
  constructor
  · exact len
  · intro A fr s H ar us vs Q E gu room e0 bn rel hsp
    have keep := fun b o z => (e0.bs b o z).1
    have inHeap := e0.mod.kin.keeps keep
    have noLim := e0.mod.nolimit.keeps keep
    apply codeAny_call_function room.depth (inHeap _ _ lk) rfl S.co S.gen rfl (PySem.W.codeRec_of inHeap cc)
    apply bn
    apply wpAny_newFunctionEnv_cells S.kind
    · rintro ⟨y, v⟩ hy
      rcases S.par y (List.of_mem_zip hy).1 with p | p
      · exact Or.inl p
      · exact Or.inr ⟨p, PySem.W.cellsFrom_some _ _ _ (Or.inl p)⟩
    · intro env he s1 inc
      subst he
      constructor
      · exact noLim.keeps inc.toInCall.keep
      · apply codeAny_func
        obtain ⟨t, pss, rd⟩ := body cv A fr s H vs Q E (guards_in gu) (room.deeper _) hsp
        have inv := inv_start (CX := CX0) (P := P) (w := w) (E := E) S room.hd e0 (len _ _ _ _ hsp) rel inc
        apply wpAny_mono (pss.nox.run [] s1 (start N vs) H _ inv rd) (hE := fun _ _ z => z)
        intro fl s2 z
        cases fl with
        | ret u => obtain ⟨v, _, H2, J, rv, qv⟩ := z; exact ⟨v, H2, J.os, J.bare, J.base, J.hok, rv, qv⟩
        | next => obtain ⟨_, H2, J, qv⟩ := z; exact ⟨V.non, H2, J.os, J.bare, J.base, J.hok, rfl, qv⟩
        | brk => obtain ⟨_, _, _, no⟩ := z; cases no
        | cont => obtain ⟨_, _, _, no⟩ := z; cases no
end
section
variable {X : Cx} {n : Nat} {f : Addr} {fd : FuncData} {ps : List Str} {sp : Sp} {E : XK} {x : Str} {p pos : Pos} {e : Expr} {es : List Expr} {t : TA}
theorem pe_callG (F : FnG X.prog X.w X.K X.mg X.base n f fd ps sp) (gu : X.A.guards = some []) (room : Room n X.A) (hg : Gl X x) (hm : X.mg x = some (.ref f)) (kp : PySem.W.keepIn X.K (.ref f) = true) (hb : Binds X.K fd ps []) (hx : Passes CX0 X E) (ha : PA X (e :: es) t)
    (hdb : (x == ("__debug__" : Str)) = false := by decide) (he : starEach (e :: es) X.env = (false, eval e X.env) :: starEach es X.env := by rfl) (hpl : (backTo pos (starEach es X.env)).any (·.1) = false := by rfl) :
    PE X (.Call (.Name x p) (e :: es) [] pos) (tCall sp [] E t) := by
  constructor
  intro pins s σ H Q I h
  refine wpAny_Call_Name_kw (ld_glob I hg hm ?_ hdb)
  refine PySem.W.callWith_K (h₀ := X.base) I.ok.mod.kin kp (thn (ha.run pos pins s σ H _ I h) ?_) he hpl
  rintro us s1 ⟨vs, H1, I1, r1, q⟩
  refine ⟨I1.kIn, ?_⟩
  rw [List.append_nil] at q
  have bn := hb s1 us I1.kIn (by rw [List.append_nil, ← r1.length]; exact F.len _ _ _ _ q)
  rw [List.append_nil] at bn
  apply wpAny_call
  apply codeAny_mono (F.go X.A X.stack s1 H1 ⟨us, []⟩ us vs Q E gu room I1.env0 bn r1 q)
  intro r s2 z
  cases r with
  | error er => exact hx pins σ H1 s1 er s2 I1 z
  | ok fl =>
    cases fl with
    | ret u => exact I1.after z
    | next => cases z
    | brk => cases z
    | cont => cases z
end
end OF
namespace OF
open PySem PySem.Spec PyProof.Rows L2
section
variable {P : Program} {w : World} {K : PySem.W.Frag} {mg mb : Str → Option Value}
/-- namespaces stand in what is left where a list alone is hidden -/
theorem ns_left {h : Heap} {H : Hp} {a b : Addr} {xs : Array Value} {m : Str → Option Value} (ha : h.get? a = some { cls := .type "list", data := .seq xs }) (near : ∀ c, H c ≠ none → c = a) (z : h.Ns b m) : (hidT h H).Ns b m := by
  obtain ⟨o, es, ep, eo, ed, rest⟩ := z
  have free : H b = none := Classical.byContradiction fun no => by
    have := near b no
    subst this
    rw [eo] at ha
    have e2 := Option.some.inj ha
    subst e2
    cases ed
  exact ⟨o, es, ep, hidT_get eo free, ed, rest⟩
/-- what is tracked at the law's start -/
theorem script_heap {h : Heap} {a : Addr} {vs : List Value} {ns : List Int} (KX : K.In h) (ha : h.get? a = some { cls := .type "list", data := .seq vs.toArray }) (hi : IntsAre vs ns) (hl : ns.length ≤ sizeLine) :
    ∃ H : Hp, Only H ∧ SqL K H a (ns.map V.int) ∧ HOk P w H h ∧ (∀ c, H c ≠ none → c = a) ∧ (H a ≠ none → K.lookup a = none) := by
  have rel := vals_ints hi
  have n1 : vs.length = ns.length := hi.length
  cases known : K.lookup a with
  | some o =>
    have same := KX a o known
    rw [ha] at same
    have := Option.some.inj same
    subst this
    refine ⟨fun _ => none, fun c => Or.inl rfl, ?_, ?_, fun c z => absurd rfl z, fun z => absurd rfl z⟩
    case refine_2 =>
      intro c o z
      have z2 : (none : Option HO) = some o := z
      cases z2
    right
    refine ⟨_, vs.toArray, _, known, rfl, rfl, rfl, ?_, ?_⟩
    · rw [List.size_toArray, n1]; exact hl
    · rw [List.toList_toArray]; exact rel
  | none =>
    refine ⟨fun c => if c = a then some (.frz { cls := .type "list", data := .seq vs.toArray } (.lst (ns.map V.int))) else none, ?_, ?_, ?_, ?_, fun _ => rfl⟩
    · intro c
      by_cases z : c = a
      · right; exact ⟨_, _, if_pos z⟩
      · left; exact if_neg z
    · left; right; exact ⟨_, if_pos rfl⟩
    · intro c o z
      by_cases y : c = a
      · subst y
        have := (if_pos rfl).symm.trans z
        cases this
        refine ⟨ha, ?_, vs, _, rel, ha⟩
        rw [List.length_map]; exact hl
      · have := (if_neg y).symm.trans z
        cases this
    · intro c z
      exact Classical.byContradiction fun y => z (if_neg y)
theorem law_callG {n : Nat} {fa a : Addr} {fd : FuncData} {x : Str} {sp : Sp} {s : Shared} {vs : List Value} {ns : List Int} (KX : K.In s.heap) (hg : s.heap.Ns mainGlobals mg) (hb : s.heap.Ns builtinsNs mb) (hbb : ∀ y : Str, y ≠ "__name__" → mb y = bootBuiltins y)
    (hlim : s.heap.NoLimit) (he : s.gens = #[]) (ha : s.heap.get? a = some { cls := .type "list", data := .seq vs.toArray }) (hi : IntsAre vs ns) (hl : ns.length ≤ sizeLine) (room : Room n callerA)
    (F : ∀ base : Heap, K.In base → base.Ns mainGlobals mg → FnG P w K mg base n fa fd [x] sp) (bind : ∀ (s : Shared) (u : Value), BindsTo s fd ⟨[u], []⟩ [(x, u)])
    (hsp : ∀ H : Hp, SqL K H a (ns.map V.int) → sp [.ref a] H (fun v _ => v = .bl true) fun _ _ _ => False) :
    codeAny (model P w) callerA (.call (.ref fa) ⟨[.ref a], []⟩) (fun r s' => r = .ok (.ret (.bool true)) ∧ OldK s.heap s'.heap ∧ s'.os = s.os ∧ AllBare s'.gens) s := by
  obtain ⟨H, only, seq, hok, near, out⟩ := script_heap (P := P) (w := w) KX ha hi hl
  have KB : K.In (hidT s.heap H) := by
    intro c o z
    refine hidT_get (KX c o z) (Classical.byContradiction fun no => ?_)
    have := near c no
    subst this
    rw [out no] at z
    cases z
  have lim : (hidT s.heap H).NoLimit := by
    obtain ⟨mc, h1, h2⟩ := hlim
    exact ⟨mc, ns_left ha near h1, h2⟩
  have M : Mod K mg (hidT s.heap H) := { kin := KB, glob := ns_left ha near hg, blt := ⟨mb, ns_left ha near hb, hbb⟩, nolimit := lim }
  have E0 : Env0 P w K mg (hidT s.heap H) callerA [] s H := {
    frames := rfl, mod := M, bs := fun c o z => of_hidT z, bsz := Nat.le_of_eq (hidT_size _ _), funs := trivial
    frf := fun c z => (by cases z), hok := hok, bare := AllBare.of_eq he }
  have main := (F _ KB (ns_left ha near hg)).go callerA [] s H ⟨[.ref a], []⟩ [.ref a] [.ref a] _ _ rfl room E0 (bind s (.ref a)) (.cons rfl .nil) (hsp H seq)
  apply codeAny_mono main
  intro r s' z
  cases r with
  | error er => cases z
  | ok fl =>
    cases fl with
    | next => cases z
    | brk => cases z
    | cont => cases z
    | ret u =>
      obtain ⟨v, H', sameOs, bare, un, hok', rv, ev⟩ := z
      have ev2 : v = .bl true := ev
      subst ev2
      have eu : u = Value.bool true := rv
      subst eu
      refine ⟨rfl, OldK.of_keep ?_, sameOs, bare⟩
      intro c o z
      rcases only c with fr | ⟨o2, xs, fr⟩
      · apply un.keep c o z fr
        · intro y; cases y
        · intro y; cases y
      · have fr2 := un.frzs c o2 _ fr
        have g1 := (hok c _ fr).1
        have g2 := (hok' c _ fr2).1
        rw [z] at g1
        rw [g2, ← Option.some.inj g1]
theorem walkG {l : PySem.W.OpenLaw} {m n : Nat} {q : Program} {loose : List Str} {XP : (Str → Option Value) → Heap → Prop} {YP : World → Heap → Prop} {d : DefRec} {K : Params → PySem.W.Frag} {sp : World → Sp} {x : Str}
    (hm : l.most = some m) (hm2 : m ≤ sizeLine) (hdf : d.params.defaults = []) (room : Room n callerA) (hY : ∀ (w : World) (h : Heap), YP w h → (K w.params).In h)
    (F : ∀ (w : World) (mg : Str → Option Value) (fa : Addr) (h : Heap), (K w.params).In h → h.Ns mainGlobals mg → mg d.name = some (.ref fa) →
      ∃ fd : FuncData, (∀ (s : Shared) (u : Value), BindsTo s fd ⟨[u], []⟩ [(x, u)]) ∧ ∀ base : Heap, (K w.params).In base → base.Ns mainGlobals mg → FnG l.prog w (K w.params) mg base n fa fd [x] (sp w))
    (hsp : ∀ (w : World) (H : Hp) (a : Addr) (ns : List Int), ns.length ≤ m → SqL (K w.params) H a (ns.map V.int) → sp w [.ref a] H (fun v _ => v = .bl true) fun _ _ _ => False) :
    PySem.W.WalkO q loose XP YP l.row.toRowW d [] (fun f vs => PySem.call f vs) := by
  apply Att.attach_call hm hdf
  intro w s₀ s₁ mg mb fa o pm cd doc a vs ns G Y ho hd hcd hmg hobj hints hlen hg
  obtain ⟨fd, bind, FF⟩ := F w mg fa _ (hY w _ Y) G.T.g hmg
  exact law_callG (hY w _ Y) G.T.g G.T.b G.T.builtins G.T.nolimit hg hobj hints (Nat.le_trans hlen hm2) room FF bind fun H => hsp w H a ns hlen
end
end OF
/-! What repr shows: plain values, tuples and lists of such, dicts of ints; repr of a list of these. -/
namespace OF
open PySem PySem.Spec PyProof.Rows L2
section
variable {X : Cx} {H : Hp}
/-- v reads as d and is shown so, wherever the heap is tracked by H -/
def Rp (X : Cx) (H : Hp) (v : V) (d : PyData) : Prop := ∀ (pins : List (Addr × Obj)) (σ : L2.St) (s : Shared) (u : Value), Inv X pins σ H s → RelV v u →
  (∃ as, Reads s.heap u d as) ∧ ∃ bs, ReadAtMost s.heap d.depth bs ∧ ReprK X.prog X.w bs s.heap d.depth u d.shown
inductive RpAll (X : Cx) (H : Hp) : List V → List PyData → Prop
  | nil : RpAll X H [] []
  | cons {v : V} {d : PyData} {vs : List V} {ds : List PyData} : Rp X H v d → RpAll X H vs ds → RpAll X H (v :: vs) (d :: ds)
theorem RpAll.reads {vs : List V} {ds : List PyData} (h : RpAll X H vs ds) : ∀ {pins : List (Addr × Obj)} {σ : L2.St} {s : Shared} {us : List Value}, Inv X pins σ H s → Vals vs us →
    (∃ as, ReadsAll s.heap us ds as) ∧ ∃ bs, ReadAtMost s.heap (PyData.depthAll ds) bs ∧ ReprAllK X.prog X.w bs s.heap (PyData.depthAll ds) us (PyData.shownAll ds) := by
  induction h with
  | nil =>
    intro pins σ s us I r
    cases r
    refine ⟨⟨[], .nil⟩, [], ?_, ?_⟩
    · intro c z
      cases z
    · simp only [PyData.shownAll]
      exact .nil
  | cons h1 _ ih =>
    intro pins σ s us I r
    cases r with
    | cons r1 r2 =>
      obtain ⟨⟨as, q1⟩, b1, m1, k1⟩ := h1 pins σ s _ I r1
      obtain ⟨⟨cs, q2⟩, b2, m2, k2⟩ := ih I r2
      simp only [PyData.depthAll, PyData.shownAll]
      refine ⟨⟨as ++ cs, .cons q1 q2⟩, b1 ++ b2, (m1.mono (Nat.le_max_left _ _)).append (m2.mono (Nat.le_max_right _ _)), .cons ?_ ?_⟩
      · exact (k1.more fun c z => List.mem_append_left _ z).level_le (Nat.le_max_left _ _)
      · exact k2.more_le (fun c z => List.mem_append_right _ z) (Nat.le_max_right _ _)
/-- what the library reads -/
theorem Rp.dp {v : V} {d : PyData} (h : Dp X.K H v d) (hs : d.showable = true) (hn : d.hasDict = false) (hz : d.shown.length ≤ sizeLine) : Rp X H v d := fun pins σ s u I r => by
  obtain ⟨as, q⟩ := Dp.reads I d v u h r
  exact ⟨⟨as, q⟩, ReprK.of_reads q hs (PyData.noDict_hsm hn) hz⟩
theorem Rp.tup {a : Addr} {xs : List V} {ds : List PyData} (h : SqT X.K H a xs) (ha : RpAll X H xs ds) : Rp X H (.ref a) (.tuple ds) := fun pins σ s u I r => by
  cases r
  obtain ⟨its, rv, ⟨o, ho, hc, n, hd⟩, _⟩ := I.tuple h
  obtain ⟨⟨as, q⟩, bs, m, k⟩ := ha.reads I rv
  have R : Reads s.heap (.ref a) (.tuple ds) as := .tuple ho hc hd q
  have out : a ∉ bs := not_mem_of_deeper R (by simp only [PyData.depth]; omega) m
  refine ⟨⟨as, R⟩, a :: bs, ReadAtMost.cons R (by simp only [PyData.depth]; omega) m, ?_⟩
  simp only [PyData.depth, PyData.shown]
  exact ReprK.tuple ho hc hd out k
def keyD : Key → PyData
  | .inl i => .int i
  | .inr z => .str z
theorem pairs_read {P : Program} {w : World} {h : Heap} : ∀ (kvs : List (Key × Int)) (vs : List (Key × Value)) (es : List DictEntry), KV (kvs.map fun p => (p.1, V.int p.2)) vs → Pairs (mixKind P w) es vs →
    ReadsAll h (es.map (·.key)) ((kvs.map fun p => (keyD p.1, PyData.int p.2)).map (·.1)) [] ∧ ReadsAll h (es.map (·.val)) ((kvs.map fun p => (keyD p.1, PyData.int p.2)).map (·.2)) []
  | [], _, _, r, q => by
    cases r
    cases q
    exact ⟨.nil, .nil⟩
  | p :: kvs, _, _, r, q => by
    cases r with
    | cons r1 r2 =>
      cases q with
      | @cons en _ _ _ k1 v1 q2 =>
        obtain ⟨h1, h2⟩ := pairs_read (h := h) kvs _ _ r2 q2
        obtain ⟨e1, t, e2⟩ := r1
        constructor
        · refine ReadsAll.cons (as := []) (bs := []) ?_ h1
          rw [← e1] at k1
          rcases keyIs_shape k1 with ⟨i, t, x1, x2⟩ | ⟨z, t, x1, x2⟩
          · show Reads h en.key (keyD p.1) []
            rw [x2, show p.1 = Sum.inl i from x1]
            exact .int i t
          · show Reads h en.key (keyD p.1) []
            rw [x2, show p.1 = Sum.inr z from x1]
            exact .str z t
        · refine ReadsAll.cons (as := []) (bs := []) ?_ h2
          show Reads h en.val (.int p.2) []
          rw [v1, e2]
          exact .int _ _
theorem Rp.dct {a : Addr} {kvs : List (Key × Int)} (h : H a = some (.dK (kvs.map fun p => (p.1, V.int p.2)))) (hs : (PyData.dict (kvs.map fun p => (keyD p.1, PyData.int p.2))).showable = true) (hz : (PyData.dict (kvs.map fun p => (keyD p.1, PyData.int p.2))).shown.length ≤ sizeLine) :
    Rp X H (.ref a) (.dict (kvs.map fun p => (keyD p.1, .int p.2))) := fun pins σ s u I r => by
  cases r
  obtain ⟨_, hm, vs, rel, o, es, ep, ho, hx, hd, _, hp, _⟩ := dk_of I.hok h
  obtain ⟨h1, h2⟩ := pairs_read (h := s.heap) kvs vs es.toList rel hp
  have R : Reads s.heap (.ref a) (.dict (kvs.map fun p => (keyD p.1, .int p.2))) (a :: [] ++ []) := .dict ho hx.1 hd h1 h2
  refine ⟨⟨_, R⟩, ReprK.of_reads R hs (fun _ z => ?_) hz⟩
  have z2 : sysModules ∈ [a] := z
  rw [List.mem_singleton] at z2
  rw [← z2] at hm
  exact absurd hm (by decide)
/-- repr of a list -/
def rRepr (X : Cx) : List V → Hp → VK → Prop := fun xs H Q => ∃ (a : Addr) (ys : List V) (ds : List PyData), xs = [.ref a] ∧ SqL X.K H a ys ∧ RpAll X H ys ds ∧ PyData.depthAll ds ≤ 40 ∧ (PyData.list ds).shown.length ≤ sizeLine ∧ Q (.str (PyData.list ds).shown) H
theorem call_reprL (gu : X.A.guards = some []) (hu : X.A.units + 64 < cLine) : CallR X (.builtin "repr") (rRepr X) := by
  intro pins s σ H xs us Q I r h
  obtain ⟨a, ys, ds, rfl, hl, hd, dep, hz, q⟩ := h
  obtain ⟨u, rfl, ru⟩ := vals1 r
  cases ru
  obtain ⟨its, rv, ⟨o, n, ho, hc, _, hdat⟩, _⟩ := I.list hl
  obtain ⟨⟨as, rd⟩, bs, m, k⟩ := hd.reads I rv
  have R : Reads s.heap (.ref a) (.list ds) (a :: as) := .list ho hc hdat rd
  have out : a ∉ bs := not_mem_of_deeper R (by simp only [PyData.depth]; omega) m
  refine call_repr_slot (by omega) ⟨o, ho, hc⟩ F.slot_list_repr.toG ?_
  have fin : ∀ (h' : Heap) (t tk : Nat), (∀ c o, s.heap.get? c = some o → h'.get? c = some o) → ∃ x u, Value.str (PyData.list ds).shown t = Value.str x u ∧ EP X pins σ Q (Value.str (PyData.list ds).shown t) { s with heap := h', toks := tk } := fun h' t tk kp =>
    ⟨_, _, rfl, .str _, H, I.kept kp, ⟨_, rfl⟩, q⟩
  simp only [PyData.shown] at fin hz
  cases its with
  | nil =>
    cases rd
    simp only [PyData.shownAll, listText_nil] at fin
    exact call_list_repr_empty ⟨o, ho, hc⟩ ho hdat (fin s.heap _ _ fun _ _ z => z)
  | cons x l =>
    exact call_list_reprK (s := s) ho hc hdat out (by simpa using k.length_eq) (fun i y z => k.item i y (by simpa using z)) gu (fun b _ => Clear.nil b) (show X.A.units + 1 + (PyData.depthAll ds + 1) < cLine by omega) (fun _ _ z => z) fin hz
end
end OF
set_option maxHeartbeats 4000000
/-! Errors of the program's own classes as values: made by position and by names. -/
namespace OF
open PySem PySem.Spec PyProof.Rows L2 PySem.HandSPX
section
variable {prog : Program} {w : World} {A : Around} {E : Value → Shared → Prop} {h : Heap} {g : Array GenState} {d : Drawn} {t : Nat} {os : OsState} {nm q : Str} {C N : Addr} {bs bm bmB : List Value} {hdct ab : Bool} {sn : List Str} {sub rest : List Value} {col : Option Bool} {dd : Option Addr}
  {k0 k1 k2 k3 k5 : Option Value} {B newId initId : String} {kw : List (Str × Value)}
theorem kw_new_ok {M : Model} {Q : Unit → Shared → Prop} (F : ExcBaseFacts B newId initId bmB) (same : ∀ T : String, bm.contains (.type T) = bmB.contains (.type T)) (hC : h.get? C = some (excClassObj nm q C N bs bm hdct sn sub ab col dd k0 k1 k2 k3 k5 newId))
    (fin : Q () ⟨h, g, d, t, os⟩) : wpAny M A (checkBuiltinCall newId ⟨.ref C :: rest, kw⟩) Q E ⟨h, g, d, t, os⟩ := by
  have below : (Value.ref C :: bm).contains (.type B) = true := by
    rw [List.contains_cons, same, F.hasB]
    exact Bool.or_true _
  have short := F.noStar
  simp only [checkBuiltinCall, F.newSplit, F.newKind, F.newRow]
  repeat first
    | refine wpAny_loadPart_at hC ?_
    | (refine wpAny_isSubtype_exc hC ?_; rw [below])
    | refine wpAny_staticBase_exc hC ?_
    | refine wpAny_madeBy_exc hC ?_
    | simp only [Bool.false_eq_true, bne_self_eq_false, if_false]
    | wp_step
  exact fin

theorem kw_new_run {R : Result → Shared → Prop} (F : ExcBaseFacts B newId initId bmB) (same : ∀ T : String, bm.contains (.type T) = bmB.contains (.type T)) (hC : h.get? C = some (excClassObj nm q C N bs bm hdct sn sub ab col dd k0 k1 k2 k3 k5 newId)) (small : rest.length ≤ sizeLine)
    (fin : R (.ok (.ret (.ref (h.objs.size + 1)))) ⟨(h.push (PySem.W.kdv_tup rest)).push (excO C h.objs.size), g, d, t, os⟩) : codeAny (model prog w) A (.builtin newId ⟨.ref C :: rest, kw⟩) R ⟨h, g, d, t, os⟩ := by
  have ends := F.ends
  have inB : (Value.ref C :: bm).contains (.type B) = true := by
    rw [List.contains_cons, same, F.hasB]
    exact Bool.or_true _
  have outA : (Value.ref C :: bm).contains (.type "AttributeError") = false := by
    rw [List.contains_cons, same, F.noAttr] <;> rfl
  have outN : (Value.ref C :: bm).contains (.type "NameError") = false := by
    rw [List.contains_cons, same, F.noName] <;> rfl
  apply codeAny_builtinAt F.entry
  unfold Builtin.«BaseException.__new__»
  apply PySem.wpAt_bind
  show PySem.wpAt _ _ _ (stack >>= _) _ _ _
  apply PySem.wpAt_bind
  apply PySem.wpAt_stack
  intro p rest'
  apply PySem.wpAt_of_wpAny
  wp_walk
  apply PySem.wpAt_of_wpAny
  rw [F.owner]
  repeat first
    | with_reducible refine wpAny_madeHere_exc F.canon hC ?_
    | with_reducible refine wpAny_loadPart_at hC ?_
    | (with_reducible refine wpAny_isSubtype_exc hC ?_
       first | rw [inB] | rw [outA] | rw [outN])
    | wp_step
  show R _ _
  rw [Heap.size_push]
  exact fin
theorem kw_call_run {fI : Addr} {Q : Fin → Shared → Prop} (F : ExcBaseFacts B newId initId bmB) (same : ∀ T : String, bm.contains (.type T) = bmB.contains (.type T)) (hC : h.get? C = some (excClassObj nm q C N bs bm hdct sn sub ab col dd k0 k1 k2 k3 k5 newId)) (small : rest.length ≤ sizeLine)
    (li : PySem.W.Looks (model prog w) h (typeLookup (.ref C) "__init__") (some (.ref fI))) (lb : ∀ v, PySem.W.Looks (model prog w) h (bindSpecial (.ref fI) v) (.ref fI, [v]))
    (fin : codeAny (model prog w) A (.call (.ref fI) ⟨.ref (h.objs.size + 1) :: rest, kw⟩) (fun r s' => match r with | .ok (.ret v) => v = .none ∧ Q (.done (.ret (.ref (h.objs.size + 1)))) s' | .ok _ => False | .error e => E e s')
      ⟨(h.push (PySem.W.kdv_tup rest)).push (excO C h.objs.size), g, d, t, os⟩) : wpAny (model prog w) A (Builtin.«type.__call__» ⟨.ref C :: rest, kw⟩) Q E ⟨h, g, d, t, os⟩ := by
  repeat first
    | with_reducible refine wpAny_loadPart_at hC ?_
    | with_reducible refine wpAny_madeBy_exc hC ?_
    | wp_step
  apply codeAny_call_builtin_code (Code.quiet_builtin _ F.quiet) (kw_new_ok F same hC _)
  apply kw_new_run F same hC small
  show wpAny _ _ _ _ _ _
  have keep : ∀ c o, h.get? c = some o → ((h.push (PySem.W.kdv_tup rest)).push (excO C h.objs.size)).get? c = some o := by
    intro c o z
    exact Heap.get?_push_of_some _ (Heap.get?_push_of_some _ z)
  have hC2 := keep _ _ hC
  have there : ((h.push (PySem.W.kdv_tup rest)).push (excO C h.objs.size)).get? (h.objs.size + 1) = some (excO C h.objs.size) := by heap_get
  have self : (Value.ref C :: bm).contains (.ref C) = true := by simp
  have li2 := li.keeps keep
  have lb2 := (lb (.ref (h.objs.size + 1))).keeps keep
  unfold isInstance
  repeat first
    | with_reducible refine wpAny_loadPart_at there ?_
    | (with_reducible refine wpAny_isSubtype_exc hC2 ?_
       rw [self])
    | wp_step
  show wpAny _ _ (typeLookup (.ref C) _) _ _ _
  apply li2.at
  apply wpAny_holding
  apply wpAny_bind
  apply lb2.at
  apply wpAny_bind
  apply wpAny_call
  apply codeAny_mono fin
  intro r s' z
  cases r with
  | error e => exact z
  | ok fl =>
    cases fl with
    | next => exact z.elim
    | brk => exact z.elim
    | cont => exact z.elim
    | ret v =>
      obtain ⟨ev, z⟩ := z
      subst ev
      first
        | exact wpAny_pure (wpAny_pure z)
        | (wp_walk; exact z)
theorem kw_call {fI : Addr} {R : Result → Shared → Prop} (F : ExcBaseFacts B newId initId bmB) (same : ∀ T : String, bm.contains (.type T) = bmB.contains (.type T)) (hC : h.get? C = some (excClassObj nm q C N bs bm hdct sn sub ab col dd k0 k1 k2 k3 k5 newId)) (small : rest.length ≤ sizeLine)
    (li : PySem.W.Looks (model prog w) h (typeLookup (.ref C) "__init__") (some (.ref fI))) (lb : ∀ v, PySem.W.Looks (model prog w) h (bindSpecial (.ref fI) v) (.ref fI, [v]))
    (fin : codeAny (model prog w) (A.under (.builtin "type.__call__" ⟨.ref C :: rest, kw⟩)) (.call (.ref fI) ⟨.ref (h.objs.size + 1) :: rest, kw⟩) (PySem.W.InitBack (h.objs.size + 1) R)
      ⟨(h.push (PySem.W.kdv_tup rest)).push (excO C h.objs.size), g, d, t, os⟩) : codeAny (model prog w) A (.call (.ref C) ⟨rest, kw⟩) R ⟨h, g, d, t, os⟩ := by
  have f1 := tc_lookup
  have f2 := tc_bind (.ref C)
  have isT : (⟨h, g, d, t, os⟩ : Shared).TypeIs (.ref C) "type" := ⟨_, hC, rfl⟩
  apply codeAny_of_tree
  show wpAny _ _ (callAny (.ref C) _) _ _ _
  repeat any_goals first
    | assumption
    | with_reducible refine wpAny_loadPart_at hC ?_
    | wp_step
  constructor
  · rfl
  have typ : PySem.W.Looks (model prog w) h (isInstance (.ref C) (.type "type")) true := by
    unfold isInstance
    have ty : PySem.W.Looks (model prog w) h (typeOf (.ref C)) (.type "type") := (PySem.W.Looks.ld hC).andThen .now
    exact ty.andThen (PySem.W.Looks.of_pure tc_sub)
  apply codeAny_call_builtin_at (Code.quiet_builtin _ (by decide +kernel)) entry_typeCall
  apply PySem.W.check_slot tc_kind tc_split typ (PySem.W.tc_args _ _ _)
  apply kw_call_run F same hC small li lb
  apply codeAny_mono fin
  intro r s' z
  cases r with
  | error e => exact z
  | ok fl => cases fl <;> exact z
end
end OF
/-! Errors of the program's own classes as values: the rules. -/
namespace OF
open PySem PySem.Spec PyProof.Rows L2
/-- what the maker of an error must do, and what then holds -/
def MadeBy (C : Addr) (sp : Sp) (xs : Addr → List V) (H : Hp) (Q : VK) : Prop := ∀ a, H a = none → sp (xs a) (upd H a (exo a C none)) (fun v H2 => v = .non ∧ Q (.ref a) H2) (fun _ _ _ => False)
def tMadeP (C : Addr) (sp : Sp) (ta : TA) : TE := fun σ H Q => ta σ H fun vs H1 => vs.length ≤ 1000 ∧ MadeBy C sp (fun a => .ref a :: vs) H1 Q
def tMadeN (C : Addr) (m : Nat) (sp : Sp) (gV : List V → List V → List V) (tk : TA) : TE := fun σ H Q => tk σ H fun zs H1 => zs.length = m ∧ MadeBy C sp (fun a => gV [.ref a] zs) H1 Q
section
variable {X : Cx} {CX : CXT} {x : Str} {C fI : Addr} {k n : Nat} {fd : FuncData} {ps ks : List Str} {sp : Sp} {e : Expr} {es : List Expr} {kws : List Keyword} {ta tk : TA} {p pos : Pos} {g : List Value → List Value → List Value} {gV : List V → List V → List V}
theorem run_made {pins : List (Addr × Obj)} {σ : L2.St} {H : Hp} {s : Shared} {us ws : List Value} {vs zs : List V} {Q : VK} (T : OexC X.K C) (iC : PySem.W.findIn X.K (.ref C) "__init__" = some (some (.ref fI))) (tI : PySem.W.typeIn X.K (.ref fI) = some (.type "function"))
    (F1 : FnOk X.prog X.w X.K X.mg X.base CX k fI fd ps sp) (room : Room (k + 1) X.A) (hb : KBn X.K fd ps (n + 1) ks g gV) (hx : Passes CX X (fun _ _ _ => False)) (I : Inv X pins σ H s) (r : Vals vs us) (rz : Vals zs ws) (l1 : vs.length = n) (l2 : zs.length = ks.length) (small : vs.length ≤ 1000)
    (h : MadeBy C sp (fun a => gV (.ref a :: vs) zs) H Q) : wpAny (model X.prog X.w) X.A (call (.ref C) us (ks.zip ws)) (EP X pins σ Q) X.xe s := by
  obtain ⟨nm, q, N, bs, bm, sn, sub, ab, col, dd, k0, k1, k2, k3, k5, hC, hbm⟩ := T.cls
  obtain ⟨hp, gn, dr, t, os⟩ := s
  have le : hp.objs.size ≤ hp.objs.size + 1 := Nat.le_succ _
  have hq := h (hp.objs.size + 1) (I.hok.fresh le)
  have keep : ∀ c o, hp.get? c = some o → ((hp.push (PySem.W.kdv_tup us)).push (PySem.HandSPX.excO C hp.objs.size)).get? c = some o := by
    intro c o z
    exact Heap.get?_push_of_some _ (Heap.get?_push_of_some _ z)
  have there : ((hp.push (PySem.W.kdv_tup us)).push (PySem.HandSPX.excO C hp.objs.size)).get? (hp.objs.size + 1) = some (PySem.HandSPX.excO C hp.objs.size) := by heap_get
  have J : Inv X pins σ (upd H (hp.objs.size + 1) (exo (hp.objs.size + 1) C none)) ⟨(hp.push (PySem.W.kdv_tup us)).push (PySem.HandSPX.excO C hp.objs.size), gn, dr, t, os⟩ :=
    I.laid (t' := t) keep le (exo_ok there)
  have r1 : Vals (V.ref (hp.objs.size + 1) :: vs) (Value.ref (hp.objs.size + 1) :: us) := .cons rfl r
  have n1 : (Value.ref (hp.objs.size + 1) :: us).length = n + 1 := by rw [List.length_cons, ← r.length, l1]
  have n2 : us.length ≤ sizeLine := by
    rw [← r.length, sizeLine_eq]
    omega
  apply wpAny_call
  apply kw_call F.excBase_ValueError (fun Y => PySem.HandSPX.refsVE_contains Y bm hbm) (I.kIn _ _ hC) n2 (PySem.W.looks_findIn I.kIn iC) (fun v => PySem.W.bind_fn I.kIn v tI)
  apply codeAny_mono (F1.run _ X.stack _ _ ⟨Value.ref (hp.objs.size + 1) :: us, ks.zip ws⟩ (g (Value.ref (hp.objs.size + 1) :: us) ws) _ _ (fun _ _ _ => False) (room.make C us (ks.zip ws)) (J.env0.make C us (ks.zip ws))
    (hb.to _ (Value.ref (hp.objs.size + 1) :: us) ws J.kIn n1 (rz.length.symm.trans l2)) (hb.rel r1 rz) hq)
  intro res s' z
  cases res with
  | error er => exact hx pins σ _ _ er s' J z
  | ok fl =>
    cases fl with
    | next => cases z
    | brk => cases z
    | cont => cases z
    | ret u =>
      obtain ⟨v, H', J2, rv, ev, q2⟩ := J.after z
      subst ev
      exact ⟨rv, V.ref (hp.objs.size + 1), H', J2, rfl, q2⟩
/-- positions alone are names of none -/
theorem kb_pos (b : Binds X.K fd ps []) : KBn X.K fd ps ps.length [] (fun us _ => us) (fun vs _ => vs) := by
  constructor
  · intro s us ws KX l1 l2
    have := b s us KX (by rw [List.append_nil]; exact l1)
    rw [List.append_nil] at this
    exact this
  · intro vs us zs ws r _
    exact r
/-- C(e, ..) -/
theorem pe_madeP (T : OexC X.K C) (iC : PySem.W.findIn X.K (.ref C) "__init__" = some (some (.ref fI))) (tI : PySem.W.typeIn X.K (.ref fI) = some (.type "function")) (F1 : FnOk X.prog X.w X.K X.mg X.base CX k fI fd ps sp) (room : Room (k + 1) X.A) (b : Binds X.K fd ps [])
    (hx : Passes CX X (fun _ _ _ => False)) (hg : Gl X x) (hm : X.mg x = some (.ref C)) (ha : PA X (e :: es) ta)
    (hdb : (x == ("__debug__" : Str)) = false := by decide) (he : starEach (e :: es) X.env = (false, eval e X.env) :: starEach es X.env := by rfl) (hpl : (backTo pos (starEach es X.env)).any (·.1) = false := by rfl) :
    PE X (.Call (.Name x p) (e :: es) [] pos) (tMadeP C sp ta) := by
  constructor
  intro pins s σ H Q I h
  refine wpAny_Call_Name_kw (ld_glob I hg hm ?_ hdb)
  refine PySem.W.callWith_K (h₀ := X.base) I.ok.mod.kin T.kC (thn (ha.run pos pins s σ H _ I h) ?_) he hpl
  rintro us s1 ⟨vs, H1, I1, r1, small, q⟩
  refine ⟨I1.kIn, ?_⟩
  have hl : ps.length = vs.length + 1 := by
    have z := F1.len _ _ _ _ (q (s1.heap.objs.size + 1) (I1.hok.fresh (Nat.le_succ _)))
    rw [← z]
    rfl
  have kb := kb_pos (X := X) b
  rw [hl] at kb
  exact run_made (zs := []) (ws := []) T iC tI F1 room kb hx I1 r1 .nil rfl rfl small q
/-- C() -/
theorem pe_made0 (T : OexC X.K C) (iC : PySem.W.findIn X.K (.ref C) "__init__" = some (some (.ref fI))) (tI : PySem.W.typeIn X.K (.ref fI) = some (.type "function")) (F1 : FnOk X.prog X.w X.K X.mg X.base CX k fI fd ["self"] sp) (room : Room (k + 1) X.A) (b : Binds X.K fd ["self"] [])
    (hx : Passes CX X (fun _ _ _ => False)) (hg : Gl X x) (hm : X.mg x = some (.ref C)) (hdb : (x == ("__debug__" : Str)) = false := by decide) :
    PE X (.Call (.Name x p) [] [] pos) (tMadeP C sp tNil) := by
  constructor
  intro pins s σ H Q I h
  refine wpAny_Call_Name_kw (ld_glob I hg hm ?_ hdb)
  exact PySem.W.callWith_K0 I.kIn T.kC (run_made (n := 0) (us := []) (vs := []) (zs := []) (ws := []) T iC tI F1 room (kb_pos (X := X) b) hx I .nil .nil rfl rfl (Nat.zero_le _) h.2)
/-- C(k = e, ..) -/
theorem pe_madeN (T : OexC X.K C) (iC : PySem.W.findIn X.K (.ref C) "__init__" = some (some (.ref fI))) (tI : PySem.W.typeIn X.K (.ref fI) = some (.type "function")) (F1 : FnOk X.prog X.w X.K X.mg X.base CX k fI fd ps sp) (room : Room (k + 1) X.A) (kb : KBn X.K fd ps 1 ks g gV)
    (hx : Passes CX X (fun _ _ _ => False)) (hg : Gl X x) (hm : X.mg x = some (.ref C)) (hkw : PK X kws tk) (hall : (backToKw pos (keywordEach kws X.env)).all (·.1.isSome) = true := by rfl) (hks : (backToKw pos (keywordEach kws X.env)).filterMap (·.1) = ks := by rfl)
    (hdb : (x == ("__debug__" : Str)) = false := by decide) (hpl : ((backTo pos (starEach [] X.env)).any (·.1) || (backToKw pos (keywordEach kws X.env)).any (·.1.isNone)) = false := by rfl) :
    PE X (.Call (.Name x p) [] kws pos) (tMadeN C ks.length sp gV tk) := by
  constructor
  intro pins s σ H Q I h
  refine wpAny_Call_Name_kw (ld_glob I hg hm ?_ hdb)
  refine PySem.W.callWith_KW0 (h₀ := X.base) I.ok.mod.kin T.kC hall (thn (hkw.run pos pins s σ H _ I h) ?_) hpl
  rintro ws s2 ⟨zs, H2, I2, rz, l2, q⟩
  refine ⟨I2.kIn, ?_⟩
  rw [hks]
  exact run_made (n := 0) (us := []) (vs := []) T iC tI F1 room kb hx I2 .nil rz rfl l2 (Nat.zero_le _) q
/-- e.f of such a value -/
def tFldC (K : PySem.W.Frag) (f : Str) (te : TE) : TE := fun σ H Q => te σ H fun x H1 => ∃ (a d C : Addr) (fs : List (Str × V)) (v : V), x = .ref a ∧ XfC K C ∧ PySem.W.findIn K (.ref C) f = some none ∧ H1 a = some (exo a C (some d)) ∧ H1 d = some (exd d fs) ∧ fs.lookup f = some v ∧ Q v H1
theorem pe_fldV {f : Str} {te : TE} (he : PE X e te) (hb : attributeBase e f X.env (eval e X.env) = eval e X.env := by rfl) : PE X (.Attribute e f pos) (tFldC X.K f te) := by
  constructor
  intro pins s σ H Q I h
  refine attr_of hb (thn (he.run pins s σ H _ I h) ?_)
  rintro u s1 ⟨y, H1, I1, ru, a, d, C, fs, v, ey, T, no, ea, ed, l, q⟩
  subst ey
  cases ru
  obtain ⟨t1, ho⟩ := exo_at I1.hok ea
  obtain ⟨mA, hns, rel⟩ := exd_at I1.hok ed
  obtain ⟨od, hod, hl⟩ := lookIn_ns hns
  obtain ⟨u, hu, rv⟩ := RelO.some_of (v := v) (o := mA f) (by rw [← l]; exact rel f)
  have J : PySem.W.InstAt s1.heap a _ C (some od) := ⟨ho, rfl, rfl, hod⟩
  exact PySem.HandSPX.exc_get I1.kIn J T.ga T.gg T.exC (PySem.W.findObj_own T.hdC no rfl (by rw [hl, hu])) (handed_of rv) ⟨v, H1, I1.tok _, rv, q⟩
/-- isinstance(e, C) of such a value -/
def rAskV (K : PySem.W.Frag) : List V → Hp → VK → Prop := fun xs H Q => ∃ (a D : Addr) (d : Option Addr) (c : V) (cv : Value) (b : Bool), xs = [.ref a, c] ∧ AskC K D ∧ H a = some (exo a D d) ∧ (∀ d', d = some d' → ∃ fs, H d' = some (exd d' fs)) ∧ (∀ u, RelV c u → u = cv) ∧ PySem.W.kitOne K (.ref D) cv = some b ∧ Q (.bl b) H
theorem call_askV : CallR X (.builtin "isinstance") (rAskV X.K) := by
  intro pins s σ H xs us Q I r h
  obtain ⟨a, D, d, c, cv, b, rfl, T, ea, ed, hcv, kit, q⟩ := h
  obtain ⟨u1, u2, rfl, r1, r2⟩ := vals2 r
  cases r1
  cases hcv _ r2
  obtain ⟨t1, ho⟩ := exo_at I.hok ea
  have J : ∃ ox od, PySem.W.InstAt s.heap a ox D od := by
    cases d with
    | none => exact ⟨_, none, ho, rfl, rfl, trivial⟩
    | some d' =>
      obtain ⟨fs, e'⟩ := ed d' rfl
      obtain ⟨mA, hns, _⟩ := exd_at I.hok e'
      obtain ⟨od, hod, _⟩ := lookIn_ns hns
      exact ⟨_, some od, ho, rfl, rfl, hod⟩
  obtain ⟨ox, od, J⟩ := J
  exact PySem.W.kia_one (PySem.W.kitx_exc T.cl T.xf.ga T.xf.gg T.xf.exC T.ha T.hn T.ht T.hm) I.kIn J kit (fun z => nomatch z) fun tk => ⟨.bl b, H, I.kept (t' := tk) fun _ _ z => z, rfl, q⟩
end
end OF
/-! The error classes of the program, one promise a kind: one field, two fields, none. -/
namespace OF
open PySem PySem.Spec PyProof.Rows L2
def bmF : List Value := [.type "ValueError", .type "Exception", .type "BaseException", .type "object"]
def bmE (CF : Addr) : List Value := .ref CF :: bmF
/-- what the top says of an error class: C under the name x, its maker st at fI, bm above it -/
structure Kl (K : PySem.W.Frag) (mg : Str → Option Value) (x q : Str) (st : Stmt) (C fI : Addr) (bm : List Value) : Prop where
  g : mg x = some (.ref C)
  cls : ∃ nm q N bs sn sub ab col dd k0 k1 k2 k3 k5, K.lookup C = some (excClassObj nm q C N bs bm true sn sub ab col dd k0 k1 k2 k3 k5 "ValueError.__new__")
  sa : PySem.W.findIn K (.ref C) "__setattr__" = some (some (.builtin "object.__setattr__"))
  kC : PySem.W.keepIn K (.ref C) = true
  iC : PySem.W.findIn K (.ref C) "__init__" = some (some (.ref fI))
  tI : PySem.W.typeIn K (.ref fI) = some (.type "function")
  ga : PySem.W.findIn K (.ref C) "__getattribute__" = some (some (.builtin "BaseException.__getattribute__"))
  gg : PySem.W.findIn K (.ref C) "__getattr__" = some none
  ha : PySem.W.findIn K (.ref C) "__class__" = some (some (.builtin "object.__class__"))
  fn : ∃ fd, Fun K "__init__" q st fI fd
  fc : PySem.W.findCls K (.ref C) (.type "type") "__name__" = some (.get (.builtin "getset_descriptor.__get__") (.builtin "type.__name__") (.ref C) (.type "type"))
  nn : PySem.W.findIn K (.ref C) "class_name" = some none
  nk : ∃ (nm : Str) (o : Obj) (t : Tok), K.lookup C = some o ∧ o.cls = .type "type" ∧ o.slots[2]?.join = some (.str nm t)
section
variable {K : PySem.W.Frag} {mg : Str → Option Value} {x q : Str} {st : Stmt} {C fI : Addr} {bm : List Value}
theorem Kl.cd (T : Kl K mg x q st C fI bm) : ∃ cd, PySem.W.clsIn K C = some cd ∧ cd.mro = .ref C :: bm ∧ cd.hasDict = true := by
  obtain ⟨nm, q, N, bs, sn, sub, ab, col, dd, k0, k1, k2, k3, k5, h⟩ := T.cls
  have e : PySem.W.clsIn K C = some { name := nm, bases := bs, mro := .ref C :: bm, ns := N, qualname := q, hasDict := true, slotNames := sn, subclasses := sub, abstract := ab, collection := col, hasDel := false } := by
    unfold PySem.W.clsIn
    rw [h] <;> rfl
  exact ⟨_, e, rfl, rfl⟩
theorem Kl.sub (T : Kl K mg x q st C fI bm) (b : Value) : PySem.W.subIn K (.ref C) b = some ((Value.ref C :: bm).contains b) := by
  obtain ⟨cd, h, hm, _⟩ := T.cd
  show PySem.W.mroIn K C b = _
  unfold PySem.W.mroIn
  rw [h, Option.bind_some, hm]
  rfl
theorem Kl.ty (T : Kl K mg x q st C fI bm) : PySem.W.typeIn K (.ref C) = some (.type "type") := by
  obtain ⟨nm, q, N, bs, sn, sub, ab, col, dd, k0, k1, k2, k3, k5, h⟩ := T.cls
  show (K.lookup C).map (·.cls) = _
  rw [h] <;> rfl
theorem Kl.dic (T : Kl K mg x q st C fI bm) : PySem.W.hasDictIn K C = true := by
  obtain ⟨cd, h, _, hd⟩ := T.cd
  unfold PySem.W.hasDictIn
  rw [h]
  exact hd
/-- what stands above every error -/
structure Above (bm : List Value) : Prop where
  ve : PySem.HandSPX.refsVE bm = true
  be : ∀ C : Addr, (Value.ref C :: bm).contains (.type "BaseException") = true
  ob : ∀ C : Addr, (Value.ref C :: bm).contains (.type "object") = true
  va : ∀ C : Addr, (Value.ref C :: bm).contains (.type "ValueError") = true
theorem above_F : Above bmF := ⟨by decide +kernel, fun C => by simp [bmF], fun C => by simp [bmF], fun C => by simp [bmF]⟩
theorem above_E (CF : Addr) : Above (bmE CF) := ⟨by show PySem.HandSPX.refsVE bmF = true; decide +kernel, fun C => by simp [bmF, bmE], fun C => by simp [bmF, bmE], fun C => by simp [bmF, bmE]⟩
theorem Kl.ox (T : Kl K mg x q st C fI bm) (B : Above bm) : OexC K C := by
  obtain ⟨nm, q, N, bs, sn, sub, ab, col, dd, k0, k1, k2, k3, k5, h⟩ := T.cls
  exact ⟨⟨_, _, _, _, _, _, _, _, _, _, _, _, _, _, _, h, B.ve⟩, T.sa, (T.sub _).trans (congrArg some (B.be C)), T.ty, T.kC⟩
theorem Kl.xf (T : Kl K mg x q st C fI bm) (B : Above bm) : XfC K C := ⟨T.ga, T.gg, (T.sub _).trans (congrArg some (B.be C)), T.dic⟩
theorem Kl.ask (T : Kl K mg x q st C fI bm) (B : Above bm) (hn : PySem.W.specialIn K (.builtin "object.__class__") "__get__" = some (some (.builtin "getset_descriptor.__get__"))) (ht : PySem.W.takesIn K (.builtin "object.__class__") = some true) : AskC K C := by
  obtain ⟨cd, h, _, _⟩ := T.cd
  exact ⟨by rw [h]; rfl, T.xf B, T.ha, hn, ht, (T.sub _).trans (congrArg some (B.ob C))⟩
theorem Kl.nam (T : Kl K mg x q st C fI bm) (B : Above bm) (hn : PySem.W.specialIn K (.builtin "object.__class__") "__get__" = some (some (.builtin "getset_descriptor.__get__"))) (ht : PySem.W.takesIn K (.builtin "object.__class__") = some true) (st' : PySem.W.nsIn K cStatics "thirdparty.any" = some none) : ∃ nm, NamC K C nm := by
  obtain ⟨cd, h, _, _⟩ := T.cd
  obtain ⟨nm, o, t, lk⟩ := T.nk
  exact ⟨nm, ⟨T.xf B, by rw [h]; rfl, T.ha, hn, ht, (T.sub _).trans (congrArg some (B.ob C)), T.ty, st', T.fc, ⟨o, t, lk⟩, T.nn⟩⟩
/-- isinstance of an error of the class D, by the class C -/
theorem Kl.kit {x2 q2 : Str} {st2 : Stmt} {D fD : Addr} {bm2 : List Value} (T : Kl K mg x q st C fI bm) (U : Kl K mg x2 q2 st2 D fD bm2) : PySem.W.kitOne K (.ref D) (.ref C) = some ((Value.ref D :: bm2).contains (.ref C)) := by
  obtain ⟨cd, h, _, _⟩ := T.cd
  unfold PySem.W.kitOne
  split
  · rename_i e
    have e2 : Value.ref D = Value.ref C := eq_of_beq e
    rw [e2]
    simp
  · unfold PySem.W.kitCls
    simp only [T.ty, h, Option.isSome_some, beq_self_eq_true, Bool.and_self, if_true]
    exact U.sub _
theorem Kl.kitV (U : Kl K mg x q st C fI bm) (B : Above bm) : PySem.W.kitOne K (.ref C) (.type "ValueError") = some true := by
  unfold PySem.W.kitOne
  split
  · rfl
  · unfold PySem.W.kitCls
    simp only [show PySem.W.kitMeta "ValueError" = true by decide +kernel, if_true]
    exact (U.sub _).trans (congrArg some (B.va C))
theorem kl_mk {h : Heap} {nm q' : Str} {N : Addr} {bs sub : List Value} {sn : List Str} {ab : Bool} {col : Option Bool} {dd od an : Option Addr} {cn : Str} {tk : Tok} {k0 k1 k3 k5 : Option Value} {oc kV dc pm cd ct : Value} {sl : Array (Option Value)} (X : K.In h) (G : h.Ns mainGlobals mg)
    (a : PySem.W.nsIn K mainGlobals x = some (some (.ref C))) (l : K.lookup C = some (excClassObj nm q' C N bs bm true sn sub ab col dd k0 k1 (some (.str cn tk)) k3 k5 "ValueError.__new__"))
    (sa : PySem.W.findIn K (.ref C) "__setattr__" = some (some (.builtin "object.__setattr__"))) (kC : PySem.W.keepIn K (.ref C) = true) (iC : PySem.W.findIn K (.ref C) "__init__" = some (some (.ref fI))) (tI : PySem.W.typeIn K (.ref fI) = some (.type "function"))
    (ga : PySem.W.findIn K (.ref C) "__getattribute__" = some (some (.builtin "BaseException.__getattribute__"))) (gg : PySem.W.findIn K (.ref C) "__getattr__" = some none) (ha : PySem.W.findIn K (.ref C) "__class__" = some (some (.builtin "object.__class__")))
    (lI : K.lookup fI = some ⟨oc, od, .func (PySem.W.fnOf "__init__" q (defArgs st) (defBody st) (defScope st) .none kV dc pm an cd ct), sl⟩) (cI : PySem.W.codeIn K cd q = true) (kI : PySem.W.keepIn K (.ref fI) = true)
    (fc : PySem.W.findCls K (.ref C) (.type "type") "__name__" = some (.get (.builtin "getset_descriptor.__get__") (.builtin "type.__name__") (.ref C) (.type "type"))) (nn : PySem.W.findIn K (.ref C) "class_name" = some none) : Kl K mg x q st C fI bm :=
  ⟨PySem.W.mg_of X G a, ⟨_, _, _, _, _, _, _, _, _, _, _, _, _, _, l⟩, sa, kC, iC, tI, ga, gg, ha, ⟨_, fun_mk lI cI kI⟩, fc, nn, ⟨cn, _, tk, l, rfl, rfl⟩⟩
end

/-! ### errors in the heap -/
/-- an error of the class C with the fields fs -/
def IsE (C : Addr) (fs : List (Str × V)) (H : Hp) (a : Addr) : Prop := ∃ d rest, H a = some (exo a C (some d)) ∧ H d = some (exd d (fs ++ rest))
/-- an error of the class C -/
def Err (C : Addr) (H : Hp) (a : Addr) : Prop := ∃ d, H a = some (exo a C d) ∧ ∀ d', d = some d' → ∃ fs, H d' = some (exd d' fs)
theorem IsE.same {C a : Addr} {fs : List (Str × V)} {H H' : Hp} (h : IsE C fs H a) (s : Same H H') : IsE C fs H' a := by
  obtain ⟨d, r, h1, h2⟩ := h
  exact ⟨d, r, s _ _ h1, s _ _ h2⟩
theorem IsE.err {C a : Addr} {fs : List (Str × V)} {H : Hp} (h : IsE C fs H a) : Err C H a := by
  obtain ⟨d, r, h1, h2⟩ := h
  exact ⟨some d, h1, fun d' e => by cases e; exact ⟨_, h2⟩⟩
theorem Err.same {C a : Addr} {H H' : Hp} (h : Err C H a) (s : Same H H') : Err C H' a := by
  obtain ⟨d, h1, h2⟩ := h
  refine ⟨d, s _ _ h1, fun d' e => ?_⟩
  obtain ⟨fs, h3⟩ := h2 d' e
  exact ⟨fs, s _ _ h3⟩
/-- X.__init__ of two fields -/
def spInit2 (f g : Str) (C : Addr) : Sp := fun vs H Q _ => ∃ (a : Addr) (v u : V), vs = [.ref a, v, u] ∧ H a = some (exo a C none) ∧ ∀ (fs : List (Str × V)) (d : Addr), H d = none → d ≠ a → Q .non (upd (upd H d (exd d ((g, u) :: (f, v) :: fs))) a (exo a C (some d)))
/-- X.__init__ of none -/
def spInit0 (C : Addr) : Sp := fun vs H Q _ => ∃ a : Addr, vs = [.ref a] ∧ H a = some (exo a C none) ∧ ∀ (fs : List (Str × V)) (d : Addr), H d = none → d ≠ a → Q .non (upd (upd H d (exd d fs)) a (exo a C (some d)))
section
variable {K : PySem.W.Frag} {C : Addr} {f g : Str} {v u : V} {H : Hp} {Q : VK}
theorem same_two {H : Hp} {a d : Addr} {x y z : HO} (ha : H a = none) (hd : upd H a z d = none) (ne : d ≠ a) : Same H (upd (upd (upd H a z) d x) a y) := by
  rw [upd_ne ne] at hd
  intro b o hb
  rw [upd_ne (ne_of_none hb ha), upd_ne (ne_of_none hb hd), upd_ne (ne_of_none hb ha)]
  exact hb
theorem made1 (h : ∀ a H', Same H H' → IsE C [(f, v)] H' a → Q (.ref a) H') : MadeBy C (spInit K f C) (fun a => [.ref a, v]) H Q := fun a ha => by
  refine ⟨a, v, rfl, upd_same, fun fs d hd ne => ⟨rfl, h a _ (same_two ha hd ne) ⟨d, fs, upd_same, ?_⟩⟩⟩
  rw [upd_ne ne]
  exact upd_same
theorem made2 (h : ∀ a H', Same H H' → IsE C [(g, u), (f, v)] H' a → Q (.ref a) H') : MadeBy C (spInit2 f g C) (fun a => [.ref a, v, u]) H Q := fun a ha => by
  refine ⟨a, v, u, rfl, upd_same, fun fs d hd ne => ⟨rfl, h a _ (same_two ha hd ne) ⟨d, fs, upd_same, ?_⟩⟩⟩
  rw [upd_ne ne]
  exact upd_same
theorem made0 (h : ∀ a H', Same H H' → Err C H' a → Q (.ref a) H') : MadeBy C (spInit0 C) (fun a => [.ref a]) H Q := fun a ha => by
  refine ⟨a, rfl, upd_same, fun fs d hd ne => ⟨rfl, h a _ (same_two ha hd ne) ⟨some d, upd_same, fun d' e => ?_⟩⟩⟩
  cases e
  exact ⟨fs, by rw [upd_ne ne]; exact upd_same⟩
theorem made_F {nm : Str} (T : OexC K C) (N : NamC K C nm) (h : ∀ a H', Same H H' → Err C H' a → Q (.ref a) H') : MadeBy C (spFig K) (fun a => [.ref a, v]) H Q := fun a ha => by
  refine ⟨a, C, v, nm, rfl, T, N, upd_same, fun d hd ne => ⟨rfl, h a _ (same_two ha hd ne) ⟨some d, upd_same, fun d' e => ?_⟩⟩⟩
  cases e
  exact ⟨_, by rw [upd_ne ne]; exact upd_same⟩
end

/-! ### lists of the same things -/
/-- l == l2, two lists of the very same things -/
def rEqSame (K : PySem.W.Frag) : R2 := fun x y H Q => ∃ (l l2 : Addr) (xs : List V), x = .ref l ∧ y = .ref l2 ∧ SqL K H l xs ∧ SqL K H l2 xs ∧ (∀ v ∈ xs, flatB v = true ∨ ∃ a, v = .ref a) ∧ Q (.bl true) H
theorem op_eqSame {X : Cx} (hu : X.A.units + 64 < cLine) : OpR X (compareOp .Eq) (rEqSame X.K) := by
  intro pins s σ H x y v u Q I rx ry h
  obtain ⟨l, l2, xs, rfl, rfl, h1, h2, hs, q⟩ := h
  cases rx
  cases ry
  obtain ⟨us, r1, p1, _⟩ := I.list h1
  obtain ⟨ws, r2, p2, _⟩ := I.list h2
  have n1 := r1.length
  have n2 := r2.length
  have hsz : us.toArray.size = ws.toArray.size := by
    rw [List.size_toArray, List.size_toArray]
    omega
  have key := SeqAt.RcAt.lists (A := X.A) (e := fun _ => true) p1.isList p2.isList hsz (by omega) (fun j h1 h2 => ?_)
  · refine key X.prog X.w _ _ ?_
    rw [show ((List.range us.toArray.size).all fun _ => true) = true from List.all_eq_true.mpr fun _ _ => rfl]
    exact ⟨.bl true, H, I, rfl, q⟩
  · have j1 : j < us.length := by simpa using h1
    have jx : j < xs.length := by omega
    obtain ⟨a, ea, ra⟩ := Vals.get r1 (List.getElem?_eq_getElem jx)
    obtain ⟨b, eb, rb⟩ := Vals.get r2 (List.getElem?_eq_getElem jx)
    have e1 : us.toArray[j] = a := by
      have := List.getElem?_eq_getElem j1
      rw [this] at ea
      simpa using Option.some.inj ea
    have e2 : ws.toArray[j] = b := by
      have j2 : j < ws.length := by omega
      have := List.getElem?_eq_getElem j2
      rw [this] at eb
      simpa using Option.some.inj eb
    rw [e1, e2]
    rcases hs _ (List.getElem_mem jx) with hf | ⟨p, hp⟩
    · exact eqAt_same ra rb hf
    · rw [hp] at ra rb
      cases ra
      cases rb
      exact SeqAt.EqAt.same _
/-- comprehensions over enumerate of a list that stays -/
theorem lc_enum {K : PySem.W.Frag} {a : Addr} {xs : List V} {g : TG} {tt : TT} {te : TE} {vs : List Nat} {σ : L2.St} {H1 : Hp} {D : Addr} {Qd : Hp → Prop} (Pv : Nat → Hp → Prop) (h0 : Pv 0 (upd H1 D (.lst []))) (hl : ∀ i H, i ≤ xs.length → Pv i H → SqL K H a xs)
    (hs : ∀ (i : Nat) x H T, xs[i]? = some x → Pv i H → H T = none → g (.ref T) (wipe σ vs) (upd H T (.tup [.int (i : Int), x])) fun σ2 H2 => wipe σ2 vs = wipe σ vs ∧ tt σ2 H2 fun b H3 =>
      if b = true then te σ2 H3 fun y H4 => ∃ acc, H4 D = some (.lst acc) ∧ acc.length < sizeLine ∧ Pv (i + 1) (upd H4 D (.lst (acc ++ [y]))) else Pv (i + 1) H3) (hd : ∀ H, Pv xs.length H → Qd H) :
    ∃ W : Nat → Nat → Hp → Prop, (∃ m, W 0 m (upd H1 D (.lst []))) ∧ ∀ i m H, W i m H →
      ((Ite K a).stop i H ∧ Qd H) ∨ ((Ite K a).go i H ∧ ∃ Nx : Hp → Prop, (∀ H', Nx H' → ∃ m', m' < m ∧ W (i + 1) m' H') ∧ ∀ x H', (Ite K a).yld i H x H' → g x (wipe σ vs) H' fun σ2 H2 => wipe σ2 vs = wipe σ vs ∧ tt σ2 H2 fun b H3 =>
        if b = true then te σ2 H3 fun y H4 => ∃ acc, H4 D = some (.lst acc) ∧ acc.length < sizeLine ∧ Nx (upd H4 D (.lst (acc ++ [y]))) else Nx H3) := by
  refine ⟨fun i m H => m = xs.length - i ∧ i ≤ xs.length ∧ Pv i H, ⟨xs.length, by simp, Nat.zero_le _, h0⟩, ?_⟩
  rintro i m H ⟨em, hi, p⟩
  subst em
  have q := hl i H hi p
  rcases Nat.lt_or_ge i xs.length with hlt | hge
  · right
    refine ⟨⟨xs, xs[i], q, List.getElem?_eq_getElem hlt⟩, Pv (i + 1), fun H' p' => ⟨xs.length - (i + 1), by omega, rfl, hlt, p'⟩, ?_⟩
    rintro z H' ⟨T, x, ez, hT, eH, hx⟩
    subst ez
    subst eH
    exact hs i x H T (hx xs q) p hT
  · left
    have e : i = xs.length := by omega
    subst e
    exact ⟨⟨xs, q, Nat.le_refl _⟩, hd H p⟩
end OF
set_option maxHeartbeats 4000000
/-! set(xs) of a list or tuple of ints, sorted of it. -/
namespace OF
open PySem PySem.Spec PyProof.Rows L2
/-- an empty set, just made -/
abbrev setObj0 (w : World) : Obj := { cls := .type "set", dict := none, data := .set #[] 0 (.fresh 0 0 (!w.params.followText "set-order")) }
section
variable {P : Program} {w : World} {A : Around} {E : Value → Shared → Prop}
theorem set_of_list {h : Heap} {g : Array GenState} {d : Drawn} {t : Nat} {os : OsState} {l : Addr} {xs : Array Value} (ns : List Int) {Q : Value → Shared → Prop} (calm : A.handled = none) (lst : h.IsList l xs) (allInt : IntsAre xs.toList ns) (few : ns.length + 1 < scanBound)
    (fin : ∀ (h' : Heap) (tk c : Nat), SetR w h' h.objs.size (fun j => decide (j ∈ ns)) c → c ≤ ns.length → (∀ b o, h.get? b = some o → h'.get? b = some o) → Q (.ref h.objs.size) ⟨h', g, d, tk, os⟩) :
    wpAny (model P w) A (call (.type "set") [.ref l]) Q E ⟨h, g, d, t, os⟩ := by
  have size : xs.size = ns.length := by
    rw [← Array.length_toList]
    exact allInt.length
  obtain ⟨c, tl, hmro⟩ := F.called_set.mro
  have f1 := F.called_set.made
  have f2 := F.called_set.sub
  have f3 := F.called_set.notType
  have f4 := F.called_set.canCreate
  have f5 := F.typeCall_set_1 (.ref l)
  apply wpAny_call
  apply codeAny_of_tree
  show wpAny _ _ (callAny (.type "set") _) _ _ _
  apply wpAny_pure
  refine ⟨Code.quiet_builtin _ (by decide +kernel), codeAny_builtin F.entry_type_call ?_⟩
  rw [Around.under_plain (weight_type_call_type "set" [.ref l] []) rfl]
  repeat any_goals first
    | assumption
    | wp_step
  refine codeAny_mono (code_set_led1 (s := ⟨h, g, d, t, os⟩) (.ref l) (E := E) (Q₁ := fun v s1 => v = .ref h.objs.size ∧ s1 = ⟨h.push (setObj0 w), g, d, t, os⟩) ⟨rfl, rfl⟩) ?_
  intro r s1 z
  cases r with
  | error e => exact z
  | ok fl =>
    cases fl with
    | next => exact z.elim
    | brk => exact z.elim
    | cont => exact z.elim
    | ret v =>
      obtain ⟨ev, es⟩ := z
      subst ev es
      have there : (h.push (setObj0 w)).get? h.objs.size = some (setObj0 w) := Heap.get?_push_size _ rfl
      have isSet : Shared.TypeIs ⟨h.push (setObj0 w), g, d, t, os⟩ (.ref h.objs.size) "set" := ⟨_, there, rfl⟩
      have i1 := F.called_set.init.lookup
      have i2 := F.called_set.init.bind (.ref h.objs.size)
      repeat any_goals first
        | assumption
        | wp_step
      refine codeAny_mono (codeAny_call_builtin (R := wants (fun r s2 => r = .none ∧ ∃ h' tk c, s2 = ⟨h', g, d, tk, os⟩ ∧ SetR w h' h.objs.size (fun j => decide (j ∈ ns)) c ∧ c ≤ ns.length ∧ (∀ b o, h.get? b = some o → h'.get? b = some o)) E)
        F.called_set.init.plain F.entry_set_init (check_set_init_1 isSet ?inner)) ?outer
      case outer =>
        intro r2 s2 z2
        cases r2 with
        | error e => exact z2
        | ok fl2 =>
          cases fl2 with
          | next => exact z2.elim
          | brk => exact z2.elim
          | cont => exact z2.elim
          | ret v2 =>
            obtain ⟨ev, h', tk, c', es, hS, hc, hk⟩ := z2
            subst ev es
            repeat any_goals first
              | assumption
              | wp_step
            exact fin _ _ _ hS hc hk
      case inner =>
        obtain ⟨o1, ho1, hc1, m1, hd1⟩ := lst
        obtain ⟨k1, k2, k3, k4⟩ := o1
        simp only at hc1 hd1
        subst hc1 hd1
        have there2 : (h.push (setObj0 w)).get? l = some { cls := .type "list", dict := k2, data := .seq xs m1, slots := k4 } := Heap.get?_push_of_some _ ho1
        have s1 := F.sub_list_set
        have s2 := F.sub_list_frozenset
        have apart : (Value.type "list" == Value.type "dict") = false := by decide
        have lst1 : (h.push (setObj0 w)).IsList l xs := ⟨_, there2, rfl, m1, rfl⟩
        unfold Builtin.«set.__init__» noKeywords Builtin.Frozenset.updateFrom
        generalize same : pyIter = PI
        wp_walk
        subst same
        apply wpAny_pyIter_list lst1
        apply wpAny_bind
        apply wpAny_runValue
        have below : l < h.objs.size := Heap.lt_size ho1
        have calm3 : A.in1.in1.in1.handled = none := by simp [calm]
        have sz : (h.push (setObj0 w)).objs.size = h.objs.size + 1 := Heap.size_push ..
        have ne1 : l ≠ (h.push (setObj0 w)).objs.size := by
          rw [sz]
          exact Nat.ne_of_lt (Nat.lt_succ_of_lt below)
        have ne2 : h.objs.size ∉ [(h.push (setObj0 w)).objs.size, l] := by
          rw [sz]
          simp only [List.mem_cons, List.not_mem_nil, or_false, not_or]
          exact ⟨Nat.ne_of_lt (Nat.lt_succ_self _), Nat.ne_of_gt below⟩
        have vals : ∀ (i : Nat) (v : Value), xs[i]? = some v → ∃ k t, ns[i]? = some k ∧ v = .int k t := by
          intro i v hv
          have hi : i < ns.length := by
            rw [← size]
            exact (Array.getElem?_eq_some_iff.mp hv).1
          obtain ⟨t, e⟩ := PyProof.Rows.IntsAre.int_at allInt i v (by rw [Array.getElem?_toList]; exact hv)
          rw [List.getD_eq_getElem?_getD, List.getElem?_eq_getElem hi] at e
          exact ⟨ns[i], t, List.getElem?_eq_getElem hi, e⟩
        refine set_update_ints ((Walks.list calm3 _ l ne1 xs).toS) h.objs.size ne2 ns size few vals (xs.size - 0) 0 _ (by omega) (Nat.zero_le _) ⟨⟨_, Heap.get?_push_size _ rfl, rfl, rfl⟩, (lst1.push _)⟩ ?start ?stop
        case start =>
          have got : ((h.push (setObj0 w)).push { cls := .type "list_iterator", data := .fields #[.ref l, .int 0 0] }).get? h.objs.size = some (setObj0 w) := Heap.get?_push_of_some _ there
          exact ⟨0, Nat.le_refl 0, setR_new_at got⟩
        case stop =>
          intro s' c' hm hc' hS
          obtain ⟨h', g2, d2, tk, os2⟩ := s'
          have eg : g2 = g := hm.gens
          have ed : d2 = d := hm.drawn
          have eo : os2 = os := hm.os
          subst eg ed eo
          show wpAny _ _ _ _ _ _
          apply wpAny_pure
          show wpAny _ _ (ret Value.none) _ _ _
          rw [size] at hc'
          apply wpAny_pure
          refine ⟨rfl, h', tk, c', rfl, hS, hc', fun b o z => ?_⟩
          have b0 : b < h.objs.size := Heap.lt_size z
          refine hm.heap b o ?_ (Heap.get?_push_of_some _ (Heap.get?_push_of_some _ z))
          simp only [List.mem_cons, List.not_mem_nil, or_false, not_or]
          rw [sz]
          exact ⟨Nat.ne_of_lt b0, Nat.ne_of_lt (Nat.lt_succ_of_lt b0)⟩
end
section
variable {X : Cx}
/-- set(xs): xs a list or tuple of ints -/
def rSetI (K : PySem.W.Frag) (w : World) : List V → Hp → VK → Prop := fun xs H Q => ∃ (l : Addr) (ns : List Int), xs = [.ref l] ∧ (SqL K H l (ns.map V.int) ∨ SqT K H l (ns.map V.int)) ∧ ns.length ≤ 60 ∧
  ∀ (p : Addr) (ks : List Int), H p = none → ks.Nodup → (∀ k, k ∈ ks ↔ k ∈ ns) → Q (.ref p) (upd H p (SetO w p (fun j => decide (j ∈ ns)) ks.length))
theorem ints_vals : ∀ {ns : List Int} {us : List Value}, Vals (ns.map V.int) us → IntsAre us ns
  | [], _, .nil => .nil
  | _ :: ns, _, .cons r t => by
    obtain ⟨k, rfl⟩ := r
    exact .cons _ k (ints_vals t)
theorem cr_setI (hc : X.calm = true) : CallR X (.type "set") (rSetI X.K X.w) := by
  intro pins s σ H xs us Q I r h
  obtain ⟨l, ns, rfl, hl, few, q⟩ := h
  obtain ⟨u, rfl, ru⟩ := vals1 r
  cases ru
  have hn : H s.heap.objs.size = none := I.hok.fresh (Nat.le_refl _)
  have room : ns.length + 1 < scanBound := by
    unfold scanBound
    omega
  have fin : ∀ (h' : Heap) (tk c : Nat), SetR X.w h' s.heap.objs.size (fun j => decide (j ∈ ns)) c → c ≤ ns.length → (∀ b o, s.heap.get? b = some o → h'.get? b = some o) → EP X pins σ Q (.ref s.heap.objs.size) { s with heap := h', toks := tk } := by
    intro h' tk c R hc2 k
    have R2 := R
    obtain ⟨o, es, ep, st, _, _, _, _, nd, mem, _, _, ec, _⟩ := R2
    have e : (es.toList.map keyOf).length = c := by rw [List.length_map, Array.length_toList, ec]
    have q2 := q s.heap.objs.size (es.toList.map keyOf) hn nd fun k => ⟨fun z => of_decide_eq_true ((mem k).mpr z), fun z => (mem k).mp (decide_eq_true z)⟩
    rw [e] at q2
    exact ⟨.ref s.heap.objs.size, _, I.laid (t' := tk) k (Nat.le_refl _) (setO_new R), rfl, q2⟩
  rcases hl with hl | hl
  · obtain ⟨its, rv, pl, _⟩ := I.list hl
    obtain ⟨hp, g, d, t, os⟩ := s
    exact set_of_list ns (I.ok.hd hc) pl.isList (by simpa using ints_vals rv) room fin
  · obtain ⟨its, rv, pl, _⟩ := I.tuple hl
    exact call_set_tupI ns (I.ok.hd hc) pl (by simpa using ints_vals rv) room fin
/-- len of such a set -/
def rLenSetO (w : World) : List V → Hp → VK → Prop := fun xs H Q => ∃ (a : Addr) (S : Int → Bool) (n : Nat), xs = [.ref a] ∧ H a = some (SetO w a S n) ∧ Q (.int n) H
theorem call_lenSetO : CallR X (.builtin "len") (rLenSetO X.w) := by
  intro pins s σ H xs us Q I r h
  obtain ⟨a, S, n, rfl, ha, q⟩ := h
  obtain ⟨u, rfl, ru⟩ := vals1 r
  cases ru
  obtain ⟨o, es, ep, t, ho, hx, hd, _, _, _, fits, small, en, _⟩ := setO_get I ha
  refine call_len_set ho hx hd small (by unfold scanBound at fits; omega) ⟨.int n, H, I.tok _, ⟨_, by rw [en]⟩, q⟩
end
end OF
set_option maxHeartbeats 4000000
/-! sorted(set(..)) of pairs of any ints. -/
namespace OF
open PySem PySem.Spec PyProof.Rows L2
theorem perm_back {α β : Type} {f : α → β} {l m : List β} (h : l.Perm m) : ∀ L : List α, m = L.map f → ∃ L' : List α, L'.Perm L ∧ l = L'.map f := by
  induction h with
  | nil =>
    intro L e
    exact ⟨L, List.Perm.refl _, e⟩
  | cons x _ ih =>
    intro L e
    cases L with
    | nil => cases e
    | cons y L =>
      have e2 := List.cons.inj e
      obtain ⟨L', p, q⟩ := ih L e2.2
      exact ⟨y :: L', p.cons y, by rw [q, e2.1]; rfl⟩
  | swap x y l =>
    intro L e
    match L, e with
    | [], e => cases e
    | [_], e => cases (List.cons.inj e).2
    | a :: b :: L, e =>
      obtain ⟨e1, e2⟩ := List.cons.inj e
      obtain ⟨e3, e4⟩ := List.cons.inj e2
      exact ⟨b :: a :: L, List.Perm.swap _ _ _, by rw [e1, e3, e4]; rfl⟩
  | trans _ _ ih1 ih2 =>
    intro L e
    obtain ⟨L2, p2, q2⟩ := ih2 L e
    obtain ⟨L1, p1, q1⟩ := ih1 L2 q2
    exact ⟨L1, p1.trans p2, q1⟩
/-- a list of two ints as a pair -/
def duo : List Int → Int × Int
  | [x, y] => (x, y)
  | _ => (0, 0)
section
variable {P : Program} {w : World} {A : Around} {E : Value → Shared → Prop} {s : Shared}
theorem sorted_set_duos {a : Addr} {L : List (Addr × List Int)} {es : Array (Int × Value)} {ep : Nat} {t : SetTable} {Q : Value → Shared → Prop} (R : SetTR P w s.heap a L es ep t) (calm : A.handled = none) (two : ∀ p ∈ L, p.2.length = 2)
    (fin : ∀ (s' : Shared) (p : Addr) (out : List Value) (c : Nat) (L' : List (Addr × List Int)), (∀ b o, s.heap.get? b = some o → s'.heap.get? b = some o) → s'.gens = s.gens → s'.os = s.os → s.heap.objs.size ≤ p →
      s'.heap.get? p = some (seqObj "list" out.toArray c) → out = L'.map (fun q => Value.ref q.1) → L'.Perm L → L'.Pairwise (fun q r => SrtO.lexB (duo r.2) (duo q.2) = false) → Q (.ref p) s') : wpAny (model P w) A (call (.builtin "sorted") [.ref a]) Q E s := by
  obtain ⟨o, ho, hx, hd⟩ := R.ob
  have hsz := R.size
  have few := R.few
  apply Calls.call_function_entry kind_sorted plain_sorted entry_sorted (args_sorted1 _)
  unfold Builtin.«sorted»
  refine wpAny_bind (m := checkCount "sorted" 1 1 _) (wpAny_pure ?_)
  apply wpAny_bind
  apply collect_set (A := A.in1) calm ⟨o, ho, hx.1, hd⟩ R.fits (by unfold scanBound; omega) R.tab.ris R.led
  intro s1 vs k1 z1 g1 o1 pm
  have rows : es.toList.map (·.2) = L.map fun q => Value.ref q.1 := by
    rw [R.rows]
    unfold rowsOf
    rw [List.map_map] <;> rfl
  rw [rows] at pm
  have short : vs.length < 64 := by
    rw [pm.length_eq, List.length_map]
    exact few
  have room : vs.length ≤ sizeLine := by
    rw [sizeLine_eq]
    omega
  refine wpAny_bind (wpAny_newList ?_ room)
  have laid : (s1.heap.push (seqObj "list" vs.toArray 0)).get? s1.heap.objs.size = some (seqObj "list" vs.toArray 0) := Heap.get?_push_size _ rfl
  have tup : ∀ q ∈ L, TS.TupInts (s1.heap.push (seqObj "list" vs.toArray 0)) (.ref q.1) q.2 := by
    intro q hq
    exact tupInts_of (P := P) (w := w) (isT_keep (R.tup q hq) fun b u e => Heap.get?_push_of_some _ (k1 b u e))
  have pair : ∀ v ∈ vs, Srt.IsPair (s1.heap.push (seqObj "list" vs.toArray 0)) v (duo (TS.intsOf (s1.heap.push (seqObj "list" vs.toArray 0)) v)).1 (duo (TS.intsOf (s1.heap.push (seqObj "list" vs.toArray 0)) v)).2 := by
    intro v hv
    obtain ⟨q, hq, e⟩ := List.mem_map.mp (pm.mem_iff.mp hv)
    subst e
    rw [(tup q hq).ints]
    obtain ⟨b, xs, e1, ⟨u, hu, hc, m, hd2⟩, ii⟩ := tup q hq
    have l2 := two q hq
    match hq2 : q.2, l2 with
    | [x, y], _ =>
      rw [hq2] at ii
      obtain ⟨xl⟩ := xs
      cases ii with
      | cons t1 k1' r1 => cases r1 with
        | cons t2 k2' r2 => cases r2 with
          | nil => exact ⟨b, u, _, _, m, e1, hu, hc, hd2⟩
  refine wpAny_bind (wpAny_holding (wpAny_call_entry slot_list_sort ⟨_, laid, rfl⟩ entry_list_sort (SrtO.list_sort_ord (s := { s1 with heap := s1.heap.push (seqObj "list" vs.toArray 0) }) (SrtO.swo_lex fun v => duo (TS.intsOf (s1.heap.push (seqObj "list" vs.toArray 0)) v)) laid room (fun h2 => ?sorts) fun out hs hb => ⟨_, rfl, ?done⟩) (args_list_sort _)))
  case sorts =>
    refine SrtO.pairs_sortableO (by omega) pair ?_
    intro u hu c
    rw [laid] at hu
    have := Option.some.inj hu
    subst this
    exact absurd (Value.type.inj c) (by decide)
  case done =>
    obtain ⟨c, hc⟩ := sortedHeap_at (vs := vs) (out := out.toArray) laid
    obtain ⟨L', pL, eL⟩ := perm_back (hb.perm.trans pm) L rfl
    refine wpAny_pure ⟨_, rfl, fin _ s1.heap.objs.size out c L' ?_ g1 o1 z1 hc eL pL ?_⟩
    · intro b u e
      have q := k1 b u e
      have lt := Heap.lt_size q
      show (sortedHeap (s1.heap.push (seqObj "list" vs.toArray 0)) s1.heap.objs.size vs out.toArray).get? b = some u
      rw [sortedHeap_old (Nat.ne_of_lt lt) (by rw [size_push']; exact Nat.lt_succ_of_lt lt)]
      exact Heap.get?_push_of_some _ q
    · have hs2 := hs
      rw [eL] at hs2
      refine List.Pairwise.imp_of_mem (fun {q r} hq hr z => ?_) (List.pairwise_map.mp hs2)
      have z2 : SrtO.lexB (duo (TS.intsOf (s1.heap.push (seqObj "list" vs.toArray 0)) (.ref r.1))) (duo (TS.intsOf (s1.heap.push (seqObj "list" vs.toArray 0)) (.ref q.1))) = false := z
      rw [(tup q (pL.mem_iff.mp hq)).ints, (tup r (pL.mem_iff.mp hr)).ints] at z2
      exact z2
end
section
variable {X : Cx}
/-- sorted of a set of pairs of ints -/
def rSortedDuo (K : PySem.W.Frag) (P : Program) (w : World) : List V → Hp → VK → Prop := fun vs H Q => ∃ (a : Addr) (L : List (Addr × List Int)), vs = [V.ref a] ∧ H a = some (SetTO P w a L) ∧ (∀ p ∈ L, SqT K H p.1 (p.2.map V.int)) ∧ (∀ p ∈ L, p.2.length = 2) ∧
  ∀ (L' : List (Addr × List Int)) (p : Addr), L'.Perm L → (L'.map (·.2)).Nodup → L'.length < 64 → L'.Pairwise (fun q r => SrtO.lexB (duo r.2) (duo q.2) = false) → H p = none → Q (.ref p) (upd H p (.lst (L'.map fun q => V.ref q.1)))
theorem cr_sortedDuo (hc : X.calm = true) : CallR X (.builtin "sorted") (rSortedDuo X.K X.prog X.w) := by
  intro pins s σ H vs us Q I r h
  obtain ⟨a, L, rfl, ha, hk, two, q⟩ := h
  obtain ⟨u, rfl, ru⟩ := vals1 r
  cases ru
  have R0 : SetT0 X.prog X.w s.heap a L := (I.hok a _ ha).1
  obtain ⟨es, ep, t, R⟩ := R0.full fun p hp => I.isT (hk p hp)
  apply sorted_set_duos R (I.ok.hd hc) two
  intro s' p out c L' k g o hp hg eo pm pw
  have short : L'.length < 64 := by
    rw [pm.length_eq]
    exact R.few
  have room : (L'.map fun q => V.ref q.1).length ≤ sizeLine := by
    rw [List.length_map, sizeLine_eq]
    omega
  have free : H p = none := I.hok.fresh hp
  subst eo
  have vals : Vals (L'.map fun q => V.ref q.1) (L'.map fun q => Value.ref q.1) := vals_of_refs L'
  obtain ⟨h', g', d', t', o'⟩ := s'
  have e1 : g' = s.gens := g
  have e2 : o' = s.os := o
  subst e1 e2
  have J : Inv X pins σ (upd H p (.lst (L'.map fun q => V.ref q.1))) ⟨h', s.gens, d', t', s.os⟩ :=
    I.call (ch := []) (Un.laid k hp free) (I.hok.laid k hp ⟨room, _, c, vals, hg⟩) I.bare (fun _ z => nomatch z)
  exact ⟨.ref p, _, J, rfl, q L' p pm ((pm.map (·.2)).nodup_iff.mpr R.nd) short pw free⟩
end
end OF
namespace OF
open PySem PySem.Spec PyProof.Rows L2
section
variable {X : Cx}
/-- x not in a tuple of data -/
def rNotInT (K : PySem.W.Frag) : R2 := fun x y H Q => ∃ d ds, Dp K H x d ∧ Dp K H y (.tuple ds) ∧ SeqAt.shaped d = true ∧ SeqAt.shaped (.tuple ds) = true ∧ Q (.bl (!ds.any fun z => PyData.eqv z d)) H
theorem op_notInT (hu : X.A.units + 65 < cLine) : OpR X (compareOp .NotIn) (rNotInT X.K) := by
  intro pins s σ H x y v u Q I rx ry h
  obtain ⟨d, ds, hd, he, sd, se, q⟩ := h
  obtain ⟨as, r1⟩ := Dp.reads I d x v hd rx
  obtain ⟨bs, r2⟩ := Dp.reads I (.tuple ds) y u he ry
  exact SeqAt.notIn_tuple_reads r2 r1 (SeqAt.canLay_of_shaped se) (SeqAt.canLay_of_shaped sd) (room_in_shaped sd hu) ⟨.bl _, H, I, rfl, q⟩
end
end OF
/-! x in o and o == p of instances of an own class with __contains__, __eq__ of its own. -/
namespace OF
open PySem PySem.Spec PyProof.Rows L2
section
variable {M : Model} {A : Around} {E : Value → Shared → Prop} {s : Shared} {K : PySem.W.Frag} {x C f : Addr} {ox : Obj} {od : Option Obj} {v : Value}
theorem contains_own {Q : Bool → Shared → Prop} (X : K.In s.heap) (I : PySem.W.InstAt s.heap x ox C od) (hs : PySem.W.findIn K (.ref C) "__contains__" = some (some (.ref f))) (hf : PySem.W.isFn K (.ref f) = true)
    (h : wpAny M A (call (.ref f) [.ref x, v]) (fun r s' => ∃ b, r = .bool b ∧ Q b s') E s) : wpAny M A (contains (.ref x) v) Q E s := by
  unfold contains
  refine wpAny_holding ?_
  rw [show stdlibNamesSay? (.ref x) v = none from by unfold stdlibNamesSay?; split <;> simp_all]
  refine wpAny_bind (m := specialOf (.ref x) (Str.ofString "__contains__")) (wpAny_bind (I.type.here ((PySem.W.looks_findIn X hs).here ?_)))
  show wpAny M A (if (some (Value.ref f) == some Value.none) = true then _ else _) Q E s
  rw [if_neg (by simp)]
  refine wpAny_bind (m := callSpecialUnlessNone? (.ref x) (Str.ofString "__contains__") [v] _) ?_
  unfold callSpecialUnlessNone?
  refine wpAny_bind (m := specialOf (.ref x) (Str.ofString "__contains__")) (wpAny_bind (I.type.here ((PySem.W.looks_findIn X hs).here ?_)))
  refine wpAny_holding (wpAny_bind ((PySem.W.bind_fn X _ (beq_iff_eq.mp hf)).here ?_))
  show wpAny M A (if (Value.ref f == Value.none) = true then _ else _) _ E s
  rw [if_neg (by simp)]
  refine wpAny_bind (wpAny_mono h (fun r s' hr => ?_) fun _ _ e => e)
  obtain ⟨b, rfl, q⟩ := hr
  exact wpAny_pure (wpAny_pure q)
end
section
variable {X : Cx} {CX : CXT} {n : Nat} {f C : Addr} {fd : FuncData} {ps : List Str} {sp : Sp} {E : XK}
/-- x in o, o an instance of the class at C with its own __contains__ -/
def rInOwn (C : Addr) (sp : Sp) (E : XK) (neg : Bool) : R2 := fun x y H Q => ∃ a dx fs, y = .ref a ∧ H a = some (.ins C dx fs) ∧ sp [y, x] H (fun z H' => ∃ b : Bool, z = .bl b ∧ Q (.bl (if neg then !b else b)) H') E
theorem op_inOwn (hs : PySem.W.findIn X.K (.ref C) "__contains__" = some (some (.ref f))) (hf : PySem.W.isFn X.K (.ref f) = true) (F : FnOk X.prog X.w X.K X.mg X.base CX n f fd ps sp) (hb : Binds X.K fd ps []) (hr : Room n X.A) (hx : Passes CX X E) :
    OpR X (compareOp .In) (rInOwn C sp E false) := by
  intro pins s σ H x y v u Q I rx ry h
  obtain ⟨a, dx, fs, rfl, ha, q⟩ := h
  cases (show u = Value.ref a from ry)
  obtain ⟨mA, J, _⟩ := ins_get I.hok ha
  obtain ⟨od, J, _⟩ := J.look
  show wpAny _ _ (do return Value.bool (← contains (.ref a) v)) _ _ _
  refine wpAny_bind (contains_own I.kIn J hs hf (wpAny_mono (run_fn (us := [.ref a, v]) (vs := [.ref a, x]) F hr hb .nil hx I (.cons rfl (.cons rx .nil)) q) (fun r s' z => ?_) fun _ _ e => e))
  obtain ⟨z', H', I', rz, b, rfl, q'⟩ := z
  cases rz
  exact ⟨b, rfl, wpAny_pure ⟨.bl b, H', I', rfl, q'⟩⟩
theorem op_notInOwn (hs : PySem.W.findIn X.K (.ref C) "__contains__" = some (some (.ref f))) (hf : PySem.W.isFn X.K (.ref f) = true) (F : FnOk X.prog X.w X.K X.mg X.base CX n f fd ps sp) (hb : Binds X.K fd ps []) (hr : Room n X.A) (hx : Passes CX X E) :
    OpR X (compareOp .NotIn) (rInOwn C sp E true) := by
  intro pins s σ H x y v u Q I rx ry h
  obtain ⟨a, dx, fs, rfl, ha, q⟩ := h
  cases (show u = Value.ref a from ry)
  obtain ⟨mA, J, _⟩ := ins_get I.hok ha
  obtain ⟨od, J, _⟩ := J.look
  show wpAny _ _ (do return Value.bool (!(← contains (.ref a) v))) _ _ _
  refine wpAny_bind (contains_own I.kIn J hs hf (wpAny_mono (run_fn (us := [.ref a, v]) (vs := [.ref a, x]) F hr hb .nil hx I (.cons rfl (.cons rx .nil)) q) (fun r s' z => ?_) fun _ _ e => e))
  obtain ⟨z', H', I', rz, b, rfl, q'⟩ := z
  cases rz
  exact ⟨b, rfl, wpAny_pure ⟨.bl (!b), H', I', rfl, q'⟩⟩
/-- o == p, two instances of the class at C with its own __eq__ -/
def rEqOwn (C : Addr) (sp : Sp) (E : XK) : R2 := fun x y H Q => ∃ a dx fs b dy gs, x = .ref a ∧ y = .ref b ∧ H a = some (.ins C dx fs) ∧ H b = some (.ins C dy gs) ∧ sp [x, y] H (fun z H' => ∃ b : Bool, z = .bl b ∧ Q z H') E
theorem op_eqOwn (hs : PySem.W.findIn X.K (.ref C) "__eq__" = some (some (.ref f))) (hf : PySem.W.isFn X.K (.ref f) = true) (F : FnOk X.prog X.w X.K X.mg X.base CX n f fd ps sp) (hb : Binds X.K fd ps []) (hr : Room n X.A) (hx : Passes CX X E) :
    OpR X (compareOp .Eq) (rEqOwn C sp E) := by
  intro pins s σ H x y v u Q I rx ry h
  obtain ⟨a, dx, fs, b, dy, gs, rfl, rfl, ha, hb', q⟩ := h
  cases (show v = Value.ref a from rx)
  cases (show u = Value.ref b from ry)
  obtain ⟨mA, J, _⟩ := ins_get I.hok ha
  obtain ⟨od, J, _⟩ := J.look
  obtain ⟨mB, J', _⟩ := ins_get I.hok hb'
  obtain ⟨od', J', _⟩ := J'.look
  obtain ⟨m, hF⟩ := I.fr
  refine PySem.W.cmp_K (op := .Eq) (tb := .ref C) hr.units0 hF I.ok.mod.kin J J'.type (by simp [PySem.W.notFirst]) hs hf ?_
  refine wpAny_mono (run_fn (us := [.ref a, .ref b]) (vs := [.ref a, .ref b]) F hr hb .nil hx I (.cons rfl (.cons rfl .nil)) q) (fun w s' z => ?_) fun _ _ e => e
  obtain ⟨z', H', I', rz, c, rfl, q'⟩ := z
  cases rz
  exact ⟨.bl c, H', I', rfl, q'⟩
end
end OF
/-! tuples: t + u, t[lo:hi], t[::-1] where the answer may be an operand itself; zip of tuples walked. -/
namespace OF
open PySem PySem.Spec PyProof.Rows L2
section
variable {X : Cx}
/-- t + u -/
def rCat2 : R2 := fun x y H Q => ∃ a b xs ys, x = .ref a ∧ y = .ref b ∧ H a = some (.tup xs) ∧ H b = some (.tup ys) ∧ xs.length + ys.length ≤ sizeLine ∧ ∀ p H', Same H H' → H' p = some (.tup (xs ++ ys)) → Q (.ref p) H'
theorem op_cat2 : OpR X (binaryOp .Add) rCat2 := by
  intro pins s σ H x y v u Q I rx ry h
  obtain ⟨a, b, xs, ys, rfl, rfl, ha, hb, hz, q⟩ := h
  refine op_catA pins s σ H _ _ v u Q I rx ry ⟨a, b, xs, ys, rfl, rfl, SqT.of ha, SqT.of hb, hz, fun e => ?_, fun _ e => ?_, fun _ _ p hp => q p _ (same_new hp) upd_same⟩
  · subst e
    exact q b H (Same.refl H) hb
  · subst e
    exact q a H (Same.refl H) (by rw [List.append_nil]; exact ha)
theorem cutV_whole (xs : List V) (lo hi : Option Int) (h : HT.sIx xs.length 0 lo = 0 ∧ HT.sIx xs.length xs.length hi = xs.length) : cutV xs lo hi = xs := by
  unfold cutV
  rw [h.1, h.2, List.drop_zero, Nat.sub_zero, List.take_length]
/-- t[lo:hi] -/
def rSl2 : V → Option Int → Option Int → Hp → VK → Prop := fun x lo hi H Q => ∃ a xs, x = .ref a ∧ H a = some (.tup xs) ∧ ∀ p H', Same H H' → H' p = some (.tup (cutV xs lo hi)) → Q (.ref p) H'
theorem sl_tup2 : SlR X rSl2 := by
  intro pins s σ H x v vl vu lo hi sl Q I rx hs pl pu h
  obtain ⟨a, xs, rfl, hx, q⟩ := h
  refine sl_tupA pins s σ H _ v vl vu lo hi sl Q I rx hs pl pu ⟨a, xs, rfl, SqT.of hx, fun e => q a H (Same.refl H) (by rw [cutV_whole xs lo hi e]; exact hx), fun _ p hp => q p _ (same_new hp) upd_same⟩
end
/-! ### t[::-1] -/
section
variable {prog : Program} {w : World} {A : Around} {E : Value → Shared → Prop} {s : Shared}
theorem sliceApplied_rev {sl : Addr} {vs : Value} {n : Nat} {Q : Int × Int × Nat → Shared → Prop} (hs : s.heap.IsSliceOf sl .none .none vs) (ps : PySem.IsPart vs (some (-1)))
    (h : Q ((n : Int) - 1, -1, n) s) : wpAny (model prog w) A (Builtin.Slice.sliceApplied (.ref sl) (pure (n : Int))) Q E s := by
  obtain ⟨os, hos, hcs, hds⟩ := id hs
  unfold Builtin.Slice.sliceApplied Builtin.Slice.sliceFields
  refine wpAny_bind (wpAny_bind (wpAny_field hos hds (x := .none) rfl (wpAny_bind (wpAny_field hos hds (x := .none) rfl (wpAny_bind (wpAny_field hos hds (x := vs) rfl (wpAny_pure ?_)))))))
  refine wpAny_bind (HT.slicePart_ ps ?_)
  show wpAny _ _ (if ((-1 : Int) == 0) = true then _ else _) _ _ s
  rw [if_neg (by decide)]
  refine wpAny_bind (slicePart_none (wpAny_bind (slicePart_none (wpAny_bind (wpAny_pure ?_)))))
  show wpAny _ _ (pure ((n : Int) - 1, (-1 : Int), Builtin.Slice.slicePlaces ((n : Int) - 1) (-1) (-1))) _ _ s
  have e : Builtin.Slice.slicePlaces ((n : Int) - 1) (-1) (-1) = n := by
    unfold Builtin.Slice.slicePlaces
    have h1 : ¬ ((-1 : Int) > 0) := by decide
    simp only [h1, if_false]
    split
    · rw [show (- -1 : Int) = 1 by decide, Int.ediv_one]
      omega
    · omega
  rw [e]
  exact wpAny_pure h
theorem fm_congr {α β : Type} {f g : α → Option β} : ∀ {l : List α}, (∀ x ∈ l, f x = g x) → l.filterMap f = l.filterMap g
  | [], _ => rfl
  | x :: l, h => by
    rw [List.filterMap_cons, List.filterMap_cons, h x List.mem_cons_self, fm_congr fun y hy => h y (List.mem_cons_of_mem _ hy)]
theorem pick_rev (xs : Array Value) : ((List.range xs.size).filterMap fun (k : Nat) => xs[(((xs.size : Int) - 1) + (k : Int) * (-1)).toNat]?).toArray = xs.toList.reverse.toArray := by
  have e : (List.range xs.size).filterMap (fun (k : Nat) => xs[(((xs.size : Int) - 1) + (k : Int) * (-1)).toNat]?) = ((List.range xs.size).map fun k => xs.size - 1 - k).filterMap (xs[·]?) := by
    rw [List.filterMap_map]
    refine fm_congr fun k hk => ?_
    have := List.mem_range.mp hk
    have e2 : (((xs.size : Int) - 1) + (k : Int) * (-1)).toNat = xs.size - 1 - k := by omega
    show _ = xs[xs.size - 1 - k]?
    rw [e2]
  rw [e, PySem.W.krv_range, List.filterMap_reverse, PySem.W.krv_all]
theorem getItem_tuple_rev {t sl : Addr} {items : Array Value} {vs : Value} {Q : Value → Shared → Prop} (ht : IsTup s.heap t items) (hs : s.heap.IsSliceOf sl .none .none vs) (ps : PySem.IsPart vs (some (-1)))
    (h : Q (.ref s.heap.objs.size) { s with heap := s.heap.push { cls := .type "tuple", data := .seq items.toList.reverse.toArray } })
    (hsz : items.size ≤ sizeLine) : wpAny (model prog w) A (getItem (.ref t) (.ref sl)) Q E s := by
  have htake : sizeOk (.seq items.toList.reverse.toArray) := by
    show items.toList.reverse.toArray.size ≤ sizeLine
    rw [List.size_toArray, List.length_reverse, Array.length_toList]
    exact hsz
  obtain ⟨os, hos, hcs, hds⟩ := id hs
  have hTs : s.TypeIs (.ref sl) "slice" := ⟨os, hos, hcs⟩
  unfold getItem
  try with_reducible refine wpAny_holding ?_
  first | refine wpAny_bind (wpAny_pure ?_) | skip
  refine wpAny_bind (wpAny_sequenceKey ht.typeIs (by decide) ?_)
  refine wpAny_bind (wpAny_callSpecial?_slot (name := Str.ofString "__getitem__") ht.typeIs PyProof.Rows.slot_tuple_getitem
    (wpAny_call_entry PyProof.Rows.slot_tuple_getitem ht.typeIs entry_tuple_getitem ?_ (args_tuple_getitem _ _)))
  show wpAny _ _ (Builtin.Tuple.tupleItemsOf (.ref t) >>= _) _ _ s
  refine wpAny_bind (tupleItemsOf_ ht ?_)
  refine wpAny_bind (wpAny_typeOf hTs ?_)
  rw [if_pos (by decide)]
  refine wpAny_bind (sliceApplied_rev hs ps ?_)
  have hno : ¬ ((((items.size : Int) - 1) == 0 && (-1 : Int) == 1 && items.size == items.size) = true) := by
    intro q
    rw [Bool.and_eq_true, Bool.and_eq_true] at q
    exact absurd q.1.2 (by decide)
  show wpAny _ _ (if (((items.size : Int) - 1) == 0 && (-1 : Int) == 1 && items.size == items.size) = true then _ else _) _ _ s
  rw [if_neg hno, pick_rev]
  first
    | exact wpAny_bind (m := Builtin.Tuple.tupleExact _) (wpAny_newObj_type (wpAny_pure ⟨_, rfl, wpAny_pure h⟩) htake)
    | exact wpAny_bind (m := Builtin.Tuple.tupleExact _) (wpAny_newObj_type (wpAny_bind (wpAny_pure (wpAny_pure ⟨_, rfl, wpAny_pure h⟩))) htake)
    | exact wpAny_bind (wpAny_bind (m := Builtin.Tuple.tupleExact _) (wpAny_newObj_type (wpAny_pure (wpAny_pure ⟨_, rfl, wpAny_pure h⟩)) htake))
    | exact wpAny_bind (wpAny_bind (m := Builtin.Tuple.tupleExact _) (wpAny_newObj_type (wpAny_pure ⟨_, rfl, wpAny_pure h⟩) htake))
end
section
variable {X : Cx}
def tRevT (K : PySem.W.Frag) (te : TE) : TE := fun σ H Q => te σ H fun x H1 => ∃ a xs, x = .ref a ∧ SqT K H1 a xs ∧ ∀ p, H1 p = none → Q (.ref p) (upd H1 p (.tup xs.reverse))
theorem pe_revT {e : Expr} {te : TE} {k : Nat} {p1 p2 p3 pos : Pos} (he : PE X e te) : PE X (.Subscript e (.Slice none none (some (.UnaryOp .USub (.Constant (.int 1) k p1) p2)) p3) pos) (tRevT X.K te) := by
  refine ⟨fun pins s σ H Q I h => ?_⟩
  refine Subscript_ (thn (he.run pins s σ H _ I h) fun v s1 ⟨x, H1, I1, r1, q1⟩ => ?_)
  obtain ⟨a, xs, ex, hx, q⟩ := q1
  subst ex
  cases r1
  have hst : PO X (some (.UnaryOp .USub (.Constant (.int 1) k p1) p2)) (tPart (tUn (rU fun i => .int (-i)) (tC (.int 1)))) := po_some (pe_un un_neg pe_int)
  refine wpAny_Slice (thn (po_none.run pins s1 σ H1 (fun o H2 => o = none ∧ H2 = H1) I1 ⟨rfl, rfl⟩) fun vl s2 ⟨l, H2, I2, pl, el, e2⟩ => ?_)
  subst el e2
  refine thn (po_none.run pins s2 σ H2 (fun o H3 => o = none ∧ H3 = H2) I2 ⟨rfl, rfl⟩) fun vu s3 ⟨u, H3, I3, pu, eu, e3⟩ => ?_
  subst eu e3
  cases pl
  cases pu
  refine thn (hst.run pins s3 σ H3 (fun o H4 => o = some (-1) ∧ H4 = H3) I3 ⟨1, rfl, -1, rfl, rfl, rfl⟩) fun vs s4 ⟨o, H4, I4, ps, eo, e4⟩ => ?_
  subst eo e4
  have I5 : Inv X pins σ H4 { s4 with heap := s4.heap.push { cls := .type "slice", data := .fields #[.none, .none, vs] } } := I4.kept (t' := s4.toks) fun b ob q => Heap.get?_push_of_some _ q
  obtain ⟨its, r, ht, hz⟩ := I5.tuple hx
  have hlen := r.length
  show wpAny (model X.prog X.w) X.A (subscriptTail e (.Slice none none (some (.UnaryOp .USub (.Constant (.int 1) k p1) p2)) p3) (.ref a) (.ref s4.heap.objs.size)) (EP X pins σ Q) X.xe { s4 with heap := s4.heap.push { cls := .type "slice", data := .fields #[.none, .none, vs] } }
  refine tail_any (ops := [.ref a, .ref s4.heap.objs.size]) ht.typeIs (PyProof.Rows.slot_tuple_getitem.lookup) ?_ (by with_unfolding_all rfl)
  refine getItem_tuple_rev ht (Heap.IsSliceOf.new _ .none .none vs) ps ?_ (by rw [List.size_toArray]; omega)
  refine ⟨.ref _, _, I5.laid (t' := s4.toks) (o := .tup xs.reverse) (fun b ob q => Heap.get?_push_of_some _ q) (Nat.le_refl _) ?_, rfl, q _ (I5.hok.fresh (Nat.le_refl _))⟩
  exact ⟨by rw [List.length_reverse]; exact hz, _, r.reverse, _, Heap.get?_push_size _ rfl, rfl, _, rfl⟩
end
/-- zip of two tuples of one length -/
theorem walk_zipT {K : PySem.W.Frag} {a b : Addr} {xs ys : List V} {n : Nat} (h1 : xs.length = n) (h2 : n ≤ ys.length) : Walk (RZ.ItzT K a b) n (fun H => SqT K H a xs ∧ SqT K H b ys) (YPair (fun i => xs[i]?) (fun i => ys[i]?)) :=
  ⟨fun i _ hi q => ⟨xs, ys, xs[i]'(by omega), ys[i]'(by omega), q.1, q.2, List.getElem?_eq_getElem _, List.getElem?_eq_getElem _⟩, fun _ q => ⟨xs, ys, q.1, q.2, .inl (by omega)⟩, fun _ _ _ _ _ q ⟨T, x, y, e, hT, eH, hx, hy⟩ => ⟨T, x, y, e, hT, eH, hx xs q.1, hy ys q.2⟩⟩
end OF
/-! o.m(k = v, ..) by names alone; o.m(e) within a try, m may raise. -/
namespace OF
open PySem PySem.Spec PyProof.Rows L2
section
variable {X : Cx} {CX : CXT} {k n : Nat} {f C : Addr} {fd : FuncData} {ps ks : List Str} {sp : Sp} {E : XK} {m : Str} {p apos pos : Pos} {o e : Expr} {es : List Expr} {kws : List Keyword} {ta : TE} {t tk : TA} {g : List Value → List Value → List Value} {gV : List V → List V → List V}
def tMethN (C : Addr) (m : Str) (j : Nat) (sp : Sp) (gV : List V → List V → List V) (E : XK) (ta : TE) (tk : TA) : TE := fun σ H Q => ta σ H fun x H1 => ∃ a dx fs, x = .ref a ∧ H1 a = some (.ins C dx fs) ∧ fs.lookup m = none ∧
  tk σ H1 fun zs H2 => zs.length = j ∧ sp (gV [x] zs) H2 Q E
theorem pe_methN0 {pl : Sem Bool} (he : PE X o ta) (c : Cls X.K C) (hm : Meth X.K C m f) (F : FnOk X.prog X.w X.K X.mg X.base CX k f fd ps sp) (hr : Room k X.A) (hb : KBn X.K fd ps 1 ks g gV) (hx : Passes CX X E) (hkw : PK X kws tk)
    (hall : (backToKw pos (keywordEach kws X.env)).all (·.1.isSome) = true := by rfl) (hks : (backToKw pos (keywordEach kws X.env)).filterMap (·.1) = ks := by rfl)
    (hpl : ((backTo pos (starEach [] X.env)).any (·.1) || (backToKw pos (keywordEach kws X.env)).any (·.1.isNone)) = false := by rfl)
    (ht : eval (.Call (.Attribute o m apos) [] kws pos) X.env = (do
      let ov ← eval o X.env
      standAt apos.atName
      let (f, first) ← holding [ov] (getMethod ov m pl)
      callWith pos f first (backTo pos (starEach [] X.env)) (backToKw pos (keywordEach kws X.env))) := by rfl) :
    PE X (.Call (.Attribute o m apos) [] kws pos) (tMethN C m ks.length sp gV E ta tk) := by
  refine ⟨fun pins s σ H Q I h => ?_⟩
  refine PySem.W.methodCall_KW (pl := pl) (thn (he.run pins s σ H _ I h) fun u s1 ⟨x, H1, I1, rx, a, dx, fs, ex, ea, l, q⟩ => ?_) ht
  subst ex
  obtain rfl : u = Value.ref a := rx
  refine getmeth_ok I1 ea c hm l ?_
  refine PySem.W.callWith_KW0 (first := [.ref a]) (h₀ := X.base) I.ok.mod.kin hm.kp hall (thn (hkw.run pos pins s1 σ H1 _ I1 q) fun ws s2 ⟨zs, H2, I2, rz, l2, q2⟩ => ⟨I2.kIn, ?_⟩) hpl
  rw [hks]
  exact run_fnN (us := [.ref a]) (vs := [.ref a]) F hr hb hx I2 (.cons rfl .nil) rz rfl l2 q2
def tMethS (C : Addr) (m : Str) (sp : Sp) (E : L2.St → XK) (ta : TE) (t : TA) : TE := fun σ H Q => ta σ H fun x H1 => ∃ a dx fs, x = .ref a ∧ H1 a = some (.ins C dx fs) ∧ fs.lookup m = none ∧
  t σ H1 fun vs H2 => sp (x :: vs) H2 Q (E σ)
theorem pe_methSX {pl : Sem Bool} {E : L2.St → XK} (he : PE X o ta) (c : Cls X.K C) (hm : Meth X.K C m f) (F : FnOk X.prog X.w X.K X.mg X.base CX k f fd ps sp) (hr : Room k X.A) (hb : Binds X.K fd ps []) (hx : ∀ σ, PassesAt CX X σ (E σ)) (ha : PA X (e :: es) t)
    (hst : starEach (e :: es) X.env = (false, eval e X.env) :: starEach es X.env := by rfl) (hpl : (backTo pos (starEach es X.env)).any (·.1) = false := by rfl)
    (ht : eval (.Call (.Attribute o m apos) (e :: es) [] pos) X.env = (do
      let ov ← eval o X.env
      standAt apos.atName
      let (f, first) ← holding [ov] (getMethod ov m pl)
      callWith pos f first (backTo pos (starEach (e :: es) X.env)) (backToKw pos (keywordEach [] X.env))) := by rfl) :
    PE X (.Call (.Attribute o m apos) (e :: es) [] pos) (tMethS C m sp E ta t) := by
  refine ⟨fun pins s σ H Q I h => ?_⟩
  refine PySem.W.methodCall_KW (pl := pl) (thn (he.run pins s σ H _ I h) fun u s1 ⟨x, H1, I1, rx, a, dx, fs, ex, ea, l, q⟩ => ?_) ht
  subst ex
  obtain rfl : u = Value.ref a := rx
  refine getmeth_ok I1 ea c hm l ?_
  refine PySem.W.callWith_K (first := [.ref a]) (h₀ := X.base) I.ok.mod.kin hm.kp (thn (ha.run pos pins s1 σ H1 _ I1 q) fun us s2 ⟨vs, H2, I2, r, q2⟩ => ⟨I2.kIn, ?_⟩) hst hpl
  exact run_fnS (us := .ref a :: us) (vs := .ref a :: vs) F hr hb (hx σ) I2 (.cons rfl r) q2
end
end OF
/-! try: .. with several clauses «except X as n». -/
namespace OF
open PySem PySem.Spec PyProof.Rows L2
/-- behind a clause its name (slot i) is gone -/
def dropE (i : Nat) (D : Ends) : Ends := ⟨fun τ J => D.nx (τ.set i none) J, D.rt, fun τ J => D.bk (τ.set i none) J, fun τ J => D.ct (τ.set i none) J⟩
/-- the clauses: class, the name's slot, the suite's reading -/
abbrev Clauses := List (Value × Nat × (Addr → Value → Option Addr → TS))
def wManyA (K : PySem.W.Frag) (Wout : WX) (D : Ends) : Clauses → WX
  | [] => Wout
  | t :: rest => fun kl d τ J => ∃ b, PySem.W.exmOne K kl t.1 = some b ∧ (b = true → ∀ q, J q = none → t.2.2 q kl d (dropE t.2.1 D) (τ.set t.2.1 (some (.ref q))) J) ∧ (b = false → wManyA K Wout D rest kl d τ J)
inductive HdA (X : Cx) : List ExceptHandler → Clauses → Prop
  | nil : HdA X [] []
  | cons {x m : Str} {c : Value} {i : Nat} {ts : Addr → Value → Option Addr → TS} {first : Stmt} {suite : List Stmt} {p1 p2 : Pos} {more : List ExceptHandler} {l : Clauses} (named : Names X x c) (slot : X.N[i]? = some m) (own : X.env.kindOf m = some .local)
      (run : ∀ (q : Addr) (oe : Obj) (kl : Value) (d : Option Addr) (pn : List (Addr × Obj)), Zc kl d oe → (∃ vs, oe.data = .fields vs) → PSs (X.suite q ((q, oe) :: pn)) (first :: suite) (ts q kl d)) (rest : HdA X more l) :
      HdA X (.ExceptHandler (some (.Name x p1)) (some m) (first :: suite) p2 :: more) ((c, i, ts) :: l)
section
variable {X : Cx} {body : List Stmt} {h0 : ExceptHandler} {more : List ExceptHandler} {l : Clauses} {pos : Pos} {tb : WX → TS} {Wout : WX}
theorem not_frame {a : Addr} {B : Heap} {L : List Env} {h : Heap} {o : Obj} {vs : Array Value} (ff : h.FunFrames B L) (e : h.get? a = some o) (dd : o.data = .fields vs) : a ∉ frs L := by
  intro hm
  obtain ⟨_, o2, e2, no⟩ := ff.mem hm
  rw [e] at e2
  cases e2
  exact no _ dd
theorem ps_try_manyA (hs : X.stack = X.env :: X.outer) (hf : X.env.frame = some X.env.locals) (nd : X.N.Nodup) (tk : Takes X Wout)
    (hb : ∀ (W : WX) (pn : List (Addr × Obj)) (xe : Value → Shared → Prop), Takes (X.tr pn xe) W → PassesOwn (model X.prog X.w) X.A X.env xe → PSs (X.tr pn xe) body (tb W))
    (hh : HdA X (h0 :: more) l) : PS X (.Try body (h0 :: more) [] [] pos) (fun D τ J => tb (wManyA X.K Wout D l) D τ J) := by
  constructor
  intro pins s τ J D I reading
  have fine := I.ok
  have frames : X.A.frames = some (X.env :: X.outer) := fine.frames.trans (by rw [hs])
  refine wpAny_Try_except ?_
  refine wpAny_mono ((hb (wManyA X.K Wout D l) (X.pn ++ pins) (fun e t1 => wpAny (model X.prog X.w) X.A (noteFrame e X.env)
      (fun _ t2 => wpAny (model X.prog X.w) X.A (setFlight e none) (fun _ t3 => wpAny (model X.prog X.w) X.A (handleBy e X.env (h0 :: more)) (SP X pins D) X.xe t3) X.xe t2) X.xe t1) ?caught PassesOwn.looking).run [] s τ J D (I.toTry _) reading) ?through fun _ _ z => z
  case through =>
    intro fl t1 w
    cases fl with
    | next =>
      obtain ⟨τ1, J1, I1, z⟩ := w
      exact wpAny_execs_nil ⟨τ1, J1, I1.ofTry fine, z⟩
    | brk => exact let ⟨τ1, J1, I1, z⟩ := w; ⟨τ1, J1, I1.ofTry fine, z⟩
    | cont => exact let ⟨τ1, J1, I1, z⟩ := w; ⟨τ1, J1, I1.ofTry fine, z⟩
    | ret u => exact let ⟨v, τ1, J1, I1, r, z⟩ := w; ⟨v, τ1, J1, I1.ofTry fine, r, z⟩
  case caught =>
    intro u t1 raised
    obtain ⟨a, B, sI, pins2, τ1, J1, kl, d, rfl, I0, nb, up, sky, na, os, ag, wish⟩ := raised
    have I1 : Inv X pins τ1 J1 sI := I0.ofTry fine
    have sky1 : Sky B (X.env :: X.outer) a (Zc kl d) X.env.locals t1.heap := hs ▸ sky
    show wpAny (model X.prog X.w) X.A (noteFrame (.ref a) X.env) _ _ _
    refine Sky.land Zc.steady frames hf sky1 fun g fl up2 => ?_
    have I2 : Inv X pins τ1 J1 { t1 with heap := g } := I1.landed nb fl.1 (up.trans up2) os ag
    obtain ⟨oe, vs, at_e, ze, fe⟩ := fl.there
    have nf := not_frame fl.2.2.1 at_e fe
    have aL : a ≠ X.env.locals := fun z => nf (List.mem_filterMap.mpr ⟨X.env, List.mem_cons_self, hf.trans (congrArg some z.symm)⟩)
    have aF : a ∉ X.fs := fun hm => by
      obtain ⟨en, hen, q⟩ := List.mem_filterMap.mp hm
      exact nf (List.mem_filterMap.mpr ⟨en, List.mem_cons_of_mem _ hen, q⟩)
    have inSuite := I2.suite at_e fe na aL aF
    suffices go : ∀ {hds : List ExceptHandler} {cl : Clauses}, HdA X hds cl → wManyA X.K Wout D cl kl d τ1 J1 → wpAny (model X.prog X.w) X.A (handleBy (.ref a) X.env hds) (SP X pins D) X.xe { t1 with heap := g } from go hh wish
    intro hds cl hk
    induction hk with
    | nil =>
      intro out
      refine wpAny_handleBy_nil ?_
      obtain ⟨_, _, _, o1, _, T, _, _, at1, _, f1, i1, _⟩ := id fl
      unfold PySem.passOn
      refine wpAny_bind (wpAny_field at1 f1 i1 ?_)
      rw [if_neg (fun z => by simp at z)]
      have last : wpAny (model X.prog X.w) X.A (setFlight (.ref a) X.env.frame) (fun _ t4 => wpAny (model X.prog X.w) X.A (throw (.ref a) : Sem Flow) (SP X pins D) X.xe t4) X.xe { t1 with heap := g } := by
        rw [hf]
        refine HandSPX.setFlight_upZ fl fun g2 hg2 up3 => wpAny_throw (tk _ _ ⟨a, B, sI, pins, τ1, J1, kl, d, rfl, I1, nb, (up.trans up2).trans up3, .inr (.inr ?_), na, os, ag, out⟩)
        rw [hs]
        exact hg2
      first
        | exact wpAny_bind (wpAny_pure (wpAny_bind last))
        | exact wpAny_bind last
    | @cons x m c i ts first suite p1 p2 more2 l2 named slot own run _ ih =>
      intro w
      obtain ⟨b, asked, yes, no⟩ := w
      refine wpAny_handleBy_cons (codeAny_handlers_test ?_) (fun z => nomatch z)
      have isT : PySem.W.Looks (model X.prog X.w) g (typeOf (.ref a)) kl := fun _ _ _ t4 k z => wpAny_typeOf_ref (k _ _ at_e) (by rw [ze.1]; exact z)
      have isM := PySem.W.exm_one (M := model X.prog X.w) (I2.kIn) isT asked
      have name : ∀ {R E : Value → Shared → Prop}, R c { t1 with heap := g } → wpAny (model X.prog X.w) (X.A.mark (some (.ref a))) (eval (.Name x p1) X.env) R E { t1 with heap := g } := by
        intro R E z
        obtain ⟨gl, nodbg, mine | ⟨free, boot, nn⟩⟩ := named
        · exact ld_glob (X := X.suite a ((a, oe) :: (X.pn ++ pins))) inSuite gl mine z nodbg
        · exact ld_blt (X := X.suite a ((a, oe) :: (X.pn ++ pins))) inSuite gl free boot z nn nodbg
      refine name (isM.here ?_)
      cases b with
      | false =>
        show wpAny _ X.A (handleBy (.ref a) X.env more2) _ _ _
        exact ih (no rfl)
      | true =>
        refine codeAny_handlers_suite_as (HandSPX.lands_againZ fl fun g2 fl2 up3 => ?_)
        have I3 : Inv X pins τ1 J1 { t1 with heap := g2 } := I1.landed nb fl2.1 ((up.trans up2).trans up3) os ag
        obtain ⟨oe2, vs2, at2, ze2, fe2⟩ := fl2.there
        have S := I3.suite at2 fe2 na aL aF
        refine store_ok (X := X.suite a ((a, oe2) :: (X.pn ++ pins))) (v := .ref a) S nd slot (.inl own) rfl (fun t5 S5 => ?_) (.inr own)
        refine wpAny_mono ((run a oe2 kl d (X.pn ++ pins) ze2 ⟨_, fe2⟩).run [] t5 _ J1 _ S5 (yes rfl a na)) ?_ fun _ _ z => z.elim
        intro fl6 t6 w6
        have gone : ∀ {τ6 : L2.St} {J6 : Hp} {R : Shared → Prop}, Inv (X.suite a ((a, oe2) :: (X.pn ++ pins))) [] τ6 J6 t6 → (∀ t7, Inv X pins (τ6.set i none) J6 t7 → R t7) →
            wpAny (model X.prog X.w) X.A (do bindName X.env m .none; unbindBehindTheSuite X.env m p2) (fun _ t7 => R t7) X.xe t6 := fun S6 z => gone_ok (S6.unsuite fine) nd slot own z
        cases fl6 with
        | next => exact let ⟨τ6, J6, S6, z⟩ := w6; gone S6 fun _ I7 => ⟨_, _, I7, z⟩
        | brk => exact let ⟨τ6, J6, S6, z⟩ := w6; gone S6 fun _ I7 => ⟨_, _, I7, z⟩
        | cont => exact let ⟨τ6, J6, S6, z⟩ := w6; gone S6 fun _ I7 => ⟨_, _, I7, z⟩
        | ret u => exact let ⟨v6, τ6, J6, S6, r6, z⟩ := w6; gone S6 fun _ I7 => ⟨_, _, _, I7, r6, z⟩
end
end OF
namespace K11
open PySem PySem.Spec PyProof.Rows L2 OF
def topS (i : Nat) : Stmt := PySem.Challenge.pw_oddfigures_k11_steps_by_clauses.main.body.getD i (.Pass ⟨0, 0, 0, 0⟩)
abbrev sWhole : Stmt := topS 16
abbrev sIsInt : Stmt := topS 17
abbrev sIsBase : Stmt := topS 18
abbrev sIsDigit : Stmt := topS 19
abbrev sAre : Stmt := topS 20
abbrev sLeft : Stmt := topS 24
abbrev sBehind : Stmt := topS 25
abbrev sOneOf : Stmt := topS 27
abbrev sIsPair : Stmt := topS 28
abbrev sDigList : Stmt := topS 29
abbrev sDiffDig : Stmt := topS 30
abbrev sDiffPair : Stmt := topS 31
abbrev sIsSch : Stmt := topS 35
abbrev sCheckS : Stmt := topS 36
abbrev sCheckN : Stmt := topS 37
abbrev sIsRight : Stmt := topS 38
abbrev sCheckP : Stmt := topS 39
abbrev sCore : Stmt := topS 40
abbrev sSteps : Stmt := topS 41
abbrev sCell : Stmt := topS 43
abbrev sBox : Stmt := topS 44
abbrev sTake : Stmt := topS 45
abbrev sMixed : Stmt := topS 46
abbrev sDigits : Stmt := topS 47
abbrev sPairs : Stmt := topS 48
abbrev sScheme : Stmt := topS 49
abbrev sMade : Stmt := topS 50
abbrev sFits : Stmt := topS 51
abbrev sLSteps : Stmt := topS 52
abbrev sNumber : Stmt := topS 53
abbrev sTold : Stmt := topS 54
abbrev sRefused : Stmt := topS 55
abbrev sRight : Stmt := topS 56
abbrev sNames : Stmt := topS 57
abbrev sLaw : Stmt := topS 58
abbrev sInit : Stmt := inClass (topS 33) 0
abbrev sPBase : Stmt := inClass (topS 33) 1
abbrev sPDigits : Stmt := inClass (topS 33) 2
abbrev sAllows : Stmt := inClass (topS 33) 9
abbrev sFig : Stmt := inClass (topS 2) 0
abbrev sInBase : Stmt := inClass (topS 3) 0
abbrev sInDig : Stmt := inClass (topS 4) 0
abbrev sInBars : Stmt := inClass (topS 5) 0
abbrev sInNum : Stmt := inClass (topS 8) 0
abbrev sUnk : Stmt := inClass (topS 9) 0
abbrev sNotS : Stmt := inClass (topS 10) 0
section
variable {P : Program} {w : World} {K : PySem.W.Frag} {mg : Str → Option Value} {base : Heap}

/-- is_whole -/
def spWhole : Sp := fun vs H Q _ => ∃ x : V, vs = [x] ∧ ((∃ n : Int, x = .int n ∧ Q (.bl true) H) ∨ (Odd H x ∧ Q (.bl false) H))
theorem scWh : FnScope ["value"] ["value"] (defScope sWhole) := ⟨rfl, rfl, rfl, by decide +kernel, rfl, by decide +kernel, by decide +kernel⟩
theorem ok_whole {f : Addr} {fd : FuncData} (F : Fun K "is_whole" "is_whole" sWhole f fd) (ms : mg "isinstance" = none) (mi : mg "int" = none) (mb : mg "bool" = none) : FnOk P w K mg base CX0 1 f fd ["value"] spWhole := by
  refine F.ok scWh (fun vs H Q E h => ?_) (fun cdv A outer s H vs Q E hr h => ?_)
  · obtain ⟨x, rfl, _⟩ := h
    rfl
  · obtain ⟨x, rfl, h⟩ := h
    refine ⟨_, pss_one (ps_ret (pe_and (pe_callB call_isi (by rfl) ms PyProof.Rows.boot_isinstance (pa_cons (pv 0) (pa_cons (pe_bltn (v := .ty "int") (by rfl) mi PyProof.Rows.boot_int rfl) pa_nil)))
      (pe_one (pe_not (pe_callB call_isi (by rfl) ms PyProof.Rows.boot_isinstance (pa_cons (pv 0) (pa_cons (pe_bltn (v := .ty "bool") (by rfl) mb PyProof.Rows.boot_bool rfl) pa_nil))))))), ?_⟩
    rcases h with ⟨n, rfl, q⟩ | ⟨o, q⟩
    · refine ⟨.int n, rfl, .int n, .ty "int", .type "int", .type "int", true, rfl, .ty _, .base (.int n), kit_ty (by decide +kernel), true, rfl, iteT ?_⟩
      exact ⟨.int n, rfl, .int n, .ty "bool", .type "int", .type "bool", false, rfl, .ty _, .base (.int n), kit_ty (by decide +kernel), false, rfl, q⟩
    · obtain ⟨t, b, ty, k1, k2⟩ := o.kit (K := K)
      refine ⟨x, rfl, x, .ty "int", t, .type "int", b, rfl, .ty _, ty, k1, b, rfl, ?_⟩
      cases b with
      | false => exact iteF q
      | true => exact iteT ⟨x, rfl, x, .ty "bool", t, .type "bool", true, rfl, .ty _, ty, k2 rfl, true, rfl, q⟩
/-- is_integer -/
def spIsInt : Sp := fun vs H Q _ => ∃ (x : V) (lo hi : Int), vs = [x, .int lo, .int hi] ∧ ((∃ n : Int, x = .int n ∧ Q (.bl (decide (lo ≤ n) && decide (n ≤ hi))) H) ∨ (Odd H x ∧ Q (.bl false) H))
def spIsDigit : Sp := fun vs H Q _ => ∃ (x : V), vs = [x] ∧ ((∃ n : Int, x = .int n ∧ Q (.bl (decide (-9 ≤ n) && decide (n ≤ 9))) H) ∨ (Odd H x ∧ Q (.bl false) H))
theorem scI : FnScope ["value", "low", "high"] ["value", "low", "high"] (defScope sIsInt) := ⟨rfl, rfl, rfl, by decide +kernel, rfl, by decide +kernel, by decide +kernel⟩
theorem ok_isint {f fW : Addr} {fd fdW : FuncData} (F : Fun K "is_integer" "is_integer" sIsInt f fd) (GW : FnOk P w K mg base CX0 1 fW fdW ["value"] spWhole) (gW : mg "is_whole" = some (.ref fW)) (kW : PySem.W.keepIn K (.ref fW) = true) (bW : Binds K fdW ["value"] []) : FnOk P w K mg base CX0 2 f fd ["value", "low", "high"] spIsInt := by
  refine F.ok scI (fun vs H Q E h => ?_) (fun cdv A outer s H vs Q E hr h => ?_)
  · obtain ⟨x, lo, hi, rfl, _⟩ := h
    rfl
  · obtain ⟨x, lo, hi, rfl, h⟩ := h
    refine ⟨_, pss_one (ps_ret (pe_and (pe_call GW hr (by rfl) gW kW bW .nil pass0 (pa_cons (pv 0) pa_nil)) (pe_one (pe_chain op_le op_le (pv 1) (pv 0) (pv 2))))), ?_⟩
    rcases h with ⟨n, rfl, q⟩ | ⟨o, q⟩
    · exact ⟨.int n, rfl, .int n, rfl, .inl ⟨n, rfl, true, rfl, iteT ⟨.int lo, rfl, .int n, rfl, lo, n, rfl, rfl, _, rfl, iteAnd (fun z => ⟨.int hi, rfl, n, hi, rfl, rfl, z⟩) q⟩⟩⟩
    · exact ⟨x, rfl, x, rfl, .inr ⟨o, false, rfl, iteF q⟩⟩
def isBase (n : Int) : Bool := (decide (2 ≤ n) && decide (n ≤ 6)) || (decide (-6 ≤ n) && decide (n ≤ -2))
def spIsBase : Sp := fun vs H Q _ => ∃ (x : V), vs = [x] ∧ ((∃ n : Int, x = .int n ∧ Q (.bl (isBase n)) H) ∨ (Odd H x ∧ Q (.bl false) H))
theorem scIB : FnScope ["value"] ["value"] (defScope sIsBase) := ⟨rfl, rfl, rfl, by decide +kernel, rfl, by decide +kernel, by decide +kernel⟩
theorem ok_isbase {f fI : Addr} {fd fdI : FuncData} {t : Tok} (F : Fun K "is_base" "is_base" sIsBase f fd) (GI : FnOk P w K mg base CX0 2 fI fdI ["value", "low", "high"] spIsInt) (gI : mg "is_integer" = some (.ref fI)) (kI : PySem.W.keepIn K (.ref fI) = true) (bI : Binds K fdI ["value", "low", "high"] [])
    (gG : mg "GREATEST_BASE" = some (.int 6 t)) : FnOk P w K mg base CX0 3 f fd ["value"] spIsBase := by
  refine F.ok scIB (fun vs H Q E h => ?_) (fun cdv A outer s H vs Q E hr h => ?_)
  · obtain ⟨x, rfl, _⟩ := h
    rfl
  · obtain ⟨x, rfl, h⟩ := h
    refine ⟨_, pss_one (ps_ret (pe_or (pe_call GI hr (by rfl) gI kI bI .nil pass0 (pa_cons (pv 0) (pa_cons pe_int (pa_cons (pe_glob (v := .int 6) rfl gG ⟨_, rfl⟩) pa_nil))))
      (pe_one (pe_call GI hr (by rfl) gI kI bI .nil pass0 (pa_cons (pv 0) (pa_cons (pe_un un_neg (pe_glob (v := .int 6) rfl gG ⟨_, rfl⟩)) (pa_cons (pe_un un_neg pe_int) pa_nil))))))), ?_⟩
    rcases h with ⟨n, rfl, q⟩ | ⟨o, q⟩
    · exact ⟨.int n, rfl, _, 2, 6, rfl, .inl ⟨n, rfl, _, rfl, iteOr (fun z => ⟨.int n, rfl, 6, rfl, 2, rfl, _, -6, -2, rfl, .inl ⟨n, rfl, z⟩⟩) q⟩⟩
    · exact ⟨x, rfl, _, 2, 6, rfl, .inr ⟨o, _, rfl, iteF ⟨x, rfl, 6, rfl, 2, rfl, _, -6, -2, rfl, .inr ⟨o, q⟩⟩⟩⟩
theorem scID : FnScope ["value"] ["value"] (defScope sIsDigit) := ⟨rfl, rfl, rfl, by decide +kernel, rfl, by decide +kernel, by decide +kernel⟩
theorem ok_isdigit {f fI : Addr} {fd fdI : FuncData} {t : Tok} (F : Fun K "is_digit" "is_digit" sIsDigit f fd) (GI : FnOk P w K mg base CX0 2 fI fdI ["value", "low", "high"] spIsInt) (gI : mg "is_integer" = some (.ref fI)) (kI : PySem.W.keepIn K (.ref fI) = true) (bI : Binds K fdI ["value", "low", "high"] [])
    (gG : mg "GREATEST_DIGIT" = some (.int 9 t)) : FnOk P w K mg base CX0 3 f fd ["value"] spIsDigit := by
  refine F.ok scID (fun vs H Q E h => ?_) (fun cdv A outer s H vs Q E hr h => ?_)
  · obtain ⟨x, rfl, _⟩ := h
    rfl
  · obtain ⟨x, rfl, h⟩ := h
    refine ⟨_, pss_one (ps_ret (pe_call GI hr (by rfl) gI kI bI .nil pass0 (pa_cons (pv 0) (pa_cons (pe_un un_neg (pe_glob (v := .int 9) rfl gG ⟨_, rfl⟩)) (pa_cons (pe_glob (v := .int 9) rfl gG ⟨_, rfl⟩) pa_nil))))), ?_⟩
    rcases h with ⟨n, rfl, q⟩ | ⟨o, q⟩
    · exact ⟨.int n, rfl, 9, rfl, _, -9, 9, rfl, .inl ⟨n, rfl, q⟩⟩
    · exact ⟨x, rfl, 9, rfl, _, -9, 9, rfl, .inr ⟨o, q⟩⟩
/-- a digit -/
def dig (n : Int) : Bool := decide (-9 ≤ n) && decide (n ≤ 9)
theorem same_seqT {K : PySem.W.Frag} {H H' : Hp} {a : Addr} {xs : List V} (s : Same H H') (h : SqT K H a xs) : SqT K H' a xs := by
  rcases h with (h | ⟨o, h⟩) | h
  · exact .inl (.inl (s _ _ h))
  · exact .inl (.inr ⟨o, s _ _ h⟩)
  · exact .inr h
/-- are_digits of a list or tuple of ints -/
def spAreI (K : PySem.W.Frag) : Sp := fun vs H Q _ => ∃ (p : Addr) (ns : List Int), vs = [.ref p] ∧ (SqL K H p (ns.map V.int) ∨ SqT K H p (ns.map V.int)) ∧ ns.length ≤ 1000 ∧ ∀ H', Same H H' → Q (.bl (ns.all dig)) H'
theorem scAr : FnScope ["items", "item"] ["items"] (defScope sAre) := ⟨rfl, rfl, rfl, by decide +kernel, rfl, by decide +kernel, by decide +kernel⟩
theorem ok_are {f fD : Addr} {fd fdD : FuncData} (F : Fun K "are_digits" "are_digits" sAre f fd) (GD : FnOk P w K mg base CX0 3 fD fdD ["value"] spIsDigit) (gD : mg "is_digit" = some (.ref fD)) (kD : PySem.W.keepIn K (.ref fD) = true) (bD : Binds K fdD ["value"] [])
    (mall : mg "all" = none) : FnOk P w K mg base CX0 4 f fd ["items"] (spAreI K) := by
  refine F.ok scAr (fun vs H Q E h => ?_) (fun cdv A outer s H vs Q E hr h => ?_)
  · obtain ⟨p, ns, rfl, _⟩ := h
    rfl
  · obtain ⟨p, ns, rfl, hp, hl, q⟩ := h
    have turn : ∀ (i : Nat) (n : Int) (H' : Hp) (D : Addr), H D = none → ns[i]? = some n → Same H H' →
        ((ns.take i).map fun n => V.bl (dig n)).length < sizeLine ∧ Same H (upd H' D (.lst (((ns.take i).map fun n => V.bl (dig n)) ++ [V.bl (dig n)]))) ∧ (upd H' D (.lst (((ns.take i).map fun n => V.bl (dig n)) ++ [V.bl (dig n)]))) D = some (.lst ((ns.take (i + 1)).map fun n => V.bl (dig n))) := by
      intro i n H' D hD hn s1
      refine ⟨?_, Same.store s1 hD, ?_⟩
      · rw [List.length_map]
        exact Nat.lt_of_le_of_lt (List.length_take_le' _ _) (small1000 hl)
      · rw [upd_same, take_more hn, List.map_append]
        rfl
    have done : ∀ (D : Addr) (H' : Hp), H' D = some (.lst ((ns.take (ns.map V.int).length).map fun n => V.bl (dig n))) → H' D = some (.lst ((ns.map dig).map V.bl)) ∧ (ns.map dig).all id = ns.all dig := by
      intro D H' e
      rw [List.length_map, List.take_length] at e
      refine ⟨by rw [e, List.map_map]; rfl, ?_⟩
      rw [List.all_map]
      rfl
    rcases hp with hp | hp
    · refine ⟨_, pss_one (ps_ret (pe_callB (cr_all rfl) (by rfl) mall (by decide +kernel) (pa_cons (pe_lc (own := [("item", 1)]) (g := gName 1) (tt := tYes) (te := tCall spIsDigit [] E0 (tCons (tVar 1) tNil)) rfl scAr.nd (pi_list (pv 0))
            (blkOk_by (own := [("item", 1)]) (N := ["items", "item"]) (sc := defScope sAre) (by decide +kernel)) (fun _ _ _ _ _ => pg_name (i := 1) scAr.nd rfl (Or.inl rfl)) (fun _ _ _ _ _ => pts_nil)
            (fun _ _ _ _ _ => by exact (pe_call GD hr (by rfl) gD kD bD .nil pass0 (pa_cons (pv 1) pa_nil)))) pa_nil))), ?_⟩
      refine ⟨.ref p, rfl, p, rfl, ⟨_, hp⟩, fun D hD => ?_⟩
      refine lc_list (K := K) (a := p) (xs := ns.map V.int) (fun i H' => Same H H' ∧ H' D = some (.lst ((ns.take i).map fun n => V.bl (dig n)))) ⟨same_new hD, upd_same⟩ (fun i H' _ h => h.1.seq hp) ?_ ?_
      · rintro i x H' hi ⟨s1, e1⟩
        obtain ⟨n, hn, rfl⟩ := get_map hi
        exact ⟨rfl, tYes_if ⟨.int n, rfl, .int n, rfl, .inl ⟨n, rfl, _, e1, turn i n H' D hD hn s1⟩⟩⟩
      · rintro H' ⟨s1, e1⟩
        obtain ⟨d1, d2⟩ := done D H' e1
        exact ⟨D, ns.map dig, rfl, SqL.of d1, by rw [d2]; exact q H' s1⟩
    · refine ⟨_, pss_one (ps_ret (pe_callB (cr_all rfl) (by rfl) mall (by decide +kernel) (pa_cons (pe_lc (own := [("item", 1)]) (g := gName 1) (tt := tYes) (te := tCall spIsDigit [] E0 (tCons (tVar 1) tNil)) rfl scAr.nd (pi_tup (pv 0))
            (blkOk_by (own := [("item", 1)]) (N := ["items", "item"]) (sc := defScope sAre) (by decide +kernel)) (fun _ _ _ _ _ => pg_name (i := 1) scAr.nd rfl (Or.inl rfl)) (fun _ _ _ _ _ => pts_nil)
            (fun _ _ _ _ _ => by exact (pe_call GD hr (by rfl) gD kD bD .nil pass0 (pa_cons (pv 1) pa_nil)))) pa_nil))), ?_⟩
      refine ⟨.ref p, rfl, p, rfl, ⟨_, hp⟩, fun D hD => ?_⟩
      refine lc_tup (K := K) (a := p) (xs := ns.map V.int) (fun i H' => Same H H' ∧ H' D = some (.lst ((ns.take i).map fun n => V.bl (dig n)))) ⟨same_new hD, upd_same⟩ (fun i H' _ h => same_seqT h.1 hp) ?_ ?_
      · rintro i x H' hi ⟨s1, e1⟩
        obtain ⟨n, hn, rfl⟩ := get_map hi
        exact ⟨rfl, tYes_if ⟨.int n, rfl, .int n, rfl, .inl ⟨n, rfl, _, e1, turn i n H' D hD hn s1⟩⟩⟩
      · rintro H' ⟨s1, e1⟩
        obtain ⟨d1, d2⟩ := done D H' e1
        exact ⟨D, ns.map dig, rfl, SqL.of d1, by rw [d2]; exact q H' s1⟩
/-- _is_one_of: the digits stand in a tuple -/
def spOneOf (K : PySem.W.Frag) : Sp := fun vs H Q _ => ∃ (t : Addr) (ds : List Int) (x : V), vs = [.ref t, x] ∧ SqT K H t (ds.map V.int) ∧ ((∃ n : Int, x = .int n ∧ Q (.bl (dig n && decide (n ∈ ds))) H) ∨ (Odd H x ∧ Q (.bl false) H))
theorem in_ints (n : Int) : ∀ ds : List Int, inV (.int n) (ds.map V.int) = decide (n ∈ ds)
  | [] => by
    show false = _
    rw [decide_eq_false (List.not_mem_nil)]
  | d :: ds => by
    show ((d == n) || inV (.int n) (ds.map V.int)) = _
    rw [in_ints n ds, Bool.eq_iff_iff]
    simp only [Bool.or_eq_true, beq_iff_eq, decide_eq_true_eq, List.mem_cons]
    constructor
    · rintro (h | h)
      · exact .inl h.symm
      · exact .inr h
    · rintro (h | h)
      · exact .inl h.symm
      · exact .inr h
theorem flat_ints : ∀ ds : List Int, (ds.map V.int).all flatV = true
  | [] => rfl
  | _ :: ds => flat_ints ds
theorem scOn : FnScope ["digits", "value"] ["digits", "value"] (defScope sOneOf) := ⟨rfl, rfl, rfl, by decide +kernel, rfl, by decide +kernel, by decide +kernel⟩
theorem ok_oneof {f fD : Addr} {fd fdD : FuncData} (F : Fun K "_is_one_of" "_is_one_of" sOneOf f fd) (GD : FnOk P w K mg base CX0 3 fD fdD ["value"] spIsDigit) (gD : mg "is_digit" = some (.ref fD)) (kD : PySem.W.keepIn K (.ref fD) = true) (bD : Binds K fdD ["value"] []) :
    FnOk P w K mg base CX0 4 f fd ["digits", "value"] (spOneOf K) := by
  refine F.ok scOn (fun vs H Q E h => ?_) (fun cdv A outer s H vs Q E hr h => ?_)
  · obtain ⟨t, ds, x, rfl, _⟩ := h
    rfl
  · obtain ⟨t, ds, x, rfl, ht, h⟩ := h
    refine ⟨_, pss_one (ps_ret (pe_and (pe_call GD hr (by rfl) gD kD bD .nil pass0 (pa_cons (pv 1) pa_nil)) (pe_one (pe_cmpR op_in_seq (pv 1) (pv 0) rfl)))), ?_⟩
    rcases h with ⟨n, rfl, q⟩ | ⟨o, q⟩
    · refine ⟨.int n, rfl, .int n, rfl, .inl ⟨n, rfl, _, rfl, iteAnd (fun z => ?_) q⟩⟩
      refine ⟨.int n, rfl, .ref t, rfl, t, _, rfl, .inr ht, rfl, flat_ints ds, ?_⟩
      have z2 := z
      rw [← in_ints n ds] at z2
      exact z2
    · exact ⟨x, rfl, x, rfl, .inr ⟨o, _, rfl, iteF q⟩⟩
/-- a list or tuple that was made in the law's run -/
def SeqAt' (H : Hp) (p : Addr) (xs : List V) : Prop := H p = some (.lst xs) ∨ H p = some (.tup xs)
theorem SeqAt'.same {H H' : Hp} {p : Addr} {xs : List V} (h : SeqAt' H p xs) (s : Same H H') : SeqAt' H' p xs := h.elim (fun e => .inl (s _ _ e)) fun e => .inr (s _ _ e)
theorem SeqAt'.sq {K : PySem.W.Frag} {H : Hp} {p : Addr} {xs : List V} (h : SeqAt' H p xs) : SqL K H p xs ∨ SqT K H p xs := h.elim (fun e => .inl (SqL.of e)) fun e => .inr (SqT.of e)
theorem SeqAt'.lt {K : PySem.W.Frag} {H : Hp} {p : Addr} {xs : List V} (h : SeqAt' H p xs) : ∃ t, TyX K H (.ref p) t ∧ PySem.W.kitAny K t [.type "list", .type "tuple"] = some true := by
  rcases h with e | e
  · exact ⟨_, .base (.lst e), kitAny_cons (b := true) (kit_ty (by decide +kernel)) (fun z => nomatch z) fun _ => rfl⟩
  · exact ⟨_, .base (.tup e), kitAny_cons (b := false) (kit_ty (by decide +kernel)) (fun _ => kitAny_cons (b := true) (kit_ty (by decide +kernel)) (fun z => nomatch z) fun _ => rfl) fun z => nomatch z⟩
def spDigList : Sp := fun vs H Q _ => ∃ (p : Addr) (ns : List Int), vs = [.ref p] ∧ SeqAt' H p (ns.map V.int) ∧ ns.length ≤ 1000 ∧ ∀ H', Same H H' → Q (.bl (ns.all dig)) H'
theorem scDl : FnScope ["value"] ["value"] (defScope sDigList) := ⟨rfl, rfl, rfl, by decide +kernel, rfl, by decide +kernel, by decide +kernel⟩
theorem ok_diglist {f fA : Addr} {fd fdA : FuncData} (F : Fun K "_is_digit_list" "_is_digit_list" sDigList f fd) (GA : FnOk P w K mg base CX0 4 fA fdA ["items"] (spAreI K)) (gA : mg "are_digits" = some (.ref fA)) (kA : PySem.W.keepIn K (.ref fA) = true) (bA : Binds K fdA ["items"] [])
    (mis : mg "isinstance" = none) (ml : mg "list" = none) (mt : mg "tuple" = none) : FnOk P w K mg base CX0 5 f fd ["value"] spDigList := by
  refine F.ok scDl (fun vs H Q E h => ?_) (fun cdv A outer s H vs Q E hr h => ?_)
  · obtain ⟨p, ns, rfl, _⟩ := h
    rfl
  · obtain ⟨p, ns, rfl, hp, hl, q⟩ := h
    refine ⟨_, pss_one (ps_ret (pe_and (pe_callB call_isiT (by rfl) mis PyProof.Rows.boot_isinstance (pa_cons (pv 0) (pa_cons (pe_tup (pa_cons (pe_bltn (v := .ty "list") (by rfl) ml PyProof.Rows.boot_list rfl) (pa_cons (pe_bltn (v := .ty "tuple") (by rfl) mt (by decide +kernel) rfl) pa_nil))) pa_nil)))
      (pe_one (pe_call GA hr (by rfl) gA kA bA .nil pass0 (pa_cons (pv 0) pa_nil))))), ?_⟩
    refine ⟨.ref p, rfl, (by show 2 ≤ sizeLine; decide), fun T hT => ?_⟩
    have s1 := same_new (o := .tup [.ty "list", .ty "tuple"]) hT
    obtain ⟨t, ty, k⟩ := (hp.same s1).lt (K := K)
    exact ⟨.ref p, T, _, t, _, true, rfl, upd_same, .cons (.ty _) (.cons (.ty _) .nil), ty, k, true, rfl, iteT ⟨.ref p, rfl, p, ns, rfl, (hp.same s1).sq, hl, fun H' s2 => q H' (s1.trans s2)⟩⟩
/-- _different_digits of digits that are right -/
def spDiffDig : Sp := fun vs H Q _ => ∃ (p : Addr) (ns : List Int), vs = [.ref p] ∧ SeqAt' H p (ns.map V.int) ∧ ns.length ≤ 60 ∧ ns.all dig = true ∧ (∀ ks : List Int, ks.Nodup → (∀ k, k ∈ ks ↔ k ∈ ns) → 1 ≤ ks.length ∧ ks.length ≤ 6) ∧
  ∀ (ds : List Int) (t : Addr) (H' : Hp), ds.Pairwise (· < ·) → (∀ k, k ∈ ds ↔ k ∈ ns) → Same H H' → H t = none → H' t = some (.tup (ds.map V.int)) → Q (.ref t) H'
theorem scDd : FnScope ["digits"] ["digits"] (defScope sDiffDig) := ⟨rfl, rfl, rfl, by decide +kernel, rfl, by decide +kernel, by decide +kernel⟩
theorem ok_diffdig {f fL fI C : Addr} {fd fdL fdI : FuncData} {t6 : Tok} (F : Fun K "_different_digits" "_different_digits" sDiffDig f fd) (GL : FnOk P w K mg base CX0 5 fL fdL ["value"] spDigList) (gL : mg "_is_digit_list" = some (.ref fL)) (kL : PySem.W.keepIn K (.ref fL) = true) (bL : Binds K fdL ["value"] [])
    (GI : FnOk P w K mg base CX0 3 fI fdI ["self", "value"] (spInit K "value" C)) (T : ErrC K mg "InvalidDigits" "value" C fI) (bI : Binds K fdI ["self", "value"] [])
    (g6 : mg "MOST_DIGITS" = some (.int 6 t6)) (ml : mg "len" = none) (ms : mg "set" = none) (mso : mg "sorted" = none) (mt : mg "tuple" = none) : FnOk P w K mg base (L2.CX P w) 6 f fd ["digits"] spDiffDig := by
  refine F.okX scDd (fun vs H Q E h => ?_) (fun cdv A outer s H vs Q E hr h => ?_)
  · obtain ⟨p, ns, rfl, _⟩ := h
    rfl
  · obtain ⟨p, ns, rfl, hp, hl, hd, h6, q⟩ := h
    have hr3 : Room 4 _ := hr.mono (by decide)
    apply Exists.intro
    apply And.intro
    · apply pss_cons
      · exact ps_if (PW.pt (pw_or (pt_not (pt_val (pe_call GL hr (by rfl) gL kL bL .nil pass0 (pa_cons (pv 0) pa_nil))))
            (pw_or1 (pt_not (pt_chain op_le op_le pe_int (pe_callB call_lenSetO (by rfl) ml PySem.boot_len (pa_cons (pe_callTy (cr_setI rfl) (by rfl) ms PyProof.Rows.boot_set (pa_cons (pv 0) pa_nil)) pa_nil)) (pe_glob (v := .int 6) (by rfl) g6 ⟨_, rfl⟩))))))
          (pss_one (ps_raise rfl (takes_of rfl rfl rfl rfl) (pmk_oex T.ox T.iC T.tI GI hr3 bI .nil pass0 (by rfl) T.g (pa_cons (pv 0) pa_nil)))) pss_nil
      apply pss_one
      · exact ps_ret (pe_callTy call_tuple_of (by rfl) mt (by decide +kernel) (pa_cons (pe_callB (cr_sortedSet rfl) (by rfl) mso (by decide +kernel) (pa_cons (pe_callTy (cr_setI rfl) (by rfl) ms PyProof.Rows.boot_set (pa_cons (pv 0) pa_nil)) pa_nil)) pa_nil))
    refine ⟨.ref p, rfl, p, ns, rfl, hp, by omega, fun H1 s1 => ?_⟩
    rw [hd]
    refine ⟨true, rfl, iteF ?_⟩
    refine ⟨.ref p, rfl, p, ns, rfl, (hp.same s1).sq, hl, fun S1 ks hS1 nd mem => ?_⟩
    obtain ⟨l1, l6⟩ := h6 ks nd mem
    refine ⟨S1, _, ks.length, rfl, upd_same, 1, (ks.length : Int), rfl, rfl, _, rfl, iteTB (decide_eq_true (by omega)) ⟨(ks.length : Int), 6, rfl, rfl, _, rfl, ?_⟩⟩
    refine iteFB (by rw [decide_eq_true (by omega : (ks.length : Int) ≤ 6)]; rfl) ?_
    have s2 : Same H (upd H1 S1 (SetO w S1 (fun j => decide (j ∈ ns)) ks.length)) := s1.trans (same_new hS1)
    refine ⟨.ref p, rfl, p, ns, rfl, (hp.same s2).sq, hl, fun S2 ks2 hS2 nd2 mem2 => ?_⟩
    obtain ⟨k1, k6⟩ := h6 ks2 nd2 mem2
    refine ⟨S2, _, _, rfl, upd_same, by omega, fun ds D asc mds lds hD => ?_⟩
    have s3 : Same H (upd (upd (upd H1 S1 (SetO w S1 (fun j => decide (j ∈ ns)) ks.length)) S2 (SetO w S2 (fun j => decide (j ∈ ns)) ks2.length)) D (.lst (ds.map V.int))) := s2.trans ((same_new hS2).trans (same_new hD))
    refine ⟨D, _, rfl, .inl ⟨SqL.of upd_same, fun t ht => ?_⟩⟩
    exact q ds t _ asc (fun k => (mds k).trans ⟨fun z => of_decide_eq_true z, fun z => decide_eq_true z⟩) (Same.store s3 (s3.free ht)) (s3.free ht) upd_same
/-- _is_pair of a tuple of two of the digits -/
def spIsPair (K : PySem.W.Frag) : Sp := fun vs H Q _ => ∃ (t p : Addr) (ds : List Int) (x y : Int), vs = [.ref t, .ref p] ∧ SqT K H t (ds.map V.int) ∧ H p = some (.tup [.int x, .int y]) ∧ (dig x = true ∧ x ∈ ds) ∧ (dig y = true ∧ y ∈ ds) ∧ ∀ H', Same H H' → Q (.bl true) H'
abbrev nIp : List Str := ["digits", "value", "item"]
theorem scIp : FnScope nIp ["digits", "value"] (defScope sIsPair) := ⟨rfl, rfl, rfl, by decide +kernel, rfl, by decide +kernel, by decide +kernel⟩
theorem ok_ispair {f fO : Addr} {fd fdO : FuncData} (F : Fun K "_is_pair" "_is_pair" sIsPair f fd) (GO : FnOk P w K mg base CX0 4 fO fdO ["digits", "value"] (spOneOf K)) (gO : mg "_is_one_of" = some (.ref fO)) (kO : PySem.W.keepIn K (.ref fO) = true) (bO : Binds K fdO ["digits", "value"] [])
    (mis : mg "isinstance" = none) (ml : mg "len" = none) (mall : mg "all" = none) (mt : mg "tuple" = none) : FnOk P w K mg base CX0 5 f fd ["digits", "value"] (spIsPair K) := by
  refine F.ok scIp (fun vs H Q E h => ?_) (fun cdv A outer s H vs Q E hr h => ?_)
  · obtain ⟨t, p, ds, x, y, rfl, _⟩ := h
    rfl
  · obtain ⟨t, p, ds, x, y, rfl, ht, hp, ⟨hx, mx⟩, ⟨hy, my⟩, q⟩ := h
    refine ⟨_, pss_one (ps_ret (pe_and (pe_callB call_isi (by rfl) mis PyProof.Rows.boot_isinstance (pa_cons (pv 1) (pa_cons (pe_bltn (v := .ty "tuple") (by rfl) mt (by decide +kernel) rfl) pa_nil)))
      (pe_and (pe_cmpR op_eq (pe_callB call_len_seq (by rfl) ml PySem.boot_len (pa_cons (pv 1) pa_nil)) pe_int (nomark _))
      (pe_one (pe_callB (cr_all rfl) (by rfl) mall (by decide +kernel) (pa_cons (pe_lc (own := [("item", 2)]) (g := gName 2) (tt := tYes) (te := tCall (spOneOf K) [] E0 (tCons (tVar 0) (tCons (tVar 2) tNil))) rfl scIp.nd (pi_tup (pv 1))
            (blkOk_by (own := [("item", 2)]) (N := nIp) (sc := defScope sIsPair) (by decide +kernel)) (fun _ _ _ _ _ => pg_name (i := 2) scIp.nd rfl (Or.inl rfl)) (fun _ _ _ _ _ => pts_nil)
            (fun _ _ _ _ _ => by exact (pe_call GO hr (by rfl) gO kO bO .nil pass0 (pa_cons (pv 0) (pa_cons (pv 2) pa_nil))))) pa_nil)))))), ?_⟩
    refine ⟨.ref p, rfl, .ref p, .ty "tuple", .type "tuple", .type "tuple", true, rfl, .ty _, .base (.tup hp), kit_ty (by decide +kernel), true, rfl, iteT ?_⟩
    refine ⟨.ref p, rfl, p, _, rfl, .inr (SqT.of hp), rfl, true, rfl, iteT ?_⟩
    refine ⟨.ref p, rfl, p, rfl, ⟨_, SqT.of hp⟩, fun D hD => ?_⟩
    refine lc_tup (K := K) (a := p) (xs := [V.int x, .int y]) (fun i H' => Same H H' ∧ H' D = some (.lst (List.replicate i (V.bl true)))) ⟨same_new hD, upd_same⟩ (fun i H' _ h => SqT.of (h.1 _ _ hp)) ?_ ?_
    · rintro i z H' hi ⟨s1, e1⟩
      have hz : ∃ n, z = .int n ∧ dig n = true ∧ n ∈ ds := by
        have m := List.mem_of_getElem? hi
        simp only [List.mem_cons, List.not_mem_nil, or_false] at m
        rcases m with rfl | rfl
        · exact ⟨x, rfl, hx, mx⟩
        · exact ⟨y, rfl, hy, my⟩
      obtain ⟨n, rfl, hn, mn⟩ := hz
      have hi2 := (List.getElem?_eq_some_iff.mp hi).1
      refine ⟨rfl, tYes_if ⟨.ref t, rfl, .int n, rfl, t, ds, .int n, rfl, same_seqT s1 ht, .inl ⟨n, rfl, ?_⟩⟩⟩
      rw [hn, decide_eq_true mn]
      refine ⟨_, e1, ?_, Same.store s1 hD, ?_⟩
      · rw [List.length_replicate]
        exact small1000 (Nat.le_trans (Nat.le_of_lt hi2) (by show 2 ≤ 1000; decide))
      · rw [upd_same, List.replicate_succ']
        rfl
    · rintro H' ⟨s1, e1⟩
      exact ⟨D, [true, true], rfl, SqL.of e1, q H' s1⟩
/-- _different_pairs of pairs that are right, in a list -/
def spDiffPair (K : PySem.W.Frag) : Sp := fun vs H Q _ => ∃ (t l : Addr) (ds : List Int) (ks : List (Addr × List Int)), vs = [.ref t, .ref l] ∧ SqT K H t (ds.map V.int) ∧ H l = some (.lst (ks.map fun p => V.ref p.1)) ∧ ks.length < 64 ∧
  (∀ p ∈ ks, ∃ x y, p.2 = [x, y] ∧ H p.1 = some (.tup [.int x, .int y]) ∧ (dig x = true ∧ x ∈ ds) ∧ (dig y = true ∧ y ∈ ds)) ∧
  ∀ (L : List (Addr × List Int)) (r : Addr) (H' : Hp), (∀ p ∈ L, p ∈ ks) → (∀ p ∈ ks, p.2 ∈ L.map (·.2)) → (L.map (·.2)).Nodup → L.Pairwise (fun q r => SrtO.lexB (duo r.2) (duo q.2) = false) → Same H H' → H' r = some (.tup (L.map fun q => V.ref q.1)) → Q (.ref r) H'
abbrev nDp : List Str := ["digits", "bars", "item"]
theorem scDp : FnScope nDp ["digits", "bars"] (defScope sDiffPair) := ⟨rfl, rfl, rfl, by decide +kernel, rfl, by decide +kernel, by decide +kernel⟩
theorem ok_diffpair {f fO fI C : Addr} {fd fdO fdI : FuncData} (F : Fun K "_different_pairs" "_different_pairs" sDiffPair f fd) (GO : FnOk P w K mg base CX0 5 fO fdO ["digits", "value"] (spIsPair K)) (gO : mg "_is_pair" = some (.ref fO)) (kO : PySem.W.keepIn K (.ref fO) = true) (bO : Binds K fdO ["digits", "value"] [])
    (GI : FnOk P w K mg base CX0 3 fI fdI ["self", "value"] (spInit K "value" C)) (T : ErrC K mg "InvalidBars" "value" C fI) (bI : Binds K fdI ["self", "value"] [])
    (mis : mg "isinstance" = none) (mli : mg "list" = none) (ms : mg "set" = none) (mso : mg "sorted" = none) (mt : mg "tuple" = none) : FnOk P w K mg base (L2.CX P w) 6 f fd ["digits", "bars"] (spDiffPair K) := by
  refine F.okX scDp (fun vs H Q E h => ?_) (fun cdv A outer s H vs Q E hr h => ?_)
  · obtain ⟨t, l, ds, ks, rfl, _⟩ := h
    rfl
  · obtain ⟨t, l, ds, ks, rfl, ht, hl, few, hk, q⟩ := h
    have hr3 : Room 4 _ := hr.mono (by decide)
    apply Exists.intro
    apply And.intro
    · apply pss_cons
      · exact ps_if (pt_not (pt_val (pe_callB call_isiT (by rfl) mis PyProof.Rows.boot_isinstance (pa_cons (pv 1) (pa_cons (pe_tup (pa_cons (pe_bltn (v := .ty "list") (by rfl) mli PyProof.Rows.boot_list rfl) (pa_cons (pe_bltn (v := .ty "tuple") (by rfl) mt (by decide +kernel) rfl) pa_nil))) pa_nil)))))
          (pss_one (ps_raise rfl (takes_of rfl rfl rfl rfl) (pmk_oex T.ox T.iC T.tI GI hr3 bI .nil pass0 (by rfl) T.g (pa_cons (pv 1) pa_nil)))) pss_nil
      apply pss_cons
      · exact ps_for (passes_of rfl) rfl (pi_list (pv 1)) (pg_name (i := 2) scDp.nd rfl (.inl rfl))
          (pss_one (ps_if (pt_not (pt_val (pe_call GO hr (by rfl) gO kO bO .nil pass0 (pa_cons (pv 0) (pa_cons (pv 2) pa_nil)))))
            (pss_one (ps_raise rfl (takes_of rfl rfl rfl rfl) (pmk_oex T.ox T.iC T.tI GI hr3 bI .nil pass0 (by rfl) T.g (pa_cons (pv 2) pa_nil)))) pss_nil))
      apply pss_one
      · exact ps_ret (pe_callTy call_tuple_of (by rfl) mt (by decide +kernel) (pa_cons (pe_callB (cr_sortedDuo rfl) (by rfl) mso (by decide +kernel) (pa_cons (pe_callTy (cr_setOfT rfl hr.units) (by rfl) ms PyProof.Rows.boot_set (pa_cons (pv 1) pa_nil)) pa_nil)) pa_nil))
    refine ⟨.ref l, rfl, (by show 2 ≤ sizeLine; decide), fun U hU => ?_⟩
    have s1 : Same H (upd H U (.tup [.ty "list", .ty "tuple"])) := same_new hU
    obtain ⟨ty, hty, k⟩ := SeqAt'.lt (K := K) (.inl (s1 _ _ hl))
    refine ⟨.ref l, U, _, ty, _, true, rfl, upd_same, .cons (.ty _) (.cons (.ty _) .nil), hty, k, true, rfl, iteF ?_⟩
    generalize upd H U (.tup [.ty "list", .ty "tuple"]) = H1 at s1 ⊢
    refine ⟨.ref l, rfl, l, rfl, ⟨_, SqL.of (s1 _ _ hl)⟩, for_list (K := K) (a := l) (xs := ks.map fun p => V.ref p.1) (fun i σ H' => (∃ v, σ = [some (.ref t), some (.ref l), v]) ∧ Same H H') ⟨⟨none, rfl⟩, s1⟩ (fun i σ H' _ h => SqL.of (h.2 _ _ hl)) ?_ ?_⟩
    · rintro i z σ H' hz ⟨⟨v, rfl⟩, s2⟩
      obtain ⟨p, hp, rfl⟩ := get_map hz
      obtain ⟨x, y, _, ep, hx, hy⟩ := hk p (List.mem_of_getElem? hp)
      refine ⟨.ref t, rfl, .ref p.1, rfl, t, p.1, ds, x, y, rfl, same_seqT s2 ht, s2 _ _ ep, hx, hy, fun H2 s3 => ⟨true, rfl, iteF ⟨⟨_, rfl⟩, s2.trans s3⟩⟩⟩
    · rintro σ H' ⟨⟨v, rfl⟩, s2⟩
      have tup : ∀ (H2 : Hp), Same H H2 → ∀ p ∈ ks, SqT K H2 p.1 (p.2.map V.int) := by
        intro H2 s3 p hp
        obtain ⟨x, y, e, ep, _⟩ := hk p hp
        rw [e]
        exact SqT.of (s3 _ _ ep)
      refine ⟨.ref l, rfl, l, ks, rfl, SqL.of (s2 _ _ hl), tup H' s2, few, fun S L hS sub all => ?_⟩
      have s3 : Same H (upd H' S (SetTO P w S L)) := s2.trans (same_new hS)
      refine ⟨S, L, rfl, upd_same, fun p hp => tup _ s3 p (sub p hp), fun p hp => ?_, fun L' D pm nd sh pw hD => ?_⟩
      · obtain ⟨x, y, e, _⟩ := hk p (sub p hp)
        rw [e]
        rfl
      have s4 : Same H (upd (upd H' S (SetTO P w S L)) D (.lst (L'.map fun q => V.ref q.1))) := s3.trans (same_new hD)
      refine ⟨D, _, rfl, .inl ⟨SqL.of upd_same, fun r hr2 => ?_⟩⟩
      exact q L' r _ (fun p hp => sub p (pm.mem_iff.mp hp)) (fun p hp => (pm.map (·.2)).mem_iff.mpr (all p hp)) nd pw (Same.store s4 (s4.free hr2)) upd_same
theorem passNo {X : Cx} {P' : Program} {w' : World} : Passes (L2.CX P' w') X E0 := fun _ _ _ _ _ _ _ h => by
  obtain ⟨_, _, _, _, _, _, _, _, _, _, _, _, z⟩ := h
  exact z.elim
/-- Scheme.__init__ of parts that are right -/
def spNew (K : PySem.W.Frag) (C : Addr) : Sp := fun vs H Q _ => ∃ (a dx pd pb : Addr) (b : Int) (ns : List Int) (ks : List (Addr × List Int)), vs = [.ref a, .int b, .ref pd, .ref pb] ∧ H a = some (.ins C dx []) ∧ isBase b = true ∧
  SeqAt' H pd (ns.map V.int) ∧ ns.length ≤ 60 ∧ ns.all dig = true ∧ (∀ k : List Int, k.Nodup → (∀ j, j ∈ k ↔ j ∈ ns) → 1 ≤ k.length ∧ k.length ≤ 6) ∧
  H pb = some (.lst (ks.map fun p => V.ref p.1)) ∧ ks.length < 64 ∧ (∀ p ∈ ks, ∃ x y, p.2 = [x, y] ∧ H p.1 = some (.tup [.int x, .int y]) ∧ x ∈ ns ∧ y ∈ ns) ∧
  ∀ (ds : List Int) (L : List (Addr × List Int)) (t r : Addr) (H' : Hp), ds.Pairwise (· < ·) → (∀ k, k ∈ ds ↔ k ∈ ns) → (∀ p ∈ L, p ∈ ks) → (∀ p ∈ ks, p.2 ∈ L.map (·.2)) → (L.map (·.2)).Nodup → L.Pairwise (fun q r => SrtO.lexB (duo r.2) (duo q.2) = false) →
    But a H H' → H' a = some (.ins C dx [("_base", .int b), ("_digits", .ref t), ("_bars", .ref r)]) → H' t = some (.tup (ds.map V.int)) → H' r = some (.tup (L.map fun q => V.ref q.1)) → Q .non H'
theorem scNew : FnScope ["self", "base", "digits", "bars"] ["self", "base", "digits", "bars"] (defScope sInit) := ⟨rfl, rfl, rfl, by decide +kernel, rfl, by decide +kernel, by decide +kernel⟩
theorem ok_new {f fB fD fP fI C CI : Addr} {fd fdB fdD fdP fdI : FuncData} (F : Fun K "__init__" "Scheme.__init__" sInit f fd) (c : Cls K C) (n1 : NoAttr K C "_base") (n2 : NoAttr K C "_digits") (n3 : NoAttr K C "_bars")
    (GB : FnOk P w K mg base CX0 3 fB fdB ["value"] spIsBase) (gB : mg "is_base" = some (.ref fB)) (kB : PySem.W.keepIn K (.ref fB) = true) (bB : Binds K fdB ["value"] [])
    (GD : FnOk P w K mg base (L2.CX P w) 6 fD fdD ["digits"] spDiffDig) (gD : mg "_different_digits" = some (.ref fD)) (kD : PySem.W.keepIn K (.ref fD) = true) (bD : Binds K fdD ["digits"] [])
    (GP : FnOk P w K mg base (L2.CX P w) 6 fP fdP ["digits", "bars"] (spDiffPair K)) (gP : mg "_different_pairs" = some (.ref fP)) (kP : PySem.W.keepIn K (.ref fP) = true) (bP : Binds K fdP ["digits", "bars"] [])
    (GI : FnOk P w K mg base CX0 3 fI fdI ["self", "value"] (spInit K "value" CI)) (T : ErrC K mg "InvalidBase" "value" CI fI) (bI : Binds K fdI ["self", "value"] []) :
    FnOk P w K mg base (L2.CX P w) 7 f fd ["self", "base", "digits", "bars"] (spNew K C) := by
  refine F.okX scNew (fun vs H Q E h => ?_) (fun cdv A outer s H vs Q E hr h => ?_)
  · obtain ⟨a, dx, pd, pb, b, ns, ks, rfl, _⟩ := h
    rfl
  · obtain ⟨a, dx, pd, pb, b, ns, ks, rfl, ha, hb, hpd, ln, hdg, h6, hpb, few, hk, q⟩ := h
    have hr2 : Room 3 _ := hr.mono (by decide)
    have hr3 : Room 4 _ := hr.mono (by decide)
    apply Exists.intro
    apply And.intro
    · apply pss_cons
      · exact ps_if (pt_not (pt_val (pe_call GB hr2 (by rfl) gB kB bB .nil pass0 (pa_cons (pv 1) pa_nil))))
          (pss_one (ps_raise rfl (takes_of rfl rfl rfl rfl) (pmk_oex T.ox T.iC T.tI GI hr3 bI .nil pass0 (by rfl) T.g (pa_cons (pv 1) pa_nil)))) pss_nil
      apply pss_cons
      · exact ps_fld (pv 0) (pv 1) rfl
      apply pss_cons
      · exact ps_fld (pv 0) (pe_call GD hr (by rfl) gD kD bD .nil passNo (pa_cons (pv 2) pa_nil)) rfl
      apply pss_one
      · exact ps_fld (pv 0) (pe_call GP hr (by rfl) gP kP bP .nil passNo (pa_cons (pe_fld (pv 0) rfl) (pa_cons (pv 3) pa_nil))) rfl
    have npd : pd ≠ a := fun z => by
      rw [z] at hpd
      rcases hpd with e | e <;> (rw [ha] at e; cases e)
    have npb : pb ≠ a := fun z => by
      rw [z, ha] at hpb
      cases hpb
    refine ⟨.int b, rfl, .int b, rfl, .inl ⟨b, rfl, ?_⟩⟩
    rw [hb]
    refine ⟨true, rfl, iteF ?_⟩
    refine ⟨.int b, rfl, .ref a, rfl, a, C, dx, [], rfl, ha, c, n1, (by show 0 < 1000; decide), ?_⟩
    have hpd1 : SeqAt' (upd H a (.ins C dx [("_base", .int b)])) pd (ns.map V.int) := hpd.elim (fun e => .inl (by rw [upd_ne npd]; exact e)) fun e => .inr (by rw [upd_ne npd]; exact e)
    refine ⟨.ref pd, rfl, pd, ns, rfl, hpd1, ln, hdg, h6, fun ds t H2 asc mds s2 ht et => ?_⟩
    have ea2 : H2 a = some (.ins C dx [("_base", .int b)]) := s2 _ _ upd_same
    have nt : t ≠ a := fun z => by
      rw [z, ea2] at et
      cases et
    refine ⟨.ref a, rfl, a, C, dx, _, rfl, ea2, c, n2, (by show 1 < 1000; decide), ?_⟩
    have b2 : But a H (upd H2 a (.ins C dx (putF "_digits" (.ref t) [("_base", .int b)]))) := (But.at_.trans ((But.of_same s2).trans But.at_))
    refine ⟨.ref a, rfl, a, C, dx, _, .ref t, rfl, upd_same, c, n2, (by rw [lookup_putF, if_pos rfl]), .ref pb, rfl, t, pb, ds, ks, rfl, SqT.of (by rw [upd_ne nt]; exact et), b2 _ _ npb hpb, few, fun p hp => ?_, fun L r H4 sub all nd pw s4 er => ?_⟩
    · obtain ⟨x, y, e, ep, hx, hy⟩ := hk p hp
      have np : p.1 ≠ a := fun z => by
        rw [z, ha] at ep
        cases ep
      exact ⟨x, y, e, b2 _ _ np ep, ⟨List.all_eq_true.mp hdg x hx, (mds x).mpr hx⟩, ⟨List.all_eq_true.mp hdg y hy, (mds y).mpr hy⟩⟩
    · have ea4 := s4 _ _ (upd_same (H := H2) (a := a) (o := .ins C dx (putF "_digits" (.ref t) [("_base", .int b)])))
      have nr : r ≠ a := fun z => by
        rw [z, ea4] at er
        cases er
      have et4 : H4 t = some (.tup (ds.map V.int)) := s4 _ _ (by rw [upd_ne nt]; exact et)
      refine ⟨.ref a, rfl, a, C, dx, _, rfl, ea4, c, n3, (by show 2 < 1000; decide), ?_⟩
      exact q ds L t r _ asc mds sub all nd pw (b2.trans ((But.of_same s4).trans But.at_)) upd_same (by rw [upd_ne nt]; exact et4) (by rw [upd_ne nr]; exact er)
/-! ### a scheme that stands in the heap -/
def pd2 (p : Int × Int) : PyData := .tuple [.int p.1, .int p.2]
structure SchemeAt (C : Addr) (H : Hp) (a t r : Addr) (b : Int) (ds : List Int) (ks : List (Addr × (Int × Int))) : Prop where
  ins : ∃ dx, H a = some (.ins C dx [("_base", .int b), ("_digits", .ref t), ("_bars", .ref r)])
  dig : H t = some (.tup (ds.map V.int))
  bar : H r = some (.tup (ks.map fun p => V.ref p.1))
  prs : ∀ p ∈ ks, H p.1 = some (.tup [.int p.2.1, .int p.2.2])
theorem SchemeAt.same {C : Addr} {H H' : Hp} {a t r : Addr} {b : Int} {ds : List Int} {ks : List (Addr × (Int × Int))} (h : SchemeAt C H a t r b ds ks) (s : Same H H') : SchemeAt C H' a t r b ds ks := by
  obtain ⟨⟨dx, h1⟩, h2, h3, h4⟩ := h
  exact ⟨⟨dx, s _ _ h1⟩, s _ _ h2, s _ _ h3, fun p hp => s _ _ (h4 p hp)⟩
theorem bars_dp {K : PySem.W.Frag} {H : Hp} : ∀ ks : List (Addr × (Int × Int)), (∀ p ∈ ks, H p.1 = some (.tup [.int p.2.1, .int p.2.2])) → DpAll K H (ks.map fun p => V.ref p.1) (ks.map fun p => pd2 p.2)
  | [], _ => .nil
  | p :: ks, h => .cons (.tup (SqT.of (h p List.mem_cons_self)) (.cons (.int _) (.cons (.int _) .nil))) (bars_dp ks fun q hq => h q (List.mem_cons_of_mem _ hq))
theorem bars_can : ∀ ks : List (Addr × (Int × Int)), PyData.canLayAll0 (ks.map fun p => pd2 p.2) = true ∧ PyData.depthAll (ks.map fun p => pd2 p.2) ≤ 1
  | [] => ⟨by simp only [List.map_nil, PyData.canLayAll0], by simp only [List.map_nil, PyData.depthAll]; omega⟩
  | p :: ks => by
    obtain ⟨h1, h2⟩ := bars_can ks
    refine ⟨?_, ?_⟩
    · rw [List.map_cons, PyData.canLayAll0, h1]
      simp only [pd2, PyData.canLay0, PyData.canLayAll0, Bool.and_true]
    · rw [List.map_cons, PyData.depthAll]
      simp only [pd2, PyData.depth, PyData.depthAll] at h2 ⊢
      omega
theorem bars_shaped (ks : List (Addr × (Int × Int))) : SeqAt.shaped (.tuple (ks.map fun p => pd2 p.2)) = true := by
  obtain ⟨h1, h2⟩ := bars_can ks
  refine shaped_of ?_ ?_
  · simp only [PyData.canLay0, h1]
  · simp only [PyData.depth]
    omega
theorem pd2_shaped (p : Int × Int) : SeqAt.shaped (pd2 p) = true := by
  refine shaped_of ?_ ?_
  · simp only [pd2, PyData.canLay0, PyData.canLayAll0, Bool.and_true]
  · simp only [pd2, PyData.depth, PyData.depthAll]
    omega
/-- whether a pair stands among the bars -/
def hasBar (ks : List (Addr × (Int × Int))) (n m : Int) : Bool := (ks.map fun p => pd2 p.2).any fun z => PyData.eqv z (pd2 (n, m))
def isOne (ds : List Int) (n : Int) : Bool := dig n && decide (n ∈ ds)
theorem lk_digits {b : Int} {t r : Addr} : ([("_base", V.int b), ("_digits", .ref t), ("_bars", .ref r)] : List (Str × V)).lookup ("_digits" : Str) = some (.ref t) := by
  rw [lookup_put, if_neg (by decide), lookup_put, if_pos rfl]
theorem lk_bars {b : Int} {t r : Addr} : ([("_base", V.int b), ("_digits", .ref t), ("_bars", .ref r)] : List (Str × V)).lookup ("_bars" : Str) = some (.ref r) := by
  rw [lookup_put, if_neg (by decide), lookup_put, if_neg (by decide), lookup_put, if_pos rfl]
/-- allows -/
def spAllows (C : Addr) : Sp := fun vs H Q _ => ∃ (a t r : Addr) (b : Int) (ds : List Int) (ks : List (Addr × (Int × Int))) (x y : V), vs = [.ref a, x, y] ∧ SchemeAt C H a t r b ds ks ∧
  ((Odd H x ∧ ∀ H', Same H H' → Q (.bl false) H') ∨ ∃ n : Int, x = .int n ∧
    ((y = .non ∧ ∀ H', Same H H' → Q (.bl (isOne ds n)) H') ∨ (∃ m : Int, y = .int m ∧ ∀ H', Same H H' → Q (.bl (isOne ds n && (isOne ds m && !hasBar ks n m))) H') ∨ (Odd H y ∧ y ≠ .non ∧ ∀ H', Same H H' → Q (.bl false) H')))
theorem scAl : FnScope ["self", "left", "right"] ["self", "left", "right"] (defScope sAllows) := ⟨rfl, rfl, rfl, by decide +kernel, rfl, by decide +kernel, by decide +kernel⟩
theorem ok_allows {f fO C : Addr} {fd fdO : FuncData} (F : Fun K "allows" "Scheme.allows" sAllows f fd) (c : Cls K C) (n2 : NoAttr K C "_digits") (n3 : NoAttr K C "_bars")
    (GO : FnOk P w K mg base CX0 4 fO fdO ["digits", "value"] (spOneOf K)) (gO : mg "_is_one_of" = some (.ref fO)) (kO : PySem.W.keepIn K (.ref fO) = true) (bO : Binds K fdO ["digits", "value"] []) : FnOk P w K mg base CX0 5 f fd ["self", "left", "right"] (spAllows C) := by
  refine F.ok scAl (fun vs H Q E h => ?_) (fun cdv A outer s H vs Q E hr h => ?_)
  · obtain ⟨a, t, r, b, ds, ks, x, y, rfl, _⟩ := h
    rfl
  · obtain ⟨a, t, r, b, ds, ks, x, y, rfl, ⟨⟨dx, ha⟩, ht, hrr, hks⟩, h⟩ := h
    have hu : A.units + 3 + 65 < cLine := by
      have := hr.un
      have e : (A.deeper (envOfC "Scheme.allows" (defScope sAllows) s.heap.objs.size f cdv)).units = A.units + 3 := rfl
      omega
    apply Exists.intro
    apply And.intro
    · apply pss_cons
      · exact ps_if (pt_not (pt_val (pe_call GO hr (by rfl) gO kO bO .nil pass0 (pa_cons (pe_fld (pv 0) rfl) (pa_cons (pv 1) pa_nil))))) (pss_one (ps_ret pe_bl)) pss_nil
      apply pss_cons
      · exact ps_if (pt_cmpR op_isN (pv 2) pe_non (nomark _)) (pss_one (ps_ret pe_bl)) pss_nil
      apply pss_one
      · exact ps_ret (pe_and (pe_call GO hr (by rfl) gO kO bO .nil pass0 (pa_cons (pe_fld (pv 0) rfl) (pa_cons (pv 2) pa_nil))) (pe_one (pe_cmpR (op_notInT hu) (pe_tup (pa_cons (pv 1) (pa_cons (pv 2) pa_nil))) (pe_fld (pv 0) rfl) rfl)))
    rcases h with ⟨o, q⟩ | ⟨n, rfl, h⟩
    · refine ⟨.ref a, rfl, a, C, dx, _, .ref t, rfl, ha, c, n2, lk_digits, x, rfl, t, ds, x, rfl, SqT.of ht, .inr ⟨o, false, rfl, iteT ?_⟩⟩
      exact q H (Same.refl H)
    · refine ⟨.ref a, rfl, a, C, dx, _, .ref t, rfl, ha, c, n2, lk_digits, .int n, rfl, t, ds, .int n, rfl, SqT.of ht, .inl ⟨n, rfl, _, rfl, ?_⟩⟩
      cases hb : (dig n && decide (n ∈ ds)) with
      | false =>
        refine iteT ?_
        have e1 : isOne ds n = false := hb
        rcases h with ⟨_, q⟩ | ⟨m, _, q⟩ | ⟨_, _, q⟩
        · have z := q H (Same.refl H)
          rw [e1] at z
          exact z
        · have z := q H (Same.refl H)
          rw [e1] at z
          exact z
        · exact q H (Same.refl H)
      | true =>
        refine iteF ?_
        have e1 : isOne ds n = true := hb
        rcases h with ⟨rfl, q⟩ | ⟨m, rfl, q⟩ | ⟨o, ny, q⟩
        · have z := q H (Same.refl H)
          rw [e1] at z
          exact ⟨.non, rfl, rfl, _, rfl, iteTB (decide_eq_true rfl) z⟩
        · refine ⟨.int m, rfl, rfl, _, rfl, iteFB (decide_eq_false (fun z => nomatch z)) ?_⟩
          refine ⟨.ref a, rfl, a, C, dx, _, .ref t, rfl, ha, c, n2, lk_digits, .int m, rfl, t, ds, .int m, rfl, SqT.of ht, .inl ⟨m, rfl, _, rfl, ?_⟩⟩
          cases hm : (dig m && decide (m ∈ ds)) with
          | false =>
            refine iteF ?_
            have e2 : isOne ds m = false := hm
            have z := q H (Same.refl H)
            rw [e1, e2] at z
            exact z
          | true =>
            refine iteT ?_
            have e2 : isOne ds m = true := hm
            refine ⟨.int n, rfl, .int m, rfl, (by show 2 ≤ sizeLine; decide), fun T hT => ?_⟩
            have s1 := same_new (o := .tup [.int n, .int m]) hT
            have z := q _ s1
            rw [e1, e2] at z
            refine ⟨.ref a, rfl, a, C, dx, _, .ref r, rfl, s1 _ _ ha, c, n3, lk_bars, pd2 (n, m), (ks.map fun (p : Addr × (Int × Int)) => pd2 p.2), .tup (SqT.of upd_same) (.cons (.int n) (.cons (.int m) .nil)), .tup (SqT.of (s1 _ _ hrr)) (bars_dp ks fun p hp => s1 _ _ (hks p hp)), pd2_shaped _, bars_shaped ks, (by rw [Bool.true_and, Bool.true_and] at z; exact z)⟩
        · refine ⟨y, rfl, rfl, _, rfl, iteFB (decide_eq_false ny) ?_⟩
          exact ⟨.ref a, rfl, a, C, dx, _, .ref t, rfl, ha, c, n2, lk_digits, y, rfl, t, ds, y, rfl, SqT.of ht, .inr ⟨o, _, rfl, iteF (q H (Same.refl H))⟩⟩

/-! ### row in scheme -/
/-- what allows says of two values -/
def jdg (ds : List Int) (ks : List (Addr × (Int × Int))) : V → V → Bool
  | .int n, .non => isOne ds n
  | .int n, .int m => isOne ds n && (isOne ds m && !hasBar ks n m)
  | _, _ => false
def rowB (ds : List Int) (ks : List (Addr × (Int × Int))) (xs : List V) : Bool := (xs.zip (xs.tail ++ [V.non])).all fun p => jdg ds ks p.1 p.2
/-- an item that may be asked of -/
def ItemOk (H : Hp) (x : V) : Prop := (∃ n : Int, x = .int n) ∨ Odd H x
theorem ItemOk.same {H H' : Hp} {x : V} (h : ItemOk H x) (s : Same H H') : ItemOk H' x := h.imp id fun o => o.same s
theorem allows_of {C : Addr} {H : Hp} {a t r : Addr} {b : Int} {ds : List Int} {ks : List (Addr × (Int × Int))} {x y : V} {Q : VK} {E : XK} (S : SchemeAt C H a t r b ds ks) (hx : ItemOk H x) (hy : ItemOk H y ∨ y = .non) (q : ∀ H', Same H H' → Q (.bl (jdg ds ks x y)) H') :
    spAllows C [.ref a, x, y] H Q E := by
  refine ⟨a, t, r, b, ds, ks, x, y, rfl, S, ?_⟩
  rcases hx with ⟨n, rfl⟩ | o
  · refine .inr ⟨n, rfl, ?_⟩
    rcases hy with (⟨m, rfl⟩ | o) | rfl
    · exact .inr (.inl ⟨m, rfl, q⟩)
    · by_cases e : y = .non
      · subst e
        exact .inl ⟨rfl, q⟩
      · refine .inr (.inr ⟨o, e, fun H' s => ?_⟩)
        have z := q H' s
        have e2 : jdg ds ks (.int n) y = false := by
          cases o with
          | non => exact absurd rfl e
          | bl b => rfl
          | str z => rfl
          | lst e => rfl
          | tup e => rfl
          | dK e => rfl
        rw [e2] at z
        exact z
    · exact .inl ⟨rfl, q⟩
  · refine .inl ⟨o, fun H' s => ?_⟩
    have z := q H' s
    have e2 : jdg ds ks x y = false := by
      cases o with
      | non => rfl
      | bl b => rfl
      | str z => rfl
      | lst e => rfl
      | tup e => rfl
      | dK e => rfl
    rw [e2] at z
    exact z
theorem lk_base {b : Int} {t r : Addr} : ([("_base", V.int b), ("_digits", .ref t), ("_bars", .ref r)] : List (Str × V)).lookup ("_base" : Str) = some (.int b) := by
  rw [lookup_put, if_pos rfl]
/-- what isinstance asks of the class -/
structure IsC (K : PySem.W.Frag) (C : Addr) : Prop where
  cl : Cls K C
  ha : PySem.W.findIn K (.ref C) "__class__" = some (some (.builtin "object.__class__"))
  hn : PySem.W.specialIn K (.builtin "object.__class__") "__get__" = some (some (.builtin "getset_descriptor.__get__"))
  ht : PySem.W.takesIn K (.builtin "object.__class__") = some true
  hm : PySem.W.mroIn K C (.type "object") = some true
  own : PySem.W.kitOne K (.ref C) (.ref C) = some true
theorem dp_ints {K : PySem.W.Frag} {H : Hp} : ∀ ds : List Int, DpAll K H (ds.map V.int) (ds.map PyData.int)
  | [] => .nil
  | d :: ds => .cons (.int d) (dp_ints ds)
theorem ints_can : ∀ ds : List Int, PyData.canLayAll0 (ds.map PyData.int) = true ∧ PyData.depthAll (ds.map PyData.int) = 0
  | [] => ⟨by simp only [List.map_nil, PyData.canLayAll0], by simp only [List.map_nil, PyData.depthAll]⟩
  | d :: ds => by
    obtain ⟨h1, h2⟩ := ints_can ds
    refine ⟨?_, ?_⟩
    · rw [List.map_cons, PyData.canLayAll0, h1]
      simp only [PyData.canLay0, Bool.and_true]
    · rw [List.map_cons, PyData.depthAll, h2]
      simp only [PyData.depth, Nat.max_self]
theorem ints_shapedT (ds : List Int) : SeqAt.shaped (.tuple (ds.map .int)) = true := by
  obtain ⟨h1, h2⟩ := ints_can ds
  refine shaped_of ?_ ?_
  · simp only [PyData.canLay0, h1]
  · simp only [PyData.depth, h2]
    omega
theorem ints_shapedL (ds : List Int) : SeqAt.shaped (.list (ds.map .int)) = true := by
  obtain ⟨h1, h2⟩ := ints_can ds
  refine shaped_of ?_ ?_
  · simp only [PyData.canLay0, h1]
  · simp only [PyData.depth, h2]
    omega
end
end K11
namespace K11
open PySem PySem.Spec PyProof.Rows L2 OF
section
variable {P : Program} {w : World} {K : PySem.W.Frag} {mg : Str → Option Value} {base : Heap}

/-! ### what is no scheme -/
/-- no built-in kind is of the class -/
structure NotK (K : PySem.W.Frag) (C : Addr) : Prop where
  non : PySem.W.kitOne K (.type "NoneType") (.ref C) = some false
  bl : PySem.W.kitOne K (.type "bool") (.ref C) = some false
  str : PySem.W.kitOne K (.type "str") (.ref C) = some false
  lst : PySem.W.kitOne K (.type "list") (.ref C) = some false
  tup : PySem.W.kitOne K (.type "tuple") (.ref C) = some false
  dct : PySem.W.kitOne K (.type "dict") (.ref C) = some false
theorem NotK.odd {K : PySem.W.Frag} {C : Addr} {H : Hp} {x : V} (N : NotK K C) (h : Odd H x) : ∃ t : Value, TyX K H x t ∧ PySem.W.kitOne K t (.ref C) = some false := by
  cases h with
  | non => exact ⟨_, .base .non, N.non⟩
  | bl b => exact ⟨_, .base (.bl b), N.bl⟩
  | str z => exact ⟨_, .base (.str z), N.str⟩
  | lst e => exact ⟨_, .base (.lst e), N.lst⟩
  | tup e => exact ⟨_, .base (.tup e), N.tup⟩
  | dK e => exact ⟨_, .base (.dK e), N.dct⟩
def spIsSch (C : Addr) : Sp := fun vs H Q _ => ∃ x : V, vs = [x] ∧ ((∃ (a dx : Addr) (fs : List (Str × V)), x = .ref a ∧ H a = some (.ins C dx fs) ∧ Q (.bl true) H) ∨ (Odd H x ∧ Q (.bl false) H))
theorem scIs : FnScope ["value"] ["value"] (defScope sIsSch) := ⟨rfl, rfl, rfl, by decide +kernel, rfl, by decide +kernel, by decide +kernel⟩
theorem ok_issch {f C : Addr} {fd : FuncData} (F : Fun K "is_scheme" "is_scheme" sIsSch f fd) (I : IsC K C) (N : NotK K C) (gC : mg "Scheme" = some (.ref C)) (mis : mg "isinstance" = none) :
    FnOk P w K mg base CX0 1 f fd ["value"] (spIsSch C) := by
  refine F.ok scIs (fun vs H Q E h => ?_) (fun cdv A outer s H vs Q E hr h => ?_)
  · obtain ⟨x, rfl, _⟩ := h
    rfl
  · obtain ⟨x, rfl, h⟩ := h
    refine ⟨_, pss_one (ps_ret (pe_callB call_isi (by rfl) mis PyProof.Rows.boot_isinstance (pa_cons (pv 0) (pa_cons (pe_glob (v := .ref C) (by rfl) gC rfl) pa_nil)))), ?_⟩
    rcases h with ⟨a, dx, fs, rfl, ha, q⟩ | ⟨o, q⟩
    · exact ⟨.ref a, rfl, .ref a, .ref C, .ref C, .ref C, true, rfl, .own C, .base (.ins ha I.cl I.ha I.hn I.ht I.hm), I.own, q⟩
    · obtain ⟨t, ty, k⟩ := N.odd o
      exact ⟨x, rfl, x, .ref C, t, .ref C, false, rfl, .own C, ty, k, q⟩
def spCheckS (C CN : Addr) : Sp := fun vs H Q E => ∃ x : V, vs = [x] ∧ ((∃ (a dx : Addr) (fs : List (Str × V)), x = .ref a ∧ H a = some (.ins C dx fs) ∧ Q .non H) ∨ (Odd H x ∧ Raised CN "value" x H E))
theorem scCs : FnScope ["value"] ["value"] (defScope sCheckS) := ⟨rfl, rfl, rfl, by decide +kernel, rfl, by decide +kernel, by decide +kernel⟩
theorem ok_checks {f fS fI C CN : Addr} {fd fdS fdI : FuncData} (F : Fun K "check_scheme" "check_scheme" sCheckS f fd) (GS : FnOk P w K mg base CX0 1 fS fdS ["value"] (spIsSch C)) (gS : mg "is_scheme" = some (.ref fS)) (kS : PySem.W.keepIn K (.ref fS) = true) (bS : Binds K fdS ["value"] [])
    (GI : FnOk P w K mg base CX0 3 fI fdI ["self", "value"] (spInit K "value" CN)) (T : ErrC K mg "NotScheme" "value" CN fI) (bI : Binds K fdI ["self", "value"] []) :
    FnOk P w K mg base (L2.CX P w) 5 f fd ["value"] (spCheckS C CN) := by
  refine F.okX scCs (fun vs H Q E h => ?_) (fun cdv A outer s H vs Q E hr h => ?_)
  · obtain ⟨x, rfl, _⟩ := h
    rfl
  · obtain ⟨x, rfl, h⟩ := h
    have hr1 : Room 1 _ := hr.mono (by decide)
    refine ⟨_, pss_one (ps_if (pt_not (pt_val (pe_call GS hr1 (by rfl) gS kS bS .nil pass0 (pa_cons (pv 0) pa_nil))))
      (pss_one (ps_raise rfl (takes_of rfl rfl rfl rfl) (pmk_oex T.ox T.iC T.tI GI hr bI .nil pass0 (by rfl) T.g (pa_cons (pv 0) pa_nil)))) pss_nil), ?_⟩
    rcases h with ⟨a, dx, fs, rfl, ha, q⟩ | ⟨o, hE⟩
    · exact ⟨.ref a, rfl, .ref a, rfl, .inl ⟨a, dx, fs, rfl, ha, true, rfl, iteF q⟩⟩
    · exact ⟨x, rfl, x, rfl, .inr ⟨o, false, rfl, iteT ⟨x, rfl, raised_ok (σ := start ["value"] [x]) (D := { nx := fun _ H' => Q .non H', rt := Q }) hE (Same.refl H)⟩⟩⟩
def spCheckN (CI : Addr) : Sp := fun vs H Q E => ∃ x : V, vs = [x] ∧ ((∃ n : Int, x = .int n ∧ Q .non H) ∨ (Odd H x ∧ Raised CI "number" x H E))
theorem scCn : FnScope ["value"] ["value"] (defScope sCheckN) := ⟨rfl, rfl, rfl, by decide +kernel, rfl, by decide +kernel, by decide +kernel⟩
theorem ok_checkn {f fW fI CI : Addr} {fd fdW fdI : FuncData} (F : Fun K "check_number" "check_number" sCheckN f fd) (GW : FnOk P w K mg base CX0 1 fW fdW ["value"] spWhole) (gW : mg "is_whole" = some (.ref fW)) (kW : PySem.W.keepIn K (.ref fW) = true) (bW : Binds K fdW ["value"] [])
    (GI : FnOk P w K mg base CX0 3 fI fdI ["self", "number"] (spInit K "number" CI)) (T : ErrC K mg "InvalidNumber" "number" CI fI) (bI : Binds K fdI ["self", "number"] []) :
    FnOk P w K mg base (L2.CX P w) 5 f fd ["value"] (spCheckN CI) := by
  refine F.okX scCn (fun vs H Q E h => ?_) (fun cdv A outer s H vs Q E hr h => ?_)
  · obtain ⟨x, rfl, _⟩ := h
    rfl
  · obtain ⟨x, rfl, h⟩ := h
    have hr1 : Room 1 _ := hr.mono (by decide)
    refine ⟨_, pss_one (ps_if (pt_not (pt_val (pe_call GW hr1 (by rfl) gW kW bW .nil pass0 (pa_cons (pv 0) pa_nil))))
      (pss_one (ps_raise rfl (takes_of rfl rfl rfl rfl) (pmk_oex T.ox T.iC T.tI GI hr bI .nil pass0 (by rfl) T.g (pa_cons (pv 0) pa_nil)))) pss_nil), ?_⟩
    rcases h with ⟨n, rfl, q⟩ | ⟨o, hE⟩
    · exact ⟨.int n, rfl, .int n, rfl, .inl ⟨n, rfl, true, rfl, iteF q⟩⟩
    · exact ⟨x, rfl, x, rfl, .inr ⟨o, false, rfl, iteT ⟨x, rfl, raised_ok (σ := start ["value"] [x]) (D := { nx := fun _ H' => Q .non H', rt := Q }) hE (Same.refl H)⟩⟩⟩
/-- None or a digit of the scheme -/
def rightB (ds : List Int) : V → Bool
  | .non => true
  | .int n => isOne ds n
  | _ => false
def spIsRight (C : Addr) : Sp := fun vs H Q _ => ∃ (a t r : Addr) (b : Int) (ds : List Int) (ks : List (Addr × (Int × Int))) (x : V), vs = [.ref a, x] ∧ SchemeAt C H a t r b ds ks ∧ ItemOk H x ∧ ∀ H', Same H H' → Q (.bl (rightB ds x)) H'
theorem scIr : FnScope ["scheme", "value"] ["scheme", "value"] (defScope sIsRight) := ⟨rfl, rfl, rfl, by decide +kernel, rfl, by decide +kernel, by decide +kernel⟩
theorem ok_isright {f fA C : Addr} {fd fdA : FuncData} (F : Fun K "is_right" "is_right" sIsRight f fd) (c : Cls K C) (mA : Meth K C "allows" fA) (GA : FnOk P w K mg base CX0 5 fA fdA ["self", "left", "right"] (spAllows C)) (bA : Binds K fdA ["self", "left", "right"] []) :
    FnOk P w K mg base CX0 6 f fd ["scheme", "value"] (spIsRight C) := by
  refine F.ok scIr (fun vs H Q E h => ?_) (fun cdv A outer s H vs Q E hr h => ?_)
  · obtain ⟨a, t, r, b, ds, ks, x, rfl, _⟩ := h
    rfl
  · obtain ⟨a, t, r, b, ds, ks, x, rfl, S, hx, q⟩ := h
    refine ⟨_, pss_one (ps_ret (pe_or (pe_cmpR op_isN (pv 1) pe_non (nomark _)) (pe_one (pe_meth (pv 0) c mA GA hr bA .nil pass0 (pa_cons (pv 1) (pa_cons pe_non pa_nil)))))), ?_⟩
    obtain ⟨⟨dx, hins⟩, _⟩ := id S
    by_cases e : x = .non
    · subst e
      exact ⟨.non, rfl, rfl, _, rfl, iteTB (decide_eq_true rfl) (q H (Same.refl H))⟩
    · refine ⟨x, rfl, rfl, _, rfl, iteFB (decide_eq_false e) ⟨.ref a, rfl, a, dx, _, rfl, hins, rfl, x, rfl, ?_⟩⟩
      dsimp only [tNil, tCons, tC]
      refine allows_of S hx (.inr rfl) fun H' s' => ?_
      have z := q H' s'
      have e2 : jdg ds ks x .non = rightB ds x := by
        cases x with
        | non => exact absurd rfl e
        | int n => rfl
        | bl b => rfl
        | str y => rfl
        | ref p => rfl
        | flt y => rfl
        | byt y => rfl
        | ty y => rfl
      rw [e2]
      exact z
def spCheckP (C CN CI CU : Addr) : Sp := fun vs H Q E => ∃ x y z : V, vs = [x, y, z] ∧ ((Odd H x ∧ Raised CN "value" x H E) ∨
  ∃ (a t r : Addr) (b : Int) (ds : List Int) (ks : List (Addr × (Int × Int))), x = .ref a ∧ SchemeAt C H a t r b ds ks ∧ ((Odd H y ∧ Raised CI "number" y H E) ∨
    ∃ n : Int, y = .int n ∧ ItemOk H z ∧ (rightB ds z = true → ∀ H', Same H H' → Q .non H') ∧ (rightB ds z = false → Raised CU "digit" z H E)))
theorem scCp : FnScope ["scheme", "rest", "right"] ["scheme", "rest", "right"] (defScope sCheckP) := ⟨rfl, rfl, rfl, by decide +kernel, rfl, by decide +kernel, by decide +kernel⟩
theorem ok_checkp {f fS fN fR fI C CN CI CU : Addr} {fd fdS fdN fdR fdI : FuncData} (F : Fun K "_check_place" "_check_place" sCheckP f fd)
    (GS : FnOk P w K mg base (L2.CX P w) 5 fS fdS ["value"] (spCheckS C CN)) (gS : mg "check_scheme" = some (.ref fS)) (kS : PySem.W.keepIn K (.ref fS) = true) (bS : Binds K fdS ["value"] [])
    (GN : FnOk P w K mg base (L2.CX P w) 5 fN fdN ["value"] (spCheckN CI)) (gN : mg "check_number" = some (.ref fN)) (kN : PySem.W.keepIn K (.ref fN) = true) (bN : Binds K fdN ["value"] [])
    (GR : FnOk P w K mg base CX0 6 fR fdR ["scheme", "value"] (spIsRight C)) (gR : mg "is_right" = some (.ref fR)) (kR : PySem.W.keepIn K (.ref fR) = true) (bR : Binds K fdR ["scheme", "value"] [])
    (GI : FnOk P w K mg base CX0 3 fI fdI ["self", "digit"] (spInit K "digit" CU)) (T : ErrC K mg "UnknownDigit" "digit" CU fI) (bI : Binds K fdI ["self", "digit"] []) :
    FnOk P w K mg base (L2.CX P w) 7 f fd ["scheme", "rest", "right"] (spCheckP C CN CI CU) := by
  refine F.okX scCp (fun vs H Q E h => ?_) (fun cdv A outer s H vs Q E hr h => ?_)
  · obtain ⟨x, y, z, rfl, _⟩ := h
    rfl
  · obtain ⟨x, y, z, rfl, h⟩ := h
    have hr5 : Room 5 _ := hr.mono (by decide)
    have hr4 : Room 4 _ := hr.mono (by decide)
    apply Exists.intro
    apply And.intro
    · apply pss_cons
      · exact ps_expr (pe_call GS hr5 (by rfl) gS kS bS .nil (passes_call (W := fun cl d _ J => E cl d J) (takes_of rfl rfl rfl rfl) (fun _ _ _ _ z => z)) (pa_cons (pv 0) pa_nil))
      apply pss_cons
      · exact ps_expr (pe_call GN hr5 (by rfl) gN kN bN .nil (passes_call (W := fun cl d _ J => E cl d J) (takes_of rfl rfl rfl rfl) (fun _ _ _ _ z => z)) (pa_cons (pv 1) pa_nil))
      apply pss_one
      · exact ps_if (pt_not (pt_val (pe_call GR hr (by rfl) gR kR bR .nil pass0 (pa_cons (pv 0) (pa_cons (pv 2) pa_nil)))))
          (pss_one (ps_raise rfl (takes_of rfl rfl rfl rfl) (pmk_oex T.ox T.iC T.tI GI hr4 bI .nil pass0 (by rfl) T.g (pa_cons (pv 2) pa_nil)))) pss_nil
    rcases h with ⟨o, hE⟩ | ⟨a, t, r, b, ds, ks, rfl, S, h⟩
    · exact ⟨x, rfl, x, rfl, .inr ⟨o, hE⟩⟩
    · obtain ⟨⟨dx, hins⟩, _⟩ := id S
      refine ⟨.ref a, rfl, .ref a, rfl, .inl ⟨a, dx, _, rfl, hins, ?_⟩⟩
      rcases h with ⟨o, hE⟩ | ⟨n, rfl, hz, hq, hE⟩
      · exact ⟨y, rfl, y, rfl, .inr ⟨o, hE⟩⟩
      · refine ⟨.int n, rfl, .int n, rfl, .inl ⟨n, rfl, ?_⟩⟩
        refine ⟨.ref a, rfl, z, rfl, a, t, r, b, ds, ks, z, rfl, S, hz, fun H' s' => ⟨_, rfl, ?_⟩⟩
        cases hr3 : rightB ds z with
        | true => exact iteF (hq hr3 H' s')
        | false => exact iteT ⟨z, rfl, raised_ok (σ := start ["scheme", "rest", "right"] [.ref a, .int n, z]) (D := { nx := fun _ H' => Q .non H', rt := Q }) (hE hr3) s'⟩
end
end K11
namespace K11
open PySem PySem.Spec PyProof.Rows L2 OF
section
variable {P : Program} {w : World} {K : PySem.W.Frag} {mg : Str → Option Value} {base : Heap}

/-! ### the properties -/
def spPB (C : Addr) : Sp := fun vs H Q _ => ∃ (a t r : Addr) (b : Int) (ds : List Int) (ks : List (Addr × (Int × Int))), vs = [.ref a] ∧ SchemeAt C H a t r b ds ks ∧ Q (.int b) H
def spPD (C : Addr) : Sp := fun vs H Q _ => ∃ (a t r : Addr) (b : Int) (ds : List Int) (ks : List (Addr × (Int × Int))), vs = [.ref a] ∧ SchemeAt C H a t r b ds ks ∧ Q (.ref t) H
theorem scPb : FnScope ["self"] ["self"] (defScope sPBase) := ⟨rfl, rfl, rfl, by decide +kernel, rfl, by decide +kernel, by decide +kernel⟩
theorem scPd : FnScope ["self"] ["self"] (defScope sPDigits) := ⟨rfl, rfl, rfl, by decide +kernel, rfl, by decide +kernel, by decide +kernel⟩
theorem ok_pbase {f C : Addr} {fd : FuncData} (F : Fun K "base" "Scheme.base" sPBase f fd) (c : Cls K C) (n1 : NoAttr K C "_base") : FnOk P w K mg base CX0 1 f fd ["self"] (spPB C) := by
  refine F.ok scPb (fun vs H Q E h => ?_) (fun cdv A outer s H vs Q E hr h => ?_)
  · obtain ⟨a, t, r, b, ds, ks, rfl, _⟩ := h
    rfl
  · obtain ⟨a, t, r, b, ds, ks, rfl, S, q⟩ := h
    obtain ⟨⟨dx, hins⟩, _⟩ := id S
    exact ⟨_, pss_one (ps_ret (pe_fld (pv 0) rfl)), .ref a, rfl, a, C, dx, _, .int b, rfl, hins, c, n1, lk_base, q⟩
theorem ok_pdigits {f C : Addr} {fd : FuncData} (F : Fun K "digits" "Scheme.digits" sPDigits f fd) (c : Cls K C) (n2 : NoAttr K C "_digits") : FnOk P w K mg base CX0 1 f fd ["self"] (spPD C) := by
  refine F.ok scPd (fun vs H Q E h => ?_) (fun cdv A outer s H vs Q E hr h => ?_)
  · obtain ⟨a, t, r, b, ds, ks, rfl, _⟩ := h
    rfl
  · obtain ⟨a, t, r, b, ds, ks, rfl, S, q⟩ := h
    obtain ⟨⟨dx, hins⟩, _⟩ := id S
    exact ⟨_, pss_one (ps_ret (pe_fld (pv 0) rfl)), .ref a, rfl, a, C, dx, _, .ref t, rfl, hins, c, n2, lk_digits, q⟩

/-! ### left_digits, places_behind -/
def spLeft (C : Addr) : Sp := fun vs H Q _ => ∃ (a t r : Addr) (b : Int) (ds : List Int) (ks : List (Addr × (Int × Int))) (z : V), vs = [.ref a, z] ∧ SchemeAt C H a t r b ds ks ∧ ds.length ≤ 60 ∧ (ItemOk H z ∨ z = .non) ∧
  ∀ (D : Addr) (H' : Hp), Same H H' → H' D = some (.lst ((ds.filter fun d => jdg ds ks (.int d) z).map V.int)) → Q (.ref D) H'
abbrev nLf : List Str := ["scheme", "right", "digit"]
theorem scLf : FnScope nLf ["scheme", "right"] (defScope sLeft) := ⟨rfl, rfl, rfl, by decide +kernel, rfl, by decide +kernel, by decide +kernel⟩
theorem ok_left {f fD fA C p : Addr} {fd fdD fdA : FuncData} (F : Fun K "left_digits" "left_digits" sLeft f fd) (c : Cls K C) (pD : PropOf K C "digits" p fD) (GD : FnOk P w K mg base CX0 1 fD fdD ["self"] (spPD C)) (bD : Binds K fdD ["self"] [])
    (mA : Meth K C "allows" fA) (GA : FnOk P w K mg base CX0 5 fA fdA ["self", "left", "right"] (spAllows C)) (bA : Binds K fdA ["self", "left", "right"] []) : FnOk P w K mg base CX0 6 f fd ["scheme", "right"] (spLeft C) := by
  refine F.ok scLf (fun vs H Q E h => ?_) (fun cdv A outer s H vs Q E hr h => ?_)
  · obtain ⟨a, t, r, b, ds, ks, z, rfl, _⟩ := h
    rfl
  · obtain ⟨a, t, r, b, ds, ks, z, rfl, S, hl, hz, q⟩ := h
    have hr2 : Room 2 _ := hr.mono (by decide)
    apply Exists.intro
    apply And.intro
    · apply pss_one
      · exact ps_ret (pe_lc (own := [("digit", 2)]) (g := gName 2) (tt := tB (tMeth C "allows" (spAllows C) [] E0 (tVar 0) (tCons (tVar 2) (tCons (tVar 1) tNil)))) (te := tVar 2) rfl scLf.nd (pi_tup (pe_prop (pv 0) c pD GD hr2 bD .nil pass0 (by rfl)))
          (blkOk_by (own := [("digit", 2)]) (N := nLf) (sc := defScope sLeft) (by decide +kernel)) (fun _ _ _ _ _ => pg_name (i := 2) scLf.nd rfl (Or.inl rfl)) (fun _ _ _ _ _ => by exact (pts_one (pt_val (pe_meth (pv 0) c mA GA hr bA .nil pass0 (pa_cons (pv 2) (pa_cons (pv 1) pa_nil)))))) (fun _ _ _ _ _ => by exact (pv 2)))
    obtain ⟨⟨dx, hins⟩, ht, _⟩ := id S
    refine ⟨.ref a, rfl, a, dx, _, rfl, hins, a, t, r, b, ds, ks, rfl, S, t, rfl, ⟨_, SqT.of ht⟩, fun D hD => ?_⟩
    refine lc_tup (K := K) (a := t) (xs := ds.map V.int) (fun i H' => Same H H' ∧ H' D = some (.lst (((ds.take i).filter fun d => jdg ds ks (.int d) z).map V.int))) ⟨same_new hD, upd_same⟩ (fun i H' _ h => SqT.of (h.1 _ _ ht)) ?_ ?_
    · rintro i x H1 hx ⟨s1, e1⟩
      obtain ⟨n, hn, rfl⟩ := get_map hx
      obtain ⟨⟨dx1, hins1⟩, _⟩ := id (S.same s1)
      refine ⟨rfl, .ref a, rfl, a, dx1, _, rfl, hins1, rfl, .int n, rfl, z, rfl, ?_⟩
      dsimp only [tNil, tCons, tC]
      refine allows_of (S.same s1) (.inl ⟨n, rfl⟩) (hz.imp (fun o => o.same s1) id) fun H2 s2 => ⟨_, rfl, ?_⟩
      have e2 := s2 _ _ e1
      cases hj : jdg ds ks (.int n) z with
      | true =>
        refine iteT ⟨.int n, rfl, _, e2, ?_, Same.store (s1.trans s2) hD, ?_⟩
        · rw [List.length_map]
          exact Nat.lt_of_le_of_lt (Nat.le_trans (List.length_filter_le _ _) (List.length_take_le' _ _)) (small1000 (by omega))
        · rw [upd_same, take_more hn, List.filter_append, List.map_append]
          simp [hj]
      | false =>
        refine iteF ⟨s1.trans s2, ?_⟩
        rw [e2, take_more hn, List.filter_append]
        simp [hj]
    · rintro H1 ⟨s1, e1⟩
      rw [List.length_map, List.take_length] at e1
      exact q D H1 s1 e1
def plc (b : Int) (es : List Int) (n : Int) : List (Int × Int) := (es.filter fun d => decide ((n - d).fmod b = 0)).map fun d => ((n - d).fdiv b, d)
/-- a new list of places -/
def PlacesAt (H : Hp) (L : Addr) (ps : List (Int × Int)) : Prop := ∃ ks : List (Addr × (Int × Int)), ks.map (·.2) = ps ∧ H L = some (.lst (ks.map fun p => V.ref p.1)) ∧ ∀ p ∈ ks, H p.1 = some (.tup [.int p.2.1, .int p.2.2])
theorem PlacesAt.same {H H' : Hp} {L : Addr} {ps : List (Int × Int)} (h : PlacesAt H L ps) (s : Same H H') : PlacesAt H' L ps := by
  obtain ⟨ks, e, h1, h2⟩ := h
  exact ⟨ks, e, s _ _ h1, fun p hp => s _ _ (h2 p hp)⟩
def spBehind (K : PySem.W.Frag) : Sp := fun vs H Q _ => ∃ (b n : Int) (D : Addr) (es : List Int), vs = [.int b, .ref D, .int n] ∧ b ≠ 0 ∧ b.natAbs ≤ 6 ∧ H D = some (.lst (es.map V.int)) ∧ es.length ≤ 60 ∧ ∀ (L : Addr) (H' : Hp), Same H H' → PlacesAt H' L (plc b es n) → H L = none → Q (.ref L) H'
abbrev nBh : List Str := ["base", "digits", "rest", "digit"]
theorem scBh : FnScope nBh ["base", "digits", "rest"] (defScope sBehind) := ⟨rfl, rfl, rfl, by decide +kernel, rfl, by decide +kernel, by decide +kernel⟩
theorem ok_behind {f : Addr} {fd : FuncData} (F : Fun K "places_behind" "places_behind" sBehind f fd) : FnOk P w K mg base CX0 1 f fd ["base", "digits", "rest"] (spBehind K) := by
  refine F.ok scBh (fun vs H Q E h => ?_) (fun cdv A outer s H vs Q E hr h => ?_)
  · obtain ⟨b, n, D, es, rfl, _⟩ := h
    rfl
  · obtain ⟨b, n, D, es, rfl, b0, b6, hD, hl, q⟩ := h
    apply Exists.intro
    apply And.intro
    · apply pss_one
      · exact ps_ret (pe_lc (own := [("digit", 3)]) (g := gName 3) rfl scBh.nd (pi_list (pv 1)) (blkOk_by (own := [("digit", 3)]) (N := nBh) (sc := defScope sBehind) (by decide +kernel)) (fun _ _ _ _ _ => pg_name (i := 3) scBh.nd rfl (Or.inl rfl))
          (fun _ _ _ _ _ => by exact (pts_one (pt_cmpR op_eq (pe_op op_modN (pe_op op_sub (pv 2) (pv 3)) (pv 0)) pe_int (nomark _)))) (fun _ _ _ _ _ => by exact (pe_tup (pa_cons (pe_op op_fdivN (pe_op op_sub (pv 2) (pv 3)) (pv 0)) (pa_cons (pv 3) pa_nil)))))
    refine ⟨.ref D, rfl, D, rfl, ⟨_, SqL.of hD⟩, fun L hL => ?_⟩
    refine lc_list (K := K) (a := D) (xs := es.map V.int) (fun i H' => Same H H' ∧ ∃ ks : List (Addr × (Int × Int)), ks.map (·.2) = plc b (es.take i) n ∧ ks.length ≤ i ∧ H' L = some (.lst (ks.map fun p => V.ref p.1)) ∧ ∀ p ∈ ks, H' p.1 = some (.tup [.int p.2.1, .int p.2.2])) ⟨same_new hL, [], rfl, Nat.le_refl _, upd_same, fun p h => by cases h⟩ (fun i H' _ h => SqL.of (h.1 _ _ hD)) ?_ ?_
    · rintro i x H1 hx ⟨s1, ks, ek, lk, e1, tk⟩
      obtain ⟨d, hd, rfl⟩ := get_map hx
      have hi : i < es.length := (List.getElem?_eq_some_iff.mp hd).1
      refine ⟨rfl, .int n, rfl, .int d, rfl, n, d, rfl, rfl, .int b, rfl, n - d, b, rfl, rfl, b0, rfl, _, rfl, ite2 (fun c => ?_) (fun c => ?_)⟩
      · have c2 : (n - d).fmod b = 0 := V.int.inj (of_decide_eq_true c)
        refine ⟨.int n, rfl, .int d, rfl, n, d, rfl, rfl, .int b, rfl, n - d, b, rfl, rfl, ⟨b0, by omega⟩, .int d, rfl, (by show 2 ≤ sizeLine; decide), fun T hT => ?_⟩
        have s2 := same_new (o := .tup [.int ((n - d).fdiv b), .int d]) hT
        have e2 := s2 _ _ e1
        refine ⟨_, e2, ?_, Same.store (s1.trans s2) hL, ks ++ [(T, ((n - d).fdiv b, d))], ?_, ?_, ?_, fun p hp => ?_⟩
        · rw [List.length_map]
          exact small1000 (by omega)
        · rw [List.map_append, ek, take_more hd]
          unfold plc
          rw [List.filter_append, List.map_append]
          simp [c2]
        · rw [List.length_append]
          show ks.length + 1 ≤ i + 1
          omega
        · rw [upd_same, List.map_append]
          rfl
        · have nL : p.1 ≠ L := fun z => by
            rcases List.mem_append.mp hp with h | h
            · have := s2 _ _ (tk p h)
              rw [z, e2] at this
              cases this
            · cases List.mem_singleton.mp h
              have z2 : T = L := z
              rw [z2, e1] at hT
              cases hT
          rw [upd_ne nL]
          rcases List.mem_append.mp hp with h | h
          · exact s2 _ _ (tk p h)
          · cases List.mem_singleton.mp h
            exact upd_same
      · have c2 : ¬ (n - d).fmod b = 0 := fun z => c (decide_eq_true (congrArg V.int z))
        refine ⟨s1, ks, ?_, by omega, e1, tk⟩
        rw [ek, take_more hd]
        unfold plc
        rw [List.filter_append]
        simp [c2]
    · rintro H1 ⟨s1, ks, ek, lk, e1, tk⟩
      rw [List.length_map, List.take_length] at ek
      exact q L H1 s1 ⟨ks, ek, e1, tk⟩ hL

/-! ### core, steps -/
def mA (b : Int) : Int := if b < 0 then -b else b
/-- the greatest absolute value of these -/
def IsMx (ds : List Int) (m : Int) : Prop := m ∈ ds.map mA ∧ ∀ y ∈ ds.map mA, y ≤ m
theorem IsMx.one {ds : List Int} {m n : Int} (h : IsMx ds m) (k : IsMx ds n) : m = n := by
  have h1 := h.2 n k.1
  have h2 := k.2 m h.1
  omega
def spCore (C CN : Addr) : Sp := fun vs H Q E => ∃ x : V, vs = [x] ∧ ((Odd H x ∧ Raised CN "value" x H E) ∨
  ∃ (a t r : Addr) (b : Int) (ds : List Int) (ks : List (Addr × (Int × Int))), x = .ref a ∧ SchemeAt C H a t r b ds ks ∧ ds.length ≤ 60 ∧ 1 ≤ ds.length ∧ 2 ≤ mA b ∧ mA b ≤ 6 ∧ ∀ m H', IsMx ds m → Same H H' → Q (.int (m / (mA b - 1))) H')
abbrev nCo : List Str := ["scheme", "digit"]
theorem scCo : FnScope nCo ["scheme"] (defScope sCore) := ⟨rfl, rfl, rfl, by decide +kernel, rfl, by decide +kernel, by decide +kernel⟩
theorem ok_core {f fS fD fB C CN p p2 : Addr} {fd fdS fdD fdB : FuncData} (F : Fun K "core" "core" sCore f fd) (c : Cls K C)
    (GS : FnOk P w K mg base (L2.CX P w) 5 fS fdS ["value"] (spCheckS C CN)) (gS : mg "check_scheme" = some (.ref fS)) (kS : PySem.W.keepIn K (.ref fS) = true) (bS : Binds K fdS ["value"] [])
    (pD : PropOf K C "digits" p fD) (GD : FnOk P w K mg base CX0 1 fD fdD ["self"] (spPD C)) (bD : Binds K fdD ["self"] []) (pB : PropOf K C "base" p2 fB) (GB : FnOk P w K mg base CX0 1 fB fdB ["self"] (spPB C)) (bB : Binds K fdB ["self"] [])
    (ma : mg "abs" = none) (mm : mg "max" = none) : FnOk P w K mg base (L2.CX P w) 6 f fd ["scheme"] (spCore C CN) := by
  refine F.okX scCo (fun vs H Q E h => ?_) (fun cdv A outer s H vs Q E hr h => ?_)
  · obtain ⟨x, rfl, _⟩ := h
    rfl
  · obtain ⟨x, rfl, h⟩ := h
    have hr2 : Room 2 _ := hr.mono (by decide)
    apply Exists.intro
    apply And.intro
    · apply pss_cons
      · exact ps_expr (pe_call GS hr (by rfl) gS kS bS .nil (passes_call (W := fun cl d _ J => E cl d J) (takes_of rfl rfl rfl rfl) (fun _ _ _ _ z => z)) (pa_cons (pv 0) pa_nil))
      apply pss_one
      · exact ps_ret (pe_op op_fdiv (pe_callB (cr_max rfl) (by rfl) mm PyProof.Rows.boot_max (pa_cons (pe_lc (own := [("digit", 1)]) (g := gName 1) (tt := tYes) rfl scCo.nd (pi_tup (pe_prop (pv 0) c pD GD hr2 bD .nil pass0 (by rfl))) (blkOk_by (own := [("digit", 1)]) (N := nCo) (sc := defScope sCore) (by decide +kernel)) (fun _ _ _ _ _ => pg_name (i := 1) scCo.nd rfl (Or.inl rfl)) (fun _ _ _ _ _ => pts_nil)
          (fun _ _ _ _ _ => by exact (pe_callB call_abs (by rfl) ma (by decide +kernel) (pa_cons (pv 1) pa_nil)))) pa_nil)) (pe_op op_sub (pe_callB call_abs (by rfl) ma (by decide +kernel) (pa_cons (pe_prop (pv 0) c pB GB hr2 bB .nil pass0 (by rfl)) pa_nil)) pe_int))
    rcases h with ⟨o, hE⟩ | ⟨a, t, r, b, ds, ks, rfl, S, hl, h1, m2, m6, q⟩
    · exact ⟨x, rfl, x, rfl, .inr ⟨o, hE⟩⟩
    · obtain ⟨⟨dx, hins⟩, ht, _⟩ := id S
      refine ⟨.ref a, rfl, .ref a, rfl, .inl ⟨a, dx, _, rfl, hins, ?_⟩⟩
      refine ⟨.ref a, rfl, a, dx, _, rfl, hins, a, t, r, b, ds, ks, rfl, S, t, rfl, ⟨_, SqT.of ht⟩, fun D hD => ?_⟩
      refine lc_tup (K := K) (a := t) (xs := ds.map V.int) (fun i H' => Same H H' ∧ H' D = some (.lst (((ds.take i).map mA).map V.int))) ⟨same_new hD, upd_same⟩ (fun i H' _ h => SqT.of (h.1 _ _ ht)) ?_ ?_
      · rintro i y H1 hy ⟨s1, e1⟩
        obtain ⟨d, hd, rfl⟩ := get_map hy
        refine ⟨rfl, tYes_if ⟨.int d, rfl, d, rfl, _, e1, ?_, Same.store s1 hD, ?_⟩⟩
        · rw [List.length_map, List.length_map]
          exact Nat.lt_of_le_of_lt (List.length_take_le' _ _) (small1000 (by omega))
        · rw [upd_same, take_more hd, List.map_append, List.map_append]
          rfl
      · rintro H1 ⟨s1, e1⟩
        rw [List.length_map, List.take_length] at e1
        refine ⟨D, ds.map mA, rfl, SqL.of e1, by rw [List.length_map]; omega, fun m hm hy => ?_⟩
        obtain ⟨⟨dx1, hins1⟩, _⟩ := id (S.same s1)
        refine ⟨.ref a, rfl, a, dx1, _, rfl, hins1, a, t, r, b, ds, ks, rfl, S.same s1, b, rfl, mA b, 1, rfl, rfl, m, mA b - 1, rfl, rfl, ⟨by omega, by omega⟩, q m H1 ⟨hm, hy⟩ s1⟩
def spSteps (C CN CI CU : Addr) : Sp := fun vs H Q E => ∃ x y z : V, vs = [x, y, z] ∧ ((Odd H x ∧ Raised CN "value" x H E) ∨
  ∃ (a t r : Addr) (b : Int) (ds : List Int) (ks : List (Addr × (Int × Int))), x = .ref a ∧ SchemeAt C H a t r b ds ks ∧ ds.length ≤ 60 ∧ b ≠ 0 ∧ b.natAbs ≤ 6 ∧ ((Odd H y ∧ Raised CI "number" y H E) ∨
    ∃ n : Int, y = .int n ∧ ItemOk H z ∧ (rightB ds z = true → ∀ L H', Same H H' → H L = none → PlacesAt H' L (plc b (ds.filter fun d => jdg ds ks (.int d) z) n) → Q (.ref L) H') ∧ (rightB ds z = false → Raised CU "digit" z H E)))
theorem scSt : FnScope ["scheme", "rest", "right"] ["scheme", "rest", "right"] (defScope sSteps) := ⟨rfl, rfl, rfl, by decide +kernel, rfl, by decide +kernel, by decide +kernel⟩
theorem ok_steps {f fP fL fH fB C CN CI CU p2 : Addr} {fd fdP fdL fdH fdB : FuncData} (F : FunD K "steps" "steps" (defArgs sSteps) (defBody sSteps) (defScope sSteps) [.non] [] f fd) (c : Cls K C)
    (GP : FnOk P w K mg base (L2.CX P w) 7 fP fdP ["scheme", "rest", "right"] (spCheckP C CN CI CU)) (gP : mg "_check_place" = some (.ref fP)) (kP : PySem.W.keepIn K (.ref fP) = true) (bP : Binds K fdP ["scheme", "rest", "right"] [])
    (GL : FnOk P w K mg base CX0 6 fL fdL ["scheme", "right"] (spLeft C)) (gL : mg "left_digits" = some (.ref fL)) (kL : PySem.W.keepIn K (.ref fL) = true) (bL : Binds K fdL ["scheme", "right"] [])
    (GH : FnOk P w K mg base CX0 1 fH fdH ["base", "digits", "rest"] (spBehind K)) (gH : mg "places_behind" = some (.ref fH)) (kH : PySem.W.keepIn K (.ref fH) = true) (bH : Binds K fdH ["base", "digits", "rest"] [])
    (pB : PropOf K C "base" p2 fB) (GB : FnOk P w K mg base CX0 1 fB fdB ["self"] (spPB C)) (bB : Binds K fdB ["self"] []) : FnOk P w K mg base (L2.CX P w) 8 f fd ["scheme", "rest", "right"] (spSteps C CN CI CU) := by
  refine F.ok scSt (fun vs H Q E h => ?_) (fun cdv A outer s H vs Q E hr h => ?_)
  · obtain ⟨x, y, z, rfl, _⟩ := h
    rfl
  · obtain ⟨x, y, z, rfl, h⟩ := h
    have hr1 : Room 1 _ := hr.mono (by decide)
    have hr2 : Room 2 _ := hr.mono (by decide)
    have hr6 : Room 6 _ := hr.mono (by decide)
    apply Exists.intro
    apply And.intro
    · apply pss_cons
      · exact ps_expr (pe_call GP hr (by rfl) gP kP bP .nil (passes_call (W := fun cl d _ J => E cl d J) (takes_of rfl rfl rfl rfl) (fun _ _ _ _ z => z)) (pa_cons (pv 0) (pa_cons (pv 1) (pa_cons (pv 2) pa_nil))))
      apply pss_one
      · exact ps_ret (pe_call GH hr1 (by rfl) gH kH bH .nil pass0 (pa_cons (pe_prop (pv 0) c pB GB hr2 bB .nil pass0 (by rfl)) (pa_cons (pe_call GL hr6 (by rfl) gL kL bL .nil pass0 (pa_cons (pv 0) (pa_cons (pv 2) pa_nil))) (pa_cons (pv 1) pa_nil))))
    rcases h with ⟨o, hE⟩ | ⟨a, t, r, b, ds, ks, rfl, S, hl, b0, b6, h⟩
    · exact ⟨x, rfl, y, rfl, z, rfl, x, y, z, rfl, .inl ⟨o, hE⟩⟩
    · rcases h with ⟨o, hE⟩ | ⟨n, rfl, hz, hq, hE⟩
      · exact ⟨.ref a, rfl, y, rfl, z, rfl, .ref a, y, z, rfl, .inr ⟨a, t, r, b, ds, ks, rfl, S, .inl ⟨o, hE⟩⟩⟩
      · refine ⟨.ref a, rfl, .int n, rfl, z, rfl, .ref a, .int n, z, rfl, .inr ⟨a, t, r, b, ds, ks, rfl, S, .inr ⟨n, rfl, hz, fun hz2 H1 s1 => ?_, hE⟩⟩⟩
        have S1 := S.same s1
        obtain ⟨⟨dx1, hins1⟩, _⟩ := id S1
        refine ⟨.ref a, rfl, a, dx1, _, rfl, hins1, a, t, r, b, ds, ks, rfl, S1, ?_⟩
        refine ⟨.ref a, rfl, z, rfl, a, t, r, b, ds, ks, z, rfl, S1, hl, .inl (hz.same s1), fun D H2 s2 e2 => ?_⟩
        refine ⟨.int n, rfl, b, n, D, _, rfl, b0, b6, e2, ?_, fun L H3 s3 pl hL => ?_⟩
        · exact Nat.le_trans (List.length_filter_le _ _) hl
        · exact hq hz2 L H3 (s1.trans (s2.trans s3)) ((s1.trans s2).free hL) pl
end
end K11
namespace K11
open PySem PySem.Spec PyProof.Rows L2 OF


section
variable {P : Program} {w : World} {K : PySem.W.Frag} {mg : Str → Option Value} {base : Heap}
theorem scC : FnScope ["_law_script", "_law_k"] ["_law_script", "_law_k"] (defScope sCell) := ⟨rfl, rfl, rfl, by decide +kernel, rfl, by decide +kernel, by decide +kernel⟩
theorem ok_cell {f : Addr} {fd : FuncData} (F : Fun K "_law_cell" "_law_cell" sCell f fd) (ml : mg "len" = none) : FnOk P w K mg base CX0 1 f fd ["_law_script", "_law_k"] (OF.spCell K) := by
  refine F.ok scC (fun vs H Q E h => ?_) (fun cdv A outer s H vs Q E hr h => ?_)
  · obtain ⟨a, ns, k, rfl, _⟩ := h
    rfl
  · obtain ⟨a, ns, k, rfl, hS, hk, q⟩ := h
    refine ⟨_, pss_cons (ps_if (pt_cmpR op_lt (pv 1) (pe_callB call_len_seq (by rfl) ml PySem.boot_len (pa_cons (pv 0) pa_nil)) (nomark _))
        (pss_one (ps_ret (pe_ix ix_list (pv 0) (pv 1) (fun _ _ => rfl)))) pss_nil)
      (pss_one (ps_ret (pe_op op_add (pe_op op_mul pe_int (pv 1)) pe_int))), ?_⟩
    refine ⟨.int k, rfl, .ref a, rfl, a, ns.map V.int, rfl, .inl hS, k, _, rfl, rfl, _, rfl, ite2 (fun c => ?_) (fun c => ?_)⟩
    · have c1 : k < ns.length := by
        have c2 := of_decide_eq_true c
        rw [List.length_map] at c2
        omega
      have g : (ns.map V.int)[k]? = some (.int ns[k]) := by
        rw [List.getElem?_map, List.getElem?_eq_getElem c1]
        rfl
      exact ⟨.ref a, rfl, .int k, rfl, a, _, k, .int ns[k], rfl, rfl, hS, atI_nat g, q _⟩
    · exact ⟨.int k, rfl, _, _, rfl, rfl, .inl ⟨by decide, by decide⟩, _, _, rfl, rfl, q _⟩
theorem scB : FnScope ["_law_cell_here"] ["_law_cell_here"] (defScope sBox) := ⟨rfl, rfl, rfl, by decide +kernel, rfl, by decide +kernel, by decide +kernel⟩
theorem ok_box {f : Addr} {fd : FuncData} (F : Fun K "_law_box" "_law_box" sBox f fd) (mi : mg "int" = none) (mm : mg "max" = none) : FnOk P w K mg base CX0 1 f fd ["_law_cell_here"] spBox := by
  refine F.ok scB (fun vs H Q E h => ?_) (fun cdv A outer s H vs Q E hr h => ?_)
  · obtain ⟨c, rfl, _⟩ := h
    rfl
  · obtain ⟨c, rfl, q⟩ := h
    refine ⟨_, pss_one (ps_ret (pe_lst (pa_cons (pe_callB (call_max2 rfl) (by rfl) mm PyProof.Rows.boot_max (pa_cons pe_int (pa_cons (pe_op op_sub (pv 0) (pe_op op_pow pe_int pe_int)) pa_nil)))
      (pa_cons (pe_op op_modR (pe_callTy call_int1 (by rfl) mi PyProof.Rows.boot_int (pa_cons (pv 0) pa_nil)) pe_int) (pa_cons pe_int pa_nil))))), ?_⟩
    refine ⟨.int c, rfl, _, _, rfl, rfl, ⟨by decide, by decide, by decide⟩, _, _, rfl, rfl, _, _, rfl, .int c, rfl, .inl ⟨_, rfl, _, _, rfl, rfl, by decide, fun r r0 r1 => ?_⟩⟩
    refine ⟨by show 3 ≤ sizeLine; decide, fun p hp => ?_⟩
    refine q p _ hp (same_new hp) ⟨_, r, 0, upd_same, ?_, r0, by omega, by decide, by decide⟩
    split <;> omega
theorem scT : FnScope ["_law_box_here", "_law_many", "_law_digit", "_law_number_here"] ["_law_box_here", "_law_many"] (defScope sTake) := ⟨rfl, rfl, rfl, by decide +kernel, rfl, by decide +kernel, by decide +kernel⟩
theorem ok_take {f : Addr} {fd : FuncData} (F : Fun K "_law_take" "_law_take" sTake f fd) (mi : mg "int" = none) : FnOk P w K mg base CX0 1 f fd ["_law_box_here", "_law_many"] spTake := by
  refine F.ok scT (fun vs H Q E h => ?_) (fun cdv A outer s H vs Q E hr h => ?_)
  · obtain ⟨a, m, n, rfl, _⟩ := h
    rfl
  · obtain ⟨a, m, n, rfl, ⟨b0, b1, b2, hH, p0, p1, q1, p2, q2⟩, hn, hm, hmb, q⟩ := h
    refine ⟨_, pss_cons (ps_if (pt_cmpR op_gt (pe_ix ix_list (pv 0) pe_int (fun _ _ => rfl)) pe_int (nomark _))
        (pss_cons (ps_set (i := 2) scT.nd rfl (.inl rfl) (pe_op op_modR (pe_callTy call_int1 (by rfl) mi PyProof.Rows.boot_int (pa_cons (pe_ix ix_list (pv 0) pe_int (fun _ _ => rfl)) pa_nil)) (pv 1)))
        (pss_cons (ps_asg (pe_op op_fdivW (pe_ix ix_list (pv 0) pe_int (fun _ _ => rfl)) (pv 1)) (pg_sub (pv 0) pe_int set_list))
        (pss_one (ps_ret (pv 2))))) pss_nil)
      (pss_cons (ps_asg (pe_op op_add (pe_ix ix_list (pv 0) pe_int (fun _ _ => rfl)) pe_int) (pg_sub (pv 0) pe_int set_list))
      (pss_cons (ps_set (i := 3) scT.nd rfl (.inl rfl) (pe_op op_modR (pe_op op_pow (pe_callTy call_int1 (by rfl) mi PyProof.Rows.boot_int
          (pa_cons (pe_op op_add (pe_op op_add (pe_ix ix_list (pv 0) pe_int (fun _ _ => rfl)) (pe_op op_mul pe_int (pe_ix ix_list (pv 0) pe_int (fun _ _ => rfl)))) pe_int) pa_nil)) pe_int) pe_int))
      (pss_cons (ps_set (i := 3) scT.nd rfl (.inl rfl) (pe_op op_modR (pe_op op_pow (pe_callTy call_int1 (by rfl) mi PyProof.Rows.boot_int
          (pa_cons (pe_op op_add (pv 3) (pe_op op_mul pe_int (pe_ix ix_list (pv 0) pe_int (fun _ _ => rfl)))) pa_nil)) pe_int) pe_int))
      (pss_one (ps_ret (pe_op op_modR (pe_callTy call_int1 (by rfl) mi PyProof.Rows.boot_int (pa_cons (pe_op op_fdiv (pv 3) pe_int) pa_nil)) (pv 1))))))), ?_⟩
    refine ⟨.ref a, rfl, a, _, 0, .int b0, rfl, rfl, SqL.of hH, atI_nat (j := 0) rfl, b0, 0, rfl, rfl, _, rfl, ite2 (fun c => ?_) (fun c => ?_)⟩
    · refine ⟨.ref a, rfl, a, _, 0, .int b0, rfl, rfl, SqL.of hH, atI_nat (j := 0) rfl, .inl ⟨b0, rfl, .int m, rfl, b0, m, rfl, rfl, hm, fun r r0 r1 => ?_⟩⟩
      refine ⟨.ref a, rfl, a, _, 0, .int b0, rfl, rfl, SqL.of hH, atI_nat (j := 0) rfl, .int m, rfl, b0, m, rfl, rfl, wide_div hm hmb (by decide) (by decide), ?_⟩
      refine ⟨.ref a, rfl, a, _, 0, 0, rfl, rfl, hH, rfl, ?_⟩
      refine ⟨.int r, rfl, q r _ r0 r1 But.at_ ⟨b0 / m, b1, b2, upd_same, Int.ediv_nonneg p0 (by omega), p1, q1, p2, by omega⟩⟩
    · refine ⟨.ref a, rfl, a, _, 2, .int b2, rfl, rfl, SqL.of hH, atI_nat (j := 2) rfl, b2, 1, rfl, rfl, .ref a, rfl, a, _, 2, 2, rfl, rfl, hH, rfl, ?_⟩
      have hH1 : (upd H a (.lst [.int b0, .int b1, .int (b2 + 1)])) a = some (.lst [.int b0, .int b1, .int (b2 + 1)]) := upd_same
      refine ⟨.ref a, rfl, a, _, 1, .int b1, rfl, rfl, SqL.of hH1, atI_nat (j := 1) rfl, .ref a, rfl, a, _, 2, .int (b2 + 1), rfl, rfl, SqL.of hH1, atI_nat (j := 2) rfl,
        _, _, rfl, rfl, .inl ⟨by decide, by decide⟩, _, _, rfl, rfl, _, _, rfl, rfl, .inl ⟨_, rfl, _, _, rfl, rfl, ⟨by decide, by decide, by omega⟩, _, _, rfl, rfl, by decide, fun r r0 r1 => ?_⟩⟩
      refine ⟨.int r, rfl, .ref a, rfl, a, _, 2, .int (b2 + 1), rfl, rfl, SqL.of hH1, atI_nat (j := 2) rfl,
        _, _, rfl, rfl, .inl ⟨by decide, by decide⟩, _, _, rfl, rfl, .inl ⟨_, rfl, _, _, rfl, rfl, ⟨by decide, by decide, by omega⟩, _, _, rfl, rfl, by decide, fun r' r0' r1' => ?_⟩⟩
      refine ⟨.int r', rfl, _, _, rfl, rfl, ⟨by decide, by decide⟩, .inl ⟨_, rfl, .int m, rfl, _, _, rfl, rfl, hm, fun r2 h0 h1 => ?_⟩⟩
      exact q r2 _ h0 h1 But.at_ ⟨b0, b1, b2 + 1, upd_same, p0, p1, q1, by omega, by omega⟩

theorem _root_.OF.But.free_ {a p : Addr} {H H' : Hp} (t : OF.But a H H') (n : p ≠ a) (h : H' p = none) : H p = none := by
  rcases Option.eq_none_or_eq_some (H p) with z | ⟨o, z⟩
  · exact z
  · rw [t p o n z] at h
    cases h
/-! ### lists in order -/
theorem sorted_ext {α : Type} {r : α → α → Prop} (as : ∀ a b, r a b → ¬ r b a) : ∀ {l m : List α}, l.Pairwise r → m.Pairwise r → (∀ x, x ∈ l ↔ x ∈ m) → l = m
  | [], [], _, _, _ => rfl
  | [], y :: m, _, _, h => absurd ((h y).mpr List.mem_cons_self) List.not_mem_nil
  | x :: l, [], _, _, h => absurd ((h x).mp List.mem_cons_self) List.not_mem_nil
  | x :: l, y :: m, h1, h2, h => by
    obtain ⟨a1, b1⟩ := List.pairwise_cons.mp h1
    obtain ⟨a2, b2⟩ := List.pairwise_cons.mp h2
    have e : x = y := by
      rcases List.mem_cons.mp ((h x).mp List.mem_cons_self) with z | z
      · exact z
      · rcases List.mem_cons.mp ((h y).mpr List.mem_cons_self) with z2 | z2
        · exact z2.symm
        · exact absurd (a1 y z2) (as _ _ (a2 x z))
    subst e
    have e2 : l = m := sorted_ext as b1 b2 fun z => by
      constructor
      · intro hz
        rcases List.mem_cons.mp ((h z).mp (List.mem_cons_of_mem _ hz)) with q | q
        · subst q
          exact absurd (a1 z hz) (as _ _ (a1 z hz))
        · exact q
      · intro hz
        rcases List.mem_cons.mp ((h z).mpr (List.mem_cons_of_mem _ hz)) with q | q
        · subst q
          exact absurd (a2 z hz) (as _ _ (a2 z hz))
        · exact q
    rw [e2]
theorem erase_map {α β : Type} (f : α → β) : ∀ (l : List α) (k : Nat), (l.map f).eraseIdx k = (l.eraseIdx k).map f
  | [], _ => rfl
  | _ :: _, 0 => rfl
  | x :: l, k + 1 => by
    show f x :: (l.map f).eraseIdx k = f x :: (l.eraseIdx k).map f
    rw [erase_map f l k]
theorem erase_perm {α : Type} : ∀ (l : List α) (k : Nat) (h : k < l.length), (l[k] :: l.eraseIdx k).Perm l
  | x :: l, 0, _ => List.Perm.refl _
  | x :: l, k + 1, h => by
    have h2 : k < l.length := Nat.lt_of_succ_lt_succ h
    show (l[k] :: x :: l.eraseIdx k).Perm (x :: l)
    exact (List.Perm.swap _ _ _).trans ((erase_perm l k h2).cons x)
/-- pairs by their order -/
def lexP (p q : Int × Int) : Prop := p.1 < q.1 ∨ (p.1 = q.1 ∧ p.2 < q.2)
theorem lexP_as (p q : Int × Int) (h : lexP p q) : ¬ lexP q p := by
  intro z
  unfold lexP at h z
  omega
/-- all pairs, in order -/
def prod (ns : List Int) : List (Int × Int) := ns.flatMap fun x => ns.map fun y => (x, y)
theorem prod_aux {ms : List Int} (hm : ms.Pairwise (· < ·)) : ∀ {ns : List Int}, ns.Pairwise (· < ·) → (ns.flatMap fun x => ms.map fun y => (x, y)).Pairwise lexP
  | [], _ => List.Pairwise.nil
  | x :: ns, h => by
    obtain ⟨a, b⟩ := List.pairwise_cons.mp h
    rw [List.flatMap_cons, List.pairwise_append]
    refine ⟨?_, prod_aux hm b, fun p hp q hq => ?_⟩
    · rw [List.pairwise_map]
      exact hm.imp fun z => .inr ⟨rfl, z⟩
    · obtain ⟨y, _, rfl⟩ := List.mem_map.mp hp
      obtain ⟨x2, hx2, hq⟩ := List.mem_flatMap.mp hq
      obtain ⟨y2, _, rfl⟩ := List.mem_map.mp hq
      exact .inl (a x2 hx2)
theorem prod_mem {ns : List Int} {p : Int × Int} (h : p ∈ prod ns) : p.1 ∈ ns ∧ p.2 ∈ ns := by
  obtain ⟨x, hx, hp⟩ := List.mem_flatMap.mp h
  obtain ⟨y, hy, rfl⟩ := List.mem_map.mp hp
  exact ⟨hx, hy⟩
theorem flat_len {ms : List Int} : ∀ (ns : List Int), (ns.flatMap fun x => ms.map fun y => (x, y)).length = ns.length * ms.length
  | [] => by simp
  | x :: ns => by
    rw [List.flatMap_cons, List.length_append, flat_len ns, List.length_map, List.length_cons, Nat.succ_mul]
    omega
/-- the parts of a scheme that a law draws -/
structure Good (b : Int) (ns : List Int) (ps : List (Int × Int)) : Prop where
  b : isBase b = true
  asc : ns.Pairwise (· < ·)
  one : 1 ≤ ns.length
  six : ns.length ≤ 6
  dg : ∀ n ∈ ns, dig n = true
  mem : ∀ p ∈ ps, p.1 ∈ ns ∧ p.2 ∈ ns
  lex : ps.Pairwise lexP
  few : ps.length ≤ 36
/-- the list of these parts in the heap -/
structure ModAt (H : Hp) (m dl pl : Addr) (b : Int) (ns : List Int) (ks : List (Addr × (Int × Int))) : Prop where
  mo : H m = some (.lst [.int b, .ref dl, .ref pl])
  di : H dl = some (.lst (ns.map V.int))
  pa : H pl = some (.lst (ks.map fun p => V.ref p.1))
  pr : ∀ p ∈ ks, H p.1 = some (.tup [.int p.2.1, .int p.2.2])
theorem ModAt.same {H H' : Hp} {m dl pl : Addr} {b : Int} {ns : List Int} {ks : List (Addr × (Int × Int))} (h : ModAt H m dl pl b ns ks) (s : Same H H') : ModAt H' m dl pl b ns ks :=
  ⟨s _ _ h.mo, s _ _ h.di, s _ _ h.pa, fun p hp => s _ _ (h.pr p hp)⟩
/-- the law's parts of a scheme at m, wherever but the box at a may change -/
def Model (a : Addr) (H : Hp) (m : Addr) (b : Int) (ns : List Int) (ps : List (Int × Int)) : Prop := ∃ (dl pl : Addr) (ks : List (Addr × (Int × Int))), ks.map (·.2) = ps ∧ ∀ H', But a H H' → ModAt H' m dl pl b ns ks
theorem Model.but {a m : Addr} {H H' : Hp} {b : Int} {ns : List Int} {ps : List (Int × Int)} (h : Model a H m b ns ps) (t : But a H H') : Model a H' m b ns ps := by
  obtain ⟨dl, pl, ks, e, z⟩ := h
  exact ⟨dl, pl, ks, e, fun H2 t2 => z H2 (t.trans t2)⟩

/-! ### digits, drawn -/
theorem mA_cases {b : Int} (h : isBase b = true) : mA b = 2 ∨ mA b = 3 ∨ mA b = 4 ∨ mA b = 5 ∨ mA b = 6 := by
  unfold isBase at h
  unfold mA
  simp only [Bool.or_eq_true, Bool.and_eq_true, decide_eq_true_eq] at h
  split <;> omega
def spDigits : Sp := fun vs H Q _ => ∃ (a : Addr) (b n : Int), vs = [.ref a, .int b] ∧ Box n H a ∧ n ≤ 800000 ∧ isBase b = true ∧
  ∀ (D : Addr) (ns : List Int) (H' : Hp), H D = none → But a H H' → Box (n + 30) H' a → H' D = some (.lst (ns.map V.int)) → ns.Nodup → 1 ≤ ns.length → ns.length ≤ 6 → (∀ k ∈ ns, dig k = true) → Q (.ref D) H'
abbrev nDi : List Str := ["_law_box_here", "_law_base", "_law_way", "_law_many", "_law_first", "_law_some", "_law_pool", "_law_k", "_law_digit"]
theorem scDi : FnScope nDi ["_law_box_here", "_law_base"] (defScope sDigits) := ⟨rfl, rfl, rfl, by decide +kernel, rfl, by decide +kernel, by decide +kernel⟩
theorem rg_ints (a b : Int) : rgV a b = ((List.range (b - a).toNat).map fun (i : Nat) => a + (i : Int)).map V.int := by
  unfold rgV
  rw [List.map_map]
  rfl
theorem rg_nodup (a : Int) (n : Nat) : ((List.range n).map fun (i : Nat) => a + (i : Int)).Nodup := by
  rw [List.nodup_iff_pairwise_ne, List.pairwise_map]
  refine List.nodup_range.imp fun {i j} h e => h ?_
  omega
theorem dig_of {k : Int} (h : -9 ≤ k) (h2 : k ≤ 9) : dig k = true := by
  unfold dig
  rw [decide_eq_true h, decide_eq_true h2]
  rfl
/-- what the second way makes: one number for each remainder -/
def Spread (m : Int) (vs : List Int) (lo hi : Int) : Prop := ∀ (j : Nat) (v : Int), vs[j]? = some v → ∃ c : Int, v = j + m * c ∧ lo ≤ c ∧ c ≤ hi
theorem spread_push {m lo hi c : Int} {vs : List Int} (h : Spread m vs lo hi) (h0 : lo ≤ c) (h1 : c ≤ hi) : Spread m (vs ++ [vs.length + m * c]) lo hi := by
  intro j v e
  rcases Nat.lt_trichotomy j vs.length with z | z | z
  · rw [List.getElem?_append_left z] at e
    exact h j v e
  · subst z
    rw [List.getElem?_append_right (Nat.le_refl _), Nat.sub_self] at e
    cases Option.some.inj e
    exact ⟨c, rfl, h0, h1⟩
  · rw [List.getElem?_eq_none (by rw [List.length_append]; show vs.length + 1 ≤ j; omega)] at e
    cases e
theorem spread_nodup {m lo hi : Int} {vs : List Int} (h : Spread m vs lo hi) (hm : m = 2 ∨ m = 3 ∨ m = 4 ∨ m = 5 ∨ m = 6) (hl : (vs.length : Int) ≤ m) : vs.Nodup := by
  rw [List.nodup_iff_pairwise_ne, List.pairwise_iff_getElem]
  intro i j hi hj hij e
  obtain ⟨c, e1, _⟩ := h i _ (List.getElem?_eq_getElem hi)
  obtain ⟨d, e2, _⟩ := h j _ (List.getElem?_eq_getElem hj)
  rw [e1, e2] at e
  rcases hm with rfl | rfl | rfl | rfl | rfl <;> omega
set_option maxHeartbeats 2000000 in
theorem ok_digits {f fT : Addr} {fd fdT : FuncData} (F : Fun K "_law_digits" "_law_digits" sDigits f fd) (FT : Fun K "_law_take" "_law_take" sTake fT fdT) (gT : mg "_law_take" = some (.ref fT)) (bT : Binds K fdT ["_law_box_here", "_law_many"] [])
    (mi : mg "int" = none) (ml : mg "len" = none) (mr : mg "range" = none) (ms : mg "list" = none) (ma : mg "abs" = none) : FnOk P w K mg base CX0 2 f fd ["_law_box_here", "_law_base"] spDigits := by
  have GT : FnOk P w K mg base CX0 1 fT fdT ["_law_box_here", "_law_many"] spTake := ok_take FT mi
  refine F.ok scDi (fun vs H Q E h => ?_) (fun cdv A outer s H vs Q E hr h => ?_)
  · obtain ⟨a, b, n, rfl, _⟩ := h
    rfl
  · obtain ⟨a, b, n, rfl, hB, hn, hb, q⟩ := h
    apply Exists.intro
    apply And.intro
    · apply pss_cons
      · exact ps_par (i := 2) (j := 3) rfl scDi.nd rfl rfl (by decide) rfl rfl (pa_cons (pe_call GT hr (by rfl) gT FT.kp bT .nil pass0 (pa_cons (pv 0) (pa_cons pe_int pa_nil))) (pa_cons (pe_op op_add pe_int (pe_call GT hr (by rfl) gT FT.kp bT .nil pass0 (pa_cons (pv 0) (pa_cons pe_int pa_nil)))) pa_nil)) (by rfl)
      apply pss_cons
      · exact ps_if (pt_cmpR op_eq (pv 2) pe_int (nomark _)) (pss_cons (ps_set (i := 4) scDi.nd rfl (.inl rfl) (pe_op op_sub (pe_call GT hr (by rfl) gT FT.kp bT .nil pass0 (pa_cons (pv 0) (pa_cons pe_int pa_nil))) pe_int))
          (pss_one (ps_ret (pe_listRg rfl (by rfl) ms (prg_2 (by rfl) mr (pv 4) (pe_op op_add (pv 4) (pv 3))))))) pss_nil
      apply pss_cons
      · exact ps_if (pt_cmpR op_eq (pv 2) pe_int (nomark _)) (pss_cons (ps_setLc (i := 5) (own := [("_law_k", 7)]) (g := gName 7) (tt := tYes) rfl scDi.nd rfl rfl (sw_true rfl rfl rfl (by decide +kernel)) (pi_range1 rfl mr (pa_cons (pe_callB call_abs (by rfl) ma (by decide +kernel) (pa_cons (pv 1) pa_nil)) pa_nil))
              (blkOk_by (own := [("_law_k", 7)]) (N := nDi) (sc := defScope sDigits) (by decide +kernel)) (fun _ _ _ _ _ => pg_name (i := 7) scDi.nd rfl (Or.inl rfl)) (fun _ _ _ _ _ => pts_nil)
              (fun _ _ _ _ _ => by exact (pe_op op_add (pv 7) (pe_op op_mul (pe_callB call_abs (by rfl) ma (by decide +kernel) (pa_cons (pv 1) pa_nil)) (pe_op op_sub (pe_call GT hr (by rfl) gT FT.kp bT .nil pass0 (pa_cons (pv 0) (pa_cons pe_int pa_nil))) pe_int)))))
          (pss_one (ps_ret (pe_lc (own := [("_law_digit", 8)]) (g := gName 8) (tt := tYes) rfl scDi.nd (pi_list (pv 5)) (blkOk_by (own := [("_law_digit", 8)]) (N := nDi) (sc := defScope sDigits) (by decide +kernel)) (fun _ _ _ _ _ => pg_name (i := 8) scDi.nd rfl (Or.inl rfl)) (fun _ _ _ _ _ => pts_nil)
              (fun _ _ _ _ _ => by exact (pe_op op_sub (pv 8) (pe_op op_mul (pe_callB call_abs (by rfl) ma (by decide +kernel) (pa_cons (pv 1) pa_nil)) (pe_callTy call_int1 (by rfl) mi PyProof.Rows.boot_int (pa_cons (pe_cmpR op_gt (pv 8) pe_int (nomark _)) pa_nil)))))))) ) pss_nil
      apply pss_cons
      · exact ps_set (i := 6) scDi.nd rfl (.inr rfl) (pe_listRg rfl (by rfl) ms (prg_2 (by rfl) mr (pe_un un_neg pe_int) pe_int))
      apply pss_one
      · exact ps_ret (pe_lc (own := [("_law_k", 7)]) (g := gName 7) (tt := tYes) (te := tBM K "list" rPopAt (tVar 6) (tCons (tCall spTake [] E0 (tCons (tVar 0) (tCons (tCB (rLenS K) (tCons (tVar 6) tNil)) tNil))) tNil)) rfl scDi.nd (pi_range1 rfl mr (pa_cons (pv 3) pa_nil))
        (blkOk_by (own := [("_law_k", 7)]) (N := nDi) (sc := defScope sDigits) (by decide +kernel)) (fun _ _ _ _ _ => pg_name (i := 7) scDi.nd rfl (Or.inl rfl)) (fun _ _ _ _ _ => pts_nil)
        (fun _ _ _ _ _ => by exact (pe_bm PySem.F.plainAttrs_list PySem.F.slot_list_pop PySem.F.type_list_pop mt_popAt (pv 6)
          (pa_cons (pe_call GT hr (by rfl) gT FT.kp bT .nil pass0 (pa_cons (pv 0) (pa_cons (pe_callB call_len_seq (by rfl) ml PySem.boot_len (pa_cons (pv 6) pa_nil)) pa_nil))) pa_nil))))
    refine ⟨.ref a, rfl, a, 4, n, rfl, hB, by omega, by decide, by decide, fun wy H1 w0 w1 t1 B1 => ?_⟩
    refine ⟨.ref a, rfl, a, 6, n + 1, rfl, B1, by omega, by decide, by decide, fun mm H2 m0 m1 t2 B2 => ?_⟩
    have T2 := t1.trans t2
    refine ⟨1, mm, rfl, rfl, .int wy, .int (1 + mm), rfl, ?_⟩
    refine ⟨.int wy, rfl, rfl, _, rfl, ite2 (fun c => ?_) (fun c => ?_)⟩
    · refine ⟨.ref a, rfl, a, 4, n + 1 + 1, rfl, B2, by omega, by decide, by decide, fun r H3 r0 r1 t3 B3 => ?_⟩
      refine ⟨r, 3, rfl, rfl, .int (r - 3), rfl, .int (r - 3), rfl, .int (1 + mm), rfl, r - 3, 1 + mm, rfl, rfl, r - 3, r - 3 + (1 + mm), rfl, rfl, ⟨by omega, by omega, by omega, by omega, by omega⟩, fun D hD => ?_⟩
      have nDa := B3.ne hD
      have hD0 : H D = none := (T2.trans t3).free_ nDa hD
      refine q D ((List.range (r - 3 + (1 + mm) - (r - 3)).toNat).map fun (i : Nat) => (r - 3) + (i : Int)) _ hD0 ((T2.trans t3).trans (But.new hD)) ((B3.new hD).mono (by omega)) ?_ (rg_nodup _ _) ?_ ?_ fun k hk => ?_
      · rw [upd_same, rg_ints]
      · rw [List.length_map, List.length_range]
        omega
      · rw [List.length_map, List.length_range]
        omega
      · obtain ⟨i, hi, rfl⟩ := List.mem_map.mp hk
        have := List.mem_range.mp hi
        exact dig_of (by omega) (by omega)
    · refine ⟨.int wy, rfl, rfl, _, rfl, ite2 (fun c1 => ?_) (fun c1 => ?_)⟩
      · have hm := mA_cases hb
        refine ⟨.int b, rfl, b, rfl, mA b, rfl, by omega, by omega, fun D hD => ?_⟩
        have nDa := B2.ne hD
        refine lc_range (lo := 0) (n := (mA b).toNat) (fun i H' => But a H2 H' ∧ Box (n + 2 + i) H' a ∧ ∃ ws : List Int, H' D = some (.lst (ws.map V.int)) ∧ ws.length = i ∧ Spread (mA b) ws (-1) 1) ⟨But.new hD, (B2.new hD).mono (by omega), [], upd_same, rfl, fun j v e => by simp at e⟩ ?_ ?_
        · rintro i H' hi ⟨t, B, ws, eD, lw, hs⟩
          refine ⟨rfl, tYes_if ⟨.int (0 + i), rfl, .int b, rfl, b, rfl, .ref a, rfl, a, 3, n + 2 + i, rfl, B, by omega, by decide, by decide, fun r H3 r0 r1 t3 B3 => ?_⟩⟩
          refine ⟨r, 1, rfl, rfl, mA b, r - 1, rfl, rfl, .inl ⟨by omega, by omega⟩, 0 + i, mA b * (r - 1), rfl, rfl, _, t3 _ _ nDa eD, ?_, (t.trans t3).store hD, (B3.upd nDa).mono (by omega), ws ++ [(ws.length : Int) + mA b * (r - 1)], ?_, ?_, spread_push hs (by omega) (by omega)⟩
          · rw [List.length_map, lw]
            exact small1000 (by omega)
          · rw [upd_same, List.map_append, lw, Int.zero_add]
            rfl
          · rw [List.length_append, lw]
            rfl
        · rintro H3 ⟨t, B, ws, eD, lw, hs⟩
          refine ⟨.ref D, rfl, D, rfl, ⟨_, SqL.of eD⟩, fun D2 hD2 => ?_⟩
          have nD2a := B.ne hD2
          have hD20 : H D2 = none := (T2.trans t).free_ nD2a hD2
          refine lc_list (K := K) (a := D) (xs := ws.map V.int) (fun i H' => Same H3 H' ∧ ∃ ms : List Int, H' D2 = some (.lst (ms.map V.int)) ∧ ms.length = i ∧ Spread (mA b) ms (-2) 1 ∧ ∀ k ∈ ms, dig k = true) ⟨same_new hD2, [], upd_same, rfl, (fun j v e => by simp at e), fun k h => by cases h⟩ (fun i H' _ h => SqL.of (h.1 _ _ eD)) ?_ ?_
          · rintro i x H' hx ⟨s3, ms, e2, lm, sp, dg⟩
            obtain ⟨v, hv, rfl⟩ := get_map hx
            obtain ⟨c0, ev, c1', c2'⟩ := hs i v hv
            have hi : i < ws.length := (List.getElem?_eq_some_iff.mp hv).1
            have key : ∃ cc : Int, v - mA b * (if (decide ((9 : Int) < v)) = true then 1 else 0) = (i : Int) + mA b * cc ∧ -2 ≤ cc ∧ cc ≤ 1 ∧ -9 ≤ (i : Int) + mA b * cc ∧ (i : Int) + mA b * cc ≤ 9 := by
              by_cases h9 : (9 : Int) < v
              · rw [decide_eq_true h9, if_pos rfl]
                refine ⟨c0 - 1, ?_, by omega, by omega, ?_, ?_⟩ <;> rcases hm with e | e | e | e | e <;> rw [e] at ev lw ⊢ <;> omega
              · rw [decide_eq_false h9, if_neg (by decide)]
                refine ⟨c0, ?_, by omega, by omega, ?_, ?_⟩ <;> rcases hm with e | e | e | e | e <;> rw [e] at ev lw ⊢ <;> omega
            obtain ⟨cc, ek, k1, k2, k3, k4⟩ := key
            refine ⟨rfl, tYes_if ⟨.int v, rfl, .int b, rfl, b, rfl, .int v, rfl, v, 9, rfl, rfl, .inr ⟨_, rfl, mA b, (if (decide ((9 : Int) < v)) = true then 1 else 0), rfl, rfl, .inl ⟨by omega, by omega⟩, v, mA b * (if (decide ((9 : Int) < v)) = true then 1 else 0), rfl, rfl, _, e2, ?_, Same.store s3 hD2, ms ++ [(ms.length : Int) + mA b * cc], ?_, ?_, spread_push sp k1 k2, fun k hk => ?_⟩⟩⟩
            · rw [List.length_map, lm]
              exact small1000 (by omega)
            · rw [upd_same, List.map_append, lm, ← ek]
              rfl
            · rw [List.length_append, lm]
              rfl
            · rcases List.mem_append.mp hk with z | z
              · exact dg k z
              · cases List.mem_singleton.mp z
                rw [lm]
                exact dig_of k3 k4
          · rintro H4 ⟨s4, ms, e2, lm, sp, dg⟩
            rw [List.length_map] at lm
            refine q D2 ms H4 hD20 ((T2.trans t).trans (But.of_same s4)) ((B.same s4).mono (by omega)) e2 (spread_nodup sp hm (by omega)) (by omega) (by omega) dg
      · refine ⟨9, rfl, -9, 10, rfl, rfl, ⟨by decide, by decide, by decide, by decide, by decide⟩, fun l hl => ?_⟩
        have nla := B2.ne hl
        have hl0 : H l = none := T2.free_ nla hl
        have el : (upd H2 l (.lst (rgV (-9) 10))) l = some (.lst (((List.range 19).map fun (i : Nat) => (-9 : Int) + (i : Int)).map V.int)) := by
          rw [upd_same, rg_ints]
          rfl
        have tn : But a H2 (upd H2 l (.lst (rgV (-9) 10))) := But.new hl
        have Bn : Box (n + 2) (upd H2 l (.lst (rgV (-9) 10))) a := (B2.new hl).mono (by omega)
        have nfull : ((List.range 19).map fun (i : Nat) => (-9 : Int) + (i : Int)).Nodup := rg_nodup _ _
        have dfull : ∀ k ∈ ((List.range 19).map fun (i : Nat) => (-9 : Int) + (i : Int)), dig k = true := by decide +kernel
        have lfull : ((List.range 19).map fun (i : Nat) => (-9 : Int) + (i : Int)).length = 19 := by decide +kernel
        generalize ((List.range 19).map fun (i : Nat) => (-9 : Int) + (i : Int)) = full at el nfull dfull lfull
        generalize upd H2 l (.lst (rgV (-9) 10)) = H3 at el tn Bn ⊢
        refine ⟨.int (1 + mm), rfl, 1 + mm, rfl, by omega, by omega, fun D hD => ?_⟩
        have hDl : D ≠ l := fun e => by rw [e, el] at hD; cases hD
        have nDa := Bn.ne hD
        have hD0 : H D = none := (T2.trans tn).free_ nDa hD
        refine lc_range (lo := 0) (n := (1 + mm).toNat) (fun i H' => But a H H' ∧ Box (n + 2 + i) H' a ∧ ∃ ls acc : List Int, H' l = some (.lst (ls.map V.int)) ∧ H' D = some (.lst (acc.map V.int)) ∧ acc.length = i ∧ (acc ++ ls).Perm full) ?_ ?_ ?_
        · exact ⟨(T2.trans tn).trans (But.new hD), (Bn.new hD).mono (by omega), full, [], by rw [upd_ne hDl.symm]; exact el, upd_same, rfl, List.Perm.refl _⟩
        · rintro i H' hi ⟨t, B, ls, acc, el2, ea, la, pm⟩
          have ll : ls.length + i = 19 := by
            have := pm.length_eq
            rw [List.length_append, lfull] at this
            omega
          refine ⟨rfl, tYes_if ?_⟩
          refine ⟨.ref l, rfl, .inl ⟨rfl, _, SqL.of el2⟩, .ref a, rfl, .ref l, rfl, l, _, rfl, .inl (SqL.of el2), a, ((ls.map V.int).length : Int), n + 2 + i, rfl, B, by omega, by rw [List.length_map]; omega, by rw [List.length_map, Int.natAbs_natCast]; exact Nat.lt_of_le_of_lt (by omega : ls.length ≤ 19) (by decide), fun r H4 r0 r1 t4 B4 => ?_⟩
          rw [List.length_map] at r1
          have e4 : H4 l = some (.lst (ls.map V.int)) := t4 _ _ nla el2
          have hk : r.toNat < ls.length := by omega
          have hk2 : (ls.map V.int)[r.toNat]? = some (.int ls[r.toNat]) := by
            rw [List.getElem?_map, List.getElem?_eq_getElem hk]
            rfl
          refine ⟨l, ls.map V.int, r, r.toNat, .int ls[r.toNat], rfl, rfl, e4, by omega, by omega, (ixN_seq (ixN_in r0 (by rw [List.length_map]; omega))).1, hk2, ?_⟩
          refine ⟨acc.map V.int, ?_, by rw [List.length_map, la]; exact small1000 (by omega), ?_⟩
          · rw [upd_ne hDl]
            exact t4 _ _ nDa ea
          · refine ⟨((t.trans t4).store hl0).store hD0, ((B4.upd nla).upd nDa).mono (by omega), ls.eraseIdx r.toNat, acc ++ [ls[r.toNat]], ?_, ?_, ?_, ?_⟩
            · rw [upd_ne hDl.symm, upd_same, erase_map]
            · rw [upd_same, List.map_append]
              rfl
            · rw [List.length_append, la]
              rfl
            · rw [List.append_assoc]
              exact (List.Perm.append_left acc (erase_perm ls r.toNat hk)).trans pm
        · rintro H' ⟨t, B, ls, acc, el2, ea, la, pm⟩
          have nd : acc.Nodup := (List.nodup_append.mp (pm.nodup_iff.mpr nfull)).1
          refine q D acc H' hD0 t (B.mono (by omega)) ea nd (by omega) (by omega) fun k hk => dfull k (pm.mem_iff.mp (List.mem_append_left _ hk))

/-! ### pairs -/
def spPairs (K : PySem.W.Frag) : Sp := fun vs H Q _ => ∃ (dl : Addr) (ns : List Int), vs = [.ref dl] ∧ SqL K H dl (ns.map V.int) ∧ ns.length ≤ 6 ∧
  ∀ (pl : Addr) (ks : List (Addr × (Int × Int))) (H' : Hp), Same H H' → H pl = none → H' pl = some (.lst (ks.map fun p => V.ref p.1)) → (∀ p ∈ ks, H p.1 = none ∧ H' p.1 = some (.tup [.int p.2.1, .int p.2.2])) → ks.map (·.2) = prod ns → Q (.ref pl) H'
abbrev nPa : List Str := ["_law_digits_here", "_law_found", "_law_left", "_law_beside"]
theorem scPa : FnScope nPa ["_law_digits_here"] (defScope sPairs) := ⟨rfl, rfl, rfl, by decide +kernel, rfl, by decide +kernel, by decide +kernel⟩
theorem ok_pairs {f : Addr} {fd : FuncData} (F : Fun K "_law_pairs" "_law_pairs" sPairs f fd) : FnOk P w K mg base CX0 1 f fd ["_law_digits_here"] (spPairs K) := by
  refine F.ok scPa (fun vs H Q E h => ?_) (fun cdv A outer s H vs Q E hr h => ?_)
  · obtain ⟨dl, ns, rfl, _⟩ := h
    rfl
  · obtain ⟨dl, ns, rfl, hd, h6, q⟩ := h
    apply Exists.intro
    apply And.intro
    · apply pss_cons
      · exact ps_set (i := 1) scPa.nd rfl (.inl rfl) (pe_lst pa_nil)
      apply pss_cons
      · exact ps_for PassesOwn.never rfl (pi_list (pv 0)) (pg_name (i := 2) scPa.nd rfl (.inr rfl))
          (pss_one (ps_set (i := 1) scPa.nd rfl (.inl rfl) (pe_op op_cat (pv 1) (pe_lc (own := [("_law_beside", 3)]) (g := gName 3) (tt := tYes) rfl scPa.nd (pi_list (pv 0)) (blkOk_by (own := [("_law_beside", 3)]) (N := nPa) (sc := defScope sPairs) (by decide +kernel)) (fun _ _ _ _ _ => pg_name (i := 3) scPa.nd rfl (Or.inl rfl)) (fun _ _ _ _ _ => pts_nil)
            (fun _ _ _ _ _ => by exact (pe_tup (pa_cons (pv 2) (pa_cons (pv 3) pa_nil))))))))
      apply pss_one
      · exact ps_ret (pv 1)
    refine ⟨(by show 0 ≤ sizeLine; decide), fun p0 hp0 => ?_⟩
    have s0 := same_new (o := .lst []) hp0
    refine ⟨.ref dl, rfl, dl, rfl, ⟨_, s0.seq hd⟩, for_list (K := K) (a := dl) (xs := ns.map V.int) (fun i σ H' => ∃ (p : Addr) (v : Option V) (ks : List (Addr × (Int × Int))), σ = [some (.ref dl), some (.ref p), v, none] ∧ Same H H' ∧ H p = none ∧ H' p = some (.lst (ks.map fun p => V.ref p.1)) ∧ (∀ p ∈ ks, H p.1 = none ∧ H' p.1 = some (.tup [.int p.2.1, .int p.2.2])) ∧ ks.map (·.2) = (ns.take i).flatMap fun x => ns.map fun y => (x, y))
      ⟨p0, none, [], rfl, s0, hp0, upd_same, (fun p h => by cases h), rfl⟩ (fun i σ H' _ h => by obtain ⟨_, _, _, _, s, _⟩ := h; exact s.seq hd) ?_ ?_⟩
    · rintro i x σ H1 hx ⟨p, v, ks, rfl, s1, hp, ep, ek, em⟩
      obtain ⟨n, hn, rfl⟩ := get_map hx
      have hlk : ks.length ≤ 36 := by
        have e := congrArg List.length em
        rw [List.length_map, flat_len] at e
        have h1 : (ns.take i).length ≤ 6 := Nat.le_trans (List.length_take_le' _ _) h6
        rw [e]
        exact Nat.le_trans (Nat.mul_le_mul h1 h6) (by decide)
      refine ⟨.ref p, rfl, .ref dl, rfl, dl, rfl, ⟨_, s1.seq hd⟩, fun D hD => ?_⟩
      refine lc_list (K := K) (a := dl) (xs := ns.map V.int) (fun j H' => Same H1 H' ∧ ∃ kk : List (Addr × (Int × Int)), H' D = some (.lst (kk.map fun p => V.ref p.1)) ∧ kk.length = j ∧ (∀ p ∈ kk, H1 p.1 = none ∧ H' p.1 = some (.tup [.int p.2.1, .int p.2.2])) ∧ kk.map (·.2) = (ns.take j).map fun y => (n, y)) ⟨same_new hD, [], upd_same, rfl, (fun p h => by cases h), rfl⟩ (fun j H' _ h => (s1.trans h.1).seq hd) ?_ ?_
      · rintro j y H2 hy ⟨s2, kk, eD, lk, ekk, emk⟩
        obtain ⟨m, hm, rfl⟩ := get_map hy
        have hj : j < ns.length := (List.getElem?_eq_some_iff.mp hm).1
        refine ⟨rfl, tYes_if ⟨.int n, rfl, .int m, rfl, (by show 2 ≤ sizeLine; decide), fun T hT => ?_⟩⟩
        have s3 := same_new (o := .tup [.int n, .int m]) hT
        have hT1 : H1 T = none := s2.free hT
        refine ⟨kk.map (fun p => V.ref p.1), s3 _ _ eD, ?_, Same.store (s2.trans s3) hD, kk ++ [(T, (n, m))], ?_, ?_, fun p hp => ?_, ?_⟩
        · rw [List.length_map, lk]
          exact small1000 (by omega)
        · rw [upd_same, List.map_append]
          rfl
        · rw [List.length_append, lk]
          rfl
        · have nTD : p.1 = T → p.1 ≠ D := fun e z => by
            have h1 := s3 _ _ eD
            rw [← z, e, upd_same] at h1
            cases h1
          rcases List.mem_append.mp hp with h | h
          · obtain ⟨h1, h2⟩ := ekk p h
            refine ⟨h1, ?_⟩
            have h3 := s3 _ _ h2
            rw [upd_ne (fun z => by rw [z] at h2; rw [eD] at h2; cases h2)]
            exact h3
          · cases List.mem_singleton.mp h
            refine ⟨hT1, ?_⟩
            rw [upd_ne (nTD rfl)]
            exact upd_same
        · rw [List.map_append, take_more hm, List.map_append, emk]
          rfl
      · rintro H2 ⟨s2, kk, eD, lk, ekk, emk⟩
        rw [List.length_map] at lk emk
        rw [List.take_length] at emk
        have ep2 := s2 _ _ ep
        refine ⟨p, D, _, _, rfl, rfl, ep2, eD, ?_, fun p3 hp3 => ?_⟩
        · rw [List.length_map, List.length_map, sizeLine_eq]
          omega
        have s4 := same_new (o := .lst ((ks.map fun p => V.ref p.1) ++ kk.map fun p => V.ref p.1)) hp3
        have s14 := s1.trans (s2.trans s4)
        refine ⟨p3, some (.int n), ks ++ kk, rfl, s14, (s1.trans s2).free hp3, ?_, fun r hr2 => ?_, ?_⟩
        · rw [upd_same, List.map_append]
        · rcases List.mem_append.mp hr2 with h | h
          · exact ⟨(ek r h).1, (s2.trans s4) _ _ (ek r h).2⟩
          · exact ⟨s1.free (ekk r h).1, s4 _ _ (ekk r h).2⟩
        · rw [List.map_append, em, emk, take_more hn, List.flatMap_append]
          simp only [List.flatMap_cons, List.flatMap_nil, List.append_nil]
    · rintro σ H1 ⟨p, v, ks, rfl, s1, hp, ep, ek, em⟩
      rw [List.length_map, List.take_length] at em
      exact ⟨_, rfl, q p ks H1 s1 hp ep ek em⟩

/-! ### a scheme's parts, drawn -/
def spScheme : Sp := fun vs H Q _ => ∃ (a : Addr) (n : Int), vs = [.ref a] ∧ Box n H a ∧ n ≤ 700000 ∧
  ∀ (m : Addr) (b : Int) (ns : List Int) (ps : List (Int × Int)) (H' : Hp), But a H H' → Box (n + 100) H' a → Good b ns ps → Model a H' m b ns ps → Q (.ref m) H'
abbrev nSc : List Str := ["_law_box_here", "_law_base", "_law_digits_here", "_law_way", "_law_pairs_here", "_law_pair"]
theorem scSc : FnScope nSc ["_law_box_here"] (defScope sScheme) := ⟨rfl, rfl, rfl, by decide +kernel, rfl, by decide +kernel, by decide +kernel⟩
theorem bases_ok : ∀ b ∈ ([2, -2, 3, -3, 2, -4, 4, 5, -5, 6, -6] : List Int), isBase b = true := by decide
theorem strict_of {ns : List Int} (h : ns.Pairwise (· ≤ ·)) (nd : ns.Nodup) : ns.Pairwise (· < ·) := by
  rw [List.nodup_iff_pairwise_ne] at nd
  exact (h.and nd).imp fun ⟨h1, h2⟩ => by omega
theorem good_of {b : Int} {ns : List Int} {ps : List (Int × Int)} (hb : isBase b = true) (asc : ns.Pairwise (· < ·)) (h1 : 1 ≤ ns.length) (h6 : ns.length ≤ 6) (dg : ∀ n ∈ ns, dig n = true) (sub : ps.Sublist (prod ns)) : Good b ns ps := by
  refine ⟨hb, asc, h1, h6, dg, fun p hp => prod_mem (sub.subset hp), (prod_aux asc asc).sublist sub, ?_⟩
  have e : (prod ns).length = ns.length * ns.length := flat_len ns
  exact Nat.le_trans sub.length_le (by rw [e]; exact Nat.le_trans (Nat.mul_le_mul h6 h6) (by decide))
set_option maxHeartbeats 2000000 in
theorem ok_scheme {f fT fD fP : Addr} {fd fdT fdD fdP : FuncData} (F : Fun K "_law_scheme" "_law_scheme" sScheme f fd) (FT : Fun K "_law_take" "_law_take" sTake fT fdT) (gT : mg "_law_take" = some (.ref fT)) (bT : Binds K fdT ["_law_box_here", "_law_many"] [])
    (GD : FnOk P w K mg base CX0 2 fD fdD ["_law_box_here", "_law_base"] spDigits) (gD : mg "_law_digits" = some (.ref fD)) (kD : PySem.W.keepIn K (.ref fD) = true) (bD : Binds K fdD ["_law_box_here", "_law_base"] [])
    (GP : FnOk P w K mg base CX0 1 fP fdP ["_law_digits_here"] (spPairs K)) (gP : mg "_law_pairs" = some (.ref fP)) (kP : PySem.W.keepIn K (.ref fP) = true) (bP : Binds K fdP ["_law_digits_here"] [])
    (mi : mg "int" = none) (mso : mg "sorted" = none) : FnOk P w K mg base CX0 3 f fd ["_law_box_here"] spScheme := by
  have GT : FnOk P w K mg base CX0 1 fT fdT ["_law_box_here", "_law_many"] spTake := ok_take FT mi
  refine F.ok scSc (fun vs H Q E h => ?_) (fun cdv A outer s H vs Q E hr2 h => ?_)
  · obtain ⟨a, n, rfl, _⟩ := h
    rfl
  · obtain ⟨a, n, rfl, hB, hn, q⟩ := h
    have hr : Room 1 _ := hr2.mono (by decide)
    apply Exists.intro
    apply And.intro
    · apply pss_cons
      · exact ps_set (i := 1) scSc.nd rfl (.inl rfl) (pe_ix ix_list (pe_lst (pa_cons pe_int (pa_cons (pe_un un_neg pe_int) (pa_cons pe_int (pa_cons (pe_un un_neg pe_int) (pa_cons pe_int (pa_cons (pe_un un_neg pe_int) (pa_cons pe_int (pa_cons pe_int (pa_cons (pe_un un_neg pe_int) (pa_cons pe_int (pa_cons (pe_un un_neg pe_int) pa_nil))))))))))))
          (pe_call GT hr (by rfl) gT FT.kp bT .nil pass0 (pa_cons (pv 0) (pa_cons pe_int pa_nil))) (fun _ _ => rfl))
      apply pss_cons
      · exact ps_par (i := 2) (j := 3) rfl scSc.nd rfl rfl (by decide) rfl rfl (pa_cons (pe_callB cr_sorted (by rfl) mso (by decide +kernel) (pa_cons (pe_call GD hr2 (by rfl) gD kD bD .nil pass0 (pa_cons (pv 0) (pa_cons (pv 1) pa_nil))) pa_nil)) (pa_cons (pe_call GT hr (by rfl) gT FT.kp bT .nil pass0 (pa_cons (pv 0) (pa_cons pe_int pa_nil))) pa_nil)) (by rfl)
      apply pss_cons
      · exact ps_set (i := 4) scSc.nd rfl (.inl rfl) (pe_call GP hr (by rfl) gP kP bP .nil pass0 (pa_cons (pv 2) pa_nil))
      apply pss_cons
      · exact ps_if (pt_cmpR op_eq (pv 3) pe_int (nomark _)) (pss_one (ps_ret (pe_lst (pa_cons (pv 1) (pa_cons (pv 2) (pa_cons (pe_lst pa_nil) pa_nil)))))) pss_nil
      apply pss_cons
      · exact ps_if (pt_cmpR op_eq (pv 3) pe_int (nomark _)) (pss_one (ps_ret (pe_lst (pa_cons (pv 1) (pa_cons (pv 2) (pa_cons (pe_lc (own := [("_law_pair", 5)]) (g := gName 5)
            (tt := tAnd (tTest (tOp rNe (tOp (rIxT K) (tVar 5) (tC (.int 0))) (tC (.int 0)))) (tTest (tOp rNe (tOp (rIxT K) (tVar 5) (tC (.int 1))) (tC (.int 0))))) (te := tVar 5) rfl scSc.nd (pi_list (pv 4)) (blkOk_by (own := [("_law_pair", 5)]) (N := nSc) (sc := defScope sScheme) (by decide +kernel)) (fun _ _ _ _ _ => pg_name (i := 5) scSc.nd rfl (Or.inl rfl))
            (fun _ _ _ _ _ => by exact (pts_one (PW.pt (pw_and (pt_cmpR op_ne (pe_ix ix_tup (pv 5) pe_int (fun _ _ => rfl)) pe_int (nomark _)) (pw_and1 (pt_cmpR op_ne (pe_ix ix_tup (pv 5) pe_int (fun _ _ => rfl)) pe_int (nomark _))))))) (fun _ _ _ _ _ => by exact (pv 5))) pa_nil)))))) pss_nil
      apply pss_cons
      · exact ps_if (pt_cmpR op_eq (pv 3) pe_int (nomark _)) (pss_one (ps_ret (pe_lst (pa_cons (pv 1) (pa_cons (pv 2) (pa_cons (pe_lc (own := [("_law_pair", 5)]) (g := gName 5)
            (tt := tTest (tOp rEq (tOp (rIxT K) (tVar 5) (tC (.int 0))) (tOp (rIxT K) (tVar 5) (tC (.int 1))))) (te := tVar 5) rfl scSc.nd (pi_list (pv 4)) (blkOk_by (own := [("_law_pair", 5)]) (N := nSc) (sc := defScope sScheme) (by decide +kernel)) (fun _ _ _ _ _ => pg_name (i := 5) scSc.nd rfl (Or.inl rfl))
            (fun _ _ _ _ _ => by exact (pts_one (pt_cmpR op_eq (pe_ix ix_tup (pv 5) pe_int (fun _ _ => rfl)) (pe_ix ix_tup (pv 5) pe_int (fun _ _ => rfl)) (nomark _)))) (fun _ _ _ _ _ => by exact (pv 5))) pa_nil)))))) pss_nil
      apply pss_one
      · exact ps_ret (pe_lst (pa_cons (pv 1) (pa_cons (pv 2) (pa_cons (pe_lc (own := [("_law_pair", 5)]) (g := gName 5)
            (tt := tTest (tOp rEq (tCall spTake [] E0 (tCons (tVar 0) (tCons (tC (.int 4)) tNil))) (tC (.int 0)))) (te := tVar 5) rfl scSc.nd (pi_list (pv 4)) (blkOk_by (own := [("_law_pair", 5)]) (N := nSc) (sc := defScope sScheme) (by decide +kernel)) (fun _ _ _ _ _ => pg_name (i := 5) scSc.nd rfl (Or.inl rfl))
            (fun _ _ _ _ _ => by exact (pts_one (pt_cmpR op_eq (pe_call GT hr (by rfl) gT FT.kp bT .nil pass0 (pa_cons (pv 0) (pa_cons pe_int pa_nil))) pe_int (nomark _)))) (fun _ _ _ _ _ => by exact (pv 5))) pa_nil))))
    -- the base
    refine ⟨2, rfl, 3, rfl, 4, rfl, 5, rfl, 6, rfl, (by show 11 ≤ sizeLine; decide), fun l0 hl0 => ?_⟩
    have n0 := hB.ne hl0
    refine ⟨.ref a, rfl, a, 11, n, rfl, hB.new hl0, by omega, by decide, by decide, fun r H1 r0 r1 t1 B1 => ?_⟩
    have e0 := t1 _ _ n0 upd_same
    obtain ⟨v, hv, mv⟩ := pick (xs := ([2, -2, 3, -3, 2, -4, 4, 5, -5, 6, -6] : List Int).map V.int) r0 r1
    obtain ⟨b, mb, rfl⟩ := List.mem_map.mp mv
    have hb := bases_ok b mb
    refine ⟨l0, _, r, .int b, rfl, rfl, SqL.of e0, hv, ?_⟩
    have T1 : But a H H1 := (But.new hl0).trans t1
    clear e0 hv mv mb
    -- the digits
    refine ⟨.ref a, rfl, .int b, rfl, a, b, n + 1, rfl, B1, by omega, hb, fun D ns H2 hD t2 B2 eD nd l1 l6 dg => ?_⟩
    refine ⟨D, ns, rfl, SqL.of eD, by omega, fun ns' dl pm srt hdl => ?_⟩
    have ndl := B2.ne hdl
    have asc := strict_of srt (pm.nodup_iff.mpr nd)
    have dg' : ∀ k ∈ ns', dig k = true := fun k hk => dg k (pm.mem_iff.mp hk)
    have l1' : 1 ≤ ns'.length := by rw [pm.length_eq]; exact l1
    have l6' : ns'.length ≤ 6 := by rw [pm.length_eq]; exact l6
    have T2 : But a H (upd H2 dl (.lst (ns'.map V.int))) := (T1.trans t2).trans (But.new hdl)
    refine ⟨.ref a, rfl, a, 4, n + 1 + 30, rfl, B2.new hdl, by omega, by decide, by decide, fun wy H3 w0 w1 t3 B3 => ?_⟩
    have ed := t3 _ _ ndl upd_same
    have T3 := T2.trans t3
    clear pm srt nd dg l1 l6 eD
    refine ⟨.ref dl, .int wy, rfl, ?_⟩
    -- the pairs
    refine ⟨.ref dl, rfl, dl, ns', rfl, SqL.of ed, l6', fun pl ks H4 s4 npl epl ek em => ?_⟩
    have B4 := B3.same s4
    have T4 := T3.trans (But.of_same s4)
    have ed4 := s4 _ _ ed
    have pair : ∀ p ∈ ks, p.1 ≠ a := fun p hp z => by
      obtain ⟨b0, b1, b2, hb0, _⟩ := B3
      have := (ek p hp).1
      rw [z, hb0] at this
      cases this
    have fin : ∀ (H5 : Hp) (fl : Addr) (kk : List (Addr × (Int × Int))) (mo : Addr), But a H4 H5 → Box (n + 90) H5 a → fl ≠ a → H5 fl = some (.lst (kk.map fun p => V.ref p.1)) → kk.Sublist ks → H5 mo = none → Q (.ref mo) (upd H5 mo (.lst [.int b, .ref dl, .ref fl])) := by
      intro H5 fl kk mo t5 B5 nfl efl sub hmo
      have nmo := B5.ne hmo
      have ed5 := t5 _ _ ndl ed4
      have ek5 : ∀ p ∈ kk, H5 p.1 = some (.tup [.int p.2.1, .int p.2.2]) := fun p hp => t5 _ _ (pair p (sub.subset hp)) (ek p (sub.subset hp)).2
      have sub2 : (kk.map (·.2)).Sublist (prod ns') := em ▸ sub.map (·.2)
      refine q mo b ns' (kk.map (·.2)) _ ((T4.trans t5).trans (But.new hmo)) ((B5.new hmo).mono (by omega)) (good_of hb asc l1' l6' dg' sub2) ⟨dl, fl, kk, rfl, fun H6 t6 => ⟨t6 _ _ nmo upd_same, t6 _ _ ndl (same_new hmo _ _ ed5), t6 _ _ nfl (same_new hmo _ _ efl), fun p hp => t6 _ _ (pair p (sub.subset hp)) (same_new hmo _ _ (ek5 p hp))⟩⟩
    have lks : ks.length ≤ 36 := by
      have e := congrArg List.length em
      rw [List.length_map] at e
      have e2 : (prod ns').length = ns'.length * ns'.length := flat_len ns'
      rw [e, e2]
      exact Nat.le_trans (Nat.mul_le_mul l6' l6') (by decide)
    have sub_more : ∀ {i : Nat} {p : Addr × (Int × Int)} {kk : List (Addr × (Int × Int))}, ks[i]? = some p → kk.Sublist (ks.take i) → (kk ++ [p]).Sublist (ks.take (i + 1)) ∧ kk.Sublist (ks.take (i + 1)) := fun {i p kk} hp hs => by
      rw [take_more hp]
      exact ⟨List.Sublist.append hs (List.Sublist.refl _), hs.trans (List.sublist_append_left _ _)⟩
    have small : ∀ {i : Nat} {kk : List (Addr × (Int × Int))}, kk.Sublist (ks.take i) → (kk.map fun p => V.ref p.1).length < sizeLine := fun {i kk} hs => by
      rw [List.length_map]
      have := hs.length_le
      have h2 : (ks.take i).length ≤ ks.length := List.length_take_le' _ _
      exact small1000 (by omega)
    refine ⟨.int wy, rfl, rfl, _, rfl, ite2 (fun c => ?_) (fun c => ?_)⟩
    · refine ⟨.int b, rfl, .ref dl, rfl, (by show 0 ≤ sizeLine; decide), fun fl hfl => ⟨(by show 3 ≤ sizeLine; decide), fun mo hmo => ?_⟩⟩
      exact fin _ fl [] mo (But.new hfl) ((B4.new hfl).mono (by omega)) (B4.ne hfl) upd_same (List.nil_sublist _) hmo
    · refine ⟨.int wy, rfl, rfl, _, rfl, ite2 (fun c1 => ?_) (fun c1 => ?_)⟩
      · refine ⟨.int b, rfl, .ref dl, rfl, .ref pl, rfl, pl, rfl, ⟨_, SqL.of epl⟩, fun D2 hD2 => ?_⟩
        have nD2 := B4.ne hD2
        refine lc_list (K := K) (a := pl) (xs := ks.map fun p => V.ref p.1) (fun i H' => Same H4 H' ∧ ∃ kk, H' D2 = some (.lst (kk.map fun p => V.ref p.1)) ∧ kk.Sublist (ks.take i)) ⟨same_new hD2, [], upd_same, List.nil_sublist _⟩ (fun i H' _ h => SqL.of (h.1 _ _ epl)) ?_ ?_
        · rintro i x H' hx ⟨s5, kk, e5, sub⟩
          obtain ⟨p, hp, rfl⟩ := get_map hx
          have tp := s5 _ _ (ek p (List.mem_of_getElem? hp)).2
          have more := sub_more hp sub
          refine ⟨rfl, .ref p.1, rfl, p.1, _, 0, .int p.2.1, rfl, rfl, SqT.of tp, atI_nat (j := 0) rfl, rfl, _, rfl, ite2 (fun z => ?_) (fun z => ?_)⟩
          · refine ⟨.ref p.1, rfl, p.1, _, 1, .int p.2.2, rfl, rfl, SqT.of tp, atI_nat (j := 1) rfl, rfl, _, rfl, ite2 (fun z2 => ?_) (fun z2 => ?_)⟩
            · exact ⟨.ref p.1, rfl, _, e5, small sub, Same.store s5 hD2, kk ++ [p], by rw [upd_same, List.map_append]; rfl, more.1⟩
            · exact ⟨s5, kk, e5, more.2⟩
          · exact iteF ⟨s5, kk, e5, more.2⟩
        · rintro H' ⟨s5, kk, e5, sub⟩
          refine ⟨(by show 3 ≤ sizeLine; decide), fun mo hmo => fin H' D2 kk mo (But.of_same s5) ((B4.same s5).mono (by omega)) nD2 e5 (sub.trans (List.take_sublist _ _)) hmo⟩
      · refine ⟨.int wy, rfl, rfl, _, rfl, ite2 (fun c2 => ?_) (fun c2 => ?_)⟩
        · refine ⟨.int b, rfl, .ref dl, rfl, .ref pl, rfl, pl, rfl, ⟨_, SqL.of epl⟩, fun D2 hD2 => ?_⟩
          have nD2 := B4.ne hD2
          refine lc_list (K := K) (a := pl) (xs := ks.map fun p => V.ref p.1) (fun i H' => Same H4 H' ∧ ∃ kk, H' D2 = some (.lst (kk.map fun p => V.ref p.1)) ∧ kk.Sublist (ks.take i)) ⟨same_new hD2, [], upd_same, List.nil_sublist _⟩ (fun i H' _ h => SqL.of (h.1 _ _ epl)) ?_ ?_
          · rintro i x H' hx ⟨s5, kk, e5, sub⟩
            obtain ⟨p, hp, rfl⟩ := get_map hx
            have tp := s5 _ _ (ek p (List.mem_of_getElem? hp)).2
            have more := sub_more hp sub
            refine ⟨rfl, .ref p.1, rfl, p.1, _, 0, .int p.2.1, rfl, rfl, SqT.of tp, atI_nat (j := 0) rfl, .ref p.1, rfl, p.1, _, 1, .int p.2.2, rfl, rfl, SqT.of tp, atI_nat (j := 1) rfl, rfl, _, rfl, ite2 (fun z => ?_) (fun z => ?_)⟩
            · exact ⟨.ref p.1, rfl, _, e5, small sub, Same.store s5 hD2, kk ++ [p], by rw [upd_same, List.map_append]; rfl, more.1⟩
            · exact ⟨s5, kk, e5, more.2⟩
          · rintro H' ⟨s5, kk, e5, sub⟩
            refine ⟨(by show 3 ≤ sizeLine; decide), fun mo hmo => fin H' D2 kk mo (But.of_same s5) ((B4.same s5).mono (by omega)) nD2 e5 (sub.trans (List.take_sublist _ _)) hmo⟩
        · refine ⟨.int b, rfl, .ref dl, rfl, .ref pl, rfl, pl, rfl, ⟨_, SqL.of epl⟩, fun D2 hD2 => ?_⟩
          have nD2 := B4.ne hD2
          have npa : pl ≠ a := fun z => by
            obtain ⟨b0, b1, b2, hb0, _⟩ := B3
            rw [z, hb0] at npl
            cases npl
          refine lc_list (K := K) (a := pl) (xs := ks.map fun p => V.ref p.1) (fun i H' => But a H4 H' ∧ Box (n + 32 + i) H' a ∧ ∃ kk, H' D2 = some (.lst (kk.map fun p => V.ref p.1)) ∧ kk.Sublist (ks.take i)) ⟨But.new hD2, (B4.new hD2).mono (by omega), [], upd_same, List.nil_sublist _⟩ (fun i H' _ h => SqL.of (h.1 _ _ npa epl)) ?_ ?_
          · rintro i x H' hx ⟨t5, B5, kk, e5, sub⟩
            obtain ⟨p, hp, rfl⟩ := get_map hx
            have hi : i < ks.length := (List.getElem?_eq_some_iff.mp hp).1
            have more := sub_more hp sub
            refine ⟨rfl, .ref a, rfl, a, 4, n + 32 + i, rfl, B5, by omega, by decide, by decide, fun r2 H6 k0 k1 t6 B6 => ⟨rfl, _, rfl, ite2 (fun z => ?_) (fun z => ?_)⟩⟩
            · exact ⟨.ref p.1, rfl, _, t6 _ _ nD2 e5, small sub, (t5.trans t6).store hD2, (B6.upd nD2).mono (by omega), kk ++ [p], by rw [upd_same, List.map_append]; rfl, more.1⟩
            · exact ⟨t5.trans t6, B6.mono (by omega), kk, t6 _ _ nD2 e5, more.2⟩
          · rintro H' ⟨t5, B5, kk, e5, sub⟩
            rw [List.length_map] at B5
            refine ⟨(by show 3 ≤ sizeLine; decide), fun mo hmo => fin H' D2 kk mo t5 (B5.mono (by omega)) nD2 e5 (sub.trans (List.take_sublist _ _)) hmo⟩

/-! ### a scheme made of the law's parts -/
def gApp {α : Type} (us ws : List α) : List α := us ++ ws
theorem kbNew {f : Addr} {fd : FuncData} (F : Fun K "__init__" "Scheme.__init__" sInit f fd) : KBn K fd ["self", "base", "digits", "bars"] 3 ["bars"] gApp gApp := by
  obtain ⟨oc, od, kV, doc, pm, an, cdv, ct, osl, rfl, lk, hcd⟩ := F.ex
  refine ⟨fun s us ws X l1 l2 => ?_, fun {vs us zs ws} r1 r2 => r1.append r2⟩
  match us, ws, l1, l2 with
  | [x, y, z], [v], _, _ => exact .of_eq rfl
theorem lexP_tot {p q : Int × Int} (h : SrtO.lexB q p = false) (n : p ≠ q) : lexP p q := by
  have h2 : ¬ (q.1 < p.1 ∨ (q.1 = p.1 ∧ q.2 < p.2)) := fun z => by
    rw [SrtO.lexB_iff.mpr z] at h
    cases h
  unfold lexP
  rcases p with ⟨p1, p2⟩
  rcases q with ⟨q1, q2⟩
  have h3 : ¬ (p1 = q1 ∧ p2 = q2) := fun z => n (by rw [z.1, z.2])
  simp only at h2 ⊢
  omega
def spMade (C : Addr) : Sp := fun vs H Q _ => ∃ (m dl pl : Addr) (b : Int) (ns : List Int) (ks : List (Addr × (Int × Int))), vs = [.ref m] ∧ ModAt H m dl pl b ns ks ∧ Good b ns (ks.map (·.2)) ∧
  ∀ (sa t r : Addr) (L : List (Addr × (Int × Int))) (H' : Hp), Same H H' → SchemeAt C H' sa t r b ns L → L.map (·.2) = ks.map (·.2) → Q (.ref sa) H'
theorem scMd : FnScope ["_law_model"] ["_law_model"] (defScope sMade) := ⟨rfl, rfl, rfl, by decide +kernel, rfl, by decide +kernel, by decide +kernel⟩
theorem ok_made {f fN C : Addr} {fd fdN : FuncData} (F : Fun K "_law_made" "_law_made" sMade f fd) (FN : Fun K "__init__" "Scheme.__init__" sInit fN fdN) (M : Mk K C fN) (gC : mg "Scheme" = some (.ref C))
    (GN : FnOk P w K mg base (L2.CX P w) 7 fN fdN ["self", "base", "digits", "bars"] (spNew K C)) : FnOk P w K mg base CX0 9 f fd ["_law_model"] (spMade C) := by
  refine F.ok scMd (fun vs H Q E h => ?_) (fun cdv A outer s H vs Q E hr h => ?_)
  · obtain ⟨m, dl, pl, b, ns, ks, rfl, _⟩ := h
    rfl
  · obtain ⟨m, dl, pl, b, ns, ks, rfl, ⟨hm, hd, hp, hk⟩, G, q⟩ := h
    apply Exists.intro
    apply And.intro
    · apply pss_one
      · exact ps_ret (pe_makeK M GN hr (by rfl) gC (kbNew FN) passNo (pa_cons (pe_ix ix_list (pv 0) pe_int (fun _ _ => rfl)) (pa_cons (pe_ix ix_list (pv 0) pe_int (fun _ _ => rfl)) pa_nil)) (pk_cons (pe_ix ix_list (pv 0) pe_int (fun _ _ => rfl)) pk_nil))
    refine ⟨.ref m, rfl, m, _, 0, .int b, rfl, rfl, SqL.of hm, atI_nat (j := 0) rfl, .ref m, rfl, m, _, 1, .ref dl, rfl, rfl, SqL.of hm, atI_nat (j := 1) rfl, .ref m, rfl, m, _, 2, .ref pl, rfl, rfl, SqL.of hm, atI_nat (j := 2) rfl, rfl, rfl, fun x dx hx hdx ndx => ?_⟩
    have s1 : Same H (upd (upd H dx (.own x)) x (.ins C dx [])) := fun c o hc => by
      rw [upd_ne (ne_of_none hc hx), upd_ne (ne_of_none hc hdx)]
      exact hc
    have ex : (upd (upd H dx (.own x)) x (.ins C dx [])) x = some (.ins C dx []) := upd_same
    generalize upd (upd H dx (.own x)) x (.ins C dx []) = H1 at s1 ex ⊢
    have few : ks.length < 64 := by
      have := G.few
      rw [List.length_map] at this
      omega
    refine ⟨x, dx, dl, pl, b, ns, ks.map fun p => (p.1, [p.2.1, p.2.2]), rfl, ex, G.b, .inl (s1 _ _ hd), (by have := G.six; omega), List.all_eq_true.mpr G.dg, fun k nd mem => ?_, ?_, by rw [List.length_map]; exact few, fun p hp => ?_, ?_⟩
    · have pm : k.Perm ns := (List.perm_ext_iff_of_nodup nd (by rw [List.nodup_iff_pairwise_ne]; exact G.asc.imp fun h => by omega)).mpr mem
      rw [pm.length_eq]
      exact ⟨G.one, G.six⟩
    · rw [s1 _ _ hp, List.map_map]
      rfl
    · obtain ⟨z, hz, rfl⟩ := List.mem_map.mp hp
      have mm := G.mem z.2 (List.mem_map.mpr ⟨z, hz, rfl⟩)
      exact ⟨z.2.1, z.2.2, rfl, s1 _ _ (hk z hz), mm.1, mm.2⟩
    · intro ds L t r H2 asc mds sub all nd pw t2 e1 e2 e3
      have eds : ds = ns := sorted_ext (r := (· < ·)) (fun a b h => by omega) asc G.asc mds
      subst eds
      have two : ∀ p ∈ L, p.2 = [(duo p.2).1, (duo p.2).2] := fun p hp => by
        obtain ⟨z, _, rfl⟩ := List.mem_map.mp (sub p hp)
        rfl
      have eL : (L.map fun p => (p.1, duo p.2)).map (·.2) = ks.map (·.2) := by
        refine sorted_ext lexP_as ?_ G.lex fun z => ?_
        · rw [List.map_map, List.pairwise_map]
          rw [List.nodup_iff_pairwise_ne, List.pairwise_map] at nd
          refine List.Pairwise.imp_of_mem (fun {q1 q2} h1 h2 ⟨z1, z2⟩ => ?_) (pw.and nd)
          refine lexP_tot z1 fun e => z2 ?_
          have e2 : duo q1.2 = duo q2.2 := e
          rw [two q1 h1, two q2 h2, e2]
        · constructor
          · intro hz
            rw [List.map_map] at hz
            obtain ⟨p, hp, rfl⟩ := List.mem_map.mp hz
            obtain ⟨k, hk2, rfl⟩ := List.mem_map.mp (sub p hp)
            exact List.mem_map.mpr ⟨k, hk2, rfl⟩
          · intro hz
            obtain ⟨k, hk2, rfl⟩ := List.mem_map.mp hz
            obtain ⟨p, hp, ep⟩ := List.mem_map.mp (all (k.1, [k.2.1, k.2.2]) (List.mem_map.mpr ⟨k, hk2, rfl⟩))
            rw [List.map_map]
            refine List.mem_map.mpr ⟨p, hp, ?_⟩
            show duo p.2 = k.2
            rw [ep]
            rfl
      have S2 : Same H H2 := fun c o hc => t2 _ _ (ne_of_none hc hx) (s1 _ _ hc)
      refine ⟨rfl, q x t r (L.map fun p => (p.1, duo p.2)) H2 S2 ⟨⟨dx, e1⟩, e2, ?_, fun p hp => ?_⟩ eL⟩
      · rw [e3, List.map_map]
        rfl
      · obtain ⟨z, hz, rfl⟩ := List.mem_map.mp hp
        obtain ⟨k, hk2, rfl⟩ := List.mem_map.mp (sub z hz)
        exact S2 _ _ (hk k hk2)
def hasP (ps : List (Int × Int)) (x y : Int) : Bool := (ps.map pd2).any fun z => PyData.eqv z (pd2 (x, y))
theorem eqv_nilL : ∀ ds : List PyData, PyData.eqv (.list ds) (.list []) = ds.isEmpty
  | [] => by simp [PyData.eqv, PyData.eqvAll]
  | d :: ds => by simp [PyData.eqv, PyData.eqvAll]
theorem nil_shaped : SeqAt.shaped (.list []) = true := by decide +kernel
theorem ps_shaped {ks : List (Addr × (Int × Int))} {ps : List (Int × Int)} (e : ks.map (·.2) = ps) : SeqAt.shaped (.list (ps.map pd2)) = true := by
  obtain ⟨h1, h2⟩ := bars_can ks
  have e2 : (ks.map fun p => pd2 p.2) = ps.map pd2 := by rw [← e, List.map_map]; rfl
  rw [e2] at h1 h2
  refine shaped_of ?_ ?_
  · simp only [PyData.canLay0, h1]
  · simp only [PyData.depth]
    omega
theorem ps_dp {K : PySem.W.Frag} {H : Hp} {pl : Addr} {ks : List (Addr × (Int × Int))} {ps : List (Int × Int)} (e : ks.map (·.2) = ps) (hp : H pl = some (.lst (ks.map fun p => V.ref p.1))) (hk : ∀ p ∈ ks, H p.1 = some (.tup [.int p.2.1, .int p.2.2])) : Dp K H (.ref pl) (.list (ps.map pd2)) := by
  have e2 : (ks.map fun p => pd2 p.2) = ps.map pd2 := by rw [← e, List.map_map]; rfl
  rw [← e2]
  exact .lst (SqL.of hp) (bars_dp ks hk)
end
end K11
namespace K11
open PySem PySem.Spec PyProof.Rows L2 OF
section
variable {P : Program} {w : World} {K : PySem.W.Frag} {mg : Str → Option Value} {base : Heap}

/-! ### the law's steps -/
/-- may a digit stand left of z -/
def fitsB (ps : List (Int × Int)) (d : Int) : V → Bool
  | .int y => !hasP ps d y
  | _ => true
def spFits : Sp := fun vs H Q _ => ∃ (m dl pl : Addr) (b d : Int) (ns : List Int) (ks : List (Addr × (Int × Int))) (z : V), vs = [.ref m, .int d, z] ∧ ModAt H m dl pl b ns ks ∧ (z = .non ∨ ∃ y : Int, z = .int y) ∧ ∀ H', Same H H' → Q (.bl (fitsB (ks.map (·.2)) d z)) H'
abbrev nFt : List Str := ["_law_model", "_law_left", "_law_beside"]
theorem scFt : FnScope nFt ["_law_model", "_law_left", "_law_beside"] (defScope sFits) := ⟨rfl, rfl, rfl, by decide +kernel, rfl, by decide +kernel, by decide +kernel⟩
theorem ok_fits {f : Addr} {fd : FuncData} (F : Fun K "_law_fits" "_law_fits" sFits f fd) : FnOk P w K mg base CX0 2 f fd ["_law_model", "_law_left", "_law_beside"] spFits := by
  refine F.ok scFt (fun vs H Q E h => ?_) (fun cdv A outer s H vs Q E hr h => ?_)
  · obtain ⟨m, dl, pl, b, d, ns, ks, z, rfl, _⟩ := h
    rfl
  · obtain ⟨m, dl, pl, b, d, ns, ks, z, rfl, M, hz, q⟩ := h
    have hu : A.units + 3 + 65 < cLine := by
      have := hr.un
      have e : (A.deeper (envOfC "_law_fits" (defScope sFits) s.heap.objs.size f cdv)).units = A.units + 3 := rfl
      omega
    refine ⟨_, pss_one (ps_ret (pe_or (pe_cmpR op_isN (pv 2) pe_non (nomark _)) (pe_one (pe_cmpR (op_notInD hu) (pe_tup (pa_cons (pv 1) (pa_cons (pv 2) pa_nil))) (pe_ix ix_list (pv 0) pe_int (fun _ _ => rfl)) rfl)))), ?_⟩
    rcases hz with rfl | ⟨y, rfl⟩
    · exact ⟨.non, rfl, rfl, _, rfl, iteTB (decide_eq_true rfl) (q H (Same.refl H))⟩
    · refine ⟨.int y, rfl, rfl, _, rfl, iteFB rfl ⟨.int d, rfl, .int y, rfl, (by show 2 ≤ sizeLine; decide), fun T hT => ?_⟩⟩
      have s1 := same_new (o := .tup [.int d, .int y]) hT
      have M1 := M.same s1
      refine ⟨.ref m, rfl, m, _, 2, .ref pl, rfl, rfl, SqL.of M1.mo, atI_nat (j := 2) rfl, pd2 (d, y), (ks.map fun p => p.2).map pd2, .tup (SqT.of upd_same) (.cons (.int _) (.cons (.int _) .nil)), ps_dp rfl M1.pa M1.pr, pd2_shaped _, ps_shaped (ks := ks) rfl, ?_⟩
      exact q _ s1
/-- the places that the law finds -/
def plcL (b : Int) (ns : List Int) (ps : List (Int × Int)) (n : Int) (z : V) : List (Int × Int) := (ns.filter fun d => decide ((n - d) % mA b = 0) && fitsB ps d z).map fun d => ((n - d).fdiv b, d)
def spLSteps : Sp := fun vs H Q _ => ∃ (m dl pl pt : Addr) (b n : Int) (ns : List Int) (ks : List (Addr × (Int × Int))) (z : V), vs = [.ref m, .ref pt] ∧ ModAt H m dl pl b ns ks ∧ Good b ns (ks.map (·.2)) ∧ H pt = some (.tup [.int n, z]) ∧ (z = .non ∨ ∃ y : Int, z = .int y) ∧
  ∀ (L : Addr) (H' : Hp), Same H H' → H L = none → PlacesAt H' L (plcL b ns (ks.map (·.2)) n z) → Q (.ref L) H'
abbrev nLs : List Str := ["_law_model", "_law_place", "_law_found", "_law_digit"]
theorem scLs : FnScope nLs ["_law_model", "_law_place"] (defScope sLSteps) := ⟨rfl, rfl, rfl, by decide +kernel, rfl, by decide +kernel, by decide +kernel⟩
theorem fdiv_ok {b : Int} (h : isBase b = true) : b ≠ 0 ∧ b.natAbs ≤ 6 := by
  unfold isBase at h
  simp only [Bool.or_eq_true, Bool.and_eq_true, decide_eq_true_eq] at h
  omega
set_option maxHeartbeats 2000000 in
theorem ok_lsteps {f fF : Addr} {fd fdF : FuncData} (F : Fun K "_law_steps" "_law_steps" sLSteps f fd)
    (GF : FnOk P w K mg base CX0 2 fF fdF ["_law_model", "_law_left", "_law_beside"] spFits) (gF : mg "_law_fits" = some (.ref fF)) (kF : PySem.W.keepIn K (.ref fF) = true) (bF : Binds K fdF ["_law_model", "_law_left", "_law_beside"] [])
    (mi : mg "int" = none) (ma : mg "abs" = none) : FnOk P w K mg base CX0 3 f fd ["_law_model", "_law_place"] spLSteps := by
  refine F.ok scLs (fun vs H Q E h => ?_) (fun cdv A outer s H vs Q E hr h => ?_)
  · obtain ⟨m, dl, pl, pt, b, n, ns, ks, z, rfl, _⟩ := h
    rfl
  · obtain ⟨m, dl, pl, pt, b, n, ns, ks, z, rfl, M, G, ep, hz, q⟩ := h
    apply Exists.intro
    apply And.intro
    · apply pss_cons
      · exact ps_set (i := 2) scLs.nd rfl (.inl rfl) (pe_lst pa_nil)
      apply pss_cons
      · exact ps_for PassesOwn.never rfl (pi_list (pe_ix ix_list (pv 0) pe_int (fun _ _ => rfl))) (pg_name (i := 3) scLs.nd rfl (.inl rfl))
          (pss_one (ps_if (PW.pt (pw_and (pt_cmpR op_eq (pe_op op_mod (pe_callTy call_int1 (by rfl) mi PyProof.Rows.boot_int (pa_cons (pe_op op_sub (pe_ix ix_tup (pv 1) pe_int (fun _ _ => rfl)) (pv 3)) pa_nil)) (pe_callB call_abs (by rfl) ma (by decide +kernel) (pa_cons (pe_ix ix_list (pv 0) pe_int (fun _ _ => rfl)) pa_nil))) pe_int (nomark _))
              (pw_and1 (pt_val (pe_call GF hr (by rfl) gF kF bF .nil pass0 (pa_cons (pv 0) (pa_cons (pv 3) (pa_cons (pe_ix ix_tup (pv 1) pe_int (fun _ _ => rfl)) pa_nil))))))))
            (pss_one (ps_expr (pe_bm PySem.F.plainAttrs_list PySem.F.slot_list_append PySem.F.type_list_append mt_append (pv 2) (pa_cons (pe_tup (pa_cons (pe_op op_fdivN (pe_op op_sub (pe_ix ix_tup (pv 1) pe_int (fun _ _ => rfl)) (pv 3)) (pe_ix ix_list (pv 0) pe_int (fun _ _ => rfl))) (pa_cons (pv 3) pa_nil))) pa_nil)))) pss_nil))
      apply pss_one
      · exact ps_ret (pv 2)
    obtain ⟨b0, b6⟩ := fdiv_ok G.b
    have hm := mA_cases G.b
    refine ⟨(by show 0 ≤ sizeLine; decide), fun L hL => ?_⟩
    have s0 := same_new (o := .lst []) hL
    have M0 := M.same s0
    refine ⟨.ref m, rfl, m, _, 1, .ref dl, rfl, rfl, SqL.of M0.mo, atI_nat (j := 1) rfl, dl, rfl, ⟨_, SqL.of M0.di⟩, for_list (K := K) (a := dl) (xs := ns.map V.int) (fun i σ H' => (∃ v, σ = [some (.ref m), some (.ref pt), some (.ref L), v]) ∧ Same H H' ∧ ∃ kk : List (Addr × (Int × Int)), kk.map (·.2) = plcL b (ns.take i) (ks.map (·.2)) n z ∧ kk.length ≤ i ∧ H' L = some (.lst (kk.map fun p => V.ref p.1)) ∧ ∀ p ∈ kk, H' p.1 = some (.tup [.int p.2.1, .int p.2.2]))
      ⟨⟨none, rfl⟩, s0, [], rfl, Nat.le_refl _, upd_same, fun p h => by cases h⟩ (fun i σ H' _ h => SqL.of (h.2.1 _ _ M.di)) ?_ ?_⟩
    · rintro i x σ H1 hx ⟨⟨v, rfl⟩, s1, kk, ek, lk, e1, tk⟩
      obtain ⟨d, hd, rfl⟩ := get_map hx
      have hi : i < ns.length := (List.getElem?_eq_some_iff.mp hd).1
      have M1 := M.same s1
      have ep1 := s1 _ _ ep
      have h6 := G.six
      have skip : (decide ((n - d) % mA b = 0) && fitsB (ks.map (·.2)) d z) = false → ∀ H2, Same H1 H2 → (∃ v, [some (V.ref m), some (.ref pt), some (.ref L), some (.int d)] = [some (V.ref m), some (.ref pt), some (.ref L), v]) ∧ Same H H2 ∧ ∃ kk : List (Addr × (Int × Int)), kk.map (·.2) = plcL b (ns.take (i + 1)) (ks.map (·.2)) n z ∧ kk.length ≤ i + 1 ∧ H2 L = some (.lst (kk.map fun p => V.ref p.1)) ∧ ∀ p ∈ kk, H2 p.1 = some (.tup [.int p.2.1, .int p.2.2]) := fun c H2 s2 => by
        refine ⟨⟨_, rfl⟩, s1.trans s2, kk, ?_, by omega, s2 _ _ e1, fun p hp => s2 _ _ (tk p hp)⟩
        rw [ek, take_more hd]
        unfold plcL
        rw [List.filter_append]
        simp [c]
      refine ⟨.ref pt, rfl, pt, _, 0, .int n, rfl, rfl, SqT.of ep1, atI_nat (j := 0) rfl, .int d, rfl, n, d, rfl, rfl, .inl ⟨n - d, rfl, ?_⟩⟩
      refine ⟨.ref m, rfl, m, _, 0, .int b, rfl, rfl, SqL.of M1.mo, atI_nat (j := 0) rfl, b, rfl, n - d, mA b, rfl, rfl, by omega, rfl, _, rfl, ite2 (fun c => ?_) (fun c => ?_)⟩
      · have c2 : (n - d) % mA b = 0 := V.int.inj (of_decide_eq_true c)
        refine ⟨.ref m, rfl, .int d, rfl, .ref pt, rfl, pt, _, 1, z, rfl, rfl, SqT.of ep1, atI_nat (j := 1) rfl, m, dl, pl, b, d, ns, ks, z, rfl, M1, hz, fun H2 s2 => ⟨_, rfl, ?_⟩⟩
        cases c3 : fitsB (ks.map (·.2)) d z with
        | false => exact iteF (skip (by rw [c3, Bool.and_false]) H2 s2)
        | true =>
          have M2 := M1.same s2
          refine iteT ⟨.ref L, rfl, .inl ⟨rfl, _, SqL.of (s2 _ _ e1)⟩, .ref pt, rfl, pt, _, 0, .int n, rfl, rfl, SqT.of (s2 _ _ ep1), atI_nat (j := 0) rfl, .int d, rfl, n, d, rfl, rfl, .ref m, rfl, m, _, 0, .int b, rfl, rfl, SqL.of M2.mo, atI_nat (j := 0) rfl, n - d, b, rfl, rfl, ⟨b0, by omega⟩, .int d, rfl, (by show 2 ≤ sizeLine; decide), fun T hT => ?_⟩
          have s3 := same_new (o := .tup [.int ((n - d).fdiv b), .int d]) hT
          have s23 := s2.trans s3
          have e2 := s23 _ _ e1
          refine ⟨L, _, _, rfl, rfl, e2, ?_, ⟨_, rfl⟩, Same.store (s1.trans s23) hL, kk ++ [(T, ((n - d).fdiv b, d))], ?_, ?_, ?_, fun p hp => ?_⟩
          · rw [List.length_map]
            exact small1000 (by omega)
          · rw [List.map_append, ek, take_more hd]
            unfold plcL
            rw [List.filter_append, List.map_append]
            simp [c2, c3]
          · rw [List.length_append]
            show kk.length + 1 ≤ i + 1
            omega
          · rw [upd_same, List.map_append]
            rfl
          · have nL : p.1 ≠ L := fun z => by
              rcases List.mem_append.mp hp with h | h
              · have := s23 _ _ (tk p h)
                rw [z, e2] at this
                cases this
              · cases List.mem_singleton.mp h
                have z2 : T = L := z
                rw [z2, s2 _ _ e1] at hT
                cases hT
            rw [upd_ne nL]
            rcases List.mem_append.mp hp with h | h
            · exact s23 _ _ (tk p h)
            · cases List.mem_singleton.mp h
              exact upd_same
      · have c2 : ¬ (n - d) % mA b = 0 := fun z => c (decide_eq_true (congrArg V.int z))
        exact skip (by rw [decide_eq_false c2, Bool.false_and]) H1 (Same.refl H1)
    · rintro σ H1 ⟨⟨v, rfl⟩, s1, kk, ek, lk, e1, tk⟩
      rw [List.length_map, List.take_length] at ek
      exact ⟨_, rfl, q L H1 s1 hL ⟨kk, ek, e1, tk⟩⟩
/-- the program's places are the law's -/
theorem plc_law {b n : Int} {ns : List Int} {ks L : List (Addr × (Int × Int))} {z : V} (G : Good b ns (ks.map (·.2))) (eL : L.map (·.2) = ks.map (·.2)) (hz : z = .non ∨ ∃ y, y ∈ ns ∧ z = .int y) : plc b (ns.filter fun d => jdg ns L (.int d) z) n = plcL b ns (ks.map (·.2)) n z := by
  unfold plc plcL
  rw [List.filter_filter]
  congr 1
  refine List.filter_congr fun d hd => ?_
  have one : ∀ y ∈ ns, isOne ns y = true := fun y hy => by
    unfold isOne
    rw [G.dg y hy, decide_eq_true hy]
    rfl
  have bar : ∀ x y : Int, hasBar L x y = hasP (ks.map (·.2)) x y := fun x y => by
    unfold hasBar hasP
    rw [← eL, List.map_map]
    rfl
  have ed : decide ((n - d).fmod b = 0) = decide ((n - d) % mA b = 0) := by
    have hb := (fdiv_ok G.b).1
    refine decide_eq_decide.mpr ?_
    rw [← Int.dvd_iff_fmod_eq_zero, ← Int.dvd_iff_emod_eq_zero]
    unfold mA
    split
    · rw [Int.neg_dvd]
    · exact Iff.rfl
  rw [ed]
  congr 1
  rcases hz with rfl | ⟨y, hy, rfl⟩
  · exact one d hd
  · show (isOne ns d && (isOne ns y && !hasBar L d y)) = !hasP (ks.map (·.2)) d y
    rw [one d hd, one y hy, bar]
    rfl

/-! ### a number, drawn -/
def spNumber : Sp := fun vs H Q _ => ∃ (a : Addr) (n : Int), vs = [.ref a] ∧ Box n H a ∧ n ≤ 900000 ∧ ∀ (v : Int) (H' : Hp), But a H H' → Box (n + 10) H' a → v.natAbs < 10 ^ 60 → Q (.int v) H'
abbrev nNu : List Str := ["_law_box_here", "_law_number_here"]
theorem scNu : FnScope nNu ["_law_box_here"] (defScope sNumber) := ⟨rfl, rfl, rfl, by decide +kernel, rfl, by decide +kernel, by decide +kernel⟩
theorem ok_number {f fT : Addr} {fd fdT : FuncData} (F : Fun K "_law_number" "_law_number" sNumber f fd) (FT : Fun K "_law_take" "_law_take" sTake fT fdT) (gT : mg "_law_take" = some (.ref fT)) (bT : Binds K fdT ["_law_box_here", "_law_many"] [])
    (mi : mg "int" = none) : FnOk P w K mg base CX0 2 f fd ["_law_box_here"] spNumber := by
  have GT : FnOk P w K mg base CX0 1 fT fdT ["_law_box_here", "_law_many"] spTake := ok_take FT mi
  refine F.ok scNu (fun vs H Q E h => ?_) (fun cdv A outer s H vs Q E hr h => ?_)
  · obtain ⟨a, n, rfl, _⟩ := h
    rfl
  · obtain ⟨a, n, rfl, hB, hn, q⟩ := h
    apply Exists.intro
    apply And.intro
    · apply pss_cons
      · exact ps_set (i := 1) scNu.nd rfl (.inl rfl) (pe_ix ix_list (pe_lst (pa_cons (pe_call GT hr (by rfl) gT FT.kp bT .nil pass0 (pa_cons (pv 0) (pa_cons pe_int pa_nil))) (pa_cons (pe_call GT hr (by rfl) gT FT.kp bT .nil pass0 (pa_cons (pv 0) (pa_cons pe_int pa_nil))) (pa_cons (pe_call GT hr (by rfl) gT FT.kp bT .nil pass0 (pa_cons (pv 0) (pa_cons (pe_op op_pow pe_int pe_int) pa_nil))) pa_nil)))) (pe_ix ix_list (pe_lst (pa_cons pe_int (pa_cons pe_int (pa_cons pe_int (pa_cons pe_int (pa_cons pe_int pa_nil)))))) (pe_call GT hr (by rfl) gT FT.kp bT .nil pass0 (pa_cons (pv 0) (pa_cons pe_int pa_nil))) (fun _ _ => rfl)) (fun _ _ => rfl))
      apply pss_one
      · exact ps_ret (pe_ix ix_list (pe_lst (pa_cons (pv 1) (pa_cons (pe_un un_neg (pv 1)) pa_nil))) (pe_call GT hr (by rfl) gT FT.kp bT .nil pass0 (pa_cons (pv 0) (pa_cons pe_int pa_nil))) (fun _ _ => rfl))
    refine ⟨.ref a, rfl, a, 12, n, rfl, hB, by omega, by decide, by decide, fun r1 H1 x0 x1 t1 B1 => ?_⟩
    refine ⟨.ref a, rfl, a, 400, n + 1, rfl, B1, by omega, by decide, by decide, fun r2 H2 y0 y1 t2 B2 => ?_⟩
    refine ⟨.ref a, rfl, 10, 60, rfl, rfl, ⟨by decide, by decide, by decide⟩, a, 10 ^ 60, n + 1 + 1, rfl, B2, by omega, by decide, by decide, fun r3 H3 z0 z1 t3 B3 => ?_⟩
    have T3 := t1.trans (t2.trans t3)
    refine ⟨(by show 3 ≤ sizeLine; decide), fun L1 hL1 => ?_⟩
    have T4 := T3.trans (But.new (o := .lst [.int r1, .int r2, .int r3]) hL1)
    have B4 := B3.new (o := .lst [.int r1, .int r2, .int r3]) hL1
    have e4 : (upd H3 L1 (.lst [.int r1, .int r2, .int r3])) L1 = some (.lst [.int r1, .int r2, .int r3]) := upd_same
    have n1 := B3.ne hL1
    generalize upd H3 L1 (.lst [.int r1, .int r2, .int r3]) = H4 at T4 B4 e4 ⊢
    refine ⟨(by show 5 ≤ sizeLine; decide), fun L2_ hL2 => ?_⟩
    have T5 := T4.trans (But.new (o := .lst [.int 0, .int 0, .int 1, .int 1, .int 2]) hL2)
    have B5 := B4.new (o := .lst [.int 0, .int 0, .int 1, .int 1, .int 2]) hL2
    have e5 : (upd H4 L2_ (.lst [.int 0, .int 0, .int 1, .int 1, .int 2])) L2_ = some (.lst [.int 0, .int 0, .int 1, .int 1, .int 2]) := upd_same
    have e4 := same_new (o := .lst [.int 0, .int 0, .int 1, .int 1, .int 2]) hL2 _ _ e4
    have n2 := B4.ne hL2
    generalize upd H4 L2_ (.lst [.int 0, .int 0, .int 1, .int 1, .int 2]) = H5 at T5 B5 e5 e4 ⊢
    refine ⟨.ref a, rfl, a, 5, n + 1 + 1 + 1, rfl, B5, by omega, by decide, by decide, fun k H6 k0 k1 t6 B6 => ?_⟩
    have e5 := t6 _ _ n2 e5
    have e4 := t6 _ _ n1 e4
    have T6 := T5.trans t6
    obtain ⟨j, hj, gj⟩ : ∃ j : Int, 0 ≤ j ∧ j < 3 ∧ atI [V.int 0, .int 0, .int 1, .int 1, .int 2] k = some (.int j) := by
      have : k = 0 ∨ k = 1 ∨ k = 2 ∨ k = 3 ∨ k = 4 := by omega
      rcases this with rfl | rfl | rfl | rfl | rfl
      · exact ⟨0, by decide, by decide, rfl⟩
      · exact ⟨0, by decide, by decide, rfl⟩
      · exact ⟨1, by decide, by decide, rfl⟩
      · exact ⟨1, by decide, by decide, rfl⟩
      · exact ⟨2, by decide, by decide, rfl⟩
    obtain ⟨j3, gk⟩ := gj
    obtain ⟨v, vb, gv⟩ : ∃ v : Int, v.natAbs < 10 ^ 60 ∧ atI [V.int r1, .int r2, .int r3] j = some (.int v) := by
      have c60 : (10 : Int) ^ 60 = 1000000000000000000000000000000000000000000000000000000000000 := by decide
      have d60 : (10 : Nat) ^ 60 = 1000000000000000000000000000000000000000000000000000000000000 := by decide
      rw [c60] at z1
      rw [d60]
      have : j = 0 ∨ j = 1 ∨ j = 2 := by omega
      rcases this with rfl | rfl | rfl
      · exact ⟨r1, by omega, rfl⟩
      · exact ⟨r2, by omega, rfl⟩
      · exact ⟨r3, by omega, rfl⟩
    refine ⟨L2_, _, k, .int j, rfl, rfl, SqL.of e5, gk, L1, _, j, .int v, rfl, rfl, SqL.of e4, gv, ?_⟩
    refine ⟨.int v, rfl, .int v, rfl, v, rfl, (by show 2 ≤ sizeLine; decide), fun L3 hL3 => ?_⟩
    have T7 := T6.trans (But.new (o := .lst [.int v, .int (-v)]) hL3)
    have B7 := B6.new (o := .lst [.int v, .int (-v)]) hL3
    have e7 : (upd H6 L3 (.lst [.int v, .int (-v)])) L3 = some (.lst [.int v, .int (-v)]) := upd_same
    have n3 := B6.ne hL3
    generalize upd H6 L3 (.lst [.int v, .int (-v)]) = H7 at T7 B7 e7 ⊢
    refine ⟨.ref a, rfl, a, 2, n + 1 + 1 + 1 + 1, rfl, B7, by omega, by decide, by decide, fun g H8 g0 g1 t8 B8 => ?_⟩
    have e8 := t8 _ _ n3 e7
    have : g = 0 ∨ g = 1 := by omega
    rcases this with rfl | rfl
    · exact ⟨L3, _, 0, .int v, rfl, rfl, SqL.of e8, rfl, q v H8 (T7.trans t8) (B8.mono (by omega)) vb⟩
    · exact ⟨L3, _, 1, .int (-v), rfl, rfl, SqL.of e8, rfl, q (-v) H8 (T7.trans t8) (B8.mono (by omega)) (by rw [Int.natAbs_neg]; exact vb)⟩
end
end K11
/-! repr of any data without dicts; a value equal to itself; what an except clause does not take. -/
namespace OF
open PySem PySem.Spec PyProof.Rows L2
/-- repr of data -/
def rReprD (K : PySem.W.Frag) : List V → Hp → VK → Prop := fun xs H Q => ∃ (v : V) (d : PyData), xs = [v] ∧ Dp K H v d ∧ d.showable = true ∧ d.hasDict = false ∧ d.shown.length ≤ sizeLine ∧ d.depth ≤ 40 ∧ Q (.str d.shown) H
theorem call_reprD {X : Cx} (gu : X.A.guards = some []) (hu : X.A.units + 64 < cLine) : CallR X (.builtin "repr") (rReprD X.K) := by
  intro pins s σ H xs us Q I r h
  obtain ⟨v, d, rfl, hd, sh, nd, len, dep, q⟩ := h
  obtain ⟨u, rfl, ru⟩ := vals1 r
  have big : ∀ {p : Addr}, v = .ref p → wpAny (model X.prog X.w) X.A (call (.builtin "repr") [u]) (EP X pins σ Q) X.xe s := fun {p} e => by
    subst e
    cases ru
    obtain ⟨as, rd⟩ := Dp.reads I d _ _ hd rfl
    exact PySem.repr_of_reads' rd sh (fun z => by rw [nd] at z; cases z) gu (by omega) (fun _ _ z => z) (fun h' t tk kp => ⟨.str _, H, I.kept kp, ⟨_, rfl⟩, q⟩) len
  cases hd with
  | non =>
    cases ru
    exact PySem.P.repr_of_none ⟨.str _, H, I.tok _, ⟨_, rfl⟩, q⟩
  | bl b =>
    cases ru
    exact PySem.P.repr_of_bool ⟨.str _, H, I.tok _, ⟨_, rfl⟩, by cases b <;> exact q⟩
  | int i =>
    obtain ⟨t, rfl⟩ := ru
    exact PySem.P.repr_of_int (of_decide_eq_true sh) ⟨.str _, H, I.tok _, ⟨_, rfl⟩, q⟩
  | str z =>
    obtain ⟨t, rfl⟩ := ru
    exact PySem.P.repr_of_str ⟨.str _, H, I.tok _, ⟨_, rfl⟩, q⟩ len
  | lst h1 h2 => exact big rfl
  | tup h1 h2 => exact big rfl
/-- a value is equal to itself -/
def rEqSelf (K : PySem.W.Frag) : R2 := fun x y H Q => x = y ∧ ((∃ d, Dp K H x d ∧ SeqAt.shaped d = true) ∨ ∃ p, x = .ref p ∧ H p = some (.dK [])) ∧ Q (.bl true) H
theorem op_eqSelf {X : Cx} (hu : X.A.units + 64 < cLine) : OpR X (compareOp .Eq) (rEqSelf X.K) := by
  intro pins s σ H x y v u Q I rx ry h
  obtain ⟨rfl, h, q⟩ := h
  rcases h with ⟨d, hd, sh⟩ | ⟨p, rfl, hp⟩
  · refine op_eqD hu pins s σ H x x v u Q I rx ry ⟨d, d, hd, hd, sh, sh, ?_⟩
    rw [SeqAt.eqv_refl d (SeqAt.canLay_of_shaped sh)]
    exact q
  · exact op_eq_dictA (by omega) pins s σ H _ _ v u Q I rx ry ⟨p, p, [], [], rfl, rfl, hp, hp, rfl, (fun z hz => by cases hz), q⟩
/-- an error of another class -/
theorem exm_other {K : PySem.W.Frag} {S D : Addr} (h1 : PySem.W.subIn K (.ref D) (.type "BaseException") = some true) (h2 : PySem.W.isClsIn K D = true) (h3 : PySem.W.typeIn K (.ref D) = some (.type "type")) (h4 : PySem.W.subIn K (.ref S) (.ref D) = some false) (ne : S ≠ D) :
    PySem.W.exmOne K (.ref S) (.ref D) = some false := by
  have h2' : (PySem.W.clsIn K D).isSome = true := h2
  unfold PySem.W.exmOne
  simp only [h1, beq_self_eq_true, if_true]
  unfold PySem.W.kitCls
  simp only [h3, h4, h2', beq_self_eq_true, Bool.and_self, if_true]
end OF
namespace K11
open PySem PySem.Spec PyProof.Rows L2 OF
section
variable {P : Program} {w : World} {K : PySem.W.Frag} {mg : Str → Option Value} {base : Heap}

/-! ### what the program tells -/
abbrev Parts (C : Addr) (H : Hp) (x : V) (b : Int) (ds : List Int) (ks : List (Addr × (Int × Int))) : Prop := ∃ a t r : Addr, x = .ref a ∧ SchemeAt C H a t r b ds ks
def spTold (C : Addr) : Sp := fun vs H Q _ => ∃ x y z : V, vs = [x, y, z] ∧ ((Odd H x ∧ ∀ l H', Same H H' → H' l = some (.lst [.str "scheme", x, .bl true]) → Q (.ref l) H') ∨
  ∃ (a t r : Addr) (b : Int) (ds : List Int) (ks : List (Addr × (Int × Int))), x = .ref a ∧ SchemeAt C H a t r b ds ks ∧ ds.length ≤ 60 ∧ b ≠ 0 ∧ b.natAbs ≤ 6 ∧ ((Odd H y ∧ ∀ l H', Same H H' → H' l = some (.lst [.str "number", y]) → Q (.ref l) H') ∨
    ∃ n : Int, y = .int n ∧ ItemOk H z ∧ (rightB ds z = true → ∀ l L H', Same H H' → H' l = some (.lst [.str "places", .ref L]) → PlacesAt H' L (plc b (ds.filter fun d => jdg ds ks (.int d) z) n) → Q (.ref l) H') ∧ (rightB ds z = false → ∀ l H', Same H H' → H' l = some (.lst [.str "digit", z]) → Q (.ref l) H')))
abbrev nTo : List Str := ["_law_house", "_law_remains", "_law_beside", "e"]
theorem scTo : FnScope nTo ["_law_house", "_law_remains", "_law_beside"] (defScope sTold) := ⟨rfl, rfl, rfl, by decide +kernel, rfl, by decide +kernel, by decide +kernel⟩
def t_told (C CN CI CU : Addr) (W : WX) : TS := tRet (tLst (tCons (tC (.str "places")) (tCons (tCallS (spSteps C CN CI CU) (WE W) (tCons (tVar 0) (tCons (tVar 1) (tCons (tVar 2) tNil)))) tNil)))
def t_t1 (K : PySem.W.Frag) (CN CF : Addr) : Addr → Value → Option Addr → TS := fun a cls d => tRet (tLst (tCons (tC (.str "scheme")) (tCons (tXf a cls d CN "value" (tVar 3)) (tCons (tCB (rAsk K CN a cls d) (tCons (tVar 3) (tCons (tC (.ref CF)) tNil))) tNil))))
def t_t2 (CI : Addr) : Addr → Value → Option Addr → TS := fun a cls d => tRet (tLst (tCons (tC (.str "number")) (tCons (tXf a cls d CI "number" (tVar 3)) tNil)))
def t_t3 (CU : Addr) : Addr → Value → Option Addr → TS := fun a cls d => tRet (tLst (tCons (tC (.str "digit")) (tCons (tXf a cls d CU "digit" (tVar 3)) tNil)))
abbrev toldC (K : PySem.W.Frag) (CN CI CU CF : Addr) : Clauses := [(.ref CN, 3, t_t1 K CN CF), (.ref CI, 3, t_t2 CI), (.ref CU, 3, t_t3 CU)]
/-- the classes are told apart -/
structure Apart (K : PySem.W.Frag) (CN CI CU : Addr) : Prop where
  a : PySem.W.exmOne K (.ref CI) (.ref CN) = some false
  b : PySem.W.exmOne K (.ref CU) (.ref CN) = some false
  c : PySem.W.exmOne K (.ref CU) (.ref CI) = some false
theorem ok_told {f fV fI1 fI2 fI3 C CN CI CU CF fF : Addr} {fd fdV : FuncData} (F : Fun K "_law_told" "_law_told" sTold f fd)
    (GV : FnOk P w K mg base (L2.CX P w) 8 fV fdV ["scheme", "rest", "right"] (spSteps C CN CI CU)) (gV : mg "steps" = some (.ref fV)) (kV : PySem.W.keepIn K (.ref fV) = true) (bV : Binds K fdV ["scheme", "rest", "right"] [])
    (T1 : ErrC K mg "NotScheme" "value" CN fI1) (T2 : ErrC K mg "InvalidNumber" "number" CI fI2) (T3 : ErrC K mg "UnknownDigit" "digit" CU fI3) (TF : FigC K mg CF fF) (ask : AskC K CN) (kk : PySem.W.kitOne K (.ref CN) (.ref CF) = some true) (mis : mg "isinstance" = none) (ap : Apart K CN CI CU) :
    FnOk P w K mg base CX0 9 f fd ["_law_house", "_law_remains", "_law_beside"] (spTold C) := by
  refine F.ok scTo (fun vs H Q E h => ?_) (fun cdv A outer s H vs Q E hr h => ⟨(fun D σ H => t_told C CN CI CU (wManyA K (fun _ _ _ _ => False) D (toldC K CN CI CU CF)) D σ H), ?_, ?_⟩)
  · obtain ⟨x, y, z, rfl, _⟩ := h
    rfl
  · exact pss_one (ps_try_manyA (l := toldC K CN CI CU CF) (tb := t_told C CN CI CU) (Wout := fun _ _ _ _ => False) rfl rfl scTo.nd takes0
      (fun W pn xe tk _ => pss_one (ps_ret (by exact (pe_lst (pa_cons pe_str (pa_cons (pe_callS GV hr (by rfl) gV kV bV (fun σ => passAt tk σ) (by exact (pa_cons (pv 0) (pa_cons (pv 1) (pa_cons (pv 2) pa_nil))))) pa_nil))))))
      (.cons ⟨rfl, by decide, Or.inl T1.g⟩ rfl rfl (fun a oe cls d pn hz hf => pss_one (ps_ret (by exact (pe_lst (pa_cons pe_str (pa_cons (pe_xf T1.xf T1.no hz hf (pv 3)) (pa_cons (pe_callB (call_ask ask hz hf) (by rfl) mis PyProof.Rows.boot_isinstance (pa_cons (pv 3) (pa_cons (pe_glob (v := .ref CF) rfl TF.g rfl) pa_nil))) pa_nil)))))))
      (.cons ⟨rfl, by decide, Or.inl T2.g⟩ rfl rfl (fun a oe cls d pn hz hf => pss_one (ps_ret (by exact (pe_lst (pa_cons pe_str (pa_cons (pe_xf T2.xf T2.no hz hf (pv 3)) pa_nil))))))
      (.cons ⟨rfl, by decide, Or.inl T3.g⟩ rfl rfl (fun a oe cls d pn hz hf => pss_one (ps_ret (by exact (pe_lst (pa_cons pe_str (pa_cons (pe_xf T3.xf T3.no hz hf (pv 3)) pa_nil)))))) .nil))))
  · obtain ⟨x, y, z, rfl, h⟩ := h
    refine ⟨x, rfl, y, rfl, z, rfl, x, y, z, rfl, ?_⟩
    rcases h with ⟨o, q⟩ | ⟨a, t, r, b, ds, ks, rfl, S, hl, b0, b6, h⟩
    · refine .inl ⟨o, fun fs d H' hd s1 ed => ⟨true, T1.te, fun _ a ha => ?_, fun q => nomatch q⟩⟩
      refine ⟨.ref a, rfl, rfl, rfl, d, _, x, rfl, ed, by simp [List.lookup], .ref a, rfl, d, _, .ref CF, .ref CF, true, rfl, rfl, ed, rfl, fun u hu => hu, kk, ?_⟩
      exact ⟨(by show 3 ≤ sizeLine; decide), fun l hl => q l _ (Same.store s1 (s1.free hl)) upd_same⟩
    · refine .inr ⟨a, t, r, b, ds, ks, rfl, S, hl, b0, b6, ?_⟩
      rcases h with ⟨o, q⟩ | ⟨n, rfl, hz, hq, hE⟩
      · refine .inl ⟨o, fun fs d H' hd s1 ed => ⟨false, ap.a, (fun q => nomatch q), fun _ => ⟨true, T2.te, fun _ a ha => ?_, fun q => nomatch q⟩⟩⟩
        refine ⟨.ref a, rfl, rfl, rfl, d, _, y, rfl, ed, by simp [List.lookup], ?_⟩
        exact ⟨(by show 2 ≤ sizeLine; decide), fun l hl => q l _ (Same.store s1 (s1.free hl)) upd_same⟩
      · refine .inr ⟨n, rfl, hz, fun hr1 L H' s1 _ pl => ?_, fun hr0 fs d H' hd s1 ed => ?_⟩
        · exact ⟨(by show 2 ≤ sizeLine; decide), fun l hl => hq hr1 l L _ (s1.trans (same_new hl)) upd_same (pl.same (same_new hl))⟩
        · refine ⟨false, ap.b, (fun q => nomatch q), fun _ => ⟨false, ap.c, (fun q => nomatch q), fun _ => ⟨true, T3.te, fun _ a ha => ?_, fun q => nomatch q⟩⟩⟩
          refine ⟨.ref a, rfl, rfl, rfl, d, _, z, rfl, ed, by simp [List.lookup], ?_⟩
          exact ⟨(by show 2 ≤ sizeLine; decide), fun l hl => hE hr0 l _ (Same.store s1 (s1.free hl)) upd_same⟩

/-! ### what core refuses -/
def SelfEq (K : PySem.W.Frag) (H : Hp) (x : V) : Prop := (∃ d, (∀ H', Same H H' → Dp K H' x d) ∧ SeqAt.shaped d = true) ∨ ∃ p, x = .ref p ∧ H p = some (.dK [])
def spRef (K : PySem.W.Frag) : Sp := fun vs H Q _ => ∃ x : V, vs = [x] ∧ Odd H x ∧ SelfEq K H x ∧ ∀ H', Same H H' → Q (.bl true) H'
theorem scRf : FnScope ["_law_value", "e"] ["_law_value"] (defScope sRefused) := ⟨rfl, rfl, rfl, by decide +kernel, rfl, by decide +kernel, by decide +kernel⟩
def t_ref (C CN : Addr) (W : WX) : TS := tDrop (tCallS (spCore C CN) (WE W) (tCons (tVar 0) tNil))
def t_refS (K : PySem.W.Frag) (CN : Addr) : Addr → Value → Option Addr → TS := fun a cls d => tRet (tOp (rEqSelf K) (tXf a cls d CN "value" (tVar 1)) (tVar 0))
theorem ok_refused {f fR fI C CN : Addr} {fd fdR : FuncData} (F : Fun K "_law_refused" "_law_refused" sRefused f fd) (GR : FnOk P w K mg base (L2.CX P w) 6 fR fdR ["scheme"] (spCore C CN)) (gR : mg "core" = some (.ref fR)) (kR : PySem.W.keepIn K (.ref fR) = true) (bR : Binds K fdR ["scheme"] [])
    (T : ErrC K mg "NotScheme" "value" CN fI) : FnOk P w K mg base CX0 7 f fd ["_law_value"] (spRef K) := by
  refine F.ok scRf (fun vs H Q E h => ?_) (fun cdv A outer s H vs Q E hr h => ⟨tSeq (fun D σ H => t_ref C CN (wAs K (.ref CN) 1 (t_refS K CN) (fun _ _ _ _ => False) D) D σ H) (tRet (tC (.bl false))), ?_, ?_⟩)
  · obtain ⟨x, rfl, _⟩ := h
    rfl
  · have hu : A.units + 3 + 64 < cLine := by
      have := hr.un
      have e : (A.deeper (envOfC "_law_refused" (defScope sRefused) s.heap.objs.size f cdv)).units = A.units + 3 := rfl
      omega
    exact pss_cons (ps_try_as (i := 1) (tb := t_ref C CN) (ts := t_refS K CN) (Wout := fun _ _ _ _ => False) rfl rfl scRf.nd rfl rfl ⟨rfl, by decide, Or.inl T.g⟩ takes0
      (fun W pn xe tk _ => pss_one (ps_expr (by exact (pe_callS GR hr (by rfl) gR kR bR (fun σ => passAt tk σ) (by exact (pa_cons (pv 0) pa_nil))))))
      (fun a oe cls d pn hz hf => pss_one (ps_ret (by exact (pe_cmpR (op_eqSelf hu) (pe_xf T.xf T.no hz hf (pv 1)) (pv 0) (nomark _)))))) (pss_one (ps_ret pe_bl))
  · obtain ⟨x, rfl, o, se, q⟩ := h
    refine ⟨x, rfl, x, rfl, .inl ⟨o, fun fs d H' hd s1 ed => ?_⟩⟩
    refine ⟨true, T.te, fun _ a ha => ?_, fun q => nomatch q⟩
    refine ⟨.ref a, rfl, rfl, rfl, d, _, x, rfl, ed, by simp [List.lookup], x, rfl, rfl, ?_, q H' s1⟩
    rcases se with ⟨dd, h1, h2⟩ | ⟨p, e, h1⟩
    · exact .inl ⟨dd, h1 H' s1, h2⟩
    · exact .inr ⟨p, e, s1 _ _ h1⟩

/-! ### the digits as text -/
def strI (n : Int) : V := .str (Str.ofString (toString n))
def spNames : Sp := fun vs H Q _ => ∃ (m dl pl : Addr) (b : Int) (ns : List Int) (ks : List (Addr × (Int × Int))), vs = [.ref m] ∧ ModAt H m dl pl b ns ks ∧ Good b ns (ks.map (·.2)) ∧ ∀ D H', Same H H' → H' D = some (.lst (ns.map strI)) → Q (.ref D) H'
abbrev nNm : List Str := ["_law_model", "_law_digit"]
theorem scNm : FnScope nNm ["_law_model"] (defScope sNames) := ⟨rfl, rfl, rfl, by decide +kernel, rfl, by decide +kernel, by decide +kernel⟩
theorem dig_log {n : Int} (h : dig n = true) : n.natAbs.log2 < 1920 := by
  unfold dig at h
  simp only [Bool.and_eq_true, decide_eq_true_eq] at h
  have all : ∀ k : Nat, k < 19 → ((-9 : Int) + (k : Int)).natAbs.log2 < 1920 := by decide +kernel
  have z := all (n + 9).toNat (by omega)
  have e : (-9 : Int) + (((n + 9).toNat : Nat) : Int) = n := by omega
  rw [e] at z
  exact z
theorem ok_names {f : Addr} {fd : FuncData} (F : Fun K "_law_names" "_law_names" sNames f fd) (mrp : mg "repr" = none) : FnOk P w K mg base CX0 1 f fd ["_law_model"] spNames := by
  refine F.ok scNm (fun vs H Q E h => ?_) (fun cdv A outer s H vs Q E hr h => ?_)
  · obtain ⟨m, dl, pl, b, ns, ks, rfl, _⟩ := h
    rfl
  · obtain ⟨m, dl, pl, b, ns, ks, rfl, M, G, q⟩ := h
    apply Exists.intro
    apply And.intro
    · apply pss_one
      · exact ps_ret (pe_lc (own := [("_law_digit", 1)]) (g := gName 1) (tt := tYes) rfl scNm.nd (pi_list (pe_ix ix_list (pv 0) pe_int (fun _ _ => rfl))) (blkOk_by (own := [("_law_digit", 1)]) (N := nNm) (sc := defScope sNames) (by decide +kernel)) (fun _ _ _ _ _ => pg_name (i := 1) scNm.nd rfl (Or.inl rfl)) (fun _ _ _ _ _ => pts_nil)
          (fun _ _ _ _ _ => by exact (pe_callB SkE.call_repr_int (by rfl) mrp PyProof.Rows.boot_repr (pa_cons (pv 1) pa_nil))))
    refine ⟨.ref m, rfl, m, _, 1, .ref dl, rfl, rfl, SqL.of M.mo, atI_nat (j := 1) rfl, dl, rfl, ⟨_, SqL.of M.di⟩, fun D hD => ?_⟩
    refine lc_list (K := K) (a := dl) (xs := ns.map V.int) (fun i H' => Same H H' ∧ H' D = some (.lst ((ns.take i).map strI))) ⟨same_new hD, upd_same⟩ (fun i H' _ h => SqL.of (h.1 _ _ M.di)) ?_ ?_
    · rintro i x H1 hx ⟨s1, e1⟩
      obtain ⟨d, hd, rfl⟩ := get_map hx
      refine ⟨rfl, tYes_if ⟨.int d, rfl, d, rfl, dig_log (G.dg d (List.mem_of_getElem? hd)), _, e1, ?_, Same.store s1 hD, ?_⟩⟩
      · rw [List.length_map]
        have := G.six
        exact Nat.lt_of_le_of_lt (List.length_take_le' _ _) (small1000 (by omega))
      · rw [upd_same, take_more hd, List.map_append]
        rfl
    · rintro H1 ⟨s1, e1⟩
      rw [List.length_map, List.take_length] at e1
      exact q D H1 s1 e1

/-! ### data that repr shows -/
structure RpE (d : PyData) : Prop where
  dp : d.depth ≤ 6
  lv : d.leavesShort 80 = true
  wt : d.weight ≤ 3000
theorem RpE.len {d : PyData} (h : RpE d) : d.shown.length ≤ sizeLine := by
  have := PyData.shown_le 80 (by decide) d h.lv
  have w := h.wt
  rw [sizeLine_eq]
  omega
/-- a number of the laws -/
def Num (n : Int) : Prop := n.natAbs < 10 ^ 61
theorem num_ok {n : Int} (h : Num n) : PyData.showable (.int n) = true ∧ PyData.leavesShort 80 (.int n) = true ∧ PyData.weight (.int n) ≤ 210 := by
  have h2 : n.natAbs < 2 ^ 210 := Nat.lt_trans h (by decide)
  have h3 : n.natAbs.log2 < 210 := by
    by_cases e : n.natAbs = 0
    · rw [e]
      decide
    · exact (Nat.log2_lt e).mpr h2
  refine ⟨?_, ?_, ?_⟩
  · show decide (n.natAbs.log2 < 1920) = true
    exact decide_eq_true (by omega)
  · show decide ((Str.ofString (toString n)).length ≤ 80) = true
    have e := int_text_length_le10 (k := 61) (by decide) h
    rw [PySem.ofString_length]
    exact decide_eq_true (by omega)
  · rw [PyData.weight.eq_def]
    show (if (n == 0) = true then 0 else n.natAbs.log2 + 1) ≤ 210
    split <;> omega
/-- places as data -/
def plD (ps : List (Int × Int)) : PyData := .list (ps.map pd2)
theorem pl_ok : ∀ {ps : List (Int × Int)}, (∀ p ∈ ps, Num p.1 ∧ Num p.2) → PyData.showableAll (ps.map pd2) = true ∧ PyData.hasDictAll (ps.map pd2) = false ∧ PyData.leavesShortAll 80 (ps.map pd2) = true ∧ PyData.weightAll (ps.map pd2) ≤ 430 * ps.length ∧ PyData.depthAll (ps.map pd2) ≤ 1
  | [], _ => ⟨rfl, rfl, rfl, Nat.le_refl _, Nat.zero_le _⟩
  | p :: ps, h => by
    obtain ⟨h1, h2, h3, h4, h5⟩ := pl_ok (ps := ps) fun q hq => h q (List.mem_cons_of_mem _ hq)
    obtain ⟨a, b⟩ := h p List.mem_cons_self
    obtain ⟨a1, a2, a3⟩ := num_ok a
    obtain ⟨b1, b2, b3⟩ := num_ok b
    refine ⟨?_, ?_, ?_, ?_, ?_⟩
    · simp only [List.map_cons, PyData.showableAll, h1, pd2, PyData.showable, Bool.and_true]
      simp only [PyData.showable] at a1 b1
      rw [a1, b1]
      rfl
    · simp only [List.map_cons, PyData.hasDictAll, h2, pd2, PyData.hasDict, Bool.or_false]
    · simp only [List.map_cons, PyData.leavesShortAll, h3, pd2, PyData.leavesShort, Bool.and_true]
      simp only [PyData.leavesShort] at a2 b2
      rw [a2, b2]
      rfl
    · have e : PyData.weight (pd2 p) = PyData.weightAll [.int p.1, .int p.2] := rfl
      rw [List.map_cons, PyData.weightAll, e]
      simp only [PyData.weightAll, List.length_cons]
      omega
    · have e : PyData.depth (pd2 p) = PyData.depthAll [.int p.1, .int p.2] + 1 := rfl
      rw [List.map_cons, PyData.depthAll, e]
      simp only [PyData.depthAll, PyData.depth]
      omega
theorem pl_rp {ps : List (Int × Int)} (h : ∀ p ∈ ps, Num p.1 ∧ Num p.2) (hl : ps.length ≤ 6) : (plD ps).showable = true ∧ (plD ps).hasDict = false ∧ RpE (plD ps) := by
  obtain ⟨h1, h2, h3, h4, h5⟩ := pl_ok h
  refine ⟨h1, h2, ⟨?_, h3, ?_⟩⟩
  · show PyData.depthAll _ + 1 ≤ 6
    omega
  · show PyData.weightAll _ ≤ 3000
    omega
theorem pl_shaped (ps : List (Int × Int)) : SeqAt.shaped (plD ps) = true := ps_shaped (ks := ps.map fun p => (0, p)) (by rw [List.map_map]; exact List.map_id _)
theorem PlacesAt.dp {H : Hp} {L : Addr} {ps : List (Int × Int)} (h : PlacesAt H L ps) : Dp K H (.ref L) (plD ps) := by
  obtain ⟨ks, e, h1, h2⟩ := h
  exact ps_dp e h1 h2
end
end K11
namespace K11
open PySem PySem.Spec PyProof.Rows L2 OF
section
variable {P : Program} {w : World} {K : PySem.W.Frag} {mg : Str → Option Value} {base : Heap}
theorem tup_ne {n : Int} {H : Hp} {a p : Addr} {xs : List V} (B : Box n H a) (h : H p = some (.tup xs)) : p ≠ a := fun z => by
  obtain ⟨b0, b1, b2, hb0, _⟩ := B
  rw [z, hb0] at h
  cases h
theorem SchemeAt.stay {C : Addr} {n : Int} {H H' : Hp} {a s t r : Addr} {b : Int} {ds : List Int} {ks : List (Addr × (Int × Int))} (h : SchemeAt C H s t r b ds ks) (B : Box n H a) (k : But a H H') : SchemeAt C H' s t r b ds ks := by
  obtain ⟨⟨dx, h1⟩, h2, h3, h4⟩ := h
  have ns : s ≠ a := fun z => by
    obtain ⟨b0, b1, b2, hb0, _⟩ := B
    rw [z, hb0] at h1
    cases h1
  exact ⟨⟨dx, k _ _ ns h1⟩, k _ _ (tup_ne B h2) h2, k _ _ (tup_ne B h3) h3, fun p hp => k _ _ (tup_ne B (h4 p hp)) (h4 p hp)⟩
theorem SchemeAt.store_lst {C D : Addr} {H : Hp} {s t r : Addr} {b : Int} {ds : List Int} {ks : List (Addr × (Int × Int))} {xs : List V} {o : HO} (h : SchemeAt C H s t r b ds ks) (e : H D = some (.lst xs)) : SchemeAt C (upd H D o) s t r b ds ks := by
  obtain ⟨⟨dx, h1⟩, h2, h3, h4⟩ := h
  have no : ∀ {p : Addr} {o' : HO}, H p = some o' → o' ≠ .lst xs → p ≠ D := fun h n z => by
    rw [z, e] at h
    exact n (Option.some.inj h).symm
  refine ⟨⟨dx, ?_⟩, ?_, ?_, fun p hp => ?_⟩
  · rw [upd_ne (no h1 (fun z => by cases z))]
    exact h1
  · rw [upd_ne (no h2 (fun z => by cases z))]
    exact h2
  · rw [upd_ne (no h3 (fun z => by cases z))]
    exact h3
  · rw [upd_ne (no (h4 p hp) (fun z => by cases z))]
    exact h4 p hp
/-- a scheme that tells what the law's parts tell -/
def SchOf (C : Addr) (H : Hp) (s : Addr) (b : Int) (ns : List Int) (ps : List (Int × Int)) : Prop := ∃ (t r : Addr) (L : List (Addr × (Int × Int))), L.map (·.2) = ps ∧ SchemeAt C H s t r b ns L
theorem SchOf.same {C s : Addr} {H H' : Hp} {b : Int} {ns : List Int} {ps : List (Int × Int)} (h : SchOf C H s b ns ps) (k : Same H H') : SchOf C H' s b ns ps := by
  obtain ⟨t, r, L, e, S⟩ := h
  exact ⟨t, r, L, e, S.same k⟩
theorem SchOf.stay {C s a : Addr} {n : Int} {H H' : Hp} {b : Int} {ns : List Int} {ps : List (Int × Int)} (h : SchOf C H s b ns ps) (B : Box n H a) (k : But a H H') : SchOf C H' s b ns ps := by
  obtain ⟨t, r, L, e, S⟩ := h
  exact ⟨t, r, L, e, S.stay B k⟩

theorem PlacesAt.stay {n : Int} {H H' : Hp} {a L : Addr} {ps : List (Int × Int)} (h : PlacesAt H L ps) (nL : L ≠ a) (B : Box n H a) (k : But a H H') : PlacesAt H' L ps := by
  obtain ⟨ks, e, h1, h2⟩ := h
  exact ⟨ks, e, k _ _ nL h1, fun p hp => k _ _ (tup_ne B (h2 p hp)) (h2 p hp)⟩

/-! ### how far steps lead -/
theorem mA_le (x : Int) : x ≤ mA x ∧ -x ≤ mA x ∧ (mA x = x ∨ mA x = -x) := by
  unfold mA
  split <;> omega
theorem step_in {b n d m : Int} (hb : isBase b = true) (hd : mA d ≤ m) (h : (n - d) % mA b = 0) :
    ¬ (mA n > m / (mA b - 1) ∧ mA ((n - d).fdiv b) ≥ mA n) ∧ ¬ (mA n ≤ m / (mA b - 1) ∧ mA ((n - d).fdiv b) > m / (mA b - 1)) := by
  have hb0 := (fdiv_ok hb).1
  obtain ⟨k, ek⟩ : b ∣ n - d := by
    have h2 : mA b ∣ n - d := Int.dvd_of_emod_eq_zero h
    unfold mA at h2
    split at h2
    · exact Int.neg_dvd.mp h2
    · exact h2
  have ef : (n - d).fdiv b = k := by rw [ek]; exact Int.mul_fdiv_cancel_left k hb0
  rw [ef]
  obtain ⟨n1, n2, n3⟩ := mA_le n
  obtain ⟨d1, d2, d3⟩ := mA_le d
  obtain ⟨k1, k2, k3⟩ := mA_le k
  have hbb : (b = 2 ∨ b = 3 ∨ b = 4 ∨ b = 5 ∨ b = 6) ∨ (b = -2 ∨ b = -3 ∨ b = -4 ∨ b = -5 ∨ b = -6) := by
    unfold isBase at hb
    simp only [Bool.or_eq_true, Bool.and_eq_true, decide_eq_true_eq] at hb
    omega
  generalize mA n = N at *
  generalize mA d = D at *
  generalize mA k = KK at *
  rcases hbb with (rfl | rfl | rfl | rfl | rfl) | (rfl | rfl | rfl | rfl | rfl)
  all_goals
    first
      | rw [show mA 2 = 2 from rfl]
      | rw [show mA 3 = 3 from rfl]
      | rw [show mA 4 = 4 from rfl]
      | rw [show mA 5 = 5 from rfl]
      | rw [show mA 6 = 6 from rfl]
      | rw [show mA (-2) = 2 from rfl]
      | rw [show mA (-3) = 3 from rfl]
      | rw [show mA (-4) = 4 from rfl]
      | rw [show mA (-5) = 5 from rfl]
      | rw [show mA (-6) = 6 from rfl]
    constructor <;> omega
/-- the places that the law finds, one by one -/
theorem plcL_mem {b n : Int} {ns : List Int} {ps : List (Int × Int)} {z : V} {p : Int × Int} (h : p ∈ plcL b ns ps n z) : p.2 ∈ ns ∧ (n - p.2) % mA b = 0 ∧ p.1 = (n - p.2).fdiv b := by
  unfold plcL at h
  obtain ⟨d, hd, rfl⟩ := List.mem_map.mp h
  obtain ⟨h1, h2⟩ := List.mem_filter.mp hd
  rw [Bool.and_eq_true] at h2
  exact ⟨h1, of_decide_eq_true h2.1, rfl⟩
theorem mA_nat (x : Int) : mA x = (x.natAbs : Int) := by
  unfold mA
  split <;> omega
theorem dig_num {n : Int} (h : dig n = true) : Num n := by
  unfold dig at h
  simp only [Bool.and_eq_true, decide_eq_true_eq] at h
  have : n.natAbs ≤ 9 := by omega
  exact Nat.lt_of_le_of_lt this (by decide)
theorem mx_le {ns : List Int} {m : Int} (dg : ∀ n ∈ ns, dig n = true) (h : IsMx ns m) : 0 ≤ m ∧ m ≤ 9 := by
  obtain ⟨d, hd, rfl⟩ := List.mem_map.mp h.1
  have := dg d hd
  unfold dig at this
  simp only [Bool.and_eq_true, decide_eq_true_eq] at this
  have := mA_nat d
  omega
theorem mx_has : ∀ {ns : List Int}, 1 ≤ ns.length → ∃ m, IsMx ns m
  | [n], _ => ⟨mA n, List.mem_map.mpr ⟨n, List.mem_cons_self, rfl⟩, fun y hy => by
      obtain ⟨k, hk, rfl⟩ := List.mem_map.mp hy
      cases List.mem_singleton.mp hk
      exact Int.le_refl _⟩
  | n :: k :: l, _ => by
    obtain ⟨m, h1, h2⟩ := mx_has (ns := k :: l) (Nat.succ_le_succ (Nat.zero_le _))
    by_cases c : m ≤ mA n
    · refine ⟨mA n, List.mem_map.mpr ⟨n, List.mem_cons_self, rfl⟩, fun y hy => ?_⟩
      obtain ⟨q, hq, rfl⟩ := List.mem_map.mp hy
      rcases List.mem_cons.mp hq with rfl | hq
      · exact Int.le_refl _
      · exact Int.le_trans (h2 _ (List.mem_map.mpr ⟨q, hq, rfl⟩)) c
    · refine ⟨m, List.mem_map.mpr ?_, fun y hy => ?_⟩
      · obtain ⟨q, hq, e⟩ := List.mem_map.mp h1
        exact ⟨q, List.mem_cons_of_mem _ hq, e⟩
      · obtain ⟨q, hq, rfl⟩ := List.mem_map.mp hy
        rcases List.mem_cons.mp hq with rfl | hq
        · omega
        · exact h2 _ (List.mem_map.mpr ⟨q, hq, rfl⟩)
theorem plcL_num {b n : Int} {ns : List Int} {ps : List (Int × Int)} {z : V} (G : Good b ns ps) (hn : n.natAbs < 10 ^ 60) : ∀ p ∈ plcL b ns ps n z, Num p.1 ∧ Num p.2 := by
  intro p hp
  obtain ⟨h1, h2, h3⟩ := plcL_mem hp
  obtain ⟨m, hm⟩ := mx_has G.one
  obtain ⟨m0, m9⟩ := mx_le G.dg hm
  refine ⟨?_, dig_num (G.dg _ h1)⟩
  obtain ⟨q1, q2⟩ := step_in G.b (hm.2 _ (List.mem_map.mpr ⟨p.2, h1, rfl⟩)) h2
  rw [← h3, mA_nat p.1, mA_nat n] at q1
  rw [← h3, mA_nat p.1, mA_nat n] at q2
  have c9 : m / (mA b - 1) ≤ 9 := by
    rcases mA_cases G.b with e | e | e | e | e <;> rw [e] <;> omega
  have big : 9 < 10 ^ 60 := by decide
  have big2 : 10 ^ 60 < 10 ^ 61 := by decide
  show p.1.natAbs < 10 ^ 61
  generalize (10 : Nat) ^ 60 = U at *
  generalize (10 : Nat) ^ 61 = W at *
  generalize m / (mA b - 1) = c at *
  by_cases t : (n.natAbs : Int) > c
  · omega
  · omega
theorem plcL_len {b n : Int} {ns : List Int} {ps : List (Int × Int)} {z : V} (h : ns.length ≤ 6) : (plcL b ns ps n z).length ≤ 6 := by
  unfold plcL
  rw [List.length_map]
  exact Nat.le_trans (List.length_filter_le _ _) h

/-! ### calls of steps -/
theorem stBinds {f : Addr} {fd : FuncData} (F : FunD K "steps" "steps" (defArgs sSteps) (defBody sSteps) (defScope sSteps) [.non] [] f fd) : Binds K fd ["scheme", "rest", "right"] [] := by
  obtain ⟨ds, hv, hb⟩ := F.binds1 (ps := ["scheme", "rest", "right"]) 3 1 (by decide) rfl (fun T kV doc pm an cdv ct us its l1 l2 => by
    match us, its, l1, l2 with
    | [x, y, z], [d], _, _ => exact ⟨_, rfl, rfl⟩)
  cases hv
  exact hb
theorem stBinds2 {f : Addr} {fd : FuncData} (F : FunD K "steps" "steps" (defArgs sSteps) (defBody sSteps) (defScope sSteps) [.non] [] f fd) : ∃ ds, Vals [.non] ds ∧ Binds K fd ["scheme", "rest", "right"] ds :=
  F.binds1 (ps := ["scheme", "rest", "right"]) 2 0 (by decide) rfl (fun T kV doc pm an cdv ct us its l1 l2 => by
    match us, its, l1, l2 with
    | [x, y], [d], _, _ => exact ⟨_, rfl, rfl⟩)
def gSt {α : Type} (us ds zs : List α) : List α := match us, ds, zs with
  | [], [_], [r, s, n] => [s, n, r]
  | _, _, _ => []
theorem stBindsK {f : Addr} {fd : FuncData} (F : FunD K "steps" "steps" (defArgs sSteps) (defBody sSteps) (defScope sSteps) [.non] [] f fd) : ∃ its : List Value, KBn K fd ["scheme", "rest", "right"] 0 ["right", "scheme", "rest"] (fun us ws => gSt us its ws) (fun vs zs => gSt vs [.non] zs) :=
  F.kbindsD (ps := ["scheme", "rest", "right"]) 0 ["right", "scheme", "rest"] gSt (by decide) (fun {vs ds zs us its ws} r1 r2 r3 => by
    cases r1 with
    | cons _ _ => exact .nil
    | nil =>
      cases r2 with
      | nil => exact .nil
      | cons a t =>
        cases t with
        | cons _ _ => exact .nil
        | nil =>
          cases r3 with
          | nil => exact .nil
          | cons x t => cases t with
            | nil => exact .nil
            | cons y t => cases t with
              | nil => exact .nil
              | cons z t => cases t with
                | nil => exact .cons y (.cons z (.cons x .nil))
                | cons _ _ => exact .nil)
    (fun T kV doc pm an cdv ct us its ws l1 l2 l3 => by
      match us, its, ws, l1, l2, l3 with
      | [], [d], [r, s, n], _, _, _ => exact ⟨_, rfl, rfl⟩)

/-! ### values of other kinds -/
theorem SelfEq.same {H H' : Hp} {x : V} (h : SelfEq K H x) (s : Same H H') : SelfEq K H' x := by
  rcases h with ⟨d, h1, h2⟩ | ⟨p, e, h1⟩
  · exact .inl ⟨d, fun H2 s2 => h1 H2 (s.trans s2), h2⟩
  · exact .inr ⟨p, e, s _ _ h1⟩
def OddV (X : Cx) (H : Hp) (x : V) : Prop := Odd H x ∧ SelfEq X.K H x ∧ ∃ d : PyData, (∀ H', Same H H' → Rp X H' x d) ∧ d.depth ≤ 5 ∧ d.leavesShort 80 = true ∧ d.weight ≤ 1000
theorem OddV.same {X : Cx} {H H' : Hp} {x : V} (h : OddV X H x) (s : Same H H') : OddV X H' x := by
  obtain ⟨o, e, d, r, z⟩ := h
  exact ⟨o.same s, e.same s, d, fun H2 s2 => r H2 (s.trans s2), z⟩
theorem OddV.flat {X : Cx} {H : Hp} {x : V} {d : PyData} (o : Odd H x) (h : ∀ H', Same H H' → Dp X.K H' x d) (sh : SeqAt.shaped d = true) (s : d.showable = true) (n : d.hasDict = false) (k : d.depth ≤ 5 ∧ d.leavesShort 80 = true ∧ d.weight ≤ 1000) : OddV X H x :=
  ⟨o, .inl ⟨d, h, sh⟩, d, fun H' s' => Rp.dp (h H' s') s n (RpE.len ⟨by have := k.1; omega, k.2.1, by have := k.2.2; omega⟩), k⟩
/-- a list of three or two, shown -/
theorem len3 {z : Str} {d : PyData} (hz : z.cps.size ≤ 100 ∧ PyData.leavesShort 80 (.str z) = true) (k : d.depth ≤ 5 ∧ d.leavesShort 80 = true ∧ d.weight ≤ 1000) : (PyData.list [.str z, d, .bool true]).shown.length ≤ sizeLine ∧ (PyData.list [.str z, d]).shown.length ≤ sizeLine ∧ PyData.depthAll [.str z, d, .bool true] ≤ 40 ∧ PyData.depthAll [.str z, d] ≤ 40 := by
  obtain ⟨k1, k2, k3⟩ := k
  obtain ⟨z1, z2⟩ := hz
  have w : PyData.weight (.str z) = z.cps.size := by rw [PyData.weight.eq_def]
  have w2 : PyData.weight (.bool true) = 0 := by rw [PyData.weight.eq_def]
  have dz : PyData.depth (.str z) = 0 := by rw [PyData.depth.eq_def]
  have db : PyData.depth (.bool true) = 0 := by rw [PyData.depth.eq_def]
  refine ⟨RpE.len ⟨?_, ?_, ?_⟩, RpE.len ⟨?_, ?_, ?_⟩, ?_, ?_⟩
  · show PyData.depthAll _ + 1 ≤ 6
    simp only [PyData.depthAll, dz, db]
    omega
  · show PyData.leavesShortAll 80 _ = true
    rw [PyData.leavesShortAll, PyData.leavesShortAll, PyData.leavesShortAll, z2, k2]
    rfl
  · show PyData.weightAll _ ≤ 3000
    simp only [PyData.weightAll, w, w2]
    omega
  · show PyData.depthAll _ + 1 ≤ 6
    simp only [PyData.depthAll, dz]
    omega
  · show PyData.leavesShortAll 80 _ = true
    rw [PyData.leavesShortAll, PyData.leavesShortAll, z2, k2]
    rfl
  · show PyData.weightAll _ ≤ 3000
    simp only [PyData.weightAll, w]
    omega
  · simp only [PyData.depthAll, dz, db]
    omega
  · simp only [PyData.depthAll, dz]
    omega

/-! ### digits that the scheme lacks -/
theorem str_in {ns : List Int} {n : Int} (h : n ∈ ns) : inV (.str (PyData.shown (.int n))) (ns.map strI) = true := by
  unfold inV
  rw [List.any_eq_true]
  refine ⟨strI n, List.mem_map.mpr ⟨n, h, rfl⟩, ?_⟩
  exact decide_eq_true rfl
theorem true_out {ns : List Int} (dg : ∀ n ∈ ns, dig n = true) : inV (.str (PyData.shown (.bool true))) (ns.map strI) = false := by
  unfold inV
  rw [List.any_eq_false]
  intro v hv
  obtain ⟨n, hn, rfl⟩ := List.mem_map.mp hv
  have h := dg n hn
  unfold dig at h
  simp only [Bool.and_eq_true, decide_eq_true_eq] at h
  have all : ∀ k : Nat, k < 19 → ¬ eqV (strI ((-9 : Int) + (k : Int))) (.str (PyData.shown (.bool true))) = true := by decide +kernel
  have z := all (n + 9).toNat (by omega)
  have e : (-9 : Int) + (((n + 9).toNat : Nat) : Int) = n := by omega
  rw [e] at z
  exact z
theorem flat_strs (ns : List Int) : (ns.map strI).all flatV = true := by
  rw [List.all_eq_true]
  intro v hv
  obtain ⟨n, _, rfl⟩ := List.mem_map.mp hv
  rfl
theorem is_int_kit {H : Hp} (n : Int) : ∃ t : Value, TyX K H (.int n) t ∧ PySem.W.kitOne K t (.type "bool") = some false := ⟨_, .base (.int n), by show _ = some false; exact kit_ty (by decide +kernel)⟩
end
end K11
namespace K11
open PySem PySem.Spec PyProof.Rows L2 OF
section
variable {P : Program} {w : World} {K : PySem.W.Frag} {mg : Str → Option Value} {base : Heap}

theorem iteAndN {c k : Bool} {ta : TE} {σ : L2.St} {H : Hp} {Q : VK} (hA : Q (.bl k) H → c = true → tNotV ta σ H Q) (e : c = false → k = false) (h : Q (.bl k) H) : if c = true then tNotV ta σ H Q else Q (.bl false) H := by
  cases c with
  | true => exact iteT (hA h rfl)
  | false =>
    rw [e rfl] at h
    exact iteF h
/-- what may stand right -/
def BesideOf (ns : List Int) (z : V) : Prop := z = .non ∨ ∃ y, y ∈ ns ∧ z = .int y
theorem BesideOf.item {ns : List Int} {z : V} {H : Hp} (h : BesideOf ns z) : ItemOk H z := by
  rcases h with rfl | ⟨y, _, rfl⟩
  · exact .inr .non
  · exact .inl ⟨y, rfl⟩
theorem BesideOf.right {b : Int} {ns : List Int} {ps : List (Int × Int)} {z : V} (G : Good b ns ps) (h : BesideOf ns z) : rightB ns z = true := by
  rcases h with rfl | ⟨y, hy, rfl⟩
  · rfl
  · show isOne ns y = true
    unfold isOne
    rw [G.dg y hy, decide_eq_true hy]
    rfl
theorem BesideOf.ls {ns : List Int} {z : V} (h : BesideOf ns z) : z = .non ∨ ∃ y : Int, z = .int y := h.imp id fun ⟨y, _, e⟩ => ⟨y, e⟩
theorem plc_law' {b n : Int} {ns : List Int} {ps : List (Int × Int)} {L : List (Addr × (Int × Int))} {z : V} (G : Good b ns ps) (eL : L.map (·.2) = ps) (hz : BesideOf ns z) : plc b (ns.filter fun d => jdg ns L (.int d) z) n = plcL b ns ps n z := by
  subst eL
  exact plc_law G rfl hz
section
variable {C CN CI CU s : Addr} {H : Hp} {b n : Int} {ns : List Int} {ps : List (Int × Int)} {x y z : V} {Q : VK} {E : XK}
theorem len60 {b : Int} {ns : List Int} {ps : List (Int × Int)} (G : Good b ns ps) : ns.length ≤ 60 := Nat.le_trans G.six (by decide)
theorem told_places (S : SchOf C H s b ns ps) (G : Good b ns ps) (hz : BesideOf ns z) (q : ∀ l L H', Same H H' → H' l = some (.lst [.str "places", .ref L]) → PlacesAt H' L (plcL b ns ps n z) → Q (.ref l) H') : spTold C [.ref s, .int n, z] H Q E := by
  obtain ⟨t, r, L, e, S⟩ := S
  obtain ⟨b0, b6⟩ := fdiv_ok G.b
  refine ⟨.ref s, .int n, z, rfl, .inr ⟨s, t, r, b, ns, L, rfl, S, len60 G, b0, b6, .inr ⟨n, rfl, hz.item, fun _ l L' H' s' e' pl => ?_, fun h => ?_⟩⟩⟩
  · rw [plc_law' G e hz] at pl
    exact q l L' H' s' e' pl
  · rw [hz.right G] at h
    cases h
theorem told_scheme (o : Odd H x) (q : ∀ l H', Same H H' → H' l = some (.lst [.str "scheme", x, .bl true]) → Q (.ref l) H') : spTold C [x, y, z] H Q E := ⟨x, y, z, rfl, .inl ⟨o, q⟩⟩
theorem told_number (S : SchOf C H s b ns ps) (G : Good b ns ps) (o : Odd H y) (q : ∀ l H', Same H H' → H' l = some (.lst [.str "number", y]) → Q (.ref l) H') : spTold C [.ref s, y, z] H Q E := by
  obtain ⟨t, r, L, e, S⟩ := S
  obtain ⟨b0, b6⟩ := fdiv_ok G.b
  exact ⟨.ref s, y, z, rfl, .inr ⟨s, t, r, b, ns, L, rfl, S, len60 G, b0, b6, .inl ⟨o, q⟩⟩⟩
theorem told_digit (S : SchOf C H s b ns ps) (G : Good b ns ps) (hz : ItemOk H z) (hr : rightB ns z = false) (q : ∀ l H', Same H H' → H' l = some (.lst [.str "digit", z]) → Q (.ref l) H') : spTold C [.ref s, .int n, z] H Q E := by
  obtain ⟨t, r, L, e, S⟩ := S
  obtain ⟨b0, b6⟩ := fdiv_ok G.b
  exact ⟨.ref s, .int n, z, rfl, .inr ⟨s, t, r, b, ns, L, rfl, S, len60 G, b0, b6, .inr ⟨n, rfl, hz, (fun h => by rw [hr] at h; cases h), fun _ => q⟩⟩⟩
theorem steps_of (S : SchOf C H s b ns ps) (G : Good b ns ps) (hz : BesideOf ns z) (q : ∀ L H', Same H H' → H L = none → PlacesAt H' L (plcL b ns ps n z) → Q (.ref L) H') : spSteps C CN CI CU [.ref s, .int n, z] H Q E := by
  obtain ⟨t, r, L, e, S⟩ := S
  obtain ⟨b0, b6⟩ := fdiv_ok G.b
  refine ⟨.ref s, .int n, z, rfl, .inr ⟨s, t, r, b, ns, L, rfl, S, len60 G, b0, b6, .inr ⟨n, rfl, hz.item, fun _ L' H' s' e' pl => ?_, fun h => ?_⟩⟩⟩
  · rw [plc_law' G e hz] at pl
    exact q L' H' s' e' pl
  · rw [hz.right G] at h
    cases h
theorem core_of {m : Int} (S : SchOf C H s b ns ps) (G : Good b ns ps) (hm : IsMx ns m) (q : ∀ H', Same H H' → Q (.int (m / (mA b - 1))) H') : spCore C CN [.ref s] H Q E := by
  obtain ⟨t, r, L, e, S⟩ := S
  have h6 := mA_cases G.b
  exact ⟨.ref s, rfl, .inr ⟨s, t, r, b, ns, L, rfl, S, len60 G, G.one, by omega, by omega, fun m' H' hm' s' => by rw [hm'.one hm]; exact q H' s'⟩⟩
theorem lsteps_of {m dl pl pt : Addr} {ks : List (Addr × (Int × Int))} (M : ModAt H m dl pl b ns ks) (G : Good b ns (ks.map (·.2))) (ep : H pt = some (.tup [.int n, z])) (hz : BesideOf ns z) (q : ∀ L H', Same H H' → H L = none → PlacesAt H' L (plcL b ns (ks.map (·.2)) n z) → Q (.ref L) H') : spLSteps [.ref m, .ref pt] H Q E :=
  ⟨m, dl, pl, pt, b, n, ns, ks, z, rfl, M, G, ep, hz.ls, q⟩
end
theorem pl2_shaped (z : Str) (ps : List (Int × Int)) (hz : PyData.strOk z = true) : SeqAt.shaped (.list [.str z, plD ps]) = true := by
  obtain ⟨h1, h2⟩ := bars_can (ps.map fun p => ((0 : Addr), p))
  have e2 : ((ps.map fun p => ((0 : Addr), p)).map fun p => pd2 p.2) = ps.map pd2 := by rw [List.map_map]; rfl
  rw [e2] at h1 h2
  refine shaped_of ?_ ?_
  · simp only [PyData.canLay0, PyData.canLayAll0, plD, h1, hz, Bool.and_true]
  · simp only [PyData.depth, PyData.depthAll, plD]
    omega
def spRight : Sp := fun vs H Q _ => ∃ a : Addr, vs = [.ref a] ∧ Box 0 H a ∧ ∀ H', But a H H' → Q (.bl true) H'
abbrev nRi : List Str := ["_law_box_here", "_law_model", "_law_house", "_law_remains", "_law_beside", "_law_digit", "_law_most", "_law_due", "_law_told_here", "_law_new", "_law_odd", "_law_unknown", "_law_wrong"]
theorem scR : FnScope nRi ["_law_box_here"] (defScope sRight) := ⟨rfl, rfl, rfl, by decide +kernel, rfl, by decide +kernel, by decide +kernel⟩
set_option maxHeartbeats 40000000 in
theorem ok_right {f fT fD fM fN fL fC fO fS fE fR C CN CI CU : Addr} {fd fdT fdD fdM fdN fdL fdC fdO fdS fdE fdR : FuncData} (F : Fun K "_law_right" "_law_right" sRight f fd)
    (FT : Fun K "_law_take" "_law_take" sTake fT fdT) (gT : mg "_law_take" = some (.ref fT)) (bT : Binds K fdT ["_law_box_here", "_law_many"] [])
    (GD : FnOk P w K mg base CX0 3 fD fdD ["_law_box_here"] spScheme) (gD : mg "_law_scheme" = some (.ref fD)) (kD : PySem.W.keepIn K (.ref fD) = true) (bD : Binds K fdD ["_law_box_here"] [])
    (GM : FnOk P w K mg base CX0 9 fM fdM ["_law_model"] (spMade C)) (gM : mg "_law_made" = some (.ref fM)) (kM : PySem.W.keepIn K (.ref fM) = true) (bM : Binds K fdM ["_law_model"] [])
    (GN : FnOk P w K mg base CX0 2 fN fdN ["_law_box_here"] spNumber) (gN : mg "_law_number" = some (.ref fN)) (kN : PySem.W.keepIn K (.ref fN) = true) (bN : Binds K fdN ["_law_box_here"] [])
    (GL : FnOk P w K mg base CX0 3 fL fdL ["_law_model", "_law_place"] spLSteps) (gL : mg "_law_steps" = some (.ref fL)) (kL : PySem.W.keepIn K (.ref fL) = true) (bL : Binds K fdL ["_law_model", "_law_place"] [])
    (GC : FnOk P w K mg base (L2.CX P w) 6 fC fdC ["scheme"] (spCore C CN)) (gC : mg "core" = some (.ref fC)) (kC : PySem.W.keepIn K (.ref fC) = true) (bC : Binds K fdC ["scheme"] [])
    (GO : FnOk P w K mg base CX0 9 fO fdO ["_law_house", "_law_remains", "_law_beside"] (spTold C)) (gO : mg "_law_told" = some (.ref fO)) (kO : PySem.W.keepIn K (.ref fO) = true) (bO : Binds K fdO ["_law_house", "_law_remains", "_law_beside"] [])
    (FS : FunD K "steps" "steps" (defArgs sSteps) (defBody sSteps) (defScope sSteps) [.non] [] fS fdS) (GS : FnOk P w K mg base (L2.CX P w) 8 fS fdS ["scheme", "rest", "right"] (spSteps C CN CI CU)) (gS : mg "steps" = some (.ref fS))
    (GE : FnOk P w K mg base CX0 1 fE fdE ["_law_model"] spNames) (gE : mg "_law_names" = some (.ref fE)) (kE : PySem.W.keepIn K (.ref fE) = true) (bE : Binds K fdE ["_law_model"] [])
    (GR : FnOk P w K mg base CX0 7 fR fdR ["_law_value"] (spRef K)) (gR : mg "_law_refused" = some (.ref fR)) (kR : PySem.W.keepIn K (.ref fR) = true) (bR : Binds K fdR ["_law_value"] [])
    (mi : mg "int" = none) (mr : mg "range" = none) (mis : mg "isinstance" = none) (mrp : mg "repr" = none) (ml : mg "len" = none) (mls : mg "list" = none) (mb : mg "bool" = none) (ma : mg "abs" = none) (mm : mg "max" = none) :
    FnG P w K mg base 10 f fd ["_law_box_here"] spRight := by
  obtain ⟨dS, vS2, bS2⟩ := stBinds2 FS
  obtain ⟨iS, kS⟩ := stBindsK FS
  refine okG F scR (fun vs H Q E h => ?_) (fun cdv A outer s H vs Q E gu hr h => ?_)
  · obtain ⟨a, rfl, _⟩ := h
    rfl
  · obtain ⟨a, rfl, hB, q⟩ := h
    have GT : FnOk P w K mg base CX0 1 fT fdT ["_law_box_here", "_law_many"] spTake := ok_take FT mi
    have hr1 : Room 1 _ := hr.mono (by decide)
    have hr2 : Room 2 _ := hr.mono (by decide)
    have hr3 : Room 3 _ := hr.mono (by decide)
    have hr6 : Room 6 _ := hr.mono (by decide)
    have hr7 : Room 7 _ := hr.mono (by decide)
    have hr8 : Room 8 _ := hr.mono (by decide)
    apply Exists.intro
    apply And.intro
    · apply pss_cons
      · exact ps_set (i := 1) scR.nd rfl (.inr rfl) (pe_call GD hr3 (by rfl) gD kD bD .nil pass0 (pa_cons (pv 0) pa_nil))
      apply pss_cons
      · exact ps_par (i := 2) (j := 3) rfl scR.nd rfl rfl (by decide) rfl rfl (pa_cons (pe_call GM hr (by rfl) gM kM bM .nil pass0 (pa_cons (pv 1) pa_nil)) (pa_cons (pe_call GN hr2 (by rfl) gN kN bN .nil pass0 (pa_cons (pv 0) pa_nil)) pa_nil)) (by rfl)
      apply pss_cons
      · exact ps_set (i := 4) scR.nd rfl (.inl rfl) (pe_ix ix_list (pe_op op_cat (pe_lst (pa_cons pe_non pa_nil)) (pe_ix ix_list (pv 1) pe_int (fun _ _ => rfl))) (pe_call GT hr1 (by rfl) gT FT.kp bT .nil pass0 (pa_cons (pv 0) (pa_cons (pe_op op_add pe_int (pe_callB call_len_seq (by rfl) ml PySem.boot_len (pa_cons (pe_ix ix_list (pv 1) pe_int (fun _ _ => rfl)) pa_nil))) pa_nil))) (fun _ _ => rfl))
      apply pss_cons
      · exact ps_set (i := 6) scR.nd rfl (.inl rfl) (pe_op op_fdiv (pe_callB (cr_max rfl) (by rfl) mm PyProof.Rows.boot_max (pa_cons (pe_lc (own := [("_law_digit", 5)]) (g := gName 5) (tt := tYes) rfl scR.nd (pi_list (pe_ix ix_list (pv 1) pe_int (fun _ _ => rfl))) (blkOk_by (own := [("_law_digit", 5)]) (N := nRi) (sc := defScope sRight) (by decide +kernel)) (fun _ _ _ _ _ => pg_name (i := 5) scR.nd rfl (Or.inl rfl)) (fun _ _ _ _ _ => pts_nil) (fun _ _ _ _ _ => by exact (pe_callB call_abs (by rfl) ma (by decide +kernel) (pa_cons (pv 5) pa_nil)))) pa_nil)) (pe_op op_sub (pe_callB call_abs (by rfl) ma (by decide +kernel) (pa_cons (pe_ix ix_list (pv 1) pe_int (fun _ _ => rfl)) pa_nil)) pe_int))
      apply pss_cons
      · exact ps_set (i := 7) scR.nd rfl (.inl rfl) (pe_call GL hr3 (by rfl) gL kL bL .nil pass0 (pa_cons (pv 1) (pa_cons (pe_tup (pa_cons (pv 3) (pa_cons (pv 4) pa_nil))) pa_nil)))
      apply pss_cons
      · exact ps_if (PW.pt (pw_or (pt_cmpR op_ne (pe_call GC hr6 (by rfl) gC kC bC .nil passNo (pa_cons (pv 2) pa_nil)) (pv 6) (nomark _)) (pw_or (pt_val (pe_callB call_isi (by rfl) mis PyProof.Rows.boot_isinstance (pa_cons (pe_call GC hr6 (by rfl) gC kC bC .nil passNo (pa_cons (pv 2) pa_nil)) (pa_cons (pe_bltn (v := .ty "bool") (by rfl) mb PyProof.Rows.boot_bool rfl) pa_nil)))) (pw_or1 (pt_cmpR (op_neD hr.units) (pe_call GO hr (by rfl) gO kO bO .nil pass0 (pa_cons (pv 2) (pa_cons (pv 3) (pa_cons (pv 4) pa_nil)))) (pe_lst (pa_cons pe_str (pa_cons (pv 7) pa_nil))) (nomark _)))))) (pss_one (ps_ret pe_bl)) pss_nil
      apply pss_cons
      · exact ps_set (i := 8) scR.nd rfl (.inl rfl) (pe_callN0 GS hr8 (by rfl) gS FS.kp kS passNo (pk_cons (pv 4) (pk_cons (pv 2) (pk_cons (pv 3) pk_nil))))
      apply pss_cons
      · exact ps_if (PW.pt (pw_or (pt_cmpR op_ne (pe_callB (call_reprD gu hr.units) (by rfl) mrp PyProof.Rows.boot_repr (pa_cons (pv 8) pa_nil)) (pe_callB (call_reprD gu hr.units) (by rfl) mrp PyProof.Rows.boot_repr (pa_cons (pv 7) pa_nil)) (nomark _)) (pw_or1 (pt_cmpR op_ne (pe_callB (call_reprD gu hr.units) (by rfl) mrp PyProof.Rows.boot_repr (pa_cons (pe_call GS hr8 (by rfl) gS FS.kp bS2 vS2 passNo (pa_cons (pv 2) (pa_cons (pv 3) pa_nil))) pa_nil)) (pe_callB (call_reprD gu hr.units) (by rfl) mrp PyProof.Rows.boot_repr (pa_cons (pe_call GL hr3 (by rfl) gL kL bL .nil pass0 (pa_cons (pv 1) (pa_cons (pe_tup (pa_cons (pv 3) (pa_cons pe_non pa_nil))) pa_nil))) pa_nil)) (nomark _))))) (pss_one (ps_ret pe_bl)) pss_nil
      apply pss_cons
      · exact ps_for PassesOwn.never rfl (pi_list (pv 8)) (pg_tup rfl (pgs_cons (pg_name (i := 9) scR.nd rfl (.inl rfl)) (pgs_cons (pg_name (i := 5) scR.nd rfl (.inl rfl)) pgs_nil))) (pss_one (ps_if (PW.pt (pw_or (PW.pt (pw_and (pt_cmpR op_gt (pe_callB call_abs (by rfl) ma (by decide +kernel) (pa_cons (pv 3) pa_nil)) (pv 6) (nomark _)) (pw_and1 (pt_cmpR op_ge (pe_callB call_abs (by rfl) ma (by decide +kernel) (pa_cons (pv 9) pa_nil)) (pe_callB call_abs (by rfl) ma (by decide +kernel) (pa_cons (pv 3) pa_nil)) (nomark _))))) (pw_or1 (PW.pt (pw_and (pt_cmpR op_le (pe_callB call_abs (by rfl) ma (by decide +kernel) (pa_cons (pv 3) pa_nil)) (pv 6) (nomark _)) (pw_and1 (pt_cmpR op_gt (pe_callB call_abs (by rfl) ma (by decide +kernel) (pa_cons (pv 9) pa_nil)) (pv 6) (nomark _)))))))) (pss_one (ps_ret pe_bl)) pss_nil))
      apply pss_cons
      · exact ps_expr (pe_bm PySem.F.plainAttrs_list PySem.F.slot_list_append PySem.F.type_list_append mt_append (pv 8) (pa_cons (pe_tup (pa_cons pe_int (pa_cons pe_int pa_nil))) pa_nil))
      apply pss_cons
      · exact ps_set (i := 10) scR.nd rfl (.inl rfl) (pe_ix ix_list (pe_lst (pa_cons pe_non (pa_cons pe_bl (pa_cons pe_str (pa_cons (pe_lst (pa_cons (pv 3) pa_nil)) (pa_cons (pe_tup (pa_cons (pv 3) (pa_cons (pv 4) pa_nil))) (pa_cons pe_dnewK pa_nil))))))) (pe_call GT hr1 (by rfl) gT FT.kp bT .nil pass0 (pa_cons (pv 0) (pa_cons pe_int pa_nil))) (fun _ _ => rfl))
      apply pss_cons
      · exact ps_setLc (i := 11) (own := [("_law_digit", 5)]) (g := gName 5) (tt := tTest (tOp (rIn K true) (tCB (rReprD K) (tCons (tVar 5) tNil)) (tCall spNames [] E0 (tCons (tVar 1) tNil)))) (te := tVar 5) rfl scR.nd rfl rfl (sw_true rfl rfl rfl (by decide +kernel)) (pi_list (pe_op op_cat (pe_listRg rfl (by rfl) mls (prg_2 (by rfl) mr (pe_un un_neg pe_int) pe_int)) (pe_lst (pa_cons pe_bl (pa_cons pe_str (pa_cons (pe_tup (pa_cons pe_int pa_nil)) (pa_cons pe_int pa_nil))))))) (blkOk_by (own := [("_law_digit", 5)]) (N := nRi) (sc := defScope sRight) (by decide +kernel)) (fun _ _ _ _ _ => pg_name (i := 5) scR.nd rfl (Or.inl rfl)) (fun _ _ _ _ _ => by exact (pts_one (pt_cmpR op_notIn_seq (pe_callB (call_reprD gu hr.units) (by rfl) mrp PyProof.Rows.boot_repr (pa_cons (pv 5) pa_nil)) (pe_call GE hr1 (by rfl) gE kE bE .nil pass0 (pa_cons (pv 1) pa_nil)) rfl))) (fun _ _ _ _ _ => by exact (pv 5))
      apply pss_cons
      · exact ps_set (i := 12) scR.nd rfl (.inl rfl) (pe_ix ix_list (pv 11) (pe_call GT hr1 (by rfl) gT FT.kp bT .nil pass0 (pa_cons (pv 0) (pa_cons (pe_callB call_len_seq (by rfl) ml PySem.boot_len (pa_cons (pv 11) pa_nil)) pa_nil))) (fun _ _ => rfl))
      apply pss_cons
      · exact ps_if (PW.pt (pw_or (pt_cmpR op_ne (pe_callB (call_reprL gu hr.units) (by rfl) mrp PyProof.Rows.boot_repr (pa_cons (pe_call GO hr (by rfl) gO kO bO .nil pass0 (pa_cons (pv 10) (pa_cons (pv 10) (pa_cons (pv 10) pa_nil)))) pa_nil)) (pe_callB (call_reprL gu hr.units) (by rfl) mrp PyProof.Rows.boot_repr (pa_cons (pe_lst (pa_cons pe_str (pa_cons (pv 10) (pa_cons pe_bl pa_nil)))) pa_nil)) (nomark _)) (pw_or1 (pt_not (pt_val (pe_call GR hr7 (by rfl) gR kR bR .nil pass0 (pa_cons (pv 10) pa_nil))))))) (pss_one (ps_ret pe_bl)) pss_nil
      apply pss_cons
      · exact ps_if (pt_cmpR op_ne (pe_callB (call_reprL gu hr.units) (by rfl) mrp PyProof.Rows.boot_repr (pa_cons (pe_call GO hr (by rfl) gO kO bO .nil pass0 (pa_cons (pv 2) (pa_cons (pv 10) (pa_cons (pv 12) pa_nil)))) pa_nil)) (pe_callB (call_reprL gu hr.units) (by rfl) mrp PyProof.Rows.boot_repr (pa_cons (pe_lst (pa_cons pe_str (pa_cons (pv 10) pa_nil))) pa_nil)) (nomark _)) (pss_one (ps_ret pe_bl)) pss_nil
      apply pss_one
      · exact ps_ret (pe_and (pe_cmpR op_eq (pe_callB (call_reprL gu hr.units) (by rfl) mrp PyProof.Rows.boot_repr (pa_cons (pe_call GO hr (by rfl) gO kO bO .nil pass0 (pa_cons (pv 2) (pa_cons (pv 3) (pa_cons (pv 12) pa_nil)))) pa_nil)) (pe_callB (call_reprL gu hr.units) (by rfl) mrp PyProof.Rows.boot_repr (pa_cons (pe_lst (pa_cons pe_str (pa_cons (pv 12) pa_nil))) pa_nil)) (nomark _)) (pe_one (pe_cmpR (op_eqD hr.units) (pe_call GS hr8 (by rfl) gS FS.kp (stBinds FS) .nil passNo (pa_cons (pv 2) (pa_cons (pv 3) (pa_cons (pv 4) pa_nil)))) (pv 7) (nomark _))))
    -- the scheme, a number
    refine ⟨.ref a, rfl, a, 0, rfl, hB, by decide, fun m b ns ps H1 t1 B1 G Mo => ?_⟩
    obtain ⟨dl, pl, ks, ek, MM⟩ := Mo
    subst ek
    refine ⟨.ref m, rfl, m, dl, pl, b, ns, ks, rfl, MM H1 (But.refl), G, fun sa t0 r0 L0 H2 s2 S0 eL0 => ?_⟩
    have S : SchOf C H2 sa b ns (ks.map (·.2)) := ⟨t0, r0, L0, eL0, S0⟩
    clear S0 eL0
    have T2 := t1.trans (But.of_same s2)
    have B2 := B1.same s2
    refine ⟨.ref a, rfl, a, 0 + 100, rfl, B2, by decide, fun n H3 t3 B3 nb => ?_⟩
    refine ⟨.ref sa, .int n, rfl, ?_⟩
    have S := S.stay B2 t3
    have T3 := T2.trans t3
    have M3 : ∀ H', But a H3 H' → ModAt H' m dl pl b ns ks := fun H' t' => MM H' ((But.of_same s2).trans (t3.trans t'))
    clear MM
    -- what stands right
    refine ⟨(by show 1 ≤ sizeLine; decide), fun l1 hl1 => ?_⟩
    have q1 := same_new (o := .lst [.non]) hl1
    have e1 : (upd H3 l1 (.lst [.non])) l1 = some (.lst [.non]) := upd_same
    generalize upd H3 l1 (.lst [.non]) = H4 at q1 e1 ⊢
    have M4 := M3 H4 (But.of_same q1)
    refine ⟨.ref m, rfl, m, _, 1, .ref dl, rfl, rfl, SqL.of M4.mo, atI_nat (j := 1) rfl, l1, dl, [.non], ns.map V.int, rfl, rfl, e1, M4.di, (by rw [List.length_map, sizeLine_eq]; have := G.six; show 1 + ns.length ≤ _; omega), fun l2 hl2 => ?_⟩
    have q2 := same_new (o := .lst ([.non] ++ ns.map V.int)) hl2
    have e2 : (upd H4 l2 (.lst ([.non] ++ ns.map V.int))) l2 = some (.lst ([.non] ++ ns.map V.int)) := upd_same
    have nl2 : l2 ≠ a := (B3.same q1).ne hl2
    generalize upd H4 l2 (.lst ([.non] ++ ns.map V.int)) = H5 at q2 e2 ⊢
    have q12 := q1.trans q2
    have M5 := M3 H5 (But.of_same q12)
    have B5 := B3.same q12
    refine ⟨.ref a, rfl, .ref m, rfl, m, _, 1, .ref dl, rfl, rfl, SqL.of M5.mo, atI_nat (j := 1) rfl, dl, _, rfl, .inl (SqL.of M5.di), 1, ((ns.map V.int).length : Int), rfl, rfl, a, 1 + ((ns.map V.int).length : Int), _, rfl, B5, by decide, by omega, (by rw [List.length_map]; have := G.six; exact Nat.lt_of_le_of_lt (by omega : (1 + (ns.length : Int)).natAbs ≤ 7) (by decide)), fun k H6 k0 k1 t6 B6 => ?_⟩
    rw [List.length_map] at k1
    have e2 := t6 _ _ nl2 e2
    obtain ⟨z, gz, hz⟩ : ∃ z, atI ([.non] ++ ns.map V.int) k = some z ∧ BesideOf ns z := by
      obtain ⟨v, hv, mv⟩ := pick (xs := [V.non] ++ ns.map V.int) k0 (by rw [List.length_append, List.length_map]; show k < ((1 + ns.length : Nat) : Int); omega)
      refine ⟨v, hv, ?_⟩
      rcases List.mem_append.mp mv with h | h
      · exact .inl (List.mem_singleton.mp h)
      · obtain ⟨y, hy, rfl⟩ := List.mem_map.mp h
        exact .inr ⟨y, hy, rfl⟩
    refine ⟨l2, _, k, z, rfl, rfl, SqL.of e2, gz, ?_⟩
    have T6 := T3.trans ((But.of_same q12).trans t6)
    have S := (S.same q12).stay B5 t6
    have M6 : ∀ H', But a H6 H' → ModAt H' m dl pl b ns ks := fun H' t' => M3 H' ((But.of_same q12).trans (t6.trans t'))
    clear M3 M4 M5 q1 q2 q12 e1 e2 gz k0 k1 nl2 B5 B3 B2 B1 hl1 hl2 t1 s2 t3 T2 T3
    -- the core
    have MA := M6 H6 (But.refl)
    refine ⟨.ref m, rfl, m, _, 1, .ref dl, rfl, rfl, SqL.of MA.mo, atI_nat (j := 1) rfl, dl, rfl, ⟨_, SqL.of MA.di⟩, fun D hD => ?_⟩
    refine lc_list (K := K) (a := dl) (xs := ns.map V.int) (fun i H' => Same H6 H' ∧ H' D = some (.lst (((ns.take i).map mA).map V.int))) ⟨same_new hD, upd_same⟩ (fun i H' _ h => SqL.of (h.1 _ _ MA.di)) ?_ ?_
    · rintro i x H' hx ⟨s1, e1⟩
      obtain ⟨d, hd, rfl⟩ := get_map hx
      refine ⟨rfl, tYes_if ⟨.int d, rfl, d, rfl, _, e1, ?_, Same.store s1 hD, ?_⟩⟩
      · rw [List.length_map, List.length_map]
        have := G.six
        exact Nat.lt_of_le_of_lt (List.length_take_le' _ _) (small1000 (by omega))
      · rw [upd_same, take_more hd, List.map_append, List.map_append]
        rfl
    rintro H7 ⟨s7, e7⟩
    rw [List.length_map, List.take_length] at e7
    have M7 := MA.same s7
    refine ⟨D, ns.map mA, rfl, SqL.of e7, by rw [List.length_map]; have := G.one; omega, fun mx hm1 hm2 => ?_⟩
    have hmx : IsMx ns mx := ⟨hm1, hm2⟩
    have mc := mA_cases G.b
    refine ⟨.ref m, rfl, m, _, 0, .int b, rfl, rfl, SqL.of M7.mo, atI_nat (j := 0) rfl, b, rfl, mA b, 1, rfl, rfl, mx, mA b - 1, rfl, rfl, ⟨by omega, by omega⟩, ?_⟩
    have S := S.same s7
    have T7 := T6.trans (But.of_same s7)
    have B7 := B6.same s7
    have M7 : ∀ H', But a H7 H' → ModAt H' m dl pl b ns ks := fun H' t' => M6 H' ((But.of_same s7).trans t')
    clear M6 MA e7 s7 T6 t6 B6 hD
    -- what is due
    refine ⟨.ref m, rfl, .int n, rfl, z, rfl, (by show 2 ≤ sizeLine; decide), fun pt hpt => ?_⟩
    have q1 := same_new (o := .tup [.int n, z]) hpt
    have e1 : (upd H7 pt (.tup [.int n, z])) pt = some (.tup [.int n, z]) := upd_same
    generalize upd H7 pt (.tup [.int n, z]) = H8 at q1 e1 ⊢
    dsimp only [tNil]
    refine lsteps_of (M7 H8 (But.of_same q1)) G e1 hz fun due H9 s9 hdue PD => ?_
    have nd : due ≠ a := (B7.same q1).ne hdue
    have S := S.same (q1.trans s9)
    have T9 := T7.trans (But.of_same (q1.trans s9))
    have B9 := B7.same (q1.trans s9)
    have M9 : ∀ H', But a H9 H' → ModAt H' m dl pl b ns ks := fun H' t' => M7 H' ((But.of_same (q1.trans s9)).trans t')
    clear M7 q1 e1 s9 hdue hpt T7 B7
    have pnum := plcL_num (z := z) G nb
    have plen : (plcL b ns (ks.map (·.2)) n z).length ≤ 6 := plcL_len G.six
    -- core, the places
    obtain ⟨tk, tyk, kk⟩ := is_int_kit (K := K) (H := H9) (mx / (mA b - 1))
    refine ⟨.ref sa, rfl, ?_⟩
    dsimp only [tNil]
    refine core_of S G hmx fun H10 s10 => ?_
    refine ⟨_, rfl, rfl, _, rfl, iteFB (neSame rfl) ⟨.ref sa, rfl, ?_⟩⟩
    dsimp only [tNil]
    refine core_of (S.same s10) G hmx fun H11 s11 => ?_
    obtain ⟨tk, tyk, kk⟩ := is_int_kit (K := K) (H := H11) (mx / (mA b - 1))
    refine ⟨_, .ty "bool", tk, .type "bool", _, rfl, .ty _, tyk, kk, _, rfl, iteF ⟨.ref sa, rfl, .int n, rfl, z, rfl, ?_⟩⟩
    have s91 := s10.trans s11
    dsimp only [tNil]
    refine told_places (S.same s91) G hz fun l LL H12 s12 el pl => ?_
    have s9c := s91.trans s12
    have shP : SeqAt.shaped (.list [.str "places", plD (plcL b ns (ks.map (·.2)) n z)]) = true := pl2_shaped _ _ (by decide +kernel)
    refine ⟨.ref due, rfl, (by show 2 ≤ sizeLine; decide), fun l2 hl2 => ?_⟩
    have q1 := same_new (o := .lst [.str "places", .ref due]) hl2
    refine ⟨.list [.str "places", plD (plcL b ns (ks.map (·.2)) n z)], .list [.str "places", plD (plcL b ns (ks.map (·.2)) n z)], .lst (SqL.of (q1 _ _ el)) (.cons (.str _) (.cons (pl.same q1).dp .nil)), .lst (SqL.of upd_same) (.cons (.str _) (.cons (PD.same (s9c.trans q1)).dp .nil)), shP, shP, _, rfl, iteFB (by rw [SeqAt.eqv_refl _ (SeqAt.canLay_of_shaped shP)]; rfl) ?_⟩
    have sA := s9c.trans q1
    generalize upd H12 l2 (.lst [.str "places", .ref due]) = HA at q1 sA ⊢
    clear el pl q1 hl2 s9c s12 s91 s10 s11 tyk kk
    -- by names
    refine ⟨z, rfl, .ref sa, rfl, .int n, rfl, rfl, rfl, ?_⟩
    dsimp only [gSt]
    refine steps_of (S.same sA) G hz fun tl HB sB htl PT => ?_
    have f9 := sA.free htl
    have sB9 := sA.trans sB
    clear htl
    obtain ⟨r1, r2, r3⟩ := pl_rp pnum plen
    have pnum0 := plcL_num (z := .non) G nb
    have plen0 : (plcL b ns (ks.map (·.2)) n .non).length ≤ 6 := plcL_len G.six
    obtain ⟨u1, u2, u3⟩ := pl_rp pnum0 plen0
    have dp6 : ∀ {d : PyData}, RpE d → d.depth ≤ 40 := fun h => Nat.le_trans h.dp (by decide)
    refine ⟨.ref tl, rfl, .ref tl, _, rfl, PT.dp, r1, r2, r3.len, dp6 r3, .ref due, rfl, .ref due, _, rfl, (PD.same sB9).dp, r1, r2, r3.len, dp6 r3, rfl, _, rfl, iteFB (neSame rfl) ?_⟩
    refine ⟨.ref sa, rfl, .int n, rfl, ?_⟩
    dsimp only [tNil]
    refine steps_of (S.same sB9) G (.inl rfl) fun t2 HC sC _ PT2 => ?_
    refine ⟨.ref t2, _, rfl, PT2.dp, u1, u2, u3.len, dp6 u3, .ref m, rfl, .int n, rfl, (by show 2 ≤ sizeLine; decide), fun pt hpt => ?_⟩
    have q1 := same_new (o := .tup [.int n, .non]) hpt
    have e1 : (upd HC pt (.tup [.int n, .non])) pt = some (.tup [.int n, .non]) := upd_same
    generalize upd HC pt (.tup [.int n, .non]) = HD at q1 e1 ⊢
    dsimp only [tNil]
    refine lsteps_of (M9 HD (But.of_same (sB9.trans (sC.trans q1)))) G e1 (.inl rfl) fun t3 HE sE _ PT3 => ?_
    refine ⟨.ref t3, _, rfl, PT3.dp, u1, u2, u3.len, dp6 u3, rfl, _, rfl, iteFB (neSame rfl) ?_⟩
    have sBE := sC.trans (q1.trans sE)
    have PTE := PT.same sBE
    have s9E := sB9.trans sBE
    clear PT2 PT3 PT sC q1 sE e1 hpt sB sB9 sA sBE u1 u2 u3 plen0 pnum0
    -- steps lead nearer
    obtain ⟨kk, ekk, el, et⟩ := PTE
    refine ⟨.ref tl, rfl, tl, rfl, ⟨_, SqL.of el⟩, for_list (K := K) (a := tl) (xs := kk.map fun p => V.ref p.1) (fun i σ H' => (∃ v5 v9, σ = [some (.ref a), some (.ref m), some (.ref sa), some (.int n), some z, v5, some (.int (mx / (mA b - 1))), some (.ref due), some (.ref tl), v9, none, none, none]) ∧ H' = HE) ⟨⟨_, _, rfl⟩, rfl⟩ (fun i σ H' _ h => by rw [h.2]; exact SqL.of el) ?_ ?_⟩
    · rintro i x σ H' hx ⟨⟨v5, v9, rfl⟩, rfl⟩
      rw [List.getElem?_map] at hx
      obtain ⟨p, hp, rfl⟩ := Option.map_eq_some_iff.mp hx
      have mp := List.mem_of_getElem? hp
      have mp2 : p.2 ∈ plcL b ns (ks.map (·.2)) n z := by
        rw [← ekk]
        exact List.mem_map.mpr ⟨p, mp, rfl⟩
      obtain ⟨h1, h2, h3⟩ := plcL_mem mp2
      obtain ⟨w1, w2⟩ := step_in G.b (hmx.2 _ (List.mem_map.mpr ⟨p.2.2, h1, rfl⟩)) h2
      rw [← h3] at w1 w2
      refine ⟨p.1, [.int p.2.1, .int p.2.2], rfl, SqT.of (et p mp), rfl, .int p.2.1, [.int p.2.2], rfl, .int p.2.2, [], rfl, rfl, ?_⟩
      refine ⟨.int n, rfl, n, rfl, .int (mx / (mA b - 1)), rfl, mA n, mx / (mA b - 1), rfl, rfl, _, rfl, ite2 (fun c => ?_) (fun c => ?_)⟩
      · have c2 := of_decide_eq_true c
        refine ⟨.int p.2.1, rfl, p.2.1, rfl, .int n, rfl, n, rfl, mA p.2.1, mA n, rfl, rfl, _, rfl, iteFB (decide_eq_false fun z2 => w1 ⟨c2, z2⟩) ?_⟩
        exact ⟨.int n, rfl, n, rfl, .int (mx / (mA b - 1)), rfl, mA n, mx / (mA b - 1), rfl, rfl, _, rfl, iteFB (decide_eq_false (by omega)) ⟨⟨_, _, rfl⟩, rfl⟩⟩
      · have c2 : ¬ mx / (mA b - 1) < mA n := fun z2 => c (decide_eq_true z2)
        refine ⟨.int n, rfl, n, rfl, .int (mx / (mA b - 1)), rfl, mA n, mx / (mA b - 1), rfl, rfl, _, rfl, iteTB (decide_eq_true (by omega)) ?_⟩
        exact ⟨.int p.2.1, rfl, p.2.1, rfl, .int (mx / (mA b - 1)), rfl, mA p.2.1, mx / (mA b - 1), rfl, rfl, _, rfl, iteFB (decide_eq_false fun z2 => w2 ⟨by omega, z2⟩) ⟨⟨_, _, rfl⟩, rfl⟩⟩
    rintro σ H' ⟨⟨v5, v9, rfl⟩, eH⟩
    rw [eH]
    clear eH
    -- the list is spoilt
    refine ⟨.ref tl, rfl, .inl ⟨rfl, _, SqL.of el⟩, (by show 2 ≤ sizeLine; decide), fun tt htt => ?_⟩
    have q1 := same_new (o := .tup [.int 0, .int 0]) htt
    have lk : kk.length ≤ 6 := by
      have e := congrArg List.length ekk
      rw [List.length_map] at e
      omega
    refine ⟨tl, _, _, rfl, rfl, q1 _ _ el, (by rw [List.length_map]; exact small1000 (by omega)), ?_⟩
    have sF := Same.store (o := .lst (kk.map (fun p => V.ref p.1) ++ [.ref tt])) (s9E.trans q1) f9
    generalize upd (upd HE tt (.tup [.int 0, .int 0])) tl (.lst (kk.map (fun p => V.ref p.1) ++ [.ref tt])) = HF at sF ⊢
    clear q1 htt lk el et ekk s9E f9
    have BF := B9.same sF
    have S := S.same sF
    have PD := PD.same sF
    have TF := T9.trans (But.of_same sF)
    have MF : ∀ H', But a HF H' → ModAt H' m dl pl b ns ks := fun H' t' => M9 H' ((But.of_same sF).trans t')
    clear M9 B9 T9 sF
    -- a value of another kind
    refine ⟨.int n, rfl, (by show 1 ≤ sizeLine; decide), fun o1 ho1 => ?_⟩
    have q1 := same_new (o := .lst [.int n]) ho1
    have e1 : (upd HF o1 (.lst [.int n])) o1 = some (.lst [.int n]) := upd_same
    generalize upd HF o1 (.lst [.int n]) = K1 at q1 e1 ⊢
    refine ⟨.int n, rfl, z, rfl, (by show 2 ≤ sizeLine; decide), fun o2 ho2 => ?_⟩
    have q2 := same_new (o := .tup [.int n, z]) ho2
    have e2 : (upd K1 o2 (.tup [.int n, z])) o2 = some (.tup [.int n, z]) := upd_same
    generalize upd K1 o2 (.tup [.int n, z]) = K2 at q2 e2 ⊢
    intro o3 ho3
    have q3 := same_new (o := .dK []) ho3
    have e3 : (upd K2 o3 (.dK [])) o3 = some (.dK []) := upd_same
    generalize upd K2 o3 (.dK []) = K3 at q3 e3 ⊢
    refine ⟨(by show 6 ≤ sizeLine; decide), fun ol hol => ?_⟩
    have q4 := same_new (o := .lst [.non, .bl true, .str "1", .ref o1, .ref o2, .ref o3]) hol
    have e4 : (upd K3 ol (.lst [.non, .bl true, .str "1", .ref o1, .ref o2, .ref o3])) ol = some (.lst [.non, .bl true, .str "1", .ref o1, .ref o2, .ref o3]) := upd_same
    generalize upd K3 ol (.lst [.non, .bl true, .str "1", .ref o1, .ref o2, .ref o3]) = K4 at q4 e4 ⊢
    have e1 := (q2.trans (q3.trans q4)) _ _ e1
    have e2 := (q3.trans q4) _ _ e2
    have e3 := q4 _ _ e3
    have qF := q1.trans (q2.trans (q3.trans q4))
    have BK := BF.same qF
    have nol : ol ≠ a := fun y => by
      obtain ⟨b0, b1, b2, hb0, _⟩ := BK
      rw [y, hb0] at e4
      cases Option.some.inj e4
    have no1 : o1 ≠ a := fun y => by
      obtain ⟨b0, b1, b2, hb0, _⟩ := BK
      rw [y, hb0] at e1
      cases Option.some.inj e1
    have no2 : o2 ≠ a := tup_ne BK e2
    have no3 : o3 ≠ a := fun y => by
      obtain ⟨b0, b1, b2, hb0, _⟩ := BK
      rw [y, hb0] at e3
      cases Option.some.inj e3
    refine ⟨.ref a, rfl, a, 6, _, rfl, BK, by decide, by decide, by decide, fun ko K5 k0 k1 t5 B5 => ?_⟩
    have e1 := t5 _ _ no1 e1
    have e2 := t5 _ _ no2 e2
    have e3 := t5 _ _ no3 e3
    have e4 := t5 _ _ nol e4
    have tF : But a HF K5 := (But.of_same qF).trans t5
    have S := (S.same qF).stay BK t5
    have PD := (PD.same qF).stay nd BK t5
    have T5 := TF.trans tF
    have M5 : ∀ H', But a K5 H' → ModAt H' m dl pl b ns ks := fun H' t' => MF H' (tF.trans t')
    obtain ⟨x, gx, mx_⟩ := pick (xs := [V.non, .bl true, .str "1", .ref o1, .ref o2, .ref o3]) k0 k1
    have nn : Num n := Nat.lt_trans nb (by decide)
    obtain ⟨n1, n2, n3⟩ := num_ok nn
    have OX : ∀ H', But a K5 H' → OddV (cxOf CX0 P w K mg base nRi "_law_right" (defScope sRight) f cdv A outer s H E).nox H' x := fun H' t' => by
      have e1 := t' _ _ no1 e1
      have e2 := t' _ _ no2 e2
      have e3 := t' _ _ no3 e3
      simp only [List.mem_cons, List.not_mem_nil, or_false] at mx_
      rcases mx_ with rfl | rfl | rfl | rfl | rfl | rfl
      · exact OddV.flat (d := .none) .non (fun _ _ => .non) (by decide +kernel) rfl rfl ⟨by decide, by decide +kernel, by decide +kernel⟩
      · exact OddV.flat (d := .bool true) (.bl true) (fun _ _ => .bl true) (by decide +kernel) rfl rfl ⟨by decide, by decide +kernel, by decide +kernel⟩
      · exact OddV.flat (d := .str "1") (.str _) (fun _ _ => .str _) (by decide +kernel) rfl rfl ⟨by decide, by decide +kernel, by decide +kernel⟩
      · refine OddV.flat (d := .list [.int n]) (.lst e1) (fun H' s' => .lst (SqL.of (s' _ _ e1)) (.cons (.int n) .nil)) (by exact shaped_of rfl (by simp only [PyData.depth, PyData.depthAll] <;> omega)) (by simp only [PyData.showable, PyData.showableAll, Bool.and_true]; simpa only [PyData.showable] using n1) rfl ⟨by simp only [PyData.depth, PyData.depthAll] <;> omega, by simp only [PyData.leavesShort, PyData.leavesShortAll, Bool.and_true]; simpa only [PyData.leavesShort] using n2, ?_⟩
        show PyData.weightAll _ ≤ 1000
        simp only [PyData.weightAll]
        omega
      · rcases hz with rfl | ⟨y, hy, rfl⟩
        · refine OddV.flat (d := .tuple [.int n, .none]) (.tup e2) (fun H' s' => .tup (SqT.of (s' _ _ e2)) (.cons (.int n) (.cons .non .nil))) (by exact shaped_of rfl (by simp only [PyData.depth, PyData.depthAll] <;> omega)) (by simp only [PyData.showable, PyData.showableAll, Bool.and_true]; simpa only [PyData.showable] using n1) rfl ⟨by simp only [PyData.depth, PyData.depthAll] <;> omega, by simp only [PyData.leavesShort, PyData.leavesShortAll, Bool.and_true]; simpa only [PyData.leavesShort] using n2, ?_⟩
          show PyData.weightAll [.int n, .none] ≤ 1000
          have w0 : PyData.weight .none = 0 := by rw [PyData.weight.eq_def]
          simp only [PyData.weightAll, w0]
          omega
        · obtain ⟨y1, y2, y3⟩ := num_ok (dig_num (G.dg y hy))
          refine OddV.flat (d := pd2 (n, y)) (.tup e2) (fun H' s' => .tup (SqT.of (s' _ _ e2)) (.cons (.int n) (.cons (.int y) .nil))) (pd2_shaped _) (by simp only [pd2, PyData.showable, PyData.showableAll, Bool.and_true]; simp only [PyData.showable] at n1 y1; rw [n1, y1]; rfl) rfl ⟨by simp only [pd2, PyData.depth, PyData.depthAll] <;> omega, by simp only [pd2, PyData.leavesShort, PyData.leavesShortAll, Bool.and_true]; simp only [PyData.leavesShort] at n2 y2; rw [n2, y2]; rfl, ?_⟩
          show PyData.weightAll [.int n, .int y] ≤ 1000
          simp only [PyData.weightAll]
          omega
      · exact ⟨.dK e3, .inr ⟨o3, rfl, e3⟩, .dict [], fun H' s' => Rp.dct (kvs := []) (s' _ _ e3) (by decide +kernel) (by decide +kernel), by decide +kernel, by decide +kernel, by decide +kernel⟩
    refine ⟨ol, _, ko, x, rfl, rfl, SqL.of e4, gx, ?_⟩
    clear q1 q2 q3 q4 qF e1 e2 e3 e4 MF tF TF t5 BK BF nol no1 no2 no3 mx_ gx ho1 ho2 ho3 hol n1 n2 n3 nn k0 k1
    -- digits that the scheme lacks
    refine ⟨9, rfl, -9, 10, rfl, rfl, ⟨by decide, by decide, by decide, by decide, by decide⟩, fun la hla => ?_⟩
    refine ⟨(by show 1 ≤ sizeLine; decide), fun tq htq => ⟨(by show 4 ≤ sizeLine; decide), fun lb hlb => ?_⟩⟩
    refine ⟨la, lb, rgV (-9) 10, _, rfl, rfl, same_new hlb _ _ (same_new htq _ _ upd_same), upd_same, (by rw [rgV_length]; show 19 + 4 ≤ sizeLine; decide), fun W hW => ?_⟩
    have q1 : Same K5 (upd (upd (upd (upd K5 la (.lst (rgV (-9) 10))) tq (.tup [.int 1])) lb (.lst [.bl true, .str "1", .ref tq, .int 10])) W (.lst (rgV (-9) 10 ++ [.bl true, .str "1", .ref tq, .int 10]))) := (same_new hla).trans ((same_new htq).trans ((same_new hlb).trans (same_new hW)))
    have eq_ : (upd (upd (upd (upd K5 la (.lst (rgV (-9) 10))) tq (.tup [.int 1])) lb (.lst [.bl true, .str "1", .ref tq, .int 10])) W (.lst (rgV (-9) 10 ++ [.bl true, .str "1", .ref tq, .int 10]))) tq = some (.tup [.int 1]) := ((same_new hlb).trans (same_new hW)) _ _ upd_same
    have eW : (upd (upd (upd (upd K5 la (.lst (rgV (-9) 10))) tq (.tup [.int 1])) lb (.lst [.bl true, .str "1", .ref tq, .int 10])) W (.lst (rgV (-9) 10 ++ [.bl true, .str "1", .ref tq, .int 10]))) W = some (.lst (rgV (-9) 10 ++ [.bl true, .str "1", .ref tq, .int 10])) := upd_same
    generalize upd (upd (upd (upd K5 la (.lst (rgV (-9) 10))) tq (.tup [.int 1])) lb (.lst [.bl true, .str "1", .ref tq, .int 10])) W (.lst (rgV (-9) 10 ++ [.bl true, .str "1", .ref tq, .int 10])) = K6 at q1 eq_ eW ⊢
    have ntq : tq ≠ a := tup_ne (B5.same q1) eq_
    have good : ∀ y ∈ rgV (-9) 10 ++ [V.bl true, .str "1", .ref tq, .int 10], ∃ d : PyData, (∀ H', But a K6 H' → Dp K H' y d) ∧ d.showable = true ∧ d.hasDict = false ∧ (d.depth ≤ 5 ∧ d.leavesShort 80 = true ∧ d.weight ≤ 1000) ∧ (∀ H', But a K6 H' → ItemOk H' y) ∧ (rightB ns y = true → ∃ k : Int, y = .int k ∧ k ∈ ns ∧ d = .int k) := fun y hy => by
      rcases List.mem_append.mp hy with h | h
      · rw [rg_ints] at h
        obtain ⟨k, hk, rfl⟩ := List.mem_map.mp h
        obtain ⟨i, hi, rfl⟩ := List.mem_map.mp hk
        have hi2 := List.mem_range.mp hi
        obtain ⟨y1, y2, y3⟩ := num_ok (dig_num (dig_of (k := -9 + (i : Int)) (by omega) (by omega)))
        refine ⟨.int (-9 + (i : Int)), fun _ _ => .int _, y1, rfl, ⟨by simp only [PyData.depth]; omega, y2, by omega⟩, fun _ _ => .inl ⟨_, rfl⟩, fun hr => ⟨_, rfl, ?_, rfl⟩⟩
        have hr2 : isOne ns (-9 + (i : Int)) = true := hr
        unfold isOne at hr2
        rw [Bool.and_eq_true] at hr2
        exact of_decide_eq_true hr2.2
      · simp only [List.mem_cons, List.not_mem_nil, or_false] at h
        rcases h with rfl | rfl | rfl | rfl
        · exact ⟨.bool true, fun _ _ => .bl true, rfl, rfl, ⟨by decide, by decide +kernel, by decide +kernel⟩, fun _ _ => .inr (.bl true), fun h => by cases h⟩
        · exact ⟨.str "1", fun _ _ => .str _, rfl, rfl, ⟨by decide, by decide +kernel, by decide +kernel⟩, fun _ _ => .inr (.str _), fun h => by cases h⟩
        · exact ⟨.tuple [.int 1], fun H' s' => .tup (SqT.of (s' _ _ ntq eq_)) (.cons (.int 1) .nil), by decide +kernel, rfl, ⟨by decide, by decide +kernel, by decide +kernel⟩, fun H' s' => .inr (.tup (s' _ _ ntq eq_)), fun h => by cases h⟩
        · refine ⟨.int 10, fun _ _ => .int _, by decide +kernel, rfl, ⟨by decide, by decide +kernel, by decide +kernel⟩, fun _ _ => .inl ⟨_, rfl⟩, fun h => ?_⟩
          have h2 : (false && decide ((10 : Int) ∈ ns)) = true := h
          cases h2
    have M6 := M5 K6 (But.of_same q1)
    refine ⟨W, rfl, ⟨_, SqL.of eW⟩, fun D hD => ?_⟩
    refine lc_list (K := K) (a := W) (xs := rgV (-9) 10 ++ [V.bl true, .str "1", .ref tq, .int 10]) (fun i H' => Same K6 H' ∧ ∃ ys : List V, H' D = some (.lst ys) ∧ ys.length ≤ i ∧ (19 < i → 1 ≤ ys.length) ∧ ∀ y ∈ ys, y ∈ rgV (-9) 10 ++ [V.bl true, .str "1", .ref tq, .int 10] ∧ rightB ns y = false) ⟨same_new hD, [], upd_same, Nat.le_refl _, (fun h => by omega), fun y h => by cases h⟩ (fun i H' _ h => SqL.of (h.1 _ _ eW)) ?_ ?_
    · rintro i y K7 hy ⟨s7, ys, e7, l7, b7, g7⟩
      have my := List.mem_of_getElem? hy
      have hi : i < 23 := by
        have := (List.getElem?_eq_some_iff.mp hy).1
        rw [List.length_append, rgV_length] at this
        exact this
      obtain ⟨d, hd, d1, d2, d3, _, d4⟩ := good y my
      have rd : RpE d := ⟨by have := d3.1; omega, d3.2.1, by have := d3.2.2; omega⟩
      have M7 := M6.same s7
      refine ⟨rfl, y, rfl, y, d, rfl, hd K7 (But.of_same s7), d1, d2, rd.len, Nat.le_trans rd.dp (by decide), .ref m, rfl, ?_⟩
      dsimp only [tNil]
      refine ⟨m, dl, pl, b, ns, ks, rfl, M7, G, fun NL K8 s8 e8 => ⟨NL, ns.map strI, rfl, .inl (SqL.of e8), rfl, flat_strs ns, _, rfl, ite2 (fun c => ?_) (fun c => ?_)⟩⟩
      · have e78 := s8 _ _ e7
        refine ⟨y, rfl, _, e78, small1000 (by omega), Same.store (s7.trans s8) hD, ys ++ [y], upd_same, ?_, fun _ => ?_, fun y' hy' => ?_⟩
        · rw [List.length_append]
          show ys.length + 1 ≤ i + 1
          omega
        · rw [List.length_append]
          show 1 ≤ ys.length + 1
          omega
        · rcases List.mem_append.mp hy' with h | h
          · exact g7 y' h
          · cases List.mem_singleton.mp h
            refine ⟨my, ?_⟩
            cases hr9 : rightB ns y with
            | false => rfl
            | true =>
              obtain ⟨k, rfl, hk, rfl⟩ := d4 hr9
              have z9 := str_in hk
              have c2 : (if true = true then !inV (.str (PyData.shown (.int k))) (ns.map strI) else inV (.str (PyData.shown (.int k))) (ns.map strI)) = true := c
              rw [if_pos rfl, z9] at c2
              cases c2
      · refine ⟨s7.trans s8, ys, s8 _ _ e7, by omega, fun h => ?_, g7⟩
        by_cases h19 : 19 < i
        · exact b7 h19
        · have : i = 19 := by omega
          subst this
          have ey : y = .bl true := by
            rw [List.getElem?_append_right (by rw [rgV_length]; decide), rgV_length] at hy
            exact (Option.some.inj hy).symm
          subst ey
          exfalso
          have ed : d = .bool true := by
            cases hd K7 (But.of_same s7)
            rfl
          subst ed
          apply c
          show (if true = true then !inV (.str (PyData.shown (.bool true))) (ns.map strI) else inV (.str (PyData.shown (.bool true))) (ns.map strI)) = true
          rw [if_pos rfl, true_out G.dg]
          rfl
    rintro K7 ⟨s7, ys, eU, lU, bU, gU⟩
    have lU2 : ys.length ≤ 23 := by
      rw [List.length_append, rgV_length] at lU
      exact lU
    have bU2 : 1 ≤ ys.length := bU (by rw [List.length_append, rgV_length]; show 19 < 19 + 4; decide)
    have s57 := q1.trans s7
    have B7 := B5.same s57
    have nD : D ≠ a := (B5.same q1).ne hD
    refine ⟨.ref D, rfl, .ref a, rfl, .ref D, rfl, D, _, rfl, .inl (SqL.of eU), a, (ys.length : Int), _, rfl, B7, by decide, by omega, (by rw [Int.natAbs_natCast]; exact Nat.lt_of_le_of_lt lU2 (by decide)), fun ku K8 k0 k1 t8 B8 => ?_⟩
    have eU := t8 _ _ nD eU
    obtain ⟨v, gv, mv⟩ := pick (xs := ys) k0 k1
    refine ⟨D, _, ku, v, rfl, rfl, SqL.of eU, gv, ?_⟩
    obtain ⟨memv, rv⟩ := gU v mv
    obtain ⟨dv, hdv, d1, d2, d3, itv, _⟩ := good v memv
    have tv : But a K6 K8 := (But.of_same s7).trans t8
    have hdv : ∀ H', Same K8 H' → Dp K H' v dv := fun H' s' => hdv H' (tv.trans (But.of_same s'))
    have itv : ∀ H', Same K8 H' → ItemOk H' v := fun H' s' => itv H' (tv.trans (But.of_same s'))
    have rpv : ∀ H', Same K8 H' → Rp (cxOf CX0 P w K mg base nRi "_law_right" (defScope sRight) f cdv A outer s H E).nox H' v dv := fun H' s' => Rp.dp (hdv H' s') d1 d2 (RpE.len ⟨by have := d3.1; omega, d3.2.1, by have := d3.2.2; omega⟩)
    have tK : But a K5 K8 := (But.of_same s57).trans t8
    have OX := OX K8 tK
    have S := (S.same s57).stay B7 t8
    have PD := (PD.same s57).stay nd B7 t8
    have T8 := T5.trans tK
    obtain ⟨ox, se, d, rp, dk⟩ := OX
    clear good M6 M5 gU mv memv tv tK eU gv k0 k1 t8 B8 B7 s57 q1 eq_ eW s7 bU lU ntq nD B5 T5 hD
    -- refused: what is no scheme
    obtain ⟨a1, _, a3, _⟩ := len3 (z := "scheme") (d := d) ⟨by decide +kernel, by decide +kernel⟩ dk
    refine ⟨x, rfl, x, rfl, x, rfl, ?_⟩
    dsimp only [tNil]
    refine told_scheme ox fun l KA s1 el => ?_
    refine ⟨l, _, [.str "scheme", d, .bool true], rfl, SqL.of el, .cons (Rp.dp (.str _) rfl rfl (by decide +kernel)) (.cons (rp _ s1) (.cons (Rp.dp (.bl true) rfl rfl (by decide +kernel)) .nil)), a3, a1, x, rfl, (by show 3 ≤ sizeLine; decide), fun l3 hl3 => ?_⟩
    have s2 := s1.trans (same_new (o := .lst [.str "scheme", x, .bl true]) hl3)
    refine ⟨l3, _, [.str "scheme", d, .bool true], rfl, SqL.of upd_same, .cons (Rp.dp (.str _) rfl rfl (by decide +kernel)) (.cons (rp _ s2) (.cons (Rp.dp (.bl true) rfl rfl (by decide +kernel)) .nil)), a3, a1, rfl, _, rfl, iteFB (neSame rfl) ?_⟩
    generalize upd KA l3 (.lst [.str "scheme", x, .bl true]) = KB at s2 ⊢
    clear el hl3 s1 a1 a3
    refine ⟨x, rfl, ?_⟩
    dsimp only [tNil]
    refine ⟨x, rfl, ox.same s2, se.same s2, fun KC s3 => ⟨true, rfl, iteF ?_⟩⟩
    have s4 := s2.trans s3
    clear s2 s3
    -- refused: what is no number
    obtain ⟨_, a2, _, a4⟩ := len3 (z := "number") (d := d) ⟨by decide +kernel, by decide +kernel⟩ dk
    refine ⟨.ref sa, rfl, x, rfl, v, rfl, ?_⟩
    dsimp only [tNil]
    refine told_number (S.same s4) G (ox.same s4) fun l KD s5 el => ?_
    have s6 := s4.trans s5
    refine ⟨l, _, [.str "number", d], rfl, SqL.of el, .cons (Rp.dp (.str _) rfl rfl (by decide +kernel)) (.cons (rp _ s6) .nil), a4, a2, x, rfl, (by show 2 ≤ sizeLine; decide), fun l3 hl3 => ?_⟩
    have s7 := s6.trans (same_new (o := .lst [.str "number", x]) hl3)
    refine ⟨l3, _, [.str "number", d], rfl, SqL.of upd_same, .cons (Rp.dp (.str _) rfl rfl (by decide +kernel)) (.cons (rp _ s7) .nil), a4, a2, rfl, _, rfl, iteFB (neSame rfl) ?_⟩
    generalize upd KD l3 (.lst [.str "number", x]) = KE_ at s7 ⊢
    clear el hl3 s6 s5 s4 a2 a4
    -- refused: no digit of the scheme
    obtain ⟨_, a2, _, a4⟩ := len3 (z := "digit") (d := dv) ⟨by decide +kernel, by decide +kernel⟩ d3
    refine ⟨.ref sa, rfl, .int n, rfl, v, rfl, ?_⟩
    dsimp only [tNil]
    refine told_digit (S.same s7) G (itv _ s7) rv fun l KF s8 el => ?_
    have s9 := s7.trans s8
    refine ⟨l, _, [.str "digit", dv], rfl, SqL.of el, .cons (Rp.dp (.str _) rfl rfl (by decide +kernel)) (.cons (rpv _ s9) .nil), a4, a2, v, rfl, (by show 2 ≤ sizeLine; decide), fun l3 hl3 => ?_⟩
    have s10 := s9.trans (same_new (o := .lst [.str "digit", v]) hl3)
    refine ⟨l3, _, [.str "digit", dv], rfl, SqL.of upd_same, .cons (Rp.dp (.str _) rfl rfl (by decide +kernel)) (.cons (rpv _ s10) .nil), a4, a2, rfl, _, rfl, iteTB (decide_eq_true rfl) ?_⟩
    generalize upd KF l3 (.lst [.str "digit", v]) = KG at s10 ⊢
    clear el hl3 s9 s8 s7 a2 a4
    refine ⟨.ref sa, rfl, .int n, rfl, z, rfl, ?_⟩
    dsimp only [tNil]
    refine steps_of (S.same s10) G hz fun t5 KZ s11 _ P5 => ?_
    have sZ := s10.trans s11
    refine ⟨.ref due, rfl, plD (plcL b ns (ks.map (·.2)) n z), plD (plcL b ns (ks.map (·.2)) n z), P5.dp, (PD.same sZ).dp, pl_shaped _, pl_shaped _, ?_⟩
    have z1 := q KZ (T8.trans (But.of_same sZ))
    show Q (.bl (PyData.eqv (plD (plcL b ns (ks.map (·.2)) n z)) (plD (plcL b ns (ks.map (·.2)) n z)))) KZ
    rw [SeqAt.eqv_refl _ (SeqAt.canLay_of_shaped (pl_shaped _))]
    exact z1
end
end K11
namespace K11
open PySem PySem.Spec PyProof.Rows L2 OF
section
variable {P : Program} {w : World} {K : PySem.W.Frag} {mg : Str → Option Value} {base : Heap}

/-- no built-in kind is below an own class -/
theorem notK_of {C : Addr} (ty : PySem.W.typeIn K (.ref C) = some (.type "type")) (ic : PySem.W.isClsIn K C = true) : NotK K C := by
  have ic2 : (PySem.W.clsIn K C).isSome = true := ic
  have one : ∀ (T : String) (l : List Value), fastBuiltinMro T = some l → l.contains (.ref C) = false → PySem.W.kitOne K (.type T) (.ref C) = some false := fun T l h hl => by
    unfold PySem.W.kitOne
    split
    · rename_i e
      have e2 : Value.type T = Value.ref C := eq_of_beq e
      cases e2
    · unfold PySem.W.kitCls
      simp only [ty, ic2, beq_self_eq_true, Bool.and_self, if_true]
      show (fastBuiltinMro T).map (·.contains (Value.ref C)) = some false
      rw [h, Option.map_some, hl]
  exact ⟨one "NoneType" _ rfl rfl, one "bool" _ rfl rfl, one "str" _ rfl rfl, one "list" _ rfl rfl, one "tuple" _ rfl rfl, one "dict" _ rfl rfl⟩
theorem exm_off {S D : Addr} (h1 : PySem.W.subIn K (.ref D) (.type "BaseException") = some true) (h2 : PySem.W.isClsIn K D = true) (h3 : PySem.W.typeIn K (.ref D) = some (.type "type")) (h4 : PySem.W.subIn K (.ref S) (.ref D) = some false) (h5 : PySem.W.subIn K (.ref S) (.ref S) = some true) : PySem.W.exmOne K (.ref S) (.ref D) = some false :=
  exm_other h1 h2 h3 h4 fun e => by
    subst e
    rw [h4] at h5
    cases h5
theorem scFig : FnScope ["self", "text"] ["self", "text"] (defScope sFig) := ⟨rfl, rfl, rfl, by decide +kernel, rfl, by decide +kernel, by decide +kernel⟩
theorem ok_fig {f : Addr} {fd : FuncData} (F : Fun K "__init__" "FigureError.__init__" sFig f fd) (mV : mg "ValueError" = none) (vV : PySem.W.findCls K (.type "ValueError") (.type "type") "__init__" = some (.val (.builtin "ValueError.__init__"))) :
    FnOk P w K mg base CX0 1 f fd ["self", "text"] (spFig K) := by
  refine F.ok scFig (fun vs H Q E h => ?_) (fun cdv A outer s H vs Q E hr h => ?_)
  · obtain ⟨a, C, v, nm, rfl, _⟩ := h
    rfl
  · obtain ⟨a, C, v, nm, rfl, T, N, ha, q⟩ := h
    refine ⟨_, pss_cons (ps_expr (pe_veinit (by rfl) mV vV (pa_cons (pv 0) (pa_cons (pv 1) pa_nil)))) (pss_one (ps_ost (pv 0) (pe_cname (pv 0)))), ?_⟩
    exact ⟨.ref a, rfl, v, rfl, a, C, [v], rfl, (by show 1 ≤ 1000; decide), T, ha, .ref a, rfl, a, C, nm, rfl, ha, N, .ref a, rfl, a, C, rfl, T, N.no, .inl ⟨ha, fun d hd nd => q d hd nd⟩⟩
theorem sc_InvalidBase : FnScope ["self", "value"] ["self", "value"] (defScope sInBase) := ⟨rfl, rfl, rfl, by decide +kernel, rfl, by decide +kernel, by decide +kernel⟩
theorem ok_InvalidBase {f f0 C C0 : Addr} {fd fd0 : FuncData} (F : Fun K "__init__" "InvalidBase.__init__" sInBase f fd) (F0 : Fun K "__init__" "FigureError.__init__" sFig f0 fd0) (T0 : FigC K mg C0 f0) (b0 : Binds K fd0 ["self", "text"] []) (T : ErrC K mg "InvalidBase" "value" C f)
    (mV : mg "ValueError" = none) (vV : PySem.W.findCls K (.type "ValueError") (.type "type") "__init__" = some (.val (.builtin "ValueError.__init__"))) :
    FnOk P w K mg base CX0 2 f fd ["self", "value"] (spInit K "value" C) := by
  have G0 : FnOk P w K mg base CX0 1 f0 fd0 ["self", "text"] (spFig K) := ok_fig F0 mV vV
  refine F.ok sc_InvalidBase (fun vs H Q E h => ?_) (fun cdv A outer s H vs Q E hr h => ?_)
  · obtain ⟨a, v, rfl, _⟩ := h
    rfl
  · obtain ⟨a, v, rfl, ha, q⟩ := h
    refine ⟨_, pss_cons (ps_expr (pe_unb G0 hr (by rfl) T0.g T0.rd T0.val T0.kp b0 pass0 (pa_cons (pv 0) (pa_cons pe_str pa_nil)))) (pss_one (ps_ost (pv 0) (pv 1))), ?_⟩
    obtain ⟨nm, N⟩ := T.nam
    refine ⟨.ref a, rfl, a, C, _, nm, rfl, T.ox, N, ha, fun d hd nd => ?_⟩
    refine ⟨v, rfl, .ref a, rfl, a, C, rfl, T.ox, T.no, .inr ⟨d, _, upd_same, by rw [upd_ne nd]; exact upd_same, (by show 1 ≤ 900; decide), ?_⟩⟩
    rw [upd_swap nd]
    exact q _ d hd nd

theorem sc_InvalidDigits : FnScope ["self", "value"] ["self", "value"] (defScope sInDig) := ⟨rfl, rfl, rfl, by decide +kernel, rfl, by decide +kernel, by decide +kernel⟩
theorem ok_InvalidDigits {f f0 C C0 : Addr} {fd fd0 : FuncData} (F : Fun K "__init__" "InvalidDigits.__init__" sInDig f fd) (F0 : Fun K "__init__" "FigureError.__init__" sFig f0 fd0) (T0 : FigC K mg C0 f0) (b0 : Binds K fd0 ["self", "text"] []) (T : ErrC K mg "InvalidDigits" "value" C f)
    (mV : mg "ValueError" = none) (vV : PySem.W.findCls K (.type "ValueError") (.type "type") "__init__" = some (.val (.builtin "ValueError.__init__"))) :
    FnOk P w K mg base CX0 2 f fd ["self", "value"] (spInit K "value" C) := by
  have G0 : FnOk P w K mg base CX0 1 f0 fd0 ["self", "text"] (spFig K) := ok_fig F0 mV vV
  refine F.ok sc_InvalidDigits (fun vs H Q E h => ?_) (fun cdv A outer s H vs Q E hr h => ?_)
  · obtain ⟨a, v, rfl, _⟩ := h
    rfl
  · obtain ⟨a, v, rfl, ha, q⟩ := h
    refine ⟨_, pss_cons (ps_expr (pe_unb G0 hr (by rfl) T0.g T0.rd T0.val T0.kp b0 pass0 (pa_cons (pv 0) (pa_cons pe_str pa_nil)))) (pss_one (ps_ost (pv 0) (pv 1))), ?_⟩
    obtain ⟨nm, N⟩ := T.nam
    refine ⟨.ref a, rfl, a, C, _, nm, rfl, T.ox, N, ha, fun d hd nd => ?_⟩
    refine ⟨v, rfl, .ref a, rfl, a, C, rfl, T.ox, T.no, .inr ⟨d, _, upd_same, by rw [upd_ne nd]; exact upd_same, (by show 1 ≤ 900; decide), ?_⟩⟩
    rw [upd_swap nd]
    exact q _ d hd nd

theorem sc_InvalidBars : FnScope ["self", "value"] ["self", "value"] (defScope sInBars) := ⟨rfl, rfl, rfl, by decide +kernel, rfl, by decide +kernel, by decide +kernel⟩
theorem ok_InvalidBars {f f0 C C0 : Addr} {fd fd0 : FuncData} (F : Fun K "__init__" "InvalidBars.__init__" sInBars f fd) (F0 : Fun K "__init__" "FigureError.__init__" sFig f0 fd0) (T0 : FigC K mg C0 f0) (b0 : Binds K fd0 ["self", "text"] []) (T : ErrC K mg "InvalidBars" "value" C f)
    (mV : mg "ValueError" = none) (vV : PySem.W.findCls K (.type "ValueError") (.type "type") "__init__" = some (.val (.builtin "ValueError.__init__"))) :
    FnOk P w K mg base CX0 2 f fd ["self", "value"] (spInit K "value" C) := by
  have G0 : FnOk P w K mg base CX0 1 f0 fd0 ["self", "text"] (spFig K) := ok_fig F0 mV vV
  refine F.ok sc_InvalidBars (fun vs H Q E h => ?_) (fun cdv A outer s H vs Q E hr h => ?_)
  · obtain ⟨a, v, rfl, _⟩ := h
    rfl
  · obtain ⟨a, v, rfl, ha, q⟩ := h
    refine ⟨_, pss_cons (ps_expr (pe_unb G0 hr (by rfl) T0.g T0.rd T0.val T0.kp b0 pass0 (pa_cons (pv 0) (pa_cons pe_str pa_nil)))) (pss_one (ps_ost (pv 0) (pv 1))), ?_⟩
    obtain ⟨nm, N⟩ := T.nam
    refine ⟨.ref a, rfl, a, C, _, nm, rfl, T.ox, N, ha, fun d hd nd => ?_⟩
    refine ⟨v, rfl, .ref a, rfl, a, C, rfl, T.ox, T.no, .inr ⟨d, _, upd_same, by rw [upd_ne nd]; exact upd_same, (by show 1 ≤ 900; decide), ?_⟩⟩
    rw [upd_swap nd]
    exact q _ d hd nd

theorem sc_NotScheme : FnScope ["self", "value"] ["self", "value"] (defScope sNotS) := ⟨rfl, rfl, rfl, by decide +kernel, rfl, by decide +kernel, by decide +kernel⟩
theorem ok_NotScheme {f f0 C C0 : Addr} {fd fd0 : FuncData} (F : Fun K "__init__" "NotScheme.__init__" sNotS f fd) (F0 : Fun K "__init__" "FigureError.__init__" sFig f0 fd0) (T0 : FigC K mg C0 f0) (b0 : Binds K fd0 ["self", "text"] []) (T : ErrC K mg "NotScheme" "value" C f)
    (mV : mg "ValueError" = none) (vV : PySem.W.findCls K (.type "ValueError") (.type "type") "__init__" = some (.val (.builtin "ValueError.__init__"))) :
    FnOk P w K mg base CX0 2 f fd ["self", "value"] (spInit K "value" C) := by
  have G0 : FnOk P w K mg base CX0 1 f0 fd0 ["self", "text"] (spFig K) := ok_fig F0 mV vV
  refine F.ok sc_NotScheme (fun vs H Q E h => ?_) (fun cdv A outer s H vs Q E hr h => ?_)
  · obtain ⟨a, v, rfl, _⟩ := h
    rfl
  · obtain ⟨a, v, rfl, ha, q⟩ := h
    refine ⟨_, pss_cons (ps_expr (pe_unb G0 hr (by rfl) T0.g T0.rd T0.val T0.kp b0 pass0 (pa_cons (pv 0) (pa_cons pe_str pa_nil)))) (pss_one (ps_ost (pv 0) (pv 1))), ?_⟩
    obtain ⟨nm, N⟩ := T.nam
    refine ⟨.ref a, rfl, a, C, _, nm, rfl, T.ox, N, ha, fun d hd nd => ?_⟩
    refine ⟨v, rfl, .ref a, rfl, a, C, rfl, T.ox, T.no, .inr ⟨d, _, upd_same, by rw [upd_ne nd]; exact upd_same, (by show 1 ≤ 900; decide), ?_⟩⟩
    rw [upd_swap nd]
    exact q _ d hd nd

theorem sc_InvalidNumber : FnScope ["self", "number"] ["self", "number"] (defScope sInNum) := ⟨rfl, rfl, rfl, by decide +kernel, rfl, by decide +kernel, by decide +kernel⟩
theorem ok_InvalidNumber {f f0 C C0 : Addr} {fd fd0 : FuncData} (F : Fun K "__init__" "InvalidNumber.__init__" sInNum f fd) (F0 : Fun K "__init__" "FigureError.__init__" sFig f0 fd0) (T0 : FigC K mg C0 f0) (b0 : Binds K fd0 ["self", "text"] []) (T : ErrC K mg "InvalidNumber" "number" C f)
    (mV : mg "ValueError" = none) (vV : PySem.W.findCls K (.type "ValueError") (.type "type") "__init__" = some (.val (.builtin "ValueError.__init__"))) :
    FnOk P w K mg base CX0 2 f fd ["self", "number"] (spInit K "number" C) := by
  have G0 : FnOk P w K mg base CX0 1 f0 fd0 ["self", "text"] (spFig K) := ok_fig F0 mV vV
  refine F.ok sc_InvalidNumber (fun vs H Q E h => ?_) (fun cdv A outer s H vs Q E hr h => ?_)
  · obtain ⟨a, v, rfl, _⟩ := h
    rfl
  · obtain ⟨a, v, rfl, ha, q⟩ := h
    refine ⟨_, pss_cons (ps_expr (pe_unb G0 hr (by rfl) T0.g T0.rd T0.val T0.kp b0 pass0 (pa_cons (pv 0) (pa_cons pe_str pa_nil)))) (pss_one (ps_ost (pv 0) (pv 1))), ?_⟩
    obtain ⟨nm, N⟩ := T.nam
    refine ⟨.ref a, rfl, a, C, _, nm, rfl, T.ox, N, ha, fun d hd nd => ?_⟩
    refine ⟨v, rfl, .ref a, rfl, a, C, rfl, T.ox, T.no, .inr ⟨d, _, upd_same, by rw [upd_ne nd]; exact upd_same, (by show 1 ≤ 900; decide), ?_⟩⟩
    rw [upd_swap nd]
    exact q _ d hd nd

theorem sc_UnknownDigit : FnScope ["self", "digit"] ["self", "digit"] (defScope sUnk) := ⟨rfl, rfl, rfl, by decide +kernel, rfl, by decide +kernel, by decide +kernel⟩
theorem ok_UnknownDigit {f f0 C C0 : Addr} {fd fd0 : FuncData} (F : Fun K "__init__" "UnknownDigit.__init__" sUnk f fd) (F0 : Fun K "__init__" "FigureError.__init__" sFig f0 fd0) (T0 : FigC K mg C0 f0) (b0 : Binds K fd0 ["self", "text"] []) (T : ErrC K mg "UnknownDigit" "digit" C f)
    (mV : mg "ValueError" = none) (vV : PySem.W.findCls K (.type "ValueError") (.type "type") "__init__" = some (.val (.builtin "ValueError.__init__"))) :
    FnOk P w K mg base CX0 2 f fd ["self", "digit"] (spInit K "digit" C) := by
  have G0 : FnOk P w K mg base CX0 1 f0 fd0 ["self", "text"] (spFig K) := ok_fig F0 mV vV
  refine F.ok sc_UnknownDigit (fun vs H Q E h => ?_) (fun cdv A outer s H vs Q E hr h => ?_)
  · obtain ⟨a, v, rfl, _⟩ := h
    rfl
  · obtain ⟨a, v, rfl, ha, q⟩ := h
    refine ⟨_, pss_cons (ps_expr (pe_unb G0 hr (by rfl) T0.g T0.rd T0.val T0.kp b0 pass0 (pa_cons (pv 0) (pa_cons pe_str pa_nil)))) (pss_one (ps_ost (pv 0) (pv 1))), ?_⟩
    obtain ⟨nm, N⟩ := T.nam
    refine ⟨.ref a, rfl, a, C, _, nm, rfl, T.ox, N, ha, fun d hd nd => ?_⟩
    refine ⟨v, rfl, .ref a, rfl, a, C, rfl, T.ox, T.no, .inr ⟨d, _, upd_same, by rw [upd_ne nd]; exact upd_same, (by show 1 ≤ 900; decide), ?_⟩⟩
    rw [upd_swap nd]
    exact q _ d hd nd


def spLaw (K : PySem.W.Frag) : Sp := fun vs H Q _ => ∃ (a : Addr) (ns : List Int), vs = [.ref a] ∧ SqL K H a (ns.map V.int) ∧ ns.length ≤ 63 ∧ ∀ H', Q (.bl true) H'
theorem scL : FnScope ["_law_script", "_law_k"] ["_law_script"] (defScope sLaw) := ⟨rfl, rfl, rfl, by decide +kernel, rfl, by decide +kernel, by decide +kernel⟩
theorem ok_law {f fC fX fR : Addr} {fd fdC fdX fdR : FuncData} (F : Fun K "law" "law" sLaw f fd)
    (FC : Fun K "_law_cell" "_law_cell" sCell fC fdC) (gC : mg "_law_cell" = some (.ref fC)) (bC : Binds K fdC ["_law_script", "_law_k"] [])
    (FX : Fun K "_law_box" "_law_box" sBox fX fdX) (gX : mg "_law_box" = some (.ref fX)) (bX : Binds K fdX ["_law_cell_here"] [])
    (GR : FnG P w K mg base 10 fR fdR ["_law_box_here"] spRight) (gR : mg "_law_right" = some (.ref fR)) (kR : PySem.W.keepIn K (.ref fR) = true) (bR : Binds K fdR ["_law_box_here"] [])
    (mi : mg "int" = none) (ml : mg "len" = none) (mr : mg "range" = none) (mx : mg "max" = none) (mn : mg "min" = none) : FnG P w K mg base 11 f fd ["_law_script"] (spLaw K) := by
  have GC : FnOk P w K mg base CX0 1 fC fdC ["_law_script", "_law_k"] (OF.spCell K) := ok_cell FC ml
  have GX : FnOk P w K mg base CX0 1 fX fdX ["_law_cell_here"] spBox := ok_box FX mi mx
  refine okG F scL (fun vs H Q E h => ?_) (fun cdv A outer s H vs Q E gu hr h => ?_)
  · obtain ⟨a, ns, rfl, _⟩ := h
    rfl
  · obtain ⟨a, ns, rfl, hS, hlen, q⟩ := h
    have hr1 : Room 1 _ := hr.mono (by decide)
    apply Exists.intro
    apply And.intro
    · apply pss_cons
      · exact ps_for PassesOwn.never rfl (pi_range1 rfl mr (pa_cons (pe_callB (call_max2 rfl) (by rfl) mx PyProof.Rows.boot_max (pa_cons pe_int (pa_cons
            (pe_callB (call_min2 rfl) (by rfl) mn PyProof.Rows.boot_min (pa_cons pe_int (pa_cons (pe_callB call_len_seq (by rfl) ml PySem.boot_len (pa_cons (pv 0) pa_nil)) pa_nil))) pa_nil))) pa_nil))
          (pg_name (i := 1) scL.nd rfl (.inl rfl))
          (pss_one (ps_if (pt_not (pt_val (pe_callG GR gu hr (by rfl) gR kR bR pass0 (pa_cons (pe_call GX hr1 (by rfl) gX FX.kp bX .nil pass0 (pa_cons (pe_call GC hr1 (by rfl) gC FC.kp bC .nil pass0 (pa_cons (pv 0) (pa_cons (pv 1) pa_nil))) pa_nil)) pa_nil))))
            (pss_one (ps_ret pe_bl)) pss_nil))
      apply pss_one
      · exact ps_ret pe_bl
    refine ⟨.ref a, rfl, a, _, rfl, .inl hS, _, _, rfl, _, _, rfl, _, rfl, ?_, ?_, for_range (lo := 0) (n := _) (fun i σ H' => ∃ v, σ = [some (.ref a), v] ∧ SqL K H' a (ns.map V.int)) ⟨none, rfl, hS⟩ ?_ ?_⟩
    · rw [List.length_map]
      split <;> split <;> omega
    · rw [List.length_map]
      split <;> split <;> omega
    · rintro i σ H' hi ⟨v, rfl, hS'⟩
      have hi' : i < 1000 := by
        rw [List.length_map] at hi
        split at hi <;> split at hi <;> omega
      refine ⟨.ref a, rfl, .int (0 + i), rfl, a, ns, i, ?_, hS', hi', fun c => ?_⟩
      · rw [Int.zero_add]
        rfl
      refine ⟨c, rfl, fun p H1 hp s1 B1 => ?_⟩
      refine ⟨p, rfl, B1, fun H2 t2 => ⟨true, rfl, iteF ?_⟩⟩
      exact ⟨some (.int (0 + i)), rfl, seq_past hp s1 t2 hS'⟩
    · rintro σ H' ⟨v, rfl, hS'⟩
      exact q H'
end
end K11
namespace K11
open PySem PySem.Spec PyProof.Rows L2 OF
set_option maxHeartbeats 4000000 in
theorem all_mk {l : PySem.W.OpenLaw} {w : World} {K : PySem.W.Frag} {h : Heap} {mg : Str → Option Value} {fa f1 f2 f3 f4 f5 f6 f7 f8 f9 f10 f11 f12 f13 f14 f15 f16 f17 f18 f19 f20 f21 f22 f23 f24 f25 f26 f27 f28 f29 f30 f31 f32 f33 CF fF CS h1 h2 C1 fI1 C2 fI2 C3 fI3 C4 fI4 C5 fI5 C6 fI6 : Addr}
    {od1 an1 od2 an2 od3 an3 od4 an4 od5 an5 od6 an6 od7 an7 od8 an8 od9 an9 od10 an10 od11 an11 od12 an12 od13 an13 od14 an14 od15 an15 od16 an16 od17 an17 od18 an18 od19 an19 od20 an20 od21 an21 od22 an22 od23 an23 od24 an24 od25 an25 od26 an26 od27 an27 od28 an28 od29 an29 od30 an30 od31 an31 od32 an32 od33 an33 odF anF odM1 anM1 odM2 anM2 odI1 anI1 odI2 anI2 odI3 anI3 odI4 anI4 odI5 anI5 odI6 anI6 : Option Addr}
    {sl1 sl2 sl3 sl4 sl5 sl6 sl7 sl8 sl9 sl10 sl11 sl12 sl13 sl14 sl15 sl16 sl17 sl18 sl19 sl20 sl21 sl22 sl23 sl24 sl25 sl26 sl27 sl28 sl29 sl30 sl31 sl32 sl33 slF slM1 slM2 slI1 slI2 slI3 slI4 slI5 slI6 : Array (Option Value)}
    {oc1 kV1 dc1 pm1 cd1 ct1 oc2 kV2 dc2 pm2 cd2 ct2 oc3 kV3 dc3 pm3 cd3 ct3 oc4 kV4 dc4 pm4 cd4 ct4 oc5 kV5 dc5 pm5 cd5 ct5 oc6 kV6 dc6 pm6 cd6 ct6 oc7 kV7 dc7 pm7 cd7 ct7 oc8 kV8 dc8 pm8 cd8 ct8 oc9 kV9 dc9 pm9 cd9 ct9 oc10 kV10 dc10 pm10 cd10 ct10 oc11 kV11 dc11 pm11 cd11 ct11 oc12 kV12 dc12 pm12 cd12 ct12 oc13 kV13 dc13 pm13 cd13 ct13 oc14 kV14 dc14 pm14 cd14 ct14 oc15 kV15 dc15 pm15 cd15 ct15 oc16 kV16 dc16 pm16 cd16 ct16 oc17 kV17 dc17 pm17 cd17 ct17 oc18 kV18 dc18 pm18 cd18 ct18 oc19 kV19 dc19 pm19 cd19 ct19 oc20 kV20 dc20 pm20 cd20 ct20 oc21 kV21 dc21 pm21 cd21 ct21 oc22 kV22 dc22 pm22 cd22 ct22 oc23 kV23 dc23 pm23 cd23 ct23 oc24 kV24 dc24 pm24 cd24 ct24 oc25 kV25 dc25 pm25 cd25 ct25 oc26 kV26 dc26 pm26 cd26 ct26 oc27 kV27 dc27 pm27 cd27 ct27 oc28 kV28 dc28 pm28 cd28 ct28 oc29 kV29 dc29 pm29 cd29 ct29 oc30 kV30 dc30 pm30 cd30 ct30 oc31 kV31 dc31 pm31 cd31 ct31 oc32 kV32 dc32 pm32 cd32 ct32 oc33 kV33 dc33 pm33 cd33 ct33 ocF kVF dcF pmF cdF ctF ocM1 kVM1 dcM1 pmM1 cdM1 ctM1 ocM2 kVM2 dcM2 pmM2 cdM2 ctM2 ocI1 kVI1 dcI1 pmI1 cdI1 ctI1 ocI2 kVI2 dcI2 pmI2 cdI2 ctI2 ocI3 kVI3 dcI3 pmI3 cdI3 ctI3 ocI4 kVI4 dcI4 pmI4 cdI4 ctI4 ocI5 kVI5 dcI5 pmI5 cdI5 ctI5 ocI6 kVI6 dcI6 pmI6 cdI6 ctI6 : Value}
    {t6 t9 tb : Tok}
    {pB pD gB gD fSt TD : Addr}
    {odPB anPB odPD anPD odSt anSt odT : Option Addr}
    {slPB slPD slSt slT : Array (Option Value)}
    {ocPB kVPB dcPB pmPB cdPB ctPB ocPD kVPD dcPD pmPD cdPD ctPD ocSt kVSt dcSt pmSt cdSt ctSt ocT : Value}
    {restB restD : List Value}
    {nT : Nat}
    {nm1 q1 : Str} {N1 : Addr} {bs1 : List Value} {sn1 : List Str} {sub1 : List Value} {ab1 : Bool} {col1 : Option Bool} {dd1 : Option Addr} {m01 m11 m31 m51 : Option Value} {cn1 : Str} {tkE1 : Tok}
    {nm2 q2 : Str} {N2 : Addr} {bs2 : List Value} {sn2 : List Str} {sub2 : List Value} {ab2 : Bool} {col2 : Option Bool} {dd2 : Option Addr} {m02 m12 m32 m52 : Option Value} {cn2 : Str} {tkE2 : Tok}
    {nm3 q3 : Str} {N3 : Addr} {bs3 : List Value} {sn3 : List Str} {sub3 : List Value} {ab3 : Bool} {col3 : Option Bool} {dd3 : Option Addr} {m03 m13 m33 m53 : Option Value} {cn3 : Str} {tkE3 : Tok}
    {nm4 q4 : Str} {N4 : Addr} {bs4 : List Value} {sn4 : List Str} {sub4 : List Value} {ab4 : Bool} {col4 : Option Bool} {dd4 : Option Addr} {m04 m14 m34 m54 : Option Value} {cn4 : Str} {tkE4 : Tok}
    {nm5 q5 : Str} {N5 : Addr} {bs5 : List Value} {sn5 : List Str} {sub5 : List Value} {ab5 : Bool} {col5 : Option Bool} {dd5 : Option Addr} {m05 m15 m35 m55 : Option Value} {cn5 : Str} {tkE5 : Tok}
    {nm6 q6 : Str} {N6 : Addr} {bs6 : List Value} {sn6 : List Str} {sub6 : List Value} {ab6 : Bool} {col6 : Option Bool} {dd6 : Option Addr} {m06 m16 m36 m56 : Option Value} {cn6 : Str} {tkE6 : Tok}
    (X : K.In h) (G : h.Ns mainGlobals mg) (hfa : mg "law" = some (.ref fa))
    (a1 : PySem.W.nsIn K mainGlobals "is_whole" = some (some (.ref f1)))
    (l1 : K.lookup f1 = some ⟨oc1, od1, .func (PySem.W.fnOf "is_whole" "is_whole" (defArgs sWhole) (defBody sWhole) (defScope sWhole) .none kV1 dc1 pm1 an1 cd1 ct1), sl1⟩)
    (c1 : PySem.W.codeIn K cd1 "is_whole" = true)
    (k1 : PySem.W.keepIn K (.ref f1) = true)
    (a2 : PySem.W.nsIn K mainGlobals "is_integer" = some (some (.ref f2)))
    (l2 : K.lookup f2 = some ⟨oc2, od2, .func (PySem.W.fnOf "is_integer" "is_integer" (defArgs sIsInt) (defBody sIsInt) (defScope sIsInt) .none kV2 dc2 pm2 an2 cd2 ct2), sl2⟩)
    (c2 : PySem.W.codeIn K cd2 "is_integer" = true)
    (k2 : PySem.W.keepIn K (.ref f2) = true)
    (a3 : PySem.W.nsIn K mainGlobals "is_base" = some (some (.ref f3)))
    (l3 : K.lookup f3 = some ⟨oc3, od3, .func (PySem.W.fnOf "is_base" "is_base" (defArgs sIsBase) (defBody sIsBase) (defScope sIsBase) .none kV3 dc3 pm3 an3 cd3 ct3), sl3⟩)
    (c3 : PySem.W.codeIn K cd3 "is_base" = true)
    (k3 : PySem.W.keepIn K (.ref f3) = true)
    (a4 : PySem.W.nsIn K mainGlobals "is_digit" = some (some (.ref f4)))
    (l4 : K.lookup f4 = some ⟨oc4, od4, .func (PySem.W.fnOf "is_digit" "is_digit" (defArgs sIsDigit) (defBody sIsDigit) (defScope sIsDigit) .none kV4 dc4 pm4 an4 cd4 ct4), sl4⟩)
    (c4 : PySem.W.codeIn K cd4 "is_digit" = true)
    (k4 : PySem.W.keepIn K (.ref f4) = true)
    (a5 : PySem.W.nsIn K mainGlobals "are_digits" = some (some (.ref f5)))
    (l5 : K.lookup f5 = some ⟨oc5, od5, .func (PySem.W.fnOf "are_digits" "are_digits" (defArgs sAre) (defBody sAre) (defScope sAre) .none kV5 dc5 pm5 an5 cd5 ct5), sl5⟩)
    (c5 : PySem.W.codeIn K cd5 "are_digits" = true)
    (k5 : PySem.W.keepIn K (.ref f5) = true)
    (a6 : PySem.W.nsIn K mainGlobals "_is_one_of" = some (some (.ref f6)))
    (l6 : K.lookup f6 = some ⟨oc6, od6, .func (PySem.W.fnOf "_is_one_of" "_is_one_of" (defArgs sOneOf) (defBody sOneOf) (defScope sOneOf) .none kV6 dc6 pm6 an6 cd6 ct6), sl6⟩)
    (c6 : PySem.W.codeIn K cd6 "_is_one_of" = true)
    (k6 : PySem.W.keepIn K (.ref f6) = true)
    (a7 : PySem.W.nsIn K mainGlobals "_is_pair" = some (some (.ref f7)))
    (l7 : K.lookup f7 = some ⟨oc7, od7, .func (PySem.W.fnOf "_is_pair" "_is_pair" (defArgs sIsPair) (defBody sIsPair) (defScope sIsPair) .none kV7 dc7 pm7 an7 cd7 ct7), sl7⟩)
    (c7 : PySem.W.codeIn K cd7 "_is_pair" = true)
    (k7 : PySem.W.keepIn K (.ref f7) = true)
    (a8 : PySem.W.nsIn K mainGlobals "_is_digit_list" = some (some (.ref f8)))
    (l8 : K.lookup f8 = some ⟨oc8, od8, .func (PySem.W.fnOf "_is_digit_list" "_is_digit_list" (defArgs sDigList) (defBody sDigList) (defScope sDigList) .none kV8 dc8 pm8 an8 cd8 ct8), sl8⟩)
    (c8 : PySem.W.codeIn K cd8 "_is_digit_list" = true)
    (k8 : PySem.W.keepIn K (.ref f8) = true)
    (a9 : PySem.W.nsIn K mainGlobals "_different_digits" = some (some (.ref f9)))
    (l9 : K.lookup f9 = some ⟨oc9, od9, .func (PySem.W.fnOf "_different_digits" "_different_digits" (defArgs sDiffDig) (defBody sDiffDig) (defScope sDiffDig) .none kV9 dc9 pm9 an9 cd9 ct9), sl9⟩)
    (c9 : PySem.W.codeIn K cd9 "_different_digits" = true)
    (k9 : PySem.W.keepIn K (.ref f9) = true)
    (a10 : PySem.W.nsIn K mainGlobals "_different_pairs" = some (some (.ref f10)))
    (l10 : K.lookup f10 = some ⟨oc10, od10, .func (PySem.W.fnOf "_different_pairs" "_different_pairs" (defArgs sDiffPair) (defBody sDiffPair) (defScope sDiffPair) .none kV10 dc10 pm10 an10 cd10 ct10), sl10⟩)
    (c10 : PySem.W.codeIn K cd10 "_different_pairs" = true)
    (k10 : PySem.W.keepIn K (.ref f10) = true)
    (a11 : PySem.W.nsIn K mainGlobals "_law_cell" = some (some (.ref f11)))
    (l11 : K.lookup f11 = some ⟨oc11, od11, .func (PySem.W.fnOf "_law_cell" "_law_cell" (defArgs sCell) (defBody sCell) (defScope sCell) .none kV11 dc11 pm11 an11 cd11 ct11), sl11⟩)
    (c11 : PySem.W.codeIn K cd11 "_law_cell" = true)
    (k11 : PySem.W.keepIn K (.ref f11) = true)
    (a12 : PySem.W.nsIn K mainGlobals "_law_box" = some (some (.ref f12)))
    (l12 : K.lookup f12 = some ⟨oc12, od12, .func (PySem.W.fnOf "_law_box" "_law_box" (defArgs sBox) (defBody sBox) (defScope sBox) .none kV12 dc12 pm12 an12 cd12 ct12), sl12⟩)
    (c12 : PySem.W.codeIn K cd12 "_law_box" = true)
    (k12 : PySem.W.keepIn K (.ref f12) = true)
    (a13 : PySem.W.nsIn K mainGlobals "_law_take" = some (some (.ref f13)))
    (l13 : K.lookup f13 = some ⟨oc13, od13, .func (PySem.W.fnOf "_law_take" "_law_take" (defArgs sTake) (defBody sTake) (defScope sTake) .none kV13 dc13 pm13 an13 cd13 ct13), sl13⟩)
    (c13 : PySem.W.codeIn K cd13 "_law_take" = true)
    (k13 : PySem.W.keepIn K (.ref f13) = true)
    (a14 : PySem.W.nsIn K mainGlobals "_law_digits" = some (some (.ref f14)))
    (l14 : K.lookup f14 = some ⟨oc14, od14, .func (PySem.W.fnOf "_law_digits" "_law_digits" (defArgs sDigits) (defBody sDigits) (defScope sDigits) .none kV14 dc14 pm14 an14 cd14 ct14), sl14⟩)
    (c14 : PySem.W.codeIn K cd14 "_law_digits" = true)
    (k14 : PySem.W.keepIn K (.ref f14) = true)
    (a15 : PySem.W.nsIn K mainGlobals "_law_pairs" = some (some (.ref f15)))
    (l15 : K.lookup f15 = some ⟨oc15, od15, .func (PySem.W.fnOf "_law_pairs" "_law_pairs" (defArgs sPairs) (defBody sPairs) (defScope sPairs) .none kV15 dc15 pm15 an15 cd15 ct15), sl15⟩)
    (c15 : PySem.W.codeIn K cd15 "_law_pairs" = true)
    (k15 : PySem.W.keepIn K (.ref f15) = true)
    (a16 : PySem.W.nsIn K mainGlobals "_law_scheme" = some (some (.ref f16)))
    (l16 : K.lookup f16 = some ⟨oc16, od16, .func (PySem.W.fnOf "_law_scheme" "_law_scheme" (defArgs sScheme) (defBody sScheme) (defScope sScheme) .none kV16 dc16 pm16 an16 cd16 ct16), sl16⟩)
    (c16 : PySem.W.codeIn K cd16 "_law_scheme" = true)
    (k16 : PySem.W.keepIn K (.ref f16) = true)
    (a17 : PySem.W.nsIn K mainGlobals "_law_made" = some (some (.ref f17)))
    (l17 : K.lookup f17 = some ⟨oc17, od17, .func (PySem.W.fnOf "_law_made" "_law_made" (defArgs sMade) (defBody sMade) (defScope sMade) .none kV17 dc17 pm17 an17 cd17 ct17), sl17⟩)
    (c17 : PySem.W.codeIn K cd17 "_law_made" = true)
    (k17 : PySem.W.keepIn K (.ref f17) = true)
    (a18 : PySem.W.nsIn K mainGlobals "left_digits" = some (some (.ref f18)))
    (l18 : K.lookup f18 = some ⟨oc18, od18, .func (PySem.W.fnOf "left_digits" "left_digits" (defArgs sLeft) (defBody sLeft) (defScope sLeft) .none kV18 dc18 pm18 an18 cd18 ct18), sl18⟩)
    (c18 : PySem.W.codeIn K cd18 "left_digits" = true)
    (k18 : PySem.W.keepIn K (.ref f18) = true)
    (a19 : PySem.W.nsIn K mainGlobals "places_behind" = some (some (.ref f19)))
    (l19 : K.lookup f19 = some ⟨oc19, od19, .func (PySem.W.fnOf "places_behind" "places_behind" (defArgs sBehind) (defBody sBehind) (defScope sBehind) .none kV19 dc19 pm19 an19 cd19 ct19), sl19⟩)
    (c19 : PySem.W.codeIn K cd19 "places_behind" = true)
    (k19 : PySem.W.keepIn K (.ref f19) = true)
    (a20 : PySem.W.nsIn K mainGlobals "is_scheme" = some (some (.ref f20)))
    (l20 : K.lookup f20 = some ⟨oc20, od20, .func (PySem.W.fnOf "is_scheme" "is_scheme" (defArgs sIsSch) (defBody sIsSch) (defScope sIsSch) .none kV20 dc20 pm20 an20 cd20 ct20), sl20⟩)
    (c20 : PySem.W.codeIn K cd20 "is_scheme" = true)
    (k20 : PySem.W.keepIn K (.ref f20) = true)
    (a21 : PySem.W.nsIn K mainGlobals "check_scheme" = some (some (.ref f21)))
    (l21 : K.lookup f21 = some ⟨oc21, od21, .func (PySem.W.fnOf "check_scheme" "check_scheme" (defArgs sCheckS) (defBody sCheckS) (defScope sCheckS) .none kV21 dc21 pm21 an21 cd21 ct21), sl21⟩)
    (c21 : PySem.W.codeIn K cd21 "check_scheme" = true)
    (k21 : PySem.W.keepIn K (.ref f21) = true)
    (a22 : PySem.W.nsIn K mainGlobals "check_number" = some (some (.ref f22)))
    (l22 : K.lookup f22 = some ⟨oc22, od22, .func (PySem.W.fnOf "check_number" "check_number" (defArgs sCheckN) (defBody sCheckN) (defScope sCheckN) .none kV22 dc22 pm22 an22 cd22 ct22), sl22⟩)
    (c22 : PySem.W.codeIn K cd22 "check_number" = true)
    (k22 : PySem.W.keepIn K (.ref f22) = true)
    (a23 : PySem.W.nsIn K mainGlobals "is_right" = some (some (.ref f23)))
    (l23 : K.lookup f23 = some ⟨oc23, od23, .func (PySem.W.fnOf "is_right" "is_right" (defArgs sIsRight) (defBody sIsRight) (defScope sIsRight) .none kV23 dc23 pm23 an23 cd23 ct23), sl23⟩)
    (c23 : PySem.W.codeIn K cd23 "is_right" = true)
    (k23 : PySem.W.keepIn K (.ref f23) = true)
    (a24 : PySem.W.nsIn K mainGlobals "_check_place" = some (some (.ref f24)))
    (l24 : K.lookup f24 = some ⟨oc24, od24, .func (PySem.W.fnOf "_check_place" "_check_place" (defArgs sCheckP) (defBody sCheckP) (defScope sCheckP) .none kV24 dc24 pm24 an24 cd24 ct24), sl24⟩)
    (c24 : PySem.W.codeIn K cd24 "_check_place" = true)
    (k24 : PySem.W.keepIn K (.ref f24) = true)
    (a25 : PySem.W.nsIn K mainGlobals "core" = some (some (.ref f25)))
    (l25 : K.lookup f25 = some ⟨oc25, od25, .func (PySem.W.fnOf "core" "core" (defArgs sCore) (defBody sCore) (defScope sCore) .none kV25 dc25 pm25 an25 cd25 ct25), sl25⟩)
    (c25 : PySem.W.codeIn K cd25 "core" = true)
    (k25 : PySem.W.keepIn K (.ref f25) = true)
    (a26 : PySem.W.nsIn K mainGlobals "_law_fits" = some (some (.ref f26)))
    (l26 : K.lookup f26 = some ⟨oc26, od26, .func (PySem.W.fnOf "_law_fits" "_law_fits" (defArgs sFits) (defBody sFits) (defScope sFits) .none kV26 dc26 pm26 an26 cd26 ct26), sl26⟩)
    (c26 : PySem.W.codeIn K cd26 "_law_fits" = true)
    (k26 : PySem.W.keepIn K (.ref f26) = true)
    (a27 : PySem.W.nsIn K mainGlobals "_law_steps" = some (some (.ref f27)))
    (l27 : K.lookup f27 = some ⟨oc27, od27, .func (PySem.W.fnOf "_law_steps" "_law_steps" (defArgs sLSteps) (defBody sLSteps) (defScope sLSteps) .none kV27 dc27 pm27 an27 cd27 ct27), sl27⟩)
    (c27 : PySem.W.codeIn K cd27 "_law_steps" = true)
    (k27 : PySem.W.keepIn K (.ref f27) = true)
    (a28 : PySem.W.nsIn K mainGlobals "_law_number" = some (some (.ref f28)))
    (l28 : K.lookup f28 = some ⟨oc28, od28, .func (PySem.W.fnOf "_law_number" "_law_number" (defArgs sNumber) (defBody sNumber) (defScope sNumber) .none kV28 dc28 pm28 an28 cd28 ct28), sl28⟩)
    (c28 : PySem.W.codeIn K cd28 "_law_number" = true)
    (k28 : PySem.W.keepIn K (.ref f28) = true)
    (a29 : PySem.W.nsIn K mainGlobals "_law_told" = some (some (.ref f29)))
    (l29 : K.lookup f29 = some ⟨oc29, od29, .func (PySem.W.fnOf "_law_told" "_law_told" (defArgs sTold) (defBody sTold) (defScope sTold) .none kV29 dc29 pm29 an29 cd29 ct29), sl29⟩)
    (c29 : PySem.W.codeIn K cd29 "_law_told" = true)
    (k29 : PySem.W.keepIn K (.ref f29) = true)
    (a30 : PySem.W.nsIn K mainGlobals "_law_refused" = some (some (.ref f30)))
    (l30 : K.lookup f30 = some ⟨oc30, od30, .func (PySem.W.fnOf "_law_refused" "_law_refused" (defArgs sRefused) (defBody sRefused) (defScope sRefused) .none kV30 dc30 pm30 an30 cd30 ct30), sl30⟩)
    (c30 : PySem.W.codeIn K cd30 "_law_refused" = true)
    (k30 : PySem.W.keepIn K (.ref f30) = true)
    (a31 : PySem.W.nsIn K mainGlobals "_law_names" = some (some (.ref f31)))
    (l31 : K.lookup f31 = some ⟨oc31, od31, .func (PySem.W.fnOf "_law_names" "_law_names" (defArgs sNames) (defBody sNames) (defScope sNames) .none kV31 dc31 pm31 an31 cd31 ct31), sl31⟩)
    (c31 : PySem.W.codeIn K cd31 "_law_names" = true)
    (k31 : PySem.W.keepIn K (.ref f31) = true)
    (a32 : PySem.W.nsIn K mainGlobals "_law_right" = some (some (.ref f32)))
    (l32 : K.lookup f32 = some ⟨oc32, od32, .func (PySem.W.fnOf "_law_right" "_law_right" (defArgs sRight) (defBody sRight) (defScope sRight) .none kV32 dc32 pm32 an32 cd32 ct32), sl32⟩)
    (c32 : PySem.W.codeIn K cd32 "_law_right" = true)
    (k32 : PySem.W.keepIn K (.ref f32) = true)
    (a33 : PySem.W.nsIn K mainGlobals "law" = some (some (.ref f33)))
    (l33 : K.lookup f33 = some ⟨oc33, od33, .func (PySem.W.fnOf "law" "law" (defArgs sLaw) (defBody sLaw) (defScope sLaw) .none kV33 dc33 pm33 an33 cd33 ct33), sl33⟩)
    (c33 : PySem.W.codeIn K cd33 "law" = true)
    (k33 : PySem.W.keepIn K (.ref f33) = true)
    (aF : PySem.W.nsIn K mainGlobals "FigureError" = some (some (.ref CF)))
    (rF : PySem.W.readsIn K CF (.type "type") = true)
    (gaF : PySem.W.specialIn K (.ref CF) "__getattribute__" = some (some (.builtin "type.__getattribute__")))
    (atF : PySem.W.findCls K (.ref CF) (.type "type") "__init__" = some (.val (.ref fF)))
    (lF : K.lookup fF = some ⟨ocF, odF, .func (PySem.W.fnOf "__init__" "FigureError.__init__" (defArgs sFig) (defBody sFig) (defScope sFig) .none kVF dcF pmF anF cdF ctF), slF⟩)
    (cF : PySem.W.codeIn K cdF "FigureError.__init__" = true)
    (kF : PySem.W.keepIn K (.ref fF) = true)
    (vV : PySem.W.findCls K (.type "ValueError") (.type "type") "__init__" = some (.val (.builtin "ValueError.__init__")))
    (aC1 : PySem.W.nsIn K mainGlobals "InvalidBase" = some (some (.ref C1)))
    (xC1 : K.lookup C1 = some (excClassObj nm1 q1 C1 N1 bs1 [.ref CF, .type "ValueError", .type "Exception", .type "BaseException", .type "object"] true sn1 sub1 ab1 col1 dd1 m01 m11 (some (.str cn1 tkE1)) m31 m51 "ValueError.__new__"))
    (sa1 : PySem.W.findIn K (.ref C1) "__setattr__" = some (some (.builtin "object.__setattr__")))
    (ex1 : PySem.W.subIn K (.ref C1) (.type "BaseException") = some true)
    (ty1 : PySem.W.typeIn K (.ref C1) = some (.type "type"))
    (kC1 : PySem.W.keepIn K (.ref C1) = true)
    (iC1 : PySem.W.findIn K (.ref C1) "__init__" = some (some (.ref fI1)))
    (tI1 : PySem.W.typeIn K (.ref fI1) = some (.type "function"))
    (no1 : PySem.W.findIn K (.ref C1) "value" = some none)
    (ga1 : PySem.W.findIn K (.ref C1) "__getattribute__" = some (some (.builtin "BaseException.__getattribute__")))
    (gg1 : PySem.W.findIn K (.ref C1) "__getattr__" = some none)
    (hd1 : PySem.W.hasDictIn K C1 = true)
    (sb1 : PySem.W.subIn K (.ref C1) (.ref C1) = some true)
    (ic1 : PySem.W.isClsIn K C1 = true)
    (lI1 : K.lookup fI1 = some ⟨ocI1, odI1, .func (PySem.W.fnOf "__init__" "InvalidBase.__init__" (defArgs sInBase) (defBody sInBase) (defScope sInBase) .none kVI1 dcI1 pmI1 anI1 cdI1 ctI1), slI1⟩)
    (cI1 : PySem.W.codeIn K cdI1 "InvalidBase.__init__" = true)
    (kI1 : PySem.W.keepIn K (.ref fI1) = true)
    (aC2 : PySem.W.nsIn K mainGlobals "InvalidDigits" = some (some (.ref C2)))
    (xC2 : K.lookup C2 = some (excClassObj nm2 q2 C2 N2 bs2 [.ref CF, .type "ValueError", .type "Exception", .type "BaseException", .type "object"] true sn2 sub2 ab2 col2 dd2 m02 m12 (some (.str cn2 tkE2)) m32 m52 "ValueError.__new__"))
    (sa2 : PySem.W.findIn K (.ref C2) "__setattr__" = some (some (.builtin "object.__setattr__")))
    (ex2 : PySem.W.subIn K (.ref C2) (.type "BaseException") = some true)
    (ty2 : PySem.W.typeIn K (.ref C2) = some (.type "type"))
    (kC2 : PySem.W.keepIn K (.ref C2) = true)
    (iC2 : PySem.W.findIn K (.ref C2) "__init__" = some (some (.ref fI2)))
    (tI2 : PySem.W.typeIn K (.ref fI2) = some (.type "function"))
    (no2 : PySem.W.findIn K (.ref C2) "value" = some none)
    (ga2 : PySem.W.findIn K (.ref C2) "__getattribute__" = some (some (.builtin "BaseException.__getattribute__")))
    (gg2 : PySem.W.findIn K (.ref C2) "__getattr__" = some none)
    (hd2 : PySem.W.hasDictIn K C2 = true)
    (sb2 : PySem.W.subIn K (.ref C2) (.ref C2) = some true)
    (ic2 : PySem.W.isClsIn K C2 = true)
    (lI2 : K.lookup fI2 = some ⟨ocI2, odI2, .func (PySem.W.fnOf "__init__" "InvalidDigits.__init__" (defArgs sInDig) (defBody sInDig) (defScope sInDig) .none kVI2 dcI2 pmI2 anI2 cdI2 ctI2), slI2⟩)
    (cI2 : PySem.W.codeIn K cdI2 "InvalidDigits.__init__" = true)
    (kI2 : PySem.W.keepIn K (.ref fI2) = true)
    (aC3 : PySem.W.nsIn K mainGlobals "InvalidBars" = some (some (.ref C3)))
    (xC3 : K.lookup C3 = some (excClassObj nm3 q3 C3 N3 bs3 [.ref CF, .type "ValueError", .type "Exception", .type "BaseException", .type "object"] true sn3 sub3 ab3 col3 dd3 m03 m13 (some (.str cn3 tkE3)) m33 m53 "ValueError.__new__"))
    (sa3 : PySem.W.findIn K (.ref C3) "__setattr__" = some (some (.builtin "object.__setattr__")))
    (ex3 : PySem.W.subIn K (.ref C3) (.type "BaseException") = some true)
    (ty3 : PySem.W.typeIn K (.ref C3) = some (.type "type"))
    (kC3 : PySem.W.keepIn K (.ref C3) = true)
    (iC3 : PySem.W.findIn K (.ref C3) "__init__" = some (some (.ref fI3)))
    (tI3 : PySem.W.typeIn K (.ref fI3) = some (.type "function"))
    (no3 : PySem.W.findIn K (.ref C3) "value" = some none)
    (ga3 : PySem.W.findIn K (.ref C3) "__getattribute__" = some (some (.builtin "BaseException.__getattribute__")))
    (gg3 : PySem.W.findIn K (.ref C3) "__getattr__" = some none)
    (hd3 : PySem.W.hasDictIn K C3 = true)
    (sb3 : PySem.W.subIn K (.ref C3) (.ref C3) = some true)
    (ic3 : PySem.W.isClsIn K C3 = true)
    (lI3 : K.lookup fI3 = some ⟨ocI3, odI3, .func (PySem.W.fnOf "__init__" "InvalidBars.__init__" (defArgs sInBars) (defBody sInBars) (defScope sInBars) .none kVI3 dcI3 pmI3 anI3 cdI3 ctI3), slI3⟩)
    (cI3 : PySem.W.codeIn K cdI3 "InvalidBars.__init__" = true)
    (kI3 : PySem.W.keepIn K (.ref fI3) = true)
    (aC4 : PySem.W.nsIn K mainGlobals "NotScheme" = some (some (.ref C4)))
    (xC4 : K.lookup C4 = some (excClassObj nm4 q4 C4 N4 bs4 [.ref CF, .type "ValueError", .type "Exception", .type "BaseException", .type "object"] true sn4 sub4 ab4 col4 dd4 m04 m14 (some (.str cn4 tkE4)) m34 m54 "ValueError.__new__"))
    (sa4 : PySem.W.findIn K (.ref C4) "__setattr__" = some (some (.builtin "object.__setattr__")))
    (ex4 : PySem.W.subIn K (.ref C4) (.type "BaseException") = some true)
    (ty4 : PySem.W.typeIn K (.ref C4) = some (.type "type"))
    (kC4 : PySem.W.keepIn K (.ref C4) = true)
    (iC4 : PySem.W.findIn K (.ref C4) "__init__" = some (some (.ref fI4)))
    (tI4 : PySem.W.typeIn K (.ref fI4) = some (.type "function"))
    (no4 : PySem.W.findIn K (.ref C4) "value" = some none)
    (ga4 : PySem.W.findIn K (.ref C4) "__getattribute__" = some (some (.builtin "BaseException.__getattribute__")))
    (gg4 : PySem.W.findIn K (.ref C4) "__getattr__" = some none)
    (hd4 : PySem.W.hasDictIn K C4 = true)
    (sb4 : PySem.W.subIn K (.ref C4) (.ref C4) = some true)
    (ic4 : PySem.W.isClsIn K C4 = true)
    (lI4 : K.lookup fI4 = some ⟨ocI4, odI4, .func (PySem.W.fnOf "__init__" "NotScheme.__init__" (defArgs sNotS) (defBody sNotS) (defScope sNotS) .none kVI4 dcI4 pmI4 anI4 cdI4 ctI4), slI4⟩)
    (cI4 : PySem.W.codeIn K cdI4 "NotScheme.__init__" = true)
    (kI4 : PySem.W.keepIn K (.ref fI4) = true)
    (aC5 : PySem.W.nsIn K mainGlobals "InvalidNumber" = some (some (.ref C5)))
    (xC5 : K.lookup C5 = some (excClassObj nm5 q5 C5 N5 bs5 [.ref CF, .type "ValueError", .type "Exception", .type "BaseException", .type "object"] true sn5 sub5 ab5 col5 dd5 m05 m15 (some (.str cn5 tkE5)) m35 m55 "ValueError.__new__"))
    (sa5 : PySem.W.findIn K (.ref C5) "__setattr__" = some (some (.builtin "object.__setattr__")))
    (ex5 : PySem.W.subIn K (.ref C5) (.type "BaseException") = some true)
    (ty5 : PySem.W.typeIn K (.ref C5) = some (.type "type"))
    (kC5 : PySem.W.keepIn K (.ref C5) = true)
    (iC5 : PySem.W.findIn K (.ref C5) "__init__" = some (some (.ref fI5)))
    (tI5 : PySem.W.typeIn K (.ref fI5) = some (.type "function"))
    (no5 : PySem.W.findIn K (.ref C5) "number" = some none)
    (ga5 : PySem.W.findIn K (.ref C5) "__getattribute__" = some (some (.builtin "BaseException.__getattribute__")))
    (gg5 : PySem.W.findIn K (.ref C5) "__getattr__" = some none)
    (hd5 : PySem.W.hasDictIn K C5 = true)
    (sb5 : PySem.W.subIn K (.ref C5) (.ref C5) = some true)
    (ic5 : PySem.W.isClsIn K C5 = true)
    (lI5 : K.lookup fI5 = some ⟨ocI5, odI5, .func (PySem.W.fnOf "__init__" "InvalidNumber.__init__" (defArgs sInNum) (defBody sInNum) (defScope sInNum) .none kVI5 dcI5 pmI5 anI5 cdI5 ctI5), slI5⟩)
    (cI5 : PySem.W.codeIn K cdI5 "InvalidNumber.__init__" = true)
    (kI5 : PySem.W.keepIn K (.ref fI5) = true)
    (aC6 : PySem.W.nsIn K mainGlobals "UnknownDigit" = some (some (.ref C6)))
    (xC6 : K.lookup C6 = some (excClassObj nm6 q6 C6 N6 bs6 [.ref CF, .type "ValueError", .type "Exception", .type "BaseException", .type "object"] true sn6 sub6 ab6 col6 dd6 m06 m16 (some (.str cn6 tkE6)) m36 m56 "ValueError.__new__"))
    (sa6 : PySem.W.findIn K (.ref C6) "__setattr__" = some (some (.builtin "object.__setattr__")))
    (ex6 : PySem.W.subIn K (.ref C6) (.type "BaseException") = some true)
    (ty6 : PySem.W.typeIn K (.ref C6) = some (.type "type"))
    (kC6 : PySem.W.keepIn K (.ref C6) = true)
    (iC6 : PySem.W.findIn K (.ref C6) "__init__" = some (some (.ref fI6)))
    (tI6 : PySem.W.typeIn K (.ref fI6) = some (.type "function"))
    (no6 : PySem.W.findIn K (.ref C6) "digit" = some none)
    (ga6 : PySem.W.findIn K (.ref C6) "__getattribute__" = some (some (.builtin "BaseException.__getattribute__")))
    (gg6 : PySem.W.findIn K (.ref C6) "__getattr__" = some none)
    (hd6 : PySem.W.hasDictIn K C6 = true)
    (sb6 : PySem.W.subIn K (.ref C6) (.ref C6) = some true)
    (ic6 : PySem.W.isClsIn K C6 = true)
    (lI6 : K.lookup fI6 = some ⟨ocI6, odI6, .func (PySem.W.fnOf "__init__" "UnknownDigit.__init__" (defArgs sUnk) (defBody sUnk) (defScope sUnk) .none kVI6 dcI6 pmI6 anI6 cdI6 ctI6), slI6⟩)
    (cI6 : PySem.W.codeIn K cdI6 "UnknownDigit.__init__" = true)
    (kI6 : PySem.W.keepIn K (.ref fI6) = true)
    (aS : PySem.W.nsIn K mainGlobals "Scheme" = some (some (.ref CS)))
    (pgS : PySem.W.plainGet K CS Str.empty = true)
    (hdS : PySem.W.hasDictIn K CS = true)
    (poS : PySem.W.plainOver K CS = true)
    (saS : PySem.W.findIn K (.ref CS) "__setattr__" = some (some (.builtin "object.__setattr__")))
    (mkS : PySem.W.makesIn K CS = true)
    (nB : PySem.W.findIn K (.ref CS) "_base" = some none)
    (nD : PySem.W.findIn K (.ref CS) "_digits" = some none)
    (nR : PySem.W.findIn K (.ref CS) "_bars" = some none)
    (haS : PySem.W.findIn K (.ref CS) "__class__" = some (some (.builtin "object.__class__")))
    (xn : PySem.W.specialIn K (.builtin "object.__class__") "__get__" = some (some (.builtin "getset_descriptor.__get__")))
    (xt : PySem.W.takesIn K (.builtin "object.__class__") = some true)
    (hmS : PySem.W.mroIn K CS (.type "object") = some true)
    (sbS : PySem.W.subIn K (.ref CS) (.ref CS) = some true)
    (icS : PySem.W.isClsIn K CS = true)
    (tyS : PySem.W.typeIn K (.ref CS) = some (.type "type"))
    (kpS : PySem.W.keepIn K (.ref CS) = true)
    (at1 : PySem.W.findIn K (.ref CS) "__init__" = some (some (.ref h1)))
    (fn1 : PySem.W.isFn K (.ref h1) = true)
    (lM1 : K.lookup h1 = some ⟨ocM1, odM1, .func (PySem.W.fnOf "__init__" "Scheme.__init__" (defArgs sInit) (defBody sInit) (defScope sInit) .none kVM1 dcM1 pmM1 anM1 cdM1 ctM1), slM1⟩)
    (cM1 : PySem.W.codeIn K cdM1 "Scheme.__init__" = true)
    (kM1 : PySem.W.keepIn K (.ref h1) = true)
    (at2 : PySem.W.findIn K (.ref CS) "allows" = some (some (.ref h2)))
    (fn2 : PySem.W.isFn K (.ref h2) = true)
    (lM2 : K.lookup h2 = some ⟨ocM2, odM2, .func (PySem.W.fnOf "allows" "Scheme.allows" (defArgs sAllows) (defBody sAllows) (defScope sAllows) .none kVM2 dcM2 pmM2 anM2 cdM2 ctM2), slM2⟩)
    (cM2 : PySem.W.codeIn K cdM2 "Scheme.allows" = true)
    (kM2 : PySem.W.keepIn K (.ref h2) = true)
    (xa : PySem.W.findIn K (.ref C4) "__class__" = some (some (.builtin "object.__class__")))
    (xm : PySem.W.mroIn K C4 (.type "object") = some true)
    (xs : PySem.W.subIn K (.ref C4) (.ref CF) = some true)
    (xi : PySem.W.isClsIn K CF = true)
    (xy : PySem.W.typeIn K (.ref CF) = some (.type "type"))
    (s54 : PySem.W.subIn K (.ref C5) (.ref C4) = some false)
    (s64 : PySem.W.subIn K (.ref C6) (.ref C4) = some false)
    (s65 : PySem.W.subIn K (.ref C6) (.ref C5) = some false)
    (apB : PySem.W.findIn K (.ref CS) "base" = some (some (.ref pB)))
    (gtB : PySem.W.specialIn K (.ref pB) "__get__" = some (some (.builtin "property.__get__")))
    (tkB : PySem.W.takesIn K (.ref pB) = some true)
    (rcB : PySem.W.recIn K pB "property" = some (.ref gB :: restB))
    (apD : PySem.W.findIn K (.ref CS) "digits" = some (some (.ref pD)))
    (gtD : PySem.W.specialIn K (.ref pD) "__get__" = some (some (.builtin "property.__get__")))
    (tkD : PySem.W.takesIn K (.ref pD) = some true)
    (rcD : PySem.W.recIn K pD "property" = some (.ref gD :: restD))
    (aSt : PySem.W.nsIn K mainGlobals "steps" = some (some (.ref fSt)))
    (lSt : K.lookup fSt = some ⟨ocSt, odSt, .func (PySem.W.fnOf "steps" "steps" (defArgs sSteps) (defBody sSteps) (defScope sSteps) (.ref TD) kVSt dcSt pmSt anSt cdSt ctSt), slSt⟩)
    (cSt : PySem.W.codeIn K cdSt "steps" = true)
    (kSt : PySem.W.keepIn K (.ref fSt) = true)
    (lT : K.lookup TD = some ⟨ocT, odT, .seq #[.none] nT, slT⟩)
    (lPB : K.lookup gB = some ⟨ocPB, odPB, .func (PySem.W.fnOf "base" "Scheme.base" (defArgs sPBase) (defBody sPBase) (defScope sPBase) .none kVPB dcPB pmPB anPB cdPB ctPB), slPB⟩)
    (cPB : PySem.W.codeIn K cdPB "Scheme.base" = true)
    (kPB : PySem.W.keepIn K (.ref gB) = true)
    (lPD : K.lookup gD = some ⟨ocPD, odPD, .func (PySem.W.fnOf "digits" "Scheme.digits" (defArgs sPDigits) (defBody sPDigits) (defScope sPDigits) .none kVPD dcPD pmPD anPD cdPD ctPD), slPD⟩)
    (cPD : PySem.W.codeIn K cdPD "Scheme.digits" = true)
    (kPD : PySem.W.keepIn K (.ref gD) = true)
    (z1 : PySem.W.nsIn K mainGlobals "len" = some none)
    (z2 : PySem.W.nsIn K mainGlobals "range" = some none)
    (z3 : PySem.W.nsIn K mainGlobals "int" = some none)
    (z4 : PySem.W.nsIn K mainGlobals "bool" = some none)
    (z5 : PySem.W.nsIn K mainGlobals "isinstance" = some none)
    (z6 : PySem.W.nsIn K mainGlobals "repr" = some none)
    (z7 : PySem.W.nsIn K mainGlobals "list" = some none)
    (z8 : PySem.W.nsIn K mainGlobals "tuple" = some none)
    (z9 : PySem.W.nsIn K mainGlobals "set" = some none)
    (z10 : PySem.W.nsIn K mainGlobals "sorted" = some none)
    (z11 : PySem.W.nsIn K mainGlobals "all" = some none)
    (z12 : PySem.W.nsIn K mainGlobals "max" = some none)
    (z13 : PySem.W.nsIn K mainGlobals "min" = some none)
    (z14 : PySem.W.nsIn K mainGlobals "abs" = some none)
    (z15 : PySem.W.nsIn K mainGlobals "ValueError" = some none)
    (v1 : PySem.W.nsIn K mainGlobals "MOST_DIGITS" = some (some (.int 6 t6)))
    (v2 : PySem.W.nsIn K mainGlobals "GREATEST_DIGIT" = some (some (.int 9 t9)))
    (v3 : PySem.W.nsIn K mainGlobals "GREATEST_BASE" = some (some (.int 6 tb)))
    (haE1 : PySem.W.findIn K (.ref C1) "__class__" = some (some (.builtin "object.__class__")))
    (hmE1 : PySem.W.mroIn K C1 (.type "object") = some true)
    (fcE1 : PySem.W.findCls K (.ref C1) (.type "type") "__name__" = some (.get (.builtin "getset_descriptor.__get__") (.builtin "type.__name__") (.ref C1) (.type "type")))
    (nnE1 : PySem.W.findIn K (.ref C1) "class_name" = some none)
    (haE2 : PySem.W.findIn K (.ref C2) "__class__" = some (some (.builtin "object.__class__")))
    (hmE2 : PySem.W.mroIn K C2 (.type "object") = some true)
    (fcE2 : PySem.W.findCls K (.ref C2) (.type "type") "__name__" = some (.get (.builtin "getset_descriptor.__get__") (.builtin "type.__name__") (.ref C2) (.type "type")))
    (nnE2 : PySem.W.findIn K (.ref C2) "class_name" = some none)
    (haE3 : PySem.W.findIn K (.ref C3) "__class__" = some (some (.builtin "object.__class__")))
    (hmE3 : PySem.W.mroIn K C3 (.type "object") = some true)
    (fcE3 : PySem.W.findCls K (.ref C3) (.type "type") "__name__" = some (.get (.builtin "getset_descriptor.__get__") (.builtin "type.__name__") (.ref C3) (.type "type")))
    (nnE3 : PySem.W.findIn K (.ref C3) "class_name" = some none)
    (haE4 : PySem.W.findIn K (.ref C4) "__class__" = some (some (.builtin "object.__class__")))
    (hmE4 : PySem.W.mroIn K C4 (.type "object") = some true)
    (fcE4 : PySem.W.findCls K (.ref C4) (.type "type") "__name__" = some (.get (.builtin "getset_descriptor.__get__") (.builtin "type.__name__") (.ref C4) (.type "type")))
    (nnE4 : PySem.W.findIn K (.ref C4) "class_name" = some none)
    (haE5 : PySem.W.findIn K (.ref C5) "__class__" = some (some (.builtin "object.__class__")))
    (hmE5 : PySem.W.mroIn K C5 (.type "object") = some true)
    (fcE5 : PySem.W.findCls K (.ref C5) (.type "type") "__name__" = some (.get (.builtin "getset_descriptor.__get__") (.builtin "type.__name__") (.ref C5) (.type "type")))
    (nnE5 : PySem.W.findIn K (.ref C5) "class_name" = some none)
    (haE6 : PySem.W.findIn K (.ref C6) "__class__" = some (some (.builtin "object.__class__")))
    (hmE6 : PySem.W.mroIn K C6 (.type "object") = some true)
    (fcE6 : PySem.W.findCls K (.ref C6) (.type "type") "__name__" = some (.get (.builtin "getset_descriptor.__get__") (.builtin "type.__name__") (.ref C6) (.type "type")))
    (nnE6 : PySem.W.findIn K (.ref C6) "class_name" = some none)
    (xnE : PySem.W.specialIn K (.builtin "object.__class__") "__get__" = some (some (.builtin "getset_descriptor.__get__")))
    (xtE : PySem.W.takesIn K (.builtin "object.__class__") = some true)
    (stE : PySem.W.nsIn K cStatics "thirdparty.any" = some none)
    : ∃ fd : FuncData, (∀ (s : Shared) (v : Value), BindsTo s fd ⟨[v], []⟩ [("_law_script", v)]) ∧ ∀ base : Heap, K.In base → base.Ns mainGlobals mg → FnG l.prog w K mg base 11 fa fd ["_law_script"] (spLaw K) := by
  have e := hfa.symm.trans (PySem.W.mg_of X G a33)
  cases e
  have F1 := fun_mk (st := sWhole) l1 c1 k1
  have g1 := PySem.W.mg_of X G a1
  have b1 := F1.binds (ps := ["value"]) fun _ _ _ _ _ _ us hl => match us, hl with | [_], _ => rfl
  have F2 := fun_mk (st := sIsInt) l2 c2 k2
  have g2 := PySem.W.mg_of X G a2
  have b2 := F2.binds (ps := ["value", "low", "high"]) fun _ _ _ _ _ _ us hl => match us, hl with | [_, _, _], _ => rfl
  have F3 := fun_mk (st := sIsBase) l3 c3 k3
  have g3 := PySem.W.mg_of X G a3
  have b3 := F3.binds (ps := ["value"]) fun _ _ _ _ _ _ us hl => match us, hl with | [_], _ => rfl
  have F4 := fun_mk (st := sIsDigit) l4 c4 k4
  have g4 := PySem.W.mg_of X G a4
  have b4 := F4.binds (ps := ["value"]) fun _ _ _ _ _ _ us hl => match us, hl with | [_], _ => rfl
  have F5 := fun_mk (st := sAre) l5 c5 k5
  have g5 := PySem.W.mg_of X G a5
  have b5 := F5.binds (ps := ["items"]) fun _ _ _ _ _ _ us hl => match us, hl with | [_], _ => rfl
  have F6 := fun_mk (st := sOneOf) l6 c6 k6
  have g6 := PySem.W.mg_of X G a6
  have b6 := F6.binds (ps := ["digits", "value"]) fun _ _ _ _ _ _ us hl => match us, hl with | [_, _], _ => rfl
  have F7 := fun_mk (st := sIsPair) l7 c7 k7
  have g7 := PySem.W.mg_of X G a7
  have b7 := F7.binds (ps := ["digits", "value"]) fun _ _ _ _ _ _ us hl => match us, hl with | [_, _], _ => rfl
  have F8 := fun_mk (st := sDigList) l8 c8 k8
  have g8 := PySem.W.mg_of X G a8
  have b8 := F8.binds (ps := ["value"]) fun _ _ _ _ _ _ us hl => match us, hl with | [_], _ => rfl
  have F9 := fun_mk (st := sDiffDig) l9 c9 k9
  have g9 := PySem.W.mg_of X G a9
  have b9 := F9.binds (ps := ["digits"]) fun _ _ _ _ _ _ us hl => match us, hl with | [_], _ => rfl
  have F10 := fun_mk (st := sDiffPair) l10 c10 k10
  have g10 := PySem.W.mg_of X G a10
  have b10 := F10.binds (ps := ["digits", "bars"]) fun _ _ _ _ _ _ us hl => match us, hl with | [_, _], _ => rfl
  have F11 := fun_mk (st := sCell) l11 c11 k11
  have g11 := PySem.W.mg_of X G a11
  have b11 := F11.binds (ps := ["_law_script", "_law_k"]) fun _ _ _ _ _ _ us hl => match us, hl with | [_, _], _ => rfl
  have F12 := fun_mk (st := sBox) l12 c12 k12
  have g12 := PySem.W.mg_of X G a12
  have b12 := F12.binds (ps := ["_law_cell_here"]) fun _ _ _ _ _ _ us hl => match us, hl with | [_], _ => rfl
  have F13 := fun_mk (st := sTake) l13 c13 k13
  have g13 := PySem.W.mg_of X G a13
  have b13 := F13.binds (ps := ["_law_box_here", "_law_many"]) fun _ _ _ _ _ _ us hl => match us, hl with | [_, _], _ => rfl
  have F14 := fun_mk (st := sDigits) l14 c14 k14
  have g14 := PySem.W.mg_of X G a14
  have b14 := F14.binds (ps := ["_law_box_here", "_law_base"]) fun _ _ _ _ _ _ us hl => match us, hl with | [_, _], _ => rfl
  have F15 := fun_mk (st := sPairs) l15 c15 k15
  have g15 := PySem.W.mg_of X G a15
  have b15 := F15.binds (ps := ["_law_digits_here"]) fun _ _ _ _ _ _ us hl => match us, hl with | [_], _ => rfl
  have F16 := fun_mk (st := sScheme) l16 c16 k16
  have g16 := PySem.W.mg_of X G a16
  have b16 := F16.binds (ps := ["_law_box_here"]) fun _ _ _ _ _ _ us hl => match us, hl with | [_], _ => rfl
  have F17 := fun_mk (st := sMade) l17 c17 k17
  have g17 := PySem.W.mg_of X G a17
  have b17 := F17.binds (ps := ["_law_model"]) fun _ _ _ _ _ _ us hl => match us, hl with | [_], _ => rfl
  have F18 := fun_mk (st := sLeft) l18 c18 k18
  have g18 := PySem.W.mg_of X G a18
  have b18 := F18.binds (ps := ["scheme", "right"]) fun _ _ _ _ _ _ us hl => match us, hl with | [_, _], _ => rfl
  have F19 := fun_mk (st := sBehind) l19 c19 k19
  have g19 := PySem.W.mg_of X G a19
  have b19 := F19.binds (ps := ["base", "digits", "rest"]) fun _ _ _ _ _ _ us hl => match us, hl with | [_, _, _], _ => rfl
  have F20 := fun_mk (st := sIsSch) l20 c20 k20
  have g20 := PySem.W.mg_of X G a20
  have b20 := F20.binds (ps := ["value"]) fun _ _ _ _ _ _ us hl => match us, hl with | [_], _ => rfl
  have F21 := fun_mk (st := sCheckS) l21 c21 k21
  have g21 := PySem.W.mg_of X G a21
  have b21 := F21.binds (ps := ["value"]) fun _ _ _ _ _ _ us hl => match us, hl with | [_], _ => rfl
  have F22 := fun_mk (st := sCheckN) l22 c22 k22
  have g22 := PySem.W.mg_of X G a22
  have b22 := F22.binds (ps := ["value"]) fun _ _ _ _ _ _ us hl => match us, hl with | [_], _ => rfl
  have F23 := fun_mk (st := sIsRight) l23 c23 k23
  have g23 := PySem.W.mg_of X G a23
  have b23 := F23.binds (ps := ["scheme", "value"]) fun _ _ _ _ _ _ us hl => match us, hl with | [_, _], _ => rfl
  have F24 := fun_mk (st := sCheckP) l24 c24 k24
  have g24 := PySem.W.mg_of X G a24
  have b24 := F24.binds (ps := ["scheme", "rest", "right"]) fun _ _ _ _ _ _ us hl => match us, hl with | [_, _, _], _ => rfl
  have F25 := fun_mk (st := sCore) l25 c25 k25
  have g25 := PySem.W.mg_of X G a25
  have b25 := F25.binds (ps := ["scheme"]) fun _ _ _ _ _ _ us hl => match us, hl with | [_], _ => rfl
  have F26 := fun_mk (st := sFits) l26 c26 k26
  have g26 := PySem.W.mg_of X G a26
  have b26 := F26.binds (ps := ["_law_model", "_law_left", "_law_beside"]) fun _ _ _ _ _ _ us hl => match us, hl with | [_, _, _], _ => rfl
  have F27 := fun_mk (st := sLSteps) l27 c27 k27
  have g27 := PySem.W.mg_of X G a27
  have b27 := F27.binds (ps := ["_law_model", "_law_place"]) fun _ _ _ _ _ _ us hl => match us, hl with | [_, _], _ => rfl
  have F28 := fun_mk (st := sNumber) l28 c28 k28
  have g28 := PySem.W.mg_of X G a28
  have b28 := F28.binds (ps := ["_law_box_here"]) fun _ _ _ _ _ _ us hl => match us, hl with | [_], _ => rfl
  have F29 := fun_mk (st := sTold) l29 c29 k29
  have g29 := PySem.W.mg_of X G a29
  have b29 := F29.binds (ps := ["_law_house", "_law_remains", "_law_beside"]) fun _ _ _ _ _ _ us hl => match us, hl with | [_, _, _], _ => rfl
  have F30 := fun_mk (st := sRefused) l30 c30 k30
  have g30 := PySem.W.mg_of X G a30
  have b30 := F30.binds (ps := ["_law_value"]) fun _ _ _ _ _ _ us hl => match us, hl with | [_], _ => rfl
  have F31 := fun_mk (st := sNames) l31 c31 k31
  have g31 := PySem.W.mg_of X G a31
  have b31 := F31.binds (ps := ["_law_model"]) fun _ _ _ _ _ _ us hl => match us, hl with | [_], _ => rfl
  have F32 := fun_mk (st := sRight) l32 c32 k32
  have g32 := PySem.W.mg_of X G a32
  have b32 := F32.binds (ps := ["_law_box_here"]) fun _ _ _ _ _ _ us hl => match us, hl with | [_], _ => rfl
  have F33 := fun_mk (st := sLaw) l33 c33 k33
  have g33 := PySem.W.mg_of X G a33
  have b33 := F33.binds (ps := ["_law_script"]) fun _ _ _ _ _ _ us hl => match us, hl with | [_], _ => rfl
  have FF := fun_mk (st := sFig) lF cF kF
  have bF := FF.binds (ps := ["self", "text"]) fun _ _ _ _ _ _ us hl => match us, hl with | [_, _], _ => rfl
  have TF : FigC K mg CF fF := ⟨PySem.W.mg_of X G aF, ⟨rF, gaF⟩, atF, kF⟩
  have FI1 := fun_mk (st := sInBase) lI1 cI1 kI1
  have bI1 := FI1.binds (ps := ["self", "value"]) fun _ _ _ _ _ _ us hl => match us, hl with | [_, _], _ => rfl
  have T1 : ErrC K mg "InvalidBase" "value" C1 fI1 := ⟨PySem.W.mg_of X G aC1, ⟨⟨_, _, _, _, _, _, _, _, _, _, _, _, _, _, _, xC1, by first | rfl | decide +kernel⟩, sa1, ex1, ty1, kC1⟩, iC1, tI1, no1, ⟨ga1, gg1, ex1, hd1⟩, exm_own ex1 ic1 ty1 sb1, ⟨cn1, ⟨⟨ga1, gg1, ex1, hd1⟩, by simpa [PySem.W.isClsIn] using ic1, haE1, xnE, xtE, hmE1, ty1, stE, fcE1, ⟨_, tkE1, xC1, rfl, rfl⟩, nnE1⟩⟩⟩
  have FI2 := fun_mk (st := sInDig) lI2 cI2 kI2
  have bI2 := FI2.binds (ps := ["self", "value"]) fun _ _ _ _ _ _ us hl => match us, hl with | [_, _], _ => rfl
  have T2 : ErrC K mg "InvalidDigits" "value" C2 fI2 := ⟨PySem.W.mg_of X G aC2, ⟨⟨_, _, _, _, _, _, _, _, _, _, _, _, _, _, _, xC2, by first | rfl | decide +kernel⟩, sa2, ex2, ty2, kC2⟩, iC2, tI2, no2, ⟨ga2, gg2, ex2, hd2⟩, exm_own ex2 ic2 ty2 sb2, ⟨cn2, ⟨⟨ga2, gg2, ex2, hd2⟩, by simpa [PySem.W.isClsIn] using ic2, haE2, xnE, xtE, hmE2, ty2, stE, fcE2, ⟨_, tkE2, xC2, rfl, rfl⟩, nnE2⟩⟩⟩
  have FI3 := fun_mk (st := sInBars) lI3 cI3 kI3
  have bI3 := FI3.binds (ps := ["self", "value"]) fun _ _ _ _ _ _ us hl => match us, hl with | [_, _], _ => rfl
  have T3 : ErrC K mg "InvalidBars" "value" C3 fI3 := ⟨PySem.W.mg_of X G aC3, ⟨⟨_, _, _, _, _, _, _, _, _, _, _, _, _, _, _, xC3, by first | rfl | decide +kernel⟩, sa3, ex3, ty3, kC3⟩, iC3, tI3, no3, ⟨ga3, gg3, ex3, hd3⟩, exm_own ex3 ic3 ty3 sb3, ⟨cn3, ⟨⟨ga3, gg3, ex3, hd3⟩, by simpa [PySem.W.isClsIn] using ic3, haE3, xnE, xtE, hmE3, ty3, stE, fcE3, ⟨_, tkE3, xC3, rfl, rfl⟩, nnE3⟩⟩⟩
  have FI4 := fun_mk (st := sNotS) lI4 cI4 kI4
  have bI4 := FI4.binds (ps := ["self", "value"]) fun _ _ _ _ _ _ us hl => match us, hl with | [_, _], _ => rfl
  have T4 : ErrC K mg "NotScheme" "value" C4 fI4 := ⟨PySem.W.mg_of X G aC4, ⟨⟨_, _, _, _, _, _, _, _, _, _, _, _, _, _, _, xC4, by first | rfl | decide +kernel⟩, sa4, ex4, ty4, kC4⟩, iC4, tI4, no4, ⟨ga4, gg4, ex4, hd4⟩, exm_own ex4 ic4 ty4 sb4, ⟨cn4, ⟨⟨ga4, gg4, ex4, hd4⟩, by simpa [PySem.W.isClsIn] using ic4, haE4, xnE, xtE, hmE4, ty4, stE, fcE4, ⟨_, tkE4, xC4, rfl, rfl⟩, nnE4⟩⟩⟩
  have FI5 := fun_mk (st := sInNum) lI5 cI5 kI5
  have bI5 := FI5.binds (ps := ["self", "number"]) fun _ _ _ _ _ _ us hl => match us, hl with | [_, _], _ => rfl
  have T5 : ErrC K mg "InvalidNumber" "number" C5 fI5 := ⟨PySem.W.mg_of X G aC5, ⟨⟨_, _, _, _, _, _, _, _, _, _, _, _, _, _, _, xC5, by first | rfl | decide +kernel⟩, sa5, ex5, ty5, kC5⟩, iC5, tI5, no5, ⟨ga5, gg5, ex5, hd5⟩, exm_own ex5 ic5 ty5 sb5, ⟨cn5, ⟨⟨ga5, gg5, ex5, hd5⟩, by simpa [PySem.W.isClsIn] using ic5, haE5, xnE, xtE, hmE5, ty5, stE, fcE5, ⟨_, tkE5, xC5, rfl, rfl⟩, nnE5⟩⟩⟩
  have FI6 := fun_mk (st := sUnk) lI6 cI6 kI6
  have bI6 := FI6.binds (ps := ["self", "digit"]) fun _ _ _ _ _ _ us hl => match us, hl with | [_, _], _ => rfl
  have T6 : ErrC K mg "UnknownDigit" "digit" C6 fI6 := ⟨PySem.W.mg_of X G aC6, ⟨⟨_, _, _, _, _, _, _, _, _, _, _, _, _, _, _, xC6, by first | rfl | decide +kernel⟩, sa6, ex6, ty6, kC6⟩, iC6, tI6, no6, ⟨ga6, gg6, ex6, hd6⟩, exm_own ex6 ic6 ty6 sb6, ⟨cn6, ⟨⟨ga6, gg6, ex6, hd6⟩, by simpa [PySem.W.isClsIn] using ic6, haE6, xnE, xtE, hmE6, ty6, stE, fcE6, ⟨_, tkE6, xC6, rfl, rfl⟩, nnE6⟩⟩⟩
  have cS : Cls K CS := ⟨pgS, hdS, poS, saS⟩
  have iS : IsC K CS := ⟨cS, haS, xn, xt, hmS, kit_own icS tyS sbS⟩
  have gS := PySem.W.mg_of X G aS
  have FM1 := fun_mk (st := sInit) lM1 cM1 kM1
  have mm1 : Meth K CS "__init__" h1 := ⟨at1, fn1, kM1⟩
  have FM2 := fun_mk (st := sAllows) lM2 cM2 kM2
  have bM2 := FM2.binds (ps := ["self", "left", "right"]) fun _ _ _ _ _ _ us hl => match us, hl with | [_, _, _], _ => rfl
  have mm2 : Meth K CS "allows" h2 := ⟨at2, fn2, kM2⟩
  have FPB := fun_mk (st := sPBase) lPB cPB kPB
  have bPB := FPB.binds (ps := ["self"]) fun _ _ _ _ _ _ us hl => match us, hl with | [_], _ => rfl
  have FPD := fun_mk (st := sPDigits) lPD cPD kPD
  have bPD := FPD.binds (ps := ["self"]) fun _ _ _ _ _ _ us hl => match us, hl with | [_], _ => rfl
  have pb : PropOf K CS "base" pB gB := ⟨apB, gtB, tkB, ⟨_, rcB⟩⟩
  have pd : PropOf K CS "digits" pD gD := ⟨apD, gtD, tkD, ⟨_, rcD⟩⟩
  have FSt : FunD K "steps" "steps" (defArgs sSteps) (defBody sSteps) (defScope sSteps) [.non] [] fSt _ := ⟨⟨_, _, _, _, _, _, _, _, _, _, rfl, lSt, cSt, .inr ⟨by decide, TD, _, [.none], nT, rfl, lT, rfl, .cons rfl .nil⟩, .inl rfl⟩, kSt⟩
  have gSt := PySem.W.mg_of X G aSt
  have y_len := PySem.W.mg_none_of X G z1
  have y_range := PySem.W.mg_none_of X G z2
  have y_int := PySem.W.mg_none_of X G z3
  have y_bool := PySem.W.mg_none_of X G z4
  have y_isinstance := PySem.W.mg_none_of X G z5
  have y_repr := PySem.W.mg_none_of X G z6
  have y_list := PySem.W.mg_none_of X G z7
  have y_tuple := PySem.W.mg_none_of X G z8
  have y_set := PySem.W.mg_none_of X G z9
  have y_sorted := PySem.W.mg_none_of X G z10
  have y_all := PySem.W.mg_none_of X G z11
  have y_max := PySem.W.mg_none_of X G z12
  have y_min := PySem.W.mg_none_of X G z13
  have y_abs := PySem.W.mg_none_of X G z14
  have y_ValueError := PySem.W.mg_none_of X G z15
  have u_MOST_DIGITS := PySem.W.mg_of X G v1
  have u_GREATEST_DIGIT := PySem.W.mg_of X G v2
  have u_GREATEST_BASE := PySem.W.mg_of X G v3
  refine ⟨PySem.W.fnOf "law" "law" (defArgs sLaw) (defBody sLaw) (defScope sLaw) .none kV33 dc33 pm33 an33 cd33 ct33, fun s v => .of_eq rfl, fun base _ _ => ?_⟩
  have E1 := (ok_InvalidBase (P := l.prog) (w := w) (base := base) FI1 FF TF bF T1 y_ValueError vV).mono (by decide : 2 ≤ 3)
  have E2 := (ok_InvalidDigits (P := l.prog) (w := w) (base := base) FI2 FF TF bF T2 y_ValueError vV).mono (by decide : 2 ≤ 3)
  have E3 := (ok_InvalidBars (P := l.prog) (w := w) (base := base) FI3 FF TF bF T3 y_ValueError vV).mono (by decide : 2 ≤ 3)
  have E4 := (ok_NotScheme (P := l.prog) (w := w) (base := base) FI4 FF TF bF T4 y_ValueError vV).mono (by decide : 2 ≤ 3)
  have E5 := (ok_InvalidNumber (P := l.prog) (w := w) (base := base) FI5 FF TF bF T5 y_ValueError vV).mono (by decide : 2 ≤ 3)
  have E6 := (ok_UnknownDigit (P := l.prog) (w := w) (base := base) FI6 FF TF bF T6 y_ValueError vV).mono (by decide : 2 ≤ 3)
  have G1 := ok_whole (P := l.prog) (w := w) (base := base) F1 y_isinstance y_int y_bool
  have G2 := ok_isint (P := l.prog) (w := w) (base := base) F2 G1 g1 F1.kp b1
  have G3 := ok_isbase (P := l.prog) (w := w) (base := base) F3 G2 g2 F2.kp b2 u_GREATEST_BASE
  have G4 := ok_isdigit (P := l.prog) (w := w) (base := base) F4 G2 g2 F2.kp b2 u_GREATEST_DIGIT
  have G5 := ok_are (P := l.prog) (w := w) (base := base) F5 G4 g4 F4.kp b4 y_all
  have G6 := ok_oneof (P := l.prog) (w := w) (base := base) F6 G4 g4 F4.kp b4
  have G7 := ok_ispair (P := l.prog) (w := w) (base := base) F7 G6 g6 F6.kp b6 y_isinstance y_len y_all y_tuple
  have G8 := ok_diglist (P := l.prog) (w := w) (base := base) F8 G5 g5 F5.kp b5 y_isinstance y_list y_tuple
  have G9 := ok_diffdig (P := l.prog) (w := w) (base := base) F9 G8 g8 F8.kp b8 E2 T2 bI2 u_MOST_DIGITS y_len y_set y_sorted y_tuple
  have G10 := ok_diffpair (P := l.prog) (w := w) (base := base) F10 G7 g7 F7.kp b7 E3 T3 bI3 y_isinstance y_list y_set y_sorted y_tuple
  have GN := ok_new (P := l.prog) (w := w) (base := base) FM1 cS nB nD nR G3 g3 F3.kp b3 G9 g9 F9.kp b9 G10 g10 F10.kp b10 E1 T1 bI1
  have GA := ok_allows (P := l.prog) (w := w) (base := base) FM2 cS nD nR G6 g6 F6.kp b6
  have NK : NotK K CS := notK_of tyS icS
  have ap : Apart K C4 C5 C6 := ⟨exm_off ex4 ic4 ty4 s54 sb5, exm_off ex4 ic4 ty4 s64 sb6, exm_off ex5 ic5 ty5 s65 sb6⟩
  have ISx := ok_issch (P := l.prog) (w := w) (base := base) F20 iS NK gS y_isinstance
  have CSx := ok_checks (P := l.prog) (w := w) (base := base) F21 ISx g20 F20.kp b20 E4 T4 bI4
  have CNx := ok_checkn (P := l.prog) (w := w) (base := base) F22 G1 g1 F1.kp b1 E5 T5 bI5
  have IRx := ok_isright (P := l.prog) (w := w) (base := base) F23 cS mm2 GA bM2
  have CPx := ok_checkp (P := l.prog) (w := w) (base := base) F24 CSx g21 F21.kp b21 CNx g22 F22.kp b22 IRx g23 F23.kp b23 E6 T6 bI6
  have PBx := ok_pbase (mg := mg) (P := l.prog) (w := w) (base := base) FPB cS nB
  have PDx := ok_pdigits (mg := mg) (P := l.prog) (w := w) (base := base) FPD cS nD
  have LFx := ok_left (P := l.prog) (w := w) (base := base) F18 cS pd PDx bPD mm2 GA bM2
  have BHx := ok_behind (mg := mg) (P := l.prog) (w := w) (base := base) F19
  have COx := ok_core (P := l.prog) (w := w) (base := base) F25 cS CSx g21 F21.kp b21 pd PDx bPD pb PBx bPB y_abs y_max
  have STx := ok_steps (P := l.prog) (w := w) (base := base) FSt cS CPx g24 F24.kp b24 LFx g18 F18.kp b18 BHx g19 F19.kp b19 pb PBx bPB
  have ask : AskC K C4 := ⟨by simpa [PySem.W.isClsIn] using ic4, T4.xf, xa, xn, xt, xm⟩
  have kk : PySem.W.kitOne K (.ref C4) (.ref CF) = some true := kit_own xi xy xs
  have DG := ok_digits (P := l.prog) (w := w) (base := base) F14 F13 g13 b13 y_int y_len y_range y_list y_abs
  have PR := ok_pairs (mg := mg) (P := l.prog) (w := w) (base := base) F15
  have SC := ok_scheme (P := l.prog) (w := w) (base := base) F16 F13 g13 b13 DG g14 F14.kp b14 PR g15 F15.kp b15 y_int y_sorted
  have MD := ok_made (P := l.prog) (w := w) (base := base) F17 FM1 ⟨mkS, at1, fn1, kpS⟩ gS GN
  have FT := ok_fits (mg := mg) (P := l.prog) (w := w) (base := base) F26
  have LS := ok_lsteps (P := l.prog) (w := w) (base := base) F27 FT g26 F26.kp b26 y_int y_abs
  have NU := ok_number (P := l.prog) (w := w) (base := base) F28 F13 g13 b13 y_int
  have TO := ok_told (P := l.prog) (w := w) (base := base) F29 STx gSt FSt.kp (stBinds FSt) T4 T5 T6 TF ask kk y_isinstance ap
  have RF := ok_refused (P := l.prog) (w := w) (base := base) F30 COx g25 F25.kp b25 T4
  have NM := ok_names (P := l.prog) (w := w) (base := base) F31 y_repr
  have R := ok_right (P := l.prog) (w := w) (base := base) F32 F13 g13 b13 SC g16 F16.kp b16 MD g17 F17.kp b17 NU g28 F28.kp b28 LS g27 F27.kp b27 COx g25 F25.kp b25 TO g29 F29.kp b29 FSt STx gSt NM g31 F31.kp b31 RF g30 F30.kp b30 y_int y_range y_isinstance y_repr y_len y_list y_bool y_abs y_max
  exact ok_law F33 F11 g11 b11 F12 g12 b12 R g32 F32.kp b32 y_int y_len y_range y_max y_min
end K11
open PySem PySem.W PyProof.Rows
set_option maxRecDepth 100000 in
set_option maxHeartbeats 0 in
theorem PySem.Challenge.cw_oddfigures_k11_steps_by_clauses_holds : PySem.Challenge.rw_oddfigures_k11_steps_by_clauses.Holds := by
  w_on; o_law; k_head; (case hw => w_witness2)
  k_fill
  refine OF.walkG (l := PySem.Challenge.rw_oddfigures_k11_steps_by_clauses) (m := 63) (n := 11) (x := "_law_script") (sp := fun w => K11.spLaw _) rfl (by decide) rfl ⟨rfl, by decide, by decide⟩ (fun w h Y => PySem.W.kIn_of Y) ?F (fun _ _ a ns hl hS => ⟨a, ns, rfl, hS, hl, fun _ => rfl⟩)
  case F =>
    intro w mg fa h KX G hmg
    refine' K11.all_mk KX G hmg ?a1 ?l1 ?c1 ?k1 ?a2 ?l2 ?c2 ?k2 ?a3 ?l3 ?c3 ?k3 ?a4 ?l4 ?c4 ?k4 ?a5 ?l5 ?c5 ?k5 ?a6 ?l6 ?c6 ?k6 ?a7 ?l7 ?c7 ?k7 ?a8 ?l8 ?c8 ?k8 ?a9 ?l9 ?c9 ?k9 ?a10 ?l10 ?c10 ?k10 ?a11 ?l11 ?c11 ?k11 ?a12 ?l12 ?c12 ?k12 ?a13 ?l13 ?c13 ?k13 ?a14 ?l14 ?c14 ?k14 ?a15 ?l15 ?c15 ?k15 ?a16 ?l16 ?c16 ?k16 ?a17 ?l17 ?c17 ?k17 ?a18 ?l18 ?c18 ?k18 ?a19 ?l19 ?c19 ?k19 ?a20 ?l20 ?c20 ?k20 ?a21 ?l21 ?c21 ?k21 ?a22 ?l22 ?c22 ?k22 ?a23 ?l23 ?c23 ?k23 ?a24 ?l24 ?c24 ?k24 ?a25 ?l25 ?c25 ?k25 ?a26 ?l26 ?c26 ?k26 ?a27 ?l27 ?c27 ?k27 ?a28 ?l28 ?c28 ?k28 ?a29 ?l29 ?c29 ?k29 ?a30 ?l30 ?c30 ?k30 ?a31 ?l31 ?c31 ?k31 ?a32 ?l32 ?c32 ?k32 ?a33 ?l33 ?c33 ?k33 ?aF ?rF ?gaF ?atF ?lF ?cF ?kF ?vV ?aC1 ?xC1 ?sa1 ?ex1 ?ty1 ?kC1 ?iC1 ?tI1 ?no1 ?ga1 ?gg1 ?hd1 ?sb1 ?ic1 ?lI1 ?cI1 ?kI1 ?aC2 ?xC2 ?sa2 ?ex2 ?ty2 ?kC2 ?iC2 ?tI2 ?no2 ?ga2 ?gg2 ?hd2 ?sb2 ?ic2 ?lI2 ?cI2 ?kI2 ?aC3 ?xC3 ?sa3 ?ex3 ?ty3 ?kC3 ?iC3 ?tI3 ?no3 ?ga3 ?gg3 ?hd3 ?sb3 ?ic3 ?lI3 ?cI3 ?kI3 ?aC4 ?xC4 ?sa4 ?ex4 ?ty4 ?kC4 ?iC4 ?tI4 ?no4 ?ga4 ?gg4 ?hd4 ?sb4 ?ic4 ?lI4 ?cI4 ?kI4 ?aC5 ?xC5 ?sa5 ?ex5 ?ty5 ?kC5 ?iC5 ?tI5 ?no5 ?ga5 ?gg5 ?hd5 ?sb5 ?ic5 ?lI5 ?cI5 ?kI5 ?aC6 ?xC6 ?sa6 ?ex6 ?ty6 ?kC6 ?iC6 ?tI6 ?no6 ?ga6 ?gg6 ?hd6 ?sb6 ?ic6 ?lI6 ?cI6 ?kI6 ?aS ?pgS ?hdS ?poS ?saS ?mkS ?nB ?nD ?nR ?haS ?xn ?xt ?hmS ?sbS ?icS ?tyS ?kpS ?at1 ?fn1 ?lM1 ?cM1 ?kM1 ?at2 ?fn2 ?lM2 ?cM2 ?kM2 ?xa ?xm ?xs ?xi ?xy ?s54 ?s64 ?s65 ?apB ?gtB ?tkB ?rcB ?apD ?gtD ?tkD ?rcD ?aSt ?lSt ?cSt ?kSt ?lT ?lPB ?cPB ?kPB ?lPD ?cPD ?kPD ?z1 ?z2 ?z3 ?z4 ?z5 ?z6 ?z7 ?z8 ?z9 ?z10 ?z11 ?z12 ?z13 ?z14 ?z15 ?v1 ?v2 ?v3 ?haE1 ?hmE1 ?fcE1 ?nnE1 ?haE2 ?hmE2 ?fcE2 ?nnE2 ?haE3 ?hmE3 ?fcE3 ?nnE3 ?haE4 ?hmE4 ?fcE4 ?nnE4 ?haE5 ?hmE5 ?fcE5 ?nnE5 ?haE6 ?hmE6 ?fcE6 ?nnE6 ?xnE ?xtE ?stE
    (case a1 => k_is)
    (case l1 => k_is)
    (case c1 => k_is)
    (case k1 => k_is)
    (case a2 => k_is)
    (case l2 => k_is)
    (case c2 => k_is)
    (case k2 => k_is)
    (case a3 => k_is)
    (case l3 => k_is)
    (case c3 => k_is)
    (case k3 => k_is)
    (case a4 => k_is)
    (case l4 => k_is)
    (case c4 => k_is)
    (case k4 => k_is)
    (case a5 => k_is)
    (case l5 => k_is)
    (case c5 => k_is)
    (case k5 => k_is)
    (case a6 => k_is)
    (case l6 => k_is)
    (case c6 => k_is)
    (case k6 => k_is)
    (case a7 => k_is)
    (case l7 => k_is)
    (case c7 => k_is)
    (case k7 => k_is)
    (case a8 => k_is)
    (case l8 => k_is)
    (case c8 => k_is)
    (case k8 => k_is)
    (case a9 => k_is)
    (case l9 => k_is)
    (case c9 => k_is)
    (case k9 => k_is)
    (case a10 => k_is)
    (case l10 => k_is)
    (case c10 => k_is)
    (case k10 => k_is)
    (case a11 => k_is)
    (case l11 => k_is)
    (case c11 => k_is)
    (case k11 => k_is)
    (case a12 => k_is)
    (case l12 => k_is)
    (case c12 => k_is)
    (case k12 => k_is)
    (case a13 => k_is)
    (case l13 => k_is)
    (case c13 => k_is)
    (case k13 => k_is)
    (case a14 => k_is)
    (case l14 => k_is)
    (case c14 => k_is)
    (case k14 => k_is)
    (case a15 => k_is)
    (case l15 => k_is)
    (case c15 => k_is)
    (case k15 => k_is)
    (case a16 => k_is)
    (case l16 => k_is)
    (case c16 => k_is)
    (case k16 => k_is)
    (case a17 => k_is)
    (case l17 => k_is)
    (case c17 => k_is)
    (case k17 => k_is)
    (case a18 => k_is)
    (case l18 => k_is)
    (case c18 => k_is)
    (case k18 => k_is)
    (case a19 => k_is)
    (case l19 => k_is)
    (case c19 => k_is)
    (case k19 => k_is)
    (case a20 => k_is)
    (case l20 => k_is)
    (case c20 => k_is)
    (case k20 => k_is)
    (case a21 => k_is)
    (case l21 => k_is)
    (case c21 => k_is)
    (case k21 => k_is)
    (case a22 => k_is)
    (case l22 => k_is)
    (case c22 => k_is)
    (case k22 => k_is)
    (case a23 => k_is)
    (case l23 => k_is)
    (case c23 => k_is)
    (case k23 => k_is)
    (case a24 => k_is)
    (case l24 => k_is)
    (case c24 => k_is)
    (case k24 => k_is)
    (case a25 => k_is)
    (case l25 => k_is)
    (case c25 => k_is)
    (case k25 => k_is)
    (case a26 => k_is)
    (case l26 => k_is)
    (case c26 => k_is)
    (case k26 => k_is)
    (case a27 => k_is)
    (case l27 => k_is)
    (case c27 => k_is)
    (case k27 => k_is)
    (case a28 => k_is)
    (case l28 => k_is)
    (case c28 => k_is)
    (case k28 => k_is)
    (case a29 => k_is)
    (case l29 => k_is)
    (case c29 => k_is)
    (case k29 => k_is)
    (case a30 => k_is)
    (case l30 => k_is)
    (case c30 => k_is)
    (case k30 => k_is)
    (case a31 => k_is)
    (case l31 => k_is)
    (case c31 => k_is)
    (case k31 => k_is)
    (case a32 => k_is)
    (case l32 => k_is)
    (case c32 => k_is)
    (case k32 => k_is)
    (case a33 => k_is)
    (case l33 => k_is)
    (case c33 => k_is)
    (case k33 => k_is)
    (case aF => k_is)
    (case rF => k_is)
    (case gaF => k_is)
    (case atF => k_is)
    (case lF => k_is)
    (case cF => k_is)
    (case kF => k_is)
    (case vV => k_is)
    (case aC1 => k_is)
    (case xC1 => k_is)
    (case sa1 => k_is)
    (case ex1 => k_is)
    (case ty1 => k_is)
    (case kC1 => k_is)
    (case iC1 => k_is)
    (case tI1 => k_is)
    (case no1 => k_is)
    (case ga1 => k_is)
    (case gg1 => k_is)
    (case hd1 => k_is)
    (case sb1 => k_is)
    (case ic1 => k_is)
    (case lI1 => k_is)
    (case cI1 => k_is)
    (case kI1 => k_is)
    (case aC2 => k_is)
    (case xC2 => k_is)
    (case sa2 => k_is)
    (case ex2 => k_is)
    (case ty2 => k_is)
    (case kC2 => k_is)
    (case iC2 => k_is)
    (case tI2 => k_is)
    (case no2 => k_is)
    (case ga2 => k_is)
    (case gg2 => k_is)
    (case hd2 => k_is)
    (case sb2 => k_is)
    (case ic2 => k_is)
    (case lI2 => k_is)
    (case cI2 => k_is)
    (case kI2 => k_is)
    (case aC3 => k_is)
    (case xC3 => k_is)
    (case sa3 => k_is)
    (case ex3 => k_is)
    (case ty3 => k_is)
    (case kC3 => k_is)
    (case iC3 => k_is)
    (case tI3 => k_is)
    (case no3 => k_is)
    (case ga3 => k_is)
    (case gg3 => k_is)
    (case hd3 => k_is)
    (case sb3 => k_is)
    (case ic3 => k_is)
    (case lI3 => k_is)
    (case cI3 => k_is)
    (case kI3 => k_is)
    (case aC4 => k_is)
    (case xC4 => k_is)
    (case sa4 => k_is)
    (case ex4 => k_is)
    (case ty4 => k_is)
    (case kC4 => k_is)
    (case iC4 => k_is)
    (case tI4 => k_is)
    (case no4 => k_is)
    (case ga4 => k_is)
    (case gg4 => k_is)
    (case hd4 => k_is)
    (case sb4 => k_is)
    (case ic4 => k_is)
    (case lI4 => k_is)
    (case cI4 => k_is)
    (case kI4 => k_is)
    (case aC5 => k_is)
    (case xC5 => k_is)
    (case sa5 => k_is)
    (case ex5 => k_is)
    (case ty5 => k_is)
    (case kC5 => k_is)
    (case iC5 => k_is)
    (case tI5 => k_is)
    (case no5 => k_is)
    (case ga5 => k_is)
    (case gg5 => k_is)
    (case hd5 => k_is)
    (case sb5 => k_is)
    (case ic5 => k_is)
    (case lI5 => k_is)
    (case cI5 => k_is)
    (case kI5 => k_is)
    (case aC6 => k_is)
    (case xC6 => k_is)
    (case sa6 => k_is)
    (case ex6 => k_is)
    (case ty6 => k_is)
    (case kC6 => k_is)
    (case iC6 => k_is)
    (case tI6 => k_is)
    (case no6 => k_is)
    (case ga6 => k_is)
    (case gg6 => k_is)
    (case hd6 => k_is)
    (case sb6 => k_is)
    (case ic6 => k_is)
    (case lI6 => k_is)
    (case cI6 => k_is)
    (case kI6 => k_is)
    (case aS => k_is)
    (case pgS => k_is)
    (case hdS => k_is)
    (case poS => k_is)
    (case saS => k_is)
    (case mkS => k_is)
    (case nB => k_is)
    (case nD => k_is)
    (case nR => k_is)
    (case haS => k_is)
    (case xn => k_is)
    (case xt => k_is)
    (case hmS => k_is)
    (case sbS => k_is)
    (case icS => k_is)
    (case tyS => k_is)
    (case kpS => k_is)
    (case at1 => k_is)
    (case fn1 => k_is)
    (case lM1 => k_is)
    (case cM1 => k_is)
    (case kM1 => k_is)
    (case at2 => k_is)
    (case fn2 => k_is)
    (case lM2 => k_is)
    (case cM2 => k_is)
    (case kM2 => k_is)
    (case xa => k_is)
    (case xm => k_is)
    (case xs => k_is)
    (case xi => k_is)
    (case xy => k_is)
    (case s54 => k_is)
    (case s64 => k_is)
    (case s65 => k_is)
    (case apB => k_is)
    (case gtB => k_is)
    (case tkB => k_is)
    (case rcB => k_is)
    (case apD => k_is)
    (case gtD => k_is)
    (case tkD => k_is)
    (case rcD => k_is)
    (case aSt => k_is)
    (case lSt => k_is)
    (case cSt => k_is)
    (case kSt => k_is)
    (case lT => k_is)
    (case lPB => k_is)
    (case cPB => k_is)
    (case kPB => k_is)
    (case lPD => k_is)
    (case cPD => k_is)
    (case kPD => k_is)
    (case z1 => k_is)
    (case z2 => k_is)
    (case z3 => k_is)
    (case z4 => k_is)
    (case z5 => k_is)
    (case z6 => k_is)
    (case z7 => k_is)
    (case z8 => k_is)
    (case z9 => k_is)
    (case z10 => k_is)
    (case z11 => k_is)
    (case z12 => k_is)
    (case z13 => k_is)
    (case z14 => k_is)
    (case z15 => k_is)
    (case v1 => k_is)
    (case v2 => k_is)
    (case v3 => k_is)
    (case haE1 => k_is)
    (case hmE1 => k_is)
    (case fcE1 => k_is)
    (case nnE1 => k_is)
    (case haE2 => k_is)
    (case hmE2 => k_is)
    (case fcE2 => k_is)
    (case nnE2 => k_is)
    (case haE3 => k_is)
    (case hmE3 => k_is)
    (case fcE3 => k_is)
    (case nnE3 => k_is)
    (case haE4 => k_is)
    (case hmE4 => k_is)
    (case fcE4 => k_is)
    (case nnE4 => k_is)
    (case haE5 => k_is)
    (case hmE5 => k_is)
    (case fcE5 => k_is)
    (case nnE5 => k_is)
    (case haE6 => k_is)
    (case hmE6 => k_is)
    (case fcE6 => k_is)
    (case nnE6 => k_is)
    (case xnE => k_is)
    (case xtE => k_is)
    (case stE => k_is)
