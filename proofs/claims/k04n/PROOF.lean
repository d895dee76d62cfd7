import PyProof.Rows.All
import Wide.All
import OpenK.AllK
import Wide.FinOn
import HandS.ForMost
import HandS.IsInst
import HandS.Defaults
import HandS.Wide
import HandS.ForExc
import HandS.ExcInit
import HandS.ExcField
import KE.KExcIs
import KE.KTypeName
import HandS.ClsMeth
import HandS.DictComp
import HandS.More
import PyProof.ReprRoads
import PyProof.ReprLen
import PySem.Challenge.RW_oddfigures_k04_errors_by_class
set_option Elab.async false
set_option linter.all false
set_option maxRecDepth 100000
/-! What the laws of this program have in common: heaps that stay but for one box, the box that draws are taken from, calls by names alone, repr of a truth. -/
namespace OF
open PySem PySem.Spec PyProof.Rows L2

/-! ### heaps that stay but for one place -/
/-- all that was tracked, but for the box at a, is as it was -/
def But (a : Addr) (H H' : Hp) : Prop := ∀ b o, b ≠ a → H b = some o → H' b = some o
theorem But.refl {a : Addr} {H : Hp} : But a H H := fun _ _ _ h => h
theorem But.trans {a : Addr} {H H1 H2 : Hp} (x : But a H H1) (y : But a H1 H2) : But a H H2 := fun b o n h => y b o n (x b o n h)
theorem But.of_same {a : Addr} {H H' : Hp} (x : Same H H') : But a H H' := fun b o _ h => x b o h
theorem But.new {a p : Addr} {H : Hp} {o : HO} (hp : H p = none) : But a H (upd H p o) := fun b u _ h => by
  rw [upd_ne (ne_of_none h hp)]; exact h
theorem But.at_ {a : Addr} {H : Hp} {o : HO} : But a H (upd H a o) := fun b u n h => by
  rw [upd_ne n]; exact h
/-- what was none ahead of the steps is a new place: a store to it keeps all -/
theorem But.store {a p : Addr} {H H1 : Hp} {o : HO} (x : But a H H1) (hp : H p = none) : But a H (upd H1 p o) := fun b u n h => by
  rw [upd_ne (ne_of_none h hp)]; exact x b u n h
theorem But.seqL {K : PySem.W.Frag} {a p : Addr} {H H' : Hp} {xs : List V} (x : But a H H') (n : p ≠ a) (h : SqL K H p xs) : SqL K H' p xs := by
  rcases h with (h | ⟨o, h⟩) | h
  · exact .inl (.inl (x _ _ n h))
  · exact .inl (.inr ⟨o, x _ _ n h⟩)
  · exact .inr h
theorem But.seqT {K : PySem.W.Frag} {a p : Addr} {H H' : Hp} {xs : List V} (x : But a H H') (n : p ≠ a) (h : SqT K H p xs) : SqT K H' p xs := by
  rcases h with (h | ⟨o, h⟩) | h
  · exact .inl (.inl (x _ _ n h))
  · exact .inl (.inr ⟨o, x _ _ n h⟩)
  · exact .inr h
theorem same_new {H : Hp} {p : Addr} {o : HO} (h : H p = none) : Same H (upd H p o) := fun b x e => by
  rw [upd_ne (ne_of_none e h)]; exact e

/-! ### the box -/
/-- at a stands a box: what is left of a large cell, a seed, how many were mixed (at most n) -/
def Box (n : Int) (H : Hp) (a : Addr) : Prop := ∃ b0 b1 b2 : Int, H a = some (.lst [.int b0, .int b1, .int b2]) ∧ 0 ≤ b0 ∧ 0 ≤ b1 ∧ b1 < 2147483648 ∧ 0 ≤ b2 ∧ b2 ≤ n
theorem Box.mono {n m : Int} {H : Hp} {a : Addr} (h : Box n H a) (hm : n ≤ m) : Box m H a := by
  obtain ⟨b0, b1, b2, h1, h2, h3, h4, h5, h6⟩ := h
  exact ⟨b0, b1, b2, h1, h2, h3, h4, h5, by omega⟩
theorem Box.same {n : Int} {H H' : Hp} {a : Addr} (h : Box n H a) (s : Same H H') : Box n H' a := by
  obtain ⟨b0, b1, b2, h1, r⟩ := h
  exact ⟨b0, b1, b2, s _ _ h1, r⟩
theorem Box.new {n : Int} {H : Hp} {a p : Addr} {o : HO} (h : Box n H a) (hp : H p = none) : Box n (upd H p o) a := h.same (same_new hp)
theorem Box.ne {n : Int} {H : Hp} {a p : Addr} (h : Box n H a) (hp : H p = none) : p ≠ a := by
  obtain ⟨b0, b1, b2, h1, r⟩ := h
  exact (ne_of_none h1 hp).symm
theorem Box.upd {n : Int} {H : Hp} {a p : Addr} {o : HO} (h : Box n H a) (hp : p ≠ a) : Box n (L2.upd H p o) a := by
  obtain ⟨b0, b1, b2, h1, r⟩ := h
  exact ⟨b0, b1, b2, by rw [upd_ne hp.symm]; exact h1, r⟩

/-- a draw: box, many; a number from 0 to many - 1, the box goes on -/
def spTake : Sp := fun vs H Q _ => ∃ (a : Addr) (m n : Int), vs = [.ref a, .int m] ∧ Box n H a ∧ n ≤ 1000000 ∧ 0 < m ∧ m.natAbs < 2 ^ 400 ∧
  ∀ (r : Int) (H' : Hp), 0 ≤ r → r < m → But a H H' → Box (n + 1) H' a → Q (.int r) H'
/-- a cell of the script, or a number made of the place -/
def spCell (K : PySem.W.Frag) : Sp := fun vs H Q _ => ∃ (a : Addr) (ns : List Int) (k : Nat), vs = [.ref a, .int k] ∧ SqL K H a (ns.map V.int) ∧ k < 1000 ∧ ∀ c : Int, Q (.int c) H
/-- a new box of a cell -/
def spBox : Sp := fun vs H Q _ => ∃ c : Int, vs = [.int c] ∧ ∀ (p : Addr) (H' : Hp), H p = none → Same H H' → Box 0 H' p → Q (.ref p) H'
/-- a list's items in a drawn order -/
def spMixed (K : PySem.W.Frag) : Sp := fun vs H Q _ => ∃ (a p : Addr) (xs : List V) (n : Int), vs = [.ref a, .ref p] ∧ Box n H a ∧ SqL K H p xs ∧ p ≠ a ∧ xs.length ≤ 1000 ∧ n ≤ 900000 ∧
  ∀ (D : Addr) (ys : List V) (H' : Hp), H D = none → But a H H' → Box (n + xs.length) H' a → H' D = some (.lst ys) → ys.length = xs.length → (∀ y ∈ ys, y ∈ xs) → Q (.ref D) H'

/-! ### calls by names alone -/
section
variable {X : Cx} {CX : CXT} {k : Nat} {f : Addr} {fd : FuncData} {ps ks : List Str} {sp : Sp} {E : XK} {x : Str} {p pos : Pos} {kws : List Keyword} {tk : TA} {g : List Value → List Value → List Value} {gV : List V → List V → List V}
/-- f(k = v, ..) -/
theorem pe_callN0 (F : FnOk X.prog X.w X.K X.mg X.base CX k f fd ps sp) (hr : Room k X.A) (hg : Gl X x) (hm : X.mg x = some (.ref f)) (hk : PySem.W.keepIn X.K (.ref f) = true) (hb : KBn X.K fd ps 0 ks g gV) (hx : Passes CX X E)
    (hkw : PK X kws tk) (hall : (backToKw pos (keywordEach kws X.env)).all (·.1.isSome) = true := by rfl) (hks : (backToKw pos (keywordEach kws X.env)).filterMap (·.1) = ks := by rfl)
    (hdb : (x == ("__debug__" : Str)) = false := by decide)
    (hpl : ((backTo pos (starEach [] X.env)).any (·.1) || (backToKw pos (keywordEach kws X.env)).any (·.1.isNone)) = false := by rfl) :
    PE X (.Call (.Name x p) [] kws pos) (tCallN 0 ks.length sp gV E tNil tk) := by
  refine ⟨fun pins s σ H Q I h => ?_⟩
  refine wpAny_Call_Name_kw (ld_glob I hg hm ?_ hdb)
  refine PySem.W.callWith_KW0 (h₀ := X.base) I.ok.mod.kin hk hall (thn (hkw.run pos pins s σ H _ I h) fun ws s2 ⟨zs, H2, I2, rz, l1, l2, q2⟩ => ⟨I2.kIn, ?_⟩) hpl
  rw [hks]
  exact run_fnN (us := []) (vs := []) F hr hb hx I2 .nil rz l1 l2 q2
/-- % by a positive number: some rest, in its bounds -/
theorem op_modR : OpR X (binaryOp .Mod) (fun x y H Q => ∃ i j : Int, x = .int i ∧ y = .int j ∧ 0 < j ∧ ∀ r : Int, 0 ≤ r → r < j → Q (.int r) H) := by
  intro pins s σ H x y v u Q I rx ry h
  obtain ⟨i, j, e1, e2, hj, q⟩ := h
  exact op_mod pins s σ H x y v u Q I rx ry ⟨i, j, e1, e2, hj, q _ (Int.emod_nonneg _ (by omega)) (Int.emod_lt_of_pos _ hj)⟩
theorem call_repr_bool : CallR X (.builtin "repr") (fun xs H Q => ∃ b, xs = [.bl b] ∧ Q (.str (if b then "True" else "False")) H) := by
  intro pins s σ H xs us Q I r h
  obtain ⟨b, rfl, q⟩ := h
  obtain ⟨u, rfl, hu⟩ := vals1 r
  cases hu
  exact PySem.P.repr_of_bool ⟨.str _, H, I.tok _, ⟨_, rfl⟩, q⟩
end
end OF
namespace OF
open PySem PySem.Spec PyProof.Rows L2
/-- len of a list or tuple -/
abbrev rLenS (K : PySem.W.Frag) : List V → Hp → VK → Prop := fun xs H Q => ∃ p ys, xs = [.ref p] ∧ (SqL K H p ys ∨ SqT K H p ys) ∧ Q (.int ys.length) H
theorem tYes_if {σ : L2.St} {H : Hp} {A B : Hp → Prop} (h : A H) : tYes σ H (fun b H3 => if b = true then A H3 else B H3) := by
  show (if true = true then A H else B H)
  rw [if_pos rfl]
  exact h
/-- both ways of a test lead to the same rest -/
theorem iteDup {c : Bool} {A B R : Prop} (f : R → c = true → A) (g : R → c = false → B) (r : R) : if c = true then A else B := by
  cases c with
  | true => exact iteT (f r rfl)
  | false => exact iteF (g r rfl)
theorem iteAnd {c d : Bool} {A : Prop} {Q : V → Hp → Prop} {H : Hp} (hA : Q (.bl d) H → A) (h : Q (.bl (c && d)) H) : if c = true then A else Q (.bl false) H := by
  cases c with
  | true => exact iteT (hA h)
  | false => exact iteF h
theorem iteOr {c d : Bool} {A : Prop} {Q : V → Hp → Prop} {H : Hp} (hA : Q (.bl d) H → A) (h : Q (.bl (c || d)) H) : if c = true then Q (.bl true) H else A := by
  cases c with
  | true => exact iteT h
  | false => exact iteF (hA h)
/-- an if whose test is known -/
theorem iteTB {c : Bool} {A B : Prop} (e : c = true) (h : A) : if c = true then A else B := by rw [if_pos e]; exact h
theorem iteFB {c : Bool} {A B : Prop} (e : c = false) (h : B) : if c = true then A else B := by rw [if_neg (by rw [e]; exact Bool.false_ne_true)]; exact h
/-- two values that are the same: no difference -/
theorem neSame {x y : V} (h : x = y) : (!decide (x = y)) = false := by rw [decide_eq_true h]; rfl
theorem eqSame {x y : V} (h : x = y) : decide (x = y) = true := decide_eq_true h
theorem seq_past {K : PySem.W.Frag} {H H1 H2 : Hp} {a p : Addr} {xs : List V} (hp : H p = none) (s : Same H H1) (b : But p H1 H2) (h : SqL K H a xs) : SqL K H2 a xs := by
  rcases h with (h | ⟨o, h⟩) | h
  · exact .inl (.inl (b _ _ (ne_of_none h hp) (s _ _ h)))
  · exact .inl (.inr ⟨o, b _ _ (ne_of_none h hp) (s _ _ h)⟩)
  · exact .inr h
/-- an item at a place within -/
theorem pick {xs : List V} {r : Int} (h0 : 0 ≤ r) (h1 : r < xs.length) : ∃ v, atI xs r = some v ∧ v ∈ xs := by
  obtain ⟨k, rfl⟩ := Int.eq_ofNat_of_zero_le h0
  have hk : k < xs.length := by omega
  exact ⟨xs[k], atI_nat (List.getElem?_eq_getElem hk), List.getElem_mem hk⟩
theorem ixN_in {n : Nat} {r : Int} (h0 : 0 ≤ r) (h1 : r < n) : ixN n r = some r.toNat := by
  unfold ixN
  rw [if_pos h0, if_pos h1]
/-- a value of a kind that is no int, or a truth -/
inductive Odd (H : Hp) : V → Prop
  | non : Odd H .non
  | bl (b : Bool) : Odd H (.bl b)
  | str (z : Str) : Odd H (.str z)
  | lst {a : Addr} {xs : List V} (e : H a = some (.lst xs)) : Odd H (.ref a)
  | tup {a : Addr} {xs : List V} (e : H a = some (.tup xs)) : Odd H (.ref a)
  | dK {a : Addr} {kvs : List (Key × V)} (e : H a = some (.dK kvs)) : Odd H (.ref a)
theorem Odd.same {H H' : Hp} {x : V} (h : Odd H x) (s : Same H H') : Odd H' x := by
  cases h with
  | non => exact .non
  | bl b => exact .bl b
  | str z => exact .str z
  | lst e => exact .lst (s _ _ e)
  | tup e => exact .tup (s _ _ e)
  | dK e => exact .dK (s _ _ e)
theorem Odd.kit {K : PySem.W.Frag} {H : Hp} {x : V} (h : Odd H x) : ∃ (t : Value) (b : Bool), TyX K H x t ∧ PySem.W.kitOne K t (.type "int") = some b ∧ (b = true → PySem.W.kitOne K t (.type "bool") = some true) := by
  cases h with
  | non => exact ⟨_, false, .base .non, kit_ty (by decide +kernel), fun z => nomatch z⟩
  | bl b => exact ⟨_, true, .base (.bl b), kit_ty (by decide +kernel), fun _ => kit_ty (by decide +kernel)⟩
  | str z => exact ⟨_, false, .base (.str z), kit_ty (by decide +kernel), fun z => nomatch z⟩
  | lst e => exact ⟨_, false, .base (.lst e), kit_ty (by decide +kernel), fun z => nomatch z⟩
  | tup e => exact ⟨_, false, .base (.tup e), kit_ty (by decide +kernel), fun z => nomatch z⟩
  | dK e => exact ⟨_, false, .base (.dK e), kit_ty (by decide +kernel), fun z => nomatch z⟩
theorem Odd.but {a : Addr} {H H' : Hp} {x : V} (h : Odd H x) (hx : x ≠ .ref a) (t : But a H H') : Odd H' x := by
  cases h with
  | non => exact .non
  | bl b => exact .bl b
  | str z => exact .str z
  | lst e => exact .lst (t _ _ (fun z => hx (congrArg V.ref z)) e)
  | tup e => exact .tup (t _ _ (fun z => hx (congrArg V.ref z)) e)
  | dK e => exact .dK (t _ _ (fun z => hx (congrArg V.ref z)) e)
theorem Same.store {p : Addr} {H H1 : Hp} {o : HO} (x : Same H H1) (hp : H p = none) : Same H (upd H1 p o) := fun b u h => by
  rw [upd_ne (ne_of_none h hp)]; exact x b u h
theorem q_eq {Q : V → Hp → Prop} {H : Hp} {x y : V} (h : x = y) (q : Q (.bl true) H) : Q (.bl (decide (x = y))) H := by
  rw [decide_eq_true h]; exact q
end OF
/-! e.__class__.__name__ of an error that is being made. -/
namespace PySem.W
open PySem PySem.Calls PyProof.Rows PyProof.V PySem.Spec Builtin Builtin.ObjectAttr Builtin.Getset_descriptor
section
variable {prog : Program} {w : World} {A : Around} {E : Value → Shared → Prop} {s : Shared} {K : Frag} {x C : Addr} {ox : Obj} {od : Option Obj} {expr : Bool} {Q : Value → Shared → Prop} {gt : Option Value}
theorem exc_class (X : K.In s.heap) (I : InstAt s.heap x ox C od) (hga : findIn K (.ref C) "__getattribute__" = some (some (.builtin "BaseException.__getattribute__"))) (hgt : findIn K (.ref C) "__getattr__" = some gt)
    (hsub : subIn K (.ref C) (.type "BaseException") = some true) (hf : findObj K C od "__class__" = some (.bind (.builtin "getset_descriptor.__get__") (.builtin "object.__class__"))) (hm : mroIn K C (.type "object") = some true)
    (h : Q (.ref C) { s with toks := s.toks + 1 }) : wpAny (model prog w) A (getAttr (.ref x) "__class__" expr) Q E s := by
  obtain ⟨hp, g, d, t, os⟩ := s
  have L0 := I.type (M := model prog w)
  have L1 := looks_findIn (M := model prog w) X hga
  have L2 := looks_findIn (M := model prog w) X hgt
  have L3 := looks_find (M := model prog w) X I hf
  have sub : Looks (model prog w) hp (isInstance (.ref x) (.type "BaseException")) true := L0.andThen (looks_subIn X hsub)
  have hx0 : (expr && onTheHeap (Value.builtin "BaseException.__getattribute__")) = false := by cases expr <;> rfl
  have hx2 : (Value.builtin "BaseException.__getattribute__" == Value.builtin "object.__getattribute__") = false := by decide +kernel
  have hx1 : (onTheHeap (Value.ref C) && Value.builtin "BaseException.__getattribute__" == Value.builtin "object.__getattribute__") = false := by rw [hx2]; rfl
  unfold getAttr getAttrBy
  refine wpAny_bind (wpAny_mkText (wpAny_holding (wpAny_bind (L0.at (wpAny_bind (L1.at ?_))))))
  show wpAny _ _ (if (onTheHeap (Value.ref C) && Value.builtin "BaseException.__getattribute__" == Value.builtin "object.__getattribute__") = true then _ else _) _ _ _
  rw [hx1, if_neg Bool.false_ne_true]
  unfold getAttrByItsOwn hookBefore
  refine wpAny_bind ?_
  rw [if_pos (show onTheHeap (Value.ref C) = true from rfl)]
  refine L2.at ?_
  refine wpAny_bind (wpAny_attempt (wpAny_holding ?_))
  unfold callGetattribute
  rw [hx0, if_neg Bool.false_ne_true]
  unfold boundAndCalled
  rw [PySem.F.excAttr_ValueError.ga.bind (.ref x)]
  refine wpAny_bind (wpAny_pure ?_)
  show wpAny _ _ (call (.builtin "BaseException.__getattribute__") [.ref x, .str "__class__" t]) _ _ _
  refine wpAny_call (codeAny_call_builtin PySem.F.excAttr_ValueError.ga.plain PySem.F.entry_bexc_ga ?_)
  refine @PySem.W.check_slot (model prog w) _ _ ⟨hp, g, d, t + 1, os⟩ "BaseException.__getattribute__" "BaseException" "__getattribute__" (.ref x) [.str "__class__" t] [] _ (by decide +kernel) (by decide +kernel) sub (PySem.F.args_bexc_ga (.ref x) (.str "__class__" t)) ?_
  unfold Builtin.«object.__getattribute__»
  refine wpAny_bind (wpAny_of_eq (a := ((Value.ref x : Value), [Value.str "__class__" t])) (by first | rfl | (simp only [slotArgs]; rfl)) ?_)
  refine wpAny_bind (wpAny_pure (wpAny_bind (L0.at (wpAny_bind (L3.at ?_)))))
  refine wpAny_bind (wpAny_holding (wpAny_call (class_get (s := ⟨hp, g, d, t + 1, os⟩) (ox := ox) (od := od) X I hm ?_)))
  refine wpAny_pure ?_
  show wpAny _ _ (handedOut (.ref C)) _ _ _
  rw [handedOut_of (show handedIn (.ref C) = true from rfl)]
  first | exact wpAny_pure h | exact wpAny_pure (wpAny_pure h)
theorem cn_dga (d tp : Value) (a : Addr) : descrGetArgs ⟨[d, .ref a, tp], []⟩ = pure (d, some (.ref a), given tp) := by kernel_rfl
theorem cn_get {R : Result → Shared → Prop} {tp v : Value} {o : Obj} (ho : s.heap.get? C = some o) (hc : o.cls = .type "type") (hv : o.slots[2]?.join = some v) (h : R (.ok (.ret v)) s) :
    codeAny (model prog w) A (.call (.builtin "getset_descriptor.__get__") ⟨[.builtin "type.__name__", .ref C, tp], []⟩) R s := by
  obtain ⟨hh, g, dr, t, os⟩ := s
  have L0 : Looks (model prog w) hh (typeOf (.ref C)) (.type "type") := by
    rw [← hc]
    exact (Looks.ld ho).andThen .now
  have L1 : Looks (model prog w) hh (isSubtype (.type "type") (.type "type")) true := Looks.of_pure (by rw [isSubtype_type]; kernel_rfl)
  refine codeAny_call_builtin KF.slot_gs.plain KF.entry_gs (KF.slot_gs.check _ _ _ _ _ _ _ _ ktyn_type (KF.args_gs _ _ _) ?_)
  unfold Builtin.«getset_descriptor.__get__» descrGet
  rw [cn_dga]
  refine wpAny_bind (wpAny_pure ?_)
  unfold descrGetter descrCheckInstance descrNameAndClass isInstance
  simp only [ktyn_owner]
  repeat lk
  refine ⟨Code.quiet_builtin _ (by decide +kernel), codeAny_builtin ktyn_entry ?_⟩
  unfold Builtin.«type.__name__» keptObject slotAt
  dsimp only
  refine wpAny_bind (wpAny_bind (wpAny_loadPart_at ho (wpAny_pure ?_)))
  rw [hv]
  exact wpAny_pure h
theorem cn_attr {v : Value} {o : Obj} (X : K.In s.heap) (ty : typeIn K (.ref C) = some (.type "type")) (st : nsIn K cStatics "thirdparty.any" = some none)
    (e : findCls K (.ref C) (.type "type") "__name__" = some (.get (.builtin "getset_descriptor.__get__") (.builtin "type.__name__") (.ref C) (.type "type"))) (lk : K.lookup C = some o) (hc : o.cls = .type "type") (hv : o.slots[2]?.join = some v) (hh : handedIn v = true)
    (h : Q v { s with toks := s.toks + 1 }) : wpAny (model prog w) A (getAttr (.ref C) "__name__" expr) Q E s := by
  have ho := X _ _ lk
  have L0 : Looks (model prog w) s.heap (typeOf (.ref C)) (.type "type") := by
    rw [← hc]
    exact (Looks.ld ho).andThen .now
  have hg : findIn K (.type "type") "__getattribute__" = some (some (.builtin "type.__getattribute__")) := type_tga
  refine cls_open X (looks_opaque X st) L0 hg (looks_hook X (r := none) (by rfl)) (by show subIn K _ _ = _; rfl) e ?_
  show wpAny _ _ (do ret (← holding [Value.builtin "type.__name__"] (call (.builtin "getset_descriptor.__get__") [.builtin "type.__name__", .ref C, .type "type"]))) _ _ _
  refine wpAny_bind (wpAny_holding (wpAny_call (cn_get (s := { s with toks := s.toks + 1 }) ho hc hv ?_)))
  refine wpAny_pure ?_
  show wpAny _ _ (handedOut v) _ _ _
  rw [handedOut_of hh]
  first | exact wpAny_pure h | exact wpAny_pure (wpAny_pure h)
end
end PySem.W
namespace OF
open PySem PySem.Spec PyProof.Rows L2
/-- what an error class says, so that the name of its class is told -/
structure NamC (K : PySem.W.Frag) (C : Addr) (nm : Str) : Prop where
  xf : XfC K C
  cl : (PySem.W.clsIn K C).isSome = true
  ha : PySem.W.findIn K (.ref C) "__class__" = some (some (.builtin "object.__class__"))
  hn : PySem.W.specialIn K (.builtin "object.__class__") "__get__" = some (some (.builtin "getset_descriptor.__get__"))
  ht : PySem.W.takesIn K (.builtin "object.__class__") = some true
  hm : PySem.W.mroIn K C (.type "object") = some true
  ty : PySem.W.typeIn K (.ref C) = some (.type "type")
  st : PySem.W.nsIn K cStatics "thirdparty.any" = some none
  fc : PySem.W.findCls K (.ref C) (.type "type") "__name__" = some (.get (.builtin "getset_descriptor.__get__") (.builtin "type.__name__") (.ref C) (.type "type"))
  lk : ∃ (o : Obj) (t : Tok), K.lookup C = some o ∧ o.cls = .type "type" ∧ o.slots[2]?.join = some (.str nm t)
  no : PySem.W.findIn K (.ref C) "class_name" = some none
section
variable {X : Cx} {e : Expr} {te : TE} {p1 p2 : Pos}
/-- e.__class__.__name__ -/
def tCname (K : PySem.W.Frag) (te : TE) : TE := fun σ H Q => te σ H fun x H1 => ∃ (a C : Addr) (nm : Str), x = .ref a ∧ H1 a = some (exo a C none) ∧ NamC K C nm ∧ Q (.str nm) H1
theorem pe_cname (he : PE X e te) (hb : attributeBase e "__class__" X.env (eval e X.env) = eval e X.env := by rfl) (hb2 : attributeBase (.Attribute e "__class__" p1) "__name__" X.env (eval (.Attribute e "__class__" p1) X.env) = eval (.Attribute e "__class__" p1) X.env := by rfl) :
    PE X (.Attribute (.Attribute e "__class__" p1) "__name__" p2) (tCname X.K te) := by
  refine ⟨fun pins s σ H Q I h => ?_⟩
  refine attr_of hb2 (attr_of hb (thn (he.run pins s σ H _ I h) fun u s1 hh => ?_))
  obtain ⟨x, H1, I1, rx, a, C, nm, ex, ea, N, q⟩ := hh
  subst ex
  obtain rfl : u = Value.ref a := rx
  obtain ⟨t1, ho⟩ := exo_at I1.hok ea
  have J : PySem.W.InstAt s1.heap a { cls := .ref C, dict := none, data := .fields #[.ref t1, .none, .none, .none, .bool false, .none] } C none := ⟨ho, rfl, rfl, trivial⟩
  refine PySem.W.exc_class I1.kIn J N.xf.ga N.xf.gg N.xf.exC (PySem.W.findObj_dataE N.cl N.ha N.hn N.ht) N.hm ?_
  obtain ⟨o, t, lk, hc, hv⟩ := N.lk
  refine PySem.W.cn_attr (s := { s1 with toks := s1.toks + 1 }) (I1.tok _).kIn N.ty N.st N.fc lk hc hv rfl ?_
  exact ⟨.str nm, H1, (I1.tok _).tok _, ⟨_, rfl⟩, q⟩
end
end OF
/-! The errors of the program: two classes deep, each with an __init__ of its own that calls the one above by its class. -/
namespace OF
open PySem PySem.Spec PyProof.Rows L2

/-! ### C.m(e, ..), m a plain def read off the class -/
section
variable {X : Cx} {CX : CXT} {k : Nat} {C f : Addr} {fd : FuncData} {ps : List Str} {sp : Sp} {E : XK} {x m : Str} {p p1 p2 pos : Pos} {e : Expr} {es : List Expr} {t : TA} {mc : Value}
theorem pe_unb {pl : Sem Bool} (F : FnOk X.prog X.w X.K X.mg X.base CX k f fd ps sp) (hr : Room k X.A) (hg : Gl X x) (hm : X.mg x = some (.ref C)) (r : ClX.CRead X.K C mc) (c : ClX.CVal X.K C mc m (.ref f) (.ref f)) (hk : PySem.W.keepIn X.K (.ref f) = true)
    (hb : Binds X.K fd ps []) (hx : Passes CX X E) (ha : PA X (e :: es) t)
    (hc : eval (.Call (.Attribute (.Name x p1) m p2) (e :: es) [] pos) X.env = (do
      let ov ← eval (.Name x p1) X.env
      standAt p2.atName
      let (f, first) ← holding [ov] (getMethod ov m pl)
      callWith pos f first (backTo pos (starEach (e :: es) X.env)) (backToKw pos (keywordEach [] X.env))) := by rfl)
    (hdb : (x == ("__debug__" : Str)) = false := by decide) (he : starEach (e :: es) X.env = (false, eval e X.env) :: starEach es X.env := by rfl) (hpl : (backTo pos (starEach es X.env)).any (·.1) = false := by rfl) :
    PE X (.Call (.Attribute (.Name x p1) m p2) (e :: es) [] pos) (tCall sp [] E t) := by
  refine ⟨fun pins s σ H Q I h => ?_⟩
  refine PySem.W.methodCall_KW (ld_glob I hg hm ?_ hdb) hc
  refine PySem.W.method_cls I.kIn r.ga (ClX.getcval_ok I r c fun s' I' => ?_)
  show wpAny _ _ (callWith pos (Value.ref f) [] (backTo pos (starEach (e :: es) X.env)) []) _ _ _
  refine PySem.W.callWith_K (h₀ := X.base) I.ok.mod.kin hk (thn (ha.run pos pins s' σ H _ I' h) fun us s1 ⟨vs, H1, I1, r1, q⟩ => ⟨I1.kIn, ?_⟩) he hpl
  exact run_fn F hr hb .nil hx I1 r1 q
end

/-! ### promises of the makers -/
/-- FigureError.__init__: the name of the class is kept -/
def spFig (K : PySem.W.Frag) : Sp := fun vs H Q _ => ∃ (a C : Addr) (v : V) (nm : Str), vs = [.ref a, v] ∧ OexC K C ∧ NamC K C nm ∧ H a = some (exo a C none) ∧ ∀ d, H d = none → d ≠ a → Q .non (upd (upd H d (exd d [("class_name", .str nm)])) a (exo a C (some d)))
/-- X.__init__ of the class at C: one field, and what was kept -/
def spInit (K : PySem.W.Frag) (f : Str) (C : Addr) : Sp := fun vs H Q _ => ∃ (a : Addr) (v : V), vs = [.ref a, v] ∧ H a = some (exo a C none) ∧ ∀ (fs : List (Str × V)) (d : Addr), H d = none → d ≠ a → Q .non (upd (upd H d (exd d ((f, v) :: fs))) a (exo a C (some d)))
theorem upd_swap {H : Hp} {a d : Addr} {x y z : HO} (n : d ≠ a) : upd (upd (upd H d x) a y) d z = upd (upd H d z) a y := by
  funext b
  by_cases h : b = d
  · subst h
    rw [upd_same, upd_ne n, upd_same]
  · rw [upd_ne h]
    by_cases h2 : b = a
    · subst h2
      rw [upd_same, upd_same]
    · rw [upd_ne h2, upd_ne h2, upd_ne h, upd_ne h]
/-- what the top says of FigureError -/
structure FigC (K : PySem.W.Frag) (mg : Str → Option Value) (C f : Addr) : Prop where
  g : mg "FigureError" = some (.ref C)
  rd : ClX.CRead K C (.type "type")
  at_ : PySem.W.findCls K (.ref C) (.type "type") "__init__" = some (.val (.ref f))
  kp : PySem.W.keepIn K (.ref f) = true
theorem FigC.val {K : PySem.W.Frag} {mg : Str → Option Value} {C f : Addr} (T : FigC K mg C f) : ClX.CVal K C (.type "type") "__init__" (.ref f) (.ref f) := ⟨T.at_, rfl⟩
/-- what the top says of an error class below it, its field f, its maker at fI -/
structure ErrC (K : PySem.W.Frag) (mg : Str → Option Value) (x f : Str) (C fI : Addr) : Prop where
  g : mg x = some (.ref C)
  ox : OexC K C
  iC : PySem.W.findIn K (.ref C) "__init__" = some (some (.ref fI))
  tI : PySem.W.typeIn K (.ref fI) = some (.type "function")
  no : PySem.W.findIn K (.ref C) f = some none
  xf : XfC K C
  te : PySem.W.exmOne K (.ref C) (.ref C) = some true
  nam : ∃ nm, NamC K C nm
/-- a raised error of the class at C with its field -/
def Raised (C : Addr) (f : Str) (v : V) (H : Hp) (E : XK) : Prop := ∀ (fs : List (Str × V)) (d : Addr) (H' : Hp), H d = none → Same H H' → H' d = some (.xd ((f, v) :: fs)) → E (.ref C) (some d) H'
theorem raised_ok {C : Addr} {f : Str} {v : V} {H H1 : Hp} {E : XK} (q : Raised C f v H E) (s : Same H H1) {K : PySem.W.Frag} {σ : L2.St} {D : Ends} : 
    ([v].length ≤ 1000 ∧ ∀ a, H1 a = none → spInit K f C (.ref a :: ([v] ++ [])) (upd H1 a (exo a C none))
      (fun v' H2 => v' = .non ∧ ∃ (d : Addr) (fs : List (Str × V)), H2 a = some (exo a C (some d)) ∧ H2 d = some (exd d fs) ∧ H1 d = none ∧ E (.ref C) (some d) (upd (del H2 a) d (.xd fs))) (fun _ _ _ => False)) := by
  refine ⟨(by show 1 ≤ 1000; decide), fun a ha => ⟨a, v, rfl, upd_same, fun fs d hd nda => ⟨rfl, d, (f, v) :: fs, upd_same, ?_, ?_, ?_⟩⟩⟩
  · rw [upd_ne nda]
    exact upd_same
  · rw [upd_ne nda] at hd
    exact hd
  · rw [upd_ne nda] at hd
    refine q fs d _ (s.free hd) (fun b o h => ?_) upd_same
    have h1 := s b o h
    have hba : b ≠ a := ne_of_none h1 ha
    have hbd : b ≠ d := ne_of_none h1 hd
    rw [upd_ne hbd, del_ne hba, upd_ne hba, upd_ne hbd, upd_ne hba]
    exact h1
/-- dict comprehensions over a range -/
theorem dc_range {lo : Int} {n : Nat} {g : TG} {tt : TT} {tk tv : TE} {vs : List Nat} {σ : L2.St} {H1 : Hp} {D : Addr} {Qd : Hp → Prop} (Pv : Nat → Hp → Prop) (h0 : Pv 0 (upd H1 D (.dK [])))
    (hs : ∀ i H, i < n → Pv i H → g (.int (lo + i)) (wipe σ vs) H fun σ2 H2 => wipe σ2 vs = wipe σ vs ∧ tt σ2 H2 fun b H3 =>
      if b = true then tk σ2 H3 fun y H4 => tv σ2 H4 fun z H5 => ∃ kvs k, y = kV k ∧ H5 D = some (.dK kvs) ∧ kvs.length < sizeLine ∧ Pv (i + 1) (upd H5 D (.dK (putK kvs k z))) else Pv (i + 1) H3) (hd : ∀ H, Pv n H → Qd H) :
    ∃ W : Nat → Nat → Hp → Prop, (∃ m, W 0 m (upd H1 D (.dK []))) ∧ ∀ i m H, W i m H →
      ((Itr lo n).stop i H ∧ Qd H) ∨ ((Itr lo n).go i H ∧ ∃ Nx : Hp → Prop, (∀ H', Nx H' → ∃ m', m' < m ∧ W (i + 1) m' H') ∧ ∀ x H', (Itr lo n).yld i H x H' → g x (wipe σ vs) H' fun σ2 H2 => wipe σ2 vs = wipe σ vs ∧ tt σ2 H2 fun b H3 =>
        if b = true then tk σ2 H3 fun y H4 => tv σ2 H4 fun z H5 => ∃ kvs k, y = kV k ∧ H5 D = some (.dK kvs) ∧ kvs.length < sizeLine ∧ Nx (upd H5 D (.dK (putK kvs k z))) else Nx H3) := by
  refine ⟨fun i m H => m = n - i ∧ i ≤ n ∧ Pv i H, ⟨n, by simp, Nat.zero_le _, h0⟩, ?_⟩
  rintro i m H ⟨rfl, hi, p⟩
  by_cases hlt : i < n
  · refine .inr ⟨hlt, Pv (i + 1), fun H' p' => ⟨n - (i + 1), by omega, rfl, hlt, p'⟩, fun x H' y => ?_⟩
    obtain ⟨e, y⟩ := y
    subst e y
    exact hs i _ hlt p
  · have e : i = n := by omega
    subst e
    exact .inl ⟨Nat.le_refl _, hd H p⟩
/-- an error of a class is what an except clause of that class names -/
theorem exm_own {K : PySem.W.Frag} {S : Addr} (h1 : PySem.W.subIn K (.ref S) (.type "BaseException") = some true) (h2 : PySem.W.isClsIn K S = true) (h3 : PySem.W.typeIn K (.ref S) = some (.type "type")) (h4 : PySem.W.subIn K (.ref S) (.ref S) = some true) :
    PySem.W.exmOne K (.ref S) (.ref S) = some true := by
  have h2' : (PySem.W.clsIn K S).isSome = true := h2
  unfold PySem.W.exmOne
  simp only [h1, beq_self_eq_true, if_true]
  unfold PySem.W.kitCls
  simp only [h3, h4, h2', beq_self_eq_true, Bool.and_self, if_true]

/-! ### isinstance(e, C), e the error that the suite holds, with a dict of its own -/
/-- what the class D of the error says, so that it is asked rightly -/
structure AskC (K : PySem.W.Frag) (D : Addr) : Prop where
  cl : (PySem.W.clsIn K D).isSome = true
  xf : XfC K D
  ha : PySem.W.findIn K (.ref D) "__class__" = some (some (.builtin "object.__class__"))
  hn : PySem.W.specialIn K (.builtin "object.__class__") "__get__" = some (some (.builtin "getset_descriptor.__get__"))
  ht : PySem.W.takesIn K (.builtin "object.__class__") = some true
  hm : PySem.W.mroIn K D (.type "object") = some true
def rAsk (K : PySem.W.Frag) (D a : Addr) (cls : Value) (d : Option Addr) : List V → Hp → VK → Prop := fun xs H Q => ∃ (dd : Addr) (fs : List (Str × V)) (c : V) (cv : Value) (b : Bool), cls = .ref D ∧ d = some dd ∧ H dd = some (.xd fs) ∧ xs = [.ref a, c] ∧ (∀ u, RelV c u → u = cv) ∧ PySem.W.kitOne K (.ref D) cv = some b ∧ Q (.bl b) H
theorem call_ask {X : Cx} {a D : Addr} {oe : Obj} {cls : Value} {d : Option Addr} {pn : List (Addr × Obj)} (C : AskC X.K D) (hz : Zc cls d oe) (hf : ∃ vs, oe.data = .fields vs) : CallR (X.suite a ((a, oe) :: pn)) (.builtin "isinstance") (rAsk X.K D a cls d) := by
  intro pins s σ H xs us Q I r h
  obtain ⟨dd, fs, c, cv, b, ec, ed, ea, rfl, hcv, e, q⟩ := h
  obtain ⟨u1, u2, rfl, r1, r2⟩ := vals2 r
  cases r1
  cases hcv _ r2
  subst ec
  subst ed
  obtain ⟨hget, _⟩ := I.pin (a, oe) (List.mem_append_left _ List.mem_cons_self)
  obtain ⟨vs, hv⟩ := hf
  have hx : ObjOk X.prog X.w H s.heap dd (.xd fs) := I.hok dd _ ea
  obtain ⟨mA, hns, _⟩ := hx
  obtain ⟨od, ho, _⟩ := lookIn_ns hns
  have J : PySem.W.InstAt s.heap a oe D (some od) := ⟨hget, hz.1, by unfold PySem.W.notCls; rw [hv] <;> rfl, by rw [hz.2]; exact ho⟩
  exact PySem.W.kia_one (PySem.W.kitx_exc C.cl C.xf.ga C.xf.gg C.xf.exC C.ha C.hn C.ht C.hm) I.kIn J e (fun z => nomatch z) fun tk => ⟨.bl b, H, I.kept (t' := tk) fun _ _ z => z, rfl, q⟩

/-! ### lists of the same things -/
/-- l != l2, two lists of the very same things -/
def rNeSame (K : PySem.W.Frag) : R2 := fun x y H Q => ∃ (l l2 : Addr) (xs : List V), x = .ref l ∧ y = .ref l2 ∧ SqL K H l xs ∧ SqL K H l2 xs ∧ (∀ v ∈ xs, flatB v = true ∨ ∃ a, v = .ref a) ∧ Q (.bl false) H
theorem op_neSame {X : Cx} (hu : X.A.units + 64 < cLine) : OpR X (compareOp .NotEq) (rNeSame X.K) := by
  intro pins s σ H x y v u Q I rx ry h
  obtain ⟨l, l2, xs, rfl, rfl, h1, h2, hs, q⟩ := h
  cases rx
  cases ry
  obtain ⟨us, r1, p1, _⟩ := I.list h1
  obtain ⟨ws, r2, p2, _⟩ := I.list h2
  have n1 := r1.length
  have n2 := r2.length
  have hsz : us.toArray.size = ws.toArray.size := by
    rw [List.size_toArray, List.size_toArray]
    omega
  have key := SeqAt.RcNeAt.lists (A := X.A) (e := fun _ => true) p1.isList p2.isList hsz (by omega) (fun j h1 h2 => ?_)
  · refine key X.prog X.w _ _ ?_
    rw [show ((List.range us.toArray.size).all fun _ => true) = true from List.all_eq_true.mpr fun _ _ => rfl]
    exact ⟨.bl false, H, I, rfl, q⟩
  · have j1 : j < us.length := by simpa using h1
    have jx : j < xs.length := by omega
    obtain ⟨a, ea, ra⟩ := Vals.get r1 (List.getElem?_eq_getElem jx)
    obtain ⟨b, eb, rb⟩ := Vals.get r2 (List.getElem?_eq_getElem jx)
    have e1 : us.toArray[j] = a := by
      have := List.getElem?_eq_getElem j1
      rw [this] at ea
      simpa using Option.some.inj ea
    have e2 : ws.toArray[j] = b := by
      have j2 : j < ws.length := by omega
      have := List.getElem?_eq_getElem j2
      rw [this] at eb
      simpa using Option.some.inj eb
    rw [e1, e2]
    rcases hs _ (List.getElem_mem jx) with hf | ⟨p, hp⟩
    · exact eqAt_same ra rb hf
    · rw [hp] at ra rb
      cases ra
      cases rb
      exact SeqAt.EqAt.same _
/-- isinstance's answer by an own class that is the class itself or above it -/
theorem kit_own {K : PySem.W.Frag} {S C : Addr} (h2 : PySem.W.isClsIn K C = true) (h3 : PySem.W.typeIn K (.ref C) = some (.type "type")) (h4 : PySem.W.subIn K (.ref S) (.ref C) = some true) : PySem.W.kitOne K (.ref S) (.ref C) = some true := by
  have h2' : (PySem.W.clsIn K C).isSome = true := h2
  unfold PySem.W.kitOne
  split
  · rfl
  · unfold PySem.W.kitCls
    simp only [h3, h4, h2', beq_self_eq_true, Bool.and_self, if_true]
end OF
/-! Rows as texts: what read_row makes of a text. -/
namespace OF
open PySem PySem.Spec PyProof.Rows L2 TL
/-- the texts of the digits, with their digits -/
def digL : List (Key × V) := (List.range 19).map fun (i : Nat) => (Sum.inr (Str.ofString (toString ((-9 : Int) + (i : Int)))), V.int ((-9 : Int) + (i : Int)))
theorem digL_put : ∀ i : Nat, i < 19 → putK (digL.take i) (Sum.inr (Str.ofString (toString ((-9 : Int) + (i : Int))))) (V.int ((-9 : Int) + (i : Int))) = digL.take (i + 1) := by decide +kernel
theorem digL_all : digL.take 19 = digL := by decide +kernel
/-- the digit that a word is -/
def digV (w : Str) : Option V := valV digL (Sum.inr w)
/-- the digits that words are -/
def rowOf (ws : List Str) : Option (List V) := if ws.all (fun w => (digV w).isSome) = true then some (ws.map fun w => (digV w).getD .non) else none
/-- the row whose text it is -/
def readV (z : Str) : Option (List V) := if z = Str.ofString "." then some [] else rowOf (Txt.split z (Str.ofString " "))
/-- a value of a kind that is no text -/
inductive NoStr (H : Hp) : V → Prop
  | non : NoStr H .non
  | bl (b : Bool) : NoStr H (.bl b)
  | int (i : Int) : NoStr H (.int i)
  | lst {a : Addr} {xs : List V} (e : H a = some (.lst xs)) : NoStr H (.ref a)
  | tup {a : Addr} {xs : List V} (e : H a = some (.tup xs)) : NoStr H (.ref a)
  | dK {a : Addr} {kvs : List (Key × V)} (e : H a = some (.dK kvs)) : NoStr H (.ref a)
theorem NoStr.kit {K : PySem.W.Frag} {H : Hp} {x : V} (h : NoStr H x) : ∃ t : Value, TyX K H x t ∧ PySem.W.kitOne K t (.type "str") = some false := by
  cases h with
  | non => exact ⟨_, .base .non, kit_ty (by decide +kernel)⟩
  | bl b => exact ⟨_, .base (.bl b), kit_ty (by decide +kernel)⟩
  | int z => exact ⟨_, .base (.int z), kit_ty (by decide +kernel)⟩
  | lst e => exact ⟨_, .base (.lst e), kit_ty (by decide +kernel)⟩
  | tup e => exact ⟨_, .base (.tup e), kit_ty (by decide +kernel)⟩
  | dK e => exact ⟨_, .base (.dK e), kit_ty (by decide +kernel)⟩
theorem NoStr.same {H H' : Hp} {x : V} (h : NoStr H x) (s : Same H H') : NoStr H' x := by
  cases h with
  | non => exact .non
  | bl b => exact .bl b
  | int z => exact .int z
  | lst e => exact .lst (s _ _ e)
  | tup e => exact .tup (s _ _ e)
  | dK e => exact .dK (s _ _ e)
/-- read_row: the row, or an error with the very value -/
def spRead (C : Addr) : Sp := fun vs H Q E => ∃ x : V, vs = [x] ∧
  ((∃ z : Str, x = .str z ∧ z.length ≤ 100000 ∧ (∀ ds, readV z = some ds → ∀ p H', H p = none → Same H H' → H' p = some (.tup ds) → Q (.ref p) H') ∧ (readV z = none → Raised C "text" (.str z) H E)) ∨
    (NoStr H x ∧ Raised C "text" x H E))
theorem take_more {α : Type} : ∀ {l : List α} {i : Nat} {x : α}, l[i]? = some x → l.take (i + 1) = l.take i ++ [x]
  | [], i, x, h => by simp at h
  | a :: l, 0, x, h => by
    have e : a = x := Option.some.inj h
    subst e
    rfl
  | a :: l, i + 1, x, h => by
    have ih := take_more (l := l) (i := i) (x := x) h
    show a :: l.take (i + 1) = a :: l.take i ++ [x]
    rw [ih]
    rfl
theorem get_map {α β : Type} {f : α → β} {l : List α} {i : Nat} {y : β} (h : (l.map f)[i]? = some y) : ∃ x, l[i]? = some x ∧ y = f x := by
  rw [List.getElem?_map] at h
  cases e : l[i]? with
  | none => rw [e] at h; cases h
  | some x => rw [e] at h; exact ⟨x, rfl, (Option.some.inj h).symm⟩
theorem log_le {n : Int} (h : n.natAbs ≤ 1000) : n.natAbs.log2 < 1920 := Nat.lt_of_le_of_lt (Nat.log2_le_self _) (by omega)
theorem vals_signs : ∀ (L : List Nat) (l : List Value), l.length = L.length → (∀ (j : Nat) (v : Value), l[j]? = some v → ∃ (c : Nat) (u : Tok), L[j]? = some c ∧ v = Value.str ⟨#[c]⟩ u) → Vals (L.map fun c => V.str ⟨#[c]⟩) l
  | [], [], _, _ => .nil
  | c :: L, v :: l, hl, h => by
    obtain ⟨c', u, e1, e2⟩ := h 0 v rfl
    cases (show c = c' from Option.some.inj e1)
    exact .cons ⟨u, e2⟩ (vals_signs L l (Nat.succ.inj hl) fun j w hw => h (j + 1) w hw)
/-- list(text) -/
theorem call_list_signs {X : Cx} (hc : X.calm = true) : CallR X (.type "list") (fun xs H Q => ∃ z : Str, xs = [.str z] ∧ z.length ≤ sizeLine ∧ ∀ l, H l = none → Q (.ref l) (upd H l (.lst ((tl z).map fun c => V.str ⟨#[c]⟩)))) := by
  intro pins s σ H xs us Q I r h
  obtain ⟨z, rfl, hz, q⟩ := h
  obtain ⟨u, rfl, t, rfl⟩ := vals1 r
  refine PySem.call_list_str (I.ok.hd hc) z t (fun h' tk acc' c' hk hS' hacc => ?_) (by exact hz)
  have hl : acc'.toList.length = (tl z).length := by
    rw [Array.length_toList, hacc.1]
    rfl
  refine ⟨.ref s.heap.objs.size, _, I.laid (t' := tk) hk (Nat.le_refl _) (show ObjOk X.prog X.w _ h' _ (.lst ((tl z).map fun c => V.str ⟨#[c]⟩)) from ⟨?_, acc'.toList, c', ?_, ?_⟩), rfl, q _ (I.hok.fresh (Nat.le_refl _))⟩
  · rw [List.length_map, ← len_tl]
    exact hz
  · refine vals_signs _ _ hl fun j v hv => ?_
    obtain ⟨c, u, e1, e2⟩ := hacc.2 j v (by rw [← Array.getElem?_toList]; exact hv)
    exact ⟨c, u, by rw [Array.getElem?_toList]; exact e1, e2⟩
  · rw [Array.toArray_toList]
    exact hS'

/-! ### a word as the law reads it -/
def sgB (w : Str) : Bool := decide (V.str (cutS w none (some 1)) = V.str (Str.ofString "-"))
def sgI (w : Str) : Int := if sgB w then 1 else 0
def restS (w : Str) : Str := cutS w (some (sgI w)) none
def figs : List V := (tl (Str.ofString "0123456789")).map fun c => V.str ⟨#[c]⟩
def figVal (w : Str) : Int := Txt.find (Str.ofString "0123456789") (restS w) * (1 - 2 * sgI w)
theorem digV_is {w : Str} {v : V} (h : digV w = some v) : ∃ i : Nat, i < 19 ∧ w = Str.ofString (toString ((-9 : Int) + (i : Int))) ∧ v = V.int ((-9 : Int) + (i : Int)) := by
  unfold digV valV digL at h
  rw [List.find?_map] at h
  cases e : List.find? ((fun kv : Key × V => decide (kv.1 = Sum.inr w)) ∘ fun (i : Nat) => ((Sum.inr (Str.ofString (toString ((-9 : Int) + (i : Int)))), V.int ((-9 : Int) + (i : Int))) : Key × V)) (List.range 19) with
  | none => rw [e] at h; cases h
  | some i =>
    rw [e] at h
    have p := List.find?_some e
    have m := List.mem_of_find?_eq_some e
    refine ⟨i, List.mem_range.mp m, ?_, (Option.some.inj h).symm⟩
    exact (Sum.inr.inj (of_decide_eq_true p)).symm
theorem digs_ok : ∀ i : Nat, i < 19 → inV (.str (restS (Str.ofString (toString ((-9 : Int) + (i : Int)))))) figs = true ∧ decide (V.str (Str.ofString (toString ((-9 : Int) + (i : Int)))) = V.str (Str.ofString "-0")) = false ∧
    figVal (Str.ofString (toString ((-9 : Int) + (i : Int)))) = (-9 : Int) + (i : Int) := by decide +kernel
theorem word_some {w : Str} {v : V} (h : digV w = some v) : inV (.str (restS w)) figs = true ∧ decide (V.str w = V.str (Str.ofString "-0")) = false ∧ v = V.int (figVal w) := by
  obtain ⟨i, hi, rfl, rfl⟩ := digV_is h
  obtain ⟨h1, h2, h3⟩ := digs_ok i hi
  exact ⟨h1, h2, by rw [h3]⟩
theorem figs_words : ∀ c ∈ tl (Str.ofString "0123456789"), (digV ⟨#[c]⟩).isSome = true ∧ ((digV (⟨(45 :: [c]).toArray⟩ : Str)).isSome = true ∨ (⟨(45 :: [c]).toArray⟩ : Str) = Str.ofString "-0") := by decide +kernel
theorem cut_rest {w : Str} (h : sgB w = true) : tl w = 45 :: tl (cutS w (some 1) none) := by
  have e : cutS w none (some 1) = Str.ofString "-" := V.str.inj (of_decide_eq_true h)
  have e2 : tl (cutS w none (some 1)) = [45] := by rw [e]; decide +kernel
  have hL : ∀ lo hi, tl (cutS w lo hi) = ((tl w).drop (HT.sIx w.length 0 lo)).take (HT.sIx w.length w.length hi - HT.sIx w.length 0 lo) := fun lo hi => by
    unfold cutS
    exact List.toList_toArray ..
  rw [hL] at e2 ⊢
  rw [HT.sIx_none, show HT.sIx w.length w.length (some 1) = min 1 w.length from HT.sIx_nat w.length w.length 1] at e2
  rw [HT.sIx_none, show HT.sIx w.length 0 (some 1) = min 1 w.length from HT.sIx_nat w.length 0 1]
  have el := len_tl w
  cases hw : tl w with
  | nil => rw [hw] at e2; simp at e2
  | cons a r =>
    rw [hw] at e2 el
    have : min 1 w.length = 1 := by rw [el, List.length_cons]; omega
    rw [this] at e2 ⊢
    have ea : a = 45 := by simpa using e2
    rw [ea, el]
    simp
theorem cut_all {w : Str} (h : sgB w = false) : restS w = w := by
  unfold restS sgI
  rw [h]
  unfold cutS
  rw [show HT.sIx w.length 0 (some (if false = true then (1 : Int) else 0)) = min 0 w.length from HT.sIx_nat w.length 0 0, HT.sIx_none, Nat.zero_min, List.drop_zero, Nat.sub_zero]
  rw [List.take_of_length_le (by rw [← len_tl]; exact Nat.le_refl _)]
theorem word_none {w : Str} (h : digV w = none) : inV (.str (restS w)) figs = false ∨ decide (V.str w = V.str (Str.ofString "-0")) = true := by
  cases hi : inV (.str (restS w)) figs with
  | false => exact .inl rfl
  | true =>
    right
    unfold inV figs at hi
    obtain ⟨y, hy, e⟩ := List.any_eq_true.mp hi
    obtain ⟨c, hc, rfl⟩ := List.mem_map.mp hy
    have er : restS w = ⟨#[c]⟩ := by
      have : (⟨#[c]⟩ : Str) = restS w := by simpa [eqV] using e
      exact this.symm
    obtain ⟨h1, h2⟩ := figs_words c hc
    cases hs : sgB w with
    | false =>
      rw [cut_all hs] at er
      rw [er] at h
      rw [h] at h1
      cases h1
    | true =>
      have e1 := cut_rest hs
      have e3 : restS w = cutS w (some 1) none := by
        unfold restS sgI
        rw [hs]
        rfl
      have ew : w = (⟨(45 :: [c]).toArray⟩ : Str) := by
        rw [← mk_tl w, e1, ← e3, er]
      rcases h2 with h2 | h2
      · rw [← ew, h] at h2
        cases h2
      · exact decide_eq_true (congrArg V.str (ew.trans h2))

/-! ### texts of few and plain signs -/
def TOk (n : Nat) (z : Str) : Prop := (tl z).length ≤ n ∧ ∀ c ∈ tl z, c < 1114112
theorem TOk.mono {n m : Nat} {z : Str} (h : TOk n z) (hm : n ≤ m) : TOk m z := ⟨Nat.le_trans h.1 hm, h.2⟩
theorem TOk.len {n : Nat} {z : Str} (h : TOk n z) : z.length ≤ n := by rw [len_tl]; exact h.1
theorem TOk.ok {n : Nat} {z : Str} (h : TOk n z) : PyData.strOk z = true := by
  unfold PyData.strOk
  rw [Array.all_eq_true']
  intro c hc
  exact decide_eq_true (h.2 c (by show c ∈ z.cps.toList; exact Array.mem_toList_iff.mpr hc))
theorem tl_cut (w : Str) (lo hi : Option Int) : tl (cutS w lo hi) = ((tl w).drop (HT.sIx w.length 0 lo)).take (HT.sIx w.length w.length hi - HT.sIx w.length 0 lo) := by
  unfold cutS
  exact List.toList_toArray ..
theorem TOk.cut {n : Nat} {z : Str} (h : TOk n z) (lo hi : Option Int) : TOk n (cutS z lo hi) := by
  unfold TOk
  rw [tl_cut]
  refine ⟨?_, fun c hc => h.2 c (List.mem_of_mem_drop (List.mem_of_mem_take hc))⟩
  refine Nat.le_trans (List.length_take_le' _ _) ?_
  rw [List.length_drop]
  exact Nat.le_trans (Nat.sub_le _ _) h.1
theorem TOk.app {n m : Nat} {x y : Str} (h : TOk n x) (k : TOk m y) : TOk (n + m) (x ++ y) := by
  unfold TOk
  rw [tl_append, List.length_append]
  refine ⟨Nat.add_le_add h.1 k.1, fun c hc => ?_⟩
  rcases List.mem_append.mp hc with hc | hc
  · exact h.2 c hc
  · exact k.2 c hc
theorem in_join {S : List Nat} : ∀ {ps : List (List Nat)} {p : List Nat}, p ∈ ps → p.length ≤ (joinL S ps).length ∧ ∀ c ∈ p, c ∈ joinL S ps
  | [q], p, h => by
    cases List.mem_singleton.mp h
    exact ⟨Nat.le_refl _, fun c hc => hc⟩
  | q :: r :: ps, p, h => by
    have e : joinL S (q :: r :: ps) = q ++ (S ++ joinL S (r :: ps)) := rfl
    rw [e]
    rcases List.mem_cons.mp h with h | h
    · rw [h]
      refine ⟨?_, fun c hc => List.mem_append_left _ hc⟩
      rw [List.length_append]
      omega
    · obtain ⟨h1, h2⟩ := in_join (S := S) h
      refine ⟨?_, fun c hc => List.mem_append_right _ (List.mem_append_right _ (h2 c hc))⟩
      rw [List.length_append, List.length_append]
      omega
theorem join_in {S : List Nat} {P : Nat → Prop} (hS : ∀ c ∈ S, P c) : ∀ {ps : List (List Nat)} {n : Nat}, (∀ p ∈ ps, p.length ≤ n ∧ ∀ c ∈ p, P c) → (joinL S ps).length ≤ ps.length * (n + S.length) ∧ ∀ c ∈ joinL S ps, P c
  | [], n, _ => ⟨Nat.zero_le _, fun c hc => by cases hc⟩
  | [q], n, h => by
    obtain ⟨h1, h2⟩ := h q (List.mem_singleton.mpr rfl)
    refine ⟨?_, h2⟩
    show q.length ≤ 1 * (n + S.length)
    omega
  | q :: r :: ps, n, h => by
    obtain ⟨h1, h2⟩ := h q (List.mem_cons_self ..)
    obtain ⟨h3, h4⟩ := join_in hS (ps := r :: ps) (n := n) fun p hp => h p (List.mem_cons_of_mem _ hp)
    have e : joinL S (q :: r :: ps) = q ++ (S ++ joinL S (r :: ps)) := rfl
    rw [e]
    refine ⟨?_, fun c hc => ?_⟩
    · rw [List.length_append, List.length_append, List.length_cons, Nat.succ_mul]
      omega
    · rcases List.mem_append.mp hc with hc | hc
      · exact h2 c hc
      · rcases List.mem_append.mp hc with hc | hc
        · exact hS c hc
        · exact h4 c hc
theorem TOk.parts {n : Nat} {z y : Str} (h : TOk n z) : ∀ w ∈ Txt.split z y, TOk n w := fun w hw => by
  have e := StrLaws.join_split z y
  have e2 := tl_join y (Txt.split z y)
  rw [e] at e2
  obtain ⟨h1, h2⟩ := in_join (S := tl y) (ps := (Txt.split z y).map tl) (List.mem_map.mpr ⟨w, hw, rfl⟩)
  rw [← e2] at h1 h2
  exact ⟨Nat.le_trans h1 h.1, fun c hc => h.2 c (h2 c hc)⟩
theorem TOk.join {n m : Nat} {y : Str} {ps : List Str} (hy : TOk m y) (h : ∀ p ∈ ps, TOk n p) : TOk (ps.length * (n + m)) (Txt.join y ps) := by
  rw [TL.join_eq]
  unfold TOk
  rw [tl_join]
  obtain ⟨h1, h2⟩ := join_in (S := tl y) (P := fun c => c < 1114112) hy.2 (ps := ps.map tl) (n := n) fun p hp => by
    obtain ⟨w, hw, rfl⟩ := List.mem_map.mp hp
    exact h w hw
  refine ⟨Nat.le_trans h1 ?_, h2⟩
  rw [List.length_map]
  exact Nat.mul_le_mul_left _ (Nat.add_le_add_left hy.1 _)
theorem sum_len {n : Nat} : ∀ {ps : List Str}, (∀ p ∈ ps, TOk n p) → (ps.map (·.length)).sum ≤ ps.length * n
  | [], _ => Nat.zero_le _
  | p :: ps, h => by
    have h1 := (h p (List.mem_cons_self ..)).len
    have h2 := sum_len (ps := ps) fun q hq => h q (List.mem_cons_of_mem _ hq)
    rw [List.map_cons, List.sum_cons, List.length_cons, Nat.succ_mul]
    omega
theorem join_pos {y : Str} {ps : List Str} {p : Str} (hp : p ∈ ps) (h : 1 ≤ p.length) : 1 ≤ (Txt.join y ps).length := by
  rw [TL.join_eq, len_tl, tl_join]
  have h1 := (in_join (S := tl y) (ps := ps.map tl) (List.mem_map.mpr ⟨p, hp, rfl⟩)).1
  rw [← len_tl] at h1
  omega
instance (n : Nat) (z : Str) : Decidable (TOk n z) := inferInstanceAs (Decidable (_ ∧ _))
theorem digit_texts : ∀ i : Nat, i < 19 → TOk 2 (Str.ofString (toString ((-9 : Int) + (i : Int)))) ∧ 1 ≤ (Str.ofString (toString ((-9 : Int) + (i : Int)))).length := by decide +kernel
/-- text data that may be compared -/
theorem shaped_str {z : Str} (h : PyData.strOk z = true) : SeqAt.shaped (.str z) = true := by
  unfold SeqAt.shaped
  rw [show PyData.canLay0 (.str z) = PyData.strOk z by simp only [PyData.canLay0], h]
  rfl

/-! ### data that may be compared -/
theorem dp_ints {K : PySem.W.Frag} {H : Hp} : ∀ is : List Int, DpAll K H (is.map V.int) (is.map PyData.int)
  | [] => .nil
  | i :: is => .cons (.int i) (dp_ints is)
theorem can_ints : ∀ is : List Int, PyData.canLayAll0 (is.map PyData.int) = true
  | [] => by simp only [List.map_nil, PyData.canLayAll0]
  | i :: is => by
    rw [List.map_cons, PyData.canLayAll0, can_ints is]
    simp only [PyData.canLay0, Bool.and_true]
theorem dep_ints : ∀ is : List Int, PyData.depthAll (is.map PyData.int) = 0
  | [] => by simp only [List.map_nil, PyData.depthAll]
  | i :: is => by
    rw [List.map_cons, PyData.depthAll, dep_ints is]
    simp only [PyData.depth, Nat.max_self]
theorem shaped_of {d : PyData} (h : d.canLay0 = true) (k : d.depth ≤ 64) : SeqAt.shaped d = true := by
  unfold SeqAt.shaped
  rw [h, decide_eq_true k]
  rfl
theorem can_pair {z : Str} {d : PyData} (hz : PyData.strOk z = true) (hd : d.canLay0 = true) : (PyData.list [.str z, d]).canLay0 = true := by
  simp only [PyData.canLay0, PyData.canLayAll0, hz, hd, Bool.and_true]
theorem dep_pair {z : Str} {d : PyData} {n : Nat} (hd : d.depth ≤ n) : (PyData.list [.str z, d]).depth ≤ n + 1 := by
  simp only [PyData.depth, PyData.depthAll]
  omega
/-- the item's own data: what stands at it reads so, whatever is made later -/
structure DatOf (K : PySem.W.Frag) (H : Hp) (x : V) (d : PyData) : Prop where
  dp : ∀ H', Same H H' → Dp K H' x d
  can : d.canLay0 = true
  dep : d.depth ≤ 10
theorem DatOf.same {K : PySem.W.Frag} {H H1 : Hp} {x : V} {d : PyData} (h : DatOf K H x d) (s : Same H H1) : DatOf K H1 x d := ⟨fun H' s' => h.dp H' (s.trans s'), h.can, h.dep⟩
theorem DatOf.str {K : PySem.W.Frag} {H : Hp} {z : Str} (hz : PyData.strOk z = true) : DatOf K H (.str z) (.str z) := ⟨fun _ _ => .str z, by simp only [PyData.canLay0, hz], by simp only [PyData.depth]; omega⟩
theorem DatOf.non {K : PySem.W.Frag} {H : Hp} : DatOf K H .non .none := ⟨fun _ _ => .non, by simp only [PyData.canLay0], by simp only [PyData.depth]; omega⟩
theorem DatOf.bl {K : PySem.W.Frag} {H : Hp} {b : Bool} : DatOf K H (.bl b) (.bool b) := ⟨fun _ _ => .bl b, by simp only [PyData.canLay0], by simp only [PyData.depth]; omega⟩
theorem DatOf.int {K : PySem.W.Frag} {H : Hp} {i : Int} : DatOf K H (.int i) (.int i) := ⟨fun _ _ => .int i, by simp only [PyData.canLay0], by simp only [PyData.depth]; omega⟩
theorem DatOf.tup {K : PySem.W.Frag} {H : Hp} {p : Addr} {is : List Int} (e : H p = some (.tup (is.map V.int))) : DatOf K H (.ref p) (.tuple (is.map PyData.int)) :=
  ⟨fun _ s => .tup (SqT.of (s _ _ e)) (dp_ints is), by simp only [PyData.canLay0, can_ints], by simp only [PyData.depth, dep_ints]; omega⟩
theorem DatOf.lst1 {K : PySem.W.Frag} {H : Hp} {p : Addr} {z : Str} (hz : PyData.strOk z = true) (e : H p = some (.lst [.str z])) : DatOf K H (.ref p) (.list [.str z]) :=
  ⟨fun _ s => .lst (SqL.of (s _ _ e)) (.cons (.str z) .nil), by simp only [PyData.canLay0, PyData.canLayAll0, hz, Bool.and_true], by simp only [PyData.depth, PyData.depthAll]; omega⟩
/-- two lists of a word and the same thing: equal -/
theorem pair_eqv {z : Str} {d : PyData} (hz : PyData.strOk z = true) (hd : d.canLay0 = true) : PyData.eqv (.list [.str z, d]) (.list [.str z, d]) = true := SeqAt.eqv_refl _ (can_pair hz hd)
theorem pair_ne {K : PySem.W.Frag} {H : Hp} {l l2 : Addr} {z : Str} {x y : V} {d : PyData} {Q : V → Hp → Prop} (hz : PyData.strOk z = true) (e1 : H l = some (.lst [.str z, x])) (e2 : H l2 = some (.lst [.str z, y])) (h1 : Dp K H x d) (h2 : Dp K H y d) (hc : d.canLay0 = true) (hd : d.depth ≤ 10)
    (q : Q (.bl false) H) : rNeD K (.ref l) (.ref l2) H Q := by
  have sh := shaped_of (can_pair hz hc) (Nat.le_trans (dep_pair hd) (by decide))
  refine ⟨_, _, Dp.lst (SqL.of e1) (.cons (.str z) (.cons h1 .nil)), Dp.lst (SqL.of e2) (.cons (.str z) (.cons h2 .nil)), sh, sh, ?_⟩
  rw [pair_eqv hz hc]
  exact q
theorem pair_eq {K : PySem.W.Frag} {H : Hp} {l l2 : Addr} {z : Str} {x y : V} {d : PyData} {Q : V → Hp → Prop} (hz : PyData.strOk z = true) (e1 : H l = some (.lst [.str z, x])) (e2 : H l2 = some (.lst [.str z, y])) (h1 : Dp K H x d) (h2 : Dp K H y d) (hc : d.canLay0 = true) (hd : d.depth ≤ 10)
    (q : Q (.bl true) H) : rEqD K (.ref l) (.ref l2) H Q := by
  have sh := shaped_of (can_pair hz hc) (Nat.le_trans (dep_pair hd) (by decide))
  refine ⟨_, _, Dp.lst (SqL.of e1) (.cons (.str z) (.cons h1 .nil)), Dp.lst (SqL.of e2) (.cons (.str z) (.cons h2 .nil)), sh, sh, ?_⟩
  rw [pair_eqv hz hc]
  exact q
/-- the digits of a text are ints -/
theorem readV_ints {z : Str} {ds : List V} (h : readV z = some ds) : ∃ is : List Int, ds = is.map V.int := by
  unfold readV at h
  split at h
  · cases Option.some.inj h
    exact ⟨[], rfl⟩
  · unfold rowOf at h
    split at h
    · rename_i hall
      have e := Option.some.inj h
      refine ⟨(Txt.split z (Str.ofString " ")).map fun w => match digV w with | some (.int i) => i | _ => 0, ?_⟩
      rw [← e, List.map_map]
      refine List.map_congr_left fun w hw => ?_
      have hs := List.all_eq_true.mp hall w hw
      obtain ⟨v, hv⟩ := Option.isSome_iff_exists.mp hs
      obtain ⟨i, _, _, rfl⟩ := digV_is hv
      simp only [Function.comp, hv, Option.getD_some]
    · cases h
theorem read_empty : readV (Str.ofString "") = none := by decide +kernel
theorem read_dot : readV (Str.ofString ".") = some [] := by decide +kernel
/-- two ways, heaps behind them of their own, one rest -/
theorem iteDupH {c : Bool} {A B : Prop} {G : Hp} {S : Hp → Prop} (f : (∀ H', Same G H' → S H') → c = true → A) (g : (∀ H', Same G H' → S H') → c = false → B) (r : ∀ H', Same G H' → S H') : if c = true then A else B := by
  cases c with
  | true => exact iteT (f r rfl)
  | false => exact iteF (g r rfl)

/-! ### rows as texts -/
/-- a value of a kind that is no tuple -/
inductive NoTup (H : Hp) : V → Prop
  | non : NoTup H .non
  | bl (b : Bool) : NoTup H (.bl b)
  | int (i : Int) : NoTup H (.int i)
  | str (z : Str) : NoTup H (.str z)
  | lst {a : Addr} {xs : List V} (e : H a = some (.lst xs)) : NoTup H (.ref a)
  | dK {a : Addr} {kvs : List (Key × V)} (e : H a = some (.dK kvs)) : NoTup H (.ref a)
theorem NoTup.kit {K : PySem.W.Frag} {H : Hp} {x : V} (h : NoTup H x) : ∃ t : Value, TyX K H x t ∧ PySem.W.kitOne K t (.type "tuple") = some false := by
  cases h with
  | non => exact ⟨_, .base .non, kit_ty (by decide +kernel)⟩
  | bl b => exact ⟨_, .base (.bl b), kit_ty (by decide +kernel)⟩
  | int z => exact ⟨_, .base (.int z), kit_ty (by decide +kernel)⟩
  | str z => exact ⟨_, .base (.str z), kit_ty (by decide +kernel)⟩
  | lst e => exact ⟨_, .base (.lst e), kit_ty (by decide +kernel)⟩
  | dK e => exact ⟨_, .base (.dK e), kit_ty (by decide +kernel)⟩
theorem NoTup.same {H H' : Hp} {x : V} (h : NoTup H x) (s : Same H H') : NoTup H' x := by
  cases h with
  | non => exact .non
  | bl b => exact .bl b
  | int z => exact .int z
  | str z => exact .str z
  | lst e => exact .lst (s _ _ e)
  | dK e => exact .dK (s _ _ e)
/-- an int, or a value of another kind -/
def IntOdd (H : Hp) (x : V) : Prop := (∃ n : Int, x = .int n) ∨ Odd H x
theorem IntOdd.same {H H' : Hp} {x : V} (h : IntOdd H x) (s : Same H H') : IntOdd H' x := by
  rcases h with h | h
  · exact .inl h
  · exact .inr (h.same s)
def digI (n : Int) : Bool := decide (-9 ≤ n) && decide (n ≤ 9)
/-- a digit -/
def digB : V → Bool
  | .int n => digI n
  | _ => false
theorem digB_odd {H : Hp} {x : V} (h : Odd H x) : digB x = false := by cases h <;> rfl
theorem digs_ints : ∀ {xs : List V}, xs.all digB = true → ∃ is : List Int, xs = is.map V.int ∧ ∀ i ∈ is, -9 ≤ i ∧ i ≤ 9
  | [], _ => ⟨[], rfl, fun i h => by cases h⟩
  | x :: xs, h => by
    rw [List.all_cons, Bool.and_eq_true] at h
    obtain ⟨is, e, k⟩ := digs_ints h.2
    cases x with
    | int n =>
      have h1 : digI n = true := h.1
      unfold digI at h1
      rw [Bool.and_eq_true, decide_eq_true_eq, decide_eq_true_eq] at h1
      refine ⟨n :: is, by rw [e]; rfl, fun i hi => ?_⟩
      rcases List.mem_cons.mp hi with hi | hi
      · rw [hi]; exact h1
      · exact k i hi
    | non => exact absurd h.1 Bool.false_ne_true
    | bl b => exact absurd h.1 Bool.false_ne_true
    | str z => exact absurd h.1 Bool.false_ne_true
    | byt z => exact absurd h.1 Bool.false_ne_true
    | flt z => exact absurd h.1 Bool.false_ne_true
    | ref a => exact absurd h.1 Bool.false_ne_true
    | ty n => exact absurd h.1 Bool.false_ne_true
theorem ints_digs {is : List Int} (h : ∀ i ∈ is, -9 ≤ i ∧ i ≤ 9) : (is.map V.int).all digB = true := by
  rw [List.all_map]
  refine List.all_eq_true.mpr fun i hi => ?_
  obtain ⟨h1, h2⟩ := h i hi
  show digI i = true
  unfold digI
  rw [decide_eq_true h1, decide_eq_true h2]
  rfl
/-- the text of a digit -/
def strI (i : Int) : Str := Str.ofString (toString i)
theorem strI_ok {i : Int} (h : -9 ≤ i ∧ i ≤ 9) : TOk 2 (strI i) ∧ 1 ≤ (strI i).length := by
  obtain ⟨h1, h2⟩ := h
  have e : i = (-9 : Int) + (((i + 9).toNat : Nat) : Int) := by omega
  have := digit_texts (i + 9).toNat (by omega)
  rw [← e] at this
  exact this
theorem digV_all : ∀ k : Nat, k < 19 → digV (Str.ofString (toString ((-9 : Int) + (k : Int)))) = some (V.int ((-9 : Int) + (k : Int))) ∧ (32 : Nat) ∉ tl (Str.ofString (toString ((-9 : Int) + (k : Int)))) ∧ Str.ofString (toString ((-9 : Int) + (k : Int))) ≠ Str.ofString "." ∧ (46 : Nat) ∉ tl (Str.ofString (toString ((-9 : Int) + (k : Int)))) := by decide +kernel
theorem digV_of {i : Int} (h : -9 ≤ i ∧ i ≤ 9) : digV (strI i) = some (V.int i) ∧ (32 : Nat) ∉ tl (strI i) ∧ (46 : Nat) ∉ tl (strI i) := by
  obtain ⟨h1, h2⟩ := h
  have e : i = (-9 : Int) + (((i + 9).toNat : Nat) : Int) := by omega
  obtain ⟨k1, k2, _, k4⟩ := digV_all (i + 9).toNat (by omega)
  rw [← e] at k1 k2 k4
  exact ⟨k1, k2, k4⟩
/-- the text of a row -/
def textOf (is : List Int) : Str := if is = [] then Str.ofString "." else Txt.join (Str.ofString " ") (is.map strI)
theorem textOf_ok {is : List Int} (h : ∀ i ∈ is, -9 ≤ i ∧ i ≤ 9) (hl : is.length ≤ 200) : TOk 600 (textOf is) := by
  unfold textOf
  split
  · decide +kernel
  · refine (TOk.join blankOk (n := 2) fun p hp => ?_).mono ?_
    · obtain ⟨i, hi, rfl⟩ := List.mem_map.mp hp
      exact (strI_ok (h i hi)).1
    · rw [List.length_map]
      omega
where blankOk : TOk 1 (Str.ofString " ") := by decide +kernel
theorem not_dot {is : List Int} (h : ∀ i ∈ is, -9 ≤ i ∧ i ≤ 9) (hn : is ≠ []) : Txt.join (Str.ofString " ") (is.map strI) ≠ Str.ofString "." := fun e => by
  cases is with
  | nil => exact hn rfl
  | cons i r =>
    have hp : strI i ∈ (i :: r).map strI := List.mem_map.mpr ⟨i, List.mem_cons_self .., rfl⟩
    have hi := h i (List.mem_cons_self ..)
    have h2 := (in_join (S := tl (Str.ofString " ")) (ps := ((i :: r).map strI).map tl) (List.mem_map.mpr ⟨_, hp, rfl⟩)).2
    have e2 := congrArg tl e
    rw [TL.join_eq, tl_join] at e2
    rw [e2] at h2
    have hpos := (strI_ok hi).2
    rw [len_tl] at hpos
    cases hs : tl (strI i) with
    | nil => rw [hs] at hpos; exact absurd hpos (by decide)
    | cons c cs =>
      have hc := h2 c (by rw [hs]; exact List.mem_cons_self ..)
      have : c = 46 := by
        have e3 : tl (Str.ofString ".") = [46] := by decide +kernel
        rw [e3] at hc
        exact List.mem_singleton.mp hc
      exact (digV_of hi).2.2 (by rw [hs, this]; exact List.mem_cons_self ..)
/-- a row's text is read as the row -/
theorem read_text {is : List Int} (h : ∀ i ∈ is, -9 ≤ i ∧ i ≤ 9) : readV (textOf is) = some (is.map V.int) := by
  unfold textOf
  by_cases hn : is = []
  · rw [if_pos hn, hn]
    exact read_dot
  · rw [if_neg hn]
    unfold readV
    rw [if_neg (not_dot h hn)]
    have e : Txt.split (Txt.join (Str.ofString " ") (is.map strI)) (Str.ofString " ") = is.map strI := by
      refine TL.split_join (s := 32) (S := []) (by decide +kernel) (by decide +kernel) (fun z => hn (List.map_eq_nil_iff.mp z)) fun p hp => ?_
      obtain ⟨i, hi, rfl⟩ := List.mem_map.mp hp
      exact (digV_of (h i hi)).2.1
    rw [e]
    unfold rowOf
    rw [if_pos]
    · rw [List.map_map]
      congr 1
      refine List.map_congr_left fun i hi => ?_
      show (digV (strI i)).getD .non = V.int i
      rw [(digV_of (h i hi)).1]
      rfl
    · rw [List.all_map]
      refine List.all_eq_true.mpr fun i hi => ?_
      show (digV (strI i)).isSome = true
      rw [(digV_of (h i hi)).1]
      rfl
end OF
/-! Defs that are promised only where no repr is under way, the law among them; repr of lists. -/
namespace OF
open PySem PySem.Spec PyProof.Rows L2

/-! ### promises where no repr is under way -/
structure FnG (P : Program) (w : World) (K : PySem.W.Frag) (mg : Str → Option Value) (base : Heap) (n : Nat) (f : Addr) (fd : FuncData) (ps : List Str) (sp : Sp) : Prop where
  len : ∀ vs H Q E, sp vs H Q E → vs.length = ps.length
  go : ∀ (A : Around) (fr : List Env) (s : Shared) (H : Hp) (ar : Args) (us : List Value) (vs : List V) (Q : VK) (E : XK), A.guards = some [] → Room n A → Env0 P w K mg base A fr s H → BindsTo s fd ar (ps.zip us) → Vals vs us → sp vs H Q E →
    codeAny (model P w) A (.call (.ref f) ar) (CR CX0 fr P w H s Q E) s
section
variable {P : Program} {w : World} {K : PySem.W.Frag} {mg : Str → Option Value} {base : Heap}
theorem guards_in {A : Around} {e : Env} (h : A.guards = some []) : (A.deeper e).guards = some [] := by
  first | exact h | simpa [Around.deeper] using h
theorem okG {x q : Str} {st : Stmt} {f : Addr} {fd : FuncData} {N ps : List Str} {n : Nat} {sp : Sp} (F : Fun K x q st f fd) (S : FnScope N ps (defScope st)) (len : ∀ vs H Q E, sp vs H Q E → vs.length = ps.length)
    (body : ∀ (cv : Value) (A : Around) (fr : List Env) (s : Shared) (H : Hp) (vs : List V) (Q : VK) (E : XK), (A.deeper (envOfC q (defScope st) s.heap.objs.size f cv)).guards = some [] → Room n (A.deeper (envOfC q (defScope st) s.heap.objs.size f cv)) → sp vs H Q E →
      ∃ t, PSs (cxOf CX0 P w K mg base N q (defScope st) f cv A fr s H E).nox (defBody st) t ∧ t { nx := fun _ H' => Q .non H', rt := Q } (start N vs) H) : FnG P w K mg base (n + 1) f fd ps sp := by
  obtain ⟨_, _, kV, dc, pm, an, cv, ct, _, e, lk, cc⟩ := F.ex
  subst e
  constructor
  · exact len
  · intro A fr s H ar us vs Q E gu room e0 bn rel hsp
    have keep := fun b o z => (e0.bs b o z).1
    have inHeap := e0.mod.kin.keeps keep
    have noLim := e0.mod.nolimit.keeps keep
    apply codeAny_call_function room.depth (inHeap _ _ lk) rfl S.co S.gen rfl (PySem.W.codeRec_of inHeap cc)
    apply bn
    apply wpAny_newFunctionEnv_cells S.kind
    · rintro ⟨y, v⟩ hy
      rcases S.par y (List.of_mem_zip hy).1 with p | p
      · exact Or.inl p
      · exact Or.inr ⟨p, PySem.W.cellsFrom_some _ _ _ (Or.inl p)⟩
    · intro env he s1 inc
      subst he
      constructor
      · exact noLim.keeps inc.toInCall.keep
      · apply codeAny_func
        obtain ⟨t, pss, rd⟩ := body cv A fr s H vs Q E (guards_in gu) (room.deeper _) hsp
        have inv := inv_start (CX := CX0) (P := P) (w := w) (E := E) S room.hd e0 (len _ _ _ _ hsp) rel inc
        apply wpAny_mono (pss.nox.run [] s1 (start N vs) H _ inv rd) (hE := fun _ _ z => z)
        intro fl s2 z
        cases fl with
        | ret u => obtain ⟨v, _, H2, J, rv, qv⟩ := z; exact ⟨v, H2, J.os, J.bare, J.base, J.hok, rv, qv⟩
        | next => obtain ⟨_, H2, J, qv⟩ := z; exact ⟨V.non, H2, J.os, J.bare, J.base, J.hok, rfl, qv⟩
        | brk => obtain ⟨_, _, _, no⟩ := z; cases no
        | cont => obtain ⟨_, _, _, no⟩ := z; cases no
end
section
variable {X : Cx} {n : Nat} {f : Addr} {fd : FuncData} {ps : List Str} {sp : Sp} {E : XK} {x : Str} {p pos : Pos} {e : Expr} {es : List Expr} {t : TA}
theorem pe_callG (F : FnG X.prog X.w X.K X.mg X.base n f fd ps sp) (gu : X.A.guards = some []) (room : Room n X.A) (hg : Gl X x) (hm : X.mg x = some (.ref f)) (kp : PySem.W.keepIn X.K (.ref f) = true) (hb : Binds X.K fd ps []) (hx : Passes CX0 X E) (ha : PA X (e :: es) t)
    (hdb : (x == ("__debug__" : Str)) = false := by decide) (he : starEach (e :: es) X.env = (false, eval e X.env) :: starEach es X.env := by rfl) (hpl : (backTo pos (starEach es X.env)).any (·.1) = false := by rfl) :
    PE X (.Call (.Name x p) (e :: es) [] pos) (tCall sp [] E t) := by
  constructor
  intro pins s σ H Q I h
  refine wpAny_Call_Name_kw (ld_glob I hg hm ?_ hdb)
  refine PySem.W.callWith_K (h₀ := X.base) I.ok.mod.kin kp (thn (ha.run pos pins s σ H _ I h) ?_) he hpl
  rintro us s1 ⟨vs, H1, I1, r1, q⟩
  refine ⟨I1.kIn, ?_⟩
  rw [List.append_nil] at q
  have bn := hb s1 us I1.kIn (by rw [List.append_nil, ← r1.length]; exact F.len _ _ _ _ q)
  rw [List.append_nil] at bn
  apply wpAny_call
  apply codeAny_mono (F.go X.A X.stack s1 H1 ⟨us, []⟩ us vs Q E gu room I1.env0 bn r1 q)
  intro r s2 z
  cases r with
  | error er => exact hx pins σ H1 s1 er s2 I1 z
  | ok fl =>
    cases fl with
    | ret u => exact I1.after z
    | next => cases z
    | brk => cases z
    | cont => cases z
end
end OF
namespace OF
open PySem PySem.Spec PyProof.Rows L2
section
variable {P : Program} {w : World} {K : PySem.W.Frag} {mg mb : Str → Option Value}
/-- namespaces stand in what is left where a list alone is hidden -/
theorem ns_left {h : Heap} {H : Hp} {a b : Addr} {xs : Array Value} {m : Str → Option Value} (ha : h.get? a = some { cls := .type "list", data := .seq xs }) (near : ∀ c, H c ≠ none → c = a) (z : h.Ns b m) : (hidT h H).Ns b m := by
  obtain ⟨o, es, ep, eo, ed, rest⟩ := z
  have free : H b = none := Classical.byContradiction fun no => by
    have := near b no
    subst this
    rw [eo] at ha
    have e2 := Option.some.inj ha
    subst e2
    cases ed
  exact ⟨o, es, ep, hidT_get eo free, ed, rest⟩
/-- what is tracked at the law's start -/
theorem script_heap {h : Heap} {a : Addr} {vs : List Value} {ns : List Int} (KX : K.In h) (ha : h.get? a = some { cls := .type "list", data := .seq vs.toArray }) (hi : IntsAre vs ns) (hl : ns.length ≤ sizeLine) :
    ∃ H : Hp, Only H ∧ SqL K H a (ns.map V.int) ∧ HOk P w H h ∧ (∀ c, H c ≠ none → c = a) ∧ (H a ≠ none → K.lookup a = none) := by
  have rel := vals_ints hi
  have n1 : vs.length = ns.length := hi.length
  cases known : K.lookup a with
  | some o =>
    have same := KX a o known
    rw [ha] at same
    have := Option.some.inj same
    subst this
    refine ⟨fun _ => none, fun c => Or.inl rfl, ?_, ?_, fun c z => absurd rfl z, fun z => absurd rfl z⟩
    case refine_2 =>
      intro c o z
      have z2 : (none : Option HO) = some o := z
      cases z2
    right
    refine ⟨_, vs.toArray, _, known, rfl, rfl, rfl, ?_, ?_⟩
    · rw [List.size_toArray, n1]; exact hl
    · rw [List.toList_toArray]; exact rel
  | none =>
    refine ⟨fun c => if c = a then some (.frz { cls := .type "list", data := .seq vs.toArray } (.lst (ns.map V.int))) else none, ?_, ?_, ?_, ?_, fun _ => rfl⟩
    · intro c
      by_cases z : c = a
      · right; exact ⟨_, _, if_pos z⟩
      · left; exact if_neg z
    · left; right; exact ⟨_, if_pos rfl⟩
    · intro c o z
      by_cases y : c = a
      · subst y
        have := (if_pos rfl).symm.trans z
        cases this
        refine ⟨ha, ?_, vs, _, rel, ha⟩
        rw [List.length_map]; exact hl
      · have := (if_neg y).symm.trans z
        cases this
    · intro c z
      exact Classical.byContradiction fun y => z (if_neg y)
theorem law_callG {n : Nat} {fa a : Addr} {fd : FuncData} {x : Str} {sp : Sp} {s : Shared} {vs : List Value} {ns : List Int} (KX : K.In s.heap) (hg : s.heap.Ns mainGlobals mg) (hb : s.heap.Ns builtinsNs mb) (hbb : ∀ y : Str, y ≠ "__name__" → mb y = bootBuiltins y)
    (hlim : s.heap.NoLimit) (he : s.gens = #[]) (ha : s.heap.get? a = some { cls := .type "list", data := .seq vs.toArray }) (hi : IntsAre vs ns) (hl : ns.length ≤ sizeLine) (room : Room n callerA)
    (F : ∀ base : Heap, K.In base → base.Ns mainGlobals mg → FnG P w K mg base n fa fd [x] sp) (bind : ∀ (s : Shared) (u : Value), BindsTo s fd ⟨[u], []⟩ [(x, u)])
    (hsp : ∀ H : Hp, SqL K H a (ns.map V.int) → sp [.ref a] H (fun v _ => v = .bl true) fun _ _ _ => False) :
    codeAny (model P w) callerA (.call (.ref fa) ⟨[.ref a], []⟩) (fun r s' => r = .ok (.ret (.bool true)) ∧ OldK s.heap s'.heap ∧ s'.os = s.os ∧ AllBare s'.gens) s := by
  obtain ⟨H, only, seq, hok, near, out⟩ := script_heap (P := P) (w := w) KX ha hi hl
  have KB : K.In (hidT s.heap H) := by
    intro c o z
    refine hidT_get (KX c o z) (Classical.byContradiction fun no => ?_)
    have := near c no
    subst this
    rw [out no] at z
    cases z
  have lim : (hidT s.heap H).NoLimit := by
    obtain ⟨mc, h1, h2⟩ := hlim
    exact ⟨mc, ns_left ha near h1, h2⟩
  have M : Mod K mg (hidT s.heap H) := { kin := KB, glob := ns_left ha near hg, blt := ⟨mb, ns_left ha near hb, hbb⟩, nolimit := lim }
  have E0 : Env0 P w K mg (hidT s.heap H) callerA [] s H := {
    frames := rfl, mod := M, bs := fun c o z => of_hidT z, bsz := Nat.le_of_eq (hidT_size _ _), funs := trivial
    frf := fun c z => (by cases z), hok := hok, bare := AllBare.of_eq he }
  have main := (F _ KB (ns_left ha near hg)).go callerA [] s H ⟨[.ref a], []⟩ [.ref a] [.ref a] _ _ rfl room E0 (bind s (.ref a)) (.cons rfl .nil) (hsp H seq)
  apply codeAny_mono main
  intro r s' z
  cases r with
  | error er => cases z
  | ok fl =>
    cases fl with
    | next => cases z
    | brk => cases z
    | cont => cases z
    | ret u =>
      obtain ⟨v, H', sameOs, bare, un, hok', rv, ev⟩ := z
      have ev2 : v = .bl true := ev
      subst ev2
      have eu : u = Value.bool true := rv
      subst eu
      refine ⟨rfl, OldK.of_keep ?_, sameOs, bare⟩
      intro c o z
      rcases only c with fr | ⟨o2, xs, fr⟩
      · apply un.keep c o z fr
        · intro y; cases y
        · intro y; cases y
      · have fr2 := un.frzs c o2 _ fr
        have g1 := (hok c _ fr).1
        have g2 := (hok' c _ fr2).1
        rw [z] at g1
        rw [g2, ← Option.some.inj g1]
theorem walkG {l : PySem.W.OpenLaw} {m n : Nat} {q : Program} {loose : List Str} {XP : (Str → Option Value) → Heap → Prop} {YP : World → Heap → Prop} {d : DefRec} {K : Params → PySem.W.Frag} {sp : World → Sp} {x : Str}
    (hm : l.most = some m) (hm2 : m ≤ sizeLine) (hdf : d.params.defaults = []) (room : Room n callerA) (hY : ∀ (w : World) (h : Heap), YP w h → (K w.params).In h)
    (F : ∀ (w : World) (mg : Str → Option Value) (fa : Addr) (h : Heap), (K w.params).In h → h.Ns mainGlobals mg → mg d.name = some (.ref fa) →
      ∃ fd : FuncData, (∀ (s : Shared) (u : Value), BindsTo s fd ⟨[u], []⟩ [(x, u)]) ∧ ∀ base : Heap, (K w.params).In base → base.Ns mainGlobals mg → FnG l.prog w (K w.params) mg base n fa fd [x] (sp w))
    (hsp : ∀ (w : World) (H : Hp) (a : Addr) (ns : List Int), ns.length ≤ m → SqL (K w.params) H a (ns.map V.int) → sp w [.ref a] H (fun v _ => v = .bl true) fun _ _ _ => False) :
    PySem.W.WalkO q loose XP YP l.row.toRowW d [] (fun f vs => PySem.call f vs) := by
  apply Att.attach_call hm hdf
  intro w s₀ s₁ mg mb fa o pm cd doc a vs ns G Y ho hd hcd hmg hobj hints hlen hg
  obtain ⟨fd, bind, FF⟩ := F w mg fa _ (hY w _ Y) G.T.g hmg
  exact law_callG (hY w _ Y) G.T.g G.T.b G.T.builtins G.T.nolimit hg hobj hints (Nat.le_trans hlen hm2) room FF bind fun H => hsp w H a ns hlen
end
end OF
/-! What repr shows: plain values, tuples and lists of such, dicts of ints; repr of a list of these. -/
namespace OF
open PySem PySem.Spec PyProof.Rows L2
section
variable {X : Cx} {H : Hp}
/-- v reads as d and is shown so, wherever the heap is tracked by H -/
def Rp (X : Cx) (H : Hp) (v : V) (d : PyData) : Prop := ∀ (pins : List (Addr × Obj)) (σ : L2.St) (s : Shared) (u : Value), Inv X pins σ H s → RelV v u →
  (∃ as, Reads s.heap u d as) ∧ ∃ bs, ReadAtMost s.heap d.depth bs ∧ ReprK X.prog X.w bs s.heap d.depth u d.shown
inductive RpAll (X : Cx) (H : Hp) : List V → List PyData → Prop
  | nil : RpAll X H [] []
  | cons {v : V} {d : PyData} {vs : List V} {ds : List PyData} : Rp X H v d → RpAll X H vs ds → RpAll X H (v :: vs) (d :: ds)
theorem RpAll.reads {vs : List V} {ds : List PyData} (h : RpAll X H vs ds) : ∀ {pins : List (Addr × Obj)} {σ : L2.St} {s : Shared} {us : List Value}, Inv X pins σ H s → Vals vs us →
    (∃ as, ReadsAll s.heap us ds as) ∧ ∃ bs, ReadAtMost s.heap (PyData.depthAll ds) bs ∧ ReprAllK X.prog X.w bs s.heap (PyData.depthAll ds) us (PyData.shownAll ds) := by
  induction h with
  | nil =>
    intro pins σ s us I r
    cases r
    refine ⟨⟨[], .nil⟩, [], ?_, ?_⟩
    · intro c z
      cases z
    · simp only [PyData.shownAll]
      exact .nil
  | cons h1 _ ih =>
    intro pins σ s us I r
    cases r with
    | cons r1 r2 =>
      obtain ⟨⟨as, q1⟩, b1, m1, k1⟩ := h1 pins σ s _ I r1
      obtain ⟨⟨cs, q2⟩, b2, m2, k2⟩ := ih I r2
      simp only [PyData.depthAll, PyData.shownAll]
      refine ⟨⟨as ++ cs, .cons q1 q2⟩, b1 ++ b2, (m1.mono (Nat.le_max_left _ _)).append (m2.mono (Nat.le_max_right _ _)), .cons ?_ ?_⟩
      · exact (k1.more fun c z => List.mem_append_left _ z).level_le (Nat.le_max_left _ _)
      · exact k2.more_le (fun c z => List.mem_append_right _ z) (Nat.le_max_right _ _)
/-- what the library reads -/
theorem Rp.dp {v : V} {d : PyData} (h : Dp X.K H v d) (hs : d.showable = true) (hn : d.hasDict = false) (hz : d.shown.length ≤ sizeLine) : Rp X H v d := fun pins σ s u I r => by
  obtain ⟨as, q⟩ := Dp.reads I d v u h r
  exact ⟨⟨as, q⟩, ReprK.of_reads q hs (PyData.noDict_hsm hn) hz⟩
theorem Rp.tup {a : Addr} {xs : List V} {ds : List PyData} (h : SqT X.K H a xs) (ha : RpAll X H xs ds) : Rp X H (.ref a) (.tuple ds) := fun pins σ s u I r => by
  cases r
  obtain ⟨its, rv, ⟨o, ho, hc, n, hd⟩, _⟩ := I.tuple h
  obtain ⟨⟨as, q⟩, bs, m, k⟩ := ha.reads I rv
  have R : Reads s.heap (.ref a) (.tuple ds) as := .tuple ho hc hd q
  have out : a ∉ bs := not_mem_of_deeper R (by simp only [PyData.depth]; omega) m
  refine ⟨⟨as, R⟩, a :: bs, ReadAtMost.cons R (by simp only [PyData.depth]; omega) m, ?_⟩
  simp only [PyData.depth, PyData.shown]
  exact ReprK.tuple ho hc hd out k
def keyD : Key → PyData
  | .inl i => .int i
  | .inr z => .str z
theorem pairs_read {P : Program} {w : World} {h : Heap} : ∀ (kvs : List (Key × Int)) (vs : List (Key × Value)) (es : List DictEntry), KV (kvs.map fun p => (p.1, V.int p.2)) vs → Pairs (mixKind P w) es vs →
    ReadsAll h (es.map (·.key)) ((kvs.map fun p => (keyD p.1, PyData.int p.2)).map (·.1)) [] ∧ ReadsAll h (es.map (·.val)) ((kvs.map fun p => (keyD p.1, PyData.int p.2)).map (·.2)) []
  | [], _, _, r, q => by
    cases r
    cases q
    exact ⟨.nil, .nil⟩
  | p :: kvs, _, _, r, q => by
    cases r with
    | cons r1 r2 =>
      cases q with
      | @cons en _ _ _ k1 v1 q2 =>
        obtain ⟨h1, h2⟩ := pairs_read (h := h) kvs _ _ r2 q2
        obtain ⟨e1, t, e2⟩ := r1
        constructor
        · refine ReadsAll.cons (as := []) (bs := []) ?_ h1
          rw [← e1] at k1
          rcases keyIs_shape k1 with ⟨i, t, x1, x2⟩ | ⟨z, t, x1, x2⟩
          · show Reads h en.key (keyD p.1) []
            rw [x2, show p.1 = Sum.inl i from x1]
            exact .int i t
          · show Reads h en.key (keyD p.1) []
            rw [x2, show p.1 = Sum.inr z from x1]
            exact .str z t
        · refine ReadsAll.cons (as := []) (bs := []) ?_ h2
          show Reads h en.val (.int p.2) []
          rw [v1, e2]
          exact .int _ _
theorem Rp.dct {a : Addr} {kvs : List (Key × Int)} (h : H a = some (.dK (kvs.map fun p => (p.1, V.int p.2)))) (hs : (PyData.dict (kvs.map fun p => (keyD p.1, PyData.int p.2))).showable = true) (hz : (PyData.dict (kvs.map fun p => (keyD p.1, PyData.int p.2))).shown.length ≤ sizeLine) :
    Rp X H (.ref a) (.dict (kvs.map fun p => (keyD p.1, .int p.2))) := fun pins σ s u I r => by
  cases r
  obtain ⟨_, hm, vs, rel, o, es, ep, ho, hx, hd, _, hp, _⟩ := dk_of I.hok h
  obtain ⟨h1, h2⟩ := pairs_read (h := s.heap) kvs vs es.toList rel hp
  have R : Reads s.heap (.ref a) (.dict (kvs.map fun p => (keyD p.1, .int p.2))) (a :: [] ++ []) := .dict ho hx.1 hd h1 h2
  refine ⟨⟨_, R⟩, ReprK.of_reads R hs (fun _ z => ?_) hz⟩
  have z2 : sysModules ∈ [a] := z
  rw [List.mem_singleton] at z2
  rw [← z2] at hm
  exact absurd hm (by decide)
/-- repr of a list -/
def rRepr (X : Cx) : List V → Hp → VK → Prop := fun xs H Q => ∃ (a : Addr) (ys : List V) (ds : List PyData), xs = [.ref a] ∧ SqL X.K H a ys ∧ RpAll X H ys ds ∧ PyData.depthAll ds ≤ 40 ∧ (PyData.list ds).shown.length ≤ sizeLine ∧ Q (.str (PyData.list ds).shown) H
theorem call_reprL (gu : X.A.guards = some []) (hu : X.A.units + 64 < cLine) : CallR X (.builtin "repr") (rRepr X) := by
  intro pins s σ H xs us Q I r h
  obtain ⟨a, ys, ds, rfl, hl, hd, dep, hz, q⟩ := h
  obtain ⟨u, rfl, ru⟩ := vals1 r
  cases ru
  obtain ⟨its, rv, ⟨o, n, ho, hc, _, hdat⟩, _⟩ := I.list hl
  obtain ⟨⟨as, rd⟩, bs, m, k⟩ := hd.reads I rv
  have R : Reads s.heap (.ref a) (.list ds) (a :: as) := .list ho hc hdat rd
  have out : a ∉ bs := not_mem_of_deeper R (by simp only [PyData.depth]; omega) m
  refine call_repr_slot (by omega) ⟨o, ho, hc⟩ F.slot_list_repr.toG ?_
  have fin : ∀ (h' : Heap) (t tk : Nat), (∀ c o, s.heap.get? c = some o → h'.get? c = some o) → ∃ x u, Value.str (PyData.list ds).shown t = Value.str x u ∧ EP X pins σ Q (Value.str (PyData.list ds).shown t) { s with heap := h', toks := tk } := fun h' t tk kp =>
    ⟨_, _, rfl, .str _, H, I.kept kp, ⟨_, rfl⟩, q⟩
  simp only [PyData.shown] at fin hz
  cases its with
  | nil =>
    cases rd
    simp only [PyData.shownAll, listText_nil] at fin
    exact call_list_repr_empty ⟨o, ho, hc⟩ ho hdat (fin s.heap _ _ fun _ _ z => z)
  | cons x l =>
    exact call_list_reprK (s := s) ho hc hdat out (by simpa using k.length_eq) (fun i y z => k.item i y (by simpa using z)) gu (fun b _ => Clear.nil b) (show X.A.units + 1 + (PyData.depthAll ds + 1) < cLine by omega) (fun _ _ z => z) fin hz
end
end OF
set_option maxHeartbeats 4000000
/-! Errors of the program's own classes as values: made by position and by names. -/
namespace OF
open PySem PySem.Spec PyProof.Rows L2 PySem.HandSPX
section
variable {prog : Program} {w : World} {A : Around} {E : Value → Shared → Prop} {h : Heap} {g : Array GenState} {d : Drawn} {t : Nat} {os : OsState} {nm q : Str} {C N : Addr} {bs bm bmB : List Value} {hdct ab : Bool} {sn : List Str} {sub rest : List Value} {col : Option Bool} {dd : Option Addr}
  {k0 k1 k2 k3 k5 : Option Value} {B newId initId : String} {kw : List (Str × Value)}
theorem kw_new_ok {M : Model} {Q : Unit → Shared → Prop} (F : ExcBaseFacts B newId initId bmB) (same : ∀ T : String, bm.contains (.type T) = bmB.contains (.type T)) (hC : h.get? C = some (excClassObj nm q C N bs bm hdct sn sub ab col dd k0 k1 k2 k3 k5 newId))
    (fin : Q () ⟨h, g, d, t, os⟩) : wpAny M A (checkBuiltinCall newId ⟨.ref C :: rest, kw⟩) Q E ⟨h, g, d, t, os⟩ := by
  have below : (Value.ref C :: bm).contains (.type B) = true := by
    rw [List.contains_cons, same, F.hasB]
    exact Bool.or_true _
  have short := F.noStar
  simp only [checkBuiltinCall, F.newSplit, F.newKind, F.newRow]
  repeat first
    | refine wpAny_loadPart_at hC ?_
    | (refine wpAny_isSubtype_exc hC ?_; rw [below])
    | refine wpAny_staticBase_exc hC ?_
    | refine wpAny_madeBy_exc hC ?_
    | simp only [Bool.false_eq_true, bne_self_eq_false, if_false]
    | wp_step
  exact fin

theorem kw_new_run {R : Result → Shared → Prop} (F : ExcBaseFacts B newId initId bmB) (same : ∀ T : String, bm.contains (.type T) = bmB.contains (.type T)) (hC : h.get? C = some (excClassObj nm q C N bs bm hdct sn sub ab col dd k0 k1 k2 k3 k5 newId)) (small : rest.length ≤ sizeLine)
    (fin : R (.ok (.ret (.ref (h.objs.size + 1)))) ⟨(h.push (PySem.W.kdv_tup rest)).push (excO C h.objs.size), g, d, t, os⟩) : codeAny (model prog w) A (.builtin newId ⟨.ref C :: rest, kw⟩) R ⟨h, g, d, t, os⟩ := by
  have ends := F.ends
  have inB : (Value.ref C :: bm).contains (.type B) = true := by
    rw [List.contains_cons, same, F.hasB]
    exact Bool.or_true _
  have outA : (Value.ref C :: bm).contains (.type "AttributeError") = false := by
    rw [List.contains_cons, same, F.noAttr] <;> rfl
  have outN : (Value.ref C :: bm).contains (.type "NameError") = false := by
    rw [List.contains_cons, same, F.noName] <;> rfl
  apply codeAny_builtinAt F.entry
  unfold Builtin.«BaseException.__new__»
  apply PySem.wpAt_bind
  show PySem.wpAt _ _ _ (stack >>= _) _ _ _
  apply PySem.wpAt_bind
  apply PySem.wpAt_stack
  intro p rest'
  apply PySem.wpAt_of_wpAny
  wp_walk
  apply PySem.wpAt_of_wpAny
  rw [F.owner]
  repeat first
    | with_reducible refine wpAny_madeHere_exc F.canon hC ?_
    | with_reducible refine wpAny_loadPart_at hC ?_
    | (with_reducible refine wpAny_isSubtype_exc hC ?_
       first | rw [inB] | rw [outA] | rw [outN])
    | wp_step
  show R _ _
  rw [Heap.size_push]
  exact fin
theorem kw_call_run {fI : Addr} {Q : Fin → Shared → Prop} (F : ExcBaseFacts B newId initId bmB) (same : ∀ T : String, bm.contains (.type T) = bmB.contains (.type T)) (hC : h.get? C = some (excClassObj nm q C N bs bm hdct sn sub ab col dd k0 k1 k2 k3 k5 newId)) (small : rest.length ≤ sizeLine)
    (li : PySem.W.Looks (model prog w) h (typeLookup (.ref C) "__init__") (some (.ref fI))) (lb : ∀ v, PySem.W.Looks (model prog w) h (bindSpecial (.ref fI) v) (.ref fI, [v]))
    (fin : codeAny (model prog w) A (.call (.ref fI) ⟨.ref (h.objs.size + 1) :: rest, kw⟩) (fun r s' => match r with | .ok (.ret v) => v = .none ∧ Q (.done (.ret (.ref (h.objs.size + 1)))) s' | .ok _ => False | .error e => E e s')
      ⟨(h.push (PySem.W.kdv_tup rest)).push (excO C h.objs.size), g, d, t, os⟩) : wpAny (model prog w) A (Builtin.«type.__call__» ⟨.ref C :: rest, kw⟩) Q E ⟨h, g, d, t, os⟩ := by
  repeat first
    | with_reducible refine wpAny_loadPart_at hC ?_
    | with_reducible refine wpAny_madeBy_exc hC ?_
    | wp_step
  apply codeAny_call_builtin_code (Code.quiet_builtin _ F.quiet) (kw_new_ok F same hC _)
  apply kw_new_run F same hC small
  show wpAny _ _ _ _ _ _
  have keep : ∀ c o, h.get? c = some o → ((h.push (PySem.W.kdv_tup rest)).push (excO C h.objs.size)).get? c = some o := by
    intro c o z
    exact Heap.get?_push_of_some _ (Heap.get?_push_of_some _ z)
  have hC2 := keep _ _ hC
  have there : ((h.push (PySem.W.kdv_tup rest)).push (excO C h.objs.size)).get? (h.objs.size + 1) = some (excO C h.objs.size) := by heap_get
  have self : (Value.ref C :: bm).contains (.ref C) = true := by simp
  have li2 := li.keeps keep
  have lb2 := (lb (.ref (h.objs.size + 1))).keeps keep
  unfold isInstance
  repeat first
    | with_reducible refine wpAny_loadPart_at there ?_
    | (with_reducible refine wpAny_isSubtype_exc hC2 ?_
       rw [self])
    | wp_step
  show wpAny _ _ (typeLookup (.ref C) _) _ _ _
  apply li2.at
  apply wpAny_holding
  apply wpAny_bind
  apply lb2.at
  apply wpAny_bind
  apply wpAny_call
  apply codeAny_mono fin
  intro r s' z
  cases r with
  | error e => exact z
  | ok fl =>
    cases fl with
    | next => exact z.elim
    | brk => exact z.elim
    | cont => exact z.elim
    | ret v =>
      obtain ⟨ev, z⟩ := z
      subst ev
      first
        | exact wpAny_pure (wpAny_pure z)
        | (wp_walk; exact z)
theorem kw_call {fI : Addr} {R : Result → Shared → Prop} (F : ExcBaseFacts B newId initId bmB) (same : ∀ T : String, bm.contains (.type T) = bmB.contains (.type T)) (hC : h.get? C = some (excClassObj nm q C N bs bm hdct sn sub ab col dd k0 k1 k2 k3 k5 newId)) (small : rest.length ≤ sizeLine)
    (li : PySem.W.Looks (model prog w) h (typeLookup (.ref C) "__init__") (some (.ref fI))) (lb : ∀ v, PySem.W.Looks (model prog w) h (bindSpecial (.ref fI) v) (.ref fI, [v]))
    (fin : codeAny (model prog w) (A.under (.builtin "type.__call__" ⟨.ref C :: rest, kw⟩)) (.call (.ref fI) ⟨.ref (h.objs.size + 1) :: rest, kw⟩) (PySem.W.InitBack (h.objs.size + 1) R)
      ⟨(h.push (PySem.W.kdv_tup rest)).push (excO C h.objs.size), g, d, t, os⟩) : codeAny (model prog w) A (.call (.ref C) ⟨rest, kw⟩) R ⟨h, g, d, t, os⟩ := by
  have f1 := tc_lookup
  have f2 := tc_bind (.ref C)
  have isT : (⟨h, g, d, t, os⟩ : Shared).TypeIs (.ref C) "type" := ⟨_, hC, rfl⟩
  apply codeAny_of_tree
  show wpAny _ _ (callAny (.ref C) _) _ _ _
  repeat any_goals first
    | assumption
    | with_reducible refine wpAny_loadPart_at hC ?_
    | wp_step
  constructor
  · rfl
  have typ : PySem.W.Looks (model prog w) h (isInstance (.ref C) (.type "type")) true := by
    unfold isInstance
    have ty : PySem.W.Looks (model prog w) h (typeOf (.ref C)) (.type "type") := (PySem.W.Looks.ld hC).andThen .now
    exact ty.andThen (PySem.W.Looks.of_pure tc_sub)
  apply codeAny_call_builtin_at (Code.quiet_builtin _ (by decide +kernel)) entry_typeCall
  apply PySem.W.check_slot tc_kind tc_split typ (PySem.W.tc_args _ _ _)
  apply kw_call_run F same hC small li lb
  apply codeAny_mono fin
  intro r s' z
  cases r with
  | error e => exact z
  | ok fl => cases fl <;> exact z
end
end OF
/-! Errors of the program's own classes as values: the rules. -/
namespace OF
open PySem PySem.Spec PyProof.Rows L2
/-- what the maker of an error must do, and what then holds -/
def MadeBy (C : Addr) (sp : Sp) (xs : Addr → List V) (H : Hp) (Q : VK) : Prop := ∀ a, H a = none → sp (xs a) (upd H a (exo a C none)) (fun v H2 => v = .non ∧ Q (.ref a) H2) (fun _ _ _ => False)
def tMadeP (C : Addr) (sp : Sp) (ta : TA) : TE := fun σ H Q => ta σ H fun vs H1 => vs.length ≤ 1000 ∧ MadeBy C sp (fun a => .ref a :: vs) H1 Q
def tMadeN (C : Addr) (m : Nat) (sp : Sp) (gV : List V → List V → List V) (tk : TA) : TE := fun σ H Q => tk σ H fun zs H1 => zs.length = m ∧ MadeBy C sp (fun a => gV [.ref a] zs) H1 Q
section
variable {X : Cx} {CX : CXT} {x : Str} {C fI : Addr} {k n : Nat} {fd : FuncData} {ps ks : List Str} {sp : Sp} {e : Expr} {es : List Expr} {kws : List Keyword} {ta tk : TA} {p pos : Pos} {g : List Value → List Value → List Value} {gV : List V → List V → List V}
theorem run_made {pins : List (Addr × Obj)} {σ : L2.St} {H : Hp} {s : Shared} {us ws : List Value} {vs zs : List V} {Q : VK} (T : OexC X.K C) (iC : PySem.W.findIn X.K (.ref C) "__init__" = some (some (.ref fI))) (tI : PySem.W.typeIn X.K (.ref fI) = some (.type "function"))
    (F1 : FnOk X.prog X.w X.K X.mg X.base CX k fI fd ps sp) (room : Room (k + 1) X.A) (hb : KBn X.K fd ps (n + 1) ks g gV) (hx : Passes CX X (fun _ _ _ => False)) (I : Inv X pins σ H s) (r : Vals vs us) (rz : Vals zs ws) (l1 : vs.length = n) (l2 : zs.length = ks.length) (small : vs.length ≤ 1000)
    (h : MadeBy C sp (fun a => gV (.ref a :: vs) zs) H Q) : wpAny (model X.prog X.w) X.A (call (.ref C) us (ks.zip ws)) (EP X pins σ Q) X.xe s := by
  obtain ⟨nm, q, N, bs, bm, sn, sub, ab, col, dd, k0, k1, k2, k3, k5, hC, hbm⟩ := T.cls
  obtain ⟨hp, gn, dr, t, os⟩ := s
  have le : hp.objs.size ≤ hp.objs.size + 1 := Nat.le_succ _
  have hq := h (hp.objs.size + 1) (I.hok.fresh le)
  have keep : ∀ c o, hp.get? c = some o → ((hp.push (PySem.W.kdv_tup us)).push (PySem.HandSPX.excO C hp.objs.size)).get? c = some o := by
    intro c o z
    exact Heap.get?_push_of_some _ (Heap.get?_push_of_some _ z)
  have there : ((hp.push (PySem.W.kdv_tup us)).push (PySem.HandSPX.excO C hp.objs.size)).get? (hp.objs.size + 1) = some (PySem.HandSPX.excO C hp.objs.size) := by heap_get
  have J : Inv X pins σ (upd H (hp.objs.size + 1) (exo (hp.objs.size + 1) C none)) ⟨(hp.push (PySem.W.kdv_tup us)).push (PySem.HandSPX.excO C hp.objs.size), gn, dr, t, os⟩ :=
    I.laid (t' := t) keep le (exo_ok there)
  have r1 : Vals (V.ref (hp.objs.size + 1) :: vs) (Value.ref (hp.objs.size + 1) :: us) := .cons rfl r
  have n1 : (Value.ref (hp.objs.size + 1) :: us).length = n + 1 := by rw [List.length_cons, ← r.length, l1]
  have n2 : us.length ≤ sizeLine := by
    rw [← r.length, sizeLine_eq]
    omega
  apply wpAny_call
  apply kw_call F.excBase_ValueError (fun Y => PySem.HandSPX.refsVE_contains Y bm hbm) (I.kIn _ _ hC) n2 (PySem.W.looks_findIn I.kIn iC) (fun v => PySem.W.bind_fn I.kIn v tI)
  apply codeAny_mono (F1.run _ X.stack _ _ ⟨Value.ref (hp.objs.size + 1) :: us, ks.zip ws⟩ (g (Value.ref (hp.objs.size + 1) :: us) ws) _ _ (fun _ _ _ => False) (room.make C us (ks.zip ws)) (J.env0.make C us (ks.zip ws))
    (hb.to _ (Value.ref (hp.objs.size + 1) :: us) ws J.kIn n1 (rz.length.symm.trans l2)) (hb.rel r1 rz) hq)
  intro res s' z
  cases res with
  | error er => exact hx pins σ _ _ er s' J z
  | ok fl =>
    cases fl with
    | next => cases z
    | brk => cases z
    | cont => cases z
    | ret u =>
      obtain ⟨v, H', J2, rv, ev, q2⟩ := J.after z
      subst ev
      exact ⟨rv, V.ref (hp.objs.size + 1), H', J2, rfl, q2⟩
/-- positions alone are names of none -/
theorem kb_pos (b : Binds X.K fd ps []) : KBn X.K fd ps ps.length [] (fun us _ => us) (fun vs _ => vs) := by
  constructor
  · intro s us ws KX l1 l2
    have := b s us KX (by rw [List.append_nil]; exact l1)
    rw [List.append_nil] at this
    exact this
  · intro vs us zs ws r _
    exact r
/-- C(e, ..) -/
theorem pe_madeP (T : OexC X.K C) (iC : PySem.W.findIn X.K (.ref C) "__init__" = some (some (.ref fI))) (tI : PySem.W.typeIn X.K (.ref fI) = some (.type "function")) (F1 : FnOk X.prog X.w X.K X.mg X.base CX k fI fd ps sp) (room : Room (k + 1) X.A) (b : Binds X.K fd ps [])
    (hx : Passes CX X (fun _ _ _ => False)) (hg : Gl X x) (hm : X.mg x = some (.ref C)) (ha : PA X (e :: es) ta)
    (hdb : (x == ("__debug__" : Str)) = false := by decide) (he : starEach (e :: es) X.env = (false, eval e X.env) :: starEach es X.env := by rfl) (hpl : (backTo pos (starEach es X.env)).any (·.1) = false := by rfl) :
    PE X (.Call (.Name x p) (e :: es) [] pos) (tMadeP C sp ta) := by
  constructor
  intro pins s σ H Q I h
  refine wpAny_Call_Name_kw (ld_glob I hg hm ?_ hdb)
  refine PySem.W.callWith_K (h₀ := X.base) I.ok.mod.kin T.kC (thn (ha.run pos pins s σ H _ I h) ?_) he hpl
  rintro us s1 ⟨vs, H1, I1, r1, small, q⟩
  refine ⟨I1.kIn, ?_⟩
  have hl : ps.length = vs.length + 1 := by
    have z := F1.len _ _ _ _ (q (s1.heap.objs.size + 1) (I1.hok.fresh (Nat.le_succ _)))
    rw [← z]
    rfl
  have kb := kb_pos (X := X) b
  rw [hl] at kb
  exact run_made (zs := []) (ws := []) T iC tI F1 room kb hx I1 r1 .nil rfl rfl small q
/-- C() -/
theorem pe_made0 (T : OexC X.K C) (iC : PySem.W.findIn X.K (.ref C) "__init__" = some (some (.ref fI))) (tI : PySem.W.typeIn X.K (.ref fI) = some (.type "function")) (F1 : FnOk X.prog X.w X.K X.mg X.base CX k fI fd ["self"] sp) (room : Room (k + 1) X.A) (b : Binds X.K fd ["self"] [])
    (hx : Passes CX X (fun _ _ _ => False)) (hg : Gl X x) (hm : X.mg x = some (.ref C)) (hdb : (x == ("__debug__" : Str)) = false := by decide) :
    PE X (.Call (.Name x p) [] [] pos) (tMadeP C sp tNil) := by
  constructor
  intro pins s σ H Q I h
  refine wpAny_Call_Name_kw (ld_glob I hg hm ?_ hdb)
  exact PySem.W.callWith_K0 I.kIn T.kC (run_made (n := 0) (us := []) (vs := []) (zs := []) (ws := []) T iC tI F1 room (kb_pos (X := X) b) hx I .nil .nil rfl rfl (Nat.zero_le _) h.2)
/-- C(k = e, ..) -/
theorem pe_madeN (T : OexC X.K C) (iC : PySem.W.findIn X.K (.ref C) "__init__" = some (some (.ref fI))) (tI : PySem.W.typeIn X.K (.ref fI) = some (.type "function")) (F1 : FnOk X.prog X.w X.K X.mg X.base CX k fI fd ps sp) (room : Room (k + 1) X.A) (kb : KBn X.K fd ps 1 ks g gV)
    (hx : Passes CX X (fun _ _ _ => False)) (hg : Gl X x) (hm : X.mg x = some (.ref C)) (hkw : PK X kws tk) (hall : (backToKw pos (keywordEach kws X.env)).all (·.1.isSome) = true := by rfl) (hks : (backToKw pos (keywordEach kws X.env)).filterMap (·.1) = ks := by rfl)
    (hdb : (x == ("__debug__" : Str)) = false := by decide) (hpl : ((backTo pos (starEach [] X.env)).any (·.1) || (backToKw pos (keywordEach kws X.env)).any (·.1.isNone)) = false := by rfl) :
    PE X (.Call (.Name x p) [] kws pos) (tMadeN C ks.length sp gV tk) := by
  constructor
  intro pins s σ H Q I h
  refine wpAny_Call_Name_kw (ld_glob I hg hm ?_ hdb)
  refine PySem.W.callWith_KW0 (h₀ := X.base) I.ok.mod.kin T.kC hall (thn (hkw.run pos pins s σ H _ I h) ?_) hpl
  rintro ws s2 ⟨zs, H2, I2, rz, l2, q⟩
  refine ⟨I2.kIn, ?_⟩
  rw [hks]
  exact run_made (n := 0) (us := []) (vs := []) T iC tI F1 room kb hx I2 .nil rz rfl l2 (Nat.zero_le _) q
/-- e.f of such a value -/
def tFldC (K : PySem.W.Frag) (f : Str) (te : TE) : TE := fun σ H Q => te σ H fun x H1 => ∃ (a d C : Addr) (fs : List (Str × V)) (v : V), x = .ref a ∧ XfC K C ∧ PySem.W.findIn K (.ref C) f = some none ∧ H1 a = some (exo a C (some d)) ∧ H1 d = some (exd d fs) ∧ fs.lookup f = some v ∧ Q v H1
theorem pe_fldV {f : Str} {te : TE} (he : PE X e te) (hb : attributeBase e f X.env (eval e X.env) = eval e X.env := by rfl) : PE X (.Attribute e f pos) (tFldC X.K f te) := by
  constructor
  intro pins s σ H Q I h
  refine attr_of hb (thn (he.run pins s σ H _ I h) ?_)
  rintro u s1 ⟨y, H1, I1, ru, a, d, C, fs, v, ey, T, no, ea, ed, l, q⟩
  subst ey
  cases ru
  obtain ⟨t1, ho⟩ := exo_at I1.hok ea
  obtain ⟨mA, hns, rel⟩ := exd_at I1.hok ed
  obtain ⟨od, hod, hl⟩ := lookIn_ns hns
  obtain ⟨u, hu, rv⟩ := RelO.some_of (v := v) (o := mA f) (by rw [← l]; exact rel f)
  have J : PySem.W.InstAt s1.heap a _ C (some od) := ⟨ho, rfl, rfl, hod⟩
  exact PySem.HandSPX.exc_get I1.kIn J T.ga T.gg T.exC (PySem.W.findObj_own T.hdC no rfl (by rw [hl, hu])) (handed_of rv) ⟨v, H1, I1.tok _, rv, q⟩
/-- isinstance(e, C) of such a value -/
def rAskV (K : PySem.W.Frag) : List V → Hp → VK → Prop := fun xs H Q => ∃ (a D : Addr) (d : Option Addr) (c : V) (cv : Value) (b : Bool), xs = [.ref a, c] ∧ AskC K D ∧ H a = some (exo a D d) ∧ (∀ d', d = some d' → ∃ fs, H d' = some (exd d' fs)) ∧ (∀ u, RelV c u → u = cv) ∧ PySem.W.kitOne K (.ref D) cv = some b ∧ Q (.bl b) H
theorem call_askV : CallR X (.builtin "isinstance") (rAskV X.K) := by
  intro pins s σ H xs us Q I r h
  obtain ⟨a, D, d, c, cv, b, rfl, T, ea, ed, hcv, kit, q⟩ := h
  obtain ⟨u1, u2, rfl, r1, r2⟩ := vals2 r
  cases r1
  cases hcv _ r2
  obtain ⟨t1, ho⟩ := exo_at I.hok ea
  have J : ∃ ox od, PySem.W.InstAt s.heap a ox D od := by
    cases d with
    | none => exact ⟨_, none, ho, rfl, rfl, trivial⟩
    | some d' =>
      obtain ⟨fs, e'⟩ := ed d' rfl
      obtain ⟨mA, hns, _⟩ := exd_at I.hok e'
      obtain ⟨od, hod, _⟩ := lookIn_ns hns
      exact ⟨_, some od, ho, rfl, rfl, hod⟩
  obtain ⟨ox, od, J⟩ := J
  exact PySem.W.kia_one (PySem.W.kitx_exc T.cl T.xf.ga T.xf.gg T.xf.exC T.ha T.hn T.ht T.hm) I.kIn J kit (fun z => nomatch z) fun tk => ⟨.bl b, H, I.kept (t' := tk) fun _ _ z => z, rfl, q⟩
end
end OF
/-! The error classes of the program, one promise a kind: one field, two fields, none. -/
namespace OF
open PySem PySem.Spec PyProof.Rows L2
def bmF : List Value := [.type "ValueError", .type "Exception", .type "BaseException", .type "object"]
def bmE (CF : Addr) : List Value := .ref CF :: bmF
/-- what the top says of an error class: C under the name x, its maker st at fI, bm above it -/
structure Kl (K : PySem.W.Frag) (mg : Str → Option Value) (x q : Str) (st : Stmt) (C fI : Addr) (bm : List Value) : Prop where
  g : mg x = some (.ref C)
  cls : ∃ nm q N bs sn sub ab col dd k0 k1 k2 k3 k5, K.lookup C = some (excClassObj nm q C N bs bm true sn sub ab col dd k0 k1 k2 k3 k5 "ValueError.__new__")
  sa : PySem.W.findIn K (.ref C) "__setattr__" = some (some (.builtin "object.__setattr__"))
  kC : PySem.W.keepIn K (.ref C) = true
  iC : PySem.W.findIn K (.ref C) "__init__" = some (some (.ref fI))
  tI : PySem.W.typeIn K (.ref fI) = some (.type "function")
  ga : PySem.W.findIn K (.ref C) "__getattribute__" = some (some (.builtin "BaseException.__getattribute__"))
  gg : PySem.W.findIn K (.ref C) "__getattr__" = some none
  ha : PySem.W.findIn K (.ref C) "__class__" = some (some (.builtin "object.__class__"))
  fn : ∃ fd, Fun K "__init__" q st fI fd
  fc : PySem.W.findCls K (.ref C) (.type "type") "__name__" = some (.get (.builtin "getset_descriptor.__get__") (.builtin "type.__name__") (.ref C) (.type "type"))
  nn : PySem.W.findIn K (.ref C) "class_name" = some none
  nk : ∃ (nm : Str) (o : Obj) (t : Tok), K.lookup C = some o ∧ o.cls = .type "type" ∧ o.slots[2]?.join = some (.str nm t)
section
variable {K : PySem.W.Frag} {mg : Str → Option Value} {x q : Str} {st : Stmt} {C fI : Addr} {bm : List Value}
theorem Kl.cd (T : Kl K mg x q st C fI bm) : ∃ cd, PySem.W.clsIn K C = some cd ∧ cd.mro = .ref C :: bm ∧ cd.hasDict = true := by
  obtain ⟨nm, q, N, bs, sn, sub, ab, col, dd, k0, k1, k2, k3, k5, h⟩ := T.cls
  have e : PySem.W.clsIn K C = some { name := nm, bases := bs, mro := .ref C :: bm, ns := N, qualname := q, hasDict := true, slotNames := sn, subclasses := sub, abstract := ab, collection := col, hasDel := false } := by
    unfold PySem.W.clsIn
    rw [h] <;> rfl
  exact ⟨_, e, rfl, rfl⟩
theorem Kl.sub (T : Kl K mg x q st C fI bm) (b : Value) : PySem.W.subIn K (.ref C) b = some ((Value.ref C :: bm).contains b) := by
  obtain ⟨cd, h, hm, _⟩ := T.cd
  show PySem.W.mroIn K C b = _
  unfold PySem.W.mroIn
  rw [h, Option.bind_some, hm]
  rfl
theorem Kl.ty (T : Kl K mg x q st C fI bm) : PySem.W.typeIn K (.ref C) = some (.type "type") := by
  obtain ⟨nm, q, N, bs, sn, sub, ab, col, dd, k0, k1, k2, k3, k5, h⟩ := T.cls
  show (K.lookup C).map (·.cls) = _
  rw [h] <;> rfl
theorem Kl.dic (T : Kl K mg x q st C fI bm) : PySem.W.hasDictIn K C = true := by
  obtain ⟨cd, h, _, hd⟩ := T.cd
  unfold PySem.W.hasDictIn
  rw [h]
  exact hd
/-- what stands above every error -/
structure Above (bm : List Value) : Prop where
  ve : PySem.HandSPX.refsVE bm = true
  be : ∀ C : Addr, (Value.ref C :: bm).contains (.type "BaseException") = true
  ob : ∀ C : Addr, (Value.ref C :: bm).contains (.type "object") = true
  va : ∀ C : Addr, (Value.ref C :: bm).contains (.type "ValueError") = true
theorem above_F : Above bmF := ⟨by decide +kernel, fun C => by simp [bmF], fun C => by simp [bmF], fun C => by simp [bmF]⟩
theorem above_E (CF : Addr) : Above (bmE CF) := ⟨by show PySem.HandSPX.refsVE bmF = true; decide +kernel, fun C => by simp [bmF, bmE], fun C => by simp [bmF, bmE], fun C => by simp [bmF, bmE]⟩
theorem Kl.ox (T : Kl K mg x q st C fI bm) (B : Above bm) : OexC K C := by
  obtain ⟨nm, q, N, bs, sn, sub, ab, col, dd, k0, k1, k2, k3, k5, h⟩ := T.cls
  exact ⟨⟨_, _, _, _, _, _, _, _, _, _, _, _, _, _, _, h, B.ve⟩, T.sa, (T.sub _).trans (congrArg some (B.be C)), T.ty, T.kC⟩
theorem Kl.xf (T : Kl K mg x q st C fI bm) (B : Above bm) : XfC K C := ⟨T.ga, T.gg, (T.sub _).trans (congrArg some (B.be C)), T.dic⟩
theorem Kl.ask (T : Kl K mg x q st C fI bm) (B : Above bm) (hn : PySem.W.specialIn K (.builtin "object.__class__") "__get__" = some (some (.builtin "getset_descriptor.__get__"))) (ht : PySem.W.takesIn K (.builtin "object.__class__") = some true) : AskC K C := by
  obtain ⟨cd, h, _, _⟩ := T.cd
  exact ⟨by rw [h]; rfl, T.xf B, T.ha, hn, ht, (T.sub _).trans (congrArg some (B.ob C))⟩
theorem Kl.nam (T : Kl K mg x q st C fI bm) (B : Above bm) (hn : PySem.W.specialIn K (.builtin "object.__class__") "__get__" = some (some (.builtin "getset_descriptor.__get__"))) (ht : PySem.W.takesIn K (.builtin "object.__class__") = some true) (st' : PySem.W.nsIn K cStatics "thirdparty.any" = some none) : ∃ nm, NamC K C nm := by
  obtain ⟨cd, h, _, _⟩ := T.cd
  obtain ⟨nm, o, t, lk⟩ := T.nk
  exact ⟨nm, ⟨T.xf B, by rw [h]; rfl, T.ha, hn, ht, (T.sub _).trans (congrArg some (B.ob C)), T.ty, st', T.fc, ⟨o, t, lk⟩, T.nn⟩⟩
/-- isinstance of an error of the class D, by the class C -/
theorem Kl.kit {x2 q2 : Str} {st2 : Stmt} {D fD : Addr} {bm2 : List Value} (T : Kl K mg x q st C fI bm) (U : Kl K mg x2 q2 st2 D fD bm2) : PySem.W.kitOne K (.ref D) (.ref C) = some ((Value.ref D :: bm2).contains (.ref C)) := by
  obtain ⟨cd, h, _, _⟩ := T.cd
  unfold PySem.W.kitOne
  split
  · rename_i e
    have e2 : Value.ref D = Value.ref C := eq_of_beq e
    rw [e2]
    simp
  · unfold PySem.W.kitCls
    simp only [T.ty, h, Option.isSome_some, beq_self_eq_true, Bool.and_self, if_true]
    exact U.sub _
theorem Kl.kitV (U : Kl K mg x q st C fI bm) (B : Above bm) : PySem.W.kitOne K (.ref C) (.type "ValueError") = some true := by
  unfold PySem.W.kitOne
  split
  · rfl
  · unfold PySem.W.kitCls
    simp only [show PySem.W.kitMeta "ValueError" = true by decide +kernel, if_true]
    exact (U.sub _).trans (congrArg some (B.va C))
theorem kl_mk {h : Heap} {nm q' : Str} {N : Addr} {bs sub : List Value} {sn : List Str} {ab : Bool} {col : Option Bool} {dd od an : Option Addr} {cn : Str} {tk : Tok} {k0 k1 k3 k5 : Option Value} {oc kV dc pm cd ct : Value} {sl : Array (Option Value)} (X : K.In h) (G : h.Ns mainGlobals mg)
    (a : PySem.W.nsIn K mainGlobals x = some (some (.ref C))) (l : K.lookup C = some (excClassObj nm q' C N bs bm true sn sub ab col dd k0 k1 (some (.str cn tk)) k3 k5 "ValueError.__new__"))
    (sa : PySem.W.findIn K (.ref C) "__setattr__" = some (some (.builtin "object.__setattr__"))) (kC : PySem.W.keepIn K (.ref C) = true) (iC : PySem.W.findIn K (.ref C) "__init__" = some (some (.ref fI))) (tI : PySem.W.typeIn K (.ref fI) = some (.type "function"))
    (ga : PySem.W.findIn K (.ref C) "__getattribute__" = some (some (.builtin "BaseException.__getattribute__"))) (gg : PySem.W.findIn K (.ref C) "__getattr__" = some none) (ha : PySem.W.findIn K (.ref C) "__class__" = some (some (.builtin "object.__class__")))
    (lI : K.lookup fI = some ⟨oc, od, .func (PySem.W.fnOf "__init__" q (defArgs st) (defBody st) (defScope st) .none kV dc pm an cd ct), sl⟩) (cI : PySem.W.codeIn K cd q = true) (kI : PySem.W.keepIn K (.ref fI) = true)
    (fc : PySem.W.findCls K (.ref C) (.type "type") "__name__" = some (.get (.builtin "getset_descriptor.__get__") (.builtin "type.__name__") (.ref C) (.type "type"))) (nn : PySem.W.findIn K (.ref C) "class_name" = some none) : Kl K mg x q st C fI bm :=
  ⟨PySem.W.mg_of X G a, ⟨_, _, _, _, _, _, _, _, _, _, _, _, _, _, l⟩, sa, kC, iC, tI, ga, gg, ha, ⟨_, fun_mk lI cI kI⟩, fc, nn, ⟨cn, _, tk, l, rfl, rfl⟩⟩
end

/-! ### errors in the heap -/
/-- an error of the class C with the fields fs -/
def IsE (C : Addr) (fs : List (Str × V)) (H : Hp) (a : Addr) : Prop := ∃ d rest, H a = some (exo a C (some d)) ∧ H d = some (exd d (fs ++ rest))
/-- an error of the class C -/
def Err (C : Addr) (H : Hp) (a : Addr) : Prop := ∃ d, H a = some (exo a C d) ∧ ∀ d', d = some d' → ∃ fs, H d' = some (exd d' fs)
theorem IsE.same {C a : Addr} {fs : List (Str × V)} {H H' : Hp} (h : IsE C fs H a) (s : Same H H') : IsE C fs H' a := by
  obtain ⟨d, r, h1, h2⟩ := h
  exact ⟨d, r, s _ _ h1, s _ _ h2⟩
theorem IsE.err {C a : Addr} {fs : List (Str × V)} {H : Hp} (h : IsE C fs H a) : Err C H a := by
  obtain ⟨d, r, h1, h2⟩ := h
  exact ⟨some d, h1, fun d' e => by cases e; exact ⟨_, h2⟩⟩
theorem Err.same {C a : Addr} {H H' : Hp} (h : Err C H a) (s : Same H H') : Err C H' a := by
  obtain ⟨d, h1, h2⟩ := h
  refine ⟨d, s _ _ h1, fun d' e => ?_⟩
  obtain ⟨fs, h3⟩ := h2 d' e
  exact ⟨fs, s _ _ h3⟩
/-- X.__init__ of two fields -/
def spInit2 (f g : Str) (C : Addr) : Sp := fun vs H Q _ => ∃ (a : Addr) (v u : V), vs = [.ref a, v, u] ∧ H a = some (exo a C none) ∧ ∀ (fs : List (Str × V)) (d : Addr), H d = none → d ≠ a → Q .non (upd (upd H d (exd d ((g, u) :: (f, v) :: fs))) a (exo a C (some d)))
/-- X.__init__ of none -/
def spInit0 (C : Addr) : Sp := fun vs H Q _ => ∃ a : Addr, vs = [.ref a] ∧ H a = some (exo a C none) ∧ ∀ (fs : List (Str × V)) (d : Addr), H d = none → d ≠ a → Q .non (upd (upd H d (exd d fs)) a (exo a C (some d)))
section
variable {K : PySem.W.Frag} {C : Addr} {f g : Str} {v u : V} {H : Hp} {Q : VK}
theorem same_two {H : Hp} {a d : Addr} {x y z : HO} (ha : H a = none) (hd : upd H a z d = none) (ne : d ≠ a) : Same H (upd (upd (upd H a z) d x) a y) := by
  rw [upd_ne ne] at hd
  intro b o hb
  rw [upd_ne (ne_of_none hb ha), upd_ne (ne_of_none hb hd), upd_ne (ne_of_none hb ha)]
  exact hb
theorem made1 (h : ∀ a H', Same H H' → IsE C [(f, v)] H' a → Q (.ref a) H') : MadeBy C (spInit K f C) (fun a => [.ref a, v]) H Q := fun a ha => by
  refine ⟨a, v, rfl, upd_same, fun fs d hd ne => ⟨rfl, h a _ (same_two ha hd ne) ⟨d, fs, upd_same, ?_⟩⟩⟩
  rw [upd_ne ne]
  exact upd_same
theorem made2 (h : ∀ a H', Same H H' → IsE C [(g, u), (f, v)] H' a → Q (.ref a) H') : MadeBy C (spInit2 f g C) (fun a => [.ref a, v, u]) H Q := fun a ha => by
  refine ⟨a, v, u, rfl, upd_same, fun fs d hd ne => ⟨rfl, h a _ (same_two ha hd ne) ⟨d, fs, upd_same, ?_⟩⟩⟩
  rw [upd_ne ne]
  exact upd_same
theorem made0 (h : ∀ a H', Same H H' → Err C H' a → Q (.ref a) H') : MadeBy C (spInit0 C) (fun a => [.ref a]) H Q := fun a ha => by
  refine ⟨a, rfl, upd_same, fun fs d hd ne => ⟨rfl, h a _ (same_two ha hd ne) ⟨some d, upd_same, fun d' e => ?_⟩⟩⟩
  cases e
  exact ⟨fs, by rw [upd_ne ne]; exact upd_same⟩
theorem made_F {nm : Str} (T : OexC K C) (N : NamC K C nm) (h : ∀ a H', Same H H' → Err C H' a → Q (.ref a) H') : MadeBy C (spFig K) (fun a => [.ref a, v]) H Q := fun a ha => by
  refine ⟨a, C, v, nm, rfl, T, N, upd_same, fun d hd ne => ⟨rfl, h a _ (same_two ha hd ne) ⟨some d, upd_same, fun d' e => ?_⟩⟩⟩
  cases e
  exact ⟨_, by rw [upd_ne ne]; exact upd_same⟩
end

/-! ### lists of the same things -/
/-- l == l2, two lists of the very same things -/
def rEqSame (K : PySem.W.Frag) : R2 := fun x y H Q => ∃ (l l2 : Addr) (xs : List V), x = .ref l ∧ y = .ref l2 ∧ SqL K H l xs ∧ SqL K H l2 xs ∧ (∀ v ∈ xs, flatB v = true ∨ ∃ a, v = .ref a) ∧ Q (.bl true) H
theorem op_eqSame {X : Cx} (hu : X.A.units + 64 < cLine) : OpR X (compareOp .Eq) (rEqSame X.K) := by
  intro pins s σ H x y v u Q I rx ry h
  obtain ⟨l, l2, xs, rfl, rfl, h1, h2, hs, q⟩ := h
  cases rx
  cases ry
  obtain ⟨us, r1, p1, _⟩ := I.list h1
  obtain ⟨ws, r2, p2, _⟩ := I.list h2
  have n1 := r1.length
  have n2 := r2.length
  have hsz : us.toArray.size = ws.toArray.size := by
    rw [List.size_toArray, List.size_toArray]
    omega
  have key := SeqAt.RcAt.lists (A := X.A) (e := fun _ => true) p1.isList p2.isList hsz (by omega) (fun j h1 h2 => ?_)
  · refine key X.prog X.w _ _ ?_
    rw [show ((List.range us.toArray.size).all fun _ => true) = true from List.all_eq_true.mpr fun _ _ => rfl]
    exact ⟨.bl true, H, I, rfl, q⟩
  · have j1 : j < us.length := by simpa using h1
    have jx : j < xs.length := by omega
    obtain ⟨a, ea, ra⟩ := Vals.get r1 (List.getElem?_eq_getElem jx)
    obtain ⟨b, eb, rb⟩ := Vals.get r2 (List.getElem?_eq_getElem jx)
    have e1 : us.toArray[j] = a := by
      have := List.getElem?_eq_getElem j1
      rw [this] at ea
      simpa using Option.some.inj ea
    have e2 : ws.toArray[j] = b := by
      have j2 : j < ws.length := by omega
      have := List.getElem?_eq_getElem j2
      rw [this] at eb
      simpa using Option.some.inj eb
    rw [e1, e2]
    rcases hs _ (List.getElem_mem jx) with hf | ⟨p, hp⟩
    · exact eqAt_same ra rb hf
    · rw [hp] at ra rb
      cases ra
      cases rb
      exact SeqAt.EqAt.same _
/-- comprehensions over enumerate of a list that stays -/
theorem lc_enum {K : PySem.W.Frag} {a : Addr} {xs : List V} {g : TG} {tt : TT} {te : TE} {vs : List Nat} {σ : L2.St} {H1 : Hp} {D : Addr} {Qd : Hp → Prop} (Pv : Nat → Hp → Prop) (h0 : Pv 0 (upd H1 D (.lst []))) (hl : ∀ i H, i ≤ xs.length → Pv i H → SqL K H a xs)
    (hs : ∀ (i : Nat) x H T, xs[i]? = some x → Pv i H → H T = none → g (.ref T) (wipe σ vs) (upd H T (.tup [.int (i : Int), x])) fun σ2 H2 => wipe σ2 vs = wipe σ vs ∧ tt σ2 H2 fun b H3 =>
      if b = true then te σ2 H3 fun y H4 => ∃ acc, H4 D = some (.lst acc) ∧ acc.length < sizeLine ∧ Pv (i + 1) (upd H4 D (.lst (acc ++ [y]))) else Pv (i + 1) H3) (hd : ∀ H, Pv xs.length H → Qd H) :
    ∃ W : Nat → Nat → Hp → Prop, (∃ m, W 0 m (upd H1 D (.lst []))) ∧ ∀ i m H, W i m H →
      ((Ite K a).stop i H ∧ Qd H) ∨ ((Ite K a).go i H ∧ ∃ Nx : Hp → Prop, (∀ H', Nx H' → ∃ m', m' < m ∧ W (i + 1) m' H') ∧ ∀ x H', (Ite K a).yld i H x H' → g x (wipe σ vs) H' fun σ2 H2 => wipe σ2 vs = wipe σ vs ∧ tt σ2 H2 fun b H3 =>
        if b = true then te σ2 H3 fun y H4 => ∃ acc, H4 D = some (.lst acc) ∧ acc.length < sizeLine ∧ Nx (upd H4 D (.lst (acc ++ [y]))) else Nx H3) := by
  refine ⟨fun i m H => m = xs.length - i ∧ i ≤ xs.length ∧ Pv i H, ⟨xs.length, by simp, Nat.zero_le _, h0⟩, ?_⟩
  rintro i m H ⟨em, hi, p⟩
  subst em
  have q := hl i H hi p
  rcases Nat.lt_or_ge i xs.length with hlt | hge
  · right
    refine ⟨⟨xs, xs[i], q, List.getElem?_eq_getElem hlt⟩, Pv (i + 1), fun H' p' => ⟨xs.length - (i + 1), by omega, rfl, hlt, p'⟩, ?_⟩
    rintro z H' ⟨T, x, ez, hT, eH, hx⟩
    subst ez
    subst eH
    exact hs i x H T (hx xs q) p hT
  · left
    have e : i = xs.length := by omega
    subst e
    exact ⟨⟨xs, q, Nat.le_refl _⟩, hd H p⟩
end OF
namespace K04
open PySem PySem.Spec PyProof.Rows L2 OF
def topS (i : Nat) : Stmt := PySem.Challenge.pw_oddfigures_k04_errors_by_class.main.body.getD i (.Pass ⟨0, 0, 0, 0⟩)
abbrev sFig : Stmt := inClass (topS 1) 0
abbrev sI0 : Stmt := inClass (topS 2) 0
abbrev sI1 : Stmt := inClass (topS 3) 0
abbrev sI2 : Stmt := inClass (topS 4) 0
abbrev sI3 : Stmt := inClass (topS 5) 0
abbrev sI4 : Stmt := inClass (topS 6) 0
abbrev sI5 : Stmt := inClass (topS 7) 0
abbrev sI6 : Stmt := inClass (topS 8) 0
abbrev sI7 : Stmt := inClass (topS 9) 0
abbrev sI8 : Stmt := inClass (topS 10) 0
abbrev sI9 : Stmt := inClass (topS 11) 0
abbrev sI10 : Stmt := inClass (topS 12) 0
abbrev sI11 : Stmt := inClass (topS 13) 0
abbrev sI12 : Stmt := inClass (topS 14) 0
abbrev sI13 : Stmt := inClass (topS 15) 0
abbrev sI14 : Stmt := inClass (topS 16) 0
abbrev sI15 : Stmt := inClass (topS 18) 0
abbrev sI16 : Stmt := inClass (topS 19) 0
abbrev sI17 : Stmt := inClass (topS 20) 0
abbrev sI18 : Stmt := inClass (topS 21) 0
abbrev sI19 : Stmt := inClass (topS 22) 0
abbrev sI20 : Stmt := inClass (topS 23) 0
abbrev sI21 : Stmt := inClass (topS 25) 0
abbrev sI22 : Stmt := inClass (topS 26) 0
abbrev sI23 : Stmt := inClass (topS 27) 0
abbrev sI24 : Stmt := inClass (topS 28) 0
abbrev sI25 : Stmt := inClass (topS 29) 0
abbrev sI26 : Stmt := inClass (topS 30) 0
abbrev sI27 : Stmt := inClass (topS 31) 0
abbrev sI28 : Stmt := inClass (topS 17) 0
abbrev sI29 : Stmt := inClass (topS 24) 0
abbrev sI30 : Stmt := inClass (topS 32) 0
abbrev sCell : Stmt := topS 34
abbrev sBox : Stmt := topS 35
abbrev sTake : Stmt := topS 36
abbrev sMixed : Stmt := topS 37
abbrev sMade2 : Stmt := topS 38
abbrev sMade1 : Stmt := topS 39
abbrev sMade0 : Stmt := topS 40
abbrev sKinds : Stmt := topS 41
abbrev sRight : Stmt := topS 42
abbrev sLaw : Stmt := topS 43
def gOne {α : Type} (us ws : List α) : List α := us ++ ws
def gSw {α : Type} (us ws : List α) : List α := us ++ ws.reverse
theorem rev_vals {vs : List V} {us : List Value} (h : Vals vs us) : Vals vs.reverse us.reverse := by
  induction h with
  | nil => exact .nil
  | cons r _ ih =>
    rw [List.reverse_cons, List.reverse_cons]
    exact ih.append (.cons r .nil)


section
variable {P : Program} {w : World} {K : PySem.W.Frag} {mg : Str → Option Value} {base : Heap}
theorem scC : FnScope ["_law_script", "_law_k"] ["_law_script", "_law_k"] (defScope sCell) := ⟨rfl, rfl, rfl, by decide +kernel, rfl, by decide +kernel, by decide +kernel⟩
theorem ok_cell {f : Addr} {fd : FuncData} (F : Fun K "_law_cell" "_law_cell" sCell f fd) (ml : mg "len" = none) : FnOk P w K mg base CX0 1 f fd ["_law_script", "_law_k"] (OF.spCell K) := by
  refine F.ok scC (fun vs H Q E h => ?_) (fun cdv A outer s H vs Q E hr h => ?_)
  · obtain ⟨a, ns, k, rfl, _⟩ := h
    rfl
  · obtain ⟨a, ns, k, rfl, hS, hk, q⟩ := h
    refine ⟨_, pss_cons (ps_if (pt_cmpR op_lt (pv 1) (pe_callB call_len_seq (by rfl) ml PySem.boot_len (pa_cons (pv 0) pa_nil)) (nomark _))
        (pss_one (ps_ret (pe_ix ix_list (pv 0) (pv 1) (fun _ _ => rfl)))) pss_nil)
      (pss_one (ps_ret (pe_op op_add (pe_op op_mul pe_int (pv 1)) pe_int))), ?_⟩
    refine ⟨.int k, rfl, .ref a, rfl, a, ns.map V.int, rfl, .inl hS, k, _, rfl, rfl, _, rfl, ite2 (fun c => ?_) (fun c => ?_)⟩
    · have c1 : k < ns.length := by
        have c2 := of_decide_eq_true c
        rw [List.length_map] at c2
        omega
      have g : (ns.map V.int)[k]? = some (.int ns[k]) := by
        rw [List.getElem?_map, List.getElem?_eq_getElem c1]
        rfl
      exact ⟨.ref a, rfl, .int k, rfl, a, _, k, .int ns[k], rfl, rfl, hS, atI_nat g, q _⟩
    · exact ⟨.int k, rfl, _, _, rfl, rfl, .inl ⟨by decide, by decide⟩, _, _, rfl, rfl, q _⟩
theorem scB : FnScope ["_law_cell_here"] ["_law_cell_here"] (defScope sBox) := ⟨rfl, rfl, rfl, by decide +kernel, rfl, by decide +kernel, by decide +kernel⟩
theorem ok_box {f : Addr} {fd : FuncData} (F : Fun K "_law_box" "_law_box" sBox f fd) (mi : mg "int" = none) (mm : mg "max" = none) : FnOk P w K mg base CX0 1 f fd ["_law_cell_here"] spBox := by
  refine F.ok scB (fun vs H Q E h => ?_) (fun cdv A outer s H vs Q E hr h => ?_)
  · obtain ⟨c, rfl, _⟩ := h
    rfl
  · obtain ⟨c, rfl, q⟩ := h
    refine ⟨_, pss_one (ps_ret (pe_lst (pa_cons (pe_callB (call_max2 rfl) (by rfl) mm PyProof.Rows.boot_max (pa_cons pe_int (pa_cons (pe_op op_sub (pv 0) (pe_op op_pow pe_int pe_int)) pa_nil)))
      (pa_cons (pe_op op_modR (pe_callTy call_int1 (by rfl) mi PyProof.Rows.boot_int (pa_cons (pv 0) pa_nil)) pe_int) (pa_cons pe_int pa_nil))))), ?_⟩
    refine ⟨.int c, rfl, _, _, rfl, rfl, ⟨by decide, by decide, by decide⟩, _, _, rfl, rfl, _, _, rfl, .int c, rfl, .inl ⟨_, rfl, _, _, rfl, rfl, by decide, fun r r0 r1 => ?_⟩⟩
    refine ⟨by show 3 ≤ sizeLine; decide, fun p hp => ?_⟩
    refine q p _ hp (same_new hp) ⟨_, r, 0, upd_same, ?_, r0, by omega, by decide, by decide⟩
    split <;> omega
theorem scT : FnScope ["_law_box_here", "_law_many", "_law_digit1", "_law_amount"] ["_law_box_here", "_law_many"] (defScope sTake) := ⟨rfl, rfl, rfl, by decide +kernel, rfl, by decide +kernel, by decide +kernel⟩
theorem ok_take {f : Addr} {fd : FuncData} (F : Fun K "_law_take" "_law_take" sTake f fd) (mi : mg "int" = none) : FnOk P w K mg base CX0 1 f fd ["_law_box_here", "_law_many"] spTake := by
  refine F.ok scT (fun vs H Q E h => ?_) (fun cdv A outer s H vs Q E hr h => ?_)
  · obtain ⟨a, m, n, rfl, _⟩ := h
    rfl
  · obtain ⟨a, m, n, rfl, ⟨b0, b1, b2, hH, p0, p1, q1, p2, q2⟩, hn, hm, hmb, q⟩ := h
    refine ⟨_, pss_cons (ps_if (pt_cmpR op_gt (pe_ix ix_list (pv 0) pe_int (fun _ _ => rfl)) pe_int (nomark _))
        (pss_cons (ps_set (i := 2) scT.nd rfl (.inl rfl) (pe_op op_modR (pe_callTy call_int1 (by rfl) mi PyProof.Rows.boot_int (pa_cons (pe_ix ix_list (pv 0) pe_int (fun _ _ => rfl)) pa_nil)) (pv 1)))
        (pss_cons (ps_asg (pe_op op_fdivW (pe_ix ix_list (pv 0) pe_int (fun _ _ => rfl)) (pv 1)) (pg_sub (pv 0) pe_int set_list))
        (pss_one (ps_ret (pv 2))))) pss_nil)
      (pss_cons (ps_asg (pe_op op_add (pe_ix ix_list (pv 0) pe_int (fun _ _ => rfl)) pe_int) (pg_sub (pv 0) pe_int set_list))
      (pss_cons (ps_set (i := 3) scT.nd rfl (.inl rfl) (pe_op op_modR (pe_op op_pow (pe_callTy call_int1 (by rfl) mi PyProof.Rows.boot_int
          (pa_cons (pe_op op_add (pe_op op_add (pe_ix ix_list (pv 0) pe_int (fun _ _ => rfl)) (pe_op op_mul pe_int (pe_ix ix_list (pv 0) pe_int (fun _ _ => rfl)))) pe_int) pa_nil)) pe_int) pe_int))
      (pss_cons (ps_set (i := 3) scT.nd rfl (.inl rfl) (pe_op op_modR (pe_op op_pow (pe_callTy call_int1 (by rfl) mi PyProof.Rows.boot_int
          (pa_cons (pe_op op_add (pv 3) (pe_op op_mul pe_int (pe_ix ix_list (pv 0) pe_int (fun _ _ => rfl)))) pa_nil)) pe_int) pe_int))
      (pss_one (ps_ret (pe_op op_modR (pe_callTy call_int1 (by rfl) mi PyProof.Rows.boot_int (pa_cons (pe_op op_fdiv (pv 3) pe_int) pa_nil)) (pv 1))))))), ?_⟩
    refine ⟨.ref a, rfl, a, _, 0, .int b0, rfl, rfl, SqL.of hH, atI_nat (j := 0) rfl, b0, 0, rfl, rfl, _, rfl, ite2 (fun c => ?_) (fun c => ?_)⟩
    · refine ⟨.ref a, rfl, a, _, 0, .int b0, rfl, rfl, SqL.of hH, atI_nat (j := 0) rfl, .inl ⟨b0, rfl, .int m, rfl, b0, m, rfl, rfl, hm, fun r r0 r1 => ?_⟩⟩
      refine ⟨.ref a, rfl, a, _, 0, .int b0, rfl, rfl, SqL.of hH, atI_nat (j := 0) rfl, .int m, rfl, b0, m, rfl, rfl, wide_div hm hmb (by decide) (by decide), ?_⟩
      refine ⟨.ref a, rfl, a, _, 0, 0, rfl, rfl, hH, rfl, ?_⟩
      refine ⟨.int r, rfl, q r _ r0 r1 But.at_ ⟨b0 / m, b1, b2, upd_same, Int.ediv_nonneg p0 (by omega), p1, q1, p2, by omega⟩⟩
    · refine ⟨.ref a, rfl, a, _, 2, .int b2, rfl, rfl, SqL.of hH, atI_nat (j := 2) rfl, b2, 1, rfl, rfl, .ref a, rfl, a, _, 2, 2, rfl, rfl, hH, rfl, ?_⟩
      have hH1 : (upd H a (.lst [.int b0, .int b1, .int (b2 + 1)])) a = some (.lst [.int b0, .int b1, .int (b2 + 1)]) := upd_same
      refine ⟨.ref a, rfl, a, _, 1, .int b1, rfl, rfl, SqL.of hH1, atI_nat (j := 1) rfl, .ref a, rfl, a, _, 2, .int (b2 + 1), rfl, rfl, SqL.of hH1, atI_nat (j := 2) rfl,
        _, _, rfl, rfl, .inl ⟨by decide, by decide⟩, _, _, rfl, rfl, _, _, rfl, rfl, .inl ⟨_, rfl, _, _, rfl, rfl, ⟨by decide, by decide, by omega⟩, _, _, rfl, rfl, by decide, fun r r0 r1 => ?_⟩⟩
      refine ⟨.int r, rfl, .ref a, rfl, a, _, 2, .int (b2 + 1), rfl, rfl, SqL.of hH1, atI_nat (j := 2) rfl,
        _, _, rfl, rfl, .inl ⟨by decide, by decide⟩, _, _, rfl, rfl, .inl ⟨_, rfl, _, _, rfl, rfl, ⟨by decide, by decide, by omega⟩, _, _, rfl, rfl, by decide, fun r' r0' r1' => ?_⟩⟩
      refine ⟨.int r', rfl, _, _, rfl, rfl, ⟨by decide, by decide⟩, .inl ⟨_, rfl, .int m, rfl, _, _, rfl, rfl, hm, fun r2 h0 h1 => ?_⟩⟩
      exact q r2 _ h0 h1 But.at_ ⟨b0, b1, b2 + 1, upd_same, p0, p1, q1, by omega, by omega⟩
theorem scM : FnScope ["_law_box_here", "_law_some", "_law_left", "_law_k"] ["_law_box_here", "_law_some"] (defScope sMixed) := ⟨rfl, rfl, rfl, by decide +kernel, rfl, by decide +kernel, by decide +kernel⟩
theorem ok_mixed {f fT : Addr} {fd fdT : FuncData} (F : Fun K "_law_mixed" "_law_mixed" sMixed f fd) (FT : Fun K "_law_take" "_law_take" sTake fT fdT) (gT : mg "_law_take" = some (.ref fT)) (bT : Binds K fdT ["_law_box_here", "_law_many"] [])
    (mi : mg "int" = none) (ml : mg "len" = none) (mr : mg "range" = none) (ms : mg "list" = none) : FnOk P w K mg base CX0 2 f fd ["_law_box_here", "_law_some"] (spMixed K) := by
  have GT : FnOk P w K mg base CX0 1 fT fdT ["_law_box_here", "_law_many"] spTake := ok_take FT mi
  refine F.ok scM (fun vs H Q E h => ?_) (fun cdv A outer s H vs Q E hr h => ?_)
  · obtain ⟨a, p, xs, n, rfl, _⟩ := h
    rfl
  · obtain ⟨a, p, xs, n, rfl, hB, hS, npa, hlen, hn, q⟩ := h
    refine ⟨_, pss_cons (ps_set (i := 2) scM.nd rfl (.inr rfl) (pe_callTy call_list_of (by rfl) ms PyProof.Rows.boot_list (pa_cons (pv 1) pa_nil)))
      (pss_one (ps_ret (pe_lc (own := [("_law_k", 3)]) (g := gName 3) (tt := tYes) (te := tBM K "list" rPopAt (tVar 2) (tCons (tCall spTake [] E0 (tCons (tVar 0) (tCons (tCB (rLenS K) (tCons (tVar 2) tNil)) tNil))) tNil)) rfl scM.nd (pi_range1 rfl mr (pa_cons (pe_callB call_len_seq (by rfl) ml PySem.boot_len (pa_cons (pv 1) pa_nil)) pa_nil))
        (blkOk_by (own := [("_law_k", 3)]) (N := ["_law_box_here", "_law_some", "_law_left", "_law_k"]) (sc := defScope sMixed) (by decide +kernel)) (fun _ _ _ _ _ => pg_name (i := 3) scM.nd rfl (Or.inl rfl)) (fun _ _ _ _ _ => pts_nil)
        (fun _ _ _ _ _ => by exact (pe_bm PySem.F.plainAttrs_list PySem.F.slot_list_pop PySem.F.type_list_pop mt_popAt (pv 2)
          (pa_cons (pe_call GT hr (by rfl) gT FT.kp bT .nil pass0 (pa_cons (pv 0) (pa_cons (pe_callB call_len_seq (by rfl) ml PySem.boot_len (pa_cons (pv 2) pa_nil)) pa_nil))) pa_nil)))))), ?_⟩
    refine ⟨.ref p, rfl, p, xs, rfl, .inl hS, fun l hl => ?_⟩
    have nla : l ≠ a := hB.ne hl
    have s1 : Same H (upd H l (.lst xs)) := same_new hl
    refine ⟨.ref p, rfl, p, xs, rfl, .inl (s1.seq hS), _, rfl, by omega, by omega, fun D hD => ?_⟩
    have hDl : D ≠ l := fun e => by rw [e, upd_same] at hD; cases hD
    have hD0 : H D = none := s1.free hD
    have nDa : D ≠ a := hB.ne hD0
    refine lc_range (lo := 0) (n := xs.length) (fun i H' => But a H H' ∧ Box (n + i) H' a ∧ (∃ ls, H' l = some (.lst ls) ∧ ls.length + i = xs.length ∧ ∀ y ∈ ls, y ∈ xs) ∧ ∃ acc, H' D = some (.lst acc) ∧ acc.length = i ∧ ∀ y ∈ acc, y ∈ xs) ?_ ?_ ?_
    · refine ⟨(But.new hl).trans (But.new hD), ?_, ⟨xs, ?_, rfl, fun _ h => h⟩, [], upd_same, rfl, fun y h => by cases h⟩
      · exact (((hB.upd nla).upd nDa).mono (by omega))
      · rw [upd_ne hDl.symm]
        exact upd_same
    · rintro i H' hi ⟨t, B, ⟨ls, el, ll, ml2⟩, acc, ea, la, ma⟩
      refine ⟨rfl, tYes_if ?_⟩
      refine ⟨.ref l, rfl, .inl ⟨rfl, _, SqL.of el⟩, .ref a, rfl, .ref l, rfl, l, ls, rfl, .inl (SqL.of el), a, ls.length, n + i, rfl, B, by omega, by omega, by omega, fun r H4 r0 r1 t4 B4 => ?_⟩
      have e4 : H4 l = some (.lst ls) := t4 _ _ nla el
      have hk : r.toNat < ls.length := by omega
      refine ⟨l, ls, r, r.toNat, ls[r.toNat], rfl, rfl, e4, by omega, by omega, (ixN_seq (ixN_in r0 r1)).1, List.getElem?_eq_getElem hk, ?_⟩
      refine ⟨acc, ?_, by rw [la]; exact small1000 (by omega), ?_⟩
      · rw [upd_ne hDl]
        exact t4 _ _ nDa ea
      · refine ⟨((t.trans t4).store hl).store hD0, (((B4.upd nla).upd nDa).mono (by omega)), ⟨ls.eraseIdx r.toNat, ?_, ?_, fun y hy => ml2 y (List.mem_of_mem_eraseIdx hy)⟩, _, upd_same, ?_, fun y hy => ?_⟩
        · rw [upd_ne hDl.symm]
          exact upd_same
        · rw [List.length_eraseIdx, if_pos hk]
          omega
        · rw [List.length_append, la]
          rfl
        · rcases List.mem_append.mp hy with h | h
          · exact ma y h
          · cases List.mem_singleton.mp h
            exact ml2 _ (List.getElem_mem hk)
    · rintro H' ⟨t, B, _, acc, ea, la, ma⟩
      exact q D acc H' hD0 t B ea la ma
end
end K04
namespace K04
open PySem PySem.Spec PyProof.Rows L2 OF
section
variable {P : Program} {w : World} {K : PySem.W.Frag} {mg : Str → Option Value} {base : Heap}
/-! ### the errors -/
theorem scFig : FnScope ["self", "text"] ["self", "text"] (defScope sFig) := ⟨rfl, rfl, rfl, by decide +kernel, rfl, by decide +kernel, by decide +kernel⟩
theorem ok_fig {f : Addr} {fd : FuncData} (F : Fun K "__init__" "FigureError.__init__" sFig f fd) (mV : mg "ValueError" = none) (vV : PySem.W.findCls K (.type "ValueError") (.type "type") "__init__" = some (.val (.builtin "ValueError.__init__"))) :
    FnOk P w K mg base CX0 1 f fd ["self", "text"] (spFig K) := by
  refine F.ok scFig (fun vs H Q E h => ?_) (fun cdv A outer s H vs Q E hr h => ?_)
  · obtain ⟨a, C, v, nm, rfl, _⟩ := h
    rfl
  · obtain ⟨a, C, v, nm, rfl, T, N, ha, q⟩ := h
    refine ⟨_, pss_cons (ps_expr (pe_veinit (by rfl) mV vV (pa_cons (pv 0) (pa_cons (pv 1) pa_nil)))) (pss_one (ps_ost (pv 0) (pe_cname (pv 0)))), ?_⟩
    exact ⟨.ref a, rfl, v, rfl, a, C, [v], rfl, (by show 1 ≤ 1000; decide), T, ha, .ref a, rfl, a, C, nm, rfl, ha, N, .ref a, rfl, a, C, rfl, T, N.no, .inl ⟨ha, fun d hd nd => q d hd nd⟩⟩
theorem sc_i0 : FnScope ["self", "value"] ["self", "value"] (defScope sI0) := ⟨rfl, rfl, rfl, by decide +kernel, rfl, by decide +kernel, by decide +kernel⟩
theorem ok_i0 {f f0 C C0 : Addr} {fd fd0 : FuncData} (F : Fun K "__init__" "InvalidBase.__init__" sI0 f fd) (G0 : FnOk P w K mg base CX0 1 f0 fd0 ["self", "text"] (spFig K)) (T0 : FigC K mg C0 f0) (b0 : Binds K fd0 ["self", "text"] []) (T : OexC K C) (NN : ∃ nm, NamC K C nm) (no0 : PySem.W.findIn K (.ref C) "value" = some none) :
    FnOk P w K mg base CX0 2 f fd ["self", "value"] (spInit K "value" C) := by
  refine F.ok sc_i0 (fun vs H Q E h => ?_) (fun cdv A outer s H vs Q E hr h => ?_)
  · obtain ⟨a, v, rfl, _⟩ := h
    rfl
  · obtain ⟨a, v, rfl, ha, q⟩ := h
    refine ⟨_, pss_cons (ps_expr (pe_unb G0 hr (by rfl) T0.g T0.rd T0.val T0.kp b0 pass0 (pa_cons (pv 0) (pa_cons pe_str pa_nil)))) (pss_one (ps_ost (pv 0) (pv 1))), ?_⟩
    obtain ⟨nm, N⟩ := NN
    refine ⟨.ref a, rfl, a, C, _, nm, rfl, T, N, ha, fun d hd nd => ?_⟩
    refine ⟨v, rfl, .ref a, rfl, a, C, rfl, T, no0, .inr ⟨d, _, upd_same, by rw [upd_ne nd]; exact upd_same, (by show 1 ≤ 900; decide), ?_⟩⟩
    rw [upd_swap nd]
    exact q _ d hd nd
theorem kb_i0 {f : Addr} {fd : FuncData} (F : Fun K "__init__" "InvalidBase.__init__" sI0 f fd) : KBn K fd ["self", "value"] 1 ["value"] gOne gOne := by
  obtain ⟨oc, od, kV, doc, pm, an, cdv, ct, osl, rfl, lk, hcd⟩ := F.ex
  refine ⟨fun s us ws X l1 l2 => ?_, fun {vs us zs ws} r1 r2 => r1.append r2⟩
  match us, ws, l1, l2 with
  | [a], [v], _, _ => exact .of_eq rfl
theorem sc_i1 : FnScope ["self", "value"] ["self", "value"] (defScope sI1) := ⟨rfl, rfl, rfl, by decide +kernel, rfl, by decide +kernel, by decide +kernel⟩
theorem ok_i1 {f f0 C C0 : Addr} {fd fd0 : FuncData} (F : Fun K "__init__" "InvalidDigits.__init__" sI1 f fd) (G0 : FnOk P w K mg base CX0 1 f0 fd0 ["self", "text"] (spFig K)) (T0 : FigC K mg C0 f0) (b0 : Binds K fd0 ["self", "text"] []) (T : OexC K C) (NN : ∃ nm, NamC K C nm) (no0 : PySem.W.findIn K (.ref C) "value" = some none) :
    FnOk P w K mg base CX0 2 f fd ["self", "value"] (spInit K "value" C) := by
  refine F.ok sc_i1 (fun vs H Q E h => ?_) (fun cdv A outer s H vs Q E hr h => ?_)
  · obtain ⟨a, v, rfl, _⟩ := h
    rfl
  · obtain ⟨a, v, rfl, ha, q⟩ := h
    refine ⟨_, pss_cons (ps_expr (pe_unb G0 hr (by rfl) T0.g T0.rd T0.val T0.kp b0 pass0 (pa_cons (pv 0) (pa_cons pe_str pa_nil)))) (pss_one (ps_ost (pv 0) (pv 1))), ?_⟩
    obtain ⟨nm, N⟩ := NN
    refine ⟨.ref a, rfl, a, C, _, nm, rfl, T, N, ha, fun d hd nd => ?_⟩
    refine ⟨v, rfl, .ref a, rfl, a, C, rfl, T, no0, .inr ⟨d, _, upd_same, by rw [upd_ne nd]; exact upd_same, (by show 1 ≤ 900; decide), ?_⟩⟩
    rw [upd_swap nd]
    exact q _ d hd nd
theorem kb_i1 {f : Addr} {fd : FuncData} (F : Fun K "__init__" "InvalidDigits.__init__" sI1 f fd) : KBn K fd ["self", "value"] 1 ["value"] gOne gOne := by
  obtain ⟨oc, od, kV, doc, pm, an, cdv, ct, osl, rfl, lk, hcd⟩ := F.ex
  refine ⟨fun s us ws X l1 l2 => ?_, fun {vs us zs ws} r1 r2 => r1.append r2⟩
  match us, ws, l1, l2 with
  | [a], [v], _, _ => exact .of_eq rfl
theorem sc_i2 : FnScope ["self", "value"] ["self", "value"] (defScope sI2) := ⟨rfl, rfl, rfl, by decide +kernel, rfl, by decide +kernel, by decide +kernel⟩
theorem ok_i2 {f f0 C C0 : Addr} {fd fd0 : FuncData} (F : Fun K "__init__" "InvalidBars.__init__" sI2 f fd) (G0 : FnOk P w K mg base CX0 1 f0 fd0 ["self", "text"] (spFig K)) (T0 : FigC K mg C0 f0) (b0 : Binds K fd0 ["self", "text"] []) (T : OexC K C) (NN : ∃ nm, NamC K C nm) (no0 : PySem.W.findIn K (.ref C) "value" = some none) :
    FnOk P w K mg base CX0 2 f fd ["self", "value"] (spInit K "value" C) := by
  refine F.ok sc_i2 (fun vs H Q E h => ?_) (fun cdv A outer s H vs Q E hr h => ?_)
  · obtain ⟨a, v, rfl, _⟩ := h
    rfl
  · obtain ⟨a, v, rfl, ha, q⟩ := h
    refine ⟨_, pss_cons (ps_expr (pe_unb G0 hr (by rfl) T0.g T0.rd T0.val T0.kp b0 pass0 (pa_cons (pv 0) (pa_cons pe_str pa_nil)))) (pss_one (ps_ost (pv 0) (pv 1))), ?_⟩
    obtain ⟨nm, N⟩ := NN
    refine ⟨.ref a, rfl, a, C, _, nm, rfl, T, N, ha, fun d hd nd => ?_⟩
    refine ⟨v, rfl, .ref a, rfl, a, C, rfl, T, no0, .inr ⟨d, _, upd_same, by rw [upd_ne nd]; exact upd_same, (by show 1 ≤ 900; decide), ?_⟩⟩
    rw [upd_swap nd]
    exact q _ d hd nd
theorem kb_i2 {f : Addr} {fd : FuncData} (F : Fun K "__init__" "InvalidBars.__init__" sI2 f fd) : KBn K fd ["self", "value"] 1 ["value"] gOne gOne := by
  obtain ⟨oc, od, kV, doc, pm, an, cdv, ct, osl, rfl, lk, hcd⟩ := F.ex
  refine ⟨fun s us ws X l1 l2 => ?_, fun {vs us zs ws} r1 r2 => r1.append r2⟩
  match us, ws, l1, l2 with
  | [a], [v], _, _ => exact .of_eq rfl
theorem sc_i3 : FnScope ["self", "row"] ["self", "row"] (defScope sI3) := ⟨rfl, rfl, rfl, by decide +kernel, rfl, by decide +kernel, by decide +kernel⟩
theorem ok_i3 {f f0 C C0 : Addr} {fd fd0 : FuncData} (F : Fun K "__init__" "InvalidRow.__init__" sI3 f fd) (G0 : FnOk P w K mg base CX0 1 f0 fd0 ["self", "text"] (spFig K)) (T0 : FigC K mg C0 f0) (b0 : Binds K fd0 ["self", "text"] []) (T : OexC K C) (NN : ∃ nm, NamC K C nm) (no0 : PySem.W.findIn K (.ref C) "row" = some none) :
    FnOk P w K mg base CX0 2 f fd ["self", "row"] (spInit K "row" C) := by
  refine F.ok sc_i3 (fun vs H Q E h => ?_) (fun cdv A outer s H vs Q E hr h => ?_)
  · obtain ⟨a, v, rfl, _⟩ := h
    rfl
  · obtain ⟨a, v, rfl, ha, q⟩ := h
    refine ⟨_, pss_cons (ps_expr (pe_unb G0 hr (by rfl) T0.g T0.rd T0.val T0.kp b0 pass0 (pa_cons (pv 0) (pa_cons pe_str pa_nil)))) (pss_one (ps_ost (pv 0) (pv 1))), ?_⟩
    obtain ⟨nm, N⟩ := NN
    refine ⟨.ref a, rfl, a, C, _, nm, rfl, T, N, ha, fun d hd nd => ?_⟩
    refine ⟨v, rfl, .ref a, rfl, a, C, rfl, T, no0, .inr ⟨d, _, upd_same, by rw [upd_ne nd]; exact upd_same, (by show 1 ≤ 900; decide), ?_⟩⟩
    rw [upd_swap nd]
    exact q _ d hd nd
theorem kb_i3 {f : Addr} {fd : FuncData} (F : Fun K "__init__" "InvalidRow.__init__" sI3 f fd) : KBn K fd ["self", "row"] 1 ["row"] gOne gOne := by
  obtain ⟨oc, od, kV, doc, pm, an, cdv, ct, osl, rfl, lk, hcd⟩ := F.ex
  refine ⟨fun s us ws X l1 l2 => ?_, fun {vs us zs ws} r1 r2 => r1.append r2⟩
  match us, ws, l1, l2 with
  | [a], [v], _, _ => exact .of_eq rfl
theorem sc_i4 : FnScope ["self", "text"] ["self", "text"] (defScope sI4) := ⟨rfl, rfl, rfl, by decide +kernel, rfl, by decide +kernel, by decide +kernel⟩
theorem ok_i4 {f f0 C C0 : Addr} {fd fd0 : FuncData} (F : Fun K "__init__" "InvalidText.__init__" sI4 f fd) (G0 : FnOk P w K mg base CX0 1 f0 fd0 ["self", "text"] (spFig K)) (T0 : FigC K mg C0 f0) (b0 : Binds K fd0 ["self", "text"] []) (T : OexC K C) (NN : ∃ nm, NamC K C nm) (no0 : PySem.W.findIn K (.ref C) "text" = some none) :
    FnOk P w K mg base CX0 2 f fd ["self", "text"] (spInit K "text" C) := by
  refine F.ok sc_i4 (fun vs H Q E h => ?_) (fun cdv A outer s H vs Q E hr h => ?_)
  · obtain ⟨a, v, rfl, _⟩ := h
    rfl
  · obtain ⟨a, v, rfl, ha, q⟩ := h
    refine ⟨_, pss_cons (ps_expr (pe_unb G0 hr (by rfl) T0.g T0.rd T0.val T0.kp b0 pass0 (pa_cons (pv 0) (pa_cons pe_str pa_nil)))) (pss_one (ps_ost (pv 0) (pv 1))), ?_⟩
    obtain ⟨nm, N⟩ := NN
    refine ⟨.ref a, rfl, a, C, _, nm, rfl, T, N, ha, fun d hd nd => ?_⟩
    refine ⟨v, rfl, .ref a, rfl, a, C, rfl, T, no0, .inr ⟨d, _, upd_same, by rw [upd_ne nd]; exact upd_same, (by show 1 ≤ 900; decide), ?_⟩⟩
    rw [upd_swap nd]
    exact q _ d hd nd
theorem kb_i4 {f : Addr} {fd : FuncData} (F : Fun K "__init__" "InvalidText.__init__" sI4 f fd) : KBn K fd ["self", "text"] 1 ["text"] gOne gOne := by
  obtain ⟨oc, od, kV, doc, pm, an, cdv, ct, osl, rfl, lk, hcd⟩ := F.ex
  refine ⟨fun s us ws X l1 l2 => ?_, fun {vs us zs ws} r1 r2 => r1.append r2⟩
  match us, ws, l1, l2 with
  | [a], [v], _, _ => exact .of_eq rfl
theorem sc_i5 : FnScope ["self", "number"] ["self", "number"] (defScope sI5) := ⟨rfl, rfl, rfl, by decide +kernel, rfl, by decide +kernel, by decide +kernel⟩
theorem ok_i5 {f f0 C C0 : Addr} {fd fd0 : FuncData} (F : Fun K "__init__" "InvalidNumber.__init__" sI5 f fd) (G0 : FnOk P w K mg base CX0 1 f0 fd0 ["self", "text"] (spFig K)) (T0 : FigC K mg C0 f0) (b0 : Binds K fd0 ["self", "text"] []) (T : OexC K C) (NN : ∃ nm, NamC K C nm) (no0 : PySem.W.findIn K (.ref C) "number" = some none) :
    FnOk P w K mg base CX0 2 f fd ["self", "number"] (spInit K "number" C) := by
  refine F.ok sc_i5 (fun vs H Q E h => ?_) (fun cdv A outer s H vs Q E hr h => ?_)
  · obtain ⟨a, v, rfl, _⟩ := h
    rfl
  · obtain ⟨a, v, rfl, ha, q⟩ := h
    refine ⟨_, pss_cons (ps_expr (pe_unb G0 hr (by rfl) T0.g T0.rd T0.val T0.kp b0 pass0 (pa_cons (pv 0) (pa_cons pe_str pa_nil)))) (pss_one (ps_ost (pv 0) (pv 1))), ?_⟩
    obtain ⟨nm, N⟩ := NN
    refine ⟨.ref a, rfl, a, C, _, nm, rfl, T, N, ha, fun d hd nd => ?_⟩
    refine ⟨v, rfl, .ref a, rfl, a, C, rfl, T, no0, .inr ⟨d, _, upd_same, by rw [upd_ne nd]; exact upd_same, (by show 1 ≤ 900; decide), ?_⟩⟩
    rw [upd_swap nd]
    exact q _ d hd nd
theorem kb_i5 {f : Addr} {fd : FuncData} (F : Fun K "__init__" "InvalidNumber.__init__" sI5 f fd) : KBn K fd ["self", "number"] 1 ["number"] gOne gOne := by
  obtain ⟨oc, od, kV, doc, pm, an, cdv, ct, osl, rfl, lk, hcd⟩ := F.ex
  refine ⟨fun s us ws X l1 l2 => ?_, fun {vs us zs ws} r1 r2 => r1.append r2⟩
  match us, ws, l1, l2 with
  | [a], [v], _, _ => exact .of_eq rfl
theorem sc_i6 : FnScope ["self", "length"] ["self", "length"] (defScope sI6) := ⟨rfl, rfl, rfl, by decide +kernel, rfl, by decide +kernel, by decide +kernel⟩
theorem ok_i6 {f f0 C C0 : Addr} {fd fd0 : FuncData} (F : Fun K "__init__" "InvalidLength.__init__" sI6 f fd) (G0 : FnOk P w K mg base CX0 1 f0 fd0 ["self", "text"] (spFig K)) (T0 : FigC K mg C0 f0) (b0 : Binds K fd0 ["self", "text"] []) (T : OexC K C) (NN : ∃ nm, NamC K C nm) (no0 : PySem.W.findIn K (.ref C) "length" = some none) :
    FnOk P w K mg base CX0 2 f fd ["self", "length"] (spInit K "length" C) := by
  refine F.ok sc_i6 (fun vs H Q E h => ?_) (fun cdv A outer s H vs Q E hr h => ?_)
  · obtain ⟨a, v, rfl, _⟩ := h
    rfl
  · obtain ⟨a, v, rfl, ha, q⟩ := h
    refine ⟨_, pss_cons (ps_expr (pe_unb G0 hr (by rfl) T0.g T0.rd T0.val T0.kp b0 pass0 (pa_cons (pv 0) (pa_cons pe_str pa_nil)))) (pss_one (ps_ost (pv 0) (pv 1))), ?_⟩
    obtain ⟨nm, N⟩ := NN
    refine ⟨.ref a, rfl, a, C, _, nm, rfl, T, N, ha, fun d hd nd => ?_⟩
    refine ⟨v, rfl, .ref a, rfl, a, C, rfl, T, no0, .inr ⟨d, _, upd_same, by rw [upd_ne nd]; exact upd_same, (by show 1 ≤ 900; decide), ?_⟩⟩
    rw [upd_swap nd]
    exact q _ d hd nd
theorem kb_i6 {f : Addr} {fd : FuncData} (F : Fun K "__init__" "InvalidLength.__init__" sI6 f fd) : KBn K fd ["self", "length"] 1 ["length"] gOne gOne := by
  obtain ⟨oc, od, kV, doc, pm, an, cdv, ct, osl, rfl, lk, hcd⟩ := F.ex
  refine ⟨fun s us ws X l1 l2 => ?_, fun {vs us zs ws} r1 r2 => r1.append r2⟩
  match us, ws, l1, l2 with
  | [a], [v], _, _ => exact .of_eq rfl
theorem sc_i7 : FnScope ["self", "value"] ["self", "value"] (defScope sI7) := ⟨rfl, rfl, rfl, by decide +kernel, rfl, by decide +kernel, by decide +kernel⟩
theorem ok_i7 {f f0 C C0 : Addr} {fd fd0 : FuncData} (F : Fun K "__init__" "InvalidTerms.__init__" sI7 f fd) (G0 : FnOk P w K mg base CX0 1 f0 fd0 ["self", "text"] (spFig K)) (T0 : FigC K mg C0 f0) (b0 : Binds K fd0 ["self", "text"] []) (T : OexC K C) (NN : ∃ nm, NamC K C nm) (no0 : PySem.W.findIn K (.ref C) "value" = some none) :
    FnOk P w K mg base CX0 2 f fd ["self", "value"] (spInit K "value" C) := by
  refine F.ok sc_i7 (fun vs H Q E h => ?_) (fun cdv A outer s H vs Q E hr h => ?_)
  · obtain ⟨a, v, rfl, _⟩ := h
    rfl
  · obtain ⟨a, v, rfl, ha, q⟩ := h
    refine ⟨_, pss_cons (ps_expr (pe_unb G0 hr (by rfl) T0.g T0.rd T0.val T0.kp b0 pass0 (pa_cons (pv 0) (pa_cons pe_str pa_nil)))) (pss_one (ps_ost (pv 0) (pv 1))), ?_⟩
    obtain ⟨nm, N⟩ := NN
    refine ⟨.ref a, rfl, a, C, _, nm, rfl, T, N, ha, fun d hd nd => ?_⟩
    refine ⟨v, rfl, .ref a, rfl, a, C, rfl, T, no0, .inr ⟨d, _, upd_same, by rw [upd_ne nd]; exact upd_same, (by show 1 ≤ 900; decide), ?_⟩⟩
    rw [upd_swap nd]
    exact q _ d hd nd
theorem kb_i7 {f : Addr} {fd : FuncData} (F : Fun K "__init__" "InvalidTerms.__init__" sI7 f fd) : KBn K fd ["self", "value"] 1 ["value"] gOne gOne := by
  obtain ⟨oc, od, kV, doc, pm, an, cdv, ct, osl, rfl, lk, hcd⟩ := F.ex
  refine ⟨fun s us ws X l1 l2 => ?_, fun {vs us zs ws} r1 r2 => r1.append r2⟩
  match us, ws, l1, l2 with
  | [a], [v], _, _ => exact .of_eq rfl
theorem sc_i8 : FnScope ["self", "term"] ["self", "term"] (defScope sI8) := ⟨rfl, rfl, rfl, by decide +kernel, rfl, by decide +kernel, by decide +kernel⟩
theorem ok_i8 {f f0 C C0 : Addr} {fd fd0 : FuncData} (F : Fun K "__init__" "InvalidTerm.__init__" sI8 f fd) (G0 : FnOk P w K mg base CX0 1 f0 fd0 ["self", "text"] (spFig K)) (T0 : FigC K mg C0 f0) (b0 : Binds K fd0 ["self", "text"] []) (T : OexC K C) (NN : ∃ nm, NamC K C nm) (no0 : PySem.W.findIn K (.ref C) "term" = some none) :
    FnOk P w K mg base CX0 2 f fd ["self", "term"] (spInit K "term" C) := by
  refine F.ok sc_i8 (fun vs H Q E h => ?_) (fun cdv A outer s H vs Q E hr h => ?_)
  · obtain ⟨a, v, rfl, _⟩ := h
    rfl
  · obtain ⟨a, v, rfl, ha, q⟩ := h
    refine ⟨_, pss_cons (ps_expr (pe_unb G0 hr (by rfl) T0.g T0.rd T0.val T0.kp b0 pass0 (pa_cons (pv 0) (pa_cons pe_str pa_nil)))) (pss_one (ps_ost (pv 0) (pv 1))), ?_⟩
    obtain ⟨nm, N⟩ := NN
    refine ⟨.ref a, rfl, a, C, _, nm, rfl, T, N, ha, fun d hd nd => ?_⟩
    refine ⟨v, rfl, .ref a, rfl, a, C, rfl, T, no0, .inr ⟨d, _, upd_same, by rw [upd_ne nd]; exact upd_same, (by show 1 ≤ 900; decide), ?_⟩⟩
    rw [upd_swap nd]
    exact q _ d hd nd
theorem kb_i8 {f : Addr} {fd : FuncData} (F : Fun K "__init__" "InvalidTerm.__init__" sI8 f fd) : KBn K fd ["self", "term"] 1 ["term"] gOne gOne := by
  obtain ⟨oc, od, kV, doc, pm, an, cdv, ct, osl, rfl, lk, hcd⟩ := F.ex
  refine ⟨fun s us ws X l1 l2 => ?_, fun {vs us zs ws} r1 r2 => r1.append r2⟩
  match us, ws, l1, l2 with
  | [a], [v], _, _ => exact .of_eq rfl
theorem sc_i9 : FnScope ["self", "rows"] ["self", "rows"] (defScope sI9) := ⟨rfl, rfl, rfl, by decide +kernel, rfl, by decide +kernel, by decide +kernel⟩
theorem ok_i9 {f f0 C C0 : Addr} {fd fd0 : FuncData} (F : Fun K "__init__" "InvalidRows.__init__" sI9 f fd) (G0 : FnOk P w K mg base CX0 1 f0 fd0 ["self", "text"] (spFig K)) (T0 : FigC K mg C0 f0) (b0 : Binds K fd0 ["self", "text"] []) (T : OexC K C) (NN : ∃ nm, NamC K C nm) (no0 : PySem.W.findIn K (.ref C) "rows" = some none) :
    FnOk P w K mg base CX0 2 f fd ["self", "rows"] (spInit K "rows" C) := by
  refine F.ok sc_i9 (fun vs H Q E h => ?_) (fun cdv A outer s H vs Q E hr h => ?_)
  · obtain ⟨a, v, rfl, _⟩ := h
    rfl
  · obtain ⟨a, v, rfl, ha, q⟩ := h
    refine ⟨_, pss_cons (ps_expr (pe_unb G0 hr (by rfl) T0.g T0.rd T0.val T0.kp b0 pass0 (pa_cons (pv 0) (pa_cons pe_str pa_nil)))) (pss_one (ps_ost (pv 0) (pv 1))), ?_⟩
    obtain ⟨nm, N⟩ := NN
    refine ⟨.ref a, rfl, a, C, _, nm, rfl, T, N, ha, fun d hd nd => ?_⟩
    refine ⟨v, rfl, .ref a, rfl, a, C, rfl, T, no0, .inr ⟨d, _, upd_same, by rw [upd_ne nd]; exact upd_same, (by show 1 ≤ 900; decide), ?_⟩⟩
    rw [upd_swap nd]
    exact q _ d hd nd
theorem kb_i9 {f : Addr} {fd : FuncData} (F : Fun K "__init__" "InvalidRows.__init__" sI9 f fd) : KBn K fd ["self", "rows"] 1 ["rows"] gOne gOne := by
  obtain ⟨oc, od, kV, doc, pm, an, cdv, ct, osl, rfl, lk, hcd⟩ := F.ex
  refine ⟨fun s us ws X l1 l2 => ?_, fun {vs us zs ws} r1 r2 => r1.append r2⟩
  match us, ws, l1, l2 with
  | [a], [v], _, _ => exact .of_eq rfl
theorem sc_i10 : FnScope ["self", "state"] ["self", "state"] (defScope sI10) := ⟨rfl, rfl, rfl, by decide +kernel, rfl, by decide +kernel, by decide +kernel⟩
theorem ok_i10 {f f0 C C0 : Addr} {fd fd0 : FuncData} (F : Fun K "__init__" "InvalidState.__init__" sI10 f fd) (G0 : FnOk P w K mg base CX0 1 f0 fd0 ["self", "text"] (spFig K)) (T0 : FigC K mg C0 f0) (b0 : Binds K fd0 ["self", "text"] []) (T : OexC K C) (NN : ∃ nm, NamC K C nm) (no0 : PySem.W.findIn K (.ref C) "state" = some none) :
    FnOk P w K mg base CX0 2 f fd ["self", "state"] (spInit K "state" C) := by
  refine F.ok sc_i10 (fun vs H Q E h => ?_) (fun cdv A outer s H vs Q E hr h => ?_)
  · obtain ⟨a, v, rfl, _⟩ := h
    rfl
  · obtain ⟨a, v, rfl, ha, q⟩ := h
    refine ⟨_, pss_cons (ps_expr (pe_unb G0 hr (by rfl) T0.g T0.rd T0.val T0.kp b0 pass0 (pa_cons (pv 0) (pa_cons pe_str pa_nil)))) (pss_one (ps_ost (pv 0) (pv 1))), ?_⟩
    obtain ⟨nm, N⟩ := NN
    refine ⟨.ref a, rfl, a, C, _, nm, rfl, T, N, ha, fun d hd nd => ?_⟩
    refine ⟨v, rfl, .ref a, rfl, a, C, rfl, T, no0, .inr ⟨d, _, upd_same, by rw [upd_ne nd]; exact upd_same, (by show 1 ≤ 900; decide), ?_⟩⟩
    rw [upd_swap nd]
    exact q _ d hd nd
theorem kb_i10 {f : Addr} {fd : FuncData} (F : Fun K "__init__" "InvalidState.__init__" sI10 f fd) : KBn K fd ["self", "state"] 1 ["state"] gOne gOne := by
  obtain ⟨oc, od, kV, doc, pm, an, cdv, ct, osl, rfl, lk, hcd⟩ := F.ex
  refine ⟨fun s us ws X l1 l2 => ?_, fun {vs us zs ws} r1 r2 => r1.append r2⟩
  match us, ws, l1, l2 with
  | [a], [v], _, _ => exact .of_eq rfl
theorem sc_i11 : FnScope ["self", "reading"] ["self", "reading"] (defScope sI11) := ⟨rfl, rfl, rfl, by decide +kernel, rfl, by decide +kernel, by decide +kernel⟩
theorem ok_i11 {f f0 C C0 : Addr} {fd fd0 : FuncData} (F : Fun K "__init__" "InvalidReading.__init__" sI11 f fd) (G0 : FnOk P w K mg base CX0 1 f0 fd0 ["self", "text"] (spFig K)) (T0 : FigC K mg C0 f0) (b0 : Binds K fd0 ["self", "text"] []) (T : OexC K C) (NN : ∃ nm, NamC K C nm) (no0 : PySem.W.findIn K (.ref C) "reading" = some none) :
    FnOk P w K mg base CX0 2 f fd ["self", "reading"] (spInit K "reading" C) := by
  refine F.ok sc_i11 (fun vs H Q E h => ?_) (fun cdv A outer s H vs Q E hr h => ?_)
  · obtain ⟨a, v, rfl, _⟩ := h
    rfl
  · obtain ⟨a, v, rfl, ha, q⟩ := h
    refine ⟨_, pss_cons (ps_expr (pe_unb G0 hr (by rfl) T0.g T0.rd T0.val T0.kp b0 pass0 (pa_cons (pv 0) (pa_cons pe_str pa_nil)))) (pss_one (ps_ost (pv 0) (pv 1))), ?_⟩
    obtain ⟨nm, N⟩ := NN
    refine ⟨.ref a, rfl, a, C, _, nm, rfl, T, N, ha, fun d hd nd => ?_⟩
    refine ⟨v, rfl, .ref a, rfl, a, C, rfl, T, no0, .inr ⟨d, _, upd_same, by rw [upd_ne nd]; exact upd_same, (by show 1 ≤ 900; decide), ?_⟩⟩
    rw [upd_swap nd]
    exact q _ d hd nd
theorem kb_i11 {f : Addr} {fd : FuncData} (F : Fun K "__init__" "InvalidReading.__init__" sI11 f fd) : KBn K fd ["self", "reading"] 1 ["reading"] gOne gOne := by
  obtain ⟨oc, od, kV, doc, pm, an, cdv, ct, osl, rfl, lk, hcd⟩ := F.ex
  refine ⟨fun s us ws X l1 l2 => ?_, fun {vs us zs ws} r1 r2 => r1.append r2⟩
  match us, ws, l1, l2 with
  | [a], [v], _, _ => exact .of_eq rfl
theorem sc_i12 : FnScope ["self", "prices"] ["self", "prices"] (defScope sI12) := ⟨rfl, rfl, rfl, by decide +kernel, rfl, by decide +kernel, by decide +kernel⟩
theorem ok_i12 {f f0 C C0 : Addr} {fd fd0 : FuncData} (F : Fun K "__init__" "InvalidPrices.__init__" sI12 f fd) (G0 : FnOk P w K mg base CX0 1 f0 fd0 ["self", "text"] (spFig K)) (T0 : FigC K mg C0 f0) (b0 : Binds K fd0 ["self", "text"] []) (T : OexC K C) (NN : ∃ nm, NamC K C nm) (no0 : PySem.W.findIn K (.ref C) "prices" = some none) :
    FnOk P w K mg base CX0 2 f fd ["self", "prices"] (spInit K "prices" C) := by
  refine F.ok sc_i12 (fun vs H Q E h => ?_) (fun cdv A outer s H vs Q E hr h => ?_)
  · obtain ⟨a, v, rfl, _⟩ := h
    rfl
  · obtain ⟨a, v, rfl, ha, q⟩ := h
    refine ⟨_, pss_cons (ps_expr (pe_unb G0 hr (by rfl) T0.g T0.rd T0.val T0.kp b0 pass0 (pa_cons (pv 0) (pa_cons pe_str pa_nil)))) (pss_one (ps_ost (pv 0) (pv 1))), ?_⟩
    obtain ⟨nm, N⟩ := NN
    refine ⟨.ref a, rfl, a, C, _, nm, rfl, T, N, ha, fun d hd nd => ?_⟩
    refine ⟨v, rfl, .ref a, rfl, a, C, rfl, T, no0, .inr ⟨d, _, upd_same, by rw [upd_ne nd]; exact upd_same, (by show 1 ≤ 900; decide), ?_⟩⟩
    rw [upd_swap nd]
    exact q _ d hd nd
theorem kb_i12 {f : Addr} {fd : FuncData} (F : Fun K "__init__" "InvalidPrices.__init__" sI12 f fd) : KBn K fd ["self", "prices"] 1 ["prices"] gOne gOne := by
  obtain ⟨oc, od, kV, doc, pm, an, cdv, ct, osl, rfl, lk, hcd⟩ := F.ex
  refine ⟨fun s us ws X l1 l2 => ?_, fun {vs us zs ws} r1 r2 => r1.append r2⟩
  match us, ws, l1, l2 with
  | [a], [v], _, _ => exact .of_eq rfl
theorem sc_i13 : FnScope ["self", "value"] ["self", "value"] (defScope sI13) := ⟨rfl, rfl, rfl, by decide +kernel, rfl, by decide +kernel, by decide +kernel⟩
theorem ok_i13 {f f0 C C0 : Addr} {fd fd0 : FuncData} (F : Fun K "__init__" "InvalidLag.__init__" sI13 f fd) (G0 : FnOk P w K mg base CX0 1 f0 fd0 ["self", "text"] (spFig K)) (T0 : FigC K mg C0 f0) (b0 : Binds K fd0 ["self", "text"] []) (T : OexC K C) (NN : ∃ nm, NamC K C nm) (no0 : PySem.W.findIn K (.ref C) "value" = some none) :
    FnOk P w K mg base CX0 2 f fd ["self", "value"] (spInit K "value" C) := by
  refine F.ok sc_i13 (fun vs H Q E h => ?_) (fun cdv A outer s H vs Q E hr h => ?_)
  · obtain ⟨a, v, rfl, _⟩ := h
    rfl
  · obtain ⟨a, v, rfl, ha, q⟩ := h
    refine ⟨_, pss_cons (ps_expr (pe_unb G0 hr (by rfl) T0.g T0.rd T0.val T0.kp b0 pass0 (pa_cons (pv 0) (pa_cons pe_str pa_nil)))) (pss_one (ps_ost (pv 0) (pv 1))), ?_⟩
    obtain ⟨nm, N⟩ := NN
    refine ⟨.ref a, rfl, a, C, _, nm, rfl, T, N, ha, fun d hd nd => ?_⟩
    refine ⟨v, rfl, .ref a, rfl, a, C, rfl, T, no0, .inr ⟨d, _, upd_same, by rw [upd_ne nd]; exact upd_same, (by show 1 ≤ 900; decide), ?_⟩⟩
    rw [upd_swap nd]
    exact q _ d hd nd
theorem kb_i13 {f : Addr} {fd : FuncData} (F : Fun K "__init__" "InvalidLag.__init__" sI13 f fd) : KBn K fd ["self", "value"] 1 ["value"] gOne gOne := by
  obtain ⟨oc, od, kV, doc, pm, an, cdv, ct, osl, rfl, lk, hcd⟩ := F.ex
  refine ⟨fun s us ws X l1 l2 => ?_, fun {vs us zs ws} r1 r2 => r1.append r2⟩
  match us, ws, l1, l2 with
  | [a], [v], _, _ => exact .of_eq rfl
theorem sc_i14 : FnScope ["self", "value"] ["self", "value"] (defScope sI14) := ⟨rfl, rfl, rfl, by decide +kernel, rfl, by decide +kernel, by decide +kernel⟩
theorem ok_i14 {f f0 C C0 : Addr} {fd fd0 : FuncData} (F : Fun K "__init__" "InvalidTable.__init__" sI14 f fd) (G0 : FnOk P w K mg base CX0 1 f0 fd0 ["self", "text"] (spFig K)) (T0 : FigC K mg C0 f0) (b0 : Binds K fd0 ["self", "text"] []) (T : OexC K C) (NN : ∃ nm, NamC K C nm) (no0 : PySem.W.findIn K (.ref C) "value" = some none) :
    FnOk P w K mg base CX0 2 f fd ["self", "value"] (spInit K "value" C) := by
  refine F.ok sc_i14 (fun vs H Q E h => ?_) (fun cdv A outer s H vs Q E hr h => ?_)
  · obtain ⟨a, v, rfl, _⟩ := h
    rfl
  · obtain ⟨a, v, rfl, ha, q⟩ := h
    refine ⟨_, pss_cons (ps_expr (pe_unb G0 hr (by rfl) T0.g T0.rd T0.val T0.kp b0 pass0 (pa_cons (pv 0) (pa_cons pe_str pa_nil)))) (pss_one (ps_ost (pv 0) (pv 1))), ?_⟩
    obtain ⟨nm, N⟩ := NN
    refine ⟨.ref a, rfl, a, C, _, nm, rfl, T, N, ha, fun d hd nd => ?_⟩
    refine ⟨v, rfl, .ref a, rfl, a, C, rfl, T, no0, .inr ⟨d, _, upd_same, by rw [upd_ne nd]; exact upd_same, (by show 1 ≤ 900; decide), ?_⟩⟩
    rw [upd_swap nd]
    exact q _ d hd nd
theorem kb_i14 {f : Addr} {fd : FuncData} (F : Fun K "__init__" "InvalidTable.__init__" sI14 f fd) : KBn K fd ["self", "value"] 1 ["value"] gOne gOne := by
  obtain ⟨oc, od, kV, doc, pm, an, cdv, ct, osl, rfl, lk, hcd⟩ := F.ex
  refine ⟨fun s us ws X l1 l2 => ?_, fun {vs us zs ws} r1 r2 => r1.append r2⟩
  match us, ws, l1, l2 with
  | [a], [v], _, _ => exact .of_eq rfl
theorem sc_i15 : FnScope ["self", "word"] ["self", "word"] (defScope sI15) := ⟨rfl, rfl, rfl, by decide +kernel, rfl, by decide +kernel, by decide +kernel⟩
theorem ok_i15 {f f0 C C0 : Addr} {fd fd0 : FuncData} (F : Fun K "__init__" "InvalidWord.__init__" sI15 f fd) (G0 : FnOk P w K mg base CX0 1 f0 fd0 ["self", "text"] (spFig K)) (T0 : FigC K mg C0 f0) (b0 : Binds K fd0 ["self", "text"] []) (T : OexC K C) (NN : ∃ nm, NamC K C nm) (no0 : PySem.W.findIn K (.ref C) "word" = some none) :
    FnOk P w K mg base CX0 2 f fd ["self", "word"] (spInit K "word" C) := by
  refine F.ok sc_i15 (fun vs H Q E h => ?_) (fun cdv A outer s H vs Q E hr h => ?_)
  · obtain ⟨a, v, rfl, _⟩ := h
    rfl
  · obtain ⟨a, v, rfl, ha, q⟩ := h
    refine ⟨_, pss_cons (ps_expr (pe_unb G0 hr (by rfl) T0.g T0.rd T0.val T0.kp b0 pass0 (pa_cons (pv 0) (pa_cons pe_str pa_nil)))) (pss_one (ps_ost (pv 0) (pv 1))), ?_⟩
    obtain ⟨nm, N⟩ := NN
    refine ⟨.ref a, rfl, a, C, _, nm, rfl, T, N, ha, fun d hd nd => ?_⟩
    refine ⟨v, rfl, .ref a, rfl, a, C, rfl, T, no0, .inr ⟨d, _, upd_same, by rw [upd_ne nd]; exact upd_same, (by show 1 ≤ 900; decide), ?_⟩⟩
    rw [upd_swap nd]
    exact q _ d hd nd
theorem kb_i15 {f : Addr} {fd : FuncData} (F : Fun K "__init__" "InvalidWord.__init__" sI15 f fd) : KBn K fd ["self", "word"] 1 ["word"] gOne gOne := by
  obtain ⟨oc, od, kV, doc, pm, an, cdv, ct, osl, rfl, lk, hcd⟩ := F.ex
  refine ⟨fun s us ws X l1 l2 => ?_, fun {vs us zs ws} r1 r2 => r1.append r2⟩
  match us, ws, l1, l2 with
  | [a], [v], _, _ => exact .of_eq rfl
theorem sc_i16 : FnScope ["self", "name"] ["self", "name"] (defScope sI16) := ⟨rfl, rfl, rfl, by decide +kernel, rfl, by decide +kernel, by decide +kernel⟩
theorem ok_i16 {f f0 C C0 : Addr} {fd fd0 : FuncData} (F : Fun K "__init__" "InvalidName.__init__" sI16 f fd) (G0 : FnOk P w K mg base CX0 1 f0 fd0 ["self", "text"] (spFig K)) (T0 : FigC K mg C0 f0) (b0 : Binds K fd0 ["self", "text"] []) (T : OexC K C) (NN : ∃ nm, NamC K C nm) (no0 : PySem.W.findIn K (.ref C) "name" = some none) :
    FnOk P w K mg base CX0 2 f fd ["self", "name"] (spInit K "name" C) := by
  refine F.ok sc_i16 (fun vs H Q E h => ?_) (fun cdv A outer s H vs Q E hr h => ?_)
  · obtain ⟨a, v, rfl, _⟩ := h
    rfl
  · obtain ⟨a, v, rfl, ha, q⟩ := h
    refine ⟨_, pss_cons (ps_expr (pe_unb G0 hr (by rfl) T0.g T0.rd T0.val T0.kp b0 pass0 (pa_cons (pv 0) (pa_cons pe_str pa_nil)))) (pss_one (ps_ost (pv 0) (pv 1))), ?_⟩
    obtain ⟨nm, N⟩ := NN
    refine ⟨.ref a, rfl, a, C, _, nm, rfl, T, N, ha, fun d hd nd => ?_⟩
    refine ⟨v, rfl, .ref a, rfl, a, C, rfl, T, no0, .inr ⟨d, _, upd_same, by rw [upd_ne nd]; exact upd_same, (by show 1 ≤ 900; decide), ?_⟩⟩
    rw [upd_swap nd]
    exact q _ d hd nd
theorem kb_i16 {f : Addr} {fd : FuncData} (F : Fun K "__init__" "InvalidName.__init__" sI16 f fd) : KBn K fd ["self", "name"] 1 ["name"] gOne gOne := by
  obtain ⟨oc, od, kV, doc, pm, an, cdv, ct, osl, rfl, lk, hcd⟩ := F.ex
  refine ⟨fun s us ws X l1 l2 => ?_, fun {vs us zs ws} r1 r2 => r1.append r2⟩
  match us, ws, l1, l2 with
  | [a], [v], _, _ => exact .of_eq rfl
theorem sc_i17 : FnScope ["self", "line"] ["self", "line"] (defScope sI17) := ⟨rfl, rfl, rfl, by decide +kernel, rfl, by decide +kernel, by decide +kernel⟩
theorem ok_i17 {f f0 C C0 : Addr} {fd fd0 : FuncData} (F : Fun K "__init__" "InvalidLine.__init__" sI17 f fd) (G0 : FnOk P w K mg base CX0 1 f0 fd0 ["self", "text"] (spFig K)) (T0 : FigC K mg C0 f0) (b0 : Binds K fd0 ["self", "text"] []) (T : OexC K C) (NN : ∃ nm, NamC K C nm) (no0 : PySem.W.findIn K (.ref C) "line" = some none) :
    FnOk P w K mg base CX0 2 f fd ["self", "line"] (spInit K "line" C) := by
  refine F.ok sc_i17 (fun vs H Q E h => ?_) (fun cdv A outer s H vs Q E hr h => ?_)
  · obtain ⟨a, v, rfl, _⟩ := h
    rfl
  · obtain ⟨a, v, rfl, ha, q⟩ := h
    refine ⟨_, pss_cons (ps_expr (pe_unb G0 hr (by rfl) T0.g T0.rd T0.val T0.kp b0 pass0 (pa_cons (pv 0) (pa_cons pe_str pa_nil)))) (pss_one (ps_ost (pv 0) (pv 1))), ?_⟩
    obtain ⟨nm, N⟩ := NN
    refine ⟨.ref a, rfl, a, C, _, nm, rfl, T, N, ha, fun d hd nd => ?_⟩
    refine ⟨v, rfl, .ref a, rfl, a, C, rfl, T, no0, .inr ⟨d, _, upd_same, by rw [upd_ne nd]; exact upd_same, (by show 1 ≤ 900; decide), ?_⟩⟩
    rw [upd_swap nd]
    exact q _ d hd nd
theorem kb_i17 {f : Addr} {fd : FuncData} (F : Fun K "__init__" "InvalidLine.__init__" sI17 f fd) : KBn K fd ["self", "line"] 1 ["line"] gOne gOne := by
  obtain ⟨oc, od, kV, doc, pm, an, cdv, ct, osl, rfl, lk, hcd⟩ := F.ex
  refine ⟨fun s us ws X l1 l2 => ?_, fun {vs us zs ws} r1 r2 => r1.append r2⟩
  match us, ws, l1, l2 with
  | [a], [v], _, _ => exact .of_eq rfl
theorem sc_i18 : FnScope ["self", "digit"] ["self", "digit"] (defScope sI18) := ⟨rfl, rfl, rfl, by decide +kernel, rfl, by decide +kernel, by decide +kernel⟩
theorem ok_i18 {f f0 C C0 : Addr} {fd fd0 : FuncData} (F : Fun K "__init__" "UnknownDigit.__init__" sI18 f fd) (G0 : FnOk P w K mg base CX0 1 f0 fd0 ["self", "text"] (spFig K)) (T0 : FigC K mg C0 f0) (b0 : Binds K fd0 ["self", "text"] []) (T : OexC K C) (NN : ∃ nm, NamC K C nm) (no0 : PySem.W.findIn K (.ref C) "digit" = some none) :
    FnOk P w K mg base CX0 2 f fd ["self", "digit"] (spInit K "digit" C) := by
  refine F.ok sc_i18 (fun vs H Q E h => ?_) (fun cdv A outer s H vs Q E hr h => ?_)
  · obtain ⟨a, v, rfl, _⟩ := h
    rfl
  · obtain ⟨a, v, rfl, ha, q⟩ := h
    refine ⟨_, pss_cons (ps_expr (pe_unb G0 hr (by rfl) T0.g T0.rd T0.val T0.kp b0 pass0 (pa_cons (pv 0) (pa_cons pe_str pa_nil)))) (pss_one (ps_ost (pv 0) (pv 1))), ?_⟩
    obtain ⟨nm, N⟩ := NN
    refine ⟨.ref a, rfl, a, C, _, nm, rfl, T, N, ha, fun d hd nd => ?_⟩
    refine ⟨v, rfl, .ref a, rfl, a, C, rfl, T, no0, .inr ⟨d, _, upd_same, by rw [upd_ne nd]; exact upd_same, (by show 1 ≤ 900; decide), ?_⟩⟩
    rw [upd_swap nd]
    exact q _ d hd nd
theorem kb_i18 {f : Addr} {fd : FuncData} (F : Fun K "__init__" "UnknownDigit.__init__" sI18 f fd) : KBn K fd ["self", "digit"] 1 ["digit"] gOne gOne := by
  obtain ⟨oc, od, kV, doc, pm, an, cdv, ct, osl, rfl, lk, hcd⟩ := F.ex
  refine ⟨fun s us ws X l1 l2 => ?_, fun {vs us zs ws} r1 r2 => r1.append r2⟩
  match us, ws, l1, l2 with
  | [a], [v], _, _ => exact .of_eq rfl
theorem sc_i19 : FnScope ["self", "name"] ["self", "name"] (defScope sI19) := ⟨rfl, rfl, rfl, by decide +kernel, rfl, by decide +kernel, by decide +kernel⟩
theorem ok_i19 {f f0 C C0 : Addr} {fd fd0 : FuncData} (F : Fun K "__init__" "UnknownName.__init__" sI19 f fd) (G0 : FnOk P w K mg base CX0 1 f0 fd0 ["self", "text"] (spFig K)) (T0 : FigC K mg C0 f0) (b0 : Binds K fd0 ["self", "text"] []) (T : OexC K C) (NN : ∃ nm, NamC K C nm) (no0 : PySem.W.findIn K (.ref C) "name" = some none) :
    FnOk P w K mg base CX0 2 f fd ["self", "name"] (spInit K "name" C) := by
  refine F.ok sc_i19 (fun vs H Q E h => ?_) (fun cdv A outer s H vs Q E hr h => ?_)
  · obtain ⟨a, v, rfl, _⟩ := h
    rfl
  · obtain ⟨a, v, rfl, ha, q⟩ := h
    refine ⟨_, pss_cons (ps_expr (pe_unb G0 hr (by rfl) T0.g T0.rd T0.val T0.kp b0 pass0 (pa_cons (pv 0) (pa_cons pe_str pa_nil)))) (pss_one (ps_ost (pv 0) (pv 1))), ?_⟩
    obtain ⟨nm, N⟩ := NN
    refine ⟨.ref a, rfl, a, C, _, nm, rfl, T, N, ha, fun d hd nd => ?_⟩
    refine ⟨v, rfl, .ref a, rfl, a, C, rfl, T, no0, .inr ⟨d, _, upd_same, by rw [upd_ne nd]; exact upd_same, (by show 1 ≤ 900; decide), ?_⟩⟩
    rw [upd_swap nd]
    exact q _ d hd nd
theorem kb_i19 {f : Addr} {fd : FuncData} (F : Fun K "__init__" "UnknownName.__init__" sI19 f fd) : KBn K fd ["self", "name"] 1 ["name"] gOne gOne := by
  obtain ⟨oc, od, kV, doc, pm, an, cdv, ct, osl, rfl, lk, hcd⟩ := F.ex
  refine ⟨fun s us ws X l1 l2 => ?_, fun {vs us zs ws} r1 r2 => r1.append r2⟩
  match us, ws, l1, l2 with
  | [a], [v], _, _ => exact .of_eq rfl
theorem sc_i20 : FnScope ["self", "value"] ["self", "value"] (defScope sI20) := ⟨rfl, rfl, rfl, by decide +kernel, rfl, by decide +kernel, by decide +kernel⟩
theorem ok_i20 {f f0 C C0 : Addr} {fd fd0 : FuncData} (F : Fun K "__init__" "UnlikeBases.__init__" sI20 f fd) (G0 : FnOk P w K mg base CX0 1 f0 fd0 ["self", "text"] (spFig K)) (T0 : FigC K mg C0 f0) (b0 : Binds K fd0 ["self", "text"] []) (T : OexC K C) (NN : ∃ nm, NamC K C nm) (no0 : PySem.W.findIn K (.ref C) "value" = some none) :
    FnOk P w K mg base CX0 2 f fd ["self", "value"] (spInit K "value" C) := by
  refine F.ok sc_i20 (fun vs H Q E h => ?_) (fun cdv A outer s H vs Q E hr h => ?_)
  · obtain ⟨a, v, rfl, _⟩ := h
    rfl
  · obtain ⟨a, v, rfl, ha, q⟩ := h
    refine ⟨_, pss_cons (ps_expr (pe_unb G0 hr (by rfl) T0.g T0.rd T0.val T0.kp b0 pass0 (pa_cons (pv 0) (pa_cons pe_str pa_nil)))) (pss_one (ps_ost (pv 0) (pv 1))), ?_⟩
    obtain ⟨nm, N⟩ := NN
    refine ⟨.ref a, rfl, a, C, _, nm, rfl, T, N, ha, fun d hd nd => ?_⟩
    refine ⟨v, rfl, .ref a, rfl, a, C, rfl, T, no0, .inr ⟨d, _, upd_same, by rw [upd_ne nd]; exact upd_same, (by show 1 ≤ 900; decide), ?_⟩⟩
    rw [upd_swap nd]
    exact q _ d hd nd
theorem kb_i20 {f : Addr} {fd : FuncData} (F : Fun K "__init__" "UnlikeBases.__init__" sI20 f fd) : KBn K fd ["self", "value"] 1 ["value"] gOne gOne := by
  obtain ⟨oc, od, kV, doc, pm, an, cdv, ct, osl, rfl, lk, hcd⟩ := F.ex
  refine ⟨fun s us ws X l1 l2 => ?_, fun {vs us zs ws} r1 r2 => r1.append r2⟩
  match us, ws, l1, l2 with
  | [a], [v], _, _ => exact .of_eq rfl
theorem sc_i21 : FnScope ["self", "name"] ["self", "name"] (defScope sI21) := ⟨rfl, rfl, rfl, by decide +kernel, rfl, by decide +kernel, by decide +kernel⟩
theorem ok_i21 {f f0 C C0 : Addr} {fd fd0 : FuncData} (F : Fun K "__init__" "NameTaken.__init__" sI21 f fd) (G0 : FnOk P w K mg base CX0 1 f0 fd0 ["self", "text"] (spFig K)) (T0 : FigC K mg C0 f0) (b0 : Binds K fd0 ["self", "text"] []) (T : OexC K C) (NN : ∃ nm, NamC K C nm) (no0 : PySem.W.findIn K (.ref C) "name" = some none) :
    FnOk P w K mg base CX0 2 f fd ["self", "name"] (spInit K "name" C) := by
  refine F.ok sc_i21 (fun vs H Q E h => ?_) (fun cdv A outer s H vs Q E hr h => ?_)
  · obtain ⟨a, v, rfl, _⟩ := h
    rfl
  · obtain ⟨a, v, rfl, ha, q⟩ := h
    refine ⟨_, pss_cons (ps_expr (pe_unb G0 hr (by rfl) T0.g T0.rd T0.val T0.kp b0 pass0 (pa_cons (pv 0) (pa_cons pe_str pa_nil)))) (pss_one (ps_ost (pv 0) (pv 1))), ?_⟩
    obtain ⟨nm, N⟩ := NN
    refine ⟨.ref a, rfl, a, C, _, nm, rfl, T, N, ha, fun d hd nd => ?_⟩
    refine ⟨v, rfl, .ref a, rfl, a, C, rfl, T, no0, .inr ⟨d, _, upd_same, by rw [upd_ne nd]; exact upd_same, (by show 1 ≤ 900; decide), ?_⟩⟩
    rw [upd_swap nd]
    exact q _ d hd nd
theorem kb_i21 {f : Addr} {fd : FuncData} (F : Fun K "__init__" "NameTaken.__init__" sI21 f fd) : KBn K fd ["self", "name"] 1 ["name"] gOne gOne := by
  obtain ⟨oc, od, kV, doc, pm, an, cdv, ct, osl, rfl, lk, hcd⟩ := F.ex
  refine ⟨fun s us ws X l1 l2 => ?_, fun {vs us zs ws} r1 r2 => r1.append r2⟩
  match us, ws, l1, l2 with
  | [a], [v], _, _ => exact .of_eq rfl
theorem sc_i22 : FnScope ["self", "number"] ["self", "number"] (defScope sI22) := ⟨rfl, rfl, rfl, by decide +kernel, rfl, by decide +kernel, by decide +kernel⟩
theorem ok_i22 {f f0 C C0 : Addr} {fd fd0 : FuncData} (F : Fun K "__init__" "NotWritten.__init__" sI22 f fd) (G0 : FnOk P w K mg base CX0 1 f0 fd0 ["self", "text"] (spFig K)) (T0 : FigC K mg C0 f0) (b0 : Binds K fd0 ["self", "text"] []) (T : OexC K C) (NN : ∃ nm, NamC K C nm) (no0 : PySem.W.findIn K (.ref C) "number" = some none) :
    FnOk P w K mg base CX0 2 f fd ["self", "number"] (spInit K "number" C) := by
  refine F.ok sc_i22 (fun vs H Q E h => ?_) (fun cdv A outer s H vs Q E hr h => ?_)
  · obtain ⟨a, v, rfl, _⟩ := h
    rfl
  · obtain ⟨a, v, rfl, ha, q⟩ := h
    refine ⟨_, pss_cons (ps_expr (pe_unb G0 hr (by rfl) T0.g T0.rd T0.val T0.kp b0 pass0 (pa_cons (pv 0) (pa_cons pe_str pa_nil)))) (pss_one (ps_ost (pv 0) (pv 1))), ?_⟩
    obtain ⟨nm, N⟩ := NN
    refine ⟨.ref a, rfl, a, C, _, nm, rfl, T, N, ha, fun d hd nd => ?_⟩
    refine ⟨v, rfl, .ref a, rfl, a, C, rfl, T, no0, .inr ⟨d, _, upd_same, by rw [upd_ne nd]; exact upd_same, (by show 1 ≤ 900; decide), ?_⟩⟩
    rw [upd_swap nd]
    exact q _ d hd nd
theorem kb_i22 {f : Addr} {fd : FuncData} (F : Fun K "__init__" "NotWritten.__init__" sI22 f fd) : KBn K fd ["self", "number"] 1 ["number"] gOne gOne := by
  obtain ⟨oc, od, kV, doc, pm, an, cdv, ct, osl, rfl, lk, hcd⟩ := F.ex
  refine ⟨fun s us ws X l1 l2 => ?_, fun {vs us zs ws} r1 r2 => r1.append r2⟩
  match us, ws, l1, l2 with
  | [a], [v], _, _ => exact .of_eq rfl
theorem sc_i23 : FnScope ["self", "name"] ["self", "name"] (defScope sI23) := ⟨rfl, rfl, rfl, by decide +kernel, rfl, by decide +kernel, by decide +kernel⟩
theorem ok_i23 {f f0 C C0 : Addr} {fd fd0 : FuncData} (F : Fun K "__init__" "InUse.__init__" sI23 f fd) (G0 : FnOk P w K mg base CX0 1 f0 fd0 ["self", "text"] (spFig K)) (T0 : FigC K mg C0 f0) (b0 : Binds K fd0 ["self", "text"] []) (T : OexC K C) (NN : ∃ nm, NamC K C nm) (no0 : PySem.W.findIn K (.ref C) "name" = some none) :
    FnOk P w K mg base CX0 2 f fd ["self", "name"] (spInit K "name" C) := by
  refine F.ok sc_i23 (fun vs H Q E h => ?_) (fun cdv A outer s H vs Q E hr h => ?_)
  · obtain ⟨a, v, rfl, _⟩ := h
    rfl
  · obtain ⟨a, v, rfl, ha, q⟩ := h
    refine ⟨_, pss_cons (ps_expr (pe_unb G0 hr (by rfl) T0.g T0.rd T0.val T0.kp b0 pass0 (pa_cons (pv 0) (pa_cons pe_str pa_nil)))) (pss_one (ps_ost (pv 0) (pv 1))), ?_⟩
    obtain ⟨nm, N⟩ := NN
    refine ⟨.ref a, rfl, a, C, _, nm, rfl, T, N, ha, fun d hd nd => ?_⟩
    refine ⟨v, rfl, .ref a, rfl, a, C, rfl, T, no0, .inr ⟨d, _, upd_same, by rw [upd_ne nd]; exact upd_same, (by show 1 ≤ 900; decide), ?_⟩⟩
    rw [upd_swap nd]
    exact q _ d hd nd
theorem kb_i23 {f : Addr} {fd : FuncData} (F : Fun K "__init__" "InUse.__init__" sI23 f fd) : KBn K fd ["self", "name"] 1 ["name"] gOne gOne := by
  obtain ⟨oc, od, kV, doc, pm, an, cdv, ct, osl, rfl, lk, hcd⟩ := F.ex
  refine ⟨fun s us ws X l1 l2 => ?_, fun {vs us zs ws} r1 r2 => r1.append r2⟩
  match us, ws, l1, l2 with
  | [a], [v], _, _ => exact .of_eq rfl
theorem sc_i24 : FnScope ["self", "value"] ["self", "value"] (defScope sI24) := ⟨rfl, rfl, rfl, by decide +kernel, rfl, by decide +kernel, by decide +kernel⟩
theorem ok_i24 {f f0 C C0 : Addr} {fd fd0 : FuncData} (F : Fun K "__init__" "NotScheme.__init__" sI24 f fd) (G0 : FnOk P w K mg base CX0 1 f0 fd0 ["self", "text"] (spFig K)) (T0 : FigC K mg C0 f0) (b0 : Binds K fd0 ["self", "text"] []) (T : OexC K C) (NN : ∃ nm, NamC K C nm) (no0 : PySem.W.findIn K (.ref C) "value" = some none) :
    FnOk P w K mg base CX0 2 f fd ["self", "value"] (spInit K "value" C) := by
  refine F.ok sc_i24 (fun vs H Q E h => ?_) (fun cdv A outer s H vs Q E hr h => ?_)
  · obtain ⟨a, v, rfl, _⟩ := h
    rfl
  · obtain ⟨a, v, rfl, ha, q⟩ := h
    refine ⟨_, pss_cons (ps_expr (pe_unb G0 hr (by rfl) T0.g T0.rd T0.val T0.kp b0 pass0 (pa_cons (pv 0) (pa_cons pe_str pa_nil)))) (pss_one (ps_ost (pv 0) (pv 1))), ?_⟩
    obtain ⟨nm, N⟩ := NN
    refine ⟨.ref a, rfl, a, C, _, nm, rfl, T, N, ha, fun d hd nd => ?_⟩
    refine ⟨v, rfl, .ref a, rfl, a, C, rfl, T, no0, .inr ⟨d, _, upd_same, by rw [upd_ne nd]; exact upd_same, (by show 1 ≤ 900; decide), ?_⟩⟩
    rw [upd_swap nd]
    exact q _ d hd nd
theorem kb_i24 {f : Addr} {fd : FuncData} (F : Fun K "__init__" "NotScheme.__init__" sI24 f fd) : KBn K fd ["self", "value"] 1 ["value"] gOne gOne := by
  obtain ⟨oc, od, kV, doc, pm, an, cdv, ct, osl, rfl, lk, hcd⟩ := F.ex
  refine ⟨fun s us ws X l1 l2 => ?_, fun {vs us zs ws} r1 r2 => r1.append r2⟩
  match us, ws, l1, l2 with
  | [a], [v], _, _ => exact .of_eq rfl
theorem sc_i25 : FnScope ["self", "value"] ["self", "value"] (defScope sI25) := ⟨rfl, rfl, rfl, by decide +kernel, rfl, by decide +kernel, by decide +kernel⟩
theorem ok_i25 {f f0 C C0 : Addr} {fd fd0 : FuncData} (F : Fun K "__init__" "NotForm.__init__" sI25 f fd) (G0 : FnOk P w K mg base CX0 1 f0 fd0 ["self", "text"] (spFig K)) (T0 : FigC K mg C0 f0) (b0 : Binds K fd0 ["self", "text"] []) (T : OexC K C) (NN : ∃ nm, NamC K C nm) (no0 : PySem.W.findIn K (.ref C) "value" = some none) :
    FnOk P w K mg base CX0 2 f fd ["self", "value"] (spInit K "value" C) := by
  refine F.ok sc_i25 (fun vs H Q E h => ?_) (fun cdv A outer s H vs Q E hr h => ?_)
  · obtain ⟨a, v, rfl, _⟩ := h
    rfl
  · obtain ⟨a, v, rfl, ha, q⟩ := h
    refine ⟨_, pss_cons (ps_expr (pe_unb G0 hr (by rfl) T0.g T0.rd T0.val T0.kp b0 pass0 (pa_cons (pv 0) (pa_cons pe_str pa_nil)))) (pss_one (ps_ost (pv 0) (pv 1))), ?_⟩
    obtain ⟨nm, N⟩ := NN
    refine ⟨.ref a, rfl, a, C, _, nm, rfl, T, N, ha, fun d hd nd => ?_⟩
    refine ⟨v, rfl, .ref a, rfl, a, C, rfl, T, no0, .inr ⟨d, _, upd_same, by rw [upd_ne nd]; exact upd_same, (by show 1 ≤ 900; decide), ?_⟩⟩
    rw [upd_swap nd]
    exact q _ d hd nd
theorem kb_i25 {f : Addr} {fd : FuncData} (F : Fun K "__init__" "NotForm.__init__" sI25 f fd) : KBn K fd ["self", "value"] 1 ["value"] gOne gOne := by
  obtain ⟨oc, od, kV, doc, pm, an, cdv, ct, osl, rfl, lk, hcd⟩ := F.ex
  refine ⟨fun s us ws X l1 l2 => ?_, fun {vs us zs ws} r1 r2 => r1.append r2⟩
  match us, ws, l1, l2 with
  | [a], [v], _, _ => exact .of_eq rfl
theorem sc_i26 : FnScope ["self", "value"] ["self", "value"] (defScope sI26) := ⟨rfl, rfl, rfl, by decide +kernel, rfl, by decide +kernel, by decide +kernel⟩
theorem ok_i26 {f f0 C C0 : Addr} {fd fd0 : FuncData} (F : Fun K "__init__" "NotMachine.__init__" sI26 f fd) (G0 : FnOk P w K mg base CX0 1 f0 fd0 ["self", "text"] (spFig K)) (T0 : FigC K mg C0 f0) (b0 : Binds K fd0 ["self", "text"] []) (T : OexC K C) (NN : ∃ nm, NamC K C nm) (no0 : PySem.W.findIn K (.ref C) "value" = some none) :
    FnOk P w K mg base CX0 2 f fd ["self", "value"] (spInit K "value" C) := by
  refine F.ok sc_i26 (fun vs H Q E h => ?_) (fun cdv A outer s H vs Q E hr h => ?_)
  · obtain ⟨a, v, rfl, _⟩ := h
    rfl
  · obtain ⟨a, v, rfl, ha, q⟩ := h
    refine ⟨_, pss_cons (ps_expr (pe_unb G0 hr (by rfl) T0.g T0.rd T0.val T0.kp b0 pass0 (pa_cons (pv 0) (pa_cons pe_str pa_nil)))) (pss_one (ps_ost (pv 0) (pv 1))), ?_⟩
    obtain ⟨nm, N⟩ := NN
    refine ⟨.ref a, rfl, a, C, _, nm, rfl, T, N, ha, fun d hd nd => ?_⟩
    refine ⟨v, rfl, .ref a, rfl, a, C, rfl, T, no0, .inr ⟨d, _, upd_same, by rw [upd_ne nd]; exact upd_same, (by show 1 ≤ 900; decide), ?_⟩⟩
    rw [upd_swap nd]
    exact q _ d hd nd
theorem kb_i26 {f : Addr} {fd : FuncData} (F : Fun K "__init__" "NotMachine.__init__" sI26 f fd) : KBn K fd ["self", "value"] 1 ["value"] gOne gOne := by
  obtain ⟨oc, od, kV, doc, pm, an, cdv, ct, osl, rfl, lk, hcd⟩ := F.ex
  refine ⟨fun s us ws X l1 l2 => ?_, fun {vs us zs ws} r1 r2 => r1.append r2⟩
  match us, ws, l1, l2 with
  | [a], [v], _, _ => exact .of_eq rfl
theorem sc_i27 : FnScope ["self", "most"] ["self", "most"] (defScope sI27) := ⟨rfl, rfl, rfl, by decide +kernel, rfl, by decide +kernel, by decide +kernel⟩
theorem ok_i27 {f f0 C C0 : Addr} {fd fd0 : FuncData} (F : Fun K "__init__" "TooMany.__init__" sI27 f fd) (G0 : FnOk P w K mg base CX0 1 f0 fd0 ["self", "text"] (spFig K)) (T0 : FigC K mg C0 f0) (b0 : Binds K fd0 ["self", "text"] []) (T : OexC K C) (NN : ∃ nm, NamC K C nm) (no0 : PySem.W.findIn K (.ref C) "most" = some none) :
    FnOk P w K mg base CX0 2 f fd ["self", "most"] (spInit K "most" C) := by
  refine F.ok sc_i27 (fun vs H Q E h => ?_) (fun cdv A outer s H vs Q E hr h => ?_)
  · obtain ⟨a, v, rfl, _⟩ := h
    rfl
  · obtain ⟨a, v, rfl, ha, q⟩ := h
    refine ⟨_, pss_cons (ps_expr (pe_unb G0 hr (by rfl) T0.g T0.rd T0.val T0.kp b0 pass0 (pa_cons (pv 0) (pa_cons pe_str pa_nil)))) (pss_one (ps_ost (pv 0) (pv 1))), ?_⟩
    obtain ⟨nm, N⟩ := NN
    refine ⟨.ref a, rfl, a, C, _, nm, rfl, T, N, ha, fun d hd nd => ?_⟩
    refine ⟨v, rfl, .ref a, rfl, a, C, rfl, T, no0, .inr ⟨d, _, upd_same, by rw [upd_ne nd]; exact upd_same, (by show 1 ≤ 900; decide), ?_⟩⟩
    rw [upd_swap nd]
    exact q _ d hd nd
theorem kb_i27 {f : Addr} {fd : FuncData} (F : Fun K "__init__" "TooMany.__init__" sI27 f fd) : KBn K fd ["self", "most"] 1 ["most"] gOne gOne := by
  obtain ⟨oc, od, kV, doc, pm, an, cdv, ct, osl, rfl, lk, hcd⟩ := F.ex
  refine ⟨fun s us ws X l1 l2 => ?_, fun {vs us zs ws} r1 r2 => r1.append r2⟩
  match us, ws, l1, l2 with
  | [a], [v], _, _ => exact .of_eq rfl
theorem sc_i28 : FnScope ["self", "top", "bottom"] ["self", "top", "bottom"] (defScope sI28) := ⟨rfl, rfl, rfl, by decide +kernel, rfl, by decide +kernel, by decide +kernel⟩
theorem ok_i28 {f f0 C C0 : Addr} {fd fd0 : FuncData} (F : Fun K "__init__" "InvalidRatio.__init__" sI28 f fd) (G0 : FnOk P w K mg base CX0 1 f0 fd0 ["self", "text"] (spFig K)) (T0 : FigC K mg C0 f0) (b0 : Binds K fd0 ["self", "text"] []) (T : OexC K C) (NN : ∃ nm, NamC K C nm) (no0 : PySem.W.findIn K (.ref C) "top" = some none) (no1 : PySem.W.findIn K (.ref C) "bottom" = some none) :
    FnOk P w K mg base CX0 2 f fd ["self", "top", "bottom"] (spInit2 "top" "bottom" C) := by
  refine F.ok sc_i28 (fun vs H Q E h => ?_) (fun cdv A outer s H vs Q E hr h => ?_)
  · obtain ⟨a, v, u, rfl, _⟩ := h
    rfl
  · obtain ⟨a, v, u, rfl, ha, q⟩ := h
    refine ⟨_, pss_cons (ps_expr (pe_unb G0 hr (by rfl) T0.g T0.rd T0.val T0.kp b0 pass0 (pa_cons (pv 0) (pa_cons pe_str pa_nil)))) (pss_cons (ps_ost (pv 0) (pv 1)) (pss_one (ps_ost (pv 0) (pv 2)))), ?_⟩
    obtain ⟨nm, N⟩ := NN
    refine ⟨.ref a, rfl, a, C, _, nm, rfl, T, N, ha, fun d hd nd => ?_⟩
    refine ⟨v, rfl, .ref a, rfl, a, C, rfl, T, no0, .inr ⟨d, _, upd_same, by rw [upd_ne nd]; exact upd_same, (by show 1 ≤ 900; decide), ?_⟩⟩
    rw [upd_swap nd]
    refine ⟨u, rfl, .ref a, rfl, a, C, rfl, T, no1, .inr ⟨d, _, upd_same, by rw [upd_ne nd]; exact upd_same, (by show 2 ≤ 900; decide), ?_⟩⟩
    rw [upd_swap nd]
    exact q _ d hd nd
theorem kb_i28 {f : Addr} {fd : FuncData} (F : Fun K "__init__" "InvalidRatio.__init__" sI28 f fd) : KBn K fd ["self", "top", "bottom"] 1 ["bottom", "top"] gSw gSw := by
  obtain ⟨oc, od, kV, doc, pm, an, cdv, ct, osl, rfl, lk, hcd⟩ := F.ex
  refine ⟨fun s us ws X l1 l2 => ?_, fun {vs us zs ws} r1 r2 => r1.append (rev_vals r2)⟩
  match us, ws, l1, l2 with
  | [a], [v, u], _, _ => exact .of_eq rfl
theorem sc_i29 : FnScope ["self", "one", "other"] ["self", "one", "other"] (defScope sI29) := ⟨rfl, rfl, rfl, by decide +kernel, rfl, by decide +kernel, by decide +kernel⟩
theorem ok_i29 {f f0 C C0 : Addr} {fd fd0 : FuncData} (F : Fun K "__init__" "UnlikeForms.__init__" sI29 f fd) (G0 : FnOk P w K mg base CX0 1 f0 fd0 ["self", "text"] (spFig K)) (T0 : FigC K mg C0 f0) (b0 : Binds K fd0 ["self", "text"] []) (T : OexC K C) (NN : ∃ nm, NamC K C nm) (no0 : PySem.W.findIn K (.ref C) "one" = some none) (no1 : PySem.W.findIn K (.ref C) "other" = some none) :
    FnOk P w K mg base CX0 2 f fd ["self", "one", "other"] (spInit2 "one" "other" C) := by
  refine F.ok sc_i29 (fun vs H Q E h => ?_) (fun cdv A outer s H vs Q E hr h => ?_)
  · obtain ⟨a, v, u, rfl, _⟩ := h
    rfl
  · obtain ⟨a, v, u, rfl, ha, q⟩ := h
    refine ⟨_, pss_cons (ps_expr (pe_unb G0 hr (by rfl) T0.g T0.rd T0.val T0.kp b0 pass0 (pa_cons (pv 0) (pa_cons pe_str pa_nil)))) (pss_cons (ps_ost (pv 0) (pv 1)) (pss_one (ps_ost (pv 0) (pv 2)))), ?_⟩
    obtain ⟨nm, N⟩ := NN
    refine ⟨.ref a, rfl, a, C, _, nm, rfl, T, N, ha, fun d hd nd => ?_⟩
    refine ⟨v, rfl, .ref a, rfl, a, C, rfl, T, no0, .inr ⟨d, _, upd_same, by rw [upd_ne nd]; exact upd_same, (by show 1 ≤ 900; decide), ?_⟩⟩
    rw [upd_swap nd]
    refine ⟨u, rfl, .ref a, rfl, a, C, rfl, T, no1, .inr ⟨d, _, upd_same, by rw [upd_ne nd]; exact upd_same, (by show 2 ≤ 900; decide), ?_⟩⟩
    rw [upd_swap nd]
    exact q _ d hd nd
theorem kb_i29 {f : Addr} {fd : FuncData} (F : Fun K "__init__" "UnlikeForms.__init__" sI29 f fd) : KBn K fd ["self", "one", "other"] 1 ["other", "one"] gSw gSw := by
  obtain ⟨oc, od, kV, doc, pm, an, cdv, ct, osl, rfl, lk, hcd⟩ := F.ex
  refine ⟨fun s us ws X l1 l2 => ?_, fun {vs us zs ws} r1 r2 => r1.append (rev_vals r2)⟩
  match us, ws, l1, l2 with
  | [a], [v, u], _, _ => exact .of_eq rfl
theorem sc_i30 : FnScope ["self"] ["self"] (defScope sI30) := ⟨rfl, rfl, rfl, by decide +kernel, rfl, by decide +kernel, by decide +kernel⟩
theorem ok_i30 {f f0 C C0 : Addr} {fd fd0 : FuncData} (F : Fun K "__init__" "NothingToUndo.__init__" sI30 f fd) (G0 : FnOk P w K mg base CX0 1 f0 fd0 ["self", "text"] (spFig K)) (T0 : FigC K mg C0 f0) (b0 : Binds K fd0 ["self", "text"] []) (T : OexC K C) (NN : ∃ nm, NamC K C nm) :
    FnOk P w K mg base CX0 2 f fd ["self"] (spInit0 C) := by
  refine F.ok sc_i30 (fun vs H Q E h => ?_) (fun cdv A outer s H vs Q E hr h => ?_)
  · obtain ⟨a, rfl, _⟩ := h
    rfl
  · obtain ⟨a, rfl, ha, q⟩ := h
    refine ⟨_, pss_one (ps_expr (pe_unb G0 hr (by rfl) T0.g T0.rd T0.val T0.kp b0 pass0 (pa_cons (pv 0) (pa_cons pe_str pa_nil)))), ?_⟩
    obtain ⟨nm, N⟩ := NN
    exact ⟨.ref a, rfl, a, C, _, nm, rfl, T, N, ha, fun d hd nd => q _ d hd nd⟩
end
end K04
namespace K04
open PySem PySem.Spec PyProof.Rows L2 OF
section
variable {P : Program} {w : World} {K : PySem.W.Frag} {mg : Str → Option Value} {base : Heap}
/-- the law's error classes: C j the one of place j, its maker at I j -/
structure AllE (K : PySem.W.Frag) (mg : Str → Option Value) (CF : Addr) (C I : Nat → Addr) : Prop where
  hn : PySem.W.specialIn K (.builtin "object.__class__") "__get__" = some (some (.builtin "getset_descriptor.__get__"))
  ht : PySem.W.takesIn K (.builtin "object.__class__") = some true
  st : PySem.W.nsIn K cStatics "thirdparty.any" = some none
  e0 : Kl K mg "InvalidBase" "InvalidBase.__init__" sI0 (C 0) (I 0) (bmE CF)
  n0_0 : PySem.W.findIn K (.ref (C 0)) "value" = some none
  e1 : Kl K mg "InvalidDigits" "InvalidDigits.__init__" sI1 (C 1) (I 1) (bmE CF)
  n1_0 : PySem.W.findIn K (.ref (C 1)) "value" = some none
  e2 : Kl K mg "InvalidBars" "InvalidBars.__init__" sI2 (C 2) (I 2) (bmE CF)
  n2_0 : PySem.W.findIn K (.ref (C 2)) "value" = some none
  e3 : Kl K mg "InvalidRow" "InvalidRow.__init__" sI3 (C 3) (I 3) (bmE CF)
  n3_0 : PySem.W.findIn K (.ref (C 3)) "row" = some none
  e4 : Kl K mg "InvalidText" "InvalidText.__init__" sI4 (C 4) (I 4) (bmE CF)
  n4_0 : PySem.W.findIn K (.ref (C 4)) "text" = some none
  e5 : Kl K mg "InvalidNumber" "InvalidNumber.__init__" sI5 (C 5) (I 5) (bmE CF)
  n5_0 : PySem.W.findIn K (.ref (C 5)) "number" = some none
  e6 : Kl K mg "InvalidLength" "InvalidLength.__init__" sI6 (C 6) (I 6) (bmE CF)
  n6_0 : PySem.W.findIn K (.ref (C 6)) "length" = some none
  e7 : Kl K mg "InvalidTerms" "InvalidTerms.__init__" sI7 (C 7) (I 7) (bmE CF)
  n7_0 : PySem.W.findIn K (.ref (C 7)) "value" = some none
  e8 : Kl K mg "InvalidTerm" "InvalidTerm.__init__" sI8 (C 8) (I 8) (bmE CF)
  n8_0 : PySem.W.findIn K (.ref (C 8)) "term" = some none
  e9 : Kl K mg "InvalidRows" "InvalidRows.__init__" sI9 (C 9) (I 9) (bmE CF)
  n9_0 : PySem.W.findIn K (.ref (C 9)) "rows" = some none
  e10 : Kl K mg "InvalidState" "InvalidState.__init__" sI10 (C 10) (I 10) (bmE CF)
  n10_0 : PySem.W.findIn K (.ref (C 10)) "state" = some none
  e11 : Kl K mg "InvalidReading" "InvalidReading.__init__" sI11 (C 11) (I 11) (bmE CF)
  n11_0 : PySem.W.findIn K (.ref (C 11)) "reading" = some none
  e12 : Kl K mg "InvalidPrices" "InvalidPrices.__init__" sI12 (C 12) (I 12) (bmE CF)
  n12_0 : PySem.W.findIn K (.ref (C 12)) "prices" = some none
  e13 : Kl K mg "InvalidLag" "InvalidLag.__init__" sI13 (C 13) (I 13) (bmE CF)
  n13_0 : PySem.W.findIn K (.ref (C 13)) "value" = some none
  e14 : Kl K mg "InvalidTable" "InvalidTable.__init__" sI14 (C 14) (I 14) (bmE CF)
  n14_0 : PySem.W.findIn K (.ref (C 14)) "value" = some none
  e15 : Kl K mg "InvalidWord" "InvalidWord.__init__" sI15 (C 15) (I 15) (bmE CF)
  n15_0 : PySem.W.findIn K (.ref (C 15)) "word" = some none
  e16 : Kl K mg "InvalidName" "InvalidName.__init__" sI16 (C 16) (I 16) (bmE CF)
  n16_0 : PySem.W.findIn K (.ref (C 16)) "name" = some none
  e17 : Kl K mg "InvalidLine" "InvalidLine.__init__" sI17 (C 17) (I 17) (bmE CF)
  n17_0 : PySem.W.findIn K (.ref (C 17)) "line" = some none
  e18 : Kl K mg "UnknownDigit" "UnknownDigit.__init__" sI18 (C 18) (I 18) (bmE CF)
  n18_0 : PySem.W.findIn K (.ref (C 18)) "digit" = some none
  e19 : Kl K mg "UnknownName" "UnknownName.__init__" sI19 (C 19) (I 19) (bmE CF)
  n19_0 : PySem.W.findIn K (.ref (C 19)) "name" = some none
  e20 : Kl K mg "UnlikeBases" "UnlikeBases.__init__" sI20 (C 20) (I 20) (bmE CF)
  n20_0 : PySem.W.findIn K (.ref (C 20)) "value" = some none
  e21 : Kl K mg "NameTaken" "NameTaken.__init__" sI21 (C 21) (I 21) (bmE CF)
  n21_0 : PySem.W.findIn K (.ref (C 21)) "name" = some none
  e22 : Kl K mg "NotWritten" "NotWritten.__init__" sI22 (C 22) (I 22) (bmE CF)
  n22_0 : PySem.W.findIn K (.ref (C 22)) "number" = some none
  e23 : Kl K mg "InUse" "InUse.__init__" sI23 (C 23) (I 23) (bmE CF)
  n23_0 : PySem.W.findIn K (.ref (C 23)) "name" = some none
  e24 : Kl K mg "NotScheme" "NotScheme.__init__" sI24 (C 24) (I 24) (bmE CF)
  n24_0 : PySem.W.findIn K (.ref (C 24)) "value" = some none
  e25 : Kl K mg "NotForm" "NotForm.__init__" sI25 (C 25) (I 25) (bmE CF)
  n25_0 : PySem.W.findIn K (.ref (C 25)) "value" = some none
  e26 : Kl K mg "NotMachine" "NotMachine.__init__" sI26 (C 26) (I 26) (bmE CF)
  n26_0 : PySem.W.findIn K (.ref (C 26)) "value" = some none
  e27 : Kl K mg "TooMany" "TooMany.__init__" sI27 (C 27) (I 27) (bmE CF)
  n27_0 : PySem.W.findIn K (.ref (C 27)) "most" = some none
  e28 : Kl K mg "InvalidRatio" "InvalidRatio.__init__" sI28 (C 28) (I 28) (bmE CF)
  n28_0 : PySem.W.findIn K (.ref (C 28)) "top" = some none
  n28_1 : PySem.W.findIn K (.ref (C 28)) "bottom" = some none
  e29 : Kl K mg "UnlikeForms" "UnlikeForms.__init__" sI29 (C 29) (I 29) (bmE CF)
  n29_0 : PySem.W.findIn K (.ref (C 29)) "one" = some none
  n29_1 : PySem.W.findIn K (.ref (C 29)) "other" = some none
  e30 : Kl K mg "NothingToUndo" "NothingToUndo.__init__" sI30 (C 30) (I 30) (bmE CF)
  inj : ∀ i j, i < 31 → j < 31 → C i = C j → i = j
  out : ∀ i, i < 31 → C i ≠ CF
def spMade (C : Nat → Addr) (lo : Nat) : Sp := fun vs H Q _ => ∃ (k : Nat) (x : V) (b : Bool), vs = [.int (k : Int), x, .bl b] ∧ lo ≤ k ∧ k < 31 ∧ (flatB x = true ∨ ∃ a, x = .ref a) ∧
  ∀ (a l t : Addr) (H' : Hp), Same H H' → H' t = some (.tup [.ref a, .ref l]) → H' l = some (.lst [x]) → Err (C k) H' a → Q (.ref t) H'
abbrev nMa : List Str := ["_law_place", "_law_thing", "_law_way", "_law_e"]
theorem one_all {x : V} (hx : flatB x = true ∨ ∃ a, x = .ref a) : ∀ v ∈ [x], flatB v = true ∨ ∃ a, v = .ref a := fun v hv => by
  rw [List.mem_singleton.mp hv]
  exact hx
theorem tail1 {C a d p t : Addr} {x : V} {fs : List (Str × V)} {H H1 : Hp} {R : Addr → Hp → Prop} (s1 : Same H H1) (ea : H1 a = some (exo a C (some d))) (ed : H1 d = some (exd d fs)) (hp : H1 p = none) (ht : (upd H1 p (.lst [x])) t = none)
    (q : ∀ (a l t : Addr) (H' : Hp), Same H H' → H' t = some (.tup [.ref a, .ref l]) → H' l = some (.lst [x]) → Err C H' a → R t H') : R t (upd (upd H1 p (.lst [x])) t (.tup [.ref a, .ref p])) := by
  have s2 := same_new (o := .lst [x]) hp
  have s3 := same_new (o := .tup [.ref a, .ref p]) ht
  refine q a p t _ (s1.trans (s2.trans s3)) upd_same (s3 _ _ upd_same) ⟨some d, s3 _ _ (s2 _ _ ea), fun d' e => ?_⟩
  cases e
  exact ⟨fs, s3 _ _ (s2 _ _ ed)⟩
theorem scMa2 : FnScope nMa ["_law_place", "_law_thing", "_law_way"] (defScope sMade2) := ⟨rfl, rfl, rfl, by decide +kernel, rfl, by decide +kernel, by decide +kernel⟩
set_option maxHeartbeats 4000000 in
theorem ok_made2 {f f0 C0 : Addr} {fd fd0 : FuncData} {CF : Addr} {C I : Nat → Addr} (F : Fun K "_law_made2" "_law_made2" sMade2 f fd) (AE : AllE K mg CF C I) (G0 : FnOk P w K mg base CX0 1 f0 fd0 ["self", "text"] (spFig K)) (T0 : FigC K mg C0 f0) (b0 : Binds K fd0 ["self", "text"] []) :
    FnOk P w K mg base CX0 4 f fd ["_law_place", "_law_thing", "_law_way"] (spMade C 20) := by
  obtain ⟨fd20, F20⟩ := AE.e20.fn
  have O20 := AE.e20.ox (above_E CF)
  have M20 := ok_i20 (P := P) (w := w) (mg := mg) (base := base) F20 G0 T0 b0 O20 (AE.e20.nam (above_E CF) AE.hn AE.ht AE.st) AE.n20_0
  have B20 := F20.binds (ps := ["self", "value"]) fun _ _ _ _ _ _ us hl => match us, hl with | [_, _], _ => rfl
  obtain ⟨fd21, F21⟩ := AE.e21.fn
  have O21 := AE.e21.ox (above_E CF)
  have M21 := ok_i21 (P := P) (w := w) (mg := mg) (base := base) F21 G0 T0 b0 O21 (AE.e21.nam (above_E CF) AE.hn AE.ht AE.st) AE.n21_0
  have B21 := F21.binds (ps := ["self", "name"]) fun _ _ _ _ _ _ us hl => match us, hl with | [_, _], _ => rfl
  obtain ⟨fd22, F22⟩ := AE.e22.fn
  have O22 := AE.e22.ox (above_E CF)
  have M22 := ok_i22 (P := P) (w := w) (mg := mg) (base := base) F22 G0 T0 b0 O22 (AE.e22.nam (above_E CF) AE.hn AE.ht AE.st) AE.n22_0
  have B22 := F22.binds (ps := ["self", "number"]) fun _ _ _ _ _ _ us hl => match us, hl with | [_, _], _ => rfl
  obtain ⟨fd23, F23⟩ := AE.e23.fn
  have O23 := AE.e23.ox (above_E CF)
  have M23 := ok_i23 (P := P) (w := w) (mg := mg) (base := base) F23 G0 T0 b0 O23 (AE.e23.nam (above_E CF) AE.hn AE.ht AE.st) AE.n23_0
  have B23 := F23.binds (ps := ["self", "name"]) fun _ _ _ _ _ _ us hl => match us, hl with | [_, _], _ => rfl
  obtain ⟨fd24, F24⟩ := AE.e24.fn
  have O24 := AE.e24.ox (above_E CF)
  have M24 := ok_i24 (P := P) (w := w) (mg := mg) (base := base) F24 G0 T0 b0 O24 (AE.e24.nam (above_E CF) AE.hn AE.ht AE.st) AE.n24_0
  have B24 := F24.binds (ps := ["self", "value"]) fun _ _ _ _ _ _ us hl => match us, hl with | [_, _], _ => rfl
  obtain ⟨fd25, F25⟩ := AE.e25.fn
  have O25 := AE.e25.ox (above_E CF)
  have M25 := ok_i25 (P := P) (w := w) (mg := mg) (base := base) F25 G0 T0 b0 O25 (AE.e25.nam (above_E CF) AE.hn AE.ht AE.st) AE.n25_0
  have B25 := F25.binds (ps := ["self", "value"]) fun _ _ _ _ _ _ us hl => match us, hl with | [_, _], _ => rfl
  obtain ⟨fd26, F26⟩ := AE.e26.fn
  have O26 := AE.e26.ox (above_E CF)
  have M26 := ok_i26 (P := P) (w := w) (mg := mg) (base := base) F26 G0 T0 b0 O26 (AE.e26.nam (above_E CF) AE.hn AE.ht AE.st) AE.n26_0
  have B26 := F26.binds (ps := ["self", "value"]) fun _ _ _ _ _ _ us hl => match us, hl with | [_, _], _ => rfl
  obtain ⟨fd27, F27⟩ := AE.e27.fn
  have O27 := AE.e27.ox (above_E CF)
  have M27 := ok_i27 (P := P) (w := w) (mg := mg) (base := base) F27 G0 T0 b0 O27 (AE.e27.nam (above_E CF) AE.hn AE.ht AE.st) AE.n27_0
  have B27 := F27.binds (ps := ["self", "most"]) fun _ _ _ _ _ _ us hl => match us, hl with | [_, _], _ => rfl
  obtain ⟨fd28, F28⟩ := AE.e28.fn
  have O28 := AE.e28.ox (above_E CF)
  have M28 := ok_i28 (P := P) (w := w) (mg := mg) (base := base) F28 G0 T0 b0 O28 (AE.e28.nam (above_E CF) AE.hn AE.ht AE.st) AE.n28_0 AE.n28_1
  have B28 := F28.binds (ps := ["self", "top", "bottom"]) fun _ _ _ _ _ _ us hl => match us, hl with | [_, _, _], _ => rfl
  obtain ⟨fd29, F29⟩ := AE.e29.fn
  have O29 := AE.e29.ox (above_E CF)
  have M29 := ok_i29 (P := P) (w := w) (mg := mg) (base := base) F29 G0 T0 b0 O29 (AE.e29.nam (above_E CF) AE.hn AE.ht AE.st) AE.n29_0 AE.n29_1
  have B29 := F29.binds (ps := ["self", "one", "other"]) fun _ _ _ _ _ _ us hl => match us, hl with | [_, _, _], _ => rfl
  obtain ⟨fd30, F30⟩ := AE.e30.fn
  have O30 := AE.e30.ox (above_E CF)
  have M30 := ok_i30 (P := P) (w := w) (mg := mg) (base := base) F30 G0 T0 b0 O30 (AE.e30.nam (above_E CF) AE.hn AE.ht AE.st)
  have B30 := F30.binds (ps := ["self"]) fun _ _ _ _ _ _ us hl => match us, hl with | [_], _ => rfl
  refine F.ok scMa2 (fun vs H Q E h => ?_) (fun cdv A outer s H vs Q E hr h => ?_)
  · obtain ⟨k, x, b, rfl, _⟩ := h
    rfl
  · obtain ⟨k, x, b, rfl, hlo, hk, hx, q⟩ := h
    have hr3 : Room 3 _ := hr.mono (by decide)
    apply Exists.intro
    apply And.intro
    · apply pss_cons
      · exact ps_if (pt_cmpR op_eq (pv 0) pe_int (nomark _)) (pss_cons (ps_set (i := 3) scMa2.nd rfl (.inl rfl) (pe_ifExp (pt_val (pv 2)) (pe_madeP O20 AE.e20.iC AE.e20.tI M20 hr3 B20 pass0 (by rfl) AE.e20.g (pa_cons (pv 1) pa_nil)) (pe_madeN O20 AE.e20.iC AE.e20.tI M20 hr3 (kb_i20 F20) pass0 (by rfl) AE.e20.g (pk_cons (pv 1) pk_nil)))) (pss_one (ps_ret (pe_tup (pa_cons (pv 3) (pa_cons (pe_lst (pa_cons (pe_fldV (pv 3)) pa_nil)) pa_nil)))))) pss_nil
      apply pss_cons
      · exact ps_if (pt_cmpR op_eq (pv 0) pe_int (nomark _)) (pss_cons (ps_set (i := 3) scMa2.nd rfl (.inl rfl) (pe_ifExp (pt_val (pv 2)) (pe_madeP O21 AE.e21.iC AE.e21.tI M21 hr3 B21 pass0 (by rfl) AE.e21.g (pa_cons (pv 1) pa_nil)) (pe_madeN O21 AE.e21.iC AE.e21.tI M21 hr3 (kb_i21 F21) pass0 (by rfl) AE.e21.g (pk_cons (pv 1) pk_nil)))) (pss_one (ps_ret (pe_tup (pa_cons (pv 3) (pa_cons (pe_lst (pa_cons (pe_fldV (pv 3)) pa_nil)) pa_nil)))))) pss_nil
      apply pss_cons
      · exact ps_if (pt_cmpR op_eq (pv 0) pe_int (nomark _)) (pss_cons (ps_set (i := 3) scMa2.nd rfl (.inl rfl) (pe_ifExp (pt_val (pv 2)) (pe_madeP O22 AE.e22.iC AE.e22.tI M22 hr3 B22 pass0 (by rfl) AE.e22.g (pa_cons (pv 1) pa_nil)) (pe_madeN O22 AE.e22.iC AE.e22.tI M22 hr3 (kb_i22 F22) pass0 (by rfl) AE.e22.g (pk_cons (pv 1) pk_nil)))) (pss_one (ps_ret (pe_tup (pa_cons (pv 3) (pa_cons (pe_lst (pa_cons (pe_fldV (pv 3)) pa_nil)) pa_nil)))))) pss_nil
      apply pss_cons
      · exact ps_if (pt_cmpR op_eq (pv 0) pe_int (nomark _)) (pss_cons (ps_set (i := 3) scMa2.nd rfl (.inl rfl) (pe_ifExp (pt_val (pv 2)) (pe_madeP O23 AE.e23.iC AE.e23.tI M23 hr3 B23 pass0 (by rfl) AE.e23.g (pa_cons (pv 1) pa_nil)) (pe_madeN O23 AE.e23.iC AE.e23.tI M23 hr3 (kb_i23 F23) pass0 (by rfl) AE.e23.g (pk_cons (pv 1) pk_nil)))) (pss_one (ps_ret (pe_tup (pa_cons (pv 3) (pa_cons (pe_lst (pa_cons (pe_fldV (pv 3)) pa_nil)) pa_nil)))))) pss_nil
      apply pss_cons
      · exact ps_if (pt_cmpR op_eq (pv 0) pe_int (nomark _)) (pss_cons (ps_set (i := 3) scMa2.nd rfl (.inl rfl) (pe_ifExp (pt_val (pv 2)) (pe_madeP O24 AE.e24.iC AE.e24.tI M24 hr3 B24 pass0 (by rfl) AE.e24.g (pa_cons (pv 1) pa_nil)) (pe_madeN O24 AE.e24.iC AE.e24.tI M24 hr3 (kb_i24 F24) pass0 (by rfl) AE.e24.g (pk_cons (pv 1) pk_nil)))) (pss_one (ps_ret (pe_tup (pa_cons (pv 3) (pa_cons (pe_lst (pa_cons (pe_fldV (pv 3)) pa_nil)) pa_nil)))))) pss_nil
      apply pss_cons
      · exact ps_if (pt_cmpR op_eq (pv 0) pe_int (nomark _)) (pss_cons (ps_set (i := 3) scMa2.nd rfl (.inl rfl) (pe_ifExp (pt_val (pv 2)) (pe_madeP O25 AE.e25.iC AE.e25.tI M25 hr3 B25 pass0 (by rfl) AE.e25.g (pa_cons (pv 1) pa_nil)) (pe_madeN O25 AE.e25.iC AE.e25.tI M25 hr3 (kb_i25 F25) pass0 (by rfl) AE.e25.g (pk_cons (pv 1) pk_nil)))) (pss_one (ps_ret (pe_tup (pa_cons (pv 3) (pa_cons (pe_lst (pa_cons (pe_fldV (pv 3)) pa_nil)) pa_nil)))))) pss_nil
      apply pss_cons
      · exact ps_if (pt_cmpR op_eq (pv 0) pe_int (nomark _)) (pss_cons (ps_set (i := 3) scMa2.nd rfl (.inl rfl) (pe_ifExp (pt_val (pv 2)) (pe_madeP O26 AE.e26.iC AE.e26.tI M26 hr3 B26 pass0 (by rfl) AE.e26.g (pa_cons (pv 1) pa_nil)) (pe_madeN O26 AE.e26.iC AE.e26.tI M26 hr3 (kb_i26 F26) pass0 (by rfl) AE.e26.g (pk_cons (pv 1) pk_nil)))) (pss_one (ps_ret (pe_tup (pa_cons (pv 3) (pa_cons (pe_lst (pa_cons (pe_fldV (pv 3)) pa_nil)) pa_nil)))))) pss_nil
      apply pss_cons
      · exact ps_if (pt_cmpR op_eq (pv 0) pe_int (nomark _)) (pss_cons (ps_set (i := 3) scMa2.nd rfl (.inl rfl) (pe_ifExp (pt_val (pv 2)) (pe_madeP O27 AE.e27.iC AE.e27.tI M27 hr3 B27 pass0 (by rfl) AE.e27.g (pa_cons (pv 1) pa_nil)) (pe_madeN O27 AE.e27.iC AE.e27.tI M27 hr3 (kb_i27 F27) pass0 (by rfl) AE.e27.g (pk_cons (pv 1) pk_nil)))) (pss_one (ps_ret (pe_tup (pa_cons (pv 3) (pa_cons (pe_lst (pa_cons (pe_fldV (pv 3)) pa_nil)) pa_nil)))))) pss_nil
      apply pss_cons
      · exact ps_if (pt_cmpR op_eq (pv 0) pe_int (nomark _)) (pss_cons (ps_set (i := 3) scMa2.nd rfl (.inl rfl) (pe_ifExp (pt_val (pv 2)) (pe_madeP O28 AE.e28.iC AE.e28.tI M28 hr3 B28 pass0 (by rfl) AE.e28.g (pa_cons (pv 1) (pa_cons (pe_lst (pa_cons (pv 1) pa_nil)) pa_nil))) (pe_madeN O28 AE.e28.iC AE.e28.tI M28 hr3 (kb_i28 F28) pass0 (by rfl) AE.e28.g (pk_cons (pe_lst (pa_cons (pv 1) pa_nil)) (pk_cons (pv 1) pk_nil))))) (pss_one (ps_ret (pe_tup (pa_cons (pv 3) (pa_cons (pe_ifExp (pt_cmpR (op_eqSame hr.units) (pe_fldV (pv 3)) (pe_lst (pa_cons (pv 1) pa_nil)) (nomark _)) (pe_lst (pa_cons (pe_fldV (pv 3)) pa_nil)) (pe_lst pa_nil)) pa_nil)))))) pss_nil
      apply pss_cons
      · exact ps_if (pt_cmpR op_eq (pv 0) pe_int (nomark _)) (pss_cons (ps_set (i := 3) scMa2.nd rfl (.inl rfl) (pe_ifExp (pt_val (pv 2)) (pe_madeP O29 AE.e29.iC AE.e29.tI M29 hr3 B29 pass0 (by rfl) AE.e29.g (pa_cons (pv 1) (pa_cons (pe_lst (pa_cons (pv 1) pa_nil)) pa_nil))) (pe_madeN O29 AE.e29.iC AE.e29.tI M29 hr3 (kb_i29 F29) pass0 (by rfl) AE.e29.g (pk_cons (pe_lst (pa_cons (pv 1) pa_nil)) (pk_cons (pv 1) pk_nil))))) (pss_one (ps_ret (pe_tup (pa_cons (pv 3) (pa_cons (pe_ifExp (pt_cmpR (op_eqSame hr.units) (pe_fldV (pv 3)) (pe_lst (pa_cons (pv 1) pa_nil)) (nomark _)) (pe_lst (pa_cons (pe_fldV (pv 3)) pa_nil)) (pe_lst pa_nil)) pa_nil)))))) pss_nil
      apply pss_one
      · exact ps_ret (pe_tup (pa_cons (pe_made0 O30 AE.e30.iC AE.e30.tI M30 hr3 B30 pass0 (by rfl) AE.e30.g) (pa_cons (pe_lst (pa_cons (pv 1) pa_nil)) pa_nil)))
    refine ⟨.int k, rfl, rfl, _, rfl, ite2 (fun c => ?_) (fun c => ?_)⟩
    · have ek : k = 20 := by have := V.int.inj (of_decide_eq_true c); omega
      subst ek
      refine ⟨.bl b, rfl, b, rfl, iteDup (fun r _ => ⟨x, rfl, (by show 1 ≤ 1000; decide), made1 r⟩) (fun r _ => ⟨x, rfl, rfl, made1 r⟩) ?_⟩
      intro a H1 s1 ie
      obtain ⟨d, rs, ea, ed⟩ := ie
      refine ⟨.ref a, rfl, .ref a, rfl, a, d, C 20, _, x, rfl, AE.e20.xf (above_E CF), AE.n20_0, ea, ed, (by simp [List.lookup]), (by show 1 ≤ sizeLine; decide), fun p hp => ⟨(by show 2 ≤ sizeLine; decide), fun t ht => ?_⟩⟩
      exact tail1 s1 ea ed hp ht q
    have c20 : k ≠ 20 := fun z => c (decide_eq_true (by rw [z]; rfl))
    clear c
    refine ⟨.int k, rfl, rfl, _, rfl, ite2 (fun c => ?_) (fun c => ?_)⟩
    · have ek : k = 21 := by have := V.int.inj (of_decide_eq_true c); omega
      subst ek
      refine ⟨.bl b, rfl, b, rfl, iteDup (fun r _ => ⟨x, rfl, (by show 1 ≤ 1000; decide), made1 r⟩) (fun r _ => ⟨x, rfl, rfl, made1 r⟩) ?_⟩
      intro a H1 s1 ie
      obtain ⟨d, rs, ea, ed⟩ := ie
      refine ⟨.ref a, rfl, .ref a, rfl, a, d, C 21, _, x, rfl, AE.e21.xf (above_E CF), AE.n21_0, ea, ed, (by simp [List.lookup]), (by show 1 ≤ sizeLine; decide), fun p hp => ⟨(by show 2 ≤ sizeLine; decide), fun t ht => ?_⟩⟩
      exact tail1 s1 ea ed hp ht q
    have c21 : k ≠ 21 := fun z => c (decide_eq_true (by rw [z]; rfl))
    clear c
    refine ⟨.int k, rfl, rfl, _, rfl, ite2 (fun c => ?_) (fun c => ?_)⟩
    · have ek : k = 22 := by have := V.int.inj (of_decide_eq_true c); omega
      subst ek
      refine ⟨.bl b, rfl, b, rfl, iteDup (fun r _ => ⟨x, rfl, (by show 1 ≤ 1000; decide), made1 r⟩) (fun r _ => ⟨x, rfl, rfl, made1 r⟩) ?_⟩
      intro a H1 s1 ie
      obtain ⟨d, rs, ea, ed⟩ := ie
      refine ⟨.ref a, rfl, .ref a, rfl, a, d, C 22, _, x, rfl, AE.e22.xf (above_E CF), AE.n22_0, ea, ed, (by simp [List.lookup]), (by show 1 ≤ sizeLine; decide), fun p hp => ⟨(by show 2 ≤ sizeLine; decide), fun t ht => ?_⟩⟩
      exact tail1 s1 ea ed hp ht q
    have c22 : k ≠ 22 := fun z => c (decide_eq_true (by rw [z]; rfl))
    clear c
    refine ⟨.int k, rfl, rfl, _, rfl, ite2 (fun c => ?_) (fun c => ?_)⟩
    · have ek : k = 23 := by have := V.int.inj (of_decide_eq_true c); omega
      subst ek
      refine ⟨.bl b, rfl, b, rfl, iteDup (fun r _ => ⟨x, rfl, (by show 1 ≤ 1000; decide), made1 r⟩) (fun r _ => ⟨x, rfl, rfl, made1 r⟩) ?_⟩
      intro a H1 s1 ie
      obtain ⟨d, rs, ea, ed⟩ := ie
      refine ⟨.ref a, rfl, .ref a, rfl, a, d, C 23, _, x, rfl, AE.e23.xf (above_E CF), AE.n23_0, ea, ed, (by simp [List.lookup]), (by show 1 ≤ sizeLine; decide), fun p hp => ⟨(by show 2 ≤ sizeLine; decide), fun t ht => ?_⟩⟩
      exact tail1 s1 ea ed hp ht q
    have c23 : k ≠ 23 := fun z => c (decide_eq_true (by rw [z]; rfl))
    clear c
    refine ⟨.int k, rfl, rfl, _, rfl, ite2 (fun c => ?_) (fun c => ?_)⟩
    · have ek : k = 24 := by have := V.int.inj (of_decide_eq_true c); omega
      subst ek
      refine ⟨.bl b, rfl, b, rfl, iteDup (fun r _ => ⟨x, rfl, (by show 1 ≤ 1000; decide), made1 r⟩) (fun r _ => ⟨x, rfl, rfl, made1 r⟩) ?_⟩
      intro a H1 s1 ie
      obtain ⟨d, rs, ea, ed⟩ := ie
      refine ⟨.ref a, rfl, .ref a, rfl, a, d, C 24, _, x, rfl, AE.e24.xf (above_E CF), AE.n24_0, ea, ed, (by simp [List.lookup]), (by show 1 ≤ sizeLine; decide), fun p hp => ⟨(by show 2 ≤ sizeLine; decide), fun t ht => ?_⟩⟩
      exact tail1 s1 ea ed hp ht q
    have c24 : k ≠ 24 := fun z => c (decide_eq_true (by rw [z]; rfl))
    clear c
    refine ⟨.int k, rfl, rfl, _, rfl, ite2 (fun c => ?_) (fun c => ?_)⟩
    · have ek : k = 25 := by have := V.int.inj (of_decide_eq_true c); omega
      subst ek
      refine ⟨.bl b, rfl, b, rfl, iteDup (fun r _ => ⟨x, rfl, (by show 1 ≤ 1000; decide), made1 r⟩) (fun r _ => ⟨x, rfl, rfl, made1 r⟩) ?_⟩
      intro a H1 s1 ie
      obtain ⟨d, rs, ea, ed⟩ := ie
      refine ⟨.ref a, rfl, .ref a, rfl, a, d, C 25, _, x, rfl, AE.e25.xf (above_E CF), AE.n25_0, ea, ed, (by simp [List.lookup]), (by show 1 ≤ sizeLine; decide), fun p hp => ⟨(by show 2 ≤ sizeLine; decide), fun t ht => ?_⟩⟩
      exact tail1 s1 ea ed hp ht q
    have c25 : k ≠ 25 := fun z => c (decide_eq_true (by rw [z]; rfl))
    clear c
    refine ⟨.int k, rfl, rfl, _, rfl, ite2 (fun c => ?_) (fun c => ?_)⟩
    · have ek : k = 26 := by have := V.int.inj (of_decide_eq_true c); omega
      subst ek
      refine ⟨.bl b, rfl, b, rfl, iteDup (fun r _ => ⟨x, rfl, (by show 1 ≤ 1000; decide), made1 r⟩) (fun r _ => ⟨x, rfl, rfl, made1 r⟩) ?_⟩
      intro a H1 s1 ie
      obtain ⟨d, rs, ea, ed⟩ := ie
      refine ⟨.ref a, rfl, .ref a, rfl, a, d, C 26, _, x, rfl, AE.e26.xf (above_E CF), AE.n26_0, ea, ed, (by simp [List.lookup]), (by show 1 ≤ sizeLine; decide), fun p hp => ⟨(by show 2 ≤ sizeLine; decide), fun t ht => ?_⟩⟩
      exact tail1 s1 ea ed hp ht q
    have c26 : k ≠ 26 := fun z => c (decide_eq_true (by rw [z]; rfl))
    clear c
    refine ⟨.int k, rfl, rfl, _, rfl, ite2 (fun c => ?_) (fun c => ?_)⟩
    · have ek : k = 27 := by have := V.int.inj (of_decide_eq_true c); omega
      subst ek
      refine ⟨.bl b, rfl, b, rfl, iteDup (fun r _ => ⟨x, rfl, (by show 1 ≤ 1000; decide), made1 r⟩) (fun r _ => ⟨x, rfl, rfl, made1 r⟩) ?_⟩
      intro a H1 s1 ie
      obtain ⟨d, rs, ea, ed⟩ := ie
      refine ⟨.ref a, rfl, .ref a, rfl, a, d, C 27, _, x, rfl, AE.e27.xf (above_E CF), AE.n27_0, ea, ed, (by simp [List.lookup]), (by show 1 ≤ sizeLine; decide), fun p hp => ⟨(by show 2 ≤ sizeLine; decide), fun t ht => ?_⟩⟩
      exact tail1 s1 ea ed hp ht q
    have c27 : k ≠ 27 := fun z => c (decide_eq_true (by rw [z]; rfl))
    clear c
    refine ⟨.int k, rfl, rfl, _, rfl, ite2 (fun c => ?_) (fun c => ?_)⟩
    · have ek : k = 28 := by have := V.int.inj (of_decide_eq_true c); omega
      subst ek
      refine ⟨.bl b, rfl, b, rfl, ite2 (fun _ => ⟨x, rfl, x, rfl, (by show 1 ≤ sizeLine; decide), fun p hp => ?_⟩) (fun _ => ⟨x, rfl, (by show 1 ≤ sizeLine; decide), fun p hp => ?_⟩)⟩
      · refine ⟨(by show 2 ≤ 1000; decide), made2 ?_⟩
        intro a H1 s1 ie
        obtain ⟨d, rs, ea, ed⟩ := ie
        have ep := s1 _ _ (upd_same (H := H) (a := p) (o := .lst [x]))
        refine ⟨.ref a, rfl, .ref a, rfl, a, d, C 28, _, .ref p, rfl, AE.e28.xf (above_E CF), AE.n28_1, ea, ed, (by simp [List.lookup]), x, rfl, (by show 1 ≤ sizeLine; decide), fun p2 hp2 => ?_⟩
        have s2 := same_new (o := .lst [x]) hp2
        refine ⟨p, p2, [x], rfl, rfl, SqL.of (s2 _ _ ep), SqL.of upd_same, one_all hx, _, rfl, iteT ?_⟩
        refine ⟨.ref a, rfl, a, d, C 28, _, x, rfl, AE.e28.xf (above_E CF), AE.n28_0, s2 _ _ ea, s2 _ _ ed, (by rw [List.cons_append, List.cons_append, lookup_put, if_neg (by decide)]; simp [List.lookup]), (by show 1 ≤ sizeLine; decide), fun p3 hp3 => ⟨(by show 2 ≤ sizeLine; decide), fun t ht => ?_⟩⟩
        exact tail1 ((same_new hp).trans (s1.trans s2)) (s2 _ _ ea) (s2 _ _ ed) hp3 ht q
      · refine ⟨x, rfl, rfl, made2 ?_⟩
        intro a H1 s1 ie
        obtain ⟨d, rs, ea, ed⟩ := ie
        have ep := s1 _ _ (upd_same (H := H) (a := p) (o := .lst [x]))
        refine ⟨.ref a, rfl, .ref a, rfl, a, d, C 28, _, .ref p, rfl, AE.e28.xf (above_E CF), AE.n28_1, ea, ed, (by simp [List.lookup]), x, rfl, (by show 1 ≤ sizeLine; decide), fun p2 hp2 => ?_⟩
        have s2 := same_new (o := .lst [x]) hp2
        refine ⟨p, p2, [x], rfl, rfl, SqL.of (s2 _ _ ep), SqL.of upd_same, one_all hx, _, rfl, iteT ?_⟩
        refine ⟨.ref a, rfl, a, d, C 28, _, x, rfl, AE.e28.xf (above_E CF), AE.n28_0, s2 _ _ ea, s2 _ _ ed, (by rw [List.cons_append, List.cons_append, lookup_put, if_neg (by decide)]; simp [List.lookup]), (by show 1 ≤ sizeLine; decide), fun p3 hp3 => ⟨(by show 2 ≤ sizeLine; decide), fun t ht => ?_⟩⟩
        exact tail1 ((same_new hp).trans (s1.trans s2)) (s2 _ _ ea) (s2 _ _ ed) hp3 ht q
    have c28 : k ≠ 28 := fun z => c (decide_eq_true (by rw [z]; rfl))
    clear c
    refine ⟨.int k, rfl, rfl, _, rfl, ite2 (fun c => ?_) (fun c => ?_)⟩
    · have ek : k = 29 := by have := V.int.inj (of_decide_eq_true c); omega
      subst ek
      refine ⟨.bl b, rfl, b, rfl, ite2 (fun _ => ⟨x, rfl, x, rfl, (by show 1 ≤ sizeLine; decide), fun p hp => ?_⟩) (fun _ => ⟨x, rfl, (by show 1 ≤ sizeLine; decide), fun p hp => ?_⟩)⟩
      · refine ⟨(by show 2 ≤ 1000; decide), made2 ?_⟩
        intro a H1 s1 ie
        obtain ⟨d, rs, ea, ed⟩ := ie
        have ep := s1 _ _ (upd_same (H := H) (a := p) (o := .lst [x]))
        refine ⟨.ref a, rfl, .ref a, rfl, a, d, C 29, _, .ref p, rfl, AE.e29.xf (above_E CF), AE.n29_1, ea, ed, (by simp [List.lookup]), x, rfl, (by show 1 ≤ sizeLine; decide), fun p2 hp2 => ?_⟩
        have s2 := same_new (o := .lst [x]) hp2
        refine ⟨p, p2, [x], rfl, rfl, SqL.of (s2 _ _ ep), SqL.of upd_same, one_all hx, _, rfl, iteT ?_⟩
        refine ⟨.ref a, rfl, a, d, C 29, _, x, rfl, AE.e29.xf (above_E CF), AE.n29_0, s2 _ _ ea, s2 _ _ ed, (by rw [List.cons_append, List.cons_append, lookup_put, if_neg (by decide)]; simp [List.lookup]), (by show 1 ≤ sizeLine; decide), fun p3 hp3 => ⟨(by show 2 ≤ sizeLine; decide), fun t ht => ?_⟩⟩
        exact tail1 ((same_new hp).trans (s1.trans s2)) (s2 _ _ ea) (s2 _ _ ed) hp3 ht q
      · refine ⟨x, rfl, rfl, made2 ?_⟩
        intro a H1 s1 ie
        obtain ⟨d, rs, ea, ed⟩ := ie
        have ep := s1 _ _ (upd_same (H := H) (a := p) (o := .lst [x]))
        refine ⟨.ref a, rfl, .ref a, rfl, a, d, C 29, _, .ref p, rfl, AE.e29.xf (above_E CF), AE.n29_1, ea, ed, (by simp [List.lookup]), x, rfl, (by show 1 ≤ sizeLine; decide), fun p2 hp2 => ?_⟩
        have s2 := same_new (o := .lst [x]) hp2
        refine ⟨p, p2, [x], rfl, rfl, SqL.of (s2 _ _ ep), SqL.of upd_same, one_all hx, _, rfl, iteT ?_⟩
        refine ⟨.ref a, rfl, a, d, C 29, _, x, rfl, AE.e29.xf (above_E CF), AE.n29_0, s2 _ _ ea, s2 _ _ ed, (by rw [List.cons_append, List.cons_append, lookup_put, if_neg (by decide)]; simp [List.lookup]), (by show 1 ≤ sizeLine; decide), fun p3 hp3 => ⟨(by show 2 ≤ sizeLine; decide), fun t ht => ?_⟩⟩
        exact tail1 ((same_new hp).trans (s1.trans s2)) (s2 _ _ ea) (s2 _ _ ed) hp3 ht q
    have c29 : k ≠ 29 := fun z => c (decide_eq_true (by rw [z]; rfl))
    clear c
    have ek : k = 30 := by omega
    subst ek
    refine ⟨(by show 0 ≤ 1000; decide), made0 fun a H1 s1 e1 => ⟨x, rfl, (by show 1 ≤ sizeLine; decide), fun p hp => ⟨(by show 2 ≤ sizeLine; decide), fun t ht => ?_⟩⟩⟩
    have s2 := same_new (o := .lst [x]) hp
    have s3 := same_new (o := .tup [.ref a, .ref p]) ht
    exact q a p t _ (s1.trans (s2.trans s3)) upd_same (s3 _ _ upd_same) (e1.same (s2.trans s3))
theorem scMa1 : FnScope nMa ["_law_place", "_law_thing", "_law_way"] (defScope sMade1) := ⟨rfl, rfl, rfl, by decide +kernel, rfl, by decide +kernel, by decide +kernel⟩
set_option maxHeartbeats 4000000 in
theorem ok_made1 {f f0 C0 : Addr} {fd fd0 : FuncData} {CF : Addr} {C I : Nat → Addr} (F : Fun K "_law_made1" "_law_made1" sMade1 f fd) (AE : AllE K mg CF C I) (G0 : FnOk P w K mg base CX0 1 f0 fd0 ["self", "text"] (spFig K)) (T0 : FigC K mg C0 f0) (b0 : Binds K fd0 ["self", "text"] []) {fN : Addr} {fdN : FuncData} (GN : FnOk P w K mg base CX0 4 fN fdN ["_law_place", "_law_thing", "_law_way"] (spMade C 20)) (gN : mg "_law_made2" = some (.ref fN)) (kN : PySem.W.keepIn K (.ref fN) = true) (bN : Binds K fdN ["_law_place", "_law_thing", "_law_way"] []) :
    FnOk P w K mg base CX0 5 f fd ["_law_place", "_law_thing", "_law_way"] (spMade C 10) := by
  obtain ⟨fd10, F10⟩ := AE.e10.fn
  have O10 := AE.e10.ox (above_E CF)
  have M10 := ok_i10 (P := P) (w := w) (mg := mg) (base := base) F10 G0 T0 b0 O10 (AE.e10.nam (above_E CF) AE.hn AE.ht AE.st) AE.n10_0
  have B10 := F10.binds (ps := ["self", "state"]) fun _ _ _ _ _ _ us hl => match us, hl with | [_, _], _ => rfl
  obtain ⟨fd11, F11⟩ := AE.e11.fn
  have O11 := AE.e11.ox (above_E CF)
  have M11 := ok_i11 (P := P) (w := w) (mg := mg) (base := base) F11 G0 T0 b0 O11 (AE.e11.nam (above_E CF) AE.hn AE.ht AE.st) AE.n11_0
  have B11 := F11.binds (ps := ["self", "reading"]) fun _ _ _ _ _ _ us hl => match us, hl with | [_, _], _ => rfl
  obtain ⟨fd12, F12⟩ := AE.e12.fn
  have O12 := AE.e12.ox (above_E CF)
  have M12 := ok_i12 (P := P) (w := w) (mg := mg) (base := base) F12 G0 T0 b0 O12 (AE.e12.nam (above_E CF) AE.hn AE.ht AE.st) AE.n12_0
  have B12 := F12.binds (ps := ["self", "prices"]) fun _ _ _ _ _ _ us hl => match us, hl with | [_, _], _ => rfl
  obtain ⟨fd13, F13⟩ := AE.e13.fn
  have O13 := AE.e13.ox (above_E CF)
  have M13 := ok_i13 (P := P) (w := w) (mg := mg) (base := base) F13 G0 T0 b0 O13 (AE.e13.nam (above_E CF) AE.hn AE.ht AE.st) AE.n13_0
  have B13 := F13.binds (ps := ["self", "value"]) fun _ _ _ _ _ _ us hl => match us, hl with | [_, _], _ => rfl
  obtain ⟨fd14, F14⟩ := AE.e14.fn
  have O14 := AE.e14.ox (above_E CF)
  have M14 := ok_i14 (P := P) (w := w) (mg := mg) (base := base) F14 G0 T0 b0 O14 (AE.e14.nam (above_E CF) AE.hn AE.ht AE.st) AE.n14_0
  have B14 := F14.binds (ps := ["self", "value"]) fun _ _ _ _ _ _ us hl => match us, hl with | [_, _], _ => rfl
  obtain ⟨fd15, F15⟩ := AE.e15.fn
  have O15 := AE.e15.ox (above_E CF)
  have M15 := ok_i15 (P := P) (w := w) (mg := mg) (base := base) F15 G0 T0 b0 O15 (AE.e15.nam (above_E CF) AE.hn AE.ht AE.st) AE.n15_0
  have B15 := F15.binds (ps := ["self", "word"]) fun _ _ _ _ _ _ us hl => match us, hl with | [_, _], _ => rfl
  obtain ⟨fd16, F16⟩ := AE.e16.fn
  have O16 := AE.e16.ox (above_E CF)
  have M16 := ok_i16 (P := P) (w := w) (mg := mg) (base := base) F16 G0 T0 b0 O16 (AE.e16.nam (above_E CF) AE.hn AE.ht AE.st) AE.n16_0
  have B16 := F16.binds (ps := ["self", "name"]) fun _ _ _ _ _ _ us hl => match us, hl with | [_, _], _ => rfl
  obtain ⟨fd17, F17⟩ := AE.e17.fn
  have O17 := AE.e17.ox (above_E CF)
  have M17 := ok_i17 (P := P) (w := w) (mg := mg) (base := base) F17 G0 T0 b0 O17 (AE.e17.nam (above_E CF) AE.hn AE.ht AE.st) AE.n17_0
  have B17 := F17.binds (ps := ["self", "line"]) fun _ _ _ _ _ _ us hl => match us, hl with | [_, _], _ => rfl
  obtain ⟨fd18, F18⟩ := AE.e18.fn
  have O18 := AE.e18.ox (above_E CF)
  have M18 := ok_i18 (P := P) (w := w) (mg := mg) (base := base) F18 G0 T0 b0 O18 (AE.e18.nam (above_E CF) AE.hn AE.ht AE.st) AE.n18_0
  have B18 := F18.binds (ps := ["self", "digit"]) fun _ _ _ _ _ _ us hl => match us, hl with | [_, _], _ => rfl
  obtain ⟨fd19, F19⟩ := AE.e19.fn
  have O19 := AE.e19.ox (above_E CF)
  have M19 := ok_i19 (P := P) (w := w) (mg := mg) (base := base) F19 G0 T0 b0 O19 (AE.e19.nam (above_E CF) AE.hn AE.ht AE.st) AE.n19_0
  have B19 := F19.binds (ps := ["self", "name"]) fun _ _ _ _ _ _ us hl => match us, hl with | [_, _], _ => rfl
  refine F.ok scMa1 (fun vs H Q E h => ?_) (fun cdv A outer s H vs Q E hr h => ?_)
  · obtain ⟨k, x, b, rfl, _⟩ := h
    rfl
  · obtain ⟨k, x, b, rfl, hlo, hk, hx, q⟩ := h
    have hr3 : Room 3 _ := hr.mono (by decide)
    apply Exists.intro
    apply And.intro
    · apply pss_cons
      · exact ps_if (pt_cmpR op_eq (pv 0) pe_int (nomark _)) (pss_cons (ps_set (i := 3) scMa1.nd rfl (.inl rfl) (pe_ifExp (pt_val (pv 2)) (pe_madeP O10 AE.e10.iC AE.e10.tI M10 hr3 B10 pass0 (by rfl) AE.e10.g (pa_cons (pv 1) pa_nil)) (pe_madeN O10 AE.e10.iC AE.e10.tI M10 hr3 (kb_i10 F10) pass0 (by rfl) AE.e10.g (pk_cons (pv 1) pk_nil)))) (pss_one (ps_ret (pe_tup (pa_cons (pv 3) (pa_cons (pe_lst (pa_cons (pe_fldV (pv 3)) pa_nil)) pa_nil)))))) pss_nil
      apply pss_cons
      · exact ps_if (pt_cmpR op_eq (pv 0) pe_int (nomark _)) (pss_cons (ps_set (i := 3) scMa1.nd rfl (.inl rfl) (pe_ifExp (pt_val (pv 2)) (pe_madeP O11 AE.e11.iC AE.e11.tI M11 hr3 B11 pass0 (by rfl) AE.e11.g (pa_cons (pv 1) pa_nil)) (pe_madeN O11 AE.e11.iC AE.e11.tI M11 hr3 (kb_i11 F11) pass0 (by rfl) AE.e11.g (pk_cons (pv 1) pk_nil)))) (pss_one (ps_ret (pe_tup (pa_cons (pv 3) (pa_cons (pe_lst (pa_cons (pe_fldV (pv 3)) pa_nil)) pa_nil)))))) pss_nil
      apply pss_cons
      · exact ps_if (pt_cmpR op_eq (pv 0) pe_int (nomark _)) (pss_cons (ps_set (i := 3) scMa1.nd rfl (.inl rfl) (pe_ifExp (pt_val (pv 2)) (pe_madeP O12 AE.e12.iC AE.e12.tI M12 hr3 B12 pass0 (by rfl) AE.e12.g (pa_cons (pv 1) pa_nil)) (pe_madeN O12 AE.e12.iC AE.e12.tI M12 hr3 (kb_i12 F12) pass0 (by rfl) AE.e12.g (pk_cons (pv 1) pk_nil)))) (pss_one (ps_ret (pe_tup (pa_cons (pv 3) (pa_cons (pe_lst (pa_cons (pe_fldV (pv 3)) pa_nil)) pa_nil)))))) pss_nil
      apply pss_cons
      · exact ps_if (pt_cmpR op_eq (pv 0) pe_int (nomark _)) (pss_cons (ps_set (i := 3) scMa1.nd rfl (.inl rfl) (pe_ifExp (pt_val (pv 2)) (pe_madeP O13 AE.e13.iC AE.e13.tI M13 hr3 B13 pass0 (by rfl) AE.e13.g (pa_cons (pv 1) pa_nil)) (pe_madeN O13 AE.e13.iC AE.e13.tI M13 hr3 (kb_i13 F13) pass0 (by rfl) AE.e13.g (pk_cons (pv 1) pk_nil)))) (pss_one (ps_ret (pe_tup (pa_cons (pv 3) (pa_cons (pe_lst (pa_cons (pe_fldV (pv 3)) pa_nil)) pa_nil)))))) pss_nil
      apply pss_cons
      · exact ps_if (pt_cmpR op_eq (pv 0) pe_int (nomark _)) (pss_cons (ps_set (i := 3) scMa1.nd rfl (.inl rfl) (pe_ifExp (pt_val (pv 2)) (pe_madeP O14 AE.e14.iC AE.e14.tI M14 hr3 B14 pass0 (by rfl) AE.e14.g (pa_cons (pv 1) pa_nil)) (pe_madeN O14 AE.e14.iC AE.e14.tI M14 hr3 (kb_i14 F14) pass0 (by rfl) AE.e14.g (pk_cons (pv 1) pk_nil)))) (pss_one (ps_ret (pe_tup (pa_cons (pv 3) (pa_cons (pe_lst (pa_cons (pe_fldV (pv 3)) pa_nil)) pa_nil)))))) pss_nil
      apply pss_cons
      · exact ps_if (pt_cmpR op_eq (pv 0) pe_int (nomark _)) (pss_cons (ps_set (i := 3) scMa1.nd rfl (.inl rfl) (pe_ifExp (pt_val (pv 2)) (pe_madeP O15 AE.e15.iC AE.e15.tI M15 hr3 B15 pass0 (by rfl) AE.e15.g (pa_cons (pv 1) pa_nil)) (pe_madeN O15 AE.e15.iC AE.e15.tI M15 hr3 (kb_i15 F15) pass0 (by rfl) AE.e15.g (pk_cons (pv 1) pk_nil)))) (pss_one (ps_ret (pe_tup (pa_cons (pv 3) (pa_cons (pe_lst (pa_cons (pe_fldV (pv 3)) pa_nil)) pa_nil)))))) pss_nil
      apply pss_cons
      · exact ps_if (pt_cmpR op_eq (pv 0) pe_int (nomark _)) (pss_cons (ps_set (i := 3) scMa1.nd rfl (.inl rfl) (pe_ifExp (pt_val (pv 2)) (pe_madeP O16 AE.e16.iC AE.e16.tI M16 hr3 B16 pass0 (by rfl) AE.e16.g (pa_cons (pv 1) pa_nil)) (pe_madeN O16 AE.e16.iC AE.e16.tI M16 hr3 (kb_i16 F16) pass0 (by rfl) AE.e16.g (pk_cons (pv 1) pk_nil)))) (pss_one (ps_ret (pe_tup (pa_cons (pv 3) (pa_cons (pe_lst (pa_cons (pe_fldV (pv 3)) pa_nil)) pa_nil)))))) pss_nil
      apply pss_cons
      · exact ps_if (pt_cmpR op_eq (pv 0) pe_int (nomark _)) (pss_cons (ps_set (i := 3) scMa1.nd rfl (.inl rfl) (pe_ifExp (pt_val (pv 2)) (pe_madeP O17 AE.e17.iC AE.e17.tI M17 hr3 B17 pass0 (by rfl) AE.e17.g (pa_cons (pv 1) pa_nil)) (pe_madeN O17 AE.e17.iC AE.e17.tI M17 hr3 (kb_i17 F17) pass0 (by rfl) AE.e17.g (pk_cons (pv 1) pk_nil)))) (pss_one (ps_ret (pe_tup (pa_cons (pv 3) (pa_cons (pe_lst (pa_cons (pe_fldV (pv 3)) pa_nil)) pa_nil)))))) pss_nil
      apply pss_cons
      · exact ps_if (pt_cmpR op_eq (pv 0) pe_int (nomark _)) (pss_cons (ps_set (i := 3) scMa1.nd rfl (.inl rfl) (pe_ifExp (pt_val (pv 2)) (pe_madeP O18 AE.e18.iC AE.e18.tI M18 hr3 B18 pass0 (by rfl) AE.e18.g (pa_cons (pv 1) pa_nil)) (pe_madeN O18 AE.e18.iC AE.e18.tI M18 hr3 (kb_i18 F18) pass0 (by rfl) AE.e18.g (pk_cons (pv 1) pk_nil)))) (pss_one (ps_ret (pe_tup (pa_cons (pv 3) (pa_cons (pe_lst (pa_cons (pe_fldV (pv 3)) pa_nil)) pa_nil)))))) pss_nil
      apply pss_cons
      · exact ps_if (pt_cmpR op_eq (pv 0) pe_int (nomark _)) (pss_cons (ps_set (i := 3) scMa1.nd rfl (.inl rfl) (pe_ifExp (pt_val (pv 2)) (pe_madeP O19 AE.e19.iC AE.e19.tI M19 hr3 B19 pass0 (by rfl) AE.e19.g (pa_cons (pv 1) pa_nil)) (pe_madeN O19 AE.e19.iC AE.e19.tI M19 hr3 (kb_i19 F19) pass0 (by rfl) AE.e19.g (pk_cons (pv 1) pk_nil)))) (pss_one (ps_ret (pe_tup (pa_cons (pv 3) (pa_cons (pe_lst (pa_cons (pe_fldV (pv 3)) pa_nil)) pa_nil)))))) pss_nil
      apply pss_one
      · exact ps_ret (pe_call GN hr (by rfl) gN kN bN .nil pass0 (pa_cons (pv 0) (pa_cons (pv 1) (pa_cons (pv 2) pa_nil))))
    refine ⟨.int k, rfl, rfl, _, rfl, ite2 (fun c => ?_) (fun c => ?_)⟩
    · have ek : k = 10 := by have := V.int.inj (of_decide_eq_true c); omega
      subst ek
      refine ⟨.bl b, rfl, b, rfl, iteDup (fun r _ => ⟨x, rfl, (by show 1 ≤ 1000; decide), made1 r⟩) (fun r _ => ⟨x, rfl, rfl, made1 r⟩) ?_⟩
      intro a H1 s1 ie
      obtain ⟨d, rs, ea, ed⟩ := ie
      refine ⟨.ref a, rfl, .ref a, rfl, a, d, C 10, _, x, rfl, AE.e10.xf (above_E CF), AE.n10_0, ea, ed, (by simp [List.lookup]), (by show 1 ≤ sizeLine; decide), fun p hp => ⟨(by show 2 ≤ sizeLine; decide), fun t ht => ?_⟩⟩
      exact tail1 s1 ea ed hp ht q
    have c10 : k ≠ 10 := fun z => c (decide_eq_true (by rw [z]; rfl))
    clear c
    refine ⟨.int k, rfl, rfl, _, rfl, ite2 (fun c => ?_) (fun c => ?_)⟩
    · have ek : k = 11 := by have := V.int.inj (of_decide_eq_true c); omega
      subst ek
      refine ⟨.bl b, rfl, b, rfl, iteDup (fun r _ => ⟨x, rfl, (by show 1 ≤ 1000; decide), made1 r⟩) (fun r _ => ⟨x, rfl, rfl, made1 r⟩) ?_⟩
      intro a H1 s1 ie
      obtain ⟨d, rs, ea, ed⟩ := ie
      refine ⟨.ref a, rfl, .ref a, rfl, a, d, C 11, _, x, rfl, AE.e11.xf (above_E CF), AE.n11_0, ea, ed, (by simp [List.lookup]), (by show 1 ≤ sizeLine; decide), fun p hp => ⟨(by show 2 ≤ sizeLine; decide), fun t ht => ?_⟩⟩
      exact tail1 s1 ea ed hp ht q
    have c11 : k ≠ 11 := fun z => c (decide_eq_true (by rw [z]; rfl))
    clear c
    refine ⟨.int k, rfl, rfl, _, rfl, ite2 (fun c => ?_) (fun c => ?_)⟩
    · have ek : k = 12 := by have := V.int.inj (of_decide_eq_true c); omega
      subst ek
      refine ⟨.bl b, rfl, b, rfl, iteDup (fun r _ => ⟨x, rfl, (by show 1 ≤ 1000; decide), made1 r⟩) (fun r _ => ⟨x, rfl, rfl, made1 r⟩) ?_⟩
      intro a H1 s1 ie
      obtain ⟨d, rs, ea, ed⟩ := ie
      refine ⟨.ref a, rfl, .ref a, rfl, a, d, C 12, _, x, rfl, AE.e12.xf (above_E CF), AE.n12_0, ea, ed, (by simp [List.lookup]), (by show 1 ≤ sizeLine; decide), fun p hp => ⟨(by show 2 ≤ sizeLine; decide), fun t ht => ?_⟩⟩
      exact tail1 s1 ea ed hp ht q
    have c12 : k ≠ 12 := fun z => c (decide_eq_true (by rw [z]; rfl))
    clear c
    refine ⟨.int k, rfl, rfl, _, rfl, ite2 (fun c => ?_) (fun c => ?_)⟩
    · have ek : k = 13 := by have := V.int.inj (of_decide_eq_true c); omega
      subst ek
      refine ⟨.bl b, rfl, b, rfl, iteDup (fun r _ => ⟨x, rfl, (by show 1 ≤ 1000; decide), made1 r⟩) (fun r _ => ⟨x, rfl, rfl, made1 r⟩) ?_⟩
      intro a H1 s1 ie
      obtain ⟨d, rs, ea, ed⟩ := ie
      refine ⟨.ref a, rfl, .ref a, rfl, a, d, C 13, _, x, rfl, AE.e13.xf (above_E CF), AE.n13_0, ea, ed, (by simp [List.lookup]), (by show 1 ≤ sizeLine; decide), fun p hp => ⟨(by show 2 ≤ sizeLine; decide), fun t ht => ?_⟩⟩
      exact tail1 s1 ea ed hp ht q
    have c13 : k ≠ 13 := fun z => c (decide_eq_true (by rw [z]; rfl))
    clear c
    refine ⟨.int k, rfl, rfl, _, rfl, ite2 (fun c => ?_) (fun c => ?_)⟩
    · have ek : k = 14 := by have := V.int.inj (of_decide_eq_true c); omega
      subst ek
      refine ⟨.bl b, rfl, b, rfl, iteDup (fun r _ => ⟨x, rfl, (by show 1 ≤ 1000; decide), made1 r⟩) (fun r _ => ⟨x, rfl, rfl, made1 r⟩) ?_⟩
      intro a H1 s1 ie
      obtain ⟨d, rs, ea, ed⟩ := ie
      refine ⟨.ref a, rfl, .ref a, rfl, a, d, C 14, _, x, rfl, AE.e14.xf (above_E CF), AE.n14_0, ea, ed, (by simp [List.lookup]), (by show 1 ≤ sizeLine; decide), fun p hp => ⟨(by show 2 ≤ sizeLine; decide), fun t ht => ?_⟩⟩
      exact tail1 s1 ea ed hp ht q
    have c14 : k ≠ 14 := fun z => c (decide_eq_true (by rw [z]; rfl))
    clear c
    refine ⟨.int k, rfl, rfl, _, rfl, ite2 (fun c => ?_) (fun c => ?_)⟩
    · have ek : k = 15 := by have := V.int.inj (of_decide_eq_true c); omega
      subst ek
      refine ⟨.bl b, rfl, b, rfl, iteDup (fun r _ => ⟨x, rfl, (by show 1 ≤ 1000; decide), made1 r⟩) (fun r _ => ⟨x, rfl, rfl, made1 r⟩) ?_⟩
      intro a H1 s1 ie
      obtain ⟨d, rs, ea, ed⟩ := ie
      refine ⟨.ref a, rfl, .ref a, rfl, a, d, C 15, _, x, rfl, AE.e15.xf (above_E CF), AE.n15_0, ea, ed, (by simp [List.lookup]), (by show 1 ≤ sizeLine; decide), fun p hp => ⟨(by show 2 ≤ sizeLine; decide), fun t ht => ?_⟩⟩
      exact tail1 s1 ea ed hp ht q
    have c15 : k ≠ 15 := fun z => c (decide_eq_true (by rw [z]; rfl))
    clear c
    refine ⟨.int k, rfl, rfl, _, rfl, ite2 (fun c => ?_) (fun c => ?_)⟩
    · have ek : k = 16 := by have := V.int.inj (of_decide_eq_true c); omega
      subst ek
      refine ⟨.bl b, rfl, b, rfl, iteDup (fun r _ => ⟨x, rfl, (by show 1 ≤ 1000; decide), made1 r⟩) (fun r _ => ⟨x, rfl, rfl, made1 r⟩) ?_⟩
      intro a H1 s1 ie
      obtain ⟨d, rs, ea, ed⟩ := ie
      refine ⟨.ref a, rfl, .ref a, rfl, a, d, C 16, _, x, rfl, AE.e16.xf (above_E CF), AE.n16_0, ea, ed, (by simp [List.lookup]), (by show 1 ≤ sizeLine; decide), fun p hp => ⟨(by show 2 ≤ sizeLine; decide), fun t ht => ?_⟩⟩
      exact tail1 s1 ea ed hp ht q
    have c16 : k ≠ 16 := fun z => c (decide_eq_true (by rw [z]; rfl))
    clear c
    refine ⟨.int k, rfl, rfl, _, rfl, ite2 (fun c => ?_) (fun c => ?_)⟩
    · have ek : k = 17 := by have := V.int.inj (of_decide_eq_true c); omega
      subst ek
      refine ⟨.bl b, rfl, b, rfl, iteDup (fun r _ => ⟨x, rfl, (by show 1 ≤ 1000; decide), made1 r⟩) (fun r _ => ⟨x, rfl, rfl, made1 r⟩) ?_⟩
      intro a H1 s1 ie
      obtain ⟨d, rs, ea, ed⟩ := ie
      refine ⟨.ref a, rfl, .ref a, rfl, a, d, C 17, _, x, rfl, AE.e17.xf (above_E CF), AE.n17_0, ea, ed, (by simp [List.lookup]), (by show 1 ≤ sizeLine; decide), fun p hp => ⟨(by show 2 ≤ sizeLine; decide), fun t ht => ?_⟩⟩
      exact tail1 s1 ea ed hp ht q
    have c17 : k ≠ 17 := fun z => c (decide_eq_true (by rw [z]; rfl))
    clear c
    refine ⟨.int k, rfl, rfl, _, rfl, ite2 (fun c => ?_) (fun c => ?_)⟩
    · have ek : k = 18 := by have := V.int.inj (of_decide_eq_true c); omega
      subst ek
      refine ⟨.bl b, rfl, b, rfl, iteDup (fun r _ => ⟨x, rfl, (by show 1 ≤ 1000; decide), made1 r⟩) (fun r _ => ⟨x, rfl, rfl, made1 r⟩) ?_⟩
      intro a H1 s1 ie
      obtain ⟨d, rs, ea, ed⟩ := ie
      refine ⟨.ref a, rfl, .ref a, rfl, a, d, C 18, _, x, rfl, AE.e18.xf (above_E CF), AE.n18_0, ea, ed, (by simp [List.lookup]), (by show 1 ≤ sizeLine; decide), fun p hp => ⟨(by show 2 ≤ sizeLine; decide), fun t ht => ?_⟩⟩
      exact tail1 s1 ea ed hp ht q
    have c18 : k ≠ 18 := fun z => c (decide_eq_true (by rw [z]; rfl))
    clear c
    refine ⟨.int k, rfl, rfl, _, rfl, ite2 (fun c => ?_) (fun c => ?_)⟩
    · have ek : k = 19 := by have := V.int.inj (of_decide_eq_true c); omega
      subst ek
      refine ⟨.bl b, rfl, b, rfl, iteDup (fun r _ => ⟨x, rfl, (by show 1 ≤ 1000; decide), made1 r⟩) (fun r _ => ⟨x, rfl, rfl, made1 r⟩) ?_⟩
      intro a H1 s1 ie
      obtain ⟨d, rs, ea, ed⟩ := ie
      refine ⟨.ref a, rfl, .ref a, rfl, a, d, C 19, _, x, rfl, AE.e19.xf (above_E CF), AE.n19_0, ea, ed, (by simp [List.lookup]), (by show 1 ≤ sizeLine; decide), fun p hp => ⟨(by show 2 ≤ sizeLine; decide), fun t ht => ?_⟩⟩
      exact tail1 s1 ea ed hp ht q
    have c19 : k ≠ 19 := fun z => c (decide_eq_true (by rw [z]; rfl))
    clear c
    exact ⟨.int k, rfl, x, rfl, .bl b, rfl, k, x, b, rfl, by omega, hk, hx, q⟩
theorem scMa0 : FnScope nMa ["_law_place", "_law_thing", "_law_way"] (defScope sMade0) := ⟨rfl, rfl, rfl, by decide +kernel, rfl, by decide +kernel, by decide +kernel⟩
set_option maxHeartbeats 4000000 in
theorem ok_made0 {f f0 C0 : Addr} {fd fd0 : FuncData} {CF : Addr} {C I : Nat → Addr} (F : Fun K "_law_made0" "_law_made0" sMade0 f fd) (AE : AllE K mg CF C I) (G0 : FnOk P w K mg base CX0 1 f0 fd0 ["self", "text"] (spFig K)) (T0 : FigC K mg C0 f0) (b0 : Binds K fd0 ["self", "text"] []) {fN : Addr} {fdN : FuncData} (GN : FnOk P w K mg base CX0 5 fN fdN ["_law_place", "_law_thing", "_law_way"] (spMade C 10)) (gN : mg "_law_made1" = some (.ref fN)) (kN : PySem.W.keepIn K (.ref fN) = true) (bN : Binds K fdN ["_law_place", "_law_thing", "_law_way"] []) :
    FnOk P w K mg base CX0 6 f fd ["_law_place", "_law_thing", "_law_way"] (spMade C 0) := by
  obtain ⟨fd0, F0⟩ := AE.e0.fn
  have O0 := AE.e0.ox (above_E CF)
  have M0 := ok_i0 (P := P) (w := w) (mg := mg) (base := base) F0 G0 T0 b0 O0 (AE.e0.nam (above_E CF) AE.hn AE.ht AE.st) AE.n0_0
  have B0 := F0.binds (ps := ["self", "value"]) fun _ _ _ _ _ _ us hl => match us, hl with | [_, _], _ => rfl
  obtain ⟨fd1, F1⟩ := AE.e1.fn
  have O1 := AE.e1.ox (above_E CF)
  have M1 := ok_i1 (P := P) (w := w) (mg := mg) (base := base) F1 G0 T0 b0 O1 (AE.e1.nam (above_E CF) AE.hn AE.ht AE.st) AE.n1_0
  have B1 := F1.binds (ps := ["self", "value"]) fun _ _ _ _ _ _ us hl => match us, hl with | [_, _], _ => rfl
  obtain ⟨fd2, F2⟩ := AE.e2.fn
  have O2 := AE.e2.ox (above_E CF)
  have M2 := ok_i2 (P := P) (w := w) (mg := mg) (base := base) F2 G0 T0 b0 O2 (AE.e2.nam (above_E CF) AE.hn AE.ht AE.st) AE.n2_0
  have B2 := F2.binds (ps := ["self", "value"]) fun _ _ _ _ _ _ us hl => match us, hl with | [_, _], _ => rfl
  obtain ⟨fd3, F3⟩ := AE.e3.fn
  have O3 := AE.e3.ox (above_E CF)
  have M3 := ok_i3 (P := P) (w := w) (mg := mg) (base := base) F3 G0 T0 b0 O3 (AE.e3.nam (above_E CF) AE.hn AE.ht AE.st) AE.n3_0
  have B3 := F3.binds (ps := ["self", "row"]) fun _ _ _ _ _ _ us hl => match us, hl with | [_, _], _ => rfl
  obtain ⟨fd4, F4⟩ := AE.e4.fn
  have O4 := AE.e4.ox (above_E CF)
  have M4 := ok_i4 (P := P) (w := w) (mg := mg) (base := base) F4 G0 T0 b0 O4 (AE.e4.nam (above_E CF) AE.hn AE.ht AE.st) AE.n4_0
  have B4 := F4.binds (ps := ["self", "text"]) fun _ _ _ _ _ _ us hl => match us, hl with | [_, _], _ => rfl
  obtain ⟨fd5, F5⟩ := AE.e5.fn
  have O5 := AE.e5.ox (above_E CF)
  have M5 := ok_i5 (P := P) (w := w) (mg := mg) (base := base) F5 G0 T0 b0 O5 (AE.e5.nam (above_E CF) AE.hn AE.ht AE.st) AE.n5_0
  have B5 := F5.binds (ps := ["self", "number"]) fun _ _ _ _ _ _ us hl => match us, hl with | [_, _], _ => rfl
  obtain ⟨fd6, F6⟩ := AE.e6.fn
  have O6 := AE.e6.ox (above_E CF)
  have M6 := ok_i6 (P := P) (w := w) (mg := mg) (base := base) F6 G0 T0 b0 O6 (AE.e6.nam (above_E CF) AE.hn AE.ht AE.st) AE.n6_0
  have B6 := F6.binds (ps := ["self", "length"]) fun _ _ _ _ _ _ us hl => match us, hl with | [_, _], _ => rfl
  obtain ⟨fd7, F7⟩ := AE.e7.fn
  have O7 := AE.e7.ox (above_E CF)
  have M7 := ok_i7 (P := P) (w := w) (mg := mg) (base := base) F7 G0 T0 b0 O7 (AE.e7.nam (above_E CF) AE.hn AE.ht AE.st) AE.n7_0
  have B7 := F7.binds (ps := ["self", "value"]) fun _ _ _ _ _ _ us hl => match us, hl with | [_, _], _ => rfl
  obtain ⟨fd8, F8⟩ := AE.e8.fn
  have O8 := AE.e8.ox (above_E CF)
  have M8 := ok_i8 (P := P) (w := w) (mg := mg) (base := base) F8 G0 T0 b0 O8 (AE.e8.nam (above_E CF) AE.hn AE.ht AE.st) AE.n8_0
  have B8 := F8.binds (ps := ["self", "term"]) fun _ _ _ _ _ _ us hl => match us, hl with | [_, _], _ => rfl
  obtain ⟨fd9, F9⟩ := AE.e9.fn
  have O9 := AE.e9.ox (above_E CF)
  have M9 := ok_i9 (P := P) (w := w) (mg := mg) (base := base) F9 G0 T0 b0 O9 (AE.e9.nam (above_E CF) AE.hn AE.ht AE.st) AE.n9_0
  have B9 := F9.binds (ps := ["self", "rows"]) fun _ _ _ _ _ _ us hl => match us, hl with | [_, _], _ => rfl
  refine F.ok scMa0 (fun vs H Q E h => ?_) (fun cdv A outer s H vs Q E hr h => ?_)
  · obtain ⟨k, x, b, rfl, _⟩ := h
    rfl
  · obtain ⟨k, x, b, rfl, hlo, hk, hx, q⟩ := h
    have hr3 : Room 3 _ := hr.mono (by decide)
    apply Exists.intro
    apply And.intro
    · apply pss_cons
      · exact ps_if (pt_cmpR op_eq (pv 0) pe_int (nomark _)) (pss_cons (ps_set (i := 3) scMa0.nd rfl (.inl rfl) (pe_ifExp (pt_val (pv 2)) (pe_madeP O0 AE.e0.iC AE.e0.tI M0 hr3 B0 pass0 (by rfl) AE.e0.g (pa_cons (pv 1) pa_nil)) (pe_madeN O0 AE.e0.iC AE.e0.tI M0 hr3 (kb_i0 F0) pass0 (by rfl) AE.e0.g (pk_cons (pv 1) pk_nil)))) (pss_one (ps_ret (pe_tup (pa_cons (pv 3) (pa_cons (pe_lst (pa_cons (pe_fldV (pv 3)) pa_nil)) pa_nil)))))) pss_nil
      apply pss_cons
      · exact ps_if (pt_cmpR op_eq (pv 0) pe_int (nomark _)) (pss_cons (ps_set (i := 3) scMa0.nd rfl (.inl rfl) (pe_ifExp (pt_val (pv 2)) (pe_madeP O1 AE.e1.iC AE.e1.tI M1 hr3 B1 pass0 (by rfl) AE.e1.g (pa_cons (pv 1) pa_nil)) (pe_madeN O1 AE.e1.iC AE.e1.tI M1 hr3 (kb_i1 F1) pass0 (by rfl) AE.e1.g (pk_cons (pv 1) pk_nil)))) (pss_one (ps_ret (pe_tup (pa_cons (pv 3) (pa_cons (pe_lst (pa_cons (pe_fldV (pv 3)) pa_nil)) pa_nil)))))) pss_nil
      apply pss_cons
      · exact ps_if (pt_cmpR op_eq (pv 0) pe_int (nomark _)) (pss_cons (ps_set (i := 3) scMa0.nd rfl (.inl rfl) (pe_ifExp (pt_val (pv 2)) (pe_madeP O2 AE.e2.iC AE.e2.tI M2 hr3 B2 pass0 (by rfl) AE.e2.g (pa_cons (pv 1) pa_nil)) (pe_madeN O2 AE.e2.iC AE.e2.tI M2 hr3 (kb_i2 F2) pass0 (by rfl) AE.e2.g (pk_cons (pv 1) pk_nil)))) (pss_one (ps_ret (pe_tup (pa_cons (pv 3) (pa_cons (pe_lst (pa_cons (pe_fldV (pv 3)) pa_nil)) pa_nil)))))) pss_nil
      apply pss_cons
      · exact ps_if (pt_cmpR op_eq (pv 0) pe_int (nomark _)) (pss_cons (ps_set (i := 3) scMa0.nd rfl (.inl rfl) (pe_ifExp (pt_val (pv 2)) (pe_madeP O3 AE.e3.iC AE.e3.tI M3 hr3 B3 pass0 (by rfl) AE.e3.g (pa_cons (pv 1) pa_nil)) (pe_madeN O3 AE.e3.iC AE.e3.tI M3 hr3 (kb_i3 F3) pass0 (by rfl) AE.e3.g (pk_cons (pv 1) pk_nil)))) (pss_one (ps_ret (pe_tup (pa_cons (pv 3) (pa_cons (pe_lst (pa_cons (pe_fldV (pv 3)) pa_nil)) pa_nil)))))) pss_nil
      apply pss_cons
      · exact ps_if (pt_cmpR op_eq (pv 0) pe_int (nomark _)) (pss_cons (ps_set (i := 3) scMa0.nd rfl (.inl rfl) (pe_ifExp (pt_val (pv 2)) (pe_madeP O4 AE.e4.iC AE.e4.tI M4 hr3 B4 pass0 (by rfl) AE.e4.g (pa_cons (pv 1) pa_nil)) (pe_madeN O4 AE.e4.iC AE.e4.tI M4 hr3 (kb_i4 F4) pass0 (by rfl) AE.e4.g (pk_cons (pv 1) pk_nil)))) (pss_one (ps_ret (pe_tup (pa_cons (pv 3) (pa_cons (pe_lst (pa_cons (pe_fldV (pv 3)) pa_nil)) pa_nil)))))) pss_nil
      apply pss_cons
      · exact ps_if (pt_cmpR op_eq (pv 0) pe_int (nomark _)) (pss_cons (ps_set (i := 3) scMa0.nd rfl (.inl rfl) (pe_ifExp (pt_val (pv 2)) (pe_madeP O5 AE.e5.iC AE.e5.tI M5 hr3 B5 pass0 (by rfl) AE.e5.g (pa_cons (pv 1) pa_nil)) (pe_madeN O5 AE.e5.iC AE.e5.tI M5 hr3 (kb_i5 F5) pass0 (by rfl) AE.e5.g (pk_cons (pv 1) pk_nil)))) (pss_one (ps_ret (pe_tup (pa_cons (pv 3) (pa_cons (pe_lst (pa_cons (pe_fldV (pv 3)) pa_nil)) pa_nil)))))) pss_nil
      apply pss_cons
      · exact ps_if (pt_cmpR op_eq (pv 0) pe_int (nomark _)) (pss_cons (ps_set (i := 3) scMa0.nd rfl (.inl rfl) (pe_ifExp (pt_val (pv 2)) (pe_madeP O6 AE.e6.iC AE.e6.tI M6 hr3 B6 pass0 (by rfl) AE.e6.g (pa_cons (pv 1) pa_nil)) (pe_madeN O6 AE.e6.iC AE.e6.tI M6 hr3 (kb_i6 F6) pass0 (by rfl) AE.e6.g (pk_cons (pv 1) pk_nil)))) (pss_one (ps_ret (pe_tup (pa_cons (pv 3) (pa_cons (pe_lst (pa_cons (pe_fldV (pv 3)) pa_nil)) pa_nil)))))) pss_nil
      apply pss_cons
      · exact ps_if (pt_cmpR op_eq (pv 0) pe_int (nomark _)) (pss_cons (ps_set (i := 3) scMa0.nd rfl (.inl rfl) (pe_ifExp (pt_val (pv 2)) (pe_madeP O7 AE.e7.iC AE.e7.tI M7 hr3 B7 pass0 (by rfl) AE.e7.g (pa_cons (pv 1) pa_nil)) (pe_madeN O7 AE.e7.iC AE.e7.tI M7 hr3 (kb_i7 F7) pass0 (by rfl) AE.e7.g (pk_cons (pv 1) pk_nil)))) (pss_one (ps_ret (pe_tup (pa_cons (pv 3) (pa_cons (pe_lst (pa_cons (pe_fldV (pv 3)) pa_nil)) pa_nil)))))) pss_nil
      apply pss_cons
      · exact ps_if (pt_cmpR op_eq (pv 0) pe_int (nomark _)) (pss_cons (ps_set (i := 3) scMa0.nd rfl (.inl rfl) (pe_ifExp (pt_val (pv 2)) (pe_madeP O8 AE.e8.iC AE.e8.tI M8 hr3 B8 pass0 (by rfl) AE.e8.g (pa_cons (pv 1) pa_nil)) (pe_madeN O8 AE.e8.iC AE.e8.tI M8 hr3 (kb_i8 F8) pass0 (by rfl) AE.e8.g (pk_cons (pv 1) pk_nil)))) (pss_one (ps_ret (pe_tup (pa_cons (pv 3) (pa_cons (pe_lst (pa_cons (pe_fldV (pv 3)) pa_nil)) pa_nil)))))) pss_nil
      apply pss_cons
      · exact ps_if (pt_cmpR op_eq (pv 0) pe_int (nomark _)) (pss_cons (ps_set (i := 3) scMa0.nd rfl (.inl rfl) (pe_ifExp (pt_val (pv 2)) (pe_madeP O9 AE.e9.iC AE.e9.tI M9 hr3 B9 pass0 (by rfl) AE.e9.g (pa_cons (pv 1) pa_nil)) (pe_madeN O9 AE.e9.iC AE.e9.tI M9 hr3 (kb_i9 F9) pass0 (by rfl) AE.e9.g (pk_cons (pv 1) pk_nil)))) (pss_one (ps_ret (pe_tup (pa_cons (pv 3) (pa_cons (pe_lst (pa_cons (pe_fldV (pv 3)) pa_nil)) pa_nil)))))) pss_nil
      apply pss_one
      · exact ps_ret (pe_call GN hr (by rfl) gN kN bN .nil pass0 (pa_cons (pv 0) (pa_cons (pv 1) (pa_cons (pv 2) pa_nil))))
    refine ⟨.int k, rfl, rfl, _, rfl, ite2 (fun c => ?_) (fun c => ?_)⟩
    · have ek : k = 0 := by have := V.int.inj (of_decide_eq_true c); omega
      subst ek
      refine ⟨.bl b, rfl, b, rfl, iteDup (fun r _ => ⟨x, rfl, (by show 1 ≤ 1000; decide), made1 r⟩) (fun r _ => ⟨x, rfl, rfl, made1 r⟩) ?_⟩
      intro a H1 s1 ie
      obtain ⟨d, rs, ea, ed⟩ := ie
      refine ⟨.ref a, rfl, .ref a, rfl, a, d, C 0, _, x, rfl, AE.e0.xf (above_E CF), AE.n0_0, ea, ed, (by simp [List.lookup]), (by show 1 ≤ sizeLine; decide), fun p hp => ⟨(by show 2 ≤ sizeLine; decide), fun t ht => ?_⟩⟩
      exact tail1 s1 ea ed hp ht q
    have c0 : k ≠ 0 := fun z => c (decide_eq_true (by rw [z]; rfl))
    clear c
    refine ⟨.int k, rfl, rfl, _, rfl, ite2 (fun c => ?_) (fun c => ?_)⟩
    · have ek : k = 1 := by have := V.int.inj (of_decide_eq_true c); omega
      subst ek
      refine ⟨.bl b, rfl, b, rfl, iteDup (fun r _ => ⟨x, rfl, (by show 1 ≤ 1000; decide), made1 r⟩) (fun r _ => ⟨x, rfl, rfl, made1 r⟩) ?_⟩
      intro a H1 s1 ie
      obtain ⟨d, rs, ea, ed⟩ := ie
      refine ⟨.ref a, rfl, .ref a, rfl, a, d, C 1, _, x, rfl, AE.e1.xf (above_E CF), AE.n1_0, ea, ed, (by simp [List.lookup]), (by show 1 ≤ sizeLine; decide), fun p hp => ⟨(by show 2 ≤ sizeLine; decide), fun t ht => ?_⟩⟩
      exact tail1 s1 ea ed hp ht q
    have c1 : k ≠ 1 := fun z => c (decide_eq_true (by rw [z]; rfl))
    clear c
    refine ⟨.int k, rfl, rfl, _, rfl, ite2 (fun c => ?_) (fun c => ?_)⟩
    · have ek : k = 2 := by have := V.int.inj (of_decide_eq_true c); omega
      subst ek
      refine ⟨.bl b, rfl, b, rfl, iteDup (fun r _ => ⟨x, rfl, (by show 1 ≤ 1000; decide), made1 r⟩) (fun r _ => ⟨x, rfl, rfl, made1 r⟩) ?_⟩
      intro a H1 s1 ie
      obtain ⟨d, rs, ea, ed⟩ := ie
      refine ⟨.ref a, rfl, .ref a, rfl, a, d, C 2, _, x, rfl, AE.e2.xf (above_E CF), AE.n2_0, ea, ed, (by simp [List.lookup]), (by show 1 ≤ sizeLine; decide), fun p hp => ⟨(by show 2 ≤ sizeLine; decide), fun t ht => ?_⟩⟩
      exact tail1 s1 ea ed hp ht q
    have c2 : k ≠ 2 := fun z => c (decide_eq_true (by rw [z]; rfl))
    clear c
    refine ⟨.int k, rfl, rfl, _, rfl, ite2 (fun c => ?_) (fun c => ?_)⟩
    · have ek : k = 3 := by have := V.int.inj (of_decide_eq_true c); omega
      subst ek
      refine ⟨.bl b, rfl, b, rfl, iteDup (fun r _ => ⟨x, rfl, (by show 1 ≤ 1000; decide), made1 r⟩) (fun r _ => ⟨x, rfl, rfl, made1 r⟩) ?_⟩
      intro a H1 s1 ie
      obtain ⟨d, rs, ea, ed⟩ := ie
      refine ⟨.ref a, rfl, .ref a, rfl, a, d, C 3, _, x, rfl, AE.e3.xf (above_E CF), AE.n3_0, ea, ed, (by simp [List.lookup]), (by show 1 ≤ sizeLine; decide), fun p hp => ⟨(by show 2 ≤ sizeLine; decide), fun t ht => ?_⟩⟩
      exact tail1 s1 ea ed hp ht q
    have c3 : k ≠ 3 := fun z => c (decide_eq_true (by rw [z]; rfl))
    clear c
    refine ⟨.int k, rfl, rfl, _, rfl, ite2 (fun c => ?_) (fun c => ?_)⟩
    · have ek : k = 4 := by have := V.int.inj (of_decide_eq_true c); omega
      subst ek
      refine ⟨.bl b, rfl, b, rfl, iteDup (fun r _ => ⟨x, rfl, (by show 1 ≤ 1000; decide), made1 r⟩) (fun r _ => ⟨x, rfl, rfl, made1 r⟩) ?_⟩
      intro a H1 s1 ie
      obtain ⟨d, rs, ea, ed⟩ := ie
      refine ⟨.ref a, rfl, .ref a, rfl, a, d, C 4, _, x, rfl, AE.e4.xf (above_E CF), AE.n4_0, ea, ed, (by simp [List.lookup]), (by show 1 ≤ sizeLine; decide), fun p hp => ⟨(by show 2 ≤ sizeLine; decide), fun t ht => ?_⟩⟩
      exact tail1 s1 ea ed hp ht q
    have c4 : k ≠ 4 := fun z => c (decide_eq_true (by rw [z]; rfl))
    clear c
    refine ⟨.int k, rfl, rfl, _, rfl, ite2 (fun c => ?_) (fun c => ?_)⟩
    · have ek : k = 5 := by have := V.int.inj (of_decide_eq_true c); omega
      subst ek
      refine ⟨.bl b, rfl, b, rfl, iteDup (fun r _ => ⟨x, rfl, (by show 1 ≤ 1000; decide), made1 r⟩) (fun r _ => ⟨x, rfl, rfl, made1 r⟩) ?_⟩
      intro a H1 s1 ie
      obtain ⟨d, rs, ea, ed⟩ := ie
      refine ⟨.ref a, rfl, .ref a, rfl, a, d, C 5, _, x, rfl, AE.e5.xf (above_E CF), AE.n5_0, ea, ed, (by simp [List.lookup]), (by show 1 ≤ sizeLine; decide), fun p hp => ⟨(by show 2 ≤ sizeLine; decide), fun t ht => ?_⟩⟩
      exact tail1 s1 ea ed hp ht q
    have c5 : k ≠ 5 := fun z => c (decide_eq_true (by rw [z]; rfl))
    clear c
    refine ⟨.int k, rfl, rfl, _, rfl, ite2 (fun c => ?_) (fun c => ?_)⟩
    · have ek : k = 6 := by have := V.int.inj (of_decide_eq_true c); omega
      subst ek
      refine ⟨.bl b, rfl, b, rfl, iteDup (fun r _ => ⟨x, rfl, (by show 1 ≤ 1000; decide), made1 r⟩) (fun r _ => ⟨x, rfl, rfl, made1 r⟩) ?_⟩
      intro a H1 s1 ie
      obtain ⟨d, rs, ea, ed⟩ := ie
      refine ⟨.ref a, rfl, .ref a, rfl, a, d, C 6, _, x, rfl, AE.e6.xf (above_E CF), AE.n6_0, ea, ed, (by simp [List.lookup]), (by show 1 ≤ sizeLine; decide), fun p hp => ⟨(by show 2 ≤ sizeLine; decide), fun t ht => ?_⟩⟩
      exact tail1 s1 ea ed hp ht q
    have c6 : k ≠ 6 := fun z => c (decide_eq_true (by rw [z]; rfl))
    clear c
    refine ⟨.int k, rfl, rfl, _, rfl, ite2 (fun c => ?_) (fun c => ?_)⟩
    · have ek : k = 7 := by have := V.int.inj (of_decide_eq_true c); omega
      subst ek
      refine ⟨.bl b, rfl, b, rfl, iteDup (fun r _ => ⟨x, rfl, (by show 1 ≤ 1000; decide), made1 r⟩) (fun r _ => ⟨x, rfl, rfl, made1 r⟩) ?_⟩
      intro a H1 s1 ie
      obtain ⟨d, rs, ea, ed⟩ := ie
      refine ⟨.ref a, rfl, .ref a, rfl, a, d, C 7, _, x, rfl, AE.e7.xf (above_E CF), AE.n7_0, ea, ed, (by simp [List.lookup]), (by show 1 ≤ sizeLine; decide), fun p hp => ⟨(by show 2 ≤ sizeLine; decide), fun t ht => ?_⟩⟩
      exact tail1 s1 ea ed hp ht q
    have c7 : k ≠ 7 := fun z => c (decide_eq_true (by rw [z]; rfl))
    clear c
    refine ⟨.int k, rfl, rfl, _, rfl, ite2 (fun c => ?_) (fun c => ?_)⟩
    · have ek : k = 8 := by have := V.int.inj (of_decide_eq_true c); omega
      subst ek
      refine ⟨.bl b, rfl, b, rfl, iteDup (fun r _ => ⟨x, rfl, (by show 1 ≤ 1000; decide), made1 r⟩) (fun r _ => ⟨x, rfl, rfl, made1 r⟩) ?_⟩
      intro a H1 s1 ie
      obtain ⟨d, rs, ea, ed⟩ := ie
      refine ⟨.ref a, rfl, .ref a, rfl, a, d, C 8, _, x, rfl, AE.e8.xf (above_E CF), AE.n8_0, ea, ed, (by simp [List.lookup]), (by show 1 ≤ sizeLine; decide), fun p hp => ⟨(by show 2 ≤ sizeLine; decide), fun t ht => ?_⟩⟩
      exact tail1 s1 ea ed hp ht q
    have c8 : k ≠ 8 := fun z => c (decide_eq_true (by rw [z]; rfl))
    clear c
    refine ⟨.int k, rfl, rfl, _, rfl, ite2 (fun c => ?_) (fun c => ?_)⟩
    · have ek : k = 9 := by have := V.int.inj (of_decide_eq_true c); omega
      subst ek
      refine ⟨.bl b, rfl, b, rfl, iteDup (fun r _ => ⟨x, rfl, (by show 1 ≤ 1000; decide), made1 r⟩) (fun r _ => ⟨x, rfl, rfl, made1 r⟩) ?_⟩
      intro a H1 s1 ie
      obtain ⟨d, rs, ea, ed⟩ := ie
      refine ⟨.ref a, rfl, .ref a, rfl, a, d, C 9, _, x, rfl, AE.e9.xf (above_E CF), AE.n9_0, ea, ed, (by simp [List.lookup]), (by show 1 ≤ sizeLine; decide), fun p hp => ⟨(by show 2 ≤ sizeLine; decide), fun t ht => ?_⟩⟩
      exact tail1 s1 ea ed hp ht q
    have c9 : k ≠ 9 := fun z => c (decide_eq_true (by rw [z]; rfl))
    clear c
    exact ⟨.int k, rfl, x, rfl, .bl b, rfl, k, x, b, rfl, by omega, hk, hx, q⟩
end
end K04
namespace K04
open PySem PySem.Spec PyProof.Rows L2 OF
section
variable {P : Program} {w : World} {K : PySem.W.Frag} {mg : Str → Option Value} {base : Heap}
def trues (bit : Nat → Bool) (n : Nat) : List V := ((List.range n).filter bit).map fun (j : Nat) => V.int (j : Int)
theorem trues_more {bit : Nat → Bool} {n : Nat} : trues bit (n + 1) = if bit n = true then trues bit n ++ [V.int (n : Int)] else trues bit n := by
  unfold trues
  rw [List.range_succ, List.filter_append, List.map_append]
  by_cases h : bit n = true
  · rw [if_pos h, List.filter_cons_of_pos h]
    rfl
  · rw [if_neg h, List.filter_cons_of_neg h]
    simp
theorem trues_len {bit : Nat → Bool} {n : Nat} : (trues bit n).length ≤ n := by
  unfold trues
  rw [List.length_map]
  exact Nat.le_trans (List.length_filter_le _ _) (by rw [List.length_range]; exact Nat.le_refl _)
def spKinds (K : PySem.W.Frag) (C : Nat → Addr) : Sp := fun vs H Q _ => ∃ (a D : Addr) (bit : Nat → Bool), vs = [.ref a] ∧ Err D H a ∧ AskC K D ∧ (∀ j, j < 31 → PySem.W.kitOne K (.ref D) (.ref (C j)) = some (bit j)) ∧
  ∀ (l : Addr) (H' : Hp), Same H H' → H' l = some (.lst (trues bit 31)) → Q (.ref l) H'
abbrev nKi : List Str := ["_law_e", "_law_kinds_here", "_law_place", "_law_known"]
theorem scKi : FnScope nKi ["_law_e"] (defScope sKinds) := ⟨rfl, rfl, rfl, by decide +kernel, rfl, by decide +kernel, by decide +kernel⟩
set_option maxHeartbeats 8000000 in
theorem ok_kinds {f : Addr} {fd : FuncData} {CF : Addr} {C I : Nat → Addr} (F : Fun K "_law_kinds" "_law_kinds" sKinds f fd) (AE : AllE K mg CF C I) (mi : mg "isinstance" = none) (me : mg "enumerate" = none) :
    FnOk P w K mg base CX0 1 f fd ["_law_e"] (spKinds K C) := by
  refine F.ok scKi (fun vs H Q E h => ?_) (fun cdv A outer s H vs Q E hr h => ?_)
  · obtain ⟨a, D, bit, rfl, _⟩ := h
    rfl
  · obtain ⟨a, D, bit, rfl, ⟨d, ea, ed⟩, ask, hb, q⟩ := h
    apply Exists.intro
    apply And.intro
    · apply pss_cons
      · exact ps_set (i := 1) scKi.nd rfl (.inl rfl) (pe_lst (pa_cons (pe_callB call_askV (by rfl) mi PyProof.Rows.boot_isinstance (pa_cons (pv 0) (pa_cons (pe_glob (v := .ref (C 0)) (by rfl) AE.e0.g rfl) pa_nil))) (pa_cons (pe_callB call_askV (by rfl) mi PyProof.Rows.boot_isinstance (pa_cons (pv 0) (pa_cons (pe_glob (v := .ref (C 1)) (by rfl) AE.e1.g rfl) pa_nil))) (pa_cons (pe_callB call_askV (by rfl) mi PyProof.Rows.boot_isinstance (pa_cons (pv 0) (pa_cons (pe_glob (v := .ref (C 2)) (by rfl) AE.e2.g rfl) pa_nil))) pa_nil))))
      apply pss_cons
      · exact ps_set (i := 1) scKi.nd rfl (.inl rfl) (pe_op op_cat (pv 1) (pe_lst (pa_cons (pe_callB call_askV (by rfl) mi PyProof.Rows.boot_isinstance (pa_cons (pv 0) (pa_cons (pe_glob (v := .ref (C 3)) (by rfl) AE.e3.g rfl) pa_nil))) (pa_cons (pe_callB call_askV (by rfl) mi PyProof.Rows.boot_isinstance (pa_cons (pv 0) (pa_cons (pe_glob (v := .ref (C 4)) (by rfl) AE.e4.g rfl) pa_nil))) (pa_cons (pe_callB call_askV (by rfl) mi PyProof.Rows.boot_isinstance (pa_cons (pv 0) (pa_cons (pe_glob (v := .ref (C 5)) (by rfl) AE.e5.g rfl) pa_nil))) pa_nil)))))
      apply pss_cons
      · exact ps_set (i := 1) scKi.nd rfl (.inl rfl) (pe_op op_cat (pv 1) (pe_lst (pa_cons (pe_callB call_askV (by rfl) mi PyProof.Rows.boot_isinstance (pa_cons (pv 0) (pa_cons (pe_glob (v := .ref (C 6)) (by rfl) AE.e6.g rfl) pa_nil))) (pa_cons (pe_callB call_askV (by rfl) mi PyProof.Rows.boot_isinstance (pa_cons (pv 0) (pa_cons (pe_glob (v := .ref (C 7)) (by rfl) AE.e7.g rfl) pa_nil))) (pa_cons (pe_callB call_askV (by rfl) mi PyProof.Rows.boot_isinstance (pa_cons (pv 0) (pa_cons (pe_glob (v := .ref (C 8)) (by rfl) AE.e8.g rfl) pa_nil))) pa_nil)))))
      apply pss_cons
      · exact ps_set (i := 1) scKi.nd rfl (.inl rfl) (pe_op op_cat (pv 1) (pe_lst (pa_cons (pe_callB call_askV (by rfl) mi PyProof.Rows.boot_isinstance (pa_cons (pv 0) (pa_cons (pe_glob (v := .ref (C 9)) (by rfl) AE.e9.g rfl) pa_nil))) (pa_cons (pe_callB call_askV (by rfl) mi PyProof.Rows.boot_isinstance (pa_cons (pv 0) (pa_cons (pe_glob (v := .ref (C 10)) (by rfl) AE.e10.g rfl) pa_nil))) (pa_cons (pe_callB call_askV (by rfl) mi PyProof.Rows.boot_isinstance (pa_cons (pv 0) (pa_cons (pe_glob (v := .ref (C 11)) (by rfl) AE.e11.g rfl) pa_nil))) pa_nil)))))
      apply pss_cons
      · exact ps_set (i := 1) scKi.nd rfl (.inl rfl) (pe_op op_cat (pv 1) (pe_lst (pa_cons (pe_callB call_askV (by rfl) mi PyProof.Rows.boot_isinstance (pa_cons (pv 0) (pa_cons (pe_glob (v := .ref (C 12)) (by rfl) AE.e12.g rfl) pa_nil))) (pa_cons (pe_callB call_askV (by rfl) mi PyProof.Rows.boot_isinstance (pa_cons (pv 0) (pa_cons (pe_glob (v := .ref (C 13)) (by rfl) AE.e13.g rfl) pa_nil))) (pa_cons (pe_callB call_askV (by rfl) mi PyProof.Rows.boot_isinstance (pa_cons (pv 0) (pa_cons (pe_glob (v := .ref (C 14)) (by rfl) AE.e14.g rfl) pa_nil))) pa_nil)))))
      apply pss_cons
      · exact ps_set (i := 1) scKi.nd rfl (.inl rfl) (pe_op op_cat (pv 1) (pe_lst (pa_cons (pe_callB call_askV (by rfl) mi PyProof.Rows.boot_isinstance (pa_cons (pv 0) (pa_cons (pe_glob (v := .ref (C 15)) (by rfl) AE.e15.g rfl) pa_nil))) (pa_cons (pe_callB call_askV (by rfl) mi PyProof.Rows.boot_isinstance (pa_cons (pv 0) (pa_cons (pe_glob (v := .ref (C 16)) (by rfl) AE.e16.g rfl) pa_nil))) (pa_cons (pe_callB call_askV (by rfl) mi PyProof.Rows.boot_isinstance (pa_cons (pv 0) (pa_cons (pe_glob (v := .ref (C 17)) (by rfl) AE.e17.g rfl) pa_nil))) pa_nil)))))
      apply pss_cons
      · exact ps_set (i := 1) scKi.nd rfl (.inl rfl) (pe_op op_cat (pv 1) (pe_lst (pa_cons (pe_callB call_askV (by rfl) mi PyProof.Rows.boot_isinstance (pa_cons (pv 0) (pa_cons (pe_glob (v := .ref (C 18)) (by rfl) AE.e18.g rfl) pa_nil))) (pa_cons (pe_callB call_askV (by rfl) mi PyProof.Rows.boot_isinstance (pa_cons (pv 0) (pa_cons (pe_glob (v := .ref (C 19)) (by rfl) AE.e19.g rfl) pa_nil))) (pa_cons (pe_callB call_askV (by rfl) mi PyProof.Rows.boot_isinstance (pa_cons (pv 0) (pa_cons (pe_glob (v := .ref (C 20)) (by rfl) AE.e20.g rfl) pa_nil))) pa_nil)))))
      apply pss_cons
      · exact ps_set (i := 1) scKi.nd rfl (.inl rfl) (pe_op op_cat (pv 1) (pe_lst (pa_cons (pe_callB call_askV (by rfl) mi PyProof.Rows.boot_isinstance (pa_cons (pv 0) (pa_cons (pe_glob (v := .ref (C 21)) (by rfl) AE.e21.g rfl) pa_nil))) (pa_cons (pe_callB call_askV (by rfl) mi PyProof.Rows.boot_isinstance (pa_cons (pv 0) (pa_cons (pe_glob (v := .ref (C 22)) (by rfl) AE.e22.g rfl) pa_nil))) (pa_cons (pe_callB call_askV (by rfl) mi PyProof.Rows.boot_isinstance (pa_cons (pv 0) (pa_cons (pe_glob (v := .ref (C 23)) (by rfl) AE.e23.g rfl) pa_nil))) pa_nil)))))
      apply pss_cons
      · exact ps_set (i := 1) scKi.nd rfl (.inl rfl) (pe_op op_cat (pv 1) (pe_lst (pa_cons (pe_callB call_askV (by rfl) mi PyProof.Rows.boot_isinstance (pa_cons (pv 0) (pa_cons (pe_glob (v := .ref (C 24)) (by rfl) AE.e24.g rfl) pa_nil))) (pa_cons (pe_callB call_askV (by rfl) mi PyProof.Rows.boot_isinstance (pa_cons (pv 0) (pa_cons (pe_glob (v := .ref (C 25)) (by rfl) AE.e25.g rfl) pa_nil))) (pa_cons (pe_callB call_askV (by rfl) mi PyProof.Rows.boot_isinstance (pa_cons (pv 0) (pa_cons (pe_glob (v := .ref (C 26)) (by rfl) AE.e26.g rfl) pa_nil))) pa_nil)))))
      apply pss_cons
      · exact ps_set (i := 1) scKi.nd rfl (.inl rfl) (pe_op op_cat (pv 1) (pe_lst (pa_cons (pe_callB call_askV (by rfl) mi PyProof.Rows.boot_isinstance (pa_cons (pv 0) (pa_cons (pe_glob (v := .ref (C 27)) (by rfl) AE.e27.g rfl) pa_nil))) (pa_cons (pe_callB call_askV (by rfl) mi PyProof.Rows.boot_isinstance (pa_cons (pv 0) (pa_cons (pe_glob (v := .ref (C 28)) (by rfl) AE.e28.g rfl) pa_nil))) (pa_cons (pe_callB call_askV (by rfl) mi PyProof.Rows.boot_isinstance (pa_cons (pv 0) (pa_cons (pe_glob (v := .ref (C 29)) (by rfl) AE.e29.g rfl) pa_nil))) pa_nil)))))
      apply pss_cons
      · exact ps_set (i := 1) scKi.nd rfl (.inl rfl) (pe_op op_cat (pv 1) (pe_lst (pa_cons (pe_callB call_askV (by rfl) mi PyProof.Rows.boot_isinstance (pa_cons (pv 0) (pa_cons (pe_glob (v := .ref (C 30)) (by rfl) AE.e30.g rfl) pa_nil))) pa_nil)))
      apply pss_one
      · exact ps_ret (pe_lc (own := [("_law_place", 2), ("_law_known", 3)]) (g := gTup K 2 (gCons (gName 2) (gCons (gName 3) gNil))) (tt := tB (tVar 3)) (te := tVar 2) rfl scKi.nd (pi_enum (by rfl) me (pa_cons (pv 1) pa_nil))
          (blkOk_by (own := [("_law_place", 2), ("_law_known", 3)]) (N := nKi) (sc := defScope sKinds) (by decide +kernel)) (fun _ _ _ _ _ => by exact (pg_tup rfl (pgs_cons (pg_name (i := 2) scKi.nd rfl (Or.inl rfl)) (pgs_cons (pg_name (i := 3) scKi.nd rfl (Or.inl rfl)) pgs_nil))))
          (fun _ _ _ _ _ => pts_one (pt_val (pv 3))) (fun _ _ _ _ _ => by exact (pv 2)))
    refine ⟨.ref a, rfl, a, D, d, .ref (C 0), .ref (C 0), bit 0, rfl, ask, ea, ed, (fun u h => h), hb 0 (by decide), .ref a, rfl, a, D, d, .ref (C 1), .ref (C 1), bit 1, rfl, ask, ea, ed, (fun u h => h), hb 1 (by decide), .ref a, rfl, a, D, d, .ref (C 2), .ref (C 2), bit 2, rfl, ask, ea, ed, (fun u h => h), hb 2 (by decide), (by show 3 ≤ sizeLine; decide), fun p0 hp0 => ?_⟩
    have s0 : Same H (upd H p0 (.lst [.bl (bit 0), .bl (bit 1), .bl (bit 2)])) := same_new hp0
    have e0 : (upd H p0 (.lst [.bl (bit 0), .bl (bit 1), .bl (bit 2)])) p0 = some (.lst ((List.range 3).map fun j => V.bl (bit j))) := upd_same
    generalize upd H p0 (.lst [.bl (bit 0), .bl (bit 1), .bl (bit 2)]) = H0 at s0 e0 ⊢
    have t0 : Same H H0 := s0
    have ea0 := t0 _ _ ea
    have ed0 : ∀ d', d = some d' → ∃ fs, H0 d' = some (exd d' fs) := fun d' z => let ⟨fs, h⟩ := ed d' z; ⟨fs, t0 _ _ h⟩
    refine ⟨.ref p0, rfl, .ref a, rfl, a, D, d, .ref (C 3), .ref (C 3), bit 3, rfl, ask, ea0, ed0, (fun u h => h), hb 3 (by decide), .ref a, rfl, a, D, d, .ref (C 4), .ref (C 4), bit 4, rfl, ask, ea0, ed0, (fun u h => h), hb 4 (by decide), .ref a, rfl, a, D, d, .ref (C 5), .ref (C 5), bit 5, rfl, ask, ea0, ed0, (fun u h => h), hb 5 (by decide), (by show 3 ≤ sizeLine; decide), fun q1 hq1 => ⟨p0, q1, _, _, rfl, rfl, same_new hq1 _ _ e0, upd_same, (by show 6 ≤ sizeLine; decide), fun p1 hp1 => ?_⟩⟩
    have s1 : Same H0 (upd (upd H0 q1 (.lst [.bl (bit 3), .bl (bit 4), .bl (bit 5)])) p1 (.lst (((List.range 3).map fun j => V.bl (bit j)) ++ [.bl (bit 3), .bl (bit 4), .bl (bit 5)]))) := (same_new hq1).trans (same_new hp1)
    have e1 : (upd (upd H0 q1 (.lst [.bl (bit 3), .bl (bit 4), .bl (bit 5)])) p1 (.lst (((List.range 3).map fun j => V.bl (bit j)) ++ [.bl (bit 3), .bl (bit 4), .bl (bit 5)]))) p1 = some (.lst ((List.range 6).map fun j => V.bl (bit j))) := upd_same
    generalize upd (upd H0 q1 (.lst [.bl (bit 3), .bl (bit 4), .bl (bit 5)])) p1 (.lst (((List.range 3).map fun j => V.bl (bit j)) ++ [.bl (bit 3), .bl (bit 4), .bl (bit 5)])) = H1 at s1 e1 ⊢
    have t1 : Same H H1 := t0.trans s1
    have ea1 := t1 _ _ ea
    have ed1 : ∀ d', d = some d' → ∃ fs, H1 d' = some (exd d' fs) := fun d' z => let ⟨fs, h⟩ := ed d' z; ⟨fs, t1 _ _ h⟩
    refine ⟨.ref p1, rfl, .ref a, rfl, a, D, d, .ref (C 6), .ref (C 6), bit 6, rfl, ask, ea1, ed1, (fun u h => h), hb 6 (by decide), .ref a, rfl, a, D, d, .ref (C 7), .ref (C 7), bit 7, rfl, ask, ea1, ed1, (fun u h => h), hb 7 (by decide), .ref a, rfl, a, D, d, .ref (C 8), .ref (C 8), bit 8, rfl, ask, ea1, ed1, (fun u h => h), hb 8 (by decide), (by show 3 ≤ sizeLine; decide), fun q2 hq2 => ⟨p1, q2, _, _, rfl, rfl, same_new hq2 _ _ e1, upd_same, (by show 9 ≤ sizeLine; decide), fun p2 hp2 => ?_⟩⟩
    have s2 : Same H1 (upd (upd H1 q2 (.lst [.bl (bit 6), .bl (bit 7), .bl (bit 8)])) p2 (.lst (((List.range 6).map fun j => V.bl (bit j)) ++ [.bl (bit 6), .bl (bit 7), .bl (bit 8)]))) := (same_new hq2).trans (same_new hp2)
    have e2 : (upd (upd H1 q2 (.lst [.bl (bit 6), .bl (bit 7), .bl (bit 8)])) p2 (.lst (((List.range 6).map fun j => V.bl (bit j)) ++ [.bl (bit 6), .bl (bit 7), .bl (bit 8)]))) p2 = some (.lst ((List.range 9).map fun j => V.bl (bit j))) := upd_same
    generalize upd (upd H1 q2 (.lst [.bl (bit 6), .bl (bit 7), .bl (bit 8)])) p2 (.lst (((List.range 6).map fun j => V.bl (bit j)) ++ [.bl (bit 6), .bl (bit 7), .bl (bit 8)])) = H2 at s2 e2 ⊢
    have t2 : Same H H2 := t1.trans s2
    have ea2 := t2 _ _ ea
    have ed2 : ∀ d', d = some d' → ∃ fs, H2 d' = some (exd d' fs) := fun d' z => let ⟨fs, h⟩ := ed d' z; ⟨fs, t2 _ _ h⟩
    refine ⟨.ref p2, rfl, .ref a, rfl, a, D, d, .ref (C 9), .ref (C 9), bit 9, rfl, ask, ea2, ed2, (fun u h => h), hb 9 (by decide), .ref a, rfl, a, D, d, .ref (C 10), .ref (C 10), bit 10, rfl, ask, ea2, ed2, (fun u h => h), hb 10 (by decide), .ref a, rfl, a, D, d, .ref (C 11), .ref (C 11), bit 11, rfl, ask, ea2, ed2, (fun u h => h), hb 11 (by decide), (by show 3 ≤ sizeLine; decide), fun q3 hq3 => ⟨p2, q3, _, _, rfl, rfl, same_new hq3 _ _ e2, upd_same, (by show 12 ≤ sizeLine; decide), fun p3 hp3 => ?_⟩⟩
    have s3 : Same H2 (upd (upd H2 q3 (.lst [.bl (bit 9), .bl (bit 10), .bl (bit 11)])) p3 (.lst (((List.range 9).map fun j => V.bl (bit j)) ++ [.bl (bit 9), .bl (bit 10), .bl (bit 11)]))) := (same_new hq3).trans (same_new hp3)
    have e3 : (upd (upd H2 q3 (.lst [.bl (bit 9), .bl (bit 10), .bl (bit 11)])) p3 (.lst (((List.range 9).map fun j => V.bl (bit j)) ++ [.bl (bit 9), .bl (bit 10), .bl (bit 11)]))) p3 = some (.lst ((List.range 12).map fun j => V.bl (bit j))) := upd_same
    generalize upd (upd H2 q3 (.lst [.bl (bit 9), .bl (bit 10), .bl (bit 11)])) p3 (.lst (((List.range 9).map fun j => V.bl (bit j)) ++ [.bl (bit 9), .bl (bit 10), .bl (bit 11)])) = H3 at s3 e3 ⊢
    have t3 : Same H H3 := t2.trans s3
    have ea3 := t3 _ _ ea
    have ed3 : ∀ d', d = some d' → ∃ fs, H3 d' = some (exd d' fs) := fun d' z => let ⟨fs, h⟩ := ed d' z; ⟨fs, t3 _ _ h⟩
    refine ⟨.ref p3, rfl, .ref a, rfl, a, D, d, .ref (C 12), .ref (C 12), bit 12, rfl, ask, ea3, ed3, (fun u h => h), hb 12 (by decide), .ref a, rfl, a, D, d, .ref (C 13), .ref (C 13), bit 13, rfl, ask, ea3, ed3, (fun u h => h), hb 13 (by decide), .ref a, rfl, a, D, d, .ref (C 14), .ref (C 14), bit 14, rfl, ask, ea3, ed3, (fun u h => h), hb 14 (by decide), (by show 3 ≤ sizeLine; decide), fun q4 hq4 => ⟨p3, q4, _, _, rfl, rfl, same_new hq4 _ _ e3, upd_same, (by show 15 ≤ sizeLine; decide), fun p4 hp4 => ?_⟩⟩
    have s4 : Same H3 (upd (upd H3 q4 (.lst [.bl (bit 12), .bl (bit 13), .bl (bit 14)])) p4 (.lst (((List.range 12).map fun j => V.bl (bit j)) ++ [.bl (bit 12), .bl (bit 13), .bl (bit 14)]))) := (same_new hq4).trans (same_new hp4)
    have e4 : (upd (upd H3 q4 (.lst [.bl (bit 12), .bl (bit 13), .bl (bit 14)])) p4 (.lst (((List.range 12).map fun j => V.bl (bit j)) ++ [.bl (bit 12), .bl (bit 13), .bl (bit 14)]))) p4 = some (.lst ((List.range 15).map fun j => V.bl (bit j))) := upd_same
    generalize upd (upd H3 q4 (.lst [.bl (bit 12), .bl (bit 13), .bl (bit 14)])) p4 (.lst (((List.range 12).map fun j => V.bl (bit j)) ++ [.bl (bit 12), .bl (bit 13), .bl (bit 14)])) = H4 at s4 e4 ⊢
    have t4 : Same H H4 := t3.trans s4
    have ea4 := t4 _ _ ea
    have ed4 : ∀ d', d = some d' → ∃ fs, H4 d' = some (exd d' fs) := fun d' z => let ⟨fs, h⟩ := ed d' z; ⟨fs, t4 _ _ h⟩
    refine ⟨.ref p4, rfl, .ref a, rfl, a, D, d, .ref (C 15), .ref (C 15), bit 15, rfl, ask, ea4, ed4, (fun u h => h), hb 15 (by decide), .ref a, rfl, a, D, d, .ref (C 16), .ref (C 16), bit 16, rfl, ask, ea4, ed4, (fun u h => h), hb 16 (by decide), .ref a, rfl, a, D, d, .ref (C 17), .ref (C 17), bit 17, rfl, ask, ea4, ed4, (fun u h => h), hb 17 (by decide), (by show 3 ≤ sizeLine; decide), fun q5 hq5 => ⟨p4, q5, _, _, rfl, rfl, same_new hq5 _ _ e4, upd_same, (by show 18 ≤ sizeLine; decide), fun p5 hp5 => ?_⟩⟩
    have s5 : Same H4 (upd (upd H4 q5 (.lst [.bl (bit 15), .bl (bit 16), .bl (bit 17)])) p5 (.lst (((List.range 15).map fun j => V.bl (bit j)) ++ [.bl (bit 15), .bl (bit 16), .bl (bit 17)]))) := (same_new hq5).trans (same_new hp5)
    have e5 : (upd (upd H4 q5 (.lst [.bl (bit 15), .bl (bit 16), .bl (bit 17)])) p5 (.lst (((List.range 15).map fun j => V.bl (bit j)) ++ [.bl (bit 15), .bl (bit 16), .bl (bit 17)]))) p5 = some (.lst ((List.range 18).map fun j => V.bl (bit j))) := upd_same
    generalize upd (upd H4 q5 (.lst [.bl (bit 15), .bl (bit 16), .bl (bit 17)])) p5 (.lst (((List.range 15).map fun j => V.bl (bit j)) ++ [.bl (bit 15), .bl (bit 16), .bl (bit 17)])) = H5 at s5 e5 ⊢
    have t5 : Same H H5 := t4.trans s5
    have ea5 := t5 _ _ ea
    have ed5 : ∀ d', d = some d' → ∃ fs, H5 d' = some (exd d' fs) := fun d' z => let ⟨fs, h⟩ := ed d' z; ⟨fs, t5 _ _ h⟩
    refine ⟨.ref p5, rfl, .ref a, rfl, a, D, d, .ref (C 18), .ref (C 18), bit 18, rfl, ask, ea5, ed5, (fun u h => h), hb 18 (by decide), .ref a, rfl, a, D, d, .ref (C 19), .ref (C 19), bit 19, rfl, ask, ea5, ed5, (fun u h => h), hb 19 (by decide), .ref a, rfl, a, D, d, .ref (C 20), .ref (C 20), bit 20, rfl, ask, ea5, ed5, (fun u h => h), hb 20 (by decide), (by show 3 ≤ sizeLine; decide), fun q6 hq6 => ⟨p5, q6, _, _, rfl, rfl, same_new hq6 _ _ e5, upd_same, (by show 21 ≤ sizeLine; decide), fun p6 hp6 => ?_⟩⟩
    have s6 : Same H5 (upd (upd H5 q6 (.lst [.bl (bit 18), .bl (bit 19), .bl (bit 20)])) p6 (.lst (((List.range 18).map fun j => V.bl (bit j)) ++ [.bl (bit 18), .bl (bit 19), .bl (bit 20)]))) := (same_new hq6).trans (same_new hp6)
    have e6 : (upd (upd H5 q6 (.lst [.bl (bit 18), .bl (bit 19), .bl (bit 20)])) p6 (.lst (((List.range 18).map fun j => V.bl (bit j)) ++ [.bl (bit 18), .bl (bit 19), .bl (bit 20)]))) p6 = some (.lst ((List.range 21).map fun j => V.bl (bit j))) := upd_same
    generalize upd (upd H5 q6 (.lst [.bl (bit 18), .bl (bit 19), .bl (bit 20)])) p6 (.lst (((List.range 18).map fun j => V.bl (bit j)) ++ [.bl (bit 18), .bl (bit 19), .bl (bit 20)])) = H6 at s6 e6 ⊢
    have t6 : Same H H6 := t5.trans s6
    have ea6 := t6 _ _ ea
    have ed6 : ∀ d', d = some d' → ∃ fs, H6 d' = some (exd d' fs) := fun d' z => let ⟨fs, h⟩ := ed d' z; ⟨fs, t6 _ _ h⟩
    refine ⟨.ref p6, rfl, .ref a, rfl, a, D, d, .ref (C 21), .ref (C 21), bit 21, rfl, ask, ea6, ed6, (fun u h => h), hb 21 (by decide), .ref a, rfl, a, D, d, .ref (C 22), .ref (C 22), bit 22, rfl, ask, ea6, ed6, (fun u h => h), hb 22 (by decide), .ref a, rfl, a, D, d, .ref (C 23), .ref (C 23), bit 23, rfl, ask, ea6, ed6, (fun u h => h), hb 23 (by decide), (by show 3 ≤ sizeLine; decide), fun q7 hq7 => ⟨p6, q7, _, _, rfl, rfl, same_new hq7 _ _ e6, upd_same, (by show 24 ≤ sizeLine; decide), fun p7 hp7 => ?_⟩⟩
    have s7 : Same H6 (upd (upd H6 q7 (.lst [.bl (bit 21), .bl (bit 22), .bl (bit 23)])) p7 (.lst (((List.range 21).map fun j => V.bl (bit j)) ++ [.bl (bit 21), .bl (bit 22), .bl (bit 23)]))) := (same_new hq7).trans (same_new hp7)
    have e7 : (upd (upd H6 q7 (.lst [.bl (bit 21), .bl (bit 22), .bl (bit 23)])) p7 (.lst (((List.range 21).map fun j => V.bl (bit j)) ++ [.bl (bit 21), .bl (bit 22), .bl (bit 23)]))) p7 = some (.lst ((List.range 24).map fun j => V.bl (bit j))) := upd_same
    generalize upd (upd H6 q7 (.lst [.bl (bit 21), .bl (bit 22), .bl (bit 23)])) p7 (.lst (((List.range 21).map fun j => V.bl (bit j)) ++ [.bl (bit 21), .bl (bit 22), .bl (bit 23)])) = H7 at s7 e7 ⊢
    have t7 : Same H H7 := t6.trans s7
    have ea7 := t7 _ _ ea
    have ed7 : ∀ d', d = some d' → ∃ fs, H7 d' = some (exd d' fs) := fun d' z => let ⟨fs, h⟩ := ed d' z; ⟨fs, t7 _ _ h⟩
    refine ⟨.ref p7, rfl, .ref a, rfl, a, D, d, .ref (C 24), .ref (C 24), bit 24, rfl, ask, ea7, ed7, (fun u h => h), hb 24 (by decide), .ref a, rfl, a, D, d, .ref (C 25), .ref (C 25), bit 25, rfl, ask, ea7, ed7, (fun u h => h), hb 25 (by decide), .ref a, rfl, a, D, d, .ref (C 26), .ref (C 26), bit 26, rfl, ask, ea7, ed7, (fun u h => h), hb 26 (by decide), (by show 3 ≤ sizeLine; decide), fun q8 hq8 => ⟨p7, q8, _, _, rfl, rfl, same_new hq8 _ _ e7, upd_same, (by show 27 ≤ sizeLine; decide), fun p8 hp8 => ?_⟩⟩
    have s8 : Same H7 (upd (upd H7 q8 (.lst [.bl (bit 24), .bl (bit 25), .bl (bit 26)])) p8 (.lst (((List.range 24).map fun j => V.bl (bit j)) ++ [.bl (bit 24), .bl (bit 25), .bl (bit 26)]))) := (same_new hq8).trans (same_new hp8)
    have e8 : (upd (upd H7 q8 (.lst [.bl (bit 24), .bl (bit 25), .bl (bit 26)])) p8 (.lst (((List.range 24).map fun j => V.bl (bit j)) ++ [.bl (bit 24), .bl (bit 25), .bl (bit 26)]))) p8 = some (.lst ((List.range 27).map fun j => V.bl (bit j))) := upd_same
    generalize upd (upd H7 q8 (.lst [.bl (bit 24), .bl (bit 25), .bl (bit 26)])) p8 (.lst (((List.range 24).map fun j => V.bl (bit j)) ++ [.bl (bit 24), .bl (bit 25), .bl (bit 26)])) = H8 at s8 e8 ⊢
    have t8 : Same H H8 := t7.trans s8
    have ea8 := t8 _ _ ea
    have ed8 : ∀ d', d = some d' → ∃ fs, H8 d' = some (exd d' fs) := fun d' z => let ⟨fs, h⟩ := ed d' z; ⟨fs, t8 _ _ h⟩
    refine ⟨.ref p8, rfl, .ref a, rfl, a, D, d, .ref (C 27), .ref (C 27), bit 27, rfl, ask, ea8, ed8, (fun u h => h), hb 27 (by decide), .ref a, rfl, a, D, d, .ref (C 28), .ref (C 28), bit 28, rfl, ask, ea8, ed8, (fun u h => h), hb 28 (by decide), .ref a, rfl, a, D, d, .ref (C 29), .ref (C 29), bit 29, rfl, ask, ea8, ed8, (fun u h => h), hb 29 (by decide), (by show 3 ≤ sizeLine; decide), fun q9 hq9 => ⟨p8, q9, _, _, rfl, rfl, same_new hq9 _ _ e8, upd_same, (by show 30 ≤ sizeLine; decide), fun p9 hp9 => ?_⟩⟩
    have s9 : Same H8 (upd (upd H8 q9 (.lst [.bl (bit 27), .bl (bit 28), .bl (bit 29)])) p9 (.lst (((List.range 27).map fun j => V.bl (bit j)) ++ [.bl (bit 27), .bl (bit 28), .bl (bit 29)]))) := (same_new hq9).trans (same_new hp9)
    have e9 : (upd (upd H8 q9 (.lst [.bl (bit 27), .bl (bit 28), .bl (bit 29)])) p9 (.lst (((List.range 27).map fun j => V.bl (bit j)) ++ [.bl (bit 27), .bl (bit 28), .bl (bit 29)]))) p9 = some (.lst ((List.range 30).map fun j => V.bl (bit j))) := upd_same
    generalize upd (upd H8 q9 (.lst [.bl (bit 27), .bl (bit 28), .bl (bit 29)])) p9 (.lst (((List.range 27).map fun j => V.bl (bit j)) ++ [.bl (bit 27), .bl (bit 28), .bl (bit 29)])) = H9 at s9 e9 ⊢
    have t9 : Same H H9 := t8.trans s9
    have ea9 := t9 _ _ ea
    have ed9 : ∀ d', d = some d' → ∃ fs, H9 d' = some (exd d' fs) := fun d' z => let ⟨fs, h⟩ := ed d' z; ⟨fs, t9 _ _ h⟩
    refine ⟨.ref p9, rfl, .ref a, rfl, a, D, d, .ref (C 30), .ref (C 30), bit 30, rfl, ask, ea9, ed9, (fun u h => h), hb 30 (by decide), (by show 1 ≤ sizeLine; decide), fun q10 hq10 => ⟨p9, q10, _, _, rfl, rfl, same_new hq10 _ _ e9, upd_same, (by show 31 ≤ sizeLine; decide), fun p10 hp10 => ?_⟩⟩
    have s10 : Same H9 (upd (upd H9 q10 (.lst [.bl (bit 30)])) p10 (.lst (((List.range 30).map fun j => V.bl (bit j)) ++ [.bl (bit 30)]))) := (same_new hq10).trans (same_new hp10)
    have e10 : (upd (upd H9 q10 (.lst [.bl (bit 30)])) p10 (.lst (((List.range 30).map fun j => V.bl (bit j)) ++ [.bl (bit 30)]))) p10 = some (.lst ((List.range 31).map fun j => V.bl (bit j))) := upd_same
    generalize upd (upd H9 q10 (.lst [.bl (bit 30)])) p10 (.lst (((List.range 30).map fun j => V.bl (bit j)) ++ [.bl (bit 30)])) = H10 at s10 e10 ⊢
    have t10 : Same H H10 := t9.trans s10
    have ea10 := t10 _ _ ea
    have ed10 : ∀ d', d = some d' → ∃ fs, H10 d' = some (exd d' fs) := fun d' z => let ⟨fs, h⟩ := ed d' z; ⟨fs, t10 _ _ h⟩
    refine ⟨.ref p10, rfl, p10, _, rfl, SqL.of e10, fun D2 n2 => ?_⟩
    refine lc_enum (K := K) (a := p10) (xs := (List.range 31).map fun j => V.bl (bit j)) (fun i H' => Same H10 H' ∧ H' D2 = some (.lst (trues bit i))) ⟨same_new n2, upd_same⟩ (fun i H' _ h => SqL.of (h.1 _ _ e10)) ?_ ?_
    · rintro i x H' T hx ⟨s2, e2⟩ hT
      obtain ⟨j, hj, rfl⟩ := get_map hx
      have ij : i = j ∧ i < 31 := by
        have h1 := (List.getElem?_eq_some_iff.mp hj).1
        have h2 := (List.getElem?_eq_some_iff.mp hj).2
        rw [List.getElem_range] at h2
        rw [List.length_range] at h1
        exact ⟨h2, h1⟩
      obtain ⟨rfl, hi⟩ := ij
      have s3 : Same H' (upd H' T (.tup [.int (i : Int), .bl (bit i)])) := same_new hT
      refine ⟨T, _, rfl, SqT.of upd_same, rfl, _, _, rfl, _, _, rfl, rfl, ?_⟩
      refine ⟨rfl, .bl (bit i), rfl, bit i, rfl, ?_⟩
      refine ite2 (fun c => ?_) (fun c => ?_)
      · refine ⟨.int (i : Int), rfl, _, s3 _ _ e2, ?_, Same.store (s2.trans s3) n2, ?_⟩
        · have := trues_len (bit := bit) (n := i)
          exact small1000 (by omega)
        · rw [upd_same, trues_more, if_pos c]
      · refine ⟨s2.trans s3, ?_⟩
        rw [s3 _ _ e2, trues_more, if_neg c]
    · rintro H' ⟨s2, e2⟩
      rw [List.length_map, List.length_range] at e2
      exact q D2 H' (t10.trans s2) e2
end
end K04
namespace K04
open PySem PySem.Spec PyProof.Rows L2 OF
/-- data that may be shown -/
structure Fit (d : PyData) : Prop where
  sh : d.showable = true
  lv : d.leavesShort 60 = true
  wt : d.weight ≤ 1000
  dp : d.depth ≤ 10
theorem Fit.len {d : PyData} (h : Fit d) : d.shown.length ≤ sizeLine := by
  have := PyData.shown_le 60 (by decide) d h.lv
  have w := h.wt
  rw [sizeLine_eq]
  omega
theorem Fit.len1 {d : PyData} (h : Fit d) : (PyData.list [d]).shown.length ≤ sizeLine := by
  have := PyData.shown_le 60 (by decide) (.list [d]) (by simp only [PyData.leavesShort, PyData.leavesShortAll, h.lv, Bool.and_true])
  have w := h.wt
  simp only [PyData.weight, PyData.weightAll] at this
  rw [sizeLine_eq]
  omega
theorem fit_non : Fit .none := ⟨rfl, rfl, by decide, by decide⟩
theorem fit_tr : Fit (.bool true) := ⟨rfl, rfl, by decide, by decide⟩
theorem fit_7 : Fit (.int 7) := ⟨by decide +kernel, by decide +kernel, by decide +kernel, by decide +kernel⟩
theorem fit_big : Fit (.int (-(10 ^ 40))) := ⟨by decide +kernel, by decide +kernel, by decide +kernel, by decide +kernel⟩
theorem fit_a : Fit (.str "a") := ⟨by decide +kernel, by decide +kernel, by decide +kernel, by decide +kernel⟩
theorem fit_e : Fit (.str "") := ⟨by decide +kernel, by decide +kernel, by decide +kernel, by decide +kernel⟩
theorem fit_t : Fit (.tuple [.int 3, .str "b"]) := ⟨by decide +kernel, by decide +kernel, by decide +kernel, by decide +kernel⟩
theorem fit_d : Fit (.dict [(.str "c", .int 4)]) := ⟨by decide +kernel, by decide +kernel, by decide +kernel, by decide +kernel⟩
def dL (n : Nat) : PyData := .list (.int 1 :: .list [.int 2] :: List.replicate n (.str "late"))
theorem lates (n : Nat) : PyData.showableAll (List.replicate n (.str "late")) = true ∧ PyData.hasDictAll (List.replicate n (.str "late")) = false ∧ PyData.leavesShortAll 60 (List.replicate n (.str "late")) = true ∧ PyData.weightAll (List.replicate n (.str "late")) = 5 * n ∧ PyData.depthAll (List.replicate n (.str "late")) = 0 := by
  induction n with
  | zero => exact ⟨rfl, rfl, rfl, rfl, rfl⟩
  | succ n ih =>
    obtain ⟨h1, h2, h3, h4, h5⟩ := ih
    rw [List.replicate_succ]
    refine ⟨?_, ?_, ?_, ?_, ?_⟩
    · simp only [PyData.showableAll, PyData.showable, h1, Bool.and_self]
    · simp only [PyData.hasDictAll, PyData.hasDict, h2, Bool.or_self]
    · simp only [PyData.leavesShortAll, h3, Bool.and_true]
      decide +kernel
    · simp only [PyData.weightAll, h4, show PyData.weight (.str "late") = 4 by decide +kernel]
      omega
    · simp only [PyData.depthAll, h5, PyData.depth, Nat.max_self]
theorem fit_L {n : Nat} (h : n ≤ 100) : Fit (dL n) ∧ (dL n).hasDict = false := by
  obtain ⟨h1, h2, h3, h4, h5⟩ := lates n
  refine ⟨⟨?_, ?_, ?_, ?_⟩, ?_⟩
  · simp only [dL, PyData.showable, PyData.showableAll, h1, Bool.and_true]
    decide +kernel
  · simp only [dL, PyData.leavesShort, PyData.leavesShortAll, h3, Bool.and_true]
    decide +kernel
  · have e : PyData.weight (dL n) = PyData.weight (.int 1) + 1 + (PyData.weight (.list [.int 2]) + 1 + PyData.weightAll (List.replicate n (.str "late"))) := by simp only [dL, PyData.weight, PyData.weightAll]
    have e1 : PyData.weight (.int 1) ≤ 5 := by decide +kernel
    have e2 : PyData.weight (.list [.int 2]) ≤ 10 := by decide +kernel
    rw [e, h4]
    omega
  · simp only [dL, PyData.depth, PyData.depthAll, h5]
    decide +kernel
  · simp only [dL, PyData.hasDict, PyData.hasDictAll, h2, Bool.or_self]

/-! ### the drawn things -/
/-- the list and its inner list, the tuple, the dict; n: how often the list grew at most; D the list of all things -/
structure TH (D pL pM pT pK : Addr) (ys : List V) (m : Nat) (H : Hp) : Prop where
  hD : H D = some (.lst ys)
  nD : D ≠ pL
  hL : ∃ n, n ≤ m ∧ H pL = some (.lst (.int 1 :: .ref pM :: List.replicate n (.str "late")))
  hM : H pM = some (.lst [.int 2])
  hT : H pT = some (.tup [.int 3, .str "b"])
  hK : H pK = some (.dK [(.inr "c", .int 4)])
section
variable {D pL pM pT pK : Addr} {ys : List V} {m : Nat} {H H' : Hp}
theorem TH.same (T : TH D pL pM pT pK ys m H) (s : Same H H') : TH D pL pM pT pK ys m H' := by
  obtain ⟨h1, h2, ⟨n, hn, h3⟩, h4, h5, h6⟩ := T
  exact ⟨s _ _ h1, h2, ⟨n, hn, s _ _ h3⟩, s _ _ h4, s _ _ h5, s _ _ h6⟩
theorem TH.mono {k : Nat} (T : TH D pL pM pT pK ys m H) (h : m ≤ k) : TH D pL pM pT pK ys k H := by
  obtain ⟨h1, h2, ⟨n, hn, h3⟩, h4, h5, h6⟩ := T
  exact ⟨h1, h2, ⟨n, by omega, h3⟩, h4, h5, h6⟩
abbrev things (pL pT pK : Addr) : List V := [.non, .bl true, .int 7, .int (-(10 ^ 40)), .str "a", .str "", .ref pL, .ref pT, .ref pK]
/-- how such a thing is asked for a list -/
theorem TH.isl {K : PySem.W.Frag} {y : V} (T : TH D pL pM pT pK ys m H) (hy : y ∈ things pL pT pK) : ∃ (t : Value) (b : Bool), TyX K H y t ∧ PySem.W.kitOne K t (.type "list") = some b ∧ (b = true → y = .ref pL) ∧ (flatB y = true ∨ ∃ a, y = .ref a) := by
  obtain ⟨_, _, ⟨n, hn, h3⟩, h4, h5, h6⟩ := T
  simp only [things, List.mem_cons, List.not_mem_nil, or_false] at hy
  rcases hy with rfl | rfl | rfl | rfl | rfl | rfl | rfl | rfl | rfl
  · exact ⟨_, false, .base .non, kit_ty (by decide +kernel), (fun z => absurd z Bool.false_ne_true), .inl rfl⟩
  · exact ⟨_, false, .base (.bl true), kit_ty (by decide +kernel), (fun z => absurd z Bool.false_ne_true), .inl rfl⟩
  · exact ⟨_, false, .base (.int 7), kit_ty (by decide +kernel), (fun z => absurd z Bool.false_ne_true), .inl rfl⟩
  · exact ⟨_, false, .base (.int _), kit_ty (by decide +kernel), (fun z => absurd z Bool.false_ne_true), .inl rfl⟩
  · exact ⟨_, false, .base (.str _), kit_ty (by decide +kernel), (fun z => absurd z Bool.false_ne_true), .inl rfl⟩
  · exact ⟨_, false, .base (.str _), kit_ty (by decide +kernel), (fun z => absurd z Bool.false_ne_true), .inl rfl⟩
  · exact ⟨_, true, .base (.lst h3), kit_ty (by decide +kernel), fun _ => rfl, .inr ⟨_, rfl⟩⟩
  · exact ⟨_, false, .base (.tup h5), kit_ty (by decide +kernel), (fun z => absurd z Bool.false_ne_true), .inr ⟨_, rfl⟩⟩
  · exact ⟨_, false, .base (.dK h6), kit_ty (by decide +kernel), (fun z => absurd z Bool.false_ne_true), .inr ⟨_, rfl⟩⟩
theorem dp_lates {K : PySem.W.Frag} {H : Hp} : ∀ n : Nat, DpAll K H (List.replicate n (.str "late")) (List.replicate n (.str "late"))
  | 0 => .nil
  | n + 1 => .cons (.str _) (dp_lates n)
/-- how it is shown: alike wherever the heap tracks the same -/
theorem TH.fit {y : V} (T : TH D pL pM pT pK ys m H) (hm : m ≤ 100) (hy : y ∈ things pL pT pK) : ∃ d, Fit d ∧ ∀ (X : Cx) (H' : Hp), Same H H' → Rp X H' y d := by
  obtain ⟨_, _, ⟨n, hn, h3⟩, h4, h5, h6⟩ := T
  simp only [things, List.mem_cons, List.not_mem_nil, or_false] at hy
  rcases hy with rfl | rfl | rfl | rfl | rfl | rfl | rfl | rfl | rfl
  · exact ⟨_, fit_non, fun X H' s => .dp .non fit_non.sh rfl fit_non.len⟩
  · exact ⟨_, fit_tr, fun X H' s => .dp (.bl true) fit_tr.sh rfl fit_tr.len⟩
  · exact ⟨_, fit_7, fun X H' s => .dp (.int 7) fit_7.sh rfl fit_7.len⟩
  · exact ⟨_, fit_big, fun X H' s => .dp (.int _) fit_big.sh rfl fit_big.len⟩
  · exact ⟨_, fit_a, fun X H' s => .dp (.str _) fit_a.sh rfl fit_a.len⟩
  · exact ⟨_, fit_e, fun X H' s => .dp (.str _) fit_e.sh rfl fit_e.len⟩
  · obtain ⟨f, nd⟩ := fit_L (n := n) (by omega)
    exact ⟨_, f, fun X H' s => .dp (.lst (SqL.of (s _ _ h3)) (.cons (.int 1) (.cons (.lst (SqL.of (s _ _ h4)) (.cons (.int 2) .nil)) (dp_lates n)))) f.sh nd f.len⟩
  · exact ⟨_, fit_t, fun X H' s => .dp (.tup (SqT.of (s _ _ h5)) (.cons (.int 3) (.cons (.str _) .nil))) fit_t.sh (by decide +kernel) fit_t.len⟩
  · exact ⟨_, fit_d, fun X H' s => Rp.dct (kvs := [(.inr "c", 4)]) (s _ _ h6) fit_d.sh fit_d.len⟩
/-- the list grows -/
theorem TH.grow (T : TH D pL pM pT pK ys m H) : ∃ xs, H pL = some (.lst xs) ∧ xs.length ≤ m + 2 ∧ 2 ≤ xs.length ∧ TH D pL pM pT pK ys (m + 1) (upd H pL (.lst (xs ++ [.str "late"]))) := by
  obtain ⟨h1, h2, ⟨n, hn, h3⟩, h4, h5, h6⟩ := T
  refine ⟨_, h3, by simp only [List.length_cons, List.length_replicate]; omega, by simp only [List.length_cons]; omega, ?_⟩
  have nM : pM ≠ pL := fun e => by
    rw [e, h3] at h4
    cases h4
  have nT : pT ≠ pL := fun e => by
    rw [e, h3] at h5
    cases h5
  have nK : pK ≠ pL := fun e => by
    rw [e, h3] at h6
    cases h6
  refine ⟨by rw [upd_ne h2]; exact h1, h2, ⟨n + 1, by omega, ?_⟩, by rw [upd_ne nM]; exact h4, by rw [upd_ne nT]; exact h5, by rw [upd_ne nK]; exact h6⟩
  rw [upd_same, List.replicate_succ']
  rfl
end
end K04
namespace K04
open PySem PySem.Spec PyProof.Rows L2 OF
section
variable {P : Program} {w : World} {K : PySem.W.Frag} {mg : Str → Option Value} {base : Heap}
theorem AllE.at_ {CF : Addr} {C I : Nat → Addr} (AE : AllE K mg CF C I) : ∀ j, j < 31 → ∃ x q st, Kl K mg x q st (C j) (I j) (bmE CF)
  | 0, _ => ⟨_, _, _, AE.e0⟩
  | 1, _ => ⟨_, _, _, AE.e1⟩
  | 2, _ => ⟨_, _, _, AE.e2⟩
  | 3, _ => ⟨_, _, _, AE.e3⟩
  | 4, _ => ⟨_, _, _, AE.e4⟩
  | 5, _ => ⟨_, _, _, AE.e5⟩
  | 6, _ => ⟨_, _, _, AE.e6⟩
  | 7, _ => ⟨_, _, _, AE.e7⟩
  | 8, _ => ⟨_, _, _, AE.e8⟩
  | 9, _ => ⟨_, _, _, AE.e9⟩
  | 10, _ => ⟨_, _, _, AE.e10⟩
  | 11, _ => ⟨_, _, _, AE.e11⟩
  | 12, _ => ⟨_, _, _, AE.e12⟩
  | 13, _ => ⟨_, _, _, AE.e13⟩
  | 14, _ => ⟨_, _, _, AE.e14⟩
  | 15, _ => ⟨_, _, _, AE.e15⟩
  | 16, _ => ⟨_, _, _, AE.e16⟩
  | 17, _ => ⟨_, _, _, AE.e17⟩
  | 18, _ => ⟨_, _, _, AE.e18⟩
  | 19, _ => ⟨_, _, _, AE.e19⟩
  | 20, _ => ⟨_, _, _, AE.e20⟩
  | 21, _ => ⟨_, _, _, AE.e21⟩
  | 22, _ => ⟨_, _, _, AE.e22⟩
  | 23, _ => ⟨_, _, _, AE.e23⟩
  | 24, _ => ⟨_, _, _, AE.e24⟩
  | 25, _ => ⟨_, _, _, AE.e25⟩
  | 26, _ => ⟨_, _, _, AE.e26⟩
  | 27, _ => ⟨_, _, _, AE.e27⟩
  | 28, _ => ⟨_, _, _, AE.e28⟩
  | 29, _ => ⟨_, _, _, AE.e29⟩
  | 30, _ => ⟨_, _, _, AE.e30⟩
  | n + 31, h => absurd h (by omega)
theorem trues_one : ∀ k, k < 31 → trues (fun j => decide (j = k)) 31 = [V.int (k : Int)] := by decide +kernel
theorem trues_no : trues (fun _ => false) 31 = [] := by decide +kernel
theorem AllE.kit {CF : Addr} {C I : Nat → Addr} (AE : AllE K mg CF C I) {k j : Nat} (hk : k < 31) (hj : j < 31) : PySem.W.kitOne K (.ref (C k)) (.ref (C j)) = some (decide (j = k)) := by
  obtain ⟨_, _, _, T⟩ := AE.at_ j hj
  obtain ⟨_, _, _, U⟩ := AE.at_ k hk
  rw [T.kit U]
  congr 1
  by_cases e : j = k
  · subst e
    simp
  · rw [decide_eq_false e]
    have n1 : C k ≠ C j := fun z => e (AE.inj _ _ hk hj z).symm
    have n2 := AE.out j hj
    simp [bmE, bmF, n1.symm, n2]
theorem AllE.kitF {CF fF : Addr} {C I : Nat → Addr} {x q : Str} {st : Stmt} (AE : AllE K mg CF C I) (T : Kl K mg x q st CF fF bmF) {k : Nat} (hk : k < 31) : PySem.W.kitOne K (.ref (C k)) (.ref CF) = some true := by
  obtain ⟨_, _, _, U⟩ := AE.at_ k hk
  rw [T.kit U]
  simp [bmE]
theorem AllE.kitU {CF fF : Addr} {C I : Nat → Addr} {x q : Str} {st : Stmt} (AE : AllE K mg CF C I) (T : Kl K mg x q st CF fF bmF) {j : Nat} (hj : j < 31) : PySem.W.kitOne K (.ref CF) (.ref (C j)) = some false := by
  obtain ⟨_, _, _, U⟩ := AE.at_ j hj
  rw [U.kit T]
  have n := AE.out j hj
  simp [bmF, n]
end
end K04
namespace K04
open PySem PySem.Spec PyProof.Rows L2 OF
section
variable {P : Program} {w : World} {K : PySem.W.Frag} {mg : Str → Option Value} {base : Heap}
def spRight : Sp := fun vs H Q _ => ∃ a : Addr, vs = [.ref a] ∧ Box 0 H a ∧ ∀ H', But a H H' → Q (.bl true) H'
abbrev nRi : List Str := ["_law_box_here", "_law_things", "_law_place", "_law_way", "_law_thing", "_law_e", "_law_kept"]
theorem scR : FnScope nRi ["_law_box_here"] (defScope sRight) := ⟨rfl, rfl, rfl, by decide +kernel, rfl, by decide +kernel, by decide +kernel⟩
set_option maxHeartbeats 4000000 in
theorem ok_right {f fM fD fK CF fF : Addr} {fd fdM fdD fdK : FuncData} {C I : Nat → Addr} {qF : Str} (F : Fun K "_law_right" "_law_right" sRight f fd) (AE : AllE K mg CF C I) (KF : Kl K mg "FigureError" qF sFig CF fF bmF)
    (hn : PySem.W.specialIn K (.builtin "object.__class__") "__get__" = some (some (.builtin "getset_descriptor.__get__"))) (ht : PySem.W.takesIn K (.builtin "object.__class__") = some true)
    (GM : FnOk P w K mg base CX0 2 fM fdM ["_law_box_here", "_law_some"] (spMixed K)) (gM : mg "_law_mixed" = some (.ref fM)) (kM : PySem.W.keepIn K (.ref fM) = true) (bM : Binds K fdM ["_law_box_here", "_law_some"] [])
    (GD : FnOk P w K mg base CX0 6 fD fdD ["_law_place", "_law_thing", "_law_way"] (spMade C 0)) (gD : mg "_law_made0" = some (.ref fD)) (kD : PySem.W.keepIn K (.ref fD) = true) (bD : Binds K fdD ["_law_place", "_law_thing", "_law_way"] [])
    (GK : FnOk P w K mg base CX0 1 fK fdK ["_law_e"] (spKinds K C)) (gK : mg "_law_kinds" = some (.ref fK)) (kK : PySem.W.keepIn K (.ref fK) = true) (bK : Binds K fdK ["_law_e"] [])
    (mi : mg "int" = none) (mr : mg "range" = none) (mis : mg "isinstance" = none) (mrp : mg "repr" = none) (mli : mg "list" = none) (mV : mg "ValueError" = none) :
    FnG P w K mg base 7 f fd ["_law_box_here"] spRight := by
  refine okG F scR (fun vs H Q E h => ?_) (fun cdv A outer s H vs Q E gu hr6 h => ?_)
  · obtain ⟨a, rfl, _⟩ := h
    rfl
  · obtain ⟨a, rfl, hB, q⟩ := h
    have hr2 : Room 2 _ := hr6.mono (by decide)
    have hr : Room 1 _ := hr6.mono (by decide)
    apply Exists.intro
    apply And.intro
    · apply pss_cons
      · exact ps_set (i := 1) scR.nd rfl (.inl rfl) (pe_call GM hr2 (by rfl) gM kM bM .nil pass0 (pa_cons (pv 0) (pa_cons (pe_lst (pa_cons pe_non (pa_cons pe_bl (pa_cons pe_int (pa_cons (pe_un un_neg (pe_op op_pow pe_int pe_int)) (pa_cons pe_str (pa_cons pe_str
          (pa_cons (pe_lst (pa_cons pe_int (pa_cons (pe_lst (pa_cons pe_int pa_nil)) pa_nil))) (pa_cons (pe_tup (pa_cons pe_int (pa_cons pe_str pa_nil))) (pa_cons (pe_disp (pps_cons pe_str pe_int pps_nil) (by rfl) (by rfl) (fun z => by cases z) (by decide)) pa_nil)))))))))) pa_nil)))
      apply pss_cons
      · exact ps_for PassesOwn.never rfl (pi_range1 rfl mr (pa_cons pe_int pa_nil)) (pg_name (i := 2) scR.nd rfl (.inl rfl))
          (pss_one (ps_for PassesOwn.never rfl (pi_list (pe_lst (pa_cons pe_bl (pa_cons pe_bl pa_nil)))) (pg_name (i := 3) scR.nd rfl (.inl rfl))
            (pss_cons (ps_set (i := 4) scR.nd rfl (.inl rfl) (pe_ix ix_list (pv 1) (pe_op op_modR (pe_callTy call_int1 (by rfl) mi PyProof.Rows.boot_int (pa_cons (pe_op op_add (pv 2) (pe_op op_mul pe_int (pe_callTy call_int1 (by rfl) mi PyProof.Rows.boot_int (pa_cons (pv 3) pa_nil)))) pa_nil)) pe_int) (fun _ _ => rfl)))
            (pss_cons (ps_asg (pe_call GD hr6 (by rfl) gD kD bD .nil pass0 (pa_cons (pv 2) (pa_cons (pv 4) (pa_cons (pv 3) pa_nil)))) (pg_tup rfl (pgs_cons (pg_name (i := 5) scR.nd rfl (.inl rfl)) (pgs_cons (pg_name (i := 6) scR.nd rfl (.inl rfl)) pgs_nil))))
            (pss_cons (ps_if (PW.pt (pw_or (pt_not (pt_val (pe_callB call_askV (by rfl) mis PyProof.Rows.boot_isinstance (pa_cons (pv 5) (pa_cons (pe_glob (v := .ref CF) (by rfl) KF.g rfl) pa_nil)))))
                (pw_or (pt_not (pt_val (pe_callB call_askV (by rfl) mis PyProof.Rows.boot_isinstance (pa_cons (pv 5) (pa_cons (pe_bltn (v := .ty "ValueError") (by rfl) mV PyProof.Rows.Boot.«ValueError» rfl) pa_nil)))))
                (pw_or1 (pt_cmpR (op_neSame hr.units) (pe_call GK hr (by rfl) gK kK bK .nil pass0 (pa_cons (pv 5) pa_nil)) (pe_lst (pa_cons (pv 2) pa_nil)) (nomark _)))))) (pss_one (ps_ret pe_bl)) pss_nil)
            (pss_cons (ps_if (pt_cmpR op_ne (pe_callB (call_reprL gu hr.units) (by rfl) mrp PyProof.Rows.boot_repr (pa_cons (pv 6) pa_nil)) (pe_callB (call_reprL gu hr.units) (by rfl) mrp PyProof.Rows.boot_repr (pa_cons (pe_lst (pa_cons (pv 4) pa_nil)) pa_nil)) (nomark _)) (pss_one (ps_ret pe_bl)) pss_nil)
            (pss_cons (ps_if (pt_val (pe_callB call_isi (by rfl) mis PyProof.Rows.boot_isinstance (pa_cons (pv 4) (pa_cons (pe_bltn (v := .ty "list") (by rfl) mli PyProof.Rows.boot_list rfl) pa_nil))))
                (pss_one (ps_expr (pe_bm PySem.F.plainAttrs_list PySem.F.slot_list_append PySem.F.type_list_append mt_append (pv 4) (pa_cons pe_str pa_nil)))) pss_nil)
            (pss_one (ps_if (pt_cmpR (op_neSame hr.units) (pv 6) (pe_lst (pa_cons (pv 4) pa_nil)) (nomark _)) (pss_one (ps_ret pe_bl)) pss_nil)))))))))
      apply pss_one
      · exact ps_ret pe_bl
    -- the things
    refine ⟨.ref a, rfl, _, _, rfl, rfl, ⟨by decide, by decide, by decide⟩, _, rfl, ?_⟩
    refine ⟨(by show 1 ≤ sizeLine; decide), fun pM hM => ⟨(by show 2 ≤ sizeLine; decide), fun pL hL => ⟨(by show 2 ≤ sizeLine; decide), fun pT hT => ?_⟩⟩⟩
    have c1 := same_new (o := .lst [.int 2]) hM
    have c2 := same_new (o := .lst [.int 1, .ref pM]) hL
    have c3 := same_new (o := .tup [.int 3, .str "b"]) hT
    have e1 := c3 _ _ (c2 _ _ (upd_same (H := H) (a := pM) (o := .lst [.int 2])))
    have e2 := c3 _ _ (upd_same (H := upd H pM (.lst [.int 2])) (a := pL) (o := .lst [.int 1, .ref pM]))
    have e3 : (upd (upd (upd H pM (.lst [.int 2])) pL (.lst [.int 1, .ref pM])) pT (.tup [.int 3, .str "b"])) pT = some (.tup [.int 3, .str "b"]) := upd_same
    have c4 : Same H _ := c1.trans (c2.trans c3)
    have fM := hM
    have fL := c1.free hL
    have fT := c1.free (c2.free hT)
    generalize upd (upd (upd H pM (.lst [.int 2])) pL (.lst [.int 1, .ref pM])) pT (.tup [.int 3, .str "b"]) = H3 at e1 e2 e3 c4 ⊢
    intro pK hK
    refine ⟨upd_same, [(.inr "c", .int 4)], rfl, (by decide), ?_⟩
    have c5 : Same H3 (upd (upd H3 pK (.dK [])) pK (.dK (mergeK [] [(.inr "c", .int 4)]))) := Same.store (same_new hK) hK
    have e4 : (upd (upd H3 pK (.dK [])) pK (.dK (mergeK [] [(.inr "c", .int 4)]))) pK = some (.dK [(.inr "c", .int 4)]) := upd_same
    have fK := c4.free hK
    generalize upd (upd H3 pK (.dK [])) pK (.dK (mergeK [] [(.inr "c", .int 4)])) = H4 at c5 e4 ⊢
    refine ⟨(by show 9 ≤ sizeLine; decide), fun p0 hp0 => ?_⟩
    have c6 := same_new (o := .lst (things pL pT pK)) hp0
    have e5 : (upd H4 p0 (.lst (things pL pT pK))) p0 = some (.lst (things pL pT pK)) := upd_same
    have f0 := c4.free (c5.free hp0)
    have cA : Same H (upd H4 p0 (.lst (things pL pT pK))) := c4.trans (c5.trans c6)
    have g1 := c6 _ _ (c5 _ _ e1)
    have g2 := c6 _ _ (c5 _ _ e2)
    have g3 := c6 _ _ (c5 _ _ e3)
    have g4 := c6 _ _ e4
    refine ⟨a, p0, things pL pT pK, 0, rfl, hB.same cA, SqL.of e5, hB.ne f0, (by show 9 ≤ 1000; decide), (by decide), ?_⟩
    intro D ys H6 hD0 t60 B6 eD lD mD
    have hD : (upd H4 p0 (.lst (things pL pT pK))) D = none := hD0
    have t6 : But a (upd H4 p0 (.lst (things pL pT pK))) H6 := t60
    clear hD0 t60
    have T0 : TH D pL pM pT pK ys 0 H6 := ⟨eD, (ne_of_none g2 hD).symm, ⟨0, Nat.le_refl _, t6 _ _ (hB.ne fL) g2⟩, t6 _ _ (hB.ne fM) g1, t6 _ _ (hB.ne fT) g3, t6 _ _ (hB.ne fK) g4⟩
    have t0 : But a H H6 := (But.of_same cA).trans t6
    have lD9 : ys.length = 9 := lD
    clear t6 B6 eD lD
    refine ⟨_, rfl, ?_, ?_, for_range (lo := 0) (n := 31) (fun i σ H' => ∃ v2 v3 v4 v5 v6, σ = [some (.ref a), some (.ref D), v2, v3, v4, v5, v6] ∧ TH D pL pM pT pK ys (2 * i) H' ∧ But a H H') ⟨none, none, none, none, none, rfl, T0, t0⟩ ?_ ?_⟩
    · decide
    · decide
    · rintro i σ H' hi ⟨v2, v3, v4, v5, v6, rfl, T1, t1⟩
      rw [Int.zero_add]
      refine ⟨(by show 2 ≤ sizeLine; decide), fun W hW => ?_⟩
      have nW : W ≠ pL := by
        obtain ⟨_, _, ⟨n, _, z⟩, _⟩ := T1
        exact (ne_of_none z hW).symm
      have eW : (upd H' W (.lst [.bl true, .bl false])) W = some (.lst [.bl true, .bl false]) := upd_same
      have T2 := T1.same (same_new (o := .lst [.bl true, .bl false]) hW)
      have t2 : But a H (upd H' W (.lst [.bl true, .bl false])) := t1.trans (But.new hW)
      generalize upd H' W (.lst [.bl true, .bl false]) = H7 at eW T2 t2 ⊢
      refine ⟨W, rfl, ⟨_, SqL.of eW⟩, for_list (K := K) (a := W) (xs := [V.bl true, .bl false]) (fun j σ H' => (∃ v3 v4 v5 v6, σ = [some (.ref a), some (.ref D), some (.int (i : Int)), v3, v4, v5, v6]) ∧ TH D pL pM pT pK ys (2 * i + j) H' ∧ But a H H' ∧ H' W = some (.lst [.bl true, .bl false])) ⟨⟨_, _, _, _, rfl⟩, T2, t2, eW⟩ (fun j σ H' _ h => SqL.of h.2.2.2) ?_ ?_⟩
      · rintro j x σ H8 hx ⟨⟨u3, u4, u5, u6, rfl⟩, T3, t3, eW3⟩
        have hj : j < 2 := (List.getElem?_eq_some_iff.mp hx).1
        have hb : ∃ b, x = .bl b := by
          have z := List.mem_of_getElem? hx
          simp only [List.mem_cons, List.not_mem_nil, or_false] at z
          rcases z with rfl | rfl
          · exact ⟨_, rfl⟩
          · exact ⟨_, rfl⟩
        obtain ⟨b, rfl⟩ := hb
        refine ⟨.ref D, rfl, .int (i : Int), rfl, .bl b, rfl, .inr ⟨b, rfl, _, _, rfl, rfl, .inl ⟨by decide, by decide⟩, _, _, rfl, rfl, .inl ⟨_, rfl, _, _, rfl, rfl, by decide, fun r r0 r1 => ?_⟩⟩⟩
        obtain ⟨y, ey, my⟩ := pick (xs := ys) r0 (by rw [lD9]; exact r1)
        have hy := mD y my
        refine ⟨D, ys, r, y, rfl, rfl, SqL.of T3.hD, ey, ?_⟩
        obtain ⟨ty, isl, hty, kty, onlyL, flat⟩ := T3.isl (K := K) hy
        refine ⟨.int (i : Int), rfl, y, rfl, .bl b, rfl, i, y, b, rfl, Nat.zero_le _, hi, flat, fun e l t H9 s9 et el er => ?_⟩
        refine ⟨t, _, rfl, SqT.of et, rfl, _, _, rfl, _, _, rfl, rfl, ?_⟩
        obtain ⟨_, _, _, Ke⟩ := AE.at_ i hi
        have ask := Ke.ask (above_E CF) hn ht
        obtain ⟨d, ee, ed⟩ := er
        have T4 := T3.same s9
        have t4 : But a H H9 := t3.trans (But.of_same s9)
        have eW4 := s9 _ _ eW3
        refine ⟨.ref e, rfl, e, C i, d, .ref CF, .ref CF, true, rfl, ask, ee, ed, (fun u h => h), AE.kitF KF hi, true, rfl, iteF ?_⟩
        refine ⟨.ref e, rfl, e, C i, d, .ty "ValueError", .type "ValueError", true, rfl, ask, ee, ed, (fun u h => h), Ke.kitV (above_E CF), true, rfl, iteF ?_⟩
        refine ⟨.ref e, rfl, e, C i, (fun j => decide (j = i)), rfl, ⟨d, ee, ed⟩, ask, fun j hj => AE.kit hi hj, fun l2 H10 s10 el2 => ?_⟩
        rw [trues_one i hi] at el2
        refine ⟨.int (i : Int), rfl, (by show 1 ≤ sizeLine; decide), fun p1 hp1 => ⟨l2, p1, [.int (i : Int)], rfl, rfl, SqL.of (same_new hp1 _ _ el2), SqL.of upd_same, one_all (.inl rfl), _, rfl, iteF ?_⟩⟩
        have s11 : Same H9 (upd H10 p1 (.lst [.int (i : Int)])) := s10.trans (same_new hp1)
        generalize upd H10 p1 (.lst [.int (i : Int)]) = H11 at s11 ⊢
        have T5 := T4.same s11
        have t5 : But a H H11 := t4.trans (But.of_same s11)
        have eW5 := s11 _ _ eW4
        have el5 := s11 _ _ el
        obtain ⟨dd, fit, rp⟩ := T5.fit (by omega) hy
        have dep : PyData.depthAll [dd] ≤ 40 := by
          have := fit.dp
          simp only [PyData.depthAll]
          omega
        refine ⟨.ref l, rfl, l, [y], [dd], rfl, SqL.of el5, .cons (rp _ _ (Same.refl _)) .nil, dep, fit.len1, ?_⟩
        refine ⟨y, rfl, (by show 1 ≤ sizeLine; decide), fun p2 hp2 => ⟨p2, [y], [dd], rfl, SqL.of upd_same, .cons (rp _ _ (same_new hp2)) .nil, dep, fit.len1, rfl, _, rfl, iteFB (neSame rfl) ?_⟩⟩
        have s12 := same_new (o := .lst [y]) hp2
        have T6 := T5.same s12
        have t6 : But a H (upd H11 p2 (.lst [y])) := t5.trans (But.of_same s12)
        have eW6 := s12 _ _ eW5
        have el6 := s12 _ _ el5
        obtain ⟨ty, isl, hty, kty, onlyL, flat⟩ := T6.isl (K := K) hy
        generalize upd H11 p2 (.lst [y]) = H12 at T6 t6 eW6 el6 hty ⊢
        refine ⟨y, rfl, y, .ty "list", ty, .type "list", isl, rfl, .ty _, hty, kty, isl, rfl, ite2 (fun c => ?_) (fun c => ?_)⟩
        · have ey2 := onlyL c
          subst ey2
          obtain ⟨xs, eL, lx, lx2, T7⟩ := T6.grow
          have nl : l ≠ pL := fun z => by
            rw [z, eL] at el6
            have := HO.lst.inj (Option.some.inj el6)
            rw [this] at lx2
            exact absurd lx2 (by show ¬ 2 ≤ 1; decide)
          refine ⟨.ref pL, rfl, .inl ⟨rfl, _, SqL.of eL⟩, pL, xs, _, rfl, rfl, eL, small1000 (by omega), ?_⟩
          have eW7 : (upd H12 pL (.lst (xs ++ [.str "late"]))) W = _ := (upd_ne nW).trans eW6
          have el7 : (upd H12 pL (.lst (xs ++ [.str "late"]))) l = _ := (upd_ne nl).trans el6
          have t7 : But a H (upd H12 pL (.lst (xs ++ [.str "late"]))) := t6.store fL
          generalize upd H12 pL (.lst (xs ++ [.str "late"])) = H13 at T7 eW7 el7 t7 ⊢
          refine ⟨.ref l, rfl, .ref pL, rfl, (by show 1 ≤ sizeLine; decide), fun p3 hp3 => ⟨l, p3, [.ref pL], rfl, rfl, SqL.of (same_new hp3 _ _ el7), SqL.of upd_same, one_all flat, _, rfl, iteF ?_⟩⟩
          exact ⟨⟨_, _, _, _, rfl⟩, T7.same (same_new hp3), t7.trans (But.new hp3), same_new hp3 _ _ eW7⟩
        · refine ⟨.ref l, rfl, y, rfl, (by show 1 ≤ sizeLine; decide), fun p3 hp3 => ⟨l, p3, [y], rfl, rfl, SqL.of (same_new hp3 _ _ el6), SqL.of upd_same, one_all flat, _, rfl, iteF ?_⟩⟩
          exact ⟨⟨_, _, _, _, rfl⟩, (T6.same (same_new hp3)).mono (by omega), t6.trans (But.new hp3), same_new hp3 _ _ eW6⟩
      · rintro σ H8 ⟨⟨u3, u4, u5, u6, rfl⟩, T3, t3, _⟩
        exact ⟨_, _, _, _, _, rfl, T3.mono (by show 2 * i + 2 ≤ 2 * (i + 1); omega), t3⟩
    · rintro σ H' ⟨v2, v3, v4, v5, v6, rfl, _, t1⟩
      exact q H' t1
end
end K04
namespace K04
open PySem PySem.Spec PyProof.Rows L2 OF
section
variable {P : Program} {w : World} {K : PySem.W.Frag} {mg : Str → Option Value} {base : Heap}
def spLaw (K : PySem.W.Frag) : Sp := fun vs H Q _ => ∃ (a : Addr) (ns : List Int), vs = [.ref a] ∧ SqL K H a (ns.map V.int) ∧ ns.length ≤ 63 ∧ ∀ H', Q (.bl true) H'
theorem scL : FnScope ["_law_script", "_law_k"] ["_law_script"] (defScope sLaw) := ⟨rfl, rfl, rfl, by decide +kernel, rfl, by decide +kernel, by decide +kernel⟩
theorem ok_law {f fC fX fR fK CF fF : Addr} {fd fdC fdX fdR fdK fdF : FuncData} {C I : Nat → Addr} {qF : Str} (F : Fun K "law" "law" sLaw f fd) (AE : AllE K mg CF C I) (KF : Kl K mg "FigureError" qF sFig CF fF bmF)
    (hn : PySem.W.specialIn K (.builtin "object.__class__") "__get__" = some (some (.builtin "getset_descriptor.__get__"))) (ht : PySem.W.takesIn K (.builtin "object.__class__") = some true)
    (G0 : FnOk P w K mg base CX0 1 fF fdF ["self", "text"] (spFig K)) (bF : Binds K fdF ["self", "text"] [])
    (FC : Fun K "_law_cell" "_law_cell" sCell fC fdC) (gC : mg "_law_cell" = some (.ref fC)) (bC : Binds K fdC ["_law_script", "_law_k"] [])
    (FX : Fun K "_law_box" "_law_box" sBox fX fdX) (gX : mg "_law_box" = some (.ref fX)) (bX : Binds K fdX ["_law_cell_here"] [])
    (GR : FnG P w K mg base 7 fR fdR ["_law_box_here"] spRight) (gR : mg "_law_right" = some (.ref fR)) (kR : PySem.W.keepIn K (.ref fR) = true) (bR : Binds K fdR ["_law_box_here"] [])
    (GK : FnOk P w K mg base CX0 1 fK fdK ["_law_e"] (spKinds K C)) (gK : mg "_law_kinds" = some (.ref fK)) (kK : PySem.W.keepIn K (.ref fK) = true) (bK : Binds K fdK ["_law_e"] [])
    (mi : mg "int" = none) (ml : mg "len" = none) (mr : mg "range" = none) (mx : mg "max" = none) (mn : mg "min" = none) (mis : mg "isinstance" = none) (mV : mg "ValueError" = none) : FnG P w K mg base 8 f fd ["_law_script"] (spLaw K) := by
  have GC : FnOk P w K mg base CX0 1 fC fdC ["_law_script", "_law_k"] (OF.spCell K) := ok_cell FC ml
  have GX : FnOk P w K mg base CX0 1 fX fdX ["_law_cell_here"] spBox := ok_box FX mi mx
  have T := KF.ox above_F
  have askF := KF.ask above_F hn ht
  obtain ⟨nmF, NF⟩ := KF.nam above_F hn ht AE.st
  refine okG F scL (fun vs H Q E h => ?_) (fun cdv A outer s H vs Q E gu hr h => ?_)
  · obtain ⟨a, ns, rfl, _⟩ := h
    rfl
  · obtain ⟨a, ns, rfl, hS, hlen, q⟩ := h
    have hr1 : Room 1 _ := hr.mono (by decide)
    have hr2 : Room 2 _ := hr.mono (by decide)
    apply Exists.intro
    apply And.intro
    · apply pss_cons
      · exact ps_for PassesOwn.never rfl (pi_range1 rfl mr (pa_cons (pe_callB (call_max2 rfl) (by rfl) mx PyProof.Rows.boot_max (pa_cons pe_int (pa_cons
            (pe_callB (call_min2 rfl) (by rfl) mn PyProof.Rows.boot_min (pa_cons pe_int (pa_cons (pe_callB call_len_seq (by rfl) ml PySem.boot_len (pa_cons (pv 0) pa_nil)) pa_nil))) pa_nil))) pa_nil))
          (pg_name (i := 1) scL.nd rfl (.inl rfl))
          (pss_one (ps_if (pt_not (pt_val (pe_callG GR gu hr (by rfl) gR kR bR pass0 (pa_cons (pe_call GX hr1 (by rfl) gX FX.kp bX .nil pass0 (pa_cons (pe_call GC hr1 (by rfl) gC FC.kp bC .nil pass0 (pa_cons (pv 0) (pa_cons (pv 1) pa_nil))) pa_nil)) pa_nil))))
            (pss_one (ps_ret pe_bl)) pss_nil))
      apply pss_one
      · exact ps_ret (pe_and (pe_callB call_askV (by rfl) mis PyProof.Rows.boot_isinstance (pa_cons (pe_madeP T KF.iC KF.tI G0 hr2 bF pass0 (by rfl) KF.g (pa_cons pe_str pa_nil)) (pa_cons (pe_bltn (v := .ty "ValueError") (by rfl) mV PyProof.Rows.Boot.«ValueError» rfl) pa_nil)))
          (pe_one (pe_cmpR (op_eqSame hr.units) (pe_call GK hr1 (by rfl) gK kK bK .nil pass0 (pa_cons (pe_madeP T KF.iC KF.tI G0 hr2 bF pass0 (by rfl) KF.g (pa_cons pe_str pa_nil)) pa_nil)) (pe_lst pa_nil) (nomark _))))
    refine ⟨.ref a, rfl, a, _, rfl, .inl hS, _, _, rfl, _, _, rfl, _, rfl, ?_, ?_, for_range (lo := 0) (n := _) (fun i σ H' => ∃ v, σ = [some (.ref a), v] ∧ SqL K H' a (ns.map V.int)) ⟨none, rfl, hS⟩ ?_ ?_⟩
    · rw [List.length_map]
      split <;> split <;> omega
    · rw [List.length_map]
      split <;> split <;> omega
    · rintro i σ H' hi ⟨v, rfl, hS'⟩
      have hi' : i < 1000 := by
        rw [List.length_map] at hi
        split at hi <;> split at hi <;> omega
      refine ⟨.ref a, rfl, .int (0 + i), rfl, a, ns, i, ?_, hS', hi', fun c => ?_⟩
      · rw [Int.zero_add]
        rfl
      refine ⟨c, rfl, fun p H1 hp s1 B1 => ?_⟩
      refine ⟨p, rfl, B1, fun H2 t2 => ⟨true, rfl, iteF ?_⟩⟩
      exact ⟨some (.int (0 + i)), rfl, seq_past hp s1 t2 hS'⟩
    · rintro σ H' ⟨v, rfl, hS'⟩
      refine ⟨(by show 1 ≤ 1000; decide), made_F T NF (fun e H1 s1 er => ?_)⟩
      obtain ⟨d, ee, ed⟩ := er
      refine ⟨e, CF, d, .ty "ValueError", .type "ValueError", true, rfl, askF, ee, ed, (fun u h => h), KF.kitV above_F, true, rfl, iteT ⟨(by show 1 ≤ 1000; decide), made_F T NF (fun e2 H2 s2 er2 => ?_)⟩⟩
      refine ⟨e2, CF, (fun _ => false), rfl, er2, askF, fun j hj => AE.kitU KF hj, fun l H3 s3 el => ?_⟩
      rw [trues_no] at el
      exact ⟨(by show 0 ≤ sizeLine; decide), fun p hp => ⟨l, p, [], rfl, rfl, SqL.of (same_new hp _ _ el), SqL.of upd_same, (fun v hv => by cases hv), q _⟩⟩
end
theorem cs_inj {l : List Addr} (h : l.Nodup) (i j : Nat) (hi : i < l.length) (hj : j < l.length) (e : l.getD i 0 = l.getD j 0) : i = j := by
  rw [List.getD_eq_getElem?_getD, List.getD_eq_getElem?_getD, List.getElem?_eq_getElem hi, List.getElem?_eq_getElem hj] at e
  have e2 : l[i] = l[j] := e
  have pw := List.pairwise_iff_getElem.mp h
  rcases Nat.lt_trichotomy i j with z | z | z
  · exact absurd e2 (pw i j hi hj z)
  · exact z
  · exact absurd e2.symm (pw j i hj hi z)
theorem cs_out {l : List Addr} {c : Addr} (h : (c :: l).Nodup) (i : Nat) (hi : i < l.length) : l.getD i 0 ≠ c := by
  intro e
  rw [List.getD_eq_getElem?_getD, List.getElem?_eq_getElem hi] at e
  have e2 : l[i] = c := e
  exact (List.nodup_cons.mp h).1 (e2 ▸ List.getElem_mem hi)
theorem all_mk {l : PySem.W.OpenLaw} {w : World} {K : PySem.W.Frag} {h : Heap} {mg : Str → Option Value} {fa f1 f2 f3 f4 f5 f6 f7 f8 f9 f10 CF fF C0 I0 C1 I1 C2 I2 C3 I3 C4 I4 C5 I5 C6 I6 C7 I7 C8 I8 C9 I9 C10 I10 C11 I11 C12 I12 C13 I13 C14 I14 C15 I15 C16 I16 C17 I17 C18 I18 C19 I19 C20 I20 C21 I21 C22 I22 C23 I23 C24 I24 C25 I25 C26 I26 C27 I27 C28 I28 C29 I29 C30 I30 : Addr}
    {od1 an1 od2 an2 od3 an3 od4 an4 od5 an5 od6 an6 od7 an7 od8 an8 od9 an9 od10 an10 : Option Addr}
    {sl1 sl2 sl3 sl4 sl5 sl6 sl7 sl8 sl9 sl10 : Array (Option Value)}
    {oc1 kV1 dc1 pm1 cd1 ct1 oc2 kV2 dc2 pm2 cd2 ct2 oc3 kV3 dc3 pm3 cd3 ct3 oc4 kV4 dc4 pm4 cd4 ct4 oc5 kV5 dc5 pm5 cd5 ct5 oc6 kV6 dc6 pm6 cd6 ct6 oc7 kV7 dc7 pm7 cd7 ct7 oc8 kV8 dc8 pm8 cd8 ct8 oc9 kV9 dc9 pm9 cd9 ct9 oc10 kV10 dc10 pm10 cd10 ct10 : Value}
    (X : K.In h) (G : h.Ns mainGlobals mg) (hfa : mg "law" = some (.ref fa))
    (a1 : PySem.W.nsIn K mainGlobals "_law_cell" = some (some (.ref f1)))
    (l1 : K.lookup f1 = some ⟨oc1, od1, .func (PySem.W.fnOf "_law_cell" "_law_cell" (defArgs sCell) (defBody sCell) (defScope sCell) .none kV1 dc1 pm1 an1 cd1 ct1), sl1⟩)
    (c1 : PySem.W.codeIn K cd1 "_law_cell" = true)
    (k1 : PySem.W.keepIn K (.ref f1) = true)
    (a2 : PySem.W.nsIn K mainGlobals "_law_box" = some (some (.ref f2)))
    (l2 : K.lookup f2 = some ⟨oc2, od2, .func (PySem.W.fnOf "_law_box" "_law_box" (defArgs sBox) (defBody sBox) (defScope sBox) .none kV2 dc2 pm2 an2 cd2 ct2), sl2⟩)
    (c2 : PySem.W.codeIn K cd2 "_law_box" = true)
    (k2 : PySem.W.keepIn K (.ref f2) = true)
    (a3 : PySem.W.nsIn K mainGlobals "_law_take" = some (some (.ref f3)))
    (l3 : K.lookup f3 = some ⟨oc3, od3, .func (PySem.W.fnOf "_law_take" "_law_take" (defArgs sTake) (defBody sTake) (defScope sTake) .none kV3 dc3 pm3 an3 cd3 ct3), sl3⟩)
    (c3 : PySem.W.codeIn K cd3 "_law_take" = true)
    (k3 : PySem.W.keepIn K (.ref f3) = true)
    (a4 : PySem.W.nsIn K mainGlobals "_law_mixed" = some (some (.ref f4)))
    (l4 : K.lookup f4 = some ⟨oc4, od4, .func (PySem.W.fnOf "_law_mixed" "_law_mixed" (defArgs sMixed) (defBody sMixed) (defScope sMixed) .none kV4 dc4 pm4 an4 cd4 ct4), sl4⟩)
    (c4 : PySem.W.codeIn K cd4 "_law_mixed" = true)
    (k4 : PySem.W.keepIn K (.ref f4) = true)
    (a5 : PySem.W.nsIn K mainGlobals "_law_made2" = some (some (.ref f5)))
    (l5 : K.lookup f5 = some ⟨oc5, od5, .func (PySem.W.fnOf "_law_made2" "_law_made2" (defArgs sMade2) (defBody sMade2) (defScope sMade2) .none kV5 dc5 pm5 an5 cd5 ct5), sl5⟩)
    (c5 : PySem.W.codeIn K cd5 "_law_made2" = true)
    (k5 : PySem.W.keepIn K (.ref f5) = true)
    (a6 : PySem.W.nsIn K mainGlobals "_law_made1" = some (some (.ref f6)))
    (l6 : K.lookup f6 = some ⟨oc6, od6, .func (PySem.W.fnOf "_law_made1" "_law_made1" (defArgs sMade1) (defBody sMade1) (defScope sMade1) .none kV6 dc6 pm6 an6 cd6 ct6), sl6⟩)
    (c6 : PySem.W.codeIn K cd6 "_law_made1" = true)
    (k6 : PySem.W.keepIn K (.ref f6) = true)
    (a7 : PySem.W.nsIn K mainGlobals "_law_made0" = some (some (.ref f7)))
    (l7 : K.lookup f7 = some ⟨oc7, od7, .func (PySem.W.fnOf "_law_made0" "_law_made0" (defArgs sMade0) (defBody sMade0) (defScope sMade0) .none kV7 dc7 pm7 an7 cd7 ct7), sl7⟩)
    (c7 : PySem.W.codeIn K cd7 "_law_made0" = true)
    (k7 : PySem.W.keepIn K (.ref f7) = true)
    (a8 : PySem.W.nsIn K mainGlobals "_law_kinds" = some (some (.ref f8)))
    (l8 : K.lookup f8 = some ⟨oc8, od8, .func (PySem.W.fnOf "_law_kinds" "_law_kinds" (defArgs sKinds) (defBody sKinds) (defScope sKinds) .none kV8 dc8 pm8 an8 cd8 ct8), sl8⟩)
    (c8 : PySem.W.codeIn K cd8 "_law_kinds" = true)
    (k8 : PySem.W.keepIn K (.ref f8) = true)
    (a9 : PySem.W.nsIn K mainGlobals "_law_right" = some (some (.ref f9)))
    (l9 : K.lookup f9 = some ⟨oc9, od9, .func (PySem.W.fnOf "_law_right" "_law_right" (defArgs sRight) (defBody sRight) (defScope sRight) .none kV9 dc9 pm9 an9 cd9 ct9), sl9⟩)
    (c9 : PySem.W.codeIn K cd9 "_law_right" = true)
    (k9 : PySem.W.keepIn K (.ref f9) = true)
    (a10 : PySem.W.nsIn K mainGlobals "law" = some (some (.ref f10)))
    (l10 : K.lookup f10 = some ⟨oc10, od10, .func (PySem.W.fnOf "law" "law" (defArgs sLaw) (defBody sLaw) (defScope sLaw) .none kV10 dc10 pm10 an10 cd10 ct10), sl10⟩)
    (c10 : PySem.W.codeIn K cd10 "law" = true)
    (k10 : PySem.W.keepIn K (.ref f10) = true)
    (KF : Kl K mg "FigureError" "FigureError.__init__" sFig CF fF bmF)
    (rF : PySem.W.readsIn K CF (.type "type") = true)
    (gaF : PySem.W.specialIn K (.ref CF) "__getattribute__" = some (some (.builtin "type.__getattribute__")))
    (atF : PySem.W.findCls K (.ref CF) (.type "type") "__init__" = some (.val (.ref fF)))
    (kF : PySem.W.keepIn K (.ref fF) = true)
    (vV : PySem.W.findCls K (.type "ValueError") (.type "type") "__init__" = some (.val (.builtin "ValueError.__init__")))
    (hn : PySem.W.specialIn K (.builtin "object.__class__") "__get__" = some (some (.builtin "getset_descriptor.__get__")))
    (ht : PySem.W.takesIn K (.builtin "object.__class__") = some true)
    (stE : PySem.W.nsIn K cStatics "thirdparty.any" = some none)
    (e0 : Kl K mg "InvalidBase" "InvalidBase.__init__" sI0 C0 I0 (bmE CF))
    (n0_0 : PySem.W.findIn K (.ref C0) "value" = some none)
    (e1 : Kl K mg "InvalidDigits" "InvalidDigits.__init__" sI1 C1 I1 (bmE CF))
    (n1_0 : PySem.W.findIn K (.ref C1) "value" = some none)
    (e2 : Kl K mg "InvalidBars" "InvalidBars.__init__" sI2 C2 I2 (bmE CF))
    (n2_0 : PySem.W.findIn K (.ref C2) "value" = some none)
    (e3 : Kl K mg "InvalidRow" "InvalidRow.__init__" sI3 C3 I3 (bmE CF))
    (n3_0 : PySem.W.findIn K (.ref C3) "row" = some none)
    (e4 : Kl K mg "InvalidText" "InvalidText.__init__" sI4 C4 I4 (bmE CF))
    (n4_0 : PySem.W.findIn K (.ref C4) "text" = some none)
    (e5 : Kl K mg "InvalidNumber" "InvalidNumber.__init__" sI5 C5 I5 (bmE CF))
    (n5_0 : PySem.W.findIn K (.ref C5) "number" = some none)
    (e6 : Kl K mg "InvalidLength" "InvalidLength.__init__" sI6 C6 I6 (bmE CF))
    (n6_0 : PySem.W.findIn K (.ref C6) "length" = some none)
    (e7 : Kl K mg "InvalidTerms" "InvalidTerms.__init__" sI7 C7 I7 (bmE CF))
    (n7_0 : PySem.W.findIn K (.ref C7) "value" = some none)
    (e8 : Kl K mg "InvalidTerm" "InvalidTerm.__init__" sI8 C8 I8 (bmE CF))
    (n8_0 : PySem.W.findIn K (.ref C8) "term" = some none)
    (e9 : Kl K mg "InvalidRows" "InvalidRows.__init__" sI9 C9 I9 (bmE CF))
    (n9_0 : PySem.W.findIn K (.ref C9) "rows" = some none)
    (e10 : Kl K mg "InvalidState" "InvalidState.__init__" sI10 C10 I10 (bmE CF))
    (n10_0 : PySem.W.findIn K (.ref C10) "state" = some none)
    (e11 : Kl K mg "InvalidReading" "InvalidReading.__init__" sI11 C11 I11 (bmE CF))
    (n11_0 : PySem.W.findIn K (.ref C11) "reading" = some none)
    (e12 : Kl K mg "InvalidPrices" "InvalidPrices.__init__" sI12 C12 I12 (bmE CF))
    (n12_0 : PySem.W.findIn K (.ref C12) "prices" = some none)
    (e13 : Kl K mg "InvalidLag" "InvalidLag.__init__" sI13 C13 I13 (bmE CF))
    (n13_0 : PySem.W.findIn K (.ref C13) "value" = some none)
    (e14 : Kl K mg "InvalidTable" "InvalidTable.__init__" sI14 C14 I14 (bmE CF))
    (n14_0 : PySem.W.findIn K (.ref C14) "value" = some none)
    (e15 : Kl K mg "InvalidWord" "InvalidWord.__init__" sI15 C15 I15 (bmE CF))
    (n15_0 : PySem.W.findIn K (.ref C15) "word" = some none)
    (e16 : Kl K mg "InvalidName" "InvalidName.__init__" sI16 C16 I16 (bmE CF))
    (n16_0 : PySem.W.findIn K (.ref C16) "name" = some none)
    (e17 : Kl K mg "InvalidLine" "InvalidLine.__init__" sI17 C17 I17 (bmE CF))
    (n17_0 : PySem.W.findIn K (.ref C17) "line" = some none)
    (e18 : Kl K mg "UnknownDigit" "UnknownDigit.__init__" sI18 C18 I18 (bmE CF))
    (n18_0 : PySem.W.findIn K (.ref C18) "digit" = some none)
    (e19 : Kl K mg "UnknownName" "UnknownName.__init__" sI19 C19 I19 (bmE CF))
    (n19_0 : PySem.W.findIn K (.ref C19) "name" = some none)
    (e20 : Kl K mg "UnlikeBases" "UnlikeBases.__init__" sI20 C20 I20 (bmE CF))
    (n20_0 : PySem.W.findIn K (.ref C20) "value" = some none)
    (e21 : Kl K mg "NameTaken" "NameTaken.__init__" sI21 C21 I21 (bmE CF))
    (n21_0 : PySem.W.findIn K (.ref C21) "name" = some none)
    (e22 : Kl K mg "NotWritten" "NotWritten.__init__" sI22 C22 I22 (bmE CF))
    (n22_0 : PySem.W.findIn K (.ref C22) "number" = some none)
    (e23 : Kl K mg "InUse" "InUse.__init__" sI23 C23 I23 (bmE CF))
    (n23_0 : PySem.W.findIn K (.ref C23) "name" = some none)
    (e24 : Kl K mg "NotScheme" "NotScheme.__init__" sI24 C24 I24 (bmE CF))
    (n24_0 : PySem.W.findIn K (.ref C24) "value" = some none)
    (e25 : Kl K mg "NotForm" "NotForm.__init__" sI25 C25 I25 (bmE CF))
    (n25_0 : PySem.W.findIn K (.ref C25) "value" = some none)
    (e26 : Kl K mg "NotMachine" "NotMachine.__init__" sI26 C26 I26 (bmE CF))
    (n26_0 : PySem.W.findIn K (.ref C26) "value" = some none)
    (e27 : Kl K mg "TooMany" "TooMany.__init__" sI27 C27 I27 (bmE CF))
    (n27_0 : PySem.W.findIn K (.ref C27) "most" = some none)
    (e28 : Kl K mg "InvalidRatio" "InvalidRatio.__init__" sI28 C28 I28 (bmE CF))
    (n28_0 : PySem.W.findIn K (.ref C28) "top" = some none)
    (n28_1 : PySem.W.findIn K (.ref C28) "bottom" = some none)
    (e29 : Kl K mg "UnlikeForms" "UnlikeForms.__init__" sI29 C29 I29 (bmE CF))
    (n29_0 : PySem.W.findIn K (.ref C29) "one" = some none)
    (n29_1 : PySem.W.findIn K (.ref C29) "other" = some none)
    (e30 : Kl K mg "NothingToUndo" "NothingToUndo.__init__" sI30 C30 I30 (bmE CF))
    (hnd : (CF :: [C0, C1, C2, C3, C4, C5, C6, C7, C8, C9, C10, C11, C12, C13, C14, C15, C16, C17, C18, C19, C20, C21, C22, C23, C24, C25, C26, C27, C28, C29, C30]).Nodup)
    (z1 : PySem.W.nsIn K mainGlobals "len" = some none)
    (z2 : PySem.W.nsIn K mainGlobals "range" = some none)
    (z3 : PySem.W.nsIn K mainGlobals "int" = some none)
    (z4 : PySem.W.nsIn K mainGlobals "isinstance" = some none)
    (z5 : PySem.W.nsIn K mainGlobals "repr" = some none)
    (z6 : PySem.W.nsIn K mainGlobals "enumerate" = some none)
    (z7 : PySem.W.nsIn K mainGlobals "list" = some none)
    (z8 : PySem.W.nsIn K mainGlobals "max" = some none)
    (z9 : PySem.W.nsIn K mainGlobals "min" = some none)
    (z10 : PySem.W.nsIn K mainGlobals "ValueError" = some none)
    : ∃ fd : FuncData, (∀ (s : Shared) (v : Value), BindsTo s fd ⟨[v], []⟩ [("_law_script", v)]) ∧ ∀ base : Heap, K.In base → base.Ns mainGlobals mg → FnG l.prog w K mg base 8 fa fd ["_law_script"] (spLaw K) := by
  have e := hfa.symm.trans (PySem.W.mg_of X G a10)
  cases e
  have F1 := fun_mk (st := sCell) l1 c1 k1
  have g1 := PySem.W.mg_of X G a1
  have b1 := F1.binds (ps := ["_law_script", "_law_k"]) fun _ _ _ _ _ _ us hl => match us, hl with | [_, _], _ => rfl
  have F2 := fun_mk (st := sBox) l2 c2 k2
  have g2 := PySem.W.mg_of X G a2
  have b2 := F2.binds (ps := ["_law_cell_here"]) fun _ _ _ _ _ _ us hl => match us, hl with | [_], _ => rfl
  have F3 := fun_mk (st := sTake) l3 c3 k3
  have g3 := PySem.W.mg_of X G a3
  have b3 := F3.binds (ps := ["_law_box_here", "_law_many"]) fun _ _ _ _ _ _ us hl => match us, hl with | [_, _], _ => rfl
  have F4 := fun_mk (st := sMixed) l4 c4 k4
  have g4 := PySem.W.mg_of X G a4
  have b4 := F4.binds (ps := ["_law_box_here", "_law_some"]) fun _ _ _ _ _ _ us hl => match us, hl with | [_, _], _ => rfl
  have F5 := fun_mk (st := sMade2) l5 c5 k5
  have g5 := PySem.W.mg_of X G a5
  have b5 := F5.binds (ps := ["_law_place", "_law_thing", "_law_way"]) fun _ _ _ _ _ _ us hl => match us, hl with | [_, _, _], _ => rfl
  have F6 := fun_mk (st := sMade1) l6 c6 k6
  have g6 := PySem.W.mg_of X G a6
  have b6 := F6.binds (ps := ["_law_place", "_law_thing", "_law_way"]) fun _ _ _ _ _ _ us hl => match us, hl with | [_, _, _], _ => rfl
  have F7 := fun_mk (st := sMade0) l7 c7 k7
  have g7 := PySem.W.mg_of X G a7
  have b7 := F7.binds (ps := ["_law_place", "_law_thing", "_law_way"]) fun _ _ _ _ _ _ us hl => match us, hl with | [_, _, _], _ => rfl
  have F8 := fun_mk (st := sKinds) l8 c8 k8
  have g8 := PySem.W.mg_of X G a8
  have b8 := F8.binds (ps := ["_law_e"]) fun _ _ _ _ _ _ us hl => match us, hl with | [_], _ => rfl
  have F9 := fun_mk (st := sRight) l9 c9 k9
  have g9 := PySem.W.mg_of X G a9
  have b9 := F9.binds (ps := ["_law_box_here"]) fun _ _ _ _ _ _ us hl => match us, hl with | [_], _ => rfl
  have F10 := fun_mk (st := sLaw) l10 c10 k10
  have g10 := PySem.W.mg_of X G a10
  have b10 := F10.binds (ps := ["_law_script"]) fun _ _ _ _ _ _ us hl => match us, hl with | [_], _ => rfl
  obtain ⟨fdF, FF⟩ := KF.fn
  have bF := FF.binds (ps := ["self", "text"]) fun _ _ _ _ _ _ us hl => match us, hl with | [_, _], _ => rfl
  have TF : FigC K mg CF fF := ⟨KF.g, ⟨rF, gaF⟩, atF, kF⟩
  have y_len := PySem.W.mg_none_of X G z1
  have y_range := PySem.W.mg_none_of X G z2
  have y_int := PySem.W.mg_none_of X G z3
  have y_isinstance := PySem.W.mg_none_of X G z4
  have y_repr := PySem.W.mg_none_of X G z5
  have y_enumerate := PySem.W.mg_none_of X G z6
  have y_list := PySem.W.mg_none_of X G z7
  have y_max := PySem.W.mg_none_of X G z8
  have y_min := PySem.W.mg_none_of X G z9
  have y_ValueError := PySem.W.mg_none_of X G z10
  have AE : AllE K mg CF (fun i => [C0, C1, C2, C3, C4, C5, C6, C7, C8, C9, C10, C11, C12, C13, C14, C15, C16, C17, C18, C19, C20, C21, C22, C23, C24, C25, C26, C27, C28, C29, C30].getD i 0) (fun i => [I0, I1, I2, I3, I4, I5, I6, I7, I8, I9, I10, I11, I12, I13, I14, I15, I16, I17, I18, I19, I20, I21, I22, I23, I24, I25, I26, I27, I28, I29, I30].getD i 0) := {
    hn := hn
    ht := ht
    st := stE
    e0 := e0
    n0_0 := n0_0
    e1 := e1
    n1_0 := n1_0
    e2 := e2
    n2_0 := n2_0
    e3 := e3
    n3_0 := n3_0
    e4 := e4
    n4_0 := n4_0
    e5 := e5
    n5_0 := n5_0
    e6 := e6
    n6_0 := n6_0
    e7 := e7
    n7_0 := n7_0
    e8 := e8
    n8_0 := n8_0
    e9 := e9
    n9_0 := n9_0
    e10 := e10
    n10_0 := n10_0
    e11 := e11
    n11_0 := n11_0
    e12 := e12
    n12_0 := n12_0
    e13 := e13
    n13_0 := n13_0
    e14 := e14
    n14_0 := n14_0
    e15 := e15
    n15_0 := n15_0
    e16 := e16
    n16_0 := n16_0
    e17 := e17
    n17_0 := n17_0
    e18 := e18
    n18_0 := n18_0
    e19 := e19
    n19_0 := n19_0
    e20 := e20
    n20_0 := n20_0
    e21 := e21
    n21_0 := n21_0
    e22 := e22
    n22_0 := n22_0
    e23 := e23
    n23_0 := n23_0
    e24 := e24
    n24_0 := n24_0
    e25 := e25
    n25_0 := n25_0
    e26 := e26
    n26_0 := n26_0
    e27 := e27
    n27_0 := n27_0
    e28 := e28
    n28_0 := n28_0
    n28_1 := n28_1
    e29 := e29
    n29_0 := n29_0
    n29_1 := n29_1
    e30 := e30
    inj := fun i j hi hj => cs_inj (List.nodup_cons.mp hnd).2 i j hi hj
    out := fun i hi => cs_out hnd i hi }
  refine ⟨PySem.W.fnOf "law" "law" (defArgs sLaw) (defBody sLaw) (defScope sLaw) .none kV10 dc10 pm10 an10 cd10 ct10, fun s v => .of_eq rfl, fun base _ _ => ?_⟩
  have G0 : FnOk l.prog w K mg base CX0 1 _ _ ["self", "text"] (spFig K) := ok_fig FF y_ValueError vV
  have GM : FnOk l.prog w K mg base CX0 2 _ _ ["_law_box_here", "_law_some"] (spMixed K) := ok_mixed F4 F3 g3 b3 y_int y_len y_range y_list
  have G2 := ok_made2 (P := l.prog) (w := w) (base := base) F5 AE G0 TF bF
  have G1 := ok_made1 (P := l.prog) (w := w) (base := base) F6 AE G0 TF bF G2 g5 F5.kp b5
  have GD := ok_made0 (P := l.prog) (w := w) (base := base) F7 AE G0 TF bF G1 g6 F6.kp b6
  have GK := ok_kinds (P := l.prog) (w := w) (base := base) F8 AE y_isinstance y_enumerate
  have R := ok_right (P := l.prog) (w := w) (base := base) F9 AE KF hn ht GM g4 F4.kp b4 GD g7 F7.kp b7 GK g8 F8.kp b8 y_int y_range y_isinstance y_repr y_list y_ValueError
  exact ok_law F10 AE KF hn ht G0 bF F1 g1 b1 F2 g2 b2 R g9 F9.kp b9 GK g8 F8.kp b8 y_int y_len y_range y_max y_min y_isinstance y_ValueError
end K04
open PySem PySem.W PyProof.Rows
set_option maxRecDepth 100000 in
set_option maxHeartbeats 0 in
theorem PySem.Challenge.cw_oddfigures_k04_errors_by_class_holds : PySem.Challenge.rw_oddfigures_k04_errors_by_class.Holds := by
  w_on; o_law; k_head; (case hw => w_witness2)
  k_fill
  refine OF.walkG (l := PySem.Challenge.rw_oddfigures_k04_errors_by_class) (m := 63) (n := 8) (x := "_law_script") (sp := fun w => K04.spLaw _) rfl (by decide) rfl ⟨rfl, by decide, by decide⟩ (fun w h Y => PySem.W.kIn_of Y) ?F (fun _ _ a ns hl hS => ⟨a, ns, rfl, hS, hl, fun _ => rfl⟩)
  case F =>
    intro w mg fa h KX G hmg
    refine' K04.all_mk KX G hmg ?a1 ?l1 ?c1 ?k1 ?a2 ?l2 ?c2 ?k2 ?a3 ?l3 ?c3 ?k3 ?a4 ?l4 ?c4 ?k4 ?a5 ?l5 ?c5 ?k5 ?a6 ?l6 ?c6 ?k6 ?a7 ?l7 ?c7 ?k7 ?a8 ?l8 ?c8 ?k8 ?a9 ?l9 ?c9 ?k9 ?a10 ?l10 ?c10 ?k10 ?KF ?rF ?gaF ?atF ?kF ?vV ?hn ?ht ?stE ?e0 ?n0_0 ?e1 ?n1_0 ?e2 ?n2_0 ?e3 ?n3_0 ?e4 ?n4_0 ?e5 ?n5_0 ?e6 ?n6_0 ?e7 ?n7_0 ?e8 ?n8_0 ?e9 ?n9_0 ?e10 ?n10_0 ?e11 ?n11_0 ?e12 ?n12_0 ?e13 ?n13_0 ?e14 ?n14_0 ?e15 ?n15_0 ?e16 ?n16_0 ?e17 ?n17_0 ?e18 ?n18_0 ?e19 ?n19_0 ?e20 ?n20_0 ?e21 ?n21_0 ?e22 ?n22_0 ?e23 ?n23_0 ?e24 ?n24_0 ?e25 ?n25_0 ?e26 ?n26_0 ?e27 ?n27_0 ?e28 ?n28_0 ?n28_1 ?e29 ?n29_0 ?n29_1 ?e30 ?hnd ?z1 ?z2 ?z3 ?z4 ?z5 ?z6 ?z7 ?z8 ?z9 ?z10 
    case a1 => k_is
    case l1 => k_is
    case c1 => k_is
    case k1 => k_is
    case a2 => k_is
    case l2 => k_is
    case c2 => k_is
    case k2 => k_is
    case a3 => k_is
    case l3 => k_is
    case c3 => k_is
    case k3 => k_is
    case a4 => k_is
    case l4 => k_is
    case c4 => k_is
    case k4 => k_is
    case a5 => k_is
    case l5 => k_is
    case c5 => k_is
    case k5 => k_is
    case a6 => k_is
    case l6 => k_is
    case c6 => k_is
    case k6 => k_is
    case a7 => k_is
    case l7 => k_is
    case c7 => k_is
    case k7 => k_is
    case a8 => k_is
    case l8 => k_is
    case c8 => k_is
    case k8 => k_is
    case a9 => k_is
    case l9 => k_is
    case c9 => k_is
    case k9 => k_is
    case a10 => k_is
    case l10 => k_is
    case c10 => k_is
    case k10 => k_is
    case KF =>
      refine' OF.kl_mk KX G ?xa ?xl ?xs ?xk ?xi ?xt ?xg ?xh ?xc ?xf ?xd ?xp ?xq ?xr
      case xa => k_is
      case xl => k_is
      case xs => k_is
      case xk => k_is
      case xi => k_is
      case xt => k_is
      case xg => k_is
      case xh => k_is
      case xc => k_is
      case xf => k_is
      case xd => k_is
      case xp => k_is
      case xq => k_is
      case xr => k_is
    case rF => k_is
    case gaF => k_is
    case atF => k_is
    case kF => k_is
    case vV => k_is
    case hn => k_is
    case ht => k_is
    case stE => k_is
    case e0 =>
      refine' OF.kl_mk KX G ?xa ?xl ?xs ?xk ?xi ?xt ?xg ?xh ?xc ?xf ?xd ?xp ?xq ?xr
      case xa => k_is
      case xl => k_is
      case xs => k_is
      case xk => k_is
      case xi => k_is
      case xt => k_is
      case xg => k_is
      case xh => k_is
      case xc => k_is
      case xf => k_is
      case xd => k_is
      case xp => k_is
      case xq => k_is
      case xr => k_is
    case n0_0 => k_is
    case e1 =>
      refine' OF.kl_mk KX G ?xa ?xl ?xs ?xk ?xi ?xt ?xg ?xh ?xc ?xf ?xd ?xp ?xq ?xr
      case xa => k_is
      case xl => k_is
      case xs => k_is
      case xk => k_is
      case xi => k_is
      case xt => k_is
      case xg => k_is
      case xh => k_is
      case xc => k_is
      case xf => k_is
      case xd => k_is
      case xp => k_is
      case xq => k_is
      case xr => k_is
    case n1_0 => k_is
    case e2 =>
      refine' OF.kl_mk KX G ?xa ?xl ?xs ?xk ?xi ?xt ?xg ?xh ?xc ?xf ?xd ?xp ?xq ?xr
      case xa => k_is
      case xl => k_is
      case xs => k_is
      case xk => k_is
      case xi => k_is
      case xt => k_is
      case xg => k_is
      case xh => k_is
      case xc => k_is
      case xf => k_is
      case xd => k_is
      case xp => k_is
      case xq => k_is
      case xr => k_is
    case n2_0 => k_is
    case e3 =>
      refine' OF.kl_mk KX G ?xa ?xl ?xs ?xk ?xi ?xt ?xg ?xh ?xc ?xf ?xd ?xp ?xq ?xr
      case xa => k_is
      case xl => k_is
      case xs => k_is
      case xk => k_is
      case xi => k_is
      case xt => k_is
      case xg => k_is
      case xh => k_is
      case xc => k_is
      case xf => k_is
      case xd => k_is
      case xp => k_is
      case xq => k_is
      case xr => k_is
    case n3_0 => k_is
    case e4 =>
      refine' OF.kl_mk KX G ?xa ?xl ?xs ?xk ?xi ?xt ?xg ?xh ?xc ?xf ?xd ?xp ?xq ?xr
      case xa => k_is
      case xl => k_is
      case xs => k_is
      case xk => k_is
      case xi => k_is
      case xt => k_is
      case xg => k_is
      case xh => k_is
      case xc => k_is
      case xf => k_is
      case xd => k_is
      case xp => k_is
      case xq => k_is
      case xr => k_is
    case n4_0 => k_is
    case e5 =>
      refine' OF.kl_mk KX G ?xa ?xl ?xs ?xk ?xi ?xt ?xg ?xh ?xc ?xf ?xd ?xp ?xq ?xr
      case xa => k_is
      case xl => k_is
      case xs => k_is
      case xk => k_is
      case xi => k_is
      case xt => k_is
      case xg => k_is
      case xh => k_is
      case xc => k_is
      case xf => k_is
      case xd => k_is
      case xp => k_is
      case xq => k_is
      case xr => k_is
    case n5_0 => k_is
    case e6 =>
      refine' OF.kl_mk KX G ?xa ?xl ?xs ?xk ?xi ?xt ?xg ?xh ?xc ?xf ?xd ?xp ?xq ?xr
      case xa => k_is
      case xl => k_is
      case xs => k_is
      case xk => k_is
      case xi => k_is
      case xt => k_is
      case xg => k_is
      case xh => k_is
      case xc => k_is
      case xf => k_is
      case xd => k_is
      case xp => k_is
      case xq => k_is
      case xr => k_is
    case n6_0 => k_is
    case e7 =>
      refine' OF.kl_mk KX G ?xa ?xl ?xs ?xk ?xi ?xt ?xg ?xh ?xc ?xf ?xd ?xp ?xq ?xr
      case xa => k_is
      case xl => k_is
      case xs => k_is
      case xk => k_is
      case xi => k_is
      case xt => k_is
      case xg => k_is
      case xh => k_is
      case xc => k_is
      case xf => k_is
      case xd => k_is
      case xp => k_is
      case xq => k_is
      case xr => k_is
    case n7_0 => k_is
    case e8 =>
      refine' OF.kl_mk KX G ?xa ?xl ?xs ?xk ?xi ?xt ?xg ?xh ?xc ?xf ?xd ?xp ?xq ?xr
      case xa => k_is
      case xl => k_is
      case xs => k_is
      case xk => k_is
      case xi => k_is
      case xt => k_is
      case xg => k_is
      case xh => k_is
      case xc => k_is
      case xf => k_is
      case xd => k_is
      case xp => k_is
      case xq => k_is
      case xr => k_is
    case n8_0 => k_is
    case e9 =>
      refine' OF.kl_mk KX G ?xa ?xl ?xs ?xk ?xi ?xt ?xg ?xh ?xc ?xf ?xd ?xp ?xq ?xr
      case xa => k_is
      case xl => k_is
      case xs => k_is
      case xk => k_is
      case xi => k_is
      case xt => k_is
      case xg => k_is
      case xh => k_is
      case xc => k_is
      case xf => k_is
      case xd => k_is
      case xp => k_is
      case xq => k_is
      case xr => k_is
    case n9_0 => k_is
    case e10 =>
      refine' OF.kl_mk KX G ?xa ?xl ?xs ?xk ?xi ?xt ?xg ?xh ?xc ?xf ?xd ?xp ?xq ?xr
      case xa => k_is
      case xl => k_is
      case xs => k_is
      case xk => k_is
      case xi => k_is
      case xt => k_is
      case xg => k_is
      case xh => k_is
      case xc => k_is
      case xf => k_is
      case xd => k_is
      case xp => k_is
      case xq => k_is
      case xr => k_is
    case n10_0 => k_is
    case e11 =>
      refine' OF.kl_mk KX G ?xa ?xl ?xs ?xk ?xi ?xt ?xg ?xh ?xc ?xf ?xd ?xp ?xq ?xr
      case xa => k_is
      case xl => k_is
      case xs => k_is
      case xk => k_is
      case xi => k_is
      case xt => k_is
      case xg => k_is
      case xh => k_is
      case xc => k_is
      case xf => k_is
      case xd => k_is
      case xp => k_is
      case xq => k_is
      case xr => k_is
    case n11_0 => k_is
    case e12 =>
      refine' OF.kl_mk KX G ?xa ?xl ?xs ?xk ?xi ?xt ?xg ?xh ?xc ?xf ?xd ?xp ?xq ?xr
      case xa => k_is
      case xl => k_is
      case xs => k_is
      case xk => k_is
      case xi => k_is
      case xt => k_is
      case xg => k_is
      case xh => k_is
      case xc => k_is
      case xf => k_is
      case xd => k_is
      case xp => k_is
      case xq => k_is
      case xr => k_is
    case n12_0 => k_is
    case e13 =>
      refine' OF.kl_mk KX G ?xa ?xl ?xs ?xk ?xi ?xt ?xg ?xh ?xc ?xf ?xd ?xp ?xq ?xr
      case xa => k_is
      case xl => k_is
      case xs => k_is
      case xk => k_is
      case xi => k_is
      case xt => k_is
      case xg => k_is
      case xh => k_is
      case xc => k_is
      case xf => k_is
      case xd => k_is
      case xp => k_is
      case xq => k_is
      case xr => k_is
    case n13_0 => k_is
    case e14 =>
      refine' OF.kl_mk KX G ?xa ?xl ?xs ?xk ?xi ?xt ?xg ?xh ?xc ?xf ?xd ?xp ?xq ?xr
      case xa => k_is
      case xl => k_is
      case xs => k_is
      case xk => k_is
      case xi => k_is
      case xt => k_is
      case xg => k_is
      case xh => k_is
      case xc => k_is
      case xf => k_is
      case xd => k_is
      case xp => k_is
      case xq => k_is
      case xr => k_is
    case n14_0 => k_is
    case e15 =>
      refine' OF.kl_mk KX G ?xa ?xl ?xs ?xk ?xi ?xt ?xg ?xh ?xc ?xf ?xd ?xp ?xq ?xr
      case xa => k_is
      case xl => k_is
      case xs => k_is
      case xk => k_is
      case xi => k_is
      case xt => k_is
      case xg => k_is
      case xh => k_is
      case xc => k_is
      case xf => k_is
      case xd => k_is
      case xp => k_is
      case xq => k_is
      case xr => k_is
    case n15_0 => k_is
    case e16 =>
      refine' OF.kl_mk KX G ?xa ?xl ?xs ?xk ?xi ?xt ?xg ?xh ?xc ?xf ?xd ?xp ?xq ?xr
      case xa => k_is
      case xl => k_is
      case xs => k_is
      case xk => k_is
      case xi => k_is
      case xt => k_is
      case xg => k_is
      case xh => k_is
      case xc => k_is
      case xf => k_is
      case xd => k_is
      case xp => k_is
      case xq => k_is
      case xr => k_is
    case n16_0 => k_is
    case e17 =>
      refine' OF.kl_mk KX G ?xa ?xl ?xs ?xk ?xi ?xt ?xg ?xh ?xc ?xf ?xd ?xp ?xq ?xr
      case xa => k_is
      case xl => k_is
      case xs => k_is
      case xk => k_is
      case xi => k_is
      case xt => k_is
      case xg => k_is
      case xh => k_is
      case xc => k_is
      case xf => k_is
      case xd => k_is
      case xp => k_is
      case xq => k_is
      case xr => k_is
    case n17_0 => k_is
    case e18 =>
      refine' OF.kl_mk KX G ?xa ?xl ?xs ?xk ?xi ?xt ?xg ?xh ?xc ?xf ?xd ?xp ?xq ?xr
      case xa => k_is
      case xl => k_is
      case xs => k_is
      case xk => k_is
      case xi => k_is
      case xt => k_is
      case xg => k_is
      case xh => k_is
      case xc => k_is
      case xf => k_is
      case xd => k_is
      case xp => k_is
      case xq => k_is
      case xr => k_is
    case n18_0 => k_is
    case e19 =>
      refine' OF.kl_mk KX G ?xa ?xl ?xs ?xk ?xi ?xt ?xg ?xh ?xc ?xf ?xd ?xp ?xq ?xr
      case xa => k_is
      case xl => k_is
      case xs => k_is
      case xk => k_is
      case xi => k_is
      case xt => k_is
      case xg => k_is
      case xh => k_is
      case xc => k_is
      case xf => k_is
      case xd => k_is
      case xp => k_is
      case xq => k_is
      case xr => k_is
    case n19_0 => k_is
    case e20 =>
      refine' OF.kl_mk KX G ?xa ?xl ?xs ?xk ?xi ?xt ?xg ?xh ?xc ?xf ?xd ?xp ?xq ?xr
      case xa => k_is
      case xl => k_is
      case xs => k_is
      case xk => k_is
      case xi => k_is
      case xt => k_is
      case xg => k_is
      case xh => k_is
      case xc => k_is
      case xf => k_is
      case xd => k_is
      case xp => k_is
      case xq => k_is
      case xr => k_is
    case n20_0 => k_is
    case e21 =>
      refine' OF.kl_mk KX G ?xa ?xl ?xs ?xk ?xi ?xt ?xg ?xh ?xc ?xf ?xd ?xp ?xq ?xr
      case xa => k_is
      case xl => k_is
      case xs => k_is
      case xk => k_is
      case xi => k_is
      case xt => k_is
      case xg => k_is
      case xh => k_is
      case xc => k_is
      case xf => k_is
      case xd => k_is
      case xp => k_is
      case xq => k_is
      case xr => k_is
    case n21_0 => k_is
    case e22 =>
      refine' OF.kl_mk KX G ?xa ?xl ?xs ?xk ?xi ?xt ?xg ?xh ?xc ?xf ?xd ?xp ?xq ?xr
      case xa => k_is
      case xl => k_is
      case xs => k_is
      case xk => k_is
      case xi => k_is
      case xt => k_is
      case xg => k_is
      case xh => k_is
      case xc => k_is
      case xf => k_is
      case xd => k_is
      case xp => k_is
      case xq => k_is
      case xr => k_is
    case n22_0 => k_is
    case e23 =>
      refine' OF.kl_mk KX G ?xa ?xl ?xs ?xk ?xi ?xt ?xg ?xh ?xc ?xf ?xd ?xp ?xq ?xr
      case xa => k_is
      case xl => k_is
      case xs => k_is
      case xk => k_is
      case xi => k_is
      case xt => k_is
      case xg => k_is
      case xh => k_is
      case xc => k_is
      case xf => k_is
      case xd => k_is
      case xp => k_is
      case xq => k_is
      case xr => k_is
    case n23_0 => k_is
    case e24 =>
      refine' OF.kl_mk KX G ?xa ?xl ?xs ?xk ?xi ?xt ?xg ?xh ?xc ?xf ?xd ?xp ?xq ?xr
      case xa => k_is
      case xl => k_is
      case xs => k_is
      case xk => k_is
      case xi => k_is
      case xt => k_is
      case xg => k_is
      case xh => k_is
      case xc => k_is
      case xf => k_is
      case xd => k_is
      case xp => k_is
      case xq => k_is
      case xr => k_is
    case n24_0 => k_is
    case e25 =>
      refine' OF.kl_mk KX G ?xa ?xl ?xs ?xk ?xi ?xt ?xg ?xh ?xc ?xf ?xd ?xp ?xq ?xr
      case xa => k_is
      case xl => k_is
      case xs => k_is
      case xk => k_is
      case xi => k_is
      case xt => k_is
      case xg => k_is
      case xh => k_is
      case xc => k_is
      case xf => k_is
      case xd => k_is
      case xp => k_is
      case xq => k_is
      case xr => k_is
    case n25_0 => k_is
    case e26 =>
      refine' OF.kl_mk KX G ?xa ?xl ?xs ?xk ?xi ?xt ?xg ?xh ?xc ?xf ?xd ?xp ?xq ?xr
      case xa => k_is
      case xl => k_is
      case xs => k_is
      case xk => k_is
      case xi => k_is
      case xt => k_is
      case xg => k_is
      case xh => k_is
      case xc => k_is
      case xf => k_is
      case xd => k_is
      case xp => k_is
      case xq => k_is
      case xr => k_is
    case n26_0 => k_is
    case e27 =>
      refine' OF.kl_mk KX G ?xa ?xl ?xs ?xk ?xi ?xt ?xg ?xh ?xc ?xf ?xd ?xp ?xq ?xr
      case xa => k_is
      case xl => k_is
      case xs => k_is
      case xk => k_is
      case xi => k_is
      case xt => k_is
      case xg => k_is
      case xh => k_is
      case xc => k_is
      case xf => k_is
      case xd => k_is
      case xp => k_is
      case xq => k_is
      case xr => k_is
    case n27_0 => k_is
    case e28 =>
      refine' OF.kl_mk KX G ?xa ?xl ?xs ?xk ?xi ?xt ?xg ?xh ?xc ?xf ?xd ?xp ?xq ?xr
      case xa => k_is
      case xl => k_is
      case xs => k_is
      case xk => k_is
      case xi => k_is
      case xt => k_is
      case xg => k_is
      case xh => k_is
      case xc => k_is
      case xf => k_is
      case xd => k_is
      case xp => k_is
      case xq => k_is
      case xr => k_is
    case n28_0 => k_is
    case n28_1 => k_is
    case e29 =>
      refine' OF.kl_mk KX G ?xa ?xl ?xs ?xk ?xi ?xt ?xg ?xh ?xc ?xf ?xd ?xp ?xq ?xr
      case xa => k_is
      case xl => k_is
      case xs => k_is
      case xk => k_is
      case xi => k_is
      case xt => k_is
      case xg => k_is
      case xh => k_is
      case xc => k_is
      case xf => k_is
      case xd => k_is
      case xp => k_is
      case xq => k_is
      case xr => k_is
    case n29_0 => k_is
    case n29_1 => k_is
    case e30 =>
      refine' OF.kl_mk KX G ?xa ?xl ?xs ?xk ?xi ?xt ?xg ?xh ?xc ?xf ?xd ?xp ?xq ?xr
      case xa => k_is
      case xl => k_is
      case xs => k_is
      case xk => k_is
      case xi => k_is
      case xt => k_is
      case xg => k_is
      case xh => k_is
      case xc => k_is
      case xf => k_is
      case xd => k_is
      case xp => k_is
      case xq => k_is
      case xr => k_is
    case hnd => decide +kernel
    case z1 => k_is
    case z2 => k_is
    case z3 => k_is
    case z4 => k_is
    case z5 => k_is
    case z6 => k_is
    case z7 => k_is
    case z8 => k_is
    case z9 => k_is
    case z10 => k_is
