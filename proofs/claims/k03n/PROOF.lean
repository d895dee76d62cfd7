import PyProof.Rows.All
import Wide.All
import OpenK.AllK
import Wide.FinOn
import HandS.ForMost
import HandS.IsInst
import HandS.Defaults
import HandS.Wide
import HandS.ForExc
import HandS.ExcInit
import HandS.ExcField
import KE.KExcIs
import KE.KTypeName
import HandS.ClsMeth
import HandS.DictComp
import HandS.More
import PySem.Challenge.RW_oddfigures_k03_row_texts_nearly_good
set_option Elab.async false
set_option linter.all false
set_option maxRecDepth 100000
/-! What the laws of this program have in common: heaps that stay but for one box, the box that draws are taken from, calls by names alone, repr of a truth. -/
namespace OF
open PySem PySem.Spec PyProof.Rows L2

/-! ### heaps that stay but for one place -/
/-- all that was tracked, but for the box at a, is as it was -/
def But (a : Addr) (H H' : Hp) : Prop := ∀ b o, b ≠ a → H b = some o → H' b = some o
theorem But.refl {a : Addr} {H : Hp} : But a H H := fun _ _ _ h => h
theorem But.trans {a : Addr} {H H1 H2 : Hp} (x : But a H H1) (y : But a H1 H2) : But a H H2 := fun b o n h => y b o n (x b o n h)
theorem But.of_same {a : Addr} {H H' : Hp} (x : Same H H') : But a H H' := fun b o _ h => x b o h
theorem But.new {a p : Addr} {H : Hp} {o : HO} (hp : H p = none) : But a H (upd H p o) := fun b u _ h => by
  rw [upd_ne (ne_of_none h hp)]; exact h
theorem But.at_ {a : Addr} {H : Hp} {o : HO} : But a H (upd H a o) := fun b u n h => by
  rw [upd_ne n]; exact h
/-- what was none ahead of the steps is a new place: a store to it keeps all -/
theorem But.store {a p : Addr} {H H1 : Hp} {o : HO} (x : But a H H1) (hp : H p = none) : But a H (upd H1 p o) := fun b u n h => by
  rw [upd_ne (ne_of_none h hp)]; exact x b u n h
theorem But.seqL {K : PySem.W.Frag} {a p : Addr} {H H' : Hp} {xs : List V} (x : But a H H') (n : p ≠ a) (h : SqL K H p xs) : SqL K H' p xs := by
  rcases h with (h | ⟨o, h⟩) | h
  · exact .inl (.inl (x _ _ n h))
  · exact .inl (.inr ⟨o, x _ _ n h⟩)
  · exact .inr h
theorem But.seqT {K : PySem.W.Frag} {a p : Addr} {H H' : Hp} {xs : List V} (x : But a H H') (n : p ≠ a) (h : SqT K H p xs) : SqT K H' p xs := by
  rcases h with (h | ⟨o, h⟩) | h
  · exact .inl (.inl (x _ _ n h))
  · exact .inl (.inr ⟨o, x _ _ n h⟩)
  · exact .inr h
theorem same_new {H : Hp} {p : Addr} {o : HO} (h : H p = none) : Same H (upd H p o) := fun b x e => by
  rw [upd_ne (ne_of_none e h)]; exact e

/-! ### the box -/
/-- at a stands a box: what is left of a large cell, a seed, how many were mixed (at most n) -/
def Box (n : Int) (H : Hp) (a : Addr) : Prop := ∃ b0 b1 b2 : Int, H a = some (.lst [.int b0, .int b1, .int b2]) ∧ 0 ≤ b0 ∧ 0 ≤ b1 ∧ b1 < 2147483648 ∧ 0 ≤ b2 ∧ b2 ≤ n
theorem Box.mono {n m : Int} {H : Hp} {a : Addr} (h : Box n H a) (hm : n ≤ m) : Box m H a := by
  obtain ⟨b0, b1, b2, h1, h2, h3, h4, h5, h6⟩ := h
  exact ⟨b0, b1, b2, h1, h2, h3, h4, h5, by omega⟩
theorem Box.same {n : Int} {H H' : Hp} {a : Addr} (h : Box n H a) (s : Same H H') : Box n H' a := by
  obtain ⟨b0, b1, b2, h1, r⟩ := h
  exact ⟨b0, b1, b2, s _ _ h1, r⟩
theorem Box.new {n : Int} {H : Hp} {a p : Addr} {o : HO} (h : Box n H a) (hp : H p = none) : Box n (upd H p o) a := h.same (same_new hp)
theorem Box.ne {n : Int} {H : Hp} {a p : Addr} (h : Box n H a) (hp : H p = none) : p ≠ a := by
  obtain ⟨b0, b1, b2, h1, r⟩ := h
  exact (ne_of_none h1 hp).symm
theorem Box.upd {n : Int} {H : Hp} {a p : Addr} {o : HO} (h : Box n H a) (hp : p ≠ a) : Box n (L2.upd H p o) a := by
  obtain ⟨b0, b1, b2, h1, r⟩ := h
  exact ⟨b0, b1, b2, by rw [upd_ne hp.symm]; exact h1, r⟩

/-- a draw: box, many; a number from 0 to many - 1, the box goes on -/
def spTake : Sp := fun vs H Q _ => ∃ (a : Addr) (m n : Int), vs = [.ref a, .int m] ∧ Box n H a ∧ n ≤ 1000000 ∧ 0 < m ∧ m.natAbs < 2 ^ 400 ∧
  ∀ (r : Int) (H' : Hp), 0 ≤ r → r < m → But a H H' → Box (n + 1) H' a → Q (.int r) H'
/-- a cell of the script, or a number made of the place -/
def spCell (K : PySem.W.Frag) : Sp := fun vs H Q _ => ∃ (a : Addr) (ns : List Int) (k : Nat), vs = [.ref a, .int k] ∧ SqL K H a (ns.map V.int) ∧ k < 1000 ∧ ∀ c : Int, Q (.int c) H
/-- a new box of a cell -/
def spBox : Sp := fun vs H Q _ => ∃ c : Int, vs = [.int c] ∧ ∀ (p : Addr) (H' : Hp), H p = none → Same H H' → Box 0 H' p → Q (.ref p) H'
/-- a list's items in a drawn order -/
def spMixed (K : PySem.W.Frag) : Sp := fun vs H Q _ => ∃ (a p : Addr) (xs : List V) (n : Int), vs = [.ref a, .ref p] ∧ Box n H a ∧ SqL K H p xs ∧ p ≠ a ∧ xs.length ≤ 1000 ∧ n ≤ 900000 ∧
  ∀ (D : Addr) (ys : List V) (H' : Hp), H D = none → But a H H' → Box (n + xs.length) H' a → H' D = some (.lst ys) → ys.length = xs.length → (∀ y ∈ ys, y ∈ xs) → Q (.ref D) H'

/-! ### calls by names alone -/
section
variable {X : Cx} {CX : CXT} {k : Nat} {f : Addr} {fd : FuncData} {ps ks : List Str} {sp : Sp} {E : XK} {x : Str} {p pos : Pos} {kws : List Keyword} {tk : TA} {g : List Value → List Value → List Value} {gV : List V → List V → List V}
/-- f(k = v, ..) -/
theorem pe_callN0 (F : FnOk X.prog X.w X.K X.mg X.base CX k f fd ps sp) (hr : Room k X.A) (hg : Gl X x) (hm : X.mg x = some (.ref f)) (hk : PySem.W.keepIn X.K (.ref f) = true) (hb : KBn X.K fd ps 0 ks g gV) (hx : Passes CX X E)
    (hkw : PK X kws tk) (hall : (backToKw pos (keywordEach kws X.env)).all (·.1.isSome) = true := by rfl) (hks : (backToKw pos (keywordEach kws X.env)).filterMap (·.1) = ks := by rfl)
    (hdb : (x == ("__debug__" : Str)) = false := by decide)
    (hpl : ((backTo pos (starEach [] X.env)).any (·.1) || (backToKw pos (keywordEach kws X.env)).any (·.1.isNone)) = false := by rfl) :
    PE X (.Call (.Name x p) [] kws pos) (tCallN 0 ks.length sp gV E tNil tk) := by
  refine ⟨fun pins s σ H Q I h => ?_⟩
  refine wpAny_Call_Name_kw (ld_glob I hg hm ?_ hdb)
  refine PySem.W.callWith_KW0 (h₀ := X.base) I.ok.mod.kin hk hall (thn (hkw.run pos pins s σ H _ I h) fun ws s2 ⟨zs, H2, I2, rz, l1, l2, q2⟩ => ⟨I2.kIn, ?_⟩) hpl
  rw [hks]
  exact run_fnN (us := []) (vs := []) F hr hb hx I2 .nil rz l1 l2 q2
/-- % by a positive number: some rest, in its bounds -/
theorem op_modR : OpR X (binaryOp .Mod) (fun x y H Q => ∃ i j : Int, x = .int i ∧ y = .int j ∧ 0 < j ∧ ∀ r : Int, 0 ≤ r → r < j → Q (.int r) H) := by
  intro pins s σ H x y v u Q I rx ry h
  obtain ⟨i, j, e1, e2, hj, q⟩ := h
  exact op_mod pins s σ H x y v u Q I rx ry ⟨i, j, e1, e2, hj, q _ (Int.emod_nonneg _ (by omega)) (Int.emod_lt_of_pos _ hj)⟩
theorem call_repr_bool : CallR X (.builtin "repr") (fun xs H Q => ∃ b, xs = [.bl b] ∧ Q (.str (if b then "True" else "False")) H) := by
  intro pins s σ H xs us Q I r h
  obtain ⟨b, rfl, q⟩ := h
  obtain ⟨u, rfl, hu⟩ := vals1 r
  cases hu
  exact PySem.P.repr_of_bool ⟨.str _, H, I.tok _, ⟨_, rfl⟩, q⟩
end
end OF
namespace OF
open PySem PySem.Spec PyProof.Rows L2
/-- len of a list or tuple -/
abbrev rLenS (K : PySem.W.Frag) : List V → Hp → VK → Prop := fun xs H Q => ∃ p ys, xs = [.ref p] ∧ (SqL K H p ys ∨ SqT K H p ys) ∧ Q (.int ys.length) H
theorem tYes_if {σ : L2.St} {H : Hp} {A B : Hp → Prop} (h : A H) : tYes σ H (fun b H3 => if b = true then A H3 else B H3) := by
  show (if true = true then A H else B H)
  rw [if_pos rfl]
  exact h
/-- both ways of a test lead to the same rest -/
theorem iteDup {c : Bool} {A B R : Prop} (f : R → c = true → A) (g : R → c = false → B) (r : R) : if c = true then A else B := by
  cases c with
  | true => exact iteT (f r rfl)
  | false => exact iteF (g r rfl)
theorem iteAnd {c d : Bool} {A : Prop} {Q : V → Hp → Prop} {H : Hp} (hA : Q (.bl d) H → A) (h : Q (.bl (c && d)) H) : if c = true then A else Q (.bl false) H := by
  cases c with
  | true => exact iteT (hA h)
  | false => exact iteF h
theorem iteOr {c d : Bool} {A : Prop} {Q : V → Hp → Prop} {H : Hp} (hA : Q (.bl d) H → A) (h : Q (.bl (c || d)) H) : if c = true then Q (.bl true) H else A := by
  cases c with
  | true => exact iteT h
  | false => exact iteF (hA h)
/-- an if whose test is known -/
theorem iteTB {c : Bool} {A B : Prop} (e : c = true) (h : A) : if c = true then A else B := by rw [if_pos e]; exact h
theorem iteFB {c : Bool} {A B : Prop} (e : c = false) (h : B) : if c = true then A else B := by rw [if_neg (by rw [e]; exact Bool.false_ne_true)]; exact h
/-- two values that are the same: no difference -/
theorem neSame {x y : V} (h : x = y) : (!decide (x = y)) = false := by rw [decide_eq_true h]; rfl
theorem eqSame {x y : V} (h : x = y) : decide (x = y) = true := decide_eq_true h
theorem seq_past {K : PySem.W.Frag} {H H1 H2 : Hp} {a p : Addr} {xs : List V} (hp : H p = none) (s : Same H H1) (b : But p H1 H2) (h : SqL K H a xs) : SqL K H2 a xs := by
  rcases h with (h | ⟨o, h⟩) | h
  · exact .inl (.inl (b _ _ (ne_of_none h hp) (s _ _ h)))
  · exact .inl (.inr ⟨o, b _ _ (ne_of_none h hp) (s _ _ h)⟩)
  · exact .inr h
/-- an item at a place within -/
theorem pick {xs : List V} {r : Int} (h0 : 0 ≤ r) (h1 : r < xs.length) : ∃ v, atI xs r = some v ∧ v ∈ xs := by
  obtain ⟨k, rfl⟩ := Int.eq_ofNat_of_zero_le h0
  have hk : k < xs.length := by omega
  exact ⟨xs[k], atI_nat (List.getElem?_eq_getElem hk), List.getElem_mem hk⟩
theorem ixN_in {n : Nat} {r : Int} (h0 : 0 ≤ r) (h1 : r < n) : ixN n r = some r.toNat := by
  unfold ixN
  rw [if_pos h0, if_pos h1]
/-- a value of a kind that is no int, or a truth -/
inductive Odd (H : Hp) : V → Prop
  | non : Odd H .non
  | bl (b : Bool) : Odd H (.bl b)
  | str (z : Str) : Odd H (.str z)
  | lst {a : Addr} {xs : List V} (e : H a = some (.lst xs)) : Odd H (.ref a)
  | tup {a : Addr} {xs : List V} (e : H a = some (.tup xs)) : Odd H (.ref a)
  | dK {a : Addr} {kvs : List (Key × V)} (e : H a = some (.dK kvs)) : Odd H (.ref a)
theorem Odd.same {H H' : Hp} {x : V} (h : Odd H x) (s : Same H H') : Odd H' x := by
  cases h with
  | non => exact .non
  | bl b => exact .bl b
  | str z => exact .str z
  | lst e => exact .lst (s _ _ e)
  | tup e => exact .tup (s _ _ e)
  | dK e => exact .dK (s _ _ e)
theorem Odd.kit {K : PySem.W.Frag} {H : Hp} {x : V} (h : Odd H x) : ∃ (t : Value) (b : Bool), TyX K H x t ∧ PySem.W.kitOne K t (.type "int") = some b ∧ (b = true → PySem.W.kitOne K t (.type "bool") = some true) := by
  cases h with
  | non => exact ⟨_, false, .base .non, kit_ty (by decide +kernel), fun z => nomatch z⟩
  | bl b => exact ⟨_, true, .base (.bl b), kit_ty (by decide +kernel), fun _ => kit_ty (by decide +kernel)⟩
  | str z => exact ⟨_, false, .base (.str z), kit_ty (by decide +kernel), fun z => nomatch z⟩
  | lst e => exact ⟨_, false, .base (.lst e), kit_ty (by decide +kernel), fun z => nomatch z⟩
  | tup e => exact ⟨_, false, .base (.tup e), kit_ty (by decide +kernel), fun z => nomatch z⟩
  | dK e => exact ⟨_, false, .base (.dK e), kit_ty (by decide +kernel), fun z => nomatch z⟩
theorem Odd.but {a : Addr} {H H' : Hp} {x : V} (h : Odd H x) (hx : x ≠ .ref a) (t : But a H H') : Odd H' x := by
  cases h with
  | non => exact .non
  | bl b => exact .bl b
  | str z => exact .str z
  | lst e => exact .lst (t _ _ (fun z => hx (congrArg V.ref z)) e)
  | tup e => exact .tup (t _ _ (fun z => hx (congrArg V.ref z)) e)
  | dK e => exact .dK (t _ _ (fun z => hx (congrArg V.ref z)) e)
theorem Same.store {p : Addr} {H H1 : Hp} {o : HO} (x : Same H H1) (hp : H p = none) : Same H (upd H1 p o) := fun b u h => by
  rw [upd_ne (ne_of_none h hp)]; exact x b u h
theorem q_eq {Q : V → Hp → Prop} {H : Hp} {x y : V} (h : x = y) (q : Q (.bl true) H) : Q (.bl (decide (x = y))) H := by
  rw [decide_eq_true h]; exact q
end OF
/-! e.__class__.__name__ of an error that is being made. -/
namespace PySem.W
open PySem PySem.Calls PyProof.Rows PyProof.V PySem.Spec Builtin Builtin.ObjectAttr Builtin.Getset_descriptor
section
variable {prog : Program} {w : World} {A : Around} {E : Value → Shared → Prop} {s : Shared} {K : Frag} {x C : Addr} {ox : Obj} {od : Option Obj} {expr : Bool} {Q : Value → Shared → Prop} {gt : Option Value}
theorem exc_class (X : K.In s.heap) (I : InstAt s.heap x ox C od) (hga : findIn K (.ref C) "__getattribute__" = some (some (.builtin "BaseException.__getattribute__"))) (hgt : findIn K (.ref C) "__getattr__" = some gt)
    (hsub : subIn K (.ref C) (.type "BaseException") = some true) (hf : findObj K C od "__class__" = some (.bind (.builtin "getset_descriptor.__get__") (.builtin "object.__class__"))) (hm : mroIn K C (.type "object") = some true)
    (h : Q (.ref C) { s with toks := s.toks + 1 }) : wpAny (model prog w) A (getAttr (.ref x) "__class__" expr) Q E s := by
  obtain ⟨hp, g, d, t, os⟩ := s
  have L0 := I.type (M := model prog w)
  have L1 := looks_findIn (M := model prog w) X hga
  have L2 := looks_findIn (M := model prog w) X hgt
  have L3 := looks_find (M := model prog w) X I hf
  have sub : Looks (model prog w) hp (isInstance (.ref x) (.type "BaseException")) true := L0.andThen (looks_subIn X hsub)
  have hx0 : (expr && onTheHeap (Value.builtin "BaseException.__getattribute__")) = false := by cases expr <;> rfl
  have hx2 : (Value.builtin "BaseException.__getattribute__" == Value.builtin "object.__getattribute__") = false := by decide +kernel
  have hx1 : (onTheHeap (Value.ref C) && Value.builtin "BaseException.__getattribute__" == Value.builtin "object.__getattribute__") = false := by rw [hx2]; rfl
  unfold getAttr getAttrBy
  refine wpAny_bind (wpAny_mkText (wpAny_holding (wpAny_bind (L0.at (wpAny_bind (L1.at ?_))))))
  show wpAny _ _ (if (onTheHeap (Value.ref C) && Value.builtin "BaseException.__getattribute__" == Value.builtin "object.__getattribute__") = true then _ else _) _ _ _
  rw [hx1, if_neg Bool.false_ne_true]
  unfold getAttrByItsOwn hookBefore
  refine wpAny_bind ?_
  rw [if_pos (show onTheHeap (Value.ref C) = true from rfl)]
  refine L2.at ?_
  refine wpAny_bind (wpAny_attempt (wpAny_holding ?_))
  unfold callGetattribute
  rw [hx0, if_neg Bool.false_ne_true]
  unfold boundAndCalled
  rw [PySem.F.excAttr_ValueError.ga.bind (.ref x)]
  refine wpAny_bind (wpAny_pure ?_)
  show wpAny _ _ (call (.builtin "BaseException.__getattribute__") [.ref x, .str "__class__" t]) _ _ _
  refine wpAny_call (codeAny_call_builtin PySem.F.excAttr_ValueError.ga.plain PySem.F.entry_bexc_ga ?_)
  refine @PySem.W.check_slot (model prog w) _ _ ⟨hp, g, d, t + 1, os⟩ "BaseException.__getattribute__" "BaseException" "__getattribute__" (.ref x) [.str "__class__" t] [] _ (by decide +kernel) (by decide +kernel) sub (PySem.F.args_bexc_ga (.ref x) (.str "__class__" t)) ?_
  unfold Builtin.«object.__getattribute__»
  refine wpAny_bind (wpAny_of_eq (a := ((Value.ref x : Value), [Value.str "__class__" t])) (by first | rfl | (simp only [slotArgs]; rfl)) ?_)
  refine wpAny_bind (wpAny_pure (wpAny_bind (L0.at (wpAny_bind (L3.at ?_)))))
  refine wpAny_bind (wpAny_holding (wpAny_call (class_get (s := ⟨hp, g, d, t + 1, os⟩) (ox := ox) (od := od) X I hm ?_)))
  refine wpAny_pure ?_
  show wpAny _ _ (handedOut (.ref C)) _ _ _
  rw [handedOut_of (show handedIn (.ref C) = true from rfl)]
  first | exact wpAny_pure h | exact wpAny_pure (wpAny_pure h)
theorem cn_dga (d tp : Value) (a : Addr) : descrGetArgs ⟨[d, .ref a, tp], []⟩ = pure (d, some (.ref a), given tp) := by kernel_rfl
theorem cn_get {R : Result → Shared → Prop} {tp v : Value} {o : Obj} (ho : s.heap.get? C = some o) (hc : o.cls = .type "type") (hv : o.slots[2]?.join = some v) (h : R (.ok (.ret v)) s) :
    codeAny (model prog w) A (.call (.builtin "getset_descriptor.__get__") ⟨[.builtin "type.__name__", .ref C, tp], []⟩) R s := by
  obtain ⟨hh, g, dr, t, os⟩ := s
  have L0 : Looks (model prog w) hh (typeOf (.ref C)) (.type "type") := by
    rw [← hc]
    exact (Looks.ld ho).andThen .now
  have L1 : Looks (model prog w) hh (isSubtype (.type "type") (.type "type")) true := Looks.of_pure (by rw [isSubtype_type]; kernel_rfl)
  refine codeAny_call_builtin KF.slot_gs.plain KF.entry_gs (KF.slot_gs.check _ _ _ _ _ _ _ _ ktyn_type (KF.args_gs _ _ _) ?_)
  unfold Builtin.«getset_descriptor.__get__» descrGet
  rw [cn_dga]
  refine wpAny_bind (wpAny_pure ?_)
  unfold descrGetter descrCheckInstance descrNameAndClass isInstance
  simp only [ktyn_owner]
  repeat lk
  refine ⟨Code.quiet_builtin _ (by decide +kernel), codeAny_builtin ktyn_entry ?_⟩
  unfold Builtin.«type.__name__» keptObject slotAt
  dsimp only
  refine wpAny_bind (wpAny_bind (wpAny_loadPart_at ho (wpAny_pure ?_)))
  rw [hv]
  exact wpAny_pure h
theorem cn_attr {v : Value} {o : Obj} (X : K.In s.heap) (ty : typeIn K (.ref C) = some (.type "type")) (st : nsIn K cStatics "thirdparty.any" = some none)
    (e : findCls K (.ref C) (.type "type") "__name__" = some (.get (.builtin "getset_descriptor.__get__") (.builtin "type.__name__") (.ref C) (.type "type"))) (lk : K.lookup C = some o) (hc : o.cls = .type "type") (hv : o.slots[2]?.join = some v) (hh : handedIn v = true)
    (h : Q v { s with toks := s.toks + 1 }) : wpAny (model prog w) A (getAttr (.ref C) "__name__" expr) Q E s := by
  have ho := X _ _ lk
  have L0 : Looks (model prog w) s.heap (typeOf (.ref C)) (.type "type") := by
    rw [← hc]
    exact (Looks.ld ho).andThen .now
  have hg : findIn K (.type "type") "__getattribute__" = some (some (.builtin "type.__getattribute__")) := type_tga
  refine cls_open X (looks_opaque X st) L0 hg (looks_hook X (r := none) (by rfl)) (by show subIn K _ _ = _; rfl) e ?_
  show wpAny _ _ (do ret (← holding [Value.builtin "type.__name__"] (call (.builtin "getset_descriptor.__get__") [.builtin "type.__name__", .ref C, .type "type"]))) _ _ _
  refine wpAny_bind (wpAny_holding (wpAny_call (cn_get (s := { s with toks := s.toks + 1 }) ho hc hv ?_)))
  refine wpAny_pure ?_
  show wpAny _ _ (handedOut v) _ _ _
  rw [handedOut_of hh]
  first | exact wpAny_pure h | exact wpAny_pure (wpAny_pure h)
end
end PySem.W
namespace OF
open PySem PySem.Spec PyProof.Rows L2
/-- what an error class says, so that the name of its class is told -/
structure NamC (K : PySem.W.Frag) (C : Addr) (nm : Str) : Prop where
  xf : XfC K C
  cl : (PySem.W.clsIn K C).isSome = true
  ha : PySem.W.findIn K (.ref C) "__class__" = some (some (.builtin "object.__class__"))
  hn : PySem.W.specialIn K (.builtin "object.__class__") "__get__" = some (some (.builtin "getset_descriptor.__get__"))
  ht : PySem.W.takesIn K (.builtin "object.__class__") = some true
  hm : PySem.W.mroIn K C (.type "object") = some true
  ty : PySem.W.typeIn K (.ref C) = some (.type "type")
  st : PySem.W.nsIn K cStatics "thirdparty.any" = some none
  fc : PySem.W.findCls K (.ref C) (.type "type") "__name__" = some (.get (.builtin "getset_descriptor.__get__") (.builtin "type.__name__") (.ref C) (.type "type"))
  lk : ∃ (o : Obj) (t : Tok), K.lookup C = some o ∧ o.cls = .type "type" ∧ o.slots[2]?.join = some (.str nm t)
  no : PySem.W.findIn K (.ref C) "class_name" = some none
section
variable {X : Cx} {e : Expr} {te : TE} {p1 p2 : Pos}
/-- e.__class__.__name__ -/
def tCname (K : PySem.W.Frag) (te : TE) : TE := fun σ H Q => te σ H fun x H1 => ∃ (a C : Addr) (nm : Str), x = .ref a ∧ H1 a = some (exo a C none) ∧ NamC K C nm ∧ Q (.str nm) H1
theorem pe_cname (he : PE X e te) (hb : attributeBase e "__class__" X.env (eval e X.env) = eval e X.env := by rfl) (hb2 : attributeBase (.Attribute e "__class__" p1) "__name__" X.env (eval (.Attribute e "__class__" p1) X.env) = eval (.Attribute e "__class__" p1) X.env := by rfl) :
    PE X (.Attribute (.Attribute e "__class__" p1) "__name__" p2) (tCname X.K te) := by
  refine ⟨fun pins s σ H Q I h => ?_⟩
  refine attr_of hb2 (attr_of hb (thn (he.run pins s σ H _ I h) fun u s1 hh => ?_))
  obtain ⟨x, H1, I1, rx, a, C, nm, ex, ea, N, q⟩ := hh
  subst ex
  obtain rfl : u = Value.ref a := rx
  obtain ⟨t1, ho⟩ := exo_at I1.hok ea
  have J : PySem.W.InstAt s1.heap a { cls := .ref C, dict := none, data := .fields #[.ref t1, .none, .none, .none, .bool false, .none] } C none := ⟨ho, rfl, rfl, trivial⟩
  refine PySem.W.exc_class I1.kIn J N.xf.ga N.xf.gg N.xf.exC (PySem.W.findObj_dataE N.cl N.ha N.hn N.ht) N.hm ?_
  obtain ⟨o, t, lk, hc, hv⟩ := N.lk
  refine PySem.W.cn_attr (s := { s1 with toks := s1.toks + 1 }) (I1.tok _).kIn N.ty N.st N.fc lk hc hv rfl ?_
  exact ⟨.str nm, H1, (I1.tok _).tok _, ⟨_, rfl⟩, q⟩
end
end OF
/-! The errors of the program: two classes deep, each with an __init__ of its own that calls the one above by its class. -/
namespace OF
open PySem PySem.Spec PyProof.Rows L2

/-! ### C.m(e, ..), m a plain def read off the class -/
section
variable {X : Cx} {CX : CXT} {k : Nat} {C f : Addr} {fd : FuncData} {ps : List Str} {sp : Sp} {E : XK} {x m : Str} {p p1 p2 pos : Pos} {e : Expr} {es : List Expr} {t : TA} {mc : Value}
theorem pe_unb {pl : Sem Bool} (F : FnOk X.prog X.w X.K X.mg X.base CX k f fd ps sp) (hr : Room k X.A) (hg : Gl X x) (hm : X.mg x = some (.ref C)) (r : ClX.CRead X.K C mc) (c : ClX.CVal X.K C mc m (.ref f) (.ref f)) (hk : PySem.W.keepIn X.K (.ref f) = true)
    (hb : Binds X.K fd ps []) (hx : Passes CX X E) (ha : PA X (e :: es) t)
    (hc : eval (.Call (.Attribute (.Name x p1) m p2) (e :: es) [] pos) X.env = (do
      let ov ← eval (.Name x p1) X.env
      standAt p2.atName
      let (f, first) ← holding [ov] (getMethod ov m pl)
      callWith pos f first (backTo pos (starEach (e :: es) X.env)) (backToKw pos (keywordEach [] X.env))) := by rfl)
    (hdb : (x == ("__debug__" : Str)) = false := by decide) (he : starEach (e :: es) X.env = (false, eval e X.env) :: starEach es X.env := by rfl) (hpl : (backTo pos (starEach es X.env)).any (·.1) = false := by rfl) :
    PE X (.Call (.Attribute (.Name x p1) m p2) (e :: es) [] pos) (tCall sp [] E t) := by
  refine ⟨fun pins s σ H Q I h => ?_⟩
  refine PySem.W.methodCall_KW (ld_glob I hg hm ?_ hdb) hc
  refine PySem.W.method_cls I.kIn r.ga (ClX.getcval_ok I r c fun s' I' => ?_)
  show wpAny _ _ (callWith pos (Value.ref f) [] (backTo pos (starEach (e :: es) X.env)) []) _ _ _
  refine PySem.W.callWith_K (h₀ := X.base) I.ok.mod.kin hk (thn (ha.run pos pins s' σ H _ I' h) fun us s1 ⟨vs, H1, I1, r1, q⟩ => ⟨I1.kIn, ?_⟩) he hpl
  exact run_fn F hr hb .nil hx I1 r1 q
end

/-! ### promises of the makers -/
/-- FigureError.__init__: the name of the class is kept -/
def spFig (K : PySem.W.Frag) : Sp := fun vs H Q _ => ∃ (a C : Addr) (v : V) (nm : Str), vs = [.ref a, v] ∧ OexC K C ∧ NamC K C nm ∧ H a = some (exo a C none) ∧ ∀ d, H d = none → d ≠ a → Q .non (upd (upd H d (exd d [("class_name", .str nm)])) a (exo a C (some d)))
/-- X.__init__ of the class at C: one field, and what was kept -/
def spInit (K : PySem.W.Frag) (f : Str) (C : Addr) : Sp := fun vs H Q _ => ∃ (a : Addr) (v : V), vs = [.ref a, v] ∧ H a = some (exo a C none) ∧ ∀ (fs : List (Str × V)) (d : Addr), H d = none → d ≠ a → Q .non (upd (upd H d (exd d ((f, v) :: fs))) a (exo a C (some d)))
theorem upd_swap {H : Hp} {a d : Addr} {x y z : HO} (n : d ≠ a) : upd (upd (upd H d x) a y) d z = upd (upd H d z) a y := by
  funext b
  by_cases h : b = d
  · subst h
    rw [upd_same, upd_ne n, upd_same]
  · rw [upd_ne h]
    by_cases h2 : b = a
    · subst h2
      rw [upd_same, upd_same]
    · rw [upd_ne h2, upd_ne h2, upd_ne h, upd_ne h]
/-- what the top says of FigureError -/
structure FigC (K : PySem.W.Frag) (mg : Str → Option Value) (C f : Addr) : Prop where
  g : mg "FigureError" = some (.ref C)
  rd : ClX.CRead K C (.type "type")
  at_ : PySem.W.findCls K (.ref C) (.type "type") "__init__" = some (.val (.ref f))
  kp : PySem.W.keepIn K (.ref f) = true
theorem FigC.val {K : PySem.W.Frag} {mg : Str → Option Value} {C f : Addr} (T : FigC K mg C f) : ClX.CVal K C (.type "type") "__init__" (.ref f) (.ref f) := ⟨T.at_, rfl⟩
/-- what the top says of an error class below it, its field f, its maker at fI -/
structure ErrC (K : PySem.W.Frag) (mg : Str → Option Value) (x f : Str) (C fI : Addr) : Prop where
  g : mg x = some (.ref C)
  ox : OexC K C
  iC : PySem.W.findIn K (.ref C) "__init__" = some (some (.ref fI))
  tI : PySem.W.typeIn K (.ref fI) = some (.type "function")
  no : PySem.W.findIn K (.ref C) f = some none
  xf : XfC K C
  te : PySem.W.exmOne K (.ref C) (.ref C) = some true
  nam : ∃ nm, NamC K C nm
/-- a raised error of the class at C with its field -/
def Raised (C : Addr) (f : Str) (v : V) (H : Hp) (E : XK) : Prop := ∀ (fs : List (Str × V)) (d : Addr) (H' : Hp), H d = none → Same H H' → H' d = some (.xd ((f, v) :: fs)) → E (.ref C) (some d) H'
theorem raised_ok {C : Addr} {f : Str} {v : V} {H H1 : Hp} {E : XK} (q : Raised C f v H E) (s : Same H H1) {K : PySem.W.Frag} {σ : L2.St} {D : Ends} : 
    ([v].length ≤ 1000 ∧ ∀ a, H1 a = none → spInit K f C (.ref a :: ([v] ++ [])) (upd H1 a (exo a C none))
      (fun v' H2 => v' = .non ∧ ∃ (d : Addr) (fs : List (Str × V)), H2 a = some (exo a C (some d)) ∧ H2 d = some (exd d fs) ∧ H1 d = none ∧ E (.ref C) (some d) (upd (del H2 a) d (.xd fs))) (fun _ _ _ => False)) := by
  refine ⟨(by show 1 ≤ 1000; decide), fun a ha => ⟨a, v, rfl, upd_same, fun fs d hd nda => ⟨rfl, d, (f, v) :: fs, upd_same, ?_, ?_, ?_⟩⟩⟩
  · rw [upd_ne nda]
    exact upd_same
  · rw [upd_ne nda] at hd
    exact hd
  · rw [upd_ne nda] at hd
    refine q fs d _ (s.free hd) (fun b o h => ?_) upd_same
    have h1 := s b o h
    have hba : b ≠ a := ne_of_none h1 ha
    have hbd : b ≠ d := ne_of_none h1 hd
    rw [upd_ne hbd, del_ne hba, upd_ne hba, upd_ne hbd, upd_ne hba]
    exact h1
/-- dict comprehensions over a range -/
theorem dc_range {lo : Int} {n : Nat} {g : TG} {tt : TT} {tk tv : TE} {vs : List Nat} {σ : L2.St} {H1 : Hp} {D : Addr} {Qd : Hp → Prop} (Pv : Nat → Hp → Prop) (h0 : Pv 0 (upd H1 D (.dK [])))
    (hs : ∀ i H, i < n → Pv i H → g (.int (lo + i)) (wipe σ vs) H fun σ2 H2 => wipe σ2 vs = wipe σ vs ∧ tt σ2 H2 fun b H3 =>
      if b = true then tk σ2 H3 fun y H4 => tv σ2 H4 fun z H5 => ∃ kvs k, y = kV k ∧ H5 D = some (.dK kvs) ∧ kvs.length < sizeLine ∧ Pv (i + 1) (upd H5 D (.dK (putK kvs k z))) else Pv (i + 1) H3) (hd : ∀ H, Pv n H → Qd H) :
    ∃ W : Nat → Nat → Hp → Prop, (∃ m, W 0 m (upd H1 D (.dK []))) ∧ ∀ i m H, W i m H →
      ((Itr lo n).stop i H ∧ Qd H) ∨ ((Itr lo n).go i H ∧ ∃ Nx : Hp → Prop, (∀ H', Nx H' → ∃ m', m' < m ∧ W (i + 1) m' H') ∧ ∀ x H', (Itr lo n).yld i H x H' → g x (wipe σ vs) H' fun σ2 H2 => wipe σ2 vs = wipe σ vs ∧ tt σ2 H2 fun b H3 =>
        if b = true then tk σ2 H3 fun y H4 => tv σ2 H4 fun z H5 => ∃ kvs k, y = kV k ∧ H5 D = some (.dK kvs) ∧ kvs.length < sizeLine ∧ Nx (upd H5 D (.dK (putK kvs k z))) else Nx H3) := by
  refine ⟨fun i m H => m = n - i ∧ i ≤ n ∧ Pv i H, ⟨n, by simp, Nat.zero_le _, h0⟩, ?_⟩
  rintro i m H ⟨rfl, hi, p⟩
  by_cases hlt : i < n
  · refine .inr ⟨hlt, Pv (i + 1), fun H' p' => ⟨n - (i + 1), by omega, rfl, hlt, p'⟩, fun x H' y => ?_⟩
    obtain ⟨e, y⟩ := y
    subst e y
    exact hs i _ hlt p
  · have e : i = n := by omega
    subst e
    exact .inl ⟨Nat.le_refl _, hd H p⟩
/-- an error of a class is what an except clause of that class names -/
theorem exm_own {K : PySem.W.Frag} {S : Addr} (h1 : PySem.W.subIn K (.ref S) (.type "BaseException") = some true) (h2 : PySem.W.isClsIn K S = true) (h3 : PySem.W.typeIn K (.ref S) = some (.type "type")) (h4 : PySem.W.subIn K (.ref S) (.ref S) = some true) :
    PySem.W.exmOne K (.ref S) (.ref S) = some true := by
  have h2' : (PySem.W.clsIn K S).isSome = true := h2
  unfold PySem.W.exmOne
  simp only [h1, beq_self_eq_true, if_true]
  unfold PySem.W.kitCls
  simp only [h3, h4, h2', beq_self_eq_true, Bool.and_self, if_true]

/-! ### isinstance(e, C), e the error that the suite holds, with a dict of its own -/
/-- what the class D of the error says, so that it is asked rightly -/
structure AskC (K : PySem.W.Frag) (D : Addr) : Prop where
  cl : (PySem.W.clsIn K D).isSome = true
  xf : XfC K D
  ha : PySem.W.findIn K (.ref D) "__class__" = some (some (.builtin "object.__class__"))
  hn : PySem.W.specialIn K (.builtin "object.__class__") "__get__" = some (some (.builtin "getset_descriptor.__get__"))
  ht : PySem.W.takesIn K (.builtin "object.__class__") = some true
  hm : PySem.W.mroIn K D (.type "object") = some true
def rAsk (K : PySem.W.Frag) (D a : Addr) (cls : Value) (d : Option Addr) : List V → Hp → VK → Prop := fun xs H Q => ∃ (dd : Addr) (fs : List (Str × V)) (c : V) (cv : Value) (b : Bool), cls = .ref D ∧ d = some dd ∧ H dd = some (.xd fs) ∧ xs = [.ref a, c] ∧ (∀ u, RelV c u → u = cv) ∧ PySem.W.kitOne K (.ref D) cv = some b ∧ Q (.bl b) H
theorem call_ask {X : Cx} {a D : Addr} {oe : Obj} {cls : Value} {d : Option Addr} {pn : List (Addr × Obj)} (C : AskC X.K D) (hz : Zc cls d oe) (hf : ∃ vs, oe.data = .fields vs) : CallR (X.suite a ((a, oe) :: pn)) (.builtin "isinstance") (rAsk X.K D a cls d) := by
  intro pins s σ H xs us Q I r h
  obtain ⟨dd, fs, c, cv, b, ec, ed, ea, rfl, hcv, e, q⟩ := h
  obtain ⟨u1, u2, rfl, r1, r2⟩ := vals2 r
  cases r1
  cases hcv _ r2
  subst ec
  subst ed
  obtain ⟨hget, _⟩ := I.pin (a, oe) (List.mem_append_left _ List.mem_cons_self)
  obtain ⟨vs, hv⟩ := hf
  have hx : ObjOk X.prog X.w H s.heap dd (.xd fs) := I.hok dd _ ea
  obtain ⟨mA, hns, _⟩ := hx
  obtain ⟨od, ho, _⟩ := lookIn_ns hns
  have J : PySem.W.InstAt s.heap a oe D (some od) := ⟨hget, hz.1, by unfold PySem.W.notCls; rw [hv] <;> rfl, by rw [hz.2]; exact ho⟩
  exact PySem.W.kia_one (PySem.W.kitx_exc C.cl C.xf.ga C.xf.gg C.xf.exC C.ha C.hn C.ht C.hm) I.kIn J e (fun z => nomatch z) fun tk => ⟨.bl b, H, I.kept (t' := tk) fun _ _ z => z, rfl, q⟩

/-! ### lists of the same things -/
/-- l != l2, two lists of the very same things -/
def rNeSame (K : PySem.W.Frag) : R2 := fun x y H Q => ∃ (l l2 : Addr) (xs : List V), x = .ref l ∧ y = .ref l2 ∧ SqL K H l xs ∧ SqL K H l2 xs ∧ (∀ v ∈ xs, flatB v = true ∨ ∃ a, v = .ref a) ∧ Q (.bl false) H
theorem op_neSame {X : Cx} (hu : X.A.units + 64 < cLine) : OpR X (compareOp .NotEq) (rNeSame X.K) := by
  intro pins s σ H x y v u Q I rx ry h
  obtain ⟨l, l2, xs, rfl, rfl, h1, h2, hs, q⟩ := h
  cases rx
  cases ry
  obtain ⟨us, r1, p1, _⟩ := I.list h1
  obtain ⟨ws, r2, p2, _⟩ := I.list h2
  have n1 := r1.length
  have n2 := r2.length
  have hsz : us.toArray.size = ws.toArray.size := by
    rw [List.size_toArray, List.size_toArray]
    omega
  have key := SeqAt.RcNeAt.lists (A := X.A) (e := fun _ => true) p1.isList p2.isList hsz (by omega) (fun j h1 h2 => ?_)
  · refine key X.prog X.w _ _ ?_
    rw [show ((List.range us.toArray.size).all fun _ => true) = true from List.all_eq_true.mpr fun _ _ => rfl]
    exact ⟨.bl false, H, I, rfl, q⟩
  · have j1 : j < us.length := by simpa using h1
    have jx : j < xs.length := by omega
    obtain ⟨a, ea, ra⟩ := Vals.get r1 (List.getElem?_eq_getElem jx)
    obtain ⟨b, eb, rb⟩ := Vals.get r2 (List.getElem?_eq_getElem jx)
    have e1 : us.toArray[j] = a := by
      have := List.getElem?_eq_getElem j1
      rw [this] at ea
      simpa using Option.some.inj ea
    have e2 : ws.toArray[j] = b := by
      have j2 : j < ws.length := by omega
      have := List.getElem?_eq_getElem j2
      rw [this] at eb
      simpa using Option.some.inj eb
    rw [e1, e2]
    rcases hs _ (List.getElem_mem jx) with hf | ⟨p, hp⟩
    · exact eqAt_same ra rb hf
    · rw [hp] at ra rb
      cases ra
      cases rb
      exact SeqAt.EqAt.same _
/-- isinstance's answer by an own class that is the class itself or above it -/
theorem kit_own {K : PySem.W.Frag} {S C : Addr} (h2 : PySem.W.isClsIn K C = true) (h3 : PySem.W.typeIn K (.ref C) = some (.type "type")) (h4 : PySem.W.subIn K (.ref S) (.ref C) = some true) : PySem.W.kitOne K (.ref S) (.ref C) = some true := by
  have h2' : (PySem.W.clsIn K C).isSome = true := h2
  unfold PySem.W.kitOne
  split
  · rfl
  · unfold PySem.W.kitCls
    simp only [h3, h4, h2', beq_self_eq_true, Bool.and_self, if_true]
end OF
/-! Rows as texts: what read_row makes of a text. -/
namespace OF
open PySem PySem.Spec PyProof.Rows L2 TL
/-- the texts of the digits, with their digits -/
def digL : List (Key × V) := (List.range 19).map fun (i : Nat) => (Sum.inr (Str.ofString (toString ((-9 : Int) + (i : Int)))), V.int ((-9 : Int) + (i : Int)))
theorem digL_put : ∀ i : Nat, i < 19 → putK (digL.take i) (Sum.inr (Str.ofString (toString ((-9 : Int) + (i : Int))))) (V.int ((-9 : Int) + (i : Int))) = digL.take (i + 1) := by decide +kernel
theorem digL_all : digL.take 19 = digL := by decide +kernel
/-- the digit that a word is -/
def digV (w : Str) : Option V := valV digL (Sum.inr w)
/-- the digits that words are -/
def rowOf (ws : List Str) : Option (List V) := if ws.all (fun w => (digV w).isSome) = true then some (ws.map fun w => (digV w).getD .non) else none
/-- the row whose text it is -/
def readV (z : Str) : Option (List V) := if z = Str.ofString "." then some [] else rowOf (Txt.split z (Str.ofString " "))
/-- a value of a kind that is no text -/
inductive NoStr (H : Hp) : V → Prop
  | non : NoStr H .non
  | bl (b : Bool) : NoStr H (.bl b)
  | int (i : Int) : NoStr H (.int i)
  | lst {a : Addr} {xs : List V} (e : H a = some (.lst xs)) : NoStr H (.ref a)
  | tup {a : Addr} {xs : List V} (e : H a = some (.tup xs)) : NoStr H (.ref a)
  | dK {a : Addr} {kvs : List (Key × V)} (e : H a = some (.dK kvs)) : NoStr H (.ref a)
theorem NoStr.kit {K : PySem.W.Frag} {H : Hp} {x : V} (h : NoStr H x) : ∃ t : Value, TyX K H x t ∧ PySem.W.kitOne K t (.type "str") = some false := by
  cases h with
  | non => exact ⟨_, .base .non, kit_ty (by decide +kernel)⟩
  | bl b => exact ⟨_, .base (.bl b), kit_ty (by decide +kernel)⟩
  | int z => exact ⟨_, .base (.int z), kit_ty (by decide +kernel)⟩
  | lst e => exact ⟨_, .base (.lst e), kit_ty (by decide +kernel)⟩
  | tup e => exact ⟨_, .base (.tup e), kit_ty (by decide +kernel)⟩
  | dK e => exact ⟨_, .base (.dK e), kit_ty (by decide +kernel)⟩
theorem NoStr.same {H H' : Hp} {x : V} (h : NoStr H x) (s : Same H H') : NoStr H' x := by
  cases h with
  | non => exact .non
  | bl b => exact .bl b
  | int z => exact .int z
  | lst e => exact .lst (s _ _ e)
  | tup e => exact .tup (s _ _ e)
  | dK e => exact .dK (s _ _ e)
/-- read_row: the row, or an error with the very value -/
def spRead (C : Addr) : Sp := fun vs H Q E => ∃ x : V, vs = [x] ∧
  ((∃ z : Str, x = .str z ∧ z.length ≤ 100000 ∧ (∀ ds, readV z = some ds → ∀ p H', H p = none → Same H H' → H' p = some (.tup ds) → Q (.ref p) H') ∧ (readV z = none → Raised C "text" (.str z) H E)) ∨
    (NoStr H x ∧ Raised C "text" x H E))
theorem take_more {α : Type} : ∀ {l : List α} {i : Nat} {x : α}, l[i]? = some x → l.take (i + 1) = l.take i ++ [x]
  | [], i, x, h => by simp at h
  | a :: l, 0, x, h => by
    have e : a = x := Option.some.inj h
    subst e
    rfl
  | a :: l, i + 1, x, h => by
    have ih := take_more (l := l) (i := i) (x := x) h
    show a :: l.take (i + 1) = a :: l.take i ++ [x]
    rw [ih]
    rfl
theorem get_map {α β : Type} {f : α → β} {l : List α} {i : Nat} {y : β} (h : (l.map f)[i]? = some y) : ∃ x, l[i]? = some x ∧ y = f x := by
  rw [List.getElem?_map] at h
  cases e : l[i]? with
  | none => rw [e] at h; cases h
  | some x => rw [e] at h; exact ⟨x, rfl, (Option.some.inj h).symm⟩
theorem log_le {n : Int} (h : n.natAbs ≤ 1000) : n.natAbs.log2 < 1920 := Nat.lt_of_le_of_lt (Nat.log2_le_self _) (by omega)
theorem vals_signs : ∀ (L : List Nat) (l : List Value), l.length = L.length → (∀ (j : Nat) (v : Value), l[j]? = some v → ∃ (c : Nat) (u : Tok), L[j]? = some c ∧ v = Value.str ⟨#[c]⟩ u) → Vals (L.map fun c => V.str ⟨#[c]⟩) l
  | [], [], _, _ => .nil
  | c :: L, v :: l, hl, h => by
    obtain ⟨c', u, e1, e2⟩ := h 0 v rfl
    cases (show c = c' from Option.some.inj e1)
    exact .cons ⟨u, e2⟩ (vals_signs L l (Nat.succ.inj hl) fun j w hw => h (j + 1) w hw)
/-- list(text) -/
theorem call_list_signs {X : Cx} (hc : X.calm = true) : CallR X (.type "list") (fun xs H Q => ∃ z : Str, xs = [.str z] ∧ z.length ≤ sizeLine ∧ ∀ l, H l = none → Q (.ref l) (upd H l (.lst ((tl z).map fun c => V.str ⟨#[c]⟩)))) := by
  intro pins s σ H xs us Q I r h
  obtain ⟨z, rfl, hz, q⟩ := h
  obtain ⟨u, rfl, t, rfl⟩ := vals1 r
  refine PySem.call_list_str (I.ok.hd hc) z t (fun h' tk acc' c' hk hS' hacc => ?_) (by exact hz)
  have hl : acc'.toList.length = (tl z).length := by
    rw [Array.length_toList, hacc.1]
    rfl
  refine ⟨.ref s.heap.objs.size, _, I.laid (t' := tk) hk (Nat.le_refl _) (show ObjOk X.prog X.w _ h' _ (.lst ((tl z).map fun c => V.str ⟨#[c]⟩)) from ⟨?_, acc'.toList, c', ?_, ?_⟩), rfl, q _ (I.hok.fresh (Nat.le_refl _))⟩
  · rw [List.length_map, ← len_tl]
    exact hz
  · refine vals_signs _ _ hl fun j v hv => ?_
    obtain ⟨c, u, e1, e2⟩ := hacc.2 j v (by rw [← Array.getElem?_toList]; exact hv)
    exact ⟨c, u, by rw [Array.getElem?_toList]; exact e1, e2⟩
  · rw [Array.toArray_toList]
    exact hS'

/-! ### a word as the law reads it -/
def sgB (w : Str) : Bool := decide (V.str (cutS w none (some 1)) = V.str (Str.ofString "-"))
def sgI (w : Str) : Int := if sgB w then 1 else 0
def restS (w : Str) : Str := cutS w (some (sgI w)) none
def figs : List V := (tl (Str.ofString "0123456789")).map fun c => V.str ⟨#[c]⟩
def figVal (w : Str) : Int := Txt.find (Str.ofString "0123456789") (restS w) * (1 - 2 * sgI w)
theorem digV_is {w : Str} {v : V} (h : digV w = some v) : ∃ i : Nat, i < 19 ∧ w = Str.ofString (toString ((-9 : Int) + (i : Int))) ∧ v = V.int ((-9 : Int) + (i : Int)) := by
  unfold digV valV digL at h
  rw [List.find?_map] at h
  cases e : List.find? ((fun kv : Key × V => decide (kv.1 = Sum.inr w)) ∘ fun (i : Nat) => ((Sum.inr (Str.ofString (toString ((-9 : Int) + (i : Int)))), V.int ((-9 : Int) + (i : Int))) : Key × V)) (List.range 19) with
  | none => rw [e] at h; cases h
  | some i =>
    rw [e] at h
    have p := List.find?_some e
    have m := List.mem_of_find?_eq_some e
    refine ⟨i, List.mem_range.mp m, ?_, (Option.some.inj h).symm⟩
    exact (Sum.inr.inj (of_decide_eq_true p)).symm
theorem digs_ok : ∀ i : Nat, i < 19 → inV (.str (restS (Str.ofString (toString ((-9 : Int) + (i : Int)))))) figs = true ∧ decide (V.str (Str.ofString (toString ((-9 : Int) + (i : Int)))) = V.str (Str.ofString "-0")) = false ∧
    figVal (Str.ofString (toString ((-9 : Int) + (i : Int)))) = (-9 : Int) + (i : Int) := by decide +kernel
theorem word_some {w : Str} {v : V} (h : digV w = some v) : inV (.str (restS w)) figs = true ∧ decide (V.str w = V.str (Str.ofString "-0")) = false ∧ v = V.int (figVal w) := by
  obtain ⟨i, hi, rfl, rfl⟩ := digV_is h
  obtain ⟨h1, h2, h3⟩ := digs_ok i hi
  exact ⟨h1, h2, by rw [h3]⟩
theorem figs_words : ∀ c ∈ tl (Str.ofString "0123456789"), (digV ⟨#[c]⟩).isSome = true ∧ ((digV (⟨(45 :: [c]).toArray⟩ : Str)).isSome = true ∨ (⟨(45 :: [c]).toArray⟩ : Str) = Str.ofString "-0") := by decide +kernel
theorem cut_rest {w : Str} (h : sgB w = true) : tl w = 45 :: tl (cutS w (some 1) none) := by
  have e : cutS w none (some 1) = Str.ofString "-" := V.str.inj (of_decide_eq_true h)
  have e2 : tl (cutS w none (some 1)) = [45] := by rw [e]; decide +kernel
  have hL : ∀ lo hi, tl (cutS w lo hi) = ((tl w).drop (HT.sIx w.length 0 lo)).take (HT.sIx w.length w.length hi - HT.sIx w.length 0 lo) := fun lo hi => by
    unfold cutS
    exact List.toList_toArray ..
  rw [hL] at e2 ⊢
  rw [HT.sIx_none, show HT.sIx w.length w.length (some 1) = min 1 w.length from HT.sIx_nat w.length w.length 1] at e2
  rw [HT.sIx_none, show HT.sIx w.length 0 (some 1) = min 1 w.length from HT.sIx_nat w.length 0 1]
  have el := len_tl w
  cases hw : tl w with
  | nil => rw [hw] at e2; simp at e2
  | cons a r =>
    rw [hw] at e2 el
    have : min 1 w.length = 1 := by rw [el, List.length_cons]; omega
    rw [this] at e2 ⊢
    have ea : a = 45 := by simpa using e2
    rw [ea, el]
    simp
theorem cut_all {w : Str} (h : sgB w = false) : restS w = w := by
  unfold restS sgI
  rw [h]
  unfold cutS
  rw [show HT.sIx w.length 0 (some (if false = true then (1 : Int) else 0)) = min 0 w.length from HT.sIx_nat w.length 0 0, HT.sIx_none, Nat.zero_min, List.drop_zero, Nat.sub_zero]
  rw [List.take_of_length_le (by rw [← len_tl]; exact Nat.le_refl _)]
theorem word_none {w : Str} (h : digV w = none) : inV (.str (restS w)) figs = false ∨ decide (V.str w = V.str (Str.ofString "-0")) = true := by
  cases hi : inV (.str (restS w)) figs with
  | false => exact .inl rfl
  | true =>
    right
    unfold inV figs at hi
    obtain ⟨y, hy, e⟩ := List.any_eq_true.mp hi
    obtain ⟨c, hc, rfl⟩ := List.mem_map.mp hy
    have er : restS w = ⟨#[c]⟩ := by
      have : (⟨#[c]⟩ : Str) = restS w := by simpa [eqV] using e
      exact this.symm
    obtain ⟨h1, h2⟩ := figs_words c hc
    cases hs : sgB w with
    | false =>
      rw [cut_all hs] at er
      rw [er] at h
      rw [h] at h1
      cases h1
    | true =>
      have e1 := cut_rest hs
      have e3 : restS w = cutS w (some 1) none := by
        unfold restS sgI
        rw [hs]
        rfl
      have ew : w = (⟨(45 :: [c]).toArray⟩ : Str) := by
        rw [← mk_tl w, e1, ← e3, er]
      rcases h2 with h2 | h2
      · rw [← ew, h] at h2
        cases h2
      · exact decide_eq_true (congrArg V.str (ew.trans h2))

/-! ### texts of few and plain signs -/
def TOk (n : Nat) (z : Str) : Prop := (tl z).length ≤ n ∧ ∀ c ∈ tl z, c < 1114112
theorem TOk.mono {n m : Nat} {z : Str} (h : TOk n z) (hm : n ≤ m) : TOk m z := ⟨Nat.le_trans h.1 hm, h.2⟩
theorem TOk.len {n : Nat} {z : Str} (h : TOk n z) : z.length ≤ n := by rw [len_tl]; exact h.1
theorem TOk.ok {n : Nat} {z : Str} (h : TOk n z) : PyData.strOk z = true := by
  unfold PyData.strOk
  rw [Array.all_eq_true']
  intro c hc
  exact decide_eq_true (h.2 c (by show c ∈ z.cps.toList; exact Array.mem_toList_iff.mpr hc))
theorem tl_cut (w : Str) (lo hi : Option Int) : tl (cutS w lo hi) = ((tl w).drop (HT.sIx w.length 0 lo)).take (HT.sIx w.length w.length hi - HT.sIx w.length 0 lo) := by
  unfold cutS
  exact List.toList_toArray ..
theorem TOk.cut {n : Nat} {z : Str} (h : TOk n z) (lo hi : Option Int) : TOk n (cutS z lo hi) := by
  unfold TOk
  rw [tl_cut]
  refine ⟨?_, fun c hc => h.2 c (List.mem_of_mem_drop (List.mem_of_mem_take hc))⟩
  refine Nat.le_trans (List.length_take_le' _ _) ?_
  rw [List.length_drop]
  exact Nat.le_trans (Nat.sub_le _ _) h.1
theorem TOk.app {n m : Nat} {x y : Str} (h : TOk n x) (k : TOk m y) : TOk (n + m) (x ++ y) := by
  unfold TOk
  rw [tl_append, List.length_append]
  refine ⟨Nat.add_le_add h.1 k.1, fun c hc => ?_⟩
  rcases List.mem_append.mp hc with hc | hc
  · exact h.2 c hc
  · exact k.2 c hc
theorem in_join {S : List Nat} : ∀ {ps : List (List Nat)} {p : List Nat}, p ∈ ps → p.length ≤ (joinL S ps).length ∧ ∀ c ∈ p, c ∈ joinL S ps
  | [q], p, h => by
    cases List.mem_singleton.mp h
    exact ⟨Nat.le_refl _, fun c hc => hc⟩
  | q :: r :: ps, p, h => by
    have e : joinL S (q :: r :: ps) = q ++ (S ++ joinL S (r :: ps)) := rfl
    rw [e]
    rcases List.mem_cons.mp h with h | h
    · rw [h]
      refine ⟨?_, fun c hc => List.mem_append_left _ hc⟩
      rw [List.length_append]
      omega
    · obtain ⟨h1, h2⟩ := in_join (S := S) h
      refine ⟨?_, fun c hc => List.mem_append_right _ (List.mem_append_right _ (h2 c hc))⟩
      rw [List.length_append, List.length_append]
      omega
theorem join_in {S : List Nat} {P : Nat → Prop} (hS : ∀ c ∈ S, P c) : ∀ {ps : List (List Nat)} {n : Nat}, (∀ p ∈ ps, p.length ≤ n ∧ ∀ c ∈ p, P c) → (joinL S ps).length ≤ ps.length * (n + S.length) ∧ ∀ c ∈ joinL S ps, P c
  | [], n, _ => ⟨Nat.zero_le _, fun c hc => by cases hc⟩
  | [q], n, h => by
    obtain ⟨h1, h2⟩ := h q (List.mem_singleton.mpr rfl)
    refine ⟨?_, h2⟩
    show q.length ≤ 1 * (n + S.length)
    omega
  | q :: r :: ps, n, h => by
    obtain ⟨h1, h2⟩ := h q (List.mem_cons_self ..)
    obtain ⟨h3, h4⟩ := join_in hS (ps := r :: ps) (n := n) fun p hp => h p (List.mem_cons_of_mem _ hp)
    have e : joinL S (q :: r :: ps) = q ++ (S ++ joinL S (r :: ps)) := rfl
    rw [e]
    refine ⟨?_, fun c hc => ?_⟩
    · rw [List.length_append, List.length_append, List.length_cons, Nat.succ_mul]
      omega
    · rcases List.mem_append.mp hc with hc | hc
      · exact h2 c hc
      · rcases List.mem_append.mp hc with hc | hc
        · exact hS c hc
        · exact h4 c hc
theorem TOk.parts {n : Nat} {z y : Str} (h : TOk n z) : ∀ w ∈ Txt.split z y, TOk n w := fun w hw => by
  have e := StrLaws.join_split z y
  have e2 := tl_join y (Txt.split z y)
  rw [e] at e2
  obtain ⟨h1, h2⟩ := in_join (S := tl y) (ps := (Txt.split z y).map tl) (List.mem_map.mpr ⟨w, hw, rfl⟩)
  rw [← e2] at h1 h2
  exact ⟨Nat.le_trans h1 h.1, fun c hc => h.2 c (h2 c hc)⟩
theorem TOk.join {n m : Nat} {y : Str} {ps : List Str} (hy : TOk m y) (h : ∀ p ∈ ps, TOk n p) : TOk (ps.length * (n + m)) (Txt.join y ps) := by
  rw [TL.join_eq]
  unfold TOk
  rw [tl_join]
  obtain ⟨h1, h2⟩ := join_in (S := tl y) (P := fun c => c < 1114112) hy.2 (ps := ps.map tl) (n := n) fun p hp => by
    obtain ⟨w, hw, rfl⟩ := List.mem_map.mp hp
    exact h w hw
  refine ⟨Nat.le_trans h1 ?_, h2⟩
  rw [List.length_map]
  exact Nat.mul_le_mul_left _ (Nat.add_le_add_left hy.1 _)
theorem sum_len {n : Nat} : ∀ {ps : List Str}, (∀ p ∈ ps, TOk n p) → (ps.map (·.length)).sum ≤ ps.length * n
  | [], _ => Nat.zero_le _
  | p :: ps, h => by
    have h1 := (h p (List.mem_cons_self ..)).len
    have h2 := sum_len (ps := ps) fun q hq => h q (List.mem_cons_of_mem _ hq)
    rw [List.map_cons, List.sum_cons, List.length_cons, Nat.succ_mul]
    omega
theorem join_pos {y : Str} {ps : List Str} {p : Str} (hp : p ∈ ps) (h : 1 ≤ p.length) : 1 ≤ (Txt.join y ps).length := by
  rw [TL.join_eq, len_tl, tl_join]
  have h1 := (in_join (S := tl y) (ps := ps.map tl) (List.mem_map.mpr ⟨p, hp, rfl⟩)).1
  rw [← len_tl] at h1
  omega
instance (n : Nat) (z : Str) : Decidable (TOk n z) := inferInstanceAs (Decidable (_ ∧ _))
theorem digit_texts : ∀ i : Nat, i < 19 → TOk 2 (Str.ofString (toString ((-9 : Int) + (i : Int)))) ∧ 1 ≤ (Str.ofString (toString ((-9 : Int) + (i : Int)))).length := by decide +kernel
/-- text data that may be compared -/
theorem shaped_str {z : Str} (h : PyData.strOk z = true) : SeqAt.shaped (.str z) = true := by
  unfold SeqAt.shaped
  rw [show PyData.canLay0 (.str z) = PyData.strOk z by simp only [PyData.canLay0], h]
  rfl

/-! ### data that may be compared -/
theorem dp_ints {K : PySem.W.Frag} {H : Hp} : ∀ is : List Int, DpAll K H (is.map V.int) (is.map PyData.int)
  | [] => .nil
  | i :: is => .cons (.int i) (dp_ints is)
theorem can_ints : ∀ is : List Int, PyData.canLayAll0 (is.map PyData.int) = true
  | [] => by simp only [List.map_nil, PyData.canLayAll0]
  | i :: is => by
    rw [List.map_cons, PyData.canLayAll0, can_ints is]
    simp only [PyData.canLay0, Bool.and_true]
theorem dep_ints : ∀ is : List Int, PyData.depthAll (is.map PyData.int) = 0
  | [] => by simp only [List.map_nil, PyData.depthAll]
  | i :: is => by
    rw [List.map_cons, PyData.depthAll, dep_ints is]
    simp only [PyData.depth, Nat.max_self]
theorem shaped_of {d : PyData} (h : d.canLay0 = true) (k : d.depth ≤ 64) : SeqAt.shaped d = true := by
  unfold SeqAt.shaped
  rw [h, decide_eq_true k]
  rfl
theorem can_pair {z : Str} {d : PyData} (hz : PyData.strOk z = true) (hd : d.canLay0 = true) : (PyData.list [.str z, d]).canLay0 = true := by
  simp only [PyData.canLay0, PyData.canLayAll0, hz, hd, Bool.and_true]
theorem dep_pair {z : Str} {d : PyData} {n : Nat} (hd : d.depth ≤ n) : (PyData.list [.str z, d]).depth ≤ n + 1 := by
  simp only [PyData.depth, PyData.depthAll]
  omega
/-- the item's own data: what stands at it reads so, whatever is made later -/
structure DatOf (K : PySem.W.Frag) (H : Hp) (x : V) (d : PyData) : Prop where
  dp : ∀ H', Same H H' → Dp K H' x d
  can : d.canLay0 = true
  dep : d.depth ≤ 10
theorem DatOf.same {K : PySem.W.Frag} {H H1 : Hp} {x : V} {d : PyData} (h : DatOf K H x d) (s : Same H H1) : DatOf K H1 x d := ⟨fun H' s' => h.dp H' (s.trans s'), h.can, h.dep⟩
theorem DatOf.str {K : PySem.W.Frag} {H : Hp} {z : Str} (hz : PyData.strOk z = true) : DatOf K H (.str z) (.str z) := ⟨fun _ _ => .str z, by simp only [PyData.canLay0, hz], by simp only [PyData.depth]; omega⟩
theorem DatOf.non {K : PySem.W.Frag} {H : Hp} : DatOf K H .non .none := ⟨fun _ _ => .non, by simp only [PyData.canLay0], by simp only [PyData.depth]; omega⟩
theorem DatOf.bl {K : PySem.W.Frag} {H : Hp} {b : Bool} : DatOf K H (.bl b) (.bool b) := ⟨fun _ _ => .bl b, by simp only [PyData.canLay0], by simp only [PyData.depth]; omega⟩
theorem DatOf.int {K : PySem.W.Frag} {H : Hp} {i : Int} : DatOf K H (.int i) (.int i) := ⟨fun _ _ => .int i, by simp only [PyData.canLay0], by simp only [PyData.depth]; omega⟩
theorem DatOf.tup {K : PySem.W.Frag} {H : Hp} {p : Addr} {is : List Int} (e : H p = some (.tup (is.map V.int))) : DatOf K H (.ref p) (.tuple (is.map PyData.int)) :=
  ⟨fun _ s => .tup (SqT.of (s _ _ e)) (dp_ints is), by simp only [PyData.canLay0, can_ints], by simp only [PyData.depth, dep_ints]; omega⟩
theorem DatOf.lst1 {K : PySem.W.Frag} {H : Hp} {p : Addr} {z : Str} (hz : PyData.strOk z = true) (e : H p = some (.lst [.str z])) : DatOf K H (.ref p) (.list [.str z]) :=
  ⟨fun _ s => .lst (SqL.of (s _ _ e)) (.cons (.str z) .nil), by simp only [PyData.canLay0, PyData.canLayAll0, hz, Bool.and_true], by simp only [PyData.depth, PyData.depthAll]; omega⟩
/-- two lists of a word and the same thing: equal -/
theorem pair_eqv {z : Str} {d : PyData} (hz : PyData.strOk z = true) (hd : d.canLay0 = true) : PyData.eqv (.list [.str z, d]) (.list [.str z, d]) = true := SeqAt.eqv_refl _ (can_pair hz hd)
theorem pair_ne {K : PySem.W.Frag} {H : Hp} {l l2 : Addr} {z : Str} {x y : V} {d : PyData} {Q : V → Hp → Prop} (hz : PyData.strOk z = true) (e1 : H l = some (.lst [.str z, x])) (e2 : H l2 = some (.lst [.str z, y])) (h1 : Dp K H x d) (h2 : Dp K H y d) (hc : d.canLay0 = true) (hd : d.depth ≤ 10)
    (q : Q (.bl false) H) : rNeD K (.ref l) (.ref l2) H Q := by
  have sh := shaped_of (can_pair hz hc) (Nat.le_trans (dep_pair hd) (by decide))
  refine ⟨_, _, Dp.lst (SqL.of e1) (.cons (.str z) (.cons h1 .nil)), Dp.lst (SqL.of e2) (.cons (.str z) (.cons h2 .nil)), sh, sh, ?_⟩
  rw [pair_eqv hz hc]
  exact q
theorem pair_eq {K : PySem.W.Frag} {H : Hp} {l l2 : Addr} {z : Str} {x y : V} {d : PyData} {Q : V → Hp → Prop} (hz : PyData.strOk z = true) (e1 : H l = some (.lst [.str z, x])) (e2 : H l2 = some (.lst [.str z, y])) (h1 : Dp K H x d) (h2 : Dp K H y d) (hc : d.canLay0 = true) (hd : d.depth ≤ 10)
    (q : Q (.bl true) H) : rEqD K (.ref l) (.ref l2) H Q := by
  have sh := shaped_of (can_pair hz hc) (Nat.le_trans (dep_pair hd) (by decide))
  refine ⟨_, _, Dp.lst (SqL.of e1) (.cons (.str z) (.cons h1 .nil)), Dp.lst (SqL.of e2) (.cons (.str z) (.cons h2 .nil)), sh, sh, ?_⟩
  rw [pair_eqv hz hc]
  exact q
/-- the digits of a text are ints -/
theorem readV_ints {z : Str} {ds : List V} (h : readV z = some ds) : ∃ is : List Int, ds = is.map V.int := by
  unfold readV at h
  split at h
  · cases Option.some.inj h
    exact ⟨[], rfl⟩
  · unfold rowOf at h
    split at h
    · rename_i hall
      have e := Option.some.inj h
      refine ⟨(Txt.split z (Str.ofString " ")).map fun w => match digV w with | some (.int i) => i | _ => 0, ?_⟩
      rw [← e, List.map_map]
      refine List.map_congr_left fun w hw => ?_
      have hs := List.all_eq_true.mp hall w hw
      obtain ⟨v, hv⟩ := Option.isSome_iff_exists.mp hs
      obtain ⟨i, _, _, rfl⟩ := digV_is hv
      simp only [Function.comp, hv, Option.getD_some]
    · cases h
theorem read_empty : readV (Str.ofString "") = none := by decide +kernel
theorem read_dot : readV (Str.ofString ".") = some [] := by decide +kernel
/-- two ways, heaps behind them of their own, one rest -/
theorem iteDupH {c : Bool} {A B : Prop} {G : Hp} {S : Hp → Prop} (f : (∀ H', Same G H' → S H') → c = true → A) (g : (∀ H', Same G H' → S H') → c = false → B) (r : ∀ H', Same G H' → S H') : if c = true then A else B := by
  cases c with
  | true => exact iteT (f r rfl)
  | false => exact iteF (g r rfl)

/-! ### rows as texts -/
/-- a value of a kind that is no tuple -/
inductive NoTup (H : Hp) : V → Prop
  | non : NoTup H .non
  | bl (b : Bool) : NoTup H (.bl b)
  | int (i : Int) : NoTup H (.int i)
  | str (z : Str) : NoTup H (.str z)
  | lst {a : Addr} {xs : List V} (e : H a = some (.lst xs)) : NoTup H (.ref a)
  | dK {a : Addr} {kvs : List (Key × V)} (e : H a = some (.dK kvs)) : NoTup H (.ref a)
theorem NoTup.kit {K : PySem.W.Frag} {H : Hp} {x : V} (h : NoTup H x) : ∃ t : Value, TyX K H x t ∧ PySem.W.kitOne K t (.type "tuple") = some false := by
  cases h with
  | non => exact ⟨_, .base .non, kit_ty (by decide +kernel)⟩
  | bl b => exact ⟨_, .base (.bl b), kit_ty (by decide +kernel)⟩
  | int z => exact ⟨_, .base (.int z), kit_ty (by decide +kernel)⟩
  | str z => exact ⟨_, .base (.str z), kit_ty (by decide +kernel)⟩
  | lst e => exact ⟨_, .base (.lst e), kit_ty (by decide +kernel)⟩
  | dK e => exact ⟨_, .base (.dK e), kit_ty (by decide +kernel)⟩
theorem NoTup.same {H H' : Hp} {x : V} (h : NoTup H x) (s : Same H H') : NoTup H' x := by
  cases h with
  | non => exact .non
  | bl b => exact .bl b
  | int z => exact .int z
  | str z => exact .str z
  | lst e => exact .lst (s _ _ e)
  | dK e => exact .dK (s _ _ e)
/-- an int, or a value of another kind -/
def IntOdd (H : Hp) (x : V) : Prop := (∃ n : Int, x = .int n) ∨ Odd H x
theorem IntOdd.same {H H' : Hp} {x : V} (h : IntOdd H x) (s : Same H H') : IntOdd H' x := by
  rcases h with h | h
  · exact .inl h
  · exact .inr (h.same s)
def digI (n : Int) : Bool := decide (-9 ≤ n) && decide (n ≤ 9)
/-- a digit -/
def digB : V → Bool
  | .int n => digI n
  | _ => false
theorem digB_odd {H : Hp} {x : V} (h : Odd H x) : digB x = false := by cases h <;> rfl
theorem digs_ints : ∀ {xs : List V}, xs.all digB = true → ∃ is : List Int, xs = is.map V.int ∧ ∀ i ∈ is, -9 ≤ i ∧ i ≤ 9
  | [], _ => ⟨[], rfl, fun i h => by cases h⟩
  | x :: xs, h => by
    rw [List.all_cons, Bool.and_eq_true] at h
    obtain ⟨is, e, k⟩ := digs_ints h.2
    cases x with
    | int n =>
      have h1 : digI n = true := h.1
      unfold digI at h1
      rw [Bool.and_eq_true, decide_eq_true_eq, decide_eq_true_eq] at h1
      refine ⟨n :: is, by rw [e]; rfl, fun i hi => ?_⟩
      rcases List.mem_cons.mp hi with hi | hi
      · rw [hi]; exact h1
      · exact k i hi
    | non => exact absurd h.1 Bool.false_ne_true
    | bl b => exact absurd h.1 Bool.false_ne_true
    | str z => exact absurd h.1 Bool.false_ne_true
    | byt z => exact absurd h.1 Bool.false_ne_true
    | flt z => exact absurd h.1 Bool.false_ne_true
    | ref a => exact absurd h.1 Bool.false_ne_true
    | ty n => exact absurd h.1 Bool.false_ne_true
theorem ints_digs {is : List Int} (h : ∀ i ∈ is, -9 ≤ i ∧ i ≤ 9) : (is.map V.int).all digB = true := by
  rw [List.all_map]
  refine List.all_eq_true.mpr fun i hi => ?_
  obtain ⟨h1, h2⟩ := h i hi
  show digI i = true
  unfold digI
  rw [decide_eq_true h1, decide_eq_true h2]
  rfl
/-- the text of a digit -/
def strI (i : Int) : Str := Str.ofString (toString i)
theorem strI_ok {i : Int} (h : -9 ≤ i ∧ i ≤ 9) : TOk 2 (strI i) ∧ 1 ≤ (strI i).length := by
  obtain ⟨h1, h2⟩ := h
  have e : i = (-9 : Int) + (((i + 9).toNat : Nat) : Int) := by omega
  have := digit_texts (i + 9).toNat (by omega)
  rw [← e] at this
  exact this
theorem digV_all : ∀ k : Nat, k < 19 → digV (Str.ofString (toString ((-9 : Int) + (k : Int)))) = some (V.int ((-9 : Int) + (k : Int))) ∧ (32 : Nat) ∉ tl (Str.ofString (toString ((-9 : Int) + (k : Int)))) ∧ Str.ofString (toString ((-9 : Int) + (k : Int))) ≠ Str.ofString "." ∧ (46 : Nat) ∉ tl (Str.ofString (toString ((-9 : Int) + (k : Int)))) := by decide +kernel
theorem digV_of {i : Int} (h : -9 ≤ i ∧ i ≤ 9) : digV (strI i) = some (V.int i) ∧ (32 : Nat) ∉ tl (strI i) ∧ (46 : Nat) ∉ tl (strI i) := by
  obtain ⟨h1, h2⟩ := h
  have e : i = (-9 : Int) + (((i + 9).toNat : Nat) : Int) := by omega
  obtain ⟨k1, k2, _, k4⟩ := digV_all (i + 9).toNat (by omega)
  rw [← e] at k1 k2 k4
  exact ⟨k1, k2, k4⟩
/-- the text of a row -/
def textOf (is : List Int) : Str := if is = [] then Str.ofString "." else Txt.join (Str.ofString " ") (is.map strI)
theorem textOf_ok {is : List Int} (h : ∀ i ∈ is, -9 ≤ i ∧ i ≤ 9) (hl : is.length ≤ 200) : TOk 600 (textOf is) := by
  unfold textOf
  split
  · decide +kernel
  · refine (TOk.join blankOk (n := 2) fun p hp => ?_).mono ?_
    · obtain ⟨i, hi, rfl⟩ := List.mem_map.mp hp
      exact (strI_ok (h i hi)).1
    · rw [List.length_map]
      omega
where blankOk : TOk 1 (Str.ofString " ") := by decide +kernel
theorem not_dot {is : List Int} (h : ∀ i ∈ is, -9 ≤ i ∧ i ≤ 9) (hn : is ≠ []) : Txt.join (Str.ofString " ") (is.map strI) ≠ Str.ofString "." := fun e => by
  cases is with
  | nil => exact hn rfl
  | cons i r =>
    have hp : strI i ∈ (i :: r).map strI := List.mem_map.mpr ⟨i, List.mem_cons_self .., rfl⟩
    have hi := h i (List.mem_cons_self ..)
    have h2 := (in_join (S := tl (Str.ofString " ")) (ps := ((i :: r).map strI).map tl) (List.mem_map.mpr ⟨_, hp, rfl⟩)).2
    have e2 := congrArg tl e
    rw [TL.join_eq, tl_join] at e2
    rw [e2] at h2
    have hpos := (strI_ok hi).2
    rw [len_tl] at hpos
    cases hs : tl (strI i) with
    | nil => rw [hs] at hpos; exact absurd hpos (by decide)
    | cons c cs =>
      have hc := h2 c (by rw [hs]; exact List.mem_cons_self ..)
      have : c = 46 := by
        have e3 : tl (Str.ofString ".") = [46] := by decide +kernel
        rw [e3] at hc
        exact List.mem_singleton.mp hc
      exact (digV_of hi).2.2 (by rw [hs, this]; exact List.mem_cons_self ..)
/-- a row's text is read as the row -/
theorem read_text {is : List Int} (h : ∀ i ∈ is, -9 ≤ i ∧ i ≤ 9) : readV (textOf is) = some (is.map V.int) := by
  unfold textOf
  by_cases hn : is = []
  · rw [if_pos hn, hn]
    exact read_dot
  · rw [if_neg hn]
    unfold readV
    rw [if_neg (not_dot h hn)]
    have e : Txt.split (Txt.join (Str.ofString " ") (is.map strI)) (Str.ofString " ") = is.map strI := by
      refine TL.split_join (s := 32) (S := []) (by decide +kernel) (by decide +kernel) (fun z => hn (List.map_eq_nil_iff.mp z)) fun p hp => ?_
      obtain ⟨i, hi, rfl⟩ := List.mem_map.mp hp
      exact (digV_of (h i hi)).2.1
    rw [e]
    unfold rowOf
    rw [if_pos]
    · rw [List.map_map]
      congr 1
      refine List.map_congr_left fun i hi => ?_
      show (digV (strI i)).getD .non = V.int i
      rw [(digV_of (h i hi)).1]
      rfl
    · rw [List.all_map]
      refine List.all_eq_true.mpr fun i hi => ?_
      show (digV (strI i)).isSome = true
      rw [(digV_of (h i hi)).1]
      rfl
end OF
namespace K03
open PySem PySem.Spec PyProof.Rows L2 OF
def topS (i : Nat) : Stmt := PySem.Challenge.pw_oddfigures_k03_row_texts_nearly_good.main.body.getD i (.Pass ⟨0, 0, 0, 0⟩)
abbrev sFig : Stmt := inClass (topS 1) 0
abbrev sInT : Stmt := inClass (topS 2) 0
abbrev sRead : Stmt := topS 6
abbrev sCell : Stmt := topS 8
abbrev sBox : Stmt := topS 9
abbrev sTake : Stmt := topS 10
abbrev sDue : Stmt := topS 11
abbrev sTold : Stmt := topS 12
abbrev sSpoilt : Stmt := topS 13
abbrev sRight : Stmt := topS 14
abbrev sLaw : Stmt := topS 15


section
variable {P : Program} {w : World} {K : PySem.W.Frag} {mg : Str → Option Value} {base : Heap}
theorem scC : FnScope ["_law_script", "_law_k"] ["_law_script", "_law_k"] (defScope sCell) := ⟨rfl, rfl, rfl, by decide +kernel, rfl, by decide +kernel, by decide +kernel⟩
theorem ok_cell {f : Addr} {fd : FuncData} (F : Fun K "_law_cell" "_law_cell" sCell f fd) (ml : mg "len" = none) : FnOk P w K mg base CX0 1 f fd ["_law_script", "_law_k"] (OF.spCell K) := by
  refine F.ok scC (fun vs H Q E h => ?_) (fun cdv A outer s H vs Q E hr h => ?_)
  · obtain ⟨a, ns, k, rfl, _⟩ := h
    rfl
  · obtain ⟨a, ns, k, rfl, hS, hk, q⟩ := h
    refine ⟨_, pss_cons (ps_if (pt_cmpR op_lt (pv 1) (pe_callB call_len_seq (by rfl) ml PySem.boot_len (pa_cons (pv 0) pa_nil)) (nomark _))
        (pss_one (ps_ret (pe_ix ix_list (pv 0) (pv 1) (fun _ _ => rfl)))) pss_nil)
      (pss_one (ps_ret (pe_op op_add (pe_op op_mul pe_int (pv 1)) pe_int))), ?_⟩
    refine ⟨.int k, rfl, .ref a, rfl, a, ns.map V.int, rfl, .inl hS, k, _, rfl, rfl, _, rfl, ite2 (fun c => ?_) (fun c => ?_)⟩
    · have c1 : k < ns.length := by
        have c2 := of_decide_eq_true c
        rw [List.length_map] at c2
        omega
      have g : (ns.map V.int)[k]? = some (.int ns[k]) := by
        rw [List.getElem?_map, List.getElem?_eq_getElem c1]
        rfl
      exact ⟨.ref a, rfl, .int k, rfl, a, _, k, .int ns[k], rfl, rfl, hS, atI_nat g, q _⟩
    · exact ⟨.int k, rfl, _, _, rfl, rfl, .inl ⟨by decide, by decide⟩, _, _, rfl, rfl, q _⟩
theorem scB : FnScope ["_law_cell_here"] ["_law_cell_here"] (defScope sBox) := ⟨rfl, rfl, rfl, by decide +kernel, rfl, by decide +kernel, by decide +kernel⟩
theorem ok_box {f : Addr} {fd : FuncData} (F : Fun K "_law_box" "_law_box" sBox f fd) (mi : mg "int" = none) (mm : mg "max" = none) : FnOk P w K mg base CX0 1 f fd ["_law_cell_here"] spBox := by
  refine F.ok scB (fun vs H Q E h => ?_) (fun cdv A outer s H vs Q E hr h => ?_)
  · obtain ⟨c, rfl, _⟩ := h
    rfl
  · obtain ⟨c, rfl, q⟩ := h
    refine ⟨_, pss_one (ps_ret (pe_lst (pa_cons (pe_callB (call_max2 rfl) (by rfl) mm PyProof.Rows.boot_max (pa_cons pe_int (pa_cons (pe_op op_sub (pv 0) (pe_op op_pow pe_int pe_int)) pa_nil)))
      (pa_cons (pe_op op_modR (pe_callTy call_int1 (by rfl) mi PyProof.Rows.boot_int (pa_cons (pv 0) pa_nil)) pe_int) (pa_cons pe_int pa_nil))))), ?_⟩
    refine ⟨.int c, rfl, _, _, rfl, rfl, ⟨by decide, by decide, by decide⟩, _, _, rfl, rfl, _, _, rfl, .int c, rfl, .inl ⟨_, rfl, _, _, rfl, rfl, by decide, fun r r0 r1 => ?_⟩⟩
    refine ⟨by show 3 ≤ sizeLine; decide, fun p hp => ?_⟩
    refine q p _ hp (same_new hp) ⟨_, r, 0, upd_same, ?_, r0, by omega, by decide, by decide⟩
    split <;> omega
theorem scT : FnScope ["_law_box_here", "_law_many", "_law_digit", "_law_number"] ["_law_box_here", "_law_many"] (defScope sTake) := ⟨rfl, rfl, rfl, by decide +kernel, rfl, by decide +kernel, by decide +kernel⟩
theorem ok_take {f : Addr} {fd : FuncData} (F : Fun K "_law_take" "_law_take" sTake f fd) (mi : mg "int" = none) : FnOk P w K mg base CX0 1 f fd ["_law_box_here", "_law_many"] spTake := by
  refine F.ok scT (fun vs H Q E h => ?_) (fun cdv A outer s H vs Q E hr h => ?_)
  · obtain ⟨a, m, n, rfl, _⟩ := h
    rfl
  · obtain ⟨a, m, n, rfl, ⟨b0, b1, b2, hH, p0, p1, q1, p2, q2⟩, hn, hm, hmb, q⟩ := h
    refine ⟨_, pss_cons (ps_if (pt_cmpR op_gt (pe_ix ix_list (pv 0) pe_int (fun _ _ => rfl)) pe_int (nomark _))
        (pss_cons (ps_set (i := 2) scT.nd rfl (.inl rfl) (pe_op op_modR (pe_callTy call_int1 (by rfl) mi PyProof.Rows.boot_int (pa_cons (pe_ix ix_list (pv 0) pe_int (fun _ _ => rfl)) pa_nil)) (pv 1)))
        (pss_cons (ps_asg (pe_op op_fdivW (pe_ix ix_list (pv 0) pe_int (fun _ _ => rfl)) (pv 1)) (pg_sub (pv 0) pe_int set_list))
        (pss_one (ps_ret (pv 2))))) pss_nil)
      (pss_cons (ps_asg (pe_op op_add (pe_ix ix_list (pv 0) pe_int (fun _ _ => rfl)) pe_int) (pg_sub (pv 0) pe_int set_list))
      (pss_cons (ps_set (i := 3) scT.nd rfl (.inl rfl) (pe_op op_modR (pe_op op_pow (pe_callTy call_int1 (by rfl) mi PyProof.Rows.boot_int
          (pa_cons (pe_op op_add (pe_op op_add (pe_ix ix_list (pv 0) pe_int (fun _ _ => rfl)) (pe_op op_mul pe_int (pe_ix ix_list (pv 0) pe_int (fun _ _ => rfl)))) pe_int) pa_nil)) pe_int) pe_int))
      (pss_cons (ps_set (i := 3) scT.nd rfl (.inl rfl) (pe_op op_modR (pe_op op_pow (pe_callTy call_int1 (by rfl) mi PyProof.Rows.boot_int
          (pa_cons (pe_op op_add (pv 3) (pe_op op_mul pe_int (pe_ix ix_list (pv 0) pe_int (fun _ _ => rfl)))) pa_nil)) pe_int) pe_int))
      (pss_one (ps_ret (pe_op op_modR (pe_callTy call_int1 (by rfl) mi PyProof.Rows.boot_int (pa_cons (pe_op op_fdiv (pv 3) pe_int) pa_nil)) (pv 1))))))), ?_⟩
    refine ⟨.ref a, rfl, a, _, 0, .int b0, rfl, rfl, SqL.of hH, atI_nat (j := 0) rfl, b0, 0, rfl, rfl, _, rfl, ite2 (fun c => ?_) (fun c => ?_)⟩
    · refine ⟨.ref a, rfl, a, _, 0, .int b0, rfl, rfl, SqL.of hH, atI_nat (j := 0) rfl, .inl ⟨b0, rfl, .int m, rfl, b0, m, rfl, rfl, hm, fun r r0 r1 => ?_⟩⟩
      refine ⟨.ref a, rfl, a, _, 0, .int b0, rfl, rfl, SqL.of hH, atI_nat (j := 0) rfl, .int m, rfl, b0, m, rfl, rfl, wide_div hm hmb (by decide) (by decide), ?_⟩
      refine ⟨.ref a, rfl, a, _, 0, 0, rfl, rfl, hH, rfl, ?_⟩
      refine ⟨.int r, rfl, q r _ r0 r1 But.at_ ⟨b0 / m, b1, b2, upd_same, Int.ediv_nonneg p0 (by omega), p1, q1, p2, by omega⟩⟩
    · refine ⟨.ref a, rfl, a, _, 2, .int b2, rfl, rfl, SqL.of hH, atI_nat (j := 2) rfl, b2, 1, rfl, rfl, .ref a, rfl, a, _, 2, 2, rfl, rfl, hH, rfl, ?_⟩
      have hH1 : (upd H a (.lst [.int b0, .int b1, .int (b2 + 1)])) a = some (.lst [.int b0, .int b1, .int (b2 + 1)]) := upd_same
      refine ⟨.ref a, rfl, a, _, 1, .int b1, rfl, rfl, SqL.of hH1, atI_nat (j := 1) rfl, .ref a, rfl, a, _, 2, .int (b2 + 1), rfl, rfl, SqL.of hH1, atI_nat (j := 2) rfl,
        _, _, rfl, rfl, .inl ⟨by decide, by decide⟩, _, _, rfl, rfl, _, _, rfl, rfl, .inl ⟨_, rfl, _, _, rfl, rfl, ⟨by decide, by decide, by omega⟩, _, _, rfl, rfl, by decide, fun r r0 r1 => ?_⟩⟩
      refine ⟨.int r, rfl, .ref a, rfl, a, _, 2, .int (b2 + 1), rfl, rfl, SqL.of hH1, atI_nat (j := 2) rfl,
        _, _, rfl, rfl, .inl ⟨by decide, by decide⟩, _, _, rfl, rfl, .inl ⟨_, rfl, _, _, rfl, rfl, ⟨by decide, by decide, by omega⟩, _, _, rfl, rfl, by decide, fun r' r0' r1' => ?_⟩⟩
      refine ⟨.int r', rfl, _, _, rfl, rfl, ⟨by decide, by decide⟩, .inl ⟨_, rfl, .int m, rfl, _, _, rfl, rfl, hm, fun r2 h0 h1 => ?_⟩⟩
      exact q r2 _ h0 h1 But.at_ ⟨b0, b1, b2 + 1, upd_same, p0, p1, q1, by omega, by omega⟩

/-! ### the errors -/
theorem scFig : FnScope ["self", "text"] ["self", "text"] (defScope sFig) := ⟨rfl, rfl, rfl, by decide +kernel, rfl, by decide +kernel, by decide +kernel⟩
theorem ok_fig {f : Addr} {fd : FuncData} (F : Fun K "__init__" "FigureError.__init__" sFig f fd) (mV : mg "ValueError" = none) (vV : PySem.W.findCls K (.type "ValueError") (.type "type") "__init__" = some (.val (.builtin "ValueError.__init__"))) :
    FnOk P w K mg base CX0 1 f fd ["self", "text"] (spFig K) := by
  refine F.ok scFig (fun vs H Q E h => ?_) (fun cdv A outer s H vs Q E hr h => ?_)
  · obtain ⟨a, C, v, nm, rfl, _⟩ := h
    rfl
  · obtain ⟨a, C, v, nm, rfl, T, N, ha, q⟩ := h
    refine ⟨_, pss_cons (ps_expr (pe_veinit (by rfl) mV vV (pa_cons (pv 0) (pa_cons (pv 1) pa_nil)))) (pss_one (ps_ost (pv 0) (pe_cname (pv 0)))), ?_⟩
    exact ⟨.ref a, rfl, v, rfl, a, C, [v], rfl, (by show 1 ≤ 1000; decide), T, ha, .ref a, rfl, a, C, nm, rfl, ha, N, .ref a, rfl, a, C, rfl, T, N.no, .inl ⟨ha, fun d hd nd => q d hd nd⟩⟩
theorem scInT : FnScope ["self", "text"] ["self", "text"] (defScope sInT) := ⟨rfl, rfl, rfl, by decide +kernel, rfl, by decide +kernel, by decide +kernel⟩
theorem ok_inT {f f0 C C0 : Addr} {fd fd0 : FuncData} (F : Fun K "__init__" "InvalidText.__init__" sInT f fd) (F0 : Fun K "__init__" "FigureError.__init__" sFig f0 fd0) (T0 : FigC K mg C0 f0) (b0 : Binds K fd0 ["self", "text"] []) (T : ErrC K mg "InvalidText" "text" C f)
    (mV : mg "ValueError" = none) (vV : PySem.W.findCls K (.type "ValueError") (.type "type") "__init__" = some (.val (.builtin "ValueError.__init__"))) :
    FnOk P w K mg base CX0 2 f fd ["self", "text"] (spInit K "text" C) := by
  have G0 : FnOk P w K mg base CX0 1 f0 fd0 ["self", "text"] (spFig K) := ok_fig F0 mV vV
  refine F.ok scInT (fun vs H Q E h => ?_) (fun cdv A outer s H vs Q E hr h => ?_)
  · obtain ⟨a, v, rfl, _⟩ := h
    rfl
  · obtain ⟨a, v, rfl, ha, q⟩ := h
    refine ⟨_, pss_cons (ps_expr (pe_unb G0 hr (by rfl) T0.g T0.rd T0.val T0.kp b0 pass0 (pa_cons (pv 0) (pa_cons pe_str pa_nil)))) (pss_one (ps_ost (pv 0) (pv 1))), ?_⟩
    obtain ⟨nm, N⟩ := T.nam
    refine ⟨.ref a, rfl, a, C, _, nm, rfl, T.ox, N, ha, fun d hd nd => ?_⟩
    refine ⟨v, rfl, .ref a, rfl, a, C, rfl, T.ox, T.no, .inr ⟨d, _, upd_same, by rw [upd_ne nd]; exact upd_same, (by show 1 ≤ 900; decide), ?_⟩⟩
    rw [upd_swap nd]
    exact q _ d hd nd

/-! ### read_row -/
abbrev nRead : List Str := ["text", "digits", "words", "digit", "word"]
theorem scRd : FnScope nRead ["text"] (defScope sRead) := ⟨rfl, rfl, rfl, by decide +kernel, rfl, by decide +kernel, by decide +kernel⟩
theorem ok_read {f fI f0 C C0 : Addr} {fd fdI fd0 : FuncData} {tE t9 : Tok} (F : Fun K "read_row" "read_row" sRead f fd) (FI : Fun K "__init__" "InvalidText.__init__" sInT fI fdI) (F0 : Fun K "__init__" "FigureError.__init__" sFig f0 fd0)
    (T0 : FigC K mg C0 f0) (b0 : Binds K fd0 ["self", "text"] []) (T : ErrC K mg "InvalidText" "text" C fI) (bI : Binds K fdI ["self", "text"] [])
    (mV : mg "ValueError" = none) (vV : PySem.W.findCls K (.type "ValueError") (.type "type") "__init__" = some (.val (.builtin "ValueError.__init__")))
    (gE : mg "EMPTY_TEXT" = some (.str "." tE)) (g9 : mg "GREATEST_DIGIT" = some (.int 9 t9)) (mi : mg "isinstance" = none) (ms : mg "str" = none) (mr : mg "range" = none) (mall : mg "all" = none) (mtu : mg "tuple" = none) :
    FnOk P w K mg base (L2.CX P w) 4 f fd ["text"] (spRead C) := by
  have GI : FnOk P w K mg base CX0 2 fI fdI ["self", "text"] (spInit K "text" C) := ok_inT FI F0 T0 b0 T mV vV
  refine F.okX scRd (fun vs H Q E h => ?_) (fun cdv A outer s H vs Q E hr h => ?_)
  · obtain ⟨x, rfl, _⟩ := h
    rfl
  · obtain ⟨x, rfl, h⟩ := h
    apply Exists.intro
    apply And.intro
    · apply pss_cons
      · exact ps_if (pt_not (pt_val (pe_callB call_isi (by rfl) mi PyProof.Rows.boot_isinstance (pa_cons (pv 0) (pa_cons (pe_bltn (v := .ty "str") (by rfl) ms PyProof.Rows.boot_str rfl) pa_nil)))))
          (pss_one (ps_raise rfl (takes_of rfl rfl rfl rfl) (pmk_oex T.ox T.iC T.tI GI hr bI .nil pass0 (by rfl) T.g (pa_cons (pv 0) pa_nil)))) pss_nil
      apply pss_cons
      · exact ps_if (pt_cmpR op_eq (pv 0) (pe_glob (v := .str ".") rfl gE ⟨_, rfl⟩) (nomark _)) (pss_one (ps_ret (pe_tup pa_nil))) pss_nil
      apply pss_cons
      · exact ps_set (i := 1) scRd.nd rfl (.inr rfl) (pe_dc (own := [("digit", 3)]) (g := gName 3) (tt := tYes) rfl scRd.nd
          (pi_range2 rfl mr (pa_cons (pe_un un_neg (pe_glob (v := .int 9) rfl g9 ⟨_, rfl⟩)) (pa_cons (pe_op op_add (pe_glob (v := .int 9) rfl g9 ⟨_, rfl⟩) pe_int) pa_nil)))
          (blkOk_by (own := [("digit", 3)]) (N := nRead) (sc := defScope sRead) (by decide +kernel)) (fun _ _ _ _ _ => pg_name (i := 3) scRd.nd rfl (Or.inl rfl)) (fun _ _ _ _ _ => pts_nil)
          (fun _ _ _ _ _ => by exact (pe_callTy call_str_int (by rfl) ms PyProof.Rows.boot_str (pa_cons (pv 3) pa_nil))) (fun _ _ _ _ _ => by exact (pv 3)))
      apply pss_cons
      · exact ps_set (i := 2) scRd.nd rfl (.inl rfl) (pe_split (pv 0) pe_str)
      apply pss_cons
      · exact ps_if (pt_not (pt_val (pe_callB (cr_all rfl) (by rfl) mall (by decide +kernel) (pa_cons (pe_lc (own := [("word", 4)]) (g := gName 4) (tt := tYes) (te := tDIn (tVar 4) (tVar 1)) rfl scRd.nd (pi_list (pv 2))
            (blkOk_by (own := [("word", 4)]) (N := nRead) (sc := defScope sRead) (by decide +kernel)) (fun _ _ _ _ _ => pg_name (i := 4) scRd.nd rfl (Or.inl rfl)) (fun _ _ _ _ _ => pts_nil)
            (fun _ _ _ _ _ => by exact (pe_cmp (pc_din (hu_of hr) (pv 4) (pv 1))))) pa_nil))))
          (pss_one (ps_raise rfl (takes_of rfl rfl rfl rfl) (pmk_oex T.ox T.iC T.tI GI hr bI .nil pass0 (by rfl) T.g (pa_cons (pv 0) pa_nil)))) pss_nil
      apply pss_one
      · exact ps_ret (pe_callTy call_tuple_of (by rfl) mtu (by decide +kernel) (pa_cons (pe_lc (own := [("word", 4)]) (g := gName 4) (tt := tYes) (te := tDGet (tVar 1) (tVar 4)) rfl scRd.nd (pi_list (pv 2))
            (blkOk_by (own := [("word", 4)]) (N := nRead) (sc := defScope sRead) (by decide +kernel)) (fun _ _ _ _ _ => pg_name (i := 4) scRd.nd rfl (Or.inl rfl)) (fun _ _ _ _ _ => pts_nil)
            (fun _ _ _ _ _ => by exact (pe_dget (hu_of hr) (pv 1) (pv 4) (fun _ _ => rfl)))) pa_nil))
    rcases h with ⟨z, rfl, hz, hok, hno⟩ | ⟨o, hE⟩
    · refine ⟨.str z, rfl, .str z, .ty "str", .type "str", .type "str", true, rfl, .ty _, .base (.str z), kit_ty (by decide +kernel), true, rfl, iteF ?_⟩
      refine ⟨.str z, rfl, rfl, _, rfl, ite2 (fun c => ?_) (fun c => ?_)⟩
      · have ez : z = Str.ofString "." := V.str.inj (of_decide_eq_true c)
        exact ⟨(by show 0 ≤ sizeLine; decide), fun p hp => hok [] (if_pos ez) p _ hp (same_new hp) upd_same⟩
      · have ez : z ≠ Str.ofString "." := fun e => c (decide_eq_true (congrArg V.str e))
        have er : readV z = rowOf (Txt.split z (Str.ofString " ")) := if_neg ez
        have hlen : (Txt.split z (Str.ofString " ")).length < sizeLine := by
          have := PyProof.Rows.split_le z (Str.ofString " ")
          rw [sizeLine_eq]
          omega
        refine ⟨9, rfl, _, _, rfl, rfl, -9, _, rfl, ⟨by decide, by decide, by decide, by decide⟩, fun D hD => ?_⟩
        refine dc_range (lo := -9) (n := 19) (fun i H' => Same H H' ∧ H' D = some (.dK (digL.take i))) ⟨same_new hD, upd_same⟩ ?_ ?_
        · rintro i H' hi ⟨s1, e1⟩
          refine ⟨rfl, tYes_if ⟨_, rfl, _, rfl, log_le (by omega), _, rfl, _, Sum.inr _, rfl, e1, ?_, Same.store s1 hD, ?_⟩⟩
          · rw [sizeLine_eq]
            exact Nat.lt_of_le_of_lt (List.length_take_le _ _) (by omega)
          · rw [upd_same, digL_put i hi]
        · rintro H1 ⟨s1, e1⟩
          rw [digL_all] at e1
          refine ⟨.str z, rfl, ⟨z, rfl⟩, z, Str.ofString " ", rfl, rfl, by decide +kernel, (by rw [sizeLine_eq]; omega), fun p hp => ?_⟩
          generalize hws : Txt.split z (Str.ofString " ") = ws at hlen er ⊢
          have s2 : Same H1 (upd H1 p (.lst (ws.map V.str))) := same_new hp
          have eD := s2 _ _ e1
          have ep : (upd H1 p (.lst (ws.map V.str))) p = some (.lst (ws.map V.str)) := upd_same
          generalize upd H1 p (.lst (ws.map V.str)) = H2 at s2 eD ep ⊢
          refine ⟨.ref p, rfl, p, rfl, ⟨_, SqL.of ep⟩, fun D2 n2 => ?_⟩
          refine lc_list (K := K) (a := p) (xs := ws.map V.str) (fun i H' => Same H2 H' ∧ H' D2 = some (.lst ((ws.take i).map fun w => V.bl (digV w).isSome))) ⟨same_new n2, upd_same⟩ (fun i H' _ h => SqL.of (h.1 _ _ ep)) ?_ ?_
          · rintro i x H' hx ⟨s3, e3⟩
            obtain ⟨u, hu, rfl⟩ := get_map hx
            refine ⟨rfl, tYes_if ⟨.str u, rfl, .ref D, rfl, D, _, rfl, DGet.k (k := Sum.inr u) (s3 _ _ eD), _, e3, ?_, Same.store s3 n2, ?_⟩⟩
            · rw [List.length_map]
              exact Nat.lt_of_le_of_lt (List.length_take_le' _ _) hlen
            · rw [upd_same, take_more hu, List.map_append]
              rfl
          · rintro H3 ⟨s3, e3⟩
            rw [List.length_map, List.take_length] at e3
            refine ⟨D2, ws.map fun w => (digV w).isSome, rfl, SqL.of (by rw [e3, List.map_map]; rfl), _, rfl, ?_⟩
            have eall : (ws.map fun w => (digV w).isSome).all id = ws.all (fun w => (digV w).isSome) := by
              rw [List.all_map]
              rfl
            rw [eall]
            by_cases hb : ws.all (fun w => (digV w).isSome) = true
            · refine iteFB (by rw [hb]; rfl) ?_
              refine ⟨.ref p, rfl, p, rfl, ⟨_, SqL.of (s3 _ _ ep)⟩, fun D3 n3 => ?_⟩
              refine lc_list (K := K) (a := p) (xs := ws.map V.str) (fun i H' => Same H3 H' ∧ H' D3 = some (.lst ((ws.take i).map fun w => (digV w).getD .non))) ⟨same_new n3, upd_same⟩ (fun i H' _ h => SqL.of (h.1 _ _ (s3 _ _ ep))) ?_ ?_
              · rintro i x H' hx ⟨s4, e4⟩
                obtain ⟨u, hu, rfl⟩ := get_map hx
                have hs : (digV u).isSome = true := List.all_eq_true.mp hb u (List.mem_of_getElem? hu)
                obtain ⟨v, hv⟩ := Option.isSome_iff_exists.mp hs
                have dg : DGet H' D (.str u) (some v) := by
                  have q := DGet.k (k := Sum.inr u) (s4 _ _ (s3 _ _ eD))
                  have q2 : valV digL (Sum.inr u) = some v := hv
                  rw [q2] at q
                  exact q
                refine ⟨rfl, tYes_if ⟨.ref D, rfl, .str u, rfl, D, v, rfl, dg, _, e4, ?_, Same.store s4 n3, ?_⟩⟩
                · rw [List.length_map]
                  exact Nat.lt_of_le_of_lt (List.length_take_le' _ _) hlen
                · rw [upd_same, take_more hu, List.map_append]
                  show _ = some (HO.lst (_ ++ [(digV u).getD .non]))
                  rw [hv]
                  rfl
              · rintro H4 ⟨s4, e4⟩
                rw [List.length_map, List.take_length] at e4
                have sAll : Same H H4 := s1.trans (s2.trans (s3.trans s4))
                refine ⟨D3, _, rfl, .inl ⟨SqL.of e4, fun l hl => ?_⟩⟩
                refine hok _ ?_ l _ (sAll.free hl) (Same.store sAll (sAll.free hl)) upd_same
                rw [er]
                exact if_pos hb
            · refine iteTB (by rw [Bool.eq_false_iff.mpr hb]; rfl) ?_
              have hn : readV z = none := by
                rw [er]
                exact if_neg hb
              exact ⟨.str z, rfl, raised_ok (σ := start nRead [.str z]) (D := { nx := fun _ H' => Q .non H', rt := Q }) (hno hn) (s1.trans (s2.trans s3))⟩
    · obtain ⟨t, ty, k1⟩ := o.kit (K := K)
      refine ⟨x, rfl, x, .ty "str", t, .type "str", false, rfl, .ty _, ty, k1, false, rfl, iteT ?_⟩
      exact ⟨x, rfl, raised_ok (σ := start nRead [x]) (D := { nx := fun _ H' => Q .non H', rt := Q }) hE (Same.refl H)⟩
end
end K03
namespace K03
open PySem PySem.Spec PyProof.Rows L2 OF
section
variable {P : Program} {w : World} {K : PySem.W.Frag} {mg : Str → Option Value} {base : Heap}

/-- the digits of a text, or None -/
def spDue : Sp := fun vs H Q _ => ∃ z : Str, vs = [.str z] ∧ z.length ≤ 100000 ∧ (∀ ds, readV z = some ds → ∀ p H', H p = none → Same H H' → H' p = some (.tup ds) → Q (.ref p) H') ∧ (readV z = none → ∀ H', Same H H' → Q .non H')
theorem scDu : FnScope ["_law_text", "_law_found", "_law_word", "_law_sign", "_law_rest"] ["_law_text"] (defScope sDue) := ⟨rfl, rfl, rfl, by decide +kernel, rfl, by decide +kernel, by decide +kernel⟩
theorem same_past {F : Addr} {H H1 H2 : Hp} (hF : H F = none) (s : Same H H1) (b : But F H1 H2) : Same H H2 := fun c o h => b c o (ne_of_none h hF) (s c o h)
theorem ok_due {f : Addr} {fd : FuncData} (F : Fun K "_law_due" "_law_due" sDue f fd) (mi : mg "int" = none) (ml : mg "list" = none) (mt : mg "tuple" = none) : FnOk P w K mg base CX0 1 f fd ["_law_text"] spDue := by
  refine F.ok scDu (fun vs H Q E h => ?_) (fun cdv A outer s H vs Q E hr h => ?_)
  · obtain ⟨z, rfl, _⟩ := h
    rfl
  · obtain ⟨z, rfl, hz, hok, hno⟩ := h
    apply Exists.intro
    apply And.intro
    · apply pss_cons
      · exact ps_if (pt_cmpR op_eq (pv 0) pe_str (nomark _)) (pss_one (ps_ret (pe_tup pa_nil))) pss_nil
      apply pss_cons
      · exact ps_set (i := 1) scDu.nd rfl (.inl rfl) (pe_lst pa_nil)
      apply pss_cons
      · exact ps_for PassesOwn.never rfl (pi_list (pe_split (pv 0) pe_str)) (pg_name (i := 2) scDu.nd rfl (.inl rfl))
          (pss_cons (ps_set (i := 3) scDu.nd rfl (.inl rfl) (pe_callTy call_int1 (by rfl) mi PyProof.Rows.boot_int (pa_cons (pe_cmpR op_eq (pe_slice sl_str (pv 2) po_none (po_some pe_int)) pe_str (nomark _)) pa_nil)))
          (pss_cons (ps_set (i := 4) scDu.nd rfl (.inl rfl) (pe_slice sl_str (pv 2) (po_some (pv 3)) po_none))
          (pss_cons (ps_if (PW.pt (pw_or (pt_cmpR op_notIn_seq (pv 4) (pe_callTy (call_list_signs rfl) (by rfl) ml PyProof.Rows.boot_list (pa_cons pe_str pa_nil)) rfl) (pw_or1 (pt_cmpR op_eq (pv 2) pe_str (nomark _))))) (pss_one (ps_ret pe_non)) pss_nil)
          (pss_one (ps_expr (pe_bm PySem.F.plainAttrs_list PySem.F.slot_list_append PySem.F.type_list_append mt_append (pv 1)
            (pa_cons (pe_op op_mul (pe_m1 PySem.F.slot_str_find PySem.F.type_str_find mt_find pe_str (pv 4)) (pe_op op_sub pe_int (pe_op op_mul pe_int (pv 3)))) pa_nil)))))))
      apply pss_one
      · exact ps_ret (pe_callTy call_tuple_of (by rfl) mt (by decide +kernel) (pa_cons (pv 1) pa_nil))
    refine ⟨.str z, rfl, rfl, _, rfl, ite2 (fun c => ?_) (fun c => ?_)⟩
    · have ez : z = Str.ofString "." := V.str.inj (of_decide_eq_true c)
      exact ⟨(by show 0 ≤ sizeLine; decide), fun p hp => hok [] (if_pos ez) p _ hp (same_new hp) upd_same⟩
    · have ez : z ≠ Str.ofString "." := fun e => c (decide_eq_true (congrArg V.str e))
      have er : readV z = rowOf (Txt.split z (Str.ofString " ")) := if_neg ez
      have hlen : (Txt.split z (Str.ofString " ")).length < sizeLine := by
        have := PyProof.Rows.split_le z (Str.ofString " ")
        rw [sizeLine_eq]
        omega
      have hwl : ∀ w ∈ Txt.split z (Str.ofString " "), w.length ≤ sizeLine := fun w hw => by
        have e := StrLaws.join_split z (Str.ofString " ")
        have e2 := TL.tl_join (Str.ofString " ") (Txt.split z (Str.ofString " "))
        rw [e] at e2
        have h1 := (in_join (S := TL.tl (Str.ofString " ")) (ps := (Txt.split z (Str.ofString " ")).map TL.tl) (List.mem_map.mpr ⟨w, hw, rfl⟩)).1
        rw [← e2, ← TL.len_tl, ← TL.len_tl] at h1
        rw [sizeLine_eq]
        omega
      refine ⟨Nat.zero_le _, fun F hF => ?_⟩
      have s1 : Same H (upd H F (.lst [])) := same_new hF
      have eF : (upd H F (.lst [])) F = some (.lst []) := upd_same
      generalize upd H F (.lst []) = H1 at s1 eF ⊢
      refine ⟨.str z, rfl, ⟨z, rfl⟩, z, Str.ofString " ", rfl, rfl, by decide +kernel, (by rw [sizeLine_eq]; omega), fun p hp => ?_⟩
      generalize Txt.split z (Str.ofString " ") = ws at hlen er hwl ⊢
      have nFp : F ≠ p := ne_of_none eF hp
      have s2 : Same H1 (upd H1 p (.lst (ws.map V.str))) := same_new hp
      have eF2 := s2 _ _ eF
      have ep : (upd H1 p (.lst (ws.map V.str))) p = some (.lst (ws.map V.str)) := upd_same
      generalize upd H1 p (.lst (ws.map V.str)) = H2 at s2 eF2 ep ⊢
      have s12 := s1.trans s2
      refine ⟨p, rfl, ⟨_, SqL.of ep⟩, for_list (K := K) (a := p) (xs := ws.map V.str) (fun i σ H' => ∃ v2 v3 v4, σ = [some (.str z), some (.ref F), v2, v3, v4] ∧ But F H2 H' ∧ H' F = some (.lst ((ws.take i).map fun w => (digV w).getD .non)) ∧ ∀ w ∈ ws.take i, (digV w).isSome = true)
        ⟨none, none, none, rfl, But.refl, eF2, fun w hw => by simp at hw⟩ (fun i σ H' _ ⟨_, _, _, _, b, _, _⟩ => SqL.of (b _ _ nFp.symm ep)) ?_ ?_⟩
      · rintro i x σ H' hx ⟨v2, v3, v4, rfl, b, e, hall⟩
        obtain ⟨u, hu, rfl⟩ := get_map hx
        have hul := hwl u (List.mem_of_getElem? hu)
        refine ⟨.str u, rfl, 1, rfl, u, rfl, hul, rfl, .inr ⟨sgB u, rfl, ?_⟩⟩
        refine ⟨.str u, rfl, .int (sgI u), rfl, sgI u, rfl, u, rfl, hul, ?_⟩
        refine ⟨.str (restS u), rfl, Str.ofString "0123456789", rfl, by decide +kernel, fun l hl => ?_⟩
        have b' : But F H2 (upd H' l (.lst figs)) := b.trans (But.new hl)
        have e' : (upd H' l (.lst figs)) F = some (.lst ((ws.take i).map fun w => (digV w).getD .non)) := by
          rw [upd_ne (ne_of_none e hl)]
          exact e
        refine ⟨l, figs, rfl, .inl (SqL.of upd_same), rfl, by decide +kernel, _, rfl, ?_⟩
        have hRet : digV u = none → ∀ H3, But F H2 H3 → Q .non H3 := fun hd H3 b3 => by
          refine hno ?_ H3 (same_past hF s12 b3)
          rw [er]
          refine if_neg fun h => ?_
          have := List.all_eq_true.mp h u (List.mem_of_getElem? hu)
          rw [hd] at this
          cases this
        cases hd : digV u with
        | none =>
          rcases word_none hd with h | h
          · exact iteTB (by rw [h]; rfl) (iteTB rfl (hRet hd _ b'))
          · cases hi : inV (.str (restS u)) figs with
            | false => exact iteTB rfl (iteTB rfl (hRet hd _ b'))
            | true => exact iteFB rfl ⟨.str u, rfl, rfl, _, rfl, iteTB h (hRet hd _ b')⟩
        | some v =>
          obtain ⟨w1, w2, w3⟩ := word_some hd
          refine iteFB (by rw [w1]; rfl) ⟨.str u, rfl, rfl, _, rfl, iteFB w2 ?_⟩
          refine ⟨.ref F, rfl, .inl ⟨rfl, _, SqL.of e'⟩, ⟨_, rfl⟩, .str (restS u), rfl, _, _, rfl, rfl, .int (sgI u), rfl, _, _, rfl, rfl, .inl ⟨by decide, by decide⟩, _, _, rfl, rfl, _, _, rfl, rfl, .inr ?_, F, _, _, rfl, rfl, e', ?_, ?_⟩
          · have : sgI u = 0 ∨ sgI u = 1 := by
              unfold sgI
              cases sgB u <;> simp
            rcases this with h | h <;> rw [h] <;> decide
          · rw [List.length_map]
            exact Nat.lt_of_le_of_lt (List.length_take_le' _ _) hlen
          · refine ⟨some (.str u), some (.int (sgI u)), some (.str (restS u)), rfl, b'.trans But.at_, ?_, fun w hw => ?_⟩
            · rw [upd_same, take_more hu, List.map_append]
              show _ = some (HO.lst (_ ++ [(digV u).getD .non]))
              rw [hd, w3]
              rfl
            · rw [take_more hu] at hw
              rcases List.mem_append.mp hw with h | h
              · exact hall w h
              · cases List.mem_singleton.mp h
                rw [hd]
                rfl
      · rintro σ H' ⟨v2, v3, v4, rfl, b, e, hall⟩
        rw [List.length_map, List.take_length] at e hall
        have sA := same_past hF s12 b
        refine ⟨.ref F, rfl, F, _, rfl, .inl ⟨SqL.of e, fun l hl => hok _ ?_ l _ (sA.free hl) (Same.store sA (sA.free hl)) upd_same⟩⟩
        rw [er]
        exact if_pos (List.all_eq_true.mpr hall)
end
end K03
namespace K03
open PySem PySem.Spec PyProof.Rows L2 OF
section
variable {P : Program} {w : World} {K : PySem.W.Frag} {mg : Str → Option Value} {base : Heap}

/-- what read_row does, told as a list -/
def spTold : Sp := fun vs H Q _ => ∃ x : V, vs = [x] ∧
  ((∃ z : Str, x = .str z ∧ z.length ≤ 100000 ∧ (∀ ds, readV z = some ds → ∀ l t H', H l = none → Same H H' → H' l = some (.lst [.str "row", .ref t]) → H' t = some (.tup ds) → Q (.ref l) H') ∧
      (readV z = none → ∀ l H', H l = none → Same H H' → H' l = some (.lst [.str "text", .str z]) → Q (.ref l) H')) ∨
    (NoStr H x ∧ ∀ l H', H l = none → Same H H' → H' l = some (.lst [.str "text", x]) → Q (.ref l) H'))
theorem scTo : FnScope ["_law_value", "e"] ["_law_value"] (defScope sTold) := ⟨rfl, rfl, rfl, by decide +kernel, rfl, by decide +kernel, by decide +kernel⟩
def t_told (C : Addr) (W : WX) : TS := tRet (tLst (tCons (tC (.str "row")) (tCons (tCallS (OF.spRead C) (WE W) (tCons (tVar 0) tNil)) tNil)))
def t_toldS (C : Addr) : Addr → Value → Option Addr → TS := fun a cls d => tRet (tLst (tCons (tC (.str "text")) (tCons (tXf a cls d C "text" (tVar 1)) tNil)))
theorem ok_told {f fR fI C : Addr} {fd fdR : FuncData} (F : Fun K "_law_told" "_law_told" sTold f fd) (GR : FnOk P w K mg base (L2.CX P w) 4 fR fdR ["text"] (OF.spRead C)) (gR : mg "read_row" = some (.ref fR)) (kR : PySem.W.keepIn K (.ref fR) = true) (bR : Binds K fdR ["text"] [])
    (T : ErrC K mg "InvalidText" "text" C fI) : FnOk P w K mg base CX0 5 f fd ["_law_value"] spTold := by
  refine F.ok scTo (fun vs H Q E h => ?_) (fun cdv A outer s H vs Q E hr h => ⟨fun D σ H => t_told C (wAs K (.ref C) 1 (t_toldS C) (fun _ _ _ _ => False) D) D σ H, ?_, ?_⟩)
  · obtain ⟨x, rfl, _⟩ := h
    rfl
  · exact pss_one (ps_try_as (i := 1) (tb := t_told C) (ts := t_toldS C) (Wout := fun _ _ _ _ => False) rfl rfl scTo.nd rfl rfl ⟨rfl, by decide, Or.inl T.g⟩ takes0
      (fun W pn xe tk _ => pss_one (ps_ret (by exact (pe_lst (pa_cons pe_str (pa_cons (pe_callS GR hr (by rfl) gR kR bR (fun σ => passAt tk σ) (by exact (pa_cons (pv 0) pa_nil))) pa_nil))))))
      (fun a oe cls d pn hz hf => pss_one (ps_ret (by exact (pe_lst (pa_cons pe_str (pa_cons (pe_xf T.xf T.no hz hf (pv 1)) pa_nil)))))))
  · obtain ⟨x, rfl, h⟩ := h
    have suite : ∀ (v : V), (∀ l H', H l = none → Same H H' → H' l = some (.lst [.str "text", v]) → Q (.ref l) H') → Raised C "text" v H
        (WE (wAs K (.ref C) 1 (t_toldS C) (fun _ _ _ _ => False) { nx := fun _ H' => Q .non H', rt := Q }) (start ["_law_value", "e"] [x])) := fun v hq fs d H' hd s1 ed =>
      ⟨true, T.te, fun _ a ha => ⟨.ref a, rfl, rfl, rfl, d, _, v, rfl, ed, by simp [List.lookup], (by show 2 ≤ sizeLine; decide), fun l hl => hq l _ (s1.free hl) (Same.store s1 (s1.free hl)) upd_same⟩, fun q => nomatch q⟩
    rcases h with ⟨z, rfl, hz, hok, hno⟩ | ⟨o, hE⟩
    · refine ⟨.str z, rfl, .str z, rfl, .inl ⟨z, rfl, hz, fun ds e p H' hp s1 ep => ?_, fun e => suite _ (hno e)⟩⟩
      refine ⟨(by show 2 ≤ sizeLine; decide), fun l hl => hok ds e l p _ (s1.free hl) (Same.store s1 (s1.free hl)) upd_same ?_⟩
      rw [upd_ne (ne_of_none ep hl)]
      exact ep
    · exact ⟨x, rfl, x, rfl, .inr ⟨o, suite _ hE⟩⟩

/-- a text, spoilt or not -/
def spSpoilt : Sp := fun vs H Q _ => ∃ (a : Addr) (z : Str) (n : Int), vs = [.ref a, .str z] ∧ Box n H a ∧ n ≤ 1000 ∧ TOk 20 z ∧ 1 ≤ z.length ∧ ∀ (y : Str) (H' : Hp), TOk 5000 y → But a H H' → Box (n + 5) H' a → Q (.str y) H'
abbrev nSpo : List Str := ["_law_box_here", "_law_text", "_law_way", "_law_at", "_law_sign", "_law_words", "_law_spot", "_law_some", "_law_odd"]
theorem scSp : FnScope nSpo ["_law_box_here", "_law_text"] (defScope sSpoilt) := ⟨rfl, rfl, rfl, by decide +kernel, rfl, by decide +kernel, by decide +kernel⟩
theorem pickS {ss : List Str} {n : Nat} (h : ∀ s ∈ ss, TOk n s) {r : Int} (h0 : 0 ≤ r) (h1 : r < ss.length) : ∃ y, atI (ss.map V.str) r = some (.str y) ∧ TOk n y := by
  obtain ⟨v, hv, mv⟩ := pick (xs := ss.map V.str) h0 (by rw [List.length_map]; exact h1)
  obtain ⟨y, hy, rfl⟩ := List.mem_map.mp mv
  exact ⟨y, hv, h y hy⟩
theorem cut_strs {n : Nat} {ss : List Str} (h : ∀ s ∈ ss, TOk n s) (lo hi : Option Int) : ∃ ps : List Str, cutV (ss.map V.str) lo hi = ps.map V.str ∧ ps.length ≤ ss.length ∧ ∀ p ∈ ps, TOk n p := by
  refine ⟨(ss.drop (HT.sIx ss.length 0 lo)).take (HT.sIx ss.length ss.length hi - HT.sIx ss.length 0 lo), ?_, ?_, fun p hp => h p (List.mem_of_mem_drop (List.mem_of_mem_take hp))⟩
  · unfold cutV
    rw [List.length_map, ← List.map_drop, ← List.map_take]
  · rw [List.length_take, List.length_drop]
    omega
def signsL : List Str := [" ", "-", "0", "9", ".", "+", "a", "\n", "_"]
def oddsL : List Str := ["-0", "10", "", "--1", "1-", "+1", "07", ".", "0_7", "1.0"]
theorem signs_ok : ∀ s ∈ signsL, TOk 3 s := by decide +kernel
theorem odds_ok : ∀ s ∈ oddsL, TOk 3 s := by decide +kernel
theorem blank_ok : TOk 1 (Str.ofString " ") := by decide +kernel
theorem feed_ok : TOk 1 (Str.ofString "\n") := by decide +kernel
set_option maxHeartbeats 4000000 in
theorem ok_spoilt {f fT : Addr} {fd fdT : FuncData} (F : Fun K "_law_spoilt" "_law_spoilt" sSpoilt f fd) (FT : Fun K "_law_take" "_law_take" sTake fT fdT) (gT : mg "_law_take" = some (.ref fT)) (bT : Binds K fdT ["_law_box_here", "_law_many"] [])
    (mi : mg "int" = none) (ml : mg "len" = none) : FnOk P w K mg base CX0 2 f fd ["_law_box_here", "_law_text"] spSpoilt := by
  have GT : FnOk P w K mg base CX0 1 fT fdT ["_law_box_here", "_law_many"] spTake := ok_take FT mi
  refine F.ok scSp (fun vs H Q E h => ?_) (fun cdv A outer s H vs Q E hr h => ?_)
  · obtain ⟨a, z, n, rfl, _⟩ := h
    rfl
  · obtain ⟨a, z, n, rfl, hB, hn, hz, hz1, q⟩ := h
    apply Exists.intro
    apply And.intro
    · apply pss_cons
      · exact ps_par (i := 2) (j := 3) rfl scSp.nd rfl rfl (by decide) rfl rfl (pa_cons (pe_call GT hr (by rfl) gT FT.kp bT .nil pass0 (pa_cons (pv 0) (pa_cons pe_int pa_nil))) (pa_cons (pe_call GT hr (by rfl) gT FT.kp bT .nil pass0 (pa_cons (pv 0) (pa_cons (pe_callB call_len_str (by rfl) ml PySem.boot_len (pa_cons (pv 1) pa_nil)) pa_nil))) pa_nil)) (by rfl)
      apply pss_cons
      · exact ps_set (i := 4) scSp.nd rfl (.inl rfl) (pe_ix ix_list (pe_lst (pa_cons pe_str (pa_cons pe_str (pa_cons pe_str (pa_cons pe_str (pa_cons pe_str (pa_cons pe_str (pa_cons pe_str (pa_cons pe_str (pa_cons pe_str pa_nil)))))))))) (pe_call GT hr (by rfl) gT FT.kp bT .nil pass0 (pa_cons (pv 0) (pa_cons pe_int pa_nil))) (fun _ _ => rfl))
      apply pss_cons
      · exact ps_set (i := 5) scSp.nd rfl (.inl rfl) (pe_split (pv 1) pe_str)
      apply pss_cons
      · exact ps_par (i := 6) (j := 7) rfl scSp.nd rfl rfl (by decide) rfl rfl (pa_cons (pe_call GT hr (by rfl) gT FT.kp bT .nil pass0 (pa_cons (pv 0) (pa_cons (pe_callB call_len_seq (by rfl) ml PySem.boot_len (pa_cons (pv 5) pa_nil)) pa_nil))) (pa_cons (pe_lst (pa_cons pe_str (pa_cons pe_str (pa_cons pe_str (pa_cons pe_str (pa_cons pe_str (pa_cons pe_str (pa_cons pe_str (pa_cons pe_str (pa_cons pe_str (pa_cons pe_str pa_nil))))))))))) pa_nil)) (by rfl)
      apply pss_cons
      · exact ps_set (i := 8) scSp.nd rfl (.inl rfl) (pe_ix ix_list (pv 7) (pe_call GT hr (by rfl) gT FT.kp bT .nil pass0 (pa_cons (pv 0) (pa_cons pe_int pa_nil))) (fun _ _ => rfl))
      apply pss_cons
      · exact ps_set (i := 7) scSp.nd rfl (.inl rfl) (pe_lst (pa_cons (pv 1) (pa_cons (pe_op op_add_str (pe_slice sl_str (pv 1) po_none (po_some (pv 3))) (pe_slice sl_str (pv 1) (po_some (pe_op op_add (pv 3) pe_int)) po_none)) (pa_cons (pe_op op_add_str (pe_op op_add_str (pe_slice sl_str (pv 1) po_none (po_some (pv 3))) (pv 4)) (pe_slice sl_str (pv 1) (po_some (pv 3)) po_none)) (pa_cons (pe_op op_add_str (pe_op op_add_str (pe_slice sl_str (pv 1) po_none (po_some (pv 3))) (pv 4)) (pe_slice sl_str (pv 1) (po_some (pe_op op_add (pv 3) pe_int)) po_none)) pa_nil)))))
      apply pss_cons
      · exact ps_set (i := 7) scSp.nd rfl (.inl rfl) (pe_op op_cat (pv 7) (pe_lst (pa_cons (pe_join pe_str (pe_op op_cat (pe_op op_cat (pe_slice sl_list (pv 5) po_none (po_some (pv 6))) (pe_lst (pa_cons (pv 8) pa_nil))) (pe_slice sl_list (pv 5) (po_some (pe_op op_add (pv 6) pe_int)) po_none))) (pa_cons (pe_join pe_str (pe_op op_cat (pe_slice sl_list (pv 5) po_none (po_some (pe_op op_add (pv 6) pe_int))) (pe_slice sl_list (pv 5) (po_some (pv 6)) po_none))) pa_nil))))
      apply pss_one
      · exact ps_ret (pe_ix ix_list (pe_op op_cat (pv 7) (pe_lst (pa_cons (pe_op op_add_str (pv 1) pe_str) (pa_cons (pe_op op_add_str pe_str (pv 1)) (pa_cons (pe_op op_add_str (pv 1) pe_str) pa_nil))))) (pv 2) (fun _ _ => rfl))
    have zl : z.length ≤ sizeLine := by
      have := hz.len
      rw [sizeLine_eq]
      omega
    refine ⟨.ref a, rfl, a, 9, n, rfl, hB, by omega, by decide, by decide, fun way H1 w0 w1 t1 B1 => ?_⟩
    refine ⟨.ref a, rfl, .str z, rfl, z, rfl, zl, a, z.length, n + 1, rfl, B1, by omega, by omega, Nat.lt_of_le_of_lt (by have := hz.len; omega : ((z.length : Int)).natAbs ≤ 20) (by decide), fun at_ H2 a0 a1 t2 B2 => ?_⟩
    refine ⟨_, _, rfl, ?_⟩
    -- sign
    refine ⟨(by show 9 ≤ sizeLine; decide), fun l hl => ?_⟩
    refine ⟨.ref a, rfl, a, 9, n + 1 + 1, rfl, B2.new hl, by omega, by decide, by decide, fun r3 H3 k0 k1 t3 B3 => ?_⟩
    have el := t3 _ _ (B2.ne hl) upd_same
    obtain ⟨sg, esg, osg⟩ := pickS signs_ok k0 k1
    refine ⟨l, signsL.map V.str, r3, _, rfl, rfl, SqL.of el, esg, ?_⟩
    have T3 : But a H H3 := t1.trans (t2.trans ((But.new hl).trans t3))
    -- words
    refine ⟨.str z, rfl, ⟨z, rfl⟩, z, Str.ofString " ", rfl, rfl, by decide +kernel, (by have := hz.len; rw [sizeLine_eq]; omega), fun p hp => ?_⟩
    have hw1 : 1 ≤ (Txt.split z (Str.ofString " ")).length := by
      cases e : Txt.split z (Str.ofString " ") with
      | nil =>
        have j := StrLaws.join_split z (Str.ofString " ")
        rw [e] at j
        rw [← j] at hz1
        exact absurd hz1 (by decide)
      | cons x r => rw [List.length_cons]; omega
    have hw2 : (Txt.split z (Str.ofString " ")).length ≤ 22 := by
      have := PyProof.Rows.split_le z (Str.ofString " ")
      have := hz.len
      omega
    have hw3 : ∀ x ∈ Txt.split z (Str.ofString " "), TOk 20 x := hz.parts
    generalize Txt.split z (Str.ofString " ") = ws at hw1 hw2 hw3 hp ⊢
    have npa := B3.ne hp
    have B3p := B3.new (o := .lst (ws.map V.str)) hp
    have ep : (upd H3 p (.lst (ws.map V.str))) p = some (.lst (ws.map V.str)) := upd_same
    have T3p : But a H (upd H3 p (.lst (ws.map V.str))) := T3.trans (But.new hp)
    generalize upd H3 p (.lst (ws.map V.str)) = H3p at B3p ep T3p ⊢
    -- spot, some
    refine ⟨.ref a, rfl, .ref p, rfl, p, _, rfl, .inl (SqL.of ep), a, _, n + 1 + 1 + 1, rfl, B3p, by omega, ?_, ?_, fun spot H4 s0 s1 t4 B4 => ?_⟩
    · rw [List.length_map]
      omega
    · rw [List.length_map]
      exact Nat.lt_of_le_of_lt (by omega : ((ws.length : Int)).natAbs ≤ 22) (by decide)
    have ep4 := t4 _ _ npa ep
    refine ⟨(by show 10 ≤ sizeLine; decide), fun o ho => ⟨_, _, rfl, ?_⟩⟩
    have B4o := B4.new (o := .lst (oddsL.map V.str)) ho
    have noa := B4.ne ho
    have eo : (upd H4 o (.lst (oddsL.map V.str))) o = some (.lst (oddsL.map V.str)) := upd_same
    have ep4o : (upd H4 o (.lst (oddsL.map V.str))) p = some (.lst (ws.map V.str)) := by
      rw [upd_ne (ne_of_none ep4 ho)]
      exact ep4
    have T4 : But a H (upd H4 o (.lst (oddsL.map V.str))) := T3p.trans (t4.trans (But.new ho))
    refine ⟨.ref o, rfl, .ref a, rfl, a, 10, n + 1 + 1 + 1 + 1, rfl, B4o, by omega, by decide, by decide, fun r5 H5 m0 m1 t5 B5 => ?_⟩
    have eo5 := t5 _ _ noa eo
    have ep5 := t5 _ _ npa ep4o
    have T5 : But a H H5 := T4.trans t5
    obtain ⟨od, eod, ood⟩ := pickS odds_ok m0 m1
    refine ⟨o, oddsL.map V.str, r5, _, rfl, rfl, SqL.of eo5, eod, ?_⟩
    clear t1 t2 t3 t4 t5 B1 B2 B3 B4 B4o eo eo5 ep4 ep4o ep T3 T3p T4 el esg eod
    have hA := hz.cut none (some at_)
    have hB' := hz.cut (some (at_ + 1)) none
    have hC := hz.cut (some at_) none
    have two : ∀ {n m : Nat} {x y : Str}, TOk n x → TOk m y → n + m ≤ 10000 → x.length + y.length ≤ sizeLine := fun h k hm => by
      have h1 := h.len
      have h2 := k.len
      rw [sizeLine_eq]
      omega
    refine ⟨.str z, rfl, ?_⟩
    refine ⟨.str z, rfl, .int at_, rfl, at_, rfl, z, rfl, zl, .str z, rfl, .int at_, rfl, _, _, rfl, rfl, _, rfl, z, rfl, zl, _, _, rfl, rfl, two hA hB' (by decide), ?_⟩
    refine ⟨.str z, rfl, .int at_, rfl, at_, rfl, z, rfl, zl, .str sg, rfl, _, _, rfl, rfl, two hA osg (by decide), .str z, rfl, .int at_, rfl, at_, rfl, z, rfl, zl, _, _, rfl, rfl, two (hA.app osg) hC (by decide), ?_⟩
    refine ⟨.str z, rfl, .int at_, rfl, at_, rfl, z, rfl, zl, .str sg, rfl, _, _, rfl, rfl, two hA osg (by decide), .str z, rfl, .int at_, rfl, _, _, rfl, rfl, _, rfl, z, rfl, zl, _, _, rfl, rfl, two (hA.app osg) hB' (by decide), ?_⟩
    have o2 := (hA.app hB').mono (by decide : 20 + 20 ≤ 5000)
    have o3 := ((hA.app osg).app hC).mono (by decide : 20 + 3 + 20 ≤ 5000)
    have o4 := ((hA.app osg).app hB').mono (by decide : 20 + 3 + 20 ≤ 5000)
    generalize cutS z none (some at_) ++ cutS z (some (at_ + 1)) none = y2 at o2 ⊢
    generalize cutS z none (some at_) ++ sg ++ cutS z (some at_) none = y3 at o3 ⊢
    generalize cutS z none (some at_) ++ sg ++ cutS z (some (at_ + 1)) none = y4 at o4 ⊢
    refine ⟨(by show 4 ≤ sizeLine; decide), fun l1 hl1 => ?_⟩
    have s6 := same_new (o := .lst [.str z, .str y2, .str y3, .str y4]) hl1
    have el1 : (upd H5 l1 (.lst [.str z, .str y2, .str y3, .str y4])) l1 = some (.lst [.str z, .str y2, .str y3, .str y4]) := upd_same
    have ep6 := s6 _ _ ep5
    generalize upd H5 l1 (.lst [.str z, .str y2, .str y3, .str y4]) = H6 at s6 el1 ep6 ⊢
    -- the first joined text
    obtain ⟨ps1, c1e, c1l, c1o⟩ := cut_strs hw3 none (some spot)
    obtain ⟨ps2, c2e, c2l, c2o⟩ := cut_strs hw3 (some (spot + 1)) none
    obtain ⟨ps3, c3e, c3l, c3o⟩ := cut_strs hw3 none (some (spot + 1))
    obtain ⟨ps4, c4e, c4l, c4o⟩ := cut_strs hw3 (some spot) none
    refine ⟨.ref l1, rfl, ⟨_, rfl⟩, .ref p, rfl, .int spot, rfl, spot, rfl, p, _, rfl, SqL.of ep6, fun c1 hc1 => ?_⟩
    rw [c1e]
    have d1 := same_new (o := .lst (ps1.map V.str)) hc1
    have ec1 : (upd H6 c1 (.lst (ps1.map V.str))) c1 = some (.lst (ps1.map V.str)) := upd_same
    generalize upd H6 c1 (.lst (ps1.map V.str)) = G1 at d1 ec1 ⊢
    refine ⟨.str od, rfl, (by show 1 ≤ sizeLine; decide), fun c2 hc2 => ?_⟩
    have d2 := same_new (o := .lst [.str od]) hc2
    have ec2 : (upd G1 c2 (.lst [.str od])) c2 = some (.lst [.str od]) := upd_same
    generalize upd G1 c2 (.lst [.str od]) = G2 at d2 ec2 ⊢
    refine ⟨c1, c2, _, _, rfl, rfl, d2 _ _ ec1, ec2, ?_, fun c3 hc3 => ?_⟩
    · rw [List.length_map, sizeLine_eq]
      show ps1.length + 1 ≤ _
      omega
    have e3 : ps1.map V.str ++ [V.str od] = (ps1 ++ [od]).map V.str := by rw [List.map_append]; rfl
    rw [e3]
    have d3 := same_new (o := .lst ((ps1 ++ [od]).map V.str)) hc3
    have ec3 : (upd G2 c3 (.lst ((ps1 ++ [od]).map V.str))) c3 = some (.lst ((ps1 ++ [od]).map V.str)) := upd_same
    generalize upd G2 c3 (.lst ((ps1 ++ [od]).map V.str)) = G3 at d3 ec3 ⊢
    refine ⟨.ref p, rfl, .int spot, rfl, _, _, rfl, rfl, _, rfl, p, _, rfl, SqL.of (d3 _ _ (d2 _ _ (d1 _ _ ep6))), fun c4 hc4 => ?_⟩
    rw [c2e]
    have d4 := same_new (o := .lst (ps2.map V.str)) hc4
    have ec4 : (upd G3 c4 (.lst (ps2.map V.str))) c4 = some (.lst (ps2.map V.str)) := upd_same
    generalize upd G3 c4 (.lst (ps2.map V.str)) = G4 at d4 ec4 ⊢
    refine ⟨c3, c4, _, _, rfl, rfl, d4 _ _ ec3, ec4, ?_, fun c5 hc5 => ?_⟩
    · rw [List.length_map, List.length_map, List.length_append, sizeLine_eq]
      show ps1.length + 1 + ps2.length ≤ _
      omega
    have e5 : (ps1 ++ [od]).map V.str ++ ps2.map V.str = ((ps1 ++ [od]) ++ ps2).map V.str := List.map_append.symm
    rw [e5]
    have oj1 : ∀ x ∈ (ps1 ++ [od]) ++ ps2, TOk 20 x := fun x hx => by
      rcases List.mem_append.mp hx with h | h
      · rcases List.mem_append.mp h with h | h
        · exact c1o x h
        · cases List.mem_singleton.mp h
          exact ood.mono (by decide)
      · exact c2o x h
    have lj1 : ((ps1 ++ [od]) ++ ps2).length ≤ 45 := by
      rw [List.length_append, List.length_append]
      show ps1.length + 1 + ps2.length ≤ _
      omega
    generalize (ps1 ++ [od]) ++ ps2 = qs1 at oj1 lj1 hc5 ⊢
    have d5 := same_new (o := .lst (qs1.map V.str)) hc5
    have ec5 : (upd G4 c5 (.lst (qs1.map V.str))) c5 = some (.lst (qs1.map V.str)) := upd_same
    generalize upd G4 c5 (.lst (qs1.map V.str)) = G5 at d5 ec5 ⊢
    refine ⟨_, c5, qs1, rfl, rfl, .inl (SqL.of ec5), ?_, ?_⟩
    · have h1 := sum_len oj1
      have h2 := blank_ok.len
      have h3 : qs1.length * (Str.ofString " ").length ≤ qs1.length * 1 := Nat.mul_le_mul_left _ h2
      omega
    have oy5 := (TOk.join blank_ok oj1).mono (by omega : qs1.length * (20 + 1) ≤ 5000)
    generalize Txt.join (Str.ofString " ") qs1 = y5 at oy5 ⊢
    have s7 : Same H6 G5 := d1.trans (d2.trans (d3.trans (d4.trans d5)))
    have ep7 := s7 _ _ ep6
    have el7 := s7 _ _ el1
    clear d1 d2 d3 d4 d5 ec1 ec2 ec3 ec4 ec5 hc1 hc2 hc3 hc4 hc5 oj1 lj1 e3 e5
    -- the second
    refine ⟨⟨_, rfl⟩, .ref p, rfl, .int spot, rfl, _, _, rfl, rfl, _, rfl, p, _, rfl, SqL.of ep7, fun c1 hc1 => ?_⟩
    rw [c3e]
    have d1 := same_new (o := .lst (ps3.map V.str)) hc1
    have ec1 : (upd G5 c1 (.lst (ps3.map V.str))) c1 = some (.lst (ps3.map V.str)) := upd_same
    generalize upd G5 c1 (.lst (ps3.map V.str)) = K1 at d1 ec1 ⊢
    refine ⟨.ref p, rfl, .int spot, rfl, spot, rfl, p, _, rfl, SqL.of (d1 _ _ ep7), fun c2 hc2 => ?_⟩
    rw [c4e]
    have d2 := same_new (o := .lst (ps4.map V.str)) hc2
    have ec2 : (upd K1 c2 (.lst (ps4.map V.str))) c2 = some (.lst (ps4.map V.str)) := upd_same
    generalize upd K1 c2 (.lst (ps4.map V.str)) = K2 at d2 ec2 ⊢
    refine ⟨c1, c2, _, _, rfl, rfl, d2 _ _ ec1, ec2, ?_, fun c3 hc3 => ?_⟩
    · rw [List.length_map, List.length_map, sizeLine_eq]
      omega
    have e3 : ps3.map V.str ++ ps4.map V.str = (ps3 ++ ps4).map V.str := by rw [List.map_append]
    rw [e3]
    have oj2 : ∀ x ∈ ps3 ++ ps4, TOk 20 x := fun x hx => by
      rcases List.mem_append.mp hx with h | h
      · exact c3o x h
      · exact c4o x h
    have lj2 : (ps3 ++ ps4).length ≤ 45 := by
      rw [List.length_append]
      omega
    generalize ps3 ++ ps4 = qs2 at oj2 lj2 hc3 ⊢
    have d3 := same_new (o := .lst (qs2.map V.str)) hc3
    have ec3 : (upd K2 c3 (.lst (qs2.map V.str))) c3 = some (.lst (qs2.map V.str)) := upd_same
    generalize upd K2 c3 (.lst (qs2.map V.str)) = K3 at d3 ec3 ⊢
    refine ⟨_, c3, qs2, rfl, rfl, .inl (SqL.of ec3), ?_, ?_⟩
    · have h1 := sum_len oj2
      have h2 := blank_ok.len
      have h3 : qs2.length * (Str.ofString " ").length ≤ qs2.length * 1 := Nat.mul_le_mul_left _ h2
      omega
    have oy6 := (TOk.join blank_ok oj2).mono (by omega : qs2.length * (20 + 1) ≤ 5000)
    generalize Txt.join (Str.ofString " ") qs2 = y6 at oy6 ⊢
    have s8 : Same G5 K3 := d1.trans (d2.trans d3)
    have el8 := s8 _ _ el7
    clear d1 d2 d3 ec1 ec2 ec3 hc1 hc2 hc3 oj2 lj2 e3
    -- the lists together
    refine ⟨(by show 2 ≤ sizeLine; decide), fun l2 hl2 => ?_⟩
    have s9 := same_new (o := .lst [.str y5, .str y6]) hl2
    have el9 := s9 _ _ el8
    have em9 : (upd K3 l2 (.lst [.str y5, .str y6])) l2 = some (.lst [.str y5, .str y6]) := upd_same
    generalize upd K3 l2 (.lst [.str y5, .str y6]) = H9 at s9 el9 em9 ⊢
    refine ⟨l1, l2, _, _, rfl, rfl, el9, em9, (by show 4 + 2 ≤ sizeLine; decide), fun l3 hl3 => ?_⟩
    have s10 := same_new (o := .lst ([V.str z, V.str y2, V.str y3, V.str y4] ++ [V.str y5, V.str y6])) hl3
    have el10 : (upd H9 l3 (.lst ([V.str z, V.str y2, V.str y3, V.str y4] ++ [V.str y5, V.str y6]))) l3 = some (.lst ([V.str z, V.str y2, V.str y3, V.str y4] ++ [V.str y5, V.str y6])) := upd_same
    generalize upd H9 l3 (.lst ([V.str z, V.str y2, V.str y3, V.str y4] ++ [V.str y5, V.str y6])) = H10 at s10 el10 ⊢
    refine ⟨.ref l3, rfl, .str z, rfl, _, _, rfl, rfl, two hz blank_ok (by decide), .str z, rfl, _, _, rfl, rfl, two blank_ok hz (by decide), .str z, rfl, _, _, rfl, rfl, two hz feed_ok (by decide), (by show 3 ≤ sizeLine; decide), fun l4 hl4 => ?_⟩
    have s11 := same_new (o := .lst [.str (z ++ Str.ofString " "), .str (Str.ofString " " ++ z), .str (z ++ Str.ofString "
")]) hl4
    refine ⟨l3, l4, _, _, rfl, rfl, s11 _ _ el10, upd_same, (by show 6 + 3 ≤ sizeLine; decide), fun l5 hl5 => ?_⟩
    have s12 := same_new (o := .lst (([V.str z, V.str y2, V.str y3, V.str y4] ++ [V.str y5, V.str y6]) ++ [.str (z ++ Str.ofString " "), .str (Str.ofString " " ++ z), .str (z ++ Str.ofString "
")])) hl5
    have sA : Same H5 _ := s6.trans (s7.trans (s8.trans (s9.trans (s10.trans (s11.trans s12)))))
    have all_ok : ∀ x ∈ [z, y2, y3, y4, y5, y6, z ++ Str.ofString " ", Str.ofString " " ++ z, z ++ Str.ofString "
"], TOk 5000 x := fun x hx => by
      simp only [List.mem_cons, List.not_mem_nil, or_false] at hx
      rcases hx with rfl | rfl | rfl | rfl | rfl | rfl | rfl | rfl | rfl
      · exact hz.mono (by decide)
      · exact o2
      · exact o3
      · exact o4
      · exact oy5
      · exact oy6
      · exact (hz.app blank_ok).mono (by decide)
      · exact (blank_ok.app hz).mono (by decide)
      · exact (hz.app feed_ok).mono (by decide)
    obtain ⟨y, ey, oy⟩ := pickS all_ok w0 w1
    exact ⟨.int way, rfl, l5, _, way, .str y, rfl, rfl, SqL.of upd_same, ey, q y _ oy (T5.trans (But.of_same sA)) ((B5.same sA).mono (by omega))⟩
end
end K03
namespace K03
open PySem PySem.Spec PyProof.Rows L2 OF
section
variable {P : Program} {w : World} {K : PySem.W.Frag} {mg : Str → Option Value} {base : Heap}

/-- what the law's own reader tells -/
def DueOf (z : Str) (v : V) (H : Hp) : Prop := (readV z = none ∧ v = .non) ∨ ∃ ds p, readV z = some ds ∧ v = .ref p ∧ H p = some (.tup ds)
def spDue' : Sp := fun vs H Q _ => ∃ z : Str, vs = [.str z] ∧ z.length ≤ 100000 ∧ ∀ v H', Same H H' → DueOf z v H' → Q v H'
theorem due_imp (vs : List V) (H : Hp) (Q : VK) (E : XK) (h : spDue' vs H Q E) : spDue vs H Q E := by
  obtain ⟨z, rfl, hz, q⟩ := h
  exact ⟨z, rfl, hz, fun ds e p H' hp s ep => q _ H' s (.inr ⟨ds, p, e, rfl, ep⟩), fun e H' s => q _ H' s (.inl ⟨e, rfl⟩)⟩
/-- what the program tells -/
def ToldOf (z : Str) (l : Addr) (H : Hp) : Prop := (readV z = none ∧ H l = some (.lst [.str "text", .str z])) ∨ ∃ ds t, readV z = some ds ∧ H l = some (.lst [.str "row", .ref t]) ∧ H t = some (.tup ds)
def spTold' : Sp := fun vs H Q _ => ∃ x : V, vs = [x] ∧ ((∃ z : Str, x = .str z ∧ z.length ≤ 100000 ∧ ∀ l H', Same H H' → ToldOf z l H' → Q (.ref l) H') ∨ (NoStr H x ∧ ∀ l H', Same H H' → H' l = some (.lst [.str "text", x]) → Q (.ref l) H'))
theorem told_imp (vs : List V) (H : Hp) (Q : VK) (E : XK) (h : spTold' vs H Q E) : spTold vs H Q E := by
  obtain ⟨x, rfl, h⟩ := h
  refine ⟨x, rfl, ?_⟩
  rcases h with ⟨z, rfl, hz, q⟩ | ⟨o, q⟩
  · exact .inl ⟨z, rfl, hz, fun ds e l t H' _ s el et => q l H' s (.inr ⟨ds, t, e, el, et⟩), fun e l H' _ s el => q l H' s (.inl ⟨e, el⟩)⟩
  · exact .inr ⟨o, fun l H' _ s el => q l H' s el⟩
def spRight : Sp := fun vs H Q _ => ∃ a : Addr, vs = [.ref a] ∧ Box 0 H a ∧ ∀ H', But a H H' → Q (.bl true) H'
abbrev nRi : List Str := ["_law_box_here", "_law_row", "_law_text", "_law_due_here", "_law_odd", "_law_k", "_law_digit"]
theorem scR : FnScope nRi ["_law_box_here"] (defScope sRight) := ⟨rfl, rfl, rfl, by decide +kernel, rfl, by decide +kernel, by decide +kernel⟩
theorem row_ok : PyData.strOk (Str.ofString "row") = true := by decide +kernel
theorem text_ok : PyData.strOk (Str.ofString "text") = true := by decide +kernel
theorem none_ok : PyData.strOk (Str.ofString "") = true := by decide +kernel
set_option maxHeartbeats 4000000 in
theorem ok_right {f fT fS fD fO : Addr} {fd fdT fdS fdD fdO : FuncData} (F : Fun K "_law_right" "_law_right" sRight f fd)
    (FT : Fun K "_law_take" "_law_take" sTake fT fdT) (gT : mg "_law_take" = some (.ref fT)) (bT : Binds K fdT ["_law_box_here", "_law_many"] [])
    (GS : FnOk P w K mg base CX0 2 fS fdS ["_law_box_here", "_law_text"] spSpoilt) (gS : mg "_law_spoilt" = some (.ref fS)) (kS : PySem.W.keepIn K (.ref fS) = true) (bS : Binds K fdS ["_law_box_here", "_law_text"] [])
    (GD0 : FnOk P w K mg base CX0 1 fD fdD ["_law_text"] spDue) (gD : mg "_law_due" = some (.ref fD)) (kD : PySem.W.keepIn K (.ref fD) = true) (bD : Binds K fdD ["_law_text"] [])
    (GO0 : FnOk P w K mg base CX0 5 fO fdO ["_law_value"] spTold) (gO : mg "_law_told" = some (.ref fO)) (kO : PySem.W.keepIn K (.ref fO) = true) (bO : Binds K fdO ["_law_value"] [])
    (mi : mg "int" = none) (mr : mg "range" = none) (ms : mg "str" = none) :
    FnOk P w K mg base CX0 6 f fd ["_law_box_here"] spRight := by
  have GT : FnOk P w K mg base CX0 1 fT fdT ["_law_box_here", "_law_many"] spTake := ok_take FT mi
  have GD := GD0.imp due_imp
  have GO := GO0.imp told_imp
  refine F.ok scR (fun vs H Q E h => ?_) (fun cdv A outer s H vs Q E hr5 h => ?_)
  · obtain ⟨a, rfl, _⟩ := h
    rfl
  · obtain ⟨a, rfl, hB, q⟩ := h
    have hr : Room 1 _ := hr5.mono (by decide)
    have hr2 : Room 2 _ := hr5.mono (by decide)
    apply Exists.intro
    apply And.intro
    · apply pss_cons
      · exact ps_setLc (i := 1) (own := [("_law_k", 5)]) (g := gName 5) (tt := tYes) rfl scR.nd rfl rfl (sw_true rfl rfl rfl (by decide +kernel)) (pi_range1 rfl mr (pa_cons (pe_op op_add pe_int (pe_call GT hr (by rfl) gT FT.kp bT .nil pass0 (pa_cons (pv 0) (pa_cons pe_int pa_nil)))) pa_nil))
          (blkOk_by (own := [("_law_k", 5)]) (N := nRi) (sc := defScope sRight) (by decide +kernel)) (fun _ _ _ _ _ => pg_name (i := 5) scR.nd rfl (Or.inl rfl)) (fun _ _ _ _ _ => pts_nil)
          (fun _ _ _ _ _ => by exact (pe_op op_sub (pe_call GT hr (by rfl) gT FT.kp bT .nil pass0 (pa_cons (pv 0) (pa_cons pe_int pa_nil))) pe_int))
      apply pss_cons
      · exact ps_set (i := 2) scR.nd rfl (.inl rfl) (pe_call GS hr2 (by rfl) gS kS bS .nil pass0 (pa_cons (pv 0) (pa_cons (pe_join pe_str
          (pe_lc (own := [("_law_digit", 6)]) (g := gName 6) (tt := tYes) rfl scR.nd (pi_list (pv 1)) (blkOk_by (own := [("_law_digit", 6)]) (N := nRi) (sc := defScope sRight) (by decide +kernel)) (fun _ _ _ _ _ => pg_name (i := 6) scR.nd rfl (Or.inl rfl)) (fun _ _ _ _ _ => pts_nil)
            (fun _ _ _ _ _ => by exact (pe_callTy call_str_int (by rfl) ms PyProof.Rows.boot_str (pa_cons (pv 6) pa_nil))))) pa_nil)))
      apply pss_cons
      · exact ps_set (i := 3) scR.nd rfl (.inl rfl) (pe_call GD hr (by rfl) gD kD bD .nil pass0 (pa_cons (pv 2) pa_nil))
      apply pss_cons
      · exact ps_if (pt_cmpR (op_neD hr.units) (pe_call GO hr5 (by rfl) gO kO bO .nil pass0 (pa_cons (pv 2) pa_nil)) (pe_ifExp (pt_cmpR op_isN (pv 3) pe_non (nomark _)) (pe_lst (pa_cons pe_str (pa_cons (pv 2) pa_nil))) (pe_lst (pa_cons pe_str (pa_cons (pv 3) pa_nil)))) (nomark _)) (pss_one (ps_ret pe_bl)) pss_nil
      apply pss_cons
      · exact ps_for PassesOwn.never rfl (pi_list (pe_lst (pa_cons pe_non (pa_cons pe_int (pa_cons (pe_lst (pa_cons (pv 2) pa_nil)) (pa_cons (pe_tup (pa_cons pe_int pa_nil)) (pa_cons pe_bl pa_nil))))))) (pg_name (i := 4) scR.nd rfl (.inl rfl))
          (pss_one (ps_if (pt_cmpR (op_neD hr.units) (pe_call GO hr5 (by rfl) gO kO bO .nil pass0 (pa_cons (pv 4) pa_nil)) (pe_lst (pa_cons pe_str (pa_cons (pv 4) pa_nil))) (nomark _)) (pss_one (ps_ret pe_bl)) pss_nil))
      apply pss_one
      · exact ps_ret (pe_and (pe_cmpR (op_eqD hr.units) (pe_call GO hr5 (by rfl) gO kO bO .nil pass0 (pa_cons pe_str pa_nil)) (pe_lst (pa_cons pe_str (pa_cons pe_str pa_nil))) (nomark _)) (pe_one (pe_cmpR (op_eqD hr.units) (pe_call GO hr5 (by rfl) gO kO bO .nil pass0 (pa_cons pe_str pa_nil)) (pe_lst (pa_cons pe_str (pa_cons (pe_tup pa_nil) pa_nil))) (nomark _))))
    -- the row
    refine ⟨.ref a, rfl, a, 6, 0, rfl, hB, by decide, by decide, by decide, fun r H1 r0 r1 t1 B1 => ?_⟩
    refine ⟨1, r, rfl, rfl, _, rfl, by omega, by omega, fun D hD => ?_⟩
    have nDa := B1.ne hD
    refine lc_range (lo := 0) (n := (1 + r).toNat) (fun i H' => But a H1 H' ∧ Box (0 + 1 + i) H' a ∧ ∃ ks : List Nat, H' D = some (.lst (ks.map fun (k : Nat) => V.int ((-9 : Int) + (k : Int)))) ∧ ks.length = i ∧ ∀ k ∈ ks, k < 19) ⟨But.new hD, (B1.new hD).mono (by omega), [], upd_same, rfl, fun k h => by cases h⟩ ?_ ?_
    · rintro i H' hi ⟨t, B, ks, eD, lk, hk⟩
      refine ⟨rfl, tYes_if ⟨.ref a, rfl, a, 19, _, rfl, B, by omega, by decide, by decide, fun r2 H2 k0 k1 t2 B2 => ?_⟩⟩
      have ek : r2 - 9 = (-9 : Int) + ((r2.toNat : Nat) : Int) := by omega
      refine ⟨r2, 9, rfl, rfl, _, t2 _ _ nDa eD, ?_, (t.trans t2).store hD, (B2.upd nDa).mono (by omega), ks ++ [r2.toNat], ?_, ?_, fun k h => ?_⟩
      · rw [List.length_map, lk]
        exact small1000 (by omega)
      · rw [upd_same, List.map_append]
        show some (HO.lst (_ ++ [V.int (r2 - 9)])) = _
        rw [ek]
        rfl
      · rw [List.length_append, lk]
        rfl
      · rcases List.mem_append.mp h with h | h
        · exact hk k h
        · cases List.mem_singleton.mp h
          omega
    · rintro H2 ⟨t, B, ks, eD, lk, hk⟩
      -- the text
      refine ⟨.ref a, rfl, ⟨_, rfl⟩, .ref D, rfl, D, rfl, ⟨_, SqL.of eD⟩, fun D2 n2 => ?_⟩
      refine lc_list (K := K) (a := D) (xs := ks.map fun (k : Nat) => V.int ((-9 : Int) + (k : Int))) (fun i H' => Same H2 H' ∧ H' D2 = some (.lst ((ks.take i).map fun (k : Nat) => V.str (Str.ofString (toString ((-9 : Int) + (k : Int))))))) ⟨same_new n2, upd_same⟩ (fun i H' _ h => SqL.of (h.1 _ _ eD)) ?_ ?_
      · rintro i x H' hx ⟨s3, e3⟩
        obtain ⟨k, hk2, rfl⟩ := get_map hx
        have hk19 := hk k (List.mem_of_getElem? hk2)
        refine ⟨rfl, tYes_if ⟨_, rfl, _, rfl, log_le (by omega), _, e3, ?_, Same.store s3 n2, ?_⟩⟩
        · rw [List.length_map]
          exact Nat.lt_of_le_of_lt (List.length_take_le' _ _) (small1000 (by omega))
        · rw [upd_same, take_more hk2, List.map_append]
          rfl
      · rintro H3 ⟨s3, e3⟩
        rw [List.length_map, List.take_length] at e3
        have em : (ks.map fun (k : Nat) => V.str (Str.ofString (toString ((-9 : Int) + (k : Int))))) = (ks.map fun (k : Nat) => Str.ofString (toString ((-9 : Int) + (k : Int)))).map V.str := by
          rw [List.map_map]
          rfl
        rw [em] at e3
        have oys : ∀ y ∈ (ks.map fun (k : Nat) => Str.ofString (toString ((-9 : Int) + (k : Int)))), TOk 2 y ∧ 1 ≤ y.length := fun y hy => by
          obtain ⟨k, h, rfl⟩ := List.mem_map.mp hy
          exact digit_texts k (hk k h)
        have lys : (ks.map fun (k : Nat) => Str.ofString (toString ((-9 : Int) + (k : Int)))).length = (1 + r).toNat := by rw [List.length_map, lk]
        generalize (ks.map fun (k : Nat) => Str.ofString (toString ((-9 : Int) + (k : Int)))) = ys at e3 oys lys ⊢
        have oys2 : ∀ y ∈ ys, TOk 2 y := fun y hy => (oys y hy).1
        refine ⟨_, D2, ys, rfl, rfl, .inl (SqL.of e3), ?_, ?_⟩
        · have h1 := sum_len oys2
          have h2 := blank_ok.len
          have h3 : ys.length * (Str.ofString " ").length ≤ ys.length * 1 := Nat.mul_le_mul_left _ h2
          omega
        have oz := (TOk.join blank_ok oys2).mono (by omega : ys.length * (2 + 1) ≤ 20)
        have oz1 : 1 ≤ (Txt.join (Str.ofString " ") ys).length := by
          have hp : 0 < ys.length := by omega
          exact join_pos (List.getElem_mem hp) (oys _ (List.getElem_mem hp)).2
        generalize Txt.join (Str.ofString " ") ys = z0 at oz oz1 ⊢
        have B3 : Box (0 + 1 + ((1 + r).toNat : Nat)) H3 a := B.same s3
        refine ⟨a, z0, _, rfl, B3, by omega, oz, oz1, fun y H4 oy t4 B4 => ?_⟩
        have T4 : But a H H4 := t1.trans (t.trans ((But.of_same s3).trans t4))
        -- the law's own reading
        have ly : y.length ≤ 100000 := Nat.le_trans oy.len (by decide)
        refine ⟨.str y, rfl, y, rfl, ly, fun v3 H5 s5 due => ?_⟩
        -- told
        refine ⟨.str y, rfl, .str y, rfl, .inl ⟨y, rfl, ly, fun l H6 s6 told => ?_⟩⟩
        have oky := oy.ok
        refine ⟨v3, rfl, rfl, _, rfl, ?_⟩
        apply iteDupH (G := H6)
        · intro h c
          have ev : v3 = .non := of_decide_eq_true c
          have hn : readV y = none := by
            rcases due with ⟨h1, _⟩ | ⟨ds, p, _, h2, _⟩
            · exact h1
            · rw [ev] at h2
              cases h2
          rcases told with ⟨_, el⟩ | ⟨ds, t, e, _⟩
          · refine ⟨.str y, rfl, (by show 2 ≤ sizeLine; decide), fun l2 hl2 => ?_⟩
            have s7 := same_new (o := .lst [.str "text", .str y]) hl2
            refine pair_ne text_ok (s7 _ _ el) upd_same (.str y) (.str y) (DatOf.str (K := K) (H := H6) oky).can (DatOf.str (K := K) (H := H6) oky).dep ⟨_, rfl, iteF ?_⟩
            generalize upd H6 l2 (.lst [.str "text", .str y]) = H7 at s7 ⊢
            exact h H7 s7
          · rw [hn] at e
            cases e
        · intro h c
          have ev : v3 ≠ .non := of_decide_eq_false c
          rcases due with ⟨_, h2⟩ | ⟨ds, p, e, ev3, ep⟩
          · exact absurd h2 ev
          · rcases told with ⟨e2, _⟩ | ⟨ds2, t2, e2, el, et⟩
            · rw [e] at e2
              cases e2
            · rw [e] at e2
              cases Option.some.inj e2
              obtain ⟨is, rfl⟩ := readV_ints e
              refine ⟨v3, rfl, (by show 2 ≤ sizeLine; decide), fun l2 hl2 => ?_⟩
              have s7 := same_new (o := .lst [.str "row", v3]) hl2
              have d1 := DatOf.tup (K := K) et
              have d2 : DatOf K H6 v3 (.tuple (is.map PyData.int)) := by
                rw [ev3]
                exact DatOf.tup (K := K) (s6 _ _ ep)
              refine pair_ne row_ok (s7 _ _ el) upd_same (d1.dp _ s7) (d2.dp _ s7) d1.can d1.dep ⟨_, rfl, iteF ?_⟩
              generalize upd H6 l2 (.lst [.str "row", v3]) = H7 at s7 ⊢
              exact h H7 s7
        · intro H7 s7
          have T7 : But a H H7 := T4.trans (But.of_same (s5.trans (s6.trans s7)))
          -- other kinds
          refine ⟨.str y, rfl, (by show 1 ≤ sizeLine; decide), fun p1 h1 => ⟨(by show 1 ≤ sizeLine; decide), fun p2 h2 => ⟨(by show 5 ≤ sizeLine; decide), fun L hL => ?_⟩⟩⟩
          have c1 := same_new (o := .lst [.str y]) h1
          have c2 := same_new (o := .tup [.int 1]) h2
          have c3 := same_new (o := .lst [.non, .int 1, .ref p1, .ref p2, .bl true]) hL
          have e1 := c3 _ _ (c2 _ _ (upd_same (H := H7) (a := p1) (o := .lst [.str y])))
          have e2 := c3 _ _ (upd_same (H := upd H7 p1 (.lst [.str y])) (a := p2) (o := .tup [.int 1]))
          have eL : (upd (upd (upd H7 p1 (.lst [.str y])) p2 (.tup [.int 1])) L (.lst [.non, .int 1, .ref p1, .ref p2, .bl true])) L = some (.lst [.non, .int 1, .ref p1, .ref p2, .bl true]) := upd_same
          have s8 : Same H7 _ := c1.trans (c2.trans c3)
          generalize upd (upd (upd H7 p1 (.lst [.str y])) p2 (.tup [.int 1])) L (.lst [.non, .int 1, .ref p1, .ref p2, .bl true]) = H8 at e1 e2 eL s8 ⊢
          have T8 : But a H H8 := T7.trans (But.of_same s8)
          have odd : ∀ x ∈ [V.non, .int 1, .ref p1, .ref p2, .bl true], NoStr H8 x ∧ ∃ d, DatOf K H8 x d := fun x hx => by
            simp only [List.mem_cons, List.not_mem_nil, or_false] at hx
            rcases hx with rfl | rfl | rfl | rfl | rfl
            · exact ⟨.non, _, .non⟩
            · exact ⟨.int 1, _, .int⟩
            · exact ⟨.lst e1, _, .lst1 oky e1⟩
            · exact ⟨.tup e2, _, .tup (is := [1]) e2⟩
            · exact ⟨.bl true, _, .bl⟩
          refine ⟨L, rfl, ⟨_, SqL.of eL⟩, for_list (K := K) (a := L) (xs := [V.non, .int 1, .ref p1, .ref p2, .bl true]) (fun i σ H' => (∃ v4, σ = [some (.ref a), some (.ref D), some (.str y), some v3, v4, none, none]) ∧ Same H8 H') ⟨⟨none, rfl⟩, Same.refl _⟩ (fun i σ H' _ h => h.2.seq (SqL.of eL)) ?_ ?_⟩
          · rintro i x σ H' hx ⟨⟨v4, rfl⟩, s9⟩
            obtain ⟨no, d, dat⟩ := odd x (List.mem_of_getElem? hx)
            refine ⟨x, rfl, x, rfl, .inr ⟨no.same s9, fun l H9 s10 el => ?_⟩⟩
            refine ⟨x, rfl, (by show 2 ≤ sizeLine; decide), fun l2 hl2 => ?_⟩
            have s11 := same_new (o := .lst [.str "text", x]) hl2
            have sA := s9.trans (s10.trans s11)
            exact pair_ne text_ok (s11 _ _ el) upd_same (dat.dp _ sA) (dat.dp _ sA) dat.can dat.dep ⟨_, rfl, iteF ⟨⟨some x, rfl⟩, sA⟩⟩
          · rintro σ H' ⟨⟨v4, rfl⟩, s9⟩
            refine ⟨.str "", rfl, .inl ⟨Str.ofString "", rfl, by decide, fun l H9 s10 told => ?_⟩⟩
            rcases told with ⟨_, el⟩ | ⟨ds, t, e, _⟩
            · refine ⟨(by show 2 ≤ sizeLine; decide), fun l2 hl2 => ?_⟩
              have s11 := same_new (o := .lst [.str "text", .str ""]) hl2
              refine pair_eq text_ok (s11 _ _ el) upd_same (.str _) (.str _) (DatOf.str (K := K) (H := H9) none_ok).can (DatOf.str (K := K) (H := H9) none_ok).dep ⟨_, rfl, iteTB rfl ?_⟩
              refine ⟨.str ".", rfl, .inl ⟨Str.ofString ".", rfl, by decide, fun l3 H10 s12 told => ?_⟩⟩
              rcases told with ⟨e, _⟩ | ⟨ds, t, e, el3, et⟩
              · rw [read_dot] at e
                cases e
              · rw [read_dot] at e
                cases Option.some.inj e
                refine ⟨(by show 0 ≤ sizeLine; decide), fun t2 ht2 => ⟨(by show 2 ≤ sizeLine; decide), fun l4 hl4 => ?_⟩⟩
                have s13 := same_new (o := .tup []) ht2
                have s14 := same_new (o := .lst [.str "row", .ref t2]) hl4
                have d1 := (DatOf.tup (K := K) (is := []) et).same (s13.trans s14)
                have d2 := (DatOf.tup (K := K) (is := []) (upd_same (H := H10) (a := t2) (o := .tup []))).same s14
                refine pair_eq row_ok (s14 _ _ (s13 _ _ el3)) upd_same (d1.dp _ (Same.refl _)) (d2.dp _ (Same.refl _)) d1.can d1.dep (q _ ?_)
                exact T8.trans (But.of_same (s9.trans (s10.trans (s11.trans (s12.trans (s13.trans s14))))))
            · rw [read_empty] at e
              cases e

def spLaw (K : PySem.W.Frag) : Sp := fun vs H Q _ => ∃ (a : Addr) (ns : List Int), vs = [.ref a] ∧ SqL K H a (ns.map V.int) ∧ ns.length ≤ 63 ∧ ∀ H', Q (.bl true) H'
theorem scL : FnScope ["_law_script", "_law_k"] ["_law_script"] (defScope sLaw) := ⟨rfl, rfl, rfl, by decide +kernel, rfl, by decide +kernel, by decide +kernel⟩
theorem ok_law {f fC fX fR : Addr} {fd fdC fdX fdR : FuncData} (F : Fun K "law" "law" sLaw f fd)
    (FC : Fun K "_law_cell" "_law_cell" sCell fC fdC) (gC : mg "_law_cell" = some (.ref fC)) (bC : Binds K fdC ["_law_script", "_law_k"] [])
    (FX : Fun K "_law_box" "_law_box" sBox fX fdX) (gX : mg "_law_box" = some (.ref fX)) (bX : Binds K fdX ["_law_cell_here"] [])
    (GR : FnOk P w K mg base CX0 6 fR fdR ["_law_box_here"] spRight) (gR : mg "_law_right" = some (.ref fR)) (kR : PySem.W.keepIn K (.ref fR) = true) (bR : Binds K fdR ["_law_box_here"] [])
    (mi : mg "int" = none) (ml : mg "len" = none) (mr : mg "range" = none) (mx : mg "max" = none) (mn : mg "min" = none) : FnOk P w K mg base CX0 (7) f fd ["_law_script"] (spLaw K) := by
  have GC : FnOk P w K mg base CX0 1 fC fdC ["_law_script", "_law_k"] (OF.spCell K) := ok_cell FC ml
  have GX : FnOk P w K mg base CX0 1 fX fdX ["_law_cell_here"] spBox := ok_box FX mi mx
  refine F.ok scL (fun vs H Q E h => ?_) (fun cdv A outer s H vs Q E hr h => ?_)
  · obtain ⟨a, ns, rfl, _⟩ := h
    rfl
  · obtain ⟨a, ns, rfl, hS, hlen, q⟩ := h
    have hr1 : Room 1 _ := hr.mono (by decide)
    apply Exists.intro
    apply And.intro
    · apply pss_cons
      · exact ps_for PassesOwn.never rfl (pi_range1 rfl mr (pa_cons (pe_callB (call_max2 rfl) (by rfl) mx PyProof.Rows.boot_max (pa_cons pe_int (pa_cons
            (pe_callB (call_min2 rfl) (by rfl) mn PyProof.Rows.boot_min (pa_cons pe_int (pa_cons (pe_callB call_len_seq (by rfl) ml PySem.boot_len (pa_cons (pv 0) pa_nil)) pa_nil))) pa_nil))) pa_nil))
          (pg_name (i := 1) scL.nd rfl (.inl rfl))
          (pss_one (ps_if (pt_not (pt_val (pe_call GR hr (by rfl) gR kR bR .nil pass0 (pa_cons (pe_call GX hr1 (by rfl) gX FX.kp bX .nil pass0 (pa_cons (pe_call GC hr1 (by rfl) gC FC.kp bC .nil pass0 (pa_cons (pv 0) (pa_cons (pv 1) pa_nil))) pa_nil)) pa_nil))))
            (pss_one (ps_ret pe_bl)) pss_nil))
      apply pss_one
      · exact ps_ret pe_bl
    refine ⟨.ref a, rfl, a, _, rfl, .inl hS, _, _, rfl, _, _, rfl, _, rfl, ?_, ?_, for_range (lo := 0) (n := _) (fun i σ H' => ∃ v, σ = [some (.ref a), v] ∧ SqL K H' a (ns.map V.int)) ⟨none, rfl, hS⟩ ?_ ?_⟩
    · rw [List.length_map]
      split <;> split <;> omega
    · rw [List.length_map]
      split <;> split <;> omega
    · rintro i σ H' hi ⟨v, rfl, hS'⟩
      have hi' : i < 1000 := by
        rw [List.length_map] at hi
        split at hi <;> split at hi <;> omega
      refine ⟨.ref a, rfl, .int (0 + i), rfl, a, ns, i, ?_, hS', hi', fun c => ?_⟩
      · rw [Int.zero_add]
        rfl
      refine ⟨c, rfl, fun p H1 hp s1 B1 => ?_⟩
      refine ⟨p, rfl, B1, fun H2 t2 => ⟨true, rfl, iteF ?_⟩⟩
      exact ⟨some (.int (0 + i)), rfl, seq_past hp s1 t2 hS'⟩
    · rintro σ H' ⟨v, rfl, hS'⟩
      exact q H'
end
theorem all_mk {l : PySem.W.OpenLaw} {w : World} {K : PySem.W.Frag} {h : Heap} {mg : Str → Option Value} {fa f1 f2 f3 f4 f5 f6 f7 f8 f9 CF fF C1 fI1 : Addr}
    {od1 an1 od2 an2 od3 an3 od4 an4 od5 an5 od6 an6 od7 an7 od8 an8 od9 an9 odF anF odI1 anI1 : Option Addr}
    {sl1 sl2 sl3 sl4 sl5 sl6 sl7 sl8 sl9 slF slI1 : Array (Option Value)}
    {oc1 kV1 dc1 pm1 cd1 ct1 oc2 kV2 dc2 pm2 cd2 ct2 oc3 kV3 dc3 pm3 cd3 ct3 oc4 kV4 dc4 pm4 cd4 ct4 oc5 kV5 dc5 pm5 cd5 ct5 oc6 kV6 dc6 pm6 cd6 ct6 oc7 kV7 dc7 pm7 cd7 ct7 oc8 kV8 dc8 pm8 cd8 ct8 oc9 kV9 dc9 pm9 cd9 ct9 ocF kVF dcF pmF cdF ctF ocI1 kVI1 dcI1 pmI1 cdI1 ctI1 : Value}
    {t9 tE : Tok}
    {nm1 q1 : Str} {N1 : Addr} {bs1 : List Value} {sn1 : List Str} {sub1 : List Value} {ab1 : Bool} {col1 : Option Bool} {dd1 : Option Addr} {m01 m11 m31 m51 : Option Value} {cn1 : Str} {tkE1 : Tok}
    (X : K.In h) (G : h.Ns mainGlobals mg) (hfa : mg "law" = some (.ref fa))
    (a1 : PySem.W.nsIn K mainGlobals "read_row" = some (some (.ref f1)))
    (l1 : K.lookup f1 = some ⟨oc1, od1, .func (PySem.W.fnOf "read_row" "read_row" (defArgs sRead) (defBody sRead) (defScope sRead) .none kV1 dc1 pm1 an1 cd1 ct1), sl1⟩)
    (c1 : PySem.W.codeIn K cd1 "read_row" = true)
    (k1 : PySem.W.keepIn K (.ref f1) = true)
    (a2 : PySem.W.nsIn K mainGlobals "_law_cell" = some (some (.ref f2)))
    (l2 : K.lookup f2 = some ⟨oc2, od2, .func (PySem.W.fnOf "_law_cell" "_law_cell" (defArgs sCell) (defBody sCell) (defScope sCell) .none kV2 dc2 pm2 an2 cd2 ct2), sl2⟩)
    (c2 : PySem.W.codeIn K cd2 "_law_cell" = true)
    (k2 : PySem.W.keepIn K (.ref f2) = true)
    (a3 : PySem.W.nsIn K mainGlobals "_law_box" = some (some (.ref f3)))
    (l3 : K.lookup f3 = some ⟨oc3, od3, .func (PySem.W.fnOf "_law_box" "_law_box" (defArgs sBox) (defBody sBox) (defScope sBox) .none kV3 dc3 pm3 an3 cd3 ct3), sl3⟩)
    (c3 : PySem.W.codeIn K cd3 "_law_box" = true)
    (k3 : PySem.W.keepIn K (.ref f3) = true)
    (a4 : PySem.W.nsIn K mainGlobals "_law_take" = some (some (.ref f4)))
    (l4 : K.lookup f4 = some ⟨oc4, od4, .func (PySem.W.fnOf "_law_take" "_law_take" (defArgs sTake) (defBody sTake) (defScope sTake) .none kV4 dc4 pm4 an4 cd4 ct4), sl4⟩)
    (c4 : PySem.W.codeIn K cd4 "_law_take" = true)
    (k4 : PySem.W.keepIn K (.ref f4) = true)
    (a5 : PySem.W.nsIn K mainGlobals "_law_due" = some (some (.ref f5)))
    (l5 : K.lookup f5 = some ⟨oc5, od5, .func (PySem.W.fnOf "_law_due" "_law_due" (defArgs sDue) (defBody sDue) (defScope sDue) .none kV5 dc5 pm5 an5 cd5 ct5), sl5⟩)
    (c5 : PySem.W.codeIn K cd5 "_law_due" = true)
    (k5 : PySem.W.keepIn K (.ref f5) = true)
    (a6 : PySem.W.nsIn K mainGlobals "_law_told" = some (some (.ref f6)))
    (l6 : K.lookup f6 = some ⟨oc6, od6, .func (PySem.W.fnOf "_law_told" "_law_told" (defArgs sTold) (defBody sTold) (defScope sTold) .none kV6 dc6 pm6 an6 cd6 ct6), sl6⟩)
    (c6 : PySem.W.codeIn K cd6 "_law_told" = true)
    (k6 : PySem.W.keepIn K (.ref f6) = true)
    (a7 : PySem.W.nsIn K mainGlobals "_law_spoilt" = some (some (.ref f7)))
    (l7 : K.lookup f7 = some ⟨oc7, od7, .func (PySem.W.fnOf "_law_spoilt" "_law_spoilt" (defArgs sSpoilt) (defBody sSpoilt) (defScope sSpoilt) .none kV7 dc7 pm7 an7 cd7 ct7), sl7⟩)
    (c7 : PySem.W.codeIn K cd7 "_law_spoilt" = true)
    (k7 : PySem.W.keepIn K (.ref f7) = true)
    (a8 : PySem.W.nsIn K mainGlobals "_law_right" = some (some (.ref f8)))
    (l8 : K.lookup f8 = some ⟨oc8, od8, .func (PySem.W.fnOf "_law_right" "_law_right" (defArgs sRight) (defBody sRight) (defScope sRight) .none kV8 dc8 pm8 an8 cd8 ct8), sl8⟩)
    (c8 : PySem.W.codeIn K cd8 "_law_right" = true)
    (k8 : PySem.W.keepIn K (.ref f8) = true)
    (a9 : PySem.W.nsIn K mainGlobals "law" = some (some (.ref f9)))
    (l9 : K.lookup f9 = some ⟨oc9, od9, .func (PySem.W.fnOf "law" "law" (defArgs sLaw) (defBody sLaw) (defScope sLaw) .none kV9 dc9 pm9 an9 cd9 ct9), sl9⟩)
    (c9 : PySem.W.codeIn K cd9 "law" = true)
    (k9 : PySem.W.keepIn K (.ref f9) = true)
    (aF : PySem.W.nsIn K mainGlobals "FigureError" = some (some (.ref CF)))
    (rF : PySem.W.readsIn K CF (.type "type") = true)
    (gaF : PySem.W.specialIn K (.ref CF) "__getattribute__" = some (some (.builtin "type.__getattribute__")))
    (atF : PySem.W.findCls K (.ref CF) (.type "type") "__init__" = some (.val (.ref fF)))
    (lF : K.lookup fF = some ⟨ocF, odF, .func (PySem.W.fnOf "__init__" "FigureError.__init__" (defArgs sFig) (defBody sFig) (defScope sFig) .none kVF dcF pmF anF cdF ctF), slF⟩)
    (cF : PySem.W.codeIn K cdF "FigureError.__init__" = true)
    (kF : PySem.W.keepIn K (.ref fF) = true)
    (vV : PySem.W.findCls K (.type "ValueError") (.type "type") "__init__" = some (.val (.builtin "ValueError.__init__")))
    (aC1 : PySem.W.nsIn K mainGlobals "InvalidText" = some (some (.ref C1)))
    (xC1 : K.lookup C1 = some (excClassObj nm1 q1 C1 N1 bs1 [.ref CF, .type "ValueError", .type "Exception", .type "BaseException", .type "object"] true sn1 sub1 ab1 col1 dd1 m01 m11 (some (.str cn1 tkE1)) m31 m51 "ValueError.__new__"))
    (sa1 : PySem.W.findIn K (.ref C1) "__setattr__" = some (some (.builtin "object.__setattr__")))
    (ex1 : PySem.W.subIn K (.ref C1) (.type "BaseException") = some true)
    (ty1 : PySem.W.typeIn K (.ref C1) = some (.type "type"))
    (kC1 : PySem.W.keepIn K (.ref C1) = true)
    (iC1 : PySem.W.findIn K (.ref C1) "__init__" = some (some (.ref fI1)))
    (tI1 : PySem.W.typeIn K (.ref fI1) = some (.type "function"))
    (no1 : PySem.W.findIn K (.ref C1) "text" = some none)
    (ga1 : PySem.W.findIn K (.ref C1) "__getattribute__" = some (some (.builtin "BaseException.__getattribute__")))
    (gg1 : PySem.W.findIn K (.ref C1) "__getattr__" = some none)
    (hd1 : PySem.W.hasDictIn K C1 = true)
    (sb1 : PySem.W.subIn K (.ref C1) (.ref C1) = some true)
    (ic1 : PySem.W.isClsIn K C1 = true)
    (lI1 : K.lookup fI1 = some ⟨ocI1, odI1, .func (PySem.W.fnOf "__init__" "InvalidText.__init__" (defArgs sInT) (defBody sInT) (defScope sInT) .none kVI1 dcI1 pmI1 anI1 cdI1 ctI1), slI1⟩)
    (cI1 : PySem.W.codeIn K cdI1 "InvalidText.__init__" = true)
    (kI1 : PySem.W.keepIn K (.ref fI1) = true)
    (z1 : PySem.W.nsIn K mainGlobals "len" = some none)
    (z2 : PySem.W.nsIn K mainGlobals "range" = some none)
    (z3 : PySem.W.nsIn K mainGlobals "int" = some none)
    (z4 : PySem.W.nsIn K mainGlobals "isinstance" = some none)
    (z5 : PySem.W.nsIn K mainGlobals "str" = some none)
    (z6 : PySem.W.nsIn K mainGlobals "all" = some none)
    (z7 : PySem.W.nsIn K mainGlobals "tuple" = some none)
    (z8 : PySem.W.nsIn K mainGlobals "max" = some none)
    (z9 : PySem.W.nsIn K mainGlobals "min" = some none)
    (z10 : PySem.W.nsIn K mainGlobals "list" = some none)
    (z11 : PySem.W.nsIn K mainGlobals "ValueError" = some none)
    (v1 : PySem.W.nsIn K mainGlobals "GREATEST_DIGIT" = some (some (.int 9 t9)))
    (v2 : PySem.W.nsIn K mainGlobals "EMPTY_TEXT" = some (some (.str "." tE)))
    (haE1 : PySem.W.findIn K (.ref C1) "__class__" = some (some (.builtin "object.__class__")))
    (hmE1 : PySem.W.mroIn K C1 (.type "object") = some true)
    (fcE1 : PySem.W.findCls K (.ref C1) (.type "type") "__name__" = some (.get (.builtin "getset_descriptor.__get__") (.builtin "type.__name__") (.ref C1) (.type "type")))
    (nnE1 : PySem.W.findIn K (.ref C1) "class_name" = some none)
    (xnE : PySem.W.specialIn K (.builtin "object.__class__") "__get__" = some (some (.builtin "getset_descriptor.__get__")))
    (xtE : PySem.W.takesIn K (.builtin "object.__class__") = some true)
    (stE : PySem.W.nsIn K cStatics "thirdparty.any" = some none)
    : ∃ fd : FuncData, (∀ (s : Shared) (v : Value), BindsTo s fd ⟨[v], []⟩ [("_law_script", v)]) ∧ ∀ base : Heap, K.In base → base.Ns mainGlobals mg → FnOk l.prog w K mg base CX0 7 fa fd ["_law_script"] (spLaw K) := by
  have e := hfa.symm.trans (PySem.W.mg_of X G a9)
  cases e
  have F1 := fun_mk (st := sRead) l1 c1 k1
  have g1 := PySem.W.mg_of X G a1
  have b1 := F1.binds (ps := ["text"]) fun _ _ _ _ _ _ us hl => match us, hl with | [_], _ => rfl
  have F2 := fun_mk (st := sCell) l2 c2 k2
  have g2 := PySem.W.mg_of X G a2
  have b2 := F2.binds (ps := ["_law_script", "_law_k"]) fun _ _ _ _ _ _ us hl => match us, hl with | [_, _], _ => rfl
  have F3 := fun_mk (st := sBox) l3 c3 k3
  have g3 := PySem.W.mg_of X G a3
  have b3 := F3.binds (ps := ["_law_cell_here"]) fun _ _ _ _ _ _ us hl => match us, hl with | [_], _ => rfl
  have F4 := fun_mk (st := sTake) l4 c4 k4
  have g4 := PySem.W.mg_of X G a4
  have b4 := F4.binds (ps := ["_law_box_here", "_law_many"]) fun _ _ _ _ _ _ us hl => match us, hl with | [_, _], _ => rfl
  have F5 := fun_mk (st := sDue) l5 c5 k5
  have g5 := PySem.W.mg_of X G a5
  have b5 := F5.binds (ps := ["_law_text"]) fun _ _ _ _ _ _ us hl => match us, hl with | [_], _ => rfl
  have F6 := fun_mk (st := sTold) l6 c6 k6
  have g6 := PySem.W.mg_of X G a6
  have b6 := F6.binds (ps := ["_law_value"]) fun _ _ _ _ _ _ us hl => match us, hl with | [_], _ => rfl
  have F7 := fun_mk (st := sSpoilt) l7 c7 k7
  have g7 := PySem.W.mg_of X G a7
  have b7 := F7.binds (ps := ["_law_box_here", "_law_text"]) fun _ _ _ _ _ _ us hl => match us, hl with | [_, _], _ => rfl
  have F8 := fun_mk (st := sRight) l8 c8 k8
  have g8 := PySem.W.mg_of X G a8
  have b8 := F8.binds (ps := ["_law_box_here"]) fun _ _ _ _ _ _ us hl => match us, hl with | [_], _ => rfl
  have F9 := fun_mk (st := sLaw) l9 c9 k9
  have g9 := PySem.W.mg_of X G a9
  have b9 := F9.binds (ps := ["_law_script"]) fun _ _ _ _ _ _ us hl => match us, hl with | [_], _ => rfl
  have FF := fun_mk (st := sFig) lF cF kF
  have bF := FF.binds (ps := ["self", "text"]) fun _ _ _ _ _ _ us hl => match us, hl with | [_, _], _ => rfl
  have TF : FigC K mg CF fF := ⟨PySem.W.mg_of X G aF, ⟨rF, gaF⟩, atF, kF⟩
  have FI1 := fun_mk (st := sInT) lI1 cI1 kI1
  have bI1 := FI1.binds (ps := ["self", "text"]) fun _ _ _ _ _ _ us hl => match us, hl with | [_, _], _ => rfl
  have T1 : ErrC K mg "InvalidText" "text" C1 fI1 := ⟨PySem.W.mg_of X G aC1, ⟨⟨_, _, _, _, _, _, _, _, _, _, _, _, _, _, _, xC1, by first | rfl | decide +kernel⟩, sa1, ex1, ty1, kC1⟩, iC1, tI1, no1, ⟨ga1, gg1, ex1, hd1⟩, exm_own ex1 ic1 ty1 sb1, ⟨cn1, ⟨⟨ga1, gg1, ex1, hd1⟩, by simpa [PySem.W.isClsIn] using ic1, haE1, xnE, xtE, hmE1, ty1, stE, fcE1, ⟨_, tkE1, xC1, rfl, rfl⟩, nnE1⟩⟩⟩
  have y_len := PySem.W.mg_none_of X G z1
  have y_range := PySem.W.mg_none_of X G z2
  have y_int := PySem.W.mg_none_of X G z3
  have y_isinstance := PySem.W.mg_none_of X G z4
  have y_str := PySem.W.mg_none_of X G z5
  have y_all := PySem.W.mg_none_of X G z6
  have y_tuple := PySem.W.mg_none_of X G z7
  have y_max := PySem.W.mg_none_of X G z8
  have y_min := PySem.W.mg_none_of X G z9
  have y_list := PySem.W.mg_none_of X G z10
  have y_ValueError := PySem.W.mg_none_of X G z11
  have u_GREATEST_DIGIT := PySem.W.mg_of X G v1
  have u_EMPTY_TEXT := PySem.W.mg_of X G v2
  refine ⟨PySem.W.fnOf "law" "law" (defArgs sLaw) (defBody sLaw) (defScope sLaw) .none kV9 dc9 pm9 an9 cd9 ct9, fun s v => .of_eq rfl, fun base _ _ => ?_⟩
  have GR : FnOk l.prog w K mg base (L2.CX l.prog w) 4 _ _ ["text"] (OF.spRead C1) := ok_read F1 FI1 FF TF bF T1 bI1 y_ValueError vV u_EMPTY_TEXT u_GREATEST_DIGIT y_isinstance y_str y_range y_all y_tuple
  have GO : FnOk l.prog w K mg base CX0 5 _ _ ["_law_value"] spTold := ok_told F6 GR g1 F1.kp b1 T1
  have GS : FnOk l.prog w K mg base CX0 2 _ _ ["_law_box_here", "_law_text"] spSpoilt := ok_spoilt F7 F4 g4 b4 y_int y_len
  have GD : FnOk l.prog w K mg base CX0 1 _ _ ["_law_text"] spDue := ok_due F5 y_int y_list y_tuple
  have R : FnOk l.prog w K mg base CX0 6 _ _ ["_law_box_here"] spRight := ok_right F8 F4 g4 b4 GS g7 F7.kp b7 GD g5 F5.kp b5 GO g6 F6.kp b6 y_int y_range y_str
  exact ok_law F9 F2 g2 b2 F3 g3 b3 R g8 F8.kp b8 y_int y_len y_range y_max y_min
end K03
open PySem PySem.W PyProof.Rows
set_option maxRecDepth 100000 in
set_option maxHeartbeats 0 in
theorem PySem.Challenge.cw_oddfigures_k03_row_texts_nearly_good_holds : PySem.Challenge.rw_oddfigures_k03_row_texts_nearly_good.Holds := by
  w_on; o_law; k_head; (case hw => w_witness2)
  k_fill
  refine L2.walk_of (l := PySem.Challenge.rw_oddfigures_k03_row_texts_nearly_good) (n := 63) (k := 7) (x := "_law_script") (CX := fun _ => L2.CX0) (sp := fun w => K03.spLaw _) rfl (by decide) rfl ⟨rfl, by decide, by decide⟩ (fun w h Y => PySem.W.kIn_of Y) ?F (fun _ _ a ns hl _ hS => ⟨a, ns, rfl, hS, hl, fun _ => rfl⟩) (fun _ _ _ _ _ h => h)
  case F =>
    intro w mg fa h KX G hmg
    refine' K03.all_mk KX G hmg ?a1 ?l1 ?c1 ?k1 ?a2 ?l2 ?c2 ?k2 ?a3 ?l3 ?c3 ?k3 ?a4 ?l4 ?c4 ?k4 ?a5 ?l5 ?c5 ?k5 ?a6 ?l6 ?c6 ?k6 ?a7 ?l7 ?c7 ?k7 ?a8 ?l8 ?c8 ?k8 ?a9 ?l9 ?c9 ?k9 ?aF ?rF ?gaF ?atF ?lF ?cF ?kF ?vV ?aC1 ?xC1 ?sa1 ?ex1 ?ty1 ?kC1 ?iC1 ?tI1 ?no1 ?ga1 ?gg1 ?hd1 ?sb1 ?ic1 ?lI1 ?cI1 ?kI1 ?z1 ?z2 ?z3 ?z4 ?z5 ?z6 ?z7 ?z8 ?z9 ?z10 ?z11 ?v1 ?v2 ?haE1 ?hmE1 ?fcE1 ?nnE1 ?xnE ?xtE ?stE
    (case a1 => k_is)
    (case l1 => k_is)
    (case c1 => k_is)
    (case k1 => k_is)
    (case a2 => k_is)
    (case l2 => k_is)
    (case c2 => k_is)
    (case k2 => k_is)
    (case a3 => k_is)
    (case l3 => k_is)
    (case c3 => k_is)
    (case k3 => k_is)
    (case a4 => k_is)
    (case l4 => k_is)
    (case c4 => k_is)
    (case k4 => k_is)
    (case a5 => k_is)
    (case l5 => k_is)
    (case c5 => k_is)
    (case k5 => k_is)
    (case a6 => k_is)
    (case l6 => k_is)
    (case c6 => k_is)
    (case k6 => k_is)
    (case a7 => k_is)
    (case l7 => k_is)
    (case c7 => k_is)
    (case k7 => k_is)
    (case a8 => k_is)
    (case l8 => k_is)
    (case c8 => k_is)
    (case k8 => k_is)
    (case a9 => k_is)
    (case l9 => k_is)
    (case c9 => k_is)
    (case k9 => k_is)
    (case aF => k_is)
    (case rF => k_is)
    (case gaF => k_is)
    (case atF => k_is)
    (case lF => k_is)
    (case cF => k_is)
    (case kF => k_is)
    (case vV => k_is)
    (case aC1 => k_is)
    (case xC1 => k_is)
    (case sa1 => k_is)
    (case ex1 => k_is)
    (case ty1 => k_is)
    (case kC1 => k_is)
    (case iC1 => k_is)
    (case tI1 => k_is)
    (case no1 => k_is)
    (case ga1 => k_is)
    (case gg1 => k_is)
    (case hd1 => k_is)
    (case sb1 => k_is)
    (case ic1 => k_is)
    (case lI1 => k_is)
    (case cI1 => k_is)
    (case kI1 => k_is)
    (case z1 => k_is)
    (case z2 => k_is)
    (case z3 => k_is)
    (case z4 => k_is)
    (case z5 => k_is)
    (case z6 => k_is)
    (case z7 => k_is)
    (case z8 => k_is)
    (case z9 => k_is)
    (case z10 => k_is)
    (case z11 => k_is)
    (case v1 => k_is)
    (case v2 => k_is)
    (case haE1 => k_is)
    (case hmE1 => k_is)
    (case fcE1 => k_is)
    (case nnE1 => k_is)
    (case xnE => k_is)
    (case xtE => k_is)
    (case stE => k_is)
