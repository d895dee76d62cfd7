import PyProof.Rows.All
import Wide.All
import OpenK.AllK
import Wide.FinOn
import HandS.ForMost
import HandS.IsInst
import HandS.Defaults
import HandS.Wide
import HandS.ForExc
import HandS.ExcInit
import HandS.ExcField
import KE.KExcIs
import KE.KTypeName
import HandS.ClsMeth
import HandS.DictComp
import HandS.More
import HandS.TupAny
import PySem.Challenge.RW_oddfigures_k02_rows_as_text
set_option Elab.async false
set_option linter.all false
set_option maxRecDepth 100000
/-! What the laws of this program have in common: heaps that stay but for one box, the box that draws are taken from, calls by names alone, repr of a truth. -/
namespace OF
open PySem PySem.Spec PyProof.Rows L2

/-! ### heaps that stay but for one place -/
/-- all that was tracked, but for the box at a, is as it was -/
def But (a : Addr) (H H' : Hp) : Prop := ∀ b o, b ≠ a → H b = some o → H' b = some o
theorem But.refl {a : Addr} {H : Hp} : But a H H := fun _ _ _ h => h
theorem But.trans {a : Addr} {H H1 H2 : Hp} (x : But a H H1) (y : But a H1 H2) : But a H H2 := fun b o n h => y b o n (x b o n h)
theorem But.of_same {a : Addr} {H H' : Hp} (x : Same H H') : But a H H' := fun b o _ h => x b o h
theorem But.new {a p : Addr} {H : Hp} {o : HO} (hp : H p = none) : But a H (upd H p o) := fun b u _ h => by
  rw [upd_ne (ne_of_none h hp)]; exact h
theorem But.at_ {a : Addr} {H : Hp} {o : HO} : But a H (upd H a o) := fun b u n h => by
  rw [upd_ne n]; exact h
/-- what was none ahead of the steps is a new place: a store to it keeps all -/
theorem But.store {a p : Addr} {H H1 : Hp} {o : HO} (x : But a H H1) (hp : H p = none) : But a H (upd H1 p o) := fun b u n h => by
  rw [upd_ne (ne_of_none h hp)]; exact x b u n h
theorem But.seqL {K : PySem.W.Frag} {a p : Addr} {H H' : Hp} {xs : List V} (x : But a H H') (n : p ≠ a) (h : SqL K H p xs) : SqL K H' p xs := by
  rcases h with (h | ⟨o, h⟩) | h
  · exact .inl (.inl (x _ _ n h))
  · exact .inl (.inr ⟨o, x _ _ n h⟩)
  · exact .inr h
theorem But.seqT {K : PySem.W.Frag} {a p : Addr} {H H' : Hp} {xs : List V} (x : But a H H') (n : p ≠ a) (h : SqT K H p xs) : SqT K H' p xs := by
  rcases h with (h | ⟨o, h⟩) | h
  · exact .inl (.inl (x _ _ n h))
  · exact .inl (.inr ⟨o, x _ _ n h⟩)
  · exact .inr h
theorem same_new {H : Hp} {p : Addr} {o : HO} (h : H p = none) : Same H (upd H p o) := fun b x e => by
  rw [upd_ne (ne_of_none e h)]; exact e

/-! ### the box -/
/-- at a stands a box: what is left of a large cell, a seed, how many were mixed (at most n) -/
def Box (n : Int) (H : Hp) (a : Addr) : Prop := ∃ b0 b1 b2 : Int, H a = some (.lst [.int b0, .int b1, .int b2]) ∧ 0 ≤ b0 ∧ 0 ≤ b1 ∧ b1 < 2147483648 ∧ 0 ≤ b2 ∧ b2 ≤ n
theorem Box.mono {n m : Int} {H : Hp} {a : Addr} (h : Box n H a) (hm : n ≤ m) : Box m H a := by
  obtain ⟨b0, b1, b2, h1, h2, h3, h4, h5, h6⟩ := h
  exact ⟨b0, b1, b2, h1, h2, h3, h4, h5, by omega⟩
theorem Box.same {n : Int} {H H' : Hp} {a : Addr} (h : Box n H a) (s : Same H H') : Box n H' a := by
  obtain ⟨b0, b1, b2, h1, r⟩ := h
  exact ⟨b0, b1, b2, s _ _ h1, r⟩
theorem Box.new {n : Int} {H : Hp} {a p : Addr} {o : HO} (h : Box n H a) (hp : H p = none) : Box n (upd H p o) a := h.same (same_new hp)
theorem Box.ne {n : Int} {H : Hp} {a p : Addr} (h : Box n H a) (hp : H p = none) : p ≠ a := by
  obtain ⟨b0, b1, b2, h1, r⟩ := h
  exact (ne_of_none h1 hp).symm
theorem Box.upd {n : Int} {H : Hp} {a p : Addr} {o : HO} (h : Box n H a) (hp : p ≠ a) : Box n (L2.upd H p o) a := by
  obtain ⟨b0, b1, b2, h1, r⟩ := h
  exact ⟨b0, b1, b2, by rw [upd_ne hp.symm]; exact h1, r⟩

/-- a draw: box, many; a number from 0 to many - 1, the box goes on -/
def spTake : Sp := fun vs H Q _ => ∃ (a : Addr) (m n : Int), vs = [.ref a, .int m] ∧ Box n H a ∧ n ≤ 1000000 ∧ 0 < m ∧ m.natAbs < 2 ^ 400 ∧
  ∀ (r : Int) (H' : Hp), 0 ≤ r → r < m → But a H H' → Box (n + 1) H' a → Q (.int r) H'
/-- a cell of the script, or a number made of the place -/
def spCell (K : PySem.W.Frag) : Sp := fun vs H Q _ => ∃ (a : Addr) (ns : List Int) (k : Nat), vs = [.ref a, .int k] ∧ SqL K H a (ns.map V.int) ∧ k < 1000 ∧ ∀ c : Int, Q (.int c) H
/-- a new box of a cell -/
def spBox : Sp := fun vs H Q _ => ∃ c : Int, vs = [.int c] ∧ ∀ (p : Addr) (H' : Hp), H p = none → Same H H' → Box 0 H' p → Q (.ref p) H'
/-- a list's items in a drawn order -/
def spMixed (K : PySem.W.Frag) : Sp := fun vs H Q _ => ∃ (a p : Addr) (xs : List V) (n : Int), vs = [.ref a, .ref p] ∧ Box n H a ∧ SqL K H p xs ∧ p ≠ a ∧ xs.length ≤ 1000 ∧ n ≤ 900000 ∧
  ∀ (D : Addr) (ys : List V) (H' : Hp), H D = none → But a H H' → Box (n + xs.length) H' a → H' D = some (.lst ys) → ys.length = xs.length → (∀ y ∈ ys, y ∈ xs) → Q (.ref D) H'

/-! ### calls by names alone -/
section
variable {X : Cx} {CX : CXT} {k : Nat} {f : Addr} {fd : FuncData} {ps ks : List Str} {sp : Sp} {E : XK} {x : Str} {p pos : Pos} {kws : List Keyword} {tk : TA} {g : List Value → List Value → List Value} {gV : List V → List V → List V}
/-- f(k = v, ..) -/
theorem pe_callN0 (F : FnOk X.prog X.w X.K X.mg X.base CX k f fd ps sp) (hr : Room k X.A) (hg : Gl X x) (hm : X.mg x = some (.ref f)) (hk : PySem.W.keepIn X.K (.ref f) = true) (hb : KBn X.K fd ps 0 ks g gV) (hx : Passes CX X E)
    (hkw : PK X kws tk) (hall : (backToKw pos (keywordEach kws X.env)).all (·.1.isSome) = true := by rfl) (hks : (backToKw pos (keywordEach kws X.env)).filterMap (·.1) = ks := by rfl)
    (hdb : (x == ("__debug__" : Str)) = false := by decide)
    (hpl : ((backTo pos (starEach [] X.env)).any (·.1) || (backToKw pos (keywordEach kws X.env)).any (·.1.isNone)) = false := by rfl) :
    PE X (.Call (.Name x p) [] kws pos) (tCallN 0 ks.length sp gV E tNil tk) := by
  refine ⟨fun pins s σ H Q I h => ?_⟩
  refine wpAny_Call_Name_kw (ld_glob I hg hm ?_ hdb)
  refine PySem.W.callWith_KW0 (h₀ := X.base) I.ok.mod.kin hk hall (thn (hkw.run pos pins s σ H _ I h) fun ws s2 ⟨zs, H2, I2, rz, l1, l2, q2⟩ => ⟨I2.kIn, ?_⟩) hpl
  rw [hks]
  exact run_fnN (us := []) (vs := []) F hr hb hx I2 .nil rz l1 l2 q2
/-- % by a positive number: some rest, in its bounds -/
theorem op_modR : OpR X (binaryOp .Mod) (fun x y H Q => ∃ i j : Int, x = .int i ∧ y = .int j ∧ 0 < j ∧ ∀ r : Int, 0 ≤ r → r < j → Q (.int r) H) := by
  intro pins s σ H x y v u Q I rx ry h
  obtain ⟨i, j, e1, e2, hj, q⟩ := h
  exact op_mod pins s σ H x y v u Q I rx ry ⟨i, j, e1, e2, hj, q _ (Int.emod_nonneg _ (by omega)) (Int.emod_lt_of_pos _ hj)⟩
theorem call_repr_bool : CallR X (.builtin "repr") (fun xs H Q => ∃ b, xs = [.bl b] ∧ Q (.str (if b then "True" else "False")) H) := by
  intro pins s σ H xs us Q I r h
  obtain ⟨b, rfl, q⟩ := h
  obtain ⟨u, rfl, hu⟩ := vals1 r
  cases hu
  exact PySem.P.repr_of_bool ⟨.str _, H, I.tok _, ⟨_, rfl⟩, q⟩
end
end OF
namespace OF
open PySem PySem.Spec PyProof.Rows L2
/-- len of a list or tuple -/
abbrev rLenS (K : PySem.W.Frag) : List V → Hp → VK → Prop := fun xs H Q => ∃ p ys, xs = [.ref p] ∧ (SqL K H p ys ∨ SqT K H p ys) ∧ Q (.int ys.length) H
theorem tYes_if {σ : L2.St} {H : Hp} {A B : Hp → Prop} (h : A H) : tYes σ H (fun b H3 => if b = true then A H3 else B H3) := by
  show (if true = true then A H else B H)
  rw [if_pos rfl]
  exact h
/-- both ways of a test lead to the same rest -/
theorem iteDup {c : Bool} {A B R : Prop} (f : R → c = true → A) (g : R → c = false → B) (r : R) : if c = true then A else B := by
  cases c with
  | true => exact iteT (f r rfl)
  | false => exact iteF (g r rfl)
theorem iteAnd {c d : Bool} {A : Prop} {Q : V → Hp → Prop} {H : Hp} (hA : Q (.bl d) H → A) (h : Q (.bl (c && d)) H) : if c = true then A else Q (.bl false) H := by
  cases c with
  | true => exact iteT (hA h)
  | false => exact iteF h
theorem iteOr {c d : Bool} {A : Prop} {Q : V → Hp → Prop} {H : Hp} (hA : Q (.bl d) H → A) (h : Q (.bl (c || d)) H) : if c = true then Q (.bl true) H else A := by
  cases c with
  | true => exact iteT h
  | false => exact iteF (hA h)
/-- an if whose test is known -/
theorem iteTB {c : Bool} {A B : Prop} (e : c = true) (h : A) : if c = true then A else B := by rw [if_pos e]; exact h
theorem iteFB {c : Bool} {A B : Prop} (e : c = false) (h : B) : if c = true then A else B := by rw [if_neg (by rw [e]; exact Bool.false_ne_true)]; exact h
/-- two values that are the same: no difference -/
theorem neSame {x y : V} (h : x = y) : (!decide (x = y)) = false := by rw [decide_eq_true h]; rfl
theorem eqSame {x y : V} (h : x = y) : decide (x = y) = true := decide_eq_true h
theorem seq_past {K : PySem.W.Frag} {H H1 H2 : Hp} {a p : Addr} {xs : List V} (hp : H p = none) (s : Same H H1) (b : But p H1 H2) (h : SqL K H a xs) : SqL K H2 a xs := by
  rcases h with (h | ⟨o, h⟩) | h
  · exact .inl (.inl (b _ _ (ne_of_none h hp) (s _ _ h)))
  · exact .inl (.inr ⟨o, b _ _ (ne_of_none h hp) (s _ _ h)⟩)
  · exact .inr h
/-- an item at a place within -/
theorem pick {xs : List V} {r : Int} (h0 : 0 ≤ r) (h1 : r < xs.length) : ∃ v, atI xs r = some v ∧ v ∈ xs := by
  obtain ⟨k, rfl⟩ := Int.eq_ofNat_of_zero_le h0
  have hk : k < xs.length := by omega
  exact ⟨xs[k], atI_nat (List.getElem?_eq_getElem hk), List.getElem_mem hk⟩
theorem ixN_in {n : Nat} {r : Int} (h0 : 0 ≤ r) (h1 : r < n) : ixN n r = some r.toNat := by
  unfold ixN
  rw [if_pos h0, if_pos h1]
/-- a value of a kind that is no int, or a truth -/
inductive Odd (H : Hp) : V → Prop
  | non : Odd H .non
  | bl (b : Bool) : Odd H (.bl b)
  | str (z : Str) : Odd H (.str z)
  | lst {a : Addr} {xs : List V} (e : H a = some (.lst xs)) : Odd H (.ref a)
  | tup {a : Addr} {xs : List V} (e : H a = some (.tup xs)) : Odd H (.ref a)
  | dK {a : Addr} {kvs : List (Key × V)} (e : H a = some (.dK kvs)) : Odd H (.ref a)
theorem Odd.same {H H' : Hp} {x : V} (h : Odd H x) (s : Same H H') : Odd H' x := by
  cases h with
  | non => exact .non
  | bl b => exact .bl b
  | str z => exact .str z
  | lst e => exact .lst (s _ _ e)
  | tup e => exact .tup (s _ _ e)
  | dK e => exact .dK (s _ _ e)
theorem Odd.kit {K : PySem.W.Frag} {H : Hp} {x : V} (h : Odd H x) : ∃ (t : Value) (b : Bool), TyX K H x t ∧ PySem.W.kitOne K t (.type "int") = some b ∧ (b = true → PySem.W.kitOne K t (.type "bool") = some true) := by
  cases h with
  | non => exact ⟨_, false, .base .non, kit_ty (by decide +kernel), fun z => nomatch z⟩
  | bl b => exact ⟨_, true, .base (.bl b), kit_ty (by decide +kernel), fun _ => kit_ty (by decide +kernel)⟩
  | str z => exact ⟨_, false, .base (.str z), kit_ty (by decide +kernel), fun z => nomatch z⟩
  | lst e => exact ⟨_, false, .base (.lst e), kit_ty (by decide +kernel), fun z => nomatch z⟩
  | tup e => exact ⟨_, false, .base (.tup e), kit_ty (by decide +kernel), fun z => nomatch z⟩
  | dK e => exact ⟨_, false, .base (.dK e), kit_ty (by decide +kernel), fun z => nomatch z⟩
theorem Odd.but {a : Addr} {H H' : Hp} {x : V} (h : Odd H x) (hx : x ≠ .ref a) (t : But a H H') : Odd H' x := by
  cases h with
  | non => exact .non
  | bl b => exact .bl b
  | str z => exact .str z
  | lst e => exact .lst (t _ _ (fun z => hx (congrArg V.ref z)) e)
  | tup e => exact .tup (t _ _ (fun z => hx (congrArg V.ref z)) e)
  | dK e => exact .dK (t _ _ (fun z => hx (congrArg V.ref z)) e)
theorem Same.store {p : Addr} {H H1 : Hp} {o : HO} (x : Same H H1) (hp : H p = none) : Same H (upd H1 p o) := fun b u h => by
  rw [upd_ne (ne_of_none h hp)]; exact x b u h
theorem q_eq {Q : V → Hp → Prop} {H : Hp} {x y : V} (h : x = y) (q : Q (.bl true) H) : Q (.bl (decide (x = y))) H := by
  rw [decide_eq_true h]; exact q
end OF
/-! e.__class__.__name__ of an error that is being made. -/
namespace PySem.W
open PySem PySem.Calls PyProof.Rows PyProof.V PySem.Spec Builtin Builtin.ObjectAttr Builtin.Getset_descriptor
section
variable {prog : Program} {w : World} {A : Around} {E : Value → Shared → Prop} {s : Shared} {K : Frag} {x C : Addr} {ox : Obj} {od : Option Obj} {expr : Bool} {Q : Value → Shared → Prop} {gt : Option Value}
theorem exc_class (X : K.In s.heap) (I : InstAt s.heap x ox C od) (hga : findIn K (.ref C) "__getattribute__" = some (some (.builtin "BaseException.__getattribute__"))) (hgt : findIn K (.ref C) "__getattr__" = some gt)
    (hsub : subIn K (.ref C) (.type "BaseException") = some true) (hf : findObj K C od "__class__" = some (.bind (.builtin "getset_descriptor.__get__") (.builtin "object.__class__"))) (hm : mroIn K C (.type "object") = some true)
    (h : Q (.ref C) { s with toks := s.toks + 1 }) : wpAny (model prog w) A (getAttr (.ref x) "__class__" expr) Q E s := by
  obtain ⟨hp, g, d, t, os⟩ := s
  have L0 := I.type (M := model prog w)
  have L1 := looks_findIn (M := model prog w) X hga
  have L2 := looks_findIn (M := model prog w) X hgt
  have L3 := looks_find (M := model prog w) X I hf
  have sub : Looks (model prog w) hp (isInstance (.ref x) (.type "BaseException")) true := L0.andThen (looks_subIn X hsub)
  have hx0 : (expr && onTheHeap (Value.builtin "BaseException.__getattribute__")) = false := by cases expr <;> rfl
  have hx2 : (Value.builtin "BaseException.__getattribute__" == Value.builtin "object.__getattribute__") = false := by decide +kernel
  have hx1 : (onTheHeap (Value.ref C) && Value.builtin "BaseException.__getattribute__" == Value.builtin "object.__getattribute__") = false := by rw [hx2]; rfl
  unfold getAttr getAttrBy
  refine wpAny_bind (wpAny_mkText (wpAny_holding (wpAny_bind (L0.at (wpAny_bind (L1.at ?_))))))
  show wpAny _ _ (if (onTheHeap (Value.ref C) && Value.builtin "BaseException.__getattribute__" == Value.builtin "object.__getattribute__") = true then _ else _) _ _ _
  rw [hx1, if_neg Bool.false_ne_true]
  unfold getAttrByItsOwn hookBefore
  refine wpAny_bind ?_
  rw [if_pos (show onTheHeap (Value.ref C) = true from rfl)]
  refine L2.at ?_
  refine wpAny_bind (wpAny_attempt (wpAny_holding ?_))
  unfold callGetattribute
  rw [hx0, if_neg Bool.false_ne_true]
  unfold boundAndCalled
  rw [PySem.F.excAttr_ValueError.ga.bind (.ref x)]
  refine wpAny_bind (wpAny_pure ?_)
  show wpAny _ _ (call (.builtin "BaseException.__getattribute__") [.ref x, .str "__class__" t]) _ _ _
  refine wpAny_call (codeAny_call_builtin PySem.F.excAttr_ValueError.ga.plain PySem.F.entry_bexc_ga ?_)
  refine @PySem.W.check_slot (model prog w) _ _ ⟨hp, g, d, t + 1, os⟩ "BaseException.__getattribute__" "BaseException" "__getattribute__" (.ref x) [.str "__class__" t] [] _ (by decide +kernel) (by decide +kernel) sub (PySem.F.args_bexc_ga (.ref x) (.str "__class__" t)) ?_
  unfold Builtin.«object.__getattribute__»
  refine wpAny_bind (wpAny_of_eq (a := ((Value.ref x : Value), [Value.str "__class__" t])) (by first | rfl | (simp only [slotArgs]; rfl)) ?_)
  refine wpAny_bind (wpAny_pure (wpAny_bind (L0.at (wpAny_bind (L3.at ?_)))))
  refine wpAny_bind (wpAny_holding (wpAny_call (class_get (s := ⟨hp, g, d, t + 1, os⟩) (ox := ox) (od := od) X I hm ?_)))
  refine wpAny_pure ?_
  show wpAny _ _ (handedOut (.ref C)) _ _ _
  rw [handedOut_of (show handedIn (.ref C) = true from rfl)]
  first | exact wpAny_pure h | exact wpAny_pure (wpAny_pure h)
theorem cn_dga (d tp : Value) (a : Addr) : descrGetArgs ⟨[d, .ref a, tp], []⟩ = pure (d, some (.ref a), given tp) := by kernel_rfl
theorem cn_get {R : Result → Shared → Prop} {tp v : Value} {o : Obj} (ho : s.heap.get? C = some o) (hc : o.cls = .type "type") (hv : o.slots[2]?.join = some v) (h : R (.ok (.ret v)) s) :
    codeAny (model prog w) A (.call (.builtin "getset_descriptor.__get__") ⟨[.builtin "type.__name__", .ref C, tp], []⟩) R s := by
  obtain ⟨hh, g, dr, t, os⟩ := s
  have L0 : Looks (model prog w) hh (typeOf (.ref C)) (.type "type") := by
    rw [← hc]
    exact (Looks.ld ho).andThen .now
  have L1 : Looks (model prog w) hh (isSubtype (.type "type") (.type "type")) true := Looks.of_pure (by rw [isSubtype_type]; kernel_rfl)
  refine codeAny_call_builtin KF.slot_gs.plain KF.entry_gs (KF.slot_gs.check _ _ _ _ _ _ _ _ ktyn_type (KF.args_gs _ _ _) ?_)
  unfold Builtin.«getset_descriptor.__get__» descrGet
  rw [cn_dga]
  refine wpAny_bind (wpAny_pure ?_)
  unfold descrGetter descrCheckInstance descrNameAndClass isInstance
  simp only [ktyn_owner]
  repeat lk
  refine ⟨Code.quiet_builtin _ (by decide +kernel), codeAny_builtin ktyn_entry ?_⟩
  unfold Builtin.«type.__name__» keptObject slotAt
  dsimp only
  refine wpAny_bind (wpAny_bind (wpAny_loadPart_at ho (wpAny_pure ?_)))
  rw [hv]
  exact wpAny_pure h
theorem cn_attr {v : Value} {o : Obj} (X : K.In s.heap) (ty : typeIn K (.ref C) = some (.type "type")) (st : nsIn K cStatics "thirdparty.any" = some none)
    (e : findCls K (.ref C) (.type "type") "__name__" = some (.get (.builtin "getset_descriptor.__get__") (.builtin "type.__name__") (.ref C) (.type "type"))) (lk : K.lookup C = some o) (hc : o.cls = .type "type") (hv : o.slots[2]?.join = some v) (hh : handedIn v = true)
    (h : Q v { s with toks := s.toks + 1 }) : wpAny (model prog w) A (getAttr (.ref C) "__name__" expr) Q E s := by
  have ho := X _ _ lk
  have L0 : Looks (model prog w) s.heap (typeOf (.ref C)) (.type "type") := by
    rw [← hc]
    exact (Looks.ld ho).andThen .now
  have hg : findIn K (.type "type") "__getattribute__" = some (some (.builtin "type.__getattribute__")) := type_tga
  refine cls_open X (looks_opaque X st) L0 hg (looks_hook X (r := none) (by rfl)) (by show subIn K _ _ = _; rfl) e ?_
  show wpAny _ _ (do ret (← holding [Value.builtin "type.__name__"] (call (.builtin "getset_descriptor.__get__") [.builtin "type.__name__", .ref C, .type "type"]))) _ _ _
  refine wpAny_bind (wpAny_holding (wpAny_call (cn_get (s := { s with toks := s.toks + 1 }) ho hc hv ?_)))
  refine wpAny_pure ?_
  show wpAny _ _ (handedOut v) _ _ _
  rw [handedOut_of hh]
  first | exact wpAny_pure h | exact wpAny_pure (wpAny_pure h)
end
end PySem.W
namespace OF
open PySem PySem.Spec PyProof.Rows L2
/-- what an error class says, so that the name of its class is told -/
structure NamC (K : PySem.W.Frag) (C : Addr) (nm : Str) : Prop where
  xf : XfC K C
  cl : (PySem.W.clsIn K C).isSome = true
  ha : PySem.W.findIn K (.ref C) "__class__" = some (some (.builtin "object.__class__"))
  hn : PySem.W.specialIn K (.builtin "object.__class__") "__get__" = some (some (.builtin "getset_descriptor.__get__"))
  ht : PySem.W.takesIn K (.builtin "object.__class__") = some true
  hm : PySem.W.mroIn K C (.type "object") = some true
  ty : PySem.W.typeIn K (.ref C) = some (.type "type")
  st : PySem.W.nsIn K cStatics "thirdparty.any" = some none
  fc : PySem.W.findCls K (.ref C) (.type "type") "__name__" = some (.get (.builtin "getset_descriptor.__get__") (.builtin "type.__name__") (.ref C) (.type "type"))
  lk : ∃ (o : Obj) (t : Tok), K.lookup C = some o ∧ o.cls = .type "type" ∧ o.slots[2]?.join = some (.str nm t)
  no : PySem.W.findIn K (.ref C) "class_name" = some none
section
variable {X : Cx} {e : Expr} {te : TE} {p1 p2 : Pos}
/-- e.__class__.__name__ -/
def tCname (K : PySem.W.Frag) (te : TE) : TE := fun σ H Q => te σ H fun x H1 => ∃ (a C : Addr) (nm : Str), x = .ref a ∧ H1 a = some (exo a C none) ∧ NamC K C nm ∧ Q (.str nm) H1
theorem pe_cname (he : PE X e te) (hb : attributeBase e "__class__" X.env (eval e X.env) = eval e X.env := by rfl) (hb2 : attributeBase (.Attribute e "__class__" p1) "__name__" X.env (eval (.Attribute e "__class__" p1) X.env) = eval (.Attribute e "__class__" p1) X.env := by rfl) :
    PE X (.Attribute (.Attribute e "__class__" p1) "__name__" p2) (tCname X.K te) := by
  refine ⟨fun pins s σ H Q I h => ?_⟩
  refine attr_of hb2 (attr_of hb (thn (he.run pins s σ H _ I h) fun u s1 hh => ?_))
  obtain ⟨x, H1, I1, rx, a, C, nm, ex, ea, N, q⟩ := hh
  subst ex
  obtain rfl : u = Value.ref a := rx
  obtain ⟨t1, ho⟩ := exo_at I1.hok ea
  have J : PySem.W.InstAt s1.heap a { cls := .ref C, dict := none, data := .fields #[.ref t1, .none, .none, .none, .bool false, .none] } C none := ⟨ho, rfl, rfl, trivial⟩
  refine PySem.W.exc_class I1.kIn J N.xf.ga N.xf.gg N.xf.exC (PySem.W.findObj_dataE N.cl N.ha N.hn N.ht) N.hm ?_
  obtain ⟨o, t, lk, hc, hv⟩ := N.lk
  refine PySem.W.cn_attr (s := { s1 with toks := s1.toks + 1 }) (I1.tok _).kIn N.ty N.st N.fc lk hc hv rfl ?_
  exact ⟨.str nm, H1, (I1.tok _).tok _, ⟨_, rfl⟩, q⟩
end
end OF
/-! The errors of the program: two classes deep, each with an __init__ of its own that calls the one above by its class. -/
namespace OF
open PySem PySem.Spec PyProof.Rows L2

/-! ### C.m(e, ..), m a plain def read off the class -/
section
variable {X : Cx} {CX : CXT} {k : Nat} {C f : Addr} {fd : FuncData} {ps : List Str} {sp : Sp} {E : XK} {x m : Str} {p p1 p2 pos : Pos} {e : Expr} {es : List Expr} {t : TA} {mc : Value}
theorem pe_unb {pl : Sem Bool} (F : FnOk X.prog X.w X.K X.mg X.base CX k f fd ps sp) (hr : Room k X.A) (hg : Gl X x) (hm : X.mg x = some (.ref C)) (r : ClX.CRead X.K C mc) (c : ClX.CVal X.K C mc m (.ref f) (.ref f)) (hk : PySem.W.keepIn X.K (.ref f) = true)
    (hb : Binds X.K fd ps []) (hx : Passes CX X E) (ha : PA X (e :: es) t)
    (hc : eval (.Call (.Attribute (.Name x p1) m p2) (e :: es) [] pos) X.env = (do
      let ov ← eval (.Name x p1) X.env
      standAt p2.atName
      let (f, first) ← holding [ov] (getMethod ov m pl)
      callWith pos f first (backTo pos (starEach (e :: es) X.env)) (backToKw pos (keywordEach [] X.env))) := by rfl)
    (hdb : (x == ("__debug__" : Str)) = false := by decide) (he : starEach (e :: es) X.env = (false, eval e X.env) :: starEach es X.env := by rfl) (hpl : (backTo pos (starEach es X.env)).any (·.1) = false := by rfl) :
    PE X (.Call (.Attribute (.Name x p1) m p2) (e :: es) [] pos) (tCall sp [] E t) := by
  refine ⟨fun pins s σ H Q I h => ?_⟩
  refine PySem.W.methodCall_KW (ld_glob I hg hm ?_ hdb) hc
  refine PySem.W.method_cls I.kIn r.ga (ClX.getcval_ok I r c fun s' I' => ?_)
  show wpAny _ _ (callWith pos (Value.ref f) [] (backTo pos (starEach (e :: es) X.env)) []) _ _ _
  refine PySem.W.callWith_K (h₀ := X.base) I.ok.mod.kin hk (thn (ha.run pos pins s' σ H _ I' h) fun us s1 ⟨vs, H1, I1, r1, q⟩ => ⟨I1.kIn, ?_⟩) he hpl
  exact run_fn F hr hb .nil hx I1 r1 q
end

/-! ### promises of the makers -/
/-- FigureError.__init__: the name of the class is kept -/
def spFig (K : PySem.W.Frag) : Sp := fun vs H Q _ => ∃ (a C : Addr) (v : V) (nm : Str), vs = [.ref a, v] ∧ OexC K C ∧ NamC K C nm ∧ H a = some (exo a C none) ∧ ∀ d, H d = none → d ≠ a → Q .non (upd (upd H d (exd d [("class_name", .str nm)])) a (exo a C (some d)))
/-- X.__init__ of the class at C: one field, and what was kept -/
def spInit (K : PySem.W.Frag) (f : Str) (C : Addr) : Sp := fun vs H Q _ => ∃ (a : Addr) (v : V), vs = [.ref a, v] ∧ H a = some (exo a C none) ∧ ∀ (fs : List (Str × V)) (d : Addr), H d = none → d ≠ a → Q .non (upd (upd H d (exd d ((f, v) :: fs))) a (exo a C (some d)))
theorem upd_swap {H : Hp} {a d : Addr} {x y z : HO} (n : d ≠ a) : upd (upd (upd H d x) a y) d z = upd (upd H d z) a y := by
  funext b
  by_cases h : b = d
  · subst h
    rw [upd_same, upd_ne n, upd_same]
  · rw [upd_ne h]
    by_cases h2 : b = a
    · subst h2
      rw [upd_same, upd_same]
    · rw [upd_ne h2, upd_ne h2, upd_ne h, upd_ne h]
/-- what the top says of FigureError -/
structure FigC (K : PySem.W.Frag) (mg : Str → Option Value) (C f : Addr) : Prop where
  g : mg "FigureError" = some (.ref C)
  rd : ClX.CRead K C (.type "type")
  at_ : PySem.W.findCls K (.ref C) (.type "type") "__init__" = some (.val (.ref f))
  kp : PySem.W.keepIn K (.ref f) = true
theorem FigC.val {K : PySem.W.Frag} {mg : Str → Option Value} {C f : Addr} (T : FigC K mg C f) : ClX.CVal K C (.type "type") "__init__" (.ref f) (.ref f) := ⟨T.at_, rfl⟩
/-- what the top says of an error class below it, its field f, its maker at fI -/
structure ErrC (K : PySem.W.Frag) (mg : Str → Option Value) (x f : Str) (C fI : Addr) : Prop where
  g : mg x = some (.ref C)
  ox : OexC K C
  iC : PySem.W.findIn K (.ref C) "__init__" = some (some (.ref fI))
  tI : PySem.W.typeIn K (.ref fI) = some (.type "function")
  no : PySem.W.findIn K (.ref C) f = some none
  xf : XfC K C
  te : PySem.W.exmOne K (.ref C) (.ref C) = some true
  nam : ∃ nm, NamC K C nm
/-- a raised error of the class at C with its field -/
def Raised (C : Addr) (f : Str) (v : V) (H : Hp) (E : XK) : Prop := ∀ (fs : List (Str × V)) (d : Addr) (H' : Hp), H d = none → Same H H' → H' d = some (.xd ((f, v) :: fs)) → E (.ref C) (some d) H'
theorem raised_ok {C : Addr} {f : Str} {v : V} {H H1 : Hp} {E : XK} (q : Raised C f v H E) (s : Same H H1) {K : PySem.W.Frag} {σ : L2.St} {D : Ends} : 
    ([v].length ≤ 1000 ∧ ∀ a, H1 a = none → spInit K f C (.ref a :: ([v] ++ [])) (upd H1 a (exo a C none))
      (fun v' H2 => v' = .non ∧ ∃ (d : Addr) (fs : List (Str × V)), H2 a = some (exo a C (some d)) ∧ H2 d = some (exd d fs) ∧ H1 d = none ∧ E (.ref C) (some d) (upd (del H2 a) d (.xd fs))) (fun _ _ _ => False)) := by
  refine ⟨(by show 1 ≤ 1000; decide), fun a ha => ⟨a, v, rfl, upd_same, fun fs d hd nda => ⟨rfl, d, (f, v) :: fs, upd_same, ?_, ?_, ?_⟩⟩⟩
  · rw [upd_ne nda]
    exact upd_same
  · rw [upd_ne nda] at hd
    exact hd
  · rw [upd_ne nda] at hd
    refine q fs d _ (s.free hd) (fun b o h => ?_) upd_same
    have h1 := s b o h
    have hba : b ≠ a := ne_of_none h1 ha
    have hbd : b ≠ d := ne_of_none h1 hd
    rw [upd_ne hbd, del_ne hba, upd_ne hba, upd_ne hbd, upd_ne hba]
    exact h1
/-- dict comprehensions over a range -/
theorem dc_range {lo : Int} {n : Nat} {g : TG} {tt : TT} {tk tv : TE} {vs : List Nat} {σ : L2.St} {H1 : Hp} {D : Addr} {Qd : Hp → Prop} (Pv : Nat → Hp → Prop) (h0 : Pv 0 (upd H1 D (.dK [])))
    (hs : ∀ i H, i < n → Pv i H → g (.int (lo + i)) (wipe σ vs) H fun σ2 H2 => wipe σ2 vs = wipe σ vs ∧ tt σ2 H2 fun b H3 =>
      if b = true then tk σ2 H3 fun y H4 => tv σ2 H4 fun z H5 => ∃ kvs k, y = kV k ∧ H5 D = some (.dK kvs) ∧ kvs.length < sizeLine ∧ Pv (i + 1) (upd H5 D (.dK (putK kvs k z))) else Pv (i + 1) H3) (hd : ∀ H, Pv n H → Qd H) :
    ∃ W : Nat → Nat → Hp → Prop, (∃ m, W 0 m (upd H1 D (.dK []))) ∧ ∀ i m H, W i m H →
      ((Itr lo n).stop i H ∧ Qd H) ∨ ((Itr lo n).go i H ∧ ∃ Nx : Hp → Prop, (∀ H', Nx H' → ∃ m', m' < m ∧ W (i + 1) m' H') ∧ ∀ x H', (Itr lo n).yld i H x H' → g x (wipe σ vs) H' fun σ2 H2 => wipe σ2 vs = wipe σ vs ∧ tt σ2 H2 fun b H3 =>
        if b = true then tk σ2 H3 fun y H4 => tv σ2 H4 fun z H5 => ∃ kvs k, y = kV k ∧ H5 D = some (.dK kvs) ∧ kvs.length < sizeLine ∧ Nx (upd H5 D (.dK (putK kvs k z))) else Nx H3) := by
  refine ⟨fun i m H => m = n - i ∧ i ≤ n ∧ Pv i H, ⟨n, by simp, Nat.zero_le _, h0⟩, ?_⟩
  rintro i m H ⟨rfl, hi, p⟩
  by_cases hlt : i < n
  · refine .inr ⟨hlt, Pv (i + 1), fun H' p' => ⟨n - (i + 1), by omega, rfl, hlt, p'⟩, fun x H' y => ?_⟩
    obtain ⟨e, y⟩ := y
    subst e y
    exact hs i _ hlt p
  · have e : i = n := by omega
    subst e
    exact .inl ⟨Nat.le_refl _, hd H p⟩
/-- an error of a class is what an except clause of that class names -/
theorem exm_own {K : PySem.W.Frag} {S : Addr} (h1 : PySem.W.subIn K (.ref S) (.type "BaseException") = some true) (h2 : PySem.W.isClsIn K S = true) (h3 : PySem.W.typeIn K (.ref S) = some (.type "type")) (h4 : PySem.W.subIn K (.ref S) (.ref S) = some true) :
    PySem.W.exmOne K (.ref S) (.ref S) = some true := by
  have h2' : (PySem.W.clsIn K S).isSome = true := h2
  unfold PySem.W.exmOne
  simp only [h1, beq_self_eq_true, if_true]
  unfold PySem.W.kitCls
  simp only [h3, h4, h2', beq_self_eq_true, Bool.and_self, if_true]

/-! ### isinstance(e, C), e the error that the suite holds, with a dict of its own -/
/-- what the class D of the error says, so that it is asked rightly -/
structure AskC (K : PySem.W.Frag) (D : Addr) : Prop where
  cl : (PySem.W.clsIn K D).isSome = true
  xf : XfC K D
  ha : PySem.W.findIn K (.ref D) "__class__" = some (some (.builtin "object.__class__"))
  hn : PySem.W.specialIn K (.builtin "object.__class__") "__get__" = some (some (.builtin "getset_descriptor.__get__"))
  ht : PySem.W.takesIn K (.builtin "object.__class__") = some true
  hm : PySem.W.mroIn K D (.type "object") = some true
def rAsk (K : PySem.W.Frag) (D a : Addr) (cls : Value) (d : Option Addr) : List V → Hp → VK → Prop := fun xs H Q => ∃ (dd : Addr) (fs : List (Str × V)) (c : V) (cv : Value) (b : Bool), cls = .ref D ∧ d = some dd ∧ H dd = some (.xd fs) ∧ xs = [.ref a, c] ∧ (∀ u, RelV c u → u = cv) ∧ PySem.W.kitOne K (.ref D) cv = some b ∧ Q (.bl b) H
theorem call_ask {X : Cx} {a D : Addr} {oe : Obj} {cls : Value} {d : Option Addr} {pn : List (Addr × Obj)} (C : AskC X.K D) (hz : Zc cls d oe) (hf : ∃ vs, oe.data = .fields vs) : CallR (X.suite a ((a, oe) :: pn)) (.builtin "isinstance") (rAsk X.K D a cls d) := by
  intro pins s σ H xs us Q I r h
  obtain ⟨dd, fs, c, cv, b, ec, ed, ea, rfl, hcv, e, q⟩ := h
  obtain ⟨u1, u2, rfl, r1, r2⟩ := vals2 r
  cases r1
  cases hcv _ r2
  subst ec
  subst ed
  obtain ⟨hget, _⟩ := I.pin (a, oe) (List.mem_append_left _ List.mem_cons_self)
  obtain ⟨vs, hv⟩ := hf
  have hx : ObjOk X.prog X.w H s.heap dd (.xd fs) := I.hok dd _ ea
  obtain ⟨mA, hns, _⟩ := hx
  obtain ⟨od, ho, _⟩ := lookIn_ns hns
  have J : PySem.W.InstAt s.heap a oe D (some od) := ⟨hget, hz.1, by unfold PySem.W.notCls; rw [hv] <;> rfl, by rw [hz.2]; exact ho⟩
  exact PySem.W.kia_one (PySem.W.kitx_exc C.cl C.xf.ga C.xf.gg C.xf.exC C.ha C.hn C.ht C.hm) I.kIn J e (fun z => nomatch z) fun tk => ⟨.bl b, H, I.kept (t' := tk) fun _ _ z => z, rfl, q⟩

/-! ### lists of the same things -/
/-- l != l2, two lists of the very same things -/
def rNeSame (K : PySem.W.Frag) : R2 := fun x y H Q => ∃ (l l2 : Addr) (xs : List V), x = .ref l ∧ y = .ref l2 ∧ SqL K H l xs ∧ SqL K H l2 xs ∧ (∀ v ∈ xs, flatB v = true ∨ ∃ a, v = .ref a) ∧ Q (.bl false) H
theorem op_neSame {X : Cx} (hu : X.A.units + 64 < cLine) : OpR X (compareOp .NotEq) (rNeSame X.K) := by
  intro pins s σ H x y v u Q I rx ry h
  obtain ⟨l, l2, xs, rfl, rfl, h1, h2, hs, q⟩ := h
  cases rx
  cases ry
  obtain ⟨us, r1, p1, _⟩ := I.list h1
  obtain ⟨ws, r2, p2, _⟩ := I.list h2
  have n1 := r1.length
  have n2 := r2.length
  have hsz : us.toArray.size = ws.toArray.size := by
    rw [List.size_toArray, List.size_toArray]
    omega
  have key := SeqAt.RcNeAt.lists (A := X.A) (e := fun _ => true) p1.isList p2.isList hsz (by omega) (fun j h1 h2 => ?_)
  · refine key X.prog X.w _ _ ?_
    rw [show ((List.range us.toArray.size).all fun _ => true) = true from List.all_eq_true.mpr fun _ _ => rfl]
    exact ⟨.bl false, H, I, rfl, q⟩
  · have j1 : j < us.length := by simpa using h1
    have jx : j < xs.length := by omega
    obtain ⟨a, ea, ra⟩ := Vals.get r1 (List.getElem?_eq_getElem jx)
    obtain ⟨b, eb, rb⟩ := Vals.get r2 (List.getElem?_eq_getElem jx)
    have e1 : us.toArray[j] = a := by
      have := List.getElem?_eq_getElem j1
      rw [this] at ea
      simpa using Option.some.inj ea
    have e2 : ws.toArray[j] = b := by
      have j2 : j < ws.length := by omega
      have := List.getElem?_eq_getElem j2
      rw [this] at eb
      simpa using Option.some.inj eb
    rw [e1, e2]
    rcases hs _ (List.getElem_mem jx) with hf | ⟨p, hp⟩
    · exact eqAt_same ra rb hf
    · rw [hp] at ra rb
      cases ra
      cases rb
      exact SeqAt.EqAt.same _
/-- isinstance's answer by an own class that is the class itself or above it -/
theorem kit_own {K : PySem.W.Frag} {S C : Addr} (h2 : PySem.W.isClsIn K C = true) (h3 : PySem.W.typeIn K (.ref C) = some (.type "type")) (h4 : PySem.W.subIn K (.ref S) (.ref C) = some true) : PySem.W.kitOne K (.ref S) (.ref C) = some true := by
  have h2' : (PySem.W.clsIn K C).isSome = true := h2
  unfold PySem.W.kitOne
  split
  · rfl
  · unfold PySem.W.kitCls
    simp only [h3, h4, h2', beq_self_eq_true, Bool.and_self, if_true]
end OF
/-! Rows as texts: what read_row makes of a text. -/
namespace OF
open PySem PySem.Spec PyProof.Rows L2 TL
/-- the texts of the digits, with their digits -/
def digL : List (Key × V) := (List.range 19).map fun (i : Nat) => (Sum.inr (Str.ofString (toString ((-9 : Int) + (i : Int)))), V.int ((-9 : Int) + (i : Int)))
theorem digL_put : ∀ i : Nat, i < 19 → putK (digL.take i) (Sum.inr (Str.ofString (toString ((-9 : Int) + (i : Int))))) (V.int ((-9 : Int) + (i : Int))) = digL.take (i + 1) := by decide +kernel
theorem digL_all : digL.take 19 = digL := by decide +kernel
/-- the digit that a word is -/
def digV (w : Str) : Option V := valV digL (Sum.inr w)
/-- the digits that words are -/
def rowOf (ws : List Str) : Option (List V) := if ws.all (fun w => (digV w).isSome) = true then some (ws.map fun w => (digV w).getD .non) else none
/-- the row whose text it is -/
def readV (z : Str) : Option (List V) := if z = Str.ofString "." then some [] else rowOf (Txt.split z (Str.ofString " "))
/-- a value of a kind that is no text -/
inductive NoStr (H : Hp) : V → Prop
  | non : NoStr H .non
  | bl (b : Bool) : NoStr H (.bl b)
  | int (i : Int) : NoStr H (.int i)
  | lst {a : Addr} {xs : List V} (e : H a = some (.lst xs)) : NoStr H (.ref a)
  | tup {a : Addr} {xs : List V} (e : H a = some (.tup xs)) : NoStr H (.ref a)
  | dK {a : Addr} {kvs : List (Key × V)} (e : H a = some (.dK kvs)) : NoStr H (.ref a)
theorem NoStr.kit {K : PySem.W.Frag} {H : Hp} {x : V} (h : NoStr H x) : ∃ t : Value, TyX K H x t ∧ PySem.W.kitOne K t (.type "str") = some false := by
  cases h with
  | non => exact ⟨_, .base .non, kit_ty (by decide +kernel)⟩
  | bl b => exact ⟨_, .base (.bl b), kit_ty (by decide +kernel)⟩
  | int z => exact ⟨_, .base (.int z), kit_ty (by decide +kernel)⟩
  | lst e => exact ⟨_, .base (.lst e), kit_ty (by decide +kernel)⟩
  | tup e => exact ⟨_, .base (.tup e), kit_ty (by decide +kernel)⟩
  | dK e => exact ⟨_, .base (.dK e), kit_ty (by decide +kernel)⟩
theorem NoStr.same {H H' : Hp} {x : V} (h : NoStr H x) (s : Same H H') : NoStr H' x := by
  cases h with
  | non => exact .non
  | bl b => exact .bl b
  | int z => exact .int z
  | lst e => exact .lst (s _ _ e)
  | tup e => exact .tup (s _ _ e)
  | dK e => exact .dK (s _ _ e)
/-- read_row: the row, or an error with the very value -/
def spRead (C : Addr) : Sp := fun vs H Q E => ∃ x : V, vs = [x] ∧
  ((∃ z : Str, x = .str z ∧ z.length ≤ 100000 ∧ (∀ ds, readV z = some ds → ∀ p H', H p = none → Same H H' → H' p = some (.tup ds) → Q (.ref p) H') ∧ (readV z = none → Raised C "text" (.str z) H E)) ∨
    (NoStr H x ∧ Raised C "text" x H E))
theorem take_more {α : Type} : ∀ {l : List α} {i : Nat} {x : α}, l[i]? = some x → l.take (i + 1) = l.take i ++ [x]
  | [], i, x, h => by simp at h
  | a :: l, 0, x, h => by
    have e : a = x := Option.some.inj h
    subst e
    rfl
  | a :: l, i + 1, x, h => by
    have ih := take_more (l := l) (i := i) (x := x) h
    show a :: l.take (i + 1) = a :: l.take i ++ [x]
    rw [ih]
    rfl
theorem get_map {α β : Type} {f : α → β} {l : List α} {i : Nat} {y : β} (h : (l.map f)[i]? = some y) : ∃ x, l[i]? = some x ∧ y = f x := by
  rw [List.getElem?_map] at h
  cases e : l[i]? with
  | none => rw [e] at h; cases h
  | some x => rw [e] at h; exact ⟨x, rfl, (Option.some.inj h).symm⟩
theorem log_le {n : Int} (h : n.natAbs ≤ 1000) : n.natAbs.log2 < 1920 := Nat.lt_of_le_of_lt (Nat.log2_le_self _) (by omega)
theorem vals_signs : ∀ (L : List Nat) (l : List Value), l.length = L.length → (∀ (j : Nat) (v : Value), l[j]? = some v → ∃ (c : Nat) (u : Tok), L[j]? = some c ∧ v = Value.str ⟨#[c]⟩ u) → Vals (L.map fun c => V.str ⟨#[c]⟩) l
  | [], [], _, _ => .nil
  | c :: L, v :: l, hl, h => by
    obtain ⟨c', u, e1, e2⟩ := h 0 v rfl
    cases (show c = c' from Option.some.inj e1)
    exact .cons ⟨u, e2⟩ (vals_signs L l (Nat.succ.inj hl) fun j w hw => h (j + 1) w hw)
/-- list(text) -/
theorem call_list_signs {X : Cx} (hc : X.calm = true) : CallR X (.type "list") (fun xs H Q => ∃ z : Str, xs = [.str z] ∧ z.length ≤ sizeLine ∧ ∀ l, H l = none → Q (.ref l) (upd H l (.lst ((tl z).map fun c => V.str ⟨#[c]⟩)))) := by
  intro pins s σ H xs us Q I r h
  obtain ⟨z, rfl, hz, q⟩ := h
  obtain ⟨u, rfl, t, rfl⟩ := vals1 r
  refine PySem.call_list_str (I.ok.hd hc) z t (fun h' tk acc' c' hk hS' hacc => ?_) (by exact hz)
  have hl : acc'.toList.length = (tl z).length := by
    rw [Array.length_toList, hacc.1]
    rfl
  refine ⟨.ref s.heap.objs.size, _, I.laid (t' := tk) hk (Nat.le_refl _) (show ObjOk X.prog X.w _ h' _ (.lst ((tl z).map fun c => V.str ⟨#[c]⟩)) from ⟨?_, acc'.toList, c', ?_, ?_⟩), rfl, q _ (I.hok.fresh (Nat.le_refl _))⟩
  · rw [List.length_map, ← len_tl]
    exact hz
  · refine vals_signs _ _ hl fun j v hv => ?_
    obtain ⟨c, u, e1, e2⟩ := hacc.2 j v (by rw [← Array.getElem?_toList]; exact hv)
    exact ⟨c, u, by rw [Array.getElem?_toList]; exact e1, e2⟩
  · rw [Array.toArray_toList]
    exact hS'

/-! ### a word as the law reads it -/
def sgB (w : Str) : Bool := decide (V.str (cutS w none (some 1)) = V.str (Str.ofString "-"))
def sgI (w : Str) : Int := if sgB w then 1 else 0
def restS (w : Str) : Str := cutS w (some (sgI w)) none
def figs : List V := (tl (Str.ofString "0123456789")).map fun c => V.str ⟨#[c]⟩
def figVal (w : Str) : Int := Txt.find (Str.ofString "0123456789") (restS w) * (1 - 2 * sgI w)
theorem digV_is {w : Str} {v : V} (h : digV w = some v) : ∃ i : Nat, i < 19 ∧ w = Str.ofString (toString ((-9 : Int) + (i : Int))) ∧ v = V.int ((-9 : Int) + (i : Int)) := by
  unfold digV valV digL at h
  rw [List.find?_map] at h
  cases e : List.find? ((fun kv : Key × V => decide (kv.1 = Sum.inr w)) ∘ fun (i : Nat) => ((Sum.inr (Str.ofString (toString ((-9 : Int) + (i : Int)))), V.int ((-9 : Int) + (i : Int))) : Key × V)) (List.range 19) with
  | none => rw [e] at h; cases h
  | some i =>
    rw [e] at h
    have p := List.find?_some e
    have m := List.mem_of_find?_eq_some e
    refine ⟨i, List.mem_range.mp m, ?_, (Option.some.inj h).symm⟩
    exact (Sum.inr.inj (of_decide_eq_true p)).symm
theorem digs_ok : ∀ i : Nat, i < 19 → inV (.str (restS (Str.ofString (toString ((-9 : Int) + (i : Int)))))) figs = true ∧ decide (V.str (Str.ofString (toString ((-9 : Int) + (i : Int)))) = V.str (Str.ofString "-0")) = false ∧
    figVal (Str.ofString (toString ((-9 : Int) + (i : Int)))) = (-9 : Int) + (i : Int) := by decide +kernel
theorem word_some {w : Str} {v : V} (h : digV w = some v) : inV (.str (restS w)) figs = true ∧ decide (V.str w = V.str (Str.ofString "-0")) = false ∧ v = V.int (figVal w) := by
  obtain ⟨i, hi, rfl, rfl⟩ := digV_is h
  obtain ⟨h1, h2, h3⟩ := digs_ok i hi
  exact ⟨h1, h2, by rw [h3]⟩
theorem figs_words : ∀ c ∈ tl (Str.ofString "0123456789"), (digV ⟨#[c]⟩).isSome = true ∧ ((digV (⟨(45 :: [c]).toArray⟩ : Str)).isSome = true ∨ (⟨(45 :: [c]).toArray⟩ : Str) = Str.ofString "-0") := by decide +kernel
theorem cut_rest {w : Str} (h : sgB w = true) : tl w = 45 :: tl (cutS w (some 1) none) := by
  have e : cutS w none (some 1) = Str.ofString "-" := V.str.inj (of_decide_eq_true h)
  have e2 : tl (cutS w none (some 1)) = [45] := by rw [e]; decide +kernel
  have hL : ∀ lo hi, tl (cutS w lo hi) = ((tl w).drop (HT.sIx w.length 0 lo)).take (HT.sIx w.length w.length hi - HT.sIx w.length 0 lo) := fun lo hi => by
    unfold cutS
    exact List.toList_toArray ..
  rw [hL] at e2 ⊢
  rw [HT.sIx_none, show HT.sIx w.length w.length (some 1) = min 1 w.length from HT.sIx_nat w.length w.length 1] at e2
  rw [HT.sIx_none, show HT.sIx w.length 0 (some 1) = min 1 w.length from HT.sIx_nat w.length 0 1]
  have el := len_tl w
  cases hw : tl w with
  | nil => rw [hw] at e2; simp at e2
  | cons a r =>
    rw [hw] at e2 el
    have : min 1 w.length = 1 := by rw [el, List.length_cons]; omega
    rw [this] at e2 ⊢
    have ea : a = 45 := by simpa using e2
    rw [ea, el]
    simp
theorem cut_all {w : Str} (h : sgB w = false) : restS w = w := by
  unfold restS sgI
  rw [h]
  unfold cutS
  rw [show HT.sIx w.length 0 (some (if false = true then (1 : Int) else 0)) = min 0 w.length from HT.sIx_nat w.length 0 0, HT.sIx_none, Nat.zero_min, List.drop_zero, Nat.sub_zero]
  rw [List.take_of_length_le (by rw [← len_tl]; exact Nat.le_refl _)]
theorem word_none {w : Str} (h : digV w = none) : inV (.str (restS w)) figs = false ∨ decide (V.str w = V.str (Str.ofString "-0")) = true := by
  cases hi : inV (.str (restS w)) figs with
  | false => exact .inl rfl
  | true =>
    right
    unfold inV figs at hi
    obtain ⟨y, hy, e⟩ := List.any_eq_true.mp hi
    obtain ⟨c, hc, rfl⟩ := List.mem_map.mp hy
    have er : restS w = ⟨#[c]⟩ := by
      have : (⟨#[c]⟩ : Str) = restS w := by simpa [eqV] using e
      exact this.symm
    obtain ⟨h1, h2⟩ := figs_words c hc
    cases hs : sgB w with
    | false =>
      rw [cut_all hs] at er
      rw [er] at h
      rw [h] at h1
      cases h1
    | true =>
      have e1 := cut_rest hs
      have e3 : restS w = cutS w (some 1) none := by
        unfold restS sgI
        rw [hs]
        rfl
      have ew : w = (⟨(45 :: [c]).toArray⟩ : Str) := by
        rw [← mk_tl w, e1, ← e3, er]
      rcases h2 with h2 | h2
      · rw [← ew, h] at h2
        cases h2
      · exact decide_eq_true (congrArg V.str (ew.trans h2))

/-! ### texts of few and plain signs -/
def TOk (n : Nat) (z : Str) : Prop := (tl z).length ≤ n ∧ ∀ c ∈ tl z, c < 1114112
theorem TOk.mono {n m : Nat} {z : Str} (h : TOk n z) (hm : n ≤ m) : TOk m z := ⟨Nat.le_trans h.1 hm, h.2⟩
theorem TOk.len {n : Nat} {z : Str} (h : TOk n z) : z.length ≤ n := by rw [len_tl]; exact h.1
theorem TOk.ok {n : Nat} {z : Str} (h : TOk n z) : PyData.strOk z = true := by
  unfold PyData.strOk
  rw [Array.all_eq_true']
  intro c hc
  exact decide_eq_true (h.2 c (by show c ∈ z.cps.toList; exact Array.mem_toList_iff.mpr hc))
theorem tl_cut (w : Str) (lo hi : Option Int) : tl (cutS w lo hi) = ((tl w).drop (HT.sIx w.length 0 lo)).take (HT.sIx w.length w.length hi - HT.sIx w.length 0 lo) := by
  unfold cutS
  exact List.toList_toArray ..
theorem TOk.cut {n : Nat} {z : Str} (h : TOk n z) (lo hi : Option Int) : TOk n (cutS z lo hi) := by
  unfold TOk
  rw [tl_cut]
  refine ⟨?_, fun c hc => h.2 c (List.mem_of_mem_drop (List.mem_of_mem_take hc))⟩
  refine Nat.le_trans (List.length_take_le' _ _) ?_
  rw [List.length_drop]
  exact Nat.le_trans (Nat.sub_le _ _) h.1
theorem TOk.app {n m : Nat} {x y : Str} (h : TOk n x) (k : TOk m y) : TOk (n + m) (x ++ y) := by
  unfold TOk
  rw [tl_append, List.length_append]
  refine ⟨Nat.add_le_add h.1 k.1, fun c hc => ?_⟩
  rcases List.mem_append.mp hc with hc | hc
  · exact h.2 c hc
  · exact k.2 c hc
theorem in_join {S : List Nat} : ∀ {ps : List (List Nat)} {p : List Nat}, p ∈ ps → p.length ≤ (joinL S ps).length ∧ ∀ c ∈ p, c ∈ joinL S ps
  | [q], p, h => by
    cases List.mem_singleton.mp h
    exact ⟨Nat.le_refl _, fun c hc => hc⟩
  | q :: r :: ps, p, h => by
    have e : joinL S (q :: r :: ps) = q ++ (S ++ joinL S (r :: ps)) := rfl
    rw [e]
    rcases List.mem_cons.mp h with h | h
    · rw [h]
      refine ⟨?_, fun c hc => List.mem_append_left _ hc⟩
      rw [List.length_append]
      omega
    · obtain ⟨h1, h2⟩ := in_join (S := S) h
      refine ⟨?_, fun c hc => List.mem_append_right _ (List.mem_append_right _ (h2 c hc))⟩
      rw [List.length_append, List.length_append]
      omega
theorem join_in {S : List Nat} {P : Nat → Prop} (hS : ∀ c ∈ S, P c) : ∀ {ps : List (List Nat)} {n : Nat}, (∀ p ∈ ps, p.length ≤ n ∧ ∀ c ∈ p, P c) → (joinL S ps).length ≤ ps.length * (n + S.length) ∧ ∀ c ∈ joinL S ps, P c
  | [], n, _ => ⟨Nat.zero_le _, fun c hc => by cases hc⟩
  | [q], n, h => by
    obtain ⟨h1, h2⟩ := h q (List.mem_singleton.mpr rfl)
    refine ⟨?_, h2⟩
    show q.length ≤ 1 * (n + S.length)
    omega
  | q :: r :: ps, n, h => by
    obtain ⟨h1, h2⟩ := h q (List.mem_cons_self ..)
    obtain ⟨h3, h4⟩ := join_in hS (ps := r :: ps) (n := n) fun p hp => h p (List.mem_cons_of_mem _ hp)
    have e : joinL S (q :: r :: ps) = q ++ (S ++ joinL S (r :: ps)) := rfl
    rw [e]
    refine ⟨?_, fun c hc => ?_⟩
    · rw [List.length_append, List.length_append, List.length_cons, Nat.succ_mul]
      omega
    · rcases List.mem_append.mp hc with hc | hc
      · exact h2 c hc
      · rcases List.mem_append.mp hc with hc | hc
        · exact hS c hc
        · exact h4 c hc
theorem TOk.parts {n : Nat} {z y : Str} (h : TOk n z) : ∀ w ∈ Txt.split z y, TOk n w := fun w hw => by
  have e := StrLaws.join_split z y
  have e2 := tl_join y (Txt.split z y)
  rw [e] at e2
  obtain ⟨h1, h2⟩ := in_join (S := tl y) (ps := (Txt.split z y).map tl) (List.mem_map.mpr ⟨w, hw, rfl⟩)
  rw [← e2] at h1 h2
  exact ⟨Nat.le_trans h1 h.1, fun c hc => h.2 c (h2 c hc)⟩
theorem TOk.join {n m : Nat} {y : Str} {ps : List Str} (hy : TOk m y) (h : ∀ p ∈ ps, TOk n p) : TOk (ps.length * (n + m)) (Txt.join y ps) := by
  rw [TL.join_eq]
  unfold TOk
  rw [tl_join]
  obtain ⟨h1, h2⟩ := join_in (S := tl y) (P := fun c => c < 1114112) hy.2 (ps := ps.map tl) (n := n) fun p hp => by
    obtain ⟨w, hw, rfl⟩ := List.mem_map.mp hp
    exact h w hw
  refine ⟨Nat.le_trans h1 ?_, h2⟩
  rw [List.length_map]
  exact Nat.mul_le_mul_left _ (Nat.add_le_add_left hy.1 _)
theorem sum_len {n : Nat} : ∀ {ps : List Str}, (∀ p ∈ ps, TOk n p) → (ps.map (·.length)).sum ≤ ps.length * n
  | [], _ => Nat.zero_le _
  | p :: ps, h => by
    have h1 := (h p (List.mem_cons_self ..)).len
    have h2 := sum_len (ps := ps) fun q hq => h q (List.mem_cons_of_mem _ hq)
    rw [List.map_cons, List.sum_cons, List.length_cons, Nat.succ_mul]
    omega
theorem join_pos {y : Str} {ps : List Str} {p : Str} (hp : p ∈ ps) (h : 1 ≤ p.length) : 1 ≤ (Txt.join y ps).length := by
  rw [TL.join_eq, len_tl, tl_join]
  have h1 := (in_join (S := tl y) (ps := ps.map tl) (List.mem_map.mpr ⟨p, hp, rfl⟩)).1
  rw [← len_tl] at h1
  omega
instance (n : Nat) (z : Str) : Decidable (TOk n z) := inferInstanceAs (Decidable (_ ∧ _))
theorem digit_texts : ∀ i : Nat, i < 19 → TOk 2 (Str.ofString (toString ((-9 : Int) + (i : Int)))) ∧ 1 ≤ (Str.ofString (toString ((-9 : Int) + (i : Int)))).length := by decide +kernel
/-- text data that may be compared -/
theorem shaped_str {z : Str} (h : PyData.strOk z = true) : SeqAt.shaped (.str z) = true := by
  unfold SeqAt.shaped
  rw [show PyData.canLay0 (.str z) = PyData.strOk z by simp only [PyData.canLay0], h]
  rfl

/-! ### data that may be compared -/
theorem dp_ints {K : PySem.W.Frag} {H : Hp} : ∀ is : List Int, DpAll K H (is.map V.int) (is.map PyData.int)
  | [] => .nil
  | i :: is => .cons (.int i) (dp_ints is)
theorem can_ints : ∀ is : List Int, PyData.canLayAll0 (is.map PyData.int) = true
  | [] => by simp only [List.map_nil, PyData.canLayAll0]
  | i :: is => by
    rw [List.map_cons, PyData.canLayAll0, can_ints is]
    simp only [PyData.canLay0, Bool.and_true]
theorem dep_ints : ∀ is : List Int, PyData.depthAll (is.map PyData.int) = 0
  | [] => by simp only [List.map_nil, PyData.depthAll]
  | i :: is => by
    rw [List.map_cons, PyData.depthAll, dep_ints is]
    simp only [PyData.depth, Nat.max_self]
theorem shaped_of {d : PyData} (h : d.canLay0 = true) (k : d.depth ≤ 64) : SeqAt.shaped d = true := by
  unfold SeqAt.shaped
  rw [h, decide_eq_true k]
  rfl
theorem can_pair {z : Str} {d : PyData} (hz : PyData.strOk z = true) (hd : d.canLay0 = true) : (PyData.list [.str z, d]).canLay0 = true := by
  simp only [PyData.canLay0, PyData.canLayAll0, hz, hd, Bool.and_true]
theorem dep_pair {z : Str} {d : PyData} {n : Nat} (hd : d.depth ≤ n) : (PyData.list [.str z, d]).depth ≤ n + 1 := by
  simp only [PyData.depth, PyData.depthAll]
  omega
/-- the item's own data: what stands at it reads so, whatever is made later -/
structure DatOf (K : PySem.W.Frag) (H : Hp) (x : V) (d : PyData) : Prop where
  dp : ∀ H', Same H H' → Dp K H' x d
  can : d.canLay0 = true
  dep : d.depth ≤ 10
theorem DatOf.same {K : PySem.W.Frag} {H H1 : Hp} {x : V} {d : PyData} (h : DatOf K H x d) (s : Same H H1) : DatOf K H1 x d := ⟨fun H' s' => h.dp H' (s.trans s'), h.can, h.dep⟩
theorem DatOf.str {K : PySem.W.Frag} {H : Hp} {z : Str} (hz : PyData.strOk z = true) : DatOf K H (.str z) (.str z) := ⟨fun _ _ => .str z, by simp only [PyData.canLay0, hz], by simp only [PyData.depth]; omega⟩
theorem DatOf.non {K : PySem.W.Frag} {H : Hp} : DatOf K H .non .none := ⟨fun _ _ => .non, by simp only [PyData.canLay0], by simp only [PyData.depth]; omega⟩
theorem DatOf.bl {K : PySem.W.Frag} {H : Hp} {b : Bool} : DatOf K H (.bl b) (.bool b) := ⟨fun _ _ => .bl b, by simp only [PyData.canLay0], by simp only [PyData.depth]; omega⟩
theorem DatOf.int {K : PySem.W.Frag} {H : Hp} {i : Int} : DatOf K H (.int i) (.int i) := ⟨fun _ _ => .int i, by simp only [PyData.canLay0], by simp only [PyData.depth]; omega⟩
theorem DatOf.tup {K : PySem.W.Frag} {H : Hp} {p : Addr} {is : List Int} (e : H p = some (.tup (is.map V.int))) : DatOf K H (.ref p) (.tuple (is.map PyData.int)) :=
  ⟨fun _ s => .tup (SqT.of (s _ _ e)) (dp_ints is), by simp only [PyData.canLay0, can_ints], by simp only [PyData.depth, dep_ints]; omega⟩
theorem DatOf.lst1 {K : PySem.W.Frag} {H : Hp} {p : Addr} {z : Str} (hz : PyData.strOk z = true) (e : H p = some (.lst [.str z])) : DatOf K H (.ref p) (.list [.str z]) :=
  ⟨fun _ s => .lst (SqL.of (s _ _ e)) (.cons (.str z) .nil), by simp only [PyData.canLay0, PyData.canLayAll0, hz, Bool.and_true], by simp only [PyData.depth, PyData.depthAll]; omega⟩
/-- two lists of a word and the same thing: equal -/
theorem pair_eqv {z : Str} {d : PyData} (hz : PyData.strOk z = true) (hd : d.canLay0 = true) : PyData.eqv (.list [.str z, d]) (.list [.str z, d]) = true := SeqAt.eqv_refl _ (can_pair hz hd)
theorem pair_ne {K : PySem.W.Frag} {H : Hp} {l l2 : Addr} {z : Str} {x y : V} {d : PyData} {Q : V → Hp → Prop} (hz : PyData.strOk z = true) (e1 : H l = some (.lst [.str z, x])) (e2 : H l2 = some (.lst [.str z, y])) (h1 : Dp K H x d) (h2 : Dp K H y d) (hc : d.canLay0 = true) (hd : d.depth ≤ 10)
    (q : Q (.bl false) H) : rNeD K (.ref l) (.ref l2) H Q := by
  have sh := shaped_of (can_pair hz hc) (Nat.le_trans (dep_pair hd) (by decide))
  refine ⟨_, _, Dp.lst (SqL.of e1) (.cons (.str z) (.cons h1 .nil)), Dp.lst (SqL.of e2) (.cons (.str z) (.cons h2 .nil)), sh, sh, ?_⟩
  rw [pair_eqv hz hc]
  exact q
theorem pair_eq {K : PySem.W.Frag} {H : Hp} {l l2 : Addr} {z : Str} {x y : V} {d : PyData} {Q : V → Hp → Prop} (hz : PyData.strOk z = true) (e1 : H l = some (.lst [.str z, x])) (e2 : H l2 = some (.lst [.str z, y])) (h1 : Dp K H x d) (h2 : Dp K H y d) (hc : d.canLay0 = true) (hd : d.depth ≤ 10)
    (q : Q (.bl true) H) : rEqD K (.ref l) (.ref l2) H Q := by
  have sh := shaped_of (can_pair hz hc) (Nat.le_trans (dep_pair hd) (by decide))
  refine ⟨_, _, Dp.lst (SqL.of e1) (.cons (.str z) (.cons h1 .nil)), Dp.lst (SqL.of e2) (.cons (.str z) (.cons h2 .nil)), sh, sh, ?_⟩
  rw [pair_eqv hz hc]
  exact q
/-- the digits of a text are ints -/
theorem readV_ints {z : Str} {ds : List V} (h : readV z = some ds) : ∃ is : List Int, ds = is.map V.int := by
  unfold readV at h
  split at h
  · cases Option.some.inj h
    exact ⟨[], rfl⟩
  · unfold rowOf at h
    split at h
    · rename_i hall
      have e := Option.some.inj h
      refine ⟨(Txt.split z (Str.ofString " ")).map fun w => match digV w with | some (.int i) => i | _ => 0, ?_⟩
      rw [← e, List.map_map]
      refine List.map_congr_left fun w hw => ?_
      have hs := List.all_eq_true.mp hall w hw
      obtain ⟨v, hv⟩ := Option.isSome_iff_exists.mp hs
      obtain ⟨i, _, _, rfl⟩ := digV_is hv
      simp only [Function.comp, hv, Option.getD_some]
    · cases h
theorem read_empty : readV (Str.ofString "") = none := by decide +kernel
theorem read_dot : readV (Str.ofString ".") = some [] := by decide +kernel
/-- two ways, heaps behind them of their own, one rest -/
theorem iteDupH {c : Bool} {A B : Prop} {G : Hp} {S : Hp → Prop} (f : (∀ H', Same G H' → S H') → c = true → A) (g : (∀ H', Same G H' → S H') → c = false → B) (r : ∀ H', Same G H' → S H') : if c = true then A else B := by
  cases c with
  | true => exact iteT (f r rfl)
  | false => exact iteF (g r rfl)

/-! ### rows as texts -/
/-- a value of a kind that is no tuple -/
inductive NoTup (H : Hp) : V → Prop
  | non : NoTup H .non
  | bl (b : Bool) : NoTup H (.bl b)
  | int (i : Int) : NoTup H (.int i)
  | str (z : Str) : NoTup H (.str z)
  | lst {a : Addr} {xs : List V} (e : H a = some (.lst xs)) : NoTup H (.ref a)
  | dK {a : Addr} {kvs : List (Key × V)} (e : H a = some (.dK kvs)) : NoTup H (.ref a)
theorem NoTup.kit {K : PySem.W.Frag} {H : Hp} {x : V} (h : NoTup H x) : ∃ t : Value, TyX K H x t ∧ PySem.W.kitOne K t (.type "tuple") = some false := by
  cases h with
  | non => exact ⟨_, .base .non, kit_ty (by decide +kernel)⟩
  | bl b => exact ⟨_, .base (.bl b), kit_ty (by decide +kernel)⟩
  | int z => exact ⟨_, .base (.int z), kit_ty (by decide +kernel)⟩
  | str z => exact ⟨_, .base (.str z), kit_ty (by decide +kernel)⟩
  | lst e => exact ⟨_, .base (.lst e), kit_ty (by decide +kernel)⟩
  | dK e => exact ⟨_, .base (.dK e), kit_ty (by decide +kernel)⟩
theorem NoTup.same {H H' : Hp} {x : V} (h : NoTup H x) (s : Same H H') : NoTup H' x := by
  cases h with
  | non => exact .non
  | bl b => exact .bl b
  | int z => exact .int z
  | str z => exact .str z
  | lst e => exact .lst (s _ _ e)
  | dK e => exact .dK (s _ _ e)
/-- an int, or a value of another kind -/
def IntOdd (H : Hp) (x : V) : Prop := (∃ n : Int, x = .int n) ∨ Odd H x
theorem IntOdd.same {H H' : Hp} {x : V} (h : IntOdd H x) (s : Same H H') : IntOdd H' x := by
  rcases h with h | h
  · exact .inl h
  · exact .inr (h.same s)
def digI (n : Int) : Bool := decide (-9 ≤ n) && decide (n ≤ 9)
/-- a digit -/
def digB : V → Bool
  | .int n => digI n
  | _ => false
theorem digB_odd {H : Hp} {x : V} (h : Odd H x) : digB x = false := by cases h <;> rfl
theorem digs_ints : ∀ {xs : List V}, xs.all digB = true → ∃ is : List Int, xs = is.map V.int ∧ ∀ i ∈ is, -9 ≤ i ∧ i ≤ 9
  | [], _ => ⟨[], rfl, fun i h => by cases h⟩
  | x :: xs, h => by
    rw [List.all_cons, Bool.and_eq_true] at h
    obtain ⟨is, e, k⟩ := digs_ints h.2
    cases x with
    | int n =>
      have h1 : digI n = true := h.1
      unfold digI at h1
      rw [Bool.and_eq_true, decide_eq_true_eq, decide_eq_true_eq] at h1
      refine ⟨n :: is, by rw [e]; rfl, fun i hi => ?_⟩
      rcases List.mem_cons.mp hi with hi | hi
      · rw [hi]; exact h1
      · exact k i hi
    | non => exact absurd h.1 Bool.false_ne_true
    | bl b => exact absurd h.1 Bool.false_ne_true
    | str z => exact absurd h.1 Bool.false_ne_true
    | byt z => exact absurd h.1 Bool.false_ne_true
    | flt z => exact absurd h.1 Bool.false_ne_true
    | ref a => exact absurd h.1 Bool.false_ne_true
    | ty n => exact absurd h.1 Bool.false_ne_true
theorem ints_digs {is : List Int} (h : ∀ i ∈ is, -9 ≤ i ∧ i ≤ 9) : (is.map V.int).all digB = true := by
  rw [List.all_map]
  refine List.all_eq_true.mpr fun i hi => ?_
  obtain ⟨h1, h2⟩ := h i hi
  show digI i = true
  unfold digI
  rw [decide_eq_true h1, decide_eq_true h2]
  rfl
/-- the text of a digit -/
def strI (i : Int) : Str := Str.ofString (toString i)
theorem strI_ok {i : Int} (h : -9 ≤ i ∧ i ≤ 9) : TOk 2 (strI i) ∧ 1 ≤ (strI i).length := by
  obtain ⟨h1, h2⟩ := h
  have e : i = (-9 : Int) + (((i + 9).toNat : Nat) : Int) := by omega
  have := digit_texts (i + 9).toNat (by omega)
  rw [← e] at this
  exact this
theorem digV_all : ∀ k : Nat, k < 19 → digV (Str.ofString (toString ((-9 : Int) + (k : Int)))) = some (V.int ((-9 : Int) + (k : Int))) ∧ (32 : Nat) ∉ tl (Str.ofString (toString ((-9 : Int) + (k : Int)))) ∧ Str.ofString (toString ((-9 : Int) + (k : Int))) ≠ Str.ofString "." ∧ (46 : Nat) ∉ tl (Str.ofString (toString ((-9 : Int) + (k : Int)))) := by decide +kernel
theorem digV_of {i : Int} (h : -9 ≤ i ∧ i ≤ 9) : digV (strI i) = some (V.int i) ∧ (32 : Nat) ∉ tl (strI i) ∧ (46 : Nat) ∉ tl (strI i) := by
  obtain ⟨h1, h2⟩ := h
  have e : i = (-9 : Int) + (((i + 9).toNat : Nat) : Int) := by omega
  obtain ⟨k1, k2, _, k4⟩ := digV_all (i + 9).toNat (by omega)
  rw [← e] at k1 k2 k4
  exact ⟨k1, k2, k4⟩
/-- the text of a row -/
def textOf (is : List Int) : Str := if is = [] then Str.ofString "." else Txt.join (Str.ofString " ") (is.map strI)
theorem textOf_ok {is : List Int} (h : ∀ i ∈ is, -9 ≤ i ∧ i ≤ 9) (hl : is.length ≤ 200) : TOk 600 (textOf is) := by
  unfold textOf
  split
  · decide +kernel
  · refine (TOk.join blankOk (n := 2) fun p hp => ?_).mono ?_
    · obtain ⟨i, hi, rfl⟩ := List.mem_map.mp hp
      exact (strI_ok (h i hi)).1
    · rw [List.length_map]
      omega
where blankOk : TOk 1 (Str.ofString " ") := by decide +kernel
theorem not_dot {is : List Int} (h : ∀ i ∈ is, -9 ≤ i ∧ i ≤ 9) (hn : is ≠ []) : Txt.join (Str.ofString " ") (is.map strI) ≠ Str.ofString "." := fun e => by
  cases is with
  | nil => exact hn rfl
  | cons i r =>
    have hp : strI i ∈ (i :: r).map strI := List.mem_map.mpr ⟨i, List.mem_cons_self .., rfl⟩
    have hi := h i (List.mem_cons_self ..)
    have h2 := (in_join (S := tl (Str.ofString " ")) (ps := ((i :: r).map strI).map tl) (List.mem_map.mpr ⟨_, hp, rfl⟩)).2
    have e2 := congrArg tl e
    rw [TL.join_eq, tl_join] at e2
    rw [e2] at h2
    have hpos := (strI_ok hi).2
    rw [len_tl] at hpos
    cases hs : tl (strI i) with
    | nil => rw [hs] at hpos; exact absurd hpos (by decide)
    | cons c cs =>
      have hc := h2 c (by rw [hs]; exact List.mem_cons_self ..)
      have : c = 46 := by
        have e3 : tl (Str.ofString ".") = [46] := by decide +kernel
        rw [e3] at hc
        exact List.mem_singleton.mp hc
      exact (digV_of hi).2.2 (by rw [hs, this]; exact List.mem_cons_self ..)
/-- a row's text is read as the row -/
theorem read_text {is : List Int} (h : ∀ i ∈ is, -9 ≤ i ∧ i ≤ 9) : readV (textOf is) = some (is.map V.int) := by
  unfold textOf
  by_cases hn : is = []
  · rw [if_pos hn, hn]
    exact read_dot
  · rw [if_neg hn]
    unfold readV
    rw [if_neg (not_dot h hn)]
    have e : Txt.split (Txt.join (Str.ofString " ") (is.map strI)) (Str.ofString " ") = is.map strI := by
      refine TL.split_join (s := 32) (S := []) (by decide +kernel) (by decide +kernel) (fun z => hn (List.map_eq_nil_iff.mp z)) fun p hp => ?_
      obtain ⟨i, hi, rfl⟩ := List.mem_map.mp hp
      exact (digV_of (h i hi)).2.1
    rw [e]
    unfold rowOf
    rw [if_pos]
    · rw [List.map_map]
      congr 1
      refine List.map_congr_left fun i hi => ?_
      show (digV (strI i)).getD .non = V.int i
      rw [(digV_of (h i hi)).1]
      rfl
    · rw [List.all_map]
      refine List.all_eq_true.mpr fun i hi => ?_
      show (digV (strI i)).isSome = true
      rw [(digV_of (h i hi)).1]
      rfl
end OF
namespace K02
open PySem PySem.Spec PyProof.Rows L2 OF
def topS (i : Nat) : Stmt := PySem.Challenge.pw_oddfigures_k02_rows_as_text.main.body.getD i (.Pass ⟨0, 0, 0, 0⟩)
abbrev sFig : Stmt := inClass (topS 1) 0
abbrev sInR : Stmt := inClass (topS 2) 0
abbrev sInT : Stmt := inClass (topS 3) 0
abbrev sWhole : Stmt := topS 7
abbrev sIsInt : Stmt := topS 8
abbrev sIsDigit : Stmt := topS 9
abbrev sAre : Stmt := topS 10
abbrev sRowText : Stmt := topS 11
abbrev sRead : Stmt := topS 12
abbrev sCell : Stmt := topS 14
abbrev sBox : Stmt := topS 15
abbrev sTake : Stmt := topS 16
abbrev sText : Stmt := topS 17
abbrev sRef : Stmt := topS 18
abbrev sRight : Stmt := topS 19
abbrev sLaw : Stmt := topS 20


section
variable {P : Program} {w : World} {K : PySem.W.Frag} {mg : Str → Option Value} {base : Heap}
theorem scC : FnScope ["_law_script", "_law_k"] ["_law_script", "_law_k"] (defScope sCell) := ⟨rfl, rfl, rfl, by decide +kernel, rfl, by decide +kernel, by decide +kernel⟩
theorem ok_cell {f : Addr} {fd : FuncData} (F : Fun K "_law_cell" "_law_cell" sCell f fd) (ml : mg "len" = none) : FnOk P w K mg base CX0 2 f fd ["_law_script", "_law_k"] (OF.spCell K) := by
  refine F.ok scC (fun vs H Q E h => ?_) (fun cdv A outer s H vs Q E hr h => ?_)
  · obtain ⟨a, ns, k, rfl, _⟩ := h
    rfl
  · obtain ⟨a, ns, k, rfl, hS, hk, q⟩ := h
    refine ⟨_, pss_cons (ps_if (pt_cmpR op_lt (pv 1) (pe_callB call_len_seq (by rfl) ml PySem.boot_len (pa_cons (pv 0) pa_nil)) (nomark _))
        (pss_one (ps_ret (pe_ix ix_list (pv 0) (pv 1) (fun _ _ => rfl)))) pss_nil)
      (pss_one (ps_ret (pe_op op_add (pe_op op_mul pe_int (pv 1)) pe_int))), ?_⟩
    refine ⟨.int k, rfl, .ref a, rfl, a, ns.map V.int, rfl, .inl hS, k, _, rfl, rfl, _, rfl, ite2 (fun c => ?_) (fun c => ?_)⟩
    · have c1 : k < ns.length := by
        have c2 := of_decide_eq_true c
        rw [List.length_map] at c2
        omega
      have g : (ns.map V.int)[k]? = some (.int ns[k]) := by
        rw [List.getElem?_map, List.getElem?_eq_getElem c1]
        rfl
      exact ⟨.ref a, rfl, .int k, rfl, a, _, k, .int ns[k], rfl, rfl, hS, atI_nat g, q _⟩
    · exact ⟨.int k, rfl, _, _, rfl, rfl, .inl ⟨by decide, by decide⟩, _, _, rfl, rfl, q _⟩
theorem scB : FnScope ["_law_cell_here"] ["_law_cell_here"] (defScope sBox) := ⟨rfl, rfl, rfl, by decide +kernel, rfl, by decide +kernel, by decide +kernel⟩
theorem ok_box {f : Addr} {fd : FuncData} (F : Fun K "_law_box" "_law_box" sBox f fd) (mi : mg "int" = none) (mm : mg "max" = none) : FnOk P w K mg base CX0 2 f fd ["_law_cell_here"] spBox := by
  refine F.ok scB (fun vs H Q E h => ?_) (fun cdv A outer s H vs Q E hr h => ?_)
  · obtain ⟨c, rfl, _⟩ := h
    rfl
  · obtain ⟨c, rfl, q⟩ := h
    refine ⟨_, pss_one (ps_ret (pe_lst (pa_cons (pe_callB (call_max2 rfl) (by rfl) mm PyProof.Rows.boot_max (pa_cons pe_int (pa_cons (pe_op op_sub (pv 0) (pe_op op_pow pe_int pe_int)) pa_nil)))
      (pa_cons (pe_op op_modR (pe_callTy call_int1 (by rfl) mi PyProof.Rows.boot_int (pa_cons (pv 0) pa_nil)) pe_int) (pa_cons pe_int pa_nil))))), ?_⟩
    refine ⟨.int c, rfl, _, _, rfl, rfl, ⟨by decide, by decide, by decide⟩, _, _, rfl, rfl, _, _, rfl, .int c, rfl, .inl ⟨_, rfl, _, _, rfl, rfl, by decide, fun r r0 r1 => ?_⟩⟩
    refine ⟨by show 3 ≤ sizeLine; decide, fun p hp => ?_⟩
    refine q p _ hp (same_new hp) ⟨_, r, 0, upd_same, ?_, r0, by omega, by decide, by decide⟩
    split <;> omega
theorem scT : FnScope ["_law_box_here", "_law_many", "_law_digit", "_law_number"] ["_law_box_here", "_law_many"] (defScope sTake) := ⟨rfl, rfl, rfl, by decide +kernel, rfl, by decide +kernel, by decide +kernel⟩
theorem ok_take {f : Addr} {fd : FuncData} (F : Fun K "_law_take" "_law_take" sTake f fd) (mi : mg "int" = none) : FnOk P w K mg base CX0 2 f fd ["_law_box_here", "_law_many"] spTake := by
  refine F.ok scT (fun vs H Q E h => ?_) (fun cdv A outer s H vs Q E hr h => ?_)
  · obtain ⟨a, m, n, rfl, _⟩ := h
    rfl
  · obtain ⟨a, m, n, rfl, ⟨b0, b1, b2, hH, p0, p1, q1, p2, q2⟩, hn, hm, hmb, q⟩ := h
    refine ⟨_, pss_cons (ps_if (pt_cmpR op_gt (pe_ix ix_list (pv 0) pe_int (fun _ _ => rfl)) pe_int (nomark _))
        (pss_cons (ps_set (i := 2) scT.nd rfl (.inl rfl) (pe_op op_modR (pe_callTy call_int1 (by rfl) mi PyProof.Rows.boot_int (pa_cons (pe_ix ix_list (pv 0) pe_int (fun _ _ => rfl)) pa_nil)) (pv 1)))
        (pss_cons (ps_asg (pe_op op_fdivW (pe_ix ix_list (pv 0) pe_int (fun _ _ => rfl)) (pv 1)) (pg_sub (pv 0) pe_int set_list))
        (pss_one (ps_ret (pv 2))))) pss_nil)
      (pss_cons (ps_asg (pe_op op_add (pe_ix ix_list (pv 0) pe_int (fun _ _ => rfl)) pe_int) (pg_sub (pv 0) pe_int set_list))
      (pss_cons (ps_set (i := 3) scT.nd rfl (.inl rfl) (pe_op op_modR (pe_op op_pow (pe_callTy call_int1 (by rfl) mi PyProof.Rows.boot_int
          (pa_cons (pe_op op_add (pe_op op_add (pe_ix ix_list (pv 0) pe_int (fun _ _ => rfl)) (pe_op op_mul pe_int (pe_ix ix_list (pv 0) pe_int (fun _ _ => rfl)))) pe_int) pa_nil)) pe_int) pe_int))
      (pss_cons (ps_set (i := 3) scT.nd rfl (.inl rfl) (pe_op op_modR (pe_op op_pow (pe_callTy call_int1 (by rfl) mi PyProof.Rows.boot_int
          (pa_cons (pe_op op_add (pv 3) (pe_op op_mul pe_int (pe_ix ix_list (pv 0) pe_int (fun _ _ => rfl)))) pa_nil)) pe_int) pe_int))
      (pss_one (ps_ret (pe_op op_modR (pe_callTy call_int1 (by rfl) mi PyProof.Rows.boot_int (pa_cons (pe_op op_fdiv (pv 3) pe_int) pa_nil)) (pv 1))))))), ?_⟩
    refine ⟨.ref a, rfl, a, _, 0, .int b0, rfl, rfl, SqL.of hH, atI_nat (j := 0) rfl, b0, 0, rfl, rfl, _, rfl, ite2 (fun c => ?_) (fun c => ?_)⟩
    · refine ⟨.ref a, rfl, a, _, 0, .int b0, rfl, rfl, SqL.of hH, atI_nat (j := 0) rfl, .inl ⟨b0, rfl, .int m, rfl, b0, m, rfl, rfl, hm, fun r r0 r1 => ?_⟩⟩
      refine ⟨.ref a, rfl, a, _, 0, .int b0, rfl, rfl, SqL.of hH, atI_nat (j := 0) rfl, .int m, rfl, b0, m, rfl, rfl, wide_div hm hmb (by decide) (by decide), ?_⟩
      refine ⟨.ref a, rfl, a, _, 0, 0, rfl, rfl, hH, rfl, ?_⟩
      refine ⟨.int r, rfl, q r _ r0 r1 But.at_ ⟨b0 / m, b1, b2, upd_same, Int.ediv_nonneg p0 (by omega), p1, q1, p2, by omega⟩⟩
    · refine ⟨.ref a, rfl, a, _, 2, .int b2, rfl, rfl, SqL.of hH, atI_nat (j := 2) rfl, b2, 1, rfl, rfl, .ref a, rfl, a, _, 2, 2, rfl, rfl, hH, rfl, ?_⟩
      have hH1 : (upd H a (.lst [.int b0, .int b1, .int (b2 + 1)])) a = some (.lst [.int b0, .int b1, .int (b2 + 1)]) := upd_same
      refine ⟨.ref a, rfl, a, _, 1, .int b1, rfl, rfl, SqL.of hH1, atI_nat (j := 1) rfl, .ref a, rfl, a, _, 2, .int (b2 + 1), rfl, rfl, SqL.of hH1, atI_nat (j := 2) rfl,
        _, _, rfl, rfl, .inl ⟨by decide, by decide⟩, _, _, rfl, rfl, _, _, rfl, rfl, .inl ⟨_, rfl, _, _, rfl, rfl, ⟨by decide, by decide, by omega⟩, _, _, rfl, rfl, by decide, fun r r0 r1 => ?_⟩⟩
      refine ⟨.int r, rfl, .ref a, rfl, a, _, 2, .int (b2 + 1), rfl, rfl, SqL.of hH1, atI_nat (j := 2) rfl,
        _, _, rfl, rfl, .inl ⟨by decide, by decide⟩, _, _, rfl, rfl, .inl ⟨_, rfl, _, _, rfl, rfl, ⟨by decide, by decide, by omega⟩, _, _, rfl, rfl, by decide, fun r' r0' r1' => ?_⟩⟩
      refine ⟨.int r', rfl, _, _, rfl, rfl, ⟨by decide, by decide⟩, .inl ⟨_, rfl, .int m, rfl, _, _, rfl, rfl, hm, fun r2 h0 h1 => ?_⟩⟩
      exact q r2 _ h0 h1 But.at_ ⟨b0, b1, b2 + 1, upd_same, p0, p1, q1, by omega, by omega⟩

/-- is_integer -/
def spIsInt : Sp := fun vs H Q _ => ∃ (x : V) (lo hi : Int), vs = [x, .int lo, .int hi] ∧ ((∃ n : Int, x = .int n ∧ Q (.bl (decide (lo ≤ n) && decide (n ≤ hi))) H) ∨ (Odd H x ∧ Q (.bl false) H))
def spIsDigit : Sp := fun vs H Q _ => ∃ (x : V), vs = [x] ∧ ((∃ n : Int, x = .int n ∧ Q (.bl (decide (-9 ≤ n) && decide (n ≤ 9))) H) ∨ (Odd H x ∧ Q (.bl false) H))
theorem scI : FnScope ["value", "low", "high"] ["value", "low", "high"] (defScope sIsInt) := ⟨rfl, rfl, rfl, by decide +kernel, rfl, by decide +kernel, by decide +kernel⟩

/-- is_whole -/
def spWhole : Sp := fun vs H Q _ => ∃ x : V, vs = [x] ∧ ((∃ n : Int, x = .int n ∧ Q (.bl true) H) ∨ (Odd H x ∧ Q (.bl false) H))
theorem scWh : FnScope ["value"] ["value"] (defScope sWhole) := ⟨rfl, rfl, rfl, by decide +kernel, rfl, by decide +kernel, by decide +kernel⟩
theorem ok_whole {f : Addr} {fd : FuncData} (F : Fun K "is_whole" "is_whole" sWhole f fd) (ms : mg "isinstance" = none) (mi : mg "int" = none) (mb : mg "bool" = none) : FnOk P w K mg base CX0 1 f fd ["value"] spWhole := by
  refine F.ok scWh (fun vs H Q E h => ?_) (fun cdv A outer s H vs Q E hr h => ?_)
  · obtain ⟨x, rfl, _⟩ := h
    rfl
  · obtain ⟨x, rfl, h⟩ := h
    refine ⟨_, pss_one (ps_ret (pe_and (pe_callB call_isi (by rfl) ms PyProof.Rows.boot_isinstance (pa_cons (pv 0) (pa_cons (pe_bltn (v := .ty "int") (by rfl) mi PyProof.Rows.boot_int rfl) pa_nil)))
      (pe_one (pe_not (pe_callB call_isi (by rfl) ms PyProof.Rows.boot_isinstance (pa_cons (pv 0) (pa_cons (pe_bltn (v := .ty "bool") (by rfl) mb PyProof.Rows.boot_bool rfl) pa_nil))))))), ?_⟩
    rcases h with ⟨n, rfl, q⟩ | ⟨o, q⟩
    · refine ⟨.int n, rfl, .int n, .ty "int", .type "int", .type "int", true, rfl, .ty _, .base (.int n), kit_ty (by decide +kernel), true, rfl, iteT ?_⟩
      exact ⟨.int n, rfl, .int n, .ty "bool", .type "int", .type "bool", false, rfl, .ty _, .base (.int n), kit_ty (by decide +kernel), false, rfl, q⟩
    · obtain ⟨t, b, ty, k1, k2⟩ := o.kit (K := K)
      refine ⟨x, rfl, x, .ty "int", t, .type "int", b, rfl, .ty _, ty, k1, b, rfl, ?_⟩
      cases b with
      | false => exact iteF q
      | true => exact iteT ⟨x, rfl, x, .ty "bool", t, .type "bool", true, rfl, .ty _, ty, k2 rfl, true, rfl, q⟩
theorem ok_isint0 {f fW : Addr} {fd fdW : FuncData} (F : Fun K "is_integer" "is_integer" sIsInt f fd) (GW : FnOk P w K mg base CX0 1 fW fdW ["value"] spWhole) (gW : mg "is_whole" = some (.ref fW)) (kW : PySem.W.keepIn K (.ref fW) = true) (bW : Binds K fdW ["value"] []) : FnOk P w K mg base CX0 2 f fd ["value", "low", "high"] spIsInt := by
  refine F.ok scI (fun vs H Q E h => ?_) (fun cdv A outer s H vs Q E hr h => ?_)
  · obtain ⟨x, lo, hi, rfl, _⟩ := h
    rfl
  · obtain ⟨x, lo, hi, rfl, h⟩ := h
    refine ⟨_, pss_one (ps_ret (pe_and (pe_call GW hr (by rfl) gW kW bW .nil pass0 (pa_cons (pv 0) pa_nil)) (pe_one (pe_chain op_le op_le (pv 1) (pv 0) (pv 2))))), ?_⟩
    rcases h with ⟨n, rfl, q⟩ | ⟨o, q⟩
    · exact ⟨.int n, rfl, .int n, rfl, .inl ⟨n, rfl, true, rfl, iteT ⟨.int lo, rfl, .int n, rfl, lo, n, rfl, rfl, _, rfl, iteAnd (fun z => ⟨.int hi, rfl, n, hi, rfl, rfl, z⟩) q⟩⟩⟩
    · exact ⟨x, rfl, x, rfl, .inr ⟨o, false, rfl, iteF q⟩⟩

/-- no bool of its own, and is_whole stands -/
structure BoolW (K : PySem.W.Frag) (mg : Str → Option Value) : Prop where
  b : mg "bool" = none
  ex : ∃ (f : Addr) (fd : FuncData), Fun K "is_whole" "is_whole" sWhole f fd ∧ mg "is_whole" = some (.ref f) ∧ Binds K fd ["value"] []
theorem ok_isint {f : Addr} {fd : FuncData} (F : Fun K "is_integer" "is_integer" sIsInt f fd) (ms : mg "isinstance" = none) (mi : mg "int" = none) (mb : BoolW K mg) : FnOk P w K mg base CX0 2 f fd ["value", "low", "high"] spIsInt := by
  obtain ⟨fW, fdW, FW, gW, bW⟩ := mb.ex
  have GW : FnOk P w K mg base CX0 1 fW fdW ["value"] spWhole := ok_whole FW ms mi mb.b
  exact ok_isint0 F GW gW FW.kp bW
theorem scID : FnScope ["value"] ["value"] (defScope sIsDigit) := ⟨rfl, rfl, rfl, by decide +kernel, rfl, by decide +kernel, by decide +kernel⟩
theorem ok_isdigit {f fI : Addr} {fd fdI : FuncData} {t : Tok} (F : Fun K "is_digit" "is_digit" sIsDigit f fd) (FI : Fun K "is_integer" "is_integer" sIsInt fI fdI) (gI : mg "is_integer" = some (.ref fI)) (bI : Binds K fdI ["value", "low", "high"] [])
    (gG : mg "GREATEST_DIGIT" = some (.int 9 t)) (ms : mg "isinstance" = none) (mi : mg "int" = none) (mb : BoolW K mg) : FnOk P w K mg base CX0 3 f fd ["value"] spIsDigit := by
  have GI : FnOk P w K mg base CX0 2 fI fdI ["value", "low", "high"] spIsInt := ok_isint FI ms mi mb
  refine F.ok scID (fun vs H Q E h => ?_) (fun cdv A outer s H vs Q E hr h => ?_)
  · obtain ⟨x, rfl, _⟩ := h
    rfl
  · obtain ⟨x, rfl, h⟩ := h
    refine ⟨_, pss_one (ps_ret (pe_call GI hr (by rfl) gI FI.kp bI .nil pass0 (pa_cons (pv 0) (pa_cons (pe_un un_neg (pe_glob (v := .int 9) rfl gG ⟨_, rfl⟩)) (pa_cons (pe_glob (v := .int 9) rfl gG ⟨_, rfl⟩) pa_nil))))), ?_⟩
    rcases h with ⟨n, rfl, q⟩ | ⟨o, q⟩
    · exact ⟨.int n, rfl, 9, rfl, _, -9, 9, rfl, .inl ⟨n, rfl, q⟩⟩
    · exact ⟨x, rfl, 9, rfl, _, -9, 9, rfl, .inr ⟨o, q⟩⟩

/-! ### the errors -/
theorem scFig : FnScope ["self", "text"] ["self", "text"] (defScope sFig) := ⟨rfl, rfl, rfl, by decide +kernel, rfl, by decide +kernel, by decide +kernel⟩
theorem ok_fig {f : Addr} {fd : FuncData} (F : Fun K "__init__" "FigureError.__init__" sFig f fd) (mV : mg "ValueError" = none) (vV : PySem.W.findCls K (.type "ValueError") (.type "type") "__init__" = some (.val (.builtin "ValueError.__init__"))) :
    FnOk P w K mg base CX0 2 f fd ["self", "text"] (spFig K) := by
  refine F.ok scFig (fun vs H Q E h => ?_) (fun cdv A outer s H vs Q E hr h => ?_)
  · obtain ⟨a, C, v, nm, rfl, _⟩ := h
    rfl
  · obtain ⟨a, C, v, nm, rfl, T, N, ha, q⟩ := h
    refine ⟨_, pss_cons (ps_expr (pe_veinit (by rfl) mV vV (pa_cons (pv 0) (pa_cons (pv 1) pa_nil)))) (pss_one (ps_ost (pv 0) (pe_cname (pv 0)))), ?_⟩
    exact ⟨.ref a, rfl, v, rfl, a, C, [v], rfl, (by show 1 ≤ 1000; decide), T, ha, .ref a, rfl, a, C, nm, rfl, ha, N, .ref a, rfl, a, C, rfl, T, N.no, .inl ⟨ha, fun d hd nd => q d hd nd⟩⟩
theorem scInT : FnScope ["self", "text"] ["self", "text"] (defScope sInT) := ⟨rfl, rfl, rfl, by decide +kernel, rfl, by decide +kernel, by decide +kernel⟩
theorem ok_inT {f f0 C C0 : Addr} {fd fd0 : FuncData} (F : Fun K "__init__" "InvalidText.__init__" sInT f fd) (F0 : Fun K "__init__" "FigureError.__init__" sFig f0 fd0) (T0 : FigC K mg C0 f0) (b0 : Binds K fd0 ["self", "text"] []) (T : ErrC K mg "InvalidText" "text" C f)
    (mV : mg "ValueError" = none) (vV : PySem.W.findCls K (.type "ValueError") (.type "type") "__init__" = some (.val (.builtin "ValueError.__init__"))) :
    FnOk P w K mg base CX0 3 f fd ["self", "text"] (spInit K "text" C) := by
  have G0 : FnOk P w K mg base CX0 2 f0 fd0 ["self", "text"] (spFig K) := ok_fig F0 mV vV
  refine F.ok scInT (fun vs H Q E h => ?_) (fun cdv A outer s H vs Q E hr h => ?_)
  · obtain ⟨a, v, rfl, _⟩ := h
    rfl
  · obtain ⟨a, v, rfl, ha, q⟩ := h
    refine ⟨_, pss_cons (ps_expr (pe_unb G0 hr (by rfl) T0.g T0.rd T0.val T0.kp b0 pass0 (pa_cons (pv 0) (pa_cons pe_str pa_nil)))) (pss_one (ps_ost (pv 0) (pv 1))), ?_⟩
    obtain ⟨nm, N⟩ := T.nam
    refine ⟨.ref a, rfl, a, C, _, nm, rfl, T.ox, N, ha, fun d hd nd => ?_⟩
    refine ⟨v, rfl, .ref a, rfl, a, C, rfl, T.ox, T.no, .inr ⟨d, _, upd_same, by rw [upd_ne nd]; exact upd_same, (by show 1 ≤ 900; decide), ?_⟩⟩
    rw [upd_swap nd]
    exact q _ d hd nd

/-! ### read_row -/
abbrev nRead : List Str := ["text", "digits", "words", "digit", "word"]
theorem scRd : FnScope nRead ["text"] (defScope sRead) := ⟨rfl, rfl, rfl, by decide +kernel, rfl, by decide +kernel, by decide +kernel⟩
theorem ok_read {f fI f0 C C0 : Addr} {fd fdI fd0 : FuncData} {tE t9 : Tok} (F : Fun K "read_row" "read_row" sRead f fd) (FI : Fun K "__init__" "InvalidText.__init__" sInT fI fdI) (F0 : Fun K "__init__" "FigureError.__init__" sFig f0 fd0)
    (T0 : FigC K mg C0 f0) (b0 : Binds K fd0 ["self", "text"] []) (T : ErrC K mg "InvalidText" "text" C fI) (bI : Binds K fdI ["self", "text"] [])
    (mV : mg "ValueError" = none) (vV : PySem.W.findCls K (.type "ValueError") (.type "type") "__init__" = some (.val (.builtin "ValueError.__init__")))
    (gE : mg "EMPTY_TEXT" = some (.str "." tE)) (g9 : mg "GREATEST_DIGIT" = some (.int 9 t9)) (mi : mg "isinstance" = none) (ms : mg "str" = none) (mr : mg "range" = none) (mall : mg "all" = none) (mtu : mg "tuple" = none) :
    FnOk P w K mg base (L2.CX P w) 5 f fd ["text"] (spRead C) := by
  have GI : FnOk P w K mg base CX0 3 fI fdI ["self", "text"] (spInit K "text" C) := ok_inT FI F0 T0 b0 T mV vV
  refine F.okX scRd (fun vs H Q E h => ?_) (fun cdv A outer s H vs Q E hr h => ?_)
  · obtain ⟨x, rfl, _⟩ := h
    rfl
  · obtain ⟨x, rfl, h⟩ := h
    apply Exists.intro
    apply And.intro
    · apply pss_cons
      · exact ps_if (pt_not (pt_val (pe_callB call_isi (by rfl) mi PyProof.Rows.boot_isinstance (pa_cons (pv 0) (pa_cons (pe_bltn (v := .ty "str") (by rfl) ms PyProof.Rows.boot_str rfl) pa_nil)))))
          (pss_one (ps_raise rfl (takes_of rfl rfl rfl rfl) (pmk_oex T.ox T.iC T.tI GI hr bI .nil pass0 (by rfl) T.g (pa_cons (pv 0) pa_nil)))) pss_nil
      apply pss_cons
      · exact ps_if (pt_cmpR op_eq (pv 0) (pe_glob (v := .str ".") rfl gE ⟨_, rfl⟩) (nomark _)) (pss_one (ps_ret (pe_tup pa_nil))) pss_nil
      apply pss_cons
      · exact ps_set (i := 1) scRd.nd rfl (.inr rfl) (pe_dc (own := [("digit", 3)]) (g := gName 3) (tt := tYes) rfl scRd.nd
          (pi_range2 rfl mr (pa_cons (pe_un un_neg (pe_glob (v := .int 9) rfl g9 ⟨_, rfl⟩)) (pa_cons (pe_op op_add (pe_glob (v := .int 9) rfl g9 ⟨_, rfl⟩) pe_int) pa_nil)))
          (blkOk_by (own := [("digit", 3)]) (N := nRead) (sc := defScope sRead) (by decide +kernel)) (fun _ _ _ _ _ => pg_name (i := 3) scRd.nd rfl (Or.inl rfl)) (fun _ _ _ _ _ => pts_nil)
          (fun _ _ _ _ _ => by exact (pe_callTy call_str_int (by rfl) ms PyProof.Rows.boot_str (pa_cons (pv 3) pa_nil))) (fun _ _ _ _ _ => by exact (pv 3)))
      apply pss_cons
      · exact ps_set (i := 2) scRd.nd rfl (.inl rfl) (pe_split (pv 0) pe_str)
      apply pss_cons
      · exact ps_if (pt_not (pt_val (pe_callB (cr_all rfl) (by rfl) mall (by decide +kernel) (pa_cons (pe_lc (own := [("word", 4)]) (g := gName 4) (tt := tYes) (te := tDIn (tVar 4) (tVar 1)) rfl scRd.nd (pi_list (pv 2))
            (blkOk_by (own := [("word", 4)]) (N := nRead) (sc := defScope sRead) (by decide +kernel)) (fun _ _ _ _ _ => pg_name (i := 4) scRd.nd rfl (Or.inl rfl)) (fun _ _ _ _ _ => pts_nil)
            (fun _ _ _ _ _ => by exact (pe_cmp (pc_din (hu_of hr) (pv 4) (pv 1))))) pa_nil))))
          (pss_one (ps_raise rfl (takes_of rfl rfl rfl rfl) (pmk_oex T.ox T.iC T.tI GI hr bI .nil pass0 (by rfl) T.g (pa_cons (pv 0) pa_nil)))) pss_nil
      apply pss_one
      · exact ps_ret (pe_callTy call_tuple_of (by rfl) mtu (by decide +kernel) (pa_cons (pe_lc (own := [("word", 4)]) (g := gName 4) (tt := tYes) (te := tDGet (tVar 1) (tVar 4)) rfl scRd.nd (pi_list (pv 2))
            (blkOk_by (own := [("word", 4)]) (N := nRead) (sc := defScope sRead) (by decide +kernel)) (fun _ _ _ _ _ => pg_name (i := 4) scRd.nd rfl (Or.inl rfl)) (fun _ _ _ _ _ => pts_nil)
            (fun _ _ _ _ _ => by exact (pe_dget (hu_of hr) (pv 1) (pv 4) (fun _ _ => rfl)))) pa_nil))
    rcases h with ⟨z, rfl, hz, hok, hno⟩ | ⟨o, hE⟩
    · refine ⟨.str z, rfl, .str z, .ty "str", .type "str", .type "str", true, rfl, .ty _, .base (.str z), kit_ty (by decide +kernel), true, rfl, iteF ?_⟩
      refine ⟨.str z, rfl, rfl, _, rfl, ite2 (fun c => ?_) (fun c => ?_)⟩
      · have ez : z = Str.ofString "." := V.str.inj (of_decide_eq_true c)
        exact ⟨(by show 0 ≤ sizeLine; decide), fun p hp => hok [] (if_pos ez) p _ hp (same_new hp) upd_same⟩
      · have ez : z ≠ Str.ofString "." := fun e => c (decide_eq_true (congrArg V.str e))
        have er : readV z = rowOf (Txt.split z (Str.ofString " ")) := if_neg ez
        have hlen : (Txt.split z (Str.ofString " ")).length < sizeLine := by
          have := PyProof.Rows.split_le z (Str.ofString " ")
          rw [sizeLine_eq]
          omega
        refine ⟨9, rfl, _, _, rfl, rfl, -9, _, rfl, ⟨by decide, by decide, by decide, by decide⟩, fun D hD => ?_⟩
        refine dc_range (lo := -9) (n := 19) (fun i H' => Same H H' ∧ H' D = some (.dK (digL.take i))) ⟨same_new hD, upd_same⟩ ?_ ?_
        · rintro i H' hi ⟨s1, e1⟩
          refine ⟨rfl, tYes_if ⟨_, rfl, _, rfl, log_le (by omega), _, rfl, _, Sum.inr _, rfl, e1, ?_, Same.store s1 hD, ?_⟩⟩
          · rw [sizeLine_eq]
            exact Nat.lt_of_le_of_lt (List.length_take_le _ _) (by omega)
          · rw [upd_same, digL_put i hi]
        · rintro H1 ⟨s1, e1⟩
          rw [digL_all] at e1
          refine ⟨.str z, rfl, ⟨z, rfl⟩, z, Str.ofString " ", rfl, rfl, by decide +kernel, (by rw [sizeLine_eq]; omega), fun p hp => ?_⟩
          generalize hws : Txt.split z (Str.ofString " ") = ws at hlen er ⊢
          have s2 : Same H1 (upd H1 p (.lst (ws.map V.str))) := same_new hp
          have eD := s2 _ _ e1
          have ep : (upd H1 p (.lst (ws.map V.str))) p = some (.lst (ws.map V.str)) := upd_same
          generalize upd H1 p (.lst (ws.map V.str)) = H2 at s2 eD ep ⊢
          refine ⟨.ref p, rfl, p, rfl, ⟨_, SqL.of ep⟩, fun D2 n2 => ?_⟩
          refine lc_list (K := K) (a := p) (xs := ws.map V.str) (fun i H' => Same H2 H' ∧ H' D2 = some (.lst ((ws.take i).map fun w => V.bl (digV w).isSome))) ⟨same_new n2, upd_same⟩ (fun i H' _ h => SqL.of (h.1 _ _ ep)) ?_ ?_
          · rintro i x H' hx ⟨s3, e3⟩
            obtain ⟨u, hu, rfl⟩ := get_map hx
            refine ⟨rfl, tYes_if ⟨.str u, rfl, .ref D, rfl, D, _, rfl, DGet.k (k := Sum.inr u) (s3 _ _ eD), _, e3, ?_, Same.store s3 n2, ?_⟩⟩
            · rw [List.length_map]
              exact Nat.lt_of_le_of_lt (List.length_take_le' _ _) hlen
            · rw [upd_same, take_more hu, List.map_append]
              rfl
          · rintro H3 ⟨s3, e3⟩
            rw [List.length_map, List.take_length] at e3
            refine ⟨D2, ws.map fun w => (digV w).isSome, rfl, SqL.of (by rw [e3, List.map_map]; rfl), _, rfl, ?_⟩
            have eall : (ws.map fun w => (digV w).isSome).all id = ws.all (fun w => (digV w).isSome) := by
              rw [List.all_map]
              rfl
            rw [eall]
            by_cases hb : ws.all (fun w => (digV w).isSome) = true
            · refine iteFB (by rw [hb]; rfl) ?_
              refine ⟨.ref p, rfl, p, rfl, ⟨_, SqL.of (s3 _ _ ep)⟩, fun D3 n3 => ?_⟩
              refine lc_list (K := K) (a := p) (xs := ws.map V.str) (fun i H' => Same H3 H' ∧ H' D3 = some (.lst ((ws.take i).map fun w => (digV w).getD .non))) ⟨same_new n3, upd_same⟩ (fun i H' _ h => SqL.of (h.1 _ _ (s3 _ _ ep))) ?_ ?_
              · rintro i x H' hx ⟨s4, e4⟩
                obtain ⟨u, hu, rfl⟩ := get_map hx
                have hs : (digV u).isSome = true := List.all_eq_true.mp hb u (List.mem_of_getElem? hu)
                obtain ⟨v, hv⟩ := Option.isSome_iff_exists.mp hs
                have dg : DGet H' D (.str u) (some v) := by
                  have q := DGet.k (k := Sum.inr u) (s4 _ _ (s3 _ _ eD))
                  have q2 : valV digL (Sum.inr u) = some v := hv
                  rw [q2] at q
                  exact q
                refine ⟨rfl, tYes_if ⟨.ref D, rfl, .str u, rfl, D, v, rfl, dg, _, e4, ?_, Same.store s4 n3, ?_⟩⟩
                · rw [List.length_map]
                  exact Nat.lt_of_le_of_lt (List.length_take_le' _ _) hlen
                · rw [upd_same, take_more hu, List.map_append]
                  show _ = some (HO.lst (_ ++ [(digV u).getD .non]))
                  rw [hv]
                  rfl
              · rintro H4 ⟨s4, e4⟩
                rw [List.length_map, List.take_length] at e4
                have sAll : Same H H4 := s1.trans (s2.trans (s3.trans s4))
                refine ⟨D3, _, rfl, .inl ⟨SqL.of e4, fun l hl => ?_⟩⟩
                refine hok _ ?_ l _ (sAll.free hl) (Same.store sAll (sAll.free hl)) upd_same
                rw [er]
                exact if_pos hb
            · refine iteTB (by rw [Bool.eq_false_iff.mpr hb]; rfl) ?_
              have hn : readV z = none := by
                rw [er]
                exact if_neg hb
              exact ⟨.str z, rfl, raised_ok (σ := start nRead [.str z]) (D := { nx := fun _ H' => Q .non H', rt := Q }) (hno hn) (s1.trans (s2.trans s3))⟩
    · obtain ⟨t, ty, k1⟩ := o.kit (K := K)
      refine ⟨x, rfl, x, .ty "str", t, .type "str", false, rfl, .ty _, ty, k1, false, rfl, iteT ?_⟩
      exact ⟨x, rfl, raised_ok (σ := start nRead [x]) (D := { nx := fun _ H' => Q .non H', rt := Q }) hE (Same.refl H)⟩

theorem scInR : FnScope ["self", "row"] ["self", "row"] (defScope sInR) := ⟨rfl, rfl, rfl, by decide +kernel, rfl, by decide +kernel, by decide +kernel⟩
theorem ok_inR {f f0 C C0 : Addr} {fd fd0 : FuncData} (F : Fun K "__init__" "InvalidRow.__init__" sInR f fd) (F0 : Fun K "__init__" "FigureError.__init__" sFig f0 fd0) (T0 : FigC K mg C0 f0) (b0 : Binds K fd0 ["self", "text"] []) (T : ErrC K mg "InvalidRow" "row" C f)
    (mV : mg "ValueError" = none) (vV : PySem.W.findCls K (.type "ValueError") (.type "type") "__init__" = some (.val (.builtin "ValueError.__init__"))) :
    FnOk P w K mg base CX0 3 f fd ["self", "row"] (spInit K "row" C) := by
  have G0 : FnOk P w K mg base CX0 2 f0 fd0 ["self", "text"] (spFig K) := ok_fig F0 mV vV
  refine F.ok scInR (fun vs H Q E h => ?_) (fun cdv A outer s H vs Q E hr h => ?_)
  · obtain ⟨a, v, rfl, _⟩ := h
    rfl
  · obtain ⟨a, v, rfl, ha, q⟩ := h
    refine ⟨_, pss_cons (ps_expr (pe_unb G0 hr (by rfl) T0.g T0.rd T0.val T0.kp b0 pass0 (pa_cons (pv 0) (pa_cons pe_str pa_nil)))) (pss_one (ps_ost (pv 0) (pv 1))), ?_⟩
    obtain ⟨nm, N⟩ := T.nam
    refine ⟨.ref a, rfl, a, C, _, nm, rfl, T.ox, N, ha, fun d hd nd => ?_⟩
    refine ⟨v, rfl, .ref a, rfl, a, C, rfl, T.ox, T.no, .inr ⟨d, _, upd_same, by rw [upd_ne nd]; exact upd_same, (by show 1 ≤ 900; decide), ?_⟩⟩
    rw [upd_swap nd]
    exact q _ d hd nd

/-- are_digits of a tuple -/
def spAre (K : PySem.W.Frag) : Sp := fun vs H Q _ => ∃ (p : Addr) (xs : List V), vs = [.ref p] ∧ H p = some (.tup xs) ∧ xs.length ≤ 1000 ∧ (∀ x ∈ xs, IntOdd H x) ∧ ∀ H', Same H H' → Q (.bl (xs.all digB)) H'
theorem scAr : FnScope ["items", "item"] ["items"] (defScope sAre) := ⟨rfl, rfl, rfl, by decide +kernel, rfl, by decide +kernel, by decide +kernel⟩
theorem ok_are {f fD fI : Addr} {fd fdD fdI : FuncData} {t9 : Tok} (F : Fun K "are_digits" "are_digits" sAre f fd) (FD : Fun K "is_digit" "is_digit" sIsDigit fD fdD) (gD : mg "is_digit" = some (.ref fD)) (bD : Binds K fdD ["value"] [])
    (FI : Fun K "is_integer" "is_integer" sIsInt fI fdI) (gI : mg "is_integer" = some (.ref fI)) (bI : Binds K fdI ["value", "low", "high"] [])
    (g9 : mg "GREATEST_DIGIT" = some (.int 9 t9)) (mis : mg "isinstance" = none) (mi : mg "int" = none) (mb : BoolW K mg) (mall : mg "all" = none) : FnOk P w K mg base CX0 4 f fd ["items"] (spAre K) := by
  have GD : FnOk P w K mg base CX0 3 fD fdD ["value"] spIsDigit := ok_isdigit FD FI gI bI g9 mis mi mb
  refine F.ok scAr (fun vs H Q E h => ?_) (fun cdv A outer s H vs Q E hr h => ?_)
  · obtain ⟨p, xs, rfl, _⟩ := h
    rfl
  · obtain ⟨p, xs, rfl, ep, hl, hx, q⟩ := h
    apply Exists.intro
    apply And.intro
    · apply pss_one
      · exact ps_ret (pe_callB (cr_all rfl) (by rfl) mall (by decide +kernel) (pa_cons (pe_lc (own := [("item", 1)]) (g := gName 1) (tt := tYes) (te := tCall spIsDigit [] E0 (tCons (tVar 1) tNil)) rfl scAr.nd (pi_tup (pv 0))
            (blkOk_by (own := [("item", 1)]) (N := ["items", "item"]) (sc := defScope sAre) (by decide +kernel)) (fun _ _ _ _ _ => pg_name (i := 1) scAr.nd rfl (Or.inl rfl)) (fun _ _ _ _ _ => pts_nil)
            (fun _ _ _ _ _ => by exact (pe_call GD hr (by rfl) gD FD.kp bD .nil pass0 (pa_cons (pv 1) pa_nil)))) pa_nil))
    refine ⟨.ref p, rfl, p, rfl, ⟨_, SqT.of ep⟩, fun D hD => ?_⟩
    refine lc_tup (K := K) (a := p) (xs := xs) (fun i H' => Same H H' ∧ H' D = some (.lst ((xs.take i).map fun x => V.bl (digB x)))) ⟨same_new hD, upd_same⟩ (fun i H' _ h => SqT.of (h.1 _ _ ep)) ?_ ?_
    · rintro i x H' hi ⟨s1, e1⟩
      have fin : (H' D = some (.lst ((xs.take i).map fun x => V.bl (digB x)))) ∧ ((xs.take i).map fun x => V.bl (digB x)).length < sizeLine ∧ Same H (upd H' D (.lst (((xs.take i).map fun x => V.bl (digB x)) ++ [V.bl (digB x)]))) ∧ (upd H' D (.lst (((xs.take i).map fun x => V.bl (digB x)) ++ [V.bl (digB x)]))) D = some (.lst ((xs.take (i + 1)).map fun x => V.bl (digB x))) := by
        refine ⟨e1, ?_, Same.store s1 hD, ?_⟩
        · rw [List.length_map]
          exact Nat.lt_of_le_of_lt (List.length_take_le' _ _) (small1000 hl)
        · rw [upd_same, take_more hi, List.map_append]
          rfl
      refine ⟨rfl, tYes_if ⟨x, rfl, x, rfl, ?_⟩⟩
      rcases (hx x (List.mem_of_getElem? hi)).same s1 with ⟨n, rfl⟩ | o
      · exact .inl ⟨n, rfl, _, fin⟩
      · refine .inr ⟨o, ?_⟩
        rw [digB_odd o] at fin
        exact ⟨_, fin⟩
    · rintro H' ⟨s1, e1⟩
      rw [List.take_length] at e1
      refine ⟨D, xs.map digB, rfl, SqL.of (by rw [e1, List.map_map]; rfl), ?_⟩
      have ee : (xs.map digB).all id = xs.all digB := by
        rw [List.all_map]
        rfl
      rw [ee]
      exact q H' s1

/-- a thing that is no row -/
def BadRow (H : Hp) (x : V) : Prop := (∃ (p : Addr) (xs : List V), x = .ref p ∧ H p = some (.tup xs) ∧ xs.length ≤ 1000 ∧ (∀ y ∈ xs, IntOdd H y) ∧ xs.all digB = false) ∨ NoTup H x
/-- row_text -/
def spRowText (C : Addr) : Sp := fun vs H Q E => ∃ x : V, vs = [x] ∧
  ((∃ (p : Addr) (is : List Int), x = .ref p ∧ H p = some (.tup (is.map V.int)) ∧ is.length ≤ 200 ∧ (∀ i ∈ is, -9 ≤ i ∧ i ≤ 9) ∧ ∀ H', Same H H' → Q (.str (textOf is)) H') ∨ (BadRow H x ∧ Raised C "row" x H E))
theorem scRT : FnScope ["row", "digit"] ["row"] (defScope sRowText) := ⟨rfl, rfl, rfl, by decide +kernel, rfl, by decide +kernel, by decide +kernel⟩
theorem eqv_nil : ∀ is : List Int, PyData.eqv (.tuple (is.map PyData.int)) (.tuple []) = decide (is = [])
  | [] => by decide +kernel
  | i :: is => by
    rw [decide_eq_false (List.cons_ne_nil i is)]
    simp only [PyData.eqv, List.map_cons, PyData.eqvAll]
set_option maxHeartbeats 2000000 in
theorem ok_rowtext {f fA fD fI fR f0 C C0 : Addr} {fd fdA fdD fdI fdR fd0 : FuncData} {t9 tE : Tok} (F : Fun K "row_text" "row_text" sRowText f fd) (FA : Fun K "are_digits" "are_digits" sAre fA fdA) (gA : mg "are_digits" = some (.ref fA)) (bA : Binds K fdA ["items"] [])
    (FD : Fun K "is_digit" "is_digit" sIsDigit fD fdD) (gD : mg "is_digit" = some (.ref fD)) (bD : Binds K fdD ["value"] [])
    (FI : Fun K "is_integer" "is_integer" sIsInt fI fdI) (gI : mg "is_integer" = some (.ref fI)) (bI : Binds K fdI ["value", "low", "high"] [])
    (FR : Fun K "__init__" "InvalidRow.__init__" sInR fR fdR) (F0 : Fun K "__init__" "FigureError.__init__" sFig f0 fd0) (T0 : FigC K mg C0 f0) (b0 : Binds K fd0 ["self", "text"] []) (T : ErrC K mg "InvalidRow" "row" C fR) (bR : Binds K fdR ["self", "row"] [])
    (mV : mg "ValueError" = none) (vV : PySem.W.findCls K (.type "ValueError") (.type "type") "__init__" = some (.val (.builtin "ValueError.__init__")))
    (gE : mg "EMPTY_TEXT" = some (.str "." tE)) (g9 : mg "GREATEST_DIGIT" = some (.int 9 t9)) (mis : mg "isinstance" = none) (mi : mg "int" = none) (mb : BoolW K mg) (mall : mg "all" = none) (mt : mg "tuple" = none) (ms : mg "str" = none) :
    FnOk P w K mg base (L2.CX P w) 5 f fd ["row"] (spRowText C) := by
  have GA : FnOk P w K mg base CX0 4 fA fdA ["items"] (spAre K) := ok_are FA FD gD bD FI gI bI g9 mis mi mb mall
  have GI : FnOk P w K mg base CX0 3 fR fdR ["self", "row"] (spInit K "row" C) := ok_inR FR F0 T0 b0 T mV vV
  refine F.okX scRT (fun vs H Q E h => ?_) (fun cdv A outer s H vs Q E hr h => ?_)
  · obtain ⟨x, rfl, _⟩ := h
    rfl
  · obtain ⟨x, rfl, h⟩ := h
    have hr2 : Room 3 _ := hr.mono (by decide)
    apply Exists.intro
    apply And.intro
    · apply pss_cons
      · exact ps_if (PW.pt (pw_or (pt_not (pt_val (pe_callB call_isi (by rfl) mis PyProof.Rows.boot_isinstance (pa_cons (pv 0) (pa_cons (pe_bltn (v := .ty "tuple") (by rfl) mt (by decide +kernel) rfl) pa_nil)))))
            (pw_or1 (pt_not (pt_val (pe_call GA hr (by rfl) gA FA.kp bA .nil pass0 (pa_cons (pv 0) pa_nil)))))))
          (pss_one (ps_raise rfl (takes_of rfl rfl rfl rfl) (pmk_oex T.ox T.iC T.tI GI hr bR .nil pass0 (by rfl) T.g (pa_cons (pv 0) pa_nil)))) pss_nil
      apply pss_cons
      · exact ps_if (pt_cmpR (op_eqD hr.units) (pv 0) (pe_tup pa_nil) (nomark _)) (pss_one (ps_ret (pe_glob (v := .str ".") rfl gE ⟨_, rfl⟩))) pss_nil
      apply pss_one
      · exact ps_ret (pe_join pe_str (pe_lc (own := [("digit", 1)]) (g := gName 1) (tt := tYes) rfl scRT.nd (pi_tup (pv 0)) (blkOk_by (own := [("digit", 1)]) (N := ["row", "digit"]) (sc := defScope sRowText) (by decide +kernel))
            (fun _ _ _ _ _ => pg_name (i := 1) scRT.nd rfl (Or.inl rfl)) (fun _ _ _ _ _ => pts_nil) (fun _ _ _ _ _ => by exact (pe_callTy call_str_int (by rfl) ms PyProof.Rows.boot_str (pa_cons (pv 1) pa_nil)))))
    rcases h with ⟨p, is, rfl, ep, hl, hd, q⟩ | ⟨⟨p, xs, rfl, ep, hl, hx, hf⟩ | o, hE⟩
    · refine ⟨.ref p, rfl, .ref p, .ty "tuple", .type "tuple", .type "tuple", true, rfl, .ty _, .base (.tup ep), kit_ty (by decide +kernel), true, rfl, iteF ?_⟩
      refine ⟨.ref p, rfl, p, _, rfl, ep, by rw [List.length_map]; omega, fun x hx => ?_, fun H1 s1 => ⟨_, rfl, ?_⟩⟩
      · obtain ⟨i, _, rfl⟩ := List.mem_map.mp hx
        exact .inl ⟨i, rfl⟩
      rw [ints_digs hd]
      refine iteF ?_
      have ep1 := s1 _ _ ep
      refine ⟨.ref p, rfl, (by show 0 ≤ sizeLine; decide), fun t ht => ?_⟩
      have s2 := same_new (o := .tup []) ht
      have d1 := DatOf.tup (K := K) (s2 _ _ ep1)
      have d2 := DatOf.tup (K := K) (is := []) (upd_same (H := H1) (a := t) (o := .tup []))
      refine ⟨_, _, d1.dp _ (Same.refl _), d2.dp _ (Same.refl _), shaped_of d1.can (Nat.le_trans d1.dep (by decide)), shaped_of d2.can (Nat.le_trans d2.dep (by decide)), _, rfl, ?_⟩
      rw [show PyData.eqv (.tuple (is.map PyData.int)) (.tuple (([] : List Int).map PyData.int)) = decide (is = []) from eqv_nil is]
      have sA := s1.trans s2
      by_cases hn : is = []
      · refine iteTB (decide_eq_true hn) ?_
        have e : textOf is = Str.ofString "." := if_pos hn
        rw [e] at q
        exact q _ sA
      · refine iteFB (decide_eq_false hn) ?_
        have e : textOf is = Txt.join (Str.ofString " ") (is.map strI) := if_neg hn
        rw [e] at q
        have ep2 := s2 _ _ ep1
        generalize upd H1 t (.tup []) = H2 at sA ep2 ⊢
        refine ⟨⟨_, rfl⟩, .ref p, rfl, p, rfl, ⟨_, SqT.of ep2⟩, fun D hD => ?_⟩
        refine lc_tup (K := K) (a := p) (xs := is.map V.int) (fun i H' => Same H2 H' ∧ H' D = some (.lst ((is.take i).map fun k => V.str (strI k)))) ⟨same_new hD, upd_same⟩ (fun i H' _ h => SqT.of (h.1 _ _ ep2)) ?_ ?_
        · rintro i x H' hi ⟨s3, e3⟩
          obtain ⟨k, hk, rfl⟩ := get_map hi
          have hk2 := hd k (List.mem_of_getElem? hk)
          refine ⟨rfl, tYes_if ⟨_, rfl, _, rfl, log_le (by omega), _, e3, ?_, Same.store s3 hD, ?_⟩⟩
          · rw [List.length_map]
            exact Nat.lt_of_le_of_lt (List.length_take_le' _ _) (small1000 (by omega))
          · rw [upd_same, take_more hk, List.map_append]
            rfl
        · rintro H3 ⟨s3, e3⟩
          rw [List.length_map, List.take_length] at e3
          have em : (is.map fun k => V.str (strI k)) = (is.map strI).map V.str := by
            rw [List.map_map]
            rfl
          rw [em] at e3
          refine ⟨_, D, is.map strI, rfl, rfl, .inl (SqL.of e3), ?_, q _ (sA.trans s3)⟩
          have h1 := sum_len (n := 2) (ps := is.map strI) fun y hy => by
            obtain ⟨i, hi, rfl⟩ := List.mem_map.mp hy
            exact (strI_ok (hd i hi)).1
          have h2 : (Str.ofString " ").length = 1 := by decide +kernel
          rw [h2]
          rw [List.length_map] at h1 ⊢
          omega
    · refine ⟨.ref p, rfl, .ref p, .ty "tuple", .type "tuple", .type "tuple", true, rfl, .ty _, .base (.tup ep), kit_ty (by decide +kernel), true, rfl, iteF ?_⟩
      refine ⟨.ref p, rfl, p, _, rfl, ep, hl, hx, fun H1 s1 => ⟨_, rfl, ?_⟩⟩
      rw [hf]
      refine iteT ?_
      exact ⟨.ref p, rfl, raised_ok (σ := start ["row", "digit"] [.ref p]) (D := { nx := fun _ H' => Q .non H', rt := Q }) hE s1⟩
    · obtain ⟨t, ty, k1⟩ := o.kit (K := K)
      refine ⟨x, rfl, x, .ty "tuple", t, .type "tuple", false, rfl, .ty _, ty, k1, false, rfl, iteT (iteT ?_)⟩
      exact ⟨x, rfl, raised_ok (σ := start ["row", "digit"] [x]) (D := { nx := fun _ H' => Q .non H', rt := Q }) hE (Same.refl H)⟩
end
end K02
namespace K02
open PySem PySem.Spec PyProof.Rows L2 OF
section
variable {P : Program} {w : World} {K : PySem.W.Frag} {mg : Str → Option Value} {base : Heap}

/-- text * number -/
theorem op_mul_txt {X : Cx} : OpR X (binaryOp .Mult) (fun x y H Q => ∃ (z : Str) (n : Int), x = .str z ∧ y = .int n ∧ MulOk z n ∧ Q (.str (Txt.mul z n)) H) := by
  intro pins s σ H x y v u Q I rx ry h
  obtain ⟨z, n, rfl, rfl, hk, q⟩ := h
  obtain ⟨t, rfl⟩ := rx
  obtain ⟨t', rfl⟩ := ry
  exact PySem.SB.mul hk fun t2 k => ⟨.str _, H, I.tok k, ⟨t2, rfl⟩, q⟩
/-- the law's own text of a row -/
def spText : Sp := fun vs H Q _ => ∃ (p : Addr) (is : List Int), vs = [.ref p] ∧ H p = some (.tup (is.map V.int)) ∧ is.length ≤ 200 ∧ (∀ i ∈ is, -9 ≤ i ∧ i ≤ 9) ∧ ∀ H', Same H H' → Q (.str (textOf is)) H'
theorem scTx : FnScope ["_law_line", "_law_words", "_law_digit"] ["_law_line"] (defScope sText) := ⟨rfl, rfl, rfl, by decide +kernel, rfl, by decide +kernel, by decide +kernel⟩
def absI (i : Int) : Int := if i < 0 then -i else i
theorem fig_at : ∀ k : Nat, k < 19 → ∃ c : Nat, atI (Str.ofString "0123456789").cps.toList (absI ((-9 : Int) + (k : Int))) = some c ∧
    Txt.mul (Str.ofString "-") (if decide ((-9 : Int) + (k : Int) < 0) = true then 1 else 0) ++ (⟨#[c]⟩ : Str) = strI ((-9 : Int) + (k : Int)) ∧ (Txt.mul (Str.ofString "-") (if decide ((-9 : Int) + (k : Int) < 0) = true then 1 else 0)).length + (⟨#[c]⟩ : Str).length ≤ 2 := by
  have h : ∀ k : Nat, k < 19 → (atI (Str.ofString "0123456789").cps.toList (absI ((-9 : Int) + (k : Int)))).isSome = true ∧
    Txt.mul (Str.ofString "-") (if decide ((-9 : Int) + (k : Int) < 0) = true then 1 else 0) ++ (⟨#[(atI (Str.ofString "0123456789").cps.toList (absI ((-9 : Int) + (k : Int)))).getD 0]⟩ : Str) = strI ((-9 : Int) + (k : Int)) ∧
    (Txt.mul (Str.ofString "-") (if decide ((-9 : Int) + (k : Int) < 0) = true then 1 else 0)).length ≤ 1 := by decide +kernel
  intro k hk
  obtain ⟨h1, h2, h3⟩ := h k hk
  obtain ⟨c, hc⟩ := Option.isSome_iff_exists.mp h1
  refine ⟨c, hc, ?_, ?_⟩
  · rw [hc] at h2
    exact h2
  · show _ + 1 ≤ 2
    omega
theorem mulok1 : MulOk (Str.ofString "-") 1 := ⟨by decide +kernel, fun _ h => absurd h (by decide +kernel), fun _ h => absurd h (by decide +kernel)⟩
theorem mulok0 : MulOk (Str.ofString "-") 0 := ⟨by decide +kernel, fun h => absurd (show (0 : Int) < 1 by decide) h, fun h => absurd (show (0 : Int) < 1 by decide) h⟩
theorem dp_strs {K : PySem.W.Frag} {H : Hp} : ∀ ss : List Str, DpAll K H (ss.map V.str) (ss.map PyData.str)
  | [] => .nil
  | z :: ss => .cons (.str z) (dp_strs ss)
theorem can_strs : ∀ {ss : List Str}, (∀ z ∈ ss, PyData.strOk z = true) → PyData.canLayAll0 (ss.map PyData.str) = true
  | [], _ => by simp only [List.map_nil, PyData.canLayAll0]
  | z :: ss, h => by
    rw [List.map_cons, PyData.canLayAll0, can_strs fun y hy => h y (List.mem_cons_of_mem _ hy)]
    simp only [PyData.canLay0, Bool.and_true, h z (List.mem_cons_self ..)]
theorem dep_strs : ∀ ss : List Str, PyData.depthAll (ss.map PyData.str) = 0
  | [] => by simp only [List.map_nil, PyData.depthAll]
  | z :: ss => by
    rw [List.map_cons, PyData.depthAll, dep_strs ss]
    simp only [PyData.depth, Nat.max_self]
theorem eqv_nils : ∀ ss : List Str, PyData.eqv (.list (ss.map PyData.str)) (.list []) = decide (ss = [])
  | [] => by decide +kernel
  | i :: is => by
    rw [decide_eq_false (List.cons_ne_nil i is)]
    simp only [PyData.eqv, List.map_cons, PyData.eqvAll]
set_option maxHeartbeats 2000000 in
theorem ok_text {f : Addr} {fd : FuncData} (F : Fun K "_law_text" "_law_text" sText f fd) (mi : mg "int" = none) (ma : mg "abs" = none) : FnOk P w K mg base CX0 2 f fd ["_law_line"] spText := by
  refine F.ok scTx (fun vs H Q E h => ?_) (fun cdv A outer s H vs Q E hr h => ?_)
  · obtain ⟨p, is, rfl, _⟩ := h
    rfl
  · obtain ⟨p, is, rfl, ep, hl, hd, q⟩ := h
    apply Exists.intro
    apply And.intro
    · apply pss_cons
      · exact ps_set (i := 1) scTx.nd rfl (.inl rfl) (pe_lst pa_nil)
      apply pss_cons
      · exact ps_for PassesOwn.never rfl (pi_tup (pv 0)) (pg_name (i := 2) scTx.nd rfl (.inl rfl))
          (pss_one (ps_expr (pe_bm PySem.F.plainAttrs_list PySem.F.slot_list_append PySem.F.type_list_append mt_append (pv 1)
            (pa_cons (pe_op op_add_str (pe_op op_mul_txt pe_str (pe_callTy call_int1 (by rfl) mi PyProof.Rows.boot_int (pa_cons (pe_cmpR op_lt (pv 2) pe_int (nomark _)) pa_nil)))
              (pe_ix ix_str pe_str (pe_callB call_abs (by rfl) ma PyProof.Rows.boot_abs (pa_cons (pv 2) pa_nil)) (fun _ _ => rfl))) pa_nil))))
      apply pss_one
      · exact ps_ret (pe_ifExp (pt_cmpR (op_eqD hr.units) (pv 1) (pe_lst pa_nil) (nomark _)) pe_str (pe_join pe_str (pv 1)))
    refine ⟨Nat.zero_le _, fun W hW => ?_⟩
    have s1 := same_new (o := .lst []) hW
    have eW : (upd H W (.lst [])) W = some (.lst []) := upd_same
    have ep1 := s1 _ _ ep
    generalize upd H W (.lst []) = H1 at s1 eW ep1 ⊢
    have nWp : p ≠ W := ne_of_none ep hW
    refine ⟨.ref p, rfl, p, rfl, ⟨_, SqT.of ep1⟩, for_tup (K := K) (a := p) (xs := is.map V.int) (fun i σ H' => ∃ v, σ = [some (.ref p), some (.ref W), v] ∧ But W H1 H' ∧ H' W = some (.lst (((is.take i).map strI).map V.str))) ⟨none, rfl, But.refl, eW⟩ (fun i σ H' _ ⟨_, _, b, _⟩ => SqT.of (b _ _ nWp ep1)) ?_ ?_⟩
    · rintro i x σ H' hx ⟨v, rfl, b, e⟩
      obtain ⟨d, hd2, rfl⟩ := get_map hx
      have hb := hd d (List.mem_of_getElem? hd2)
      have ed : d = (-9 : Int) + (((d + 9).toNat : Nat) : Int) := by omega
      obtain ⟨c, hc, ew, lw⟩ := fig_at (d + 9).toNat (by omega)
      rw [← ed] at hc ew lw
      refine ⟨.ref W, rfl, .inl ⟨rfl, _, SqL.of e⟩, .int d, rfl, d, 0, rfl, rfl, .inr ⟨_, rfl, Str.ofString "-", _, rfl, rfl, ?_, .int d, rfl, d, rfl, _, _, c, rfl, rfl, by decide +kernel, hc, _, _, rfl, rfl, ?_, W, _, _, rfl, rfl, e, ?_, ?_⟩⟩
      · split
        · exact mulok1
        · exact mulok0
      · rw [sizeLine_eq]
        omega
      · rw [List.length_map, List.length_map]
        exact Nat.lt_of_le_of_lt (List.length_take_le' _ _) (small1000 (by omega))
      · refine ⟨some (.int d), rfl, b.trans But.at_, ?_⟩
        rw [upd_same, take_more hd2, List.map_append, List.map_append]
        show some (HO.lst (_ ++ [V.str (_ ++ _)])) = _
        rw [ew]
        rfl
    · rintro σ H' ⟨v, rfl, b, e⟩
      rw [List.length_map, List.take_length] at e
      have sA : Same H H' := fun c o h => b c o (ne_of_none h hW) (s1 c o h)
      refine ⟨.ref W, rfl, (by show 0 ≤ sizeLine; decide), fun l hl2 => ?_⟩
      have s2 := same_new (o := .lst []) hl2
      have e2 := s2 _ _ e
      have ok2 : ∀ z ∈ is.map strI, TOk 2 z := fun z hz => by
        obtain ⟨i, hi, rfl⟩ := List.mem_map.mp hz
        exact (strI_ok (hd i hi)).1
      refine ⟨.list ((is.map strI).map PyData.str), .list [], Dp.lst (SqL.of e2) (dp_strs _), Dp.lst (SqL.of upd_same) .nil, shaped_of ?_ ?_, by decide +kernel, _, rfl, ?_⟩
      · simp only [PyData.canLay0]
        exact can_strs fun z hz => (ok2 z hz).ok
      · simp only [PyData.depth, dep_strs]
        omega
      · rw [eqv_nils]
        by_cases hn : is = []
        · refine iteTB (decide_eq_true (by rw [hn]; rfl)) ?_
          have et : textOf is = Str.ofString "." := if_pos hn
          rw [et] at q
          exact q _ (sA.trans s2)
        · refine iteFB (decide_eq_false fun z => hn (List.map_eq_nil_iff.mp z)) ?_
          have et : textOf is = Txt.join (Str.ofString " ") (is.map strI) := if_neg hn
          rw [et] at q
          refine ⟨⟨_, rfl⟩, .ref W, rfl, _, W, is.map strI, rfl, rfl, .inl (SqL.of e2), ?_, q _ (sA.trans s2)⟩
          have h1 := sum_len ok2
          have h2 : (Str.ofString " ").length = 1 := by decide +kernel
          rw [h2]
          rw [List.length_map] at h1 ⊢
          omega

/-- what row_text refuses, told as a list -/
def spRef : Sp := fun vs H Q _ => ∃ x : V, vs = [x] ∧ BadRow H x ∧ ∀ l H', Same H H' → H l = none → H' l = some (.lst [.str "row", x, .bl true]) → Q (.ref l) H'
theorem scRf : FnScope ["_law_value", "_law_told", "e"] ["_law_value"] (defScope sRef) := ⟨rfl, rfl, rfl, by decide +kernel, rfl, by decide +kernel, by decide +kernel⟩
def t_ref (C : Addr) (W : WX) : TS := tAsg (tCallS (spRowText C) (WE W) (tCons (tVar 0) tNil)) (gName 1)
def t_refS (K : PySem.W.Frag) (C CF : Addr) : Addr → Value → Option Addr → TS := fun a cls d => tRet (tLst (tCons (tC (.str "row")) (tCons (tXf a cls d C "row" (tVar 2)) (tCons (tCB (rAsk K C a cls d) (tCons (tVar 2) (tCons (tC (.ref CF)) tNil))) tNil))))
theorem ok_ref {f fR fI C CF fF : Addr} {fd fdR : FuncData} (F : Fun K "_law_refused" "_law_refused" sRef f fd) (GR : FnOk P w K mg base (L2.CX P w) 5 fR fdR ["row"] (spRowText C)) (gR : mg "row_text" = some (.ref fR)) (kR : PySem.W.keepIn K (.ref fR) = true) (bR : Binds K fdR ["row"] [])
    (T : ErrC K mg "InvalidRow" "row" C fI) (TF : FigC K mg CF fF) (ask : AskC K C) (kk : PySem.W.kitOne K (.ref C) (.ref CF) = some true) (mis : mg "isinstance" = none) : FnOk P w K mg base CX0 6 f fd ["_law_value"] spRef := by
  refine F.ok scRf (fun vs H Q E h => ?_) (fun cdv A outer s H vs Q E hr h => ⟨tSeq (fun D σ H => t_ref C (wAs K (.ref C) 2 (t_refS K C CF) (fun _ _ _ _ => False) D) D σ H) (tRet (tLst (tCons (tC (.str "text")) (tCons (tVar 1) tNil)))), ?_, ?_⟩)
  · obtain ⟨x, rfl, _⟩ := h
    rfl
  · exact pss_cons (ps_try_as (i := 2) (tb := t_ref C) (ts := t_refS K C CF) (Wout := fun _ _ _ _ => False) rfl rfl scRf.nd rfl rfl ⟨rfl, by decide, Or.inl T.g⟩ takes0
      (fun W pn xe tk _ => pss_one (ps_set (i := 1) scRf.nd rfl (.inl rfl) (by exact (pe_callS GR hr (by rfl) gR kR bR (fun σ => passAt tk σ) (by exact (pa_cons (pv 0) pa_nil))))))
      (fun a oe cls d pn hz hf => pss_one (ps_ret (by exact (pe_lst (pa_cons pe_str (pa_cons (pe_xf T.xf T.no hz hf (pv 2)) (pa_cons (pe_callB (call_ask ask hz hf) (by rfl) mis PyProof.Rows.boot_isinstance (pa_cons (pv 2) (pa_cons (pe_glob (v := .ref CF) rfl TF.g rfl) pa_nil))) pa_nil)))))))) (pss_one (ps_ret (pe_lst (pa_cons pe_str (pa_cons (pv 1) pa_nil)))))
  · obtain ⟨x, rfl, bad, q⟩ := h
    refine ⟨x, rfl, x, rfl, .inr ⟨bad, fun fs d H' hd s1 ed => ?_⟩⟩
    refine ⟨true, T.te, fun _ a ha => ?_, fun q => nomatch q⟩
    refine ⟨.ref a, rfl, rfl, rfl, d, _, x, rfl, ed, by simp [List.lookup], .ref a, rfl, d, _, .ref CF, .ref CF, true, rfl, rfl, ed, rfl, fun u hu => hu, kk, ?_⟩
    exact ⟨(by show 3 ≤ sizeLine; decide), fun l hl => q l _ (Same.store s1 (s1.free hl)) (s1.free hl) upd_same⟩
end
end K02
namespace K02
open PySem PySem.Spec PyProof.Rows L2 OF
section
variable {P : Program} {w : World} {K : PySem.W.Frag} {mg : Str → Option Value} {base : Heap}

/-- nothing is raised -/
theorem passNo {X : Cx} {P' : Program} {w' : World} : Passes (L2.CX P' w') X E0 := fun _ _ _ _ _ _ _ h => by
  obtain ⟨_, _, _, _, _, _, _, _, _, _, _, _, z⟩ := h
  exact z.elim
/-- read_row of a row's text; row_text of a row -/
def spReadOk : Sp := fun vs H Q _ => ∃ (z : Str) (is : List Int), vs = [.str z] ∧ z.length ≤ 100000 ∧ readV z = some (is.map V.int) ∧ ∀ p H', H p = none → Same H H' → H' p = some (.tup (is.map V.int)) → Q (.ref p) H'
theorem readOk_imp {C : Addr} (vs : List V) (H : Hp) (Q : VK) (E : XK) (h : spReadOk vs H Q E) : OF.spRead C vs H Q E := by
  obtain ⟨z, is, rfl, hz, hr, q⟩ := h
  refine ⟨_, rfl, .inl ⟨z, rfl, hz, fun ds e p H' hp s ep => ?_, fun e => ?_⟩⟩
  · rw [hr] at e
    cases Option.some.inj e
    exact q p H' hp s ep
  · rw [hr] at e
    cases e
def spRowOk : Sp := fun vs H Q _ => ∃ (p : Addr) (is : List Int), vs = [.ref p] ∧ H p = some (.tup (is.map V.int)) ∧ is.length ≤ 200 ∧ (∀ i ∈ is, -9 ≤ i ∧ i ≤ 9) ∧ ∀ H', Same H H' → Q (.str (textOf is)) H'
theorem rowOk_imp {C : Addr} (vs : List V) (H : Hp) (Q : VK) (E : XK) (h : spRowOk vs H Q E) : spRowText C vs H Q E := by
  obtain ⟨p, is, rfl, h⟩ := h
  exact ⟨_, rfl, .inl ⟨p, is, rfl, h⟩⟩
/-- slices and sums of tuples: some tuple of the items -/
def rSlW : V → Option Int → Option Int → Hp → VK → Prop := fun x lo hi H Q => ∃ a xs, x = .ref a ∧ H a = some (.tup xs) ∧ ∀ p H', Same H H' → H' p = some (.tup (cutV xs lo hi)) → Q (.ref p) H'
theorem sl_tupW {X : Cx} : SlR X rSlW := by
  intro pins s σ H x v vl vu lo hi sl Q I rx hs pl pu h
  obtain ⟨a, xs, rfl, e, q⟩ := h
  refine sl_tupA pins s σ H _ v vl vu lo hi sl Q I rx hs pl pu ⟨a, xs, rfl, SqT.of e, fun hw => q a H (Same.refl H) ?_, fun _ p hp => q p _ (same_new hp) upd_same⟩
  have ec : cutV xs lo hi = xs := by
    unfold cutV
    rw [hw.1, hw.2, List.drop_zero, Nat.sub_zero, List.take_length]
  rw [ec]
  exact e
def rCatW : R2 := fun x y H Q => ∃ a b xs ys, x = .ref a ∧ y = .ref b ∧ H a = some (.tup xs) ∧ H b = some (.tup ys) ∧ xs.length + ys.length ≤ sizeLine ∧ ∀ p H', Same H H' → H' p = some (.tup (xs ++ ys)) → Q (.ref p) H'
theorem op_catW {X : Cx} : OpR X (binaryOp .Add) rCatW := by
  intro pins s σ H x y v u Q I rx ry h
  obtain ⟨a, b, xs, ys, rfl, rfl, ea, eb, hz, q⟩ := h
  refine op_catA pins s σ H _ _ v u Q I rx ry ⟨a, b, xs, ys, rfl, rfl, SqT.of ea, SqT.of eb, hz, fun e => ?_, fun _ e => ?_, fun _ _ p hp => q p _ (same_new hp) upd_same⟩
  · subst e
    exact q b H (Same.refl H) eb
  · subst e
    exact q a H (Same.refl H) (by rw [List.append_nil]; exact ea)
theorem BadRow.same {H H' : Hp} {x : V} (h : BadRow H x) (s : Same H H') : BadRow H' x := by
  rcases h with ⟨p, xs, rfl, ep, hl, hx, hf⟩ | h
  · exact .inl ⟨p, xs, rfl, s _ _ ep, hl, fun y hy => (hx y hy).same s, hf⟩
  · exact .inr (h.same s)
theorem tup_ne {K : PySem.W.Frag} {H : Hp} {p t : Addr} {is : List Int} {Q : V → Hp → Prop} (e1 : H p = some (.tup (is.map V.int))) (e2 : H t = some (.tup (is.map V.int))) (q : Q (.bl false) H) : rNeD K (.ref p) (.ref t) H Q := by
  have d1 := DatOf.tup (K := K) e1
  have d2 := DatOf.tup (K := K) e2
  have sh := shaped_of d1.can (Nat.le_trans d1.dep (by decide))
  refine ⟨_, _, d1.dp _ (Same.refl _), d2.dp _ (Same.refl _), sh, sh, ?_⟩
  rw [SeqAt.eqv_refl _ d1.can]
  exact q
theorem cut_sub {xs : List V} {lo hi : Option Int} : ∀ x ∈ cutV xs lo hi, x ∈ xs := fun x hx => by
  unfold cutV at hx
  exact List.mem_of_mem_drop (List.mem_of_mem_take hx)
def g1 {α : Type} (_ : List α) (ws : List α) : List α := ws
theorem kbRow {f : Addr} {fd : FuncData} (F : Fun K "row_text" "row_text" sRowText f fd) : KBn K fd ["row"] 0 ["row"] g1 g1 := by
  obtain ⟨oc, od, kV, doc, pm, an, cdv, ct, osl, rfl, lk, hcd⟩ := F.ex
  refine ⟨fun s us ws X l1 l2 => ?_, fun {vs us zs ws} r1 r2 => r2⟩
  match us, ws, l1, l2 with
  | [], [v], _, _ => exact .of_eq rfl
theorem kbRead {f : Addr} {fd : FuncData} (F : Fun K "read_row" "read_row" sRead f fd) : KBn K fd ["text"] 0 ["text"] g1 g1 := by
  obtain ⟨oc, od, kV, doc, pm, an, cdv, ct, osl, rfl, lk, hcd⟩ := F.ex
  refine ⟨fun s us ws X l1 l2 => ?_, fun {vs us zs ws} r1 r2 => r2⟩
  match us, ws, l1, l2 with
  | [], [v], _, _ => exact .of_eq rfl
def spRight : Sp := fun vs H Q _ => ∃ a : Addr, vs = [.ref a] ∧ Box 0 H a ∧ ∀ H', But a H H' → Q (.bl true) H'
abbrev nRi : List Str := ["_law_box_here", "_law_many", "_law_line", "_law_wording", "_law_spot", "_law_odd", "_law_wrong", "_law_late", "_law_told", "_law_k", "_law_digit"]
theorem scR : FnScope nRi ["_law_box_here"] (defScope sRight) := ⟨rfl, rfl, rfl, by decide +kernel, rfl, by decide +kernel, by decide +kernel⟩
set_option maxHeartbeats 8000000 in
theorem ok_right {f fT fX fR fE fO CR CT : Addr} {fd fdT fdX fdR fdE fdO : FuncData} (F : Fun K "_law_right" "_law_right" sRight f fd)
    (FT : Fun K "_law_take" "_law_take" sTake fT fdT) (gT : mg "_law_take" = some (.ref fT)) (bT : Binds K fdT ["_law_box_here", "_law_many"] [])
    (FX : Fun K "_law_text" "_law_text" sText fX fdX) (gX : mg "_law_text" = some (.ref fX)) (bX : Binds K fdX ["_law_line"] [])
    (GR0 : FnOk P w K mg base (L2.CX P w) 5 fR fdR ["row"] (spRowText CR)) (FR : Fun K "row_text" "row_text" sRowText fR fdR) (gR : mg "row_text" = some (.ref fR)) (bR : Binds K fdR ["row"] [])
    (GE0 : FnOk P w K mg base (L2.CX P w) 5 fE fdE ["text"] (OF.spRead CT)) (FE : Fun K "read_row" "read_row" sRead fE fdE) (gE : mg "read_row" = some (.ref fE)) (bE : Binds K fdE ["text"] [])
    (GO : FnOk P w K mg base CX0 6 fO fdO ["_law_value"] spRef) (gO : mg "_law_refused" = some (.ref fO)) (kO : PySem.W.keepIn K (.ref fO) = true) (bO : Binds K fdO ["_law_value"] [])
    (mi : mg "int" = none) (ma : mg "abs" = none) (mr : mg "range" = none) (mt : mg "tuple" = none) (ml : mg "list" = none) (mis : mg "isinstance" = none) (mb : BoolW K mg) :
    FnOk P w K mg base CX0 7 f fd ["_law_box_here"] spRight := by
  have GT : FnOk P w K mg base CX0 2 fT fdT ["_law_box_here", "_law_many"] spTake := ok_take FT mi
  have GX : FnOk P w K mg base CX0 2 fX fdX ["_law_line"] spText := ok_text FX mi ma
  have GR := GR0.imp (sp' := spRowOk) rowOk_imp
  have GE := GE0.imp (sp' := spReadOk) readOk_imp
  refine F.ok scR (fun vs H Q E h => ?_) (fun cdv A outer s H vs Q E hr5 h => ?_)
  · obtain ⟨a, rfl, _⟩ := h
    rfl
  · obtain ⟨a, rfl, hB, q⟩ := h
    have hr : Room 2 _ := hr5.mono (by decide)
    have hr4 : Room 5 _ := hr5.mono (by decide)
    apply Exists.intro
    apply And.intro
    · apply pss_cons
      · exact ps_set (i := 1) scR.nd rfl (.inl rfl) (pe_ix ix_list (pe_lst (pa_cons (pe_call GT hr (by rfl) gT FT.kp bT .nil pass0 (pa_cons (pv 0) (pa_cons pe_int pa_nil))) (pa_cons (pe_call GT hr (by rfl) gT FT.kp bT .nil pass0 (pa_cons (pv 0) (pa_cons pe_int pa_nil))) (pa_cons pe_int pa_nil)))) (pe_call GT hr (by rfl) gT FT.kp bT .nil pass0 (pa_cons (pv 0) (pa_cons pe_int pa_nil))) (fun _ _ => rfl))
      apply pss_cons
      · exact ps_set (i := 2) scR.nd rfl (.inl rfl) (pe_callTy call_tuple_of (by rfl) mt (by decide +kernel) (pa_cons (pe_lc (own := [("_law_k", 9)]) (g := gName 9) (tt := tYes) rfl scR.nd (pi_range1 rfl mr (pa_cons (pv 1) pa_nil))
            (blkOk_by (own := [("_law_k", 9)]) (N := nRi) (sc := defScope sRight) (by decide +kernel)) (fun _ _ _ _ _ => pg_name (i := 9) scR.nd rfl (Or.inl rfl)) (fun _ _ _ _ _ => pts_nil) (fun _ _ _ _ _ => by exact (pe_op op_sub (pe_call GT hr (by rfl) gT FT.kp bT .nil pass0 (pa_cons (pv 0) (pa_cons pe_int pa_nil))) pe_int))) pa_nil))
      apply pss_cons
      · exact ps_set (i := 3) scR.nd rfl (.inl rfl) (pe_call GX hr (by rfl) gX FX.kp bX .nil pass0 (pa_cons (pv 2) pa_nil))
      apply pss_cons
      · exact ps_if (PW.pt (pw_or (pt_cmpR op_ne (pe_call GR hr4 (by rfl) gR FR.kp bR .nil passNo (pa_cons (pv 2) pa_nil)) (pv 3) (nomark _)) (pw_or (pt_cmpR (op_neD hr.units) (pe_call GE hr4 (by rfl) gE FE.kp bE .nil passNo (pa_cons (pv 3) pa_nil)) (pv 2) (nomark _))
            (pw_or1 (pt_not (pt_val (pe_callB call_isi (by rfl) mis PyProof.Rows.boot_isinstance (pa_cons (pe_call GE hr4 (by rfl) gE FE.kp bE .nil passNo (pa_cons (pv 3) pa_nil)) (pa_cons (pe_bltn (v := .ty "tuple") (by rfl) mt (by decide +kernel) rfl) pa_nil))))))))) (pss_one (ps_ret pe_bl)) pss_nil
      apply pss_cons
      · exact ps_if (pt_cmpR (op_neD hr.units) (pe_lc (own := [("_law_digit", 10)]) (g := gName 10) (tt := tB (tCB (rIsi K) (tCons (tVar 10) (tCons (tC (.ty "bool")) tNil)))) rfl scR.nd (pi_tup (pe_call GE hr4 (by rfl) gE FE.kp bE .nil passNo (pa_cons (pv 3) pa_nil)))
            (blkOk_by (own := [("_law_digit", 10)]) (N := nRi) (sc := defScope sRight) (by decide +kernel)) (fun _ _ _ _ _ => pg_name (i := 10) scR.nd rfl (Or.inl rfl))
            (fun _ _ _ _ _ => by exact (pts_one (pt_val (pe_callB call_isi (by rfl) mis PyProof.Rows.boot_isinstance (pa_cons (pv 10) (pa_cons (pe_bltn (v := .ty "bool") (by rfl) mb.b PyProof.Rows.boot_bool rfl) pa_nil)))))) (fun _ _ _ _ _ => by exact (pv 10))) (pe_lst pa_nil) (nomark _)) (pss_one (ps_ret pe_bl)) pss_nil
      apply pss_cons
      · exact ps_if (pt_cmpR op_ne (pe_call GR hr4 (by rfl) gR FR.kp bR .nil passNo (pa_cons (pe_callN0 GE hr4 (by rfl) gE FE.kp (kbRead FE) passNo (pk_cons (pv 3) pk_nil)) pa_nil)) (pv 3) (nomark _)) (pss_one (ps_ret pe_bl)) pss_nil
      apply pss_cons
      · exact ps_par (i := 4) (j := 5) rfl scR.nd rfl rfl (by decide) rfl rfl (pa_cons (pe_call GT hr (by rfl) gT FT.kp bT .nil pass0 (pa_cons (pv 0) (pa_cons (pe_op op_add (pv 1) pe_int) pa_nil))) (pa_cons (pe_ix ix_list (pe_lst (pa_cons pe_int (pa_cons (pe_un un_neg pe_int) (pa_cons pe_bl (pa_cons pe_non (pa_cons pe_str (pa_cons (pe_tup (pa_cons pe_int pa_nil)) (pa_cons (pe_op op_pow pe_int pe_int) pa_nil)))))))) (pe_call GT hr (by rfl) gT FT.kp bT .nil pass0 (pa_cons (pv 0) (pa_cons pe_int pa_nil))) (fun _ _ => rfl)) pa_nil)) (by rfl)
      apply pss_cons
      · exact ps_for PassesOwn.never rfl (pi_list (pe_lst (pa_cons (pe_op op_catW (pe_op op_catW (pe_slice sl_tupW (pv 2) po_none (po_some (pv 4))) (pe_tup (pa_cons (pv 5) pa_nil))) (pe_slice sl_tupW (pv 2) (po_some (pv 4)) po_none)) (pa_cons (pe_callTy call_list_of (by rfl) ml PyProof.Rows.boot_list (pa_cons (pv 2) pa_nil)) (pa_cons (pv 3) (pa_cons pe_non (pa_cons pe_int (pa_cons (pe_disp (pps_cons pe_int pe_int pps_nil) (by rfl) (by rfl) (fun z => by cases z) (by decide)) pa_nil)))))))) (pg_name (i := 6) scR.nd rfl (.inl rfl))
          (pss_one (ps_if (pt_cmpR (op_neSame hr.units) (pe_call GO hr5 (by rfl) gO kO bO .nil pass0 (pa_cons (pv 6) pa_nil)) (pe_lst (pa_cons pe_str (pa_cons (pv 6) (pa_cons pe_bl pa_nil)))) (nomark _)) (pss_one (ps_ret pe_bl)) pss_nil))
      apply pss_cons
      · exact ps_set (i := 7) scR.nd rfl (.inl rfl) (pe_callTy call_list_of (by rfl) ml PyProof.Rows.boot_list (pa_cons (pv 2) pa_nil))
      apply pss_cons
      · exact ps_set (i := 8) scR.nd rfl (.inl rfl) (pe_call GO hr5 (by rfl) gO kO bO .nil pass0 (pa_cons (pv 7) pa_nil))
      apply pss_cons
      · exact ps_expr (pe_bm PySem.F.plainAttrs_list PySem.F.slot_list_append PySem.F.type_list_append mt_append (pv 7) (pa_cons pe_int pa_nil))
      apply pss_one
      · exact ps_ret (pe_and (pe_cmpR (op_eqD hr.units) (pe_ix ix_list (pv 8) pe_int (fun _ _ => rfl)) (pv 7) (nomark _)) (pe_one (pe_cmpR op_eq (pe_callN0 GR hr4 (by rfl) gR FR.kp (kbRow FR) passNo (pk_cons (pv 2) pk_nil)) (pv 3) (nomark _))))
    -- many
    refine ⟨.ref a, rfl, a, 13, 0, rfl, hB, by decide, by decide, by decide, fun m1 H1 x0 x1 t1 B1 => ?_⟩
    refine ⟨.ref a, rfl, a, 13, _, rfl, B1, by decide, by decide, by decide, fun m2 H2 y0 y1 t2 B2 => ?_⟩
    refine ⟨(by show 3 ≤ sizeLine; decide), fun l hl => ?_⟩
    refine ⟨.ref a, rfl, a, 3, _, rfl, B2.new hl, by decide, by decide, by decide, fun r H3 z0 z1 t3 B3 => ?_⟩
    have el := t3 _ _ (B2.ne hl) upd_same
    have hm : ∃ m : Int, atI [V.int m1, V.int m2, V.int 100] r = some (V.int m) ∧ 0 ≤ m ∧ m ≤ 100 := by
      have h : r = 0 ∨ r = 1 ∨ r = 2 := by omega
      rcases h with rfl | rfl | rfl
      · exact ⟨m1, atI_nat (j := 0) rfl, x0, by omega⟩
      · exact ⟨m2, atI_nat (j := 1) rfl, y0, by omega⟩
      · exact ⟨100, atI_nat (j := 2) rfl, by decide, by decide⟩
    obtain ⟨m, em, m0, m100⟩ := hm
    refine ⟨l, _, r, .int m, rfl, rfl, SqL.of el, em, ?_⟩
    have T3 : But a H H3 := t1.trans (t2.trans ((But.new hl).trans t3))
    -- line
    refine ⟨.int m, rfl, m, rfl, by omega, by omega, fun D hD => ?_⟩
    have nDa := B3.ne hD
    refine lc_range (lo := 0) (n := m.toNat) (fun i H' => But a H3 H' ∧ Box (3 + i) H' a ∧ ∃ is : List Int, H' D = some (.lst (is.map V.int)) ∧ is.length = i ∧ ∀ i ∈ is, -9 ≤ i ∧ i ≤ 9) ⟨But.new hD, (B3.new hD).mono (by decide), [], upd_same, rfl, fun k h => by cases h⟩ ?_ ?_
    · rintro i H' hi ⟨t, B, is, eD, lk, hk⟩
      refine ⟨rfl, tYes_if ⟨.ref a, rfl, a, 19, _, rfl, B, by omega, by decide, by decide, fun r2 H2' k0 k1 t2' B2' => ?_⟩⟩
      refine ⟨r2, 9, rfl, rfl, _, t2' _ _ nDa eD, ?_, (t.trans t2').store hD, (B2'.upd nDa).mono (by omega), is ++ [r2 - 9], ?_, ?_, fun k h => ?_⟩
      · rw [List.length_map, lk]
        exact small1000 (by omega)
      · rw [upd_same, List.map_append]
        rfl
      · rw [List.length_append, lk]
        rfl
      · rcases List.mem_append.mp h with h | h
        · exact hk k h
        · cases List.mem_singleton.mp h
          omega
    · rintro H4 ⟨t, B4, is, eD, lk, hd⟩
      have hl200 : is.length ≤ 200 := by omega
      have T4 : But a H H4 := T3.trans t
      refine ⟨D, _, rfl, .inl ⟨SqL.of eD, fun tp htp => ?_⟩⟩
      have nta := B4.ne htp
      have B5 := B4.new (o := .tup (is.map V.int)) htp
      have T5 : But a H (upd H4 tp (.tup (is.map V.int))) := T4.trans (But.new htp)
      have et : (upd H4 tp (.tup (is.map V.int))) tp = some (.tup (is.map V.int)) := upd_same
      generalize upd H4 tp (.tup (is.map V.int)) = H5 at B5 T5 et ⊢
      -- wording
      refine ⟨.ref tp, rfl, tp, is, rfl, et, hl200, hd, fun H6 s6 => ?_⟩
      have hread := read_text hd
      have otext := textOf_ok hd hl200
      have hzl : (textOf is).length ≤ 100000 := Nat.le_trans otext.len (by decide)
      have et6 := s6 _ _ et
      refine ⟨.ref tp, rfl, tp, is, rfl, et6, hl200, hd, fun H7 s7 => ⟨.str (textOf is), rfl, rfl, _, rfl, iteFB (neSame rfl) ?_⟩⟩
      have et7 := s7 _ _ et6
      refine ⟨.str (textOf is), rfl, textOf is, is, rfl, hzl, hread, fun p8 H8 _ s8 ep8 => ⟨.ref tp, rfl, tup_ne ep8 (s8 _ _ et7) ⟨_, rfl, iteF ?_⟩⟩⟩
      have et8 := s8 _ _ et7
      refine ⟨.str (textOf is), rfl, textOf is, is, rfl, hzl, hread, fun p9 H9 _ s9 ep9 => ⟨.ref p9, .ty "tuple", .type "tuple", .type "tuple", true, rfl, .ty _, .base (.tup ep9), kit_ty (by decide +kernel), true, rfl, iteF ?_⟩⟩
      have et9 := s9 _ _ et8
      -- no truths
      refine ⟨.str (textOf is), rfl, textOf is, is, rfl, hzl, hread, fun p10 H10 _ s10 ep10 => ⟨p10, rfl, ⟨_, SqT.of ep10⟩, fun D2 hD2 => ?_⟩⟩
      have et10 := s10 _ _ et9
      refine lc_tup (K := K) (a := p10) (xs := is.map V.int) (fun i H' => Same H10 H' ∧ H' D2 = some (.lst [])) ⟨same_new hD2, upd_same⟩ (fun i H' _ h => SqT.of (h.1 _ _ ep10)) ?_ ?_
      · rintro i x H' hx ⟨s11, e11⟩
        obtain ⟨k, hk, rfl⟩ := get_map hx
        exact ⟨rfl, .int k, rfl, .int k, .ty "bool", .type "int", .type "bool", false, rfl, .ty _, .base (.int k), kit_ty (by decide +kernel), false, rfl, iteF ⟨s11, e11⟩⟩
      · rintro H11 ⟨s11, e11⟩
        refine ⟨(by show 0 ≤ sizeLine; decide), fun l2 hl2 => ?_⟩
        have s12 := same_new (o := .lst []) hl2
        refine ⟨.list [], .list [], Dp.lst (SqL.of (s12 _ _ e11)) .nil, Dp.lst (SqL.of upd_same) .nil, by decide +kernel, by decide +kernel, _, rfl, iteFB (by decide +kernel) ?_⟩
        have et12 := s12 _ _ (s11 _ _ et10)
        have sA : Same H5 (upd H11 l2 (.lst [])) := s6.trans (s7.trans (s8.trans (s9.trans (s10.trans (s11.trans s12)))))
        generalize upd H11 l2 (.lst []) = H12 at sA et12 ⊢
        -- there and back
        refine ⟨.str (textOf is), rfl, rfl, rfl, textOf is, is, rfl, hzl, hread, fun p13 H13 _ s13 ep13 => ⟨p13, is, rfl, ep13, hl200, hd, fun H14 s14 => ⟨.str (textOf is), rfl, rfl, _, rfl, iteFB (neSame rfl) ?_⟩⟩⟩
        have et14 := s14 _ _ (s13 _ _ et12)
        have sB := sA.trans (s13.trans s14)
        have B14 := B5.same sB
        have T14 : But a H H14 := T5.trans (But.of_same sB)
        clear sA sB s6 s7 s8 s9 s10 s11 s12 s13 s14 et et6 et7 et8 et9 et10 et12
        -- spot, odd
        refine ⟨.ref a, rfl, .int m, rfl, m, 1, rfl, rfl, a, m + 1, _, rfl, B14, by omega, by omega, Nat.lt_of_le_of_lt (by omega : (m + 1).natAbs ≤ 101) (by decide), fun spot H15 sp0 sp1 t15 B15 => ?_⟩
        have et15 := t15 _ _ nta et14
        refine ⟨_, rfl, (by show 1 ≤ sizeLine; decide), fun p1 hp1 => ?_⟩
        have B16 := B15.new (o := .tup [.int 1]) hp1
        have np1 := B15.ne hp1
        have et16 := same_new (o := .tup [.int 1]) hp1 _ _ et15
        have e16 : (upd H15 p1 (.tup [.int 1])) p1 = some (.tup [.int 1]) := upd_same
        have T16 : But a H (upd H15 p1 (.tup [.int 1])) := T14.trans (t15.trans (But.new hp1))
        generalize upd H15 p1 (.tup [.int 1]) = H16 at B16 et16 e16 T16 ⊢
        refine ⟨_, _, rfl, rfl, ⟨by decide, by decide, by decide⟩, (by show 7 ≤ sizeLine; decide), fun lo hlo => ?_⟩
        refine ⟨.ref a, rfl, a, 7, _, rfl, B16.new hlo, by omega, by decide, by decide, fun r7 H17 q0 q1 t17 B17 => ?_⟩
        have elo := t17 _ _ (B16.ne hlo) upd_same
        have et17 := t17 _ _ nta ((same_new hlo) _ _ et16)
        have e17 := t17 _ _ np1 ((same_new hlo) _ _ e16)
        have T17 : But a H H17 := T16.trans ((But.new hlo).trans t17)
        obtain ⟨od, eod, mod_⟩ := pick (xs := [V.int 10, .int (-10), .bl true, .non, .str (Str.ofString "1"), .ref p1, .int ((10 : Int) ^ (30 : Int).toNat)]) q0 q1
        have hod : IntOdd H17 od ∧ digB od = false := by
          simp only [List.mem_cons, List.not_mem_nil, or_false] at mod_
          rcases mod_ with rfl | rfl | rfl | rfl | rfl | rfl | rfl
          · exact ⟨.inl ⟨_, rfl⟩, by decide⟩
          · exact ⟨.inl ⟨_, rfl⟩, by decide⟩
          · exact ⟨.inr (.bl _), rfl⟩
          · exact ⟨.inr .non, rfl⟩
          · exact ⟨.inr (.str _), rfl⟩
          · exact ⟨.inr (.tup e17), rfl⟩
          · exact ⟨.inl ⟨_, rfl⟩, by decide⟩
        refine ⟨lo, _, r7, od, rfl, rfl, SqL.of elo, eod, _, _, rfl, ?_⟩
        clear mod_ eod elo e17 e16 T16 B16 et16 t17 t15 B15 B14 T14 et14 et15
        have lc : ∀ lo hi, (cutV (is.map V.int) lo hi).length ≤ 200 := fun lo hi => Nat.le_trans (cutV_length _ _ _) (by rw [List.length_map]; exact hl200)
        refine ⟨.ref tp, rfl, .int spot, rfl, spot, rfl, tp, _, rfl, et17, fun pa Ha sa ea => ?_⟩
        refine ⟨od, rfl, (by show 1 ≤ sizeLine; decide), fun pb hpb => ?_⟩
        have sb := same_new (o := .tup [od]) hpb
        have eb : (upd Ha pb (.tup [od])) pb = some (.tup [od]) := upd_same
        generalize upd Ha pb (.tup [od]) = Hb at sb eb ⊢
        refine ⟨pa, pb, _, _, rfl, rfl, sb _ _ ea, eb, ?_, fun pc Hc sc ec => ?_⟩
        · have := lc none (some spot)
          rw [sizeLine_eq]
          show _ + 1 ≤ _
          omega
        have etc := sc _ _ (sb _ _ (sa _ _ et17))
        refine ⟨.ref tp, rfl, .int spot, rfl, spot, rfl, tp, _, rfl, etc, fun pd Hd sd ed => ?_⟩
        refine ⟨pc, pd, _, _, rfl, rfl, sd _ _ ec, ed, ?_, fun pe He se ee => ?_⟩
        · have h1 := lc none (some spot)
          have h2 := lc (some spot) none
          rw [sizeLine_eq, List.length_append]
          show _ + 1 + _ ≤ _
          omega
        have ete := se _ _ (sd _ _ etc)
        have s17 : Same H17 He := sa.trans (sb.trans (sc.trans (sd.trans se)))
        have hbig : (∀ y ∈ cutV (is.map V.int) none (some spot) ++ [od] ++ cutV (is.map V.int) (some spot) none, IntOdd He y) ∧ (cutV (is.map V.int) none (some spot) ++ [od] ++ cutV (is.map V.int) (some spot) none).all digB = false ∧
            (cutV (is.map V.int) none (some spot) ++ [od] ++ cutV (is.map V.int) (some spot) none).length ≤ 1000 := by
          refine ⟨fun y hy => ?_, ?_, ?_⟩
          · rcases List.mem_append.mp hy with h | h
            · rcases List.mem_append.mp h with h | h
              · obtain ⟨i, _, rfl⟩ := List.mem_map.mp (cut_sub y h)
                exact .inl ⟨i, rfl⟩
              · cases List.mem_singleton.mp h
                exact hod.1.same s17
            · obtain ⟨i, _, rfl⟩ := List.mem_map.mp (cut_sub y h)
              exact .inl ⟨i, rfl⟩
          · rw [List.all_append, List.all_append]
            simp only [List.all_cons, hod.2, Bool.false_and, Bool.and_false]
          · have h1 := lc none (some spot)
            have h2 := lc (some spot) none
            rw [List.length_append, List.length_append]
            show _ + 1 + _ ≤ _
            omega
        generalize cutV (is.map V.int) none (some spot) ++ [od] ++ cutV (is.map V.int) (some spot) none = big at hbig ee
        refine ⟨.ref tp, rfl, tp, _, rfl, .inr (SqT.of ete), fun pf hpf => ?_⟩
        refine ⟨.str (textOf is), rfl, fun pg hpg => ⟨upd_same, [(Sum.inl 1, .int 2)], rfl, (by show 1 ≤ 15; decide), (by show 6 ≤ sizeLine; decide), fun L hL => ?_⟩⟩
        have s18 := same_new (o := .lst (is.map V.int)) hpf
        have s19 := Same.store (o := .dK (mergeK [] [(Sum.inl 1, .int 2)])) (same_new (o := .dK []) hpg) hpg
        have s20 := same_new (o := .lst [.ref pe, .ref pf, .str (textOf is), .non, .int 3, .ref pg]) hL
        have ef := s20 _ _ (s19 _ _ (upd_same (H := He) (a := pf) (o := .lst (is.map V.int))))
        have eg := s20 _ _ (upd_same (H := upd (upd He pf (.lst (is.map V.int))) pg (.dK [])) (a := pg) (o := .dK (mergeK [] [(Sum.inl 1, .int 2)])))
        have sL := s18.trans (s19.trans s20)
        have eL : (upd (upd (upd (upd He pf (.lst (is.map V.int))) pg (.dK [])) pg (.dK (mergeK [] [(Sum.inl 1, .int 2)]))) L (.lst [.ref pe, .ref pf, .str (textOf is), .non, .int 3, .ref pg])) L = some (.lst [.ref pe, .ref pf, .str (textOf is), .non, .int 3, .ref pg]) := upd_same
        have etL := sL _ _ ete
        have eeL := sL _ _ ee
        have T20 := T17.trans (But.of_same (s17.trans sL))
        have hbig1 : ∀ y ∈ big, IntOdd (upd (upd (upd (upd He pf (.lst (is.map V.int))) pg (.dK [])) pg (.dK (mergeK [] [(Sum.inl 1, .int 2)]))) L (.lst [.ref pe, .ref pf, .str (textOf is), .non, .int 3, .ref pg])) y := fun y hy => (hbig.1 y hy).same sL
        generalize upd (upd (upd (upd He pf (.lst (is.map V.int))) pg (.dK [])) pg (.dK (mergeK [] [(Sum.inl 1, .int 2)]))) L (.lst [.ref pe, .ref pf, .str (textOf is), .non, .int 3, .ref pg]) = H20 at ef eg eL etL eeL T20 hbig1 ⊢
        have bad : ∀ x ∈ [V.ref pe, .ref pf, .str (textOf is), .non, .int 3, .ref pg], BadRow H20 x ∧ (flatB x = true ∨ ∃ a, x = .ref a) := fun x hx => by
          simp only [List.mem_cons, List.not_mem_nil, or_false] at hx
          rcases hx with rfl | rfl | rfl | rfl | rfl | rfl
          · exact ⟨.inl ⟨pe, big, rfl, eeL, hbig.2.2, hbig1, hbig.2.1⟩, .inr ⟨_, rfl⟩⟩
          · exact ⟨.inr (.lst ef), .inr ⟨_, rfl⟩⟩
          · exact ⟨.inr (.str _), .inl rfl⟩
          · exact ⟨.inr .non, .inl rfl⟩
          · exact ⟨.inr (.int 3), .inl rfl⟩
          · exact ⟨.inr (.dK eg), .inr ⟨_, rfl⟩⟩
        clear hbig hbig1 eeL ef eg s18 s19 s20 sL s17 sa sb sc sd se ea eb ec ed ee
        refine ⟨L, rfl, ⟨_, SqL.of eL⟩, for_list (K := K) (a := L) (xs := [V.ref pe, .ref pf, .str (textOf is), .non, .int 3, .ref pg]) (fun i σ H' => (∃ v, σ = [some (.ref a), some (.int m), some (.ref tp), some (.str (textOf is)), some (.int spot), some od, v, none, none, none, none]) ∧ Same H20 H') ⟨⟨none, rfl⟩, Same.refl _⟩ (fun i σ H' _ h => h.2.seq (SqL.of eL)) ?_ ?_⟩
        · rintro i x σ H' hx ⟨⟨v, rfl⟩, s21⟩
          obtain ⟨bx, fx⟩ := bad x (List.mem_of_getElem? hx)
          refine ⟨x, rfl, x, rfl, bx.same s21, fun l3 H22 s22 hl3 el3 => ?_⟩
          refine ⟨x, rfl, (by show 3 ≤ sizeLine; decide), fun l4 hl4 => ?_⟩
          have s23 := same_new (o := .lst [.str "row", x, .bl true]) hl4
          refine ⟨l3, l4, [.str "row", x, .bl true], rfl, rfl, SqL.of (s23 _ _ el3), SqL.of upd_same, fun v hv => ?_, _, rfl, iteF ⟨⟨some x, rfl⟩, s21.trans (s22.trans s23)⟩⟩
          simp only [List.mem_cons, List.not_mem_nil, or_false] at hv
          rcases hv with rfl | rfl | rfl
          · exact .inl rfl
          · exact fx
          · exact .inl rfl
        · rintro σ H' ⟨⟨v, rfl⟩, s21⟩
          have et21 := s21 _ _ etL
          refine ⟨.ref tp, rfl, tp, _, rfl, .inr (SqT.of et21), fun la hla => ?_⟩
          have s22 := same_new (o := .lst (is.map V.int)) hla
          have ela : (upd H' la (.lst (is.map V.int))) la = some (.lst (is.map V.int)) := upd_same
          have et22 := s22 _ _ et21
          generalize upd H' la (.lst (is.map V.int)) = H22 at s22 ela et22 ⊢
          refine ⟨.ref la, rfl, .ref la, rfl, .inr (.lst ela), fun l5 H23 s23 hl5 el5 => ?_⟩
          have ela23 := s23 _ _ ela
          have nl : l5 ≠ la := (ne_of_none ela hl5).symm
          refine ⟨.ref la, rfl, .inl ⟨rfl, _, SqL.of ela23⟩, la, _, _, rfl, rfl, ela23, ?_, ?_⟩
          · rw [List.length_map]
            exact small1000 (by omega)
          have el24 : (upd H23 la (.lst (is.map V.int ++ [.int 1]))) l5 = some (.lst [.str "row", .ref la, .bl true]) := by
            rw [upd_ne nl]
            exact el5
          have ela24 : (upd H23 la (.lst (is.map V.int ++ [.int 1]))) la = some (.lst ((is ++ [1]).map V.int)) := by
            rw [upd_same, List.map_append]
            rfl
          have nlt : tp ≠ la := ne_of_none et21 hla
          have et24 : (upd H23 la (.lst (is.map V.int ++ [.int 1]))) tp = some (.tup (is.map V.int)) := by
            rw [upd_ne nlt]
            exact s23 _ _ et22
          have sZ : But a H (upd H23 la (.lst (is.map V.int ++ [.int 1]))) := fun b o nb hb => by
            have h1 := s21 _ _ (T20 b o nb hb)
            rw [upd_ne (ne_of_none h1 hla)]
            exact s23 _ _ (s22 _ _ h1)
          generalize upd H23 la (.lst (is.map V.int ++ [.int 1])) = H24 at el24 ela24 et24 sZ ⊢
          have dd : Dp K H24 (.ref la) (.list ((is ++ [1]).map PyData.int)) := Dp.lst (SqL.of ela24) (dp_ints _)
          have dc : (PyData.list ((is ++ [1]).map PyData.int)).canLay0 = true := by simp only [PyData.canLay0, can_ints]
          have dh : (PyData.list ((is ++ [1]).map PyData.int)).depth ≤ 64 := by simp only [PyData.depth, dep_ints]; omega
          refine ⟨.ref l5, rfl, l5, _, 1, .ref la, rfl, rfl, SqL.of el24, atI_nat (j := 1) rfl, .ref la, rfl, _, _, dd, dd, shaped_of dc dh, shaped_of dc dh, _, rfl, iteTB (SeqAt.eqv_refl _ dc) ?_⟩
          refine ⟨.ref tp, rfl, rfl, rfl, tp, is, rfl, et24, hl200, hd, fun H25 s25 => ⟨.str (textOf is), rfl, rfl, q_eq rfl (q _ (sZ.trans (But.of_same s25)))⟩⟩
end
end K02
namespace K02
open PySem PySem.Spec PyProof.Rows L2 OF
section
variable {P : Program} {w : World} {K : PySem.W.Frag} {mg : Str → Option Value} {base : Heap}

def spLaw (K : PySem.W.Frag) : Sp := fun vs H Q _ => ∃ (a : Addr) (ns : List Int), vs = [.ref a] ∧ SqL K H a (ns.map V.int) ∧ ns.length ≤ 63 ∧ ∀ H', Q (.bl true) H'
theorem scL : FnScope ["_law_script", "_law_k"] ["_law_script"] (defScope sLaw) := ⟨rfl, rfl, rfl, by decide +kernel, rfl, by decide +kernel, by decide +kernel⟩
theorem ok_law {f fC fX fR : Addr} {fd fdC fdX fdR : FuncData} (F : Fun K "law" "law" sLaw f fd)
    (FC : Fun K "_law_cell" "_law_cell" sCell fC fdC) (gC : mg "_law_cell" = some (.ref fC)) (bC : Binds K fdC ["_law_script", "_law_k"] [])
    (FX : Fun K "_law_box" "_law_box" sBox fX fdX) (gX : mg "_law_box" = some (.ref fX)) (bX : Binds K fdX ["_law_cell_here"] [])
    (GR : FnOk P w K mg base CX0 7 fR fdR ["_law_box_here"] spRight) (gR : mg "_law_right" = some (.ref fR)) (kR : PySem.W.keepIn K (.ref fR) = true) (bR : Binds K fdR ["_law_box_here"] [])
    (mi : mg "int" = none) (ml : mg "len" = none) (mr : mg "range" = none) (mx : mg "max" = none) (mn : mg "min" = none) : FnOk P w K mg base CX0 (8) f fd ["_law_script"] (spLaw K) := by
  have GC : FnOk P w K mg base CX0 2 fC fdC ["_law_script", "_law_k"] (OF.spCell K) := ok_cell FC ml
  have GX : FnOk P w K mg base CX0 2 fX fdX ["_law_cell_here"] spBox := ok_box FX mi mx
  refine F.ok scL (fun vs H Q E h => ?_) (fun cdv A outer s H vs Q E hr h => ?_)
  · obtain ⟨a, ns, rfl, _⟩ := h
    rfl
  · obtain ⟨a, ns, rfl, hS, hlen, q⟩ := h
    have hr1 : Room 2 _ := hr.mono (by decide)
    apply Exists.intro
    apply And.intro
    · apply pss_cons
      · exact ps_for PassesOwn.never rfl (pi_range1 rfl mr (pa_cons (pe_callB (call_max2 rfl) (by rfl) mx PyProof.Rows.boot_max (pa_cons pe_int (pa_cons
            (pe_callB (call_min2 rfl) (by rfl) mn PyProof.Rows.boot_min (pa_cons pe_int (pa_cons (pe_callB call_len_seq (by rfl) ml PySem.boot_len (pa_cons (pv 0) pa_nil)) pa_nil))) pa_nil))) pa_nil))
          (pg_name (i := 1) scL.nd rfl (.inl rfl))
          (pss_one (ps_if (pt_not (pt_val (pe_call GR hr (by rfl) gR kR bR .nil pass0 (pa_cons (pe_call GX hr1 (by rfl) gX FX.kp bX .nil pass0 (pa_cons (pe_call GC hr1 (by rfl) gC FC.kp bC .nil pass0 (pa_cons (pv 0) (pa_cons (pv 1) pa_nil))) pa_nil)) pa_nil))))
            (pss_one (ps_ret pe_bl)) pss_nil))
      apply pss_one
      · exact ps_ret pe_bl
    refine ⟨.ref a, rfl, a, _, rfl, .inl hS, _, _, rfl, _, _, rfl, _, rfl, ?_, ?_, for_range (lo := 0) (n := _) (fun i σ H' => ∃ v, σ = [some (.ref a), v] ∧ SqL K H' a (ns.map V.int)) ⟨none, rfl, hS⟩ ?_ ?_⟩
    · rw [List.length_map]
      split <;> split <;> omega
    · rw [List.length_map]
      split <;> split <;> omega
    · rintro i σ H' hi ⟨v, rfl, hS'⟩
      have hi' : i < 1000 := by
        rw [List.length_map] at hi
        split at hi <;> split at hi <;> omega
      refine ⟨.ref a, rfl, .int (0 + i), rfl, a, ns, i, ?_, hS', hi', fun c => ?_⟩
      · rw [Int.zero_add]
        rfl
      refine ⟨c, rfl, fun p H1 hp s1 B1 => ?_⟩
      refine ⟨p, rfl, B1, fun H2 t2 => ⟨true, rfl, iteF ?_⟩⟩
      exact ⟨some (.int (0 + i)), rfl, seq_past hp s1 t2 hS'⟩
    · rintro σ H' ⟨v, rfl, hS'⟩
      exact q H'
end
theorem all_mk {l : PySem.W.OpenLaw} {w : World} {K : PySem.W.Frag} {h : Heap} {mg : Str → Option Value} {fW : Addr} {odW anW : Option Addr} {slW : Array (Option Value)} {ocW kVW dcW pmW cdW ctW : Value} {fa f1 f2 f3 f4 f5 f6 f7 f8 f9 f10 f11 f12 CF fF C1 fI1 C2 fI2 : Addr}
    {od1 an1 od2 an2 od3 an3 od4 an4 od5 an5 od6 an6 od7 an7 od8 an8 od9 an9 od10 an10 od11 an11 od12 an12 odF anF odI1 anI1 odI2 anI2 : Option Addr}
    {sl1 sl2 sl3 sl4 sl5 sl6 sl7 sl8 sl9 sl10 sl11 sl12 slF slI1 slI2 : Array (Option Value)}
    {oc1 kV1 dc1 pm1 cd1 ct1 oc2 kV2 dc2 pm2 cd2 ct2 oc3 kV3 dc3 pm3 cd3 ct3 oc4 kV4 dc4 pm4 cd4 ct4 oc5 kV5 dc5 pm5 cd5 ct5 oc6 kV6 dc6 pm6 cd6 ct6 oc7 kV7 dc7 pm7 cd7 ct7 oc8 kV8 dc8 pm8 cd8 ct8 oc9 kV9 dc9 pm9 cd9 ct9 oc10 kV10 dc10 pm10 cd10 ct10 oc11 kV11 dc11 pm11 cd11 ct11 oc12 kV12 dc12 pm12 cd12 ct12 ocF kVF dcF pmF cdF ctF ocI1 kVI1 dcI1 pmI1 cdI1 ctI1 ocI2 kVI2 dcI2 pmI2 cdI2 ctI2 : Value}
    {t9 tE : Tok}
    {nm1 q1 : Str} {N1 : Addr} {bs1 : List Value} {sn1 : List Str} {sub1 : List Value} {ab1 : Bool} {col1 : Option Bool} {dd1 : Option Addr} {m01 m11 m31 m51 : Option Value} {cn1 : Str} {tkE1 : Tok}
    {nm2 q2 : Str} {N2 : Addr} {bs2 : List Value} {sn2 : List Str} {sub2 : List Value} {ab2 : Bool} {col2 : Option Bool} {dd2 : Option Addr} {m02 m12 m32 m52 : Option Value} {cn2 : Str} {tkE2 : Tok}
    (X : K.In h) (G : h.Ns mainGlobals mg) (hfa : mg "law" = some (.ref fa))
    (a1 : PySem.W.nsIn K mainGlobals "is_integer" = some (some (.ref f1)))
    (l1 : K.lookup f1 = some ⟨oc1, od1, .func (PySem.W.fnOf "is_integer" "is_integer" (defArgs sIsInt) (defBody sIsInt) (defScope sIsInt) .none kV1 dc1 pm1 an1 cd1 ct1), sl1⟩)
    (c1 : PySem.W.codeIn K cd1 "is_integer" = true)
    (k1 : PySem.W.keepIn K (.ref f1) = true)
    (a2 : PySem.W.nsIn K mainGlobals "is_digit" = some (some (.ref f2)))
    (l2 : K.lookup f2 = some ⟨oc2, od2, .func (PySem.W.fnOf "is_digit" "is_digit" (defArgs sIsDigit) (defBody sIsDigit) (defScope sIsDigit) .none kV2 dc2 pm2 an2 cd2 ct2), sl2⟩)
    (c2 : PySem.W.codeIn K cd2 "is_digit" = true)
    (k2 : PySem.W.keepIn K (.ref f2) = true)
    (a3 : PySem.W.nsIn K mainGlobals "are_digits" = some (some (.ref f3)))
    (l3 : K.lookup f3 = some ⟨oc3, od3, .func (PySem.W.fnOf "are_digits" "are_digits" (defArgs sAre) (defBody sAre) (defScope sAre) .none kV3 dc3 pm3 an3 cd3 ct3), sl3⟩)
    (c3 : PySem.W.codeIn K cd3 "are_digits" = true)
    (k3 : PySem.W.keepIn K (.ref f3) = true)
    (a4 : PySem.W.nsIn K mainGlobals "row_text" = some (some (.ref f4)))
    (l4 : K.lookup f4 = some ⟨oc4, od4, .func (PySem.W.fnOf "row_text" "row_text" (defArgs sRowText) (defBody sRowText) (defScope sRowText) .none kV4 dc4 pm4 an4 cd4 ct4), sl4⟩)
    (c4 : PySem.W.codeIn K cd4 "row_text" = true)
    (k4 : PySem.W.keepIn K (.ref f4) = true)
    (a5 : PySem.W.nsIn K mainGlobals "read_row" = some (some (.ref f5)))
    (l5 : K.lookup f5 = some ⟨oc5, od5, .func (PySem.W.fnOf "read_row" "read_row" (defArgs sRead) (defBody sRead) (defScope sRead) .none kV5 dc5 pm5 an5 cd5 ct5), sl5⟩)
    (c5 : PySem.W.codeIn K cd5 "read_row" = true)
    (k5 : PySem.W.keepIn K (.ref f5) = true)
    (a6 : PySem.W.nsIn K mainGlobals "_law_cell" = some (some (.ref f6)))
    (l6 : K.lookup f6 = some ⟨oc6, od6, .func (PySem.W.fnOf "_law_cell" "_law_cell" (defArgs sCell) (defBody sCell) (defScope sCell) .none kV6 dc6 pm6 an6 cd6 ct6), sl6⟩)
    (c6 : PySem.W.codeIn K cd6 "_law_cell" = true)
    (k6 : PySem.W.keepIn K (.ref f6) = true)
    (a7 : PySem.W.nsIn K mainGlobals "_law_box" = some (some (.ref f7)))
    (l7 : K.lookup f7 = some ⟨oc7, od7, .func (PySem.W.fnOf "_law_box" "_law_box" (defArgs sBox) (defBody sBox) (defScope sBox) .none kV7 dc7 pm7 an7 cd7 ct7), sl7⟩)
    (c7 : PySem.W.codeIn K cd7 "_law_box" = true)
    (k7 : PySem.W.keepIn K (.ref f7) = true)
    (a8 : PySem.W.nsIn K mainGlobals "_law_take" = some (some (.ref f8)))
    (l8 : K.lookup f8 = some ⟨oc8, od8, .func (PySem.W.fnOf "_law_take" "_law_take" (defArgs sTake) (defBody sTake) (defScope sTake) .none kV8 dc8 pm8 an8 cd8 ct8), sl8⟩)
    (c8 : PySem.W.codeIn K cd8 "_law_take" = true)
    (k8 : PySem.W.keepIn K (.ref f8) = true)
    (a9 : PySem.W.nsIn K mainGlobals "_law_text" = some (some (.ref f9)))
    (l9 : K.lookup f9 = some ⟨oc9, od9, .func (PySem.W.fnOf "_law_text" "_law_text" (defArgs sText) (defBody sText) (defScope sText) .none kV9 dc9 pm9 an9 cd9 ct9), sl9⟩)
    (c9 : PySem.W.codeIn K cd9 "_law_text" = true)
    (k9 : PySem.W.keepIn K (.ref f9) = true)
    (a10 : PySem.W.nsIn K mainGlobals "_law_refused" = some (some (.ref f10)))
    (l10 : K.lookup f10 = some ⟨oc10, od10, .func (PySem.W.fnOf "_law_refused" "_law_refused" (defArgs sRef) (defBody sRef) (defScope sRef) .none kV10 dc10 pm10 an10 cd10 ct10), sl10⟩)
    (c10 : PySem.W.codeIn K cd10 "_law_refused" = true)
    (k10 : PySem.W.keepIn K (.ref f10) = true)
    (a11 : PySem.W.nsIn K mainGlobals "_law_right" = some (some (.ref f11)))
    (l11 : K.lookup f11 = some ⟨oc11, od11, .func (PySem.W.fnOf "_law_right" "_law_right" (defArgs sRight) (defBody sRight) (defScope sRight) .none kV11 dc11 pm11 an11 cd11 ct11), sl11⟩)
    (c11 : PySem.W.codeIn K cd11 "_law_right" = true)
    (k11 : PySem.W.keepIn K (.ref f11) = true)
    (a12 : PySem.W.nsIn K mainGlobals "law" = some (some (.ref f12)))
    (l12 : K.lookup f12 = some ⟨oc12, od12, .func (PySem.W.fnOf "law" "law" (defArgs sLaw) (defBody sLaw) (defScope sLaw) .none kV12 dc12 pm12 an12 cd12 ct12), sl12⟩)
    (c12 : PySem.W.codeIn K cd12 "law" = true)
    (k12 : PySem.W.keepIn K (.ref f12) = true)
    (aF : PySem.W.nsIn K mainGlobals "FigureError" = some (some (.ref CF)))
    (rF : PySem.W.readsIn K CF (.type "type") = true)
    (gaF : PySem.W.specialIn K (.ref CF) "__getattribute__" = some (some (.builtin "type.__getattribute__")))
    (atF : PySem.W.findCls K (.ref CF) (.type "type") "__init__" = some (.val (.ref fF)))
    (lF : K.lookup fF = some ⟨ocF, odF, .func (PySem.W.fnOf "__init__" "FigureError.__init__" (defArgs sFig) (defBody sFig) (defScope sFig) .none kVF dcF pmF anF cdF ctF), slF⟩)
    (cF : PySem.W.codeIn K cdF "FigureError.__init__" = true)
    (kF : PySem.W.keepIn K (.ref fF) = true)
    (vV : PySem.W.findCls K (.type "ValueError") (.type "type") "__init__" = some (.val (.builtin "ValueError.__init__")))
    (aC1 : PySem.W.nsIn K mainGlobals "InvalidRow" = some (some (.ref C1)))
    (xC1 : K.lookup C1 = some (excClassObj nm1 q1 C1 N1 bs1 [.ref CF, .type "ValueError", .type "Exception", .type "BaseException", .type "object"] true sn1 sub1 ab1 col1 dd1 m01 m11 (some (.str cn1 tkE1)) m31 m51 "ValueError.__new__"))
    (sa1 : PySem.W.findIn K (.ref C1) "__setattr__" = some (some (.builtin "object.__setattr__")))
    (ex1 : PySem.W.subIn K (.ref C1) (.type "BaseException") = some true)
    (ty1 : PySem.W.typeIn K (.ref C1) = some (.type "type"))
    (kC1 : PySem.W.keepIn K (.ref C1) = true)
    (iC1 : PySem.W.findIn K (.ref C1) "__init__" = some (some (.ref fI1)))
    (tI1 : PySem.W.typeIn K (.ref fI1) = some (.type "function"))
    (no1 : PySem.W.findIn K (.ref C1) "row" = some none)
    (ga1 : PySem.W.findIn K (.ref C1) "__getattribute__" = some (some (.builtin "BaseException.__getattribute__")))
    (gg1 : PySem.W.findIn K (.ref C1) "__getattr__" = some none)
    (hd1 : PySem.W.hasDictIn K C1 = true)
    (sb1 : PySem.W.subIn K (.ref C1) (.ref C1) = some true)
    (ic1 : PySem.W.isClsIn K C1 = true)
    (lI1 : K.lookup fI1 = some ⟨ocI1, odI1, .func (PySem.W.fnOf "__init__" "InvalidRow.__init__" (defArgs sInR) (defBody sInR) (defScope sInR) .none kVI1 dcI1 pmI1 anI1 cdI1 ctI1), slI1⟩)
    (cI1 : PySem.W.codeIn K cdI1 "InvalidRow.__init__" = true)
    (kI1 : PySem.W.keepIn K (.ref fI1) = true)
    (aC2 : PySem.W.nsIn K mainGlobals "InvalidText" = some (some (.ref C2)))
    (xC2 : K.lookup C2 = some (excClassObj nm2 q2 C2 N2 bs2 [.ref CF, .type "ValueError", .type "Exception", .type "BaseException", .type "object"] true sn2 sub2 ab2 col2 dd2 m02 m12 (some (.str cn2 tkE2)) m32 m52 "ValueError.__new__"))
    (sa2 : PySem.W.findIn K (.ref C2) "__setattr__" = some (some (.builtin "object.__setattr__")))
    (ex2 : PySem.W.subIn K (.ref C2) (.type "BaseException") = some true)
    (ty2 : PySem.W.typeIn K (.ref C2) = some (.type "type"))
    (kC2 : PySem.W.keepIn K (.ref C2) = true)
    (iC2 : PySem.W.findIn K (.ref C2) "__init__" = some (some (.ref fI2)))
    (tI2 : PySem.W.typeIn K (.ref fI2) = some (.type "function"))
    (no2 : PySem.W.findIn K (.ref C2) "text" = some none)
    (ga2 : PySem.W.findIn K (.ref C2) "__getattribute__" = some (some (.builtin "BaseException.__getattribute__")))
    (gg2 : PySem.W.findIn K (.ref C2) "__getattr__" = some none)
    (hd2 : PySem.W.hasDictIn K C2 = true)
    (sb2 : PySem.W.subIn K (.ref C2) (.ref C2) = some true)
    (ic2 : PySem.W.isClsIn K C2 = true)
    (lI2 : K.lookup fI2 = some ⟨ocI2, odI2, .func (PySem.W.fnOf "__init__" "InvalidText.__init__" (defArgs sInT) (defBody sInT) (defScope sInT) .none kVI2 dcI2 pmI2 anI2 cdI2 ctI2), slI2⟩)
    (cI2 : PySem.W.codeIn K cdI2 "InvalidText.__init__" = true)
    (kI2 : PySem.W.keepIn K (.ref fI2) = true)
    (xa : PySem.W.findIn K (.ref C1) "__class__" = some (some (.builtin "object.__class__")))
    (xn : PySem.W.specialIn K (.builtin "object.__class__") "__get__" = some (some (.builtin "getset_descriptor.__get__")))
    (xt : PySem.W.takesIn K (.builtin "object.__class__") = some true)
    (xm : PySem.W.mroIn K C1 (.type "object") = some true)
    (xs : PySem.W.subIn K (.ref C1) (.ref CF) = some true)
    (xi : PySem.W.isClsIn K CF = true)
    (xy : PySem.W.typeIn K (.ref CF) = some (.type "type"))
    (z1 : PySem.W.nsIn K mainGlobals "len" = some none)
    (z2 : PySem.W.nsIn K mainGlobals "range" = some none)
    (z3 : PySem.W.nsIn K mainGlobals "int" = some none)
    (z4 : PySem.W.nsIn K mainGlobals "bool" = some none)
    (z5 : PySem.W.nsIn K mainGlobals "isinstance" = some none)
    (z6 : PySem.W.nsIn K mainGlobals "str" = some none)
    (z7 : PySem.W.nsIn K mainGlobals "all" = some none)
    (z8 : PySem.W.nsIn K mainGlobals "tuple" = some none)
    (z9 : PySem.W.nsIn K mainGlobals "max" = some none)
    (z10 : PySem.W.nsIn K mainGlobals "min" = some none)
    (z11 : PySem.W.nsIn K mainGlobals "list" = some none)
    (z12 : PySem.W.nsIn K mainGlobals "abs" = some none)
    (z13 : PySem.W.nsIn K mainGlobals "ValueError" = some none)
    (v1 : PySem.W.nsIn K mainGlobals "GREATEST_DIGIT" = some (some (.int 9 t9)))
    (v2 : PySem.W.nsIn K mainGlobals "EMPTY_TEXT" = some (some (.str "." tE)))
    (aW : PySem.W.nsIn K mainGlobals "is_whole" = some (some (.ref fW))) (lW : K.lookup fW = some ⟨ocW, odW, .func (PySem.W.fnOf "is_whole" "is_whole" (defArgs sWhole) (defBody sWhole) (defScope sWhole) .none kVW dcW pmW anW cdW ctW), slW⟩) (cW : PySem.W.codeIn K cdW "is_whole" = true) (kW : PySem.W.keepIn K (.ref fW) = true)
    (haE1 : PySem.W.findIn K (.ref C1) "__class__" = some (some (.builtin "object.__class__")))
    (hmE1 : PySem.W.mroIn K C1 (.type "object") = some true)
    (fcE1 : PySem.W.findCls K (.ref C1) (.type "type") "__name__" = some (.get (.builtin "getset_descriptor.__get__") (.builtin "type.__name__") (.ref C1) (.type "type")))
    (nnE1 : PySem.W.findIn K (.ref C1) "class_name" = some none)
    (haE2 : PySem.W.findIn K (.ref C2) "__class__" = some (some (.builtin "object.__class__")))
    (hmE2 : PySem.W.mroIn K C2 (.type "object") = some true)
    (fcE2 : PySem.W.findCls K (.ref C2) (.type "type") "__name__" = some (.get (.builtin "getset_descriptor.__get__") (.builtin "type.__name__") (.ref C2) (.type "type")))
    (nnE2 : PySem.W.findIn K (.ref C2) "class_name" = some none)
    (xnE : PySem.W.specialIn K (.builtin "object.__class__") "__get__" = some (some (.builtin "getset_descriptor.__get__")))
    (xtE : PySem.W.takesIn K (.builtin "object.__class__") = some true)
    (stE : PySem.W.nsIn K cStatics "thirdparty.any" = some none)
    : ∃ fd : FuncData, (∀ (s : Shared) (v : Value), BindsTo s fd ⟨[v], []⟩ [("_law_script", v)]) ∧ ∀ base : Heap, K.In base → base.Ns mainGlobals mg → FnOk l.prog w K mg base CX0 8 fa fd ["_law_script"] (spLaw K) := by
  have e := hfa.symm.trans (PySem.W.mg_of X G a12)
  cases e
  have FW := fun_mk (st := sWhole) lW cW kW
  have gW := PySem.W.mg_of X G aW
  have bW := FW.binds (ps := ["value"]) fun _ _ _ _ _ _ us hl => match us, hl with | [_], _ => rfl
  have F1 := fun_mk (st := sIsInt) l1 c1 k1
  have g1 := PySem.W.mg_of X G a1
  have b1 := F1.binds (ps := ["value", "low", "high"]) fun _ _ _ _ _ _ us hl => match us, hl with | [_, _, _], _ => rfl
  have F2 := fun_mk (st := sIsDigit) l2 c2 k2
  have g2 := PySem.W.mg_of X G a2
  have b2 := F2.binds (ps := ["value"]) fun _ _ _ _ _ _ us hl => match us, hl with | [_], _ => rfl
  have F3 := fun_mk (st := sAre) l3 c3 k3
  have g3 := PySem.W.mg_of X G a3
  have b3 := F3.binds (ps := ["items"]) fun _ _ _ _ _ _ us hl => match us, hl with | [_], _ => rfl
  have F4 := fun_mk (st := sRowText) l4 c4 k4
  have g4 := PySem.W.mg_of X G a4
  have b4 := F4.binds (ps := ["row"]) fun _ _ _ _ _ _ us hl => match us, hl with | [_], _ => rfl
  have F5 := fun_mk (st := sRead) l5 c5 k5
  have g5 := PySem.W.mg_of X G a5
  have b5 := F5.binds (ps := ["text"]) fun _ _ _ _ _ _ us hl => match us, hl with | [_], _ => rfl
  have F6 := fun_mk (st := sCell) l6 c6 k6
  have g6 := PySem.W.mg_of X G a6
  have b6 := F6.binds (ps := ["_law_script", "_law_k"]) fun _ _ _ _ _ _ us hl => match us, hl with | [_, _], _ => rfl
  have F7 := fun_mk (st := sBox) l7 c7 k7
  have g7 := PySem.W.mg_of X G a7
  have b7 := F7.binds (ps := ["_law_cell_here"]) fun _ _ _ _ _ _ us hl => match us, hl with | [_], _ => rfl
  have F8 := fun_mk (st := sTake) l8 c8 k8
  have g8 := PySem.W.mg_of X G a8
  have b8 := F8.binds (ps := ["_law_box_here", "_law_many"]) fun _ _ _ _ _ _ us hl => match us, hl with | [_, _], _ => rfl
  have F9 := fun_mk (st := sText) l9 c9 k9
  have g9 := PySem.W.mg_of X G a9
  have b9 := F9.binds (ps := ["_law_line"]) fun _ _ _ _ _ _ us hl => match us, hl with | [_], _ => rfl
  have F10 := fun_mk (st := sRef) l10 c10 k10
  have g10 := PySem.W.mg_of X G a10
  have b10 := F10.binds (ps := ["_law_value"]) fun _ _ _ _ _ _ us hl => match us, hl with | [_], _ => rfl
  have F11 := fun_mk (st := sRight) l11 c11 k11
  have g11 := PySem.W.mg_of X G a11
  have b11 := F11.binds (ps := ["_law_box_here"]) fun _ _ _ _ _ _ us hl => match us, hl with | [_], _ => rfl
  have F12 := fun_mk (st := sLaw) l12 c12 k12
  have g12 := PySem.W.mg_of X G a12
  have b12 := F12.binds (ps := ["_law_script"]) fun _ _ _ _ _ _ us hl => match us, hl with | [_], _ => rfl
  have FF := fun_mk (st := sFig) lF cF kF
  have bF := FF.binds (ps := ["self", "text"]) fun _ _ _ _ _ _ us hl => match us, hl with | [_, _], _ => rfl
  have TF : FigC K mg CF fF := ⟨PySem.W.mg_of X G aF, ⟨rF, gaF⟩, atF, kF⟩
  have FI1 := fun_mk (st := sInR) lI1 cI1 kI1
  have bI1 := FI1.binds (ps := ["self", "row"]) fun _ _ _ _ _ _ us hl => match us, hl with | [_, _], _ => rfl
  have T1 : ErrC K mg "InvalidRow" "row" C1 fI1 := ⟨PySem.W.mg_of X G aC1, ⟨⟨_, _, _, _, _, _, _, _, _, _, _, _, _, _, _, xC1, by first | rfl | decide +kernel⟩, sa1, ex1, ty1, kC1⟩, iC1, tI1, no1, ⟨ga1, gg1, ex1, hd1⟩, exm_own ex1 ic1 ty1 sb1, ⟨cn1, ⟨⟨ga1, gg1, ex1, hd1⟩, by simpa [PySem.W.isClsIn] using ic1, haE1, xnE, xtE, hmE1, ty1, stE, fcE1, ⟨_, tkE1, xC1, rfl, rfl⟩, nnE1⟩⟩⟩
  have FI2 := fun_mk (st := sInT) lI2 cI2 kI2
  have bI2 := FI2.binds (ps := ["self", "text"]) fun _ _ _ _ _ _ us hl => match us, hl with | [_, _], _ => rfl
  have T2 : ErrC K mg "InvalidText" "text" C2 fI2 := ⟨PySem.W.mg_of X G aC2, ⟨⟨_, _, _, _, _, _, _, _, _, _, _, _, _, _, _, xC2, by first | rfl | decide +kernel⟩, sa2, ex2, ty2, kC2⟩, iC2, tI2, no2, ⟨ga2, gg2, ex2, hd2⟩, exm_own ex2 ic2 ty2 sb2, ⟨cn2, ⟨⟨ga2, gg2, ex2, hd2⟩, by simpa [PySem.W.isClsIn] using ic2, haE2, xnE, xtE, hmE2, ty2, stE, fcE2, ⟨_, tkE2, xC2, rfl, rfl⟩, nnE2⟩⟩⟩
  have y_len := PySem.W.mg_none_of X G z1
  have y_range := PySem.W.mg_none_of X G z2
  have y_int := PySem.W.mg_none_of X G z3
  have y_bool : BoolW K mg := ⟨PySem.W.mg_none_of X G z4, _, _, FW, gW, bW⟩
  have y_isinstance := PySem.W.mg_none_of X G z5
  have y_str := PySem.W.mg_none_of X G z6
  have y_all := PySem.W.mg_none_of X G z7
  have y_tuple := PySem.W.mg_none_of X G z8
  have y_max := PySem.W.mg_none_of X G z9
  have y_min := PySem.W.mg_none_of X G z10
  have y_list := PySem.W.mg_none_of X G z11
  have y_abs := PySem.W.mg_none_of X G z12
  have y_ValueError := PySem.W.mg_none_of X G z13
  have u_GREATEST_DIGIT := PySem.W.mg_of X G v1
  have u_EMPTY_TEXT := PySem.W.mg_of X G v2
  refine ⟨PySem.W.fnOf "law" "law" (defArgs sLaw) (defBody sLaw) (defScope sLaw) .none kV12 dc12 pm12 an12 cd12 ct12, fun s v => .of_eq rfl, fun base _ _ => ?_⟩
  have GA : FnOk l.prog w K mg base (L2.CX l.prog w) 5 _ _ ["row"] (spRowText C1) := ok_rowtext F4 F3 g3 b3 F2 g2 b2 F1 g1 b1 FI1 FF TF bF T1 bI1 y_ValueError vV u_EMPTY_TEXT u_GREATEST_DIGIT y_isinstance y_int y_bool y_all y_tuple y_str
  have GE : FnOk l.prog w K mg base (L2.CX l.prog w) 5 _ _ ["text"] (OF.spRead C2) := ok_read F5 FI2 FF TF bF T2 bI2 y_ValueError vV u_EMPTY_TEXT u_GREATEST_DIGIT y_isinstance y_str y_range y_all y_tuple
  have GO : FnOk l.prog w K mg base CX0 6 _ _ ["_law_value"] spRef := ok_ref F10 GA g4 F4.kp b4 T1 TF ⟨ic1, T1.xf, xa, xn, xt, xm⟩ (kit_own xi xy xs) y_isinstance
  have R : FnOk l.prog w K mg base CX0 7 _ _ ["_law_box_here"] spRight := ok_right F11 F8 g8 b8 F9 g9 b9 GA F4 g4 b4 GE F5 g5 b5 GO g10 F10.kp b10 y_int y_abs y_range y_tuple y_list y_isinstance y_bool
  exact ok_law F12 F6 g6 b6 F7 g7 b7 R g11 F11.kp b11 y_int y_len y_range y_max y_min
end K02
open PySem PySem.W PyProof.Rows
set_option maxRecDepth 100000 in
set_option maxHeartbeats 0 in
theorem PySem.Challenge.cw_oddfigures_k02_rows_as_text_holds : PySem.Challenge.rw_oddfigures_k02_rows_as_text.Holds := by
  w_on; o_law; k_head; (case hw => w_witness2)
  k_fill
  refine L2.walk_of (l := PySem.Challenge.rw_oddfigures_k02_rows_as_text) (n := 63) (k := 8) (x := "_law_script") (CX := fun _ => L2.CX0) (sp := fun w => K02.spLaw _) rfl (by decide) rfl ⟨rfl, by decide, by decide⟩ (fun w h Y => PySem.W.kIn_of Y) ?F (fun _ _ a ns hl _ hS => ⟨a, ns, rfl, hS, hl, fun _ => rfl⟩) (fun _ _ _ _ _ h => h)
  case F =>
    intro w mg fa h KX G hmg
    refine' K02.all_mk KX G hmg ?a1 ?l1 ?c1 ?k1 ?a2 ?l2 ?c2 ?k2 ?a3 ?l3 ?c3 ?k3 ?a4 ?l4 ?c4 ?k4 ?a5 ?l5 ?c5 ?k5 ?a6 ?l6 ?c6 ?k6 ?a7 ?l7 ?c7 ?k7 ?a8 ?l8 ?c8 ?k8 ?a9 ?l9 ?c9 ?k9 ?a10 ?l10 ?c10 ?k10 ?a11 ?l11 ?c11 ?k11 ?a12 ?l12 ?c12 ?k12 ?aF ?rF ?gaF ?atF ?lF ?cF ?kF ?vV ?aC1 ?xC1 ?sa1 ?ex1 ?ty1 ?kC1 ?iC1 ?tI1 ?no1 ?ga1 ?gg1 ?hd1 ?sb1 ?ic1 ?lI1 ?cI1 ?kI1 ?aC2 ?xC2 ?sa2 ?ex2 ?ty2 ?kC2 ?iC2 ?tI2 ?no2 ?ga2 ?gg2 ?hd2 ?sb2 ?ic2 ?lI2 ?cI2 ?kI2 ?xa ?xn ?xt ?xm ?xs ?xi ?xy ?z1 ?z2 ?z3 ?z4 ?z5 ?z6 ?z7 ?z8 ?z9 ?z10 ?z11 ?z12 ?z13 ?v1 ?v2 ?aW ?lW ?cW ?kW ?haE1 ?hmE1 ?fcE1 ?nnE1 ?haE2 ?hmE2 ?fcE2 ?nnE2 ?xnE ?xtE ?stE
    (case a1 => k_is)
    (case l1 => k_is)
    (case c1 => k_is)
    (case k1 => k_is)
    (case a2 => k_is)
    (case l2 => k_is)
    (case c2 => k_is)
    (case k2 => k_is)
    (case a3 => k_is)
    (case l3 => k_is)
    (case c3 => k_is)
    (case k3 => k_is)
    (case a4 => k_is)
    (case l4 => k_is)
    (case c4 => k_is)
    (case k4 => k_is)
    (case a5 => k_is)
    (case l5 => k_is)
    (case c5 => k_is)
    (case k5 => k_is)
    (case a6 => k_is)
    (case l6 => k_is)
    (case c6 => k_is)
    (case k6 => k_is)
    (case a7 => k_is)
    (case l7 => k_is)
    (case c7 => k_is)
    (case k7 => k_is)
    (case a8 => k_is)
    (case l8 => k_is)
    (case c8 => k_is)
    (case k8 => k_is)
    (case a9 => k_is)
    (case l9 => k_is)
    (case c9 => k_is)
    (case k9 => k_is)
    (case a10 => k_is)
    (case l10 => k_is)
    (case c10 => k_is)
    (case k10 => k_is)
    (case a11 => k_is)
    (case l11 => k_is)
    (case c11 => k_is)
    (case k11 => k_is)
    (case a12 => k_is)
    (case l12 => k_is)
    (case c12 => k_is)
    (case k12 => k_is)
    (case aF => k_is)
    (case rF => k_is)
    (case gaF => k_is)
    (case atF => k_is)
    (case lF => k_is)
    (case cF => k_is)
    (case kF => k_is)
    (case vV => k_is)
    (case aC1 => k_is)
    (case xC1 => k_is)
    (case sa1 => k_is)
    (case ex1 => k_is)
    (case ty1 => k_is)
    (case kC1 => k_is)
    (case iC1 => k_is)
    (case tI1 => k_is)
    (case no1 => k_is)
    (case ga1 => k_is)
    (case gg1 => k_is)
    (case hd1 => k_is)
    (case sb1 => k_is)
    (case ic1 => k_is)
    (case lI1 => k_is)
    (case cI1 => k_is)
    (case kI1 => k_is)
    (case aC2 => k_is)
    (case xC2 => k_is)
    (case sa2 => k_is)
    (case ex2 => k_is)
    (case ty2 => k_is)
    (case kC2 => k_is)
    (case iC2 => k_is)
    (case tI2 => k_is)
    (case no2 => k_is)
    (case ga2 => k_is)
    (case gg2 => k_is)
    (case hd2 => k_is)
    (case sb2 => k_is)
    (case ic2 => k_is)
    (case lI2 => k_is)
    (case cI2 => k_is)
    (case kI2 => k_is)
    (case xa => k_is)
    (case xn => k_is)
    (case xt => k_is)
    (case xm => k_is)
    (case xs => k_is)
    (case xi => k_is)
    (case xy => k_is)
    (case z1 => k_is)
    (case z2 => k_is)
    (case z3 => k_is)
    (case z4 => k_is)
    (case z5 => k_is)
    (case z6 => k_is)
    (case z7 => k_is)
    (case z8 => k_is)
    (case z9 => k_is)
    (case z10 => k_is)
    (case z11 => k_is)
    (case z12 => k_is)
    (case z13 => k_is)
    (case v1 => k_is)
    (case v2 => k_is)
    (case aW => k_is)
    (case lW => k_is)
    (case cW => k_is)
    (case kW => k_is)
    (case haE1 => k_is)
    (case hmE1 => k_is)
    (case fcE1 => k_is)
    (case nnE1 => k_is)
    (case haE2 => k_is)
    (case hmE2 => k_is)
    (case fcE2 => k_is)
    (case nnE2 => k_is)
    (case xnE => k_is)
    (case xtE => k_is)
    (case stE => k_is)
