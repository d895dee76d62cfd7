import PyProof.Rows.All
import Wide.All
import OpenK.AllK
import Wide.FinOn
import HandS.ForMost
import HandS.IsInst
import HandS.Defaults
import HandS.Wide
import HandS.ForExc
import HandS.ExcInit
import HandS.ExcField
import KE.KExcIs
import KE.KTypeName
import HandS.ClsMeth
import HandS.DictComp
import HandS.More
import PyProof.ReprRoads
import HandS.SetFor
import HandS.Strs
import HandS.TupSets
import HandS.SortRule
import HandS.Deep
import HandS.TupAny
import HandS.Style
import HandS.Zip
import HandS.Walk
import HandS.MakeKwOnly
import HandS.Conv
import PySem.Challenge.RW_oddfigures_k07_rows_judged
set_option Elab.async false
set_option linter.all false
set_option maxRecDepth 100000
/-! What the laws of this program have in common: heaps that stay but for one box, the box that draws are taken from, calls by names alone, repr of a truth. -/
namespace OF
open PySem PySem.Spec PyProof.Rows L2

/-! ### heaps that stay but for one place -/
/-- all that was tracked, but for the box at a, is as it was -/
def But (a : Addr) (H H' : Hp) : Prop := ∀ b o, b ≠ a → H b = some o → H' b = some o
theorem But.refl {a : Addr} {H : Hp} : But a H H := fun _ _ _ h => h
theorem But.trans {a : Addr} {H H1 H2 : Hp} (x : But a H H1) (y : But a H1 H2) : But a H H2 := fun b o n h => y b o n (x b o n h)
theorem But.of_same {a : Addr} {H H' : Hp} (x : Same H H') : But a H H' := fun b o _ h => x b o h
theorem But.new {a p : Addr} {H : Hp} {o : HO} (hp : H p = none) : But a H (upd H p o) := fun b u _ h => by
  rw [upd_ne (ne_of_none h hp)]; exact h
theorem But.at_ {a : Addr} {H : Hp} {o : HO} : But a H (upd H a o) := fun b u n h => by
  rw [upd_ne n]; exact h
/-- what was none ahead of the steps is a new place: a store to it keeps all -/
theorem But.store {a p : Addr} {H H1 : Hp} {o : HO} (x : But a H H1) (hp : H p = none) : But a H (upd H1 p o) := fun b u n h => by
  rw [upd_ne (ne_of_none h hp)]; exact x b u n h
theorem But.seqL {K : PySem.W.Frag} {a p : Addr} {H H' : Hp} {xs : List V} (x : But a H H') (n : p ≠ a) (h : SqL K H p xs) : SqL K H' p xs := by
  rcases h with (h | ⟨o, h⟩) | h
  · exact .inl (.inl (x _ _ n h))
  · exact .inl (.inr ⟨o, x _ _ n h⟩)
  · exact .inr h
theorem But.seqT {K : PySem.W.Frag} {a p : Addr} {H H' : Hp} {xs : List V} (x : But a H H') (n : p ≠ a) (h : SqT K H p xs) : SqT K H' p xs := by
  rcases h with (h | ⟨o, h⟩) | h
  · exact .inl (.inl (x _ _ n h))
  · exact .inl (.inr ⟨o, x _ _ n h⟩)
  · exact .inr h
theorem same_new {H : Hp} {p : Addr} {o : HO} (h : H p = none) : Same H (upd H p o) := fun b x e => by
  rw [upd_ne (ne_of_none e h)]; exact e

/-! ### the box -/
/-- at a stands a box: what is left of a large cell, a seed, how many were mixed (at most n) -/
def Box (n : Int) (H : Hp) (a : Addr) : Prop := ∃ b0 b1 b2 : Int, H a = some (.lst [.int b0, .int b1, .int b2]) ∧ 0 ≤ b0 ∧ 0 ≤ b1 ∧ b1 < 2147483648 ∧ 0 ≤ b2 ∧ b2 ≤ n
theorem Box.mono {n m : Int} {H : Hp} {a : Addr} (h : Box n H a) (hm : n ≤ m) : Box m H a := by
  obtain ⟨b0, b1, b2, h1, h2, h3, h4, h5, h6⟩ := h
  exact ⟨b0, b1, b2, h1, h2, h3, h4, h5, by omega⟩
theorem Box.same {n : Int} {H H' : Hp} {a : Addr} (h : Box n H a) (s : Same H H') : Box n H' a := by
  obtain ⟨b0, b1, b2, h1, r⟩ := h
  exact ⟨b0, b1, b2, s _ _ h1, r⟩
theorem Box.new {n : Int} {H : Hp} {a p : Addr} {o : HO} (h : Box n H a) (hp : H p = none) : Box n (upd H p o) a := h.same (same_new hp)
theorem Box.ne {n : Int} {H : Hp} {a p : Addr} (h : Box n H a) (hp : H p = none) : p ≠ a := by
  obtain ⟨b0, b1, b2, h1, r⟩ := h
  exact (ne_of_none h1 hp).symm
theorem Box.upd {n : Int} {H : Hp} {a p : Addr} {o : HO} (h : Box n H a) (hp : p ≠ a) : Box n (L2.upd H p o) a := by
  obtain ⟨b0, b1, b2, h1, r⟩ := h
  exact ⟨b0, b1, b2, by rw [upd_ne hp.symm]; exact h1, r⟩

/-- a draw: box, many; a number from 0 to many - 1, the box goes on -/
def spTake : Sp := fun vs H Q _ => ∃ (a : Addr) (m n : Int), vs = [.ref a, .int m] ∧ Box n H a ∧ n ≤ 1000000 ∧ 0 < m ∧ m.natAbs < 2 ^ 400 ∧
  ∀ (r : Int) (H' : Hp), 0 ≤ r → r < m → But a H H' → Box (n + 1) H' a → Q (.int r) H'
/-- a cell of the script, or a number made of the place -/
def spCell (K : PySem.W.Frag) : Sp := fun vs H Q _ => ∃ (a : Addr) (ns : List Int) (k : Nat), vs = [.ref a, .int k] ∧ SqL K H a (ns.map V.int) ∧ k < 1000 ∧ ∀ c : Int, Q (.int c) H
/-- a new box of a cell -/
def spBox : Sp := fun vs H Q _ => ∃ c : Int, vs = [.int c] ∧ ∀ (p : Addr) (H' : Hp), H p = none → Same H H' → Box 0 H' p → Q (.ref p) H'
/-- a list's items in a drawn order -/
def spMixed (K : PySem.W.Frag) : Sp := fun vs H Q _ => ∃ (a p : Addr) (xs : List V) (n : Int), vs = [.ref a, .ref p] ∧ Box n H a ∧ SqL K H p xs ∧ p ≠ a ∧ xs.length ≤ 1000 ∧ n ≤ 900000 ∧
  ∀ (D : Addr) (ys : List V) (H' : Hp), H D = none → But a H H' → Box (n + xs.length) H' a → H' D = some (.lst ys) → ys.length = xs.length → (∀ y ∈ ys, y ∈ xs) → Q (.ref D) H'

/-! ### calls by names alone -/
section
variable {X : Cx} {CX : CXT} {k : Nat} {f : Addr} {fd : FuncData} {ps ks : List Str} {sp : Sp} {E : XK} {x : Str} {p pos : Pos} {kws : List Keyword} {tk : TA} {g : List Value → List Value → List Value} {gV : List V → List V → List V}
/-- f(k = v, ..) -/
theorem pe_callN0 (F : FnOk X.prog X.w X.K X.mg X.base CX k f fd ps sp) (hr : Room k X.A) (hg : Gl X x) (hm : X.mg x = some (.ref f)) (hk : PySem.W.keepIn X.K (.ref f) = true) (hb : KBn X.K fd ps 0 ks g gV) (hx : Passes CX X E)
    (hkw : PK X kws tk) (hall : (backToKw pos (keywordEach kws X.env)).all (·.1.isSome) = true := by rfl) (hks : (backToKw pos (keywordEach kws X.env)).filterMap (·.1) = ks := by rfl)
    (hdb : (x == ("__debug__" : Str)) = false := by decide)
    (hpl : ((backTo pos (starEach [] X.env)).any (·.1) || (backToKw pos (keywordEach kws X.env)).any (·.1.isNone)) = false := by rfl) :
    PE X (.Call (.Name x p) [] kws pos) (tCallN 0 ks.length sp gV E tNil tk) := by
  refine ⟨fun pins s σ H Q I h => ?_⟩
  refine wpAny_Call_Name_kw (ld_glob I hg hm ?_ hdb)
  refine PySem.W.callWith_KW0 (h₀ := X.base) I.ok.mod.kin hk hall (thn (hkw.run pos pins s σ H _ I h) fun ws s2 ⟨zs, H2, I2, rz, l1, l2, q2⟩ => ⟨I2.kIn, ?_⟩) hpl
  rw [hks]
  exact run_fnN (us := []) (vs := []) F hr hb hx I2 .nil rz l1 l2 q2
/-- % by a positive number: some rest, in its bounds -/
theorem op_modR : OpR X (binaryOp .Mod) (fun x y H Q => ∃ i j : Int, x = .int i ∧ y = .int j ∧ 0 < j ∧ ∀ r : Int, 0 ≤ r → r < j → Q (.int r) H) := by
  intro pins s σ H x y v u Q I rx ry h
  obtain ⟨i, j, e1, e2, hj, q⟩ := h
  exact op_mod pins s σ H x y v u Q I rx ry ⟨i, j, e1, e2, hj, q _ (Int.emod_nonneg _ (by omega)) (Int.emod_lt_of_pos _ hj)⟩
theorem call_repr_bool : CallR X (.builtin "repr") (fun xs H Q => ∃ b, xs = [.bl b] ∧ Q (.str (if b then "True" else "False")) H) := by
  intro pins s σ H xs us Q I r h
  obtain ⟨b, rfl, q⟩ := h
  obtain ⟨u, rfl, hu⟩ := vals1 r
  cases hu
  exact PySem.P.repr_of_bool ⟨.str _, H, I.tok _, ⟨_, rfl⟩, q⟩
end
end OF
namespace OF
open PySem PySem.Spec PyProof.Rows L2
/-- len of a list or tuple -/
abbrev rLenS (K : PySem.W.Frag) : List V → Hp → VK → Prop := fun xs H Q => ∃ p ys, xs = [.ref p] ∧ (SqL K H p ys ∨ SqT K H p ys) ∧ Q (.int ys.length) H
theorem tYes_if {σ : L2.St} {H : Hp} {A B : Hp → Prop} (h : A H) : tYes σ H (fun b H3 => if b = true then A H3 else B H3) := by
  show (if true = true then A H else B H)
  rw [if_pos rfl]
  exact h
/-- both ways of a test lead to the same rest -/
theorem iteDup {c : Bool} {A B R : Prop} (f : R → c = true → A) (g : R → c = false → B) (r : R) : if c = true then A else B := by
  cases c with
  | true => exact iteT (f r rfl)
  | false => exact iteF (g r rfl)
theorem iteAnd {c d : Bool} {A : Prop} {Q : V → Hp → Prop} {H : Hp} (hA : Q (.bl d) H → A) (h : Q (.bl (c && d)) H) : if c = true then A else Q (.bl false) H := by
  cases c with
  | true => exact iteT (hA h)
  | false => exact iteF h
theorem iteOr {c d : Bool} {A : Prop} {Q : V → Hp → Prop} {H : Hp} (hA : Q (.bl d) H → A) (h : Q (.bl (c || d)) H) : if c = true then Q (.bl true) H else A := by
  cases c with
  | true => exact iteT h
  | false => exact iteF (hA h)
/-- an if whose test is known -/
theorem iteTB {c : Bool} {A B : Prop} (e : c = true) (h : A) : if c = true then A else B := by rw [if_pos e]; exact h
theorem iteFB {c : Bool} {A B : Prop} (e : c = false) (h : B) : if c = true then A else B := by rw [if_neg (by rw [e]; exact Bool.false_ne_true)]; exact h
/-- two values that are the same: no difference -/
theorem neSame {x y : V} (h : x = y) : (!decide (x = y)) = false := by rw [decide_eq_true h]; rfl
theorem eqSame {x y : V} (h : x = y) : decide (x = y) = true := decide_eq_true h
theorem seq_past {K : PySem.W.Frag} {H H1 H2 : Hp} {a p : Addr} {xs : List V} (hp : H p = none) (s : Same H H1) (b : But p H1 H2) (h : SqL K H a xs) : SqL K H2 a xs := by
  rcases h with (h | ⟨o, h⟩) | h
  · exact .inl (.inl (b _ _ (ne_of_none h hp) (s _ _ h)))
  · exact .inl (.inr ⟨o, b _ _ (ne_of_none h hp) (s _ _ h)⟩)
  · exact .inr h
/-- an item at a place within -/
theorem pick {xs : List V} {r : Int} (h0 : 0 ≤ r) (h1 : r < xs.length) : ∃ v, atI xs r = some v ∧ v ∈ xs := by
  obtain ⟨k, rfl⟩ := Int.eq_ofNat_of_zero_le h0
  have hk : k < xs.length := by omega
  exact ⟨xs[k], atI_nat (List.getElem?_eq_getElem hk), List.getElem_mem hk⟩
theorem ixN_in {n : Nat} {r : Int} (h0 : 0 ≤ r) (h1 : r < n) : ixN n r = some r.toNat := by
  unfold ixN
  rw [if_pos h0, if_pos h1]
/-- a value of a kind that is no int, or a truth -/
inductive Odd (H : Hp) : V → Prop
  | non : Odd H .non
  | bl (b : Bool) : Odd H (.bl b)
  | str (z : Str) : Odd H (.str z)
  | lst {a : Addr} {xs : List V} (e : H a = some (.lst xs)) : Odd H (.ref a)
  | tup {a : Addr} {xs : List V} (e : H a = some (.tup xs)) : Odd H (.ref a)
  | dK {a : Addr} {kvs : List (Key × V)} (e : H a = some (.dK kvs)) : Odd H (.ref a)
theorem Odd.same {H H' : Hp} {x : V} (h : Odd H x) (s : Same H H') : Odd H' x := by
  cases h with
  | non => exact .non
  | bl b => exact .bl b
  | str z => exact .str z
  | lst e => exact .lst (s _ _ e)
  | tup e => exact .tup (s _ _ e)
  | dK e => exact .dK (s _ _ e)
theorem Odd.kit {K : PySem.W.Frag} {H : Hp} {x : V} (h : Odd H x) : ∃ (t : Value) (b : Bool), TyX K H x t ∧ PySem.W.kitOne K t (.type "int") = some b ∧ (b = true → PySem.W.kitOne K t (.type "bool") = some true) := by
  cases h with
  | non => exact ⟨_, false, .base .non, kit_ty (by decide +kernel), fun z => nomatch z⟩
  | bl b => exact ⟨_, true, .base (.bl b), kit_ty (by decide +kernel), fun _ => kit_ty (by decide +kernel)⟩
  | str z => exact ⟨_, false, .base (.str z), kit_ty (by decide +kernel), fun z => nomatch z⟩
  | lst e => exact ⟨_, false, .base (.lst e), kit_ty (by decide +kernel), fun z => nomatch z⟩
  | tup e => exact ⟨_, false, .base (.tup e), kit_ty (by decide +kernel), fun z => nomatch z⟩
  | dK e => exact ⟨_, false, .base (.dK e), kit_ty (by decide +kernel), fun z => nomatch z⟩
theorem Odd.but {a : Addr} {H H' : Hp} {x : V} (h : Odd H x) (hx : x ≠ .ref a) (t : But a H H') : Odd H' x := by
  cases h with
  | non => exact .non
  | bl b => exact .bl b
  | str z => exact .str z
  | lst e => exact .lst (t _ _ (fun z => hx (congrArg V.ref z)) e)
  | tup e => exact .tup (t _ _ (fun z => hx (congrArg V.ref z)) e)
  | dK e => exact .dK (t _ _ (fun z => hx (congrArg V.ref z)) e)
theorem Same.store {p : Addr} {H H1 : Hp} {o : HO} (x : Same H H1) (hp : H p = none) : Same H (upd H1 p o) := fun b u h => by
  rw [upd_ne (ne_of_none h hp)]; exact x b u h
theorem q_eq {Q : V → Hp → Prop} {H : Hp} {x y : V} (h : x = y) (q : Q (.bl true) H) : Q (.bl (decide (x = y))) H := by
  rw [decide_eq_true h]; exact q
end OF
/-! e.__class__.__name__ of an error that is being made. -/
namespace PySem.W
open PySem PySem.Calls PyProof.Rows PyProof.V PySem.Spec Builtin Builtin.ObjectAttr Builtin.Getset_descriptor
section
variable {prog : Program} {w : World} {A : Around} {E : Value → Shared → Prop} {s : Shared} {K : Frag} {x C : Addr} {ox : Obj} {od : Option Obj} {expr : Bool} {Q : Value → Shared → Prop} {gt : Option Value}
theorem exc_class (X : K.In s.heap) (I : InstAt s.heap x ox C od) (hga : findIn K (.ref C) "__getattribute__" = some (some (.builtin "BaseException.__getattribute__"))) (hgt : findIn K (.ref C) "__getattr__" = some gt)
    (hsub : subIn K (.ref C) (.type "BaseException") = some true) (hf : findObj K C od "__class__" = some (.bind (.builtin "getset_descriptor.__get__") (.builtin "object.__class__"))) (hm : mroIn K C (.type "object") = some true)
    (h : Q (.ref C) { s with toks := s.toks + 1 }) : wpAny (model prog w) A (getAttr (.ref x) "__class__" expr) Q E s := by
  obtain ⟨hp, g, d, t, os⟩ := s
  have L0 := I.type (M := model prog w)
  have L1 := looks_findIn (M := model prog w) X hga
  have L2 := looks_findIn (M := model prog w) X hgt
  have L3 := looks_find (M := model prog w) X I hf
  have sub : Looks (model prog w) hp (isInstance (.ref x) (.type "BaseException")) true := L0.andThen (looks_subIn X hsub)
  have hx0 : (expr && onTheHeap (Value.builtin "BaseException.__getattribute__")) = false := by cases expr <;> rfl
  have hx2 : (Value.builtin "BaseException.__getattribute__" == Value.builtin "object.__getattribute__") = false := by decide +kernel
  have hx1 : (onTheHeap (Value.ref C) && Value.builtin "BaseException.__getattribute__" == Value.builtin "object.__getattribute__") = false := by rw [hx2]; rfl
  unfold getAttr getAttrBy
  refine wpAny_bind (wpAny_mkText (wpAny_holding (wpAny_bind (L0.at (wpAny_bind (L1.at ?_))))))
  show wpAny _ _ (if (onTheHeap (Value.ref C) && Value.builtin "BaseException.__getattribute__" == Value.builtin "object.__getattribute__") = true then _ else _) _ _ _
  rw [hx1, if_neg Bool.false_ne_true]
  unfold getAttrByItsOwn hookBefore
  refine wpAny_bind ?_
  rw [if_pos (show onTheHeap (Value.ref C) = true from rfl)]
  refine L2.at ?_
  refine wpAny_bind (wpAny_attempt (wpAny_holding ?_))
  unfold callGetattribute
  rw [hx0, if_neg Bool.false_ne_true]
  unfold boundAndCalled
  rw [PySem.F.excAttr_ValueError.ga.bind (.ref x)]
  refine wpAny_bind (wpAny_pure ?_)
  show wpAny _ _ (call (.builtin "BaseException.__getattribute__") [.ref x, .str "__class__" t]) _ _ _
  refine wpAny_call (codeAny_call_builtin PySem.F.excAttr_ValueError.ga.plain PySem.F.entry_bexc_ga ?_)
  refine @PySem.W.check_slot (model prog w) _ _ ⟨hp, g, d, t + 1, os⟩ "BaseException.__getattribute__" "BaseException" "__getattribute__" (.ref x) [.str "__class__" t] [] _ (by decide +kernel) (by decide +kernel) sub (PySem.F.args_bexc_ga (.ref x) (.str "__class__" t)) ?_
  unfold Builtin.«object.__getattribute__»
  refine wpAny_bind (wpAny_of_eq (a := ((Value.ref x : Value), [Value.str "__class__" t])) (by first | rfl | (simp only [slotArgs]; rfl)) ?_)
  refine wpAny_bind (wpAny_pure (wpAny_bind (L0.at (wpAny_bind (L3.at ?_)))))
  refine wpAny_bind (wpAny_holding (wpAny_call (class_get (s := ⟨hp, g, d, t + 1, os⟩) (ox := ox) (od := od) X I hm ?_)))
  refine wpAny_pure ?_
  show wpAny _ _ (handedOut (.ref C)) _ _ _
  rw [handedOut_of (show handedIn (.ref C) = true from rfl)]
  first | exact wpAny_pure h | exact wpAny_pure (wpAny_pure h)
theorem cn_dga (d tp : Value) (a : Addr) : descrGetArgs ⟨[d, .ref a, tp], []⟩ = pure (d, some (.ref a), given tp) := by kernel_rfl
theorem cn_get {R : Result → Shared → Prop} {tp v : Value} {o : Obj} (ho : s.heap.get? C = some o) (hc : o.cls = .type "type") (hv : o.slots[2]?.join = some v) (h : R (.ok (.ret v)) s) :
    codeAny (model prog w) A (.call (.builtin "getset_descriptor.__get__") ⟨[.builtin "type.__name__", .ref C, tp], []⟩) R s := by
  obtain ⟨hh, g, dr, t, os⟩ := s
  have L0 : Looks (model prog w) hh (typeOf (.ref C)) (.type "type") := by
    rw [← hc]
    exact (Looks.ld ho).andThen .now
  have L1 : Looks (model prog w) hh (isSubtype (.type "type") (.type "type")) true := Looks.of_pure (by rw [isSubtype_type]; kernel_rfl)
  refine codeAny_call_builtin KF.slot_gs.plain KF.entry_gs (KF.slot_gs.check _ _ _ _ _ _ _ _ ktyn_type (KF.args_gs _ _ _) ?_)
  unfold Builtin.«getset_descriptor.__get__» descrGet
  rw [cn_dga]
  refine wpAny_bind (wpAny_pure ?_)
  unfold descrGetter descrCheckInstance descrNameAndClass isInstance
  simp only [ktyn_owner]
  repeat lk
  refine ⟨Code.quiet_builtin _ (by decide +kernel), codeAny_builtin ktyn_entry ?_⟩
  unfold Builtin.«type.__name__» keptObject slotAt
  dsimp only
  refine wpAny_bind (wpAny_bind (wpAny_loadPart_at ho (wpAny_pure ?_)))
  rw [hv]
  exact wpAny_pure h
theorem cn_attr {v : Value} {o : Obj} (X : K.In s.heap) (ty : typeIn K (.ref C) = some (.type "type")) (st : nsIn K cStatics "thirdparty.any" = some none)
    (e : findCls K (.ref C) (.type "type") "__name__" = some (.get (.builtin "getset_descriptor.__get__") (.builtin "type.__name__") (.ref C) (.type "type"))) (lk : K.lookup C = some o) (hc : o.cls = .type "type") (hv : o.slots[2]?.join = some v) (hh : handedIn v = true)
    (h : Q v { s with toks := s.toks + 1 }) : wpAny (model prog w) A (getAttr (.ref C) "__name__" expr) Q E s := by
  have ho := X _ _ lk
  have L0 : Looks (model prog w) s.heap (typeOf (.ref C)) (.type "type") := by
    rw [← hc]
    exact (Looks.ld ho).andThen .now
  have hg : findIn K (.type "type") "__getattribute__" = some (some (.builtin "type.__getattribute__")) := type_tga
  refine cls_open X (looks_opaque X st) L0 hg (looks_hook X (r := none) (by rfl)) (by show subIn K _ _ = _; rfl) e ?_
  show wpAny _ _ (do ret (← holding [Value.builtin "type.__name__"] (call (.builtin "getset_descriptor.__get__") [.builtin "type.__name__", .ref C, .type "type"]))) _ _ _
  refine wpAny_bind (wpAny_holding (wpAny_call (cn_get (s := { s with toks := s.toks + 1 }) ho hc hv ?_)))
  refine wpAny_pure ?_
  show wpAny _ _ (handedOut v) _ _ _
  rw [handedOut_of hh]
  first | exact wpAny_pure h | exact wpAny_pure (wpAny_pure h)
end
end PySem.W
namespace OF
open PySem PySem.Spec PyProof.Rows L2
/-- what an error class says, so that the name of its class is told -/
structure NamC (K : PySem.W.Frag) (C : Addr) (nm : Str) : Prop where
  xf : XfC K C
  cl : (PySem.W.clsIn K C).isSome = true
  ha : PySem.W.findIn K (.ref C) "__class__" = some (some (.builtin "object.__class__"))
  hn : PySem.W.specialIn K (.builtin "object.__class__") "__get__" = some (some (.builtin "getset_descriptor.__get__"))
  ht : PySem.W.takesIn K (.builtin "object.__class__") = some true
  hm : PySem.W.mroIn K C (.type "object") = some true
  ty : PySem.W.typeIn K (.ref C) = some (.type "type")
  st : PySem.W.nsIn K cStatics "thirdparty.any" = some none
  fc : PySem.W.findCls K (.ref C) (.type "type") "__name__" = some (.get (.builtin "getset_descriptor.__get__") (.builtin "type.__name__") (.ref C) (.type "type"))
  lk : ∃ (o : Obj) (t : Tok), K.lookup C = some o ∧ o.cls = .type "type" ∧ o.slots[2]?.join = some (.str nm t)
  no : PySem.W.findIn K (.ref C) "class_name" = some none
section
variable {X : Cx} {e : Expr} {te : TE} {p1 p2 : Pos}
/-- e.__class__.__name__ -/
def tCname (K : PySem.W.Frag) (te : TE) : TE := fun σ H Q => te σ H fun x H1 => ∃ (a C : Addr) (nm : Str), x = .ref a ∧ H1 a = some (exo a C none) ∧ NamC K C nm ∧ Q (.str nm) H1
theorem pe_cname (he : PE X e te) (hb : attributeBase e "__class__" X.env (eval e X.env) = eval e X.env := by rfl) (hb2 : attributeBase (.Attribute e "__class__" p1) "__name__" X.env (eval (.Attribute e "__class__" p1) X.env) = eval (.Attribute e "__class__" p1) X.env := by rfl) :
    PE X (.Attribute (.Attribute e "__class__" p1) "__name__" p2) (tCname X.K te) := by
  refine ⟨fun pins s σ H Q I h => ?_⟩
  refine attr_of hb2 (attr_of hb (thn (he.run pins s σ H _ I h) fun u s1 hh => ?_))
  obtain ⟨x, H1, I1, rx, a, C, nm, ex, ea, N, q⟩ := hh
  subst ex
  obtain rfl : u = Value.ref a := rx
  obtain ⟨t1, ho⟩ := exo_at I1.hok ea
  have J : PySem.W.InstAt s1.heap a { cls := .ref C, dict := none, data := .fields #[.ref t1, .none, .none, .none, .bool false, .none] } C none := ⟨ho, rfl, rfl, trivial⟩
  refine PySem.W.exc_class I1.kIn J N.xf.ga N.xf.gg N.xf.exC (PySem.W.findObj_dataE N.cl N.ha N.hn N.ht) N.hm ?_
  obtain ⟨o, t, lk, hc, hv⟩ := N.lk
  refine PySem.W.cn_attr (s := { s1 with toks := s1.toks + 1 }) (I1.tok _).kIn N.ty N.st N.fc lk hc hv rfl ?_
  exact ⟨.str nm, H1, (I1.tok _).tok _, ⟨_, rfl⟩, q⟩
end
end OF
/-! The errors of the program: two classes deep, each with an __init__ of its own that calls the one above by its class. -/
namespace OF
open PySem PySem.Spec PyProof.Rows L2

/-! ### C.m(e, ..), m a plain def read off the class -/
section
variable {X : Cx} {CX : CXT} {k : Nat} {C f : Addr} {fd : FuncData} {ps : List Str} {sp : Sp} {E : XK} {x m : Str} {p p1 p2 pos : Pos} {e : Expr} {es : List Expr} {t : TA} {mc : Value}
theorem pe_unb {pl : Sem Bool} (F : FnOk X.prog X.w X.K X.mg X.base CX k f fd ps sp) (hr : Room k X.A) (hg : Gl X x) (hm : X.mg x = some (.ref C)) (r : ClX.CRead X.K C mc) (c : ClX.CVal X.K C mc m (.ref f) (.ref f)) (hk : PySem.W.keepIn X.K (.ref f) = true)
    (hb : Binds X.K fd ps []) (hx : Passes CX X E) (ha : PA X (e :: es) t)
    (hc : eval (.Call (.Attribute (.Name x p1) m p2) (e :: es) [] pos) X.env = (do
      let ov ← eval (.Name x p1) X.env
      standAt p2.atName
      let (f, first) ← holding [ov] (getMethod ov m pl)
      callWith pos f first (backTo pos (starEach (e :: es) X.env)) (backToKw pos (keywordEach [] X.env))) := by rfl)
    (hdb : (x == ("__debug__" : Str)) = false := by decide) (he : starEach (e :: es) X.env = (false, eval e X.env) :: starEach es X.env := by rfl) (hpl : (backTo pos (starEach es X.env)).any (·.1) = false := by rfl) :
    PE X (.Call (.Attribute (.Name x p1) m p2) (e :: es) [] pos) (tCall sp [] E t) := by
  refine ⟨fun pins s σ H Q I h => ?_⟩
  refine PySem.W.methodCall_KW (ld_glob I hg hm ?_ hdb) hc
  refine PySem.W.method_cls I.kIn r.ga (ClX.getcval_ok I r c fun s' I' => ?_)
  show wpAny _ _ (callWith pos (Value.ref f) [] (backTo pos (starEach (e :: es) X.env)) []) _ _ _
  refine PySem.W.callWith_K (h₀ := X.base) I.ok.mod.kin hk (thn (ha.run pos pins s' σ H _ I' h) fun us s1 ⟨vs, H1, I1, r1, q⟩ => ⟨I1.kIn, ?_⟩) he hpl
  exact run_fn F hr hb .nil hx I1 r1 q
end

/-! ### promises of the makers -/
/-- FigureError.__init__: the name of the class is kept -/
def spFig (K : PySem.W.Frag) : Sp := fun vs H Q _ => ∃ (a C : Addr) (v : V) (nm : Str), vs = [.ref a, v] ∧ OexC K C ∧ NamC K C nm ∧ H a = some (exo a C none) ∧ ∀ d, H d = none → d ≠ a → Q .non (upd (upd H d (exd d [("class_name", .str nm)])) a (exo a C (some d)))
/-- X.__init__ of the class at C: one field, and what was kept -/
def spInit (K : PySem.W.Frag) (f : Str) (C : Addr) : Sp := fun vs H Q _ => ∃ (a : Addr) (v : V), vs = [.ref a, v] ∧ H a = some (exo a C none) ∧ ∀ (fs : List (Str × V)) (d : Addr), H d = none → d ≠ a → Q .non (upd (upd H d (exd d ((f, v) :: fs))) a (exo a C (some d)))
theorem upd_swap {H : Hp} {a d : Addr} {x y z : HO} (n : d ≠ a) : upd (upd (upd H d x) a y) d z = upd (upd H d z) a y := by
  funext b
  by_cases h : b = d
  · subst h
    rw [upd_same, upd_ne n, upd_same]
  · rw [upd_ne h]
    by_cases h2 : b = a
    · subst h2
      rw [upd_same, upd_same]
    · rw [upd_ne h2, upd_ne h2, upd_ne h, upd_ne h]
/-- what the top says of FigureError -/
structure FigC (K : PySem.W.Frag) (mg : Str → Option Value) (C f : Addr) : Prop where
  g : mg "FigureError" = some (.ref C)
  rd : ClX.CRead K C (.type "type")
  at_ : PySem.W.findCls K (.ref C) (.type "type") "__init__" = some (.val (.ref f))
  kp : PySem.W.keepIn K (.ref f) = true
theorem FigC.val {K : PySem.W.Frag} {mg : Str → Option Value} {C f : Addr} (T : FigC K mg C f) : ClX.CVal K C (.type "type") "__init__" (.ref f) (.ref f) := ⟨T.at_, rfl⟩
/-- what the top says of an error class below it, its field f, its maker at fI -/
structure ErrC (K : PySem.W.Frag) (mg : Str → Option Value) (x f : Str) (C fI : Addr) : Prop where
  g : mg x = some (.ref C)
  ox : OexC K C
  iC : PySem.W.findIn K (.ref C) "__init__" = some (some (.ref fI))
  tI : PySem.W.typeIn K (.ref fI) = some (.type "function")
  no : PySem.W.findIn K (.ref C) f = some none
  xf : XfC K C
  te : PySem.W.exmOne K (.ref C) (.ref C) = some true
  nam : ∃ nm, NamC K C nm
/-- a raised error of the class at C with its field -/
def Raised (C : Addr) (f : Str) (v : V) (H : Hp) (E : XK) : Prop := ∀ (fs : List (Str × V)) (d : Addr) (H' : Hp), H d = none → Same H H' → H' d = some (.xd ((f, v) :: fs)) → E (.ref C) (some d) H'
theorem raised_ok {C : Addr} {f : Str} {v : V} {H H1 : Hp} {E : XK} (q : Raised C f v H E) (s : Same H H1) {K : PySem.W.Frag} {σ : L2.St} {D : Ends} : 
    ([v].length ≤ 1000 ∧ ∀ a, H1 a = none → spInit K f C (.ref a :: ([v] ++ [])) (upd H1 a (exo a C none))
      (fun v' H2 => v' = .non ∧ ∃ (d : Addr) (fs : List (Str × V)), H2 a = some (exo a C (some d)) ∧ H2 d = some (exd d fs) ∧ H1 d = none ∧ E (.ref C) (some d) (upd (del H2 a) d (.xd fs))) (fun _ _ _ => False)) := by
  refine ⟨(by show 1 ≤ 1000; decide), fun a ha => ⟨a, v, rfl, upd_same, fun fs d hd nda => ⟨rfl, d, (f, v) :: fs, upd_same, ?_, ?_, ?_⟩⟩⟩
  · rw [upd_ne nda]
    exact upd_same
  · rw [upd_ne nda] at hd
    exact hd
  · rw [upd_ne nda] at hd
    refine q fs d _ (s.free hd) (fun b o h => ?_) upd_same
    have h1 := s b o h
    have hba : b ≠ a := ne_of_none h1 ha
    have hbd : b ≠ d := ne_of_none h1 hd
    rw [upd_ne hbd, del_ne hba, upd_ne hba, upd_ne hbd, upd_ne hba]
    exact h1
/-- dict comprehensions over a range -/
theorem dc_range {lo : Int} {n : Nat} {g : TG} {tt : TT} {tk tv : TE} {vs : List Nat} {σ : L2.St} {H1 : Hp} {D : Addr} {Qd : Hp → Prop} (Pv : Nat → Hp → Prop) (h0 : Pv 0 (upd H1 D (.dK [])))
    (hs : ∀ i H, i < n → Pv i H → g (.int (lo + i)) (wipe σ vs) H fun σ2 H2 => wipe σ2 vs = wipe σ vs ∧ tt σ2 H2 fun b H3 =>
      if b = true then tk σ2 H3 fun y H4 => tv σ2 H4 fun z H5 => ∃ kvs k, y = kV k ∧ H5 D = some (.dK kvs) ∧ kvs.length < sizeLine ∧ Pv (i + 1) (upd H5 D (.dK (putK kvs k z))) else Pv (i + 1) H3) (hd : ∀ H, Pv n H → Qd H) :
    ∃ W : Nat → Nat → Hp → Prop, (∃ m, W 0 m (upd H1 D (.dK []))) ∧ ∀ i m H, W i m H →
      ((Itr lo n).stop i H ∧ Qd H) ∨ ((Itr lo n).go i H ∧ ∃ Nx : Hp → Prop, (∀ H', Nx H' → ∃ m', m' < m ∧ W (i + 1) m' H') ∧ ∀ x H', (Itr lo n).yld i H x H' → g x (wipe σ vs) H' fun σ2 H2 => wipe σ2 vs = wipe σ vs ∧ tt σ2 H2 fun b H3 =>
        if b = true then tk σ2 H3 fun y H4 => tv σ2 H4 fun z H5 => ∃ kvs k, y = kV k ∧ H5 D = some (.dK kvs) ∧ kvs.length < sizeLine ∧ Nx (upd H5 D (.dK (putK kvs k z))) else Nx H3) := by
  refine ⟨fun i m H => m = n - i ∧ i ≤ n ∧ Pv i H, ⟨n, by simp, Nat.zero_le _, h0⟩, ?_⟩
  rintro i m H ⟨rfl, hi, p⟩
  by_cases hlt : i < n
  · refine .inr ⟨hlt, Pv (i + 1), fun H' p' => ⟨n - (i + 1), by omega, rfl, hlt, p'⟩, fun x H' y => ?_⟩
    obtain ⟨e, y⟩ := y
    subst e y
    exact hs i _ hlt p
  · have e : i = n := by omega
    subst e
    exact .inl ⟨Nat.le_refl _, hd H p⟩
/-- an error of a class is what an except clause of that class names -/
theorem exm_own {K : PySem.W.Frag} {S : Addr} (h1 : PySem.W.subIn K (.ref S) (.type "BaseException") = some true) (h2 : PySem.W.isClsIn K S = true) (h3 : PySem.W.typeIn K (.ref S) = some (.type "type")) (h4 : PySem.W.subIn K (.ref S) (.ref S) = some true) :
    PySem.W.exmOne K (.ref S) (.ref S) = some true := by
  have h2' : (PySem.W.clsIn K S).isSome = true := h2
  unfold PySem.W.exmOne
  simp only [h1, beq_self_eq_true, if_true]
  unfold PySem.W.kitCls
  simp only [h3, h4, h2', beq_self_eq_true, Bool.and_self, if_true]

/-! ### isinstance(e, C), e the error that the suite holds, with a dict of its own -/
/-- what the class D of the error says, so that it is asked rightly -/
structure AskC (K : PySem.W.Frag) (D : Addr) : Prop where
  cl : (PySem.W.clsIn K D).isSome = true
  xf : XfC K D
  ha : PySem.W.findIn K (.ref D) "__class__" = some (some (.builtin "object.__class__"))
  hn : PySem.W.specialIn K (.builtin "object.__class__") "__get__" = some (some (.builtin "getset_descriptor.__get__"))
  ht : PySem.W.takesIn K (.builtin "object.__class__") = some true
  hm : PySem.W.mroIn K D (.type "object") = some true
def rAsk (K : PySem.W.Frag) (D a : Addr) (cls : Value) (d : Option Addr) : List V → Hp → VK → Prop := fun xs H Q => ∃ (dd : Addr) (fs : List (Str × V)) (c : V) (cv : Value) (b : Bool), cls = .ref D ∧ d = some dd ∧ H dd = some (.xd fs) ∧ xs = [.ref a, c] ∧ (∀ u, RelV c u → u = cv) ∧ PySem.W.kitOne K (.ref D) cv = some b ∧ Q (.bl b) H
theorem call_ask {X : Cx} {a D : Addr} {oe : Obj} {cls : Value} {d : Option Addr} {pn : List (Addr × Obj)} (C : AskC X.K D) (hz : Zc cls d oe) (hf : ∃ vs, oe.data = .fields vs) : CallR (X.suite a ((a, oe) :: pn)) (.builtin "isinstance") (rAsk X.K D a cls d) := by
  intro pins s σ H xs us Q I r h
  obtain ⟨dd, fs, c, cv, b, ec, ed, ea, rfl, hcv, e, q⟩ := h
  obtain ⟨u1, u2, rfl, r1, r2⟩ := vals2 r
  cases r1
  cases hcv _ r2
  subst ec
  subst ed
  obtain ⟨hget, _⟩ := I.pin (a, oe) (List.mem_append_left _ List.mem_cons_self)
  obtain ⟨vs, hv⟩ := hf
  have hx : ObjOk X.prog X.w H s.heap dd (.xd fs) := I.hok dd _ ea
  obtain ⟨mA, hns, _⟩ := hx
  obtain ⟨od, ho, _⟩ := lookIn_ns hns
  have J : PySem.W.InstAt s.heap a oe D (some od) := ⟨hget, hz.1, by unfold PySem.W.notCls; rw [hv] <;> rfl, by rw [hz.2]; exact ho⟩
  exact PySem.W.kia_one (PySem.W.kitx_exc C.cl C.xf.ga C.xf.gg C.xf.exC C.ha C.hn C.ht C.hm) I.kIn J e (fun z => nomatch z) fun tk => ⟨.bl b, H, I.kept (t' := tk) fun _ _ z => z, rfl, q⟩

/-! ### lists of the same things -/
/-- l != l2, two lists of the very same things -/
def rNeSame (K : PySem.W.Frag) : R2 := fun x y H Q => ∃ (l l2 : Addr) (xs : List V), x = .ref l ∧ y = .ref l2 ∧ SqL K H l xs ∧ SqL K H l2 xs ∧ (∀ v ∈ xs, flatB v = true ∨ ∃ a, v = .ref a) ∧ Q (.bl false) H
theorem op_neSame {X : Cx} (hu : X.A.units + 64 < cLine) : OpR X (compareOp .NotEq) (rNeSame X.K) := by
  intro pins s σ H x y v u Q I rx ry h
  obtain ⟨l, l2, xs, rfl, rfl, h1, h2, hs, q⟩ := h
  cases rx
  cases ry
  obtain ⟨us, r1, p1, _⟩ := I.list h1
  obtain ⟨ws, r2, p2, _⟩ := I.list h2
  have n1 := r1.length
  have n2 := r2.length
  have hsz : us.toArray.size = ws.toArray.size := by
    rw [List.size_toArray, List.size_toArray]
    omega
  have key := SeqAt.RcNeAt.lists (A := X.A) (e := fun _ => true) p1.isList p2.isList hsz (by omega) (fun j h1 h2 => ?_)
  · refine key X.prog X.w _ _ ?_
    rw [show ((List.range us.toArray.size).all fun _ => true) = true from List.all_eq_true.mpr fun _ _ => rfl]
    exact ⟨.bl false, H, I, rfl, q⟩
  · have j1 : j < us.length := by simpa using h1
    have jx : j < xs.length := by omega
    obtain ⟨a, ea, ra⟩ := Vals.get r1 (List.getElem?_eq_getElem jx)
    obtain ⟨b, eb, rb⟩ := Vals.get r2 (List.getElem?_eq_getElem jx)
    have e1 : us.toArray[j] = a := by
      have := List.getElem?_eq_getElem j1
      rw [this] at ea
      simpa using Option.some.inj ea
    have e2 : ws.toArray[j] = b := by
      have j2 : j < ws.length := by omega
      have := List.getElem?_eq_getElem j2
      rw [this] at eb
      simpa using Option.some.inj eb
    rw [e1, e2]
    rcases hs _ (List.getElem_mem jx) with hf | ⟨p, hp⟩
    · exact eqAt_same ra rb hf
    · rw [hp] at ra rb
      cases ra
      cases rb
      exact SeqAt.EqAt.same _
/-- isinstance's answer by an own class that is the class itself or above it -/
theorem kit_own {K : PySem.W.Frag} {S C : Addr} (h2 : PySem.W.isClsIn K C = true) (h3 : PySem.W.typeIn K (.ref C) = some (.type "type")) (h4 : PySem.W.subIn K (.ref S) (.ref C) = some true) : PySem.W.kitOne K (.ref S) (.ref C) = some true := by
  have h2' : (PySem.W.clsIn K C).isSome = true := h2
  unfold PySem.W.kitOne
  split
  · rfl
  · unfold PySem.W.kitCls
    simp only [h3, h4, h2', beq_self_eq_true, Bool.and_self, if_true]
end OF
/-! Rows as texts: what read_row makes of a text. -/
namespace OF
open PySem PySem.Spec PyProof.Rows L2 TL
/-- the texts of the digits, with their digits -/
def digL : List (Key × V) := (List.range 19).map fun (i : Nat) => (Sum.inr (Str.ofString (toString ((-9 : Int) + (i : Int)))), V.int ((-9 : Int) + (i : Int)))
theorem digL_put : ∀ i : Nat, i < 19 → putK (digL.take i) (Sum.inr (Str.ofString (toString ((-9 : Int) + (i : Int))))) (V.int ((-9 : Int) + (i : Int))) = digL.take (i + 1) := by decide +kernel
theorem digL_all : digL.take 19 = digL := by decide +kernel
/-- the digit that a word is -/
def digV (w : Str) : Option V := valV digL (Sum.inr w)
/-- the digits that words are -/
def rowOf (ws : List Str) : Option (List V) := if ws.all (fun w => (digV w).isSome) = true then some (ws.map fun w => (digV w).getD .non) else none
/-- the row whose text it is -/
def readV (z : Str) : Option (List V) := if z = Str.ofString "." then some [] else rowOf (Txt.split z (Str.ofString " "))
/-- a value of a kind that is no text -/
inductive NoStr (H : Hp) : V → Prop
  | non : NoStr H .non
  | bl (b : Bool) : NoStr H (.bl b)
  | int (i : Int) : NoStr H (.int i)
  | lst {a : Addr} {xs : List V} (e : H a = some (.lst xs)) : NoStr H (.ref a)
  | tup {a : Addr} {xs : List V} (e : H a = some (.tup xs)) : NoStr H (.ref a)
  | dK {a : Addr} {kvs : List (Key × V)} (e : H a = some (.dK kvs)) : NoStr H (.ref a)
theorem NoStr.kit {K : PySem.W.Frag} {H : Hp} {x : V} (h : NoStr H x) : ∃ t : Value, TyX K H x t ∧ PySem.W.kitOne K t (.type "str") = some false := by
  cases h with
  | non => exact ⟨_, .base .non, kit_ty (by decide +kernel)⟩
  | bl b => exact ⟨_, .base (.bl b), kit_ty (by decide +kernel)⟩
  | int z => exact ⟨_, .base (.int z), kit_ty (by decide +kernel)⟩
  | lst e => exact ⟨_, .base (.lst e), kit_ty (by decide +kernel)⟩
  | tup e => exact ⟨_, .base (.tup e), kit_ty (by decide +kernel)⟩
  | dK e => exact ⟨_, .base (.dK e), kit_ty (by decide +kernel)⟩
theorem NoStr.same {H H' : Hp} {x : V} (h : NoStr H x) (s : Same H H') : NoStr H' x := by
  cases h with
  | non => exact .non
  | bl b => exact .bl b
  | int z => exact .int z
  | lst e => exact .lst (s _ _ e)
  | tup e => exact .tup (s _ _ e)
  | dK e => exact .dK (s _ _ e)
/-- read_row: the row, or an error with the very value -/
def spRead (C : Addr) : Sp := fun vs H Q E => ∃ x : V, vs = [x] ∧
  ((∃ z : Str, x = .str z ∧ z.length ≤ 100000 ∧ (∀ ds, readV z = some ds → ∀ p H', H p = none → Same H H' → H' p = some (.tup ds) → Q (.ref p) H') ∧ (readV z = none → Raised C "text" (.str z) H E)) ∨
    (NoStr H x ∧ Raised C "text" x H E))
theorem take_more {α : Type} : ∀ {l : List α} {i : Nat} {x : α}, l[i]? = some x → l.take (i + 1) = l.take i ++ [x]
  | [], i, x, h => by simp at h
  | a :: l, 0, x, h => by
    have e : a = x := Option.some.inj h
    subst e
    rfl
  | a :: l, i + 1, x, h => by
    have ih := take_more (l := l) (i := i) (x := x) h
    show a :: l.take (i + 1) = a :: l.take i ++ [x]
    rw [ih]
    rfl
theorem get_map {α β : Type} {f : α → β} {l : List α} {i : Nat} {y : β} (h : (l.map f)[i]? = some y) : ∃ x, l[i]? = some x ∧ y = f x := by
  rw [List.getElem?_map] at h
  cases e : l[i]? with
  | none => rw [e] at h; cases h
  | some x => rw [e] at h; exact ⟨x, rfl, (Option.some.inj h).symm⟩
theorem log_le {n : Int} (h : n.natAbs ≤ 1000) : n.natAbs.log2 < 1920 := Nat.lt_of_le_of_lt (Nat.log2_le_self _) (by omega)
theorem vals_signs : ∀ (L : List Nat) (l : List Value), l.length = L.length → (∀ (j : Nat) (v : Value), l[j]? = some v → ∃ (c : Nat) (u : Tok), L[j]? = some c ∧ v = Value.str ⟨#[c]⟩ u) → Vals (L.map fun c => V.str ⟨#[c]⟩) l
  | [], [], _, _ => .nil
  | c :: L, v :: l, hl, h => by
    obtain ⟨c', u, e1, e2⟩ := h 0 v rfl
    cases (show c = c' from Option.some.inj e1)
    exact .cons ⟨u, e2⟩ (vals_signs L l (Nat.succ.inj hl) fun j w hw => h (j + 1) w hw)
/-- list(text) -/
theorem call_list_signs {X : Cx} (hc : X.calm = true) : CallR X (.type "list") (fun xs H Q => ∃ z : Str, xs = [.str z] ∧ z.length ≤ sizeLine ∧ ∀ l, H l = none → Q (.ref l) (upd H l (.lst ((tl z).map fun c => V.str ⟨#[c]⟩)))) := by
  intro pins s σ H xs us Q I r h
  obtain ⟨z, rfl, hz, q⟩ := h
  obtain ⟨u, rfl, t, rfl⟩ := vals1 r
  refine PySem.call_list_str (I.ok.hd hc) z t (fun h' tk acc' c' hk hS' hacc => ?_) (by exact hz)
  have hl : acc'.toList.length = (tl z).length := by
    rw [Array.length_toList, hacc.1]
    rfl
  refine ⟨.ref s.heap.objs.size, _, I.laid (t' := tk) hk (Nat.le_refl _) (show ObjOk X.prog X.w _ h' _ (.lst ((tl z).map fun c => V.str ⟨#[c]⟩)) from ⟨?_, acc'.toList, c', ?_, ?_⟩), rfl, q _ (I.hok.fresh (Nat.le_refl _))⟩
  · rw [List.length_map, ← len_tl]
    exact hz
  · refine vals_signs _ _ hl fun j v hv => ?_
    obtain ⟨c, u, e1, e2⟩ := hacc.2 j v (by rw [← Array.getElem?_toList]; exact hv)
    exact ⟨c, u, by rw [Array.getElem?_toList]; exact e1, e2⟩
  · rw [Array.toArray_toList]
    exact hS'

/-! ### a word as the law reads it -/
def sgB (w : Str) : Bool := decide (V.str (cutS w none (some 1)) = V.str (Str.ofString "-"))
def sgI (w : Str) : Int := if sgB w then 1 else 0
def restS (w : Str) : Str := cutS w (some (sgI w)) none
def figs : List V := (tl (Str.ofString "0123456789")).map fun c => V.str ⟨#[c]⟩
def figVal (w : Str) : Int := Txt.find (Str.ofString "0123456789") (restS w) * (1 - 2 * sgI w)
theorem digV_is {w : Str} {v : V} (h : digV w = some v) : ∃ i : Nat, i < 19 ∧ w = Str.ofString (toString ((-9 : Int) + (i : Int))) ∧ v = V.int ((-9 : Int) + (i : Int)) := by
  unfold digV valV digL at h
  rw [List.find?_map] at h
  cases e : List.find? ((fun kv : Key × V => decide (kv.1 = Sum.inr w)) ∘ fun (i : Nat) => ((Sum.inr (Str.ofString (toString ((-9 : Int) + (i : Int)))), V.int ((-9 : Int) + (i : Int))) : Key × V)) (List.range 19) with
  | none => rw [e] at h; cases h
  | some i =>
    rw [e] at h
    have p := List.find?_some e
    have m := List.mem_of_find?_eq_some e
    refine ⟨i, List.mem_range.mp m, ?_, (Option.some.inj h).symm⟩
    exact (Sum.inr.inj (of_decide_eq_true p)).symm
theorem digs_ok : ∀ i : Nat, i < 19 → inV (.str (restS (Str.ofString (toString ((-9 : Int) + (i : Int)))))) figs = true ∧ decide (V.str (Str.ofString (toString ((-9 : Int) + (i : Int)))) = V.str (Str.ofString "-0")) = false ∧
    figVal (Str.ofString (toString ((-9 : Int) + (i : Int)))) = (-9 : Int) + (i : Int) := by decide +kernel
theorem word_some {w : Str} {v : V} (h : digV w = some v) : inV (.str (restS w)) figs = true ∧ decide (V.str w = V.str (Str.ofString "-0")) = false ∧ v = V.int (figVal w) := by
  obtain ⟨i, hi, rfl, rfl⟩ := digV_is h
  obtain ⟨h1, h2, h3⟩ := digs_ok i hi
  exact ⟨h1, h2, by rw [h3]⟩
theorem figs_words : ∀ c ∈ tl (Str.ofString "0123456789"), (digV ⟨#[c]⟩).isSome = true ∧ ((digV (⟨(45 :: [c]).toArray⟩ : Str)).isSome = true ∨ (⟨(45 :: [c]).toArray⟩ : Str) = Str.ofString "-0") := by decide +kernel
theorem cut_rest {w : Str} (h : sgB w = true) : tl w = 45 :: tl (cutS w (some 1) none) := by
  have e : cutS w none (some 1) = Str.ofString "-" := V.str.inj (of_decide_eq_true h)
  have e2 : tl (cutS w none (some 1)) = [45] := by rw [e]; decide +kernel
  have hL : ∀ lo hi, tl (cutS w lo hi) = ((tl w).drop (HT.sIx w.length 0 lo)).take (HT.sIx w.length w.length hi - HT.sIx w.length 0 lo) := fun lo hi => by
    unfold cutS
    exact List.toList_toArray ..
  rw [hL] at e2 ⊢
  rw [HT.sIx_none, show HT.sIx w.length w.length (some 1) = min 1 w.length from HT.sIx_nat w.length w.length 1] at e2
  rw [HT.sIx_none, show HT.sIx w.length 0 (some 1) = min 1 w.length from HT.sIx_nat w.length 0 1]
  have el := len_tl w
  cases hw : tl w with
  | nil => rw [hw] at e2; simp at e2
  | cons a r =>
    rw [hw] at e2 el
    have : min 1 w.length = 1 := by rw [el, List.length_cons]; omega
    rw [this] at e2 ⊢
    have ea : a = 45 := by simpa using e2
    rw [ea, el]
    simp
theorem cut_all {w : Str} (h : sgB w = false) : restS w = w := by
  unfold restS sgI
  rw [h]
  unfold cutS
  rw [show HT.sIx w.length 0 (some (if false = true then (1 : Int) else 0)) = min 0 w.length from HT.sIx_nat w.length 0 0, HT.sIx_none, Nat.zero_min, List.drop_zero, Nat.sub_zero]
  rw [List.take_of_length_le (by rw [← len_tl]; exact Nat.le_refl _)]
theorem word_none {w : Str} (h : digV w = none) : inV (.str (restS w)) figs = false ∨ decide (V.str w = V.str (Str.ofString "-0")) = true := by
  cases hi : inV (.str (restS w)) figs with
  | false => exact .inl rfl
  | true =>
    right
    unfold inV figs at hi
    obtain ⟨y, hy, e⟩ := List.any_eq_true.mp hi
    obtain ⟨c, hc, rfl⟩ := List.mem_map.mp hy
    have er : restS w = ⟨#[c]⟩ := by
      have : (⟨#[c]⟩ : Str) = restS w := by simpa [eqV] using e
      exact this.symm
    obtain ⟨h1, h2⟩ := figs_words c hc
    cases hs : sgB w with
    | false =>
      rw [cut_all hs] at er
      rw [er] at h
      rw [h] at h1
      cases h1
    | true =>
      have e1 := cut_rest hs
      have e3 : restS w = cutS w (some 1) none := by
        unfold restS sgI
        rw [hs]
        rfl
      have ew : w = (⟨(45 :: [c]).toArray⟩ : Str) := by
        rw [← mk_tl w, e1, ← e3, er]
      rcases h2 with h2 | h2
      · rw [← ew, h] at h2
        cases h2
      · exact decide_eq_true (congrArg V.str (ew.trans h2))

/-! ### texts of few and plain signs -/
def TOk (n : Nat) (z : Str) : Prop := (tl z).length ≤ n ∧ ∀ c ∈ tl z, c < 1114112
theorem TOk.mono {n m : Nat} {z : Str} (h : TOk n z) (hm : n ≤ m) : TOk m z := ⟨Nat.le_trans h.1 hm, h.2⟩
theorem TOk.len {n : Nat} {z : Str} (h : TOk n z) : z.length ≤ n := by rw [len_tl]; exact h.1
theorem TOk.ok {n : Nat} {z : Str} (h : TOk n z) : PyData.strOk z = true := by
  unfold PyData.strOk
  rw [Array.all_eq_true']
  intro c hc
  exact decide_eq_true (h.2 c (by show c ∈ z.cps.toList; exact Array.mem_toList_iff.mpr hc))
theorem tl_cut (w : Str) (lo hi : Option Int) : tl (cutS w lo hi) = ((tl w).drop (HT.sIx w.length 0 lo)).take (HT.sIx w.length w.length hi - HT.sIx w.length 0 lo) := by
  unfold cutS
  exact List.toList_toArray ..
theorem TOk.cut {n : Nat} {z : Str} (h : TOk n z) (lo hi : Option Int) : TOk n (cutS z lo hi) := by
  unfold TOk
  rw [tl_cut]
  refine ⟨?_, fun c hc => h.2 c (List.mem_of_mem_drop (List.mem_of_mem_take hc))⟩
  refine Nat.le_trans (List.length_take_le' _ _) ?_
  rw [List.length_drop]
  exact Nat.le_trans (Nat.sub_le _ _) h.1
theorem TOk.app {n m : Nat} {x y : Str} (h : TOk n x) (k : TOk m y) : TOk (n + m) (x ++ y) := by
  unfold TOk
  rw [tl_append, List.length_append]
  refine ⟨Nat.add_le_add h.1 k.1, fun c hc => ?_⟩
  rcases List.mem_append.mp hc with hc | hc
  · exact h.2 c hc
  · exact k.2 c hc
theorem in_join {S : List Nat} : ∀ {ps : List (List Nat)} {p : List Nat}, p ∈ ps → p.length ≤ (joinL S ps).length ∧ ∀ c ∈ p, c ∈ joinL S ps
  | [q], p, h => by
    cases List.mem_singleton.mp h
    exact ⟨Nat.le_refl _, fun c hc => hc⟩
  | q :: r :: ps, p, h => by
    have e : joinL S (q :: r :: ps) = q ++ (S ++ joinL S (r :: ps)) := rfl
    rw [e]
    rcases List.mem_cons.mp h with h | h
    · rw [h]
      refine ⟨?_, fun c hc => List.mem_append_left _ hc⟩
      rw [List.length_append]
      omega
    · obtain ⟨h1, h2⟩ := in_join (S := S) h
      refine ⟨?_, fun c hc => List.mem_append_right _ (List.mem_append_right _ (h2 c hc))⟩
      rw [List.length_append, List.length_append]
      omega
theorem join_in {S : List Nat} {P : Nat → Prop} (hS : ∀ c ∈ S, P c) : ∀ {ps : List (List Nat)} {n : Nat}, (∀ p ∈ ps, p.length ≤ n ∧ ∀ c ∈ p, P c) → (joinL S ps).length ≤ ps.length * (n + S.length) ∧ ∀ c ∈ joinL S ps, P c
  | [], n, _ => ⟨Nat.zero_le _, fun c hc => by cases hc⟩
  | [q], n, h => by
    obtain ⟨h1, h2⟩ := h q (List.mem_singleton.mpr rfl)
    refine ⟨?_, h2⟩
    show q.length ≤ 1 * (n + S.length)
    omega
  | q :: r :: ps, n, h => by
    obtain ⟨h1, h2⟩ := h q (List.mem_cons_self ..)
    obtain ⟨h3, h4⟩ := join_in hS (ps := r :: ps) (n := n) fun p hp => h p (List.mem_cons_of_mem _ hp)
    have e : joinL S (q :: r :: ps) = q ++ (S ++ joinL S (r :: ps)) := rfl
    rw [e]
    refine ⟨?_, fun c hc => ?_⟩
    · rw [List.length_append, List.length_append, List.length_cons, Nat.succ_mul]
      omega
    · rcases List.mem_append.mp hc with hc | hc
      · exact h2 c hc
      · rcases List.mem_append.mp hc with hc | hc
        · exact hS c hc
        · exact h4 c hc
theorem TOk.parts {n : Nat} {z y : Str} (h : TOk n z) : ∀ w ∈ Txt.split z y, TOk n w := fun w hw => by
  have e := StrLaws.join_split z y
  have e2 := tl_join y (Txt.split z y)
  rw [e] at e2
  obtain ⟨h1, h2⟩ := in_join (S := tl y) (ps := (Txt.split z y).map tl) (List.mem_map.mpr ⟨w, hw, rfl⟩)
  rw [← e2] at h1 h2
  exact ⟨Nat.le_trans h1 h.1, fun c hc => h.2 c (h2 c hc)⟩
theorem TOk.join {n m : Nat} {y : Str} {ps : List Str} (hy : TOk m y) (h : ∀ p ∈ ps, TOk n p) : TOk (ps.length * (n + m)) (Txt.join y ps) := by
  rw [TL.join_eq]
  unfold TOk
  rw [tl_join]
  obtain ⟨h1, h2⟩ := join_in (S := tl y) (P := fun c => c < 1114112) hy.2 (ps := ps.map tl) (n := n) fun p hp => by
    obtain ⟨w, hw, rfl⟩ := List.mem_map.mp hp
    exact h w hw
  refine ⟨Nat.le_trans h1 ?_, h2⟩
  rw [List.length_map]
  exact Nat.mul_le_mul_left _ (Nat.add_le_add_left hy.1 _)
theorem sum_len {n : Nat} : ∀ {ps : List Str}, (∀ p ∈ ps, TOk n p) → (ps.map (·.length)).sum ≤ ps.length * n
  | [], _ => Nat.zero_le _
  | p :: ps, h => by
    have h1 := (h p (List.mem_cons_self ..)).len
    have h2 := sum_len (ps := ps) fun q hq => h q (List.mem_cons_of_mem _ hq)
    rw [List.map_cons, List.sum_cons, List.length_cons, Nat.succ_mul]
    omega
theorem join_pos {y : Str} {ps : List Str} {p : Str} (hp : p ∈ ps) (h : 1 ≤ p.length) : 1 ≤ (Txt.join y ps).length := by
  rw [TL.join_eq, len_tl, tl_join]
  have h1 := (in_join (S := tl y) (ps := ps.map tl) (List.mem_map.mpr ⟨p, hp, rfl⟩)).1
  rw [← len_tl] at h1
  omega
instance (n : Nat) (z : Str) : Decidable (TOk n z) := inferInstanceAs (Decidable (_ ∧ _))
theorem digit_texts : ∀ i : Nat, i < 19 → TOk 2 (Str.ofString (toString ((-9 : Int) + (i : Int)))) ∧ 1 ≤ (Str.ofString (toString ((-9 : Int) + (i : Int)))).length := by decide +kernel
/-- text data that may be compared -/
theorem shaped_str {z : Str} (h : PyData.strOk z = true) : SeqAt.shaped (.str z) = true := by
  unfold SeqAt.shaped
  rw [show PyData.canLay0 (.str z) = PyData.strOk z by simp only [PyData.canLay0], h]
  rfl

/-! ### data that may be compared -/
theorem dp_ints {K : PySem.W.Frag} {H : Hp} : ∀ is : List Int, DpAll K H (is.map V.int) (is.map PyData.int)
  | [] => .nil
  | i :: is => .cons (.int i) (dp_ints is)
theorem can_ints : ∀ is : List Int, PyData.canLayAll0 (is.map PyData.int) = true
  | [] => by simp only [List.map_nil, PyData.canLayAll0]
  | i :: is => by
    rw [List.map_cons, PyData.canLayAll0, can_ints is]
    simp only [PyData.canLay0, Bool.and_true]
theorem dep_ints : ∀ is : List Int, PyData.depthAll (is.map PyData.int) = 0
  | [] => by simp only [List.map_nil, PyData.depthAll]
  | i :: is => by
    rw [List.map_cons, PyData.depthAll, dep_ints is]
    simp only [PyData.depth, Nat.max_self]
theorem shaped_of {d : PyData} (h : d.canLay0 = true) (k : d.depth ≤ 64) : SeqAt.shaped d = true := by
  unfold SeqAt.shaped
  rw [h, decide_eq_true k]
  rfl
theorem can_pair {z : Str} {d : PyData} (hz : PyData.strOk z = true) (hd : d.canLay0 = true) : (PyData.list [.str z, d]).canLay0 = true := by
  simp only [PyData.canLay0, PyData.canLayAll0, hz, hd, Bool.and_true]
theorem dep_pair {z : Str} {d : PyData} {n : Nat} (hd : d.depth ≤ n) : (PyData.list [.str z, d]).depth ≤ n + 1 := by
  simp only [PyData.depth, PyData.depthAll]
  omega
/-- the item's own data: what stands at it reads so, whatever is made later -/
structure DatOf (K : PySem.W.Frag) (H : Hp) (x : V) (d : PyData) : Prop where
  dp : ∀ H', Same H H' → Dp K H' x d
  can : d.canLay0 = true
  dep : d.depth ≤ 10
theorem DatOf.same {K : PySem.W.Frag} {H H1 : Hp} {x : V} {d : PyData} (h : DatOf K H x d) (s : Same H H1) : DatOf K H1 x d := ⟨fun H' s' => h.dp H' (s.trans s'), h.can, h.dep⟩
theorem DatOf.str {K : PySem.W.Frag} {H : Hp} {z : Str} (hz : PyData.strOk z = true) : DatOf K H (.str z) (.str z) := ⟨fun _ _ => .str z, by simp only [PyData.canLay0, hz], by simp only [PyData.depth]; omega⟩
theorem DatOf.non {K : PySem.W.Frag} {H : Hp} : DatOf K H .non .none := ⟨fun _ _ => .non, by simp only [PyData.canLay0], by simp only [PyData.depth]; omega⟩
theorem DatOf.bl {K : PySem.W.Frag} {H : Hp} {b : Bool} : DatOf K H (.bl b) (.bool b) := ⟨fun _ _ => .bl b, by simp only [PyData.canLay0], by simp only [PyData.depth]; omega⟩
theorem DatOf.int {K : PySem.W.Frag} {H : Hp} {i : Int} : DatOf K H (.int i) (.int i) := ⟨fun _ _ => .int i, by simp only [PyData.canLay0], by simp only [PyData.depth]; omega⟩
theorem DatOf.tup {K : PySem.W.Frag} {H : Hp} {p : Addr} {is : List Int} (e : H p = some (.tup (is.map V.int))) : DatOf K H (.ref p) (.tuple (is.map PyData.int)) :=
  ⟨fun _ s => .tup (SqT.of (s _ _ e)) (dp_ints is), by simp only [PyData.canLay0, can_ints], by simp only [PyData.depth, dep_ints]; omega⟩
theorem DatOf.lst1 {K : PySem.W.Frag} {H : Hp} {p : Addr} {z : Str} (hz : PyData.strOk z = true) (e : H p = some (.lst [.str z])) : DatOf K H (.ref p) (.list [.str z]) :=
  ⟨fun _ s => .lst (SqL.of (s _ _ e)) (.cons (.str z) .nil), by simp only [PyData.canLay0, PyData.canLayAll0, hz, Bool.and_true], by simp only [PyData.depth, PyData.depthAll]; omega⟩
/-- two lists of a word and the same thing: equal -/
theorem pair_eqv {z : Str} {d : PyData} (hz : PyData.strOk z = true) (hd : d.canLay0 = true) : PyData.eqv (.list [.str z, d]) (.list [.str z, d]) = true := SeqAt.eqv_refl _ (can_pair hz hd)
theorem pair_ne {K : PySem.W.Frag} {H : Hp} {l l2 : Addr} {z : Str} {x y : V} {d : PyData} {Q : V → Hp → Prop} (hz : PyData.strOk z = true) (e1 : H l = some (.lst [.str z, x])) (e2 : H l2 = some (.lst [.str z, y])) (h1 : Dp K H x d) (h2 : Dp K H y d) (hc : d.canLay0 = true) (hd : d.depth ≤ 10)
    (q : Q (.bl false) H) : rNeD K (.ref l) (.ref l2) H Q := by
  have sh := shaped_of (can_pair hz hc) (Nat.le_trans (dep_pair hd) (by decide))
  refine ⟨_, _, Dp.lst (SqL.of e1) (.cons (.str z) (.cons h1 .nil)), Dp.lst (SqL.of e2) (.cons (.str z) (.cons h2 .nil)), sh, sh, ?_⟩
  rw [pair_eqv hz hc]
  exact q
theorem pair_eq {K : PySem.W.Frag} {H : Hp} {l l2 : Addr} {z : Str} {x y : V} {d : PyData} {Q : V → Hp → Prop} (hz : PyData.strOk z = true) (e1 : H l = some (.lst [.str z, x])) (e2 : H l2 = some (.lst [.str z, y])) (h1 : Dp K H x d) (h2 : Dp K H y d) (hc : d.canLay0 = true) (hd : d.depth ≤ 10)
    (q : Q (.bl true) H) : rEqD K (.ref l) (.ref l2) H Q := by
  have sh := shaped_of (can_pair hz hc) (Nat.le_trans (dep_pair hd) (by decide))
  refine ⟨_, _, Dp.lst (SqL.of e1) (.cons (.str z) (.cons h1 .nil)), Dp.lst (SqL.of e2) (.cons (.str z) (.cons h2 .nil)), sh, sh, ?_⟩
  rw [pair_eqv hz hc]
  exact q
/-- the digits of a text are ints -/
theorem readV_ints {z : Str} {ds : List V} (h : readV z = some ds) : ∃ is : List Int, ds = is.map V.int := by
  unfold readV at h
  split at h
  · cases Option.some.inj h
    exact ⟨[], rfl⟩
  · unfold rowOf at h
    split at h
    · rename_i hall
      have e := Option.some.inj h
      refine ⟨(Txt.split z (Str.ofString " ")).map fun w => match digV w with | some (.int i) => i | _ => 0, ?_⟩
      rw [← e, List.map_map]
      refine List.map_congr_left fun w hw => ?_
      have hs := List.all_eq_true.mp hall w hw
      obtain ⟨v, hv⟩ := Option.isSome_iff_exists.mp hs
      obtain ⟨i, _, _, rfl⟩ := digV_is hv
      simp only [Function.comp, hv, Option.getD_some]
    · cases h
theorem read_empty : readV (Str.ofString "") = none := by decide +kernel
theorem read_dot : readV (Str.ofString ".") = some [] := by decide +kernel
/-- two ways, heaps behind them of their own, one rest -/
theorem iteDupH {c : Bool} {A B : Prop} {G : Hp} {S : Hp → Prop} (f : (∀ H', Same G H' → S H') → c = true → A) (g : (∀ H', Same G H' → S H') → c = false → B) (r : ∀ H', Same G H' → S H') : if c = true then A else B := by
  cases c with
  | true => exact iteT (f r rfl)
  | false => exact iteF (g r rfl)

/-! ### rows as texts -/
/-- a value of a kind that is no tuple -/
inductive NoTup (H : Hp) : V → Prop
  | non : NoTup H .non
  | bl (b : Bool) : NoTup H (.bl b)
  | int (i : Int) : NoTup H (.int i)
  | str (z : Str) : NoTup H (.str z)
  | lst {a : Addr} {xs : List V} (e : H a = some (.lst xs)) : NoTup H (.ref a)
  | dK {a : Addr} {kvs : List (Key × V)} (e : H a = some (.dK kvs)) : NoTup H (.ref a)
theorem NoTup.kit {K : PySem.W.Frag} {H : Hp} {x : V} (h : NoTup H x) : ∃ t : Value, TyX K H x t ∧ PySem.W.kitOne K t (.type "tuple") = some false := by
  cases h with
  | non => exact ⟨_, .base .non, kit_ty (by decide +kernel)⟩
  | bl b => exact ⟨_, .base (.bl b), kit_ty (by decide +kernel)⟩
  | int z => exact ⟨_, .base (.int z), kit_ty (by decide +kernel)⟩
  | str z => exact ⟨_, .base (.str z), kit_ty (by decide +kernel)⟩
  | lst e => exact ⟨_, .base (.lst e), kit_ty (by decide +kernel)⟩
  | dK e => exact ⟨_, .base (.dK e), kit_ty (by decide +kernel)⟩
theorem NoTup.same {H H' : Hp} {x : V} (h : NoTup H x) (s : Same H H') : NoTup H' x := by
  cases h with
  | non => exact .non
  | bl b => exact .bl b
  | int z => exact .int z
  | str z => exact .str z
  | lst e => exact .lst (s _ _ e)
  | dK e => exact .dK (s _ _ e)
/-- an int, or a value of another kind -/
def IntOdd (H : Hp) (x : V) : Prop := (∃ n : Int, x = .int n) ∨ Odd H x
theorem IntOdd.same {H H' : Hp} {x : V} (h : IntOdd H x) (s : Same H H') : IntOdd H' x := by
  rcases h with h | h
  · exact .inl h
  · exact .inr (h.same s)
def digI (n : Int) : Bool := decide (-9 ≤ n) && decide (n ≤ 9)
/-- a digit -/
def digB : V → Bool
  | .int n => digI n
  | _ => false
theorem digB_odd {H : Hp} {x : V} (h : Odd H x) : digB x = false := by cases h <;> rfl
theorem digs_ints : ∀ {xs : List V}, xs.all digB = true → ∃ is : List Int, xs = is.map V.int ∧ ∀ i ∈ is, -9 ≤ i ∧ i ≤ 9
  | [], _ => ⟨[], rfl, fun i h => by cases h⟩
  | x :: xs, h => by
    rw [List.all_cons, Bool.and_eq_true] at h
    obtain ⟨is, e, k⟩ := digs_ints h.2
    cases x with
    | int n =>
      have h1 : digI n = true := h.1
      unfold digI at h1
      rw [Bool.and_eq_true, decide_eq_true_eq, decide_eq_true_eq] at h1
      refine ⟨n :: is, by rw [e]; rfl, fun i hi => ?_⟩
      rcases List.mem_cons.mp hi with hi | hi
      · rw [hi]; exact h1
      · exact k i hi
    | non => exact absurd h.1 Bool.false_ne_true
    | bl b => exact absurd h.1 Bool.false_ne_true
    | str z => exact absurd h.1 Bool.false_ne_true
    | byt z => exact absurd h.1 Bool.false_ne_true
    | flt z => exact absurd h.1 Bool.false_ne_true
    | ref a => exact absurd h.1 Bool.false_ne_true
    | ty n => exact absurd h.1 Bool.false_ne_true
theorem ints_digs {is : List Int} (h : ∀ i ∈ is, -9 ≤ i ∧ i ≤ 9) : (is.map V.int).all digB = true := by
  rw [List.all_map]
  refine List.all_eq_true.mpr fun i hi => ?_
  obtain ⟨h1, h2⟩ := h i hi
  show digI i = true
  unfold digI
  rw [decide_eq_true h1, decide_eq_true h2]
  rfl
/-- the text of a digit -/
def strI (i : Int) : Str := Str.ofString (toString i)
theorem strI_ok {i : Int} (h : -9 ≤ i ∧ i ≤ 9) : TOk 2 (strI i) ∧ 1 ≤ (strI i).length := by
  obtain ⟨h1, h2⟩ := h
  have e : i = (-9 : Int) + (((i + 9).toNat : Nat) : Int) := by omega
  have := digit_texts (i + 9).toNat (by omega)
  rw [← e] at this
  exact this
theorem digV_all : ∀ k : Nat, k < 19 → digV (Str.ofString (toString ((-9 : Int) + (k : Int)))) = some (V.int ((-9 : Int) + (k : Int))) ∧ (32 : Nat) ∉ tl (Str.ofString (toString ((-9 : Int) + (k : Int)))) ∧ Str.ofString (toString ((-9 : Int) + (k : Int))) ≠ Str.ofString "." ∧ (46 : Nat) ∉ tl (Str.ofString (toString ((-9 : Int) + (k : Int)))) := by decide +kernel
theorem digV_of {i : Int} (h : -9 ≤ i ∧ i ≤ 9) : digV (strI i) = some (V.int i) ∧ (32 : Nat) ∉ tl (strI i) ∧ (46 : Nat) ∉ tl (strI i) := by
  obtain ⟨h1, h2⟩ := h
  have e : i = (-9 : Int) + (((i + 9).toNat : Nat) : Int) := by omega
  obtain ⟨k1, k2, _, k4⟩ := digV_all (i + 9).toNat (by omega)
  rw [← e] at k1 k2 k4
  exact ⟨k1, k2, k4⟩
/-- the text of a row -/
def textOf (is : List Int) : Str := if is = [] then Str.ofString "." else Txt.join (Str.ofString " ") (is.map strI)
theorem textOf_ok {is : List Int} (h : ∀ i ∈ is, -9 ≤ i ∧ i ≤ 9) (hl : is.length ≤ 200) : TOk 600 (textOf is) := by
  unfold textOf
  split
  · decide +kernel
  · refine (TOk.join blankOk (n := 2) fun p hp => ?_).mono ?_
    · obtain ⟨i, hi, rfl⟩ := List.mem_map.mp hp
      exact (strI_ok (h i hi)).1
    · rw [List.length_map]
      omega
where blankOk : TOk 1 (Str.ofString " ") := by decide +kernel
theorem not_dot {is : List Int} (h : ∀ i ∈ is, -9 ≤ i ∧ i ≤ 9) (hn : is ≠ []) : Txt.join (Str.ofString " ") (is.map strI) ≠ Str.ofString "." := fun e => by
  cases is with
  | nil => exact hn rfl
  | cons i r =>
    have hp : strI i ∈ (i :: r).map strI := List.mem_map.mpr ⟨i, List.mem_cons_self .., rfl⟩
    have hi := h i (List.mem_cons_self ..)
    have h2 := (in_join (S := tl (Str.ofString " ")) (ps := ((i :: r).map strI).map tl) (List.mem_map.mpr ⟨_, hp, rfl⟩)).2
    have e2 := congrArg tl e
    rw [TL.join_eq, tl_join] at e2
    rw [e2] at h2
    have hpos := (strI_ok hi).2
    rw [len_tl] at hpos
    cases hs : tl (strI i) with
    | nil => rw [hs] at hpos; exact absurd hpos (by decide)
    | cons c cs =>
      have hc := h2 c (by rw [hs]; exact List.mem_cons_self ..)
      have : c = 46 := by
        have e3 : tl (Str.ofString ".") = [46] := by decide +kernel
        rw [e3] at hc
        exact List.mem_singleton.mp hc
      exact (digV_of hi).2.2 (by rw [hs, this]; exact List.mem_cons_self ..)
/-- a row's text is read as the row -/
theorem read_text {is : List Int} (h : ∀ i ∈ is, -9 ≤ i ∧ i ≤ 9) : readV (textOf is) = some (is.map V.int) := by
  unfold textOf
  by_cases hn : is = []
  · rw [if_pos hn, hn]
    exact read_dot
  · rw [if_neg hn]
    unfold readV
    rw [if_neg (not_dot h hn)]
    have e : Txt.split (Txt.join (Str.ofString " ") (is.map strI)) (Str.ofString " ") = is.map strI := by
      refine TL.split_join (s := 32) (S := []) (by decide +kernel) (by decide +kernel) (fun z => hn (List.map_eq_nil_iff.mp z)) fun p hp => ?_
      obtain ⟨i, hi, rfl⟩ := List.mem_map.mp hp
      exact (digV_of (h i hi)).2.1
    rw [e]
    unfold rowOf
    rw [if_pos]
    · rw [List.map_map]
      congr 1
      refine List.map_congr_left fun i hi => ?_
      show (digV (strI i)).getD .non = V.int i
      rw [(digV_of (h i hi)).1]
      rfl
    · rw [List.all_map]
      refine List.all_eq_true.mpr fun i hi => ?_
      show (digV (strI i)).isSome = true
      rw [(digV_of (h i hi)).1]
      rfl
end OF
/-! Defs that are promised only where no repr is under way, the law among them; repr of lists. -/
namespace OF
open PySem PySem.Spec PyProof.Rows L2

/-! ### promises where no repr is under way -/
structure FnG (P : Program) (w : World) (K : PySem.W.Frag) (mg : Str → Option Value) (base : Heap) (n : Nat) (f : Addr) (fd : FuncData) (ps : List Str) (sp : Sp) : Prop where
  len : ∀ vs H Q E, sp vs H Q E → vs.length = ps.length
  go : ∀ (A : Around) (fr : List Env) (s : Shared) (H : Hp) (ar : Args) (us : List Value) (vs : List V) (Q : VK) (E : XK), A.guards = some [] → Room n A → Env0 P w K mg base A fr s H → BindsTo s fd ar (ps.zip us) → Vals vs us → sp vs H Q E →
    codeAny (model P w) A (.call (.ref f) ar) (CR CX0 fr P w H s Q E) s
section
variable {P : Program} {w : World} {K : PySem.W.Frag} {mg : Str → Option Value} {base : Heap}
theorem guards_in {A : Around} {e : Env} (h : A.guards = some []) : (A.deeper e).guards = some [] := by
  first | exact h | simpa [Around.deeper] using h
theorem okG {x q : Str} {st : Stmt} {f : Addr} {fd : FuncData} {N ps : List Str} {n : Nat} {sp : Sp} (F : Fun K x q st f fd) (S : FnScope N ps (defScope st)) (len : ∀ vs H Q E, sp vs H Q E → vs.length = ps.length)
    (body : ∀ (cv : Value) (A : Around) (fr : List Env) (s : Shared) (H : Hp) (vs : List V) (Q : VK) (E : XK), (A.deeper (envOfC q (defScope st) s.heap.objs.size f cv)).guards = some [] → Room n (A.deeper (envOfC q (defScope st) s.heap.objs.size f cv)) → sp vs H Q E →
      ∃ t, PSs (cxOf CX0 P w K mg base N q (defScope st) f cv A fr s H E).nox (defBody st) t ∧ t { nx := fun _ H' => Q .non H', rt := Q } (start N vs) H) : FnG P w K mg base (n + 1) f fd ps sp := by
  obtain ⟨_, _, kV, dc, pm, an, cv, ct, _, e, lk, cc⟩ := F.ex
  subst e
  constructor
  · exact len
  · intro A fr s H ar us vs Q E gu room e0 bn rel hsp
    have keep := fun b o z => (e0.bs b o z).1
    have inHeap := e0.mod.kin.keeps keep
    have noLim := e0.mod.nolimit.keeps keep
    apply codeAny_call_function room.depth (inHeap _ _ lk) rfl S.co S.gen rfl (PySem.W.codeRec_of inHeap cc)
    apply bn
    apply wpAny_newFunctionEnv_cells S.kind
    · rintro ⟨y, v⟩ hy
      rcases S.par y (List.of_mem_zip hy).1 with p | p
      · exact Or.inl p
      · exact Or.inr ⟨p, PySem.W.cellsFrom_some _ _ _ (Or.inl p)⟩
    · intro env he s1 inc
      subst he
      constructor
      · exact noLim.keeps inc.toInCall.keep
      · apply codeAny_func
        obtain ⟨t, pss, rd⟩ := body cv A fr s H vs Q E (guards_in gu) (room.deeper _) hsp
        have inv := inv_start (CX := CX0) (P := P) (w := w) (E := E) S room.hd e0 (len _ _ _ _ hsp) rel inc
        apply wpAny_mono (pss.nox.run [] s1 (start N vs) H _ inv rd) (hE := fun _ _ z => z)
        intro fl s2 z
        cases fl with
        | ret u => obtain ⟨v, _, H2, J, rv, qv⟩ := z; exact ⟨v, H2, J.os, J.bare, J.base, J.hok, rv, qv⟩
        | next => obtain ⟨_, H2, J, qv⟩ := z; exact ⟨V.non, H2, J.os, J.bare, J.base, J.hok, rfl, qv⟩
        | brk => obtain ⟨_, _, _, no⟩ := z; cases no
        | cont => obtain ⟨_, _, _, no⟩ := z; cases no
end
section
variable {X : Cx} {n : Nat} {f : Addr} {fd : FuncData} {ps : List Str} {sp : Sp} {E : XK} {x : Str} {p pos : Pos} {e : Expr} {es : List Expr} {t : TA}
theorem pe_callG (F : FnG X.prog X.w X.K X.mg X.base n f fd ps sp) (gu : X.A.guards = some []) (room : Room n X.A) (hg : Gl X x) (hm : X.mg x = some (.ref f)) (kp : PySem.W.keepIn X.K (.ref f) = true) (hb : Binds X.K fd ps []) (hx : Passes CX0 X E) (ha : PA X (e :: es) t)
    (hdb : (x == ("__debug__" : Str)) = false := by decide) (he : starEach (e :: es) X.env = (false, eval e X.env) :: starEach es X.env := by rfl) (hpl : (backTo pos (starEach es X.env)).any (·.1) = false := by rfl) :
    PE X (.Call (.Name x p) (e :: es) [] pos) (tCall sp [] E t) := by
  constructor
  intro pins s σ H Q I h
  refine wpAny_Call_Name_kw (ld_glob I hg hm ?_ hdb)
  refine PySem.W.callWith_K (h₀ := X.base) I.ok.mod.kin kp (thn (ha.run pos pins s σ H _ I h) ?_) he hpl
  rintro us s1 ⟨vs, H1, I1, r1, q⟩
  refine ⟨I1.kIn, ?_⟩
  rw [List.append_nil] at q
  have bn := hb s1 us I1.kIn (by rw [List.append_nil, ← r1.length]; exact F.len _ _ _ _ q)
  rw [List.append_nil] at bn
  apply wpAny_call
  apply codeAny_mono (F.go X.A X.stack s1 H1 ⟨us, []⟩ us vs Q E gu room I1.env0 bn r1 q)
  intro r s2 z
  cases r with
  | error er => exact hx pins σ H1 s1 er s2 I1 z
  | ok fl =>
    cases fl with
    | ret u => exact I1.after z
    | next => cases z
    | brk => cases z
    | cont => cases z
end
end OF
namespace OF
open PySem PySem.Spec PyProof.Rows L2
section
variable {P : Program} {w : World} {K : PySem.W.Frag} {mg mb : Str → Option Value}
/-- namespaces stand in what is left where a list alone is hidden -/
theorem ns_left {h : Heap} {H : Hp} {a b : Addr} {xs : Array Value} {m : Str → Option Value} (ha : h.get? a = some { cls := .type "list", data := .seq xs }) (near : ∀ c, H c ≠ none → c = a) (z : h.Ns b m) : (hidT h H).Ns b m := by
  obtain ⟨o, es, ep, eo, ed, rest⟩ := z
  have free : H b = none := Classical.byContradiction fun no => by
    have := near b no
    subst this
    rw [eo] at ha
    have e2 := Option.some.inj ha
    subst e2
    cases ed
  exact ⟨o, es, ep, hidT_get eo free, ed, rest⟩
/-- what is tracked at the law's start -/
theorem script_heap {h : Heap} {a : Addr} {vs : List Value} {ns : List Int} (KX : K.In h) (ha : h.get? a = some { cls := .type "list", data := .seq vs.toArray }) (hi : IntsAre vs ns) (hl : ns.length ≤ sizeLine) :
    ∃ H : Hp, Only H ∧ SqL K H a (ns.map V.int) ∧ HOk P w H h ∧ (∀ c, H c ≠ none → c = a) ∧ (H a ≠ none → K.lookup a = none) := by
  have rel := vals_ints hi
  have n1 : vs.length = ns.length := hi.length
  cases known : K.lookup a with
  | some o =>
    have same := KX a o known
    rw [ha] at same
    have := Option.some.inj same
    subst this
    refine ⟨fun _ => none, fun c => Or.inl rfl, ?_, ?_, fun c z => absurd rfl z, fun z => absurd rfl z⟩
    case refine_2 =>
      intro c o z
      have z2 : (none : Option HO) = some o := z
      cases z2
    right
    refine ⟨_, vs.toArray, _, known, rfl, rfl, rfl, ?_, ?_⟩
    · rw [List.size_toArray, n1]; exact hl
    · rw [List.toList_toArray]; exact rel
  | none =>
    refine ⟨fun c => if c = a then some (.frz { cls := .type "list", data := .seq vs.toArray } (.lst (ns.map V.int))) else none, ?_, ?_, ?_, ?_, fun _ => rfl⟩
    · intro c
      by_cases z : c = a
      · right; exact ⟨_, _, if_pos z⟩
      · left; exact if_neg z
    · left; right; exact ⟨_, if_pos rfl⟩
    · intro c o z
      by_cases y : c = a
      · subst y
        have := (if_pos rfl).symm.trans z
        cases this
        refine ⟨ha, ?_, vs, _, rel, ha⟩
        rw [List.length_map]; exact hl
      · have := (if_neg y).symm.trans z
        cases this
    · intro c z
      exact Classical.byContradiction fun y => z (if_neg y)
theorem law_callG {n : Nat} {fa a : Addr} {fd : FuncData} {x : Str} {sp : Sp} {s : Shared} {vs : List Value} {ns : List Int} (KX : K.In s.heap) (hg : s.heap.Ns mainGlobals mg) (hb : s.heap.Ns builtinsNs mb) (hbb : ∀ y : Str, y ≠ "__name__" → mb y = bootBuiltins y)
    (hlim : s.heap.NoLimit) (he : s.gens = #[]) (ha : s.heap.get? a = some { cls := .type "list", data := .seq vs.toArray }) (hi : IntsAre vs ns) (hl : ns.length ≤ sizeLine) (room : Room n callerA)
    (F : ∀ base : Heap, K.In base → base.Ns mainGlobals mg → FnG P w K mg base n fa fd [x] sp) (bind : ∀ (s : Shared) (u : Value), BindsTo s fd ⟨[u], []⟩ [(x, u)])
    (hsp : ∀ H : Hp, SqL K H a (ns.map V.int) → sp [.ref a] H (fun v _ => v = .bl true) fun _ _ _ => False) :
    codeAny (model P w) callerA (.call (.ref fa) ⟨[.ref a], []⟩) (fun r s' => r = .ok (.ret (.bool true)) ∧ OldK s.heap s'.heap ∧ s'.os = s.os ∧ AllBare s'.gens) s := by
  obtain ⟨H, only, seq, hok, near, out⟩ := script_heap (P := P) (w := w) KX ha hi hl
  have KB : K.In (hidT s.heap H) := by
    intro c o z
    refine hidT_get (KX c o z) (Classical.byContradiction fun no => ?_)
    have := near c no
    subst this
    rw [out no] at z
    cases z
  have lim : (hidT s.heap H).NoLimit := by
    obtain ⟨mc, h1, h2⟩ := hlim
    exact ⟨mc, ns_left ha near h1, h2⟩
  have M : Mod K mg (hidT s.heap H) := { kin := KB, glob := ns_left ha near hg, blt := ⟨mb, ns_left ha near hb, hbb⟩, nolimit := lim }
  have E0 : Env0 P w K mg (hidT s.heap H) callerA [] s H := {
    frames := rfl, mod := M, bs := fun c o z => of_hidT z, bsz := Nat.le_of_eq (hidT_size _ _), funs := trivial
    frf := fun c z => (by cases z), hok := hok, bare := AllBare.of_eq he }
  have main := (F _ KB (ns_left ha near hg)).go callerA [] s H ⟨[.ref a], []⟩ [.ref a] [.ref a] _ _ rfl room E0 (bind s (.ref a)) (.cons rfl .nil) (hsp H seq)
  apply codeAny_mono main
  intro r s' z
  cases r with
  | error er => cases z
  | ok fl =>
    cases fl with
    | next => cases z
    | brk => cases z
    | cont => cases z
    | ret u =>
      obtain ⟨v, H', sameOs, bare, un, hok', rv, ev⟩ := z
      have ev2 : v = .bl true := ev
      subst ev2
      have eu : u = Value.bool true := rv
      subst eu
      refine ⟨rfl, OldK.of_keep ?_, sameOs, bare⟩
      intro c o z
      rcases only c with fr | ⟨o2, xs, fr⟩
      · apply un.keep c o z fr
        · intro y; cases y
        · intro y; cases y
      · have fr2 := un.frzs c o2 _ fr
        have g1 := (hok c _ fr).1
        have g2 := (hok' c _ fr2).1
        rw [z] at g1
        rw [g2, ← Option.some.inj g1]
theorem walkG {l : PySem.W.OpenLaw} {m n : Nat} {q : Program} {loose : List Str} {XP : (Str → Option Value) → Heap → Prop} {YP : World → Heap → Prop} {d : DefRec} {K : Params → PySem.W.Frag} {sp : World → Sp} {x : Str}
    (hm : l.most = some m) (hm2 : m ≤ sizeLine) (hdf : d.params.defaults = []) (room : Room n callerA) (hY : ∀ (w : World) (h : Heap), YP w h → (K w.params).In h)
    (F : ∀ (w : World) (mg : Str → Option Value) (fa : Addr) (h : Heap), (K w.params).In h → h.Ns mainGlobals mg → mg d.name = some (.ref fa) →
      ∃ fd : FuncData, (∀ (s : Shared) (u : Value), BindsTo s fd ⟨[u], []⟩ [(x, u)]) ∧ ∀ base : Heap, (K w.params).In base → base.Ns mainGlobals mg → FnG l.prog w (K w.params) mg base n fa fd [x] (sp w))
    (hsp : ∀ (w : World) (H : Hp) (a : Addr) (ns : List Int), ns.length ≤ m → SqL (K w.params) H a (ns.map V.int) → sp w [.ref a] H (fun v _ => v = .bl true) fun _ _ _ => False) :
    PySem.W.WalkO q loose XP YP l.row.toRowW d [] (fun f vs => PySem.call f vs) := by
  apply Att.attach_call hm hdf
  intro w s₀ s₁ mg mb fa o pm cd doc a vs ns G Y ho hd hcd hmg hobj hints hlen hg
  obtain ⟨fd, bind, FF⟩ := F w mg fa _ (hY w _ Y) G.T.g hmg
  exact law_callG (hY w _ Y) G.T.g G.T.b G.T.builtins G.T.nolimit hg hobj hints (Nat.le_trans hlen hm2) room FF bind fun H => hsp w H a ns hlen
end
end OF
/-! What repr shows: plain values, tuples and lists of such, dicts of ints; repr of a list of these. -/
namespace OF
open PySem PySem.Spec PyProof.Rows L2
section
variable {X : Cx} {H : Hp}
/-- v reads as d and is shown so, wherever the heap is tracked by H -/
def Rp (X : Cx) (H : Hp) (v : V) (d : PyData) : Prop := ∀ (pins : List (Addr × Obj)) (σ : L2.St) (s : Shared) (u : Value), Inv X pins σ H s → RelV v u →
  (∃ as, Reads s.heap u d as) ∧ ∃ bs, ReadAtMost s.heap d.depth bs ∧ ReprK X.prog X.w bs s.heap d.depth u d.shown
inductive RpAll (X : Cx) (H : Hp) : List V → List PyData → Prop
  | nil : RpAll X H [] []
  | cons {v : V} {d : PyData} {vs : List V} {ds : List PyData} : Rp X H v d → RpAll X H vs ds → RpAll X H (v :: vs) (d :: ds)
theorem RpAll.reads {vs : List V} {ds : List PyData} (h : RpAll X H vs ds) : ∀ {pins : List (Addr × Obj)} {σ : L2.St} {s : Shared} {us : List Value}, Inv X pins σ H s → Vals vs us →
    (∃ as, ReadsAll s.heap us ds as) ∧ ∃ bs, ReadAtMost s.heap (PyData.depthAll ds) bs ∧ ReprAllK X.prog X.w bs s.heap (PyData.depthAll ds) us (PyData.shownAll ds) := by
  induction h with
  | nil =>
    intro pins σ s us I r
    cases r
    refine ⟨⟨[], .nil⟩, [], ?_, ?_⟩
    · intro c z
      cases z
    · simp only [PyData.shownAll]
      exact .nil
  | cons h1 _ ih =>
    intro pins σ s us I r
    cases r with
    | cons r1 r2 =>
      obtain ⟨⟨as, q1⟩, b1, m1, k1⟩ := h1 pins σ s _ I r1
      obtain ⟨⟨cs, q2⟩, b2, m2, k2⟩ := ih I r2
      simp only [PyData.depthAll, PyData.shownAll]
      refine ⟨⟨as ++ cs, .cons q1 q2⟩, b1 ++ b2, (m1.mono (Nat.le_max_left _ _)).append (m2.mono (Nat.le_max_right _ _)), .cons ?_ ?_⟩
      · exact (k1.more fun c z => List.mem_append_left _ z).level_le (Nat.le_max_left _ _)
      · exact k2.more_le (fun c z => List.mem_append_right _ z) (Nat.le_max_right _ _)
/-- what the library reads -/
theorem Rp.dp {v : V} {d : PyData} (h : Dp X.K H v d) (hs : d.showable = true) (hn : d.hasDict = false) (hz : d.shown.length ≤ sizeLine) : Rp X H v d := fun pins σ s u I r => by
  obtain ⟨as, q⟩ := Dp.reads I d v u h r
  exact ⟨⟨as, q⟩, ReprK.of_reads q hs (PyData.noDict_hsm hn) hz⟩
theorem Rp.tup {a : Addr} {xs : List V} {ds : List PyData} (h : SqT X.K H a xs) (ha : RpAll X H xs ds) : Rp X H (.ref a) (.tuple ds) := fun pins σ s u I r => by
  cases r
  obtain ⟨its, rv, ⟨o, ho, hc, n, hd⟩, _⟩ := I.tuple h
  obtain ⟨⟨as, q⟩, bs, m, k⟩ := ha.reads I rv
  have R : Reads s.heap (.ref a) (.tuple ds) as := .tuple ho hc hd q
  have out : a ∉ bs := not_mem_of_deeper R (by simp only [PyData.depth]; omega) m
  refine ⟨⟨as, R⟩, a :: bs, ReadAtMost.cons R (by simp only [PyData.depth]; omega) m, ?_⟩
  simp only [PyData.depth, PyData.shown]
  exact ReprK.tuple ho hc hd out k
def keyD : Key → PyData
  | .inl i => .int i
  | .inr z => .str z
theorem pairs_read {P : Program} {w : World} {h : Heap} : ∀ (kvs : List (Key × Int)) (vs : List (Key × Value)) (es : List DictEntry), KV (kvs.map fun p => (p.1, V.int p.2)) vs → Pairs (mixKind P w) es vs →
    ReadsAll h (es.map (·.key)) ((kvs.map fun p => (keyD p.1, PyData.int p.2)).map (·.1)) [] ∧ ReadsAll h (es.map (·.val)) ((kvs.map fun p => (keyD p.1, PyData.int p.2)).map (·.2)) []
  | [], _, _, r, q => by
    cases r
    cases q
    exact ⟨.nil, .nil⟩
  | p :: kvs, _, _, r, q => by
    cases r with
    | cons r1 r2 =>
      cases q with
      | @cons en _ _ _ k1 v1 q2 =>
        obtain ⟨h1, h2⟩ := pairs_read (h := h) kvs _ _ r2 q2
        obtain ⟨e1, t, e2⟩ := r1
        constructor
        · refine ReadsAll.cons (as := []) (bs := []) ?_ h1
          rw [← e1] at k1
          rcases keyIs_shape k1 with ⟨i, t, x1, x2⟩ | ⟨z, t, x1, x2⟩
          · show Reads h en.key (keyD p.1) []
            rw [x2, show p.1 = Sum.inl i from x1]
            exact .int i t
          · show Reads h en.key (keyD p.1) []
            rw [x2, show p.1 = Sum.inr z from x1]
            exact .str z t
        · refine ReadsAll.cons (as := []) (bs := []) ?_ h2
          show Reads h en.val (.int p.2) []
          rw [v1, e2]
          exact .int _ _
theorem Rp.dct {a : Addr} {kvs : List (Key × Int)} (h : H a = some (.dK (kvs.map fun p => (p.1, V.int p.2)))) (hs : (PyData.dict (kvs.map fun p => (keyD p.1, PyData.int p.2))).showable = true) (hz : (PyData.dict (kvs.map fun p => (keyD p.1, PyData.int p.2))).shown.length ≤ sizeLine) :
    Rp X H (.ref a) (.dict (kvs.map fun p => (keyD p.1, .int p.2))) := fun pins σ s u I r => by
  cases r
  obtain ⟨_, hm, vs, rel, o, es, ep, ho, hx, hd, _, hp, _⟩ := dk_of I.hok h
  obtain ⟨h1, h2⟩ := pairs_read (h := s.heap) kvs vs es.toList rel hp
  have R : Reads s.heap (.ref a) (.dict (kvs.map fun p => (keyD p.1, .int p.2))) (a :: [] ++ []) := .dict ho hx.1 hd h1 h2
  refine ⟨⟨_, R⟩, ReprK.of_reads R hs (fun _ z => ?_) hz⟩
  have z2 : sysModules ∈ [a] := z
  rw [List.mem_singleton] at z2
  rw [← z2] at hm
  exact absurd hm (by decide)
/-- repr of a list -/
def rRepr (X : Cx) : List V → Hp → VK → Prop := fun xs H Q => ∃ (a : Addr) (ys : List V) (ds : List PyData), xs = [.ref a] ∧ SqL X.K H a ys ∧ RpAll X H ys ds ∧ PyData.depthAll ds ≤ 40 ∧ (PyData.list ds).shown.length ≤ sizeLine ∧ Q (.str (PyData.list ds).shown) H
theorem call_reprL (gu : X.A.guards = some []) (hu : X.A.units + 64 < cLine) : CallR X (.builtin "repr") (rRepr X) := by
  intro pins s σ H xs us Q I r h
  obtain ⟨a, ys, ds, rfl, hl, hd, dep, hz, q⟩ := h
  obtain ⟨u, rfl, ru⟩ := vals1 r
  cases ru
  obtain ⟨its, rv, ⟨o, n, ho, hc, _, hdat⟩, _⟩ := I.list hl
  obtain ⟨⟨as, rd⟩, bs, m, k⟩ := hd.reads I rv
  have R : Reads s.heap (.ref a) (.list ds) (a :: as) := .list ho hc hdat rd
  have out : a ∉ bs := not_mem_of_deeper R (by simp only [PyData.depth]; omega) m
  refine call_repr_slot (by omega) ⟨o, ho, hc⟩ F.slot_list_repr.toG ?_
  have fin : ∀ (h' : Heap) (t tk : Nat), (∀ c o, s.heap.get? c = some o → h'.get? c = some o) → ∃ x u, Value.str (PyData.list ds).shown t = Value.str x u ∧ EP X pins σ Q (Value.str (PyData.list ds).shown t) { s with heap := h', toks := tk } := fun h' t tk kp =>
    ⟨_, _, rfl, .str _, H, I.kept kp, ⟨_, rfl⟩, q⟩
  simp only [PyData.shown] at fin hz
  cases its with
  | nil =>
    cases rd
    simp only [PyData.shownAll, listText_nil] at fin
    exact call_list_repr_empty ⟨o, ho, hc⟩ ho hdat (fin s.heap _ _ fun _ _ z => z)
  | cons x l =>
    exact call_list_reprK (s := s) ho hc hdat out (by simpa using k.length_eq) (fun i y z => k.item i y (by simpa using z)) gu (fun b _ => Clear.nil b) (show X.A.units + 1 + (PyData.depthAll ds + 1) < cLine by omega) (fun _ _ z => z) fin hz
end
end OF
set_option maxHeartbeats 4000000
/-! Errors of the program's own classes as values: made by position and by names. -/
namespace OF
open PySem PySem.Spec PyProof.Rows L2 PySem.HandSPX
section
variable {prog : Program} {w : World} {A : Around} {E : Value → Shared → Prop} {h : Heap} {g : Array GenState} {d : Drawn} {t : Nat} {os : OsState} {nm q : Str} {C N : Addr} {bs bm bmB : List Value} {hdct ab : Bool} {sn : List Str} {sub rest : List Value} {col : Option Bool} {dd : Option Addr}
  {k0 k1 k2 k3 k5 : Option Value} {B newId initId : String} {kw : List (Str × Value)}
theorem kw_new_ok {M : Model} {Q : Unit → Shared → Prop} (F : ExcBaseFacts B newId initId bmB) (same : ∀ T : String, bm.contains (.type T) = bmB.contains (.type T)) (hC : h.get? C = some (excClassObj nm q C N bs bm hdct sn sub ab col dd k0 k1 k2 k3 k5 newId))
    (fin : Q () ⟨h, g, d, t, os⟩) : wpAny M A (checkBuiltinCall newId ⟨.ref C :: rest, kw⟩) Q E ⟨h, g, d, t, os⟩ := by
  have below : (Value.ref C :: bm).contains (.type B) = true := by
    rw [List.contains_cons, same, F.hasB]
    exact Bool.or_true _
  have short := F.noStar
  simp only [checkBuiltinCall, F.newSplit, F.newKind, F.newRow]
  repeat first
    | refine wpAny_loadPart_at hC ?_
    | (refine wpAny_isSubtype_exc hC ?_; rw [below])
    | refine wpAny_staticBase_exc hC ?_
    | refine wpAny_madeBy_exc hC ?_
    | simp only [Bool.false_eq_true, bne_self_eq_false, if_false]
    | wp_step
  exact fin

theorem kw_new_run {R : Result → Shared → Prop} (F : ExcBaseFacts B newId initId bmB) (same : ∀ T : String, bm.contains (.type T) = bmB.contains (.type T)) (hC : h.get? C = some (excClassObj nm q C N bs bm hdct sn sub ab col dd k0 k1 k2 k3 k5 newId)) (small : rest.length ≤ sizeLine)
    (fin : R (.ok (.ret (.ref (h.objs.size + 1)))) ⟨(h.push (PySem.W.kdv_tup rest)).push (excO C h.objs.size), g, d, t, os⟩) : codeAny (model prog w) A (.builtin newId ⟨.ref C :: rest, kw⟩) R ⟨h, g, d, t, os⟩ := by
  have ends := F.ends
  have inB : (Value.ref C :: bm).contains (.type B) = true := by
    rw [List.contains_cons, same, F.hasB]
    exact Bool.or_true _
  have outA : (Value.ref C :: bm).contains (.type "AttributeError") = false := by
    rw [List.contains_cons, same, F.noAttr] <;> rfl
  have outN : (Value.ref C :: bm).contains (.type "NameError") = false := by
    rw [List.contains_cons, same, F.noName] <;> rfl
  apply codeAny_builtinAt F.entry
  unfold Builtin.«BaseException.__new__»
  apply PySem.wpAt_bind
  show PySem.wpAt _ _ _ (stack >>= _) _ _ _
  apply PySem.wpAt_bind
  apply PySem.wpAt_stack
  intro p rest'
  apply PySem.wpAt_of_wpAny
  wp_walk
  apply PySem.wpAt_of_wpAny
  rw [F.owner]
  repeat first
    | with_reducible refine wpAny_madeHere_exc F.canon hC ?_
    | with_reducible refine wpAny_loadPart_at hC ?_
    | (with_reducible refine wpAny_isSubtype_exc hC ?_
       first | rw [inB] | rw [outA] | rw [outN])
    | wp_step
  show R _ _
  rw [Heap.size_push]
  exact fin
theorem kw_call_run {fI : Addr} {Q : Fin → Shared → Prop} (F : ExcBaseFacts B newId initId bmB) (same : ∀ T : String, bm.contains (.type T) = bmB.contains (.type T)) (hC : h.get? C = some (excClassObj nm q C N bs bm hdct sn sub ab col dd k0 k1 k2 k3 k5 newId)) (small : rest.length ≤ sizeLine)
    (li : PySem.W.Looks (model prog w) h (typeLookup (.ref C) "__init__") (some (.ref fI))) (lb : ∀ v, PySem.W.Looks (model prog w) h (bindSpecial (.ref fI) v) (.ref fI, [v]))
    (fin : codeAny (model prog w) A (.call (.ref fI) ⟨.ref (h.objs.size + 1) :: rest, kw⟩) (fun r s' => match r with | .ok (.ret v) => v = .none ∧ Q (.done (.ret (.ref (h.objs.size + 1)))) s' | .ok _ => False | .error e => E e s')
      ⟨(h.push (PySem.W.kdv_tup rest)).push (excO C h.objs.size), g, d, t, os⟩) : wpAny (model prog w) A (Builtin.«type.__call__» ⟨.ref C :: rest, kw⟩) Q E ⟨h, g, d, t, os⟩ := by
  repeat first
    | with_reducible refine wpAny_loadPart_at hC ?_
    | with_reducible refine wpAny_madeBy_exc hC ?_
    | wp_step
  apply codeAny_call_builtin_code (Code.quiet_builtin _ F.quiet) (kw_new_ok F same hC _)
  apply kw_new_run F same hC small
  show wpAny _ _ _ _ _ _
  have keep : ∀ c o, h.get? c = some o → ((h.push (PySem.W.kdv_tup rest)).push (excO C h.objs.size)).get? c = some o := by
    intro c o z
    exact Heap.get?_push_of_some _ (Heap.get?_push_of_some _ z)
  have hC2 := keep _ _ hC
  have there : ((h.push (PySem.W.kdv_tup rest)).push (excO C h.objs.size)).get? (h.objs.size + 1) = some (excO C h.objs.size) := by heap_get
  have self : (Value.ref C :: bm).contains (.ref C) = true := by simp
  have li2 := li.keeps keep
  have lb2 := (lb (.ref (h.objs.size + 1))).keeps keep
  unfold isInstance
  repeat first
    | with_reducible refine wpAny_loadPart_at there ?_
    | (with_reducible refine wpAny_isSubtype_exc hC2 ?_
       rw [self])
    | wp_step
  show wpAny _ _ (typeLookup (.ref C) _) _ _ _
  apply li2.at
  apply wpAny_holding
  apply wpAny_bind
  apply lb2.at
  apply wpAny_bind
  apply wpAny_call
  apply codeAny_mono fin
  intro r s' z
  cases r with
  | error e => exact z
  | ok fl =>
    cases fl with
    | next => exact z.elim
    | brk => exact z.elim
    | cont => exact z.elim
    | ret v =>
      obtain ⟨ev, z⟩ := z
      subst ev
      first
        | exact wpAny_pure (wpAny_pure z)
        | (wp_walk; exact z)
theorem kw_call {fI : Addr} {R : Result → Shared → Prop} (F : ExcBaseFacts B newId initId bmB) (same : ∀ T : String, bm.contains (.type T) = bmB.contains (.type T)) (hC : h.get? C = some (excClassObj nm q C N bs bm hdct sn sub ab col dd k0 k1 k2 k3 k5 newId)) (small : rest.length ≤ sizeLine)
    (li : PySem.W.Looks (model prog w) h (typeLookup (.ref C) "__init__") (some (.ref fI))) (lb : ∀ v, PySem.W.Looks (model prog w) h (bindSpecial (.ref fI) v) (.ref fI, [v]))
    (fin : codeAny (model prog w) (A.under (.builtin "type.__call__" ⟨.ref C :: rest, kw⟩)) (.call (.ref fI) ⟨.ref (h.objs.size + 1) :: rest, kw⟩) (PySem.W.InitBack (h.objs.size + 1) R)
      ⟨(h.push (PySem.W.kdv_tup rest)).push (excO C h.objs.size), g, d, t, os⟩) : codeAny (model prog w) A (.call (.ref C) ⟨rest, kw⟩) R ⟨h, g, d, t, os⟩ := by
  have f1 := tc_lookup
  have f2 := tc_bind (.ref C)
  have isT : (⟨h, g, d, t, os⟩ : Shared).TypeIs (.ref C) "type" := ⟨_, hC, rfl⟩
  apply codeAny_of_tree
  show wpAny _ _ (callAny (.ref C) _) _ _ _
  repeat any_goals first
    | assumption
    | with_reducible refine wpAny_loadPart_at hC ?_
    | wp_step
  constructor
  · rfl
  have typ : PySem.W.Looks (model prog w) h (isInstance (.ref C) (.type "type")) true := by
    unfold isInstance
    have ty : PySem.W.Looks (model prog w) h (typeOf (.ref C)) (.type "type") := (PySem.W.Looks.ld hC).andThen .now
    exact ty.andThen (PySem.W.Looks.of_pure tc_sub)
  apply codeAny_call_builtin_at (Code.quiet_builtin _ (by decide +kernel)) entry_typeCall
  apply PySem.W.check_slot tc_kind tc_split typ (PySem.W.tc_args _ _ _)
  apply kw_call_run F same hC small li lb
  apply codeAny_mono fin
  intro r s' z
  cases r with
  | error e => exact z
  | ok fl => cases fl <;> exact z
end
end OF
/-! Errors of the program's own classes as values: the rules. -/
namespace OF
open PySem PySem.Spec PyProof.Rows L2
/-- what the maker of an error must do, and what then holds -/
def MadeBy (C : Addr) (sp : Sp) (xs : Addr → List V) (H : Hp) (Q : VK) : Prop := ∀ a, H a = none → sp (xs a) (upd H a (exo a C none)) (fun v H2 => v = .non ∧ Q (.ref a) H2) (fun _ _ _ => False)
def tMadeP (C : Addr) (sp : Sp) (ta : TA) : TE := fun σ H Q => ta σ H fun vs H1 => vs.length ≤ 1000 ∧ MadeBy C sp (fun a => .ref a :: vs) H1 Q
def tMadeN (C : Addr) (m : Nat) (sp : Sp) (gV : List V → List V → List V) (tk : TA) : TE := fun σ H Q => tk σ H fun zs H1 => zs.length = m ∧ MadeBy C sp (fun a => gV [.ref a] zs) H1 Q
section
variable {X : Cx} {CX : CXT} {x : Str} {C fI : Addr} {k n : Nat} {fd : FuncData} {ps ks : List Str} {sp : Sp} {e : Expr} {es : List Expr} {kws : List Keyword} {ta tk : TA} {p pos : Pos} {g : List Value → List Value → List Value} {gV : List V → List V → List V}
theorem run_made {pins : List (Addr × Obj)} {σ : L2.St} {H : Hp} {s : Shared} {us ws : List Value} {vs zs : List V} {Q : VK} (T : OexC X.K C) (iC : PySem.W.findIn X.K (.ref C) "__init__" = some (some (.ref fI))) (tI : PySem.W.typeIn X.K (.ref fI) = some (.type "function"))
    (F1 : FnOk X.prog X.w X.K X.mg X.base CX k fI fd ps sp) (room : Room (k + 1) X.A) (hb : KBn X.K fd ps (n + 1) ks g gV) (hx : Passes CX X (fun _ _ _ => False)) (I : Inv X pins σ H s) (r : Vals vs us) (rz : Vals zs ws) (l1 : vs.length = n) (l2 : zs.length = ks.length) (small : vs.length ≤ 1000)
    (h : MadeBy C sp (fun a => gV (.ref a :: vs) zs) H Q) : wpAny (model X.prog X.w) X.A (call (.ref C) us (ks.zip ws)) (EP X pins σ Q) X.xe s := by
  obtain ⟨nm, q, N, bs, bm, sn, sub, ab, col, dd, k0, k1, k2, k3, k5, hC, hbm⟩ := T.cls
  obtain ⟨hp, gn, dr, t, os⟩ := s
  have le : hp.objs.size ≤ hp.objs.size + 1 := Nat.le_succ _
  have hq := h (hp.objs.size + 1) (I.hok.fresh le)
  have keep : ∀ c o, hp.get? c = some o → ((hp.push (PySem.W.kdv_tup us)).push (PySem.HandSPX.excO C hp.objs.size)).get? c = some o := by
    intro c o z
    exact Heap.get?_push_of_some _ (Heap.get?_push_of_some _ z)
  have there : ((hp.push (PySem.W.kdv_tup us)).push (PySem.HandSPX.excO C hp.objs.size)).get? (hp.objs.size + 1) = some (PySem.HandSPX.excO C hp.objs.size) := by heap_get
  have J : Inv X pins σ (upd H (hp.objs.size + 1) (exo (hp.objs.size + 1) C none)) ⟨(hp.push (PySem.W.kdv_tup us)).push (PySem.HandSPX.excO C hp.objs.size), gn, dr, t, os⟩ :=
    I.laid (t' := t) keep le (exo_ok there)
  have r1 : Vals (V.ref (hp.objs.size + 1) :: vs) (Value.ref (hp.objs.size + 1) :: us) := .cons rfl r
  have n1 : (Value.ref (hp.objs.size + 1) :: us).length = n + 1 := by rw [List.length_cons, ← r.length, l1]
  have n2 : us.length ≤ sizeLine := by
    rw [← r.length, sizeLine_eq]
    omega
  apply wpAny_call
  apply kw_call F.excBase_ValueError (fun Y => PySem.HandSPX.refsVE_contains Y bm hbm) (I.kIn _ _ hC) n2 (PySem.W.looks_findIn I.kIn iC) (fun v => PySem.W.bind_fn I.kIn v tI)
  apply codeAny_mono (F1.run _ X.stack _ _ ⟨Value.ref (hp.objs.size + 1) :: us, ks.zip ws⟩ (g (Value.ref (hp.objs.size + 1) :: us) ws) _ _ (fun _ _ _ => False) (room.make C us (ks.zip ws)) (J.env0.make C us (ks.zip ws))
    (hb.to _ (Value.ref (hp.objs.size + 1) :: us) ws J.kIn n1 (rz.length.symm.trans l2)) (hb.rel r1 rz) hq)
  intro res s' z
  cases res with
  | error er => exact hx pins σ _ _ er s' J z
  | ok fl =>
    cases fl with
    | next => cases z
    | brk => cases z
    | cont => cases z
    | ret u =>
      obtain ⟨v, H', J2, rv, ev, q2⟩ := J.after z
      subst ev
      exact ⟨rv, V.ref (hp.objs.size + 1), H', J2, rfl, q2⟩
/-- positions alone are names of none -/
theorem kb_pos (b : Binds X.K fd ps []) : KBn X.K fd ps ps.length [] (fun us _ => us) (fun vs _ => vs) := by
  constructor
  · intro s us ws KX l1 l2
    have := b s us KX (by rw [List.append_nil]; exact l1)
    rw [List.append_nil] at this
    exact this
  · intro vs us zs ws r _
    exact r
/-- C(e, ..) -/
theorem pe_madeP (T : OexC X.K C) (iC : PySem.W.findIn X.K (.ref C) "__init__" = some (some (.ref fI))) (tI : PySem.W.typeIn X.K (.ref fI) = some (.type "function")) (F1 : FnOk X.prog X.w X.K X.mg X.base CX k fI fd ps sp) (room : Room (k + 1) X.A) (b : Binds X.K fd ps [])
    (hx : Passes CX X (fun _ _ _ => False)) (hg : Gl X x) (hm : X.mg x = some (.ref C)) (ha : PA X (e :: es) ta)
    (hdb : (x == ("__debug__" : Str)) = false := by decide) (he : starEach (e :: es) X.env = (false, eval e X.env) :: starEach es X.env := by rfl) (hpl : (backTo pos (starEach es X.env)).any (·.1) = false := by rfl) :
    PE X (.Call (.Name x p) (e :: es) [] pos) (tMadeP C sp ta) := by
  constructor
  intro pins s σ H Q I h
  refine wpAny_Call_Name_kw (ld_glob I hg hm ?_ hdb)
  refine PySem.W.callWith_K (h₀ := X.base) I.ok.mod.kin T.kC (thn (ha.run pos pins s σ H _ I h) ?_) he hpl
  rintro us s1 ⟨vs, H1, I1, r1, small, q⟩
  refine ⟨I1.kIn, ?_⟩
  have hl : ps.length = vs.length + 1 := by
    have z := F1.len _ _ _ _ (q (s1.heap.objs.size + 1) (I1.hok.fresh (Nat.le_succ _)))
    rw [← z]
    rfl
  have kb := kb_pos (X := X) b
  rw [hl] at kb
  exact run_made (zs := []) (ws := []) T iC tI F1 room kb hx I1 r1 .nil rfl rfl small q
/-- C() -/
theorem pe_made0 (T : OexC X.K C) (iC : PySem.W.findIn X.K (.ref C) "__init__" = some (some (.ref fI))) (tI : PySem.W.typeIn X.K (.ref fI) = some (.type "function")) (F1 : FnOk X.prog X.w X.K X.mg X.base CX k fI fd ["self"] sp) (room : Room (k + 1) X.A) (b : Binds X.K fd ["self"] [])
    (hx : Passes CX X (fun _ _ _ => False)) (hg : Gl X x) (hm : X.mg x = some (.ref C)) (hdb : (x == ("__debug__" : Str)) = false := by decide) :
    PE X (.Call (.Name x p) [] [] pos) (tMadeP C sp tNil) := by
  constructor
  intro pins s σ H Q I h
  refine wpAny_Call_Name_kw (ld_glob I hg hm ?_ hdb)
  exact PySem.W.callWith_K0 I.kIn T.kC (run_made (n := 0) (us := []) (vs := []) (zs := []) (ws := []) T iC tI F1 room (kb_pos (X := X) b) hx I .nil .nil rfl rfl (Nat.zero_le _) h.2)
/-- C(k = e, ..) -/
theorem pe_madeN (T : OexC X.K C) (iC : PySem.W.findIn X.K (.ref C) "__init__" = some (some (.ref fI))) (tI : PySem.W.typeIn X.K (.ref fI) = some (.type "function")) (F1 : FnOk X.prog X.w X.K X.mg X.base CX k fI fd ps sp) (room : Room (k + 1) X.A) (kb : KBn X.K fd ps 1 ks g gV)
    (hx : Passes CX X (fun _ _ _ => False)) (hg : Gl X x) (hm : X.mg x = some (.ref C)) (hkw : PK X kws tk) (hall : (backToKw pos (keywordEach kws X.env)).all (·.1.isSome) = true := by rfl) (hks : (backToKw pos (keywordEach kws X.env)).filterMap (·.1) = ks := by rfl)
    (hdb : (x == ("__debug__" : Str)) = false := by decide) (hpl : ((backTo pos (starEach [] X.env)).any (·.1) || (backToKw pos (keywordEach kws X.env)).any (·.1.isNone)) = false := by rfl) :
    PE X (.Call (.Name x p) [] kws pos) (tMadeN C ks.length sp gV tk) := by
  constructor
  intro pins s σ H Q I h
  refine wpAny_Call_Name_kw (ld_glob I hg hm ?_ hdb)
  refine PySem.W.callWith_KW0 (h₀ := X.base) I.ok.mod.kin T.kC hall (thn (hkw.run pos pins s σ H _ I h) ?_) hpl
  rintro ws s2 ⟨zs, H2, I2, rz, l2, q⟩
  refine ⟨I2.kIn, ?_⟩
  rw [hks]
  exact run_made (n := 0) (us := []) (vs := []) T iC tI F1 room kb hx I2 .nil rz rfl l2 (Nat.zero_le _) q
/-- e.f of such a value -/
def tFldC (K : PySem.W.Frag) (f : Str) (te : TE) : TE := fun σ H Q => te σ H fun x H1 => ∃ (a d C : Addr) (fs : List (Str × V)) (v : V), x = .ref a ∧ XfC K C ∧ PySem.W.findIn K (.ref C) f = some none ∧ H1 a = some (exo a C (some d)) ∧ H1 d = some (exd d fs) ∧ fs.lookup f = some v ∧ Q v H1
theorem pe_fldV {f : Str} {te : TE} (he : PE X e te) (hb : attributeBase e f X.env (eval e X.env) = eval e X.env := by rfl) : PE X (.Attribute e f pos) (tFldC X.K f te) := by
  constructor
  intro pins s σ H Q I h
  refine attr_of hb (thn (he.run pins s σ H _ I h) ?_)
  rintro u s1 ⟨y, H1, I1, ru, a, d, C, fs, v, ey, T, no, ea, ed, l, q⟩
  subst ey
  cases ru
  obtain ⟨t1, ho⟩ := exo_at I1.hok ea
  obtain ⟨mA, hns, rel⟩ := exd_at I1.hok ed
  obtain ⟨od, hod, hl⟩ := lookIn_ns hns
  obtain ⟨u, hu, rv⟩ := RelO.some_of (v := v) (o := mA f) (by rw [← l]; exact rel f)
  have J : PySem.W.InstAt s1.heap a _ C (some od) := ⟨ho, rfl, rfl, hod⟩
  exact PySem.HandSPX.exc_get I1.kIn J T.ga T.gg T.exC (PySem.W.findObj_own T.hdC no rfl (by rw [hl, hu])) (handed_of rv) ⟨v, H1, I1.tok _, rv, q⟩
/-- isinstance(e, C) of such a value -/
def rAskV (K : PySem.W.Frag) : List V → Hp → VK → Prop := fun xs H Q => ∃ (a D : Addr) (d : Option Addr) (c : V) (cv : Value) (b : Bool), xs = [.ref a, c] ∧ AskC K D ∧ H a = some (exo a D d) ∧ (∀ d', d = some d' → ∃ fs, H d' = some (exd d' fs)) ∧ (∀ u, RelV c u → u = cv) ∧ PySem.W.kitOne K (.ref D) cv = some b ∧ Q (.bl b) H
theorem call_askV : CallR X (.builtin "isinstance") (rAskV X.K) := by
  intro pins s σ H xs us Q I r h
  obtain ⟨a, D, d, c, cv, b, rfl, T, ea, ed, hcv, kit, q⟩ := h
  obtain ⟨u1, u2, rfl, r1, r2⟩ := vals2 r
  cases r1
  cases hcv _ r2
  obtain ⟨t1, ho⟩ := exo_at I.hok ea
  have J : ∃ ox od, PySem.W.InstAt s.heap a ox D od := by
    cases d with
    | none => exact ⟨_, none, ho, rfl, rfl, trivial⟩
    | some d' =>
      obtain ⟨fs, e'⟩ := ed d' rfl
      obtain ⟨mA, hns, _⟩ := exd_at I.hok e'
      obtain ⟨od, hod, _⟩ := lookIn_ns hns
      exact ⟨_, some od, ho, rfl, rfl, hod⟩
  obtain ⟨ox, od, J⟩ := J
  exact PySem.W.kia_one (PySem.W.kitx_exc T.cl T.xf.ga T.xf.gg T.xf.exC T.ha T.hn T.ht T.hm) I.kIn J kit (fun z => nomatch z) fun tk => ⟨.bl b, H, I.kept (t' := tk) fun _ _ z => z, rfl, q⟩
end
end OF
/-! The error classes of the program, one promise a kind: one field, two fields, none. -/
namespace OF
open PySem PySem.Spec PyProof.Rows L2
def bmF : List Value := [.type "ValueError", .type "Exception", .type "BaseException", .type "object"]
def bmE (CF : Addr) : List Value := .ref CF :: bmF
/-- what the top says of an error class: C under the name x, its maker st at fI, bm above it -/
structure Kl (K : PySem.W.Frag) (mg : Str → Option Value) (x q : Str) (st : Stmt) (C fI : Addr) (bm : List Value) : Prop where
  g : mg x = some (.ref C)
  cls : ∃ nm q N bs sn sub ab col dd k0 k1 k2 k3 k5, K.lookup C = some (excClassObj nm q C N bs bm true sn sub ab col dd k0 k1 k2 k3 k5 "ValueError.__new__")
  sa : PySem.W.findIn K (.ref C) "__setattr__" = some (some (.builtin "object.__setattr__"))
  kC : PySem.W.keepIn K (.ref C) = true
  iC : PySem.W.findIn K (.ref C) "__init__" = some (some (.ref fI))
  tI : PySem.W.typeIn K (.ref fI) = some (.type "function")
  ga : PySem.W.findIn K (.ref C) "__getattribute__" = some (some (.builtin "BaseException.__getattribute__"))
  gg : PySem.W.findIn K (.ref C) "__getattr__" = some none
  ha : PySem.W.findIn K (.ref C) "__class__" = some (some (.builtin "object.__class__"))
  fn : ∃ fd, Fun K "__init__" q st fI fd
section
variable {K : PySem.W.Frag} {mg : Str → Option Value} {x q : Str} {st : Stmt} {C fI : Addr} {bm : List Value}
theorem Kl.cd (T : Kl K mg x q st C fI bm) : ∃ cd, PySem.W.clsIn K C = some cd ∧ cd.mro = .ref C :: bm ∧ cd.hasDict = true := by
  obtain ⟨nm, q, N, bs, sn, sub, ab, col, dd, k0, k1, k2, k3, k5, h⟩ := T.cls
  have e : PySem.W.clsIn K C = some { name := nm, bases := bs, mro := .ref C :: bm, ns := N, qualname := q, hasDict := true, slotNames := sn, subclasses := sub, abstract := ab, collection := col, hasDel := false } := by
    unfold PySem.W.clsIn
    rw [h] <;> rfl
  exact ⟨_, e, rfl, rfl⟩
theorem Kl.sub (T : Kl K mg x q st C fI bm) (b : Value) : PySem.W.subIn K (.ref C) b = some ((Value.ref C :: bm).contains b) := by
  obtain ⟨cd, h, hm, _⟩ := T.cd
  show PySem.W.mroIn K C b = _
  unfold PySem.W.mroIn
  rw [h, Option.bind_some, hm]
  rfl
theorem Kl.ty (T : Kl K mg x q st C fI bm) : PySem.W.typeIn K (.ref C) = some (.type "type") := by
  obtain ⟨nm, q, N, bs, sn, sub, ab, col, dd, k0, k1, k2, k3, k5, h⟩ := T.cls
  show (K.lookup C).map (·.cls) = _
  rw [h] <;> rfl
theorem Kl.dic (T : Kl K mg x q st C fI bm) : PySem.W.hasDictIn K C = true := by
  obtain ⟨cd, h, _, hd⟩ := T.cd
  unfold PySem.W.hasDictIn
  rw [h]
  exact hd
/-- what stands above every error -/
structure Above (bm : List Value) : Prop where
  ve : PySem.HandSPX.refsVE bm = true
  be : ∀ C : Addr, (Value.ref C :: bm).contains (.type "BaseException") = true
  ob : ∀ C : Addr, (Value.ref C :: bm).contains (.type "object") = true
  va : ∀ C : Addr, (Value.ref C :: bm).contains (.type "ValueError") = true
theorem above_F : Above bmF := ⟨by decide +kernel, fun C => by simp [bmF], fun C => by simp [bmF], fun C => by simp [bmF]⟩
theorem above_E (CF : Addr) : Above (bmE CF) := ⟨by show PySem.HandSPX.refsVE bmF = true; decide +kernel, fun C => by simp [bmF, bmE], fun C => by simp [bmF, bmE], fun C => by simp [bmF, bmE]⟩
theorem Kl.ox (T : Kl K mg x q st C fI bm) (B : Above bm) : OexC K C := by
  obtain ⟨nm, q, N, bs, sn, sub, ab, col, dd, k0, k1, k2, k3, k5, h⟩ := T.cls
  exact ⟨⟨_, _, _, _, _, _, _, _, _, _, _, _, _, _, _, h, B.ve⟩, T.sa, (T.sub _).trans (congrArg some (B.be C)), T.ty, T.kC⟩
theorem Kl.xf (T : Kl K mg x q st C fI bm) (B : Above bm) : XfC K C := ⟨T.ga, T.gg, (T.sub _).trans (congrArg some (B.be C)), T.dic⟩
theorem Kl.ask (T : Kl K mg x q st C fI bm) (B : Above bm) (hn : PySem.W.specialIn K (.builtin "object.__class__") "__get__" = some (some (.builtin "getset_descriptor.__get__"))) (ht : PySem.W.takesIn K (.builtin "object.__class__") = some true) : AskC K C := by
  obtain ⟨cd, h, _, _⟩ := T.cd
  exact ⟨by rw [h]; rfl, T.xf B, T.ha, hn, ht, (T.sub _).trans (congrArg some (B.ob C))⟩
/-- isinstance of an error of the class D, by the class C -/
theorem Kl.kit {x2 q2 : Str} {st2 : Stmt} {D fD : Addr} {bm2 : List Value} (T : Kl K mg x q st C fI bm) (U : Kl K mg x2 q2 st2 D fD bm2) : PySem.W.kitOne K (.ref D) (.ref C) = some ((Value.ref D :: bm2).contains (.ref C)) := by
  obtain ⟨cd, h, _, _⟩ := T.cd
  unfold PySem.W.kitOne
  split
  · rename_i e
    have e2 : Value.ref D = Value.ref C := eq_of_beq e
    rw [e2]
    simp
  · unfold PySem.W.kitCls
    simp only [T.ty, h, Option.isSome_some, beq_self_eq_true, Bool.and_self, if_true]
    exact U.sub _
theorem Kl.kitV (U : Kl K mg x q st C fI bm) (B : Above bm) : PySem.W.kitOne K (.ref C) (.type "ValueError") = some true := by
  unfold PySem.W.kitOne
  split
  · rfl
  · unfold PySem.W.kitCls
    simp only [show PySem.W.kitMeta "ValueError" = true by decide +kernel, if_true]
    exact (U.sub _).trans (congrArg some (B.va C))
theorem kl_mk {h : Heap} {nm q' : Str} {N : Addr} {bs sub : List Value} {sn : List Str} {ab : Bool} {col : Option Bool} {dd od an : Option Addr} {k0 k1 k2 k3 k5 : Option Value} {oc kV dc pm cd ct : Value} {sl : Array (Option Value)} (X : K.In h) (G : h.Ns mainGlobals mg)
    (a : PySem.W.nsIn K mainGlobals x = some (some (.ref C))) (l : K.lookup C = some (excClassObj nm q' C N bs bm true sn sub ab col dd k0 k1 k2 k3 k5 "ValueError.__new__"))
    (sa : PySem.W.findIn K (.ref C) "__setattr__" = some (some (.builtin "object.__setattr__"))) (kC : PySem.W.keepIn K (.ref C) = true) (iC : PySem.W.findIn K (.ref C) "__init__" = some (some (.ref fI))) (tI : PySem.W.typeIn K (.ref fI) = some (.type "function"))
    (ga : PySem.W.findIn K (.ref C) "__getattribute__" = some (some (.builtin "BaseException.__getattribute__"))) (gg : PySem.W.findIn K (.ref C) "__getattr__" = some none) (ha : PySem.W.findIn K (.ref C) "__class__" = some (some (.builtin "object.__class__")))
    (lI : K.lookup fI = some ⟨oc, od, .func (PySem.W.fnOf "__init__" q (defArgs st) (defBody st) (defScope st) .none kV dc pm an cd ct), sl⟩) (cI : PySem.W.codeIn K cd q = true) (kI : PySem.W.keepIn K (.ref fI) = true) : Kl K mg x q st C fI bm :=
  ⟨PySem.W.mg_of X G a, ⟨_, _, _, _, _, _, _, _, _, _, _, _, _, _, l⟩, sa, kC, iC, tI, ga, gg, ha, _, fun_mk lI cI kI⟩
end

/-! ### errors in the heap -/
/-- an error of the class C with the fields fs -/
def IsE (C : Addr) (fs : List (Str × V)) (H : Hp) (a : Addr) : Prop := ∃ d rest, H a = some (exo a C (some d)) ∧ H d = some (exd d (fs ++ rest))
/-- an error of the class C -/
def Err (C : Addr) (H : Hp) (a : Addr) : Prop := ∃ d, H a = some (exo a C d) ∧ ∀ d', d = some d' → ∃ fs, H d' = some (exd d' fs)
theorem IsE.same {C a : Addr} {fs : List (Str × V)} {H H' : Hp} (h : IsE C fs H a) (s : Same H H') : IsE C fs H' a := by
  obtain ⟨d, r, h1, h2⟩ := h
  exact ⟨d, r, s _ _ h1, s _ _ h2⟩
theorem IsE.err {C a : Addr} {fs : List (Str × V)} {H : Hp} (h : IsE C fs H a) : Err C H a := by
  obtain ⟨d, r, h1, h2⟩ := h
  exact ⟨some d, h1, fun d' e => by cases e; exact ⟨_, h2⟩⟩
theorem Err.same {C a : Addr} {H H' : Hp} (h : Err C H a) (s : Same H H') : Err C H' a := by
  obtain ⟨d, h1, h2⟩ := h
  refine ⟨d, s _ _ h1, fun d' e => ?_⟩
  obtain ⟨fs, h3⟩ := h2 d' e
  exact ⟨fs, s _ _ h3⟩
/-- X.__init__ of two fields -/
def spInit2 (f g : Str) (C : Addr) : Sp := fun vs H Q _ => ∃ (a : Addr) (v u : V), vs = [.ref a, v, u] ∧ H a = some (exo a C none) ∧ ∀ (fs : List (Str × V)) (d : Addr), H d = none → d ≠ a → Q .non (upd (upd H d (exd d ((g, u) :: (f, v) :: fs))) a (exo a C (some d)))
/-- X.__init__ of none -/
def spInit0 (C : Addr) : Sp := fun vs H Q _ => ∃ a : Addr, vs = [.ref a] ∧ H a = some (exo a C none) ∧ ∀ (fs : List (Str × V)) (d : Addr), H d = none → d ≠ a → Q .non (upd (upd H d (exd d fs)) a (exo a C (some d)))
section
variable {K : PySem.W.Frag} {C : Addr} {f g : Str} {v u : V} {H : Hp} {Q : VK}
theorem same_two {H : Hp} {a d : Addr} {x y z : HO} (ha : H a = none) (hd : upd H a z d = none) (ne : d ≠ a) : Same H (upd (upd (upd H a z) d x) a y) := by
  rw [upd_ne ne] at hd
  intro b o hb
  rw [upd_ne (ne_of_none hb ha), upd_ne (ne_of_none hb hd), upd_ne (ne_of_none hb ha)]
  exact hb
theorem made1 (h : ∀ a H', Same H H' → IsE C [(f, v)] H' a → Q (.ref a) H') : MadeBy C (spInit K f C) (fun a => [.ref a, v]) H Q := fun a ha => by
  refine ⟨a, v, rfl, upd_same, fun fs d hd ne => ⟨rfl, h a _ (same_two ha hd ne) ⟨d, fs, upd_same, ?_⟩⟩⟩
  rw [upd_ne ne]
  exact upd_same
theorem made2 (h : ∀ a H', Same H H' → IsE C [(g, u), (f, v)] H' a → Q (.ref a) H') : MadeBy C (spInit2 f g C) (fun a => [.ref a, v, u]) H Q := fun a ha => by
  refine ⟨a, v, u, rfl, upd_same, fun fs d hd ne => ⟨rfl, h a _ (same_two ha hd ne) ⟨d, fs, upd_same, ?_⟩⟩⟩
  rw [upd_ne ne]
  exact upd_same
theorem made0 (h : ∀ a H', Same H H' → Err C H' a → Q (.ref a) H') : MadeBy C (spInit0 C) (fun a => [.ref a]) H Q := fun a ha => by
  refine ⟨a, rfl, upd_same, fun fs d hd ne => ⟨rfl, h a _ (same_two ha hd ne) ⟨some d, upd_same, fun d' e => ?_⟩⟩⟩
  cases e
  exact ⟨fs, by rw [upd_ne ne]; exact upd_same⟩
theorem made_F {nm : Str} (T : OexC K C) (N : NamC K C nm) (h : ∀ a H', Same H H' → Err C H' a → Q (.ref a) H') : MadeBy C (spFig K) (fun a => [.ref a, v]) H Q := fun a ha => by
  refine ⟨a, C, v, nm, rfl, T, N, upd_same, fun d hd ne => ⟨rfl, h a _ (same_two ha hd ne) ⟨some d, upd_same, fun d' e => ?_⟩⟩⟩
  cases e
  exact ⟨_, by rw [upd_ne ne]; exact upd_same⟩
end

/-! ### lists of the same things -/
/-- l == l2, two lists of the very same things -/
def rEqSame (K : PySem.W.Frag) : R2 := fun x y H Q => ∃ (l l2 : Addr) (xs : List V), x = .ref l ∧ y = .ref l2 ∧ SqL K H l xs ∧ SqL K H l2 xs ∧ (∀ v ∈ xs, flatB v = true ∨ ∃ a, v = .ref a) ∧ Q (.bl true) H
theorem op_eqSame {X : Cx} (hu : X.A.units + 64 < cLine) : OpR X (compareOp .Eq) (rEqSame X.K) := by
  intro pins s σ H x y v u Q I rx ry h
  obtain ⟨l, l2, xs, rfl, rfl, h1, h2, hs, q⟩ := h
  cases rx
  cases ry
  obtain ⟨us, r1, p1, _⟩ := I.list h1
  obtain ⟨ws, r2, p2, _⟩ := I.list h2
  have n1 := r1.length
  have n2 := r2.length
  have hsz : us.toArray.size = ws.toArray.size := by
    rw [List.size_toArray, List.size_toArray]
    omega
  have key := SeqAt.RcAt.lists (A := X.A) (e := fun _ => true) p1.isList p2.isList hsz (by omega) (fun j h1 h2 => ?_)
  · refine key X.prog X.w _ _ ?_
    rw [show ((List.range us.toArray.size).all fun _ => true) = true from List.all_eq_true.mpr fun _ _ => rfl]
    exact ⟨.bl true, H, I, rfl, q⟩
  · have j1 : j < us.length := by simpa using h1
    have jx : j < xs.length := by omega
    obtain ⟨a, ea, ra⟩ := Vals.get r1 (List.getElem?_eq_getElem jx)
    obtain ⟨b, eb, rb⟩ := Vals.get r2 (List.getElem?_eq_getElem jx)
    have e1 : us.toArray[j] = a := by
      have := List.getElem?_eq_getElem j1
      rw [this] at ea
      simpa using Option.some.inj ea
    have e2 : ws.toArray[j] = b := by
      have j2 : j < ws.length := by omega
      have := List.getElem?_eq_getElem j2
      rw [this] at eb
      simpa using Option.some.inj eb
    rw [e1, e2]
    rcases hs _ (List.getElem_mem jx) with hf | ⟨p, hp⟩
    · exact eqAt_same ra rb hf
    · rw [hp] at ra rb
      cases ra
      cases rb
      exact SeqAt.EqAt.same _
/-- comprehensions over enumerate of a list that stays -/
theorem lc_enum {K : PySem.W.Frag} {a : Addr} {xs : List V} {g : TG} {tt : TT} {te : TE} {vs : List Nat} {σ : L2.St} {H1 : Hp} {D : Addr} {Qd : Hp → Prop} (Pv : Nat → Hp → Prop) (h0 : Pv 0 (upd H1 D (.lst []))) (hl : ∀ i H, i ≤ xs.length → Pv i H → SqL K H a xs)
    (hs : ∀ (i : Nat) x H T, xs[i]? = some x → Pv i H → H T = none → g (.ref T) (wipe σ vs) (upd H T (.tup [.int (i : Int), x])) fun σ2 H2 => wipe σ2 vs = wipe σ vs ∧ tt σ2 H2 fun b H3 =>
      if b = true then te σ2 H3 fun y H4 => ∃ acc, H4 D = some (.lst acc) ∧ acc.length < sizeLine ∧ Pv (i + 1) (upd H4 D (.lst (acc ++ [y]))) else Pv (i + 1) H3) (hd : ∀ H, Pv xs.length H → Qd H) :
    ∃ W : Nat → Nat → Hp → Prop, (∃ m, W 0 m (upd H1 D (.lst []))) ∧ ∀ i m H, W i m H →
      ((Ite K a).stop i H ∧ Qd H) ∨ ((Ite K a).go i H ∧ ∃ Nx : Hp → Prop, (∀ H', Nx H' → ∃ m', m' < m ∧ W (i + 1) m' H') ∧ ∀ x H', (Ite K a).yld i H x H' → g x (wipe σ vs) H' fun σ2 H2 => wipe σ2 vs = wipe σ vs ∧ tt σ2 H2 fun b H3 =>
        if b = true then te σ2 H3 fun y H4 => ∃ acc, H4 D = some (.lst acc) ∧ acc.length < sizeLine ∧ Nx (upd H4 D (.lst (acc ++ [y]))) else Nx H3) := by
  refine ⟨fun i m H => m = xs.length - i ∧ i ≤ xs.length ∧ Pv i H, ⟨xs.length, by simp, Nat.zero_le _, h0⟩, ?_⟩
  rintro i m H ⟨em, hi, p⟩
  subst em
  have q := hl i H hi p
  rcases Nat.lt_or_ge i xs.length with hlt | hge
  · right
    refine ⟨⟨xs, xs[i], q, List.getElem?_eq_getElem hlt⟩, Pv (i + 1), fun H' p' => ⟨xs.length - (i + 1), by omega, rfl, hlt, p'⟩, ?_⟩
    rintro z H' ⟨T, x, ez, hT, eH, hx⟩
    subst ez
    subst eH
    exact hs i x H T (hx xs q) p hT
  · left
    have e : i = xs.length := by omega
    subst e
    exact ⟨⟨xs, q, Nat.le_refl _⟩, hd H p⟩
end OF
set_option maxHeartbeats 4000000
/-! set(xs) of a list or tuple of ints, sorted of it. -/
namespace OF
open PySem PySem.Spec PyProof.Rows L2
/-- an empty set, just made -/
abbrev setObj0 (w : World) : Obj := { cls := .type "set", dict := none, data := .set #[] 0 (.fresh 0 0 (!w.params.followText "set-order")) }
section
variable {P : Program} {w : World} {A : Around} {E : Value → Shared → Prop}
theorem set_of_list {h : Heap} {g : Array GenState} {d : Drawn} {t : Nat} {os : OsState} {l : Addr} {xs : Array Value} (ns : List Int) {Q : Value → Shared → Prop} (calm : A.handled = none) (lst : h.IsList l xs) (allInt : IntsAre xs.toList ns) (few : ns.length + 1 < scanBound)
    (fin : ∀ (h' : Heap) (tk c : Nat), SetR w h' h.objs.size (fun j => decide (j ∈ ns)) c → c ≤ ns.length → (∀ b o, h.get? b = some o → h'.get? b = some o) → Q (.ref h.objs.size) ⟨h', g, d, tk, os⟩) :
    wpAny (model P w) A (call (.type "set") [.ref l]) Q E ⟨h, g, d, t, os⟩ := by
  have size : xs.size = ns.length := by
    rw [← Array.length_toList]
    exact allInt.length
  obtain ⟨c, tl, hmro⟩ := F.called_set.mro
  have f1 := F.called_set.made
  have f2 := F.called_set.sub
  have f3 := F.called_set.notType
  have f4 := F.called_set.canCreate
  have f5 := F.typeCall_set_1 (.ref l)
  apply wpAny_call
  apply codeAny_of_tree
  show wpAny _ _ (callAny (.type "set") _) _ _ _
  apply wpAny_pure
  refine ⟨Code.quiet_builtin _ (by decide +kernel), codeAny_builtin F.entry_type_call ?_⟩
  rw [Around.under_plain (weight_type_call_type "set" [.ref l] []) rfl]
  repeat any_goals first
    | assumption
    | wp_step
  refine codeAny_mono (code_set_led1 (s := ⟨h, g, d, t, os⟩) (.ref l) (E := E) (Q₁ := fun v s1 => v = .ref h.objs.size ∧ s1 = ⟨h.push (setObj0 w), g, d, t, os⟩) ⟨rfl, rfl⟩) ?_
  intro r s1 z
  cases r with
  | error e => exact z
  | ok fl =>
    cases fl with
    | next => exact z.elim
    | brk => exact z.elim
    | cont => exact z.elim
    | ret v =>
      obtain ⟨ev, es⟩ := z
      subst ev es
      have there : (h.push (setObj0 w)).get? h.objs.size = some (setObj0 w) := Heap.get?_push_size _ rfl
      have isSet : Shared.TypeIs ⟨h.push (setObj0 w), g, d, t, os⟩ (.ref h.objs.size) "set" := ⟨_, there, rfl⟩
      have i1 := F.called_set.init.lookup
      have i2 := F.called_set.init.bind (.ref h.objs.size)
      repeat any_goals first
        | assumption
        | wp_step
      refine codeAny_mono (codeAny_call_builtin (R := wants (fun r s2 => r = .none ∧ ∃ h' tk c, s2 = ⟨h', g, d, tk, os⟩ ∧ SetR w h' h.objs.size (fun j => decide (j ∈ ns)) c ∧ c ≤ ns.length ∧ (∀ b o, h.get? b = some o → h'.get? b = some o)) E)
        F.called_set.init.plain F.entry_set_init (check_set_init_1 isSet ?inner)) ?outer
      case outer =>
        intro r2 s2 z2
        cases r2 with
        | error e => exact z2
        | ok fl2 =>
          cases fl2 with
          | next => exact z2.elim
          | brk => exact z2.elim
          | cont => exact z2.elim
          | ret v2 =>
            obtain ⟨ev, h', tk, c', es, hS, hc, hk⟩ := z2
            subst ev es
            repeat any_goals first
              | assumption
              | wp_step
            exact fin _ _ _ hS hc hk
      case inner =>
        obtain ⟨o1, ho1, hc1, m1, hd1⟩ := lst
        obtain ⟨k1, k2, k3, k4⟩ := o1
        simp only at hc1 hd1
        subst hc1 hd1
        have there2 : (h.push (setObj0 w)).get? l = some { cls := .type "list", dict := k2, data := .seq xs m1, slots := k4 } := Heap.get?_push_of_some _ ho1
        have s1 := F.sub_list_set
        have s2 := F.sub_list_frozenset
        have apart : (Value.type "list" == Value.type "dict") = false := by decide
        have lst1 : (h.push (setObj0 w)).IsList l xs := ⟨_, there2, rfl, m1, rfl⟩
        unfold Builtin.«set.__init__» noKeywords Builtin.Frozenset.updateFrom
        generalize same : pyIter = PI
        wp_walk
        subst same
        apply wpAny_pyIter_list lst1
        apply wpAny_bind
        apply wpAny_runValue
        have below : l < h.objs.size := Heap.lt_size ho1
        have calm3 : A.in1.in1.in1.handled = none := by simp [calm]
        have sz : (h.push (setObj0 w)).objs.size = h.objs.size + 1 := Heap.size_push ..
        have ne1 : l ≠ (h.push (setObj0 w)).objs.size := by
          rw [sz]
          exact Nat.ne_of_lt (Nat.lt_succ_of_lt below)
        have ne2 : h.objs.size ∉ [(h.push (setObj0 w)).objs.size, l] := by
          rw [sz]
          simp only [List.mem_cons, List.not_mem_nil, or_false, not_or]
          exact ⟨Nat.ne_of_lt (Nat.lt_succ_self _), Nat.ne_of_gt below⟩
        have vals : ∀ (i : Nat) (v : Value), xs[i]? = some v → ∃ k t, ns[i]? = some k ∧ v = .int k t := by
          intro i v hv
          have hi : i < ns.length := by
            rw [← size]
            exact (Array.getElem?_eq_some_iff.mp hv).1
          obtain ⟨t, e⟩ := PyProof.Rows.IntsAre.int_at allInt i v (by rw [Array.getElem?_toList]; exact hv)
          rw [List.getD_eq_getElem?_getD, List.getElem?_eq_getElem hi] at e
          exact ⟨ns[i], t, List.getElem?_eq_getElem hi, e⟩
        refine set_update_ints ((Walks.list calm3 _ l ne1 xs).toS) h.objs.size ne2 ns size few vals (xs.size - 0) 0 _ (by omega) (Nat.zero_le _) ⟨⟨_, Heap.get?_push_size _ rfl, rfl, rfl⟩, (lst1.push _)⟩ ?start ?stop
        case start =>
          have got : ((h.push (setObj0 w)).push { cls := .type "list_iterator", data := .fields #[.ref l, .int 0 0] }).get? h.objs.size = some (setObj0 w) := Heap.get?_push_of_some _ there
          exact ⟨0, Nat.le_refl 0, setR_new_at got⟩
        case stop =>
          intro s' c' hm hc' hS
          obtain ⟨h', g2, d2, tk, os2⟩ := s'
          have eg : g2 = g := hm.gens
          have ed : d2 = d := hm.drawn
          have eo : os2 = os := hm.os
          subst eg ed eo
          show wpAny _ _ _ _ _ _
          apply wpAny_pure
          show wpAny _ _ (ret Value.none) _ _ _
          rw [size] at hc'
          apply wpAny_pure
          refine ⟨rfl, h', tk, c', rfl, hS, hc', fun b o z => ?_⟩
          have b0 : b < h.objs.size := Heap.lt_size z
          refine hm.heap b o ?_ (Heap.get?_push_of_some _ (Heap.get?_push_of_some _ z))
          simp only [List.mem_cons, List.not_mem_nil, or_false, not_or]
          rw [sz]
          exact ⟨Nat.ne_of_lt b0, Nat.ne_of_lt (Nat.lt_succ_of_lt b0)⟩
end
section
variable {X : Cx}
/-- set(xs): xs a list or tuple of ints -/
def rSetI (K : PySem.W.Frag) (w : World) : List V → Hp → VK → Prop := fun xs H Q => ∃ (l : Addr) (ns : List Int), xs = [.ref l] ∧ (SqL K H l (ns.map V.int) ∨ SqT K H l (ns.map V.int)) ∧ ns.length ≤ 60 ∧
  ∀ (p : Addr) (ks : List Int), H p = none → ks.Nodup → (∀ k, k ∈ ks ↔ k ∈ ns) → Q (.ref p) (upd H p (SetO w p (fun j => decide (j ∈ ns)) ks.length))
theorem ints_vals : ∀ {ns : List Int} {us : List Value}, Vals (ns.map V.int) us → IntsAre us ns
  | [], _, .nil => .nil
  | _ :: ns, _, .cons r t => by
    obtain ⟨k, rfl⟩ := r
    exact .cons _ k (ints_vals t)
theorem cr_setI (hc : X.calm = true) : CallR X (.type "set") (rSetI X.K X.w) := by
  intro pins s σ H xs us Q I r h
  obtain ⟨l, ns, rfl, hl, few, q⟩ := h
  obtain ⟨u, rfl, ru⟩ := vals1 r
  cases ru
  have hn : H s.heap.objs.size = none := I.hok.fresh (Nat.le_refl _)
  have room : ns.length + 1 < scanBound := by
    unfold scanBound
    omega
  have fin : ∀ (h' : Heap) (tk c : Nat), SetR X.w h' s.heap.objs.size (fun j => decide (j ∈ ns)) c → c ≤ ns.length → (∀ b o, s.heap.get? b = some o → h'.get? b = some o) → EP X pins σ Q (.ref s.heap.objs.size) { s with heap := h', toks := tk } := by
    intro h' tk c R hc2 k
    have R2 := R
    obtain ⟨o, es, ep, st, _, _, _, _, nd, mem, _, _, ec, _⟩ := R2
    have e : (es.toList.map keyOf).length = c := by rw [List.length_map, Array.length_toList, ec]
    have q2 := q s.heap.objs.size (es.toList.map keyOf) hn nd fun k => ⟨fun z => of_decide_eq_true ((mem k).mpr z), fun z => (mem k).mp (decide_eq_true z)⟩
    rw [e] at q2
    exact ⟨.ref s.heap.objs.size, _, I.laid (t' := tk) k (Nat.le_refl _) (setO_new R), rfl, q2⟩
  rcases hl with hl | hl
  · obtain ⟨its, rv, pl, _⟩ := I.list hl
    obtain ⟨hp, g, d, t, os⟩ := s
    exact set_of_list ns (I.ok.hd hc) pl.isList (by simpa using ints_vals rv) room fin
  · obtain ⟨its, rv, pl, _⟩ := I.tuple hl
    exact call_set_tupI ns (I.ok.hd hc) pl (by simpa using ints_vals rv) room fin
/-- len of such a set -/
def rLenSetO (w : World) : List V → Hp → VK → Prop := fun xs H Q => ∃ (a : Addr) (S : Int → Bool) (n : Nat), xs = [.ref a] ∧ H a = some (SetO w a S n) ∧ Q (.int n) H
theorem call_lenSetO : CallR X (.builtin "len") (rLenSetO X.w) := by
  intro pins s σ H xs us Q I r h
  obtain ⟨a, S, n, rfl, ha, q⟩ := h
  obtain ⟨u, rfl, ru⟩ := vals1 r
  cases ru
  obtain ⟨o, es, ep, t, ho, hx, hd, _, _, _, fits, small, en, _⟩ := setO_get I ha
  refine call_len_set ho hx hd small (by unfold scanBound at fits; omega) ⟨.int n, H, I.tok _, ⟨_, by rw [en]⟩, q⟩
end
end OF
set_option maxHeartbeats 4000000
/-! sorted(set(..)) of pairs of any ints. -/
namespace OF
open PySem PySem.Spec PyProof.Rows L2
theorem perm_back {α β : Type} {f : α → β} {l m : List β} (h : l.Perm m) : ∀ L : List α, m = L.map f → ∃ L' : List α, L'.Perm L ∧ l = L'.map f := by
  induction h with
  | nil =>
    intro L e
    exact ⟨L, List.Perm.refl _, e⟩
  | cons x _ ih =>
    intro L e
    cases L with
    | nil => cases e
    | cons y L =>
      have e2 := List.cons.inj e
      obtain ⟨L', p, q⟩ := ih L e2.2
      exact ⟨y :: L', p.cons y, by rw [q, e2.1]; rfl⟩
  | swap x y l =>
    intro L e
    match L, e with
    | [], e => cases e
    | [_], e => cases (List.cons.inj e).2
    | a :: b :: L, e =>
      obtain ⟨e1, e2⟩ := List.cons.inj e
      obtain ⟨e3, e4⟩ := List.cons.inj e2
      exact ⟨b :: a :: L, List.Perm.swap _ _ _, by rw [e1, e3, e4]; rfl⟩
  | trans _ _ ih1 ih2 =>
    intro L e
    obtain ⟨L2, p2, q2⟩ := ih2 L e
    obtain ⟨L1, p1, q1⟩ := ih1 L2 q2
    exact ⟨L1, p1.trans p2, q1⟩
/-- a list of two ints as a pair -/
def duo : List Int → Int × Int
  | [x, y] => (x, y)
  | _ => (0, 0)
section
variable {P : Program} {w : World} {A : Around} {E : Value → Shared → Prop} {s : Shared}
theorem sorted_set_duos {a : Addr} {L : List (Addr × List Int)} {es : Array (Int × Value)} {ep : Nat} {t : SetTable} {Q : Value → Shared → Prop} (R : SetTR P w s.heap a L es ep t) (calm : A.handled = none) (two : ∀ p ∈ L, p.2.length = 2)
    (fin : ∀ (s' : Shared) (p : Addr) (out : List Value) (c : Nat) (L' : List (Addr × List Int)), (∀ b o, s.heap.get? b = some o → s'.heap.get? b = some o) → s'.gens = s.gens → s'.os = s.os → s.heap.objs.size ≤ p →
      s'.heap.get? p = some (seqObj "list" out.toArray c) → out = L'.map (fun q => Value.ref q.1) → L'.Perm L → L'.Pairwise (fun q r => SrtO.lexB (duo r.2) (duo q.2) = false) → Q (.ref p) s') : wpAny (model P w) A (call (.builtin "sorted") [.ref a]) Q E s := by
  obtain ⟨o, ho, hx, hd⟩ := R.ob
  have hsz := R.size
  have few := R.few
  apply Calls.call_function_entry kind_sorted plain_sorted entry_sorted (args_sorted1 _)
  unfold Builtin.«sorted»
  refine wpAny_bind (m := checkCount "sorted" 1 1 _) (wpAny_pure ?_)
  apply wpAny_bind
  apply collect_set (A := A.in1) calm ⟨o, ho, hx.1, hd⟩ R.fits (by unfold scanBound; omega) R.tab.ris R.led
  intro s1 vs k1 z1 g1 o1 pm
  have rows : es.toList.map (·.2) = L.map fun q => Value.ref q.1 := by
    rw [R.rows]
    unfold rowsOf
    rw [List.map_map] <;> rfl
  rw [rows] at pm
  have short : vs.length < 64 := by
    rw [pm.length_eq, List.length_map]
    exact few
  have room : vs.length ≤ sizeLine := by
    rw [sizeLine_eq]
    omega
  refine wpAny_bind (wpAny_newList ?_ room)
  have laid : (s1.heap.push (seqObj "list" vs.toArray 0)).get? s1.heap.objs.size = some (seqObj "list" vs.toArray 0) := Heap.get?_push_size _ rfl
  have tup : ∀ q ∈ L, TS.TupInts (s1.heap.push (seqObj "list" vs.toArray 0)) (.ref q.1) q.2 := by
    intro q hq
    exact tupInts_of (P := P) (w := w) (isT_keep (R.tup q hq) fun b u e => Heap.get?_push_of_some _ (k1 b u e))
  have pair : ∀ v ∈ vs, Srt.IsPair (s1.heap.push (seqObj "list" vs.toArray 0)) v (duo (TS.intsOf (s1.heap.push (seqObj "list" vs.toArray 0)) v)).1 (duo (TS.intsOf (s1.heap.push (seqObj "list" vs.toArray 0)) v)).2 := by
    intro v hv
    obtain ⟨q, hq, e⟩ := List.mem_map.mp (pm.mem_iff.mp hv)
    subst e
    rw [(tup q hq).ints]
    obtain ⟨b, xs, e1, ⟨u, hu, hc, m, hd2⟩, ii⟩ := tup q hq
    have l2 := two q hq
    match hq2 : q.2, l2 with
    | [x, y], _ =>
      rw [hq2] at ii
      obtain ⟨xl⟩ := xs
      cases ii with
      | cons t1 k1' r1 => cases r1 with
        | cons t2 k2' r2 => cases r2 with
          | nil => exact ⟨b, u, _, _, m, e1, hu, hc, hd2⟩
  refine wpAny_bind (wpAny_holding (wpAny_call_entry slot_list_sort ⟨_, laid, rfl⟩ entry_list_sort (SrtO.list_sort_ord (s := { s1 with heap := s1.heap.push (seqObj "list" vs.toArray 0) }) (SrtO.swo_lex fun v => duo (TS.intsOf (s1.heap.push (seqObj "list" vs.toArray 0)) v)) laid room (fun h2 => ?sorts) fun out hs hb => ⟨_, rfl, ?done⟩) (args_list_sort _)))
  case sorts =>
    refine SrtO.pairs_sortableO (by omega) pair ?_
    intro u hu c
    rw [laid] at hu
    have := Option.some.inj hu
    subst this
    exact absurd (Value.type.inj c) (by decide)
  case done =>
    obtain ⟨c, hc⟩ := sortedHeap_at (vs := vs) (out := out.toArray) laid
    obtain ⟨L', pL, eL⟩ := perm_back (hb.perm.trans pm) L rfl
    refine wpAny_pure ⟨_, rfl, fin _ s1.heap.objs.size out c L' ?_ g1 o1 z1 hc eL pL ?_⟩
    · intro b u e
      have q := k1 b u e
      have lt := Heap.lt_size q
      show (sortedHeap (s1.heap.push (seqObj "list" vs.toArray 0)) s1.heap.objs.size vs out.toArray).get? b = some u
      rw [sortedHeap_old (Nat.ne_of_lt lt) (by rw [size_push']; exact Nat.lt_succ_of_lt lt)]
      exact Heap.get?_push_of_some _ q
    · have hs2 := hs
      rw [eL] at hs2
      refine List.Pairwise.imp_of_mem (fun {q r} hq hr z => ?_) (List.pairwise_map.mp hs2)
      have z2 : SrtO.lexB (duo (TS.intsOf (s1.heap.push (seqObj "list" vs.toArray 0)) (.ref r.1))) (duo (TS.intsOf (s1.heap.push (seqObj "list" vs.toArray 0)) (.ref q.1))) = false := z
      rw [(tup q (pL.mem_iff.mp hq)).ints, (tup r (pL.mem_iff.mp hr)).ints] at z2
      exact z2
end
section
variable {X : Cx}
/-- sorted of a set of pairs of ints -/
def rSortedDuo (K : PySem.W.Frag) (P : Program) (w : World) : List V → Hp → VK → Prop := fun vs H Q => ∃ (a : Addr) (L : List (Addr × List Int)), vs = [V.ref a] ∧ H a = some (SetTO P w a L) ∧ (∀ p ∈ L, SqT K H p.1 (p.2.map V.int)) ∧ (∀ p ∈ L, p.2.length = 2) ∧
  ∀ (L' : List (Addr × List Int)) (p : Addr), L'.Perm L → (L'.map (·.2)).Nodup → L'.length < 64 → L'.Pairwise (fun q r => SrtO.lexB (duo r.2) (duo q.2) = false) → H p = none → Q (.ref p) (upd H p (.lst (L'.map fun q => V.ref q.1)))
theorem cr_sortedDuo (hc : X.calm = true) : CallR X (.builtin "sorted") (rSortedDuo X.K X.prog X.w) := by
  intro pins s σ H vs us Q I r h
  obtain ⟨a, L, rfl, ha, hk, two, q⟩ := h
  obtain ⟨u, rfl, ru⟩ := vals1 r
  cases ru
  have R0 : SetT0 X.prog X.w s.heap a L := (I.hok a _ ha).1
  obtain ⟨es, ep, t, R⟩ := R0.full fun p hp => I.isT (hk p hp)
  apply sorted_set_duos R (I.ok.hd hc) two
  intro s' p out c L' k g o hp hg eo pm pw
  have short : L'.length < 64 := by
    rw [pm.length_eq]
    exact R.few
  have room : (L'.map fun q => V.ref q.1).length ≤ sizeLine := by
    rw [List.length_map, sizeLine_eq]
    omega
  have free : H p = none := I.hok.fresh hp
  subst eo
  have vals : Vals (L'.map fun q => V.ref q.1) (L'.map fun q => Value.ref q.1) := vals_of_refs L'
  obtain ⟨h', g', d', t', o'⟩ := s'
  have e1 : g' = s.gens := g
  have e2 : o' = s.os := o
  subst e1 e2
  have J : Inv X pins σ (upd H p (.lst (L'.map fun q => V.ref q.1))) ⟨h', s.gens, d', t', s.os⟩ :=
    I.call (ch := []) (Un.laid k hp free) (I.hok.laid k hp ⟨room, _, c, vals, hg⟩) I.bare (fun _ z => nomatch z)
  exact ⟨.ref p, _, J, rfl, q L' p pm ((pm.map (·.2)).nodup_iff.mpr R.nd) short pw free⟩
end
end OF
namespace OF
open PySem PySem.Spec PyProof.Rows L2
section
variable {X : Cx}
/-- x not in a tuple of data -/
def rNotInT (K : PySem.W.Frag) : R2 := fun x y H Q => ∃ d ds, Dp K H x d ∧ Dp K H y (.tuple ds) ∧ SeqAt.shaped d = true ∧ SeqAt.shaped (.tuple ds) = true ∧ Q (.bl (!ds.any fun z => PyData.eqv z d)) H
theorem op_notInT (hu : X.A.units + 65 < cLine) : OpR X (compareOp .NotIn) (rNotInT X.K) := by
  intro pins s σ H x y v u Q I rx ry h
  obtain ⟨d, ds, hd, he, sd, se, q⟩ := h
  obtain ⟨as, r1⟩ := Dp.reads I d x v hd rx
  obtain ⟨bs, r2⟩ := Dp.reads I (.tuple ds) y u he ry
  exact SeqAt.notIn_tuple_reads r2 r1 (SeqAt.canLay_of_shaped se) (SeqAt.canLay_of_shaped sd) (room_in_shaped sd hu) ⟨.bl _, H, I, rfl, q⟩
end
end OF
/-! x in o and o == p of instances of an own class with __contains__, __eq__ of its own. -/
namespace OF
open PySem PySem.Spec PyProof.Rows L2
section
variable {M : Model} {A : Around} {E : Value → Shared → Prop} {s : Shared} {K : PySem.W.Frag} {x C f : Addr} {ox : Obj} {od : Option Obj} {v : Value}
theorem contains_own {Q : Bool → Shared → Prop} (X : K.In s.heap) (I : PySem.W.InstAt s.heap x ox C od) (hs : PySem.W.findIn K (.ref C) "__contains__" = some (some (.ref f))) (hf : PySem.W.isFn K (.ref f) = true)
    (h : wpAny M A (call (.ref f) [.ref x, v]) (fun r s' => ∃ b, r = .bool b ∧ Q b s') E s) : wpAny M A (contains (.ref x) v) Q E s := by
  unfold contains
  refine wpAny_holding ?_
  rw [show stdlibNamesSay? (.ref x) v = none from by unfold stdlibNamesSay?; split <;> simp_all]
  refine wpAny_bind (m := specialOf (.ref x) (Str.ofString "__contains__")) (wpAny_bind (I.type.here ((PySem.W.looks_findIn X hs).here ?_)))
  show wpAny M A (if (some (Value.ref f) == some Value.none) = true then _ else _) Q E s
  rw [if_neg (by simp)]
  refine wpAny_bind (m := callSpecialUnlessNone? (.ref x) (Str.ofString "__contains__") [v] _) ?_
  unfold callSpecialUnlessNone?
  refine wpAny_bind (m := specialOf (.ref x) (Str.ofString "__contains__")) (wpAny_bind (I.type.here ((PySem.W.looks_findIn X hs).here ?_)))
  refine wpAny_holding (wpAny_bind ((PySem.W.bind_fn X _ (beq_iff_eq.mp hf)).here ?_))
  show wpAny M A (if (Value.ref f == Value.none) = true then _ else _) _ E s
  rw [if_neg (by simp)]
  refine wpAny_bind (wpAny_mono h (fun r s' hr => ?_) fun _ _ e => e)
  obtain ⟨b, rfl, q⟩ := hr
  exact wpAny_pure (wpAny_pure q)
end
section
variable {X : Cx} {CX : CXT} {n : Nat} {f C : Addr} {fd : FuncData} {ps : List Str} {sp : Sp} {E : XK}
/-- x in o, o an instance of the class at C with its own __contains__ -/
def rInOwn (C : Addr) (sp : Sp) (E : XK) (neg : Bool) : R2 := fun x y H Q => ∃ a dx fs, y = .ref a ∧ H a = some (.ins C dx fs) ∧ sp [y, x] H (fun z H' => ∃ b : Bool, z = .bl b ∧ Q (.bl (if neg then !b else b)) H') E
theorem op_inOwn (hs : PySem.W.findIn X.K (.ref C) "__contains__" = some (some (.ref f))) (hf : PySem.W.isFn X.K (.ref f) = true) (F : FnOk X.prog X.w X.K X.mg X.base CX n f fd ps sp) (hb : Binds X.K fd ps []) (hr : Room n X.A) (hx : Passes CX X E) :
    OpR X (compareOp .In) (rInOwn C sp E false) := by
  intro pins s σ H x y v u Q I rx ry h
  obtain ⟨a, dx, fs, rfl, ha, q⟩ := h
  cases (show u = Value.ref a from ry)
  obtain ⟨mA, J, _⟩ := ins_get I.hok ha
  obtain ⟨od, J, _⟩ := J.look
  show wpAny _ _ (do return Value.bool (← contains (.ref a) v)) _ _ _
  refine wpAny_bind (contains_own I.kIn J hs hf (wpAny_mono (run_fn (us := [.ref a, v]) (vs := [.ref a, x]) F hr hb .nil hx I (.cons rfl (.cons rx .nil)) q) (fun r s' z => ?_) fun _ _ e => e))
  obtain ⟨z', H', I', rz, b, rfl, q'⟩ := z
  cases rz
  exact ⟨b, rfl, wpAny_pure ⟨.bl b, H', I', rfl, q'⟩⟩
theorem op_notInOwn (hs : PySem.W.findIn X.K (.ref C) "__contains__" = some (some (.ref f))) (hf : PySem.W.isFn X.K (.ref f) = true) (F : FnOk X.prog X.w X.K X.mg X.base CX n f fd ps sp) (hb : Binds X.K fd ps []) (hr : Room n X.A) (hx : Passes CX X E) :
    OpR X (compareOp .NotIn) (rInOwn C sp E true) := by
  intro pins s σ H x y v u Q I rx ry h
  obtain ⟨a, dx, fs, rfl, ha, q⟩ := h
  cases (show u = Value.ref a from ry)
  obtain ⟨mA, J, _⟩ := ins_get I.hok ha
  obtain ⟨od, J, _⟩ := J.look
  show wpAny _ _ (do return Value.bool (!(← contains (.ref a) v))) _ _ _
  refine wpAny_bind (contains_own I.kIn J hs hf (wpAny_mono (run_fn (us := [.ref a, v]) (vs := [.ref a, x]) F hr hb .nil hx I (.cons rfl (.cons rx .nil)) q) (fun r s' z => ?_) fun _ _ e => e))
  obtain ⟨z', H', I', rz, b, rfl, q'⟩ := z
  cases rz
  exact ⟨b, rfl, wpAny_pure ⟨.bl (!b), H', I', rfl, q'⟩⟩
/-- o == p, two instances of the class at C with its own __eq__ -/
def rEqOwn (C : Addr) (sp : Sp) (E : XK) : R2 := fun x y H Q => ∃ a dx fs b dy gs, x = .ref a ∧ y = .ref b ∧ H a = some (.ins C dx fs) ∧ H b = some (.ins C dy gs) ∧ sp [x, y] H (fun z H' => ∃ b : Bool, z = .bl b ∧ Q z H') E
theorem op_eqOwn (hs : PySem.W.findIn X.K (.ref C) "__eq__" = some (some (.ref f))) (hf : PySem.W.isFn X.K (.ref f) = true) (F : FnOk X.prog X.w X.K X.mg X.base CX n f fd ps sp) (hb : Binds X.K fd ps []) (hr : Room n X.A) (hx : Passes CX X E) :
    OpR X (compareOp .Eq) (rEqOwn C sp E) := by
  intro pins s σ H x y v u Q I rx ry h
  obtain ⟨a, dx, fs, b, dy, gs, rfl, rfl, ha, hb', q⟩ := h
  cases (show v = Value.ref a from rx)
  cases (show u = Value.ref b from ry)
  obtain ⟨mA, J, _⟩ := ins_get I.hok ha
  obtain ⟨od, J, _⟩ := J.look
  obtain ⟨mB, J', _⟩ := ins_get I.hok hb'
  obtain ⟨od', J', _⟩ := J'.look
  obtain ⟨m, hF⟩ := I.fr
  refine PySem.W.cmp_K (op := .Eq) (tb := .ref C) hr.units0 hF I.ok.mod.kin J J'.type (by simp [PySem.W.notFirst]) hs hf ?_
  refine wpAny_mono (run_fn (us := [.ref a, .ref b]) (vs := [.ref a, .ref b]) F hr hb .nil hx I (.cons rfl (.cons rfl .nil)) q) (fun w s' z => ?_) fun _ _ e => e
  obtain ⟨z', H', I', rz, c, rfl, q'⟩ := z
  cases rz
  exact ⟨.bl c, H', I', rfl, q'⟩
end
end OF
/-! tuples: t + u, t[lo:hi], t[::-1] where the answer may be an operand itself; zip of tuples walked. -/
namespace OF
open PySem PySem.Spec PyProof.Rows L2
section
variable {X : Cx}
/-- t + u -/
def rCat2 : R2 := fun x y H Q => ∃ a b xs ys, x = .ref a ∧ y = .ref b ∧ H a = some (.tup xs) ∧ H b = some (.tup ys) ∧ xs.length + ys.length ≤ sizeLine ∧ ∀ p H', Same H H' → H' p = some (.tup (xs ++ ys)) → Q (.ref p) H'
theorem op_cat2 : OpR X (binaryOp .Add) rCat2 := by
  intro pins s σ H x y v u Q I rx ry h
  obtain ⟨a, b, xs, ys, rfl, rfl, ha, hb, hz, q⟩ := h
  refine op_catA pins s σ H _ _ v u Q I rx ry ⟨a, b, xs, ys, rfl, rfl, SqT.of ha, SqT.of hb, hz, fun e => ?_, fun _ e => ?_, fun _ _ p hp => q p _ (same_new hp) upd_same⟩
  · subst e
    exact q b H (Same.refl H) hb
  · subst e
    exact q a H (Same.refl H) (by rw [List.append_nil]; exact ha)
theorem cutV_whole (xs : List V) (lo hi : Option Int) (h : HT.sIx xs.length 0 lo = 0 ∧ HT.sIx xs.length xs.length hi = xs.length) : cutV xs lo hi = xs := by
  unfold cutV
  rw [h.1, h.2, List.drop_zero, Nat.sub_zero, List.take_length]
/-- t[lo:hi] -/
def rSl2 : V → Option Int → Option Int → Hp → VK → Prop := fun x lo hi H Q => ∃ a xs, x = .ref a ∧ H a = some (.tup xs) ∧ ∀ p H', Same H H' → H' p = some (.tup (cutV xs lo hi)) → Q (.ref p) H'
theorem sl_tup2 : SlR X rSl2 := by
  intro pins s σ H x v vl vu lo hi sl Q I rx hs pl pu h
  obtain ⟨a, xs, rfl, hx, q⟩ := h
  refine sl_tupA pins s σ H _ v vl vu lo hi sl Q I rx hs pl pu ⟨a, xs, rfl, SqT.of hx, fun e => q a H (Same.refl H) (by rw [cutV_whole xs lo hi e]; exact hx), fun _ p hp => q p _ (same_new hp) upd_same⟩
end
/-! ### t[::-1] -/
section
variable {prog : Program} {w : World} {A : Around} {E : Value → Shared → Prop} {s : Shared}
theorem sliceApplied_rev {sl : Addr} {vs : Value} {n : Nat} {Q : Int × Int × Nat → Shared → Prop} (hs : s.heap.IsSliceOf sl .none .none vs) (ps : PySem.IsPart vs (some (-1)))
    (h : Q ((n : Int) - 1, -1, n) s) : wpAny (model prog w) A (Builtin.Slice.sliceApplied (.ref sl) (pure (n : Int))) Q E s := by
  obtain ⟨os, hos, hcs, hds⟩ := id hs
  unfold Builtin.Slice.sliceApplied Builtin.Slice.sliceFields
  refine wpAny_bind (wpAny_bind (wpAny_field hos hds (x := .none) rfl (wpAny_bind (wpAny_field hos hds (x := .none) rfl (wpAny_bind (wpAny_field hos hds (x := vs) rfl (wpAny_pure ?_)))))))
  refine wpAny_bind (HT.slicePart_ ps ?_)
  show wpAny _ _ (if ((-1 : Int) == 0) = true then _ else _) _ _ s
  rw [if_neg (by decide)]
  refine wpAny_bind (slicePart_none (wpAny_bind (slicePart_none (wpAny_bind (wpAny_pure ?_)))))
  show wpAny _ _ (pure ((n : Int) - 1, (-1 : Int), Builtin.Slice.slicePlaces ((n : Int) - 1) (-1) (-1))) _ _ s
  have e : Builtin.Slice.slicePlaces ((n : Int) - 1) (-1) (-1) = n := by
    unfold Builtin.Slice.slicePlaces
    have h1 : ¬ ((-1 : Int) > 0) := by decide
    simp only [h1, if_false]
    split
    · rw [show (- -1 : Int) = 1 by decide, Int.ediv_one]
      omega
    · omega
  rw [e]
  exact wpAny_pure h
theorem fm_congr {α β : Type} {f g : α → Option β} : ∀ {l : List α}, (∀ x ∈ l, f x = g x) → l.filterMap f = l.filterMap g
  | [], _ => rfl
  | x :: l, h => by
    rw [List.filterMap_cons, List.filterMap_cons, h x List.mem_cons_self, fm_congr fun y hy => h y (List.mem_cons_of_mem _ hy)]
theorem pick_rev (xs : Array Value) : ((List.range xs.size).filterMap fun (k : Nat) => xs[(((xs.size : Int) - 1) + (k : Int) * (-1)).toNat]?).toArray = xs.toList.reverse.toArray := by
  have e : (List.range xs.size).filterMap (fun (k : Nat) => xs[(((xs.size : Int) - 1) + (k : Int) * (-1)).toNat]?) = ((List.range xs.size).map fun k => xs.size - 1 - k).filterMap (xs[·]?) := by
    rw [List.filterMap_map]
    refine fm_congr fun k hk => ?_
    have := List.mem_range.mp hk
    have e2 : (((xs.size : Int) - 1) + (k : Int) * (-1)).toNat = xs.size - 1 - k := by omega
    show _ = xs[xs.size - 1 - k]?
    rw [e2]
  rw [e, PySem.W.krv_range, List.filterMap_reverse, PySem.W.krv_all]
theorem getItem_tuple_rev {t sl : Addr} {items : Array Value} {vs : Value} {Q : Value → Shared → Prop} (ht : IsTup s.heap t items) (hs : s.heap.IsSliceOf sl .none .none vs) (ps : PySem.IsPart vs (some (-1)))
    (h : Q (.ref s.heap.objs.size) { s with heap := s.heap.push { cls := .type "tuple", data := .seq items.toList.reverse.toArray } })
    (hsz : items.size ≤ sizeLine) : wpAny (model prog w) A (getItem (.ref t) (.ref sl)) Q E s := by
  have htake : sizeOk (.seq items.toList.reverse.toArray) := by
    show items.toList.reverse.toArray.size ≤ sizeLine
    rw [List.size_toArray, List.length_reverse, Array.length_toList]
    exact hsz
  obtain ⟨os, hos, hcs, hds⟩ := id hs
  have hTs : s.TypeIs (.ref sl) "slice" := ⟨os, hos, hcs⟩
  unfold getItem
  try with_reducible refine wpAny_holding ?_
  first | refine wpAny_bind (wpAny_pure ?_) | skip
  refine wpAny_bind (wpAny_sequenceKey ht.typeIs (by decide) ?_)
  refine wpAny_bind (wpAny_callSpecial?_slot (name := Str.ofString "__getitem__") ht.typeIs PyProof.Rows.slot_tuple_getitem
    (wpAny_call_entry PyProof.Rows.slot_tuple_getitem ht.typeIs entry_tuple_getitem ?_ (args_tuple_getitem _ _)))
  show wpAny _ _ (Builtin.Tuple.tupleItemsOf (.ref t) >>= _) _ _ s
  refine wpAny_bind (tupleItemsOf_ ht ?_)
  refine wpAny_bind (wpAny_typeOf hTs ?_)
  rw [if_pos (by decide)]
  refine wpAny_bind (sliceApplied_rev hs ps ?_)
  have hno : ¬ ((((items.size : Int) - 1) == 0 && (-1 : Int) == 1 && items.size == items.size) = true) := by
    intro q
    rw [Bool.and_eq_true, Bool.and_eq_true] at q
    exact absurd q.1.2 (by decide)
  show wpAny _ _ (if (((items.size : Int) - 1) == 0 && (-1 : Int) == 1 && items.size == items.size) = true then _ else _) _ _ s
  rw [if_neg hno, pick_rev]
  first
    | exact wpAny_bind (m := Builtin.Tuple.tupleExact _) (wpAny_newObj_type (wpAny_pure ⟨_, rfl, wpAny_pure h⟩) htake)
    | exact wpAny_bind (m := Builtin.Tuple.tupleExact _) (wpAny_newObj_type (wpAny_bind (wpAny_pure (wpAny_pure ⟨_, rfl, wpAny_pure h⟩))) htake)
    | exact wpAny_bind (wpAny_bind (m := Builtin.Tuple.tupleExact _) (wpAny_newObj_type (wpAny_pure (wpAny_pure ⟨_, rfl, wpAny_pure h⟩)) htake))
    | exact wpAny_bind (wpAny_bind (m := Builtin.Tuple.tupleExact _) (wpAny_newObj_type (wpAny_pure ⟨_, rfl, wpAny_pure h⟩) htake))
end
section
variable {X : Cx}
def tRevT (K : PySem.W.Frag) (te : TE) : TE := fun σ H Q => te σ H fun x H1 => ∃ a xs, x = .ref a ∧ SqT K H1 a xs ∧ ∀ p, H1 p = none → Q (.ref p) (upd H1 p (.tup xs.reverse))
theorem pe_revT {e : Expr} {te : TE} {k : Nat} {p1 p2 p3 pos : Pos} (he : PE X e te) : PE X (.Subscript e (.Slice none none (some (.UnaryOp .USub (.Constant (.int 1) k p1) p2)) p3) pos) (tRevT X.K te) := by
  refine ⟨fun pins s σ H Q I h => ?_⟩
  refine Subscript_ (thn (he.run pins s σ H _ I h) fun v s1 ⟨x, H1, I1, r1, q1⟩ => ?_)
  obtain ⟨a, xs, ex, hx, q⟩ := q1
  subst ex
  cases r1
  have hst : PO X (some (.UnaryOp .USub (.Constant (.int 1) k p1) p2)) (tPart (tUn (rU fun i => .int (-i)) (tC (.int 1)))) := po_some (pe_un un_neg pe_int)
  refine wpAny_Slice (thn (po_none.run pins s1 σ H1 (fun o H2 => o = none ∧ H2 = H1) I1 ⟨rfl, rfl⟩) fun vl s2 ⟨l, H2, I2, pl, el, e2⟩ => ?_)
  subst el e2
  refine thn (po_none.run pins s2 σ H2 (fun o H3 => o = none ∧ H3 = H2) I2 ⟨rfl, rfl⟩) fun vu s3 ⟨u, H3, I3, pu, eu, e3⟩ => ?_
  subst eu e3
  cases pl
  cases pu
  refine thn (hst.run pins s3 σ H3 (fun o H4 => o = some (-1) ∧ H4 = H3) I3 ⟨1, rfl, -1, rfl, rfl, rfl⟩) fun vs s4 ⟨o, H4, I4, ps, eo, e4⟩ => ?_
  subst eo e4
  have I5 : Inv X pins σ H4 { s4 with heap := s4.heap.push { cls := .type "slice", data := .fields #[.none, .none, vs] } } := I4.kept (t' := s4.toks) fun b ob q => Heap.get?_push_of_some _ q
  obtain ⟨its, r, ht, hz⟩ := I5.tuple hx
  have hlen := r.length
  show wpAny (model X.prog X.w) X.A (subscriptTail e (.Slice none none (some (.UnaryOp .USub (.Constant (.int 1) k p1) p2)) p3) (.ref a) (.ref s4.heap.objs.size)) (EP X pins σ Q) X.xe { s4 with heap := s4.heap.push { cls := .type "slice", data := .fields #[.none, .none, vs] } }
  refine tail_any (ops := [.ref a, .ref s4.heap.objs.size]) ht.typeIs (PyProof.Rows.slot_tuple_getitem.lookup) ?_ (by with_unfolding_all rfl)
  refine getItem_tuple_rev ht (Heap.IsSliceOf.new _ .none .none vs) ps ?_ (by rw [List.size_toArray]; omega)
  refine ⟨.ref _, _, I5.laid (t' := s4.toks) (o := .tup xs.reverse) (fun b ob q => Heap.get?_push_of_some _ q) (Nat.le_refl _) ?_, rfl, q _ (I5.hok.fresh (Nat.le_refl _))⟩
  exact ⟨by rw [List.length_reverse]; exact hz, _, r.reverse, _, Heap.get?_push_size _ rfl, rfl, _, rfl⟩
end
/-- zip of two tuples of one length -/
theorem walk_zipT {K : PySem.W.Frag} {a b : Addr} {xs ys : List V} {n : Nat} (h1 : xs.length = n) (h2 : n ≤ ys.length) : Walk (RZ.ItzT K a b) n (fun H => SqT K H a xs ∧ SqT K H b ys) (YPair (fun i => xs[i]?) (fun i => ys[i]?)) :=
  ⟨fun i _ hi q => ⟨xs, ys, xs[i]'(by omega), ys[i]'(by omega), q.1, q.2, List.getElem?_eq_getElem _, List.getElem?_eq_getElem _⟩, fun _ q => ⟨xs, ys, q.1, q.2, .inl (by omega)⟩, fun _ _ _ _ _ q ⟨T, x, y, e, hT, eH, hx, hy⟩ => ⟨T, x, y, e, hT, eH, hx xs q.1, hy ys q.2⟩⟩
end OF
namespace K07
open PySem PySem.Spec PyProof.Rows L2 OF
def topS (i : Nat) : Stmt := PySem.Challenge.pw_oddfigures_k07_rows_judged.main.body.getD i (.Pass ⟨0, 0, 0, 0⟩)
abbrev sWhole : Stmt := topS 13
abbrev sIsInt : Stmt := topS 14
abbrev sIsBase : Stmt := topS 15
abbrev sIsDigit : Stmt := topS 16
abbrev sAre : Stmt := topS 17
abbrev sRowText : Stmt := topS 18
abbrev sRead : Stmt := topS 19
abbrev sOneOf : Stmt := topS 21
abbrev sIsPair : Stmt := topS 22
abbrev sDigList : Stmt := topS 23
abbrev sDiffDig : Stmt := topS 24
abbrev sDiffPair : Stmt := topS 25
abbrev sInit : Stmt := inClass (topS 27) 0
abbrev sAllows : Stmt := inClass (topS 27) 9
section
variable {P : Program} {w : World} {K : PySem.W.Frag} {mg : Str → Option Value} {base : Heap}

/-- is_whole -/
def spWhole : Sp := fun vs H Q _ => ∃ x : V, vs = [x] ∧ ((∃ n : Int, x = .int n ∧ Q (.bl true) H) ∨ (Odd H x ∧ Q (.bl false) H))
theorem scWh : FnScope ["value"] ["value"] (defScope sWhole) := ⟨rfl, rfl, rfl, by decide +kernel, rfl, by decide +kernel, by decide +kernel⟩
theorem ok_whole {f : Addr} {fd : FuncData} (F : Fun K "is_whole" "is_whole" sWhole f fd) (ms : mg "isinstance" = none) (mi : mg "int" = none) (mb : mg "bool" = none) : FnOk P w K mg base CX0 1 f fd ["value"] spWhole := by
  refine F.ok scWh (fun vs H Q E h => ?_) (fun cdv A outer s H vs Q E hr h => ?_)
  · obtain ⟨x, rfl, _⟩ := h
    rfl
  · obtain ⟨x, rfl, h⟩ := h
    refine ⟨_, pss_one (ps_ret (pe_and (pe_callB call_isi (by rfl) ms PyProof.Rows.boot_isinstance (pa_cons (pv 0) (pa_cons (pe_bltn (v := .ty "int") (by rfl) mi PyProof.Rows.boot_int rfl) pa_nil)))
      (pe_one (pe_not (pe_callB call_isi (by rfl) ms PyProof.Rows.boot_isinstance (pa_cons (pv 0) (pa_cons (pe_bltn (v := .ty "bool") (by rfl) mb PyProof.Rows.boot_bool rfl) pa_nil))))))), ?_⟩
    rcases h with ⟨n, rfl, q⟩ | ⟨o, q⟩
    · refine ⟨.int n, rfl, .int n, .ty "int", .type "int", .type "int", true, rfl, .ty _, .base (.int n), kit_ty (by decide +kernel), true, rfl, iteT ?_⟩
      exact ⟨.int n, rfl, .int n, .ty "bool", .type "int", .type "bool", false, rfl, .ty _, .base (.int n), kit_ty (by decide +kernel), false, rfl, q⟩
    · obtain ⟨t, b, ty, k1, k2⟩ := o.kit (K := K)
      refine ⟨x, rfl, x, .ty "int", t, .type "int", b, rfl, .ty _, ty, k1, b, rfl, ?_⟩
      cases b with
      | false => exact iteF q
      | true => exact iteT ⟨x, rfl, x, .ty "bool", t, .type "bool", true, rfl, .ty _, ty, k2 rfl, true, rfl, q⟩
/-- is_integer -/
def spIsInt : Sp := fun vs H Q _ => ∃ (x : V) (lo hi : Int), vs = [x, .int lo, .int hi] ∧ ((∃ n : Int, x = .int n ∧ Q (.bl (decide (lo ≤ n) && decide (n ≤ hi))) H) ∨ (Odd H x ∧ Q (.bl false) H))
def spIsDigit : Sp := fun vs H Q _ => ∃ (x : V), vs = [x] ∧ ((∃ n : Int, x = .int n ∧ Q (.bl (decide (-9 ≤ n) && decide (n ≤ 9))) H) ∨ (Odd H x ∧ Q (.bl false) H))
theorem scI : FnScope ["value", "low", "high"] ["value", "low", "high"] (defScope sIsInt) := ⟨rfl, rfl, rfl, by decide +kernel, rfl, by decide +kernel, by decide +kernel⟩
theorem ok_isint {f fW : Addr} {fd fdW : FuncData} (F : Fun K "is_integer" "is_integer" sIsInt f fd) (GW : FnOk P w K mg base CX0 1 fW fdW ["value"] spWhole) (gW : mg "is_whole" = some (.ref fW)) (kW : PySem.W.keepIn K (.ref fW) = true) (bW : Binds K fdW ["value"] []) : FnOk P w K mg base CX0 2 f fd ["value", "low", "high"] spIsInt := by
  refine F.ok scI (fun vs H Q E h => ?_) (fun cdv A outer s H vs Q E hr h => ?_)
  · obtain ⟨x, lo, hi, rfl, _⟩ := h
    rfl
  · obtain ⟨x, lo, hi, rfl, h⟩ := h
    refine ⟨_, pss_one (ps_ret (pe_and (pe_call GW hr (by rfl) gW kW bW .nil pass0 (pa_cons (pv 0) pa_nil)) (pe_one (pe_chain op_le op_le (pv 1) (pv 0) (pv 2))))), ?_⟩
    rcases h with ⟨n, rfl, q⟩ | ⟨o, q⟩
    · exact ⟨.int n, rfl, .int n, rfl, .inl ⟨n, rfl, true, rfl, iteT ⟨.int lo, rfl, .int n, rfl, lo, n, rfl, rfl, _, rfl, iteAnd (fun z => ⟨.int hi, rfl, n, hi, rfl, rfl, z⟩) q⟩⟩⟩
    · exact ⟨x, rfl, x, rfl, .inr ⟨o, false, rfl, iteF q⟩⟩
def isBase (n : Int) : Bool := (decide (2 ≤ n) && decide (n ≤ 6)) || (decide (-6 ≤ n) && decide (n ≤ -2))
def spIsBase : Sp := fun vs H Q _ => ∃ (x : V), vs = [x] ∧ ((∃ n : Int, x = .int n ∧ Q (.bl (isBase n)) H) ∨ (Odd H x ∧ Q (.bl false) H))
theorem scIB : FnScope ["value"] ["value"] (defScope sIsBase) := ⟨rfl, rfl, rfl, by decide +kernel, rfl, by decide +kernel, by decide +kernel⟩
theorem ok_isbase {f fI : Addr} {fd fdI : FuncData} {t : Tok} (F : Fun K "is_base" "is_base" sIsBase f fd) (GI : FnOk P w K mg base CX0 2 fI fdI ["value", "low", "high"] spIsInt) (gI : mg "is_integer" = some (.ref fI)) (kI : PySem.W.keepIn K (.ref fI) = true) (bI : Binds K fdI ["value", "low", "high"] [])
    (gG : mg "GREATEST_BASE" = some (.int 6 t)) : FnOk P w K mg base CX0 3 f fd ["value"] spIsBase := by
  refine F.ok scIB (fun vs H Q E h => ?_) (fun cdv A outer s H vs Q E hr h => ?_)
  · obtain ⟨x, rfl, _⟩ := h
    rfl
  · obtain ⟨x, rfl, h⟩ := h
    refine ⟨_, pss_one (ps_ret (pe_or (pe_call GI hr (by rfl) gI kI bI .nil pass0 (pa_cons (pv 0) (pa_cons pe_int (pa_cons (pe_glob (v := .int 6) rfl gG ⟨_, rfl⟩) pa_nil))))
      (pe_one (pe_call GI hr (by rfl) gI kI bI .nil pass0 (pa_cons (pv 0) (pa_cons (pe_un un_neg (pe_glob (v := .int 6) rfl gG ⟨_, rfl⟩)) (pa_cons (pe_un un_neg pe_int) pa_nil))))))), ?_⟩
    rcases h with ⟨n, rfl, q⟩ | ⟨o, q⟩
    · exact ⟨.int n, rfl, _, 2, 6, rfl, .inl ⟨n, rfl, _, rfl, iteOr (fun z => ⟨.int n, rfl, 6, rfl, 2, rfl, _, -6, -2, rfl, .inl ⟨n, rfl, z⟩⟩) q⟩⟩
    · exact ⟨x, rfl, _, 2, 6, rfl, .inr ⟨o, _, rfl, iteF ⟨x, rfl, 6, rfl, 2, rfl, _, -6, -2, rfl, .inr ⟨o, q⟩⟩⟩⟩
theorem scID : FnScope ["value"] ["value"] (defScope sIsDigit) := ⟨rfl, rfl, rfl, by decide +kernel, rfl, by decide +kernel, by decide +kernel⟩
theorem ok_isdigit {f fI : Addr} {fd fdI : FuncData} {t : Tok} (F : Fun K "is_digit" "is_digit" sIsDigit f fd) (GI : FnOk P w K mg base CX0 2 fI fdI ["value", "low", "high"] spIsInt) (gI : mg "is_integer" = some (.ref fI)) (kI : PySem.W.keepIn K (.ref fI) = true) (bI : Binds K fdI ["value", "low", "high"] [])
    (gG : mg "GREATEST_DIGIT" = some (.int 9 t)) : FnOk P w K mg base CX0 3 f fd ["value"] spIsDigit := by
  refine F.ok scID (fun vs H Q E h => ?_) (fun cdv A outer s H vs Q E hr h => ?_)
  · obtain ⟨x, rfl, _⟩ := h
    rfl
  · obtain ⟨x, rfl, h⟩ := h
    refine ⟨_, pss_one (ps_ret (pe_call GI hr (by rfl) gI kI bI .nil pass0 (pa_cons (pv 0) (pa_cons (pe_un un_neg (pe_glob (v := .int 9) rfl gG ⟨_, rfl⟩)) (pa_cons (pe_glob (v := .int 9) rfl gG ⟨_, rfl⟩) pa_nil))))), ?_⟩
    rcases h with ⟨n, rfl, q⟩ | ⟨o, q⟩
    · exact ⟨.int n, rfl, 9, rfl, _, -9, 9, rfl, .inl ⟨n, rfl, q⟩⟩
    · exact ⟨x, rfl, 9, rfl, _, -9, 9, rfl, .inr ⟨o, q⟩⟩
/-- a digit -/
def dig (n : Int) : Bool := decide (-9 ≤ n) && decide (n ≤ 9)
theorem same_seqT {K : PySem.W.Frag} {H H' : Hp} {a : Addr} {xs : List V} (s : Same H H') (h : SqT K H a xs) : SqT K H' a xs := by
  rcases h with (h | ⟨o, h⟩) | h
  · exact .inl (.inl (s _ _ h))
  · exact .inl (.inr ⟨o, s _ _ h⟩)
  · exact .inr h
/-- are_digits of a list or tuple of ints -/
def spAreI (K : PySem.W.Frag) : Sp := fun vs H Q _ => ∃ (p : Addr) (ns : List Int), vs = [.ref p] ∧ (SqL K H p (ns.map V.int) ∨ SqT K H p (ns.map V.int)) ∧ ns.length ≤ 1000 ∧ ∀ H', Same H H' → Q (.bl (ns.all dig)) H'
theorem scAr : FnScope ["items", "item"] ["items"] (defScope sAre) := ⟨rfl, rfl, rfl, by decide +kernel, rfl, by decide +kernel, by decide +kernel⟩
theorem ok_are {f fD : Addr} {fd fdD : FuncData} (F : Fun K "are_digits" "are_digits" sAre f fd) (GD : FnOk P w K mg base CX0 3 fD fdD ["value"] spIsDigit) (gD : mg "is_digit" = some (.ref fD)) (kD : PySem.W.keepIn K (.ref fD) = true) (bD : Binds K fdD ["value"] [])
    (mall : mg "all" = none) : FnOk P w K mg base CX0 4 f fd ["items"] (spAreI K) := by
  refine F.ok scAr (fun vs H Q E h => ?_) (fun cdv A outer s H vs Q E hr h => ?_)
  · obtain ⟨p, ns, rfl, _⟩ := h
    rfl
  · obtain ⟨p, ns, rfl, hp, hl, q⟩ := h
    have turn : ∀ (i : Nat) (n : Int) (H' : Hp) (D : Addr), H D = none → ns[i]? = some n → Same H H' →
        ((ns.take i).map fun n => V.bl (dig n)).length < sizeLine ∧ Same H (upd H' D (.lst (((ns.take i).map fun n => V.bl (dig n)) ++ [V.bl (dig n)]))) ∧ (upd H' D (.lst (((ns.take i).map fun n => V.bl (dig n)) ++ [V.bl (dig n)]))) D = some (.lst ((ns.take (i + 1)).map fun n => V.bl (dig n))) := by
      intro i n H' D hD hn s1
      refine ⟨?_, Same.store s1 hD, ?_⟩
      · rw [List.length_map]
        exact Nat.lt_of_le_of_lt (List.length_take_le' _ _) (small1000 hl)
      · rw [upd_same, take_more hn, List.map_append]
        rfl
    have done : ∀ (D : Addr) (H' : Hp), H' D = some (.lst ((ns.take (ns.map V.int).length).map fun n => V.bl (dig n))) → H' D = some (.lst ((ns.map dig).map V.bl)) ∧ (ns.map dig).all id = ns.all dig := by
      intro D H' e
      rw [List.length_map, List.take_length] at e
      refine ⟨by rw [e, List.map_map]; rfl, ?_⟩
      rw [List.all_map]
      rfl
    rcases hp with hp | hp
    · refine ⟨_, pss_one (ps_ret (pe_callB (cr_all rfl) (by rfl) mall (by decide +kernel) (pa_cons (pe_lc (own := [("item", 1)]) (g := gName 1) (tt := tYes) (te := tCall spIsDigit [] E0 (tCons (tVar 1) tNil)) rfl scAr.nd (pi_list (pv 0))
            (blkOk_by (own := [("item", 1)]) (N := ["items", "item"]) (sc := defScope sAre) (by decide +kernel)) (fun _ _ _ _ _ => pg_name (i := 1) scAr.nd rfl (Or.inl rfl)) (fun _ _ _ _ _ => pts_nil)
            (fun _ _ _ _ _ => by exact (pe_call GD hr (by rfl) gD kD bD .nil pass0 (pa_cons (pv 1) pa_nil)))) pa_nil))), ?_⟩
      refine ⟨.ref p, rfl, p, rfl, ⟨_, hp⟩, fun D hD => ?_⟩
      refine lc_list (K := K) (a := p) (xs := ns.map V.int) (fun i H' => Same H H' ∧ H' D = some (.lst ((ns.take i).map fun n => V.bl (dig n)))) ⟨same_new hD, upd_same⟩ (fun i H' _ h => h.1.seq hp) ?_ ?_
      · rintro i x H' hi ⟨s1, e1⟩
        obtain ⟨n, hn, rfl⟩ := get_map hi
        exact ⟨rfl, tYes_if ⟨.int n, rfl, .int n, rfl, .inl ⟨n, rfl, _, e1, turn i n H' D hD hn s1⟩⟩⟩
      · rintro H' ⟨s1, e1⟩
        obtain ⟨d1, d2⟩ := done D H' e1
        exact ⟨D, ns.map dig, rfl, SqL.of d1, by rw [d2]; exact q H' s1⟩
    · refine ⟨_, pss_one (ps_ret (pe_callB (cr_all rfl) (by rfl) mall (by decide +kernel) (pa_cons (pe_lc (own := [("item", 1)]) (g := gName 1) (tt := tYes) (te := tCall spIsDigit [] E0 (tCons (tVar 1) tNil)) rfl scAr.nd (pi_tup (pv 0))
            (blkOk_by (own := [("item", 1)]) (N := ["items", "item"]) (sc := defScope sAre) (by decide +kernel)) (fun _ _ _ _ _ => pg_name (i := 1) scAr.nd rfl (Or.inl rfl)) (fun _ _ _ _ _ => pts_nil)
            (fun _ _ _ _ _ => by exact (pe_call GD hr (by rfl) gD kD bD .nil pass0 (pa_cons (pv 1) pa_nil)))) pa_nil))), ?_⟩
      refine ⟨.ref p, rfl, p, rfl, ⟨_, hp⟩, fun D hD => ?_⟩
      refine lc_tup (K := K) (a := p) (xs := ns.map V.int) (fun i H' => Same H H' ∧ H' D = some (.lst ((ns.take i).map fun n => V.bl (dig n)))) ⟨same_new hD, upd_same⟩ (fun i H' _ h => same_seqT h.1 hp) ?_ ?_
      · rintro i x H' hi ⟨s1, e1⟩
        obtain ⟨n, hn, rfl⟩ := get_map hi
        exact ⟨rfl, tYes_if ⟨.int n, rfl, .int n, rfl, .inl ⟨n, rfl, _, e1, turn i n H' D hD hn s1⟩⟩⟩
      · rintro H' ⟨s1, e1⟩
        obtain ⟨d1, d2⟩ := done D H' e1
        exact ⟨D, ns.map dig, rfl, SqL.of d1, by rw [d2]; exact q H' s1⟩
/-- _is_one_of: the digits stand in a tuple -/
def spOneOf (K : PySem.W.Frag) : Sp := fun vs H Q _ => ∃ (t : Addr) (ds : List Int) (x : V), vs = [.ref t, x] ∧ SqT K H t (ds.map V.int) ∧ ((∃ n : Int, x = .int n ∧ Q (.bl (dig n && decide (n ∈ ds))) H) ∨ (Odd H x ∧ Q (.bl false) H))
theorem in_ints (n : Int) : ∀ ds : List Int, inV (.int n) (ds.map V.int) = decide (n ∈ ds)
  | [] => by
    show false = _
    rw [decide_eq_false (List.not_mem_nil)]
  | d :: ds => by
    show ((d == n) || inV (.int n) (ds.map V.int)) = _
    rw [in_ints n ds, Bool.eq_iff_iff]
    simp only [Bool.or_eq_true, beq_iff_eq, decide_eq_true_eq, List.mem_cons]
    constructor
    · rintro (h | h)
      · exact .inl h.symm
      · exact .inr h
    · rintro (h | h)
      · exact .inl h.symm
      · exact .inr h
theorem flat_ints : ∀ ds : List Int, (ds.map V.int).all flatV = true
  | [] => rfl
  | _ :: ds => flat_ints ds
theorem scOn : FnScope ["digits", "value"] ["digits", "value"] (defScope sOneOf) := ⟨rfl, rfl, rfl, by decide +kernel, rfl, by decide +kernel, by decide +kernel⟩
theorem ok_oneof {f fD : Addr} {fd fdD : FuncData} (F : Fun K "_is_one_of" "_is_one_of" sOneOf f fd) (GD : FnOk P w K mg base CX0 3 fD fdD ["value"] spIsDigit) (gD : mg "is_digit" = some (.ref fD)) (kD : PySem.W.keepIn K (.ref fD) = true) (bD : Binds K fdD ["value"] []) :
    FnOk P w K mg base CX0 4 f fd ["digits", "value"] (spOneOf K) := by
  refine F.ok scOn (fun vs H Q E h => ?_) (fun cdv A outer s H vs Q E hr h => ?_)
  · obtain ⟨t, ds, x, rfl, _⟩ := h
    rfl
  · obtain ⟨t, ds, x, rfl, ht, h⟩ := h
    refine ⟨_, pss_one (ps_ret (pe_and (pe_call GD hr (by rfl) gD kD bD .nil pass0 (pa_cons (pv 1) pa_nil)) (pe_one (pe_cmpR op_in_seq (pv 1) (pv 0) rfl)))), ?_⟩
    rcases h with ⟨n, rfl, q⟩ | ⟨o, q⟩
    · refine ⟨.int n, rfl, .int n, rfl, .inl ⟨n, rfl, _, rfl, iteAnd (fun z => ?_) q⟩⟩
      refine ⟨.int n, rfl, .ref t, rfl, t, _, rfl, .inr ht, rfl, flat_ints ds, ?_⟩
      have z2 := z
      rw [← in_ints n ds] at z2
      exact z2
    · exact ⟨x, rfl, x, rfl, .inr ⟨o, _, rfl, iteF q⟩⟩
/-- a list or tuple that was made in the law's run -/
def SeqAt' (H : Hp) (p : Addr) (xs : List V) : Prop := H p = some (.lst xs) ∨ H p = some (.tup xs)
theorem SeqAt'.same {H H' : Hp} {p : Addr} {xs : List V} (h : SeqAt' H p xs) (s : Same H H') : SeqAt' H' p xs := h.elim (fun e => .inl (s _ _ e)) fun e => .inr (s _ _ e)
theorem SeqAt'.sq {K : PySem.W.Frag} {H : Hp} {p : Addr} {xs : List V} (h : SeqAt' H p xs) : SqL K H p xs ∨ SqT K H p xs := h.elim (fun e => .inl (SqL.of e)) fun e => .inr (SqT.of e)
theorem SeqAt'.lt {K : PySem.W.Frag} {H : Hp} {p : Addr} {xs : List V} (h : SeqAt' H p xs) : ∃ t, TyX K H (.ref p) t ∧ PySem.W.kitAny K t [.type "list", .type "tuple"] = some true := by
  rcases h with e | e
  · exact ⟨_, .base (.lst e), kitAny_cons (b := true) (kit_ty (by decide +kernel)) (fun z => nomatch z) fun _ => rfl⟩
  · exact ⟨_, .base (.tup e), kitAny_cons (b := false) (kit_ty (by decide +kernel)) (fun _ => kitAny_cons (b := true) (kit_ty (by decide +kernel)) (fun z => nomatch z) fun _ => rfl) fun z => nomatch z⟩
def spDigList : Sp := fun vs H Q _ => ∃ (p : Addr) (ns : List Int), vs = [.ref p] ∧ SeqAt' H p (ns.map V.int) ∧ ns.length ≤ 1000 ∧ ∀ H', Same H H' → Q (.bl (ns.all dig)) H'
theorem scDl : FnScope ["value"] ["value"] (defScope sDigList) := ⟨rfl, rfl, rfl, by decide +kernel, rfl, by decide +kernel, by decide +kernel⟩
theorem ok_diglist {f fA : Addr} {fd fdA : FuncData} (F : Fun K "_is_digit_list" "_is_digit_list" sDigList f fd) (GA : FnOk P w K mg base CX0 4 fA fdA ["items"] (spAreI K)) (gA : mg "are_digits" = some (.ref fA)) (kA : PySem.W.keepIn K (.ref fA) = true) (bA : Binds K fdA ["items"] [])
    (mis : mg "isinstance" = none) (ml : mg "list" = none) (mt : mg "tuple" = none) : FnOk P w K mg base CX0 5 f fd ["value"] spDigList := by
  refine F.ok scDl (fun vs H Q E h => ?_) (fun cdv A outer s H vs Q E hr h => ?_)
  · obtain ⟨p, ns, rfl, _⟩ := h
    rfl
  · obtain ⟨p, ns, rfl, hp, hl, q⟩ := h
    refine ⟨_, pss_one (ps_ret (pe_and (pe_callB call_isiT (by rfl) mis PyProof.Rows.boot_isinstance (pa_cons (pv 0) (pa_cons (pe_tup (pa_cons (pe_bltn (v := .ty "list") (by rfl) ml PyProof.Rows.boot_list rfl) (pa_cons (pe_bltn (v := .ty "tuple") (by rfl) mt (by decide +kernel) rfl) pa_nil))) pa_nil)))
      (pe_one (pe_call GA hr (by rfl) gA kA bA .nil pass0 (pa_cons (pv 0) pa_nil))))), ?_⟩
    refine ⟨.ref p, rfl, (by show 2 ≤ sizeLine; decide), fun T hT => ?_⟩
    have s1 := same_new (o := .tup [.ty "list", .ty "tuple"]) hT
    obtain ⟨t, ty, k⟩ := (hp.same s1).lt (K := K)
    exact ⟨.ref p, T, _, t, _, true, rfl, upd_same, .cons (.ty _) (.cons (.ty _) .nil), ty, k, true, rfl, iteT ⟨.ref p, rfl, p, ns, rfl, (hp.same s1).sq, hl, fun H' s2 => q H' (s1.trans s2)⟩⟩
/-- _different_digits of digits that are right -/
def spDiffDig : Sp := fun vs H Q _ => ∃ (p : Addr) (ns : List Int), vs = [.ref p] ∧ SeqAt' H p (ns.map V.int) ∧ ns.length ≤ 60 ∧ ns.all dig = true ∧ (∀ ks : List Int, ks.Nodup → (∀ k, k ∈ ks ↔ k ∈ ns) → 1 ≤ ks.length ∧ ks.length ≤ 6) ∧
  ∀ (ds : List Int) (t : Addr) (H' : Hp), ds.Pairwise (· < ·) → (∀ k, k ∈ ds ↔ k ∈ ns) → Same H H' → H t = none → H' t = some (.tup (ds.map V.int)) → Q (.ref t) H'
theorem scDd : FnScope ["digits"] ["digits"] (defScope sDiffDig) := ⟨rfl, rfl, rfl, by decide +kernel, rfl, by decide +kernel, by decide +kernel⟩
theorem ok_diffdig {f fL fI C : Addr} {fd fdL fdI : FuncData} {t6 : Tok} (F : Fun K "_different_digits" "_different_digits" sDiffDig f fd) (GL : FnOk P w K mg base CX0 5 fL fdL ["value"] spDigList) (gL : mg "_is_digit_list" = some (.ref fL)) (kL : PySem.W.keepIn K (.ref fL) = true) (bL : Binds K fdL ["value"] [])
    (GI : FnOk P w K mg base CX0 3 fI fdI ["self", "value"] (spInit K "value" C)) (T : ErrC K mg "InvalidDigits" "value" C fI) (bI : Binds K fdI ["self", "value"] [])
    (g6 : mg "MOST_DIGITS" = some (.int 6 t6)) (ml : mg "len" = none) (ms : mg "set" = none) (mso : mg "sorted" = none) (mt : mg "tuple" = none) : FnOk P w K mg base (L2.CX P w) 6 f fd ["digits"] spDiffDig := by
  refine F.okX scDd (fun vs H Q E h => ?_) (fun cdv A outer s H vs Q E hr h => ?_)
  · obtain ⟨p, ns, rfl, _⟩ := h
    rfl
  · obtain ⟨p, ns, rfl, hp, hl, hd, h6, q⟩ := h
    have hr3 : Room 4 _ := hr.mono (by decide)
    apply Exists.intro
    apply And.intro
    · apply pss_cons
      · exact ps_if (PW.pt (pw_or (pt_not (pt_val (pe_call GL hr (by rfl) gL kL bL .nil pass0 (pa_cons (pv 0) pa_nil))))
            (pw_or1 (pt_not (pt_chain op_le op_le pe_int (pe_callB call_lenSetO (by rfl) ml PySem.boot_len (pa_cons (pe_callTy (cr_setI rfl) (by rfl) ms PyProof.Rows.boot_set (pa_cons (pv 0) pa_nil)) pa_nil)) (pe_glob (v := .int 6) (by rfl) g6 ⟨_, rfl⟩))))))
          (pss_one (ps_raise rfl (takes_of rfl rfl rfl rfl) (pmk_oex T.ox T.iC T.tI GI hr3 bI .nil pass0 (by rfl) T.g (pa_cons (pv 0) pa_nil)))) pss_nil
      apply pss_one
      · exact ps_ret (pe_callTy call_tuple_of (by rfl) mt (by decide +kernel) (pa_cons (pe_callB (cr_sortedSet rfl) (by rfl) mso (by decide +kernel) (pa_cons (pe_callTy (cr_setI rfl) (by rfl) ms PyProof.Rows.boot_set (pa_cons (pv 0) pa_nil)) pa_nil)) pa_nil))
    refine ⟨.ref p, rfl, p, ns, rfl, hp, by omega, fun H1 s1 => ?_⟩
    rw [hd]
    refine ⟨true, rfl, iteF ?_⟩
    refine ⟨.ref p, rfl, p, ns, rfl, (hp.same s1).sq, hl, fun S1 ks hS1 nd mem => ?_⟩
    obtain ⟨l1, l6⟩ := h6 ks nd mem
    refine ⟨S1, _, ks.length, rfl, upd_same, 1, (ks.length : Int), rfl, rfl, _, rfl, iteTB (decide_eq_true (by omega)) ⟨(ks.length : Int), 6, rfl, rfl, _, rfl, ?_⟩⟩
    refine iteFB (by rw [decide_eq_true (by omega : (ks.length : Int) ≤ 6)]; rfl) ?_
    have s2 : Same H (upd H1 S1 (SetO w S1 (fun j => decide (j ∈ ns)) ks.length)) := s1.trans (same_new hS1)
    refine ⟨.ref p, rfl, p, ns, rfl, (hp.same s2).sq, hl, fun S2 ks2 hS2 nd2 mem2 => ?_⟩
    obtain ⟨k1, k6⟩ := h6 ks2 nd2 mem2
    refine ⟨S2, _, _, rfl, upd_same, by omega, fun ds D asc mds lds hD => ?_⟩
    have s3 : Same H (upd (upd (upd H1 S1 (SetO w S1 (fun j => decide (j ∈ ns)) ks.length)) S2 (SetO w S2 (fun j => decide (j ∈ ns)) ks2.length)) D (.lst (ds.map V.int))) := s2.trans ((same_new hS2).trans (same_new hD))
    refine ⟨D, _, rfl, .inl ⟨SqL.of upd_same, fun t ht => ?_⟩⟩
    exact q ds t _ asc (fun k => (mds k).trans ⟨fun z => of_decide_eq_true z, fun z => decide_eq_true z⟩) (Same.store s3 (s3.free ht)) (s3.free ht) upd_same
/-- _is_pair of a tuple of two of the digits -/
def spIsPair (K : PySem.W.Frag) : Sp := fun vs H Q _ => ∃ (t p : Addr) (ds : List Int) (x y : Int), vs = [.ref t, .ref p] ∧ SqT K H t (ds.map V.int) ∧ H p = some (.tup [.int x, .int y]) ∧ (dig x = true ∧ x ∈ ds) ∧ (dig y = true ∧ y ∈ ds) ∧ ∀ H', Same H H' → Q (.bl true) H'
abbrev nIp : List Str := ["digits", "value", "item"]
theorem scIp : FnScope nIp ["digits", "value"] (defScope sIsPair) := ⟨rfl, rfl, rfl, by decide +kernel, rfl, by decide +kernel, by decide +kernel⟩
theorem ok_ispair {f fO : Addr} {fd fdO : FuncData} (F : Fun K "_is_pair" "_is_pair" sIsPair f fd) (GO : FnOk P w K mg base CX0 4 fO fdO ["digits", "value"] (spOneOf K)) (gO : mg "_is_one_of" = some (.ref fO)) (kO : PySem.W.keepIn K (.ref fO) = true) (bO : Binds K fdO ["digits", "value"] [])
    (mis : mg "isinstance" = none) (ml : mg "len" = none) (mall : mg "all" = none) (mt : mg "tuple" = none) : FnOk P w K mg base CX0 5 f fd ["digits", "value"] (spIsPair K) := by
  refine F.ok scIp (fun vs H Q E h => ?_) (fun cdv A outer s H vs Q E hr h => ?_)
  · obtain ⟨t, p, ds, x, y, rfl, _⟩ := h
    rfl
  · obtain ⟨t, p, ds, x, y, rfl, ht, hp, ⟨hx, mx⟩, ⟨hy, my⟩, q⟩ := h
    refine ⟨_, pss_one (ps_ret (pe_and (pe_callB call_isi (by rfl) mis PyProof.Rows.boot_isinstance (pa_cons (pv 1) (pa_cons (pe_bltn (v := .ty "tuple") (by rfl) mt (by decide +kernel) rfl) pa_nil)))
      (pe_and (pe_cmpR op_eq (pe_callB call_len_seq (by rfl) ml PySem.boot_len (pa_cons (pv 1) pa_nil)) pe_int (nomark _))
      (pe_one (pe_callB (cr_all rfl) (by rfl) mall (by decide +kernel) (pa_cons (pe_lc (own := [("item", 2)]) (g := gName 2) (tt := tYes) (te := tCall (spOneOf K) [] E0 (tCons (tVar 0) (tCons (tVar 2) tNil))) rfl scIp.nd (pi_tup (pv 1))
            (blkOk_by (own := [("item", 2)]) (N := nIp) (sc := defScope sIsPair) (by decide +kernel)) (fun _ _ _ _ _ => pg_name (i := 2) scIp.nd rfl (Or.inl rfl)) (fun _ _ _ _ _ => pts_nil)
            (fun _ _ _ _ _ => by exact (pe_call GO hr (by rfl) gO kO bO .nil pass0 (pa_cons (pv 0) (pa_cons (pv 2) pa_nil))))) pa_nil)))))), ?_⟩
    refine ⟨.ref p, rfl, .ref p, .ty "tuple", .type "tuple", .type "tuple", true, rfl, .ty _, .base (.tup hp), kit_ty (by decide +kernel), true, rfl, iteT ?_⟩
    refine ⟨.ref p, rfl, p, _, rfl, .inr (SqT.of hp), rfl, true, rfl, iteT ?_⟩
    refine ⟨.ref p, rfl, p, rfl, ⟨_, SqT.of hp⟩, fun D hD => ?_⟩
    refine lc_tup (K := K) (a := p) (xs := [V.int x, .int y]) (fun i H' => Same H H' ∧ H' D = some (.lst (List.replicate i (V.bl true)))) ⟨same_new hD, upd_same⟩ (fun i H' _ h => SqT.of (h.1 _ _ hp)) ?_ ?_
    · rintro i z H' hi ⟨s1, e1⟩
      have hz : ∃ n, z = .int n ∧ dig n = true ∧ n ∈ ds := by
        have m := List.mem_of_getElem? hi
        simp only [List.mem_cons, List.not_mem_nil, or_false] at m
        rcases m with rfl | rfl
        · exact ⟨x, rfl, hx, mx⟩
        · exact ⟨y, rfl, hy, my⟩
      obtain ⟨n, rfl, hn, mn⟩ := hz
      have hi2 := (List.getElem?_eq_some_iff.mp hi).1
      refine ⟨rfl, tYes_if ⟨.ref t, rfl, .int n, rfl, t, ds, .int n, rfl, same_seqT s1 ht, .inl ⟨n, rfl, ?_⟩⟩⟩
      rw [hn, decide_eq_true mn]
      refine ⟨_, e1, ?_, Same.store s1 hD, ?_⟩
      · rw [List.length_replicate]
        exact small1000 (Nat.le_trans (Nat.le_of_lt hi2) (by show 2 ≤ 1000; decide))
      · rw [upd_same, List.replicate_succ']
        rfl
    · rintro H' ⟨s1, e1⟩
      exact ⟨D, [true, true], rfl, SqL.of e1, q H' s1⟩
/-- _different_pairs of pairs that are right, in a list -/
def spDiffPair (K : PySem.W.Frag) : Sp := fun vs H Q _ => ∃ (t l : Addr) (ds : List Int) (ks : List (Addr × List Int)), vs = [.ref t, .ref l] ∧ SqT K H t (ds.map V.int) ∧ H l = some (.lst (ks.map fun p => V.ref p.1)) ∧ ks.length < 64 ∧
  (∀ p ∈ ks, ∃ x y, p.2 = [x, y] ∧ H p.1 = some (.tup [.int x, .int y]) ∧ (dig x = true ∧ x ∈ ds) ∧ (dig y = true ∧ y ∈ ds)) ∧
  ∀ (L : List (Addr × List Int)) (r : Addr) (H' : Hp), (∀ p ∈ L, p ∈ ks) → (∀ p ∈ ks, p.2 ∈ L.map (·.2)) → (L.map (·.2)).Nodup → L.Pairwise (fun q r => SrtO.lexB (duo r.2) (duo q.2) = false) → Same H H' → H' r = some (.tup (L.map fun q => V.ref q.1)) → Q (.ref r) H'
abbrev nDp : List Str := ["digits", "bars", "item"]
theorem scDp : FnScope nDp ["digits", "bars"] (defScope sDiffPair) := ⟨rfl, rfl, rfl, by decide +kernel, rfl, by decide +kernel, by decide +kernel⟩
theorem ok_diffpair {f fO fI C : Addr} {fd fdO fdI : FuncData} (F : Fun K "_different_pairs" "_different_pairs" sDiffPair f fd) (GO : FnOk P w K mg base CX0 5 fO fdO ["digits", "value"] (spIsPair K)) (gO : mg "_is_pair" = some (.ref fO)) (kO : PySem.W.keepIn K (.ref fO) = true) (bO : Binds K fdO ["digits", "value"] [])
    (GI : FnOk P w K mg base CX0 3 fI fdI ["self", "value"] (spInit K "value" C)) (T : ErrC K mg "InvalidBars" "value" C fI) (bI : Binds K fdI ["self", "value"] [])
    (mis : mg "isinstance" = none) (mli : mg "list" = none) (ms : mg "set" = none) (mso : mg "sorted" = none) (mt : mg "tuple" = none) : FnOk P w K mg base (L2.CX P w) 6 f fd ["digits", "bars"] (spDiffPair K) := by
  refine F.okX scDp (fun vs H Q E h => ?_) (fun cdv A outer s H vs Q E hr h => ?_)
  · obtain ⟨t, l, ds, ks, rfl, _⟩ := h
    rfl
  · obtain ⟨t, l, ds, ks, rfl, ht, hl, few, hk, q⟩ := h
    have hr3 : Room 4 _ := hr.mono (by decide)
    apply Exists.intro
    apply And.intro
    · apply pss_cons
      · exact ps_if (pt_not (pt_val (pe_callB call_isiT (by rfl) mis PyProof.Rows.boot_isinstance (pa_cons (pv 1) (pa_cons (pe_tup (pa_cons (pe_bltn (v := .ty "list") (by rfl) mli PyProof.Rows.boot_list rfl) (pa_cons (pe_bltn (v := .ty "tuple") (by rfl) mt (by decide +kernel) rfl) pa_nil))) pa_nil)))))
          (pss_one (ps_raise rfl (takes_of rfl rfl rfl rfl) (pmk_oex T.ox T.iC T.tI GI hr3 bI .nil pass0 (by rfl) T.g (pa_cons (pv 1) pa_nil)))) pss_nil
      apply pss_cons
      · exact ps_for (passes_of rfl) rfl (pi_list (pv 1)) (pg_name (i := 2) scDp.nd rfl (.inl rfl))
          (pss_one (ps_if (pt_not (pt_val (pe_call GO hr (by rfl) gO kO bO .nil pass0 (pa_cons (pv 0) (pa_cons (pv 2) pa_nil)))))
            (pss_one (ps_raise rfl (takes_of rfl rfl rfl rfl) (pmk_oex T.ox T.iC T.tI GI hr3 bI .nil pass0 (by rfl) T.g (pa_cons (pv 2) pa_nil)))) pss_nil))
      apply pss_one
      · exact ps_ret (pe_callTy call_tuple_of (by rfl) mt (by decide +kernel) (pa_cons (pe_callB (cr_sortedDuo rfl) (by rfl) mso (by decide +kernel) (pa_cons (pe_callTy (cr_setOfT rfl hr.units) (by rfl) ms PyProof.Rows.boot_set (pa_cons (pv 1) pa_nil)) pa_nil)) pa_nil))
    refine ⟨.ref l, rfl, (by show 2 ≤ sizeLine; decide), fun U hU => ?_⟩
    have s1 : Same H (upd H U (.tup [.ty "list", .ty "tuple"])) := same_new hU
    obtain ⟨ty, hty, k⟩ := SeqAt'.lt (K := K) (.inl (s1 _ _ hl))
    refine ⟨.ref l, U, _, ty, _, true, rfl, upd_same, .cons (.ty _) (.cons (.ty _) .nil), hty, k, true, rfl, iteF ?_⟩
    generalize upd H U (.tup [.ty "list", .ty "tuple"]) = H1 at s1 ⊢
    refine ⟨.ref l, rfl, l, rfl, ⟨_, SqL.of (s1 _ _ hl)⟩, for_list (K := K) (a := l) (xs := ks.map fun p => V.ref p.1) (fun i σ H' => (∃ v, σ = [some (.ref t), some (.ref l), v]) ∧ Same H H') ⟨⟨none, rfl⟩, s1⟩ (fun i σ H' _ h => SqL.of (h.2 _ _ hl)) ?_ ?_⟩
    · rintro i z σ H' hz ⟨⟨v, rfl⟩, s2⟩
      obtain ⟨p, hp, rfl⟩ := get_map hz
      obtain ⟨x, y, _, ep, hx, hy⟩ := hk p (List.mem_of_getElem? hp)
      refine ⟨.ref t, rfl, .ref p.1, rfl, t, p.1, ds, x, y, rfl, same_seqT s2 ht, s2 _ _ ep, hx, hy, fun H2 s3 => ⟨true, rfl, iteF ⟨⟨_, rfl⟩, s2.trans s3⟩⟩⟩
    · rintro σ H' ⟨⟨v, rfl⟩, s2⟩
      have tup : ∀ (H2 : Hp), Same H H2 → ∀ p ∈ ks, SqT K H2 p.1 (p.2.map V.int) := by
        intro H2 s3 p hp
        obtain ⟨x, y, e, ep, _⟩ := hk p hp
        rw [e]
        exact SqT.of (s3 _ _ ep)
      refine ⟨.ref l, rfl, l, ks, rfl, SqL.of (s2 _ _ hl), tup H' s2, few, fun S L hS sub all => ?_⟩
      have s3 : Same H (upd H' S (SetTO P w S L)) := s2.trans (same_new hS)
      refine ⟨S, L, rfl, upd_same, fun p hp => tup _ s3 p (sub p hp), fun p hp => ?_, fun L' D pm nd sh pw hD => ?_⟩
      · obtain ⟨x, y, e, _⟩ := hk p (sub p hp)
        rw [e]
        rfl
      have s4 : Same H (upd (upd H' S (SetTO P w S L)) D (.lst (L'.map fun q => V.ref q.1))) := s3.trans (same_new hD)
      refine ⟨D, _, rfl, .inl ⟨SqL.of upd_same, fun r hr2 => ?_⟩⟩
      exact q L' r _ (fun p hp => sub p (pm.mem_iff.mp hp)) (fun p hp => (pm.map (·.2)).mem_iff.mpr (all p hp)) nd pw (Same.store s4 (s4.free hr2)) upd_same
theorem passNo {X : Cx} {P' : Program} {w' : World} : Passes (L2.CX P' w') X E0 := fun _ _ _ _ _ _ _ h => by
  obtain ⟨_, _, _, _, _, _, _, _, _, _, _, _, z⟩ := h
  exact z.elim
/-- Scheme.__init__ of parts that are right -/
def spNew (K : PySem.W.Frag) (C : Addr) : Sp := fun vs H Q _ => ∃ (a dx pd pb : Addr) (b : Int) (ns : List Int) (ks : List (Addr × List Int)), vs = [.ref a, .int b, .ref pd, .ref pb] ∧ H a = some (.ins C dx []) ∧ isBase b = true ∧
  SeqAt' H pd (ns.map V.int) ∧ ns.length ≤ 60 ∧ ns.all dig = true ∧ (∀ k : List Int, k.Nodup → (∀ j, j ∈ k ↔ j ∈ ns) → 1 ≤ k.length ∧ k.length ≤ 6) ∧
  H pb = some (.lst (ks.map fun p => V.ref p.1)) ∧ ks.length < 64 ∧ (∀ p ∈ ks, ∃ x y, p.2 = [x, y] ∧ H p.1 = some (.tup [.int x, .int y]) ∧ x ∈ ns ∧ y ∈ ns) ∧
  ∀ (ds : List Int) (L : List (Addr × List Int)) (t r : Addr) (H' : Hp), ds.Pairwise (· < ·) → (∀ k, k ∈ ds ↔ k ∈ ns) → (∀ p ∈ L, p ∈ ks) → (∀ p ∈ ks, p.2 ∈ L.map (·.2)) → (L.map (·.2)).Nodup → L.Pairwise (fun q r => SrtO.lexB (duo r.2) (duo q.2) = false) →
    But a H H' → H' a = some (.ins C dx [("_base", .int b), ("_digits", .ref t), ("_bars", .ref r)]) → H' t = some (.tup (ds.map V.int)) → H' r = some (.tup (L.map fun q => V.ref q.1)) → Q .non H'
theorem scNew : FnScope ["self", "base", "digits", "bars"] ["self", "base", "digits", "bars"] (defScope sInit) := ⟨rfl, rfl, rfl, by decide +kernel, rfl, by decide +kernel, by decide +kernel⟩
theorem ok_new {f fB fD fP fI C CI : Addr} {fd fdB fdD fdP fdI : FuncData} (F : Fun K "__init__" "Scheme.__init__" sInit f fd) (c : Cls K C) (n1 : NoAttr K C "_base") (n2 : NoAttr K C "_digits") (n3 : NoAttr K C "_bars")
    (GB : FnOk P w K mg base CX0 3 fB fdB ["value"] spIsBase) (gB : mg "is_base" = some (.ref fB)) (kB : PySem.W.keepIn K (.ref fB) = true) (bB : Binds K fdB ["value"] [])
    (GD : FnOk P w K mg base (L2.CX P w) 6 fD fdD ["digits"] spDiffDig) (gD : mg "_different_digits" = some (.ref fD)) (kD : PySem.W.keepIn K (.ref fD) = true) (bD : Binds K fdD ["digits"] [])
    (GP : FnOk P w K mg base (L2.CX P w) 6 fP fdP ["digits", "bars"] (spDiffPair K)) (gP : mg "_different_pairs" = some (.ref fP)) (kP : PySem.W.keepIn K (.ref fP) = true) (bP : Binds K fdP ["digits", "bars"] [])
    (GI : FnOk P w K mg base CX0 3 fI fdI ["self", "value"] (spInit K "value" CI)) (T : ErrC K mg "InvalidBase" "value" CI fI) (bI : Binds K fdI ["self", "value"] []) :
    FnOk P w K mg base (L2.CX P w) 7 f fd ["self", "base", "digits", "bars"] (spNew K C) := by
  refine F.okX scNew (fun vs H Q E h => ?_) (fun cdv A outer s H vs Q E hr h => ?_)
  · obtain ⟨a, dx, pd, pb, b, ns, ks, rfl, _⟩ := h
    rfl
  · obtain ⟨a, dx, pd, pb, b, ns, ks, rfl, ha, hb, hpd, ln, hdg, h6, hpb, few, hk, q⟩ := h
    have hr2 : Room 3 _ := hr.mono (by decide)
    have hr3 : Room 4 _ := hr.mono (by decide)
    apply Exists.intro
    apply And.intro
    · apply pss_cons
      · exact ps_if (pt_not (pt_val (pe_call GB hr2 (by rfl) gB kB bB .nil pass0 (pa_cons (pv 1) pa_nil))))
          (pss_one (ps_raise rfl (takes_of rfl rfl rfl rfl) (pmk_oex T.ox T.iC T.tI GI hr3 bI .nil pass0 (by rfl) T.g (pa_cons (pv 1) pa_nil)))) pss_nil
      apply pss_cons
      · exact ps_fld (pv 0) (pv 1) rfl
      apply pss_cons
      · exact ps_fld (pv 0) (pe_call GD hr (by rfl) gD kD bD .nil passNo (pa_cons (pv 2) pa_nil)) rfl
      apply pss_one
      · exact ps_fld (pv 0) (pe_call GP hr (by rfl) gP kP bP .nil passNo (pa_cons (pe_fld (pv 0) rfl) (pa_cons (pv 3) pa_nil))) rfl
    have npd : pd ≠ a := fun z => by
      rw [z] at hpd
      rcases hpd with e | e <;> (rw [ha] at e; cases e)
    have npb : pb ≠ a := fun z => by
      rw [z, ha] at hpb
      cases hpb
    refine ⟨.int b, rfl, .int b, rfl, .inl ⟨b, rfl, ?_⟩⟩
    rw [hb]
    refine ⟨true, rfl, iteF ?_⟩
    refine ⟨.int b, rfl, .ref a, rfl, a, C, dx, [], rfl, ha, c, n1, (by show 0 < 1000; decide), ?_⟩
    have hpd1 : SeqAt' (upd H a (.ins C dx [("_base", .int b)])) pd (ns.map V.int) := hpd.elim (fun e => .inl (by rw [upd_ne npd]; exact e)) fun e => .inr (by rw [upd_ne npd]; exact e)
    refine ⟨.ref pd, rfl, pd, ns, rfl, hpd1, ln, hdg, h6, fun ds t H2 asc mds s2 ht et => ?_⟩
    have ea2 : H2 a = some (.ins C dx [("_base", .int b)]) := s2 _ _ upd_same
    have nt : t ≠ a := fun z => by
      rw [z, ea2] at et
      cases et
    refine ⟨.ref a, rfl, a, C, dx, _, rfl, ea2, c, n2, (by show 1 < 1000; decide), ?_⟩
    have b2 : But a H (upd H2 a (.ins C dx (putF "_digits" (.ref t) [("_base", .int b)]))) := (But.at_.trans ((But.of_same s2).trans But.at_))
    refine ⟨.ref a, rfl, a, C, dx, _, .ref t, rfl, upd_same, c, n2, (by rw [lookup_putF, if_pos rfl]), .ref pb, rfl, t, pb, ds, ks, rfl, SqT.of (by rw [upd_ne nt]; exact et), b2 _ _ npb hpb, few, fun p hp => ?_, fun L r H4 sub all nd pw s4 er => ?_⟩
    · obtain ⟨x, y, e, ep, hx, hy⟩ := hk p hp
      have np : p.1 ≠ a := fun z => by
        rw [z, ha] at ep
        cases ep
      exact ⟨x, y, e, b2 _ _ np ep, ⟨List.all_eq_true.mp hdg x hx, (mds x).mpr hx⟩, ⟨List.all_eq_true.mp hdg y hy, (mds y).mpr hy⟩⟩
    · have ea4 := s4 _ _ (upd_same (H := H2) (a := a) (o := .ins C dx (putF "_digits" (.ref t) [("_base", .int b)])))
      have nr : r ≠ a := fun z => by
        rw [z, ea4] at er
        cases er
      have et4 : H4 t = some (.tup (ds.map V.int)) := s4 _ _ (by rw [upd_ne nt]; exact et)
      refine ⟨.ref a, rfl, a, C, dx, _, rfl, ea4, c, n3, (by show 2 < 1000; decide), ?_⟩
      exact q ds L t r _ asc mds sub all nd pw (b2.trans ((But.of_same s4).trans But.at_)) upd_same (by rw [upd_ne nt]; exact et4) (by rw [upd_ne nr]; exact er)
/-! ### a scheme that stands in the heap -/
def pd2 (p : Int × Int) : PyData := .tuple [.int p.1, .int p.2]
structure SchemeAt (C : Addr) (H : Hp) (a t r : Addr) (b : Int) (ds : List Int) (ks : List (Addr × (Int × Int))) : Prop where
  ins : ∃ dx, H a = some (.ins C dx [("_base", .int b), ("_digits", .ref t), ("_bars", .ref r)])
  dig : H t = some (.tup (ds.map V.int))
  bar : H r = some (.tup (ks.map fun p => V.ref p.1))
  prs : ∀ p ∈ ks, H p.1 = some (.tup [.int p.2.1, .int p.2.2])
theorem SchemeAt.same {C : Addr} {H H' : Hp} {a t r : Addr} {b : Int} {ds : List Int} {ks : List (Addr × (Int × Int))} (h : SchemeAt C H a t r b ds ks) (s : Same H H') : SchemeAt C H' a t r b ds ks := by
  obtain ⟨⟨dx, h1⟩, h2, h3, h4⟩ := h
  exact ⟨⟨dx, s _ _ h1⟩, s _ _ h2, s _ _ h3, fun p hp => s _ _ (h4 p hp)⟩
theorem bars_dp {K : PySem.W.Frag} {H : Hp} : ∀ ks : List (Addr × (Int × Int)), (∀ p ∈ ks, H p.1 = some (.tup [.int p.2.1, .int p.2.2])) → DpAll K H (ks.map fun p => V.ref p.1) (ks.map fun p => pd2 p.2)
  | [], _ => .nil
  | p :: ks, h => .cons (.tup (SqT.of (h p List.mem_cons_self)) (.cons (.int _) (.cons (.int _) .nil))) (bars_dp ks fun q hq => h q (List.mem_cons_of_mem _ hq))
theorem bars_can : ∀ ks : List (Addr × (Int × Int)), PyData.canLayAll0 (ks.map fun p => pd2 p.2) = true ∧ PyData.depthAll (ks.map fun p => pd2 p.2) ≤ 1
  | [] => ⟨by simp only [List.map_nil, PyData.canLayAll0], by simp only [List.map_nil, PyData.depthAll]; omega⟩
  | p :: ks => by
    obtain ⟨h1, h2⟩ := bars_can ks
    refine ⟨?_, ?_⟩
    · rw [List.map_cons, PyData.canLayAll0, h1]
      simp only [pd2, PyData.canLay0, PyData.canLayAll0, Bool.and_true]
    · rw [List.map_cons, PyData.depthAll]
      simp only [pd2, PyData.depth, PyData.depthAll] at h2 ⊢
      omega
theorem bars_shaped (ks : List (Addr × (Int × Int))) : SeqAt.shaped (.tuple (ks.map fun p => pd2 p.2)) = true := by
  obtain ⟨h1, h2⟩ := bars_can ks
  refine shaped_of ?_ ?_
  · simp only [PyData.canLay0, h1]
  · simp only [PyData.depth]
    omega
theorem pd2_shaped (p : Int × Int) : SeqAt.shaped (pd2 p) = true := by
  refine shaped_of ?_ ?_
  · simp only [pd2, PyData.canLay0, PyData.canLayAll0, Bool.and_true]
  · simp only [pd2, PyData.depth, PyData.depthAll]
    omega
/-- whether a pair stands among the bars -/
def hasBar (ks : List (Addr × (Int × Int))) (n m : Int) : Bool := (ks.map fun p => pd2 p.2).any fun z => PyData.eqv z (pd2 (n, m))
def isOne (ds : List Int) (n : Int) : Bool := dig n && decide (n ∈ ds)
theorem lk_digits {b : Int} {t r : Addr} : ([("_base", V.int b), ("_digits", .ref t), ("_bars", .ref r)] : List (Str × V)).lookup ("_digits" : Str) = some (.ref t) := by
  rw [lookup_put, if_neg (by decide), lookup_put, if_pos rfl]
theorem lk_bars {b : Int} {t r : Addr} : ([("_base", V.int b), ("_digits", .ref t), ("_bars", .ref r)] : List (Str × V)).lookup ("_bars" : Str) = some (.ref r) := by
  rw [lookup_put, if_neg (by decide), lookup_put, if_neg (by decide), lookup_put, if_pos rfl]
/-- allows -/
def spAllows (C : Addr) : Sp := fun vs H Q _ => ∃ (a t r : Addr) (b : Int) (ds : List Int) (ks : List (Addr × (Int × Int))) (x y : V), vs = [.ref a, x, y] ∧ SchemeAt C H a t r b ds ks ∧
  ((Odd H x ∧ ∀ H', Same H H' → Q (.bl false) H') ∨ ∃ n : Int, x = .int n ∧
    ((y = .non ∧ ∀ H', Same H H' → Q (.bl (isOne ds n)) H') ∨ (∃ m : Int, y = .int m ∧ ∀ H', Same H H' → Q (.bl (isOne ds n && (isOne ds m && !hasBar ks n m))) H') ∨ (Odd H y ∧ y ≠ .non ∧ ∀ H', Same H H' → Q (.bl false) H')))
theorem scAl : FnScope ["self", "left", "right"] ["self", "left", "right"] (defScope sAllows) := ⟨rfl, rfl, rfl, by decide +kernel, rfl, by decide +kernel, by decide +kernel⟩
theorem ok_allows {f fO C : Addr} {fd fdO : FuncData} (F : Fun K "allows" "Scheme.allows" sAllows f fd) (c : Cls K C) (n2 : NoAttr K C "_digits") (n3 : NoAttr K C "_bars")
    (GO : FnOk P w K mg base CX0 4 fO fdO ["digits", "value"] (spOneOf K)) (gO : mg "_is_one_of" = some (.ref fO)) (kO : PySem.W.keepIn K (.ref fO) = true) (bO : Binds K fdO ["digits", "value"] []) : FnOk P w K mg base CX0 5 f fd ["self", "left", "right"] (spAllows C) := by
  refine F.ok scAl (fun vs H Q E h => ?_) (fun cdv A outer s H vs Q E hr h => ?_)
  · obtain ⟨a, t, r, b, ds, ks, x, y, rfl, _⟩ := h
    rfl
  · obtain ⟨a, t, r, b, ds, ks, x, y, rfl, ⟨⟨dx, ha⟩, ht, hrr, hks⟩, h⟩ := h
    have hu : A.units + 3 + 65 < cLine := by
      have := hr.un
      have e : (A.deeper (envOfC "Scheme.allows" (defScope sAllows) s.heap.objs.size f cdv)).units = A.units + 3 := rfl
      omega
    apply Exists.intro
    apply And.intro
    · apply pss_cons
      · exact ps_if (pt_not (pt_val (pe_call GO hr (by rfl) gO kO bO .nil pass0 (pa_cons (pe_fld (pv 0) rfl) (pa_cons (pv 1) pa_nil))))) (pss_one (ps_ret pe_bl)) pss_nil
      apply pss_cons
      · exact ps_if (pt_cmpR op_isN (pv 2) pe_non (nomark _)) (pss_one (ps_ret pe_bl)) pss_nil
      apply pss_one
      · exact ps_ret (pe_and (pe_call GO hr (by rfl) gO kO bO .nil pass0 (pa_cons (pe_fld (pv 0) rfl) (pa_cons (pv 2) pa_nil))) (pe_one (pe_cmpR (op_notInT hu) (pe_tup (pa_cons (pv 1) (pa_cons (pv 2) pa_nil))) (pe_fld (pv 0) rfl) rfl)))
    rcases h with ⟨o, q⟩ | ⟨n, rfl, h⟩
    · refine ⟨.ref a, rfl, a, C, dx, _, .ref t, rfl, ha, c, n2, lk_digits, x, rfl, t, ds, x, rfl, SqT.of ht, .inr ⟨o, false, rfl, iteT ?_⟩⟩
      exact q H (Same.refl H)
    · refine ⟨.ref a, rfl, a, C, dx, _, .ref t, rfl, ha, c, n2, lk_digits, .int n, rfl, t, ds, .int n, rfl, SqT.of ht, .inl ⟨n, rfl, _, rfl, ?_⟩⟩
      cases hb : (dig n && decide (n ∈ ds)) with
      | false =>
        refine iteT ?_
        have e1 : isOne ds n = false := hb
        rcases h with ⟨_, q⟩ | ⟨m, _, q⟩ | ⟨_, _, q⟩
        · have z := q H (Same.refl H)
          rw [e1] at z
          exact z
        · have z := q H (Same.refl H)
          rw [e1] at z
          exact z
        · exact q H (Same.refl H)
      | true =>
        refine iteF ?_
        have e1 : isOne ds n = true := hb
        rcases h with ⟨rfl, q⟩ | ⟨m, rfl, q⟩ | ⟨o, ny, q⟩
        · have z := q H (Same.refl H)
          rw [e1] at z
          exact ⟨.non, rfl, rfl, _, rfl, iteTB (decide_eq_true rfl) z⟩
        · refine ⟨.int m, rfl, rfl, _, rfl, iteFB (decide_eq_false (fun z => nomatch z)) ?_⟩
          refine ⟨.ref a, rfl, a, C, dx, _, .ref t, rfl, ha, c, n2, lk_digits, .int m, rfl, t, ds, .int m, rfl, SqT.of ht, .inl ⟨m, rfl, _, rfl, ?_⟩⟩
          cases hm : (dig m && decide (m ∈ ds)) with
          | false =>
            refine iteF ?_
            have e2 : isOne ds m = false := hm
            have z := q H (Same.refl H)
            rw [e1, e2] at z
            exact z
          | true =>
            refine iteT ?_
            have e2 : isOne ds m = true := hm
            refine ⟨.int n, rfl, .int m, rfl, (by show 2 ≤ sizeLine; decide), fun T hT => ?_⟩
            have s1 := same_new (o := .tup [.int n, .int m]) hT
            have z := q _ s1
            rw [e1, e2] at z
            refine ⟨.ref a, rfl, a, C, dx, _, .ref r, rfl, s1 _ _ ha, c, n3, lk_bars, pd2 (n, m), (ks.map fun (p : Addr × (Int × Int)) => pd2 p.2), .tup (SqT.of upd_same) (.cons (.int n) (.cons (.int m) .nil)), .tup (SqT.of (s1 _ _ hrr)) (bars_dp ks fun p hp => s1 _ _ (hks p hp)), pd2_shaped _, bars_shaped ks, (by rw [Bool.true_and, Bool.true_and] at z; exact z)⟩
        · refine ⟨y, rfl, rfl, _, rfl, iteFB (decide_eq_false ny) ?_⟩
          exact ⟨.ref a, rfl, a, C, dx, _, .ref t, rfl, ha, c, n2, lk_digits, y, rfl, t, ds, y, rfl, SqT.of ht, .inr ⟨o, _, rfl, iteF (q H (Same.refl H))⟩⟩
end
end K07
/-! o.m(k = v, ..) by names alone; o.m(e) within a try, m may raise. -/
namespace OF
open PySem PySem.Spec PyProof.Rows L2
section
variable {X : Cx} {CX : CXT} {k n : Nat} {f C : Addr} {fd : FuncData} {ps ks : List Str} {sp : Sp} {E : XK} {m : Str} {p apos pos : Pos} {o e : Expr} {es : List Expr} {kws : List Keyword} {ta : TE} {t tk : TA} {g : List Value → List Value → List Value} {gV : List V → List V → List V}
def tMethN (C : Addr) (m : Str) (j : Nat) (sp : Sp) (gV : List V → List V → List V) (E : XK) (ta : TE) (tk : TA) : TE := fun σ H Q => ta σ H fun x H1 => ∃ a dx fs, x = .ref a ∧ H1 a = some (.ins C dx fs) ∧ fs.lookup m = none ∧
  tk σ H1 fun zs H2 => zs.length = j ∧ sp (gV [x] zs) H2 Q E
theorem pe_methN0 {pl : Sem Bool} (he : PE X o ta) (c : Cls X.K C) (hm : Meth X.K C m f) (F : FnOk X.prog X.w X.K X.mg X.base CX k f fd ps sp) (hr : Room k X.A) (hb : KBn X.K fd ps 1 ks g gV) (hx : Passes CX X E) (hkw : PK X kws tk)
    (hall : (backToKw pos (keywordEach kws X.env)).all (·.1.isSome) = true := by rfl) (hks : (backToKw pos (keywordEach kws X.env)).filterMap (·.1) = ks := by rfl)
    (hpl : ((backTo pos (starEach [] X.env)).any (·.1) || (backToKw pos (keywordEach kws X.env)).any (·.1.isNone)) = false := by rfl)
    (ht : eval (.Call (.Attribute o m apos) [] kws pos) X.env = (do
      let ov ← eval o X.env
      standAt apos.atName
      let (f, first) ← holding [ov] (getMethod ov m pl)
      callWith pos f first (backTo pos (starEach [] X.env)) (backToKw pos (keywordEach kws X.env))) := by rfl) :
    PE X (.Call (.Attribute o m apos) [] kws pos) (tMethN C m ks.length sp gV E ta tk) := by
  refine ⟨fun pins s σ H Q I h => ?_⟩
  refine PySem.W.methodCall_KW (pl := pl) (thn (he.run pins s σ H _ I h) fun u s1 ⟨x, H1, I1, rx, a, dx, fs, ex, ea, l, q⟩ => ?_) ht
  subst ex
  obtain rfl : u = Value.ref a := rx
  refine getmeth_ok I1 ea c hm l ?_
  refine PySem.W.callWith_KW0 (first := [.ref a]) (h₀ := X.base) I.ok.mod.kin hm.kp hall (thn (hkw.run pos pins s1 σ H1 _ I1 q) fun ws s2 ⟨zs, H2, I2, rz, l2, q2⟩ => ⟨I2.kIn, ?_⟩) hpl
  rw [hks]
  exact run_fnN (us := [.ref a]) (vs := [.ref a]) F hr hb hx I2 (.cons rfl .nil) rz rfl l2 q2
def tMethS (C : Addr) (m : Str) (sp : Sp) (E : L2.St → XK) (ta : TE) (t : TA) : TE := fun σ H Q => ta σ H fun x H1 => ∃ a dx fs, x = .ref a ∧ H1 a = some (.ins C dx fs) ∧ fs.lookup m = none ∧
  t σ H1 fun vs H2 => sp (x :: vs) H2 Q (E σ)
theorem pe_methSX {pl : Sem Bool} {E : L2.St → XK} (he : PE X o ta) (c : Cls X.K C) (hm : Meth X.K C m f) (F : FnOk X.prog X.w X.K X.mg X.base CX k f fd ps sp) (hr : Room k X.A) (hb : Binds X.K fd ps []) (hx : ∀ σ, PassesAt CX X σ (E σ)) (ha : PA X (e :: es) t)
    (hst : starEach (e :: es) X.env = (false, eval e X.env) :: starEach es X.env := by rfl) (hpl : (backTo pos (starEach es X.env)).any (·.1) = false := by rfl)
    (ht : eval (.Call (.Attribute o m apos) (e :: es) [] pos) X.env = (do
      let ov ← eval o X.env
      standAt apos.atName
      let (f, first) ← holding [ov] (getMethod ov m pl)
      callWith pos f first (backTo pos (starEach (e :: es) X.env)) (backToKw pos (keywordEach [] X.env))) := by rfl) :
    PE X (.Call (.Attribute o m apos) (e :: es) [] pos) (tMethS C m sp E ta t) := by
  refine ⟨fun pins s σ H Q I h => ?_⟩
  refine PySem.W.methodCall_KW (pl := pl) (thn (he.run pins s σ H _ I h) fun u s1 ⟨x, H1, I1, rx, a, dx, fs, ex, ea, l, q⟩ => ?_) ht
  subst ex
  obtain rfl : u = Value.ref a := rx
  refine getmeth_ok I1 ea c hm l ?_
  refine PySem.W.callWith_K (first := [.ref a]) (h₀ := X.base) I.ok.mod.kin hm.kp (thn (ha.run pos pins s1 σ H1 _ I1 q) fun us s2 ⟨vs, H2, I2, r, q2⟩ => ⟨I2.kIn, ?_⟩) hst hpl
  exact run_fnS (us := .ref a :: us) (vs := .ref a :: vs) F hr hb (hx σ) I2 (.cons rfl r) q2
end
end OF
namespace K07
open PySem PySem.Spec PyProof.Rows L2 OF
abbrev sHas : Stmt := inClass (topS 27) 7
abbrev sValueOf : Stmt := inClass (topS 27) 10
abbrev sEq : Stmt := inClass (topS 27) 4
section
variable {P : Program} {w : World} {K : PySem.W.Frag} {mg : Str → Option Value} {base : Heap}

/-! ### row in scheme -/
/-- what allows says of two values -/
def jdg (ds : List Int) (ks : List (Addr × (Int × Int))) : V → V → Bool
  | .int n, .non => isOne ds n
  | .int n, .int m => isOne ds n && (isOne ds m && !hasBar ks n m)
  | _, _ => false
def rowB (ds : List Int) (ks : List (Addr × (Int × Int))) (xs : List V) : Bool := (xs.zip (xs.tail ++ [V.non])).all fun p => jdg ds ks p.1 p.2
/-- an item that may be asked of -/
def ItemOk (H : Hp) (x : V) : Prop := (∃ n : Int, x = .int n) ∨ Odd H x
theorem ItemOk.same {H H' : Hp} {x : V} (h : ItemOk H x) (s : Same H H') : ItemOk H' x := h.imp id fun o => o.same s
theorem allows_of {C : Addr} {H : Hp} {a t r : Addr} {b : Int} {ds : List Int} {ks : List (Addr × (Int × Int))} {x y : V} {Q : VK} {E : XK} (S : SchemeAt C H a t r b ds ks) (hx : ItemOk H x) (hy : ItemOk H y ∨ y = .non) (q : ∀ H', Same H H' → Q (.bl (jdg ds ks x y)) H') :
    spAllows C [.ref a, x, y] H Q E := by
  refine ⟨a, t, r, b, ds, ks, x, y, rfl, S, ?_⟩
  rcases hx with ⟨n, rfl⟩ | o
  · refine .inr ⟨n, rfl, ?_⟩
    rcases hy with (⟨m, rfl⟩ | o) | rfl
    · exact .inr (.inl ⟨m, rfl, q⟩)
    · by_cases e : y = .non
      · subst e
        exact .inl ⟨rfl, q⟩
      · refine .inr (.inr ⟨o, e, fun H' s => ?_⟩)
        have z := q H' s
        have e2 : jdg ds ks (.int n) y = false := by
          cases o with
          | non => exact absurd rfl e
          | bl b => rfl
          | str z => rfl
          | lst e => rfl
          | tup e => rfl
          | dK e => rfl
        rw [e2] at z
        exact z
    · exact .inl ⟨rfl, q⟩
  · refine .inl ⟨o, fun H' s => ?_⟩
    have z := q H' s
    have e2 : jdg ds ks x y = false := by
      cases o with
      | non => rfl
      | bl b => rfl
      | str z => rfl
      | lst e => rfl
      | tup e => rfl
      | dK e => rfl
    rw [e2] at z
    exact z
/-- a value that is no tuple -/
inductive NoTup (H : Hp) : V → Prop
  | non : NoTup H .non
  | bl (b : Bool) : NoTup H (.bl b)
  | int (i : Int) : NoTup H (.int i)
  | str (z : Str) : NoTup H (.str z)
  | lst {a : Addr} {xs : List V} (e : H a = some (.lst xs)) : NoTup H (.ref a)
  | dK {a : Addr} {kvs : List (Key × V)} (e : H a = some (.dK kvs)) : NoTup H (.ref a)
theorem NoTup.kit {K : PySem.W.Frag} {H : Hp} {x : V} (h : NoTup H x) : ∃ t : Value, TyX K H x t ∧ PySem.W.kitOne K t (.type "tuple") = some false := by
  cases h with
  | non => exact ⟨_, .base .non, kit_ty (by decide +kernel)⟩
  | bl b => exact ⟨_, .base (.bl b), kit_ty (by decide +kernel)⟩
  | int z => exact ⟨_, .base (.int z), kit_ty (by decide +kernel)⟩
  | str z => exact ⟨_, .base (.str z), kit_ty (by decide +kernel)⟩
  | lst e => exact ⟨_, .base (.lst e), kit_ty (by decide +kernel)⟩
  | dK e => exact ⟨_, .base (.dK e), kit_ty (by decide +kernel)⟩
theorem NoTup.same {H H' : Hp} {x : V} (h : NoTup H x) (s : Same H H') : NoTup H' x := by
  cases h with
  | non => exact .non
  | bl b => exact .bl b
  | int z => exact .int z
  | str z => exact .str z
  | lst e => exact .lst (s _ _ e)
  | dK e => exact .dK (s _ _ e)
def spHas (C : Addr) : Sp := fun vs H Q _ => ∃ (a t r : Addr) (b : Int) (ds : List Int) (ks : List (Addr × (Int × Int))) (x : V), vs = [.ref a, x] ∧ SchemeAt C H a t r b ds ks ∧
  ((NoTup H x ∧ ∀ H', Same H H' → Q (.bl false) H') ∨ ∃ (p : Addr) (xs : List V), x = .ref p ∧ H p = some (.tup xs) ∧ xs.length ≤ 1000 ∧ (∀ y ∈ xs, ItemOk H y) ∧ ∀ H', Same H H' → Q (.bl (rowB ds ks xs)) H')
abbrev nHa : List Str := ["self", "row", "left", "right"]
theorem scHa : FnScope nHa ["self", "row"] (defScope sHas) := ⟨rfl, rfl, rfl, by decide +kernel, rfl, by decide +kernel, by decide +kernel⟩
theorem cutV_tail (xs : List V) : cutV xs (some 1) none = xs.tail := by
  unfold cutV
  cases xs with
  | nil => rfl
  | cons x l =>
    show ((x :: l).drop (HT.sIx (l.length + 1) 0 (some 1))).take (HT.sIx (l.length + 1) (l.length + 1) none - HT.sIx (l.length + 1) 0 (some 1)) = l
    have e1 : HT.sIx (l.length + 1) 0 (some 1) = 1 := by
      unfold HT.sIx
      simp <;> omega
    have e2 : HT.sIx (l.length + 1) (l.length + 1) none = l.length + 1 := rfl
    rw [e1, e2]
    show l.take (l.length + 1 - 1) = l
    rw [Nat.add_sub_cancel, List.take_length]
set_option maxHeartbeats 2000000 in
theorem ok_has {f fA C : Addr} {fd fdA : FuncData} (F : Fun K "__contains__" "Scheme.__contains__" sHas f fd) (c : Cls K C) (mA : Meth K C "allows" fA)
    (GA : FnOk P w K mg base CX0 5 fA fdA ["self", "left", "right"] (spAllows C)) (bA : Binds K fdA ["self", "left", "right"] [])
    (mis : mg "isinstance" = none) (mt : mg "tuple" = none) (mall : mg "all" = none) (mz : mg "zip" = none) : FnOk P w K mg base CX0 6 f fd ["self", "row"] (spHas C) := by
  refine F.ok scHa (fun vs H Q E h => ?_) (fun cdv A outer s H vs Q E hr h => ?_)
  · obtain ⟨a, t, r, b, ds, ks, x, rfl, _⟩ := h
    rfl
  · obtain ⟨a, t, r, b, ds, ks, x, rfl, S, h⟩ := h
    apply Exists.intro
    apply And.intro
    · apply pss_cons
      · exact ps_if (pt_not (pt_val (pe_callB call_isi (by rfl) mis PyProof.Rows.boot_isinstance (pa_cons (pv 1) (pa_cons (pe_bltn (v := .ty "tuple") (by rfl) mt (by decide +kernel) rfl) pa_nil))))) (pss_one (ps_ret pe_bl)) pss_nil
      apply pss_one
      · exact ps_ret (pe_callB (cr_all rfl) (by rfl) mall (by decide +kernel) (pa_cons (pe_lc (own := [("left", 2), ("right", 3)]) (g := gTup K 2 (gCons (gName 2) (gCons (gName 3) gNil))) (tt := tYes) (te := tMeth C "allows" (spAllows C) [] E0 (tVar 0) (tCons (tVar 2) (tCons (tVar 3) tNil))) rfl scHa.nd
          (RZ.pi_zipA (by rfl) mz (pa_cons (pv 1) (pa_cons (pe_op op_cat2 (pe_slice sl_tup2 (pv 1) (po_some pe_int) po_none) (pe_tup (pa_cons pe_non pa_nil))) pa_nil)))
          (blkOk_by (own := [("left", 2), ("right", 3)]) (N := nHa) (sc := defScope sHas) (by decide +kernel)) (fun _ _ _ _ _ => by exact (pg_tup rfl (pgs_cons (pg_name (i := 2) scHa.nd rfl (Or.inl rfl)) (pgs_cons (pg_name (i := 3) scHa.nd rfl (Or.inl rfl)) pgs_nil))))
          (fun _ _ _ _ _ => pts_nil) (fun _ _ _ _ _ => by exact (pe_meth (pv 0) c mA GA hr bA .nil pass0 (pa_cons (pv 2) (pa_cons (pv 3) pa_nil))))) pa_nil))
    rcases h with ⟨no, q⟩ | ⟨p, xs, rfl, hp, hlen, hit, q⟩
    · obtain ⟨ty, h1, h2⟩ := no.kit (K := K)
      exact ⟨x, rfl, x, .ty "tuple", ty, .type "tuple", false, rfl, .ty _, h1, h2, false, rfl, iteT (q H (Same.refl H))⟩
    · refine ⟨.ref p, rfl, .ref p, .ty "tuple", .type "tuple", .type "tuple", true, rfl, .ty _, .base (.tup hp), kit_ty (by decide +kernel), true, rfl, iteF ?_⟩
      refine ⟨.ref p, rfl, .ref p, rfl, 1, rfl, p, xs, rfl, hp, fun p1 H1 s1 e1 => ?_⟩
      rw [cutV_tail] at e1
      have lt : xs.tail.length ≤ 1000 := by
        rw [List.length_tail]
        omega
      refine ⟨(by show 1 ≤ sizeLine; decide), fun p2 hp2 => ?_⟩
      have s2 := same_new (o := .tup [.non]) hp2
      refine ⟨p1, p2, xs.tail, [.non], rfl, rfl, s2 _ _ e1, upd_same, (by rw [sizeLine_eq]; show xs.tail.length + 1 ≤ _; omega), fun p3 H3 s3 e3 => ?_⟩
      have sA : Same H H3 := s1.trans (s2.trans s3)
      refine ⟨p, p3, xs, xs.tail ++ [.non], rfl, .inr ⟨SqT.of (sA _ _ hp), SqT.of e3, fun D hD => ?_⟩⟩
      have lz : xs.length ≤ (xs.tail ++ [V.non]).length := by
        rw [List.length_append, List.length_tail]
        show xs.length ≤ xs.length - 1 + 1
        omega
      refine lc_it (walk_zipT (K := K) (a := p) (b := p3) (xs := xs) (ys := xs.tail ++ [.non]) (n := xs.length) rfl lz) (fun i H' => Same H3 H' ∧ H' D = some (.lst (((xs.zip (xs.tail ++ [V.non])).take i).map fun z => V.bl (jdg ds ks z.1 z.2)))) ⟨same_new hD, upd_same⟩ (fun i H' _ h => ⟨SqT.of (h.1 _ _ (sA _ _ hp)), SqT.of (h.1 _ _ e3)⟩) ?_ ?_
      · rintro i v H4 H5 hi ⟨s4, e4⟩ ⟨T, x, y, rfl, hT, rfl, hx, hy⟩
        have hz : (xs.zip (xs.tail ++ [V.non]))[i]? = some (x, y) := by
          rw [List.getElem?_zip_eq_some]
          exact ⟨hx, hy⟩
        have s5 := same_new (o := .tup [x, y]) hT
        have sB : Same H (upd H4 T (.tup [x, y])) := sA.trans (s4.trans s5)
        refine ⟨T, [x, y], rfl, SqT.of upd_same, rfl, x, [y], rfl, y, [], rfl, rfl, rfl, tYes_if ?_⟩
        obtain ⟨⟨dx, hins⟩, _⟩ := S.same sB
        refine ⟨.ref a, rfl, a, dx, _, rfl, hins, rfl, x, rfl, y, rfl, ?_⟩
        dsimp only [tNil]
        refine allows_of (S.same sB) ((hit x (List.mem_of_getElem? hx)).same sB) ?_ fun H6 s6 => ?_
        · have my := List.mem_of_getElem? hy
          rcases List.mem_append.mp my with h | h
          · exact .inl ((hit y (List.mem_of_mem_tail h)).same sB)
          · exact .inr (List.mem_singleton.mp h)
        · have eD := s6 _ _ (s5 _ _ e4)
          refine ⟨_, eD, ?_, ?_, ?_⟩
          · rw [List.length_map]
            refine Nat.lt_of_le_of_lt (List.length_take_le' _ _) ?_
            rw [List.length_zip]
            exact small1000 (by omega)
          · exact Same.store (s4.trans (s5.trans s6)) hD
          · rw [upd_same, take_more hz, List.map_append]
            rfl
      · rintro H4 ⟨s4, e4⟩
        have el : (xs.zip (xs.tail ++ [V.non])).take xs.length = xs.zip (xs.tail ++ [V.non]) := List.take_of_length_le (by rw [List.length_zip]; omega)
        rw [el] at e4
        refine ⟨D, (xs.zip (xs.tail ++ [V.non])).map fun z => jdg ds ks z.1 z.2, rfl, SqL.of (by rw [e4, List.map_map]; rfl), ?_⟩
        have z := q H4 (sA.trans s4)
        rw [List.all_map]
        exact z

/-! ### value_of -/
def valI (b : Int) (ns : List Int) : Int := ns.foldl (fun v d => v * b + d) 0
theorem jdg_int {ds : List Int} {ks : List (Addr × (Int × Int))} {x y : V} (h : jdg ds ks x y = true) : ∃ n : Int, x = .int n := by
  cases x with
  | int n => exact ⟨n, rfl⟩
  | _ => cases h
theorem row_ints {ds : List Int} {ks : List (Addr × (Int × Int))} : ∀ {xs : List V}, (∀ (i : Nat) x, xs[i]? = some x → ∃ n : Int, x = .int n) → ∃ ns : List Int, xs = ns.map V.int
  | [], _ => ⟨[], rfl⟩
  | x :: xs, h => by
    obtain ⟨n, e⟩ := h 0 x rfl
    obtain ⟨ns, e2⟩ := row_ints (ds := ds) (ks := ks) (xs := xs) fun i y hy => h (i + 1) y hy
    exact ⟨n :: ns, by rw [e, e2]; rfl⟩
theorem rowB_ints {ds : List Int} {ks : List (Addr × (Int × Int))} {xs : List V} (h : rowB ds ks xs = true) : ∃ ns : List Int, xs = ns.map V.int := by
  refine row_ints (ds := ds) (ks := ks) fun i x hx => ?_
  have hi : i < xs.length := (List.getElem?_eq_some_iff.mp hx).1
  have hl : i < (xs.tail ++ [V.non]).length := by
    rw [List.length_append, List.length_tail]
    show i < xs.length - 1 + 1
    omega
  have hz : (xs.zip (xs.tail ++ [V.non]))[i]? = some (x, (xs.tail ++ [V.non])[i]) := by
    rw [List.getElem?_zip_eq_some]
    exact ⟨hx, List.getElem?_eq_getElem hl⟩
  exact jdg_int (List.all_eq_true.mp h _ (List.mem_of_getElem? hz))
def spValueOf (C CR : Addr) : Sp := fun vs H Q E => ∃ (a t r : Addr) (b : Int) (ds : List Int) (ks : List (Addr × (Int × Int))) (x : V), vs = [.ref a, x] ∧ SchemeAt C H a t r b ds ks ∧ b.natAbs ≤ 6 ∧
  ((NoTup H x ∧ Raised CR "row" x H E) ∨ ∃ (p : Addr) (xs : List V), x = .ref p ∧ H p = some (.tup xs) ∧ xs.length ≤ 1000 ∧ (∀ y ∈ xs, ItemOk H y) ∧ (∀ ns : List Int, xs = ns.map V.int → rowB ds ks xs = true → ∀ H', Same H H' → Q (.int (valI b ns)) H') ∧ (rowB ds ks xs = false → Raised CR "row" x H E))
abbrev nVo : List Str := ["self", "row", "value", "digit"]
theorem scVo : FnScope nVo ["self", "row"] (defScope sValueOf) := ⟨rfl, rfl, rfl, by decide +kernel, rfl, by decide +kernel, by decide +kernel⟩
theorem lk_base {b : Int} {t r : Addr} : ([("_base", V.int b), ("_digits", .ref t), ("_bars", .ref r)] : List (Str × V)).lookup ("_base" : Str) = some (.int b) := by
  rw [lookup_put, if_pos rfl]
theorem ok_valueof {f fH fI C CR : Addr} {fd fdH fdI : FuncData} (F : Fun K "value_of" "Scheme.value_of" sValueOf f fd) (c : Cls K C) (n1 : NoAttr K C "_base") (mH : Meth K C "__contains__" fH)
    (GH : FnOk P w K mg base CX0 6 fH fdH ["self", "row"] (spHas C)) (bH : Binds K fdH ["self", "row"] [])
    (GI : FnOk P w K mg base CX0 3 fI fdI ["self", "row"] (spInit K "row" CR)) (T : ErrC K mg "InvalidRow" "row" CR fI) (bI : Binds K fdI ["self", "row"] []) :
    FnOk P w K mg base (L2.CX P w) 7 f fd ["self", "row"] (spValueOf C CR) := by
  refine F.okX scVo (fun vs H Q E h => ?_) (fun cdv A outer s H vs Q E hr h => ?_)
  · obtain ⟨a, t, r, b, ds, ks, x, rfl, _⟩ := h
    rfl
  · obtain ⟨a, t, r, b, ds, ks, x, rfl, S, hb, h⟩ := h
    have hr3 : Room 3 _ := hr.mono (by decide)
    have hr4 : Room 4 _ := hr.mono (by decide)
    apply Exists.intro
    apply And.intro
    · apply pss_cons
      · exact ps_if (pt_cmpR (op_notInOwn mH.at_ mH.fn GH bH hr pass0) (pv 1) (pv 0) rfl) (pss_one (ps_raise rfl (takes_of rfl rfl rfl rfl) (pmk_oex T.ox T.iC T.tI GI hr4 bI .nil pass0 (by rfl) T.g (pa_cons (pv 1) pa_nil)))) pss_nil
      apply pss_cons
      · exact ps_set (i := 2) scVo.nd rfl (.inl rfl) pe_int
      apply pss_cons
      · exact ps_for (passes_of rfl) rfl (pi_tup (pv 1)) (pg_name (i := 3) scVo.nd rfl (.inl rfl)) (pss_one (ps_set (i := 2) scVo.nd rfl (.inl rfl) (pe_op op_add (pe_op op_mul (pv 2) (pe_fld (pv 0) rfl)) (pv 3))))
      apply pss_one
      · exact ps_ret (pv 2)
    have S0 := S
    obtain ⟨⟨dx, hins⟩, _⟩ := S0
    rcases h with ⟨no, hE⟩ | ⟨p, xs, rfl, hp, hlen, hit, hq, hE⟩
    · refine ⟨x, rfl, .ref a, rfl, a, dx, _, rfl, hins, a, t, r, b, ds, ks, x, rfl, S, .inl ⟨no, fun H' s' => ⟨false, rfl, true, rfl, iteT ?_⟩⟩⟩
      exact ⟨x, rfl, raised_ok (σ := start nVo [.ref a, x]) (D := { nx := fun _ H' => Q .non H', rt := Q }) hE s'⟩
    · refine ⟨.ref p, rfl, .ref a, rfl, a, dx, _, rfl, hins, a, t, r, b, ds, ks, .ref p, rfl, S, .inr ⟨p, xs, rfl, hp, hlen, hit, fun H' s' => ⟨_, rfl, _, rfl, ?_⟩⟩⟩
      cases hrb : rowB ds ks xs with
      | false => exact iteT ⟨.ref p, rfl, raised_ok (σ := start nVo [.ref a, .ref p]) (D := { nx := fun _ H' => Q .non H', rt := Q }) (hE hrb) s'⟩
      | true =>
        refine iteF ?_
        obtain ⟨ns, rfl⟩ := rowB_ints hrb
        have hp' := s' _ _ hp
        refine ⟨.ref p, rfl, p, rfl, ⟨_, SqT.of hp'⟩, for_tup (K := K) (a := p) (xs := ns.map V.int) (fun i σ H2 => (∃ v, σ = [some (.ref a), some (.ref p), some (.int (valI b (ns.take i))), v]) ∧ H2 = H') ⟨⟨none, rfl⟩, rfl⟩ (fun i σ H2 _ h => by rw [h.2]; exact SqT.of hp') ?_ ?_⟩
        · rintro i x σ H2 hx ⟨⟨v, rfl⟩, rfl⟩
          obtain ⟨n, hn, rfl⟩ := get_map hx
          refine ⟨_, rfl, .ref a, rfl, a, C, dx, _, .int b, rfl, s' _ _ hins, c, n1, lk_base, _, _, rfl, rfl, .inr ⟨by omega, by omega⟩, .int n, rfl, _, _, rfl, rfl, ⟨some (.int n), ?_⟩, rfl⟩
          rw [take_more hn]
          unfold valI
          rw [List.foldl_append]
          rfl
        · rintro σ H2 ⟨⟨v, rfl⟩, rfl⟩
          rw [List.length_map, List.take_length]
          exact ⟨_, rfl, hq ns rfl hrb _ s'⟩

/-! ### == -/
def spEqS (C : Addr) : Sp := fun vs H Q _ => ∃ (a t r a2 t2 r2 : Addr) (b b2 : Int) (ds ds2 : List Int) (ks ks2 : List (Addr × (Int × Int))), vs = [.ref a, .ref a2] ∧ SchemeAt C H a t r b ds ks ∧ SchemeAt C H a2 t2 r2 b2 ds2 ks2 ∧ ds.length ≤ 60 ∧ ds2.length ≤ 60 ∧
  Q (.bl (decide (b = b2) && (PyData.eqv (.tuple (ds.map .int)) (.tuple (ds2.map .int)) && PyData.eqv (.tuple (ks.map fun p => pd2 p.2)) (.tuple (ks2.map fun p => pd2 p.2))))) H
/-- what isinstance asks of the class -/
structure IsC (K : PySem.W.Frag) (C : Addr) : Prop where
  cl : Cls K C
  ha : PySem.W.findIn K (.ref C) "__class__" = some (some (.builtin "object.__class__"))
  hn : PySem.W.specialIn K (.builtin "object.__class__") "__get__" = some (some (.builtin "getset_descriptor.__get__"))
  ht : PySem.W.takesIn K (.builtin "object.__class__") = some true
  hm : PySem.W.mroIn K C (.type "object") = some true
  own : PySem.W.kitOne K (.ref C) (.ref C) = some true
theorem scEq : FnScope ["self", "other"] ["self", "other"] (defScope sEq) := ⟨rfl, rfl, rfl, by decide +kernel, rfl, by decide +kernel, by decide +kernel⟩
theorem dp_ints {K : PySem.W.Frag} {H : Hp} : ∀ ds : List Int, DpAll K H (ds.map V.int) (ds.map PyData.int)
  | [] => .nil
  | d :: ds => .cons (.int d) (dp_ints ds)
theorem ints_can : ∀ ds : List Int, PyData.canLayAll0 (ds.map PyData.int) = true ∧ PyData.depthAll (ds.map PyData.int) = 0
  | [] => ⟨by simp only [List.map_nil, PyData.canLayAll0], by simp only [List.map_nil, PyData.depthAll]⟩
  | d :: ds => by
    obtain ⟨h1, h2⟩ := ints_can ds
    refine ⟨?_, ?_⟩
    · rw [List.map_cons, PyData.canLayAll0, h1]
      simp only [PyData.canLay0, Bool.and_true]
    · rw [List.map_cons, PyData.depthAll, h2]
      simp only [PyData.depth, Nat.max_self]
theorem ints_shapedT (ds : List Int) : SeqAt.shaped (.tuple (ds.map .int)) = true := by
  obtain ⟨h1, h2⟩ := ints_can ds
  refine shaped_of ?_ ?_
  · simp only [PyData.canLay0, h1]
  · simp only [PyData.depth, h2]
    omega
theorem ints_shapedL (ds : List Int) : SeqAt.shaped (.list (ds.map .int)) = true := by
  obtain ⟨h1, h2⟩ := ints_can ds
  refine shaped_of ?_ ?_
  · simp only [PyData.canLay0, h1]
  · simp only [PyData.depth, h2]
    omega
theorem ok_eq {f C : Addr} {fd : FuncData} (F : Fun K "__eq__" "Scheme.__eq__" sEq f fd) (I : IsC K C) (n1 : NoAttr K C "_base") (n2 : NoAttr K C "_digits") (n3 : NoAttr K C "_bars") (gC : mg "Scheme" = some (.ref C)) (mis : mg "isinstance" = none) :
    FnOk P w K mg base CX0 1 f fd ["self", "other"] (spEqS C) := by
  refine F.ok scEq (fun vs H Q E h => ?_) (fun cdv A outer s H vs Q E hr h => ?_)
  · obtain ⟨a, t, r, a2, t2, r2, b, b2, ds, ds2, ks, ks2, rfl, _⟩ := h
    rfl
  · obtain ⟨a, t, r, a2, t2, r2, b, b2, ds, ds2, ks, ks2, rfl, ⟨⟨dx, ha⟩, ht, hrr, hks⟩, ⟨⟨dx2, ha2⟩, ht2, hrr2, hks2⟩, l1, l2, q⟩ := h
    apply Exists.intro
    apply And.intro
    · apply pss_one
      · exact ps_ret (pe_and (pe_callB call_isi (by rfl) mis PyProof.Rows.boot_isinstance (pa_cons (pv 1) (pa_cons (pe_glob (v := .ref C) (by rfl) gC rfl) pa_nil)))
          (pe_and (pe_cmpR op_eq (pe_fld (pv 0) rfl) (pe_fld (pv 1) rfl) (nomark _)) (pe_and (pe_cmpR (op_eqD hr.units) (pe_fld (pv 0) rfl) (pe_fld (pv 1) rfl) (nomark _)) (pe_one (pe_cmpR (op_eqD hr.units) (pe_fld (pv 0) rfl) (pe_fld (pv 1) rfl) (nomark _))))))
    refine ⟨.ref a2, rfl, .ref a2, .ref C, .ref C, .ref C, true, rfl, .own C, .base (.ins ha2 I.cl I.ha I.hn I.ht I.hm), I.own, true, rfl, iteT ?_⟩
    refine ⟨.ref a, rfl, a, C, dx, _, .int b, rfl, ha, I.cl, n1, lk_base, .ref a2, rfl, a2, C, dx2, _, .int b2, rfl, ha2, I.cl, n1, lk_base, rfl, ?_⟩
    by_cases hb : b = b2
    · subst hb
      refine ⟨_, rfl, iteTB (decide_eq_true rfl) ?_⟩
      refine ⟨.ref a, rfl, a, C, dx, _, .ref t, rfl, ha, I.cl, n2, lk_digits, .ref a2, rfl, a2, C, dx2, _, .ref t2, rfl, ha2, I.cl, n2, lk_digits, .tuple (ds.map .int), .tuple (ds2.map .int), .tup (SqT.of ht) (dp_ints ds), .tup (SqT.of ht2) (dp_ints ds2), ints_shapedT ds, ints_shapedT ds2, _, rfl, ?_⟩
      rw [decide_eq_true rfl, Bool.true_and] at q
      refine iteAnd (fun z => ?_) q
      exact ⟨.ref a, rfl, a, C, dx, _, .ref r, rfl, ha, I.cl, n3, lk_bars, .ref a2, rfl, a2, C, dx2, _, .ref r2, rfl, ha2, I.cl, n3, lk_bars, .tuple (ks.map fun p => pd2 p.2), .tuple (ks2.map fun p => pd2 p.2), .tup (SqT.of hrr) (bars_dp ks hks), .tup (SqT.of hrr2) (bars_dp ks2 hks2), bars_shaped ks, bars_shaped ks2, z⟩
    · refine ⟨_, rfl, iteFB (decide_eq_false fun z => hb (V.int.inj z)) ?_⟩
      rw [decide_eq_false hb, Bool.false_and] at q
      exact q
end
end K07
namespace K07
open PySem PySem.Spec PyProof.Rows L2 OF
abbrev sCell : Stmt := topS 29
abbrev sBox : Stmt := topS 30
abbrev sTake : Stmt := topS 31
abbrev sMixed : Stmt := topS 32
abbrev sDigits : Stmt := topS 33
abbrev sPairs : Stmt := topS 34
abbrev sScheme : Stmt := topS 35
abbrev sMade : Stmt := topS 36
abbrev sIsRow : Stmt := topS 37
abbrev sValue : Stmt := topS 38
abbrev sRow : Stmt := topS 39
abbrev sTold : Stmt := topS 40
abbrev sOddRow : Stmt := topS 41
abbrev sJudged : Stmt := topS 42
abbrev sRight : Stmt := topS 43
abbrev sLaw : Stmt := topS 44


section
variable {P : Program} {w : World} {K : PySem.W.Frag} {mg : Str → Option Value} {base : Heap}
theorem scC : FnScope ["_law_script", "_law_k"] ["_law_script", "_law_k"] (defScope sCell) := ⟨rfl, rfl, rfl, by decide +kernel, rfl, by decide +kernel, by decide +kernel⟩
theorem ok_cell {f : Addr} {fd : FuncData} (F : Fun K "_law_cell" "_law_cell" sCell f fd) (ml : mg "len" = none) : FnOk P w K mg base CX0 1 f fd ["_law_script", "_law_k"] (OF.spCell K) := by
  refine F.ok scC (fun vs H Q E h => ?_) (fun cdv A outer s H vs Q E hr h => ?_)
  · obtain ⟨a, ns, k, rfl, _⟩ := h
    rfl
  · obtain ⟨a, ns, k, rfl, hS, hk, q⟩ := h
    refine ⟨_, pss_cons (ps_if (pt_cmpR op_lt (pv 1) (pe_callB call_len_seq (by rfl) ml PySem.boot_len (pa_cons (pv 0) pa_nil)) (nomark _))
        (pss_one (ps_ret (pe_ix ix_list (pv 0) (pv 1) (fun _ _ => rfl)))) pss_nil)
      (pss_one (ps_ret (pe_op op_add (pe_op op_mul pe_int (pv 1)) pe_int))), ?_⟩
    refine ⟨.int k, rfl, .ref a, rfl, a, ns.map V.int, rfl, .inl hS, k, _, rfl, rfl, _, rfl, ite2 (fun c => ?_) (fun c => ?_)⟩
    · have c1 : k < ns.length := by
        have c2 := of_decide_eq_true c
        rw [List.length_map] at c2
        omega
      have g : (ns.map V.int)[k]? = some (.int ns[k]) := by
        rw [List.getElem?_map, List.getElem?_eq_getElem c1]
        rfl
      exact ⟨.ref a, rfl, .int k, rfl, a, _, k, .int ns[k], rfl, rfl, hS, atI_nat g, q _⟩
    · exact ⟨.int k, rfl, _, _, rfl, rfl, .inl ⟨by decide, by decide⟩, _, _, rfl, rfl, q _⟩
theorem scB : FnScope ["_law_cell_here"] ["_law_cell_here"] (defScope sBox) := ⟨rfl, rfl, rfl, by decide +kernel, rfl, by decide +kernel, by decide +kernel⟩
theorem ok_box {f : Addr} {fd : FuncData} (F : Fun K "_law_box" "_law_box" sBox f fd) (mi : mg "int" = none) (mm : mg "max" = none) : FnOk P w K mg base CX0 1 f fd ["_law_cell_here"] spBox := by
  refine F.ok scB (fun vs H Q E h => ?_) (fun cdv A outer s H vs Q E hr h => ?_)
  · obtain ⟨c, rfl, _⟩ := h
    rfl
  · obtain ⟨c, rfl, q⟩ := h
    refine ⟨_, pss_one (ps_ret (pe_lst (pa_cons (pe_callB (call_max2 rfl) (by rfl) mm PyProof.Rows.boot_max (pa_cons pe_int (pa_cons (pe_op op_sub (pv 0) (pe_op op_pow pe_int pe_int)) pa_nil)))
      (pa_cons (pe_op op_modR (pe_callTy call_int1 (by rfl) mi PyProof.Rows.boot_int (pa_cons (pv 0) pa_nil)) pe_int) (pa_cons pe_int pa_nil))))), ?_⟩
    refine ⟨.int c, rfl, _, _, rfl, rfl, ⟨by decide, by decide, by decide⟩, _, _, rfl, rfl, _, _, rfl, .int c, rfl, .inl ⟨_, rfl, _, _, rfl, rfl, by decide, fun r r0 r1 => ?_⟩⟩
    refine ⟨by show 3 ≤ sizeLine; decide, fun p hp => ?_⟩
    refine q p _ hp (same_new hp) ⟨_, r, 0, upd_same, ?_, r0, by omega, by decide, by decide⟩
    split <;> omega
theorem scT : FnScope ["_law_box_here", "_law_many", "_law_digit", "_law_number"] ["_law_box_here", "_law_many"] (defScope sTake) := ⟨rfl, rfl, rfl, by decide +kernel, rfl, by decide +kernel, by decide +kernel⟩
theorem ok_take {f : Addr} {fd : FuncData} (F : Fun K "_law_take" "_law_take" sTake f fd) (mi : mg "int" = none) : FnOk P w K mg base CX0 1 f fd ["_law_box_here", "_law_many"] spTake := by
  refine F.ok scT (fun vs H Q E h => ?_) (fun cdv A outer s H vs Q E hr h => ?_)
  · obtain ⟨a, m, n, rfl, _⟩ := h
    rfl
  · obtain ⟨a, m, n, rfl, ⟨b0, b1, b2, hH, p0, p1, q1, p2, q2⟩, hn, hm, hmb, q⟩ := h
    refine ⟨_, pss_cons (ps_if (pt_cmpR op_gt (pe_ix ix_list (pv 0) pe_int (fun _ _ => rfl)) pe_int (nomark _))
        (pss_cons (ps_set (i := 2) scT.nd rfl (.inl rfl) (pe_op op_modR (pe_callTy call_int1 (by rfl) mi PyProof.Rows.boot_int (pa_cons (pe_ix ix_list (pv 0) pe_int (fun _ _ => rfl)) pa_nil)) (pv 1)))
        (pss_cons (ps_asg (pe_op op_fdivW (pe_ix ix_list (pv 0) pe_int (fun _ _ => rfl)) (pv 1)) (pg_sub (pv 0) pe_int set_list))
        (pss_one (ps_ret (pv 2))))) pss_nil)
      (pss_cons (ps_asg (pe_op op_add (pe_ix ix_list (pv 0) pe_int (fun _ _ => rfl)) pe_int) (pg_sub (pv 0) pe_int set_list))
      (pss_cons (ps_set (i := 3) scT.nd rfl (.inl rfl) (pe_op op_modR (pe_op op_pow (pe_callTy call_int1 (by rfl) mi PyProof.Rows.boot_int
          (pa_cons (pe_op op_add (pe_op op_add (pe_ix ix_list (pv 0) pe_int (fun _ _ => rfl)) (pe_op op_mul pe_int (pe_ix ix_list (pv 0) pe_int (fun _ _ => rfl)))) pe_int) pa_nil)) pe_int) pe_int))
      (pss_cons (ps_set (i := 3) scT.nd rfl (.inl rfl) (pe_op op_modR (pe_op op_pow (pe_callTy call_int1 (by rfl) mi PyProof.Rows.boot_int
          (pa_cons (pe_op op_add (pv 3) (pe_op op_mul pe_int (pe_ix ix_list (pv 0) pe_int (fun _ _ => rfl)))) pa_nil)) pe_int) pe_int))
      (pss_one (ps_ret (pe_op op_modR (pe_callTy call_int1 (by rfl) mi PyProof.Rows.boot_int (pa_cons (pe_op op_fdiv (pv 3) pe_int) pa_nil)) (pv 1))))))), ?_⟩
    refine ⟨.ref a, rfl, a, _, 0, .int b0, rfl, rfl, SqL.of hH, atI_nat (j := 0) rfl, b0, 0, rfl, rfl, _, rfl, ite2 (fun c => ?_) (fun c => ?_)⟩
    · refine ⟨.ref a, rfl, a, _, 0, .int b0, rfl, rfl, SqL.of hH, atI_nat (j := 0) rfl, .inl ⟨b0, rfl, .int m, rfl, b0, m, rfl, rfl, hm, fun r r0 r1 => ?_⟩⟩
      refine ⟨.ref a, rfl, a, _, 0, .int b0, rfl, rfl, SqL.of hH, atI_nat (j := 0) rfl, .int m, rfl, b0, m, rfl, rfl, wide_div hm hmb (by decide) (by decide), ?_⟩
      refine ⟨.ref a, rfl, a, _, 0, 0, rfl, rfl, hH, rfl, ?_⟩
      refine ⟨.int r, rfl, q r _ r0 r1 But.at_ ⟨b0 / m, b1, b2, upd_same, Int.ediv_nonneg p0 (by omega), p1, q1, p2, by omega⟩⟩
    · refine ⟨.ref a, rfl, a, _, 2, .int b2, rfl, rfl, SqL.of hH, atI_nat (j := 2) rfl, b2, 1, rfl, rfl, .ref a, rfl, a, _, 2, 2, rfl, rfl, hH, rfl, ?_⟩
      have hH1 : (upd H a (.lst [.int b0, .int b1, .int (b2 + 1)])) a = some (.lst [.int b0, .int b1, .int (b2 + 1)]) := upd_same
      refine ⟨.ref a, rfl, a, _, 1, .int b1, rfl, rfl, SqL.of hH1, atI_nat (j := 1) rfl, .ref a, rfl, a, _, 2, .int (b2 + 1), rfl, rfl, SqL.of hH1, atI_nat (j := 2) rfl,
        _, _, rfl, rfl, .inl ⟨by decide, by decide⟩, _, _, rfl, rfl, _, _, rfl, rfl, .inl ⟨_, rfl, _, _, rfl, rfl, ⟨by decide, by decide, by omega⟩, _, _, rfl, rfl, by decide, fun r r0 r1 => ?_⟩⟩
      refine ⟨.int r, rfl, .ref a, rfl, a, _, 2, .int (b2 + 1), rfl, rfl, SqL.of hH1, atI_nat (j := 2) rfl,
        _, _, rfl, rfl, .inl ⟨by decide, by decide⟩, _, _, rfl, rfl, .inl ⟨_, rfl, _, _, rfl, rfl, ⟨by decide, by decide, by omega⟩, _, _, rfl, rfl, by decide, fun r' r0' r1' => ?_⟩⟩
      refine ⟨.int r', rfl, _, _, rfl, rfl, ⟨by decide, by decide⟩, .inl ⟨_, rfl, .int m, rfl, _, _, rfl, rfl, hm, fun r2 h0 h1 => ?_⟩⟩
      exact q r2 _ h0 h1 But.at_ ⟨b0, b1, b2 + 1, upd_same, p0, p1, q1, by omega, by omega⟩
theorem scM : FnScope ["_law_box_here", "_law_some", "_law_ahead", "_law_k"] ["_law_box_here", "_law_some"] (defScope sMixed) := ⟨rfl, rfl, rfl, by decide +kernel, rfl, by decide +kernel, by decide +kernel⟩
theorem ok_mixed {f fT : Addr} {fd fdT : FuncData} (F : Fun K "_law_mixed" "_law_mixed" sMixed f fd) (FT : Fun K "_law_take" "_law_take" sTake fT fdT) (gT : mg "_law_take" = some (.ref fT)) (bT : Binds K fdT ["_law_box_here", "_law_many"] [])
    (mi : mg "int" = none) (ml : mg "len" = none) (mr : mg "range" = none) (ms : mg "list" = none) : FnOk P w K mg base CX0 2 f fd ["_law_box_here", "_law_some"] (spMixed K) := by
  have GT : FnOk P w K mg base CX0 1 fT fdT ["_law_box_here", "_law_many"] spTake := ok_take FT mi
  refine F.ok scM (fun vs H Q E h => ?_) (fun cdv A outer s H vs Q E hr h => ?_)
  · obtain ⟨a, p, xs, n, rfl, _⟩ := h
    rfl
  · obtain ⟨a, p, xs, n, rfl, hB, hS, npa, hlen, hn, q⟩ := h
    refine ⟨_, pss_cons (ps_set (i := 2) scM.nd rfl (.inr rfl) (pe_callTy call_list_of (by rfl) ms PyProof.Rows.boot_list (pa_cons (pv 1) pa_nil)))
      (pss_one (ps_ret (pe_lc (own := [("_law_k", 3)]) (g := gName 3) (tt := tYes) (te := tBM K "list" rPopAt (tVar 2) (tCons (tCall spTake [] E0 (tCons (tVar 0) (tCons (tCB (rLenS K) (tCons (tVar 2) tNil)) tNil))) tNil)) rfl scM.nd (pi_range1 rfl mr (pa_cons (pe_callB call_len_seq (by rfl) ml PySem.boot_len (pa_cons (pv 1) pa_nil)) pa_nil))
        (blkOk_by (own := [("_law_k", 3)]) (N := ["_law_box_here", "_law_some", "_law_ahead", "_law_k"]) (sc := defScope sMixed) (by decide +kernel)) (fun _ _ _ _ _ => pg_name (i := 3) scM.nd rfl (Or.inl rfl)) (fun _ _ _ _ _ => pts_nil)
        (fun _ _ _ _ _ => by exact (pe_bm PySem.F.plainAttrs_list PySem.F.slot_list_pop PySem.F.type_list_pop mt_popAt (pv 2)
          (pa_cons (pe_call GT hr (by rfl) gT FT.kp bT .nil pass0 (pa_cons (pv 0) (pa_cons (pe_callB call_len_seq (by rfl) ml PySem.boot_len (pa_cons (pv 2) pa_nil)) pa_nil))) pa_nil)))))), ?_⟩
    refine ⟨.ref p, rfl, p, xs, rfl, .inl hS, fun l hl => ?_⟩
    have nla : l ≠ a := hB.ne hl
    have s1 : Same H (upd H l (.lst xs)) := same_new hl
    refine ⟨.ref p, rfl, p, xs, rfl, .inl (s1.seq hS), _, rfl, by omega, by omega, fun D hD => ?_⟩
    have hDl : D ≠ l := fun e => by rw [e, upd_same] at hD; cases hD
    have hD0 : H D = none := s1.free hD
    have nDa : D ≠ a := hB.ne hD0
    refine lc_range (lo := 0) (n := xs.length) (fun i H' => But a H H' ∧ Box (n + i) H' a ∧ (∃ ls, H' l = some (.lst ls) ∧ ls.length + i = xs.length ∧ ∀ y ∈ ls, y ∈ xs) ∧ ∃ acc, H' D = some (.lst acc) ∧ acc.length = i ∧ ∀ y ∈ acc, y ∈ xs) ?_ ?_ ?_
    · refine ⟨(But.new hl).trans (But.new hD), ?_, ⟨xs, ?_, rfl, fun _ h => h⟩, [], upd_same, rfl, fun y h => by cases h⟩
      · exact (((hB.upd nla).upd nDa).mono (by omega))
      · rw [upd_ne hDl.symm]
        exact upd_same
    · rintro i H' hi ⟨t, B, ⟨ls, el, ll, ml2⟩, acc, ea, la, ma⟩
      refine ⟨rfl, tYes_if ?_⟩
      refine ⟨.ref l, rfl, .inl ⟨rfl, _, SqL.of el⟩, .ref a, rfl, .ref l, rfl, l, ls, rfl, .inl (SqL.of el), a, ls.length, n + i, rfl, B, by omega, by omega, by omega, fun r H4 r0 r1 t4 B4 => ?_⟩
      have e4 : H4 l = some (.lst ls) := t4 _ _ nla el
      have hk : r.toNat < ls.length := by omega
      refine ⟨l, ls, r, r.toNat, ls[r.toNat], rfl, rfl, e4, by omega, by omega, (ixN_seq (ixN_in r0 r1)).1, List.getElem?_eq_getElem hk, ?_⟩
      refine ⟨acc, ?_, by rw [la]; exact small1000 (by omega), ?_⟩
      · rw [upd_ne hDl]
        exact t4 _ _ nDa ea
      · refine ⟨((t.trans t4).store hl).store hD0, (((B4.upd nla).upd nDa).mono (by omega)), ⟨ls.eraseIdx r.toNat, ?_, ?_, fun y hy => ml2 y (List.mem_of_mem_eraseIdx hy)⟩, _, upd_same, ?_, fun y hy => ?_⟩
        · rw [upd_ne hDl.symm]
          exact upd_same
        · rw [List.length_eraseIdx, if_pos hk]
          omega
        · rw [List.length_append, la]
          rfl
        · rcases List.mem_append.mp hy with h | h
          · exact ma y h
          · cases List.mem_singleton.mp h
            exact ml2 _ (List.getElem_mem hk)
    · rintro H' ⟨t, B, _, acc, ea, la, ma⟩
      exact q D acc H' hD0 t B ea la ma

theorem _root_.OF.But.free_ {a p : Addr} {H H' : Hp} (t : OF.But a H H') (n : p ≠ a) (h : H' p = none) : H p = none := by
  rcases Option.eq_none_or_eq_some (H p) with z | ⟨o, z⟩
  · exact z
  · rw [t p o n z] at h
    cases h
/-! ### lists in order -/
theorem sorted_ext {α : Type} {r : α → α → Prop} (as : ∀ a b, r a b → ¬ r b a) : ∀ {l m : List α}, l.Pairwise r → m.Pairwise r → (∀ x, x ∈ l ↔ x ∈ m) → l = m
  | [], [], _, _, _ => rfl
  | [], y :: m, _, _, h => absurd ((h y).mpr List.mem_cons_self) List.not_mem_nil
  | x :: l, [], _, _, h => absurd ((h x).mp List.mem_cons_self) List.not_mem_nil
  | x :: l, y :: m, h1, h2, h => by
    obtain ⟨a1, b1⟩ := List.pairwise_cons.mp h1
    obtain ⟨a2, b2⟩ := List.pairwise_cons.mp h2
    have e : x = y := by
      rcases List.mem_cons.mp ((h x).mp List.mem_cons_self) with z | z
      · exact z
      · rcases List.mem_cons.mp ((h y).mpr List.mem_cons_self) with z2 | z2
        · exact z2.symm
        · exact absurd (a1 y z2) (as _ _ (a2 x z))
    subst e
    have e2 : l = m := sorted_ext as b1 b2 fun z => by
      constructor
      · intro hz
        rcases List.mem_cons.mp ((h z).mp (List.mem_cons_of_mem _ hz)) with q | q
        · subst q
          exact absurd (a1 z hz) (as _ _ (a1 z hz))
        · exact q
      · intro hz
        rcases List.mem_cons.mp ((h z).mpr (List.mem_cons_of_mem _ hz)) with q | q
        · subst q
          exact absurd (a2 z hz) (as _ _ (a2 z hz))
        · exact q
    rw [e2]
theorem erase_map {α β : Type} (f : α → β) : ∀ (l : List α) (k : Nat), (l.map f).eraseIdx k = (l.eraseIdx k).map f
  | [], _ => rfl
  | _ :: _, 0 => rfl
  | x :: l, k + 1 => by
    show f x :: (l.map f).eraseIdx k = f x :: (l.eraseIdx k).map f
    rw [erase_map f l k]
theorem erase_perm {α : Type} : ∀ (l : List α) (k : Nat) (h : k < l.length), (l[k] :: l.eraseIdx k).Perm l
  | x :: l, 0, _ => List.Perm.refl _
  | x :: l, k + 1, h => by
    have h2 : k < l.length := Nat.lt_of_succ_lt_succ h
    show (l[k] :: x :: l.eraseIdx k).Perm (x :: l)
    exact (List.Perm.swap _ _ _).trans ((erase_perm l k h2).cons x)
/-- pairs by their order -/
def lexP (p q : Int × Int) : Prop := p.1 < q.1 ∨ (p.1 = q.1 ∧ p.2 < q.2)
theorem lexP_as (p q : Int × Int) (h : lexP p q) : ¬ lexP q p := by
  intro z
  unfold lexP at h z
  omega
/-- all pairs, in order -/
def prod (ns : List Int) : List (Int × Int) := ns.flatMap fun x => ns.map fun y => (x, y)
theorem prod_aux {ms : List Int} (hm : ms.Pairwise (· < ·)) : ∀ {ns : List Int}, ns.Pairwise (· < ·) → (ns.flatMap fun x => ms.map fun y => (x, y)).Pairwise lexP
  | [], _ => List.Pairwise.nil
  | x :: ns, h => by
    obtain ⟨a, b⟩ := List.pairwise_cons.mp h
    rw [List.flatMap_cons, List.pairwise_append]
    refine ⟨?_, prod_aux hm b, fun p hp q hq => ?_⟩
    · rw [List.pairwise_map]
      exact hm.imp fun z => .inr ⟨rfl, z⟩
    · obtain ⟨y, _, rfl⟩ := List.mem_map.mp hp
      obtain ⟨x2, hx2, hq⟩ := List.mem_flatMap.mp hq
      obtain ⟨y2, _, rfl⟩ := List.mem_map.mp hq
      exact .inl (a x2 hx2)
theorem prod_mem {ns : List Int} {p : Int × Int} (h : p ∈ prod ns) : p.1 ∈ ns ∧ p.2 ∈ ns := by
  obtain ⟨x, hx, hp⟩ := List.mem_flatMap.mp h
  obtain ⟨y, hy, rfl⟩ := List.mem_map.mp hp
  exact ⟨hx, hy⟩
theorem flat_len {ms : List Int} : ∀ (ns : List Int), (ns.flatMap fun x => ms.map fun y => (x, y)).length = ns.length * ms.length
  | [] => by simp
  | x :: ns => by
    rw [List.flatMap_cons, List.length_append, flat_len ns, List.length_map, List.length_cons, Nat.succ_mul]
    omega
/-- the parts of a scheme that a law draws -/
structure Good (b : Int) (ns : List Int) (ps : List (Int × Int)) : Prop where
  b : isBase b = true
  asc : ns.Pairwise (· < ·)
  one : 1 ≤ ns.length
  six : ns.length ≤ 6
  dg : ∀ n ∈ ns, dig n = true
  mem : ∀ p ∈ ps, p.1 ∈ ns ∧ p.2 ∈ ns
  lex : ps.Pairwise lexP
  few : ps.length ≤ 36
/-- the list of these parts in the heap -/
structure ModAt (H : Hp) (m dl pl : Addr) (b : Int) (ns : List Int) (ks : List (Addr × (Int × Int))) : Prop where
  mo : H m = some (.lst [.int b, .ref dl, .ref pl])
  di : H dl = some (.lst (ns.map V.int))
  pa : H pl = some (.lst (ks.map fun p => V.ref p.1))
  pr : ∀ p ∈ ks, H p.1 = some (.tup [.int p.2.1, .int p.2.2])
theorem ModAt.same {H H' : Hp} {m dl pl : Addr} {b : Int} {ns : List Int} {ks : List (Addr × (Int × Int))} (h : ModAt H m dl pl b ns ks) (s : Same H H') : ModAt H' m dl pl b ns ks :=
  ⟨s _ _ h.mo, s _ _ h.di, s _ _ h.pa, fun p hp => s _ _ (h.pr p hp)⟩
/-- the law's parts of a scheme at m, wherever but the box at a may change -/
def Model (a : Addr) (H : Hp) (m : Addr) (b : Int) (ns : List Int) (ps : List (Int × Int)) : Prop := ∃ (dl pl : Addr) (ks : List (Addr × (Int × Int))), ks.map (·.2) = ps ∧ ∀ H', But a H H' → ModAt H' m dl pl b ns ks
theorem Model.but {a m : Addr} {H H' : Hp} {b : Int} {ns : List Int} {ps : List (Int × Int)} (h : Model a H m b ns ps) (t : But a H H') : Model a H' m b ns ps := by
  obtain ⟨dl, pl, ks, e, z⟩ := h
  exact ⟨dl, pl, ks, e, fun H2 t2 => z H2 (t.trans t2)⟩

/-! ### digits, drawn -/
def mA (b : Int) : Int := if b < 0 then -b else b
theorem mA_cases {b : Int} (h : isBase b = true) : mA b = 2 ∨ mA b = 3 ∨ mA b = 4 ∨ mA b = 5 ∨ mA b = 6 := by
  unfold isBase at h
  unfold mA
  simp only [Bool.or_eq_true, Bool.and_eq_true, decide_eq_true_eq] at h
  split <;> omega
def spDigits : Sp := fun vs H Q _ => ∃ (a : Addr) (b n : Int), vs = [.ref a, .int b] ∧ Box n H a ∧ n ≤ 800000 ∧ isBase b = true ∧
  ∀ (D : Addr) (ns : List Int) (H' : Hp), H D = none → But a H H' → Box (n + 30) H' a → H' D = some (.lst (ns.map V.int)) → ns.Nodup → 1 ≤ ns.length → ns.length ≤ 6 → (∀ k ∈ ns, dig k = true) → Q (.ref D) H'
abbrev nDi : List Str := ["_law_box_here", "_law_base", "_law_way", "_law_many", "_law_first", "_law_some", "_law_pool", "_law_k", "_law_digit"]
theorem scDi : FnScope nDi ["_law_box_here", "_law_base"] (defScope sDigits) := ⟨rfl, rfl, rfl, by decide +kernel, rfl, by decide +kernel, by decide +kernel⟩
theorem rg_ints (a b : Int) : rgV a b = ((List.range (b - a).toNat).map fun (i : Nat) => a + (i : Int)).map V.int := by
  unfold rgV
  rw [List.map_map]
  rfl
theorem rg_nodup (a : Int) (n : Nat) : ((List.range n).map fun (i : Nat) => a + (i : Int)).Nodup := by
  rw [List.nodup_iff_pairwise_ne, List.pairwise_map]
  refine List.nodup_range.imp fun {i j} h e => h ?_
  omega
theorem dig_of {k : Int} (h : -9 ≤ k) (h2 : k ≤ 9) : dig k = true := by
  unfold dig
  rw [decide_eq_true h, decide_eq_true h2]
  rfl
/-- what the second way makes: one number for each remainder -/
def Spread (m : Int) (vs : List Int) (lo hi : Int) : Prop := ∀ (j : Nat) (v : Int), vs[j]? = some v → ∃ c : Int, v = j + m * c ∧ lo ≤ c ∧ c ≤ hi
theorem spread_push {m lo hi c : Int} {vs : List Int} (h : Spread m vs lo hi) (h0 : lo ≤ c) (h1 : c ≤ hi) : Spread m (vs ++ [vs.length + m * c]) lo hi := by
  intro j v e
  rcases Nat.lt_trichotomy j vs.length with z | z | z
  · rw [List.getElem?_append_left z] at e
    exact h j v e
  · subst z
    rw [List.getElem?_append_right (Nat.le_refl _), Nat.sub_self] at e
    cases Option.some.inj e
    exact ⟨c, rfl, h0, h1⟩
  · rw [List.getElem?_eq_none (by rw [List.length_append]; show vs.length + 1 ≤ j; omega)] at e
    cases e
theorem spread_nodup {m lo hi : Int} {vs : List Int} (h : Spread m vs lo hi) (hm : m = 2 ∨ m = 3 ∨ m = 4 ∨ m = 5 ∨ m = 6) (hl : (vs.length : Int) ≤ m) : vs.Nodup := by
  rw [List.nodup_iff_pairwise_ne, List.pairwise_iff_getElem]
  intro i j hi hj hij e
  obtain ⟨c, e1, _⟩ := h i _ (List.getElem?_eq_getElem hi)
  obtain ⟨d, e2, _⟩ := h j _ (List.getElem?_eq_getElem hj)
  rw [e1, e2] at e
  rcases hm with rfl | rfl | rfl | rfl | rfl <;> omega
set_option maxHeartbeats 2000000 in
theorem ok_digits {f fT : Addr} {fd fdT : FuncData} (F : Fun K "_law_digits" "_law_digits" sDigits f fd) (FT : Fun K "_law_take" "_law_take" sTake fT fdT) (gT : mg "_law_take" = some (.ref fT)) (bT : Binds K fdT ["_law_box_here", "_law_many"] [])
    (mi : mg "int" = none) (ml : mg "len" = none) (mr : mg "range" = none) (ms : mg "list" = none) (ma : mg "abs" = none) : FnOk P w K mg base CX0 2 f fd ["_law_box_here", "_law_base"] spDigits := by
  have GT : FnOk P w K mg base CX0 1 fT fdT ["_law_box_here", "_law_many"] spTake := ok_take FT mi
  refine F.ok scDi (fun vs H Q E h => ?_) (fun cdv A outer s H vs Q E hr h => ?_)
  · obtain ⟨a, b, n, rfl, _⟩ := h
    rfl
  · obtain ⟨a, b, n, rfl, hB, hn, hb, q⟩ := h
    apply Exists.intro
    apply And.intro
    · apply pss_cons
      · exact ps_par (i := 2) (j := 3) rfl scDi.nd rfl rfl (by decide) rfl rfl (pa_cons (pe_call GT hr (by rfl) gT FT.kp bT .nil pass0 (pa_cons (pv 0) (pa_cons pe_int pa_nil))) (pa_cons (pe_op op_add pe_int (pe_call GT hr (by rfl) gT FT.kp bT .nil pass0 (pa_cons (pv 0) (pa_cons pe_int pa_nil)))) pa_nil)) (by rfl)
      apply pss_cons
      · exact ps_if (pt_cmpR op_eq (pv 2) pe_int (nomark _)) (pss_cons (ps_set (i := 4) scDi.nd rfl (.inl rfl) (pe_op op_sub (pe_call GT hr (by rfl) gT FT.kp bT .nil pass0 (pa_cons (pv 0) (pa_cons pe_int pa_nil))) pe_int))
          (pss_one (ps_ret (pe_listRg rfl (by rfl) ms (prg_2 (by rfl) mr (pv 4) (pe_op op_add (pv 4) (pv 3))))))) pss_nil
      apply pss_cons
      · exact ps_if (pt_cmpR op_eq (pv 2) pe_int (nomark _)) (pss_cons (ps_setLc (i := 5) (own := [("_law_k", 7)]) (g := gName 7) (tt := tYes) rfl scDi.nd rfl rfl (sw_true rfl rfl rfl (by decide +kernel)) (pi_range1 rfl mr (pa_cons (pe_callB call_abs (by rfl) ma (by decide +kernel) (pa_cons (pv 1) pa_nil)) pa_nil))
              (blkOk_by (own := [("_law_k", 7)]) (N := nDi) (sc := defScope sDigits) (by decide +kernel)) (fun _ _ _ _ _ => pg_name (i := 7) scDi.nd rfl (Or.inl rfl)) (fun _ _ _ _ _ => pts_nil)
              (fun _ _ _ _ _ => by exact (pe_op op_add (pv 7) (pe_op op_mul (pe_callB call_abs (by rfl) ma (by decide +kernel) (pa_cons (pv 1) pa_nil)) (pe_op op_sub (pe_call GT hr (by rfl) gT FT.kp bT .nil pass0 (pa_cons (pv 0) (pa_cons pe_int pa_nil))) pe_int)))))
          (pss_one (ps_ret (pe_lc (own := [("_law_digit", 8)]) (g := gName 8) (tt := tYes) rfl scDi.nd (pi_list (pv 5)) (blkOk_by (own := [("_law_digit", 8)]) (N := nDi) (sc := defScope sDigits) (by decide +kernel)) (fun _ _ _ _ _ => pg_name (i := 8) scDi.nd rfl (Or.inl rfl)) (fun _ _ _ _ _ => pts_nil)
              (fun _ _ _ _ _ => by exact (pe_op op_sub (pv 8) (pe_op op_mul (pe_callB call_abs (by rfl) ma (by decide +kernel) (pa_cons (pv 1) pa_nil)) (pe_callTy call_int1 (by rfl) mi PyProof.Rows.boot_int (pa_cons (pe_cmpR op_gt (pv 8) pe_int (nomark _)) pa_nil)))))))) ) pss_nil
      apply pss_cons
      · exact ps_set (i := 6) scDi.nd rfl (.inr rfl) (pe_listRg rfl (by rfl) ms (prg_2 (by rfl) mr (pe_un un_neg pe_int) pe_int))
      apply pss_one
      · exact ps_ret (pe_lc (own := [("_law_k", 7)]) (g := gName 7) (tt := tYes) (te := tBM K "list" rPopAt (tVar 6) (tCons (tCall spTake [] E0 (tCons (tVar 0) (tCons (tCB (rLenS K) (tCons (tVar 6) tNil)) tNil))) tNil)) rfl scDi.nd (pi_range1 rfl mr (pa_cons (pv 3) pa_nil))
        (blkOk_by (own := [("_law_k", 7)]) (N := nDi) (sc := defScope sDigits) (by decide +kernel)) (fun _ _ _ _ _ => pg_name (i := 7) scDi.nd rfl (Or.inl rfl)) (fun _ _ _ _ _ => pts_nil)
        (fun _ _ _ _ _ => by exact (pe_bm PySem.F.plainAttrs_list PySem.F.slot_list_pop PySem.F.type_list_pop mt_popAt (pv 6)
          (pa_cons (pe_call GT hr (by rfl) gT FT.kp bT .nil pass0 (pa_cons (pv 0) (pa_cons (pe_callB call_len_seq (by rfl) ml PySem.boot_len (pa_cons (pv 6) pa_nil)) pa_nil))) pa_nil))))
    refine ⟨.ref a, rfl, a, 4, n, rfl, hB, by omega, by decide, by decide, fun wy H1 w0 w1 t1 B1 => ?_⟩
    refine ⟨.ref a, rfl, a, 6, n + 1, rfl, B1, by omega, by decide, by decide, fun mm H2 m0 m1 t2 B2 => ?_⟩
    have T2 := t1.trans t2
    refine ⟨1, mm, rfl, rfl, .int wy, .int (1 + mm), rfl, ?_⟩
    refine ⟨.int wy, rfl, rfl, _, rfl, ite2 (fun c => ?_) (fun c => ?_)⟩
    · refine ⟨.ref a, rfl, a, 4, n + 1 + 1, rfl, B2, by omega, by decide, by decide, fun r H3 r0 r1 t3 B3 => ?_⟩
      refine ⟨r, 3, rfl, rfl, .int (r - 3), rfl, .int (r - 3), rfl, .int (1 + mm), rfl, r - 3, 1 + mm, rfl, rfl, r - 3, r - 3 + (1 + mm), rfl, rfl, ⟨by omega, by omega, by omega, by omega, by omega⟩, fun D hD => ?_⟩
      have nDa := B3.ne hD
      have hD0 : H D = none := (T2.trans t3).free_ nDa hD
      refine q D ((List.range (r - 3 + (1 + mm) - (r - 3)).toNat).map fun (i : Nat) => (r - 3) + (i : Int)) _ hD0 ((T2.trans t3).trans (But.new hD)) ((B3.new hD).mono (by omega)) ?_ (rg_nodup _ _) ?_ ?_ fun k hk => ?_
      · rw [upd_same, rg_ints]
      · rw [List.length_map, List.length_range]
        omega
      · rw [List.length_map, List.length_range]
        omega
      · obtain ⟨i, hi, rfl⟩ := List.mem_map.mp hk
        have := List.mem_range.mp hi
        exact dig_of (by omega) (by omega)
    · refine ⟨.int wy, rfl, rfl, _, rfl, ite2 (fun c1 => ?_) (fun c1 => ?_)⟩
      · have hm := mA_cases hb
        refine ⟨.int b, rfl, b, rfl, mA b, rfl, by omega, by omega, fun D hD => ?_⟩
        have nDa := B2.ne hD
        refine lc_range (lo := 0) (n := (mA b).toNat) (fun i H' => But a H2 H' ∧ Box (n + 2 + i) H' a ∧ ∃ ws : List Int, H' D = some (.lst (ws.map V.int)) ∧ ws.length = i ∧ Spread (mA b) ws (-1) 1) ⟨But.new hD, (B2.new hD).mono (by omega), [], upd_same, rfl, fun j v e => by simp at e⟩ ?_ ?_
        · rintro i H' hi ⟨t, B, ws, eD, lw, hs⟩
          refine ⟨rfl, tYes_if ⟨.int (0 + i), rfl, .int b, rfl, b, rfl, .ref a, rfl, a, 3, n + 2 + i, rfl, B, by omega, by decide, by decide, fun r H3 r0 r1 t3 B3 => ?_⟩⟩
          refine ⟨r, 1, rfl, rfl, mA b, r - 1, rfl, rfl, .inl ⟨by omega, by omega⟩, 0 + i, mA b * (r - 1), rfl, rfl, _, t3 _ _ nDa eD, ?_, (t.trans t3).store hD, (B3.upd nDa).mono (by omega), ws ++ [(ws.length : Int) + mA b * (r - 1)], ?_, ?_, spread_push hs (by omega) (by omega)⟩
          · rw [List.length_map, lw]
            exact small1000 (by omega)
          · rw [upd_same, List.map_append, lw, Int.zero_add]
            rfl
          · rw [List.length_append, lw]
            rfl
        · rintro H3 ⟨t, B, ws, eD, lw, hs⟩
          refine ⟨.ref D, rfl, D, rfl, ⟨_, SqL.of eD⟩, fun D2 hD2 => ?_⟩
          have nD2a := B.ne hD2
          have hD20 : H D2 = none := (T2.trans t).free_ nD2a hD2
          refine lc_list (K := K) (a := D) (xs := ws.map V.int) (fun i H' => Same H3 H' ∧ ∃ ms : List Int, H' D2 = some (.lst (ms.map V.int)) ∧ ms.length = i ∧ Spread (mA b) ms (-2) 1 ∧ ∀ k ∈ ms, dig k = true) ⟨same_new hD2, [], upd_same, rfl, (fun j v e => by simp at e), fun k h => by cases h⟩ (fun i H' _ h => SqL.of (h.1 _ _ eD)) ?_ ?_
          · rintro i x H' hx ⟨s3, ms, e2, lm, sp, dg⟩
            obtain ⟨v, hv, rfl⟩ := get_map hx
            obtain ⟨c0, ev, c1', c2'⟩ := hs i v hv
            have hi : i < ws.length := (List.getElem?_eq_some_iff.mp hv).1
            have key : ∃ cc : Int, v - mA b * (if (decide ((9 : Int) < v)) = true then 1 else 0) = (i : Int) + mA b * cc ∧ -2 ≤ cc ∧ cc ≤ 1 ∧ -9 ≤ (i : Int) + mA b * cc ∧ (i : Int) + mA b * cc ≤ 9 := by
              by_cases h9 : (9 : Int) < v
              · rw [decide_eq_true h9, if_pos rfl]
                refine ⟨c0 - 1, ?_, by omega, by omega, ?_, ?_⟩ <;> rcases hm with e | e | e | e | e <;> rw [e] at ev lw ⊢ <;> omega
              · rw [decide_eq_false h9, if_neg (by decide)]
                refine ⟨c0, ?_, by omega, by omega, ?_, ?_⟩ <;> rcases hm with e | e | e | e | e <;> rw [e] at ev lw ⊢ <;> omega
            obtain ⟨cc, ek, k1, k2, k3, k4⟩ := key
            refine ⟨rfl, tYes_if ⟨.int v, rfl, .int b, rfl, b, rfl, .int v, rfl, v, 9, rfl, rfl, .inr ⟨_, rfl, mA b, (if (decide ((9 : Int) < v)) = true then 1 else 0), rfl, rfl, .inl ⟨by omega, by omega⟩, v, mA b * (if (decide ((9 : Int) < v)) = true then 1 else 0), rfl, rfl, _, e2, ?_, Same.store s3 hD2, ms ++ [(ms.length : Int) + mA b * cc], ?_, ?_, spread_push sp k1 k2, fun k hk => ?_⟩⟩⟩
            · rw [List.length_map, lm]
              exact small1000 (by omega)
            · rw [upd_same, List.map_append, lm, ← ek]
              rfl
            · rw [List.length_append, lm]
              rfl
            · rcases List.mem_append.mp hk with z | z
              · exact dg k z
              · cases List.mem_singleton.mp z
                rw [lm]
                exact dig_of k3 k4
          · rintro H4 ⟨s4, ms, e2, lm, sp, dg⟩
            rw [List.length_map] at lm
            refine q D2 ms H4 hD20 ((T2.trans t).trans (But.of_same s4)) ((B.same s4).mono (by omega)) e2 (spread_nodup sp hm (by omega)) (by omega) (by omega) dg
      · refine ⟨9, rfl, -9, 10, rfl, rfl, ⟨by decide, by decide, by decide, by decide, by decide⟩, fun l hl => ?_⟩
        have nla := B2.ne hl
        have hl0 : H l = none := T2.free_ nla hl
        have el : (upd H2 l (.lst (rgV (-9) 10))) l = some (.lst (((List.range 19).map fun (i : Nat) => (-9 : Int) + (i : Int)).map V.int)) := by
          rw [upd_same, rg_ints]
          rfl
        have tn : But a H2 (upd H2 l (.lst (rgV (-9) 10))) := But.new hl
        have Bn : Box (n + 2) (upd H2 l (.lst (rgV (-9) 10))) a := (B2.new hl).mono (by omega)
        have nfull : ((List.range 19).map fun (i : Nat) => (-9 : Int) + (i : Int)).Nodup := rg_nodup _ _
        have dfull : ∀ k ∈ ((List.range 19).map fun (i : Nat) => (-9 : Int) + (i : Int)), dig k = true := by decide +kernel
        have lfull : ((List.range 19).map fun (i : Nat) => (-9 : Int) + (i : Int)).length = 19 := by decide +kernel
        generalize ((List.range 19).map fun (i : Nat) => (-9 : Int) + (i : Int)) = full at el nfull dfull lfull
        generalize upd H2 l (.lst (rgV (-9) 10)) = H3 at el tn Bn ⊢
        refine ⟨.int (1 + mm), rfl, 1 + mm, rfl, by omega, by omega, fun D hD => ?_⟩
        have hDl : D ≠ l := fun e => by rw [e, el] at hD; cases hD
        have nDa := Bn.ne hD
        have hD0 : H D = none := (T2.trans tn).free_ nDa hD
        refine lc_range (lo := 0) (n := (1 + mm).toNat) (fun i H' => But a H H' ∧ Box (n + 2 + i) H' a ∧ ∃ ls acc : List Int, H' l = some (.lst (ls.map V.int)) ∧ H' D = some (.lst (acc.map V.int)) ∧ acc.length = i ∧ (acc ++ ls).Perm full) ?_ ?_ ?_
        · exact ⟨(T2.trans tn).trans (But.new hD), (Bn.new hD).mono (by omega), full, [], by rw [upd_ne hDl.symm]; exact el, upd_same, rfl, List.Perm.refl _⟩
        · rintro i H' hi ⟨t, B, ls, acc, el2, ea, la, pm⟩
          have ll : ls.length + i = 19 := by
            have := pm.length_eq
            rw [List.length_append, lfull] at this
            omega
          refine ⟨rfl, tYes_if ?_⟩
          refine ⟨.ref l, rfl, .inl ⟨rfl, _, SqL.of el2⟩, .ref a, rfl, .ref l, rfl, l, _, rfl, .inl (SqL.of el2), a, ((ls.map V.int).length : Int), n + 2 + i, rfl, B, by omega, by rw [List.length_map]; omega, by rw [List.length_map, Int.natAbs_natCast]; exact Nat.lt_of_le_of_lt (by omega : ls.length ≤ 19) (by decide), fun r H4 r0 r1 t4 B4 => ?_⟩
          rw [List.length_map] at r1
          have e4 : H4 l = some (.lst (ls.map V.int)) := t4 _ _ nla el2
          have hk : r.toNat < ls.length := by omega
          have hk2 : (ls.map V.int)[r.toNat]? = some (.int ls[r.toNat]) := by
            rw [List.getElem?_map, List.getElem?_eq_getElem hk]
            rfl
          refine ⟨l, ls.map V.int, r, r.toNat, .int ls[r.toNat], rfl, rfl, e4, by omega, by omega, (ixN_seq (ixN_in r0 (by rw [List.length_map]; omega))).1, hk2, ?_⟩
          refine ⟨acc.map V.int, ?_, by rw [List.length_map, la]; exact small1000 (by omega), ?_⟩
          · rw [upd_ne hDl]
            exact t4 _ _ nDa ea
          · refine ⟨((t.trans t4).store hl0).store hD0, ((B4.upd nla).upd nDa).mono (by omega), ls.eraseIdx r.toNat, acc ++ [ls[r.toNat]], ?_, ?_, ?_, ?_⟩
            · rw [upd_ne hDl.symm, upd_same, erase_map]
            · rw [upd_same, List.map_append]
              rfl
            · rw [List.length_append, la]
              rfl
            · rw [List.append_assoc]
              exact (List.Perm.append_left acc (erase_perm ls r.toNat hk)).trans pm
        · rintro H' ⟨t, B, ls, acc, el2, ea, la, pm⟩
          have nd : acc.Nodup := (List.nodup_append.mp (pm.nodup_iff.mpr nfull)).1
          refine q D acc H' hD0 t (B.mono (by omega)) ea nd (by omega) (by omega) fun k hk => dfull k (pm.mem_iff.mp (List.mem_append_left _ hk))
end
end K07
namespace K07
open PySem PySem.Spec PyProof.Rows L2 OF
section
variable {P : Program} {w : World} {K : PySem.W.Frag} {mg : Str → Option Value} {base : Heap}

/-! ### pairs -/
def spPairs (K : PySem.W.Frag) : Sp := fun vs H Q _ => ∃ (dl : Addr) (ns : List Int), vs = [.ref dl] ∧ SqL K H dl (ns.map V.int) ∧ ns.length ≤ 6 ∧
  ∀ (pl : Addr) (ks : List (Addr × (Int × Int))) (H' : Hp), Same H H' → H pl = none → H' pl = some (.lst (ks.map fun p => V.ref p.1)) → (∀ p ∈ ks, H p.1 = none ∧ H' p.1 = some (.tup [.int p.2.1, .int p.2.2])) → ks.map (·.2) = prod ns → Q (.ref pl) H'
abbrev nPa : List Str := ["_law_digits_here", "_law_found", "_law_ahead", "_law_beside"]
theorem scPa : FnScope nPa ["_law_digits_here"] (defScope sPairs) := ⟨rfl, rfl, rfl, by decide +kernel, rfl, by decide +kernel, by decide +kernel⟩
theorem ok_pairs {f : Addr} {fd : FuncData} (F : Fun K "_law_pairs" "_law_pairs" sPairs f fd) : FnOk P w K mg base CX0 1 f fd ["_law_digits_here"] (spPairs K) := by
  refine F.ok scPa (fun vs H Q E h => ?_) (fun cdv A outer s H vs Q E hr h => ?_)
  · obtain ⟨dl, ns, rfl, _⟩ := h
    rfl
  · obtain ⟨dl, ns, rfl, hd, h6, q⟩ := h
    apply Exists.intro
    apply And.intro
    · apply pss_cons
      · exact ps_set (i := 1) scPa.nd rfl (.inl rfl) (pe_lst pa_nil)
      apply pss_cons
      · exact ps_for PassesOwn.never rfl (pi_list (pv 0)) (pg_name (i := 2) scPa.nd rfl (.inr rfl))
          (pss_one (ps_set (i := 1) scPa.nd rfl (.inl rfl) (pe_op op_cat (pv 1) (pe_lc (own := [("_law_beside", 3)]) (g := gName 3) (tt := tYes) rfl scPa.nd (pi_list (pv 0)) (blkOk_by (own := [("_law_beside", 3)]) (N := nPa) (sc := defScope sPairs) (by decide +kernel)) (fun _ _ _ _ _ => pg_name (i := 3) scPa.nd rfl (Or.inl rfl)) (fun _ _ _ _ _ => pts_nil)
            (fun _ _ _ _ _ => by exact (pe_tup (pa_cons (pv 2) (pa_cons (pv 3) pa_nil))))))))
      apply pss_one
      · exact ps_ret (pv 1)
    refine ⟨(by show 0 ≤ sizeLine; decide), fun p0 hp0 => ?_⟩
    have s0 := same_new (o := .lst []) hp0
    refine ⟨.ref dl, rfl, dl, rfl, ⟨_, s0.seq hd⟩, for_list (K := K) (a := dl) (xs := ns.map V.int) (fun i σ H' => ∃ (p : Addr) (v : Option V) (ks : List (Addr × (Int × Int))), σ = [some (.ref dl), some (.ref p), v, none] ∧ Same H H' ∧ H p = none ∧ H' p = some (.lst (ks.map fun p => V.ref p.1)) ∧ (∀ p ∈ ks, H p.1 = none ∧ H' p.1 = some (.tup [.int p.2.1, .int p.2.2])) ∧ ks.map (·.2) = (ns.take i).flatMap fun x => ns.map fun y => (x, y))
      ⟨p0, none, [], rfl, s0, hp0, upd_same, (fun p h => by cases h), rfl⟩ (fun i σ H' _ h => by obtain ⟨_, _, _, _, s, _⟩ := h; exact s.seq hd) ?_ ?_⟩
    · rintro i x σ H1 hx ⟨p, v, ks, rfl, s1, hp, ep, ek, em⟩
      obtain ⟨n, hn, rfl⟩ := get_map hx
      have hlk : ks.length ≤ 36 := by
        have e := congrArg List.length em
        rw [List.length_map, flat_len] at e
        have h1 : (ns.take i).length ≤ 6 := Nat.le_trans (List.length_take_le' _ _) h6
        rw [e]
        exact Nat.le_trans (Nat.mul_le_mul h1 h6) (by decide)
      refine ⟨.ref p, rfl, .ref dl, rfl, dl, rfl, ⟨_, s1.seq hd⟩, fun D hD => ?_⟩
      refine lc_list (K := K) (a := dl) (xs := ns.map V.int) (fun j H' => Same H1 H' ∧ ∃ kk : List (Addr × (Int × Int)), H' D = some (.lst (kk.map fun p => V.ref p.1)) ∧ kk.length = j ∧ (∀ p ∈ kk, H1 p.1 = none ∧ H' p.1 = some (.tup [.int p.2.1, .int p.2.2])) ∧ kk.map (·.2) = (ns.take j).map fun y => (n, y)) ⟨same_new hD, [], upd_same, rfl, (fun p h => by cases h), rfl⟩ (fun j H' _ h => (s1.trans h.1).seq hd) ?_ ?_
      · rintro j y H2 hy ⟨s2, kk, eD, lk, ekk, emk⟩
        obtain ⟨m, hm, rfl⟩ := get_map hy
        have hj : j < ns.length := (List.getElem?_eq_some_iff.mp hm).1
        refine ⟨rfl, tYes_if ⟨.int n, rfl, .int m, rfl, (by show 2 ≤ sizeLine; decide), fun T hT => ?_⟩⟩
        have s3 := same_new (o := .tup [.int n, .int m]) hT
        have hT1 : H1 T = none := s2.free hT
        refine ⟨kk.map (fun p => V.ref p.1), s3 _ _ eD, ?_, Same.store (s2.trans s3) hD, kk ++ [(T, (n, m))], ?_, ?_, fun p hp => ?_, ?_⟩
        · rw [List.length_map, lk]
          exact small1000 (by omega)
        · rw [upd_same, List.map_append]
          rfl
        · rw [List.length_append, lk]
          rfl
        · have nTD : p.1 = T → p.1 ≠ D := fun e z => by
            have h1 := s3 _ _ eD
            rw [← z, e, upd_same] at h1
            cases h1
          rcases List.mem_append.mp hp with h | h
          · obtain ⟨h1, h2⟩ := ekk p h
            refine ⟨h1, ?_⟩
            have h3 := s3 _ _ h2
            rw [upd_ne (fun z => by rw [z] at h2; rw [eD] at h2; cases h2)]
            exact h3
          · cases List.mem_singleton.mp h
            refine ⟨hT1, ?_⟩
            rw [upd_ne (nTD rfl)]
            exact upd_same
        · rw [List.map_append, take_more hm, List.map_append, emk]
          rfl
      · rintro H2 ⟨s2, kk, eD, lk, ekk, emk⟩
        rw [List.length_map] at lk emk
        rw [List.take_length] at emk
        have ep2 := s2 _ _ ep
        refine ⟨p, D, _, _, rfl, rfl, ep2, eD, ?_, fun p3 hp3 => ?_⟩
        · rw [List.length_map, List.length_map, sizeLine_eq]
          omega
        have s4 := same_new (o := .lst ((ks.map fun p => V.ref p.1) ++ kk.map fun p => V.ref p.1)) hp3
        have s14 := s1.trans (s2.trans s4)
        refine ⟨p3, some (.int n), ks ++ kk, rfl, s14, (s1.trans s2).free hp3, ?_, fun r hr2 => ?_, ?_⟩
        · rw [upd_same, List.map_append]
        · rcases List.mem_append.mp hr2 with h | h
          · exact ⟨(ek r h).1, (s2.trans s4) _ _ (ek r h).2⟩
          · exact ⟨s1.free (ekk r h).1, s4 _ _ (ekk r h).2⟩
        · rw [List.map_append, em, emk, take_more hn, List.flatMap_append]
          simp only [List.flatMap_cons, List.flatMap_nil, List.append_nil]
    · rintro σ H1 ⟨p, v, ks, rfl, s1, hp, ep, ek, em⟩
      rw [List.length_map, List.take_length] at em
      exact ⟨_, rfl, q p ks H1 s1 hp ep ek em⟩

/-! ### a scheme's parts, drawn -/
def spScheme : Sp := fun vs H Q _ => ∃ (a : Addr) (n : Int), vs = [.ref a] ∧ Box n H a ∧ n ≤ 700000 ∧
  ∀ (m : Addr) (b : Int) (ns : List Int) (ps : List (Int × Int)) (H' : Hp), But a H H' → Box (n + 100) H' a → Good b ns ps → Model a H' m b ns ps → Q (.ref m) H'
abbrev nSc : List Str := ["_law_box_here", "_law_base", "_law_digits_here", "_law_way", "_law_pairs_here", "_law_pair"]
theorem scSc : FnScope nSc ["_law_box_here"] (defScope sScheme) := ⟨rfl, rfl, rfl, by decide +kernel, rfl, by decide +kernel, by decide +kernel⟩
theorem bases_ok : ∀ b ∈ ([2, -2, 3, -3, 2, -4, 4, 5, -5, 6, -6] : List Int), isBase b = true := by decide
theorem strict_of {ns : List Int} (h : ns.Pairwise (· ≤ ·)) (nd : ns.Nodup) : ns.Pairwise (· < ·) := by
  rw [List.nodup_iff_pairwise_ne] at nd
  exact (h.and nd).imp fun ⟨h1, h2⟩ => by omega
theorem good_of {b : Int} {ns : List Int} {ps : List (Int × Int)} (hb : isBase b = true) (asc : ns.Pairwise (· < ·)) (h1 : 1 ≤ ns.length) (h6 : ns.length ≤ 6) (dg : ∀ n ∈ ns, dig n = true) (sub : ps.Sublist (prod ns)) : Good b ns ps := by
  refine ⟨hb, asc, h1, h6, dg, fun p hp => prod_mem (sub.subset hp), (prod_aux asc asc).sublist sub, ?_⟩
  have e : (prod ns).length = ns.length * ns.length := flat_len ns
  exact Nat.le_trans sub.length_le (by rw [e]; exact Nat.le_trans (Nat.mul_le_mul h6 h6) (by decide))
set_option maxHeartbeats 2000000 in
theorem ok_scheme {f fT fD fP : Addr} {fd fdT fdD fdP : FuncData} (F : Fun K "_law_scheme" "_law_scheme" sScheme f fd) (FT : Fun K "_law_take" "_law_take" sTake fT fdT) (gT : mg "_law_take" = some (.ref fT)) (bT : Binds K fdT ["_law_box_here", "_law_many"] [])
    (GD : FnOk P w K mg base CX0 2 fD fdD ["_law_box_here", "_law_base"] spDigits) (gD : mg "_law_digits" = some (.ref fD)) (kD : PySem.W.keepIn K (.ref fD) = true) (bD : Binds K fdD ["_law_box_here", "_law_base"] [])
    (GP : FnOk P w K mg base CX0 1 fP fdP ["_law_digits_here"] (spPairs K)) (gP : mg "_law_pairs" = some (.ref fP)) (kP : PySem.W.keepIn K (.ref fP) = true) (bP : Binds K fdP ["_law_digits_here"] [])
    (mi : mg "int" = none) (mso : mg "sorted" = none) : FnOk P w K mg base CX0 3 f fd ["_law_box_here"] spScheme := by
  have GT : FnOk P w K mg base CX0 1 fT fdT ["_law_box_here", "_law_many"] spTake := ok_take FT mi
  refine F.ok scSc (fun vs H Q E h => ?_) (fun cdv A outer s H vs Q E hr2 h => ?_)
  · obtain ⟨a, n, rfl, _⟩ := h
    rfl
  · obtain ⟨a, n, rfl, hB, hn, q⟩ := h
    have hr : Room 1 _ := hr2.mono (by decide)
    apply Exists.intro
    apply And.intro
    · apply pss_cons
      · exact ps_set (i := 1) scSc.nd rfl (.inl rfl) (pe_ix ix_list (pe_lst (pa_cons pe_int (pa_cons (pe_un un_neg pe_int) (pa_cons pe_int (pa_cons (pe_un un_neg pe_int) (pa_cons pe_int (pa_cons (pe_un un_neg pe_int) (pa_cons pe_int (pa_cons pe_int (pa_cons (pe_un un_neg pe_int) (pa_cons pe_int (pa_cons (pe_un un_neg pe_int) pa_nil))))))))))))
          (pe_call GT hr (by rfl) gT FT.kp bT .nil pass0 (pa_cons (pv 0) (pa_cons pe_int pa_nil))) (fun _ _ => rfl))
      apply pss_cons
      · exact ps_par (i := 2) (j := 3) rfl scSc.nd rfl rfl (by decide) rfl rfl (pa_cons (pe_callB cr_sorted (by rfl) mso (by decide +kernel) (pa_cons (pe_call GD hr2 (by rfl) gD kD bD .nil pass0 (pa_cons (pv 0) (pa_cons (pv 1) pa_nil))) pa_nil)) (pa_cons (pe_call GT hr (by rfl) gT FT.kp bT .nil pass0 (pa_cons (pv 0) (pa_cons pe_int pa_nil))) pa_nil)) (by rfl)
      apply pss_cons
      · exact ps_set (i := 4) scSc.nd rfl (.inl rfl) (pe_call GP hr (by rfl) gP kP bP .nil pass0 (pa_cons (pv 2) pa_nil))
      apply pss_cons
      · exact ps_if (pt_cmpR op_eq (pv 3) pe_int (nomark _)) (pss_one (ps_ret (pe_lst (pa_cons (pv 1) (pa_cons (pv 2) (pa_cons (pe_lst pa_nil) pa_nil)))))) pss_nil
      apply pss_cons
      · exact ps_if (pt_cmpR op_eq (pv 3) pe_int (nomark _)) (pss_one (ps_ret (pe_lst (pa_cons (pv 1) (pa_cons (pv 2) (pa_cons (pe_lc (own := [("_law_pair", 5)]) (g := gName 5)
            (tt := tAnd (tTest (tOp rNe (tOp (rIxT K) (tVar 5) (tC (.int 0))) (tC (.int 0)))) (tTest (tOp rNe (tOp (rIxT K) (tVar 5) (tC (.int 1))) (tC (.int 0))))) (te := tVar 5) rfl scSc.nd (pi_list (pv 4)) (blkOk_by (own := [("_law_pair", 5)]) (N := nSc) (sc := defScope sScheme) (by decide +kernel)) (fun _ _ _ _ _ => pg_name (i := 5) scSc.nd rfl (Or.inl rfl))
            (fun _ _ _ _ _ => by exact (pts_one (PW.pt (pw_and (pt_cmpR op_ne (pe_ix ix_tup (pv 5) pe_int (fun _ _ => rfl)) pe_int (nomark _)) (pw_and1 (pt_cmpR op_ne (pe_ix ix_tup (pv 5) pe_int (fun _ _ => rfl)) pe_int (nomark _))))))) (fun _ _ _ _ _ => by exact (pv 5))) pa_nil)))))) pss_nil
      apply pss_cons
      · exact ps_if (pt_cmpR op_eq (pv 3) pe_int (nomark _)) (pss_one (ps_ret (pe_lst (pa_cons (pv 1) (pa_cons (pv 2) (pa_cons (pe_lc (own := [("_law_pair", 5)]) (g := gName 5)
            (tt := tTest (tOp rEq (tOp (rIxT K) (tVar 5) (tC (.int 0))) (tOp (rIxT K) (tVar 5) (tC (.int 1))))) (te := tVar 5) rfl scSc.nd (pi_list (pv 4)) (blkOk_by (own := [("_law_pair", 5)]) (N := nSc) (sc := defScope sScheme) (by decide +kernel)) (fun _ _ _ _ _ => pg_name (i := 5) scSc.nd rfl (Or.inl rfl))
            (fun _ _ _ _ _ => by exact (pts_one (pt_cmpR op_eq (pe_ix ix_tup (pv 5) pe_int (fun _ _ => rfl)) (pe_ix ix_tup (pv 5) pe_int (fun _ _ => rfl)) (nomark _)))) (fun _ _ _ _ _ => by exact (pv 5))) pa_nil)))))) pss_nil
      apply pss_one
      · exact ps_ret (pe_lst (pa_cons (pv 1) (pa_cons (pv 2) (pa_cons (pe_lc (own := [("_law_pair", 5)]) (g := gName 5)
            (tt := tTest (tOp rEq (tCall spTake [] E0 (tCons (tVar 0) (tCons (tC (.int 4)) tNil))) (tC (.int 0)))) (te := tVar 5) rfl scSc.nd (pi_list (pv 4)) (blkOk_by (own := [("_law_pair", 5)]) (N := nSc) (sc := defScope sScheme) (by decide +kernel)) (fun _ _ _ _ _ => pg_name (i := 5) scSc.nd rfl (Or.inl rfl))
            (fun _ _ _ _ _ => by exact (pts_one (pt_cmpR op_eq (pe_call GT hr (by rfl) gT FT.kp bT .nil pass0 (pa_cons (pv 0) (pa_cons pe_int pa_nil))) pe_int (nomark _)))) (fun _ _ _ _ _ => by exact (pv 5))) pa_nil))))
    -- the base
    refine ⟨2, rfl, 3, rfl, 4, rfl, 5, rfl, 6, rfl, (by show 11 ≤ sizeLine; decide), fun l0 hl0 => ?_⟩
    have n0 := hB.ne hl0
    refine ⟨.ref a, rfl, a, 11, n, rfl, hB.new hl0, by omega, by decide, by decide, fun r H1 r0 r1 t1 B1 => ?_⟩
    have e0 := t1 _ _ n0 upd_same
    obtain ⟨v, hv, mv⟩ := pick (xs := ([2, -2, 3, -3, 2, -4, 4, 5, -5, 6, -6] : List Int).map V.int) r0 r1
    obtain ⟨b, mb, rfl⟩ := List.mem_map.mp mv
    have hb := bases_ok b mb
    refine ⟨l0, _, r, .int b, rfl, rfl, SqL.of e0, hv, ?_⟩
    have T1 : But a H H1 := (But.new hl0).trans t1
    clear e0 hv mv mb
    -- the digits
    refine ⟨.ref a, rfl, .int b, rfl, a, b, n + 1, rfl, B1, by omega, hb, fun D ns H2 hD t2 B2 eD nd l1 l6 dg => ?_⟩
    refine ⟨D, ns, rfl, SqL.of eD, by omega, fun ns' dl pm srt hdl => ?_⟩
    have ndl := B2.ne hdl
    have asc := strict_of srt (pm.nodup_iff.mpr nd)
    have dg' : ∀ k ∈ ns', dig k = true := fun k hk => dg k (pm.mem_iff.mp hk)
    have l1' : 1 ≤ ns'.length := by rw [pm.length_eq]; exact l1
    have l6' : ns'.length ≤ 6 := by rw [pm.length_eq]; exact l6
    have T2 : But a H (upd H2 dl (.lst (ns'.map V.int))) := (T1.trans t2).trans (But.new hdl)
    refine ⟨.ref a, rfl, a, 4, n + 1 + 30, rfl, B2.new hdl, by omega, by decide, by decide, fun wy H3 w0 w1 t3 B3 => ?_⟩
    have ed := t3 _ _ ndl upd_same
    have T3 := T2.trans t3
    clear pm srt nd dg l1 l6 eD
    refine ⟨.ref dl, .int wy, rfl, ?_⟩
    -- the pairs
    refine ⟨.ref dl, rfl, dl, ns', rfl, SqL.of ed, l6', fun pl ks H4 s4 npl epl ek em => ?_⟩
    have B4 := B3.same s4
    have T4 := T3.trans (But.of_same s4)
    have ed4 := s4 _ _ ed
    have pair : ∀ p ∈ ks, p.1 ≠ a := fun p hp z => by
      obtain ⟨b0, b1, b2, hb0, _⟩ := B3
      have := (ek p hp).1
      rw [z, hb0] at this
      cases this
    have fin : ∀ (H5 : Hp) (fl : Addr) (kk : List (Addr × (Int × Int))) (mo : Addr), But a H4 H5 → Box (n + 90) H5 a → fl ≠ a → H5 fl = some (.lst (kk.map fun p => V.ref p.1)) → kk.Sublist ks → H5 mo = none → Q (.ref mo) (upd H5 mo (.lst [.int b, .ref dl, .ref fl])) := by
      intro H5 fl kk mo t5 B5 nfl efl sub hmo
      have nmo := B5.ne hmo
      have ed5 := t5 _ _ ndl ed4
      have ek5 : ∀ p ∈ kk, H5 p.1 = some (.tup [.int p.2.1, .int p.2.2]) := fun p hp => t5 _ _ (pair p (sub.subset hp)) (ek p (sub.subset hp)).2
      have sub2 : (kk.map (·.2)).Sublist (prod ns') := em ▸ sub.map (·.2)
      refine q mo b ns' (kk.map (·.2)) _ ((T4.trans t5).trans (But.new hmo)) ((B5.new hmo).mono (by omega)) (good_of hb asc l1' l6' dg' sub2) ⟨dl, fl, kk, rfl, fun H6 t6 => ⟨t6 _ _ nmo upd_same, t6 _ _ ndl (same_new hmo _ _ ed5), t6 _ _ nfl (same_new hmo _ _ efl), fun p hp => t6 _ _ (pair p (sub.subset hp)) (same_new hmo _ _ (ek5 p hp))⟩⟩
    have lks : ks.length ≤ 36 := by
      have e := congrArg List.length em
      rw [List.length_map] at e
      have e2 : (prod ns').length = ns'.length * ns'.length := flat_len ns'
      rw [e, e2]
      exact Nat.le_trans (Nat.mul_le_mul l6' l6') (by decide)
    have sub_more : ∀ {i : Nat} {p : Addr × (Int × Int)} {kk : List (Addr × (Int × Int))}, ks[i]? = some p → kk.Sublist (ks.take i) → (kk ++ [p]).Sublist (ks.take (i + 1)) ∧ kk.Sublist (ks.take (i + 1)) := fun {i p kk} hp hs => by
      rw [take_more hp]
      exact ⟨List.Sublist.append hs (List.Sublist.refl _), hs.trans (List.sublist_append_left _ _)⟩
    have small : ∀ {i : Nat} {kk : List (Addr × (Int × Int))}, kk.Sublist (ks.take i) → (kk.map fun p => V.ref p.1).length < sizeLine := fun {i kk} hs => by
      rw [List.length_map]
      have := hs.length_le
      have h2 : (ks.take i).length ≤ ks.length := List.length_take_le' _ _
      exact small1000 (by omega)
    refine ⟨.int wy, rfl, rfl, _, rfl, ite2 (fun c => ?_) (fun c => ?_)⟩
    · refine ⟨.int b, rfl, .ref dl, rfl, (by show 0 ≤ sizeLine; decide), fun fl hfl => ⟨(by show 3 ≤ sizeLine; decide), fun mo hmo => ?_⟩⟩
      exact fin _ fl [] mo (But.new hfl) ((B4.new hfl).mono (by omega)) (B4.ne hfl) upd_same (List.nil_sublist _) hmo
    · refine ⟨.int wy, rfl, rfl, _, rfl, ite2 (fun c1 => ?_) (fun c1 => ?_)⟩
      · refine ⟨.int b, rfl, .ref dl, rfl, .ref pl, rfl, pl, rfl, ⟨_, SqL.of epl⟩, fun D2 hD2 => ?_⟩
        have nD2 := B4.ne hD2
        refine lc_list (K := K) (a := pl) (xs := ks.map fun p => V.ref p.1) (fun i H' => Same H4 H' ∧ ∃ kk, H' D2 = some (.lst (kk.map fun p => V.ref p.1)) ∧ kk.Sublist (ks.take i)) ⟨same_new hD2, [], upd_same, List.nil_sublist _⟩ (fun i H' _ h => SqL.of (h.1 _ _ epl)) ?_ ?_
        · rintro i x H' hx ⟨s5, kk, e5, sub⟩
          obtain ⟨p, hp, rfl⟩ := get_map hx
          have tp := s5 _ _ (ek p (List.mem_of_getElem? hp)).2
          have more := sub_more hp sub
          refine ⟨rfl, .ref p.1, rfl, p.1, _, 0, .int p.2.1, rfl, rfl, SqT.of tp, atI_nat (j := 0) rfl, rfl, _, rfl, ite2 (fun z => ?_) (fun z => ?_)⟩
          · refine ⟨.ref p.1, rfl, p.1, _, 1, .int p.2.2, rfl, rfl, SqT.of tp, atI_nat (j := 1) rfl, rfl, _, rfl, ite2 (fun z2 => ?_) (fun z2 => ?_)⟩
            · exact ⟨.ref p.1, rfl, _, e5, small sub, Same.store s5 hD2, kk ++ [p], by rw [upd_same, List.map_append]; rfl, more.1⟩
            · exact ⟨s5, kk, e5, more.2⟩
          · exact iteF ⟨s5, kk, e5, more.2⟩
        · rintro H' ⟨s5, kk, e5, sub⟩
          refine ⟨(by show 3 ≤ sizeLine; decide), fun mo hmo => fin H' D2 kk mo (But.of_same s5) ((B4.same s5).mono (by omega)) nD2 e5 (sub.trans (List.take_sublist _ _)) hmo⟩
      · refine ⟨.int wy, rfl, rfl, _, rfl, ite2 (fun c2 => ?_) (fun c2 => ?_)⟩
        · refine ⟨.int b, rfl, .ref dl, rfl, .ref pl, rfl, pl, rfl, ⟨_, SqL.of epl⟩, fun D2 hD2 => ?_⟩
          have nD2 := B4.ne hD2
          refine lc_list (K := K) (a := pl) (xs := ks.map fun p => V.ref p.1) (fun i H' => Same H4 H' ∧ ∃ kk, H' D2 = some (.lst (kk.map fun p => V.ref p.1)) ∧ kk.Sublist (ks.take i)) ⟨same_new hD2, [], upd_same, List.nil_sublist _⟩ (fun i H' _ h => SqL.of (h.1 _ _ epl)) ?_ ?_
          · rintro i x H' hx ⟨s5, kk, e5, sub⟩
            obtain ⟨p, hp, rfl⟩ := get_map hx
            have tp := s5 _ _ (ek p (List.mem_of_getElem? hp)).2
            have more := sub_more hp sub
            refine ⟨rfl, .ref p.1, rfl, p.1, _, 0, .int p.2.1, rfl, rfl, SqT.of tp, atI_nat (j := 0) rfl, .ref p.1, rfl, p.1, _, 1, .int p.2.2, rfl, rfl, SqT.of tp, atI_nat (j := 1) rfl, rfl, _, rfl, ite2 (fun z => ?_) (fun z => ?_)⟩
            · exact ⟨.ref p.1, rfl, _, e5, small sub, Same.store s5 hD2, kk ++ [p], by rw [upd_same, List.map_append]; rfl, more.1⟩
            · exact ⟨s5, kk, e5, more.2⟩
          · rintro H' ⟨s5, kk, e5, sub⟩
            refine ⟨(by show 3 ≤ sizeLine; decide), fun mo hmo => fin H' D2 kk mo (But.of_same s5) ((B4.same s5).mono (by omega)) nD2 e5 (sub.trans (List.take_sublist _ _)) hmo⟩
        · refine ⟨.int b, rfl, .ref dl, rfl, .ref pl, rfl, pl, rfl, ⟨_, SqL.of epl⟩, fun D2 hD2 => ?_⟩
          have nD2 := B4.ne hD2
          have npa : pl ≠ a := fun z => by
            obtain ⟨b0, b1, b2, hb0, _⟩ := B3
            rw [z, hb0] at npl
            cases npl
          refine lc_list (K := K) (a := pl) (xs := ks.map fun p => V.ref p.1) (fun i H' => But a H4 H' ∧ Box (n + 32 + i) H' a ∧ ∃ kk, H' D2 = some (.lst (kk.map fun p => V.ref p.1)) ∧ kk.Sublist (ks.take i)) ⟨But.new hD2, (B4.new hD2).mono (by omega), [], upd_same, List.nil_sublist _⟩ (fun i H' _ h => SqL.of (h.1 _ _ npa epl)) ?_ ?_
          · rintro i x H' hx ⟨t5, B5, kk, e5, sub⟩
            obtain ⟨p, hp, rfl⟩ := get_map hx
            have hi : i < ks.length := (List.getElem?_eq_some_iff.mp hp).1
            have more := sub_more hp sub
            refine ⟨rfl, .ref a, rfl, a, 4, n + 32 + i, rfl, B5, by omega, by decide, by decide, fun r2 H6 k0 k1 t6 B6 => ⟨rfl, _, rfl, ite2 (fun z => ?_) (fun z => ?_)⟩⟩
            · exact ⟨.ref p.1, rfl, _, t6 _ _ nD2 e5, small sub, (t5.trans t6).store hD2, (B6.upd nD2).mono (by omega), kk ++ [p], by rw [upd_same, List.map_append]; rfl, more.1⟩
            · exact ⟨t5.trans t6, B6.mono (by omega), kk, t6 _ _ nD2 e5, more.2⟩
          · rintro H' ⟨t5, B5, kk, e5, sub⟩
            rw [List.length_map] at B5
            refine ⟨(by show 3 ≤ sizeLine; decide), fun mo hmo => fin H' D2 kk mo t5 (B5.mono (by omega)) nD2 e5 (sub.trans (List.take_sublist _ _)) hmo⟩
end
end K07
namespace K07
open PySem PySem.Spec PyProof.Rows L2 OF
section
variable {P : Program} {w : World} {K : PySem.W.Frag} {mg : Str → Option Value} {base : Heap}

/-! ### a scheme made of the law's parts -/
def gApp {α : Type} (us ws : List α) : List α := us ++ ws
theorem kbNew {f : Addr} {fd : FuncData} (F : Fun K "__init__" "Scheme.__init__" sInit f fd) : KBn K fd ["self", "base", "digits", "bars"] 3 ["bars"] gApp gApp := by
  obtain ⟨oc, od, kV, doc, pm, an, cdv, ct, osl, rfl, lk, hcd⟩ := F.ex
  refine ⟨fun s us ws X l1 l2 => ?_, fun {vs us zs ws} r1 r2 => r1.append r2⟩
  match us, ws, l1, l2 with
  | [x, y, z], [v], _, _ => exact .of_eq rfl
theorem lexP_tot {p q : Int × Int} (h : SrtO.lexB q p = false) (n : p ≠ q) : lexP p q := by
  have h2 : ¬ (q.1 < p.1 ∨ (q.1 = p.1 ∧ q.2 < p.2)) := fun z => by
    rw [SrtO.lexB_iff.mpr z] at h
    cases h
  unfold lexP
  rcases p with ⟨p1, p2⟩
  rcases q with ⟨q1, q2⟩
  have h3 : ¬ (p1 = q1 ∧ p2 = q2) := fun z => n (by rw [z.1, z.2])
  simp only at h2 ⊢
  omega
def spMade (C : Addr) : Sp := fun vs H Q _ => ∃ (m dl pl : Addr) (b : Int) (ns : List Int) (ks : List (Addr × (Int × Int))), vs = [.ref m] ∧ ModAt H m dl pl b ns ks ∧ Good b ns (ks.map (·.2)) ∧
  ∀ (sa t r : Addr) (L : List (Addr × (Int × Int))) (H' : Hp), Same H H' → SchemeAt C H' sa t r b ns L → L.map (·.2) = ks.map (·.2) → Q (.ref sa) H'
theorem scMd : FnScope ["_law_model"] ["_law_model"] (defScope sMade) := ⟨rfl, rfl, rfl, by decide +kernel, rfl, by decide +kernel, by decide +kernel⟩
theorem ok_made {f fN C : Addr} {fd fdN : FuncData} (F : Fun K "_law_made" "_law_made" sMade f fd) (FN : Fun K "__init__" "Scheme.__init__" sInit fN fdN) (M : Mk K C fN) (gC : mg "Scheme" = some (.ref C))
    (GN : FnOk P w K mg base (L2.CX P w) 7 fN fdN ["self", "base", "digits", "bars"] (spNew K C)) : FnOk P w K mg base CX0 9 f fd ["_law_model"] (spMade C) := by
  refine F.ok scMd (fun vs H Q E h => ?_) (fun cdv A outer s H vs Q E hr h => ?_)
  · obtain ⟨m, dl, pl, b, ns, ks, rfl, _⟩ := h
    rfl
  · obtain ⟨m, dl, pl, b, ns, ks, rfl, ⟨hm, hd, hp, hk⟩, G, q⟩ := h
    apply Exists.intro
    apply And.intro
    · apply pss_one
      · exact ps_ret (pe_makeK M GN hr (by rfl) gC (kbNew FN) passNo (pa_cons (pe_ix ix_list (pv 0) pe_int (fun _ _ => rfl)) (pa_cons (pe_ix ix_list (pv 0) pe_int (fun _ _ => rfl)) pa_nil)) (pk_cons (pe_ix ix_list (pv 0) pe_int (fun _ _ => rfl)) pk_nil))
    refine ⟨.ref m, rfl, m, _, 0, .int b, rfl, rfl, SqL.of hm, atI_nat (j := 0) rfl, .ref m, rfl, m, _, 1, .ref dl, rfl, rfl, SqL.of hm, atI_nat (j := 1) rfl, .ref m, rfl, m, _, 2, .ref pl, rfl, rfl, SqL.of hm, atI_nat (j := 2) rfl, rfl, rfl, fun x dx hx hdx ndx => ?_⟩
    have s1 : Same H (upd (upd H dx (.own x)) x (.ins C dx [])) := fun c o hc => by
      rw [upd_ne (ne_of_none hc hx), upd_ne (ne_of_none hc hdx)]
      exact hc
    have ex : (upd (upd H dx (.own x)) x (.ins C dx [])) x = some (.ins C dx []) := upd_same
    generalize upd (upd H dx (.own x)) x (.ins C dx []) = H1 at s1 ex ⊢
    have few : ks.length < 64 := by
      have := G.few
      rw [List.length_map] at this
      omega
    refine ⟨x, dx, dl, pl, b, ns, ks.map fun p => (p.1, [p.2.1, p.2.2]), rfl, ex, G.b, .inl (s1 _ _ hd), (by have := G.six; omega), List.all_eq_true.mpr G.dg, fun k nd mem => ?_, ?_, by rw [List.length_map]; exact few, fun p hp => ?_, ?_⟩
    · have pm : k.Perm ns := (List.perm_ext_iff_of_nodup nd (by rw [List.nodup_iff_pairwise_ne]; exact G.asc.imp fun h => by omega)).mpr mem
      rw [pm.length_eq]
      exact ⟨G.one, G.six⟩
    · rw [s1 _ _ hp, List.map_map]
      rfl
    · obtain ⟨z, hz, rfl⟩ := List.mem_map.mp hp
      have mm := G.mem z.2 (List.mem_map.mpr ⟨z, hz, rfl⟩)
      exact ⟨z.2.1, z.2.2, rfl, s1 _ _ (hk z hz), mm.1, mm.2⟩
    · intro ds L t r H2 asc mds sub all nd pw t2 e1 e2 e3
      have eds : ds = ns := sorted_ext (r := (· < ·)) (fun a b h => by omega) asc G.asc mds
      subst eds
      have two : ∀ p ∈ L, p.2 = [(duo p.2).1, (duo p.2).2] := fun p hp => by
        obtain ⟨z, _, rfl⟩ := List.mem_map.mp (sub p hp)
        rfl
      have eL : (L.map fun p => (p.1, duo p.2)).map (·.2) = ks.map (·.2) := by
        refine sorted_ext lexP_as ?_ G.lex fun z => ?_
        · rw [List.map_map, List.pairwise_map]
          rw [List.nodup_iff_pairwise_ne, List.pairwise_map] at nd
          refine List.Pairwise.imp_of_mem (fun {q1 q2} h1 h2 ⟨z1, z2⟩ => ?_) (pw.and nd)
          refine lexP_tot z1 fun e => z2 ?_
          have e2 : duo q1.2 = duo q2.2 := e
          rw [two q1 h1, two q2 h2, e2]
        · constructor
          · intro hz
            rw [List.map_map] at hz
            obtain ⟨p, hp, rfl⟩ := List.mem_map.mp hz
            obtain ⟨k, hk2, rfl⟩ := List.mem_map.mp (sub p hp)
            exact List.mem_map.mpr ⟨k, hk2, rfl⟩
          · intro hz
            obtain ⟨k, hk2, rfl⟩ := List.mem_map.mp hz
            obtain ⟨p, hp, ep⟩ := List.mem_map.mp (all (k.1, [k.2.1, k.2.2]) (List.mem_map.mpr ⟨k, hk2, rfl⟩))
            rw [List.map_map]
            refine List.mem_map.mpr ⟨p, hp, ?_⟩
            show duo p.2 = k.2
            rw [ep]
            rfl
      have S2 : Same H H2 := fun c o hc => t2 _ _ (ne_of_none hc hx) (s1 _ _ hc)
      refine ⟨rfl, q x t r (L.map fun p => (p.1, duo p.2)) H2 S2 ⟨⟨dx, e1⟩, e2, ?_, fun p hp => ?_⟩ eL⟩
      · rw [e3, List.map_map]
        rfl
      · obtain ⟨z, hz, rfl⟩ := List.mem_map.mp hp
        obtain ⟨k, hk2, rfl⟩ := List.mem_map.mp (sub z hz)
        exact S2 _ _ (hk k hk2)

/-! ### the law's own look at a row -/
def hasP (ps : List (Int × Int)) (x y : Int) : Bool := (ps.map pd2).any fun z => PyData.eqv z (pd2 (x, y))
def adjR (ps : List (Int × Int)) : List Int → Bool
  | x :: y :: l => !hasP ps x y && adjR ps (y :: l)
  | _ => true
def rowI (ns : List Int) (ps : List (Int × Int)) (ls : List Int) : Bool := ls.all (fun x => decide (x ∈ ns)) && adjR ps ls
theorem adjR_iff {ps : List (Int × Int)} : ∀ {ls : List Int}, adjR ps ls = true ↔ ∀ (i : Nat) (x y : Int), ls[i]? = some x → ls[i + 1]? = some y → hasP ps x y = false
  | [] => by
    refine ⟨fun _ i x y h => by simp at h, fun _ => rfl⟩
  | [u] => by
    refine ⟨fun _ i x y h1 h2 => ?_, fun _ => rfl⟩
    simp at h2
  | u :: v :: l => by
    unfold adjR
    rw [Bool.and_eq_true, adjR_iff (ls := v :: l)]
    constructor
    · rintro ⟨h1, h2⟩ i x y hx hy
      cases i with
      | zero =>
        cases Option.some.inj hx
        cases Option.some.inj hy
        cases e : hasP ps u v with
        | false => rfl
        | true => rw [e] at h1; cases h1
      | succ i => exact h2 i x y hx hy
    · intro h
      refine ⟨?_, fun i x y hx hy => h (i + 1) x y hx hy⟩
      rw [h 0 u v rfl rfl]
      rfl
theorem row_same {ns : List Int} {ks : List (Addr × (Int × Int))} {ps : List (Int × Int)} (hk : ks.map (·.2) = ps) (dg : ∀ n ∈ ns, dig n = true) : ∀ ls : List Int, rowB ns ks (ls.map V.int) = rowI ns ps ls := by
  have one : ∀ x : Int, isOne ns x = decide (x ∈ ns) := fun x => by
    unfold isOne
    by_cases h : x ∈ ns
    · rw [dg x h, Bool.true_and]
    · rw [decide_eq_false h, Bool.and_false]
  have bar : ∀ x y : Int, hasBar ks x y = hasP ps x y := fun x y => by
    unfold hasBar hasP
    rw [← hk, List.map_map]
    rfl
  intro ls
  induction ls with
  | nil => rfl
  | cons x l ih =>
    cases l with
    | nil =>
      show (isOne ns x && true) = ((decide (x ∈ ns) && true) && true)
      rw [one, Bool.and_true, Bool.and_true]
    | cons y l =>
      have e1 : rowB ns ks ((x :: y :: l).map V.int) = ((isOne ns x && (isOne ns y && !hasBar ks x y)) && rowB ns ks ((y :: l).map V.int)) := rfl
      rw [e1, ih, one, one, bar]
      show ((decide (x ∈ ns) && (decide (y ∈ ns) && !hasP ps x y)) && ((decide (y ∈ ns) && l.all fun x => decide (x ∈ ns)) && adjR ps (y :: l))) = ((decide (x ∈ ns) && (decide (y ∈ ns) && l.all fun x => decide (x ∈ ns))) && (!hasP ps x y && adjR ps (y :: l)))
      cases decide (x ∈ ns) <;> cases decide (y ∈ ns) <;> cases hasP ps x y <;> cases (l.all fun x => decide (x ∈ ns)) <;> cases adjR ps (y :: l) <;> rfl
theorem eqv_nilL : ∀ ds : List PyData, PyData.eqv (.list ds) (.list []) = ds.isEmpty
  | [] => by simp [PyData.eqv, PyData.eqvAll]
  | d :: ds => by simp [PyData.eqv, PyData.eqvAll]
theorem nil_shaped : SeqAt.shaped (.list []) = true := by decide +kernel
theorem ps_shaped {ks : List (Addr × (Int × Int))} {ps : List (Int × Int)} (e : ks.map (·.2) = ps) : SeqAt.shaped (.list (ps.map pd2)) = true := by
  obtain ⟨h1, h2⟩ := bars_can ks
  have e2 : (ks.map fun p => pd2 p.2) = ps.map pd2 := by rw [← e, List.map_map]; rfl
  rw [e2] at h1 h2
  refine shaped_of ?_ ?_
  · simp only [PyData.canLay0, h1]
  · simp only [PyData.depth]
    omega
theorem ps_dp {K : PySem.W.Frag} {H : Hp} {pl : Addr} {ks : List (Addr × (Int × Int))} {ps : List (Int × Int)} (e : ks.map (·.2) = ps) (hp : H pl = some (.lst (ks.map fun p => V.ref p.1))) (hk : ∀ p ∈ ks, H p.1 = some (.tup [.int p.2.1, .int p.2.2])) : Dp K H (.ref pl) (.list (ps.map pd2)) := by
  have e2 : (ks.map fun p => pd2 p.2) = ps.map pd2 := by rw [← e, List.map_map]; rfl
  rw [← e2]
  exact .lst (SqL.of hp) (bars_dp ks hk)
def spIsRow : Sp := fun vs H Q _ => ∃ (m dl pl p : Addr) (b : Int) (ns ls : List Int) (ks : List (Addr × (Int × Int))), vs = [.ref m, .ref p] ∧ ModAt H m dl pl b ns ks ∧ H p = some (.tup (ls.map V.int)) ∧ ls.length ≤ 1000 ∧
  ∀ H', Same H H' → Q (.bl (rowI ns (ks.map (·.2)) ls)) H'
abbrev nIr : List Str := ["_law_model", "_law_line", "_law_digit", "_law_k"]
theorem scIr : FnScope nIr ["_law_model", "_law_line"] (defScope sIsRow) := ⟨rfl, rfl, rfl, by decide +kernel, rfl, by decide +kernel, by decide +kernel⟩
theorem in_list_ints (n : Int) (ds : List Int) : inV (.int n) (ds.map V.int) = decide (n ∈ ds) := in_ints n ds
set_option maxHeartbeats 2000000 in
theorem ok_isrow {f : Addr} {fd : FuncData} (F : Fun K "_law_is_row" "_law_is_row" sIsRow f fd) (ml : mg "len" = none) (mr : mg "range" = none) : FnOk P w K mg base CX0 1 f fd ["_law_model", "_law_line"] spIsRow := by
  refine F.ok scIr (fun vs H Q E h => ?_) (fun cdv A outer s H vs Q E hr h => ?_)
  · obtain ⟨m, dl, pl, p, b, ns, ls, ks, rfl, _⟩ := h
    rfl
  · obtain ⟨m, dl, pl, p, b, ns, ls, ks, rfl, M, hp, hl, q⟩ := h
    have hu : A.units + 3 + 65 < cLine := by
      have := hr.un
      have e : (A.deeper (envOfC "_law_is_row" (defScope sIsRow) s.heap.objs.size f cdv)).units = A.units + 3 := rfl
      omega
    apply Exists.intro
    apply And.intro
    · apply pss_cons
      · exact ps_if (pt_cmpR (op_neD hr.units) (pe_lc (own := [("_law_digit", 2)]) (g := gName 2) (tt := tTest (tOp (rIn K true) (tVar 2) (tOp (rIxL K) (tVar 0) (tC (.int 1))))) (te := tVar 2) rfl scIr.nd (pi_tup (pv 1)) (blkOk_by (own := [("_law_digit", 2)]) (N := nIr) (sc := defScope sIsRow) (by decide +kernel)) (fun _ _ _ _ _ => pg_name (i := 2) scIr.nd rfl (Or.inl rfl))
            (fun _ _ _ _ _ => by exact (pts_one (pt_cmpR op_notIn_seq (pv 2) (pe_ix ix_list (pv 0) pe_int (fun _ _ => rfl)) rfl))) (fun _ _ _ _ _ => by exact (pv 2))) (pe_lst pa_nil) (nomark _)) (pss_one (ps_ret pe_bl)) pss_nil
      apply pss_one
      · exact ps_ret (pe_cmpR (op_eqD hr.units) (pe_lc (own := [("_law_k", 3)]) (g := gName 3) (tt := tTest (tOp (rInD K) (tTup (tCons (tOp (rIxT K) (tVar 1) (tOp (rI0 fun i j => .int (i - j)) (tVar 3) (tC (.int 1)))) (tCons (tOp (rIxT K) (tVar 1) (tVar 3)) tNil))) (tOp (rIxL K) (tVar 0) (tC (.int 2))))) (te := tVar 3) rfl scIr.nd (pi_range2 rfl mr (pa_cons pe_int (pa_cons (pe_callB call_len_seq (by rfl) ml PySem.boot_len (pa_cons (pv 1) pa_nil)) pa_nil))) (blkOk_by (own := [("_law_k", 3)]) (N := nIr) (sc := defScope sIsRow) (by decide +kernel)) (fun _ _ _ _ _ => pg_name (i := 3) scIr.nd rfl (Or.inl rfl))
            (fun _ _ _ _ _ => by exact (pts_one (pt_cmpR (op_inD hu) (pe_tup (pa_cons (pe_ix ix_tup (pv 1) (pe_op op_sub (pv 3) pe_int) (fun _ _ => rfl)) (pa_cons (pe_ix ix_tup (pv 1) (pv 3) (fun _ _ => rfl)) pa_nil))) (pe_ix ix_list (pv 0) pe_int (fun _ _ => rfl)) rfl))) (fun _ _ _ _ _ => by exact (pv 3))) (pe_lst pa_nil) (nomark _))
    refine ⟨.ref p, rfl, p, rfl, ⟨_, SqT.of hp⟩, fun D hD => ?_⟩
    refine lc_tup (K := K) (a := p) (xs := ls.map V.int) (fun i H' => Same H H' ∧ H' D = some (.lst (((ls.take i).filter fun x => !decide (x ∈ ns)).map V.int))) ⟨same_new hD, upd_same⟩ (fun i H' _ h => SqT.of (h.1 _ _ hp)) ?_ ?_
    · rintro i x H1 hx ⟨s1, e1⟩
      obtain ⟨n, hn, rfl⟩ := get_map hx
      have M1 := M.same s1
      refine ⟨rfl, .int n, rfl, .ref m, rfl, m, _, 1, .ref dl, rfl, rfl, SqL.of M1.mo, atI_nat (j := 1) rfl, dl, _, rfl, .inl (SqL.of M1.di), rfl, flat_ints ns, _, rfl, ?_⟩
      have ein : inV (.int n) (ns.map V.int) = decide (n ∈ ns) := in_ints n ns
      rw [if_pos rfl, ein]
      by_cases hin : n ∈ ns
      · rw [decide_eq_true hin]
        refine iteF ⟨s1, ?_⟩
        rw [take_more hn, List.filter_append]
        rw [e1]
        simp [hin]
      · rw [decide_eq_false hin]
        refine iteT ⟨.int n, rfl, _, e1, ?_, Same.store s1 hD, ?_⟩
        · rw [List.length_map]
          refine Nat.lt_of_le_of_lt (Nat.le_trans (List.length_filter_le _ _) (List.length_take_le' _ _)) (small1000 hl)
        · rw [upd_same, take_more hn, List.filter_append, List.map_append]
          simp [hin]
    · rintro H1 ⟨s1, e1⟩
      rw [List.length_map, List.take_length] at e1
      refine ⟨(by show 0 ≤ sizeLine; decide), fun l0 hl0 => ?_⟩
      have s2 := same_new (o := .lst []) hl0
      refine ⟨.list ((ls.filter fun x => !decide (x ∈ ns)).map .int), .list [], .lst (SqL.of (s2 _ _ e1)) (dp_ints _), .lst (SqL.of upd_same) .nil, ints_shapedL _, nil_shaped, _, rfl, ?_⟩
      rw [eqv_nilL]
      have sA := s1.trans s2
      cases hf : ls.all (fun x => decide (x ∈ ns)) with
      | false =>
        have ne : (ls.filter fun x => !decide (x ∈ ns)).isEmpty = false := by
          rw [Bool.eq_false_iff]
          intro z
          have z2 := List.isEmpty_iff.mp z
          have : ls.all (fun x => decide (x ∈ ns)) = true := List.all_eq_true.mpr fun x hx => by
            cases hd : decide (x ∈ ns) with
            | true => rfl
            | false =>
              have : x ∈ ls.filter fun x => !decide (x ∈ ns) := List.mem_filter.mpr ⟨hx, by rw [hd]; rfl⟩
              rw [z2] at this
              cases this
          rw [this] at hf
          cases hf
        refine iteTB (by rw [List.isEmpty_map, ne]; rfl) ?_
        have z := q _ sA
        unfold rowI at z
        rw [hf, Bool.false_and] at z
        exact z
      | true =>
        have ne : (ls.filter fun x => !decide (x ∈ ns)) = [] := by
          rw [List.filter_eq_nil_iff]
          intro x hx
          rw [List.all_eq_true.mp hf x hx]
          decide
        refine iteFB (by rw [ne]; rfl) ?_
        generalize upd H1 l0 (.lst []) = H2 at sA ⊢
        refine ⟨.ref p, rfl, p, _, rfl, .inr (SqT.of (sA _ _ hp)), 1, ((ls.map V.int).length : Int), rfl, ⟨by decide, by decide, by rw [List.length_map]; omega, by rw [List.length_map]; omega⟩, fun D2 hD2 => ?_⟩
        refine lc_range (lo := 1) (n := (((ls.map V.int).length : Int) - 1).toNat) (fun i H' => Same H2 H' ∧ ∃ is : List Int, H' D2 = some (.lst (is.map V.int)) ∧ is.length ≤ i ∧ (is = [] ↔ ∀ (j : Nat) (x y : Int), j < i → ls[j]? = some x → ls[j + 1]? = some y → hasP (ks.map (·.2)) x y = false)) ⟨same_new hD2, [], upd_same, Nat.le_refl _, ⟨fun _ j x y h => by omega, fun _ => rfl⟩⟩ ?_ ?_
        · rintro i H3 hi ⟨s3, is, e3, l3, iff3⟩
          rw [List.length_map] at hi
          have hi1 : i + 1 < ls.length := by omega
          have hi0 : i < ls.length := by omega
          have sB := sA.trans s3
          have hp3 := sB _ _ hp
          have g0 : (ls.map V.int)[i]? = some (.int ls[i]) := by rw [List.getElem?_map, List.getElem?_eq_getElem hi0]; rfl
          have g1 : (ls.map V.int)[i + 1]? = some (.int ls[i + 1]) := by rw [List.getElem?_map, List.getElem?_eq_getElem hi1]; rfl
          have q0 : (1 + (i : Int)) - 1 = ((i : Nat) : Int) := by omega
          have q1 : (1 + (i : Int)) = ((i + 1 : Nat) : Int) := by omega
          refine ⟨rfl, .ref p, rfl, .int (1 + i), rfl, 1 + i, 1, rfl, rfl, p, _, (1 + (i : Int)) - 1, .int ls[i], rfl, rfl, SqT.of hp3, (by rw [q0]; exact atI_nat g0), .ref p, rfl, .int (1 + i), rfl, p, _, 1 + i, .int ls[i + 1], rfl, rfl, SqT.of hp3, (by rw [q1]; exact atI_nat g1), (by show 2 ≤ sizeLine; decide), fun T hT => ?_⟩
          have s4 := same_new (o := .tup [.int ls[i], .int ls[i + 1]]) hT
          have M4 := M.same (sB.trans s4)
          refine ⟨.ref m, rfl, m, _, 2, .ref pl, rfl, rfl, SqL.of M4.mo, atI_nat (j := 2) rfl, pd2 (ls[i], ls[i + 1]), (ks.map (·.2)).map pd2, .tup (SqT.of upd_same) (.cons (.int _) (.cons (.int _) .nil)), ps_dp rfl M4.pa M4.pr, pd2_shaped _, ps_shaped rfl, _, rfl, ?_⟩
          have e4 := s4 _ _ e3
          cases hh : hasP (ks.map (·.2)) ls[i] ls[i + 1] with
          | false =>
            refine iteFB hh ⟨s3.trans s4, is, e4, by omega, ?_⟩
            rw [iff3]
            constructor
            · intro z j x y hj hx hy
              rcases Nat.lt_or_ge j i with hlt | hge
              · exact z j x y hlt hx hy
              · have e : j = i := by omega
                subst e
                rw [List.getElem?_eq_getElem hi0] at hx
                rw [List.getElem?_eq_getElem hi1] at hy
                cases Option.some.inj hx
                cases Option.some.inj hy
                exact hh
            · intro z j x y hj hx hy
              exact z j x y (by omega) hx hy
          | true =>
            refine iteTB hh ⟨.int (1 + i), rfl, _, e4, ?_, Same.store (s3.trans s4) hD2, is ++ [1 + (i : Int)], ?_, ?_, ?_⟩
            · rw [List.length_map]
              exact small1000 (by omega)
            · rw [upd_same, List.map_append]
              rfl
            · rw [List.length_append]
              show is.length + 1 ≤ i + 1
              omega
            · constructor
              · intro z
                exact absurd z (by simp)
              · intro z
                have := z i _ _ (by omega) (List.getElem?_eq_getElem hi0) (List.getElem?_eq_getElem hi1)
                rw [this] at hh
                cases hh
        · rintro H3 ⟨s3, is, e3, l3, iff3⟩
          rw [List.length_map] at iff3
          refine ⟨(by show 0 ≤ sizeLine; decide), fun l1 hl1 => ?_⟩
          have s4 := same_new (o := .lst []) hl1
          refine ⟨.list (is.map .int), .list [], .lst (SqL.of (s4 _ _ e3)) (dp_ints _), .lst (SqL.of upd_same) .nil, ints_shapedL _, nil_shaped, ?_⟩
          rw [eqv_nilL, List.isEmpty_map]
          have z := q _ (sA.trans (s3.trans s4))
          have eb : is.isEmpty = adjR (ks.map (·.2)) ls := by
            rw [Bool.eq_iff_iff, List.isEmpty_iff, iff3, adjR_iff]
            constructor
            · intro z j x y hx hy
              have := (List.getElem?_eq_some_iff.mp hy).1
              exact z j x y (by omega) hx hy
            · intro z j x y _ hx hy
              exact z j x y hx hy
          unfold rowI at z
          rw [hf, Bool.true_and] at z
          rw [eb]
          exact z
end
end K07
namespace K07
open PySem PySem.Spec PyProof.Rows L2 OF
abbrev sFig : Stmt := inClass (topS 2) 0
abbrev sInBase : Stmt := inClass (topS 3) 0
abbrev sInDig : Stmt := inClass (topS 4) 0
abbrev sInBars : Stmt := inClass (topS 5) 0
abbrev sInR : Stmt := inClass (topS 6) 0
section
variable {P : Program} {w : World} {K : PySem.W.Frag} {mg : Str → Option Value} {base : Heap}

/-! ### the law's own value -/
def spValue : Sp := fun vs H Q _ => ∃ (b : Int) (p : Addr) (ns : List Int), vs = [.int b, .ref p] ∧ H p = some (.tup (ns.map V.int)) ∧ b.natAbs ≤ 6 ∧ Q (.int (valI b ns)) H
abbrev nVa : List Str := ["_law_base", "_law_line", "_law_total", "_law_digit"]
theorem scVa : FnScope nVa ["_law_base", "_law_line"] (defScope sValue) := ⟨rfl, rfl, rfl, by decide +kernel, rfl, by decide +kernel, by decide +kernel⟩
theorem ok_value {f : Addr} {fd : FuncData} (F : Fun K "_law_value" "_law_value" sValue f fd) : FnOk P w K mg base CX0 1 f fd ["_law_base", "_law_line"] spValue := by
  refine F.ok scVa (fun vs H Q E h => ?_) (fun cdv A outer s H vs Q E hr h => ?_)
  · obtain ⟨b, p, ns, rfl, _⟩ := h
    rfl
  · obtain ⟨b, p, ns, rfl, hp, hb, q⟩ := h
    refine ⟨_, pss_cons (ps_set (i := 2) scVa.nd rfl (.inl rfl) pe_int) (pss_cons (ps_for PassesOwn.never rfl (pi_tup (pv 1)) (pg_name (i := 3) scVa.nd rfl (.inl rfl)) (pss_one (ps_set (i := 2) scVa.nd rfl (.inl rfl) (pe_op op_add (pe_op op_mul (pv 2) (pv 0)) (pv 3))))) (pss_one (ps_ret (pv 2)))), ?_⟩
    refine ⟨.ref p, rfl, p, rfl, ⟨_, SqT.of hp⟩, for_tup (K := K) (a := p) (xs := ns.map V.int) (fun i σ H2 => (∃ v, σ = [some (.int b), some (.ref p), some (.int (valI b (ns.take i))), v]) ∧ H2 = H) ⟨⟨none, rfl⟩, rfl⟩ (fun i σ H2 _ h => by rw [h.2]; exact SqT.of hp) ?_ ?_⟩
    · rintro i x σ H2 hx ⟨⟨v, rfl⟩, rfl⟩
      obtain ⟨n, hn, rfl⟩ := get_map hx
      refine ⟨_, rfl, .int b, rfl, _, _, rfl, rfl, .inr ⟨by omega, by omega⟩, .int n, rfl, _, _, rfl, rfl, ⟨some (.int n), ?_⟩, rfl⟩
      rw [take_more hn]
      unfold valI
      rw [List.foldl_append]
      rfl
    · rintro σ H2 ⟨⟨v, rfl⟩, rfl⟩
      rw [List.length_map, List.take_length]
      exact ⟨_, rfl, q⟩

/-! ### a row, drawn -/
def spRow : Sp := fun vs H Q _ => ∃ (a m : Addr) (n many b : Int) (ns : List Int) (ps : List (Int × Int)), vs = [.ref a, .ref m, .int many] ∧ Box n H a ∧ n ≤ 700000 ∧ Model a H m b ns ps ∧ ns.length ≤ 6 ∧ 0 ≤ many ∧ many ≤ 300 ∧
  ∀ (p : Addr) (ls : List Int) (H' : Hp), But a H H' → Box (n + 300) H' a → H' p = some (.tup (ls.map V.int)) → ls.length ≤ 300 → (∀ x ∈ ls, x ∈ ns) → Q (.ref p) H'
abbrev nRw : List Str := ["_law_box_here", "_law_model", "_law_many", "_law_line", "_law_k", "_law_some", "_law_digit"]
theorem scRw : FnScope nRw ["_law_box_here", "_law_model", "_law_many"] (defScope sRow) := ⟨rfl, rfl, rfl, by decide +kernel, rfl, by decide +kernel, by decide +kernel⟩
set_option maxHeartbeats 2000000 in
theorem ok_row {f fT : Addr} {fd fdT : FuncData} (F : Fun K "_law_row" "_law_row" sRow f fd) (FT : Fun K "_law_take" "_law_take" sTake fT fdT) (gT : mg "_law_take" = some (.ref fT)) (bT : Binds K fdT ["_law_box_here", "_law_many"] [])
    (mi : mg "int" = none) (ml : mg "len" = none) (mr : mg "range" = none) (mt : mg "tuple" = none) : FnOk P w K mg base CX0 2 f fd ["_law_box_here", "_law_model", "_law_many"] spRow := by
  have GT : FnOk P w K mg base CX0 1 fT fdT ["_law_box_here", "_law_many"] spTake := ok_take FT mi
  refine F.ok scRw (fun vs H Q E h => ?_) (fun cdv A outer s H vs Q E hr h => ?_)
  · obtain ⟨a, m, n, many, b, ns, ps, rfl, _⟩ := h
    rfl
  · obtain ⟨a, m, n, many, b, ns, ps, rfl, hB, hn, ⟨dl, pl, ks, rfl, MM⟩, h6, hm0, hm1, q⟩ := h
    have hu : A.units + 3 + 65 < cLine := by
      have := hr.un
      have e : (A.deeper (envOfC "_law_row" (defScope sRow) s.heap.objs.size f cdv)).units = A.units + 3 := rfl
      omega
    apply Exists.intro
    apply And.intro
    · apply pss_cons
      · exact ps_set (i := 3) scRw.nd rfl (.inr rfl) (pe_lst pa_nil)
      apply pss_cons
      · exact ps_for PassesOwn.never rfl (pi_range1 rfl mr (pa_cons (pv 2) pa_nil)) (pg_name (i := 4) scRw.nd rfl (.inl rfl))
          (pss_cons (ps_setLc (i := 5) (own := [("_law_digit", 6)]) (g := gName 6) (tt := tOr (tTest (tOp (rEqD K) (tVar 3) (tLst tNil))) (tTest (tOp (rNotInD K) (tTup (tCons (tOp (rIxL K) (tVar 3) (tUn (rU fun i => .int (-i)) (tC (.int 1)))) (tCons (tVar 6) tNil))) (tOp (rIxL K) (tVar 1) (tC (.int 2)))))) (te := tVar 6) rfl scRw.nd rfl rfl (sw_true rfl rfl rfl (by decide +kernel)) (pi_list (pe_ix ix_list (pv 1) pe_int (fun _ _ => rfl)))
              (blkOk_by (own := [("_law_digit", 6)]) (N := nRw) (sc := defScope sRow) (by decide +kernel)) (fun _ _ _ _ _ => pg_name (i := 6) scRw.nd rfl (Or.inl rfl))
              (fun _ _ _ _ _ => by exact (pts_one (PW.pt (pw_or (pt_cmpR (op_eqD hr.units) (pv 3) (pe_lst pa_nil) (nomark _)) (pw_or1 (pt_cmpR (op_notInD hu) (pe_tup (pa_cons (pe_ix ix_list (pv 3) (pe_un un_neg pe_int) (fun _ _ => rfl)) (pa_cons (pv 6) pa_nil))) (pe_ix ix_list (pv 1) pe_int (fun _ _ => rfl)) rfl)))))) (fun _ _ _ _ _ => by exact (pv 6)))
          (pss_one (ps_if (pt_cmpR (op_neD hr.units) (pv 5) (pe_lst pa_nil) (nomark _)) (pss_one (ps_expr (pe_bm PySem.F.plainAttrs_list PySem.F.slot_list_append PySem.F.type_list_append mt_append (pv 3) (pa_cons (pe_ix ix_list (pv 5) (pe_call GT hr (by rfl) gT FT.kp bT .nil pass0 (pa_cons (pv 0) (pa_cons (pe_callB call_len_seq (by rfl) ml PySem.boot_len (pa_cons (pv 5) pa_nil)) pa_nil))) (fun _ _ => rfl)) pa_nil)))) pss_nil)))
      apply pss_one
      · exact ps_ret (pe_callTy call_tuple_of (by rfl) mt (by decide +kernel) (pa_cons (pv 3) pa_nil))
    refine ⟨(by show 0 ≤ sizeLine; decide), fun L hL => ?_⟩
    have nLa := hB.ne hL
    have s0 := same_new (o := .lst []) hL
    refine ⟨.int many, rfl, many, rfl, by omega, by omega, for_range (lo := 0) (n := many.toNat) (fun i σ H' => ∃ (v v2 : Option V) (ls : List Int), σ = [some (.ref a), some (.ref m), some (.int many), some (.ref L), v, v2, none] ∧ But a H H' ∧ Box (n + i) H' a ∧ H' L = some (.lst (ls.map V.int)) ∧ ls.length ≤ i ∧ ∀ x ∈ ls, x ∈ ns)
      ⟨none, none, [], rfl, But.of_same s0, (hB.same s0).mono (by omega), upd_same, Nat.le_refl _, fun x h => by cases h⟩ ?_ ?_⟩
    · rintro i σ H1 hi ⟨v, v2, ls, rfl, t1, B1, eL, ll, ln⟩
      have M1 := MM H1 t1
      refine ⟨.ref m, rfl, m, _, 1, .ref dl, rfl, rfl, SqL.of M1.mo, atI_nat (j := 1) rfl, dl, rfl, ⟨_, SqL.of M1.di⟩, fun D hD => ?_⟩
      have nDa := B1.ne hD
      refine lc_list (K := K) (a := dl) (xs := ns.map V.int) (fun j H' => Same H1 H' ∧ ∃ is : List Int, H' D = some (.lst (is.map V.int)) ∧ is.length ≤ j ∧ ∀ x ∈ is, x ∈ ns) ⟨same_new hD, [], upd_same, Nat.le_refl _, fun x h => by cases h⟩ (fun j H' _ h => SqL.of (h.1 _ _ M1.di)) ?_ ?_
      · rintro j x H2 hx ⟨s2, is, eD, li, lin⟩
        obtain ⟨d, hd, rfl⟩ := get_map hx
        have hj : j < ns.length := (List.getElem?_eq_some_iff.mp hd).1
        have eL2 := s2 _ _ eL
        have add : ∀ H3, Same H2 H3 → ∃ acc, H3 D = some (.lst acc) ∧ acc.length < sizeLine ∧ (Same H1 (upd H3 D (.lst (acc ++ [.int d]))) ∧ ∃ is : List Int, (upd H3 D (.lst (acc ++ [.int d]))) D = some (.lst (is.map V.int)) ∧ is.length ≤ j + 1 ∧ ∀ x ∈ is, x ∈ ns) := fun H3 s3 => by
          refine ⟨_, s3 _ _ eD, ?_, Same.store (s2.trans s3) hD, is ++ [d], ?_, ?_, fun x hx2 => ?_⟩
          · rw [List.length_map]
            exact small1000 (by omega)
          · rw [upd_same, List.map_append]
            rfl
          · rw [List.length_append]
            show is.length + 1 ≤ j + 1
            omega
          · rcases List.mem_append.mp hx2 with z | z
            · exact lin x z
            · cases List.mem_singleton.mp z
              exact List.mem_of_getElem? hd
        refine ⟨rfl, .ref L, rfl, (by show 0 ≤ sizeLine; decide), fun l0 hl0 => ?_⟩
        have s3 := same_new (o := .lst []) hl0
        refine ⟨.list (ls.map .int), .list [], .lst (SqL.of (s3 _ _ eL2)) (dp_ints _), .lst (SqL.of upd_same) .nil, ints_shapedL _, nil_shaped, _, rfl, ?_⟩
        rw [eqv_nilL, List.isEmpty_map]
        generalize upd H2 l0 (.lst []) = H3 at s3 ⊢
        by_cases hls : ls = []
        · exact iteTB (by rw [hls]; rfl) (iteT ⟨.int d, rfl, add H3 s3⟩)
        · refine iteFB (by rw [List.isEmpty_eq_false_iff]; exact hls) ?_
          obtain ⟨ls', y, rfl⟩ : ∃ ls' y, ls = ls' ++ [y] := ⟨ls.dropLast, ls.getLast hls, (List.dropLast_concat_getLast hls).symm⟩
          have eL3 := s3 _ _ eL2
          rw [List.map_append] at eL3
          refine ⟨.ref L, rfl, 1, rfl, L, _, -1, .int y, rfl, rfl, SqL.of eL3, atI_last _ _, .int d, rfl, (by show 2 ≤ sizeLine; decide), fun T hT => ?_⟩
          have s4 := same_new (o := .tup [.int y, .int d]) hT
          have M4 := M1.same (s2.trans (s3.trans s4))
          refine ⟨.ref m, rfl, m, _, 2, .ref pl, rfl, rfl, SqL.of M4.mo, atI_nat (j := 2) rfl, pd2 (y, d), (ks.map (·.2)).map pd2, .tup (SqT.of upd_same) (.cons (.int _) (.cons (.int _) .nil)), ps_dp rfl M4.pa M4.pr, pd2_shaped _, ps_shaped rfl, _, rfl, ite2 (fun z => ?_) (fun z => ?_)⟩
          · exact ⟨.int d, rfl, add _ (s3.trans s4)⟩
          · exact ⟨s2.trans (s3.trans s4), is, s4 _ _ (s3 _ _ eD), by omega, lin⟩
      · rintro H2 ⟨s2, is, eD, li, lin⟩
        rw [List.length_map] at li
        refine ⟨.ref D, rfl, (by show 0 ≤ sizeLine; decide), fun l0 hl0 => ?_⟩
        have s3 := same_new (o := .lst []) hl0
        refine ⟨.list (is.map .int), .list [], .lst (SqL.of (s3 _ _ eD)) (dp_ints _), .lst (SqL.of upd_same) .nil, ints_shapedL _, nil_shaped, _, rfl, ?_⟩
        rw [eqv_nilL, List.isEmpty_map]
        have sB := s2.trans s3
        have eD3 := s3 _ _ eD
        generalize upd H2 l0 (.lst []) = H3 at sB eD3 ⊢
        have t3 := t1.trans (But.of_same sB)
        have B3 := B1.same sB
        have eL3 := sB _ _ eL
        by_cases his : is = []
        · exact iteFB (by rw [his]; rfl) ⟨some (.int (0 + i)), some (.ref D), ls, rfl, t3, B3.mono (by omega), eL3, by omega, ln⟩
        · refine iteTB (by rw [List.isEmpty_eq_false_iff.mpr his]; rfl) ?_
          have hpos : 1 ≤ is.length := by
            cases is with
            | nil => exact absurd rfl his
            | cons _ _ => exact Nat.succ_le_succ (Nat.zero_le _)
          refine ⟨.ref L, rfl, .inl ⟨rfl, _, SqL.of eL3⟩, .ref D, rfl, .ref a, rfl, .ref D, rfl, D, _, rfl, .inl (SqL.of eD3), a, ((is.map V.int).length : Int), n + i, rfl, B3, by omega, by rw [List.length_map]; omega, by rw [List.length_map, Int.natAbs_natCast]; exact Nat.lt_of_le_of_lt (by omega : is.length ≤ 6) (by decide), fun r H4 r0 r1 t4 B4 => ?_⟩
          rw [List.length_map] at r1
          have hk : r.toNat < is.length := by omega
          have eD4 := t4 _ _ nDa eD3
          have er : ((r.toNat : Nat) : Int) = r := by omega
          have g : (is.map V.int)[r.toNat]? = some (.int is[r.toNat]) := by rw [List.getElem?_map, List.getElem?_eq_getElem hk]; rfl
          have ga := atI_nat g
          rw [er] at ga
          refine ⟨D, _, r, .int is[r.toNat], rfl, rfl, SqL.of eD4, ga, ?_⟩
          have eL4 := t4 _ _ nLa eL3
          refine ⟨L, _, _, rfl, rfl, eL4, ?_, ?_⟩
          · rw [List.length_map]
            exact small1000 (by omega)
          · refine ⟨some (.int (0 + i)), some (.ref D), ls ++ [is[r.toNat]], rfl, (t3.trans t4).store hL, (B4.upd nLa).mono (by omega), ?_, ?_, fun x hx2 => ?_⟩
            · rw [upd_same, List.map_append]
              rfl
            · rw [List.length_append]
              show ls.length + 1 ≤ i + 1
              omega
            · rcases List.mem_append.mp hx2 with z | z
              · exact ln x z
              · cases List.mem_singleton.mp z
                exact lin _ (List.getElem_mem hk)
    · rintro σ H1 ⟨v, v2, ls, rfl, t1, B1, eL, ll, ln⟩
      refine ⟨.ref L, rfl, L, _, rfl, .inl ⟨SqL.of eL, fun p hp => ?_⟩⟩
      exact q p ls _ (t1.trans (But.new hp)) ((B1.new hp).mono (by omega)) upd_same (by omega) ln

/-! ### what the program tells of a value -/
def spTold (C : Addr) : Sp := fun vs H Q _ => ∃ (a t r : Addr) (b : Int) (ds : List Int) (ks : List (Addr × (Int × Int))) (x : V), vs = [.ref a, x] ∧ SchemeAt C H a t r b ds ks ∧ b.natAbs ≤ 6 ∧
  ((NoTup H x ∧ ∀ l H', Same H H' → H' l = some (.lst [.str "row", x, .bl true]) → Q (.ref l) H') ∨ ∃ (p : Addr) (xs : List V), x = .ref p ∧ H p = some (.tup xs) ∧ xs.length ≤ 1000 ∧ (∀ y ∈ xs, ItemOk H y) ∧
    (∀ ns : List Int, xs = ns.map V.int → rowB ds ks xs = true → ∀ l H', Same H H' → H' l = some (.lst [.str "value", .int (valI b ns)]) → Q (.ref l) H') ∧ (rowB ds ks xs = false → ∀ l H', Same H H' → H' l = some (.lst [.str "row", x, .bl true]) → Q (.ref l) H'))
theorem scTo : FnScope ["_law_scheme_here", "_law_line", "e"] ["_law_scheme_here", "_law_line"] (defScope sTold) := ⟨rfl, rfl, rfl, by decide +kernel, rfl, by decide +kernel, by decide +kernel⟩
def t_told (C CR : Addr) (W : WX) : TS := tRet (tLst (tCons (tC (.str "value")) (tCons (tMethS C "value_of" (spValueOf C CR) (WE W) (tVar 0) (tCons (tVar 1) tNil)) tNil)))
def t_toldS (K : PySem.W.Frag) (C CF : Addr) : Addr → Value → Option Addr → TS := fun a cls d => tRet (tLst (tCons (tC (.str "row")) (tCons (tXf a cls d C "row" (tVar 2)) (tCons (tCB (rAsk K C a cls d) (tCons (tVar 2) (tCons (tC (.ref CF)) tNil))) tNil))))
theorem ok_told {f fV fI C CR CF fF : Addr} {fd fdV : FuncData} (F : Fun K "_law_told" "_law_told" sTold f fd) (c : Cls K C) (mV : Meth K C "value_of" fV) (GV : FnOk P w K mg base (L2.CX P w) 7 fV fdV ["self", "row"] (spValueOf C CR)) (bV : Binds K fdV ["self", "row"] [])
    (T : ErrC K mg "InvalidRow" "row" CR fI) (TF : FigC K mg CF fF) (ask : AskC K CR) (kk : PySem.W.kitOne K (.ref CR) (.ref CF) = some true) (mis : mg "isinstance" = none) : FnOk P w K mg base CX0 8 f fd ["_law_scheme_here", "_law_line"] (spTold C) := by
  refine F.ok scTo (fun vs H Q E h => ?_) (fun cdv A outer s H vs Q E hr h => ⟨(fun D σ H => t_told C CR (wAs K (.ref CR) 2 (t_toldS K CR CF) (fun _ _ _ _ => False) D) D σ H), ?_, ?_⟩)
  · obtain ⟨a, t, r, b, ds, ks, x, rfl, _⟩ := h
    rfl
  · exact pss_one (ps_try_as (i := 2) (tb := t_told C CR) (ts := t_toldS K CR CF) (Wout := fun _ _ _ _ => False) rfl rfl scTo.nd rfl rfl ⟨rfl, by decide, Or.inl T.g⟩ takes0
      (fun W pn xe tk _ => pss_one (ps_ret (by exact (pe_lst (pa_cons pe_str (pa_cons (pe_methSX (pv 0) c mV GV hr bV (fun σ => passAt tk σ) (by exact (pa_cons (pv 1) pa_nil))) pa_nil))))))
      (fun a oe cls d pn hz hf => pss_one (ps_ret (by exact (pe_lst (pa_cons pe_str (pa_cons (pe_xf T.xf T.no hz hf (pv 2)) (pa_cons (pe_callB (call_ask ask hz hf) (by rfl) mis PyProof.Rows.boot_isinstance (pa_cons (pv 2) (pa_cons (pe_glob (v := .ref CF) rfl TF.g rfl) pa_nil))) pa_nil))))))))
  · obtain ⟨a, t, r, b, ds, ks, x, rfl, S, hb, h⟩ := h
    have S0 := S
    obtain ⟨⟨dx, hins⟩, _⟩ := S0
    have raised : ∀ (q : ∀ l H', Same H H' → H' l = some (.lst [.str "row", x, .bl true]) → Q (.ref l) H'), Raised CR "row" x H (WE (wAs K (.ref CR) 2 (t_toldS K CR CF) (fun _ _ _ _ => False) { nx := fun _ H' => Q .non H', rt := Q }) (start ["_law_scheme_here", "_law_line", "e"] [.ref a, x])) := fun q fs d H' hd s1 ed => by
      refine ⟨true, T.te, fun _ a ha => ?_, fun q => nomatch q⟩
      refine ⟨.ref a, rfl, rfl, rfl, d, _, x, rfl, ed, by simp [List.lookup], .ref a, rfl, d, _, .ref CF, .ref CF, true, rfl, rfl, ed, rfl, fun u hu => hu, kk, ?_⟩
      exact ⟨(by show 3 ≤ sizeLine; decide), fun l hl => q l _ (Same.store s1 (s1.free hl)) upd_same⟩
    refine ⟨.ref a, rfl, a, dx, _, rfl, hins, rfl, x, rfl, a, t, r, b, ds, ks, x, rfl, S, hb, ?_⟩
    rcases h with ⟨no, q⟩ | ⟨p, xs, rfl, hp, hlen, hit, hq, hE⟩
    · exact .inl ⟨no, raised q⟩
    · refine .inr ⟨p, xs, rfl, hp, hlen, hit, fun ns e hrb H' s' => ⟨(by show 2 ≤ sizeLine; decide), fun l hl => hq ns e hrb l _ (s'.trans (same_new hl)) upd_same⟩, fun hrb => raised (hE hrb)⟩
end
end K07
namespace K07
open PySem PySem.Spec PyProof.Rows L2 OF
section
variable {P : Program} {w : World} {K : PySem.W.Frag} {mg : Str → Option Value} {base : Heap}

/-! ### a row, spoilt -/
def spOddRow : Sp := fun vs H Q _ => ∃ (a p : Addr) (n : Int) (ls : List Int), vs = [.ref a, .ref p] ∧ Box n H a ∧ n ≤ 700000 ∧ H p = some (.tup (ls.map V.int)) ∧ ls.length ≤ 300 ∧
  ∀ (p' : Addr) (ls' : List Int) (H' : Hp), But a H H' → Box (n + 3) H' a → H' p' = some (.tup (ls'.map V.int)) → ls'.length ≤ 700 → Q (.ref p') H'
abbrev nOr : List Str := ["_law_box_here", "_law_line", "_law_way", "_law_at", "_law_digit"]
theorem scOr : FnScope nOr ["_law_box_here", "_law_line"] (defScope sOddRow) := ⟨rfl, rfl, rfl, by decide +kernel, rfl, by decide +kernel, by decide +kernel⟩
theorem cut_ints (ls : List Int) (lo hi : Option Int) : ∃ ls' : List Int, cutV (ls.map V.int) lo hi = ls'.map V.int ∧ ls'.length ≤ ls.length := by
  refine ⟨(ls.drop (HT.sIx (ls.map V.int).length 0 lo)).take (HT.sIx (ls.map V.int).length (ls.map V.int).length hi - HT.sIx (ls.map V.int).length 0 lo), ?_, ?_⟩
  · unfold cutV
    rw [← List.map_drop, ← List.map_take]
  · rw [List.length_take, List.length_drop]
    omega
theorem ok_oddrow {f fT : Addr} {fd fdT : FuncData} (F : Fun K "_law_odd_row" "_law_odd_row" sOddRow f fd) (FT : Fun K "_law_take" "_law_take" sTake fT fdT) (gT : mg "_law_take" = some (.ref fT)) (bT : Binds K fdT ["_law_box_here", "_law_many"] [])
    (mi : mg "int" = none) (ml : mg "len" = none) (mm : mg "max" = none) : FnOk P w K mg base CX0 2 f fd ["_law_box_here", "_law_line"] spOddRow := by
  have GT : FnOk P w K mg base CX0 1 fT fdT ["_law_box_here", "_law_many"] spTake := ok_take FT mi
  refine F.ok scOr (fun vs H Q E h => ?_) (fun cdv A outer s H vs Q E hr h => ?_)
  · obtain ⟨a, p, n, ls, rfl, _⟩ := h
    rfl
  · obtain ⟨a, p, n, ls, rfl, hB, hn, hp, hl, q⟩ := h
    apply Exists.intro
    apply And.intro
    · apply pss_cons
      · exact ps_par (i := 2) (j := 3) rfl scOr.nd rfl rfl (by decide) rfl rfl (pa_cons (pe_call GT hr (by rfl) gT FT.kp bT .nil pass0 (pa_cons (pv 0) (pa_cons pe_int pa_nil))) (pa_cons (pe_call GT hr (by rfl) gT FT.kp bT .nil pass0 (pa_cons (pv 0) (pa_cons (pe_op op_add (pe_callB call_len_seq (by rfl) ml PySem.boot_len (pa_cons (pv 1) pa_nil)) pe_int) pa_nil))) pa_nil)) (by rfl)
      apply pss_cons
      · exact ps_set (i := 4) scOr.nd rfl (.inl rfl) (pe_op op_sub (pe_call GT hr (by rfl) gT FT.kp bT .nil pass0 (pa_cons (pv 0) (pa_cons pe_int pa_nil))) pe_int)
      apply pss_cons
      · exact ps_if (pt_cmpR op_eq (pv 2) pe_int (nomark _)) (pss_one (ps_ret (pe_op op_cat2 (pe_op op_cat2 (pe_slice sl_tup2 (pv 1) po_none (po_some (pv 3))) (pe_tup (pa_cons (pv 4) pa_nil))) (pe_slice sl_tup2 (pv 1) (po_some (pv 3)) po_none)))) pss_nil
      apply pss_cons
      · exact ps_if (PW.pt (pw_and (pt_cmpR op_eq (pv 2) pe_int (nomark _)) (pw_and1 (pt_cmpR op_lt (pv 3) (pe_callB call_len_seq (by rfl) ml PySem.boot_len (pa_cons (pv 1) pa_nil)) (nomark _))))) (pss_one (ps_ret (pe_op op_cat2 (pe_op op_cat2 (pe_slice sl_tup2 (pv 1) po_none (po_some (pv 3))) (pe_tup (pa_cons (pv 4) pa_nil))) (pe_slice sl_tup2 (pv 1) (po_some (pe_op op_add (pv 3) pe_int)) po_none)))) pss_nil
      apply pss_cons
      · exact ps_if (pt_cmpR op_eq (pv 2) pe_int (nomark _)) (pss_one (ps_ret (pe_op op_cat2 (pe_slice sl_tup2 (pv 1) po_none (po_some (pv 3))) (pe_slice sl_tup2 (pv 1) (po_some (pe_callB (call_max2 rfl) (by rfl) mm PyProof.Rows.boot_max (pa_cons pe_int (pa_cons (pe_op op_sub (pv 3) pe_int) pa_nil)))) po_none)))) pss_nil
      apply pss_cons
      · exact ps_if (pt_cmpR op_eq (pv 2) pe_int (nomark _)) (pss_one (ps_ret (pe_revT (pv 1)))) pss_nil
      apply pss_one
      · exact ps_ret (pv 1)
    have npa : p ≠ a := fun z => by
      obtain ⟨b0, b1, b2, hb0, _⟩ := hB
      rw [z, hb0] at hp
      cases hp
    refine ⟨.ref a, rfl, a, 6, n, rfl, hB, by omega, by decide, by decide, fun wy H1 w0 w1 t1 B1 => ?_⟩
    have hp1 := t1 _ _ npa hp
    refine ⟨.ref a, rfl, .ref p, rfl, p, _, rfl, .inr (SqT.of hp1), ((ls.map V.int).length : Int), 1, rfl, rfl, a, ((ls.map V.int).length : Int) + 1, n + 1, rfl, B1, by omega, by omega, by rw [List.length_map]; exact Nat.lt_of_le_of_lt (by omega : ((ls.length : Int) + 1).natAbs ≤ 301) (by decide), fun at_ H2 x0 x1 t2 B2 => ?_⟩
    rw [List.length_map] at x1
    have hp2 := t2 _ _ npa hp1
    refine ⟨.int wy, .int at_, rfl, ?_⟩
    refine ⟨.ref a, rfl, a, 19, n + 1 + 1, rfl, B2, by omega, by decide, by decide, fun dd H3 y0 y1 t3 B3 => ?_⟩
    have hp3 := t3 _ _ npa hp2
    have T3 := t1.trans (t2.trans t3)
    have B3' : Box (n + 3) H3 a := B3.mono (by omega)
    refine ⟨dd, 19 - 10, rfl, rfl, ?_⟩
    have fin : ∀ (p' : Addr) (ls' : List Int) (H' : Hp), Same H3 H' → H' p' = some (.tup (ls'.map V.int)) → ls'.length ≤ 700 → Q (.ref p') H' := fun p' ls' H' s' e' l' => q p' ls' H' (T3.trans (But.of_same s')) (B3'.same s') e' l'
    refine ⟨.int wy, rfl, rfl, _, rfl, ite2 (fun c => ?_) (fun c => ?_)⟩
    · refine ⟨.ref p, rfl, .int at_, rfl, at_, rfl, p, _, rfl, hp3, fun p1 H4 s4 e4 => ?_⟩
      obtain ⟨k1, ek1, lk1⟩ := cut_ints ls none (some at_)
      rw [ek1] at e4
      refine ⟨.int (dd - 9), rfl, (by show 1 ≤ sizeLine; decide), fun p2 hp2' => ?_⟩
      have s5 := same_new (o := .tup [.int (dd - 9)]) hp2'
      refine ⟨p1, p2, _, [.int (dd - 9)], rfl, rfl, s5 _ _ e4, upd_same, (by rw [List.length_map, sizeLine_eq]; show k1.length + 1 ≤ _; omega), fun p3 H6 s6 e6 => ?_⟩
      have sA := s4.trans (s5.trans s6)
      refine ⟨.ref p, rfl, .int at_, rfl, at_, rfl, p, _, rfl, sA _ _ hp3, fun p4 H7 s7 e7 => ?_⟩
      obtain ⟨k2, ek2, lk2⟩ := cut_ints ls (some at_) none
      rw [ek2] at e7
      have e6' := s7 _ _ e6
      have e6'' : H7 p3 = some (.tup ((k1 ++ [dd - 9]).map V.int)) := by rw [e6', List.map_append]; rfl
      refine ⟨p3, p4, _, _, rfl, rfl, e6'', e7, ?_, fun p5 H8 s8 e8 => ?_⟩
      · rw [List.length_map, List.length_map, List.length_append, sizeLine_eq]
        show k1.length + 1 + k2.length ≤ _
        omega
      · refine fin p5 ((k1 ++ [dd - 9]) ++ k2) H8 (sA.trans (s7.trans s8)) (by rw [e8, ← List.map_append]) ?_
        rw [List.length_append, List.length_append]
        show k1.length + 1 + k2.length ≤ _
        omega
    · refine ⟨.int wy, rfl, rfl, _, rfl, ite2 (fun c1 => ?_) (fun c1 => ?_)⟩
      · refine ⟨.int at_, rfl, .ref p, rfl, p, _, rfl, .inr (SqT.of hp3), at_, _, rfl, rfl, _, rfl, ite2 (fun c4 => ?_) (fun c4 => ?_)⟩
        · refine ⟨.ref p, rfl, .int at_, rfl, at_, rfl, p, _, rfl, hp3, fun p1 H4 s4 e4 => ?_⟩
          obtain ⟨k1, ek1, lk1⟩ := cut_ints ls none (some at_)
          rw [ek1] at e4
          refine ⟨.int (dd - 9), rfl, (by show 1 ≤ sizeLine; decide), fun p2 hp2' => ?_⟩
          have s5 := same_new (o := .tup [.int (dd - 9)]) hp2'
          refine ⟨p1, p2, _, [.int (dd - 9)], rfl, rfl, s5 _ _ e4, upd_same, (by rw [List.length_map, sizeLine_eq]; show k1.length + 1 ≤ _; omega), fun p3 H6 s6 e6 => ?_⟩
          have sA := s4.trans (s5.trans s6)
          refine ⟨.ref p, rfl, .int at_, rfl, at_, 1, rfl, rfl, at_ + 1, rfl, p, _, rfl, sA _ _ hp3, fun p4 H7 s7 e7 => ?_⟩
          obtain ⟨k2, ek2, lk2⟩ := cut_ints ls (some (at_ + 1)) none
          rw [ek2] at e7
          have e6' := s7 _ _ e6
          have e6'' : H7 p3 = some (.tup ((k1 ++ [dd - 9]).map V.int)) := by rw [e6', List.map_append]; rfl
          refine ⟨p3, p4, _, _, rfl, rfl, e6'', e7, ?_, fun p5 H8 s8 e8 => ?_⟩
          · rw [List.length_map, List.length_map, List.length_append, sizeLine_eq]
            show k1.length + 1 + k2.length ≤ _
            omega
          · refine fin p5 ((k1 ++ [dd - 9]) ++ k2) H8 (sA.trans (s7.trans s8)) (by rw [e8, ← List.map_append]) ?_
            rw [List.length_append, List.length_append]
            show k1.length + 1 + k2.length ≤ _
            omega
        · refine ⟨.int wy, rfl, rfl, _, rfl, ite2 (fun c2 => ?_) (fun c2 => ?_)⟩
          · refine ⟨.ref p, rfl, .int at_, rfl, at_, rfl, p, _, rfl, hp3, fun p1 H4 s4 e4 => ?_⟩
            obtain ⟨k1, ek1, lk1⟩ := cut_ints ls none (some at_)
            rw [ek1] at e4
            refine ⟨.ref p, rfl, .int at_, rfl, _, _, rfl, rfl, _, _, rfl, _, rfl, p, _, rfl, s4 _ _ hp3, fun p4 H7 s7 e7 => ?_⟩
            obtain ⟨k2, ek2, lk2⟩ := cut_ints ls (some (if at_ - 1 > 0 then at_ - 1 else 0)) none
            rw [ek2] at e7
            refine ⟨p1, p4, _, _, rfl, rfl, s7 _ _ e4, e7, ?_, fun p5 H8 s8 e8 => ?_⟩
            · rw [List.length_map, List.length_map, sizeLine_eq]
              omega
            · exact fin p5 (k1 ++ k2) H8 (s4.trans (s7.trans s8)) (by rw [e8, List.map_append]) (by rw [List.length_append]; omega)
          · refine ⟨.int wy, rfl, rfl, _, rfl, ite2 (fun c3 => ?_) (fun c3 => ?_)⟩
            · exact ⟨.ref p, rfl, p, _, rfl, SqT.of hp3, fun p4 hp4 => fin p4 ls.reverse _ (same_new hp4) (by rw [upd_same, List.map_reverse]) (by rw [List.length_reverse]; omega)⟩
            · exact ⟨.ref p, rfl, fin p ls H3 (Same.refl _) hp3 (by omega)⟩
      · refine iteF ?_
        refine ⟨.int wy, rfl, rfl, _, rfl, ite2 (fun c2 => ?_) (fun c2 => ?_)⟩
        · refine ⟨.ref p, rfl, .int at_, rfl, at_, rfl, p, _, rfl, hp3, fun p1 H4 s4 e4 => ?_⟩
          obtain ⟨k1, ek1, lk1⟩ := cut_ints ls none (some at_)
          rw [ek1] at e4
          refine ⟨.ref p, rfl, .int at_, rfl, _, _, rfl, rfl, _, _, rfl, _, rfl, p, _, rfl, s4 _ _ hp3, fun p4 H7 s7 e7 => ?_⟩
          obtain ⟨k2, ek2, lk2⟩ := cut_ints ls (some (if at_ - 1 > 0 then at_ - 1 else 0)) none
          rw [ek2] at e7
          refine ⟨p1, p4, _, _, rfl, rfl, s7 _ _ e4, e7, ?_, fun p5 H8 s8 e8 => ?_⟩
          · rw [List.length_map, List.length_map, sizeLine_eq]
            omega
          · exact fin p5 (k1 ++ k2) H8 (s4.trans (s7.trans s8)) (by rw [e8, List.map_append]) (by rw [List.length_append]; omega)
        · refine ⟨.int wy, rfl, rfl, _, rfl, ite2 (fun c3 => ?_) (fun c3 => ?_)⟩
          · exact ⟨.ref p, rfl, p, _, rfl, SqT.of hp3, fun p4 hp4 => fin p4 ls.reverse _ (same_new hp4) (by rw [upd_same, List.map_reverse]) (by rw [List.length_reverse]; omega)⟩
          · exact ⟨.ref p, rfl, fin p ls H3 (Same.refl _) hp3 (by omega)⟩

/-! ### judged -/
theorem dat_eq {K : PySem.W.Frag} {H : Hp} {x y : V} {d : PyData} {Q : VK} (h1 : Dp K H x d) (h2 : Dp K H y d) (sh : SeqAt.shaped d = true) (q : Q (.bl true) H) : rEqD K x y H Q := by
  refine ⟨d, d, h1, h2, sh, sh, ?_⟩
  rw [SeqAt.eqv_refl d (SeqAt.canLay_of_shaped sh)]
  exact q
theorem strOk_value : PyData.strOk (Str.ofString "value") = true := by decide +kernel
theorem strOk_row : PyData.strOk (Str.ofString "row") = true := by decide +kernel
def spJudged (C : Addr) : Sp := fun vs H Q _ => ∃ (m dl pl sa t r p : Addr) (b : Int) (ns ls : List Int) (ks L : List (Addr × (Int × Int))), vs = [.ref m, .ref sa, .ref p] ∧ ModAt H m dl pl b ns ks ∧ SchemeAt C H sa t r b ns L ∧ L.map (·.2) = ks.map (·.2) ∧ Good b ns (ks.map (·.2)) ∧
  H p = some (.tup (ls.map V.int)) ∧ ls.length ≤ 1000 ∧ ∀ H', Same H H' → Q (.bl true) H'
abbrev nJu : List Str := ["_law_model", "_law_scheme_here", "_law_line", "_law_beside"]
theorem scJu : FnScope nJu ["_law_model", "_law_scheme_here", "_law_line"] (defScope sJudged) := ⟨rfl, rfl, rfl, by decide +kernel, rfl, by decide +kernel, by decide +kernel⟩
theorem base_small {b : Int} (h : isBase b = true) : b.natAbs ≤ 6 := by
  unfold isBase at h
  simp only [Bool.or_eq_true, Bool.and_eq_true, decide_eq_true_eq] at h
  omega
theorem ok_judged {f fI fH fO fV C : Addr} {fd fdI fdH fdO fdV : FuncData} (F : Fun K "_law_judged" "_law_judged" sJudged f fd)
    (GI : FnOk P w K mg base CX0 1 fI fdI ["_law_model", "_law_line"] spIsRow) (gI : mg "_law_is_row" = some (.ref fI)) (kI : PySem.W.keepIn K (.ref fI) = true) (bI : Binds K fdI ["_law_model", "_law_line"] [])
    (mH : Meth K C "__contains__" fH) (GH : FnOk P w K mg base CX0 6 fH fdH ["self", "row"] (spHas C)) (bH : Binds K fdH ["self", "row"] [])
    (GO : FnOk P w K mg base CX0 8 fO fdO ["_law_scheme_here", "_law_line"] (spTold C)) (gO : mg "_law_told" = some (.ref fO)) (kO : PySem.W.keepIn K (.ref fO) = true) (bO : Binds K fdO ["_law_scheme_here", "_law_line"] [])
    (GV : FnOk P w K mg base CX0 1 fV fdV ["_law_base", "_law_line"] spValue) (gV : mg "_law_value" = some (.ref fV)) (kV : PySem.W.keepIn K (.ref fV) = true) (bV : Binds K fdV ["_law_base", "_law_line"] [])
    (mrp : mg "repr" = none) : FnOk P w K mg base CX0 9 f fd ["_law_model", "_law_scheme_here", "_law_line"] (spJudged C) := by
  refine F.ok scJu (fun vs H Q E h => ?_) (fun cdv A outer s H vs Q E hr h => ?_)
  · obtain ⟨m, dl, pl, sa, t, r, p, b, ns, ls, ks, L, rfl, _⟩ := h
    rfl
  · obtain ⟨m, dl, pl, sa, t, r, p, b, ns, ls, ks, L, rfl, M, S, eL, G, hp, hl, q⟩ := h
    have hr1 : Room 1 _ := hr.mono (by decide)
    have hr6 : Room 6 _ := hr.mono (by decide)
    apply Exists.intro
    apply And.intro
    · apply pss_cons
      · exact ps_set (i := 3) scJu.nd rfl (.inl rfl) (pe_call GI hr1 (by rfl) gI kI bI .nil pass0 (pa_cons (pv 0) (pa_cons (pv 2) pa_nil)))
      apply pss_cons
      · exact ps_if (pt_cmpR op_ne (pe_callB call_repr_bool (by rfl) mrp PyProof.Rows.boot_repr (pa_cons (pe_cmpR (op_inOwn mH.at_ mH.fn GH bH hr6 pass0) (pv 2) (pv 1) rfl) pa_nil)) (pe_callB call_repr_bool (by rfl) mrp PyProof.Rows.boot_repr (pa_cons (pv 3) pa_nil)) (nomark _)) (pss_one (ps_ret pe_bl)) pss_nil
      apply pss_one
      · exact ps_ret (pe_cmpR (op_eqD hr.units) (pe_call GO hr (by rfl) gO kO bO .nil pass0 (pa_cons (pv 1) (pa_cons (pv 2) pa_nil)))
          (pe_ifExp (pt_val (pv 3)) (pe_lst (pa_cons pe_str (pa_cons (pe_call GV hr1 (by rfl) gV kV bV .nil pass0 (pa_cons (pe_ix ix_list (pv 0) pe_int (fun _ _ => rfl)) (pa_cons (pv 2) pa_nil))) pa_nil))) (pe_lst (pa_cons pe_str (pa_cons (pv 2) (pa_cons pe_bl pa_nil))))) (nomark _))
    have same : rowB ns L (ls.map V.int) = rowI ns (ks.map (·.2)) ls := row_same eL G.dg ls
    have hb := base_small G.b
    refine ⟨.ref m, rfl, .ref p, rfl, m, dl, pl, p, b, ns, ls, ks, rfl, M, hp, hl, fun H1 s1 => ?_⟩
    have S1 := S.same s1
    have hp1 := s1 _ _ hp
    obtain ⟨⟨dx, hins⟩, _⟩ := id S1
    have items : ∀ {H' : Hp}, ∀ y ∈ ls.map V.int, ItemOk H' y := fun {H'} y hy => by
      obtain ⟨n, _, rfl⟩ := List.mem_map.mp hy
      exact .inl ⟨n, rfl⟩
    refine ⟨.ref p, rfl, .ref sa, rfl, sa, dx, _, rfl, hins, sa, t, r, b, ns, L, .ref p, rfl, S1, .inr ⟨p, _, rfl, hp1, by rw [List.length_map]; exact hl, items, fun H2 s2 => ⟨_, rfl, rowI ns (ks.map (·.2)) ls, (by rw [if_neg Bool.false_ne_true, same]), ?_⟩⟩⟩
    refine ⟨_, rfl, _, rfl, rfl, _, rfl, iteFB (neSame rfl) ?_⟩
    have S2 := S1.same s2
    have hp2 := s2 _ _ hp1
    have s12 := s1.trans s2
    refine ⟨.ref sa, rfl, .ref p, rfl, sa, t, r, b, ns, L, .ref p, rfl, S2, hb, .inr ⟨p, _, rfl, hp2, by rw [List.length_map]; exact hl, items, fun ns' ens hrb l H3 s3 el => ?_, fun hrb l H3 s3 el => ?_⟩⟩
    · have e : ns' = ls := ((List.map_inj_right (fun x y h => V.int.inj h)).mp ens).symm
      subst e
      rw [same] at hrb
      refine ⟨_, rfl, _, rfl, iteTB hrb ?_⟩
      have M3 := M.same (s12.trans s3)
      refine ⟨.ref m, rfl, m, _, 0, .int b, rfl, rfl, SqL.of M3.mo, atI_nat (j := 0) rfl, .ref p, rfl, b, p, ns', rfl, s3 _ _ hp2, hb, (by show 2 ≤ sizeLine; decide), fun l2 hl2 => ?_⟩
      have s4 := same_new (o := .lst [.str "value", .int (valI b ns')]) hl2
      refine dat_eq (d := .list [.str "value", .int (valI b ns')]) (.lst (SqL.of (s4 _ _ el)) (.cons (.str _) (.cons (.int _) .nil))) (.lst (SqL.of upd_same) (.cons (.str _) (.cons (.int _) .nil))) ?_ (q _ (s12.trans (s3.trans s4)))
      refine shaped_of ?_ (by simp only [PyData.depth, PyData.depthAll]; decide)
      simp only [PyData.canLay0, PyData.canLayAll0, strOk_value, Bool.and_true, Bool.true_and]
    · rw [same] at hrb
      refine ⟨_, rfl, _, rfl, iteFB hrb ?_⟩
      refine ⟨.ref p, rfl, (by show 3 ≤ sizeLine; decide), fun l2 hl2 => ?_⟩
      have s4 := same_new (o := .lst [.str "row", .ref p, .bl true]) hl2
      have dp : ∀ {H'}, H' p = some (.tup (ls.map V.int)) → Dp K H' (.ref p) (.tuple (ls.map .int)) := fun e => .tup (SqT.of e) (dp_ints ls)
      refine dat_eq (d := .list [.str "row", .tuple (ls.map .int), .bool true]) (.lst (SqL.of (s4 _ _ el)) (.cons (.str _) (.cons (dp (s4 _ _ (s3 _ _ hp2))) (.cons (.bl _) .nil)))) (.lst (SqL.of upd_same) (.cons (.str _) (.cons (dp (s4 _ _ (s3 _ _ hp2))) (.cons (.bl _) .nil)))) ?_ (q _ (s12.trans (s3.trans s4)))
      obtain ⟨c1, c2⟩ := ints_can ls
      refine shaped_of ?_ (by simp only [PyData.depth, PyData.depthAll, c2]; decide)
      simp only [PyData.canLay0, PyData.canLayAll0, strOk_row, c1, Bool.and_true, Bool.true_and]
end
end K07
namespace K07
open PySem PySem.Spec PyProof.Rows L2 OF

/-! ### what stays while the box changes -/
theorem tup_ne {n : Int} {H : Hp} {a p : Addr} {xs : List V} (B : Box n H a) (h : H p = some (.tup xs)) : p ≠ a := fun z => by
  obtain ⟨b0, b1, b2, hb0, _⟩ := B
  rw [z, hb0] at h
  cases h
theorem SchemeAt.stay {C : Addr} {n : Int} {H H' : Hp} {a s t r : Addr} {b : Int} {ds : List Int} {ks : List (Addr × (Int × Int))} (h : SchemeAt C H s t r b ds ks) (B : Box n H a) (k : But a H H') : SchemeAt C H' s t r b ds ks := by
  obtain ⟨⟨dx, h1⟩, h2, h3, h4⟩ := h
  have ns : s ≠ a := fun z => by
    obtain ⟨b0, b1, b2, hb0, _⟩ := B
    rw [z, hb0] at h1
    cases h1
  exact ⟨⟨dx, k _ _ ns h1⟩, k _ _ (tup_ne B h2) h2, k _ _ (tup_ne B h3) h3, fun p hp => k _ _ (tup_ne B (h4 p hp)) (h4 p hp)⟩
theorem SchemeAt.store_lst {C D : Addr} {H : Hp} {s t r : Addr} {b : Int} {ds : List Int} {ks : List (Addr × (Int × Int))} {xs : List V} {o : HO} (h : SchemeAt C H s t r b ds ks) (e : H D = some (.lst xs)) : SchemeAt C (upd H D o) s t r b ds ks := by
  obtain ⟨⟨dx, h1⟩, h2, h3, h4⟩ := h
  have no : ∀ {p : Addr} {o' : HO}, H p = some o' → o' ≠ .lst xs → p ≠ D := fun h n z => by
    rw [z, e] at h
    exact n (Option.some.inj h).symm
  refine ⟨⟨dx, ?_⟩, ?_, ?_, fun p hp => ?_⟩
  · rw [upd_ne (no h1 (fun z => by cases z))]
    exact h1
  · rw [upd_ne (no h2 (fun z => by cases z))]
    exact h2
  · rw [upd_ne (no h3 (fun z => by cases z))]
    exact h3
  · rw [upd_ne (no (h4 p hp) (fun z => by cases z))]
    exact h4 p hp
theorem rowB_bad {ds : List Int} {ks : List (Addr × (Int × Int))} {xs : List V} {y : V} (hy : ∀ n : Int, y ≠ .int n) : rowB ds ks (xs ++ [y]) = false := by
  cases h : rowB ds ks (xs ++ [y]) with
  | false => rfl
  | true =>
    obtain ⟨ns, e⟩ := rowB_ints h
    have m : y ∈ ns.map V.int := by
      rw [← e]
      exact List.mem_append_right _ List.mem_cons_self
    obtain ⟨n, _, e2⟩ := List.mem_map.mp m
    exact absurd e2.symm (hy n)

/-! ### data that repr shows -/
structure RpD (d : PyData) : Prop where
  dp : d.depth ≤ 6
  lv : d.leavesShort 60 = true
  wt : d.weight ≤ 1000
theorem RpD.row {d : PyData} (h : RpD d) : (PyData.list [.str "row", d, .bool true]).shown.length ≤ sizeLine := by
  have e0 : PyData.leavesShort 60 (.str "row") = true := by decide +kernel
  have e1 : PyData.weight (.str "row") = 3 := by decide +kernel
  have := PyData.shown_le 60 (by decide) (.list [.str "row", d, .bool true]) (by simp only [PyData.leavesShort, PyData.leavesShortAll, h.lv, Bool.and_true, Bool.true_and]; simpa only [PyData.leavesShort] using e0)
  have w := h.wt
  simp only [PyData.weight, PyData.weightAll] at this e1
  rw [sizeLine_eq]
  omega
theorem RpD.row_dep {d : PyData} (h : RpD d) : PyData.depthAll [.str "row", d, .bool true] ≤ 40 := by
  have := h.dp
  simp only [PyData.depthAll, PyData.depth]
  omega
theorem RpD.len {d : PyData} (h : RpD d) : d.shown.length ≤ sizeLine := by
  have := PyData.shown_le 60 (by decide) d h.lv
  have w := h.wt
  rw [sizeLine_eq]
  omega
def okInt (n : Int) : Bool := PyData.showable (.int n) && (PyData.leavesShort 60 (.int n) && decide (PyData.weight (.int n) ≤ 4))
theorem okInt_dig {n : Int} (h : dig n = true) : okInt n = true := by
  unfold dig at h
  simp only [Bool.and_eq_true, decide_eq_true_eq] at h
  have all : ∀ k : Nat, k < 19 → okInt ((-9 : Int) + (k : Int)) = true := by decide +kernel
  have z := all (n + 9).toNat (by omega)
  have e : (-9 : Int) + (((n + 9).toNat : Nat) : Int) = n := by omega
  rw [e] at z
  exact z
theorem ints_ok : ∀ {ls : List Int}, (∀ n ∈ ls, dig n = true) → PyData.showableAll (ls.map .int) = true ∧ PyData.hasDictAll (ls.map .int) = false ∧ PyData.leavesShortAll 60 (ls.map .int) = true ∧ PyData.weightAll (ls.map .int) ≤ 5 * ls.length
  | [], _ => ⟨rfl, rfl, rfl, Nat.le_refl _⟩
  | n :: ls, h => by
    obtain ⟨h1, h2, h3, h4⟩ := ints_ok (ls := ls) fun m hm => h m (List.mem_cons_of_mem _ hm)
    have k := okInt_dig (h n List.mem_cons_self)
    unfold okInt at k
    simp only [Bool.and_eq_true, decide_eq_true_eq] at k
    obtain ⟨k1, k2, k3⟩ := k
    refine ⟨?_, ?_, ?_, ?_⟩
    · rw [List.map_cons, PyData.showableAll, k1, h1]
      rfl
    · rw [List.map_cons, PyData.hasDictAll, h2]
      simp only [PyData.hasDict, Bool.or_false]
    · rw [List.map_cons, PyData.leavesShortAll, k2, h3]
      rfl
    · rw [List.map_cons, PyData.weightAll, List.length_cons]
      omega
section
variable {X : Cx} {H : Hp}
theorem RpAll.append {vs ws : List V} {ds es : List PyData} (h : RpAll X H vs ds) (k : RpAll X H ws es) : RpAll X H (vs ++ ws) (ds ++ es) := by
  induction h with
  | nil => exact k
  | cons a _ ih => exact .cons a ih
theorem rp_ints {ls : List Int} (h : ∀ n ∈ ls, dig n = true) : RpAll X H (ls.map V.int) (ls.map .int) := by
  induction ls with
  | nil => exact .nil
  | cons n ls ih =>
    have k := okInt_dig (h n List.mem_cons_self)
    unfold okInt at k
    simp only [Bool.and_eq_true, decide_eq_true_eq] at k
    obtain ⟨k1, k2, k3⟩ := k
    refine .cons (Rp.dp (.int n) k1 rfl ?_) (ih fun m hm => h m (List.mem_cons_of_mem _ hm))
    exact RpD.len ⟨by simp only [PyData.depth]; omega, k2, by omega⟩
/-- a value that is no row of any scheme, how it is shown told -/
def OddV (X : Cx) (H : Hp) (x : V) : Prop := ∃ d : PyData, (∀ H', Same H H' → Rp X H' x d) ∧ RpD d ∧
  (NoTup H x ∨ ∃ (p : Addr) (xs : List V), x = .ref p ∧ H p = some (.tup xs) ∧ xs.length ≤ 1000 ∧ (∀ y ∈ xs, ItemOk H y) ∧ ∀ (ds : List Int) (ks : List (Addr × (Int × Int))), rowB ds ks xs = false)
theorem OddV.same {H' : Hp} {x : V} (h : OddV X H x) (s : Same H H') : OddV X H' x := by
  obtain ⟨d, h1, h2, h3⟩ := h
  refine ⟨d, fun H2 s2 => h1 H2 (s.trans s2), h2, ?_⟩
  rcases h3 with h | ⟨p, xs, e, hp, l, it, rb⟩
  · exact .inl (h.same s)
  · exact .inr ⟨p, xs, e, s _ _ hp, l, fun y hy => (it y hy).same s, rb⟩
theorem odd_flat {x : V} {d : PyData} (h : ∀ H', Dp X.K H' x d) (s : d.showable = true) (n : d.hasDict = false) (k : RpD d) (no : NoTup H x) : OddV X H x :=
  ⟨d, fun H' _ => Rp.dp (h H') s n k.len, k, .inl no⟩
theorem odd_lst {p : Addr} {ls : List Int} (h : ∀ n ∈ ls, dig n = true) (hl : ls.length ≤ 4) (e : H p = some (.lst (ls.map V.int))) : OddV X H (.ref p) := by
  obtain ⟨k1, k2, k3, k4⟩ := ints_ok h
  obtain ⟨c1, c2⟩ := ints_can ls
  have R : RpD (.list (ls.map .int)) := ⟨by simp only [PyData.depth, c2]; omega, k3, by show PyData.weightAll _ ≤ 1000; omega⟩
  exact ⟨.list (ls.map .int), fun H' s => Rp.dp (.lst (SqL.of (s _ _ e)) (dp_ints ls)) k1 k2 R.len, R, .inl (.lst e)⟩
/-- ints and one thing more that is no int -/
theorem odd_tup {p : Addr} {ls : List Int} {y : V} {d : PyData} (h : ∀ n ∈ ls, dig n = true) (hl : ls.length ≤ 4) (e : H p = some (.tup (ls.map V.int ++ [y]))) (ry : ∀ H', Same H H' → Rp X H' y d) (rd : d.depth ≤ 5 ∧ d.leavesShort 60 = true ∧ d.weight ≤ 500) (o : Odd H y) (hy : ∀ n : Int, y ≠ .int n) : OddV X H (.ref p) := by
  obtain ⟨k1, k2, k3, k4⟩ := ints_ok h
  obtain ⟨c1, c2⟩ := ints_can ls
  obtain ⟨r1, r2, r3⟩ := rd
  have lvA : ∀ l : List PyData, PyData.leavesShortAll 60 l = true → PyData.leavesShortAll 60 (l ++ [d]) = true := fun l => by
    induction l with
    | nil => intro _; simp only [List.nil_append, PyData.leavesShortAll, r2, Bool.and_true]
    | cons a l ih =>
      intro z
      rw [List.cons_append, PyData.leavesShortAll]
      rw [PyData.leavesShortAll, Bool.and_eq_true] at z
      rw [z.1, ih z.2]
      rfl
  have wtA : ∀ l : List PyData, PyData.weightAll (l ++ [d]) = PyData.weightAll l + (d.weight + 1) := fun l => by
    induction l with
    | nil => simp only [List.nil_append, PyData.weightAll]; omega
    | cons a l ih => rw [List.cons_append, PyData.weightAll, PyData.weightAll, ih]; omega
  have dpA : ∀ l : List PyData, PyData.depthAll l = 0 → PyData.depthAll (l ++ [d]) = d.depth := fun l => by
    induction l with
    | nil => intro _; simp only [List.nil_append, PyData.depthAll]; omega
    | cons a l ih =>
      intro z
      rw [PyData.depthAll] at z
      rw [List.cons_append, PyData.depthAll, ih (by omega)]
      omega
  have R : RpD (.tuple (ls.map .int ++ [d])) := by
    refine ⟨?_, lvA _ k3, ?_⟩
    · simp only [PyData.depth, dpA _ c2]
      omega
    · show PyData.weightAll _ ≤ 1000
      rw [wtA]
      omega
  refine ⟨.tuple (ls.map .int ++ [d]), fun H' s => Rp.tup (SqT.of (s _ _ e)) (RpAll.append (rp_ints h) (.cons (ry H' s) .nil)), R, .inr ⟨p, _, rfl, e, ?_, fun z hz => ?_, fun ds ks => rowB_bad hy⟩⟩
  · rw [List.length_append, List.length_map]
    show ls.length + 1 ≤ 1000
    omega
  · rcases List.mem_append.mp hz with q | q
    · obtain ⟨n, _, rfl⟩ := List.mem_map.mp q
      exact .inl ⟨n, rfl⟩
    · cases List.mem_singleton.mp q
      exact .inr o
end

theorem has_odd {X : Cx} {C : Addr} {H : Hp} {a t r : Addr} {b : Int} {ds : List Int} {ks : List (Addr × (Int × Int))} {x : V} {Q : VK} {E : XK} (S : SchemeAt C H a t r b ds ks) (o : OddV X H x) (q : ∀ H', Same H H' → Q (.bl false) H') : spHas C [.ref a, x] H Q E := by
  obtain ⟨d, _, _, h⟩ := o
  refine ⟨a, t, r, b, ds, ks, x, rfl, S, ?_⟩
  rcases h with h | ⟨p, xs, e, hp, l, it, rb⟩
  · exact .inl ⟨h, q⟩
  · exact .inr ⟨p, xs, e, hp, l, it, fun H' s => by rw [rb]; exact q H' s⟩
theorem told_odd {X : Cx} {C : Addr} {H : Hp} {a t r : Addr} {b : Int} {ds : List Int} {ks : List (Addr × (Int × Int))} {x : V} {Q : VK} {E : XK} (S : SchemeAt C H a t r b ds ks) (hb : b.natAbs ≤ 6) (o : OddV X H x) (q : ∀ l H', Same H H' → H' l = some (.lst [.str "row", x, .bl true]) → Q (.ref l) H') : spTold C [.ref a, x] H Q E := by
  obtain ⟨d, _, _, h⟩ := o
  refine ⟨a, t, r, b, ds, ks, x, rfl, S, hb, ?_⟩
  rcases h with h | ⟨p, xs, e, hp, l, it, rb⟩
  · exact .inl ⟨h, q⟩
  · exact .inr ⟨p, xs, e, hp, l, it, (fun ns _ z => by rw [rb] at z; cases z), fun _ => q⟩
theorem cut4 (ls : List Int) : cutV (ls.map V.int) none (some 4) = (ls.take 4).map V.int := by
  unfold cutV
  have e1 : HT.sIx (ls.map V.int).length 0 none = 0 := rfl
  have e2 : HT.sIx (ls.map V.int).length (ls.map V.int).length (some 4) = min 4 ls.length := by
    rw [List.length_map]
    unfold HT.sIx
    simp <;> omega
  rw [e1, e2, List.drop_zero, Nat.sub_zero, ← List.map_take]
  congr 1
  rcases Nat.le_total ls.length 4 with h | h
  · rw [Nat.min_eq_right h, List.take_length, List.take_of_length_le h]
  · rw [Nat.min_eq_left h]

/-! ### single values that are asked -/
/-- None, a truth, an int, a text -/
inductive Plain : V → Prop
  | non : Plain .non
  | bl (b : Bool) : Plain (.bl b)
  | int (n : Int) : Plain (.int n)
  | str (z : Str) : Plain (.str z)
theorem Plain.item {H : Hp} {x : V} (h : Plain x) : ItemOk H x := by
  cases h with
  | non => exact .inr .non
  | bl b => exact .inr (.bl b)
  | int n => exact .inl ⟨n, rfl⟩
  | str z => exact .inr (.str z)
theorem Plain.flat {x : V} (h : Plain x) : flatV x = true := by
  cases h <;> rfl
theorem in_none : ∀ ns : List Int, inV .non (ns.map V.int) = false
  | [] => rfl
  | _ :: ns => in_none ns
theorem in_text (z : Str) : ∀ ns : List Int, inV (.str z) (ns.map V.int) = false
  | [] => rfl
  | _ :: ns => in_text z ns
/-- a digit of the scheme, by the law -/
def known (ns : List Int) : V → Bool
  | .int n => decide (n ∈ ns)
  | _ => false
/-- what isinstance(x, bool) tells -/
def isBl : V → Bool
  | .bl _ => true
  | _ => false
theorem known_is {ns : List Int} {x : V} (h : Plain x) : (inV x (ns.map V.int) && !isBl x) = known ns x := by
  cases h with
  | non => rw [in_none]; rfl
  | bl b => show (_ && false) = false; rw [Bool.and_false]
  | int n => rw [in_ints]; show (_ && true) = _; rw [Bool.and_true]; rfl
  | str z => rw [in_text]; rfl
theorem Plain.kit {K : PySem.W.Frag} {H : Hp} {x : V} (h : Plain x) : ∃ t : Value, TyX K H x t ∧ PySem.W.kitOne K t (.type "bool") = some (isBl x) := by
  cases h with
  | non => exact ⟨_, .base .non, kit_ty (by decide +kernel)⟩
  | bl b => exact ⟨_, .base (.bl b), by show _ = some true; exact kit_ty (by decide +kernel)⟩
  | int n => exact ⟨_, .base (.int n), by show _ = some false; exact kit_ty (by decide +kernel)⟩
  | str z => exact ⟨_, .base (.str z), by show _ = some false; exact kit_ty (by decide +kernel)⟩
theorem none_no (ps : List (Int × Int)) (n : Int) : ((ps.map pd2).any fun z => PyData.eqv z (.tuple [.int n, .none])) = false := by
  induction ps with
  | nil => rfl
  | cons p ps ih =>
    rw [List.map_cons, List.any_cons, ih, Bool.or_false]
    simp [pd2, PyData.eqv, PyData.eqvAll]
theorem jdg_known {ns : List Int} {ks : List (Addr × (Int × Int))} (dg : ∀ n ∈ ns, dig n = true) {x y : V} (hx : Plain x) (hy : Plain y) :
    jdg ns ks x y = (known ns x && ((decide (y = .non) || known ns y) && (match x, y with | .int n, .int m => !hasP (ks.map (·.2)) n m | _, _ => true))) := by
  have one : ∀ x : Int, isOne ns x = decide (x ∈ ns) := fun x => by
    unfold isOne
    by_cases h : x ∈ ns
    · rw [dg x h, Bool.true_and]
    · rw [decide_eq_false h, Bool.and_false]
  have bar : ∀ x y : Int, hasBar ks x y = hasP (ks.map (·.2)) x y := fun x y => by
    unfold hasBar hasP
    rw [List.map_map]
    rfl
  cases hx with
  | non => cases hy <;> rfl
  | bl b => cases hy <;> rfl
  | str z => cases hy <;> rfl
  | int n =>
    cases hy with
    | non =>
      show isOne ns n = (decide (n ∈ ns) && ((decide (V.non = V.non) || false) && true))
      rw [one, decide_eq_true (rfl : V.non = V.non), Bool.true_or, Bool.true_and, Bool.and_true]
    | bl b =>
      show false = (decide (n ∈ ns) && ((decide (V.bl b = V.non) || false) && true))
      rw [decide_eq_false (show ¬ (V.bl b = V.non) from fun z => by cases z), Bool.false_or, Bool.false_and, Bool.and_false]
    | str z =>
      show false = (decide (n ∈ ns) && ((decide (V.str z = V.non) || false) && true))
      rw [decide_eq_false (show ¬ (V.str z = V.non) from fun z => by cases z), Bool.false_or, Bool.false_and, Bool.and_false]
    | int m =>
      show (isOne ns n && (isOne ns m && !hasBar ks n m)) = (decide (n ∈ ns) && ((decide (V.int m = V.non) || decide (m ∈ ns)) && !hasP (ks.map (·.2)) n m))
      rw [one, one, bar, decide_eq_false (show ¬ (V.int m = V.non) from fun z => by cases z), Bool.false_or]
end K07
namespace K07
open PySem PySem.Spec PyProof.Rows L2 OF
section
variable {P : Program} {w : World} {K : PySem.W.Frag} {mg : Str → Option Value} {base : Heap}

theorem iteAndN {c k : Bool} {ta : TE} {σ : L2.St} {H : Hp} {Q : VK} (hA : Q (.bl k) H → c = true → tNotV ta σ H Q) (e : c = false → k = false) (h : Q (.bl k) H) : if c = true then tNotV ta σ H Q else Q (.bl false) H := by
  cases c with
  | true => exact iteT (hA h rfl)
  | false =>
    rw [e rfl] at h
    exact iteF h
theorem iteOrA {c k : Bool} {ta tb : TE} {σ : L2.St} {H : Hp} {Q : VK} (hA : Q (.bl k) H → tAndV ta tb σ H Q) (h : Q (.bl (c || k)) H) : if c = true then Q (.bl true) H else tAndV ta tb σ H Q := by
  cases c with
  | true => exact iteT h
  | false => exact iteF (hA h)
def spRight : Sp := fun vs H Q _ => ∃ a : Addr, vs = [.ref a] ∧ Box 0 H a ∧ ∀ H', But a H H' → Q (.bl true) H'
abbrev nRi : List Str := ["_law_box_here", "_law_models", "_law_schemes", "_law_many", "_law_rows", "_law_line", "_law_k", "_law_one", "_law_some", "_law_odd", "_law_ahead", "_law_beside", "_law_known", "_law_good", "_law_model"]
theorem scR : FnScope nRi ["_law_box_here"] (defScope sRight) := ⟨rfl, rfl, rfl, by decide +kernel, rfl, by decide +kernel, by decide +kernel⟩
def gRL {α : Type} (us ws : List α) : List α := match us, ws with
  | [x], [r, l] => [x, l, r]
  | _, _ => []
theorem kbAllows {f : Addr} {fd : FuncData} (F : Fun K "allows" "Scheme.allows" sAllows f fd) : KBn K fd ["self", "left", "right"] 1 ["right", "left"] gRL gRL := by
  obtain ⟨oc, od, kV, doc, pm, an, cdv, ct, osl, rfl, lk, hcd⟩ := F.ex
  refine ⟨fun s us ws X l1 l2 => ?_, fun {vs us zs ws} r1 r2 => ?_⟩
  · match us, ws, l1, l2 with
    | [x], [r, l], _, _ => exact .of_eq rfl
  · cases r1 with
    | nil => exact .nil
    | cons a t => cases t with
      | cons b t => cases r2 <;> exact .nil
      | nil => cases r2 with
        | nil => exact .nil
        | cons c t => cases t with
          | nil => exact .nil
          | cons d t => cases t with
            | nil => exact .cons a (.cons d (.cons c .nil))
            | cons e t => exact .nil
theorem kbValue {f : Addr} {fd : FuncData} (F : Fun K "value_of" "Scheme.value_of" sValueOf f fd) : KBn K fd ["self", "row"] 1 ["row"] gApp gApp := by
  obtain ⟨oc, od, kV, doc, pm, an, cdv, ct, osl, rfl, lk, hcd⟩ := F.ex
  refine ⟨fun s us ws X l1 l2 => ?_, fun {vs us zs ws} r1 r2 => r1.append r2⟩
  match us, ws, l1, l2 with
  | [x], [v], _, _ => exact .of_eq rfl
/-- a scheme that tells what the law's parts tell -/
def SchOf (C : Addr) (H : Hp) (s : Addr) (b : Int) (ns : List Int) (ps : List (Int × Int)) : Prop := ∃ (t r : Addr) (L : List (Addr × (Int × Int))), L.map (·.2) = ps ∧ SchemeAt C H s t r b ns L
theorem SchOf.same {C s : Addr} {H H' : Hp} {b : Int} {ns : List Int} {ps : List (Int × Int)} (h : SchOf C H s b ns ps) (k : Same H H') : SchOf C H' s b ns ps := by
  obtain ⟨t, r, L, e, S⟩ := h
  exact ⟨t, r, L, e, S.same k⟩
theorem SchOf.stay {C s a : Addr} {n : Int} {H H' : Hp} {b : Int} {ns : List Int} {ps : List (Int × Int)} (h : SchOf C H s b ns ps) (B : Box n H a) (k : But a H H') : SchOf C H' s b ns ps := by
  obtain ⟨t, r, L, e, S⟩ := h
  exact ⟨t, r, L, e, S.stay B k⟩
/-- the schemes that are made so far -/
def MadeP (C D : Addr) (b0 b1 : Int) (ns0 ns1 : List Int) (ps0 ps1 : List (Int × Int)) : Nat → Hp → Prop
  | 0, H => H D = some (.lst [])
  | 1, H => ∃ s0, H D = some (.lst [.ref s0]) ∧ SchOf C H s0 b0 ns0 ps0
  | _, H => ∃ s0 s1, H D = some (.lst [.ref s0, .ref s1]) ∧ SchOf C H s0 b0 ns0 ps0 ∧ SchOf C H s1 b1 ns1 ps1
set_option maxHeartbeats 8000000 in
theorem ok_right {f fT fS fM fW fO fX fJ fA fH fD fE fV C CR : Addr} {fd fdT fdS fdM fdW fdO fdX fdJ fdA fdH fdD fdE fdV : FuncData} (F : Fun K "_law_right" "_law_right" sRight f fd) (c : Cls K C)
    (FT : Fun K "_law_take" "_law_take" sTake fT fdT) (gT : mg "_law_take" = some (.ref fT)) (bT : Binds K fdT ["_law_box_here", "_law_many"] [])
    (GS : FnOk P w K mg base CX0 3 fS fdS ["_law_box_here"] spScheme) (gS : mg "_law_scheme" = some (.ref fS)) (kS : PySem.W.keepIn K (.ref fS) = true) (bS : Binds K fdS ["_law_box_here"] [])
    (GM : FnOk P w K mg base CX0 9 fM fdM ["_law_model"] (spMade C)) (gM : mg "_law_made" = some (.ref fM)) (kM : PySem.W.keepIn K (.ref fM) = true) (bM : Binds K fdM ["_law_model"] [])
    (GW : FnOk P w K mg base CX0 2 fW fdW ["_law_box_here", "_law_model", "_law_many"] spRow) (gW : mg "_law_row" = some (.ref fW)) (kW : PySem.W.keepIn K (.ref fW) = true) (bW : Binds K fdW ["_law_box_here", "_law_model", "_law_many"] [])
    (GO : FnOk P w K mg base CX0 2 fO fdO ["_law_box_here", "_law_line"] spOddRow) (gO : mg "_law_odd_row" = some (.ref fO)) (kO : PySem.W.keepIn K (.ref fO) = true) (bO : Binds K fdO ["_law_box_here", "_law_line"] [])
    (GX : FnOk P w K mg base CX0 2 fX fdX ["_law_box_here", "_law_some"] (spMixed K)) (gX : mg "_law_mixed" = some (.ref fX)) (kX : PySem.W.keepIn K (.ref fX) = true) (bX : Binds K fdX ["_law_box_here", "_law_some"] [])
    (GJ : FnOk P w K mg base CX0 9 fJ fdJ ["_law_model", "_law_scheme_here", "_law_line"] (spJudged C)) (gJ : mg "_law_judged" = some (.ref fJ)) (kJ : PySem.W.keepIn K (.ref fJ) = true) (bJ : Binds K fdJ ["_law_model", "_law_scheme_here", "_law_line"] [])
    (FA : Fun K "allows" "Scheme.allows" sAllows fA fdA) (mA : Meth K C "allows" fA) (GA : FnOk P w K mg base CX0 5 fA fdA ["self", "left", "right"] (spAllows C)) (bA : Binds K fdA ["self", "left", "right"] [])
    (mH : Meth K C "__contains__" fH) (GH : FnOk P w K mg base CX0 6 fH fdH ["self", "row"] (spHas C)) (bH : Binds K fdH ["self", "row"] [])
    (GD : FnOk P w K mg base CX0 8 fD fdD ["_law_scheme_here", "_law_line"] (spTold C)) (gD : mg "_law_told" = some (.ref fD)) (kD : PySem.W.keepIn K (.ref fD) = true) (bD : Binds K fdD ["_law_scheme_here", "_law_line"] [])
    (mE : Meth K C "__eq__" fE) (GE : FnOk P w K mg base CX0 1 fE fdE ["self", "other"] (spEqS C)) (bE : Binds K fdE ["self", "other"] [])
    (FV : Fun K "value_of" "Scheme.value_of" sValueOf fV fdV) (mV : Meth K C "value_of" fV) (GV : FnOk P w K mg base (L2.CX P w) 7 fV fdV ["self", "row"] (spValueOf C CR))
    (mi : mg "int" = none) (mr : mg "range" = none) (mis : mg "isinstance" = none) (mrp : mg "repr" = none) (ml : mg "list" = none) (mb : mg "bool" = none) :
    FnG P w K mg base 10 f fd ["_law_box_here"] spRight := by
  refine okG F scR (fun vs H Q E h => ?_) (fun cdv A outer s H vs Q E gu hr h => ?_)
  · obtain ⟨a, rfl, _⟩ := h
    rfl
  · obtain ⟨a, rfl, hB, q⟩ := h
    have GT : FnOk P w K mg base CX0 1 fT fdT ["_law_box_here", "_law_many"] spTake := ok_take FT mi
    have hr1 : Room 1 _ := hr.mono (by decide)
    have hr2 : Room 2 _ := hr.mono (by decide)
    have hr3 : Room 3 _ := hr.mono (by decide)
    have hr5 : Room 5 _ := hr.mono (by decide)
    have hr6 : Room 6 _ := hr.mono (by decide)
    have hr7 : Room 7 _ := hr.mono (by decide)
    have hr8 : Room 8 _ := hr.mono (by decide)
    have hu : A.units + 3 + 65 < cLine := by
      have := hr.un
      have e : (A.deeper (envOfC "_law_right" (defScope sRight) s.heap.objs.size f cdv)).units = A.units + 3 := rfl
      omega
    apply Exists.intro
    apply And.intro
    · apply pss_cons
      · exact ps_set (i := 1) scR.nd rfl (.inl rfl) (pe_lst (pa_cons (pe_call GS hr3 (by rfl) gS kS bS .nil pass0 (pa_cons (pv 0) pa_nil)) (pa_cons (pe_call GS hr3 (by rfl) gS kS bS .nil pass0 (pa_cons (pv 0) pa_nil)) pa_nil)))
      apply pss_cons
      · exact ps_setLc (i := 2) (own := [("_law_model", 14)]) (g := gName 14) (tt := tYes) rfl scR.nd rfl rfl (sw_true rfl rfl rfl (by decide +kernel)) (pi_list (pv 1)) (blkOk_by (own := [("_law_model", 14)]) (N := nRi) (sc := defScope sRight) (by decide +kernel)) (fun _ _ _ _ _ => pg_name (i := 14) scR.nd rfl (Or.inl rfl)) (fun _ _ _ _ _ => pts_nil)
          (fun _ _ _ _ _ => by exact (pe_call GM hr (by rfl) gM kM bM .nil pass0 (pa_cons (pv 14) pa_nil)))
      apply pss_cons
      · exact ps_set (i := 3) scR.nd rfl (.inl rfl) (pe_ix ix_list (pe_lst (pa_cons (pe_call GT hr1 (by rfl) gT FT.kp bT .nil pass0 (pa_cons (pv 0) (pa_cons pe_int pa_nil))) (pa_cons (pe_call GT hr1 (by rfl) gT FT.kp bT .nil pass0 (pa_cons (pv 0) (pa_cons pe_int pa_nil))) (pa_cons pe_int pa_nil)))) (pe_op op_mul (pe_callTy call_int1 (by rfl) mi PyProof.Rows.boot_int (pa_cons (pe_cmpR op_gt (pe_call GT hr1 (by rfl) gT FT.kp bT .nil pass0 (pa_cons (pv 0) (pa_cons pe_int pa_nil))) pe_int (nomark _)) pa_nil)) pe_int) (fun _ _ => rfl))
      apply pss_cons
      · exact ps_set (i := 4) scR.nd rfl (.inl rfl) (pe_lst (pa_cons (pe_call GW hr2 (by rfl) gW kW bW .nil pass0 (pa_cons (pv 0) (pa_cons (pe_ix ix_list (pv 1) pe_int (fun _ _ => rfl)) (pa_cons (pv 3) pa_nil)))) (pa_cons (pe_call GW hr2 (by rfl) gW kW bW .nil pass0 (pa_cons (pv 0) (pa_cons (pe_ix ix_list (pv 1) pe_int (fun _ _ => rfl)) (pa_cons pe_int pa_nil)))) pa_nil)))
      apply pss_cons
      · exact ps_expr (pe_bm PySem.F.plainAttrs_list PySem.F.slot_list_append PySem.F.type_list_append mt_append (pv 4) (pa_cons (pe_call GO hr2 (by rfl) gO kO bO .nil pass0 (pa_cons (pv 0) (pa_cons (pe_ix ix_list (pv 4) pe_int (fun _ _ => rfl)) pa_nil))) pa_nil))
      apply pss_cons
      · exact ps_for PassesOwn.never rfl (pi_list (pe_call GX hr2 (by rfl) gX kX bX .nil pass0 (pa_cons (pv 0) (pa_cons (pe_op op_cat (pv 4) (pe_lst (pa_cons (pe_tup pa_nil) pa_nil))) pa_nil)))) (pg_name (i := 5) scR.nd rfl (.inl rfl))
          (pss_one (ps_for PassesOwn.never rfl (pi_list (pe_lst (pa_cons pe_int (pa_cons pe_int (pa_cons pe_int pa_nil))))) (pg_name (i := 6) scR.nd rfl (.inl rfl)) (pss_one (ps_if (pt_not (pt_val (pe_call GJ hr (by rfl) gJ kJ bJ .nil pass0 (pa_cons (pe_ix ix_list (pv 1) (pv 6) (fun _ _ => rfl)) (pa_cons (pe_ix ix_list (pv 2) (pv 6) (fun _ _ => rfl)) (pa_cons (pv 5) pa_nil)))))) (pss_one (ps_ret pe_bl)) pss_nil))))
      apply pss_cons
      · exact ps_set (i := 7) scR.nd rfl (.inl rfl) (pe_slice sl_tup2 (pe_ix ix_list (pv 4) pe_int (fun _ _ => rfl)) po_none (po_some pe_int))
      apply pss_cons
      · exact ps_set (i := 8) scR.nd rfl (.inl rfl) (pe_lst (pa_cons pe_non (pa_cons (pe_callTy call_list_of (by rfl) ml PyProof.Rows.boot_list (pa_cons (pv 7) pa_nil)) (pa_cons pe_str (pa_cons pe_int (pa_cons (pe_op op_cat2 (pv 7) (pe_tup (pa_cons pe_bl pa_nil))) (pa_cons (pe_op op_cat2 (pv 7) (pe_tup (pa_cons pe_non pa_nil))) (pa_cons (pe_op op_cat2 (pv 7) (pe_tup (pa_cons pe_str pa_nil))) (pa_cons (pe_op op_cat2 (pv 7) (pe_tup (pa_cons (pe_tup (pa_cons pe_int pa_nil)) pa_nil))) (pa_cons pe_bl (pa_cons (pe_op op_cat2 (pv 7) (pe_tup (pa_cons (pe_lst (pa_cons pe_int pa_nil)) pa_nil))) pa_nil)))))))))))
      apply pss_cons
      · exact ps_for PassesOwn.never rfl (pi_list (pe_op op_cat (pv 8) (pe_lst (pa_cons (pe_op op_cat2 (pv 7) (pe_tup (pa_cons pe_dnewK pa_nil))) (pa_cons (pe_disp (pps_cons pe_int pe_int pps_nil) (by rfl) (by rfl) (fun z => by cases z) (by decide)) pa_nil))))) (pg_name (i := 9) scR.nd rfl (.inl rfl))
          (pss_one (ps_if (PW.pt (pw_or (pt_cmpR op_ne (pe_callB call_repr_bool (by rfl) mrp PyProof.Rows.boot_repr (pa_cons (pe_cmpR (op_inOwn mH.at_ mH.fn GH bH hr6 pass0) (pv 9) (pe_ix ix_list (pv 2) pe_int (fun _ _ => rfl)) rfl) pa_nil)) pe_str (nomark _)) (pw_or1 (pt_cmpR op_ne (pe_callB (call_reprL gu hr.units) (by rfl) mrp PyProof.Rows.boot_repr (pa_cons (pe_call GD hr8 (by rfl) gD kD bD .nil pass0 (pa_cons (pe_ix ix_list (pv 2) pe_int (fun _ _ => rfl)) (pa_cons (pv 9) pa_nil))) pa_nil)) (pe_callB (call_reprL gu hr.units) (by rfl) mrp PyProof.Rows.boot_repr (pa_cons (pe_lst (pa_cons pe_str (pa_cons (pv 9) (pa_cons pe_bl pa_nil)))) pa_nil)) (nomark _))))) (pss_one (ps_ret pe_bl)) pss_nil))
      apply pss_cons
      · exact ps_for PassesOwn.never rfl (pi_list (pe_op op_cat (pe_listRg rfl (by rfl) ml (prg_2 (by rfl) mr (pe_un un_neg pe_int) pe_int)) (pe_lst (pa_cons pe_non (pa_cons pe_bl (pa_cons pe_str pa_nil)))))) (pg_name (i := 10) scR.nd rfl (.inl rfl))
          (pss_one (ps_for PassesOwn.never rfl (pi_list (pe_op op_cat (pe_lst (pa_cons pe_non (pa_cons (pe_un un_neg pe_int) (pa_cons pe_bl (pa_cons pe_str pa_nil))))) (pe_listRg rfl (by rfl) ml (prg_2 (by rfl) mr (pe_un un_neg pe_int) pe_int)))) (pg_name (i := 11) scR.nd rfl (.inl rfl))
            (pss_cons (ps_set (i := 12) scR.nd rfl (.inl rfl) (pe_and (pe_cmpR op_in_seq (pv 10) (pe_ix ix_list (pe_ix ix_list (pv 1) pe_int (fun _ _ => rfl)) pe_int (fun _ _ => rfl)) rfl) (pe_one (pe_not (pe_callB call_isi (by rfl) mis PyProof.Rows.boot_isinstance (pa_cons (pv 10) (pa_cons (pe_bltn (v := .ty "bool") (by rfl) mb PyProof.Rows.boot_bool rfl) pa_nil)))))))
            (pss_cons (ps_set (i := 13) scR.nd rfl (.inl rfl) (pe_or (pe_cmpR op_isN (pv 11) pe_non (nomark _)) (pe_one (pe_and (pe_cmpR op_in_seq (pv 11) (pe_ix ix_list (pe_ix ix_list (pv 1) pe_int (fun _ _ => rfl)) pe_int (fun _ _ => rfl)) rfl) (pe_one (pe_not (pe_callB call_isi (by rfl) mis PyProof.Rows.boot_isinstance (pa_cons (pv 11) (pa_cons (pe_bltn (v := .ty "bool") (by rfl) mb PyProof.Rows.boot_bool rfl) pa_nil)))))))))
            (pss_one (ps_if (pt_cmpR op_ne (pe_callB call_repr_bool (by rfl) mrp PyProof.Rows.boot_repr (pa_cons (pe_meth (pe_ix ix_list (pv 2) pe_int (fun _ _ => rfl)) c mA GA hr5 bA .nil pass0 (pa_cons (pv 10) (pa_cons (pv 11) pa_nil))) pa_nil)) (pe_callB call_repr_bool (by rfl) mrp PyProof.Rows.boot_repr (pa_cons (pe_and (pv 12) (pe_and (pv 13) (pe_one (pe_cmpR (op_notInD hu) (pe_tup (pa_cons (pv 10) (pa_cons (pv 11) pa_nil))) (pe_ix ix_list (pe_ix ix_list (pv 1) pe_int (fun _ _ => rfl)) pe_int (fun _ _ => rfl)) rfl)))) pa_nil)) (nomark _)) (pss_one (ps_ret pe_bl)) pss_nil))))))
      apply pss_cons
      · exact ps_for PassesOwn.never rfl (pi_list (pe_lst (pa_cons (pe_lst (pa_cons pe_int pa_nil)) (pa_cons (pe_disp (pps_cons pe_int pe_int pps_nil) (by rfl) (by rfl) (fun z => by cases z) (by decide)) (pa_cons (pe_tup (pa_cons pe_int pa_nil)) pa_nil))))) (pg_name (i := 9) scR.nd rfl (.inl rfl)) (pss_one (ps_if (PW.pt (pw_or (pt_cmpR op_notBl (pe_meth (pe_ix ix_list (pv 2) pe_int (fun _ _ => rfl)) c mA GA hr5 bA .nil pass0 (pa_cons (pv 9) (pa_cons pe_int pa_nil))) pe_bl (nomark _)) (pw_or1 (pt_cmpR op_notBl (pe_meth (pe_ix ix_list (pv 2) pe_int (fun _ _ => rfl)) c mA GA hr5 bA .nil pass0 (pa_cons (pe_ix ix_list (pe_ix ix_list (pe_ix ix_list (pv 1) pe_int (fun _ _ => rfl)) pe_int (fun _ _ => rfl)) pe_int (fun _ _ => rfl)) (pa_cons (pv 9) pa_nil))) pe_bl (nomark _))))) (pss_one (ps_ret pe_bl)) pss_nil))
      apply pss_cons
      · exact ps_if (pt_cmpR op_ne (pe_cmpR (op_eqOwn mE.at_ mE.fn GE bE hr1 pass0) (pe_ix ix_list (pv 2) pe_int (fun _ _ => rfl)) (pe_ix ix_list (pv 2) pe_int (fun _ _ => rfl)) (nomark _)) (pe_cmpR (op_eqD hr.units) (pe_ix ix_list (pv 1) pe_int (fun _ _ => rfl)) (pe_ix ix_list (pv 1) pe_int (fun _ _ => rfl)) (nomark _)) (nomark _)) (pss_one (ps_ret pe_bl)) pss_nil
      apply pss_one
      · exact ps_ret (pe_and (pe_methN0 (pe_ix ix_list (pv 2) pe_int (fun _ _ => rfl)) c mA GA hr5 (kbAllows FA) pass0 (pk_cons pe_non (pk_cons (pe_ix ix_list (pe_ix ix_list (pe_ix ix_list (pv 1) pe_int (fun _ _ => rfl)) pe_int (fun _ _ => rfl)) pe_int (fun _ _ => rfl)) pk_nil))) (pe_one (pe_cmpR op_eq (pe_methN0 (pe_ix ix_list (pv 2) pe_int (fun _ _ => rfl)) c mV GV hr7 (kbValue FV) passNo (pk_cons (pe_tup pa_nil) pk_nil)) pe_int (nomark _))))
    -- the models
    refine ⟨.ref a, rfl, a, 0, rfl, hB, by decide, fun m0 b0 ns0 ps0 H1 t1 B1 G0 Mo0 => ?_⟩
    refine ⟨.ref a, rfl, a, 0 + 100, rfl, B1, by decide, fun m1 b1 ns1 ps1 H2 t2 B2 G1 Mo1 => ?_⟩
    refine ⟨(by show 2 ≤ sizeLine; decide), fun ml_ hml => ?_⟩
    have nml := B2.ne hml
    have Mo0 := (Mo0.but t2).but (But.new (o := .lst [.ref m0, .ref m1]) hml)
    have Mo1 := Mo1.but (But.new (o := .lst [.ref m0, .ref m1]) hml)
    have B3 := (B2.new (o := .lst [.ref m0, .ref m1]) hml).mono (by decide : (0 : Int) + 100 + 100 ≤ 200)
    have T3 : But a H (upd H2 ml_ (.lst [.ref m0, .ref m1])) := t1.trans (t2.trans (But.new hml))
    have eml : (upd H2 ml_ (.lst [.ref m0, .ref m1])) ml_ = some (.lst [.ref m0, .ref m1]) := upd_same
    generalize upd H2 ml_ (.lst [.ref m0, .ref m1]) = H3 at Mo0 Mo1 B3 T3 eml ⊢
    clear t1 t2 B1 B2
    -- the schemes
    refine ⟨.ref ml_, rfl, ml_, rfl, ⟨_, SqL.of eml⟩, fun sl_ hsl => ?_⟩
    have nsl := B3.ne hsl
    refine lc_list (K := K) (a := ml_) (xs := [V.ref m0, .ref m1]) (fun i H' => Same H3 H' ∧ MadeP C sl_ b0 b1 ns0 ns1 ps0 ps1 i H') ⟨same_new hsl, upd_same⟩ (fun i H' _ h => SqL.of (h.1 _ _ eml)) ?_ ?_
    · rintro i x H' hx ⟨s1, mp⟩
      match i, hx, mp with
      | 0, hx, mp =>
        cases Option.some.inj hx
        obtain ⟨dl, pl, ks, ek, MM⟩ := Mo0
        refine ⟨rfl, tYes_if ⟨.ref m0, rfl, m0, dl, pl, b0, ns0, ks, rfl, (MM H3 (But.refl)).same s1, ek ▸ G0, fun sa t r L H4 s4 S eL => ?_⟩⟩
        refine ⟨[], s4 _ _ mp, (by show 0 < sizeLine; decide), Same.store (s1.trans s4) hsl, sa, upd_same, t, r, L, eL.trans ek, ?_⟩
        exact S.store_lst (s4 _ _ mp)
      | 1, hx, mp =>
        cases Option.some.inj hx
        obtain ⟨s0, e0, S0⟩ := mp
        obtain ⟨dl, pl, ks, ek, MM⟩ := Mo1
        refine ⟨rfl, tYes_if ⟨.ref m1, rfl, m1, dl, pl, b1, ns1, ks, rfl, (MM H3 (But.refl)).same s1, ek ▸ G1, fun sa t r L H4 s4 S eL => ?_⟩⟩
        refine ⟨[.ref s0], s4 _ _ e0, (by show 1 < sizeLine; decide), Same.store (s1.trans s4) hsl, s0, sa, upd_same, ?_, t, r, L, eL.trans ek, S.store_lst (s4 _ _ e0)⟩
        obtain ⟨t0, r0, L0, eL0, S0⟩ := S0.same s4
        exact ⟨t0, r0, L0, eL0, S0.store_lst (s4 _ _ e0)⟩
      | (n + 2), hx, mp => simp at hx
    rintro H4 ⟨s4, s0, s1_, esl, S0, S1⟩
    have B4 := B3.same s4
    have T4 : But a H H4 := T3.trans (But.of_same s4)
    have eml := s4 _ _ eml
    have Mo0 := Mo0.but (But.of_same s4)
    have Mo1 := Mo1.but (But.of_same s4)
    clear s4 B3 T3
    -- how many
    refine ⟨.ref a, rfl, a, 10, 200, rfl, B4, by decide, by decide, by decide, fun r1 H5 x0 x1 t5 B5 => ?_⟩
    refine ⟨.ref a, rfl, a, 10, 200 + 1, rfl, B5, by decide, by decide, by decide, fun r2 H6 y0 y1 t6 B6 => ?_⟩
    refine ⟨(by show 3 ≤ sizeLine; decide), fun l hl => ?_⟩
    have nl := B6.ne hl
    refine ⟨.ref a, rfl, a, 9, 200 + 1 + 1, rfl, B6.new hl, by decide, by decide, by decide, fun r3 H7 z0 z1 t7 B7 => ?_⟩
    have el := t7 _ _ nl upd_same
    refine ⟨r3, 6, rfl, rfl, .inr ⟨_, rfl, _, 2, rfl, rfl, .inr ⟨by decide, by decide⟩, ?_⟩⟩
    have hm : ∃ m : Int, atI [V.int r1, V.int r2, V.int 300] ((if (decide ((6 : Int) < r3)) = true then 1 else 0) * 2) = some (V.int m) ∧ 0 ≤ m ∧ m ≤ 300 := by
      by_cases h : (6 : Int) < r3
      · rw [decide_eq_true h, if_pos rfl]
        exact ⟨300, atI_nat (j := 2) rfl, by decide, by decide⟩
      · rw [decide_eq_false h, if_neg Bool.false_ne_true]
        exact ⟨r1, atI_nat (j := 0) rfl, x0, by omega⟩
    obtain ⟨many, em, hm0, hm1⟩ := hm
    refine ⟨l, _, _, .int many, rfl, rfl, SqL.of el, em, ?_⟩
    have t47 : But a H4 H7 := t5.trans (t6.trans ((But.new hl).trans t7))
    have T7 := T4.trans t47
    have eml := t47 _ _ nml eml
    have esl := t47 _ _ nsl esl
    have Mo0 := Mo0.but t47
    have Mo1 := Mo1.but t47
    have S0 := S0.stay B4 t47
    have S1 := S1.stay B4 t47
    clear em el t5 t6 t7 B5 B6 B4 T4 t47 x0 x1 y0 y1 z0 z1 hl nl
    -- the rows
    refine ⟨.ref a, rfl, .ref ml_, rfl, ml_, _, 0, .ref m0, rfl, rfl, SqL.of eml, atI_nat (j := 0) rfl, .int many, rfl, a, m0, _, many, b0, ns0, ps0, rfl, B7, by decide, Mo0, G0.six, hm0, hm1, fun p0 ls0 H8 t8 B8 ep0 len0 sub0 => ?_⟩
    refine ⟨.ref a, rfl, .ref ml_, rfl, ml_, _, 1, .ref m1, rfl, rfl, SqL.of (t8 _ _ nml eml), atI_nat (j := 1) rfl, a, m1, _, 5, b1, ns1, ps1, rfl, B8, by decide, Mo1.but t8, G1.six, by decide, by decide, fun p1 ls1 H9 t9 B9 ep1 len1 _ => ?_⟩
    have np0 := tup_ne B8 ep0
    refine ⟨(by show 2 ≤ sizeLine; decide), fun rl_ hrl => ?_⟩
    have nrl := B9.ne hrl
    have t79 : But a H7 H9 := t8.trans t9
    have T9 := T7.trans t79
    have eml := t79 _ _ nml eml
    have esl := t79 _ _ nsl esl
    have Mo0 := Mo0.but t79
    have Mo1 := Mo1.but t79
    have S0 := S0.stay B7 t79
    have S1 := S1.stay B7 t79
    have ep0 := t9 _ _ np0 ep0
    have np0' := tup_ne B9 ep0
    have np1' := tup_ne B9 ep1
    clear t79 t8 B8 B7 T7 np0
    -- the spoilt row
    have erl : (upd H9 rl_ (.lst [.ref p0, .ref p1])) rl_ = some (.lst [.ref p0, .ref p1]) := upd_same
    have ep0' := same_new (o := .lst [.ref p0, .ref p1]) hrl _ _ ep0
    have t10 : But a H9 (upd H9 rl_ (.lst [.ref p0, .ref p1])) := But.new hrl
    have B10 := B9.new (o := .lst [.ref p0, .ref p1]) hrl
    generalize upd H9 rl_ (.lst [.ref p0, .ref p1]) = H10 at erl ep0' t10 B10 ⊢
    refine ⟨.ref rl_, rfl, .inl ⟨rfl, _, SqL.of erl⟩, .ref a, rfl, .ref rl_, rfl, rl_, _, 0, .ref p0, rfl, rfl, SqL.of erl, atI_nat (j := 0) rfl, a, p0, _, ls0, rfl, B10, by decide, ep0', len0, fun p2 ls2 H11 t11 B11 ep2 len2 => ?_⟩
    have erl := t11 _ _ nrl erl
    refine ⟨rl_, _, _, rfl, rfl, erl, (by show 2 < sizeLine; decide), ?_⟩
    have t12 : But a H9 (upd H11 rl_ (.lst ([.ref p0, .ref p1] ++ [.ref p2]))) := (t10.trans t11).store hrl
    have B12 : Box 1200 (upd H11 rl_ (.lst ([.ref p0, .ref p1] ++ [.ref p2]))) a := (B11.upd nrl).mono (by decide)
    have erl2 : (upd H11 rl_ (.lst ([.ref p0, .ref p1] ++ [.ref p2]))) rl_ = some (.lst [.ref p0, .ref p1, .ref p2]) := upd_same
    have ep2' : (upd H11 rl_ (.lst ([.ref p0, .ref p1] ++ [.ref p2]))) p2 = some (.tup (ls2.map V.int)) := by
      rw [upd_ne (fun z => by rw [z, erl] at ep2; cases ep2)]
      exact ep2
    generalize upd H11 rl_ (.lst ([.ref p0, .ref p1] ++ [.ref p2])) = H12 at t12 B12 erl2 ep2' ⊢
    clear erl ep2 t10 t11 B10 B11 ep0'
    -- mixed
    refine ⟨.ref a, rfl, .ref rl_, rfl, (by show 0 ≤ sizeLine; decide), fun tz htz => ⟨(by show 1 ≤ sizeLine; decide), fun lz hlz => ⟨rl_, lz, [.ref p0, .ref p1, .ref p2], _, rfl, rfl, ?_, upd_same, (by show 3 + 1 ≤ sizeLine; decide), fun lc hlc => ?_⟩⟩⟩
    · exact same_new hlz _ _ (same_new htz _ _ erl2)
    have s15 : Same H12 _ := (same_new (o := .tup []) htz).trans ((same_new (o := .lst [.ref tz]) hlz).trans (same_new (o := .lst ([.ref p0, .ref p1, .ref p2] ++ [.ref tz])) hlc))
    have elc : (upd (upd (upd H12 tz (.tup [])) lz (.lst [.ref tz])) lc (.lst ([.ref p0, .ref p1, .ref p2] ++ [.ref tz]))) lc = some (.lst [.ref p0, .ref p1, .ref p2, .ref tz]) := upd_same
    have etz : (upd (upd (upd H12 tz (.tup [])) lz (.lst [.ref tz])) lc (.lst ([.ref p0, .ref p1, .ref p2] ++ [.ref tz]))) tz = some (.tup []) := same_new hlc _ _ (same_new hlz _ _ upd_same)
    have nlc := (B12.same ((same_new (o := .tup []) htz).trans (same_new (o := .lst [.ref tz]) hlz))).ne hlc
    generalize upd (upd (upd H12 tz (.tup [])) lz (.lst [.ref tz])) lc (.lst ([.ref p0, .ref p1, .ref p2] ++ [.ref tz])) = H15 at s15 elc etz ⊢
    have B15 := B12.same s15
    have ep2 := s15 _ _ ep2'
    have np2 := tup_ne B15 ep2
    have ntz := tup_ne B15 etz
    refine ⟨a, lc, _, 1200, rfl, B15, SqL.of elc, nlc, (by show 4 ≤ 1000; decide), by decide, fun D ys Hb hD t16 B16 eD _ my => ?_⟩
    have tb : But a H9 Hb := t12.trans ((But.of_same s15).trans t16)
    have Tb := T9.trans tb
    have eml := tb _ _ nml eml
    have esl := tb _ _ nsl esl
    have erl := t16 _ _ nrl (s15 _ _ erl2)
    obtain ⟨dl0, pl0, ks0, ek0, MM0⟩ := Mo0.but tb
    obtain ⟨dl1, pl1, ks1, ek1, MM1⟩ := Mo1.but tb
    have M0 := MM0 Hb But.refl
    have M1 := MM1 Hb But.refl
    subst ek0 ek1
    obtain ⟨t0, r0, L0, eL0, S0⟩ := S0.stay B9 tb
    obtain ⟨t1, r1_, L1, eL1, S1⟩ := S1.stay B9 tb
    have ep0 := tb _ _ np0' ep0
    have ep1 := tb _ _ np1' ep1
    have ep2 := t16 _ _ np2 ep2
    have etz := t16 _ _ ntz etz
    have hy : ∀ y ∈ ys, ∃ (p : Addr) (ls : List Int), y = .ref p ∧ Hb p = some (.tup (ls.map V.int)) ∧ ls.length ≤ 1000 := fun y z => by
      have z2 := my y z
      simp only [List.mem_cons, List.not_mem_nil, or_false] at z2
      rcases z2 with rfl | rfl | rfl | rfl
      · exact ⟨_, ls0, rfl, ep0, by omega⟩
      · exact ⟨_, ls1, rfl, ep1, by omega⟩
      · exact ⟨_, ls2, rfl, ep2, by omega⟩
      · exact ⟨_, [], rfl, etz, by decide⟩
    clear my MM0 MM1 Mo0 Mo1 tb t12 t16 B12 B15 B16 B9 T9 t9 s15 erl2 ep2' elc np0' np1' np2 ntz nlc nrl nml nsl hrl htz hlz hlc hD
    have hb0 := base_small G0.b
    have hb1 := base_small G1.b
    -- each row
    refine ⟨D, rfl, ⟨_, SqL.of eD⟩, for_list (K := K) (a := D) (xs := ys) (fun i σ H' => (∃ v5 v6, σ = [some (.ref a), some (.ref ml_), some (.ref sl_), some (.int many), some (.ref rl_), v5, v6, none, none, none, none, none, none, none, none]) ∧ Same Hb H') ⟨⟨none, none, rfl⟩, Same.refl _⟩ (fun i σ H' _ h => SqL.of (h.2 _ _ eD)) ?_ ?_⟩
    · rintro i y σ H1 hx ⟨⟨v5, v6, rfl⟩, s1⟩
      obtain ⟨p, ls, rfl, ep, lp⟩ := hy y (List.mem_of_getElem? hx)
      refine ⟨(by show 3 ≤ sizeLine; decide), fun W hW => ?_⟩
      have sW := same_new (o := .lst [.int 0, .int 1, .int 0]) hW
      have eW : (upd H1 W (.lst [.int 0, .int 1, .int 0])) W = some (.lst [.int 0, .int 1, .int 0]) := upd_same
      generalize upd H1 W (.lst [.int 0, .int 1, .int 0]) = H2 at sW eW ⊢
      have s2 := s1.trans sW
      refine ⟨W, rfl, ⟨_, SqL.of eW⟩, for_list (K := K) (a := W) (xs := [V.int 0, .int 1, .int 0]) (fun j σ H' => (∃ v6, σ = [some (.ref a), some (.ref ml_), some (.ref sl_), some (.int many), some (.ref rl_), some (.ref p), v6, none, none, none, none, none, none, none, none]) ∧ Same H2 H') ⟨⟨_, rfl⟩, Same.refl _⟩ (fun i σ H' _ h => SqL.of (h.2 _ _ eW)) ?_ ?_⟩
      · rintro j x σ H3 hx2 ⟨⟨v6', rfl⟩, s3⟩
        have sA := s2.trans s3
        have z2 := List.mem_of_getElem? hx2
        simp only [List.mem_cons, List.not_mem_nil, or_false] at z2
        have go0 : ∀ k : Int, k = 0 → True := fun _ _ => trivial
        rcases z2 with rfl | rfl | rfl
        · exact ⟨.ref ml_, rfl, .int 0, rfl, ml_, _, 0, .ref m0, rfl, rfl, SqL.of (sA _ _ eml), atI_nat (j := 0) rfl, .ref sl_, rfl, .int 0, rfl, sl_, _, 0, .ref s0, rfl, rfl, SqL.of (sA _ _ esl), atI_nat (j := 0) rfl, .ref p, rfl,
            m0, dl0, pl0, s0, t0, r0, p, b0, ns0, ls, ks0, L0, rfl, M0.same sA, S0.same sA, eL0, G0, sA _ _ ep, lp, fun H4 s4 => ⟨true, rfl, iteF ⟨⟨_, rfl⟩, s3.trans s4⟩⟩⟩
        · exact ⟨.ref ml_, rfl, .int 1, rfl, ml_, _, 1, .ref m1, rfl, rfl, SqL.of (sA _ _ eml), atI_nat (j := 1) rfl, .ref sl_, rfl, .int 1, rfl, sl_, _, 1, .ref s1_, rfl, rfl, SqL.of (sA _ _ esl), atI_nat (j := 1) rfl, .ref p, rfl,
            m1, dl1, pl1, s1_, t1, r1_, p, b1, ns1, ls, ks1, L1, rfl, M1.same sA, S1.same sA, eL1, G1, sA _ _ ep, lp, fun H4 s4 => ⟨true, rfl, iteF ⟨⟨_, rfl⟩, s3.trans s4⟩⟩⟩
        · exact ⟨.ref ml_, rfl, .int 0, rfl, ml_, _, 0, .ref m0, rfl, rfl, SqL.of (sA _ _ eml), atI_nat (j := 0) rfl, .ref sl_, rfl, .int 0, rfl, sl_, _, 0, .ref s0, rfl, rfl, SqL.of (sA _ _ esl), atI_nat (j := 0) rfl, .ref p, rfl,
            m0, dl0, pl0, s0, t0, r0, p, b0, ns0, ls, ks0, L0, rfl, M0.same sA, S0.same sA, eL0, G0, sA _ _ ep, lp, fun H4 s4 => ⟨true, rfl, iteF ⟨⟨_, rfl⟩, s3.trans s4⟩⟩⟩
      · rintro σ H3 ⟨⟨v6', rfl⟩, s3⟩
        exact ⟨⟨_, _, rfl⟩, s2.trans s3⟩
    rintro σ Hc ⟨⟨v5, v6, rfl⟩, sc⟩
    clear hy eD
    -- a short row
    refine ⟨.ref rl_, rfl, rl_, _, 0, .ref p0, rfl, rfl, SqL.of (sc _ _ erl), atI_nat (j := 0) rfl, 4, rfl, p0, _, rfl, sc _ _ ep0, fun po Hd sd eo => ?_⟩
    rw [cut4] at eo
    have hO : ∀ n ∈ ls0.take 4, dig n = true := fun n hn => G0.dg n (sub0 n (List.mem_of_mem_take hn))
    have lO : (ls0.take 4).length ≤ 4 := by
      rw [List.length_take]
      omega
    generalize ls0.take 4 = lsO at eo hO lO
    have s0d := sc.trans sd
    clear sc sd len0 sub0
    -- what is no row
    refine ⟨.ref po, rfl, po, _, rfl, .inr (SqT.of eo), fun l1 hl1 => ?_⟩
    have q1 := same_new (o := .lst (lsO.map V.int)) hl1
    have e1 : (upd Hd l1 (.lst (lsO.map V.int))) l1 = some (.lst (lsO.map V.int)) := upd_same
    generalize upd Hd l1 (.lst (lsO.map V.int)) = K1 at q1 e1 ⊢
    have lcat : ∀ y : V, (lsO.map V.int).length + [y].length ≤ sizeLine := fun y => by
      rw [List.length_map, sizeLine_eq]
      show lsO.length + 1 ≤ _
      omega
    refine ⟨.ref po, rfl, (by show 1 ≤ sizeLine; decide), fun u1 hu1 => ⟨po, u1, _, _, rfl, rfl, same_new hu1 _ _ (q1 _ _ eo), upd_same, lcat _, fun o1 K2 q2' g1 => ?_⟩⟩
    have q2 := (same_new hu1).trans q2'
    refine ⟨.ref po, rfl, (by show 1 ≤ sizeLine; decide), fun u2 hu2 => ⟨po, u2, _, _, rfl, rfl, same_new hu2 _ _ (q2 _ _ (q1 _ _ eo)), upd_same, lcat _, fun o2 K3 q3' g2 => ?_⟩⟩
    have q3 := (same_new hu2).trans q3'
    refine ⟨.ref po, rfl, (by show 1 ≤ sizeLine; decide), fun u3 hu3 => ⟨po, u3, _, _, rfl, rfl, same_new hu3 _ _ (q3 _ _ (q2 _ _ (q1 _ _ eo))), upd_same, lcat _, fun o3 K4 q4' g3 => ?_⟩⟩
    have q4 := (same_new hu3).trans q4'
    have q14 := q1.trans (q2.trans (q3.trans q4))
    refine ⟨.ref po, rfl, (by show 1 ≤ sizeLine; decide), fun x4 hx4 => ⟨(by show 1 ≤ sizeLine; decide), fun u4 hu4 => ⟨po, u4, _, _, rfl, rfl, same_new hu4 _ _ (same_new hx4 _ _ (q14 _ _ eo)), upd_same, lcat _, fun o4 K5 q5' g4 => ?_⟩⟩⟩
    have q5 := (same_new (o := .tup [.int 1]) hx4).trans ((same_new hu4).trans q5')
    have ex4 := ((same_new hu4).trans q5') _ _ (upd_same (H := K4) (a := x4) (o := .tup [.int 1]))
    refine ⟨.ref po, rfl, (by show 1 ≤ sizeLine; decide), fun x5 hx5 => ⟨(by show 1 ≤ sizeLine; decide), fun u5 hu5 => ⟨po, u5, _, _, rfl, rfl, same_new hu5 _ _ (same_new hx5 _ _ ((q14.trans q5) _ _ eo)), upd_same, lcat _, fun o5 K6 q6' g5 => ?_⟩⟩⟩
    have q6 := (same_new (o := .lst [.int 1]) hx5).trans ((same_new hu5).trans q6')
    have ex5 := ((same_new hu5).trans q6') _ _ (upd_same (H := K5) (a := x5) (o := .lst [.int 1]))
    refine ⟨(by show 10 ≤ sizeLine; decide), fun so hso => ?_⟩
    have q7 := same_new (o := .lst [.non, .ref l1, .str "1", .int 3, .ref o1, .ref o2, .ref o3, .ref o4, .bl true, .ref o5]) hso
    have eso : (upd K6 so (.lst [.non, .ref l1, .str "1", .int 3, .ref o1, .ref o2, .ref o3, .ref o4, .bl true, .ref o5])) so = some (.lst [.non, .ref l1, .str "1", .int 3, .ref o1, .ref o2, .ref o3, .ref o4, .bl true, .ref o5]) := upd_same
    generalize upd K6 so (.lst [.non, .ref l1, .str "1", .int 3, .ref o1, .ref o2, .ref o3, .ref o4, .bl true, .ref o5]) = K7 at q7 eso ⊢
    have q57 := q5.trans (q6.trans q7)
    have f1 := (q2.trans (q3.trans (q4.trans q57))) _ _ e1
    have g1 := (q3.trans (q4.trans q57)) _ _ g1
    have g2 := (q4.trans q57) _ _ g2
    have g3 := q57 _ _ g3
    have g4 := (q6.trans q7) _ _ g4
    have ex4 := (q6.trans q7) _ _ ex4
    have g5 := q7 _ _ g5
    have ex5 := q7 _ _ ex5
    have eo7 := (q14.trans q57) _ _ eo
    have s7 := s0d.trans (q14.trans q57)
    clear q1 q2 q3 q4 q5 q6 q7 q2' q3' q4' q5' q6' q14 q57 e1 eo s0d hso hl1 hu1 hu2 hu3 hu4 hu5 hx4 hx5
    refine ⟨.ref so, rfl, .ref po, rfl, fun x6 hx6 => ⟨(by show 1 ≤ sizeLine; decide), fun u6 hu6 => ⟨po, u6, _, _, rfl, rfl, same_new hu6 _ _ (same_new hx6 _ _ eo7), upd_same, lcat _, fun o6 K8 q8' g6 => ?_⟩⟩⟩
    have q8 := (same_new (o := .dK []) hx6).trans ((same_new hu6).trans q8')
    have ex6 := ((same_new hu6).trans q8') _ _ (upd_same (H := K7) (a := x6) (o := .dK []))
    intro x7 hx7
    refine ⟨upd_same, [(.inl 1, .int 2)], rfl, (by decide), ?_⟩
    have q9 : Same K8 (upd (upd K8 x7 (.dK [])) x7 (.dK (mergeK [] [(.inl 1, .int 2)]))) := Same.store (same_new hx7) hx7
    have ex7 : (upd (upd K8 x7 (.dK [])) x7 (.dK (mergeK [] [(.inl 1, .int 2)]))) x7 = some (.dK [(.inl 1, .int 2)]) := upd_same
    generalize upd (upd K8 x7 (.dK [])) x7 (.dK (mergeK [] [(.inl 1, .int 2)])) = K9 at q9 ex7 ⊢
    refine ⟨(by show 2 ≤ sizeLine; decide), fun l2 hl2 => ?_⟩
    have q10 := same_new (o := .lst [.ref o6, .ref x7]) hl2
    refine ⟨so, l2, _, _, rfl, rfl, (q8.trans (q9.trans q10)) _ _ eso, upd_same, (by show 10 + 2 ≤ sizeLine; decide), fun W hW => ?_⟩
    have q11 : Same K9 (upd (upd K9 l2 (.lst [.ref o6, .ref x7])) W (.lst ([.non, .ref l1, .str "1", .int 3, .ref o1, .ref o2, .ref o3, .ref o4, .bl true, .ref o5] ++ [.ref o6, .ref x7]))) := q10.trans (same_new hW)
    have eW : (upd (upd K9 l2 (.lst [.ref o6, .ref x7])) W (.lst ([.non, .ref l1, .str "1", .int 3, .ref o1, .ref o2, .ref o3, .ref o4, .bl true, .ref o5] ++ [.ref o6, .ref x7]))) W = some (.lst [.non, .ref l1, .str "1", .int 3, .ref o1, .ref o2, .ref o3, .ref o4, .bl true, .ref o5, .ref o6, .ref x7]) := upd_same
    generalize upd (upd K9 l2 (.lst [.ref o6, .ref x7])) W (.lst ([.non, .ref l1, .str "1", .int 3, .ref o1, .ref o2, .ref o3, .ref o4, .bl true, .ref o5] ++ [.ref o6, .ref x7])) = KW at q11 eW ⊢
    have q8b := q8.trans (q9.trans q11)
    have f1 := q8b _ _ f1
    have g1 := q8b _ _ g1
    have g2 := q8b _ _ g2
    have g3 := q8b _ _ g3
    have g4 := q8b _ _ g4
    have g5 := q8b _ _ g5
    have ex4 := q8b _ _ ex4
    have ex5 := q8b _ _ ex5
    have g6 := (q9.trans q11) _ _ g6
    have ex6 := (q9.trans q11) _ _ ex6
    have ex7 := q11 _ _ ex7
    have sW := s7.trans q8b
    clear q8 q9 q10 q11 q8b q8' s7 eso eo7 hx6 hx7 hu6 hl2 hW
    have sml : (1 : Nat) ≤ 2 := by decide
    have odd : ∀ x ∈ [V.non, .ref l1, .str "1", .int 3, .ref o1, .ref o2, .ref o3, .ref o4, .bl true, .ref o5, .ref o6, .ref x7], OddV (cxOf CX0 P w K mg base nRi "_law_right" (defScope sRight) f cdv A outer s H E).nox KW x := fun x hx => by
      simp only [List.mem_cons, List.not_mem_nil, or_false] at hx
      rcases hx with rfl | rfl | rfl | rfl | rfl | rfl | rfl | rfl | rfl | rfl | rfl | rfl
      · exact odd_flat (d := .none) (fun _ => .non) rfl rfl ⟨by decide, by decide +kernel, by decide +kernel⟩ .non
      · exact odd_lst hO lO f1
      · exact odd_flat (d := .str "1") (fun _ => .str _) rfl rfl ⟨by decide +kernel, by decide +kernel, by decide +kernel⟩ (.str _)
      · exact odd_flat (d := .int 3) (fun _ => .int _) (by decide +kernel) rfl ⟨by decide +kernel, by decide +kernel, by decide +kernel⟩ (.int _)
      · exact odd_tup (d := .bool true) hO lO g1 (fun H' _ => Rp.dp (.bl true) rfl rfl (by decide +kernel)) ⟨by decide +kernel, by decide +kernel, by decide +kernel⟩ (.bl true) (fun n z => by cases z)
      · exact odd_tup (d := .none) hO lO g2 (fun H' _ => Rp.dp .non rfl rfl (by decide +kernel)) ⟨by decide +kernel, by decide +kernel, by decide +kernel⟩ .non (fun n z => by cases z)
      · exact odd_tup (d := .str "1") hO lO g3 (fun H' _ => Rp.dp (.str _) rfl rfl (by decide +kernel)) ⟨by decide +kernel, by decide +kernel, by decide +kernel⟩ (.str _) (fun n z => by cases z)
      · exact odd_tup (d := .tuple [.int 1]) hO lO g4 (fun H' z => Rp.dp (.tup (SqT.of (z _ _ ex4)) (.cons (.int 1) .nil)) (by decide +kernel) rfl (by decide +kernel)) ⟨by decide +kernel, by decide +kernel, by decide +kernel⟩ (.tup ex4) (fun n z => by cases z)
      · exact odd_flat (d := .bool true) (fun _ => .bl true) rfl rfl ⟨by decide +kernel, by decide +kernel, by decide +kernel⟩ (.bl true)
      · exact odd_tup (d := .list [.int 1]) hO lO g5 (fun H' z => Rp.dp (.lst (SqL.of (z _ _ ex5)) (.cons (.int 1) .nil)) (by decide +kernel) rfl (by decide +kernel)) ⟨by decide +kernel, by decide +kernel, by decide +kernel⟩ (.lst ex5) (fun n z => by cases z)
      · exact odd_tup (d := .dict []) hO lO g6 (fun H' z => Rp.dct (kvs := []) (z _ _ ex6) (by decide +kernel) (by decide +kernel)) ⟨by decide +kernel, by decide +kernel, by decide +kernel⟩ (.dK ex6) (fun n z => by cases z)
      · exact ⟨.dict [(.int 1, .int 2)], fun H' z => Rp.dct (kvs := [(.inl 1, 2)]) (z _ _ ex7) (by decide +kernel) (by decide +kernel), ⟨by decide +kernel, by decide +kernel, by decide +kernel⟩, .inl (.dK ex7)⟩
    refine ⟨W, rfl, ⟨_, SqL.of eW⟩, for_list (K := K) (a := W) (xs := [V.non, .ref l1, .str "1", .int 3, .ref o1, .ref o2, .ref o3, .ref o4, .bl true, .ref o5, .ref o6, .ref x7]) (fun i σ H' => (∃ v9, σ = [some (.ref a), some (.ref ml_), some (.ref sl_), some (.int many), some (.ref rl_), v5, v6, some (.ref po), some (.ref so), v9, none, none, none, none, none]) ∧ Same KW H') ⟨⟨none, rfl⟩, Same.refl _⟩ (fun i σ H' _ h => SqL.of (h.2 _ _ eW)) ?_ ?_⟩
    · rintro i x σ H1 hx ⟨⟨v9, rfl⟩, s1⟩
      have ox := (odd x (List.mem_of_getElem? hx)).same s1
      have sA := sW.trans s1
      obtain ⟨⟨dx, hins⟩, _⟩ := id (S0.same sA)
      refine ⟨x, rfl, .ref sl_, rfl, sl_, _, 0, .ref s0, rfl, rfl, SqL.of (sA _ _ esl), atI_nat (j := 0) rfl, s0, dx, _, rfl, hins, has_odd (S0.same sA) ox fun H2 s2 => ⟨false, rfl, false, rfl, rfl, _, rfl, iteFB (neSame rfl) ?_⟩⟩
      have ox2 := ox.same s2
      have sB := sA.trans s2
      refine ⟨.ref sl_, rfl, sl_, _, 0, .ref s0, rfl, rfl, SqL.of (sB _ _ esl), atI_nat (j := 0) rfl, x, rfl, ?_⟩
      dsimp only [tNil]
      refine told_odd (S0.same sB) hb0 ox2 fun l H3 s3 el => ?_
      obtain ⟨d, rp, rd, _⟩ := ox2
      have rpS : ∀ H', Rp (cxOf CX0 P w K mg base nRi "_law_right" (defScope sRight) f cdv A outer s H E).nox H' (.str "row") (.str "row") := fun H' => Rp.dp (.str _) rfl rfl (by decide +kernel)
      have rpB : ∀ H', Rp (cxOf CX0 P w K mg base nRi "_law_right" (defScope sRight) f cdv A outer s H E).nox H' (.bl true) (.bool true) := fun H' => Rp.dp (.bl true) rfl rfl (by decide +kernel)
      refine ⟨l, _, [.str "row", d, .bool true], rfl, SqL.of el, .cons (rpS _) (.cons (rp _ s3) (.cons (rpB _) .nil)), rd.row_dep, rd.row, x, rfl, (by show 3 ≤ sizeLine; decide), fun l3 hl3 => ?_⟩
      have s4 := same_new (o := .lst [.str "row", x, .bl true]) hl3
      exact ⟨l3, _, [.str "row", d, .bool true], rfl, SqL.of upd_same, .cons (rpS _) (.cons (rp _ (s3.trans s4)) (.cons (rpB _) .nil)), rd.row_dep, rd.row, rfl, _, rfl, iteFB (neSame rfl) ⟨⟨_, rfl⟩, s1.trans (s2.trans (s3.trans s4))⟩⟩
    rintro σ He ⟨⟨v9, rfl⟩, se⟩
    have sE := sW.trans se
    clear odd eW f1 g1 g2 g3 g4 g5 g6 ex4 ex5 ex6 ex7 sW se hO lO lcat sml
    -- single values
    refine ⟨10, rfl, -10, 11, rfl, rfl, ⟨by decide, by decide, by decide, by decide, by decide⟩, fun la hla => ?_⟩
    refine ⟨(by show 3 ≤ sizeLine; decide), fun lb hlb => ?_⟩
    refine ⟨la, lb, rgV (-10) 11, _, rfl, rfl, same_new hlb _ _ upd_same, upd_same, (by rw [rgV_length]; decide), fun W hW => ?_⟩
    have q1 : Same He (upd (upd (upd He la (.lst (rgV (-10) 11))) lb (.lst [.non, .bl true, .str "1"])) W (.lst (rgV (-10) 11 ++ [.non, .bl true, .str "1"]))) := (same_new hla).trans ((same_new hlb).trans (same_new hW))
    have eW : (upd (upd (upd He la (.lst (rgV (-10) 11))) lb (.lst [.non, .bl true, .str "1"])) W (.lst (rgV (-10) 11 ++ [.non, .bl true, .str "1"]))) W = some (.lst (rgV (-10) 11 ++ [.non, .bl true, .str "1"])) := upd_same
    generalize upd (upd (upd He la (.lst (rgV (-10) 11))) lb (.lst [.non, .bl true, .str "1"])) W (.lst (rgV (-10) 11 ++ [.non, .bl true, .str "1"])) = Hf at q1 eW ⊢
    have pl1 : ∀ x ∈ rgV (-10) 11 ++ [V.non, .bl true, .str "1"], Plain x := fun x hx => by
      rcases List.mem_append.mp hx with z | z
      · rw [rg_ints] at z
        obtain ⟨n, _, rfl⟩ := List.mem_map.mp z
        exact .int n
      · simp only [List.mem_cons, List.not_mem_nil, or_false] at z
        rcases z with rfl | rfl | rfl
        · exact .non
        · exact .bl true
        · exact .str _
    have sF := sE.trans q1
    clear q1 sE hla hlb hW
    refine ⟨W, rfl, ⟨_, SqL.of eW⟩, for_list (K := K) (a := W) (xs := rgV (-10) 11 ++ [V.non, .bl true, .str "1"]) (fun i σ H' => (∃ v10 v11 v12 v13, σ = [some (.ref a), some (.ref ml_), some (.ref sl_), some (.int many), some (.ref rl_), v5, v6, some (.ref po), some (.ref so), v9, v10, v11, v12, v13, none]) ∧ Same Hf H') ⟨⟨none, none, none, none, rfl⟩, Same.refl _⟩ (fun i σ H' _ h => SqL.of (h.2 _ _ eW)) ?_ ?_⟩
    · rintro i x σ H1 hx ⟨⟨v10, v11, v12, v13, rfl⟩, s1⟩
      have px := pl1 x (List.mem_of_getElem? hx)
      refine ⟨10, rfl, (by show 4 ≤ sizeLine; decide), fun lc hlc => ?_⟩
      refine ⟨9, rfl, -9, 10, rfl, rfl, ⟨by decide, by decide, by decide, by decide, by decide⟩, fun ld hld => ?_⟩
      refine ⟨lc, ld, [.non, .int (-10), .bl true, .str "0"], rgV (-9) 10, rfl, rfl, same_new hld _ _ upd_same, upd_same, (by rw [rgV_length]; decide), fun V' hV => ?_⟩
      have q2 : Same H1 (upd (upd (upd H1 lc (.lst [.non, .int (-10), .bl true, .str "0"])) ld (.lst (rgV (-9) 10))) V' (.lst ([.non, .int (-10), .bl true, .str "0"] ++ rgV (-9) 10))) := (same_new hlc).trans ((same_new hld).trans (same_new hV))
      have eV : (upd (upd (upd H1 lc (.lst [.non, .int (-10), .bl true, .str "0"])) ld (.lst (rgV (-9) 10))) V' (.lst ([.non, .int (-10), .bl true, .str "0"] ++ rgV (-9) 10))) V' = some (.lst ([.non, .int (-10), .bl true, .str "0"] ++ rgV (-9) 10)) := upd_same
      generalize upd (upd (upd H1 lc (.lst [.non, .int (-10), .bl true, .str "0"])) ld (.lst (rgV (-9) 10))) V' (.lst ([.non, .int (-10), .bl true, .str "0"] ++ rgV (-9) 10)) = H2 at q2 eV ⊢
      have pl2 : ∀ y ∈ [V.non, .int (-10), .bl true, .str "0"] ++ rgV (-9) 10, Plain y := fun y hy => by
        rcases List.mem_append.mp hy with z | z
        · simp only [List.mem_cons, List.not_mem_nil, or_false] at z
          rcases z with rfl | rfl | rfl | rfl
          · exact .non
          · exact .int _
          · exact .bl true
          · exact .str _
        · rw [rg_ints] at z
          obtain ⟨n, _, rfl⟩ := List.mem_map.mp z
          exact .int n
      have sG := sF.trans (s1.trans q2)
      refine ⟨V', rfl, ⟨_, SqL.of eV⟩, for_list (K := K) (a := V') (xs := [V.non, .int (-10), .bl true, .str "0"] ++ rgV (-9) 10) (fun i σ H' => (∃ v11 v12 v13, σ = [some (.ref a), some (.ref ml_), some (.ref sl_), some (.int many), some (.ref rl_), v5, v6, some (.ref po), some (.ref so), v9, some x, v11, v12, v13, none]) ∧ Same H2 H') ⟨⟨_, _, _, rfl⟩, Same.refl _⟩ (fun i σ H' _ h => SqL.of (h.2 _ _ eV)) ?_ ?_⟩
      · rintro j y σ H3 hy ⟨⟨w11, w12, w13, rfl⟩, s3⟩
        have py := pl2 y (List.mem_of_getElem? hy)
        have sH := sG.trans s3
        have MH := M0.same sH
        have emH := sH _ _ eml
        obtain ⟨tx, tyx, kx⟩ := px.kit (K := K) (H := H3)
        obtain ⟨ty, tyy, ky⟩ := py.kit (K := K) (H := H3)
        refine ⟨x, rfl, .ref ml_, rfl, ml_, _, 0, .ref m0, rfl, rfl, SqL.of emH, atI_nat (j := 0) rfl, m0, _, 1, .ref dl0, rfl, rfl, SqL.of MH.mo, atI_nat (j := 1) rfl, dl0, _, rfl, .inl (SqL.of MH.di), px.flat, flat_ints ns0, inV x (ns0.map V.int), (by rw [if_neg Bool.false_ne_true]), iteAndN (k := known ns0 x) (fun z hc => ⟨x, rfl, x, .ty "bool", tx, .type "bool", _, rfl, .ty _, tyx, kx, _, rfl, (by rw [← known_is px, hc, Bool.true_and] at z; exact z)⟩) (fun hc => by rw [← known_is px, hc, Bool.false_and]) ?_⟩
        refine ⟨y, rfl, rfl, _, rfl, iteOrA (k := known ns0 y) (fun z => ⟨y, rfl, .ref ml_, rfl, ml_, _, 0, .ref m0, rfl, rfl, SqL.of emH, atI_nat (j := 0) rfl, m0, _, 1, .ref dl0, rfl, rfl, SqL.of MH.mo, atI_nat (j := 1) rfl, dl0, _, rfl, .inl (SqL.of MH.di), py.flat, flat_ints ns0, inV y (ns0.map V.int), (by rw [if_neg Bool.false_ne_true]), iteAndN (k := known ns0 y) (fun z2 hc => ⟨y, rfl, y, .ty "bool", ty, .type "bool", _, rfl, .ty _, tyy, ky, _, rfl, (by rw [← known_is py, hc, Bool.true_and] at z2; exact z2)⟩) (fun hc => by rw [← known_is py, hc, Bool.false_and]) z⟩) ?_⟩
        -- asked
        have jk := jdg_known (ns := ns0) (ks := L0) G0.dg px py
        have SH := S0.same sH
        obtain ⟨⟨dx, hins⟩, _⟩ := id SH
        refine ⟨.ref sl_, rfl, sl_, _, 0, .ref s0, rfl, rfl, SqL.of (sH _ _ esl), atI_nat (j := 0) rfl, s0, dx, _, rfl, hins, rfl, x, rfl, y, rfl, ?_⟩
        dsimp only [tNil]
        refine allows_of SH px.item (.inl py.item) fun H4 s4 => ⟨_, rfl, ?_⟩
        have s34 := s3.trans s4
        cases hk : known ns0 x with
        | false =>
          rw [hk, Bool.false_and] at jk
          exact ⟨_, rfl, _, rfl, iteFB rfl ⟨false, rfl, rfl, _, rfl, iteFB (neSame (by rw [jk])) ⟨⟨_, _, _, rfl⟩, s34⟩⟩⟩
        | true =>
          rw [hk, Bool.true_and] at jk
          have hxi : ∃ n : Int, x = .int n := by
            cases px with
            | int n => exact ⟨n, rfl⟩
            | non => cases hk
            | bl b => cases hk
            | str z => cases hk
          obtain ⟨n, rfl⟩ := hxi
          refine ⟨_, rfl, _, rfl, iteTB rfl ?_⟩
          cases hg : (decide (y = .non) || known ns0 y) with
          | false =>
            rw [hg, Bool.false_and] at jk
            exact ⟨_, rfl, _, rfl, iteFB rfl ⟨false, rfl, rfl, _, rfl, iteFB (neSame (by rw [jk])) ⟨⟨_, _, _, rfl⟩, s34⟩⟩⟩
          | true =>
            rw [hg, Bool.true_and] at jk
            refine ⟨_, rfl, _, rfl, iteTB rfl ⟨.int n, rfl, y, rfl, (by show 2 ≤ sizeLine; decide), fun T hT => ?_⟩⟩
            have s5 := same_new (o := .tup [.int n, y]) hT
            have sI := sH.trans (s4.trans s5)
            have MI := M0.same sI
            have hyi : y = .non ∨ ∃ m : Int, y = .int m := by
              cases py with
              | int m => exact .inr ⟨m, rfl⟩
              | non => exact .inl rfl
              | bl b => cases hg
              | str z => cases hg
            rcases hyi with rfl | ⟨m, rfl⟩
            · refine ⟨.ref ml_, rfl, ml_, _, 0, .ref m0, rfl, rfl, SqL.of (sI _ _ eml), atI_nat (j := 0) rfl, m0, _, 2, .ref pl0, rfl, rfl, SqL.of MI.mo, atI_nat (j := 2) rfl, .tuple [.int n, .none], (ks0.map (·.2)).map pd2, .tup (SqT.of upd_same) (.cons (.int _) (.cons .non .nil)), ps_dp rfl MI.pa MI.pr, shaped_of (by simp only [PyData.canLay0, PyData.canLayAll0, Bool.and_true]) (by simp only [PyData.depth, PyData.depthAll]; decide), ps_shaped rfl, ?_⟩
              rw [none_no]
              exact ⟨true, rfl, rfl, _, rfl, iteFB (neSame (by rw [jk])) ⟨⟨_, _, _, rfl⟩, s34.trans s5⟩⟩
            · refine ⟨.ref ml_, rfl, ml_, _, 0, .ref m0, rfl, rfl, SqL.of (sI _ _ eml), atI_nat (j := 0) rfl, m0, _, 2, .ref pl0, rfl, rfl, SqL.of MI.mo, atI_nat (j := 2) rfl, pd2 (n, m), (ks0.map (·.2)).map pd2, .tup (SqT.of upd_same) (.cons (.int _) (.cons (.int _) .nil)), ps_dp rfl MI.pa MI.pr, pd2_shaped _, ps_shaped rfl, ?_⟩
              refine ⟨!hasP (ks0.map (·.2)) n m, rfl, rfl, _, rfl, iteFB (neSame ?_) ⟨⟨_, _, _, rfl⟩, s34.trans s5⟩⟩
              rw [jk, eL0]
      · rintro σ H3 ⟨⟨w11, w12, w13, rfl⟩, s3⟩
        exact ⟨⟨_, _, _, _, rfl⟩, s1.trans (q2.trans s3)⟩
    rintro σ Hg ⟨⟨v10, v11, v12, v13, rfl⟩, sg⟩
    have sG := sF.trans sg
    clear sF sg eW pl1
    -- three odd ones
    refine ⟨(by show 1 ≤ sizeLine; decide), fun y1 hy1 => ?_⟩
    have q1 := same_new (o := .lst [.int 1]) hy1
    have e1 : (upd Hg y1 (.lst [.int 1])) y1 = some (.lst [.int 1]) := upd_same
    generalize upd Hg y1 (.lst [.int 1]) = K1 at q1 e1 ⊢
    intro y2 hy2
    refine ⟨upd_same, [(.inl 1, .int 2)], rfl, (by decide), ?_⟩
    have q2 : Same K1 (upd (upd K1 y2 (.dK [])) y2 (.dK (mergeK [] [(.inl 1, .int 2)]))) := Same.store (same_new hy2) hy2
    have e2 : (upd (upd K1 y2 (.dK [])) y2 (.dK (mergeK [] [(.inl 1, .int 2)]))) y2 = some (.dK [(.inl 1, .int 2)]) := upd_same
    generalize upd (upd K1 y2 (.dK [])) y2 (.dK (mergeK [] [(.inl 1, .int 2)])) = K2 at q2 e2 ⊢
    refine ⟨(by show 1 ≤ sizeLine; decide), fun y3 hy3 => ⟨(by show 3 ≤ sizeLine; decide), fun W hW => ?_⟩⟩
    have q3 : Same K2 (upd (upd K2 y3 (.tup [.int 0])) W (.lst [.ref y1, .ref y2, .ref y3])) := (same_new hy3).trans (same_new hW)
    have e3 : (upd (upd K2 y3 (.tup [.int 0])) W (.lst [.ref y1, .ref y2, .ref y3])) y3 = some (.tup [.int 0]) := same_new hW _ _ upd_same
    have eW : (upd (upd K2 y3 (.tup [.int 0])) W (.lst [.ref y1, .ref y2, .ref y3])) W = some (.lst [.ref y1, .ref y2, .ref y3]) := upd_same
    generalize upd (upd K2 y3 (.tup [.int 0])) W (.lst [.ref y1, .ref y2, .ref y3]) = K3 at q3 e3 eW ⊢
    have e1 := (q2.trans q3) _ _ e1
    have e2 := q3 _ _ e2
    have s3 := sG.trans (q1.trans (q2.trans q3))
    obtain ⟨d0, ns', hns⟩ : ∃ d0 ns', ns0 = d0 :: ns' := by
      have h1 := G0.one
      cases ns0 with
      | nil => exact absurd h1 (by decide)
      | cons d l => exact ⟨d, l, rfl⟩
    have di : ∀ {H'}, ModAt H' m0 dl0 pl0 b0 ns0 ks0 → H' dl0 = some (.lst (.int d0 :: ns'.map V.int)) := fun M => by
      rw [M.di, hns]
      rfl
    refine ⟨W, rfl, ⟨_, SqL.of eW⟩, for_list (K := K) (a := W) (xs := [V.ref y1, .ref y2, .ref y3]) (fun i σ H' => (∃ v9, σ = [some (.ref a), some (.ref ml_), some (.ref sl_), some (.int many), some (.ref rl_), v5, v6, some (.ref po), some (.ref so), v9, v10, v11, v12, v13, none]) ∧ Same K3 H') ⟨⟨_, rfl⟩, Same.refl _⟩ (fun i σ H' _ h => SqL.of (h.2 _ _ eW)) ?_ ?_⟩
    · rintro i x σ H1 hx ⟨⟨w9, rfl⟩, s1⟩
      have ox : Odd H1 x ∧ ∃ p, x = .ref p := by
        have z := List.mem_of_getElem? hx
        simp only [List.mem_cons, List.not_mem_nil, or_false] at z
        rcases z with rfl | rfl | rfl
        · exact ⟨.lst (s1 _ _ e1), _, rfl⟩
        · exact ⟨.dK (s1 _ _ e2), _, rfl⟩
        · exact ⟨.tup (s1 _ _ e3), _, rfl⟩
      obtain ⟨ox, p, rfl⟩ := ox
      have sA := s3.trans s1
      have SA := S0.same sA
      obtain ⟨⟨dx, hins⟩, _⟩ := id SA
      refine ⟨.ref sl_, rfl, sl_, _, 0, .ref s0, rfl, rfl, SqL.of (sA _ _ esl), atI_nat (j := 0) rfl, s0, dx, _, rfl, hins, rfl, .ref p, rfl, ?_⟩
      dsimp only [tNil, tCons, tC]
      refine allows_of SA (.inr ox) (.inl (.inl ⟨0, rfl⟩)) fun H2 s2 => ⟨false, false, rfl, rfl, _, rfl, iteF ?_⟩
      have sB := sA.trans s2
      have SB := S0.same sB
      obtain ⟨⟨dx2, hins2⟩, _⟩ := id SB
      have MB := M0.same sB
      refine ⟨.ref sl_, rfl, sl_, _, 0, .ref s0, rfl, rfl, SqL.of (sB _ _ esl), atI_nat (j := 0) rfl, s0, dx2, _, rfl, hins2, rfl, .ref ml_, rfl, ml_, _, 0, .ref m0, rfl, rfl, SqL.of (sB _ _ eml), atI_nat (j := 0) rfl, m0, _, 1, .ref dl0, rfl, rfl, SqL.of MB.mo, atI_nat (j := 1) rfl, dl0, _, 0, .int d0, rfl, rfl, SqL.of (di MB), atI_nat (j := 0) rfl, .ref p, rfl, ?_⟩
      dsimp only [tNil]
      refine allows_of SB (.inl ⟨d0, rfl⟩) (.inl (.inr (ox.same s2))) fun H3 s3' => ⟨false, false, rfl, rfl, _, rfl, iteF ⟨⟨_, rfl⟩, s1.trans (s2.trans s3')⟩⟩
    rintro σ Hh ⟨⟨w9, rfl⟩, sh⟩
    have sH := s3.trans sh
    clear sG q1 q2 q3 e1 e2 e3 eW s3 sh hy1 hy2 hy3 hW
    -- equal or not
    have SA := S0.same sH
    have SB := S1.same sH
    have MA := M0.same sH
    have MB := M1.same sH
    obtain ⟨⟨dx, hins⟩, _⟩ := id SA
    obtain ⟨⟨dx1, hins1⟩, _⟩ := id SB
    have l60 : ∀ {ns : List Int}, ns.length ≤ 6 → ns.length ≤ 60 := fun h => by omega
    refine ⟨.ref sl_, rfl, sl_, _, 0, .ref s0, rfl, rfl, SqL.of (sH _ _ esl), atI_nat (j := 0) rfl, .ref sl_, rfl, sl_, _, 1, .ref s1_, rfl, rfl, SqL.of (sH _ _ esl), atI_nat (j := 1) rfl, s0, dx, _, s1_, dx1, _, rfl, rfl, hins, hins1, s0, t0, r0, s1_, t1, r1_, b0, b1, ns0, ns1, L0, L1, rfl, SA, SB, l60 G0.six, l60 G1.six, _, rfl, ?_⟩
    have shM : ∀ {b : Int} {ns : List Int} {ks : List (Addr × (Int × Int))}, SeqAt.shaped (.list [.int b, .list (ns.map .int), .list ((ks.map (·.2)).map pd2)]) = true := fun {b ns ks} => by
      obtain ⟨c1, c2⟩ := ints_can ns
      obtain ⟨d1, d2⟩ := bars_can ks
      have e2 : (ks.map fun p => pd2 p.2) = (ks.map (·.2)).map pd2 := by rw [List.map_map]; rfl
      rw [e2] at d1 d2
      refine shaped_of ?_ ?_
      · simp only [PyData.canLay0, PyData.canLayAll0, c1, d1, Bool.and_true]
      · simp only [PyData.depth, PyData.depthAll, c2]
        omega
    have dpM : ∀ {H' : Hp} {m dl pl : Addr} {b : Int} {ns : List Int} {ks : List (Addr × (Int × Int))}, ModAt H' m dl pl b ns ks → Dp K H' (.ref m) (.list [.int b, .list (ns.map .int), .list ((ks.map (·.2)).map pd2)]) := fun M =>
      .lst (SqL.of M.mo) (.cons (.int _) (.cons (.lst (SqL.of M.di) (dp_ints _)) (.cons (ps_dp rfl M.pa M.pr) .nil)))
    refine ⟨.ref ml_, rfl, ml_, _, 0, .ref m0, rfl, rfl, SqL.of (sH _ _ eml), atI_nat (j := 0) rfl, .ref ml_, rfl, ml_, _, 1, .ref m1, rfl, rfl, SqL.of (sH _ _ eml), atI_nat (j := 1) rfl, _, _, dpM MA, dpM MB, shM, shM, rfl, _, rfl, iteFB (neSame ?_) ?_⟩
    · congr 1
      have eA : (L0.map fun p => pd2 p.2) = (ks0.map (·.2)).map pd2 := by rw [← eL0, List.map_map]; rfl
      have eB : (L1.map fun p => pd2 p.2) = (ks1.map (·.2)).map pd2 := by rw [← eL1, List.map_map]; rfl
      rw [eA, eB]
      simp only [PyData.eqv, PyData.eqvAll, Bool.and_true]
      rfl
    -- by names
    refine ⟨.ref sl_, rfl, sl_, _, 0, .ref s0, rfl, rfl, SqL.of (sH _ _ esl), atI_nat (j := 0) rfl, s0, dx, _, rfl, hins, rfl, .ref ml_, rfl, ml_, _, 0, .ref m0, rfl, rfl, SqL.of (sH _ _ eml), atI_nat (j := 0) rfl, m0, _, 1, .ref dl0, rfl, rfl, SqL.of MA.mo, atI_nat (j := 1) rfl, dl0, _, 0, .int d0, rfl, rfl, SqL.of (di MA), atI_nat (j := 0) rfl, rfl, ?_⟩
    refine allows_of SA (.inl ⟨d0, rfl⟩) (.inr rfl) fun H2 s2 => ?_
    have m0' : d0 ∈ ns0 := by rw [hns]; exact List.mem_cons_self
    have jt : jdg ns0 L0 (.int d0) .non = true := by
      show (dig d0 && decide (d0 ∈ ns0)) = true
      rw [G0.dg d0 m0', decide_eq_true m0']
      rfl
    rw [jt]
    have sI := sH.trans s2
    obtain ⟨⟨dx3, hins3⟩, _⟩ := id (S0.same sI)
    refine ⟨true, rfl, iteT ⟨.ref sl_, rfl, sl_, _, 0, .ref s0, rfl, rfl, SqL.of (sI _ _ esl), atI_nat (j := 0) rfl, s0, dx3, _, rfl, hins3, rfl, (by show 0 ≤ sizeLine; decide), fun T hT => ⟨rfl, ?_⟩⟩⟩
    have s4 := same_new (o := .tup []) hT
    refine ⟨s0, t0, r0, b0, ns0, L0, .ref T, rfl, S0.same (sI.trans s4), hb0, .inr ⟨T, [], rfl, upd_same, (by decide), (fun y z => by cases z), fun ns e _ H3 s5 => ?_, fun z => by cases z⟩⟩
    have e0 : ns = [] := by
      cases ns with
      | nil => rfl
      | cons _ _ => cases e
    subst e0
    refine ⟨rfl, ?_⟩
    exact q H3 (Tb.trans (But.of_same (sI.trans (s4.trans s5))))
end
end K07
namespace K07
open PySem PySem.Spec PyProof.Rows L2 OF
section
variable {P : Program} {w : World} {K : PySem.W.Frag} {mg : Str → Option Value} {base : Heap}
theorem scFig : FnScope ["self", "text"] ["self", "text"] (defScope sFig) := ⟨rfl, rfl, rfl, by decide +kernel, rfl, by decide +kernel, by decide +kernel⟩
theorem ok_fig {f : Addr} {fd : FuncData} (F : Fun K "__init__" "FigureError.__init__" sFig f fd) (mV : mg "ValueError" = none) (vV : PySem.W.findCls K (.type "ValueError") (.type "type") "__init__" = some (.val (.builtin "ValueError.__init__"))) :
    FnOk P w K mg base CX0 1 f fd ["self", "text"] (spFig K) := by
  refine F.ok scFig (fun vs H Q E h => ?_) (fun cdv A outer s H vs Q E hr h => ?_)
  · obtain ⟨a, C, v, nm, rfl, _⟩ := h
    rfl
  · obtain ⟨a, C, v, nm, rfl, T, N, ha, q⟩ := h
    refine ⟨_, pss_cons (ps_expr (pe_veinit (by rfl) mV vV (pa_cons (pv 0) (pa_cons (pv 1) pa_nil)))) (pss_one (ps_ost (pv 0) (pe_cname (pv 0)))), ?_⟩
    exact ⟨.ref a, rfl, v, rfl, a, C, [v], rfl, (by show 1 ≤ 1000; decide), T, ha, .ref a, rfl, a, C, nm, rfl, ha, N, .ref a, rfl, a, C, rfl, T, N.no, .inl ⟨ha, fun d hd nd => q d hd nd⟩⟩
theorem sc_InvalidBase : FnScope ["self", "value"] ["self", "value"] (defScope sInBase) := ⟨rfl, rfl, rfl, by decide +kernel, rfl, by decide +kernel, by decide +kernel⟩
theorem ok_InvalidBase {f f0 C C0 : Addr} {fd fd0 : FuncData} (F : Fun K "__init__" "InvalidBase.__init__" sInBase f fd) (F0 : Fun K "__init__" "FigureError.__init__" sFig f0 fd0) (T0 : FigC K mg C0 f0) (b0 : Binds K fd0 ["self", "text"] []) (T : ErrC K mg "InvalidBase" "value" C f)
    (mV : mg "ValueError" = none) (vV : PySem.W.findCls K (.type "ValueError") (.type "type") "__init__" = some (.val (.builtin "ValueError.__init__"))) :
    FnOk P w K mg base CX0 2 f fd ["self", "value"] (spInit K "value" C) := by
  have G0 : FnOk P w K mg base CX0 1 f0 fd0 ["self", "text"] (spFig K) := ok_fig F0 mV vV
  refine F.ok sc_InvalidBase (fun vs H Q E h => ?_) (fun cdv A outer s H vs Q E hr h => ?_)
  · obtain ⟨a, v, rfl, _⟩ := h
    rfl
  · obtain ⟨a, v, rfl, ha, q⟩ := h
    refine ⟨_, pss_cons (ps_expr (pe_unb G0 hr (by rfl) T0.g T0.rd T0.val T0.kp b0 pass0 (pa_cons (pv 0) (pa_cons pe_str pa_nil)))) (pss_one (ps_ost (pv 0) (pv 1))), ?_⟩
    obtain ⟨nm, N⟩ := T.nam
    refine ⟨.ref a, rfl, a, C, _, nm, rfl, T.ox, N, ha, fun d hd nd => ?_⟩
    refine ⟨v, rfl, .ref a, rfl, a, C, rfl, T.ox, T.no, .inr ⟨d, _, upd_same, by rw [upd_ne nd]; exact upd_same, (by show 1 ≤ 900; decide), ?_⟩⟩
    rw [upd_swap nd]
    exact q _ d hd nd

theorem sc_InvalidDigits : FnScope ["self", "value"] ["self", "value"] (defScope sInDig) := ⟨rfl, rfl, rfl, by decide +kernel, rfl, by decide +kernel, by decide +kernel⟩
theorem ok_InvalidDigits {f f0 C C0 : Addr} {fd fd0 : FuncData} (F : Fun K "__init__" "InvalidDigits.__init__" sInDig f fd) (F0 : Fun K "__init__" "FigureError.__init__" sFig f0 fd0) (T0 : FigC K mg C0 f0) (b0 : Binds K fd0 ["self", "text"] []) (T : ErrC K mg "InvalidDigits" "value" C f)
    (mV : mg "ValueError" = none) (vV : PySem.W.findCls K (.type "ValueError") (.type "type") "__init__" = some (.val (.builtin "ValueError.__init__"))) :
    FnOk P w K mg base CX0 2 f fd ["self", "value"] (spInit K "value" C) := by
  have G0 : FnOk P w K mg base CX0 1 f0 fd0 ["self", "text"] (spFig K) := ok_fig F0 mV vV
  refine F.ok sc_InvalidDigits (fun vs H Q E h => ?_) (fun cdv A outer s H vs Q E hr h => ?_)
  · obtain ⟨a, v, rfl, _⟩ := h
    rfl
  · obtain ⟨a, v, rfl, ha, q⟩ := h
    refine ⟨_, pss_cons (ps_expr (pe_unb G0 hr (by rfl) T0.g T0.rd T0.val T0.kp b0 pass0 (pa_cons (pv 0) (pa_cons pe_str pa_nil)))) (pss_one (ps_ost (pv 0) (pv 1))), ?_⟩
    obtain ⟨nm, N⟩ := T.nam
    refine ⟨.ref a, rfl, a, C, _, nm, rfl, T.ox, N, ha, fun d hd nd => ?_⟩
    refine ⟨v, rfl, .ref a, rfl, a, C, rfl, T.ox, T.no, .inr ⟨d, _, upd_same, by rw [upd_ne nd]; exact upd_same, (by show 1 ≤ 900; decide), ?_⟩⟩
    rw [upd_swap nd]
    exact q _ d hd nd

theorem sc_InvalidBars : FnScope ["self", "value"] ["self", "value"] (defScope sInBars) := ⟨rfl, rfl, rfl, by decide +kernel, rfl, by decide +kernel, by decide +kernel⟩
theorem ok_InvalidBars {f f0 C C0 : Addr} {fd fd0 : FuncData} (F : Fun K "__init__" "InvalidBars.__init__" sInBars f fd) (F0 : Fun K "__init__" "FigureError.__init__" sFig f0 fd0) (T0 : FigC K mg C0 f0) (b0 : Binds K fd0 ["self", "text"] []) (T : ErrC K mg "InvalidBars" "value" C f)
    (mV : mg "ValueError" = none) (vV : PySem.W.findCls K (.type "ValueError") (.type "type") "__init__" = some (.val (.builtin "ValueError.__init__"))) :
    FnOk P w K mg base CX0 2 f fd ["self", "value"] (spInit K "value" C) := by
  have G0 : FnOk P w K mg base CX0 1 f0 fd0 ["self", "text"] (spFig K) := ok_fig F0 mV vV
  refine F.ok sc_InvalidBars (fun vs H Q E h => ?_) (fun cdv A outer s H vs Q E hr h => ?_)
  · obtain ⟨a, v, rfl, _⟩ := h
    rfl
  · obtain ⟨a, v, rfl, ha, q⟩ := h
    refine ⟨_, pss_cons (ps_expr (pe_unb G0 hr (by rfl) T0.g T0.rd T0.val T0.kp b0 pass0 (pa_cons (pv 0) (pa_cons pe_str pa_nil)))) (pss_one (ps_ost (pv 0) (pv 1))), ?_⟩
    obtain ⟨nm, N⟩ := T.nam
    refine ⟨.ref a, rfl, a, C, _, nm, rfl, T.ox, N, ha, fun d hd nd => ?_⟩
    refine ⟨v, rfl, .ref a, rfl, a, C, rfl, T.ox, T.no, .inr ⟨d, _, upd_same, by rw [upd_ne nd]; exact upd_same, (by show 1 ≤ 900; decide), ?_⟩⟩
    rw [upd_swap nd]
    exact q _ d hd nd

theorem sc_InvalidRow : FnScope ["self", "row"] ["self", "row"] (defScope sInR) := ⟨rfl, rfl, rfl, by decide +kernel, rfl, by decide +kernel, by decide +kernel⟩
theorem ok_InvalidRow {f f0 C C0 : Addr} {fd fd0 : FuncData} (F : Fun K "__init__" "InvalidRow.__init__" sInR f fd) (F0 : Fun K "__init__" "FigureError.__init__" sFig f0 fd0) (T0 : FigC K mg C0 f0) (b0 : Binds K fd0 ["self", "text"] []) (T : ErrC K mg "InvalidRow" "row" C f)
    (mV : mg "ValueError" = none) (vV : PySem.W.findCls K (.type "ValueError") (.type "type") "__init__" = some (.val (.builtin "ValueError.__init__"))) :
    FnOk P w K mg base CX0 2 f fd ["self", "row"] (spInit K "row" C) := by
  have G0 : FnOk P w K mg base CX0 1 f0 fd0 ["self", "text"] (spFig K) := ok_fig F0 mV vV
  refine F.ok sc_InvalidRow (fun vs H Q E h => ?_) (fun cdv A outer s H vs Q E hr h => ?_)
  · obtain ⟨a, v, rfl, _⟩ := h
    rfl
  · obtain ⟨a, v, rfl, ha, q⟩ := h
    refine ⟨_, pss_cons (ps_expr (pe_unb G0 hr (by rfl) T0.g T0.rd T0.val T0.kp b0 pass0 (pa_cons (pv 0) (pa_cons pe_str pa_nil)))) (pss_one (ps_ost (pv 0) (pv 1))), ?_⟩
    obtain ⟨nm, N⟩ := T.nam
    refine ⟨.ref a, rfl, a, C, _, nm, rfl, T.ox, N, ha, fun d hd nd => ?_⟩
    refine ⟨v, rfl, .ref a, rfl, a, C, rfl, T.ox, T.no, .inr ⟨d, _, upd_same, by rw [upd_ne nd]; exact upd_same, (by show 1 ≤ 900; decide), ?_⟩⟩
    rw [upd_swap nd]
    exact q _ d hd nd


def spLaw (K : PySem.W.Frag) : Sp := fun vs H Q _ => ∃ (a : Addr) (ns : List Int), vs = [.ref a] ∧ SqL K H a (ns.map V.int) ∧ ns.length ≤ 63 ∧ ∀ H', Q (.bl true) H'
theorem scL : FnScope ["_law_script", "_law_k"] ["_law_script"] (defScope sLaw) := ⟨rfl, rfl, rfl, by decide +kernel, rfl, by decide +kernel, by decide +kernel⟩
theorem ok_law {f fC fX fR : Addr} {fd fdC fdX fdR : FuncData} (F : Fun K "law" "law" sLaw f fd)
    (FC : Fun K "_law_cell" "_law_cell" sCell fC fdC) (gC : mg "_law_cell" = some (.ref fC)) (bC : Binds K fdC ["_law_script", "_law_k"] [])
    (FX : Fun K "_law_box" "_law_box" sBox fX fdX) (gX : mg "_law_box" = some (.ref fX)) (bX : Binds K fdX ["_law_cell_here"] [])
    (GR : FnG P w K mg base 10 fR fdR ["_law_box_here"] spRight) (gR : mg "_law_right" = some (.ref fR)) (kR : PySem.W.keepIn K (.ref fR) = true) (bR : Binds K fdR ["_law_box_here"] [])
    (mi : mg "int" = none) (ml : mg "len" = none) (mr : mg "range" = none) (mx : mg "max" = none) (mn : mg "min" = none) : FnG P w K mg base 11 f fd ["_law_script"] (spLaw K) := by
  have GC : FnOk P w K mg base CX0 1 fC fdC ["_law_script", "_law_k"] (OF.spCell K) := ok_cell FC ml
  have GX : FnOk P w K mg base CX0 1 fX fdX ["_law_cell_here"] spBox := ok_box FX mi mx
  refine okG F scL (fun vs H Q E h => ?_) (fun cdv A outer s H vs Q E gu hr h => ?_)
  · obtain ⟨a, ns, rfl, _⟩ := h
    rfl
  · obtain ⟨a, ns, rfl, hS, hlen, q⟩ := h
    have hr1 : Room 1 _ := hr.mono (by decide)
    apply Exists.intro
    apply And.intro
    · apply pss_cons
      · exact ps_for PassesOwn.never rfl (pi_range1 rfl mr (pa_cons (pe_callB (call_max2 rfl) (by rfl) mx PyProof.Rows.boot_max (pa_cons pe_int (pa_cons
            (pe_callB (call_min2 rfl) (by rfl) mn PyProof.Rows.boot_min (pa_cons pe_int (pa_cons (pe_callB call_len_seq (by rfl) ml PySem.boot_len (pa_cons (pv 0) pa_nil)) pa_nil))) pa_nil))) pa_nil))
          (pg_name (i := 1) scL.nd rfl (.inl rfl))
          (pss_one (ps_if (pt_not (pt_val (pe_callG GR gu hr (by rfl) gR kR bR pass0 (pa_cons (pe_call GX hr1 (by rfl) gX FX.kp bX .nil pass0 (pa_cons (pe_call GC hr1 (by rfl) gC FC.kp bC .nil pass0 (pa_cons (pv 0) (pa_cons (pv 1) pa_nil))) pa_nil)) pa_nil))))
            (pss_one (ps_ret pe_bl)) pss_nil))
      apply pss_one
      · exact ps_ret pe_bl
    refine ⟨.ref a, rfl, a, _, rfl, .inl hS, _, _, rfl, _, _, rfl, _, rfl, ?_, ?_, for_range (lo := 0) (n := _) (fun i σ H' => ∃ v, σ = [some (.ref a), v] ∧ SqL K H' a (ns.map V.int)) ⟨none, rfl, hS⟩ ?_ ?_⟩
    · rw [List.length_map]
      split <;> split <;> omega
    · rw [List.length_map]
      split <;> split <;> omega
    · rintro i σ H' hi ⟨v, rfl, hS'⟩
      have hi' : i < 1000 := by
        rw [List.length_map] at hi
        split at hi <;> split at hi <;> omega
      refine ⟨.ref a, rfl, .int (0 + i), rfl, a, ns, i, ?_, hS', hi', fun c => ?_⟩
      · rw [Int.zero_add]
        rfl
      refine ⟨c, rfl, fun p H1 hp s1 B1 => ?_⟩
      refine ⟨p, rfl, B1, fun H2 t2 => ⟨true, rfl, iteF ?_⟩⟩
      exact ⟨some (.int (0 + i)), rfl, seq_past hp s1 t2 hS'⟩
    · rintro σ H' ⟨v, rfl, hS'⟩
      exact q H'
end
set_option maxHeartbeats 4000000 in
theorem all_mk {l : PySem.W.OpenLaw} {w : World} {K : PySem.W.Frag} {h : Heap} {mg : Str → Option Value} {fa f1 f2 f3 f4 f5 f6 f7 f8 f9 f10 f11 f12 f13 f14 f15 f16 f17 f18 f19 f20 f21 f22 f23 f24 f25 f26 CF fF CS h1 h2 h3 h4 h5 C1 fI1 C2 fI2 C3 fI3 C4 fI4 : Addr}
    {od1 an1 od2 an2 od3 an3 od4 an4 od5 an5 od6 an6 od7 an7 od8 an8 od9 an9 od10 an10 od11 an11 od12 an12 od13 an13 od14 an14 od15 an15 od16 an16 od17 an17 od18 an18 od19 an19 od20 an20 od21 an21 od22 an22 od23 an23 od24 an24 od25 an25 od26 an26 odF anF odM1 anM1 odM2 anM2 odM3 anM3 odM4 anM4 odM5 anM5 odI1 anI1 odI2 anI2 odI3 anI3 odI4 anI4 : Option Addr}
    {sl1 sl2 sl3 sl4 sl5 sl6 sl7 sl8 sl9 sl10 sl11 sl12 sl13 sl14 sl15 sl16 sl17 sl18 sl19 sl20 sl21 sl22 sl23 sl24 sl25 sl26 slF slM1 slM2 slM3 slM4 slM5 slI1 slI2 slI3 slI4 : Array (Option Value)}
    {oc1 kV1 dc1 pm1 cd1 ct1 oc2 kV2 dc2 pm2 cd2 ct2 oc3 kV3 dc3 pm3 cd3 ct3 oc4 kV4 dc4 pm4 cd4 ct4 oc5 kV5 dc5 pm5 cd5 ct5 oc6 kV6 dc6 pm6 cd6 ct6 oc7 kV7 dc7 pm7 cd7 ct7 oc8 kV8 dc8 pm8 cd8 ct8 oc9 kV9 dc9 pm9 cd9 ct9 oc10 kV10 dc10 pm10 cd10 ct10 oc11 kV11 dc11 pm11 cd11 ct11 oc12 kV12 dc12 pm12 cd12 ct12 oc13 kV13 dc13 pm13 cd13 ct13 oc14 kV14 dc14 pm14 cd14 ct14 oc15 kV15 dc15 pm15 cd15 ct15 oc16 kV16 dc16 pm16 cd16 ct16 oc17 kV17 dc17 pm17 cd17 ct17 oc18 kV18 dc18 pm18 cd18 ct18 oc19 kV19 dc19 pm19 cd19 ct19 oc20 kV20 dc20 pm20 cd20 ct20 oc21 kV21 dc21 pm21 cd21 ct21 oc22 kV22 dc22 pm22 cd22 ct22 oc23 kV23 dc23 pm23 cd23 ct23 oc24 kV24 dc24 pm24 cd24 ct24 oc25 kV25 dc25 pm25 cd25 ct25 oc26 kV26 dc26 pm26 cd26 ct26 ocF kVF dcF pmF cdF ctF ocM1 kVM1 dcM1 pmM1 cdM1 ctM1 ocM2 kVM2 dcM2 pmM2 cdM2 ctM2 ocM3 kVM3 dcM3 pmM3 cdM3 ctM3 ocM4 kVM4 dcM4 pmM4 cdM4 ctM4 ocM5 kVM5 dcM5 pmM5 cdM5 ctM5 ocI1 kVI1 dcI1 pmI1 cdI1 ctI1 ocI2 kVI2 dcI2 pmI2 cdI2 ctI2 ocI3 kVI3 dcI3 pmI3 cdI3 ctI3 ocI4 kVI4 dcI4 pmI4 cdI4 ctI4 : Value}
    {t6 t9 tb : Tok}
    {nm1 q1 : Str} {N1 : Addr} {bs1 : List Value} {sn1 : List Str} {sub1 : List Value} {ab1 : Bool} {col1 : Option Bool} {dd1 : Option Addr} {m01 m11 m31 m51 : Option Value} {cn1 : Str} {tkE1 : Tok}
    {nm2 q2 : Str} {N2 : Addr} {bs2 : List Value} {sn2 : List Str} {sub2 : List Value} {ab2 : Bool} {col2 : Option Bool} {dd2 : Option Addr} {m02 m12 m32 m52 : Option Value} {cn2 : Str} {tkE2 : Tok}
    {nm3 q3 : Str} {N3 : Addr} {bs3 : List Value} {sn3 : List Str} {sub3 : List Value} {ab3 : Bool} {col3 : Option Bool} {dd3 : Option Addr} {m03 m13 m33 m53 : Option Value} {cn3 : Str} {tkE3 : Tok}
    {nm4 q4 : Str} {N4 : Addr} {bs4 : List Value} {sn4 : List Str} {sub4 : List Value} {ab4 : Bool} {col4 : Option Bool} {dd4 : Option Addr} {m04 m14 m34 m54 : Option Value} {cn4 : Str} {tkE4 : Tok}
    (X : K.In h) (G : h.Ns mainGlobals mg) (hfa : mg "law" = some (.ref fa))
    (a1 : PySem.W.nsIn K mainGlobals "is_whole" = some (some (.ref f1)))
    (l1 : K.lookup f1 = some ⟨oc1, od1, .func (PySem.W.fnOf "is_whole" "is_whole" (defArgs sWhole) (defBody sWhole) (defScope sWhole) .none kV1 dc1 pm1 an1 cd1 ct1), sl1⟩)
    (c1 : PySem.W.codeIn K cd1 "is_whole" = true)
    (k1 : PySem.W.keepIn K (.ref f1) = true)
    (a2 : PySem.W.nsIn K mainGlobals "is_integer" = some (some (.ref f2)))
    (l2 : K.lookup f2 = some ⟨oc2, od2, .func (PySem.W.fnOf "is_integer" "is_integer" (defArgs sIsInt) (defBody sIsInt) (defScope sIsInt) .none kV2 dc2 pm2 an2 cd2 ct2), sl2⟩)
    (c2 : PySem.W.codeIn K cd2 "is_integer" = true)
    (k2 : PySem.W.keepIn K (.ref f2) = true)
    (a3 : PySem.W.nsIn K mainGlobals "is_base" = some (some (.ref f3)))
    (l3 : K.lookup f3 = some ⟨oc3, od3, .func (PySem.W.fnOf "is_base" "is_base" (defArgs sIsBase) (defBody sIsBase) (defScope sIsBase) .none kV3 dc3 pm3 an3 cd3 ct3), sl3⟩)
    (c3 : PySem.W.codeIn K cd3 "is_base" = true)
    (k3 : PySem.W.keepIn K (.ref f3) = true)
    (a4 : PySem.W.nsIn K mainGlobals "is_digit" = some (some (.ref f4)))
    (l4 : K.lookup f4 = some ⟨oc4, od4, .func (PySem.W.fnOf "is_digit" "is_digit" (defArgs sIsDigit) (defBody sIsDigit) (defScope sIsDigit) .none kV4 dc4 pm4 an4 cd4 ct4), sl4⟩)
    (c4 : PySem.W.codeIn K cd4 "is_digit" = true)
    (k4 : PySem.W.keepIn K (.ref f4) = true)
    (a5 : PySem.W.nsIn K mainGlobals "are_digits" = some (some (.ref f5)))
    (l5 : K.lookup f5 = some ⟨oc5, od5, .func (PySem.W.fnOf "are_digits" "are_digits" (defArgs sAre) (defBody sAre) (defScope sAre) .none kV5 dc5 pm5 an5 cd5 ct5), sl5⟩)
    (c5 : PySem.W.codeIn K cd5 "are_digits" = true)
    (k5 : PySem.W.keepIn K (.ref f5) = true)
    (a6 : PySem.W.nsIn K mainGlobals "_is_one_of" = some (some (.ref f6)))
    (l6 : K.lookup f6 = some ⟨oc6, od6, .func (PySem.W.fnOf "_is_one_of" "_is_one_of" (defArgs sOneOf) (defBody sOneOf) (defScope sOneOf) .none kV6 dc6 pm6 an6 cd6 ct6), sl6⟩)
    (c6 : PySem.W.codeIn K cd6 "_is_one_of" = true)
    (k6 : PySem.W.keepIn K (.ref f6) = true)
    (a7 : PySem.W.nsIn K mainGlobals "_is_pair" = some (some (.ref f7)))
    (l7 : K.lookup f7 = some ⟨oc7, od7, .func (PySem.W.fnOf "_is_pair" "_is_pair" (defArgs sIsPair) (defBody sIsPair) (defScope sIsPair) .none kV7 dc7 pm7 an7 cd7 ct7), sl7⟩)
    (c7 : PySem.W.codeIn K cd7 "_is_pair" = true)
    (k7 : PySem.W.keepIn K (.ref f7) = true)
    (a8 : PySem.W.nsIn K mainGlobals "_is_digit_list" = some (some (.ref f8)))
    (l8 : K.lookup f8 = some ⟨oc8, od8, .func (PySem.W.fnOf "_is_digit_list" "_is_digit_list" (defArgs sDigList) (defBody sDigList) (defScope sDigList) .none kV8 dc8 pm8 an8 cd8 ct8), sl8⟩)
    (c8 : PySem.W.codeIn K cd8 "_is_digit_list" = true)
    (k8 : PySem.W.keepIn K (.ref f8) = true)
    (a9 : PySem.W.nsIn K mainGlobals "_different_digits" = some (some (.ref f9)))
    (l9 : K.lookup f9 = some ⟨oc9, od9, .func (PySem.W.fnOf "_different_digits" "_different_digits" (defArgs sDiffDig) (defBody sDiffDig) (defScope sDiffDig) .none kV9 dc9 pm9 an9 cd9 ct9), sl9⟩)
    (c9 : PySem.W.codeIn K cd9 "_different_digits" = true)
    (k9 : PySem.W.keepIn K (.ref f9) = true)
    (a10 : PySem.W.nsIn K mainGlobals "_different_pairs" = some (some (.ref f10)))
    (l10 : K.lookup f10 = some ⟨oc10, od10, .func (PySem.W.fnOf "_different_pairs" "_different_pairs" (defArgs sDiffPair) (defBody sDiffPair) (defScope sDiffPair) .none kV10 dc10 pm10 an10 cd10 ct10), sl10⟩)
    (c10 : PySem.W.codeIn K cd10 "_different_pairs" = true)
    (k10 : PySem.W.keepIn K (.ref f10) = true)
    (a11 : PySem.W.nsIn K mainGlobals "_law_cell" = some (some (.ref f11)))
    (l11 : K.lookup f11 = some ⟨oc11, od11, .func (PySem.W.fnOf "_law_cell" "_law_cell" (defArgs sCell) (defBody sCell) (defScope sCell) .none kV11 dc11 pm11 an11 cd11 ct11), sl11⟩)
    (c11 : PySem.W.codeIn K cd11 "_law_cell" = true)
    (k11 : PySem.W.keepIn K (.ref f11) = true)
    (a12 : PySem.W.nsIn K mainGlobals "_law_box" = some (some (.ref f12)))
    (l12 : K.lookup f12 = some ⟨oc12, od12, .func (PySem.W.fnOf "_law_box" "_law_box" (defArgs sBox) (defBody sBox) (defScope sBox) .none kV12 dc12 pm12 an12 cd12 ct12), sl12⟩)
    (c12 : PySem.W.codeIn K cd12 "_law_box" = true)
    (k12 : PySem.W.keepIn K (.ref f12) = true)
    (a13 : PySem.W.nsIn K mainGlobals "_law_take" = some (some (.ref f13)))
    (l13 : K.lookup f13 = some ⟨oc13, od13, .func (PySem.W.fnOf "_law_take" "_law_take" (defArgs sTake) (defBody sTake) (defScope sTake) .none kV13 dc13 pm13 an13 cd13 ct13), sl13⟩)
    (c13 : PySem.W.codeIn K cd13 "_law_take" = true)
    (k13 : PySem.W.keepIn K (.ref f13) = true)
    (a14 : PySem.W.nsIn K mainGlobals "_law_mixed" = some (some (.ref f14)))
    (l14 : K.lookup f14 = some ⟨oc14, od14, .func (PySem.W.fnOf "_law_mixed" "_law_mixed" (defArgs sMixed) (defBody sMixed) (defScope sMixed) .none kV14 dc14 pm14 an14 cd14 ct14), sl14⟩)
    (c14 : PySem.W.codeIn K cd14 "_law_mixed" = true)
    (k14 : PySem.W.keepIn K (.ref f14) = true)
    (a15 : PySem.W.nsIn K mainGlobals "_law_digits" = some (some (.ref f15)))
    (l15 : K.lookup f15 = some ⟨oc15, od15, .func (PySem.W.fnOf "_law_digits" "_law_digits" (defArgs sDigits) (defBody sDigits) (defScope sDigits) .none kV15 dc15 pm15 an15 cd15 ct15), sl15⟩)
    (c15 : PySem.W.codeIn K cd15 "_law_digits" = true)
    (k15 : PySem.W.keepIn K (.ref f15) = true)
    (a16 : PySem.W.nsIn K mainGlobals "_law_pairs" = some (some (.ref f16)))
    (l16 : K.lookup f16 = some ⟨oc16, od16, .func (PySem.W.fnOf "_law_pairs" "_law_pairs" (defArgs sPairs) (defBody sPairs) (defScope sPairs) .none kV16 dc16 pm16 an16 cd16 ct16), sl16⟩)
    (c16 : PySem.W.codeIn K cd16 "_law_pairs" = true)
    (k16 : PySem.W.keepIn K (.ref f16) = true)
    (a17 : PySem.W.nsIn K mainGlobals "_law_scheme" = some (some (.ref f17)))
    (l17 : K.lookup f17 = some ⟨oc17, od17, .func (PySem.W.fnOf "_law_scheme" "_law_scheme" (defArgs sScheme) (defBody sScheme) (defScope sScheme) .none kV17 dc17 pm17 an17 cd17 ct17), sl17⟩)
    (c17 : PySem.W.codeIn K cd17 "_law_scheme" = true)
    (k17 : PySem.W.keepIn K (.ref f17) = true)
    (a18 : PySem.W.nsIn K mainGlobals "_law_made" = some (some (.ref f18)))
    (l18 : K.lookup f18 = some ⟨oc18, od18, .func (PySem.W.fnOf "_law_made" "_law_made" (defArgs sMade) (defBody sMade) (defScope sMade) .none kV18 dc18 pm18 an18 cd18 ct18), sl18⟩)
    (c18 : PySem.W.codeIn K cd18 "_law_made" = true)
    (k18 : PySem.W.keepIn K (.ref f18) = true)
    (a19 : PySem.W.nsIn K mainGlobals "_law_is_row" = some (some (.ref f19)))
    (l19 : K.lookup f19 = some ⟨oc19, od19, .func (PySem.W.fnOf "_law_is_row" "_law_is_row" (defArgs sIsRow) (defBody sIsRow) (defScope sIsRow) .none kV19 dc19 pm19 an19 cd19 ct19), sl19⟩)
    (c19 : PySem.W.codeIn K cd19 "_law_is_row" = true)
    (k19 : PySem.W.keepIn K (.ref f19) = true)
    (a20 : PySem.W.nsIn K mainGlobals "_law_value" = some (some (.ref f20)))
    (l20 : K.lookup f20 = some ⟨oc20, od20, .func (PySem.W.fnOf "_law_value" "_law_value" (defArgs sValue) (defBody sValue) (defScope sValue) .none kV20 dc20 pm20 an20 cd20 ct20), sl20⟩)
    (c20 : PySem.W.codeIn K cd20 "_law_value" = true)
    (k20 : PySem.W.keepIn K (.ref f20) = true)
    (a21 : PySem.W.nsIn K mainGlobals "_law_row" = some (some (.ref f21)))
    (l21 : K.lookup f21 = some ⟨oc21, od21, .func (PySem.W.fnOf "_law_row" "_law_row" (defArgs sRow) (defBody sRow) (defScope sRow) .none kV21 dc21 pm21 an21 cd21 ct21), sl21⟩)
    (c21 : PySem.W.codeIn K cd21 "_law_row" = true)
    (k21 : PySem.W.keepIn K (.ref f21) = true)
    (a22 : PySem.W.nsIn K mainGlobals "_law_told" = some (some (.ref f22)))
    (l22 : K.lookup f22 = some ⟨oc22, od22, .func (PySem.W.fnOf "_law_told" "_law_told" (defArgs sTold) (defBody sTold) (defScope sTold) .none kV22 dc22 pm22 an22 cd22 ct22), sl22⟩)
    (c22 : PySem.W.codeIn K cd22 "_law_told" = true)
    (k22 : PySem.W.keepIn K (.ref f22) = true)
    (a23 : PySem.W.nsIn K mainGlobals "_law_odd_row" = some (some (.ref f23)))
    (l23 : K.lookup f23 = some ⟨oc23, od23, .func (PySem.W.fnOf "_law_odd_row" "_law_odd_row" (defArgs sOddRow) (defBody sOddRow) (defScope sOddRow) .none kV23 dc23 pm23 an23 cd23 ct23), sl23⟩)
    (c23 : PySem.W.codeIn K cd23 "_law_odd_row" = true)
    (k23 : PySem.W.keepIn K (.ref f23) = true)
    (a24 : PySem.W.nsIn K mainGlobals "_law_judged" = some (some (.ref f24)))
    (l24 : K.lookup f24 = some ⟨oc24, od24, .func (PySem.W.fnOf "_law_judged" "_law_judged" (defArgs sJudged) (defBody sJudged) (defScope sJudged) .none kV24 dc24 pm24 an24 cd24 ct24), sl24⟩)
    (c24 : PySem.W.codeIn K cd24 "_law_judged" = true)
    (k24 : PySem.W.keepIn K (.ref f24) = true)
    (a25 : PySem.W.nsIn K mainGlobals "_law_right" = some (some (.ref f25)))
    (l25 : K.lookup f25 = some ⟨oc25, od25, .func (PySem.W.fnOf "_law_right" "_law_right" (defArgs sRight) (defBody sRight) (defScope sRight) .none kV25 dc25 pm25 an25 cd25 ct25), sl25⟩)
    (c25 : PySem.W.codeIn K cd25 "_law_right" = true)
    (k25 : PySem.W.keepIn K (.ref f25) = true)
    (a26 : PySem.W.nsIn K mainGlobals "law" = some (some (.ref f26)))
    (l26 : K.lookup f26 = some ⟨oc26, od26, .func (PySem.W.fnOf "law" "law" (defArgs sLaw) (defBody sLaw) (defScope sLaw) .none kV26 dc26 pm26 an26 cd26 ct26), sl26⟩)
    (c26 : PySem.W.codeIn K cd26 "law" = true)
    (k26 : PySem.W.keepIn K (.ref f26) = true)
    (aF : PySem.W.nsIn K mainGlobals "FigureError" = some (some (.ref CF)))
    (rF : PySem.W.readsIn K CF (.type "type") = true)
    (gaF : PySem.W.specialIn K (.ref CF) "__getattribute__" = some (some (.builtin "type.__getattribute__")))
    (atF : PySem.W.findCls K (.ref CF) (.type "type") "__init__" = some (.val (.ref fF)))
    (lF : K.lookup fF = some ⟨ocF, odF, .func (PySem.W.fnOf "__init__" "FigureError.__init__" (defArgs sFig) (defBody sFig) (defScope sFig) .none kVF dcF pmF anF cdF ctF), slF⟩)
    (cF : PySem.W.codeIn K cdF "FigureError.__init__" = true)
    (kF : PySem.W.keepIn K (.ref fF) = true)
    (vV : PySem.W.findCls K (.type "ValueError") (.type "type") "__init__" = some (.val (.builtin "ValueError.__init__")))
    (aC1 : PySem.W.nsIn K mainGlobals "InvalidBase" = some (some (.ref C1)))
    (xC1 : K.lookup C1 = some (excClassObj nm1 q1 C1 N1 bs1 [.ref CF, .type "ValueError", .type "Exception", .type "BaseException", .type "object"] true sn1 sub1 ab1 col1 dd1 m01 m11 (some (.str cn1 tkE1)) m31 m51 "ValueError.__new__"))
    (sa1 : PySem.W.findIn K (.ref C1) "__setattr__" = some (some (.builtin "object.__setattr__")))
    (ex1 : PySem.W.subIn K (.ref C1) (.type "BaseException") = some true)
    (ty1 : PySem.W.typeIn K (.ref C1) = some (.type "type"))
    (kC1 : PySem.W.keepIn K (.ref C1) = true)
    (iC1 : PySem.W.findIn K (.ref C1) "__init__" = some (some (.ref fI1)))
    (tI1 : PySem.W.typeIn K (.ref fI1) = some (.type "function"))
    (no1 : PySem.W.findIn K (.ref C1) "value" = some none)
    (ga1 : PySem.W.findIn K (.ref C1) "__getattribute__" = some (some (.builtin "BaseException.__getattribute__")))
    (gg1 : PySem.W.findIn K (.ref C1) "__getattr__" = some none)
    (hd1 : PySem.W.hasDictIn K C1 = true)
    (sb1 : PySem.W.subIn K (.ref C1) (.ref C1) = some true)
    (ic1 : PySem.W.isClsIn K C1 = true)
    (lI1 : K.lookup fI1 = some ⟨ocI1, odI1, .func (PySem.W.fnOf "__init__" "InvalidBase.__init__" (defArgs sInBase) (defBody sInBase) (defScope sInBase) .none kVI1 dcI1 pmI1 anI1 cdI1 ctI1), slI1⟩)
    (cI1 : PySem.W.codeIn K cdI1 "InvalidBase.__init__" = true)
    (kI1 : PySem.W.keepIn K (.ref fI1) = true)
    (aC2 : PySem.W.nsIn K mainGlobals "InvalidDigits" = some (some (.ref C2)))
    (xC2 : K.lookup C2 = some (excClassObj nm2 q2 C2 N2 bs2 [.ref CF, .type "ValueError", .type "Exception", .type "BaseException", .type "object"] true sn2 sub2 ab2 col2 dd2 m02 m12 (some (.str cn2 tkE2)) m32 m52 "ValueError.__new__"))
    (sa2 : PySem.W.findIn K (.ref C2) "__setattr__" = some (some (.builtin "object.__setattr__")))
    (ex2 : PySem.W.subIn K (.ref C2) (.type "BaseException") = some true)
    (ty2 : PySem.W.typeIn K (.ref C2) = some (.type "type"))
    (kC2 : PySem.W.keepIn K (.ref C2) = true)
    (iC2 : PySem.W.findIn K (.ref C2) "__init__" = some (some (.ref fI2)))
    (tI2 : PySem.W.typeIn K (.ref fI2) = some (.type "function"))
    (no2 : PySem.W.findIn K (.ref C2) "value" = some none)
    (ga2 : PySem.W.findIn K (.ref C2) "__getattribute__" = some (some (.builtin "BaseException.__getattribute__")))
    (gg2 : PySem.W.findIn K (.ref C2) "__getattr__" = some none)
    (hd2 : PySem.W.hasDictIn K C2 = true)
    (sb2 : PySem.W.subIn K (.ref C2) (.ref C2) = some true)
    (ic2 : PySem.W.isClsIn K C2 = true)
    (lI2 : K.lookup fI2 = some ⟨ocI2, odI2, .func (PySem.W.fnOf "__init__" "InvalidDigits.__init__" (defArgs sInDig) (defBody sInDig) (defScope sInDig) .none kVI2 dcI2 pmI2 anI2 cdI2 ctI2), slI2⟩)
    (cI2 : PySem.W.codeIn K cdI2 "InvalidDigits.__init__" = true)
    (kI2 : PySem.W.keepIn K (.ref fI2) = true)
    (aC3 : PySem.W.nsIn K mainGlobals "InvalidBars" = some (some (.ref C3)))
    (xC3 : K.lookup C3 = some (excClassObj nm3 q3 C3 N3 bs3 [.ref CF, .type "ValueError", .type "Exception", .type "BaseException", .type "object"] true sn3 sub3 ab3 col3 dd3 m03 m13 (some (.str cn3 tkE3)) m33 m53 "ValueError.__new__"))
    (sa3 : PySem.W.findIn K (.ref C3) "__setattr__" = some (some (.builtin "object.__setattr__")))
    (ex3 : PySem.W.subIn K (.ref C3) (.type "BaseException") = some true)
    (ty3 : PySem.W.typeIn K (.ref C3) = some (.type "type"))
    (kC3 : PySem.W.keepIn K (.ref C3) = true)
    (iC3 : PySem.W.findIn K (.ref C3) "__init__" = some (some (.ref fI3)))
    (tI3 : PySem.W.typeIn K (.ref fI3) = some (.type "function"))
    (no3 : PySem.W.findIn K (.ref C3) "value" = some none)
    (ga3 : PySem.W.findIn K (.ref C3) "__getattribute__" = some (some (.builtin "BaseException.__getattribute__")))
    (gg3 : PySem.W.findIn K (.ref C3) "__getattr__" = some none)
    (hd3 : PySem.W.hasDictIn K C3 = true)
    (sb3 : PySem.W.subIn K (.ref C3) (.ref C3) = some true)
    (ic3 : PySem.W.isClsIn K C3 = true)
    (lI3 : K.lookup fI3 = some ⟨ocI3, odI3, .func (PySem.W.fnOf "__init__" "InvalidBars.__init__" (defArgs sInBars) (defBody sInBars) (defScope sInBars) .none kVI3 dcI3 pmI3 anI3 cdI3 ctI3), slI3⟩)
    (cI3 : PySem.W.codeIn K cdI3 "InvalidBars.__init__" = true)
    (kI3 : PySem.W.keepIn K (.ref fI3) = true)
    (aC4 : PySem.W.nsIn K mainGlobals "InvalidRow" = some (some (.ref C4)))
    (xC4 : K.lookup C4 = some (excClassObj nm4 q4 C4 N4 bs4 [.ref CF, .type "ValueError", .type "Exception", .type "BaseException", .type "object"] true sn4 sub4 ab4 col4 dd4 m04 m14 (some (.str cn4 tkE4)) m34 m54 "ValueError.__new__"))
    (sa4 : PySem.W.findIn K (.ref C4) "__setattr__" = some (some (.builtin "object.__setattr__")))
    (ex4 : PySem.W.subIn K (.ref C4) (.type "BaseException") = some true)
    (ty4 : PySem.W.typeIn K (.ref C4) = some (.type "type"))
    (kC4 : PySem.W.keepIn K (.ref C4) = true)
    (iC4 : PySem.W.findIn K (.ref C4) "__init__" = some (some (.ref fI4)))
    (tI4 : PySem.W.typeIn K (.ref fI4) = some (.type "function"))
    (no4 : PySem.W.findIn K (.ref C4) "row" = some none)
    (ga4 : PySem.W.findIn K (.ref C4) "__getattribute__" = some (some (.builtin "BaseException.__getattribute__")))
    (gg4 : PySem.W.findIn K (.ref C4) "__getattr__" = some none)
    (hd4 : PySem.W.hasDictIn K C4 = true)
    (sb4 : PySem.W.subIn K (.ref C4) (.ref C4) = some true)
    (ic4 : PySem.W.isClsIn K C4 = true)
    (lI4 : K.lookup fI4 = some ⟨ocI4, odI4, .func (PySem.W.fnOf "__init__" "InvalidRow.__init__" (defArgs sInR) (defBody sInR) (defScope sInR) .none kVI4 dcI4 pmI4 anI4 cdI4 ctI4), slI4⟩)
    (cI4 : PySem.W.codeIn K cdI4 "InvalidRow.__init__" = true)
    (kI4 : PySem.W.keepIn K (.ref fI4) = true)
    (aS : PySem.W.nsIn K mainGlobals "Scheme" = some (some (.ref CS)))
    (pgS : PySem.W.plainGet K CS Str.empty = true)
    (hdS : PySem.W.hasDictIn K CS = true)
    (poS : PySem.W.plainOver K CS = true)
    (saS : PySem.W.findIn K (.ref CS) "__setattr__" = some (some (.builtin "object.__setattr__")))
    (mkS : PySem.W.makesIn K CS = true)
    (nB : PySem.W.findIn K (.ref CS) "_base" = some none)
    (nD : PySem.W.findIn K (.ref CS) "_digits" = some none)
    (nR : PySem.W.findIn K (.ref CS) "_bars" = some none)
    (haS : PySem.W.findIn K (.ref CS) "__class__" = some (some (.builtin "object.__class__")))
    (xn : PySem.W.specialIn K (.builtin "object.__class__") "__get__" = some (some (.builtin "getset_descriptor.__get__")))
    (xt : PySem.W.takesIn K (.builtin "object.__class__") = some true)
    (hmS : PySem.W.mroIn K CS (.type "object") = some true)
    (sbS : PySem.W.subIn K (.ref CS) (.ref CS) = some true)
    (icS : PySem.W.isClsIn K CS = true)
    (tyS : PySem.W.typeIn K (.ref CS) = some (.type "type"))
    (kpS : PySem.W.keepIn K (.ref CS) = true)
    (at1 : PySem.W.findIn K (.ref CS) "__init__" = some (some (.ref h1)))
    (fn1 : PySem.W.isFn K (.ref h1) = true)
    (lM1 : K.lookup h1 = some ⟨ocM1, odM1, .func (PySem.W.fnOf "__init__" "Scheme.__init__" (defArgs sInit) (defBody sInit) (defScope sInit) .none kVM1 dcM1 pmM1 anM1 cdM1 ctM1), slM1⟩)
    (cM1 : PySem.W.codeIn K cdM1 "Scheme.__init__" = true)
    (kM1 : PySem.W.keepIn K (.ref h1) = true)
    (at2 : PySem.W.findIn K (.ref CS) "allows" = some (some (.ref h2)))
    (fn2 : PySem.W.isFn K (.ref h2) = true)
    (lM2 : K.lookup h2 = some ⟨ocM2, odM2, .func (PySem.W.fnOf "allows" "Scheme.allows" (defArgs sAllows) (defBody sAllows) (defScope sAllows) .none kVM2 dcM2 pmM2 anM2 cdM2 ctM2), slM2⟩)
    (cM2 : PySem.W.codeIn K cdM2 "Scheme.allows" = true)
    (kM2 : PySem.W.keepIn K (.ref h2) = true)
    (at3 : PySem.W.findIn K (.ref CS) "__contains__" = some (some (.ref h3)))
    (fn3 : PySem.W.isFn K (.ref h3) = true)
    (lM3 : K.lookup h3 = some ⟨ocM3, odM3, .func (PySem.W.fnOf "__contains__" "Scheme.__contains__" (defArgs sHas) (defBody sHas) (defScope sHas) .none kVM3 dcM3 pmM3 anM3 cdM3 ctM3), slM3⟩)
    (cM3 : PySem.W.codeIn K cdM3 "Scheme.__contains__" = true)
    (kM3 : PySem.W.keepIn K (.ref h3) = true)
    (at4 : PySem.W.findIn K (.ref CS) "value_of" = some (some (.ref h4)))
    (fn4 : PySem.W.isFn K (.ref h4) = true)
    (lM4 : K.lookup h4 = some ⟨ocM4, odM4, .func (PySem.W.fnOf "value_of" "Scheme.value_of" (defArgs sValueOf) (defBody sValueOf) (defScope sValueOf) .none kVM4 dcM4 pmM4 anM4 cdM4 ctM4), slM4⟩)
    (cM4 : PySem.W.codeIn K cdM4 "Scheme.value_of" = true)
    (kM4 : PySem.W.keepIn K (.ref h4) = true)
    (at5 : PySem.W.findIn K (.ref CS) "__eq__" = some (some (.ref h5)))
    (fn5 : PySem.W.isFn K (.ref h5) = true)
    (lM5 : K.lookup h5 = some ⟨ocM5, odM5, .func (PySem.W.fnOf "__eq__" "Scheme.__eq__" (defArgs sEq) (defBody sEq) (defScope sEq) .none kVM5 dcM5 pmM5 anM5 cdM5 ctM5), slM5⟩)
    (cM5 : PySem.W.codeIn K cdM5 "Scheme.__eq__" = true)
    (kM5 : PySem.W.keepIn K (.ref h5) = true)
    (xa : PySem.W.findIn K (.ref C4) "__class__" = some (some (.builtin "object.__class__")))
    (xm : PySem.W.mroIn K C4 (.type "object") = some true)
    (xs : PySem.W.subIn K (.ref C4) (.ref CF) = some true)
    (xi : PySem.W.isClsIn K CF = true)
    (xy : PySem.W.typeIn K (.ref CF) = some (.type "type"))
    (z1 : PySem.W.nsIn K mainGlobals "len" = some none)
    (z2 : PySem.W.nsIn K mainGlobals "range" = some none)
    (z3 : PySem.W.nsIn K mainGlobals "int" = some none)
    (z4 : PySem.W.nsIn K mainGlobals "bool" = some none)
    (z5 : PySem.W.nsIn K mainGlobals "isinstance" = some none)
    (z6 : PySem.W.nsIn K mainGlobals "repr" = some none)
    (z7 : PySem.W.nsIn K mainGlobals "list" = some none)
    (z8 : PySem.W.nsIn K mainGlobals "tuple" = some none)
    (z9 : PySem.W.nsIn K mainGlobals "set" = some none)
    (z10 : PySem.W.nsIn K mainGlobals "sorted" = some none)
    (z11 : PySem.W.nsIn K mainGlobals "all" = some none)
    (z12 : PySem.W.nsIn K mainGlobals "zip" = some none)
    (z13 : PySem.W.nsIn K mainGlobals "max" = some none)
    (z14 : PySem.W.nsIn K mainGlobals "min" = some none)
    (z15 : PySem.W.nsIn K mainGlobals "abs" = some none)
    (z16 : PySem.W.nsIn K mainGlobals "ValueError" = some none)
    (v1 : PySem.W.nsIn K mainGlobals "MOST_DIGITS" = some (some (.int 6 t6)))
    (v2 : PySem.W.nsIn K mainGlobals "GREATEST_DIGIT" = some (some (.int 9 t9)))
    (v3 : PySem.W.nsIn K mainGlobals "GREATEST_BASE" = some (some (.int 6 tb)))
    (haE1 : PySem.W.findIn K (.ref C1) "__class__" = some (some (.builtin "object.__class__")))
    (hmE1 : PySem.W.mroIn K C1 (.type "object") = some true)
    (fcE1 : PySem.W.findCls K (.ref C1) (.type "type") "__name__" = some (.get (.builtin "getset_descriptor.__get__") (.builtin "type.__name__") (.ref C1) (.type "type")))
    (nnE1 : PySem.W.findIn K (.ref C1) "class_name" = some none)
    (haE2 : PySem.W.findIn K (.ref C2) "__class__" = some (some (.builtin "object.__class__")))
    (hmE2 : PySem.W.mroIn K C2 (.type "object") = some true)
    (fcE2 : PySem.W.findCls K (.ref C2) (.type "type") "__name__" = some (.get (.builtin "getset_descriptor.__get__") (.builtin "type.__name__") (.ref C2) (.type "type")))
    (nnE2 : PySem.W.findIn K (.ref C2) "class_name" = some none)
    (haE3 : PySem.W.findIn K (.ref C3) "__class__" = some (some (.builtin "object.__class__")))
    (hmE3 : PySem.W.mroIn K C3 (.type "object") = some true)
    (fcE3 : PySem.W.findCls K (.ref C3) (.type "type") "__name__" = some (.get (.builtin "getset_descriptor.__get__") (.builtin "type.__name__") (.ref C3) (.type "type")))
    (nnE3 : PySem.W.findIn K (.ref C3) "class_name" = some none)
    (haE4 : PySem.W.findIn K (.ref C4) "__class__" = some (some (.builtin "object.__class__")))
    (hmE4 : PySem.W.mroIn K C4 (.type "object") = some true)
    (fcE4 : PySem.W.findCls K (.ref C4) (.type "type") "__name__" = some (.get (.builtin "getset_descriptor.__get__") (.builtin "type.__name__") (.ref C4) (.type "type")))
    (nnE4 : PySem.W.findIn K (.ref C4) "class_name" = some none)
    (xnE : PySem.W.specialIn K (.builtin "object.__class__") "__get__" = some (some (.builtin "getset_descriptor.__get__")))
    (xtE : PySem.W.takesIn K (.builtin "object.__class__") = some true)
    (stE : PySem.W.nsIn K cStatics "thirdparty.any" = some none)
    : ∃ fd : FuncData, (∀ (s : Shared) (v : Value), BindsTo s fd ⟨[v], []⟩ [("_law_script", v)]) ∧ ∀ base : Heap, K.In base → base.Ns mainGlobals mg → FnG l.prog w K mg base 11 fa fd ["_law_script"] (spLaw K) := by
  have e := hfa.symm.trans (PySem.W.mg_of X G a26)
  cases e
  have F1 := fun_mk (st := sWhole) l1 c1 k1
  have g1 := PySem.W.mg_of X G a1
  have b1 := F1.binds (ps := ["value"]) fun _ _ _ _ _ _ us hl => match us, hl with | [_], _ => rfl
  have F2 := fun_mk (st := sIsInt) l2 c2 k2
  have g2 := PySem.W.mg_of X G a2
  have b2 := F2.binds (ps := ["value", "low", "high"]) fun _ _ _ _ _ _ us hl => match us, hl with | [_, _, _], _ => rfl
  have F3 := fun_mk (st := sIsBase) l3 c3 k3
  have g3 := PySem.W.mg_of X G a3
  have b3 := F3.binds (ps := ["value"]) fun _ _ _ _ _ _ us hl => match us, hl with | [_], _ => rfl
  have F4 := fun_mk (st := sIsDigit) l4 c4 k4
  have g4 := PySem.W.mg_of X G a4
  have b4 := F4.binds (ps := ["value"]) fun _ _ _ _ _ _ us hl => match us, hl with | [_], _ => rfl
  have F5 := fun_mk (st := sAre) l5 c5 k5
  have g5 := PySem.W.mg_of X G a5
  have b5 := F5.binds (ps := ["items"]) fun _ _ _ _ _ _ us hl => match us, hl with | [_], _ => rfl
  have F6 := fun_mk (st := sOneOf) l6 c6 k6
  have g6 := PySem.W.mg_of X G a6
  have b6 := F6.binds (ps := ["digits", "value"]) fun _ _ _ _ _ _ us hl => match us, hl with | [_, _], _ => rfl
  have F7 := fun_mk (st := sIsPair) l7 c7 k7
  have g7 := PySem.W.mg_of X G a7
  have b7 := F7.binds (ps := ["digits", "value"]) fun _ _ _ _ _ _ us hl => match us, hl with | [_, _], _ => rfl
  have F8 := fun_mk (st := sDigList) l8 c8 k8
  have g8 := PySem.W.mg_of X G a8
  have b8 := F8.binds (ps := ["value"]) fun _ _ _ _ _ _ us hl => match us, hl with | [_], _ => rfl
  have F9 := fun_mk (st := sDiffDig) l9 c9 k9
  have g9 := PySem.W.mg_of X G a9
  have b9 := F9.binds (ps := ["digits"]) fun _ _ _ _ _ _ us hl => match us, hl with | [_], _ => rfl
  have F10 := fun_mk (st := sDiffPair) l10 c10 k10
  have g10 := PySem.W.mg_of X G a10
  have b10 := F10.binds (ps := ["digits", "bars"]) fun _ _ _ _ _ _ us hl => match us, hl with | [_, _], _ => rfl
  have F11 := fun_mk (st := sCell) l11 c11 k11
  have g11 := PySem.W.mg_of X G a11
  have b11 := F11.binds (ps := ["_law_script", "_law_k"]) fun _ _ _ _ _ _ us hl => match us, hl with | [_, _], _ => rfl
  have F12 := fun_mk (st := sBox) l12 c12 k12
  have g12 := PySem.W.mg_of X G a12
  have b12 := F12.binds (ps := ["_law_cell_here"]) fun _ _ _ _ _ _ us hl => match us, hl with | [_], _ => rfl
  have F13 := fun_mk (st := sTake) l13 c13 k13
  have g13 := PySem.W.mg_of X G a13
  have b13 := F13.binds (ps := ["_law_box_here", "_law_many"]) fun _ _ _ _ _ _ us hl => match us, hl with | [_, _], _ => rfl
  have F14 := fun_mk (st := sMixed) l14 c14 k14
  have g14 := PySem.W.mg_of X G a14
  have b14 := F14.binds (ps := ["_law_box_here", "_law_some"]) fun _ _ _ _ _ _ us hl => match us, hl with | [_, _], _ => rfl
  have F15 := fun_mk (st := sDigits) l15 c15 k15
  have g15 := PySem.W.mg_of X G a15
  have b15 := F15.binds (ps := ["_law_box_here", "_law_base"]) fun _ _ _ _ _ _ us hl => match us, hl with | [_, _], _ => rfl
  have F16 := fun_mk (st := sPairs) l16 c16 k16
  have g16 := PySem.W.mg_of X G a16
  have b16 := F16.binds (ps := ["_law_digits_here"]) fun _ _ _ _ _ _ us hl => match us, hl with | [_], _ => rfl
  have F17 := fun_mk (st := sScheme) l17 c17 k17
  have g17 := PySem.W.mg_of X G a17
  have b17 := F17.binds (ps := ["_law_box_here"]) fun _ _ _ _ _ _ us hl => match us, hl with | [_], _ => rfl
  have F18 := fun_mk (st := sMade) l18 c18 k18
  have g18 := PySem.W.mg_of X G a18
  have b18 := F18.binds (ps := ["_law_model"]) fun _ _ _ _ _ _ us hl => match us, hl with | [_], _ => rfl
  have F19 := fun_mk (st := sIsRow) l19 c19 k19
  have g19 := PySem.W.mg_of X G a19
  have b19 := F19.binds (ps := ["_law_model", "_law_line"]) fun _ _ _ _ _ _ us hl => match us, hl with | [_, _], _ => rfl
  have F20 := fun_mk (st := sValue) l20 c20 k20
  have g20 := PySem.W.mg_of X G a20
  have b20 := F20.binds (ps := ["_law_base", "_law_line"]) fun _ _ _ _ _ _ us hl => match us, hl with | [_, _], _ => rfl
  have F21 := fun_mk (st := sRow) l21 c21 k21
  have g21 := PySem.W.mg_of X G a21
  have b21 := F21.binds (ps := ["_law_box_here", "_law_model", "_law_many"]) fun _ _ _ _ _ _ us hl => match us, hl with | [_, _, _], _ => rfl
  have F22 := fun_mk (st := sTold) l22 c22 k22
  have g22 := PySem.W.mg_of X G a22
  have b22 := F22.binds (ps := ["_law_scheme_here", "_law_line"]) fun _ _ _ _ _ _ us hl => match us, hl with | [_, _], _ => rfl
  have F23 := fun_mk (st := sOddRow) l23 c23 k23
  have g23 := PySem.W.mg_of X G a23
  have b23 := F23.binds (ps := ["_law_box_here", "_law_line"]) fun _ _ _ _ _ _ us hl => match us, hl with | [_, _], _ => rfl
  have F24 := fun_mk (st := sJudged) l24 c24 k24
  have g24 := PySem.W.mg_of X G a24
  have b24 := F24.binds (ps := ["_law_model", "_law_scheme_here", "_law_line"]) fun _ _ _ _ _ _ us hl => match us, hl with | [_, _, _], _ => rfl
  have F25 := fun_mk (st := sRight) l25 c25 k25
  have g25 := PySem.W.mg_of X G a25
  have b25 := F25.binds (ps := ["_law_box_here"]) fun _ _ _ _ _ _ us hl => match us, hl with | [_], _ => rfl
  have F26 := fun_mk (st := sLaw) l26 c26 k26
  have g26 := PySem.W.mg_of X G a26
  have b26 := F26.binds (ps := ["_law_script"]) fun _ _ _ _ _ _ us hl => match us, hl with | [_], _ => rfl
  have FF := fun_mk (st := sFig) lF cF kF
  have bF := FF.binds (ps := ["self", "text"]) fun _ _ _ _ _ _ us hl => match us, hl with | [_, _], _ => rfl
  have TF : FigC K mg CF fF := ⟨PySem.W.mg_of X G aF, ⟨rF, gaF⟩, atF, kF⟩
  have FI1 := fun_mk (st := sInBase) lI1 cI1 kI1
  have bI1 := FI1.binds (ps := ["self", "value"]) fun _ _ _ _ _ _ us hl => match us, hl with | [_, _], _ => rfl
  have T1 : ErrC K mg "InvalidBase" "value" C1 fI1 := ⟨PySem.W.mg_of X G aC1, ⟨⟨_, _, _, _, _, _, _, _, _, _, _, _, _, _, _, xC1, by first | rfl | decide +kernel⟩, sa1, ex1, ty1, kC1⟩, iC1, tI1, no1, ⟨ga1, gg1, ex1, hd1⟩, exm_own ex1 ic1 ty1 sb1, ⟨cn1, ⟨⟨ga1, gg1, ex1, hd1⟩, by simpa [PySem.W.isClsIn] using ic1, haE1, xnE, xtE, hmE1, ty1, stE, fcE1, ⟨_, tkE1, xC1, rfl, rfl⟩, nnE1⟩⟩⟩
  have FI2 := fun_mk (st := sInDig) lI2 cI2 kI2
  have bI2 := FI2.binds (ps := ["self", "value"]) fun _ _ _ _ _ _ us hl => match us, hl with | [_, _], _ => rfl
  have T2 : ErrC K mg "InvalidDigits" "value" C2 fI2 := ⟨PySem.W.mg_of X G aC2, ⟨⟨_, _, _, _, _, _, _, _, _, _, _, _, _, _, _, xC2, by first | rfl | decide +kernel⟩, sa2, ex2, ty2, kC2⟩, iC2, tI2, no2, ⟨ga2, gg2, ex2, hd2⟩, exm_own ex2 ic2 ty2 sb2, ⟨cn2, ⟨⟨ga2, gg2, ex2, hd2⟩, by simpa [PySem.W.isClsIn] using ic2, haE2, xnE, xtE, hmE2, ty2, stE, fcE2, ⟨_, tkE2, xC2, rfl, rfl⟩, nnE2⟩⟩⟩
  have FI3 := fun_mk (st := sInBars) lI3 cI3 kI3
  have bI3 := FI3.binds (ps := ["self", "value"]) fun _ _ _ _ _ _ us hl => match us, hl with | [_, _], _ => rfl
  have T3 : ErrC K mg "InvalidBars" "value" C3 fI3 := ⟨PySem.W.mg_of X G aC3, ⟨⟨_, _, _, _, _, _, _, _, _, _, _, _, _, _, _, xC3, by first | rfl | decide +kernel⟩, sa3, ex3, ty3, kC3⟩, iC3, tI3, no3, ⟨ga3, gg3, ex3, hd3⟩, exm_own ex3 ic3 ty3 sb3, ⟨cn3, ⟨⟨ga3, gg3, ex3, hd3⟩, by simpa [PySem.W.isClsIn] using ic3, haE3, xnE, xtE, hmE3, ty3, stE, fcE3, ⟨_, tkE3, xC3, rfl, rfl⟩, nnE3⟩⟩⟩
  have FI4 := fun_mk (st := sInR) lI4 cI4 kI4
  have bI4 := FI4.binds (ps := ["self", "row"]) fun _ _ _ _ _ _ us hl => match us, hl with | [_, _], _ => rfl
  have T4 : ErrC K mg "InvalidRow" "row" C4 fI4 := ⟨PySem.W.mg_of X G aC4, ⟨⟨_, _, _, _, _, _, _, _, _, _, _, _, _, _, _, xC4, by first | rfl | decide +kernel⟩, sa4, ex4, ty4, kC4⟩, iC4, tI4, no4, ⟨ga4, gg4, ex4, hd4⟩, exm_own ex4 ic4 ty4 sb4, ⟨cn4, ⟨⟨ga4, gg4, ex4, hd4⟩, by simpa [PySem.W.isClsIn] using ic4, haE4, xnE, xtE, hmE4, ty4, stE, fcE4, ⟨_, tkE4, xC4, rfl, rfl⟩, nnE4⟩⟩⟩
  have cS : Cls K CS := ⟨pgS, hdS, poS, saS⟩
  have iS : IsC K CS := ⟨cS, haS, xn, xt, hmS, kit_own icS tyS sbS⟩
  have gS := PySem.W.mg_of X G aS
  have FM1 := fun_mk (st := sInit) lM1 cM1 kM1
  have mm1 : Meth K CS "__init__" h1 := ⟨at1, fn1, kM1⟩
  have FM2 := fun_mk (st := sAllows) lM2 cM2 kM2
  have bM2 := FM2.binds (ps := ["self", "left", "right"]) fun _ _ _ _ _ _ us hl => match us, hl with | [_, _, _], _ => rfl
  have mm2 : Meth K CS "allows" h2 := ⟨at2, fn2, kM2⟩
  have FM3 := fun_mk (st := sHas) lM3 cM3 kM3
  have bM3 := FM3.binds (ps := ["self", "row"]) fun _ _ _ _ _ _ us hl => match us, hl with | [_, _], _ => rfl
  have mm3 : Meth K CS "__contains__" h3 := ⟨at3, fn3, kM3⟩
  have FM4 := fun_mk (st := sValueOf) lM4 cM4 kM4
  have bM4 := FM4.binds (ps := ["self", "row"]) fun _ _ _ _ _ _ us hl => match us, hl with | [_, _], _ => rfl
  have mm4 : Meth K CS "value_of" h4 := ⟨at4, fn4, kM4⟩
  have FM5 := fun_mk (st := sEq) lM5 cM5 kM5
  have bM5 := FM5.binds (ps := ["self", "other"]) fun _ _ _ _ _ _ us hl => match us, hl with | [_, _], _ => rfl
  have mm5 : Meth K CS "__eq__" h5 := ⟨at5, fn5, kM5⟩
  have y_len := PySem.W.mg_none_of X G z1
  have y_range := PySem.W.mg_none_of X G z2
  have y_int := PySem.W.mg_none_of X G z3
  have y_bool := PySem.W.mg_none_of X G z4
  have y_isinstance := PySem.W.mg_none_of X G z5
  have y_repr := PySem.W.mg_none_of X G z6
  have y_list := PySem.W.mg_none_of X G z7
  have y_tuple := PySem.W.mg_none_of X G z8
  have y_set := PySem.W.mg_none_of X G z9
  have y_sorted := PySem.W.mg_none_of X G z10
  have y_all := PySem.W.mg_none_of X G z11
  have y_zip := PySem.W.mg_none_of X G z12
  have y_max := PySem.W.mg_none_of X G z13
  have y_min := PySem.W.mg_none_of X G z14
  have y_abs := PySem.W.mg_none_of X G z15
  have y_ValueError := PySem.W.mg_none_of X G z16
  have u_MOST_DIGITS := PySem.W.mg_of X G v1
  have u_GREATEST_DIGIT := PySem.W.mg_of X G v2
  have u_GREATEST_BASE := PySem.W.mg_of X G v3
  refine ⟨PySem.W.fnOf "law" "law" (defArgs sLaw) (defBody sLaw) (defScope sLaw) .none kV26 dc26 pm26 an26 cd26 ct26, fun s v => .of_eq rfl, fun base _ _ => ?_⟩
  have E1 := (ok_InvalidBase (P := l.prog) (w := w) (base := base) FI1 FF TF bF T1 y_ValueError vV).mono (by decide : 2 ≤ 3)
  have E2 := (ok_InvalidDigits (P := l.prog) (w := w) (base := base) FI2 FF TF bF T2 y_ValueError vV).mono (by decide : 2 ≤ 3)
  have E3 := (ok_InvalidBars (P := l.prog) (w := w) (base := base) FI3 FF TF bF T3 y_ValueError vV).mono (by decide : 2 ≤ 3)
  have E4 := (ok_InvalidRow (P := l.prog) (w := w) (base := base) FI4 FF TF bF T4 y_ValueError vV).mono (by decide : 2 ≤ 3)
  have G1 := ok_whole (P := l.prog) (w := w) (base := base) F1 y_isinstance y_int y_bool
  have G2 := ok_isint (P := l.prog) (w := w) (base := base) F2 G1 g1 F1.kp b1
  have G3 := ok_isbase (P := l.prog) (w := w) (base := base) F3 G2 g2 F2.kp b2 u_GREATEST_BASE
  have G4 := ok_isdigit (P := l.prog) (w := w) (base := base) F4 G2 g2 F2.kp b2 u_GREATEST_DIGIT
  have G5 := ok_are (P := l.prog) (w := w) (base := base) F5 G4 g4 F4.kp b4 y_all
  have G6 := ok_oneof (P := l.prog) (w := w) (base := base) F6 G4 g4 F4.kp b4
  have G7 := ok_ispair (P := l.prog) (w := w) (base := base) F7 G6 g6 F6.kp b6 y_isinstance y_len y_all y_tuple
  have G8 := ok_diglist (P := l.prog) (w := w) (base := base) F8 G5 g5 F5.kp b5 y_isinstance y_list y_tuple
  have G9 := ok_diffdig (P := l.prog) (w := w) (base := base) F9 G8 g8 F8.kp b8 E2 T2 bI2 u_MOST_DIGITS y_len y_set y_sorted y_tuple
  have G10 := ok_diffpair (P := l.prog) (w := w) (base := base) F10 G7 g7 F7.kp b7 E3 T3 bI3 y_isinstance y_list y_set y_sorted y_tuple
  have GN := ok_new (P := l.prog) (w := w) (base := base) FM1 cS nB nD nR G3 g3 F3.kp b3 G9 g9 F9.kp b9 G10 g10 F10.kp b10 E1 T1 bI1
  have GA := ok_allows (P := l.prog) (w := w) (base := base) FM2 cS nD nR G6 g6 F6.kp b6
  have GH := ok_has (P := l.prog) (w := w) (base := base) FM3 cS mm2 GA bM2 y_isinstance y_tuple y_all y_zip
  have GV := ok_valueof (P := l.prog) (w := w) (base := base) FM4 cS nB mm3 GH bM3 E4 T4 bI4
  have GE := ok_eq (P := l.prog) (w := w) (base := base) FM5 iS nB nD nR gS y_isinstance
  have ask : AskC K C4 := ⟨by simpa [PySem.W.isClsIn] using ic4, T4.xf, xa, xn, xt, xm⟩
  have kk : PySem.W.kitOne K (.ref C4) (.ref CF) = some true := kit_own xi xy xs
  have MX := ok_mixed (P := l.prog) (w := w) (base := base) F14 F13 g13 b13 y_int y_len y_range y_list
  have DG := ok_digits (P := l.prog) (w := w) (base := base) F15 F13 g13 b13 y_int y_len y_range y_list y_abs
  have PR := ok_pairs (mg := mg) (P := l.prog) (w := w) (base := base) F16
  have SC := ok_scheme (P := l.prog) (w := w) (base := base) F17 F13 g13 b13 DG g15 F15.kp b15 PR g16 F16.kp b16 y_int y_sorted
  have MD := ok_made (P := l.prog) (w := w) (base := base) F18 FM1 ⟨mkS, at1, fn1, kpS⟩ gS GN
  have IR := ok_isrow (P := l.prog) (w := w) (base := base) F19 y_len y_range
  have VA := ok_value (mg := mg) (P := l.prog) (w := w) (base := base) F20
  have RW := ok_row (P := l.prog) (w := w) (base := base) F21 F13 g13 b13 y_int y_len y_range y_tuple
  have TO := ok_told (P := l.prog) (w := w) (base := base) F22 cS mm4 GV bM4 T4 TF ask kk y_isinstance
  have OR := ok_oddrow (P := l.prog) (w := w) (base := base) F23 F13 g13 b13 y_int y_len y_max
  have JU := ok_judged (P := l.prog) (w := w) (base := base) F24 IR g19 F19.kp b19 mm3 GH bM3 TO g22 F22.kp b22 VA g20 F20.kp b20 y_repr
  have R := ok_right (P := l.prog) (w := w) (base := base) F25 cS F13 g13 b13 SC g17 F17.kp b17 MD g18 F18.kp b18 RW g21 F21.kp b21 OR g23 F23.kp b23 MX g14 F14.kp b14 JU g24 F24.kp b24 FM2 mm2 GA bM2 mm3 GH bM3 TO g22 F22.kp b22 mm5 GE bM5 FM4 mm4 GV y_int y_range y_isinstance y_repr y_list y_bool
  exact ok_law F26 F11 g11 b11 F12 g12 b12 R g25 F25.kp b25 y_int y_len y_range y_max y_min
end K07
open PySem PySem.W PyProof.Rows
set_option maxRecDepth 100000 in
set_option maxHeartbeats 0 in
theorem PySem.Challenge.cw_oddfigures_k07_rows_judged_holds : PySem.Challenge.rw_oddfigures_k07_rows_judged.Holds := by
  w_on; o_law; k_head; (case hw => w_witness2)
  k_fill
  refine OF.walkG (l := PySem.Challenge.rw_oddfigures_k07_rows_judged) (m := 63) (n := 11) (x := "_law_script") (sp := fun w => K07.spLaw _) rfl (by decide) rfl ⟨rfl, by decide, by decide⟩ (fun w h Y => PySem.W.kIn_of Y) ?F (fun _ _ a ns hl hS => ⟨a, ns, rfl, hS, hl, fun _ => rfl⟩)
  case F =>
    intro w mg fa h KX G hmg
    refine' K07.all_mk KX G hmg ?a1 ?l1 ?c1 ?k1 ?a2 ?l2 ?c2 ?k2 ?a3 ?l3 ?c3 ?k3 ?a4 ?l4 ?c4 ?k4 ?a5 ?l5 ?c5 ?k5 ?a6 ?l6 ?c6 ?k6 ?a7 ?l7 ?c7 ?k7 ?a8 ?l8 ?c8 ?k8 ?a9 ?l9 ?c9 ?k9 ?a10 ?l10 ?c10 ?k10 ?a11 ?l11 ?c11 ?k11 ?a12 ?l12 ?c12 ?k12 ?a13 ?l13 ?c13 ?k13 ?a14 ?l14 ?c14 ?k14 ?a15 ?l15 ?c15 ?k15 ?a16 ?l16 ?c16 ?k16 ?a17 ?l17 ?c17 ?k17 ?a18 ?l18 ?c18 ?k18 ?a19 ?l19 ?c19 ?k19 ?a20 ?l20 ?c20 ?k20 ?a21 ?l21 ?c21 ?k21 ?a22 ?l22 ?c22 ?k22 ?a23 ?l23 ?c23 ?k23 ?a24 ?l24 ?c24 ?k24 ?a25 ?l25 ?c25 ?k25 ?a26 ?l26 ?c26 ?k26 ?aF ?rF ?gaF ?atF ?lF ?cF ?kF ?vV ?aC1 ?xC1 ?sa1 ?ex1 ?ty1 ?kC1 ?iC1 ?tI1 ?no1 ?ga1 ?gg1 ?hd1 ?sb1 ?ic1 ?lI1 ?cI1 ?kI1 ?aC2 ?xC2 ?sa2 ?ex2 ?ty2 ?kC2 ?iC2 ?tI2 ?no2 ?ga2 ?gg2 ?hd2 ?sb2 ?ic2 ?lI2 ?cI2 ?kI2 ?aC3 ?xC3 ?sa3 ?ex3 ?ty3 ?kC3 ?iC3 ?tI3 ?no3 ?ga3 ?gg3 ?hd3 ?sb3 ?ic3 ?lI3 ?cI3 ?kI3 ?aC4 ?xC4 ?sa4 ?ex4 ?ty4 ?kC4 ?iC4 ?tI4 ?no4 ?ga4 ?gg4 ?hd4 ?sb4 ?ic4 ?lI4 ?cI4 ?kI4 ?aS ?pgS ?hdS ?poS ?saS ?mkS ?nB ?nD ?nR ?haS ?xn ?xt ?hmS ?sbS ?icS ?tyS ?kpS ?at1 ?fn1 ?lM1 ?cM1 ?kM1 ?at2 ?fn2 ?lM2 ?cM2 ?kM2 ?at3 ?fn3 ?lM3 ?cM3 ?kM3 ?at4 ?fn4 ?lM4 ?cM4 ?kM4 ?at5 ?fn5 ?lM5 ?cM5 ?kM5 ?xa ?xm ?xs ?xi ?xy ?z1 ?z2 ?z3 ?z4 ?z5 ?z6 ?z7 ?z8 ?z9 ?z10 ?z11 ?z12 ?z13 ?z14 ?z15 ?z16 ?v1 ?v2 ?v3 ?haE1 ?hmE1 ?fcE1 ?nnE1 ?haE2 ?hmE2 ?fcE2 ?nnE2 ?haE3 ?hmE3 ?fcE3 ?nnE3 ?haE4 ?hmE4 ?fcE4 ?nnE4 ?xnE ?xtE ?stE
    (case a1 => k_is)
    (case l1 => k_is)
    (case c1 => k_is)
    (case k1 => k_is)
    (case a2 => k_is)
    (case l2 => k_is)
    (case c2 => k_is)
    (case k2 => k_is)
    (case a3 => k_is)
    (case l3 => k_is)
    (case c3 => k_is)
    (case k3 => k_is)
    (case a4 => k_is)
    (case l4 => k_is)
    (case c4 => k_is)
    (case k4 => k_is)
    (case a5 => k_is)
    (case l5 => k_is)
    (case c5 => k_is)
    (case k5 => k_is)
    (case a6 => k_is)
    (case l6 => k_is)
    (case c6 => k_is)
    (case k6 => k_is)
    (case a7 => k_is)
    (case l7 => k_is)
    (case c7 => k_is)
    (case k7 => k_is)
    (case a8 => k_is)
    (case l8 => k_is)
    (case c8 => k_is)
    (case k8 => k_is)
    (case a9 => k_is)
    (case l9 => k_is)
    (case c9 => k_is)
    (case k9 => k_is)
    (case a10 => k_is)
    (case l10 => k_is)
    (case c10 => k_is)
    (case k10 => k_is)
    (case a11 => k_is)
    (case l11 => k_is)
    (case c11 => k_is)
    (case k11 => k_is)
    (case a12 => k_is)
    (case l12 => k_is)
    (case c12 => k_is)
    (case k12 => k_is)
    (case a13 => k_is)
    (case l13 => k_is)
    (case c13 => k_is)
    (case k13 => k_is)
    (case a14 => k_is)
    (case l14 => k_is)
    (case c14 => k_is)
    (case k14 => k_is)
    (case a15 => k_is)
    (case l15 => k_is)
    (case c15 => k_is)
    (case k15 => k_is)
    (case a16 => k_is)
    (case l16 => k_is)
    (case c16 => k_is)
    (case k16 => k_is)
    (case a17 => k_is)
    (case l17 => k_is)
    (case c17 => k_is)
    (case k17 => k_is)
    (case a18 => k_is)
    (case l18 => k_is)
    (case c18 => k_is)
    (case k18 => k_is)
    (case a19 => k_is)
    (case l19 => k_is)
    (case c19 => k_is)
    (case k19 => k_is)
    (case a20 => k_is)
    (case l20 => k_is)
    (case c20 => k_is)
    (case k20 => k_is)
    (case a21 => k_is)
    (case l21 => k_is)
    (case c21 => k_is)
    (case k21 => k_is)
    (case a22 => k_is)
    (case l22 => k_is)
    (case c22 => k_is)
    (case k22 => k_is)
    (case a23 => k_is)
    (case l23 => k_is)
    (case c23 => k_is)
    (case k23 => k_is)
    (case a24 => k_is)
    (case l24 => k_is)
    (case c24 => k_is)
    (case k24 => k_is)
    (case a25 => k_is)
    (case l25 => k_is)
    (case c25 => k_is)
    (case k25 => k_is)
    (case a26 => k_is)
    (case l26 => k_is)
    (case c26 => k_is)
    (case k26 => k_is)
    (case aF => k_is)
    (case rF => k_is)
    (case gaF => k_is)
    (case atF => k_is)
    (case lF => k_is)
    (case cF => k_is)
    (case kF => k_is)
    (case vV => k_is)
    (case aC1 => k_is)
    (case xC1 => k_is)
    (case sa1 => k_is)
    (case ex1 => k_is)
    (case ty1 => k_is)
    (case kC1 => k_is)
    (case iC1 => k_is)
    (case tI1 => k_is)
    (case no1 => k_is)
    (case ga1 => k_is)
    (case gg1 => k_is)
    (case hd1 => k_is)
    (case sb1 => k_is)
    (case ic1 => k_is)
    (case lI1 => k_is)
    (case cI1 => k_is)
    (case kI1 => k_is)
    (case aC2 => k_is)
    (case xC2 => k_is)
    (case sa2 => k_is)
    (case ex2 => k_is)
    (case ty2 => k_is)
    (case kC2 => k_is)
    (case iC2 => k_is)
    (case tI2 => k_is)
    (case no2 => k_is)
    (case ga2 => k_is)
    (case gg2 => k_is)
    (case hd2 => k_is)
    (case sb2 => k_is)
    (case ic2 => k_is)
    (case lI2 => k_is)
    (case cI2 => k_is)
    (case kI2 => k_is)
    (case aC3 => k_is)
    (case xC3 => k_is)
    (case sa3 => k_is)
    (case ex3 => k_is)
    (case ty3 => k_is)
    (case kC3 => k_is)
    (case iC3 => k_is)
    (case tI3 => k_is)
    (case no3 => k_is)
    (case ga3 => k_is)
    (case gg3 => k_is)
    (case hd3 => k_is)
    (case sb3 => k_is)
    (case ic3 => k_is)
    (case lI3 => k_is)
    (case cI3 => k_is)
    (case kI3 => k_is)
    (case aC4 => k_is)
    (case xC4 => k_is)
    (case sa4 => k_is)
    (case ex4 => k_is)
    (case ty4 => k_is)
    (case kC4 => k_is)
    (case iC4 => k_is)
    (case tI4 => k_is)
    (case no4 => k_is)
    (case ga4 => k_is)
    (case gg4 => k_is)
    (case hd4 => k_is)
    (case sb4 => k_is)
    (case ic4 => k_is)
    (case lI4 => k_is)
    (case cI4 => k_is)
    (case kI4 => k_is)
    (case aS => k_is)
    (case pgS => k_is)
    (case hdS => k_is)
    (case poS => k_is)
    (case saS => k_is)
    (case mkS => k_is)
    (case nB => k_is)
    (case nD => k_is)
    (case nR => k_is)
    (case haS => k_is)
    (case xn => k_is)
    (case xt => k_is)
    (case hmS => k_is)
    (case sbS => k_is)
    (case icS => k_is)
    (case tyS => k_is)
    (case kpS => k_is)
    (case at1 => k_is)
    (case fn1 => k_is)
    (case lM1 => k_is)
    (case cM1 => k_is)
    (case kM1 => k_is)
    (case at2 => k_is)
    (case fn2 => k_is)
    (case lM2 => k_is)
    (case cM2 => k_is)
    (case kM2 => k_is)
    (case at3 => k_is)
    (case fn3 => k_is)
    (case lM3 => k_is)
    (case cM3 => k_is)
    (case kM3 => k_is)
    (case at4 => k_is)
    (case fn4 => k_is)
    (case lM4 => k_is)
    (case cM4 => k_is)
    (case kM4 => k_is)
    (case at5 => k_is)
    (case fn5 => k_is)
    (case lM5 => k_is)
    (case cM5 => k_is)
    (case kM5 => k_is)
    (case xa => k_is)
    (case xm => k_is)
    (case xs => k_is)
    (case xi => k_is)
    (case xy => k_is)
    (case z1 => k_is)
    (case z2 => k_is)
    (case z3 => k_is)
    (case z4 => k_is)
    (case z5 => k_is)
    (case z6 => k_is)
    (case z7 => k_is)
    (case z8 => k_is)
    (case z9 => k_is)
    (case z10 => k_is)
    (case z11 => k_is)
    (case z12 => k_is)
    (case z13 => k_is)
    (case z14 => k_is)
    (case z15 => k_is)
    (case z16 => k_is)
    (case v1 => k_is)
    (case v2 => k_is)
    (case v3 => k_is)
    (case haE1 => k_is)
    (case hmE1 => k_is)
    (case fcE1 => k_is)
    (case nnE1 => k_is)
    (case haE2 => k_is)
    (case hmE2 => k_is)
    (case fcE2 => k_is)
    (case nnE2 => k_is)
    (case haE3 => k_is)
    (case hmE3 => k_is)
    (case fcE3 => k_is)
    (case nnE3 => k_is)
    (case haE4 => k_is)
    (case hmE4 => k_is)
    (case fcE4 => k_is)
    (case nnE4 => k_is)
    (case xnE => k_is)
    (case xtE => k_is)
    (case stE => k_is)
