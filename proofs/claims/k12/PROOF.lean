import PyProof.Rows.All
import Wide.All
import OpenK.AllK
import Wide.FinOn
import HandS.ForMost
import HandS.IsInst
import HandS.Defaults
import HandS.Wide
import HandS.ForExc
import HandS.ExcInit
import HandS.ExcField
import KE.KExcIs
import KE.KTypeName
import HandS.ClsMeth
import HandS.DictComp
import HandS.More
import PyProof.ReprRoads
import HandS.Head2
import HandS.HeadNt
import HandS.HeadHook4
import HandS.HeadWalk
import HandS.SetFor
import HandS.Strs
import HandS.TupSets
import HandS.SortRule
import HandS.Deep
import HandS.TupAny
import HandS.Style
import HandS.Zip
import HandS.Walk
import HandS.MakeKwOnly
import HandS.RaiseMore
import HandS.Property
import HandS.Small
import KE.KDictDisplayH
import HandS.Conv
import HandS.Iter
import HandS.TupLen
import PyProof.DictTruth
import HandS.Nested
import HandS.CallLocal
import OpenK.KOps
import KE.KCallOwn
import KE.KOpsOwn
import HandS.FStr
import HandS.Flow
import PyProof.RulesDelMore
import HandS.SortKw
import HandS.Rev
import HandS.ExcOwn
import HandS.MakeKw
import HandS.NestedK
import PySem.Challenge.RW_oddfigures_k12_whole_written_or_closed
set_option Elab.async false
set_option linter.all false
set_option maxRecDepth 100000
/-! What the laws of this program have in common: heaps that stay but for one box, the box that draws are taken from, calls by names alone, repr of a truth. -/
namespace OF
open PySem PySem.Spec PyProof.Rows L2

/-! ### heaps that stay but for one place -/
/-- all that was tracked, but for the box at a, is as it was -/
def But (a : Addr) (H H' : Hp) : Prop := ∀ b o, b ≠ a → H b = some o → H' b = some o
theorem But.refl {a : Addr} {H : Hp} : But a H H := fun _ _ _ h => h
theorem But.trans {a : Addr} {H H1 H2 : Hp} (x : But a H H1) (y : But a H1 H2) : But a H H2 := fun b o n h => y b o n (x b o n h)
theorem But.of_same {a : Addr} {H H' : Hp} (x : Same H H') : But a H H' := fun b o _ h => x b o h
theorem But.new {a p : Addr} {H : Hp} {o : HO} (hp : H p = none) : But a H (upd H p o) := fun b u _ h => by
  rw [upd_ne (ne_of_none h hp)]; exact h
theorem But.at_ {a : Addr} {H : Hp} {o : HO} : But a H (upd H a o) := fun b u n h => by
  rw [upd_ne n]; exact h
/-- what was none ahead of the steps is a new place: a store to it keeps all -/
theorem But.store {a p : Addr} {H H1 : Hp} {o : HO} (x : But a H H1) (hp : H p = none) : But a H (upd H1 p o) := fun b u n h => by
  rw [upd_ne (ne_of_none h hp)]; exact x b u n h
theorem But.seqL {K : PySem.W.Frag} {a p : Addr} {H H' : Hp} {xs : List V} (x : But a H H') (n : p ≠ a) (h : SqL K H p xs) : SqL K H' p xs := by
  rcases h with (h | ⟨o, h⟩) | h
  · exact .inl (.inl (x _ _ n h))
  · exact .inl (.inr ⟨o, x _ _ n h⟩)
  · exact .inr h
theorem But.seqT {K : PySem.W.Frag} {a p : Addr} {H H' : Hp} {xs : List V} (x : But a H H') (n : p ≠ a) (h : SqT K H p xs) : SqT K H' p xs := by
  rcases h with (h | ⟨o, h⟩) | h
  · exact .inl (.inl (x _ _ n h))
  · exact .inl (.inr ⟨o, x _ _ n h⟩)
  · exact .inr h
theorem same_new {H : Hp} {p : Addr} {o : HO} (h : H p = none) : Same H (upd H p o) := fun b x e => by
  rw [upd_ne (ne_of_none e h)]; exact e

/-! ### the box -/
/-- at a stands a box: what is left of a large cell, a seed, how many were mixed (at most n) -/
def Box (n : Int) (H : Hp) (a : Addr) : Prop := ∃ b0 b1 b2 : Int, H a = some (.lst [.int b0, .int b1, .int b2]) ∧ 0 ≤ b0 ∧ 0 ≤ b1 ∧ b1 < 2147483648 ∧ 0 ≤ b2 ∧ b2 ≤ n
theorem Box.mono {n m : Int} {H : Hp} {a : Addr} (h : Box n H a) (hm : n ≤ m) : Box m H a := by
  obtain ⟨b0, b1, b2, h1, h2, h3, h4, h5, h6⟩ := h
  exact ⟨b0, b1, b2, h1, h2, h3, h4, h5, by omega⟩
theorem Box.same {n : Int} {H H' : Hp} {a : Addr} (h : Box n H a) (s : Same H H') : Box n H' a := by
  obtain ⟨b0, b1, b2, h1, r⟩ := h
  exact ⟨b0, b1, b2, s _ _ h1, r⟩
theorem Box.new {n : Int} {H : Hp} {a p : Addr} {o : HO} (h : Box n H a) (hp : H p = none) : Box n (upd H p o) a := h.same (same_new hp)
theorem Box.ne {n : Int} {H : Hp} {a p : Addr} (h : Box n H a) (hp : H p = none) : p ≠ a := by
  obtain ⟨b0, b1, b2, h1, r⟩ := h
  exact (ne_of_none h1 hp).symm
theorem Box.upd {n : Int} {H : Hp} {a p : Addr} {o : HO} (h : Box n H a) (hp : p ≠ a) : Box n (L2.upd H p o) a := by
  obtain ⟨b0, b1, b2, h1, r⟩ := h
  exact ⟨b0, b1, b2, by rw [upd_ne hp.symm]; exact h1, r⟩

/-- a draw: box, many; a number from 0 to many - 1, the box goes on -/
def spTake : Sp := fun vs H Q _ => ∃ (a : Addr) (m n : Int), vs = [.ref a, .int m] ∧ Box n H a ∧ n ≤ 1000000 ∧ 0 < m ∧ m.natAbs < 2 ^ 400 ∧
  ∀ (r : Int) (H' : Hp), 0 ≤ r → r < m → But a H H' → Box (n + 1) H' a → Q (.int r) H'
/-- a cell of the script, or a number made of the place -/
def spCell (K : PySem.W.Frag) : Sp := fun vs H Q _ => ∃ (a : Addr) (ns : List Int) (k : Nat), vs = [.ref a, .int k] ∧ SqL K H a (ns.map V.int) ∧ k < 1000 ∧ ∀ c : Int, Q (.int c) H
/-- a new box of a cell -/
def spBox : Sp := fun vs H Q _ => ∃ c : Int, vs = [.int c] ∧ ∀ (p : Addr) (H' : Hp), H p = none → Same H H' → Box 0 H' p → Q (.ref p) H'
/-- a list's items in a drawn order -/
def spMixed (K : PySem.W.Frag) : Sp := fun vs H Q _ => ∃ (a p : Addr) (xs : List V) (n : Int), vs = [.ref a, .ref p] ∧ Box n H a ∧ SqL K H p xs ∧ p ≠ a ∧ xs.length ≤ 1000 ∧ n ≤ 900000 ∧
  ∀ (D : Addr) (ys : List V) (H' : Hp), H D = none → But a H H' → Box (n + xs.length) H' a → H' D = some (.lst ys) → ys.length = xs.length → (∀ y ∈ ys, y ∈ xs) → Q (.ref D) H'

/-! ### calls by names alone -/
section
variable {X : Cx} {CX : CXT} {k : Nat} {f : Addr} {fd : FuncData} {ps ks : List Str} {sp : Sp} {E : XK} {x : Str} {p pos : Pos} {kws : List Keyword} {tk : TA} {g : List Value → List Value → List Value} {gV : List V → List V → List V}
/-- f(k = v, ..) -/
theorem pe_callN0 (F : FnOk X.prog X.w X.K X.mg X.base CX k f fd ps sp) (hr : Room k X.A) (hg : Gl X x) (hm : X.mg x = some (.ref f)) (hk : PySem.W.keepIn X.K (.ref f) = true) (hb : KBn X.K fd ps 0 ks g gV) (hx : Passes CX X E)
    (hkw : PK X kws tk) (hall : (backToKw pos (keywordEach kws X.env)).all (·.1.isSome) = true := by rfl) (hks : (backToKw pos (keywordEach kws X.env)).filterMap (·.1) = ks := by rfl)
    (hdb : (x == ("__debug__" : Str)) = false := by decide)
    (hpl : ((backTo pos (starEach [] X.env)).any (·.1) || (backToKw pos (keywordEach kws X.env)).any (·.1.isNone)) = false := by rfl) :
    PE X (.Call (.Name x p) [] kws pos) (tCallN 0 ks.length sp gV E tNil tk) := by
  refine ⟨fun pins s σ H Q I h => ?_⟩
  refine wpAny_Call_Name_kw (ld_glob I hg hm ?_ hdb)
  refine PySem.W.callWith_KW0 (h₀ := X.base) I.ok.mod.kin hk hall (thn (hkw.run pos pins s σ H _ I h) fun ws s2 ⟨zs, H2, I2, rz, l1, l2, q2⟩ => ⟨I2.kIn, ?_⟩) hpl
  rw [hks]
  exact run_fnN (us := []) (vs := []) F hr hb hx I2 .nil rz l1 l2 q2
/-- % by a positive number: some rest, in its bounds -/
theorem op_modR : OpR X (binaryOp .Mod) (fun x y H Q => ∃ i j : Int, x = .int i ∧ y = .int j ∧ 0 < j ∧ ∀ r : Int, 0 ≤ r → r < j → Q (.int r) H) := by
  intro pins s σ H x y v u Q I rx ry h
  obtain ⟨i, j, e1, e2, hj, q⟩ := h
  exact op_mod pins s σ H x y v u Q I rx ry ⟨i, j, e1, e2, hj, q _ (Int.emod_nonneg _ (by omega)) (Int.emod_lt_of_pos _ hj)⟩
theorem call_repr_bool : CallR X (.builtin "repr") (fun xs H Q => ∃ b, xs = [.bl b] ∧ Q (.str (if b then "True" else "False")) H) := by
  intro pins s σ H xs us Q I r h
  obtain ⟨b, rfl, q⟩ := h
  obtain ⟨u, rfl, hu⟩ := vals1 r
  cases hu
  exact PySem.P.repr_of_bool ⟨.str _, H, I.tok _, ⟨_, rfl⟩, q⟩
end
end OF
namespace OF
open PySem PySem.Spec PyProof.Rows L2
/-- len of a list or tuple -/
abbrev rLenS (K : PySem.W.Frag) : List V → Hp → VK → Prop := fun xs H Q => ∃ p ys, xs = [.ref p] ∧ (SqL K H p ys ∨ SqT K H p ys) ∧ Q (.int ys.length) H
theorem tYes_if {σ : L2.St} {H : Hp} {A B : Hp → Prop} (h : A H) : tYes σ H (fun b H3 => if b = true then A H3 else B H3) := by
  show (if true = true then A H else B H)
  rw [if_pos rfl]
  exact h
/-- both ways of a test lead to the same rest -/
theorem iteDup {c : Bool} {A B R : Prop} (f : R → c = true → A) (g : R → c = false → B) (r : R) : if c = true then A else B := by
  cases c with
  | true => exact iteT (f r rfl)
  | false => exact iteF (g r rfl)
theorem iteAnd {c d : Bool} {A : Prop} {Q : V → Hp → Prop} {H : Hp} (hA : Q (.bl d) H → A) (h : Q (.bl (c && d)) H) : if c = true then A else Q (.bl false) H := by
  cases c with
  | true => exact iteT (hA h)
  | false => exact iteF h
theorem iteOr {c d : Bool} {A : Prop} {Q : V → Hp → Prop} {H : Hp} (hA : Q (.bl d) H → A) (h : Q (.bl (c || d)) H) : if c = true then Q (.bl true) H else A := by
  cases c with
  | true => exact iteT h
  | false => exact iteF (hA h)
/-- an if whose test is known -/
theorem iteTB {c : Bool} {A B : Prop} (e : c = true) (h : A) : if c = true then A else B := by rw [if_pos e]; exact h
theorem iteFB {c : Bool} {A B : Prop} (e : c = false) (h : B) : if c = true then A else B := by rw [if_neg (by rw [e]; exact Bool.false_ne_true)]; exact h
/-- two values that are the same: no difference -/
theorem neSame {x y : V} (h : x = y) : (!decide (x = y)) = false := by rw [decide_eq_true h]; rfl
theorem eqSame {x y : V} (h : x = y) : decide (x = y) = true := decide_eq_true h
theorem seq_past {K : PySem.W.Frag} {H H1 H2 : Hp} {a p : Addr} {xs : List V} (hp : H p = none) (s : Same H H1) (b : But p H1 H2) (h : SqL K H a xs) : SqL K H2 a xs := by
  rcases h with (h | ⟨o, h⟩) | h
  · exact .inl (.inl (b _ _ (ne_of_none h hp) (s _ _ h)))
  · exact .inl (.inr ⟨o, b _ _ (ne_of_none h hp) (s _ _ h)⟩)
  · exact .inr h
/-- an item at a place within -/
theorem pick {xs : List V} {r : Int} (h0 : 0 ≤ r) (h1 : r < xs.length) : ∃ v, atI xs r = some v ∧ v ∈ xs := by
  obtain ⟨k, rfl⟩ := Int.eq_ofNat_of_zero_le h0
  have hk : k < xs.length := by omega
  exact ⟨xs[k], atI_nat (List.getElem?_eq_getElem hk), List.getElem_mem hk⟩
theorem ixN_in {n : Nat} {r : Int} (h0 : 0 ≤ r) (h1 : r < n) : ixN n r = some r.toNat := by
  unfold ixN
  rw [if_pos h0, if_pos h1]
/-- a value of a kind that is no int, or a truth -/
inductive Odd (H : Hp) : V → Prop
  | non : Odd H .non
  | bl (b : Bool) : Odd H (.bl b)
  | str (z : Str) : Odd H (.str z)
  | lst {a : Addr} {xs : List V} (e : H a = some (.lst xs)) : Odd H (.ref a)
  | tup {a : Addr} {xs : List V} (e : H a = some (.tup xs)) : Odd H (.ref a)
  | dK {a : Addr} {kvs : List (Key × V)} (e : H a = some (.dK kvs)) : Odd H (.ref a)
theorem Odd.same {H H' : Hp} {x : V} (h : Odd H x) (s : Same H H') : Odd H' x := by
  cases h with
  | non => exact .non
  | bl b => exact .bl b
  | str z => exact .str z
  | lst e => exact .lst (s _ _ e)
  | tup e => exact .tup (s _ _ e)
  | dK e => exact .dK (s _ _ e)
theorem Odd.kit {K : PySem.W.Frag} {H : Hp} {x : V} (h : Odd H x) : ∃ (t : Value) (b : Bool), TyX K H x t ∧ PySem.W.kitOne K t (.type "int") = some b ∧ (b = true → PySem.W.kitOne K t (.type "bool") = some true) := by
  cases h with
  | non => exact ⟨_, false, .base .non, kit_ty (by decide +kernel), fun z => nomatch z⟩
  | bl b => exact ⟨_, true, .base (.bl b), kit_ty (by decide +kernel), fun _ => kit_ty (by decide +kernel)⟩
  | str z => exact ⟨_, false, .base (.str z), kit_ty (by decide +kernel), fun z => nomatch z⟩
  | lst e => exact ⟨_, false, .base (.lst e), kit_ty (by decide +kernel), fun z => nomatch z⟩
  | tup e => exact ⟨_, false, .base (.tup e), kit_ty (by decide +kernel), fun z => nomatch z⟩
  | dK e => exact ⟨_, false, .base (.dK e), kit_ty (by decide +kernel), fun z => nomatch z⟩
theorem Odd.but {a : Addr} {H H' : Hp} {x : V} (h : Odd H x) (hx : x ≠ .ref a) (t : But a H H') : Odd H' x := by
  cases h with
  | non => exact .non
  | bl b => exact .bl b
  | str z => exact .str z
  | lst e => exact .lst (t _ _ (fun z => hx (congrArg V.ref z)) e)
  | tup e => exact .tup (t _ _ (fun z => hx (congrArg V.ref z)) e)
  | dK e => exact .dK (t _ _ (fun z => hx (congrArg V.ref z)) e)
theorem Same.store {p : Addr} {H H1 : Hp} {o : HO} (x : Same H H1) (hp : H p = none) : Same H (upd H1 p o) := fun b u h => by
  rw [upd_ne (ne_of_none h hp)]; exact x b u h
theorem q_eq {Q : V → Hp → Prop} {H : Hp} {x y : V} (h : x = y) (q : Q (.bl true) H) : Q (.bl (decide (x = y))) H := by
  rw [decide_eq_true h]; exact q
end OF
/-! e.__class__.__name__ of an error that is being made. -/
namespace PySem.W
open PySem PySem.Calls PyProof.Rows PyProof.V PySem.Spec Builtin Builtin.ObjectAttr Builtin.Getset_descriptor
section
variable {prog : Program} {w : World} {A : Around} {E : Value → Shared → Prop} {s : Shared} {K : Frag} {x C : Addr} {ox : Obj} {od : Option Obj} {expr : Bool} {Q : Value → Shared → Prop} {gt : Option Value}
theorem exc_class (X : K.In s.heap) (I : InstAt s.heap x ox C od) (hga : findIn K (.ref C) "__getattribute__" = some (some (.builtin "BaseException.__getattribute__"))) (hgt : findIn K (.ref C) "__getattr__" = some gt)
    (hsub : subIn K (.ref C) (.type "BaseException") = some true) (hf : findObj K C od "__class__" = some (.bind (.builtin "getset_descriptor.__get__") (.builtin "object.__class__"))) (hm : mroIn K C (.type "object") = some true)
    (h : Q (.ref C) { s with toks := s.toks + 1 }) : wpAny (model prog w) A (getAttr (.ref x) "__class__" expr) Q E s := by
  obtain ⟨hp, g, d, t, os⟩ := s
  have L0 := I.type (M := model prog w)
  have L1 := looks_findIn (M := model prog w) X hga
  have L2 := looks_findIn (M := model prog w) X hgt
  have L3 := looks_find (M := model prog w) X I hf
  have sub : Looks (model prog w) hp (isInstance (.ref x) (.type "BaseException")) true := L0.andThen (looks_subIn X hsub)
  have hx0 : (expr && onTheHeap (Value.builtin "BaseException.__getattribute__")) = false := by cases expr <;> rfl
  have hx2 : (Value.builtin "BaseException.__getattribute__" == Value.builtin "object.__getattribute__") = false := by decide +kernel
  have hx1 : (onTheHeap (Value.ref C) && Value.builtin "BaseException.__getattribute__" == Value.builtin "object.__getattribute__") = false := by rw [hx2]; rfl
  unfold getAttr getAttrBy
  refine wpAny_bind (wpAny_mkText (wpAny_holding (wpAny_bind (L0.at (wpAny_bind (L1.at ?_))))))
  show wpAny _ _ (if (onTheHeap (Value.ref C) && Value.builtin "BaseException.__getattribute__" == Value.builtin "object.__getattribute__") = true then _ else _) _ _ _
  rw [hx1, if_neg Bool.false_ne_true]
  unfold getAttrByItsOwn hookBefore
  refine wpAny_bind ?_
  rw [if_pos (show onTheHeap (Value.ref C) = true from rfl)]
  refine L2.at ?_
  refine wpAny_bind (wpAny_attempt (wpAny_holding ?_))
  unfold callGetattribute
  rw [hx0, if_neg Bool.false_ne_true]
  unfold boundAndCalled
  rw [PySem.F.excAttr_ValueError.ga.bind (.ref x)]
  refine wpAny_bind (wpAny_pure ?_)
  show wpAny _ _ (call (.builtin "BaseException.__getattribute__") [.ref x, .str "__class__" t]) _ _ _
  refine wpAny_call (codeAny_call_builtin PySem.F.excAttr_ValueError.ga.plain PySem.F.entry_bexc_ga ?_)
  refine @PySem.W.check_slot (model prog w) _ _ ⟨hp, g, d, t + 1, os⟩ "BaseException.__getattribute__" "BaseException" "__getattribute__" (.ref x) [.str "__class__" t] [] _ (by decide +kernel) (by decide +kernel) sub (PySem.F.args_bexc_ga (.ref x) (.str "__class__" t)) ?_
  unfold Builtin.«object.__getattribute__»
  refine wpAny_bind (wpAny_of_eq (a := ((Value.ref x : Value), [Value.str "__class__" t])) (by first | rfl | (simp only [slotArgs]; rfl)) ?_)
  refine wpAny_bind (wpAny_pure (wpAny_bind (L0.at (wpAny_bind (L3.at ?_)))))
  refine wpAny_bind (wpAny_holding (wpAny_call (class_get (s := ⟨hp, g, d, t + 1, os⟩) (ox := ox) (od := od) X I hm ?_)))
  refine wpAny_pure ?_
  show wpAny _ _ (handedOut (.ref C)) _ _ _
  rw [handedOut_of (show handedIn (.ref C) = true from rfl)]
  first | exact wpAny_pure h | exact wpAny_pure (wpAny_pure h)
theorem cn_dga (d tp : Value) (a : Addr) : descrGetArgs ⟨[d, .ref a, tp], []⟩ = pure (d, some (.ref a), given tp) := by kernel_rfl
theorem cn_get {R : Result → Shared → Prop} {tp v : Value} {o : Obj} (ho : s.heap.get? C = some o) (hc : o.cls = .type "type") (hv : o.slots[2]?.join = some v) (h : R (.ok (.ret v)) s) :
    codeAny (model prog w) A (.call (.builtin "getset_descriptor.__get__") ⟨[.builtin "type.__name__", .ref C, tp], []⟩) R s := by
  obtain ⟨hh, g, dr, t, os⟩ := s
  have L0 : Looks (model prog w) hh (typeOf (.ref C)) (.type "type") := by
    rw [← hc]
    exact (Looks.ld ho).andThen .now
  have L1 : Looks (model prog w) hh (isSubtype (.type "type") (.type "type")) true := Looks.of_pure (by rw [isSubtype_type]; kernel_rfl)
  refine codeAny_call_builtin KF.slot_gs.plain KF.entry_gs (KF.slot_gs.check _ _ _ _ _ _ _ _ ktyn_type (KF.args_gs _ _ _) ?_)
  unfold Builtin.«getset_descriptor.__get__» descrGet
  rw [cn_dga]
  refine wpAny_bind (wpAny_pure ?_)
  unfold descrGetter descrCheckInstance descrNameAndClass isInstance
  simp only [ktyn_owner]
  repeat lk
  refine ⟨Code.quiet_builtin _ (by decide +kernel), codeAny_builtin ktyn_entry ?_⟩
  unfold Builtin.«type.__name__» keptObject slotAt
  dsimp only
  refine wpAny_bind (wpAny_bind (wpAny_loadPart_at ho (wpAny_pure ?_)))
  rw [hv]
  exact wpAny_pure h
theorem cn_attr {v : Value} {o : Obj} (X : K.In s.heap) (ty : typeIn K (.ref C) = some (.type "type")) (st : nsIn K cStatics "thirdparty.any" = some none)
    (e : findCls K (.ref C) (.type "type") "__name__" = some (.get (.builtin "getset_descriptor.__get__") (.builtin "type.__name__") (.ref C) (.type "type"))) (lk : K.lookup C = some o) (hc : o.cls = .type "type") (hv : o.slots[2]?.join = some v) (hh : handedIn v = true)
    (h : Q v { s with toks := s.toks + 1 }) : wpAny (model prog w) A (getAttr (.ref C) "__name__" expr) Q E s := by
  have ho := X _ _ lk
  have L0 : Looks (model prog w) s.heap (typeOf (.ref C)) (.type "type") := by
    rw [← hc]
    exact (Looks.ld ho).andThen .now
  have hg : findIn K (.type "type") "__getattribute__" = some (some (.builtin "type.__getattribute__")) := type_tga
  refine cls_open X (looks_opaque X st) L0 hg (looks_hook X (r := none) (by rfl)) (by show subIn K _ _ = _; rfl) e ?_
  show wpAny _ _ (do ret (← holding [Value.builtin "type.__name__"] (call (.builtin "getset_descriptor.__get__") [.builtin "type.__name__", .ref C, .type "type"]))) _ _ _
  refine wpAny_bind (wpAny_holding (wpAny_call (cn_get (s := { s with toks := s.toks + 1 }) ho hc hv ?_)))
  refine wpAny_pure ?_
  show wpAny _ _ (handedOut v) _ _ _
  rw [handedOut_of hh]
  first | exact wpAny_pure h | exact wpAny_pure (wpAny_pure h)
end
end PySem.W
namespace OF
open PySem PySem.Spec PyProof.Rows L2
/-- what an error class says, so that the name of its class is told -/
structure NamC (K : PySem.W.Frag) (C : Addr) (nm : Str) : Prop where
  xf : XfC K C
  cl : (PySem.W.clsIn K C).isSome = true
  ha : PySem.W.findIn K (.ref C) "__class__" = some (some (.builtin "object.__class__"))
  hn : PySem.W.specialIn K (.builtin "object.__class__") "__get__" = some (some (.builtin "getset_descriptor.__get__"))
  ht : PySem.W.takesIn K (.builtin "object.__class__") = some true
  hm : PySem.W.mroIn K C (.type "object") = some true
  ty : PySem.W.typeIn K (.ref C) = some (.type "type")
  st : PySem.W.nsIn K cStatics "thirdparty.any" = some none
  fc : PySem.W.findCls K (.ref C) (.type "type") "__name__" = some (.get (.builtin "getset_descriptor.__get__") (.builtin "type.__name__") (.ref C) (.type "type"))
  lk : ∃ (o : Obj) (t : Tok), K.lookup C = some o ∧ o.cls = .type "type" ∧ o.slots[2]?.join = some (.str nm t)
  no : PySem.W.findIn K (.ref C) "class_name" = some none
section
variable {X : Cx} {e : Expr} {te : TE} {p1 p2 : Pos}
/-- e.__class__.__name__ -/
def tCname (K : PySem.W.Frag) (te : TE) : TE := fun σ H Q => te σ H fun x H1 => ∃ (a C : Addr) (nm : Str), x = .ref a ∧ H1 a = some (exo a C none) ∧ NamC K C nm ∧ Q (.str nm) H1
theorem pe_cname (he : PE X e te) (hb : attributeBase e "__class__" X.env (eval e X.env) = eval e X.env := by rfl) (hb2 : attributeBase (.Attribute e "__class__" p1) "__name__" X.env (eval (.Attribute e "__class__" p1) X.env) = eval (.Attribute e "__class__" p1) X.env := by rfl) :
    PE X (.Attribute (.Attribute e "__class__" p1) "__name__" p2) (tCname X.K te) := by
  refine ⟨fun pins s σ H Q I h => ?_⟩
  refine attr_of hb2 (attr_of hb (thn (he.run pins s σ H _ I h) fun u s1 hh => ?_))
  obtain ⟨x, H1, I1, rx, a, C, nm, ex, ea, N, q⟩ := hh
  subst ex
  obtain rfl : u = Value.ref a := rx
  obtain ⟨t1, ho⟩ := exo_at I1.hok ea
  have J : PySem.W.InstAt s1.heap a { cls := .ref C, dict := none, data := .fields #[.ref t1, .none, .none, .none, .bool false, .none] } C none := ⟨ho, rfl, rfl, trivial⟩
  refine PySem.W.exc_class I1.kIn J N.xf.ga N.xf.gg N.xf.exC (PySem.W.findObj_dataE N.cl N.ha N.hn N.ht) N.hm ?_
  obtain ⟨o, t, lk, hc, hv⟩ := N.lk
  refine PySem.W.cn_attr (s := { s1 with toks := s1.toks + 1 }) (I1.tok _).kIn N.ty N.st N.fc lk hc hv rfl ?_
  exact ⟨.str nm, H1, (I1.tok _).tok _, ⟨_, rfl⟩, q⟩
end
end OF
/-! The errors of the program: two classes deep, each with an __init__ of its own that calls the one above by its class. -/
namespace OF
open PySem PySem.Spec PyProof.Rows L2

/-! ### C.m(e, ..), m a plain def read off the class -/
section
variable {X : Cx} {CX : CXT} {k : Nat} {C f : Addr} {fd : FuncData} {ps : List Str} {sp : Sp} {E : XK} {x m : Str} {p p1 p2 pos : Pos} {e : Expr} {es : List Expr} {t : TA} {mc : Value}
theorem pe_unb {pl : Sem Bool} (F : FnOk X.prog X.w X.K X.mg X.base CX k f fd ps sp) (hr : Room k X.A) (hg : Gl X x) (hm : X.mg x = some (.ref C)) (r : ClX.CRead X.K C mc) (c : ClX.CVal X.K C mc m (.ref f) (.ref f)) (hk : PySem.W.keepIn X.K (.ref f) = true)
    (hb : Binds X.K fd ps []) (hx : Passes CX X E) (ha : PA X (e :: es) t)
    (hc : eval (.Call (.Attribute (.Name x p1) m p2) (e :: es) [] pos) X.env = (do
      let ov ← eval (.Name x p1) X.env
      standAt p2.atName
      let (f, first) ← holding [ov] (getMethod ov m pl)
      callWith pos f first (backTo pos (starEach (e :: es) X.env)) (backToKw pos (keywordEach [] X.env))) := by rfl)
    (hdb : (x == ("__debug__" : Str)) = false := by decide) (he : starEach (e :: es) X.env = (false, eval e X.env) :: starEach es X.env := by rfl) (hpl : (backTo pos (starEach es X.env)).any (·.1) = false := by rfl) :
    PE X (.Call (.Attribute (.Name x p1) m p2) (e :: es) [] pos) (tCall sp [] E t) := by
  refine ⟨fun pins s σ H Q I h => ?_⟩
  refine PySem.W.methodCall_KW (ld_glob I hg hm ?_ hdb) hc
  refine PySem.W.method_cls I.kIn r.ga (ClX.getcval_ok I r c fun s' I' => ?_)
  show wpAny _ _ (callWith pos (Value.ref f) [] (backTo pos (starEach (e :: es) X.env)) []) _ _ _
  refine PySem.W.callWith_K (h₀ := X.base) I.ok.mod.kin hk (thn (ha.run pos pins s' σ H _ I' h) fun us s1 ⟨vs, H1, I1, r1, q⟩ => ⟨I1.kIn, ?_⟩) he hpl
  exact run_fn F hr hb .nil hx I1 r1 q
end

/-! ### promises of the makers -/
/-- FigureError.__init__: the name of the class is kept -/
def spFig (K : PySem.W.Frag) : Sp := fun vs H Q _ => ∃ (a C : Addr) (v : V) (nm : Str), vs = [.ref a, v] ∧ OexC K C ∧ NamC K C nm ∧ H a = some (exo a C none) ∧ ∀ d, H d = none → d ≠ a → Q .non (upd (upd H d (exd d [("class_name", .str nm)])) a (exo a C (some d)))
/-- X.__init__ of the class at C: one field, and what was kept -/
def spInit (K : PySem.W.Frag) (f : Str) (C : Addr) : Sp := fun vs H Q _ => ∃ (a : Addr) (v : V), vs = [.ref a, v] ∧ H a = some (exo a C none) ∧ ∀ (fs : List (Str × V)) (d : Addr), H d = none → d ≠ a → Q .non (upd (upd H d (exd d ((f, v) :: fs))) a (exo a C (some d)))
theorem upd_swap {H : Hp} {a d : Addr} {x y z : HO} (n : d ≠ a) : upd (upd (upd H d x) a y) d z = upd (upd H d z) a y := by
  funext b
  by_cases h : b = d
  · subst h
    rw [upd_same, upd_ne n, upd_same]
  · rw [upd_ne h]
    by_cases h2 : b = a
    · subst h2
      rw [upd_same, upd_same]
    · rw [upd_ne h2, upd_ne h2, upd_ne h, upd_ne h]
/-- what the top says of FigureError -/
structure FigC (K : PySem.W.Frag) (mg : Str → Option Value) (C f : Addr) : Prop where
  g : mg "FigureError" = some (.ref C)
  rd : ClX.CRead K C (.type "type")
  at_ : PySem.W.findCls K (.ref C) (.type "type") "__init__" = some (.val (.ref f))
  kp : PySem.W.keepIn K (.ref f) = true
theorem FigC.val {K : PySem.W.Frag} {mg : Str → Option Value} {C f : Addr} (T : FigC K mg C f) : ClX.CVal K C (.type "type") "__init__" (.ref f) (.ref f) := ⟨T.at_, rfl⟩
/-- what the top says of an error class below it, its field f, its maker at fI -/
structure ErrC (K : PySem.W.Frag) (mg : Str → Option Value) (x f : Str) (C fI : Addr) : Prop where
  g : mg x = some (.ref C)
  ox : OexC K C
  iC : PySem.W.findIn K (.ref C) "__init__" = some (some (.ref fI))
  tI : PySem.W.typeIn K (.ref fI) = some (.type "function")
  no : PySem.W.findIn K (.ref C) f = some none
  xf : XfC K C
  te : PySem.W.exmOne K (.ref C) (.ref C) = some true
  nam : ∃ nm, NamC K C nm
/-- a raised error of the class at C with its field -/
def Raised (C : Addr) (f : Str) (v : V) (H : Hp) (E : XK) : Prop := ∀ (fs : List (Str × V)) (d : Addr) (H' : Hp), H d = none → Same H H' → H' d = some (.xd ((f, v) :: fs)) → E (.ref C) (some d) H'
theorem raised_ok {C : Addr} {f : Str} {v : V} {H H1 : Hp} {E : XK} (q : Raised C f v H E) (s : Same H H1) {K : PySem.W.Frag} {σ : L2.St} {D : Ends} : 
    ([v].length ≤ 1000 ∧ ∀ a, H1 a = none → spInit K f C (.ref a :: ([v] ++ [])) (upd H1 a (exo a C none))
      (fun v' H2 => v' = .non ∧ ∃ (d : Addr) (fs : List (Str × V)), H2 a = some (exo a C (some d)) ∧ H2 d = some (exd d fs) ∧ H1 d = none ∧ E (.ref C) (some d) (upd (del H2 a) d (.xd fs))) (fun _ _ _ => False)) := by
  refine ⟨(by show 1 ≤ 1000; decide), fun a ha => ⟨a, v, rfl, upd_same, fun fs d hd nda => ⟨rfl, d, (f, v) :: fs, upd_same, ?_, ?_, ?_⟩⟩⟩
  · rw [upd_ne nda]
    exact upd_same
  · rw [upd_ne nda] at hd
    exact hd
  · rw [upd_ne nda] at hd
    refine q fs d _ (s.free hd) (fun b o h => ?_) upd_same
    have h1 := s b o h
    have hba : b ≠ a := ne_of_none h1 ha
    have hbd : b ≠ d := ne_of_none h1 hd
    rw [upd_ne hbd, del_ne hba, upd_ne hba, upd_ne hbd, upd_ne hba]
    exact h1
/-- dict comprehensions over a range -/
theorem dc_range {lo : Int} {n : Nat} {g : TG} {tt : TT} {tk tv : TE} {vs : List Nat} {σ : L2.St} {H1 : Hp} {D : Addr} {Qd : Hp → Prop} (Pv : Nat → Hp → Prop) (h0 : Pv 0 (upd H1 D (.dK [])))
    (hs : ∀ i H, i < n → Pv i H → g (.int (lo + i)) (wipe σ vs) H fun σ2 H2 => wipe σ2 vs = wipe σ vs ∧ tt σ2 H2 fun b H3 =>
      if b = true then tk σ2 H3 fun y H4 => tv σ2 H4 fun z H5 => ∃ kvs k, y = kV k ∧ H5 D = some (.dK kvs) ∧ kvs.length < sizeLine ∧ Pv (i + 1) (upd H5 D (.dK (putK kvs k z))) else Pv (i + 1) H3) (hd : ∀ H, Pv n H → Qd H) :
    ∃ W : Nat → Nat → Hp → Prop, (∃ m, W 0 m (upd H1 D (.dK []))) ∧ ∀ i m H, W i m H →
      ((Itr lo n).stop i H ∧ Qd H) ∨ ((Itr lo n).go i H ∧ ∃ Nx : Hp → Prop, (∀ H', Nx H' → ∃ m', m' < m ∧ W (i + 1) m' H') ∧ ∀ x H', (Itr lo n).yld i H x H' → g x (wipe σ vs) H' fun σ2 H2 => wipe σ2 vs = wipe σ vs ∧ tt σ2 H2 fun b H3 =>
        if b = true then tk σ2 H3 fun y H4 => tv σ2 H4 fun z H5 => ∃ kvs k, y = kV k ∧ H5 D = some (.dK kvs) ∧ kvs.length < sizeLine ∧ Nx (upd H5 D (.dK (putK kvs k z))) else Nx H3) := by
  refine ⟨fun i m H => m = n - i ∧ i ≤ n ∧ Pv i H, ⟨n, by simp, Nat.zero_le _, h0⟩, ?_⟩
  rintro i m H ⟨rfl, hi, p⟩
  by_cases hlt : i < n
  · refine .inr ⟨hlt, Pv (i + 1), fun H' p' => ⟨n - (i + 1), by omega, rfl, hlt, p'⟩, fun x H' y => ?_⟩
    obtain ⟨e, y⟩ := y
    subst e y
    exact hs i _ hlt p
  · have e : i = n := by omega
    subst e
    exact .inl ⟨Nat.le_refl _, hd H p⟩
/-- an error of a class is what an except clause of that class names -/
theorem exm_own {K : PySem.W.Frag} {S : Addr} (h1 : PySem.W.subIn K (.ref S) (.type "BaseException") = some true) (h2 : PySem.W.isClsIn K S = true) (h3 : PySem.W.typeIn K (.ref S) = some (.type "type")) (h4 : PySem.W.subIn K (.ref S) (.ref S) = some true) :
    PySem.W.exmOne K (.ref S) (.ref S) = some true := by
  have h2' : (PySem.W.clsIn K S).isSome = true := h2
  unfold PySem.W.exmOne
  simp only [h1, beq_self_eq_true, if_true]
  unfold PySem.W.kitCls
  simp only [h3, h4, h2', beq_self_eq_true, Bool.and_self, if_true]

/-! ### isinstance(e, C), e the error that the suite holds, with a dict of its own -/
/-- what the class D of the error says, so that it is asked rightly -/
structure AskC (K : PySem.W.Frag) (D : Addr) : Prop where
  cl : (PySem.W.clsIn K D).isSome = true
  xf : XfC K D
  ha : PySem.W.findIn K (.ref D) "__class__" = some (some (.builtin "object.__class__"))
  hn : PySem.W.specialIn K (.builtin "object.__class__") "__get__" = some (some (.builtin "getset_descriptor.__get__"))
  ht : PySem.W.takesIn K (.builtin "object.__class__") = some true
  hm : PySem.W.mroIn K D (.type "object") = some true
def rAsk (K : PySem.W.Frag) (D a : Addr) (cls : Value) (d : Option Addr) : List V → Hp → VK → Prop := fun xs H Q => ∃ (dd : Addr) (fs : List (Str × V)) (c : V) (cv : Value) (b : Bool), cls = .ref D ∧ d = some dd ∧ H dd = some (.xd fs) ∧ xs = [.ref a, c] ∧ (∀ u, RelV c u → u = cv) ∧ PySem.W.kitOne K (.ref D) cv = some b ∧ Q (.bl b) H
theorem call_ask {X : Cx} {a D : Addr} {oe : Obj} {cls : Value} {d : Option Addr} {pn : List (Addr × Obj)} (C : AskC X.K D) (hz : Zc cls d oe) (hf : ∃ vs, oe.data = .fields vs) : CallR (X.suite a ((a, oe) :: pn)) (.builtin "isinstance") (rAsk X.K D a cls d) := by
  intro pins s σ H xs us Q I r h
  obtain ⟨dd, fs, c, cv, b, ec, ed, ea, rfl, hcv, e, q⟩ := h
  obtain ⟨u1, u2, rfl, r1, r2⟩ := vals2 r
  cases r1
  cases hcv _ r2
  subst ec
  subst ed
  obtain ⟨hget, _⟩ := I.pin (a, oe) (List.mem_append_left _ List.mem_cons_self)
  obtain ⟨vs, hv⟩ := hf
  have hx : ObjOk X.prog X.w H s.heap dd (.xd fs) := I.hok dd _ ea
  obtain ⟨mA, hns, _⟩ := hx
  obtain ⟨od, ho, _⟩ := lookIn_ns hns
  have J : PySem.W.InstAt s.heap a oe D (some od) := ⟨hget, hz.1, by unfold PySem.W.notCls; rw [hv] <;> rfl, by rw [hz.2]; exact ho⟩
  exact PySem.W.kia_one (PySem.W.kitx_exc C.cl C.xf.ga C.xf.gg C.xf.exC C.ha C.hn C.ht C.hm) I.kIn J e (fun z => nomatch z) fun tk => ⟨.bl b, H, I.kept (t' := tk) fun _ _ z => z, rfl, q⟩

/-! ### lists of the same things -/
/-- l != l2, two lists of the very same things -/
def rNeSame (K : PySem.W.Frag) : R2 := fun x y H Q => ∃ (l l2 : Addr) (xs : List V), x = .ref l ∧ y = .ref l2 ∧ SqL K H l xs ∧ SqL K H l2 xs ∧ (∀ v ∈ xs, flatB v = true ∨ ∃ a, v = .ref a) ∧ Q (.bl false) H
theorem op_neSame {X : Cx} (hu : X.A.units + 64 < cLine) : OpR X (compareOp .NotEq) (rNeSame X.K) := by
  intro pins s σ H x y v u Q I rx ry h
  obtain ⟨l, l2, xs, rfl, rfl, h1, h2, hs, q⟩ := h
  cases rx
  cases ry
  obtain ⟨us, r1, p1, _⟩ := I.list h1
  obtain ⟨ws, r2, p2, _⟩ := I.list h2
  have n1 := r1.length
  have n2 := r2.length
  have hsz : us.toArray.size = ws.toArray.size := by
    rw [List.size_toArray, List.size_toArray]
    omega
  have key := SeqAt.RcNeAt.lists (A := X.A) (e := fun _ => true) p1.isList p2.isList hsz (by omega) (fun j h1 h2 => ?_)
  · refine key X.prog X.w _ _ ?_
    rw [show ((List.range us.toArray.size).all fun _ => true) = true from List.all_eq_true.mpr fun _ _ => rfl]
    exact ⟨.bl false, H, I, rfl, q⟩
  · have j1 : j < us.length := by simpa using h1
    have jx : j < xs.length := by omega
    obtain ⟨a, ea, ra⟩ := Vals.get r1 (List.getElem?_eq_getElem jx)
    obtain ⟨b, eb, rb⟩ := Vals.get r2 (List.getElem?_eq_getElem jx)
    have e1 : us.toArray[j] = a := by
      have := List.getElem?_eq_getElem j1
      rw [this] at ea
      simpa using Option.some.inj ea
    have e2 : ws.toArray[j] = b := by
      have j2 : j < ws.length := by omega
      have := List.getElem?_eq_getElem j2
      rw [this] at eb
      simpa using Option.some.inj eb
    rw [e1, e2]
    rcases hs _ (List.getElem_mem jx) with hf | ⟨p, hp⟩
    · exact eqAt_same ra rb hf
    · rw [hp] at ra rb
      cases ra
      cases rb
      exact SeqAt.EqAt.same _
/-- isinstance's answer by an own class that is the class itself or above it -/
theorem kit_own {K : PySem.W.Frag} {S C : Addr} (h2 : PySem.W.isClsIn K C = true) (h3 : PySem.W.typeIn K (.ref C) = some (.type "type")) (h4 : PySem.W.subIn K (.ref S) (.ref C) = some true) : PySem.W.kitOne K (.ref S) (.ref C) = some true := by
  have h2' : (PySem.W.clsIn K C).isSome = true := h2
  unfold PySem.W.kitOne
  split
  · rfl
  · unfold PySem.W.kitCls
    simp only [h3, h4, h2', beq_self_eq_true, Bool.and_self, if_true]
end OF
/-! Rows as texts: what read_row makes of a text. -/
namespace OF
open PySem PySem.Spec PyProof.Rows L2 TL
/-- the texts of the digits, with their digits -/
def digL : List (Key × V) := (List.range 19).map fun (i : Nat) => (Sum.inr (Str.ofString (toString ((-9 : Int) + (i : Int)))), V.int ((-9 : Int) + (i : Int)))
theorem digL_put : ∀ i : Nat, i < 19 → putK (digL.take i) (Sum.inr (Str.ofString (toString ((-9 : Int) + (i : Int))))) (V.int ((-9 : Int) + (i : Int))) = digL.take (i + 1) := by decide +kernel
theorem digL_all : digL.take 19 = digL := by decide +kernel
/-- the digit that a word is -/
def digV (w : Str) : Option V := valV digL (Sum.inr w)
/-- the digits that words are -/
def rowOf (ws : List Str) : Option (List V) := if ws.all (fun w => (digV w).isSome) = true then some (ws.map fun w => (digV w).getD .non) else none
/-- the row whose text it is -/
def readV (z : Str) : Option (List V) := if z = Str.ofString "." then some [] else rowOf (Txt.split z (Str.ofString " "))
/-- a value of a kind that is no text -/
inductive NoStr (H : Hp) : V → Prop
  | non : NoStr H .non
  | bl (b : Bool) : NoStr H (.bl b)
  | int (i : Int) : NoStr H (.int i)
  | lst {a : Addr} {xs : List V} (e : H a = some (.lst xs)) : NoStr H (.ref a)
  | tup {a : Addr} {xs : List V} (e : H a = some (.tup xs)) : NoStr H (.ref a)
  | dK {a : Addr} {kvs : List (Key × V)} (e : H a = some (.dK kvs)) : NoStr H (.ref a)
theorem NoStr.kit {K : PySem.W.Frag} {H : Hp} {x : V} (h : NoStr H x) : ∃ t : Value, TyX K H x t ∧ PySem.W.kitOne K t (.type "str") = some false := by
  cases h with
  | non => exact ⟨_, .base .non, kit_ty (by decide +kernel)⟩
  | bl b => exact ⟨_, .base (.bl b), kit_ty (by decide +kernel)⟩
  | int z => exact ⟨_, .base (.int z), kit_ty (by decide +kernel)⟩
  | lst e => exact ⟨_, .base (.lst e), kit_ty (by decide +kernel)⟩
  | tup e => exact ⟨_, .base (.tup e), kit_ty (by decide +kernel)⟩
  | dK e => exact ⟨_, .base (.dK e), kit_ty (by decide +kernel)⟩
theorem NoStr.same {H H' : Hp} {x : V} (h : NoStr H x) (s : Same H H') : NoStr H' x := by
  cases h with
  | non => exact .non
  | bl b => exact .bl b
  | int z => exact .int z
  | lst e => exact .lst (s _ _ e)
  | tup e => exact .tup (s _ _ e)
  | dK e => exact .dK (s _ _ e)
/-- read_row: the row, or an error with the very value -/
def spRead (C : Addr) : Sp := fun vs H Q E => ∃ x : V, vs = [x] ∧
  ((∃ z : Str, x = .str z ∧ z.length ≤ 100000 ∧ (∀ ds, readV z = some ds → ∀ p H', H p = none → Same H H' → H' p = some (.tup ds) → Q (.ref p) H') ∧ (readV z = none → Raised C "text" (.str z) H E)) ∨
    (NoStr H x ∧ Raised C "text" x H E))
theorem take_more {α : Type} : ∀ {l : List α} {i : Nat} {x : α}, l[i]? = some x → l.take (i + 1) = l.take i ++ [x]
  | [], i, x, h => by simp at h
  | a :: l, 0, x, h => by
    have e : a = x := Option.some.inj h
    subst e
    rfl
  | a :: l, i + 1, x, h => by
    have ih := take_more (l := l) (i := i) (x := x) h
    show a :: l.take (i + 1) = a :: l.take i ++ [x]
    rw [ih]
    rfl
theorem get_map {α β : Type} {f : α → β} {l : List α} {i : Nat} {y : β} (h : (l.map f)[i]? = some y) : ∃ x, l[i]? = some x ∧ y = f x := by
  rw [List.getElem?_map] at h
  cases e : l[i]? with
  | none => rw [e] at h; cases h
  | some x => rw [e] at h; exact ⟨x, rfl, (Option.some.inj h).symm⟩
theorem log_le {n : Int} (h : n.natAbs ≤ 1000) : n.natAbs.log2 < 1920 := Nat.lt_of_le_of_lt (Nat.log2_le_self _) (by omega)
theorem vals_signs : ∀ (L : List Nat) (l : List Value), l.length = L.length → (∀ (j : Nat) (v : Value), l[j]? = some v → ∃ (c : Nat) (u : Tok), L[j]? = some c ∧ v = Value.str ⟨#[c]⟩ u) → Vals (L.map fun c => V.str ⟨#[c]⟩) l
  | [], [], _, _ => .nil
  | c :: L, v :: l, hl, h => by
    obtain ⟨c', u, e1, e2⟩ := h 0 v rfl
    cases (show c = c' from Option.some.inj e1)
    exact .cons ⟨u, e2⟩ (vals_signs L l (Nat.succ.inj hl) fun j w hw => h (j + 1) w hw)
/-- list(text) -/
theorem call_list_signs {X : Cx} (hc : X.calm = true) : CallR X (.type "list") (fun xs H Q => ∃ z : Str, xs = [.str z] ∧ z.length ≤ sizeLine ∧ ∀ l, H l = none → Q (.ref l) (upd H l (.lst ((tl z).map fun c => V.str ⟨#[c]⟩)))) := by
  intro pins s σ H xs us Q I r h
  obtain ⟨z, rfl, hz, q⟩ := h
  obtain ⟨u, rfl, t, rfl⟩ := vals1 r
  refine PySem.call_list_str (I.ok.hd hc) z t (fun h' tk acc' c' hk hS' hacc => ?_) (by exact hz)
  have hl : acc'.toList.length = (tl z).length := by
    rw [Array.length_toList, hacc.1]
    rfl
  refine ⟨.ref s.heap.objs.size, _, I.laid (t' := tk) hk (Nat.le_refl _) (show ObjOk X.prog X.w _ h' _ (.lst ((tl z).map fun c => V.str ⟨#[c]⟩)) from ⟨?_, acc'.toList, c', ?_, ?_⟩), rfl, q _ (I.hok.fresh (Nat.le_refl _))⟩
  · rw [List.length_map, ← len_tl]
    exact hz
  · refine vals_signs _ _ hl fun j v hv => ?_
    obtain ⟨c, u, e1, e2⟩ := hacc.2 j v (by rw [← Array.getElem?_toList]; exact hv)
    exact ⟨c, u, by rw [Array.getElem?_toList]; exact e1, e2⟩
  · rw [Array.toArray_toList]
    exact hS'

/-! ### a word as the law reads it -/
def sgB (w : Str) : Bool := decide (V.str (cutS w none (some 1)) = V.str (Str.ofString "-"))
def sgI (w : Str) : Int := if sgB w then 1 else 0
def restS (w : Str) : Str := cutS w (some (sgI w)) none
def figs : List V := (tl (Str.ofString "0123456789")).map fun c => V.str ⟨#[c]⟩
def figVal (w : Str) : Int := Txt.find (Str.ofString "0123456789") (restS w) * (1 - 2 * sgI w)
theorem digV_is {w : Str} {v : V} (h : digV w = some v) : ∃ i : Nat, i < 19 ∧ w = Str.ofString (toString ((-9 : Int) + (i : Int))) ∧ v = V.int ((-9 : Int) + (i : Int)) := by
  unfold digV valV digL at h
  rw [List.find?_map] at h
  cases e : List.find? ((fun kv : Key × V => decide (kv.1 = Sum.inr w)) ∘ fun (i : Nat) => ((Sum.inr (Str.ofString (toString ((-9 : Int) + (i : Int)))), V.int ((-9 : Int) + (i : Int))) : Key × V)) (List.range 19) with
  | none => rw [e] at h; cases h
  | some i =>
    rw [e] at h
    have p := List.find?_some e
    have m := List.mem_of_find?_eq_some e
    refine ⟨i, List.mem_range.mp m, ?_, (Option.some.inj h).symm⟩
    exact (Sum.inr.inj (of_decide_eq_true p)).symm
theorem digs_ok : ∀ i : Nat, i < 19 → inV (.str (restS (Str.ofString (toString ((-9 : Int) + (i : Int)))))) figs = true ∧ decide (V.str (Str.ofString (toString ((-9 : Int) + (i : Int)))) = V.str (Str.ofString "-0")) = false ∧
    figVal (Str.ofString (toString ((-9 : Int) + (i : Int)))) = (-9 : Int) + (i : Int) := by decide +kernel
theorem word_some {w : Str} {v : V} (h : digV w = some v) : inV (.str (restS w)) figs = true ∧ decide (V.str w = V.str (Str.ofString "-0")) = false ∧ v = V.int (figVal w) := by
  obtain ⟨i, hi, rfl, rfl⟩ := digV_is h
  obtain ⟨h1, h2, h3⟩ := digs_ok i hi
  exact ⟨h1, h2, by rw [h3]⟩
theorem figs_words : ∀ c ∈ tl (Str.ofString "0123456789"), (digV ⟨#[c]⟩).isSome = true ∧ ((digV (⟨(45 :: [c]).toArray⟩ : Str)).isSome = true ∨ (⟨(45 :: [c]).toArray⟩ : Str) = Str.ofString "-0") := by decide +kernel
theorem cut_rest {w : Str} (h : sgB w = true) : tl w = 45 :: tl (cutS w (some 1) none) := by
  have e : cutS w none (some 1) = Str.ofString "-" := V.str.inj (of_decide_eq_true h)
  have e2 : tl (cutS w none (some 1)) = [45] := by rw [e]; decide +kernel
  have hL : ∀ lo hi, tl (cutS w lo hi) = ((tl w).drop (HT.sIx w.length 0 lo)).take (HT.sIx w.length w.length hi - HT.sIx w.length 0 lo) := fun lo hi => by
    unfold cutS
    exact List.toList_toArray ..
  rw [hL] at e2 ⊢
  rw [HT.sIx_none, show HT.sIx w.length w.length (some 1) = min 1 w.length from HT.sIx_nat w.length w.length 1] at e2
  rw [HT.sIx_none, show HT.sIx w.length 0 (some 1) = min 1 w.length from HT.sIx_nat w.length 0 1]
  have el := len_tl w
  cases hw : tl w with
  | nil => rw [hw] at e2; simp at e2
  | cons a r =>
    rw [hw] at e2 el
    have : min 1 w.length = 1 := by rw [el, List.length_cons]; omega
    rw [this] at e2 ⊢
    have ea : a = 45 := by simpa using e2
    rw [ea, el]
    simp
theorem cut_all {w : Str} (h : sgB w = false) : restS w = w := by
  unfold restS sgI
  rw [h]
  unfold cutS
  rw [show HT.sIx w.length 0 (some (if false = true then (1 : Int) else 0)) = min 0 w.length from HT.sIx_nat w.length 0 0, HT.sIx_none, Nat.zero_min, List.drop_zero, Nat.sub_zero]
  rw [List.take_of_length_le (by rw [← len_tl]; exact Nat.le_refl _)]
theorem word_none {w : Str} (h : digV w = none) : inV (.str (restS w)) figs = false ∨ decide (V.str w = V.str (Str.ofString "-0")) = true := by
  cases hi : inV (.str (restS w)) figs with
  | false => exact .inl rfl
  | true =>
    right
    unfold inV figs at hi
    obtain ⟨y, hy, e⟩ := List.any_eq_true.mp hi
    obtain ⟨c, hc, rfl⟩ := List.mem_map.mp hy
    have er : restS w = ⟨#[c]⟩ := by
      have : (⟨#[c]⟩ : Str) = restS w := by simpa [eqV] using e
      exact this.symm
    obtain ⟨h1, h2⟩ := figs_words c hc
    cases hs : sgB w with
    | false =>
      rw [cut_all hs] at er
      rw [er] at h
      rw [h] at h1
      cases h1
    | true =>
      have e1 := cut_rest hs
      have e3 : restS w = cutS w (some 1) none := by
        unfold restS sgI
        rw [hs]
        rfl
      have ew : w = (⟨(45 :: [c]).toArray⟩ : Str) := by
        rw [← mk_tl w, e1, ← e3, er]
      rcases h2 with h2 | h2
      · rw [← ew, h] at h2
        cases h2
      · exact decide_eq_true (congrArg V.str (ew.trans h2))

/-! ### texts of few and plain signs -/
def TOk (n : Nat) (z : Str) : Prop := (tl z).length ≤ n ∧ ∀ c ∈ tl z, c < 1114112
theorem TOk.mono {n m : Nat} {z : Str} (h : TOk n z) (hm : n ≤ m) : TOk m z := ⟨Nat.le_trans h.1 hm, h.2⟩
theorem TOk.len {n : Nat} {z : Str} (h : TOk n z) : z.length ≤ n := by rw [len_tl]; exact h.1
theorem TOk.ok {n : Nat} {z : Str} (h : TOk n z) : PyData.strOk z = true := by
  unfold PyData.strOk
  rw [Array.all_eq_true']
  intro c hc
  exact decide_eq_true (h.2 c (by show c ∈ z.cps.toList; exact Array.mem_toList_iff.mpr hc))
theorem tl_cut (w : Str) (lo hi : Option Int) : tl (cutS w lo hi) = ((tl w).drop (HT.sIx w.length 0 lo)).take (HT.sIx w.length w.length hi - HT.sIx w.length 0 lo) := by
  unfold cutS
  exact List.toList_toArray ..
theorem TOk.cut {n : Nat} {z : Str} (h : TOk n z) (lo hi : Option Int) : TOk n (cutS z lo hi) := by
  unfold TOk
  rw [tl_cut]
  refine ⟨?_, fun c hc => h.2 c (List.mem_of_mem_drop (List.mem_of_mem_take hc))⟩
  refine Nat.le_trans (List.length_take_le' _ _) ?_
  rw [List.length_drop]
  exact Nat.le_trans (Nat.sub_le _ _) h.1
theorem TOk.app {n m : Nat} {x y : Str} (h : TOk n x) (k : TOk m y) : TOk (n + m) (x ++ y) := by
  unfold TOk
  rw [tl_append, List.length_append]
  refine ⟨Nat.add_le_add h.1 k.1, fun c hc => ?_⟩
  rcases List.mem_append.mp hc with hc | hc
  · exact h.2 c hc
  · exact k.2 c hc
theorem in_join {S : List Nat} : ∀ {ps : List (List Nat)} {p : List Nat}, p ∈ ps → p.length ≤ (joinL S ps).length ∧ ∀ c ∈ p, c ∈ joinL S ps
  | [q], p, h => by
    cases List.mem_singleton.mp h
    exact ⟨Nat.le_refl _, fun c hc => hc⟩
  | q :: r :: ps, p, h => by
    have e : joinL S (q :: r :: ps) = q ++ (S ++ joinL S (r :: ps)) := rfl
    rw [e]
    rcases List.mem_cons.mp h with h | h
    · rw [h]
      refine ⟨?_, fun c hc => List.mem_append_left _ hc⟩
      rw [List.length_append]
      omega
    · obtain ⟨h1, h2⟩ := in_join (S := S) h
      refine ⟨?_, fun c hc => List.mem_append_right _ (List.mem_append_right _ (h2 c hc))⟩
      rw [List.length_append, List.length_append]
      omega
theorem join_in {S : List Nat} {P : Nat → Prop} (hS : ∀ c ∈ S, P c) : ∀ {ps : List (List Nat)} {n : Nat}, (∀ p ∈ ps, p.length ≤ n ∧ ∀ c ∈ p, P c) → (joinL S ps).length ≤ ps.length * (n + S.length) ∧ ∀ c ∈ joinL S ps, P c
  | [], n, _ => ⟨Nat.zero_le _, fun c hc => by cases hc⟩
  | [q], n, h => by
    obtain ⟨h1, h2⟩ := h q (List.mem_singleton.mpr rfl)
    refine ⟨?_, h2⟩
    show q.length ≤ 1 * (n + S.length)
    omega
  | q :: r :: ps, n, h => by
    obtain ⟨h1, h2⟩ := h q (List.mem_cons_self ..)
    obtain ⟨h3, h4⟩ := join_in hS (ps := r :: ps) (n := n) fun p hp => h p (List.mem_cons_of_mem _ hp)
    have e : joinL S (q :: r :: ps) = q ++ (S ++ joinL S (r :: ps)) := rfl
    rw [e]
    refine ⟨?_, fun c hc => ?_⟩
    · rw [List.length_append, List.length_append, List.length_cons, Nat.succ_mul]
      omega
    · rcases List.mem_append.mp hc with hc | hc
      · exact h2 c hc
      · rcases List.mem_append.mp hc with hc | hc
        · exact hS c hc
        · exact h4 c hc
theorem TOk.parts {n : Nat} {z y : Str} (h : TOk n z) : ∀ w ∈ Txt.split z y, TOk n w := fun w hw => by
  have e := StrLaws.join_split z y
  have e2 := tl_join y (Txt.split z y)
  rw [e] at e2
  obtain ⟨h1, h2⟩ := in_join (S := tl y) (ps := (Txt.split z y).map tl) (List.mem_map.mpr ⟨w, hw, rfl⟩)
  rw [← e2] at h1 h2
  exact ⟨Nat.le_trans h1 h.1, fun c hc => h.2 c (h2 c hc)⟩
theorem TOk.join {n m : Nat} {y : Str} {ps : List Str} (hy : TOk m y) (h : ∀ p ∈ ps, TOk n p) : TOk (ps.length * (n + m)) (Txt.join y ps) := by
  rw [TL.join_eq]
  unfold TOk
  rw [tl_join]
  obtain ⟨h1, h2⟩ := join_in (S := tl y) (P := fun c => c < 1114112) hy.2 (ps := ps.map tl) (n := n) fun p hp => by
    obtain ⟨w, hw, rfl⟩ := List.mem_map.mp hp
    exact h w hw
  refine ⟨Nat.le_trans h1 ?_, h2⟩
  rw [List.length_map]
  exact Nat.mul_le_mul_left _ (Nat.add_le_add_left hy.1 _)
theorem sum_len {n : Nat} : ∀ {ps : List Str}, (∀ p ∈ ps, TOk n p) → (ps.map (·.length)).sum ≤ ps.length * n
  | [], _ => Nat.zero_le _
  | p :: ps, h => by
    have h1 := (h p (List.mem_cons_self ..)).len
    have h2 := sum_len (ps := ps) fun q hq => h q (List.mem_cons_of_mem _ hq)
    rw [List.map_cons, List.sum_cons, List.length_cons, Nat.succ_mul]
    omega
theorem join_pos {y : Str} {ps : List Str} {p : Str} (hp : p ∈ ps) (h : 1 ≤ p.length) : 1 ≤ (Txt.join y ps).length := by
  rw [TL.join_eq, len_tl, tl_join]
  have h1 := (in_join (S := tl y) (ps := ps.map tl) (List.mem_map.mpr ⟨p, hp, rfl⟩)).1
  rw [← len_tl] at h1
  omega
instance (n : Nat) (z : Str) : Decidable (TOk n z) := inferInstanceAs (Decidable (_ ∧ _))
theorem digit_texts : ∀ i : Nat, i < 19 → TOk 2 (Str.ofString (toString ((-9 : Int) + (i : Int)))) ∧ 1 ≤ (Str.ofString (toString ((-9 : Int) + (i : Int)))).length := by decide +kernel
/-- text data that may be compared -/
theorem shaped_str {z : Str} (h : PyData.strOk z = true) : SeqAt.shaped (.str z) = true := by
  unfold SeqAt.shaped
  rw [show PyData.canLay0 (.str z) = PyData.strOk z by simp only [PyData.canLay0], h]
  rfl

/-! ### data that may be compared -/
theorem dp_ints {K : PySem.W.Frag} {H : Hp} : ∀ is : List Int, DpAll K H (is.map V.int) (is.map PyData.int)
  | [] => .nil
  | i :: is => .cons (.int i) (dp_ints is)
theorem can_ints : ∀ is : List Int, PyData.canLayAll0 (is.map PyData.int) = true
  | [] => by simp only [List.map_nil, PyData.canLayAll0]
  | i :: is => by
    rw [List.map_cons, PyData.canLayAll0, can_ints is]
    simp only [PyData.canLay0, Bool.and_true]
theorem dep_ints : ∀ is : List Int, PyData.depthAll (is.map PyData.int) = 0
  | [] => by simp only [List.map_nil, PyData.depthAll]
  | i :: is => by
    rw [List.map_cons, PyData.depthAll, dep_ints is]
    simp only [PyData.depth, Nat.max_self]
theorem shaped_of {d : PyData} (h : d.canLay0 = true) (k : d.depth ≤ 64) : SeqAt.shaped d = true := by
  unfold SeqAt.shaped
  rw [h, decide_eq_true k]
  rfl
theorem can_pair {z : Str} {d : PyData} (hz : PyData.strOk z = true) (hd : d.canLay0 = true) : (PyData.list [.str z, d]).canLay0 = true := by
  simp only [PyData.canLay0, PyData.canLayAll0, hz, hd, Bool.and_true]
theorem dep_pair {z : Str} {d : PyData} {n : Nat} (hd : d.depth ≤ n) : (PyData.list [.str z, d]).depth ≤ n + 1 := by
  simp only [PyData.depth, PyData.depthAll]
  omega
/-- the item's own data: what stands at it reads so, whatever is made later -/
structure DatOf (K : PySem.W.Frag) (H : Hp) (x : V) (d : PyData) : Prop where
  dp : ∀ H', Same H H' → Dp K H' x d
  can : d.canLay0 = true
  dep : d.depth ≤ 10
theorem DatOf.same {K : PySem.W.Frag} {H H1 : Hp} {x : V} {d : PyData} (h : DatOf K H x d) (s : Same H H1) : DatOf K H1 x d := ⟨fun H' s' => h.dp H' (s.trans s'), h.can, h.dep⟩
theorem DatOf.str {K : PySem.W.Frag} {H : Hp} {z : Str} (hz : PyData.strOk z = true) : DatOf K H (.str z) (.str z) := ⟨fun _ _ => .str z, by simp only [PyData.canLay0, hz], by simp only [PyData.depth]; omega⟩
theorem DatOf.non {K : PySem.W.Frag} {H : Hp} : DatOf K H .non .none := ⟨fun _ _ => .non, by simp only [PyData.canLay0], by simp only [PyData.depth]; omega⟩
theorem DatOf.bl {K : PySem.W.Frag} {H : Hp} {b : Bool} : DatOf K H (.bl b) (.bool b) := ⟨fun _ _ => .bl b, by simp only [PyData.canLay0], by simp only [PyData.depth]; omega⟩
theorem DatOf.int {K : PySem.W.Frag} {H : Hp} {i : Int} : DatOf K H (.int i) (.int i) := ⟨fun _ _ => .int i, by simp only [PyData.canLay0], by simp only [PyData.depth]; omega⟩
theorem DatOf.tup {K : PySem.W.Frag} {H : Hp} {p : Addr} {is : List Int} (e : H p = some (.tup (is.map V.int))) : DatOf K H (.ref p) (.tuple (is.map PyData.int)) :=
  ⟨fun _ s => .tup (SqT.of (s _ _ e)) (dp_ints is), by simp only [PyData.canLay0, can_ints], by simp only [PyData.depth, dep_ints]; omega⟩
theorem DatOf.lst1 {K : PySem.W.Frag} {H : Hp} {p : Addr} {z : Str} (hz : PyData.strOk z = true) (e : H p = some (.lst [.str z])) : DatOf K H (.ref p) (.list [.str z]) :=
  ⟨fun _ s => .lst (SqL.of (s _ _ e)) (.cons (.str z) .nil), by simp only [PyData.canLay0, PyData.canLayAll0, hz, Bool.and_true], by simp only [PyData.depth, PyData.depthAll]; omega⟩
/-- two lists of a word and the same thing: equal -/
theorem pair_eqv {z : Str} {d : PyData} (hz : PyData.strOk z = true) (hd : d.canLay0 = true) : PyData.eqv (.list [.str z, d]) (.list [.str z, d]) = true := SeqAt.eqv_refl _ (can_pair hz hd)
theorem pair_ne {K : PySem.W.Frag} {H : Hp} {l l2 : Addr} {z : Str} {x y : V} {d : PyData} {Q : V → Hp → Prop} (hz : PyData.strOk z = true) (e1 : H l = some (.lst [.str z, x])) (e2 : H l2 = some (.lst [.str z, y])) (h1 : Dp K H x d) (h2 : Dp K H y d) (hc : d.canLay0 = true) (hd : d.depth ≤ 10)
    (q : Q (.bl false) H) : rNeD K (.ref l) (.ref l2) H Q := by
  have sh := shaped_of (can_pair hz hc) (Nat.le_trans (dep_pair hd) (by decide))
  refine ⟨_, _, Dp.lst (SqL.of e1) (.cons (.str z) (.cons h1 .nil)), Dp.lst (SqL.of e2) (.cons (.str z) (.cons h2 .nil)), sh, sh, ?_⟩
  rw [pair_eqv hz hc]
  exact q
theorem pair_eq {K : PySem.W.Frag} {H : Hp} {l l2 : Addr} {z : Str} {x y : V} {d : PyData} {Q : V → Hp → Prop} (hz : PyData.strOk z = true) (e1 : H l = some (.lst [.str z, x])) (e2 : H l2 = some (.lst [.str z, y])) (h1 : Dp K H x d) (h2 : Dp K H y d) (hc : d.canLay0 = true) (hd : d.depth ≤ 10)
    (q : Q (.bl true) H) : rEqD K (.ref l) (.ref l2) H Q := by
  have sh := shaped_of (can_pair hz hc) (Nat.le_trans (dep_pair hd) (by decide))
  refine ⟨_, _, Dp.lst (SqL.of e1) (.cons (.str z) (.cons h1 .nil)), Dp.lst (SqL.of e2) (.cons (.str z) (.cons h2 .nil)), sh, sh, ?_⟩
  rw [pair_eqv hz hc]
  exact q
/-- the digits of a text are ints -/
theorem readV_ints {z : Str} {ds : List V} (h : readV z = some ds) : ∃ is : List Int, ds = is.map V.int := by
  unfold readV at h
  split at h
  · cases Option.some.inj h
    exact ⟨[], rfl⟩
  · unfold rowOf at h
    split at h
    · rename_i hall
      have e := Option.some.inj h
      refine ⟨(Txt.split z (Str.ofString " ")).map fun w => match digV w with | some (.int i) => i | _ => 0, ?_⟩
      rw [← e, List.map_map]
      refine List.map_congr_left fun w hw => ?_
      have hs := List.all_eq_true.mp hall w hw
      obtain ⟨v, hv⟩ := Option.isSome_iff_exists.mp hs
      obtain ⟨i, _, _, rfl⟩ := digV_is hv
      simp only [Function.comp, hv, Option.getD_some]
    · cases h
theorem read_empty : readV (Str.ofString "") = none := by decide +kernel
theorem read_dot : readV (Str.ofString ".") = some [] := by decide +kernel
/-- two ways, heaps behind them of their own, one rest -/
theorem iteDupH {c : Bool} {A B : Prop} {G : Hp} {S : Hp → Prop} (f : (∀ H', Same G H' → S H') → c = true → A) (g : (∀ H', Same G H' → S H') → c = false → B) (r : ∀ H', Same G H' → S H') : if c = true then A else B := by
  cases c with
  | true => exact iteT (f r rfl)
  | false => exact iteF (g r rfl)

/-! ### rows as texts -/
/-- a value of a kind that is no tuple -/
inductive NoTup (H : Hp) : V → Prop
  | non : NoTup H .non
  | bl (b : Bool) : NoTup H (.bl b)
  | int (i : Int) : NoTup H (.int i)
  | str (z : Str) : NoTup H (.str z)
  | lst {a : Addr} {xs : List V} (e : H a = some (.lst xs)) : NoTup H (.ref a)
  | dK {a : Addr} {kvs : List (Key × V)} (e : H a = some (.dK kvs)) : NoTup H (.ref a)
theorem NoTup.kit {K : PySem.W.Frag} {H : Hp} {x : V} (h : NoTup H x) : ∃ t : Value, TyX K H x t ∧ PySem.W.kitOne K t (.type "tuple") = some false := by
  cases h with
  | non => exact ⟨_, .base .non, kit_ty (by decide +kernel)⟩
  | bl b => exact ⟨_, .base (.bl b), kit_ty (by decide +kernel)⟩
  | int z => exact ⟨_, .base (.int z), kit_ty (by decide +kernel)⟩
  | str z => exact ⟨_, .base (.str z), kit_ty (by decide +kernel)⟩
  | lst e => exact ⟨_, .base (.lst e), kit_ty (by decide +kernel)⟩
  | dK e => exact ⟨_, .base (.dK e), kit_ty (by decide +kernel)⟩
theorem NoTup.same {H H' : Hp} {x : V} (h : NoTup H x) (s : Same H H') : NoTup H' x := by
  cases h with
  | non => exact .non
  | bl b => exact .bl b
  | int z => exact .int z
  | str z => exact .str z
  | lst e => exact .lst (s _ _ e)
  | dK e => exact .dK (s _ _ e)
/-- an int, or a value of another kind -/
def IntOdd (H : Hp) (x : V) : Prop := (∃ n : Int, x = .int n) ∨ Odd H x
theorem IntOdd.same {H H' : Hp} {x : V} (h : IntOdd H x) (s : Same H H') : IntOdd H' x := by
  rcases h with h | h
  · exact .inl h
  · exact .inr (h.same s)
def digI (n : Int) : Bool := decide (-9 ≤ n) && decide (n ≤ 9)
/-- a digit -/
def digB : V → Bool
  | .int n => digI n
  | _ => false
theorem digB_odd {H : Hp} {x : V} (h : Odd H x) : digB x = false := by cases h <;> rfl
theorem digs_ints : ∀ {xs : List V}, xs.all digB = true → ∃ is : List Int, xs = is.map V.int ∧ ∀ i ∈ is, -9 ≤ i ∧ i ≤ 9
  | [], _ => ⟨[], rfl, fun i h => by cases h⟩
  | x :: xs, h => by
    rw [List.all_cons, Bool.and_eq_true] at h
    obtain ⟨is, e, k⟩ := digs_ints h.2
    cases x with
    | int n =>
      have h1 : digI n = true := h.1
      unfold digI at h1
      rw [Bool.and_eq_true, decide_eq_true_eq, decide_eq_true_eq] at h1
      refine ⟨n :: is, by rw [e]; rfl, fun i hi => ?_⟩
      rcases List.mem_cons.mp hi with hi | hi
      · rw [hi]; exact h1
      · exact k i hi
    | non => exact absurd h.1 Bool.false_ne_true
    | bl b => exact absurd h.1 Bool.false_ne_true
    | str z => exact absurd h.1 Bool.false_ne_true
    | byt z => exact absurd h.1 Bool.false_ne_true
    | flt z => exact absurd h.1 Bool.false_ne_true
    | ref a => exact absurd h.1 Bool.false_ne_true
    | ty n => exact absurd h.1 Bool.false_ne_true
theorem ints_digs {is : List Int} (h : ∀ i ∈ is, -9 ≤ i ∧ i ≤ 9) : (is.map V.int).all digB = true := by
  rw [List.all_map]
  refine List.all_eq_true.mpr fun i hi => ?_
  obtain ⟨h1, h2⟩ := h i hi
  show digI i = true
  unfold digI
  rw [decide_eq_true h1, decide_eq_true h2]
  rfl
/-- the text of a digit -/
def strI (i : Int) : Str := Str.ofString (toString i)
theorem strI_ok {i : Int} (h : -9 ≤ i ∧ i ≤ 9) : TOk 2 (strI i) ∧ 1 ≤ (strI i).length := by
  obtain ⟨h1, h2⟩ := h
  have e : i = (-9 : Int) + (((i + 9).toNat : Nat) : Int) := by omega
  have := digit_texts (i + 9).toNat (by omega)
  rw [← e] at this
  exact this
theorem digV_all : ∀ k : Nat, k < 19 → digV (Str.ofString (toString ((-9 : Int) + (k : Int)))) = some (V.int ((-9 : Int) + (k : Int))) ∧ (32 : Nat) ∉ tl (Str.ofString (toString ((-9 : Int) + (k : Int)))) ∧ Str.ofString (toString ((-9 : Int) + (k : Int))) ≠ Str.ofString "." ∧ (46 : Nat) ∉ tl (Str.ofString (toString ((-9 : Int) + (k : Int)))) := by decide +kernel
theorem digV_of {i : Int} (h : -9 ≤ i ∧ i ≤ 9) : digV (strI i) = some (V.int i) ∧ (32 : Nat) ∉ tl (strI i) ∧ (46 : Nat) ∉ tl (strI i) := by
  obtain ⟨h1, h2⟩ := h
  have e : i = (-9 : Int) + (((i + 9).toNat : Nat) : Int) := by omega
  obtain ⟨k1, k2, _, k4⟩ := digV_all (i + 9).toNat (by omega)
  rw [← e] at k1 k2 k4
  exact ⟨k1, k2, k4⟩
/-- the text of a row -/
def textOf (is : List Int) : Str := if is = [] then Str.ofString "." else Txt.join (Str.ofString " ") (is.map strI)
theorem textOf_ok {is : List Int} (h : ∀ i ∈ is, -9 ≤ i ∧ i ≤ 9) (hl : is.length ≤ 200) : TOk 600 (textOf is) := by
  unfold textOf
  split
  · decide +kernel
  · refine (TOk.join blankOk (n := 2) fun p hp => ?_).mono ?_
    · obtain ⟨i, hi, rfl⟩ := List.mem_map.mp hp
      exact (strI_ok (h i hi)).1
    · rw [List.length_map]
      omega
where blankOk : TOk 1 (Str.ofString " ") := by decide +kernel
theorem not_dot {is : List Int} (h : ∀ i ∈ is, -9 ≤ i ∧ i ≤ 9) (hn : is ≠ []) : Txt.join (Str.ofString " ") (is.map strI) ≠ Str.ofString "." := fun e => by
  cases is with
  | nil => exact hn rfl
  | cons i r =>
    have hp : strI i ∈ (i :: r).map strI := List.mem_map.mpr ⟨i, List.mem_cons_self .., rfl⟩
    have hi := h i (List.mem_cons_self ..)
    have h2 := (in_join (S := tl (Str.ofString " ")) (ps := ((i :: r).map strI).map tl) (List.mem_map.mpr ⟨_, hp, rfl⟩)).2
    have e2 := congrArg tl e
    rw [TL.join_eq, tl_join] at e2
    rw [e2] at h2
    have hpos := (strI_ok hi).2
    rw [len_tl] at hpos
    cases hs : tl (strI i) with
    | nil => rw [hs] at hpos; exact absurd hpos (by decide)
    | cons c cs =>
      have hc := h2 c (by rw [hs]; exact List.mem_cons_self ..)
      have : c = 46 := by
        have e3 : tl (Str.ofString ".") = [46] := by decide +kernel
        rw [e3] at hc
        exact List.mem_singleton.mp hc
      exact (digV_of hi).2.2 (by rw [hs, this]; exact List.mem_cons_self ..)
/-- a row's text is read as the row -/
theorem read_text {is : List Int} (h : ∀ i ∈ is, -9 ≤ i ∧ i ≤ 9) : readV (textOf is) = some (is.map V.int) := by
  unfold textOf
  by_cases hn : is = []
  · rw [if_pos hn, hn]
    exact read_dot
  · rw [if_neg hn]
    unfold readV
    rw [if_neg (not_dot h hn)]
    have e : Txt.split (Txt.join (Str.ofString " ") (is.map strI)) (Str.ofString " ") = is.map strI := by
      refine TL.split_join (s := 32) (S := []) (by decide +kernel) (by decide +kernel) (fun z => hn (List.map_eq_nil_iff.mp z)) fun p hp => ?_
      obtain ⟨i, hi, rfl⟩ := List.mem_map.mp hp
      exact (digV_of (h i hi)).2.1
    rw [e]
    unfold rowOf
    rw [if_pos]
    · rw [List.map_map]
      congr 1
      refine List.map_congr_left fun i hi => ?_
      show (digV (strI i)).getD .non = V.int i
      rw [(digV_of (h i hi)).1]
      rfl
    · rw [List.all_map]
      refine List.all_eq_true.mpr fun i hi => ?_
      show (digV (strI i)).isSome = true
      rw [(digV_of (h i hi)).1]
      rfl
end OF
/-! Defs that are promised only where no repr is under way, the law among them; repr of lists. -/
namespace OF
open PySem PySem.Spec PyProof.Rows L2

/-! ### promises where no repr is under way -/
structure FnG (P : Program) (w : World) (K : PySem.W.Frag) (mg : Str → Option Value) (base : Heap) (n : Nat) (f : Addr) (fd : FuncData) (ps : List Str) (sp : Sp) : Prop where
  len : ∀ vs H Q E, sp vs H Q E → vs.length = ps.length
  go : ∀ (A : Around) (fr : List Env) (s : Shared) (H : Hp) (ar : Args) (us : List Value) (vs : List V) (Q : VK) (E : XK), A.guards = some [] → Room n A → Env0 P w K mg base A fr s H → BindsTo s fd ar (ps.zip us) → Vals vs us → sp vs H Q E →
    codeAny (model P w) A (.call (.ref f) ar) (CR CX0 fr P w H s Q E) s
section
variable {P : Program} {w : World} {K : PySem.W.Frag} {mg : Str → Option Value} {base : Heap}
theorem guards_in {A : Around} {e : Env} (h : A.guards = some []) : (A.deeper e).guards = some [] := by
  first | exact h | simpa [Around.deeper] using h
theorem okG {x q : Str} {st : Stmt} {f : Addr} {fd : FuncData} {N ps : List Str} {n : Nat} {sp : Sp} (F : Fun K x q st f fd) (S : FnScope N ps (defScope st)) (len : ∀ vs H Q E, sp vs H Q E → vs.length = ps.length)
    (body : ∀ (cv : Value) (A : Around) (fr : List Env) (s : Shared) (H : Hp) (vs : List V) (Q : VK) (E : XK), (A.deeper (envOfC q (defScope st) s.heap.objs.size f cv)).guards = some [] → Room n (A.deeper (envOfC q (defScope st) s.heap.objs.size f cv)) → sp vs H Q E →
      ∃ t, PSs (cxOf CX0 P w K mg base N q (defScope st) f cv A fr s H E).nox (defBody st) t ∧ t { nx := fun _ H' => Q .non H', rt := Q } (start N vs) H) : FnG P w K mg base (n + 1) f fd ps sp := by
  obtain ⟨_, _, kV, dc, pm, an, cv, ct, _, e, lk, cc⟩ := F.ex
  subst e
  constructor
  · exact len
  · intro A fr s H ar us vs Q E gu room e0 bn rel hsp
    have keep := fun b o z => (e0.bs b o z).1
    have inHeap := e0.mod.kin.keeps keep
    have noLim := e0.mod.nolimit.keeps keep
    apply codeAny_call_function room.depth (inHeap _ _ lk) rfl S.co S.gen rfl (PySem.W.codeRec_of inHeap cc)
    apply bn
    apply wpAny_newFunctionEnv_cells S.kind
    · rintro ⟨y, v⟩ hy
      rcases S.par y (List.of_mem_zip hy).1 with p | p
      · exact Or.inl p
      · exact Or.inr ⟨p, PySem.W.cellsFrom_some _ _ _ (Or.inl p)⟩
    · intro env he s1 inc
      subst he
      constructor
      · exact noLim.keeps inc.toInCall.keep
      · apply codeAny_func
        obtain ⟨t, pss, rd⟩ := body cv A fr s H vs Q E (guards_in gu) (room.deeper _) hsp
        have inv := inv_start (CX := CX0) (P := P) (w := w) (E := E) S room.hd e0 (len _ _ _ _ hsp) rel inc
        apply wpAny_mono (pss.nox.run [] s1 (start N vs) H _ inv rd) (hE := fun _ _ z => z)
        intro fl s2 z
        cases fl with
        | ret u => obtain ⟨v, _, H2, J, rv, qv⟩ := z; exact ⟨v, H2, J.os, J.bare, J.base, J.hok, rv, qv⟩
        | next => obtain ⟨_, H2, J, qv⟩ := z; exact ⟨V.non, H2, J.os, J.bare, J.base, J.hok, rfl, qv⟩
        | brk => obtain ⟨_, _, _, no⟩ := z; cases no
        | cont => obtain ⟨_, _, _, no⟩ := z; cases no
end
section
variable {X : Cx} {n : Nat} {f : Addr} {fd : FuncData} {ps : List Str} {sp : Sp} {E : XK} {x : Str} {p pos : Pos} {e : Expr} {es : List Expr} {t : TA}
theorem pe_callG (F : FnG X.prog X.w X.K X.mg X.base n f fd ps sp) (gu : X.A.guards = some []) (room : Room n X.A) (hg : Gl X x) (hm : X.mg x = some (.ref f)) (kp : PySem.W.keepIn X.K (.ref f) = true) (hb : Binds X.K fd ps []) (hx : Passes CX0 X E) (ha : PA X (e :: es) t)
    (hdb : (x == ("__debug__" : Str)) = false := by decide) (he : starEach (e :: es) X.env = (false, eval e X.env) :: starEach es X.env := by rfl) (hpl : (backTo pos (starEach es X.env)).any (·.1) = false := by rfl) :
    PE X (.Call (.Name x p) (e :: es) [] pos) (tCall sp [] E t) := by
  constructor
  intro pins s σ H Q I h
  refine wpAny_Call_Name_kw (ld_glob I hg hm ?_ hdb)
  refine PySem.W.callWith_K (h₀ := X.base) I.ok.mod.kin kp (thn (ha.run pos pins s σ H _ I h) ?_) he hpl
  rintro us s1 ⟨vs, H1, I1, r1, q⟩
  refine ⟨I1.kIn, ?_⟩
  rw [List.append_nil] at q
  have bn := hb s1 us I1.kIn (by rw [List.append_nil, ← r1.length]; exact F.len _ _ _ _ q)
  rw [List.append_nil] at bn
  apply wpAny_call
  apply codeAny_mono (F.go X.A X.stack s1 H1 ⟨us, []⟩ us vs Q E gu room I1.env0 bn r1 q)
  intro r s2 z
  cases r with
  | error er => exact hx pins σ H1 s1 er s2 I1 z
  | ok fl =>
    cases fl with
    | ret u => exact I1.after z
    | next => cases z
    | brk => cases z
    | cont => cases z
end
end OF
namespace OF
open PySem PySem.Spec PyProof.Rows L2
section
variable {P : Program} {w : World} {K : PySem.W.Frag} {mg mb : Str → Option Value}
/-- namespaces stand in what is left where a list alone is hidden -/
theorem ns_left {h : Heap} {H : Hp} {a b : Addr} {xs : Array Value} {m : Str → Option Value} (ha : h.get? a = some { cls := .type "list", data := .seq xs }) (near : ∀ c, H c ≠ none → c = a) (z : h.Ns b m) : (hidT h H).Ns b m := by
  obtain ⟨o, es, ep, eo, ed, rest⟩ := z
  have free : H b = none := Classical.byContradiction fun no => by
    have := near b no
    subst this
    rw [eo] at ha
    have e2 := Option.some.inj ha
    subst e2
    cases ed
  exact ⟨o, es, ep, hidT_get eo free, ed, rest⟩
/-- what is tracked at the law's start -/
theorem script_heap {h : Heap} {a : Addr} {vs : List Value} {ns : List Int} (KX : K.In h) (ha : h.get? a = some { cls := .type "list", data := .seq vs.toArray }) (hi : IntsAre vs ns) (hl : ns.length ≤ sizeLine) :
    ∃ H : Hp, Only H ∧ SqL K H a (ns.map V.int) ∧ HOk P w H h ∧ (∀ c, H c ≠ none → c = a) ∧ (H a ≠ none → K.lookup a = none) := by
  have rel := vals_ints hi
  have n1 : vs.length = ns.length := hi.length
  cases known : K.lookup a with
  | some o =>
    have same := KX a o known
    rw [ha] at same
    have := Option.some.inj same
    subst this
    refine ⟨fun _ => none, fun c => Or.inl rfl, ?_, ?_, fun c z => absurd rfl z, fun z => absurd rfl z⟩
    case refine_2 =>
      intro c o z
      have z2 : (none : Option HO) = some o := z
      cases z2
    right
    refine ⟨_, vs.toArray, _, known, rfl, rfl, rfl, ?_, ?_⟩
    · rw [List.size_toArray, n1]; exact hl
    · rw [List.toList_toArray]; exact rel
  | none =>
    refine ⟨fun c => if c = a then some (.frz { cls := .type "list", data := .seq vs.toArray } (.lst (ns.map V.int))) else none, ?_, ?_, ?_, ?_, fun _ => rfl⟩
    · intro c
      by_cases z : c = a
      · right; exact ⟨_, _, if_pos z⟩
      · left; exact if_neg z
    · left; right; exact ⟨_, if_pos rfl⟩
    · intro c o z
      by_cases y : c = a
      · subst y
        have := (if_pos rfl).symm.trans z
        cases this
        refine ⟨ha, ?_, vs, _, rel, ha⟩
        rw [List.length_map]; exact hl
      · have := (if_neg y).symm.trans z
        cases this
    · intro c z
      exact Classical.byContradiction fun y => z (if_neg y)
theorem law_callG {n : Nat} {fa a : Addr} {fd : FuncData} {x : Str} {sp : Sp} {s : Shared} {vs : List Value} {ns : List Int} (KX : K.In s.heap) (hg : s.heap.Ns mainGlobals mg) (hb : s.heap.Ns builtinsNs mb) (hbb : ∀ y : Str, y ≠ "__name__" → mb y = bootBuiltins y)
    (hlim : s.heap.NoLimit) (he : s.gens = #[]) (ha : s.heap.get? a = some { cls := .type "list", data := .seq vs.toArray }) (hi : IntsAre vs ns) (hl : ns.length ≤ sizeLine) (room : Room n callerA)
    (F : ∀ base : Heap, K.In base → base.Ns mainGlobals mg → FnG P w K mg base n fa fd [x] sp) (bind : ∀ (s : Shared) (u : Value), BindsTo s fd ⟨[u], []⟩ [(x, u)])
    (hsp : ∀ H : Hp, SqL K H a (ns.map V.int) → sp [.ref a] H (fun v _ => v = .bl true) fun _ _ _ => False) :
    codeAny (model P w) callerA (.call (.ref fa) ⟨[.ref a], []⟩) (fun r s' => r = .ok (.ret (.bool true)) ∧ OldK s.heap s'.heap ∧ s'.os = s.os ∧ AllBare s'.gens) s := by
  obtain ⟨H, only, seq, hok, near, out⟩ := script_heap (P := P) (w := w) KX ha hi hl
  have KB : K.In (hidT s.heap H) := by
    intro c o z
    refine hidT_get (KX c o z) (Classical.byContradiction fun no => ?_)
    have := near c no
    subst this
    rw [out no] at z
    cases z
  have lim : (hidT s.heap H).NoLimit := by
    obtain ⟨mc, h1, h2⟩ := hlim
    exact ⟨mc, ns_left ha near h1, h2⟩
  have M : Mod K mg (hidT s.heap H) := { kin := KB, glob := ns_left ha near hg, blt := ⟨mb, ns_left ha near hb, hbb⟩, nolimit := lim }
  have E0 : Env0 P w K mg (hidT s.heap H) callerA [] s H := {
    frames := rfl, mod := M, bs := fun c o z => of_hidT z, bsz := Nat.le_of_eq (hidT_size _ _), funs := trivial
    frf := fun c z => (by cases z), hok := hok, bare := AllBare.of_eq he }
  have main := (F _ KB (ns_left ha near hg)).go callerA [] s H ⟨[.ref a], []⟩ [.ref a] [.ref a] _ _ rfl room E0 (bind s (.ref a)) (.cons rfl .nil) (hsp H seq)
  apply codeAny_mono main
  intro r s' z
  cases r with
  | error er => cases z
  | ok fl =>
    cases fl with
    | next => cases z
    | brk => cases z
    | cont => cases z
    | ret u =>
      obtain ⟨v, H', sameOs, bare, un, hok', rv, ev⟩ := z
      have ev2 : v = .bl true := ev
      subst ev2
      have eu : u = Value.bool true := rv
      subst eu
      refine ⟨rfl, OldK.of_keep ?_, sameOs, bare⟩
      intro c o z
      rcases only c with fr | ⟨o2, xs, fr⟩
      · apply un.keep c o z fr
        · intro y; cases y
        · intro y; cases y
      · have fr2 := un.frzs c o2 _ fr
        have g1 := (hok c _ fr).1
        have g2 := (hok' c _ fr2).1
        rw [z] at g1
        rw [g2, ← Option.some.inj g1]
theorem walkG {l : PySem.W.OpenLaw} {m n : Nat} {q : Program} {loose : List Str} {XP : (Str → Option Value) → Heap → Prop} {YP : World → Heap → Prop} {d : DefRec} {K : Params → PySem.W.Frag} {sp : World → Sp} {x : Str}
    (hm : l.most = some m) (hm2 : m ≤ sizeLine) (hdf : d.params.defaults = []) (room : Room n callerA) (hY : ∀ (w : World) (h : Heap), YP w h → (K w.params).In h)
    (F : ∀ (w : World) (mg : Str → Option Value) (fa : Addr) (h : Heap), (K w.params).In h → h.Ns mainGlobals mg → mg d.name = some (.ref fa) →
      ∃ fd : FuncData, (∀ (s : Shared) (u : Value), BindsTo s fd ⟨[u], []⟩ [(x, u)]) ∧ ∀ base : Heap, (K w.params).In base → base.Ns mainGlobals mg → FnG l.prog w (K w.params) mg base n fa fd [x] (sp w))
    (hsp : ∀ (w : World) (H : Hp) (a : Addr) (ns : List Int), ns.length ≤ m → SqL (K w.params) H a (ns.map V.int) → sp w [.ref a] H (fun v _ => v = .bl true) fun _ _ _ => False) :
    PySem.W.WalkO q loose XP YP l.row.toRowW d [] (fun f vs => PySem.call f vs) := by
  apply Att.attach_call hm hdf
  intro w s₀ s₁ mg mb fa o pm cd doc a vs ns G Y ho hd hcd hmg hobj hints hlen hg
  obtain ⟨fd, bind, FF⟩ := F w mg fa _ (hY w _ Y) G.T.g hmg
  exact law_callG (hY w _ Y) G.T.g G.T.b G.T.builtins G.T.nolimit hg hobj hints (Nat.le_trans hlen hm2) room FF bind fun H => hsp w H a ns hlen
end
end OF
/-! A head by one run of the kernel: what is read of the top behind it. -/
namespace OF
open PySem PySem.Spec PyProof.Rows L2
open He5 (DefA fnA)
/-! ### what is told of the top: the defs, a list of truths, the tables of code objects -/
structure Says (fn : List DefA) (tf : List He.Defn) (ex : PySem.W.Frag → List Bool) (h : Heap) (K : PySem.W.Frag) : Prop where
  fn_ : fn.map (fun d => fnA K (d.at_ K)) = fn.map DefA.val
  ok_ : (fn.all fun d => d.ok K) = true
  more : (ex K).all id = true
  hd : ∀ p ∈ tf, PySem.W.codeHdIn K (He.cT K p).1 (He.cT K p).2 = true
  out : ∀ p ∈ tf, K.lookup (He.cT K p).2 = none
  empty : ∀ p ∈ tf, h.get? (He.cT K p).2 = some { cls := .none, data := .fields #[] }
abbrev Al : Type := List He5.FnW × Bool
def obsL (n : Nat) (fn : List DefA) (tf : List He.Defn) (ex : PySem.W.Frag → List Bool) (g : Addr → Option Obj) : Al :=
  (fn.map (fun d => fnA (He.frT g (List.range n)) (d.at_ (He.frT g (List.range n)))), (fn.all fun d => d.ok (He.frT g (List.range n))) && ((ex (He.frT g (List.range n))).all id && He.tabsB g tf (He.frT g (List.range n))))
theorem says_of {n : Nat} {fn : List DefA} {tf : List He.Defn} {ex : PySem.W.Frag → List Bool} {h : Heap} (e : obsL n fn tf ex h.get? = (fn.map DefA.val, true)) : Says fn tf ex h (He.frT h.get? (List.range n)) := by
  have e1 := congrArg Prod.fst e
  have e2 := congrArg Prod.snd e
  have q := Bool.and_eq_true_iff.mp e2
  have q2 := Bool.and_eq_true_iff.mp q.2
  have each : ∀ p ∈ tf, PySem.W.codeHdIn (He.frT h.get? (List.range n)) (He.cT (He.frT h.get? (List.range n)) p).1 (He.cT (He.frT h.get? (List.range n)) p).2 = true ∧ ∃ o, h.get? (He.cT (He.frT h.get? (List.range n)) p).2 = some o ∧ He.emptyTab o = true := fun p hp => by
    have z := Bool.and_eq_true_iff.mp (List.all_eq_true.mp q2.2 p hp)
    refine ⟨z.1, ?_⟩
    have z2 := z.2
    revert z2
    cases h.get? (He.cT (He.frT h.get? (List.range n)) p).2 with
    | none => exact fun y => absurd y Bool.false_ne_true
    | some o => exact fun y => ⟨o, rfl, y⟩
  refine ⟨e1, q.1, q2.1, fun p hp => (each p hp).1, fun p hp => ?_, fun p hp => ?_⟩
  · obtain ⟨_, o, a, b⟩ := each p hp
    exact He.frT_none a b
  · obtain ⟨_, o, a, b⟩ := each p hp
    rw [a, He.emptyTab_eq b]
def hookL (n : Nat) (fn : List DefA) (tf : List He.Defn) (ex : PySem.W.Frag → List Bool) : PySem.W.Hook where
  α := Al
  obs := fun s => obsL n fn tf ex s.heap.get?
  val := fun _ => (fn.map DefA.val, true)
  says := fun _ h => ∃ K : PySem.W.Frag, K.In h ∧ Says fn tf ex h K
  of := fun _ _ e => ⟨_, He.frT_in, says_of e⟩
  keeps := fun _ _ _ ⟨K, hK, c⟩ k => ⟨K, PySem.W.Frag.In.keeps hK k, ⟨c.fn_, c.ok_, c.more, c.hd, c.out, fun p hp => k _ _ (c.empty p hp)⟩⟩
theorem obsL_eq {n : Nat} {fn : List DefA} {tf : List He.Defn} {ex : PySem.W.Frag → List Bool} {g : Addr → Option Obj} {s : Shared} (h : ∀ a, g a = s.heap.get? a) : obsL n fn tf ex g = (hookL n fn tf ex).obs s := by
  rw [show g = s.heap.get? from funext h] <;> rfl
section
variable {fn : List DefA} {tf : List He.Defn} {ex : PySem.W.Frag → List Bool} {h : Heap} {K : PySem.W.Frag}
theorem nthB {l : List Bool} (a : l.all id = true) (i : Nat) {b : Bool} (e : l[i]? = some b) : b = true := List.all_eq_true.mp a b (List.mem_of_getElem? e)
theorem Says.def_ (c : Says fn tf ex h K) (i : Nat) {d : DefA} (e : fn[i]? = some d) : ∃ fd, FunD K d.name d.qual d.params d.body d.scope (d.dvs K) (d.kws K) (d.at_ K) fd := by
  have z : (fn.map fun d => fnA K (d.at_ K))[i]? = (fn.map DefA.val)[i]? := by rw [c.fn_]
  rw [List.getElem?_map, List.getElem?_map, e] at z
  exact DefA.funD (Option.some.inj z) (List.all_eq_true.mp c.ok_ d (List.mem_of_getElem? e))
end
/-- what a def of no default leaves -/
theorem fun_parts {K : PySem.W.Frag} {x q : Str} {st : Stmt} {f : Addr} {kws : List (Str × V)} (F : ∃ fd, FunD K x q (defArgs st) (defBody st) (defScope st) [] kws f fd) :
    ∃ (oc : Value) (od : Option Addr) (kV dc pm : Value) (an : Option Addr) (cd ct : Value) (sl : Array (Option Value)), K.lookup f = some ⟨oc, od, .func (PySem.W.fnOf x q (defArgs st) (defBody st) (defScope st) .none kV dc pm an cd ct), sl⟩ ∧ PySem.W.codeIn K cd q = true ∧ PySem.W.keepIn K (.ref f) = true := by
  obtain ⟨fd, F⟩ := F
  have kp := F.kp
  obtain ⟨oc, od, dV, kV, dc, pm, an, cd, ct, sl, rfl, l, c, d, _⟩ := F.ex
  rcases d with ⟨_, rfl⟩ | ⟨z, _⟩
  · exact ⟨oc, od, kV, dc, pm, an, cd, ct, sl, l, c, kp⟩
  · exact absurd rfl z
/-- a def that is no method: f at the name x -/
abbrev dfn (f : PySem.W.Frag → Addr) (x q : Str) (st : Stmt) : DefA := { at_ := f, name := x, qual := q, params := defArgs st, body := defBody st, scope := defScope st }
/-! ### truths and what they tell -/
def intB (K : PySem.W.Frag) (x : Str) (i : Int) : Bool := match PySem.W.nsIn K mainGlobals x with
  | some (some (.int j _)) => decide (j = i)
  | _ => false
theorem intB_ok {K : PySem.W.Frag} {x : Str} {i : Int} (h : intB K x i = true) : ∃ t, PySem.W.nsIn K mainGlobals x = some (some (.int i t)) := by
  unfold intB at h
  split at h
  · rename_i j t e
    rw [e, of_decide_eq_true h]
    exact ⟨t, rfl⟩
  · cases h
def strB (K : PySem.W.Frag) (x z : Str) : Bool := match PySem.W.nsIn K mainGlobals x with
  | some (some (.str j _)) => decide (j = z)
  | _ => false
theorem strB_ok {K : PySem.W.Frag} {x z : Str} (h : strB K x z = true) : ∃ t, PySem.W.nsIn K mainGlobals x = some (some (.str z t)) := by
  unfold strB at h
  split at h
  · rename_i j t e
    rw [e, of_decide_eq_true h]
    exact ⟨t, rfl⟩
  · cases h
def recA (K : PySem.W.Frag) (p : Addr) (T : String) : Addr := match PySem.W.recIn K p T with
  | some (.ref g :: _) => g
  | _ => 0
def recB (K : PySem.W.Frag) (p : Addr) (T : String) : Bool := match PySem.W.recIn K p T with
  | some (.ref _ :: _) => true
  | _ => false
theorem recB_ok {K : PySem.W.Frag} {p : Addr} {T : String} (h : recB K p T = true) : ∃ r, PySem.W.recIn K p T = some (.ref (recA K p T) :: r) := by
  unfold recB at h
  unfold recA
  split at h
  · rename_i g r e
    rw [e]
    exact ⟨r, rfl⟩
  · cases h
def fcVal (K : PySem.W.Frag) (a b : Value) (x : Str) : Option Value := match PySem.W.findCls K a b x with
  | some (.val v) => some v
  | _ => none
theorem fcVal_ok {K : PySem.W.Frag} {a b v : Value} {x : Str} (h : fcVal K a b x = some v) : PySem.W.findCls K a b x = some (.val v) := by
  unfold fcVal at h
  split at h
  · rename_i u e
    rw [e, Option.some.inj h]
  · cases h
def fcAd (K : PySem.W.Frag) (a b : Value) (x : Str) : Addr := match fcVal K a b x with
  | some (.ref f) => f
  | _ => 0
def fcGet (K : PySem.W.Frag) (a b : Value) (x : Str) : Option (Value × Value × Value × Value) := match PySem.W.findCls K a b x with
  | some (.get g v o t) => some (g, v, o, t)
  | _ => none
theorem fcGet_ok {K : PySem.W.Frag} {a b g v o t : Value} {x : Str} (h : fcGet K a b x = some (g, v, o, t)) : PySem.W.findCls K a b x = some (.get g v o t) := by
  unfold fcGet at h
  split at h
  · rename_i e
    have z := Option.some.inj h
    simp only [Prod.mk.injEq] at z
    obtain ⟨rfl, rfl, rfl, rfl⟩ := z
    exact e
  · cases h
/-- an error class, its mro -/
def excB (K : PySem.W.Frag) (C : Addr) (bm : List Value) : Bool := match K.lookup C with
  | some ⟨.type t, _, .cls ⟨_, _, mro, _, _, hd, _, _, _, _, del⟩, sl⟩ => decide (t = "type") && (decide (mro = .ref C :: bm) && (hd && (!del && (match sl.toList with
    | [_, _, some (.str _ _), _, some (.builtin n), _] => decide (n = "ValueError.__new__")
    | _ => false))))
  | _ => false
theorem excB_ok {K : PySem.W.Frag} {C : Addr} {bm : List Value} (h : excB K C bm = true) : ∃ (nm q : Str) (N : Addr) (bs : List Value) (sn : List Str) (sub : List Value) (ab : Bool) (col : Option Bool) (dd : Option Addr) (m0 m1 m3 m5 : Option Value) (cn : Str) (tk : Tok),
    K.lookup C = some (excClassObj nm q C N bs (bm) true sn sub ab col dd m0 m1 (some (.str cn tk)) m3 m5 "ValueError.__new__") := by
  unfold excB at h
  split at h
  · rename_i t dd nm bs mro N q hd sn sub ab col del sl e
    have h1 := Bool.and_eq_true_iff.mp h
    have h2 := Bool.and_eq_true_iff.mp h1.2
    have h3 := Bool.and_eq_true_iff.mp h2.2
    have h4 := Bool.and_eq_true_iff.mp h3.2
    have e1 := of_decide_eq_true h1.1
    have e2 := of_decide_eq_true h2.1
    have e3 := h3.1
    have e4 : del = false := by simpa using h4.1
    have h5 := h4.2
    split at h5
    · rename_i m0 m1 cn tk m3 n m5 es
      have e5 := of_decide_eq_true h5
      obtain ⟨l⟩ := sl
      have es2 : l = _ := es
      subst e1 e2 e3 e4 e5 es2
      exact ⟨_, _, _, _, _, _, _, _, _, _, _, _, _, _, _, e⟩
    · cases h5
  · cases h
/-- an empty tuple -/
def tup0B (K : PySem.W.Frag) (T : Addr) : Bool := match K.lookup T with
  | some ⟨.type t, _, .seq its _, _⟩ => decide (t = "tuple") && its.isEmpty
  | _ => false
theorem tup0B_ok {K : PySem.W.Frag} {T : Addr} (h : tup0B K T = true) : ∃ (od : Option Addr) (n : Nat) (sl : Array (Option Value)), K.lookup T = some ⟨.type "tuple", od, .seq #[] n, sl⟩ := by
  unfold tup0B at h
  split at h
  · rename_i t od its n sl e
    have h1 := Bool.and_eq_true_iff.mp h
    have e1 := of_decide_eq_true h1.1
    have e2 : its = #[] := by simpa using h1.2
    subst e1 e2
    exact ⟨_, _, _, e⟩
  · cases h
/-- the dict of a def's keyword-only defaults -/
def kwdA (K : PySem.W.Frag) (f : Addr) : Addr := match K.lookup f with
  | some ⟨_, _, .func fd, _⟩ => (match fd.kwdefaults with
    | .ref d => d
    | _ => 0)
  | _ => 0
def kwdR (K : PySem.W.Frag) (f : Addr) : Bool := match K.lookup f with
  | some ⟨_, _, .func fd, _⟩ => (match fd.kwdefaults with
    | .ref _ => true
    | _ => false)
  | _ => false
theorem kwdR_ok {K : PySem.W.Frag} {f : Addr} {oc : Value} {od : Option Addr} {x q : Str} {a : Arguments} {b : List Stmt} {s : Scope} {dV kV dc pm cd ct : Value} {an : Option Addr} {sl : Array (Option Value)} (h : kwdR K f = true)
    (l : K.lookup f = some ⟨oc, od, .func (PySem.W.fnOf x q a b s dV kV dc pm an cd ct), sl⟩) : kV = .ref (kwdA K f) := by
  unfold kwdR at h
  unfold kwdA
  rw [l] at h ⊢
  cases kV with
  | ref d => rfl
  | _ => exact absurd h Bool.false_ne_true
def nsA (K : PySem.W.Frag) (D : Addr) (x : Str) : Addr := match PySem.W.nsIn K D x with
  | some (some (.ref a)) => a
  | _ => 0
end OF
namespace OF
open PySem PySem.Spec PyProof.Rows L2
theorem Says.fun_ {fn : List He5.DefA} {tf : List He.Defn} {ex : PySem.W.Frag → List Bool} {h : Heap} {K : PySem.W.Frag} (c : Says fn tf ex h K) (i : Nat) {f : PySem.W.Frag → Addr} {x q : Str} {st : Stmt} (e : fn[i]? = some (dfn f x q st)) :
    ∃ (oc : Value) (od : Option Addr) (kV dc pm : Value) (an : Option Addr) (cd ct : Value) (sl : Array (Option Value)), K.lookup (f K) = some ⟨oc, od, .func (PySem.W.fnOf x q (defArgs st) (defBody st) (defScope st) .none kV dc pm an cd ct), sl⟩ ∧ PySem.W.codeIn K cd q = true ∧ PySem.W.keepIn K (.ref (f K)) = true :=
  fun_parts (K := K) (x := x) (q := q) (st := st) (f := f K) (kws := []) (c.def_ i e)
end OF
namespace OF
open PySem PySem.Spec PyProof.Rows L2
/-- the end of a row over such a head, guards known -/
theorem walkGE {l : PySem.W.OpenLaw} {m n : Nat} {q : Program} {loose : List Str} {XP : (Str → Option Value) → Heap → Prop} {YP : World → Heap → Prop} {d : DefRec} {x : Str}
    (hm : l.most = some m) (hm2 : m ≤ sizeLine) (hdf : d.params.defaults = []) (room : Room n callerA)
    (F : ∀ (w : World) (mg : Str → Option Value) (fa : Addr) (h : Heap), YP w h → h.Ns mainGlobals mg → mg d.name = some (.ref fa) →
      ∃ (K : PySem.W.Frag) (sp : Sp), K.In h ∧ (∃ fd : FuncData, (∀ (s : Shared) (u : Value), BindsTo s fd ⟨[u], []⟩ [(x, u)]) ∧ ∀ base : Heap, K.In base → base.Ns mainGlobals mg → FnG l.prog w K mg base n fa fd [x] sp) ∧
        ∀ (H : Hp) (a : Addr) (ns : List Int), ns.length ≤ m → SqL K H a (ns.map V.int) → sp [.ref a] H (fun v _ => v = .bl true) fun _ _ _ => False) :
    PySem.W.WalkO q loose XP YP l.row.toRowW d [] (fun f vs => PySem.call f vs) := by
  apply Att.attach_call hm hdf
  intro w s₀ s₁ mg mb fa o pm cd doc a vs ns G Y ho hd hcd hmg hobj hints hlen hg
  obtain ⟨K, sp, KX, ⟨fd, bind, FF⟩, hsp⟩ := F w mg fa _ Y G.T.g hmg
  exact law_callG KX G.T.g G.T.b G.T.builtins G.T.nolimit hg hobj hints (Nat.le_trans hlen hm2) room FF bind fun H => hsp H a ns hlen
end OF
set_option maxHeartbeats 0
namespace K12H
open PySem PySem.Spec PyProof.Rows L2 OF
/-! ### the head: one run of the kernel -/
abbrev topS (i : Nat) : Stmt := PySem.Challenge.pw_oddfigures_k12_whole_written_or_closed.main.body.getD i (.Pass ⟨0, 0, 0, 0⟩)
abbrev sWhole : Stmt := topS 16
abbrev sIsInt : Stmt := topS 17
abbrev sIsBase : Stmt := topS 18
abbrev sIsDigit : Stmt := topS 19
abbrev sAre : Stmt := topS 20
abbrev sOneOf : Stmt := topS 32
abbrev sIsPair : Stmt := topS 33
abbrev sDigList : Stmt := topS 34
abbrev sDiffDig : Stmt := topS 35
abbrev sDiffPair : Stmt := topS 36
abbrev sInit : Stmt := inClass (topS 38) 0
abbrev sAllows : Stmt := inClass (topS 38) 9
abbrev sPBase : Stmt := inClass (topS 38) 1
abbrev sPDigits : Stmt := inClass (topS 38) 2
abbrev sLeft : Stmt := topS 24
abbrev sAllLeft : Stmt := topS 25
abbrev sBehind : Stmt := topS 26
abbrev sFollow : Stmt := topS 27
abbrev sGraph : Stmt := topS 28
abbrev sIsSch : Stmt := topS 40
abbrev sCheckS : Stmt := topS 41
abbrev sCheckN : Stmt := topS 42
abbrev sIsRight : Stmt := topS 43
abbrev sCheckP : Stmt := topS 45
abbrev sCell : Stmt := topS 53
abbrev sBox : Stmt := topS 54
abbrev sTake : Stmt := topS 55
abbrev sDigits : Stmt := topS 56
abbrev sPairs : Stmt := topS 57
abbrev sScheme : Stmt := topS 58
abbrev sMade : Stmt := topS 59
abbrev sFits : Stmt := topS 60
abbrev sLSteps : Stmt := topS 63
abbrev sRight : Stmt := topS 70
abbrev sLaw : Stmt := topS 72
abbrev sPGraph : Stmt := topS 29
abbrev sIsPlace : Stmt := topS 44
abbrev sZeros : Stmt := topS 47
abbrev sLayers : Stmt := topS 46
abbrev sIsWr : Stmt := topS 48
abbrev sWriting : Stmt := topS 49
abbrev sClosed : Stmt := topS 50
abbrev sFirst : Stmt := topS 30
abbrev sIsClosed : Stmt := topS 51
abbrev sMet : Stmt := topS 64
abbrev sLClosed : Stmt := topS 66
abbrev sIsRow : Stmt := topS 62
abbrev sValue : Stmt := topS 61
abbrev sNumber : Stmt := topS 65
abbrev sRowRight : Stmt := topS 67
abbrev sFirstRow : Stmt := topS 68
abbrev sAsked : Stmt := topS 69
abbrev sFar : Stmt := topS 71
abbrev sFig : Stmt := inClass (topS 2) 0
abbrev sInBase : Stmt := inClass (topS 3) 0
abbrev sInDig : Stmt := inClass (topS 4) 0
abbrev sInBars : Stmt := inClass (topS 5) 0
abbrev sInNum : Stmt := inClass (topS 8) 0
abbrev sUnk : Stmt := inClass (topS 9) 0
abbrev sNotS : Stmt := inClass (topS 10) 0
def l_f1 (K : PySem.W.Frag) : Addr := He.ga K "is_whole"
def l_f2 (K : PySem.W.Frag) : Addr := He.ga K "is_integer"
def l_f3 (K : PySem.W.Frag) : Addr := He.ga K "is_base"
def l_f4 (K : PySem.W.Frag) : Addr := He.ga K "is_digit"
def l_f5 (K : PySem.W.Frag) : Addr := He.ga K "are_digits"
def l_f6 (K : PySem.W.Frag) : Addr := He.ga K "_is_one_of"
def l_f7 (K : PySem.W.Frag) : Addr := He.ga K "_is_pair"
def l_f8 (K : PySem.W.Frag) : Addr := He.ga K "_is_digit_list"
def l_f9 (K : PySem.W.Frag) : Addr := He.ga K "_different_digits"
def l_f10 (K : PySem.W.Frag) : Addr := He.ga K "_different_pairs"
def l_f11 (K : PySem.W.Frag) : Addr := He.ga K "left_digits"
def l_f12 (K : PySem.W.Frag) : Addr := He.ga K "all_left_digits"
def l_f13 (K : PySem.W.Frag) : Addr := He.ga K "places_behind"
def l_f14 (K : PySem.W.Frag) : Addr := He.ga K "follower"
def l_f15 (K : PySem.W.Frag) : Addr := He.ga K "graph_from"
def l_f16 (K : PySem.W.Frag) : Addr := He.ga K "place_graph"
def l_f17 (K : PySem.W.Frag) : Addr := He.ga K "first_rows"
def l_f18 (K : PySem.W.Frag) : Addr := He.ga K "is_scheme"
def l_f19 (K : PySem.W.Frag) : Addr := He.ga K "check_scheme"
def l_f20 (K : PySem.W.Frag) : Addr := He.ga K "check_number"
def l_f21 (K : PySem.W.Frag) : Addr := He.ga K "is_right"
def l_f22 (K : PySem.W.Frag) : Addr := He.ga K "is_place"
def l_f23 (K : PySem.W.Frag) : Addr := He.ga K "_check_place"
def l_f24 (K : PySem.W.Frag) : Addr := He.ga K "_layers_to_zero"
def l_f25 (K : PySem.W.Frag) : Addr := He.ga K "_zeros"
def l_f26 (K : PySem.W.Frag) : Addr := He.ga K "_law_cell"
def l_f27 (K : PySem.W.Frag) : Addr := He.ga K "_law_box"
def l_f28 (K : PySem.W.Frag) : Addr := He.ga K "_law_take"
def l_f29 (K : PySem.W.Frag) : Addr := He.ga K "_law_digits"
def l_f30 (K : PySem.W.Frag) : Addr := He.ga K "_law_pairs"
def l_f31 (K : PySem.W.Frag) : Addr := He.ga K "_law_scheme"
def l_f32 (K : PySem.W.Frag) : Addr := He.ga K "_law_made"
def l_f33 (K : PySem.W.Frag) : Addr := He.ga K "_law_fits"
def l_f34 (K : PySem.W.Frag) : Addr := He.ga K "_law_value"
def l_f35 (K : PySem.W.Frag) : Addr := He.ga K "_law_is_row"
def l_f36 (K : PySem.W.Frag) : Addr := He.ga K "_law_steps"
def l_f37 (K : PySem.W.Frag) : Addr := He.ga K "_law_met"
def l_f38 (K : PySem.W.Frag) : Addr := He.ga K "_law_number"
def l_f39 (K : PySem.W.Frag) : Addr := He.ga K "_law_closed"
def l_f40 (K : PySem.W.Frag) : Addr := He.ga K "_law_row_right"
def l_f41 (K : PySem.W.Frag) : Addr := He.ga K "_law_first_row"
def l_f42 (K : PySem.W.Frag) : Addr := He.ga K "_law_asked"
def l_f43 (K : PySem.W.Frag) : Addr := He.ga K "_law_right"
def l_f44 (K : PySem.W.Frag) : Addr := He.ga K "_law_far_right"
def l_f45 (K : PySem.W.Frag) : Addr := He.ga K "law"
def l_CF (K : PySem.W.Frag) : Addr := He.ga K "FigureError"
def l_fF (K : PySem.W.Frag) : Addr := OF.fcAd K (.ref (l_CF K)) (.type "type") "__init__"
def l_C1 (K : PySem.W.Frag) : Addr := He.ga K "InvalidBase"
def l_fI1 (K : PySem.W.Frag) : Addr := He.ma K (l_C1 K) "__init__"
def l_C2 (K : PySem.W.Frag) : Addr := He.ga K "InvalidDigits"
def l_fI2 (K : PySem.W.Frag) : Addr := He.ma K (l_C2 K) "__init__"
def l_C3 (K : PySem.W.Frag) : Addr := He.ga K "InvalidBars"
def l_fI3 (K : PySem.W.Frag) : Addr := He.ma K (l_C3 K) "__init__"
def l_C4 (K : PySem.W.Frag) : Addr := He.ga K "NotScheme"
def l_fI4 (K : PySem.W.Frag) : Addr := He.ma K (l_C4 K) "__init__"
def l_C5 (K : PySem.W.Frag) : Addr := He.ga K "InvalidNumber"
def l_fI5 (K : PySem.W.Frag) : Addr := He.ma K (l_C5 K) "__init__"
def l_C6 (K : PySem.W.Frag) : Addr := He.ga K "UnknownDigit"
def l_fI6 (K : PySem.W.Frag) : Addr := He.ma K (l_C6 K) "__init__"
def l_CS (K : PySem.W.Frag) : Addr := He.ga K "Scheme"
def l_h1 (K : PySem.W.Frag) : Addr := He.ma K (l_CS K) "allows"
def l_pB (K : PySem.W.Frag) : Addr := He.ma K (l_CS K) "base"
def l_gB (K : PySem.W.Frag) : Addr := OF.recA K (l_pB K) "property"
def l_pD (K : PySem.W.Frag) : Addr := He.ma K (l_CS K) "digits"
def l_gD (K : PySem.W.Frag) : Addr := OF.recA K (l_pD K) "property"
def l_hN (K : PySem.W.Frag) : Addr := He.ma K (l_CS K) "__init__"
def l_DK (K : PySem.W.Frag) : Addr := OF.kwdA K (l_hN K)
def l_TD (K : PySem.W.Frag) : Addr := OF.nsA K (l_DK K) "bars"
def l_fIW (K : PySem.W.Frag) : Addr := He.ga K "is_written"
def l_fWr (K : PySem.W.Frag) : Addr := He.ga K "writing"
def l_fCl (K : PySem.W.Frag) : Addr := He.ga K "closed_list"
def l_fIc (K : PySem.W.Frag) : Addr := He.ga K "is_closed_list"
def hfn : List He5.DefA := [OF.dfn l_f1 "is_whole" "is_whole" sWhole,
  OF.dfn l_f2 "is_integer" "is_integer" sIsInt,
  OF.dfn l_f3 "is_base" "is_base" sIsBase,
  OF.dfn l_f4 "is_digit" "is_digit" sIsDigit,
  OF.dfn l_f5 "are_digits" "are_digits" sAre,
  OF.dfn l_f6 "_is_one_of" "_is_one_of" sOneOf,
  OF.dfn l_f7 "_is_pair" "_is_pair" sIsPair,
  OF.dfn l_f8 "_is_digit_list" "_is_digit_list" sDigList,
  OF.dfn l_f9 "_different_digits" "_different_digits" sDiffDig,
  OF.dfn l_f10 "_different_pairs" "_different_pairs" sDiffPair,
  OF.dfn l_f11 "left_digits" "left_digits" sLeft,
  OF.dfn l_f12 "all_left_digits" "all_left_digits" sAllLeft,
  OF.dfn l_f13 "places_behind" "places_behind" sBehind,
  OF.dfn l_f14 "follower" "follower" sFollow,
  OF.dfn l_f15 "graph_from" "graph_from" sGraph,
  OF.dfn l_f16 "place_graph" "place_graph" sPGraph,
  OF.dfn l_f17 "first_rows" "first_rows" sFirst,
  OF.dfn l_f18 "is_scheme" "is_scheme" sIsSch,
  OF.dfn l_f19 "check_scheme" "check_scheme" sCheckS,
  OF.dfn l_f20 "check_number" "check_number" sCheckN,
  OF.dfn l_f21 "is_right" "is_right" sIsRight,
  OF.dfn l_f22 "is_place" "is_place" sIsPlace,
  OF.dfn l_f23 "_check_place" "_check_place" sCheckP,
  OF.dfn l_f24 "_layers_to_zero" "_layers_to_zero" sLayers,
  OF.dfn l_f25 "_zeros" "_zeros" sZeros,
  OF.dfn l_f26 "_law_cell" "_law_cell" sCell,
  OF.dfn l_f27 "_law_box" "_law_box" sBox,
  OF.dfn l_f28 "_law_take" "_law_take" sTake,
  OF.dfn l_f29 "_law_digits" "_law_digits" sDigits,
  OF.dfn l_f30 "_law_pairs" "_law_pairs" sPairs,
  OF.dfn l_f31 "_law_scheme" "_law_scheme" sScheme,
  OF.dfn l_f32 "_law_made" "_law_made" sMade,
  OF.dfn l_f33 "_law_fits" "_law_fits" sFits,
  OF.dfn l_f34 "_law_value" "_law_value" sValue,
  OF.dfn l_f35 "_law_is_row" "_law_is_row" sIsRow,
  OF.dfn l_f36 "_law_steps" "_law_steps" sLSteps,
  OF.dfn l_f37 "_law_met" "_law_met" sMet,
  OF.dfn l_f38 "_law_number" "_law_number" sNumber,
  OF.dfn l_f39 "_law_closed" "_law_closed" sLClosed,
  OF.dfn l_f40 "_law_row_right" "_law_row_right" sRowRight,
  OF.dfn l_f41 "_law_first_row" "_law_first_row" sFirstRow,
  OF.dfn l_f42 "_law_asked" "_law_asked" sAsked,
  OF.dfn l_f43 "_law_right" "_law_right" sRight,
  OF.dfn l_f44 "_law_far_right" "_law_far_right" sFar,
  OF.dfn l_f45 "law" "law" sLaw,
  OF.dfn l_fF "__init__" "FigureError.__init__" sFig,
  OF.dfn l_fI1 "__init__" "InvalidBase.__init__" sInBase,
  OF.dfn l_fI2 "__init__" "InvalidDigits.__init__" sInDig,
  OF.dfn l_fI3 "__init__" "InvalidBars.__init__" sInBars,
  OF.dfn l_fI4 "__init__" "NotScheme.__init__" sNotS,
  OF.dfn l_fI5 "__init__" "InvalidNumber.__init__" sInNum,
  OF.dfn l_fI6 "__init__" "UnknownDigit.__init__" sUnk,
  OF.dfn l_h1 "allows" "Scheme.allows" sAllows,
  OF.dfn l_hN "__init__" "Scheme.__init__" sInit,
  OF.dfn l_gB "base" "Scheme.base" sPBase,
  OF.dfn l_gD "digits" "Scheme.digits" sPDigits,
  { at_ := l_fIW, name := "is_written", qual := "is_written", params := defArgs sIsWr, body := defBody sIsWr, scope := defScope sIsWr, dfl := [.non] },
  { at_ := l_fWr, name := "writing", qual := "writing", params := defArgs sWriting, body := defBody sWriting, scope := defScope sWriting, dfl := [.non] },
  { at_ := l_fCl, name := "closed_list", qual := "closed_list", params := defArgs sClosed, body := defBody sClosed, scope := defScope sClosed, dfl := [.non] },
  { at_ := l_fIc, name := "is_closed_list", qual := "is_closed_list", params := defArgs sIsClosed, body := defBody sIsClosed, scope := defScope sIsClosed, dfl := [.non] }]
def hex (K : PySem.W.Frag) : List Bool := [OF.kwdR K (l_hN K),
  decide (PySem.W.nsIn K mainGlobals "is_whole" = some (some (.ref (l_f1 K)))),
  decide (PySem.W.nsIn K mainGlobals "is_integer" = some (some (.ref (l_f2 K)))),
  decide (PySem.W.nsIn K mainGlobals "is_base" = some (some (.ref (l_f3 K)))),
  decide (PySem.W.nsIn K mainGlobals "is_digit" = some (some (.ref (l_f4 K)))),
  decide (PySem.W.nsIn K mainGlobals "are_digits" = some (some (.ref (l_f5 K)))),
  decide (PySem.W.nsIn K mainGlobals "_is_one_of" = some (some (.ref (l_f6 K)))),
  decide (PySem.W.nsIn K mainGlobals "_is_pair" = some (some (.ref (l_f7 K)))),
  decide (PySem.W.nsIn K mainGlobals "_is_digit_list" = some (some (.ref (l_f8 K)))),
  decide (PySem.W.nsIn K mainGlobals "_different_digits" = some (some (.ref (l_f9 K)))),
  decide (PySem.W.nsIn K mainGlobals "_different_pairs" = some (some (.ref (l_f10 K)))),
  decide (PySem.W.nsIn K mainGlobals "left_digits" = some (some (.ref (l_f11 K)))),
  decide (PySem.W.nsIn K mainGlobals "all_left_digits" = some (some (.ref (l_f12 K)))),
  decide (PySem.W.nsIn K mainGlobals "places_behind" = some (some (.ref (l_f13 K)))),
  decide (PySem.W.nsIn K mainGlobals "follower" = some (some (.ref (l_f14 K)))),
  decide (PySem.W.nsIn K mainGlobals "graph_from" = some (some (.ref (l_f15 K)))),
  decide (PySem.W.nsIn K mainGlobals "place_graph" = some (some (.ref (l_f16 K)))),
  decide (PySem.W.nsIn K mainGlobals "first_rows" = some (some (.ref (l_f17 K)))),
  decide (PySem.W.nsIn K mainGlobals "is_scheme" = some (some (.ref (l_f18 K)))),
  decide (PySem.W.nsIn K mainGlobals "check_scheme" = some (some (.ref (l_f19 K)))),
  decide (PySem.W.nsIn K mainGlobals "check_number" = some (some (.ref (l_f20 K)))),
  decide (PySem.W.nsIn K mainGlobals "is_right" = some (some (.ref (l_f21 K)))),
  decide (PySem.W.nsIn K mainGlobals "is_place" = some (some (.ref (l_f22 K)))),
  decide (PySem.W.nsIn K mainGlobals "_check_place" = some (some (.ref (l_f23 K)))),
  decide (PySem.W.nsIn K mainGlobals "_layers_to_zero" = some (some (.ref (l_f24 K)))),
  decide (PySem.W.nsIn K mainGlobals "_zeros" = some (some (.ref (l_f25 K)))),
  decide (PySem.W.nsIn K mainGlobals "_law_cell" = some (some (.ref (l_f26 K)))),
  decide (PySem.W.nsIn K mainGlobals "_law_box" = some (some (.ref (l_f27 K)))),
  decide (PySem.W.nsIn K mainGlobals "_law_take" = some (some (.ref (l_f28 K)))),
  decide (PySem.W.nsIn K mainGlobals "_law_digits" = some (some (.ref (l_f29 K)))),
  decide (PySem.W.nsIn K mainGlobals "_law_pairs" = some (some (.ref (l_f30 K)))),
  decide (PySem.W.nsIn K mainGlobals "_law_scheme" = some (some (.ref (l_f31 K)))),
  decide (PySem.W.nsIn K mainGlobals "_law_made" = some (some (.ref (l_f32 K)))),
  decide (PySem.W.nsIn K mainGlobals "_law_fits" = some (some (.ref (l_f33 K)))),
  decide (PySem.W.nsIn K mainGlobals "_law_value" = some (some (.ref (l_f34 K)))),
  decide (PySem.W.nsIn K mainGlobals "_law_is_row" = some (some (.ref (l_f35 K)))),
  decide (PySem.W.nsIn K mainGlobals "_law_steps" = some (some (.ref (l_f36 K)))),
  decide (PySem.W.nsIn K mainGlobals "_law_met" = some (some (.ref (l_f37 K)))),
  decide (PySem.W.nsIn K mainGlobals "_law_number" = some (some (.ref (l_f38 K)))),
  decide (PySem.W.nsIn K mainGlobals "_law_closed" = some (some (.ref (l_f39 K)))),
  decide (PySem.W.nsIn K mainGlobals "_law_row_right" = some (some (.ref (l_f40 K)))),
  decide (PySem.W.nsIn K mainGlobals "_law_first_row" = some (some (.ref (l_f41 K)))),
  decide (PySem.W.nsIn K mainGlobals "_law_asked" = some (some (.ref (l_f42 K)))),
  decide (PySem.W.nsIn K mainGlobals "_law_right" = some (some (.ref (l_f43 K)))),
  decide (PySem.W.nsIn K mainGlobals "_law_far_right" = some (some (.ref (l_f44 K)))),
  decide (PySem.W.nsIn K mainGlobals "law" = some (some (.ref (l_f45 K)))),
  decide (PySem.W.nsIn K mainGlobals "FigureError" = some (some (.ref (l_CF K)))),
  PySem.W.readsIn K (l_CF K) (.type "type"),
  decide (PySem.W.specialIn K (.ref (l_CF K)) "__getattribute__" = some (some (.builtin "type.__getattribute__"))),
  decide (OF.fcVal K (.ref (l_CF K)) (.type "type") "__init__" = some (.ref (l_fF K))),
  decide (OF.fcVal K (.type "ValueError") (.type "type") "__init__" = some (.builtin "ValueError.__init__")),
  decide (PySem.W.nsIn K mainGlobals "InvalidBase" = some (some (.ref (l_C1 K)))),
  OF.excB K (l_C1 K) [.ref (l_CF K), .type "ValueError", .type "Exception", .type "BaseException", .type "object"],
  decide (PySem.W.findIn K (.ref (l_C1 K)) "__setattr__" = some (some (.builtin "object.__setattr__"))),
  decide (PySem.W.subIn K (.ref (l_C1 K)) (.type "BaseException") = some true),
  decide (PySem.W.typeIn K (.ref (l_C1 K)) = some (.type "type")),
  PySem.W.keepIn K (.ref (l_C1 K)),
  decide (PySem.W.findIn K (.ref (l_C1 K)) "__init__" = some (some (.ref (l_fI1 K)))),
  decide (PySem.W.typeIn K (.ref (l_fI1 K)) = some (.type "function")),
  decide (PySem.W.findIn K (.ref (l_C1 K)) "value" = some none),
  decide (PySem.W.findIn K (.ref (l_C1 K)) "__getattribute__" = some (some (.builtin "BaseException.__getattribute__"))),
  decide (PySem.W.findIn K (.ref (l_C1 K)) "__getattr__" = some none),
  PySem.W.hasDictIn K (l_C1 K),
  decide (PySem.W.subIn K (.ref (l_C1 K)) (.ref (l_C1 K)) = some true),
  PySem.W.isClsIn K (l_C1 K),
  decide (PySem.W.nsIn K mainGlobals "InvalidDigits" = some (some (.ref (l_C2 K)))),
  OF.excB K (l_C2 K) [.ref (l_CF K), .type "ValueError", .type "Exception", .type "BaseException", .type "object"],
  decide (PySem.W.findIn K (.ref (l_C2 K)) "__setattr__" = some (some (.builtin "object.__setattr__"))),
  decide (PySem.W.subIn K (.ref (l_C2 K)) (.type "BaseException") = some true),
  decide (PySem.W.typeIn K (.ref (l_C2 K)) = some (.type "type")),
  PySem.W.keepIn K (.ref (l_C2 K)),
  decide (PySem.W.findIn K (.ref (l_C2 K)) "__init__" = some (some (.ref (l_fI2 K)))),
  decide (PySem.W.typeIn K (.ref (l_fI2 K)) = some (.type "function")),
  decide (PySem.W.findIn K (.ref (l_C2 K)) "value" = some none),
  decide (PySem.W.findIn K (.ref (l_C2 K)) "__getattribute__" = some (some (.builtin "BaseException.__getattribute__"))),
  decide (PySem.W.findIn K (.ref (l_C2 K)) "__getattr__" = some none),
  PySem.W.hasDictIn K (l_C2 K),
  decide (PySem.W.subIn K (.ref (l_C2 K)) (.ref (l_C2 K)) = some true),
  PySem.W.isClsIn K (l_C2 K),
  decide (PySem.W.nsIn K mainGlobals "InvalidBars" = some (some (.ref (l_C3 K)))),
  OF.excB K (l_C3 K) [.ref (l_CF K), .type "ValueError", .type "Exception", .type "BaseException", .type "object"],
  decide (PySem.W.findIn K (.ref (l_C3 K)) "__setattr__" = some (some (.builtin "object.__setattr__"))),
  decide (PySem.W.subIn K (.ref (l_C3 K)) (.type "BaseException") = some true),
  decide (PySem.W.typeIn K (.ref (l_C3 K)) = some (.type "type")),
  PySem.W.keepIn K (.ref (l_C3 K)),
  decide (PySem.W.findIn K (.ref (l_C3 K)) "__init__" = some (some (.ref (l_fI3 K)))),
  decide (PySem.W.typeIn K (.ref (l_fI3 K)) = some (.type "function")),
  decide (PySem.W.findIn K (.ref (l_C3 K)) "value" = some none),
  decide (PySem.W.findIn K (.ref (l_C3 K)) "__getattribute__" = some (some (.builtin "BaseException.__getattribute__"))),
  decide (PySem.W.findIn K (.ref (l_C3 K)) "__getattr__" = some none),
  PySem.W.hasDictIn K (l_C3 K),
  decide (PySem.W.subIn K (.ref (l_C3 K)) (.ref (l_C3 K)) = some true),
  PySem.W.isClsIn K (l_C3 K),
  decide (PySem.W.nsIn K mainGlobals "NotScheme" = some (some (.ref (l_C4 K)))),
  OF.excB K (l_C4 K) [.ref (l_CF K), .type "ValueError", .type "Exception", .type "BaseException", .type "object"],
  decide (PySem.W.findIn K (.ref (l_C4 K)) "__setattr__" = some (some (.builtin "object.__setattr__"))),
  decide (PySem.W.subIn K (.ref (l_C4 K)) (.type "BaseException") = some true),
  decide (PySem.W.typeIn K (.ref (l_C4 K)) = some (.type "type")),
  PySem.W.keepIn K (.ref (l_C4 K)),
  decide (PySem.W.findIn K (.ref (l_C4 K)) "__init__" = some (some (.ref (l_fI4 K)))),
  decide (PySem.W.typeIn K (.ref (l_fI4 K)) = some (.type "function")),
  decide (PySem.W.findIn K (.ref (l_C4 K)) "value" = some none),
  decide (PySem.W.findIn K (.ref (l_C4 K)) "__getattribute__" = some (some (.builtin "BaseException.__getattribute__"))),
  decide (PySem.W.findIn K (.ref (l_C4 K)) "__getattr__" = some none),
  PySem.W.hasDictIn K (l_C4 K),
  decide (PySem.W.subIn K (.ref (l_C4 K)) (.ref (l_C4 K)) = some true),
  PySem.W.isClsIn K (l_C4 K),
  decide (PySem.W.nsIn K mainGlobals "InvalidNumber" = some (some (.ref (l_C5 K)))),
  OF.excB K (l_C5 K) [.ref (l_CF K), .type "ValueError", .type "Exception", .type "BaseException", .type "object"],
  decide (PySem.W.findIn K (.ref (l_C5 K)) "__setattr__" = some (some (.builtin "object.__setattr__"))),
  decide (PySem.W.subIn K (.ref (l_C5 K)) (.type "BaseException") = some true),
  decide (PySem.W.typeIn K (.ref (l_C5 K)) = some (.type "type")),
  PySem.W.keepIn K (.ref (l_C5 K)),
  decide (PySem.W.findIn K (.ref (l_C5 K)) "__init__" = some (some (.ref (l_fI5 K)))),
  decide (PySem.W.typeIn K (.ref (l_fI5 K)) = some (.type "function")),
  decide (PySem.W.findIn K (.ref (l_C5 K)) "number" = some none),
  decide (PySem.W.findIn K (.ref (l_C5 K)) "__getattribute__" = some (some (.builtin "BaseException.__getattribute__"))),
  decide (PySem.W.findIn K (.ref (l_C5 K)) "__getattr__" = some none),
  PySem.W.hasDictIn K (l_C5 K),
  decide (PySem.W.subIn K (.ref (l_C5 K)) (.ref (l_C5 K)) = some true),
  PySem.W.isClsIn K (l_C5 K),
  decide (PySem.W.nsIn K mainGlobals "UnknownDigit" = some (some (.ref (l_C6 K)))),
  OF.excB K (l_C6 K) [.ref (l_CF K), .type "ValueError", .type "Exception", .type "BaseException", .type "object"],
  decide (PySem.W.findIn K (.ref (l_C6 K)) "__setattr__" = some (some (.builtin "object.__setattr__"))),
  decide (PySem.W.subIn K (.ref (l_C6 K)) (.type "BaseException") = some true),
  decide (PySem.W.typeIn K (.ref (l_C6 K)) = some (.type "type")),
  PySem.W.keepIn K (.ref (l_C6 K)),
  decide (PySem.W.findIn K (.ref (l_C6 K)) "__init__" = some (some (.ref (l_fI6 K)))),
  decide (PySem.W.typeIn K (.ref (l_fI6 K)) = some (.type "function")),
  decide (PySem.W.findIn K (.ref (l_C6 K)) "digit" = some none),
  decide (PySem.W.findIn K (.ref (l_C6 K)) "__getattribute__" = some (some (.builtin "BaseException.__getattribute__"))),
  decide (PySem.W.findIn K (.ref (l_C6 K)) "__getattr__" = some none),
  PySem.W.hasDictIn K (l_C6 K),
  decide (PySem.W.subIn K (.ref (l_C6 K)) (.ref (l_C6 K)) = some true),
  PySem.W.isClsIn K (l_C6 K),
  decide (PySem.W.nsIn K mainGlobals "Scheme" = some (some (.ref (l_CS K)))),
  PySem.W.plainGet K (l_CS K) Str.empty,
  PySem.W.hasDictIn K (l_CS K),
  PySem.W.plainOver K (l_CS K),
  decide (PySem.W.findIn K (.ref (l_CS K)) "__setattr__" = some (some (.builtin "object.__setattr__"))),
  PySem.W.makesIn K (l_CS K),
  decide (PySem.W.findIn K (.ref (l_CS K)) "_base" = some none),
  decide (PySem.W.findIn K (.ref (l_CS K)) "_digits" = some none),
  decide (PySem.W.findIn K (.ref (l_CS K)) "_bars" = some none),
  decide (PySem.W.findIn K (.ref (l_CS K)) "__class__" = some (some (.builtin "object.__class__"))),
  decide (PySem.W.specialIn K (.builtin "object.__class__") "__get__" = some (some (.builtin "getset_descriptor.__get__"))),
  decide (PySem.W.takesIn K (.builtin "object.__class__") = some true),
  decide (PySem.W.mroIn K (l_CS K) (.type "object") = some true),
  decide (PySem.W.subIn K (.ref (l_CS K)) (.ref (l_CS K)) = some true),
  PySem.W.isClsIn K (l_CS K),
  decide (PySem.W.typeIn K (.ref (l_CS K)) = some (.type "type")),
  PySem.W.keepIn K (.ref (l_CS K)),
  decide (PySem.W.findIn K (.ref (l_CS K)) "allows" = some (some (.ref (l_h1 K)))),
  PySem.W.isFn K (.ref (l_h1 K)),
  decide (PySem.W.findIn K (.ref (l_CS K)) "base" = some (some (.ref (l_pB K)))),
  decide (PySem.W.specialIn K (.ref (l_pB K)) "__get__" = some (some (.builtin "property.__get__"))),
  decide (PySem.W.takesIn K (.ref (l_pB K)) = some true),
  OF.recB K (l_pB K) "property",
  decide (PySem.W.findIn K (.ref (l_CS K)) "digits" = some (some (.ref (l_pD K)))),
  decide (PySem.W.specialIn K (.ref (l_pD K)) "__get__" = some (some (.builtin "property.__get__"))),
  decide (PySem.W.takesIn K (.ref (l_pD K)) = some true),
  OF.recB K (l_pD K) "property",
  decide (PySem.W.findIn K (.ref (l_CS K)) "__init__" = some (some (.ref (l_hN K)))),
  PySem.W.isFn K (.ref (l_hN K)),
  decide (PySem.W.nsIn K (l_DK K) "bars" = some (some (.ref (l_TD K)))),
  OF.tup0B K (l_TD K),
  decide (PySem.W.nsIn K mainGlobals "is_written" = some (some (.ref (l_fIW K)))),
  decide (PySem.W.nsIn K mainGlobals "writing" = some (some (.ref (l_fWr K)))),
  decide (PySem.W.nsIn K mainGlobals "closed_list" = some (some (.ref (l_fCl K)))),
  decide (PySem.W.nsIn K mainGlobals "is_closed_list" = some (some (.ref (l_fIc K)))),
  decide (PySem.W.nsIn K mainGlobals "len" = some none),
  decide (PySem.W.nsIn K mainGlobals "range" = some none),
  decide (PySem.W.nsIn K mainGlobals "int" = some none),
  decide (PySem.W.nsIn K mainGlobals "bool" = some none),
  decide (PySem.W.nsIn K mainGlobals "isinstance" = some none),
  decide (PySem.W.nsIn K mainGlobals "repr" = some none),
  decide (PySem.W.nsIn K mainGlobals "list" = some none),
  decide (PySem.W.nsIn K mainGlobals "tuple" = some none),
  decide (PySem.W.nsIn K mainGlobals "set" = some none),
  decide (PySem.W.nsIn K mainGlobals "sorted" = some none),
  decide (PySem.W.nsIn K mainGlobals "all" = some none),
  decide (PySem.W.nsIn K mainGlobals "max" = some none),
  decide (PySem.W.nsIn K mainGlobals "min" = some none),
  decide (PySem.W.nsIn K mainGlobals "abs" = some none),
  decide (PySem.W.nsIn K mainGlobals "ValueError" = some none),
  decide (PySem.W.nsIn K mainGlobals "reversed" = some none),
  OF.intB K "MOST_DIGITS" 6,
  OF.intB K "GREATEST_DIGIT" 9,
  OF.intB K "GREATEST_BASE" 6,
  decide (PySem.W.findIn K (.ref (l_C1 K)) "__class__" = some (some (.builtin "object.__class__"))),
  decide (PySem.W.mroIn K (l_C1 K) (.type "object") = some true),
  decide (OF.fcGet K (.ref (l_C1 K)) (.type "type") "__name__" = some ((.builtin "getset_descriptor.__get__"), (.builtin "type.__name__"), (.ref (l_C1 K)), (.type "type"))),
  decide (PySem.W.findIn K (.ref (l_C1 K)) "class_name" = some none),
  decide (PySem.W.findIn K (.ref (l_C2 K)) "__class__" = some (some (.builtin "object.__class__"))),
  decide (PySem.W.mroIn K (l_C2 K) (.type "object") = some true),
  decide (OF.fcGet K (.ref (l_C2 K)) (.type "type") "__name__" = some ((.builtin "getset_descriptor.__get__"), (.builtin "type.__name__"), (.ref (l_C2 K)), (.type "type"))),
  decide (PySem.W.findIn K (.ref (l_C2 K)) "class_name" = some none),
  decide (PySem.W.findIn K (.ref (l_C3 K)) "__class__" = some (some (.builtin "object.__class__"))),
  decide (PySem.W.mroIn K (l_C3 K) (.type "object") = some true),
  decide (OF.fcGet K (.ref (l_C3 K)) (.type "type") "__name__" = some ((.builtin "getset_descriptor.__get__"), (.builtin "type.__name__"), (.ref (l_C3 K)), (.type "type"))),
  decide (PySem.W.findIn K (.ref (l_C3 K)) "class_name" = some none),
  decide (PySem.W.findIn K (.ref (l_C4 K)) "__class__" = some (some (.builtin "object.__class__"))),
  decide (PySem.W.mroIn K (l_C4 K) (.type "object") = some true),
  decide (OF.fcGet K (.ref (l_C4 K)) (.type "type") "__name__" = some ((.builtin "getset_descriptor.__get__"), (.builtin "type.__name__"), (.ref (l_C4 K)), (.type "type"))),
  decide (PySem.W.findIn K (.ref (l_C4 K)) "class_name" = some none),
  decide (PySem.W.findIn K (.ref (l_C5 K)) "__class__" = some (some (.builtin "object.__class__"))),
  decide (PySem.W.mroIn K (l_C5 K) (.type "object") = some true),
  decide (OF.fcGet K (.ref (l_C5 K)) (.type "type") "__name__" = some ((.builtin "getset_descriptor.__get__"), (.builtin "type.__name__"), (.ref (l_C5 K)), (.type "type"))),
  decide (PySem.W.findIn K (.ref (l_C5 K)) "class_name" = some none),
  decide (PySem.W.findIn K (.ref (l_C6 K)) "__class__" = some (some (.builtin "object.__class__"))),
  decide (PySem.W.mroIn K (l_C6 K) (.type "object") = some true),
  decide (OF.fcGet K (.ref (l_C6 K)) (.type "type") "__name__" = some ((.builtin "getset_descriptor.__get__"), (.builtin "type.__name__"), (.ref (l_C6 K)), (.type "type"))),
  decide (PySem.W.findIn K (.ref (l_C6 K)) "class_name" = some none),
  decide (PySem.W.specialIn K (.builtin "object.__class__") "__get__" = some (some (.builtin "getset_descriptor.__get__"))),
  decide (PySem.W.takesIn K (.builtin "object.__class__") = some true),
  decide (PySem.W.nsIn K cStatics "thirdparty.any" = some none)]
def htf : List He.Defn := [("follower", none)]
def hn0 : List Str := ["_wall", "FigureError", "InvalidBase", "InvalidDigits", "InvalidBars", "InvalidRow", "InvalidText", "InvalidNumber", "UnknownDigit", "NotScheme", "MOST_DIGITS", "GREATEST_DIGIT", "GREATEST_BASE", "EMPTY_TEXT", "is_whole", "is_integer", "is_base", "is_digit", "are_digits", "row_text", "read_row", "left_digits", "all_left_digits", "places_behind", "follower", "graph_from", "place_graph", "first_rows", "_is_one_of", "_is_pair"]
def hn1 : List Str := ["_is_digit_list", "_different_digits", "_different_pairs", "_read_parts", "Scheme", "is_scheme", "check_scheme", "check_number", "is_right", "is_place", "_check_place", "_layers_to_zero", "_zeros", "is_written", "writing", "closed_list", "is_closed_list", "_law_cell", "_law_box", "_law_take", "_law_digits", "_law_pairs", "_law_scheme", "_law_made", "_law_fits", "_law_value", "_law_is_row", "_law_steps", "_law_met", "_law_number"]
def hn2 : List Str := ["_law_closed", "_law_row_right", "_law_first_row", "_law_asked", "_law_right", "_law_far_right"]
def hNames : List Str := hn0 ++ hn1 ++ hn2
abbrev hR : PySem.W.OpenRow := PySem.W.OpenLaw.row PySem.Challenge.rw_oddfigures_k12_whole_written_or_closed
abbrev hk : PySem.W.Hook := OF.hookL 1100 hfn htf hex
def hob (s : PySem.W.SharedT) : OF.Al := OF.obsL 1100 hfn htf hex (HandSHeadRun.getT s)
theorem hob_eq (s : PySem.W.SharedT) : hob s = hk.obs s.abs := OF.obsL_eq (HandSHeadRun.getT_eq s)
end K12H
set_option maxHeartbeats 0
namespace K12H
open PySem PySem.Spec PyProof.Rows L2 OF
theorem hrun (w : World) : HandSHeadRun.RunEq hR (PySem.W.view hR.prog [72]) hk hob 9000 hNames w := by
  intro os
  kernel_rfl
end K12H
/-! What repr shows: plain values, tuples and lists of such, dicts of ints; repr of a list of these. -/
namespace OF
open PySem PySem.Spec PyProof.Rows L2
section
variable {X : Cx} {H : Hp}
/-- v reads as d and is shown so, wherever the heap is tracked by H -/
def Rp (X : Cx) (H : Hp) (v : V) (d : PyData) : Prop := ∀ (pins : List (Addr × Obj)) (σ : L2.St) (s : Shared) (u : Value), Inv X pins σ H s → RelV v u →
  (∃ as, Reads s.heap u d as) ∧ ∃ bs, ReadAtMost s.heap d.depth bs ∧ ReprK X.prog X.w bs s.heap d.depth u d.shown
inductive RpAll (X : Cx) (H : Hp) : List V → List PyData → Prop
  | nil : RpAll X H [] []
  | cons {v : V} {d : PyData} {vs : List V} {ds : List PyData} : Rp X H v d → RpAll X H vs ds → RpAll X H (v :: vs) (d :: ds)
theorem RpAll.reads {vs : List V} {ds : List PyData} (h : RpAll X H vs ds) : ∀ {pins : List (Addr × Obj)} {σ : L2.St} {s : Shared} {us : List Value}, Inv X pins σ H s → Vals vs us →
    (∃ as, ReadsAll s.heap us ds as) ∧ ∃ bs, ReadAtMost s.heap (PyData.depthAll ds) bs ∧ ReprAllK X.prog X.w bs s.heap (PyData.depthAll ds) us (PyData.shownAll ds) := by
  induction h with
  | nil =>
    intro pins σ s us I r
    cases r
    refine ⟨⟨[], .nil⟩, [], ?_, ?_⟩
    · intro c z
      cases z
    · simp only [PyData.shownAll]
      exact .nil
  | cons h1 _ ih =>
    intro pins σ s us I r
    cases r with
    | cons r1 r2 =>
      obtain ⟨⟨as, q1⟩, b1, m1, k1⟩ := h1 pins σ s _ I r1
      obtain ⟨⟨cs, q2⟩, b2, m2, k2⟩ := ih I r2
      simp only [PyData.depthAll, PyData.shownAll]
      refine ⟨⟨as ++ cs, .cons q1 q2⟩, b1 ++ b2, (m1.mono (Nat.le_max_left _ _)).append (m2.mono (Nat.le_max_right _ _)), .cons ?_ ?_⟩
      · exact (k1.more fun c z => List.mem_append_left _ z).level_le (Nat.le_max_left _ _)
      · exact k2.more_le (fun c z => List.mem_append_right _ z) (Nat.le_max_right _ _)
/-- what the library reads -/
theorem Rp.dp {v : V} {d : PyData} (h : Dp X.K H v d) (hs : d.showable = true) (hn : d.hasDict = false) (hz : d.shown.length ≤ sizeLine) : Rp X H v d := fun pins σ s u I r => by
  obtain ⟨as, q⟩ := Dp.reads I d v u h r
  exact ⟨⟨as, q⟩, ReprK.of_reads q hs (PyData.noDict_hsm hn) hz⟩
theorem Rp.tup {a : Addr} {xs : List V} {ds : List PyData} (h : SqT X.K H a xs) (ha : RpAll X H xs ds) : Rp X H (.ref a) (.tuple ds) := fun pins σ s u I r => by
  cases r
  obtain ⟨its, rv, ⟨o, ho, hc, n, hd⟩, _⟩ := I.tuple h
  obtain ⟨⟨as, q⟩, bs, m, k⟩ := ha.reads I rv
  have R : Reads s.heap (.ref a) (.tuple ds) as := .tuple ho hc hd q
  have out : a ∉ bs := not_mem_of_deeper R (by simp only [PyData.depth]; omega) m
  refine ⟨⟨as, R⟩, a :: bs, ReadAtMost.cons R (by simp only [PyData.depth]; omega) m, ?_⟩
  simp only [PyData.depth, PyData.shown]
  exact ReprK.tuple ho hc hd out k
def keyD : Key → PyData
  | .inl i => .int i
  | .inr z => .str z
theorem pairs_read {P : Program} {w : World} {h : Heap} : ∀ (kvs : List (Key × Int)) (vs : List (Key × Value)) (es : List DictEntry), KV (kvs.map fun p => (p.1, V.int p.2)) vs → Pairs (mixKind P w) es vs →
    ReadsAll h (es.map (·.key)) ((kvs.map fun p => (keyD p.1, PyData.int p.2)).map (·.1)) [] ∧ ReadsAll h (es.map (·.val)) ((kvs.map fun p => (keyD p.1, PyData.int p.2)).map (·.2)) []
  | [], _, _, r, q => by
    cases r
    cases q
    exact ⟨.nil, .nil⟩
  | p :: kvs, _, _, r, q => by
    cases r with
    | cons r1 r2 =>
      cases q with
      | @cons en _ _ _ k1 v1 q2 =>
        obtain ⟨h1, h2⟩ := pairs_read (h := h) kvs _ _ r2 q2
        obtain ⟨e1, t, e2⟩ := r1
        constructor
        · refine ReadsAll.cons (as := []) (bs := []) ?_ h1
          rw [← e1] at k1
          rcases keyIs_shape k1 with ⟨i, t, x1, x2⟩ | ⟨z, t, x1, x2⟩
          · show Reads h en.key (keyD p.1) []
            rw [x2, show p.1 = Sum.inl i from x1]
            exact .int i t
          · show Reads h en.key (keyD p.1) []
            rw [x2, show p.1 = Sum.inr z from x1]
            exact .str z t
        · refine ReadsAll.cons (as := []) (bs := []) ?_ h2
          show Reads h en.val (.int p.2) []
          rw [v1, e2]
          exact .int _ _
theorem Rp.dct {a : Addr} {kvs : List (Key × Int)} (h : H a = some (.dK (kvs.map fun p => (p.1, V.int p.2)))) (hs : (PyData.dict (kvs.map fun p => (keyD p.1, PyData.int p.2))).showable = true) (hz : (PyData.dict (kvs.map fun p => (keyD p.1, PyData.int p.2))).shown.length ≤ sizeLine) :
    Rp X H (.ref a) (.dict (kvs.map fun p => (keyD p.1, .int p.2))) := fun pins σ s u I r => by
  cases r
  obtain ⟨_, hm, vs, rel, o, es, ep, ho, hx, hd, _, hp, _⟩ := dk_of I.hok h
  obtain ⟨h1, h2⟩ := pairs_read (h := s.heap) kvs vs es.toList rel hp
  have R : Reads s.heap (.ref a) (.dict (kvs.map fun p => (keyD p.1, .int p.2))) (a :: [] ++ []) := .dict ho hx.1 hd h1 h2
  refine ⟨⟨_, R⟩, ReprK.of_reads R hs (fun _ z => ?_) hz⟩
  have z2 : sysModules ∈ [a] := z
  rw [List.mem_singleton] at z2
  rw [← z2] at hm
  exact absurd hm (by decide)
/-- repr of a list -/
def rRepr (X : Cx) : List V → Hp → VK → Prop := fun xs H Q => ∃ (a : Addr) (ys : List V) (ds : List PyData), xs = [.ref a] ∧ SqL X.K H a ys ∧ RpAll X H ys ds ∧ PyData.depthAll ds ≤ 40 ∧ (PyData.list ds).shown.length ≤ sizeLine ∧ Q (.str (PyData.list ds).shown) H
theorem call_reprL (gu : X.A.guards = some []) (hu : X.A.units + 64 < cLine) : CallR X (.builtin "repr") (rRepr X) := by
  intro pins s σ H xs us Q I r h
  obtain ⟨a, ys, ds, rfl, hl, hd, dep, hz, q⟩ := h
  obtain ⟨u, rfl, ru⟩ := vals1 r
  cases ru
  obtain ⟨its, rv, ⟨o, n, ho, hc, _, hdat⟩, _⟩ := I.list hl
  obtain ⟨⟨as, rd⟩, bs, m, k⟩ := hd.reads I rv
  have R : Reads s.heap (.ref a) (.list ds) (a :: as) := .list ho hc hdat rd
  have out : a ∉ bs := not_mem_of_deeper R (by simp only [PyData.depth]; omega) m
  refine call_repr_slot (by omega) ⟨o, ho, hc⟩ F.slot_list_repr.toG ?_
  have fin : ∀ (h' : Heap) (t tk : Nat), (∀ c o, s.heap.get? c = some o → h'.get? c = some o) → ∃ x u, Value.str (PyData.list ds).shown t = Value.str x u ∧ EP X pins σ Q (Value.str (PyData.list ds).shown t) { s with heap := h', toks := tk } := fun h' t tk kp =>
    ⟨_, _, rfl, .str _, H, I.kept kp, ⟨_, rfl⟩, q⟩
  simp only [PyData.shown] at fin hz
  cases its with
  | nil =>
    cases rd
    simp only [PyData.shownAll, listText_nil] at fin
    exact call_list_repr_empty ⟨o, ho, hc⟩ ho hdat (fin s.heap _ _ fun _ _ z => z)
  | cons x l =>
    exact call_list_reprK (s := s) ho hc hdat out (by simpa using k.length_eq) (fun i y z => k.item i y (by simpa using z)) gu (fun b _ => Clear.nil b) (show X.A.units + 1 + (PyData.depthAll ds + 1) < cLine by omega) (fun _ _ z => z) fin hz
end
end OF
set_option maxHeartbeats 4000000
/-! Errors of the program's own classes as values: made by position and by names. -/
namespace OF
open PySem PySem.Spec PyProof.Rows L2 PySem.HandSPX
section
variable {prog : Program} {w : World} {A : Around} {E : Value → Shared → Prop} {h : Heap} {g : Array GenState} {d : Drawn} {t : Nat} {os : OsState} {nm q : Str} {C N : Addr} {bs bm bmB : List Value} {hdct ab : Bool} {sn : List Str} {sub rest : List Value} {col : Option Bool} {dd : Option Addr}
  {k0 k1 k2 k3 k5 : Option Value} {B newId initId : String} {kw : List (Str × Value)}
theorem kw_new_ok {M : Model} {Q : Unit → Shared → Prop} (F : ExcBaseFacts B newId initId bmB) (same : ∀ T : String, bm.contains (.type T) = bmB.contains (.type T)) (hC : h.get? C = some (excClassObj nm q C N bs bm hdct sn sub ab col dd k0 k1 k2 k3 k5 newId))
    (fin : Q () ⟨h, g, d, t, os⟩) : wpAny M A (checkBuiltinCall newId ⟨.ref C :: rest, kw⟩) Q E ⟨h, g, d, t, os⟩ := by
  have below : (Value.ref C :: bm).contains (.type B) = true := by
    rw [List.contains_cons, same, F.hasB]
    exact Bool.or_true _
  have short := F.noStar
  simp only [checkBuiltinCall, F.newSplit, F.newKind, F.newRow]
  repeat first
    | refine wpAny_loadPart_at hC ?_
    | (refine wpAny_isSubtype_exc hC ?_; rw [below])
    | refine wpAny_staticBase_exc hC ?_
    | refine wpAny_madeBy_exc hC ?_
    | simp only [Bool.false_eq_true, bne_self_eq_false, if_false]
    | wp_step
  exact fin

theorem kw_new_run {R : Result → Shared → Prop} (F : ExcBaseFacts B newId initId bmB) (same : ∀ T : String, bm.contains (.type T) = bmB.contains (.type T)) (hC : h.get? C = some (excClassObj nm q C N bs bm hdct sn sub ab col dd k0 k1 k2 k3 k5 newId)) (small : rest.length ≤ sizeLine)
    (fin : R (.ok (.ret (.ref (h.objs.size + 1)))) ⟨(h.push (PySem.W.kdv_tup rest)).push (excO C h.objs.size), g, d, t, os⟩) : codeAny (model prog w) A (.builtin newId ⟨.ref C :: rest, kw⟩) R ⟨h, g, d, t, os⟩ := by
  have ends := F.ends
  have inB : (Value.ref C :: bm).contains (.type B) = true := by
    rw [List.contains_cons, same, F.hasB]
    exact Bool.or_true _
  have outA : (Value.ref C :: bm).contains (.type "AttributeError") = false := by
    rw [List.contains_cons, same, F.noAttr] <;> rfl
  have outN : (Value.ref C :: bm).contains (.type "NameError") = false := by
    rw [List.contains_cons, same, F.noName] <;> rfl
  apply codeAny_builtinAt F.entry
  unfold Builtin.«BaseException.__new__»
  apply PySem.wpAt_bind
  show PySem.wpAt _ _ _ (stack >>= _) _ _ _
  apply PySem.wpAt_bind
  apply PySem.wpAt_stack
  intro p rest'
  apply PySem.wpAt_of_wpAny
  wp_walk
  apply PySem.wpAt_of_wpAny
  rw [F.owner]
  repeat first
    | with_reducible refine wpAny_madeHere_exc F.canon hC ?_
    | with_reducible refine wpAny_loadPart_at hC ?_
    | (with_reducible refine wpAny_isSubtype_exc hC ?_
       first | rw [inB] | rw [outA] | rw [outN])
    | wp_step
  show R _ _
  rw [Heap.size_push]
  exact fin
theorem kw_call_run {fI : Addr} {Q : Fin → Shared → Prop} (F : ExcBaseFacts B newId initId bmB) (same : ∀ T : String, bm.contains (.type T) = bmB.contains (.type T)) (hC : h.get? C = some (excClassObj nm q C N bs bm hdct sn sub ab col dd k0 k1 k2 k3 k5 newId)) (small : rest.length ≤ sizeLine)
    (li : PySem.W.Looks (model prog w) h (typeLookup (.ref C) "__init__") (some (.ref fI))) (lb : ∀ v, PySem.W.Looks (model prog w) h (bindSpecial (.ref fI) v) (.ref fI, [v]))
    (fin : codeAny (model prog w) A (.call (.ref fI) ⟨.ref (h.objs.size + 1) :: rest, kw⟩) (fun r s' => match r with | .ok (.ret v) => v = .none ∧ Q (.done (.ret (.ref (h.objs.size + 1)))) s' | .ok _ => False | .error e => E e s')
      ⟨(h.push (PySem.W.kdv_tup rest)).push (excO C h.objs.size), g, d, t, os⟩) : wpAny (model prog w) A (Builtin.«type.__call__» ⟨.ref C :: rest, kw⟩) Q E ⟨h, g, d, t, os⟩ := by
  repeat first
    | with_reducible refine wpAny_loadPart_at hC ?_
    | with_reducible refine wpAny_madeBy_exc hC ?_
    | wp_step
  apply codeAny_call_builtin_code (Code.quiet_builtin _ F.quiet) (kw_new_ok F same hC _)
  apply kw_new_run F same hC small
  show wpAny _ _ _ _ _ _
  have keep : ∀ c o, h.get? c = some o → ((h.push (PySem.W.kdv_tup rest)).push (excO C h.objs.size)).get? c = some o := by
    intro c o z
    exact Heap.get?_push_of_some _ (Heap.get?_push_of_some _ z)
  have hC2 := keep _ _ hC
  have there : ((h.push (PySem.W.kdv_tup rest)).push (excO C h.objs.size)).get? (h.objs.size + 1) = some (excO C h.objs.size) := by heap_get
  have self : (Value.ref C :: bm).contains (.ref C) = true := by simp
  have li2 := li.keeps keep
  have lb2 := (lb (.ref (h.objs.size + 1))).keeps keep
  unfold isInstance
  repeat first
    | with_reducible refine wpAny_loadPart_at there ?_
    | (with_reducible refine wpAny_isSubtype_exc hC2 ?_
       rw [self])
    | wp_step
  show wpAny _ _ (typeLookup (.ref C) _) _ _ _
  apply li2.at
  apply wpAny_holding
  apply wpAny_bind
  apply lb2.at
  apply wpAny_bind
  apply wpAny_call
  apply codeAny_mono fin
  intro r s' z
  cases r with
  | error e => exact z
  | ok fl =>
    cases fl with
    | next => exact z.elim
    | brk => exact z.elim
    | cont => exact z.elim
    | ret v =>
      obtain ⟨ev, z⟩ := z
      subst ev
      first
        | exact wpAny_pure (wpAny_pure z)
        | (wp_walk; exact z)
theorem kw_call {fI : Addr} {R : Result → Shared → Prop} (F : ExcBaseFacts B newId initId bmB) (same : ∀ T : String, bm.contains (.type T) = bmB.contains (.type T)) (hC : h.get? C = some (excClassObj nm q C N bs bm hdct sn sub ab col dd k0 k1 k2 k3 k5 newId)) (small : rest.length ≤ sizeLine)
    (li : PySem.W.Looks (model prog w) h (typeLookup (.ref C) "__init__") (some (.ref fI))) (lb : ∀ v, PySem.W.Looks (model prog w) h (bindSpecial (.ref fI) v) (.ref fI, [v]))
    (fin : codeAny (model prog w) (A.under (.builtin "type.__call__" ⟨.ref C :: rest, kw⟩)) (.call (.ref fI) ⟨.ref (h.objs.size + 1) :: rest, kw⟩) (PySem.W.InitBack (h.objs.size + 1) R)
      ⟨(h.push (PySem.W.kdv_tup rest)).push (excO C h.objs.size), g, d, t, os⟩) : codeAny (model prog w) A (.call (.ref C) ⟨rest, kw⟩) R ⟨h, g, d, t, os⟩ := by
  have f1 := tc_lookup
  have f2 := tc_bind (.ref C)
  have isT : (⟨h, g, d, t, os⟩ : Shared).TypeIs (.ref C) "type" := ⟨_, hC, rfl⟩
  apply codeAny_of_tree
  show wpAny _ _ (callAny (.ref C) _) _ _ _
  repeat any_goals first
    | assumption
    | with_reducible refine wpAny_loadPart_at hC ?_
    | wp_step
  constructor
  · rfl
  have typ : PySem.W.Looks (model prog w) h (isInstance (.ref C) (.type "type")) true := by
    unfold isInstance
    have ty : PySem.W.Looks (model prog w) h (typeOf (.ref C)) (.type "type") := (PySem.W.Looks.ld hC).andThen .now
    exact ty.andThen (PySem.W.Looks.of_pure tc_sub)
  apply codeAny_call_builtin_at (Code.quiet_builtin _ (by decide +kernel)) entry_typeCall
  apply PySem.W.check_slot tc_kind tc_split typ (PySem.W.tc_args _ _ _)
  apply kw_call_run F same hC small li lb
  apply codeAny_mono fin
  intro r s' z
  cases r with
  | error e => exact z
  | ok fl => cases fl <;> exact z
end
end OF
/-! Errors of the program's own classes as values: the rules. -/
namespace OF
open PySem PySem.Spec PyProof.Rows L2
/-- what the maker of an error must do, and what then holds -/
def MadeBy (C : Addr) (sp : Sp) (xs : Addr → List V) (H : Hp) (Q : VK) : Prop := ∀ a, H a = none → sp (xs a) (upd H a (exo a C none)) (fun v H2 => v = .non ∧ Q (.ref a) H2) (fun _ _ _ => False)
def tMadeP (C : Addr) (sp : Sp) (ta : TA) : TE := fun σ H Q => ta σ H fun vs H1 => vs.length ≤ 1000 ∧ MadeBy C sp (fun a => .ref a :: vs) H1 Q
def tMadeN (C : Addr) (m : Nat) (sp : Sp) (gV : List V → List V → List V) (tk : TA) : TE := fun σ H Q => tk σ H fun zs H1 => zs.length = m ∧ MadeBy C sp (fun a => gV [.ref a] zs) H1 Q
section
variable {X : Cx} {CX : CXT} {x : Str} {C fI : Addr} {k n : Nat} {fd : FuncData} {ps ks : List Str} {sp : Sp} {e : Expr} {es : List Expr} {kws : List Keyword} {ta tk : TA} {p pos : Pos} {g : List Value → List Value → List Value} {gV : List V → List V → List V}
theorem run_made {pins : List (Addr × Obj)} {σ : L2.St} {H : Hp} {s : Shared} {us ws : List Value} {vs zs : List V} {Q : VK} (T : OexC X.K C) (iC : PySem.W.findIn X.K (.ref C) "__init__" = some (some (.ref fI))) (tI : PySem.W.typeIn X.K (.ref fI) = some (.type "function"))
    (F1 : FnOk X.prog X.w X.K X.mg X.base CX k fI fd ps sp) (room : Room (k + 1) X.A) (hb : KBn X.K fd ps (n + 1) ks g gV) (hx : Passes CX X (fun _ _ _ => False)) (I : Inv X pins σ H s) (r : Vals vs us) (rz : Vals zs ws) (l1 : vs.length = n) (l2 : zs.length = ks.length) (small : vs.length ≤ 1000)
    (h : MadeBy C sp (fun a => gV (.ref a :: vs) zs) H Q) : wpAny (model X.prog X.w) X.A (call (.ref C) us (ks.zip ws)) (EP X pins σ Q) X.xe s := by
  obtain ⟨nm, q, N, bs, bm, sn, sub, ab, col, dd, k0, k1, k2, k3, k5, hC, hbm⟩ := T.cls
  obtain ⟨hp, gn, dr, t, os⟩ := s
  have le : hp.objs.size ≤ hp.objs.size + 1 := Nat.le_succ _
  have hq := h (hp.objs.size + 1) (I.hok.fresh le)
  have keep : ∀ c o, hp.get? c = some o → ((hp.push (PySem.W.kdv_tup us)).push (PySem.HandSPX.excO C hp.objs.size)).get? c = some o := by
    intro c o z
    exact Heap.get?_push_of_some _ (Heap.get?_push_of_some _ z)
  have there : ((hp.push (PySem.W.kdv_tup us)).push (PySem.HandSPX.excO C hp.objs.size)).get? (hp.objs.size + 1) = some (PySem.HandSPX.excO C hp.objs.size) := by heap_get
  have J : Inv X pins σ (upd H (hp.objs.size + 1) (exo (hp.objs.size + 1) C none)) ⟨(hp.push (PySem.W.kdv_tup us)).push (PySem.HandSPX.excO C hp.objs.size), gn, dr, t, os⟩ :=
    I.laid (t' := t) keep le (exo_ok there)
  have r1 : Vals (V.ref (hp.objs.size + 1) :: vs) (Value.ref (hp.objs.size + 1) :: us) := .cons rfl r
  have n1 : (Value.ref (hp.objs.size + 1) :: us).length = n + 1 := by rw [List.length_cons, ← r.length, l1]
  have n2 : us.length ≤ sizeLine := by
    rw [← r.length, sizeLine_eq]
    omega
  apply wpAny_call
  apply kw_call F.excBase_ValueError (fun Y => PySem.HandSPX.refsVE_contains Y bm hbm) (I.kIn _ _ hC) n2 (PySem.W.looks_findIn I.kIn iC) (fun v => PySem.W.bind_fn I.kIn v tI)
  apply codeAny_mono (F1.run _ X.stack _ _ ⟨Value.ref (hp.objs.size + 1) :: us, ks.zip ws⟩ (g (Value.ref (hp.objs.size + 1) :: us) ws) _ _ (fun _ _ _ => False) (room.make C us (ks.zip ws)) (J.env0.make C us (ks.zip ws))
    (hb.to _ (Value.ref (hp.objs.size + 1) :: us) ws J.kIn n1 (rz.length.symm.trans l2)) (hb.rel r1 rz) hq)
  intro res s' z
  cases res with
  | error er => exact hx pins σ _ _ er s' J z
  | ok fl =>
    cases fl with
    | next => cases z
    | brk => cases z
    | cont => cases z
    | ret u =>
      obtain ⟨v, H', J2, rv, ev, q2⟩ := J.after z
      subst ev
      exact ⟨rv, V.ref (hp.objs.size + 1), H', J2, rfl, q2⟩
/-- positions alone are names of none -/
theorem kb_pos (b : Binds X.K fd ps []) : KBn X.K fd ps ps.length [] (fun us _ => us) (fun vs _ => vs) := by
  constructor
  · intro s us ws KX l1 l2
    have := b s us KX (by rw [List.append_nil]; exact l1)
    rw [List.append_nil] at this
    exact this
  · intro vs us zs ws r _
    exact r
/-- C(e, ..) -/
theorem pe_madeP (T : OexC X.K C) (iC : PySem.W.findIn X.K (.ref C) "__init__" = some (some (.ref fI))) (tI : PySem.W.typeIn X.K (.ref fI) = some (.type "function")) (F1 : FnOk X.prog X.w X.K X.mg X.base CX k fI fd ps sp) (room : Room (k + 1) X.A) (b : Binds X.K fd ps [])
    (hx : Passes CX X (fun _ _ _ => False)) (hg : Gl X x) (hm : X.mg x = some (.ref C)) (ha : PA X (e :: es) ta)
    (hdb : (x == ("__debug__" : Str)) = false := by decide) (he : starEach (e :: es) X.env = (false, eval e X.env) :: starEach es X.env := by rfl) (hpl : (backTo pos (starEach es X.env)).any (·.1) = false := by rfl) :
    PE X (.Call (.Name x p) (e :: es) [] pos) (tMadeP C sp ta) := by
  constructor
  intro pins s σ H Q I h
  refine wpAny_Call_Name_kw (ld_glob I hg hm ?_ hdb)
  refine PySem.W.callWith_K (h₀ := X.base) I.ok.mod.kin T.kC (thn (ha.run pos pins s σ H _ I h) ?_) he hpl
  rintro us s1 ⟨vs, H1, I1, r1, small, q⟩
  refine ⟨I1.kIn, ?_⟩
  have hl : ps.length = vs.length + 1 := by
    have z := F1.len _ _ _ _ (q (s1.heap.objs.size + 1) (I1.hok.fresh (Nat.le_succ _)))
    rw [← z]
    rfl
  have kb := kb_pos (X := X) b
  rw [hl] at kb
  exact run_made (zs := []) (ws := []) T iC tI F1 room kb hx I1 r1 .nil rfl rfl small q
/-- C() -/
theorem pe_made0 (T : OexC X.K C) (iC : PySem.W.findIn X.K (.ref C) "__init__" = some (some (.ref fI))) (tI : PySem.W.typeIn X.K (.ref fI) = some (.type "function")) (F1 : FnOk X.prog X.w X.K X.mg X.base CX k fI fd ["self"] sp) (room : Room (k + 1) X.A) (b : Binds X.K fd ["self"] [])
    (hx : Passes CX X (fun _ _ _ => False)) (hg : Gl X x) (hm : X.mg x = some (.ref C)) (hdb : (x == ("__debug__" : Str)) = false := by decide) :
    PE X (.Call (.Name x p) [] [] pos) (tMadeP C sp tNil) := by
  constructor
  intro pins s σ H Q I h
  refine wpAny_Call_Name_kw (ld_glob I hg hm ?_ hdb)
  exact PySem.W.callWith_K0 I.kIn T.kC (run_made (n := 0) (us := []) (vs := []) (zs := []) (ws := []) T iC tI F1 room (kb_pos (X := X) b) hx I .nil .nil rfl rfl (Nat.zero_le _) h.2)
/-- C(k = e, ..) -/
theorem pe_madeN (T : OexC X.K C) (iC : PySem.W.findIn X.K (.ref C) "__init__" = some (some (.ref fI))) (tI : PySem.W.typeIn X.K (.ref fI) = some (.type "function")) (F1 : FnOk X.prog X.w X.K X.mg X.base CX k fI fd ps sp) (room : Room (k + 1) X.A) (kb : KBn X.K fd ps 1 ks g gV)
    (hx : Passes CX X (fun _ _ _ => False)) (hg : Gl X x) (hm : X.mg x = some (.ref C)) (hkw : PK X kws tk) (hall : (backToKw pos (keywordEach kws X.env)).all (·.1.isSome) = true := by rfl) (hks : (backToKw pos (keywordEach kws X.env)).filterMap (·.1) = ks := by rfl)
    (hdb : (x == ("__debug__" : Str)) = false := by decide) (hpl : ((backTo pos (starEach [] X.env)).any (·.1) || (backToKw pos (keywordEach kws X.env)).any (·.1.isNone)) = false := by rfl) :
    PE X (.Call (.Name x p) [] kws pos) (tMadeN C ks.length sp gV tk) := by
  constructor
  intro pins s σ H Q I h
  refine wpAny_Call_Name_kw (ld_glob I hg hm ?_ hdb)
  refine PySem.W.callWith_KW0 (h₀ := X.base) I.ok.mod.kin T.kC hall (thn (hkw.run pos pins s σ H _ I h) ?_) hpl
  rintro ws s2 ⟨zs, H2, I2, rz, l2, q⟩
  refine ⟨I2.kIn, ?_⟩
  rw [hks]
  exact run_made (n := 0) (us := []) (vs := []) T iC tI F1 room kb hx I2 .nil rz rfl l2 (Nat.zero_le _) q
/-- e.f of such a value -/
def tFldC (K : PySem.W.Frag) (f : Str) (te : TE) : TE := fun σ H Q => te σ H fun x H1 => ∃ (a d C : Addr) (fs : List (Str × V)) (v : V), x = .ref a ∧ XfC K C ∧ PySem.W.findIn K (.ref C) f = some none ∧ H1 a = some (exo a C (some d)) ∧ H1 d = some (exd d fs) ∧ fs.lookup f = some v ∧ Q v H1
theorem pe_fldV {f : Str} {te : TE} (he : PE X e te) (hb : attributeBase e f X.env (eval e X.env) = eval e X.env := by rfl) : PE X (.Attribute e f pos) (tFldC X.K f te) := by
  constructor
  intro pins s σ H Q I h
  refine attr_of hb (thn (he.run pins s σ H _ I h) ?_)
  rintro u s1 ⟨y, H1, I1, ru, a, d, C, fs, v, ey, T, no, ea, ed, l, q⟩
  subst ey
  cases ru
  obtain ⟨t1, ho⟩ := exo_at I1.hok ea
  obtain ⟨mA, hns, rel⟩ := exd_at I1.hok ed
  obtain ⟨od, hod, hl⟩ := lookIn_ns hns
  obtain ⟨u, hu, rv⟩ := RelO.some_of (v := v) (o := mA f) (by rw [← l]; exact rel f)
  have J : PySem.W.InstAt s1.heap a _ C (some od) := ⟨ho, rfl, rfl, hod⟩
  exact PySem.HandSPX.exc_get I1.kIn J T.ga T.gg T.exC (PySem.W.findObj_own T.hdC no rfl (by rw [hl, hu])) (handed_of rv) ⟨v, H1, I1.tok _, rv, q⟩
/-- isinstance(e, C) of such a value -/
def rAskV (K : PySem.W.Frag) : List V → Hp → VK → Prop := fun xs H Q => ∃ (a D : Addr) (d : Option Addr) (c : V) (cv : Value) (b : Bool), xs = [.ref a, c] ∧ AskC K D ∧ H a = some (exo a D d) ∧ (∀ d', d = some d' → ∃ fs, H d' = some (exd d' fs)) ∧ (∀ u, RelV c u → u = cv) ∧ PySem.W.kitOne K (.ref D) cv = some b ∧ Q (.bl b) H
theorem call_askV : CallR X (.builtin "isinstance") (rAskV X.K) := by
  intro pins s σ H xs us Q I r h
  obtain ⟨a, D, d, c, cv, b, rfl, T, ea, ed, hcv, kit, q⟩ := h
  obtain ⟨u1, u2, rfl, r1, r2⟩ := vals2 r
  cases r1
  cases hcv _ r2
  obtain ⟨t1, ho⟩ := exo_at I.hok ea
  have J : ∃ ox od, PySem.W.InstAt s.heap a ox D od := by
    cases d with
    | none => exact ⟨_, none, ho, rfl, rfl, trivial⟩
    | some d' =>
      obtain ⟨fs, e'⟩ := ed d' rfl
      obtain ⟨mA, hns, _⟩ := exd_at I.hok e'
      obtain ⟨od, hod, _⟩ := lookIn_ns hns
      exact ⟨_, some od, ho, rfl, rfl, hod⟩
  obtain ⟨ox, od, J⟩ := J
  exact PySem.W.kia_one (PySem.W.kitx_exc T.cl T.xf.ga T.xf.gg T.xf.exC T.ha T.hn T.ht T.hm) I.kIn J kit (fun z => nomatch z) fun tk => ⟨.bl b, H, I.kept (t' := tk) fun _ _ z => z, rfl, q⟩
end
end OF
/-! The error classes of the program, one promise a kind: one field, two fields, none. -/
namespace OF
open PySem PySem.Spec PyProof.Rows L2
def bmF : List Value := [.type "ValueError", .type "Exception", .type "BaseException", .type "object"]
def bmE (CF : Addr) : List Value := .ref CF :: bmF
/-- what the top says of an error class: C under the name x, its maker st at fI, bm above it -/
structure Kl (K : PySem.W.Frag) (mg : Str → Option Value) (x q : Str) (st : Stmt) (C fI : Addr) (bm : List Value) : Prop where
  g : mg x = some (.ref C)
  cls : ∃ nm q N bs sn sub ab col dd k0 k1 k2 k3 k5, K.lookup C = some (excClassObj nm q C N bs bm true sn sub ab col dd k0 k1 k2 k3 k5 "ValueError.__new__")
  sa : PySem.W.findIn K (.ref C) "__setattr__" = some (some (.builtin "object.__setattr__"))
  kC : PySem.W.keepIn K (.ref C) = true
  iC : PySem.W.findIn K (.ref C) "__init__" = some (some (.ref fI))
  tI : PySem.W.typeIn K (.ref fI) = some (.type "function")
  ga : PySem.W.findIn K (.ref C) "__getattribute__" = some (some (.builtin "BaseException.__getattribute__"))
  gg : PySem.W.findIn K (.ref C) "__getattr__" = some none
  ha : PySem.W.findIn K (.ref C) "__class__" = some (some (.builtin "object.__class__"))
  fn : ∃ fd, Fun K "__init__" q st fI fd
  fc : PySem.W.findCls K (.ref C) (.type "type") "__name__" = some (.get (.builtin "getset_descriptor.__get__") (.builtin "type.__name__") (.ref C) (.type "type"))
  nn : PySem.W.findIn K (.ref C) "class_name" = some none
  nk : ∃ (nm : Str) (o : Obj) (t : Tok), K.lookup C = some o ∧ o.cls = .type "type" ∧ o.slots[2]?.join = some (.str nm t)
section
variable {K : PySem.W.Frag} {mg : Str → Option Value} {x q : Str} {st : Stmt} {C fI : Addr} {bm : List Value}
theorem Kl.cd (T : Kl K mg x q st C fI bm) : ∃ cd, PySem.W.clsIn K C = some cd ∧ cd.mro = .ref C :: bm ∧ cd.hasDict = true := by
  obtain ⟨nm, q, N, bs, sn, sub, ab, col, dd, k0, k1, k2, k3, k5, h⟩ := T.cls
  have e : PySem.W.clsIn K C = some { name := nm, bases := bs, mro := .ref C :: bm, ns := N, qualname := q, hasDict := true, slotNames := sn, subclasses := sub, abstract := ab, collection := col, hasDel := false } := by
    unfold PySem.W.clsIn
    rw [h] <;> rfl
  exact ⟨_, e, rfl, rfl⟩
theorem Kl.sub (T : Kl K mg x q st C fI bm) (b : Value) : PySem.W.subIn K (.ref C) b = some ((Value.ref C :: bm).contains b) := by
  obtain ⟨cd, h, hm, _⟩ := T.cd
  show PySem.W.mroIn K C b = _
  unfold PySem.W.mroIn
  rw [h, Option.bind_some, hm]
  rfl
theorem Kl.ty (T : Kl K mg x q st C fI bm) : PySem.W.typeIn K (.ref C) = some (.type "type") := by
  obtain ⟨nm, q, N, bs, sn, sub, ab, col, dd, k0, k1, k2, k3, k5, h⟩ := T.cls
  show (K.lookup C).map (·.cls) = _
  rw [h] <;> rfl
theorem Kl.dic (T : Kl K mg x q st C fI bm) : PySem.W.hasDictIn K C = true := by
  obtain ⟨cd, h, _, hd⟩ := T.cd
  unfold PySem.W.hasDictIn
  rw [h]
  exact hd
/-- what stands above every error -/
structure Above (bm : List Value) : Prop where
  ve : PySem.HandSPX.refsVE bm = true
  be : ∀ C : Addr, (Value.ref C :: bm).contains (.type "BaseException") = true
  ob : ∀ C : Addr, (Value.ref C :: bm).contains (.type "object") = true
  va : ∀ C : Addr, (Value.ref C :: bm).contains (.type "ValueError") = true
theorem above_F : Above bmF := ⟨by decide +kernel, fun C => by simp [bmF], fun C => by simp [bmF], fun C => by simp [bmF]⟩
theorem above_E (CF : Addr) : Above (bmE CF) := ⟨by show PySem.HandSPX.refsVE bmF = true; decide +kernel, fun C => by simp [bmF, bmE], fun C => by simp [bmF, bmE], fun C => by simp [bmF, bmE]⟩
theorem Kl.ox (T : Kl K mg x q st C fI bm) (B : Above bm) : OexC K C := by
  obtain ⟨nm, q, N, bs, sn, sub, ab, col, dd, k0, k1, k2, k3, k5, h⟩ := T.cls
  exact ⟨⟨_, _, _, _, _, _, _, _, _, _, _, _, _, _, _, h, B.ve⟩, T.sa, (T.sub _).trans (congrArg some (B.be C)), T.ty, T.kC⟩
theorem Kl.xf (T : Kl K mg x q st C fI bm) (B : Above bm) : XfC K C := ⟨T.ga, T.gg, (T.sub _).trans (congrArg some (B.be C)), T.dic⟩
theorem Kl.ask (T : Kl K mg x q st C fI bm) (B : Above bm) (hn : PySem.W.specialIn K (.builtin "object.__class__") "__get__" = some (some (.builtin "getset_descriptor.__get__"))) (ht : PySem.W.takesIn K (.builtin "object.__class__") = some true) : AskC K C := by
  obtain ⟨cd, h, _, _⟩ := T.cd
  exact ⟨by rw [h]; rfl, T.xf B, T.ha, hn, ht, (T.sub _).trans (congrArg some (B.ob C))⟩
theorem Kl.nam (T : Kl K mg x q st C fI bm) (B : Above bm) (hn : PySem.W.specialIn K (.builtin "object.__class__") "__get__" = some (some (.builtin "getset_descriptor.__get__"))) (ht : PySem.W.takesIn K (.builtin "object.__class__") = some true) (st' : PySem.W.nsIn K cStatics "thirdparty.any" = some none) : ∃ nm, NamC K C nm := by
  obtain ⟨cd, h, _, _⟩ := T.cd
  obtain ⟨nm, o, t, lk⟩ := T.nk
  exact ⟨nm, ⟨T.xf B, by rw [h]; rfl, T.ha, hn, ht, (T.sub _).trans (congrArg some (B.ob C)), T.ty, st', T.fc, ⟨o, t, lk⟩, T.nn⟩⟩
/-- isinstance of an error of the class D, by the class C -/
theorem Kl.kit {x2 q2 : Str} {st2 : Stmt} {D fD : Addr} {bm2 : List Value} (T : Kl K mg x q st C fI bm) (U : Kl K mg x2 q2 st2 D fD bm2) : PySem.W.kitOne K (.ref D) (.ref C) = some ((Value.ref D :: bm2).contains (.ref C)) := by
  obtain ⟨cd, h, _, _⟩ := T.cd
  unfold PySem.W.kitOne
  split
  · rename_i e
    have e2 : Value.ref D = Value.ref C := eq_of_beq e
    rw [e2]
    simp
  · unfold PySem.W.kitCls
    simp only [T.ty, h, Option.isSome_some, beq_self_eq_true, Bool.and_self, if_true]
    exact U.sub _
theorem Kl.kitV (U : Kl K mg x q st C fI bm) (B : Above bm) : PySem.W.kitOne K (.ref C) (.type "ValueError") = some true := by
  unfold PySem.W.kitOne
  split
  · rfl
  · unfold PySem.W.kitCls
    simp only [show PySem.W.kitMeta "ValueError" = true by decide +kernel, if_true]
    exact (U.sub _).trans (congrArg some (B.va C))
theorem kl_mk {h : Heap} {nm q' : Str} {N : Addr} {bs sub : List Value} {sn : List Str} {ab : Bool} {col : Option Bool} {dd od an : Option Addr} {cn : Str} {tk : Tok} {k0 k1 k3 k5 : Option Value} {oc kV dc pm cd ct : Value} {sl : Array (Option Value)} (X : K.In h) (G : h.Ns mainGlobals mg)
    (a : PySem.W.nsIn K mainGlobals x = some (some (.ref C))) (l : K.lookup C = some (excClassObj nm q' C N bs bm true sn sub ab col dd k0 k1 (some (.str cn tk)) k3 k5 "ValueError.__new__"))
    (sa : PySem.W.findIn K (.ref C) "__setattr__" = some (some (.builtin "object.__setattr__"))) (kC : PySem.W.keepIn K (.ref C) = true) (iC : PySem.W.findIn K (.ref C) "__init__" = some (some (.ref fI))) (tI : PySem.W.typeIn K (.ref fI) = some (.type "function"))
    (ga : PySem.W.findIn K (.ref C) "__getattribute__" = some (some (.builtin "BaseException.__getattribute__"))) (gg : PySem.W.findIn K (.ref C) "__getattr__" = some none) (ha : PySem.W.findIn K (.ref C) "__class__" = some (some (.builtin "object.__class__")))
    (lI : K.lookup fI = some ⟨oc, od, .func (PySem.W.fnOf "__init__" q (defArgs st) (defBody st) (defScope st) .none kV dc pm an cd ct), sl⟩) (cI : PySem.W.codeIn K cd q = true) (kI : PySem.W.keepIn K (.ref fI) = true)
    (fc : PySem.W.findCls K (.ref C) (.type "type") "__name__" = some (.get (.builtin "getset_descriptor.__get__") (.builtin "type.__name__") (.ref C) (.type "type"))) (nn : PySem.W.findIn K (.ref C) "class_name" = some none) : Kl K mg x q st C fI bm :=
  ⟨PySem.W.mg_of X G a, ⟨_, _, _, _, _, _, _, _, _, _, _, _, _, _, l⟩, sa, kC, iC, tI, ga, gg, ha, ⟨_, fun_mk lI cI kI⟩, fc, nn, ⟨cn, _, tk, l, rfl, rfl⟩⟩
end

/-! ### errors in the heap -/
/-- an error of the class C with the fields fs -/
def IsE (C : Addr) (fs : List (Str × V)) (H : Hp) (a : Addr) : Prop := ∃ d rest, H a = some (exo a C (some d)) ∧ H d = some (exd d (fs ++ rest))
/-- an error of the class C -/
def Err (C : Addr) (H : Hp) (a : Addr) : Prop := ∃ d, H a = some (exo a C d) ∧ ∀ d', d = some d' → ∃ fs, H d' = some (exd d' fs)
theorem IsE.same {C a : Addr} {fs : List (Str × V)} {H H' : Hp} (h : IsE C fs H a) (s : Same H H') : IsE C fs H' a := by
  obtain ⟨d, r, h1, h2⟩ := h
  exact ⟨d, r, s _ _ h1, s _ _ h2⟩
theorem IsE.err {C a : Addr} {fs : List (Str × V)} {H : Hp} (h : IsE C fs H a) : Err C H a := by
  obtain ⟨d, r, h1, h2⟩ := h
  exact ⟨some d, h1, fun d' e => by cases e; exact ⟨_, h2⟩⟩
theorem Err.same {C a : Addr} {H H' : Hp} (h : Err C H a) (s : Same H H') : Err C H' a := by
  obtain ⟨d, h1, h2⟩ := h
  refine ⟨d, s _ _ h1, fun d' e => ?_⟩
  obtain ⟨fs, h3⟩ := h2 d' e
  exact ⟨fs, s _ _ h3⟩
/-- X.__init__ of two fields -/
def spInit2 (f g : Str) (C : Addr) : Sp := fun vs H Q _ => ∃ (a : Addr) (v u : V), vs = [.ref a, v, u] ∧ H a = some (exo a C none) ∧ ∀ (fs : List (Str × V)) (d : Addr), H d = none → d ≠ a → Q .non (upd (upd H d (exd d ((g, u) :: (f, v) :: fs))) a (exo a C (some d)))
/-- X.__init__ of none -/
def spInit0 (C : Addr) : Sp := fun vs H Q _ => ∃ a : Addr, vs = [.ref a] ∧ H a = some (exo a C none) ∧ ∀ (fs : List (Str × V)) (d : Addr), H d = none → d ≠ a → Q .non (upd (upd H d (exd d fs)) a (exo a C (some d)))
section
variable {K : PySem.W.Frag} {C : Addr} {f g : Str} {v u : V} {H : Hp} {Q : VK}
theorem same_two {H : Hp} {a d : Addr} {x y z : HO} (ha : H a = none) (hd : upd H a z d = none) (ne : d ≠ a) : Same H (upd (upd (upd H a z) d x) a y) := by
  rw [upd_ne ne] at hd
  intro b o hb
  rw [upd_ne (ne_of_none hb ha), upd_ne (ne_of_none hb hd), upd_ne (ne_of_none hb ha)]
  exact hb
theorem made1 (h : ∀ a H', Same H H' → IsE C [(f, v)] H' a → Q (.ref a) H') : MadeBy C (spInit K f C) (fun a => [.ref a, v]) H Q := fun a ha => by
  refine ⟨a, v, rfl, upd_same, fun fs d hd ne => ⟨rfl, h a _ (same_two ha hd ne) ⟨d, fs, upd_same, ?_⟩⟩⟩
  rw [upd_ne ne]
  exact upd_same
theorem made2 (h : ∀ a H', Same H H' → IsE C [(g, u), (f, v)] H' a → Q (.ref a) H') : MadeBy C (spInit2 f g C) (fun a => [.ref a, v, u]) H Q := fun a ha => by
  refine ⟨a, v, u, rfl, upd_same, fun fs d hd ne => ⟨rfl, h a _ (same_two ha hd ne) ⟨d, fs, upd_same, ?_⟩⟩⟩
  rw [upd_ne ne]
  exact upd_same
theorem made0 (h : ∀ a H', Same H H' → Err C H' a → Q (.ref a) H') : MadeBy C (spInit0 C) (fun a => [.ref a]) H Q := fun a ha => by
  refine ⟨a, rfl, upd_same, fun fs d hd ne => ⟨rfl, h a _ (same_two ha hd ne) ⟨some d, upd_same, fun d' e => ?_⟩⟩⟩
  cases e
  exact ⟨fs, by rw [upd_ne ne]; exact upd_same⟩
theorem made_F {nm : Str} (T : OexC K C) (N : NamC K C nm) (h : ∀ a H', Same H H' → Err C H' a → Q (.ref a) H') : MadeBy C (spFig K) (fun a => [.ref a, v]) H Q := fun a ha => by
  refine ⟨a, C, v, nm, rfl, T, N, upd_same, fun d hd ne => ⟨rfl, h a _ (same_two ha hd ne) ⟨some d, upd_same, fun d' e => ?_⟩⟩⟩
  cases e
  exact ⟨_, by rw [upd_ne ne]; exact upd_same⟩
end

/-! ### lists of the same things -/
/-- l == l2, two lists of the very same things -/
def rEqSame (K : PySem.W.Frag) : R2 := fun x y H Q => ∃ (l l2 : Addr) (xs : List V), x = .ref l ∧ y = .ref l2 ∧ SqL K H l xs ∧ SqL K H l2 xs ∧ (∀ v ∈ xs, flatB v = true ∨ ∃ a, v = .ref a) ∧ Q (.bl true) H
theorem op_eqSame {X : Cx} (hu : X.A.units + 64 < cLine) : OpR X (compareOp .Eq) (rEqSame X.K) := by
  intro pins s σ H x y v u Q I rx ry h
  obtain ⟨l, l2, xs, rfl, rfl, h1, h2, hs, q⟩ := h
  cases rx
  cases ry
  obtain ⟨us, r1, p1, _⟩ := I.list h1
  obtain ⟨ws, r2, p2, _⟩ := I.list h2
  have n1 := r1.length
  have n2 := r2.length
  have hsz : us.toArray.size = ws.toArray.size := by
    rw [List.size_toArray, List.size_toArray]
    omega
  have key := SeqAt.RcAt.lists (A := X.A) (e := fun _ => true) p1.isList p2.isList hsz (by omega) (fun j h1 h2 => ?_)
  · refine key X.prog X.w _ _ ?_
    rw [show ((List.range us.toArray.size).all fun _ => true) = true from List.all_eq_true.mpr fun _ _ => rfl]
    exact ⟨.bl true, H, I, rfl, q⟩
  · have j1 : j < us.length := by simpa using h1
    have jx : j < xs.length := by omega
    obtain ⟨a, ea, ra⟩ := Vals.get r1 (List.getElem?_eq_getElem jx)
    obtain ⟨b, eb, rb⟩ := Vals.get r2 (List.getElem?_eq_getElem jx)
    have e1 : us.toArray[j] = a := by
      have := List.getElem?_eq_getElem j1
      rw [this] at ea
      simpa using Option.some.inj ea
    have e2 : ws.toArray[j] = b := by
      have j2 : j < ws.length := by omega
      have := List.getElem?_eq_getElem j2
      rw [this] at eb
      simpa using Option.some.inj eb
    rw [e1, e2]
    rcases hs _ (List.getElem_mem jx) with hf | ⟨p, hp⟩
    · exact eqAt_same ra rb hf
    · rw [hp] at ra rb
      cases ra
      cases rb
      exact SeqAt.EqAt.same _
/-- comprehensions over enumerate of a list that stays -/
theorem lc_enum {K : PySem.W.Frag} {a : Addr} {xs : List V} {g : TG} {tt : TT} {te : TE} {vs : List Nat} {σ : L2.St} {H1 : Hp} {D : Addr} {Qd : Hp → Prop} (Pv : Nat → Hp → Prop) (h0 : Pv 0 (upd H1 D (.lst []))) (hl : ∀ i H, i ≤ xs.length → Pv i H → SqL K H a xs)
    (hs : ∀ (i : Nat) x H T, xs[i]? = some x → Pv i H → H T = none → g (.ref T) (wipe σ vs) (upd H T (.tup [.int (i : Int), x])) fun σ2 H2 => wipe σ2 vs = wipe σ vs ∧ tt σ2 H2 fun b H3 =>
      if b = true then te σ2 H3 fun y H4 => ∃ acc, H4 D = some (.lst acc) ∧ acc.length < sizeLine ∧ Pv (i + 1) (upd H4 D (.lst (acc ++ [y]))) else Pv (i + 1) H3) (hd : ∀ H, Pv xs.length H → Qd H) :
    ∃ W : Nat → Nat → Hp → Prop, (∃ m, W 0 m (upd H1 D (.lst []))) ∧ ∀ i m H, W i m H →
      ((Ite K a).stop i H ∧ Qd H) ∨ ((Ite K a).go i H ∧ ∃ Nx : Hp → Prop, (∀ H', Nx H' → ∃ m', m' < m ∧ W (i + 1) m' H') ∧ ∀ x H', (Ite K a).yld i H x H' → g x (wipe σ vs) H' fun σ2 H2 => wipe σ2 vs = wipe σ vs ∧ tt σ2 H2 fun b H3 =>
        if b = true then te σ2 H3 fun y H4 => ∃ acc, H4 D = some (.lst acc) ∧ acc.length < sizeLine ∧ Nx (upd H4 D (.lst (acc ++ [y]))) else Nx H3) := by
  refine ⟨fun i m H => m = xs.length - i ∧ i ≤ xs.length ∧ Pv i H, ⟨xs.length, by simp, Nat.zero_le _, h0⟩, ?_⟩
  rintro i m H ⟨em, hi, p⟩
  subst em
  have q := hl i H hi p
  rcases Nat.lt_or_ge i xs.length with hlt | hge
  · right
    refine ⟨⟨xs, xs[i], q, List.getElem?_eq_getElem hlt⟩, Pv (i + 1), fun H' p' => ⟨xs.length - (i + 1), by omega, rfl, hlt, p'⟩, ?_⟩
    rintro z H' ⟨T, x, ez, hT, eH, hx⟩
    subst ez
    subst eH
    exact hs i x H T (hx xs q) p hT
  · left
    have e : i = xs.length := by omega
    subst e
    exact ⟨⟨xs, q, Nat.le_refl _⟩, hd H p⟩
end OF
set_option maxHeartbeats 4000000
/-! set(xs) of a list or tuple of ints, sorted of it. -/
namespace OF
open PySem PySem.Spec PyProof.Rows L2
/-- an empty set, just made -/
abbrev setObj0 (w : World) : Obj := { cls := .type "set", dict := none, data := .set #[] 0 (.fresh 0 0 (!w.params.followText "set-order")) }
section
variable {P : Program} {w : World} {A : Around} {E : Value → Shared → Prop}
theorem set_of_list {h : Heap} {g : Array GenState} {d : Drawn} {t : Nat} {os : OsState} {l : Addr} {xs : Array Value} (ns : List Int) {Q : Value → Shared → Prop} (calm : A.handled = none) (lst : h.IsList l xs) (allInt : IntsAre xs.toList ns) (few : ns.length + 1 < scanBound)
    (fin : ∀ (h' : Heap) (tk c : Nat), SetR w h' h.objs.size (fun j => decide (j ∈ ns)) c → c ≤ ns.length → (∀ b o, h.get? b = some o → h'.get? b = some o) → Q (.ref h.objs.size) ⟨h', g, d, tk, os⟩) :
    wpAny (model P w) A (call (.type "set") [.ref l]) Q E ⟨h, g, d, t, os⟩ := by
  have size : xs.size = ns.length := by
    rw [← Array.length_toList]
    exact allInt.length
  obtain ⟨c, tl, hmro⟩ := F.called_set.mro
  have f1 := F.called_set.made
  have f2 := F.called_set.sub
  have f3 := F.called_set.notType
  have f4 := F.called_set.canCreate
  have f5 := F.typeCall_set_1 (.ref l)
  apply wpAny_call
  apply codeAny_of_tree
  show wpAny _ _ (callAny (.type "set") _) _ _ _
  apply wpAny_pure
  refine ⟨Code.quiet_builtin _ (by decide +kernel), codeAny_builtin F.entry_type_call ?_⟩
  rw [Around.under_plain (weight_type_call_type "set" [.ref l] []) rfl]
  repeat any_goals first
    | assumption
    | wp_step
  refine codeAny_mono (code_set_led1 (s := ⟨h, g, d, t, os⟩) (.ref l) (E := E) (Q₁ := fun v s1 => v = .ref h.objs.size ∧ s1 = ⟨h.push (setObj0 w), g, d, t, os⟩) ⟨rfl, rfl⟩) ?_
  intro r s1 z
  cases r with
  | error e => exact z
  | ok fl =>
    cases fl with
    | next => exact z.elim
    | brk => exact z.elim
    | cont => exact z.elim
    | ret v =>
      obtain ⟨ev, es⟩ := z
      subst ev es
      have there : (h.push (setObj0 w)).get? h.objs.size = some (setObj0 w) := Heap.get?_push_size _ rfl
      have isSet : Shared.TypeIs ⟨h.push (setObj0 w), g, d, t, os⟩ (.ref h.objs.size) "set" := ⟨_, there, rfl⟩
      have i1 := F.called_set.init.lookup
      have i2 := F.called_set.init.bind (.ref h.objs.size)
      repeat any_goals first
        | assumption
        | wp_step
      refine codeAny_mono (codeAny_call_builtin (R := wants (fun r s2 => r = .none ∧ ∃ h' tk c, s2 = ⟨h', g, d, tk, os⟩ ∧ SetR w h' h.objs.size (fun j => decide (j ∈ ns)) c ∧ c ≤ ns.length ∧ (∀ b o, h.get? b = some o → h'.get? b = some o)) E)
        F.called_set.init.plain F.entry_set_init (check_set_init_1 isSet ?inner)) ?outer
      case outer =>
        intro r2 s2 z2
        cases r2 with
        | error e => exact z2
        | ok fl2 =>
          cases fl2 with
          | next => exact z2.elim
          | brk => exact z2.elim
          | cont => exact z2.elim
          | ret v2 =>
            obtain ⟨ev, h', tk, c', es, hS, hc, hk⟩ := z2
            subst ev es
            repeat any_goals first
              | assumption
              | wp_step
            exact fin _ _ _ hS hc hk
      case inner =>
        obtain ⟨o1, ho1, hc1, m1, hd1⟩ := lst
        obtain ⟨k1, k2, k3, k4⟩ := o1
        simp only at hc1 hd1
        subst hc1 hd1
        have there2 : (h.push (setObj0 w)).get? l = some { cls := .type "list", dict := k2, data := .seq xs m1, slots := k4 } := Heap.get?_push_of_some _ ho1
        have s1 := F.sub_list_set
        have s2 := F.sub_list_frozenset
        have apart : (Value.type "list" == Value.type "dict") = false := by decide
        have lst1 : (h.push (setObj0 w)).IsList l xs := ⟨_, there2, rfl, m1, rfl⟩
        unfold Builtin.«set.__init__» noKeywords Builtin.Frozenset.updateFrom
        generalize same : pyIter = PI
        wp_walk
        subst same
        apply wpAny_pyIter_list lst1
        apply wpAny_bind
        apply wpAny_runValue
        have below : l < h.objs.size := Heap.lt_size ho1
        have calm3 : A.in1.in1.in1.handled = none := by simp [calm]
        have sz : (h.push (setObj0 w)).objs.size = h.objs.size + 1 := Heap.size_push ..
        have ne1 : l ≠ (h.push (setObj0 w)).objs.size := by
          rw [sz]
          exact Nat.ne_of_lt (Nat.lt_succ_of_lt below)
        have ne2 : h.objs.size ∉ [(h.push (setObj0 w)).objs.size, l] := by
          rw [sz]
          simp only [List.mem_cons, List.not_mem_nil, or_false, not_or]
          exact ⟨Nat.ne_of_lt (Nat.lt_succ_self _), Nat.ne_of_gt below⟩
        have vals : ∀ (i : Nat) (v : Value), xs[i]? = some v → ∃ k t, ns[i]? = some k ∧ v = .int k t := by
          intro i v hv
          have hi : i < ns.length := by
            rw [← size]
            exact (Array.getElem?_eq_some_iff.mp hv).1
          obtain ⟨t, e⟩ := PyProof.Rows.IntsAre.int_at allInt i v (by rw [Array.getElem?_toList]; exact hv)
          rw [List.getD_eq_getElem?_getD, List.getElem?_eq_getElem hi] at e
          exact ⟨ns[i], t, List.getElem?_eq_getElem hi, e⟩
        refine set_update_ints ((Walks.list calm3 _ l ne1 xs).toS) h.objs.size ne2 ns size few vals (xs.size - 0) 0 _ (by omega) (Nat.zero_le _) ⟨⟨_, Heap.get?_push_size _ rfl, rfl, rfl⟩, (lst1.push _)⟩ ?start ?stop
        case start =>
          have got : ((h.push (setObj0 w)).push { cls := .type "list_iterator", data := .fields #[.ref l, .int 0 0] }).get? h.objs.size = some (setObj0 w) := Heap.get?_push_of_some _ there
          exact ⟨0, Nat.le_refl 0, setR_new_at got⟩
        case stop =>
          intro s' c' hm hc' hS
          obtain ⟨h', g2, d2, tk, os2⟩ := s'
          have eg : g2 = g := hm.gens
          have ed : d2 = d := hm.drawn
          have eo : os2 = os := hm.os
          subst eg ed eo
          show wpAny _ _ _ _ _ _
          apply wpAny_pure
          show wpAny _ _ (ret Value.none) _ _ _
          rw [size] at hc'
          apply wpAny_pure
          refine ⟨rfl, h', tk, c', rfl, hS, hc', fun b o z => ?_⟩
          have b0 : b < h.objs.size := Heap.lt_size z
          refine hm.heap b o ?_ (Heap.get?_push_of_some _ (Heap.get?_push_of_some _ z))
          simp only [List.mem_cons, List.not_mem_nil, or_false, not_or]
          rw [sz]
          exact ⟨Nat.ne_of_lt b0, Nat.ne_of_lt (Nat.lt_succ_of_lt b0)⟩
end
section
variable {X : Cx}
/-- set(xs): xs a list or tuple of ints -/
def rSetB (K : PySem.W.Frag) (w : World) : List V → Hp → VK → Prop := fun xs H Q => ∃ (l : Addr) (ns : List Int), xs = [.ref l] ∧ (SqL K H l (ns.map V.int) ∨ SqT K H l (ns.map V.int)) ∧ ns.length ≤ 4000 ∧
  ∀ (p : Addr) (ks : List Int), H p = none → ks.Nodup → (∀ k, k ∈ ks ↔ k ∈ ns) → Q (.ref p) (upd H p (SetO w p (fun j => decide (j ∈ ns)) ks.length))
theorem ints_vals : ∀ {ns : List Int} {us : List Value}, Vals (ns.map V.int) us → IntsAre us ns
  | [], _, .nil => .nil
  | _ :: ns, _, .cons r t => by
    obtain ⟨k, rfl⟩ := r
    exact .cons _ k (ints_vals t)
theorem cr_setB (hc : X.calm = true) : CallR X (.type "set") (rSetB X.K X.w) := by
  intro pins s σ H xs us Q I r h
  obtain ⟨l, ns, rfl, hl, few, q⟩ := h
  obtain ⟨u, rfl, ru⟩ := vals1 r
  cases ru
  have hn : H s.heap.objs.size = none := I.hok.fresh (Nat.le_refl _)
  have room : ns.length + 1 < scanBound := by
    unfold scanBound
    omega
  have fin : ∀ (h' : Heap) (tk c : Nat), SetR X.w h' s.heap.objs.size (fun j => decide (j ∈ ns)) c → c ≤ ns.length → (∀ b o, s.heap.get? b = some o → h'.get? b = some o) → EP X pins σ Q (.ref s.heap.objs.size) { s with heap := h', toks := tk } := by
    intro h' tk c R hc2 k
    have R2 := R
    obtain ⟨o, es, ep, st, _, _, _, _, nd, mem, _, _, ec, _⟩ := R2
    have e : (es.toList.map keyOf).length = c := by rw [List.length_map, Array.length_toList, ec]
    have q2 := q s.heap.objs.size (es.toList.map keyOf) hn nd fun k => ⟨fun z => of_decide_eq_true ((mem k).mpr z), fun z => (mem k).mp (decide_eq_true z)⟩
    rw [e] at q2
    exact ⟨.ref s.heap.objs.size, _, I.laid (t' := tk) k (Nat.le_refl _) (setO_new R), rfl, q2⟩
  rcases hl with hl | hl
  · obtain ⟨its, rv, pl, _⟩ := I.list hl
    obtain ⟨hp, g, d, t, os⟩ := s
    exact set_of_list ns (I.ok.hd hc) pl.isList (by simpa using ints_vals rv) room fin
  · obtain ⟨its, rv, pl, _⟩ := I.tuple hl
    exact call_set_tupI ns (I.ok.hd hc) pl (by simpa using ints_vals rv) room fin
/-- .. of few ints -/
def rSetI (K : PySem.W.Frag) (w : World) : List V → Hp → VK → Prop := fun xs H Q => ∃ (l : Addr) (ns : List Int), xs = [.ref l] ∧ (SqL K H l (ns.map V.int) ∨ SqT K H l (ns.map V.int)) ∧ ns.length ≤ 60 ∧
  ∀ (p : Addr) (ks : List Int), H p = none → ks.Nodup → (∀ k, k ∈ ks ↔ k ∈ ns) → Q (.ref p) (upd H p (SetO w p (fun j => decide (j ∈ ns)) ks.length))
theorem cr_setI (hc : X.calm = true) : CallR X (.type "set") (rSetI X.K X.w) := fun pins s σ H xs us Q I r ⟨l, ns, e, hl, few, q⟩ => cr_setB hc pins s σ H xs us Q I r ⟨l, ns, e, hl, Nat.le_trans few (by decide), q⟩
/-- len of such a set -/
def rLenSetO (w : World) : List V → Hp → VK → Prop := fun xs H Q => ∃ (a : Addr) (S : Int → Bool) (n : Nat), xs = [.ref a] ∧ H a = some (SetO w a S n) ∧ Q (.int n) H
theorem call_lenSetO : CallR X (.builtin "len") (rLenSetO X.w) := by
  intro pins s σ H xs us Q I r h
  obtain ⟨a, S, n, rfl, ha, q⟩ := h
  obtain ⟨u, rfl, ru⟩ := vals1 r
  cases ru
  obtain ⟨o, es, ep, t, ho, hx, hd, _, _, _, fits, small, en, _⟩ := setO_get I ha
  refine call_len_set ho hx hd small (by unfold scanBound at fits; omega) ⟨.int n, H, I.tok _, ⟨_, by rw [en]⟩, q⟩
end
end OF
set_option maxHeartbeats 4000000
/-! sorted(set(..)) of pairs of any ints. -/
namespace OF
open PySem PySem.Spec PyProof.Rows L2
theorem perm_back {α β : Type} {f : α → β} {l m : List β} (h : l.Perm m) : ∀ L : List α, m = L.map f → ∃ L' : List α, L'.Perm L ∧ l = L'.map f := by
  induction h with
  | nil =>
    intro L e
    exact ⟨L, List.Perm.refl _, e⟩
  | cons x _ ih =>
    intro L e
    cases L with
    | nil => cases e
    | cons y L =>
      have e2 := List.cons.inj e
      obtain ⟨L', p, q⟩ := ih L e2.2
      exact ⟨y :: L', p.cons y, by rw [q, e2.1]; rfl⟩
  | swap x y l =>
    intro L e
    match L, e with
    | [], e => cases e
    | [_], e => cases (List.cons.inj e).2
    | a :: b :: L, e =>
      obtain ⟨e1, e2⟩ := List.cons.inj e
      obtain ⟨e3, e4⟩ := List.cons.inj e2
      exact ⟨b :: a :: L, List.Perm.swap _ _ _, by rw [e1, e3, e4]; rfl⟩
  | trans _ _ ih1 ih2 =>
    intro L e
    obtain ⟨L2, p2, q2⟩ := ih2 L e
    obtain ⟨L1, p1, q1⟩ := ih1 L2 q2
    exact ⟨L1, p1.trans p2, q1⟩
/-- a list of two ints as a pair -/
def duo : List Int → Int × Int
  | [x, y] => (x, y)
  | _ => (0, 0)
section
variable {P : Program} {w : World} {A : Around} {E : Value → Shared → Prop} {s : Shared}
theorem sorted_set_duos {a : Addr} {L : List (Addr × List Int)} {es : Array (Int × Value)} {ep : Nat} {t : SetTable} {Q : Value → Shared → Prop} (R : SetTR P w s.heap a L es ep t) (calm : A.handled = none) (two : ∀ p ∈ L, p.2.length = 2)
    (fin : ∀ (s' : Shared) (p : Addr) (out : List Value) (c : Nat) (L' : List (Addr × List Int)), (∀ b o, s.heap.get? b = some o → s'.heap.get? b = some o) → s'.gens = s.gens → s'.os = s.os → s.heap.objs.size ≤ p →
      s'.heap.get? p = some (seqObj "list" out.toArray c) → out = L'.map (fun q => Value.ref q.1) → L'.Perm L → L'.Pairwise (fun q r => SrtO.lexB (duo r.2) (duo q.2) = false) → Q (.ref p) s') : wpAny (model P w) A (call (.builtin "sorted") [.ref a]) Q E s := by
  obtain ⟨o, ho, hx, hd⟩ := R.ob
  have hsz := R.size
  have few := R.few
  apply Calls.call_function_entry kind_sorted plain_sorted entry_sorted (args_sorted1 _)
  unfold Builtin.«sorted»
  refine wpAny_bind (m := checkCount "sorted" 1 1 _) (wpAny_pure ?_)
  apply wpAny_bind
  apply collect_set (A := A.in1) calm ⟨o, ho, hx.1, hd⟩ R.fits (by unfold scanBound; omega) R.tab.ris R.led
  intro s1 vs k1 z1 g1 o1 pm
  have rows : es.toList.map (·.2) = L.map fun q => Value.ref q.1 := by
    rw [R.rows]
    unfold rowsOf
    rw [List.map_map] <;> rfl
  rw [rows] at pm
  have short : vs.length < 64 := by
    rw [pm.length_eq, List.length_map]
    exact few
  have room : vs.length ≤ sizeLine := by
    rw [sizeLine_eq]
    omega
  refine wpAny_bind (wpAny_newList ?_ room)
  have laid : (s1.heap.push (seqObj "list" vs.toArray 0)).get? s1.heap.objs.size = some (seqObj "list" vs.toArray 0) := Heap.get?_push_size _ rfl
  have tup : ∀ q ∈ L, TS.TupInts (s1.heap.push (seqObj "list" vs.toArray 0)) (.ref q.1) q.2 := by
    intro q hq
    exact tupInts_of (P := P) (w := w) (isT_keep (R.tup q hq) fun b u e => Heap.get?_push_of_some _ (k1 b u e))
  have pair : ∀ v ∈ vs, Srt.IsPair (s1.heap.push (seqObj "list" vs.toArray 0)) v (duo (TS.intsOf (s1.heap.push (seqObj "list" vs.toArray 0)) v)).1 (duo (TS.intsOf (s1.heap.push (seqObj "list" vs.toArray 0)) v)).2 := by
    intro v hv
    obtain ⟨q, hq, e⟩ := List.mem_map.mp (pm.mem_iff.mp hv)
    subst e
    rw [(tup q hq).ints]
    obtain ⟨b, xs, e1, ⟨u, hu, hc, m, hd2⟩, ii⟩ := tup q hq
    have l2 := two q hq
    match hq2 : q.2, l2 with
    | [x, y], _ =>
      rw [hq2] at ii
      obtain ⟨xl⟩ := xs
      cases ii with
      | cons t1 k1' r1 => cases r1 with
        | cons t2 k2' r2 => cases r2 with
          | nil => exact ⟨b, u, _, _, m, e1, hu, hc, hd2⟩
  refine wpAny_bind (wpAny_holding (wpAny_call_entry slot_list_sort ⟨_, laid, rfl⟩ entry_list_sort (SrtO.list_sort_ord (s := { s1 with heap := s1.heap.push (seqObj "list" vs.toArray 0) }) (SrtO.swo_lex fun v => duo (TS.intsOf (s1.heap.push (seqObj "list" vs.toArray 0)) v)) laid room (fun h2 => ?sorts) fun out hs hb => ⟨_, rfl, ?done⟩) (args_list_sort _)))
  case sorts =>
    refine SrtO.pairs_sortableO (by omega) pair ?_
    intro u hu c
    rw [laid] at hu
    have := Option.some.inj hu
    subst this
    exact absurd (Value.type.inj c) (by decide)
  case done =>
    obtain ⟨c, hc⟩ := sortedHeap_at (vs := vs) (out := out.toArray) laid
    obtain ⟨L', pL, eL⟩ := perm_back (hb.perm.trans pm) L rfl
    refine wpAny_pure ⟨_, rfl, fin _ s1.heap.objs.size out c L' ?_ g1 o1 z1 hc eL pL ?_⟩
    · intro b u e
      have q := k1 b u e
      have lt := Heap.lt_size q
      show (sortedHeap (s1.heap.push (seqObj "list" vs.toArray 0)) s1.heap.objs.size vs out.toArray).get? b = some u
      rw [sortedHeap_old (Nat.ne_of_lt lt) (by rw [size_push']; exact Nat.lt_succ_of_lt lt)]
      exact Heap.get?_push_of_some _ q
    · have hs2 := hs
      rw [eL] at hs2
      refine List.Pairwise.imp_of_mem (fun {q r} hq hr z => ?_) (List.pairwise_map.mp hs2)
      have z2 : SrtO.lexB (duo (TS.intsOf (s1.heap.push (seqObj "list" vs.toArray 0)) (.ref r.1))) (duo (TS.intsOf (s1.heap.push (seqObj "list" vs.toArray 0)) (.ref q.1))) = false := z
      rw [(tup q (pL.mem_iff.mp hq)).ints, (tup r (pL.mem_iff.mp hr)).ints] at z2
      exact z2
end
section
variable {X : Cx}
/-- sorted of a set of pairs of ints -/
def rSortedDuo (K : PySem.W.Frag) (P : Program) (w : World) : List V → Hp → VK → Prop := fun vs H Q => ∃ (a : Addr) (L : List (Addr × List Int)), vs = [V.ref a] ∧ H a = some (SetTO P w a L) ∧ (∀ p ∈ L, SqT K H p.1 (p.2.map V.int)) ∧ (∀ p ∈ L, p.2.length = 2) ∧
  ∀ (L' : List (Addr × List Int)) (p : Addr), L'.Perm L → (L'.map (·.2)).Nodup → L'.length < 64 → L'.Pairwise (fun q r => SrtO.lexB (duo r.2) (duo q.2) = false) → H p = none → Q (.ref p) (upd H p (.lst (L'.map fun q => V.ref q.1)))
theorem cr_sortedDuo (hc : X.calm = true) : CallR X (.builtin "sorted") (rSortedDuo X.K X.prog X.w) := by
  intro pins s σ H vs us Q I r h
  obtain ⟨a, L, rfl, ha, hk, two, q⟩ := h
  obtain ⟨u, rfl, ru⟩ := vals1 r
  cases ru
  have R0 : SetT0 X.prog X.w s.heap a L := (I.hok a _ ha).1
  obtain ⟨es, ep, t, R⟩ := R0.full fun p hp => I.isT (hk p hp)
  apply sorted_set_duos R (I.ok.hd hc) two
  intro s' p out c L' k g o hp hg eo pm pw
  have short : L'.length < 64 := by
    rw [pm.length_eq]
    exact R.few
  have room : (L'.map fun q => V.ref q.1).length ≤ sizeLine := by
    rw [List.length_map, sizeLine_eq]
    omega
  have free : H p = none := I.hok.fresh hp
  subst eo
  have vals : Vals (L'.map fun q => V.ref q.1) (L'.map fun q => Value.ref q.1) := vals_of_refs L'
  obtain ⟨h', g', d', t', o'⟩ := s'
  have e1 : g' = s.gens := g
  have e2 : o' = s.os := o
  subst e1 e2
  have J : Inv X pins σ (upd H p (.lst (L'.map fun q => V.ref q.1))) ⟨h', s.gens, d', t', s.os⟩ :=
    I.call (ch := []) (Un.laid k hp free) (I.hok.laid k hp ⟨room, _, c, vals, hg⟩) I.bare (fun _ z => nomatch z)
  exact ⟨.ref p, _, J, rfl, q L' p pm ((pm.map (·.2)).nodup_iff.mpr R.nd) short pw free⟩
end
end OF
namespace OF
open PySem PySem.Spec PyProof.Rows L2
section
variable {X : Cx}
/-- x not in a tuple of data -/
def rNotInT (K : PySem.W.Frag) : R2 := fun x y H Q => ∃ d ds, Dp K H x d ∧ Dp K H y (.tuple ds) ∧ SeqAt.shaped d = true ∧ SeqAt.shaped (.tuple ds) = true ∧ Q (.bl (!ds.any fun z => PyData.eqv z d)) H
theorem op_notInT (hu : X.A.units + 65 < cLine) : OpR X (compareOp .NotIn) (rNotInT X.K) := by
  intro pins s σ H x y v u Q I rx ry h
  obtain ⟨d, ds, hd, he, sd, se, q⟩ := h
  obtain ⟨as, r1⟩ := Dp.reads I d x v hd rx
  obtain ⟨bs, r2⟩ := Dp.reads I (.tuple ds) y u he ry
  exact SeqAt.notIn_tuple_reads r2 r1 (SeqAt.canLay_of_shaped se) (SeqAt.canLay_of_shaped sd) (room_in_shaped sd hu) ⟨.bl _, H, I, rfl, q⟩
end
end OF
/-! x in o and o == p of instances of an own class with __contains__, __eq__ of its own. -/
namespace OF
open PySem PySem.Spec PyProof.Rows L2
section
variable {M : Model} {A : Around} {E : Value → Shared → Prop} {s : Shared} {K : PySem.W.Frag} {x C f : Addr} {ox : Obj} {od : Option Obj} {v : Value}
theorem contains_own {Q : Bool → Shared → Prop} (X : K.In s.heap) (I : PySem.W.InstAt s.heap x ox C od) (hs : PySem.W.findIn K (.ref C) "__contains__" = some (some (.ref f))) (hf : PySem.W.isFn K (.ref f) = true)
    (h : wpAny M A (call (.ref f) [.ref x, v]) (fun r s' => ∃ b, r = .bool b ∧ Q b s') E s) : wpAny M A (contains (.ref x) v) Q E s := by
  unfold contains
  refine wpAny_holding ?_
  rw [show stdlibNamesSay? (.ref x) v = none from by unfold stdlibNamesSay?; split <;> simp_all]
  refine wpAny_bind (m := specialOf (.ref x) (Str.ofString "__contains__")) (wpAny_bind (I.type.here ((PySem.W.looks_findIn X hs).here ?_)))
  show wpAny M A (if (some (Value.ref f) == some Value.none) = true then _ else _) Q E s
  rw [if_neg (by simp)]
  refine wpAny_bind (m := callSpecialUnlessNone? (.ref x) (Str.ofString "__contains__") [v] _) ?_
  unfold callSpecialUnlessNone?
  refine wpAny_bind (m := specialOf (.ref x) (Str.ofString "__contains__")) (wpAny_bind (I.type.here ((PySem.W.looks_findIn X hs).here ?_)))
  refine wpAny_holding (wpAny_bind ((PySem.W.bind_fn X _ (beq_iff_eq.mp hf)).here ?_))
  show wpAny M A (if (Value.ref f == Value.none) = true then _ else _) _ E s
  rw [if_neg (by simp)]
  refine wpAny_bind (wpAny_mono h (fun r s' hr => ?_) fun _ _ e => e)
  obtain ⟨b, rfl, q⟩ := hr
  exact wpAny_pure (wpAny_pure q)
end
section
variable {X : Cx} {CX : CXT} {n : Nat} {f C : Addr} {fd : FuncData} {ps : List Str} {sp : Sp} {E : XK}
/-- x in o, o an instance of the class at C with its own __contains__ -/
def rInOwn (C : Addr) (sp : Sp) (E : XK) (neg : Bool) : R2 := fun x y H Q => ∃ a dx fs, y = .ref a ∧ H a = some (.ins C dx fs) ∧ sp [y, x] H (fun z H' => ∃ b : Bool, z = .bl b ∧ Q (.bl (if neg then !b else b)) H') E
theorem op_inOwn (hs : PySem.W.findIn X.K (.ref C) "__contains__" = some (some (.ref f))) (hf : PySem.W.isFn X.K (.ref f) = true) (F : FnOk X.prog X.w X.K X.mg X.base CX n f fd ps sp) (hb : Binds X.K fd ps []) (hr : Room n X.A) (hx : Passes CX X E) :
    OpR X (compareOp .In) (rInOwn C sp E false) := by
  intro pins s σ H x y v u Q I rx ry h
  obtain ⟨a, dx, fs, rfl, ha, q⟩ := h
  cases (show u = Value.ref a from ry)
  obtain ⟨mA, J, _⟩ := ins_get I.hok ha
  obtain ⟨od, J, _⟩ := J.look
  show wpAny _ _ (do return Value.bool (← contains (.ref a) v)) _ _ _
  refine wpAny_bind (contains_own I.kIn J hs hf (wpAny_mono (run_fn (us := [.ref a, v]) (vs := [.ref a, x]) F hr hb .nil hx I (.cons rfl (.cons rx .nil)) q) (fun r s' z => ?_) fun _ _ e => e))
  obtain ⟨z', H', I', rz, b, rfl, q'⟩ := z
  cases rz
  exact ⟨b, rfl, wpAny_pure ⟨.bl b, H', I', rfl, q'⟩⟩
theorem op_notInOwn (hs : PySem.W.findIn X.K (.ref C) "__contains__" = some (some (.ref f))) (hf : PySem.W.isFn X.K (.ref f) = true) (F : FnOk X.prog X.w X.K X.mg X.base CX n f fd ps sp) (hb : Binds X.K fd ps []) (hr : Room n X.A) (hx : Passes CX X E) :
    OpR X (compareOp .NotIn) (rInOwn C sp E true) := by
  intro pins s σ H x y v u Q I rx ry h
  obtain ⟨a, dx, fs, rfl, ha, q⟩ := h
  cases (show u = Value.ref a from ry)
  obtain ⟨mA, J, _⟩ := ins_get I.hok ha
  obtain ⟨od, J, _⟩ := J.look
  show wpAny _ _ (do return Value.bool (!(← contains (.ref a) v))) _ _ _
  refine wpAny_bind (contains_own I.kIn J hs hf (wpAny_mono (run_fn (us := [.ref a, v]) (vs := [.ref a, x]) F hr hb .nil hx I (.cons rfl (.cons rx .nil)) q) (fun r s' z => ?_) fun _ _ e => e))
  obtain ⟨z', H', I', rz, b, rfl, q'⟩ := z
  cases rz
  exact ⟨b, rfl, wpAny_pure ⟨.bl (!b), H', I', rfl, q'⟩⟩
/-- o == p, two instances of the class at C with its own __eq__ -/
def rEqOwn (C : Addr) (sp : Sp) (E : XK) : R2 := fun x y H Q => ∃ a dx fs b dy gs, x = .ref a ∧ y = .ref b ∧ H a = some (.ins C dx fs) ∧ H b = some (.ins C dy gs) ∧ sp [x, y] H (fun z H' => ∃ b : Bool, z = .bl b ∧ Q z H') E
theorem op_eqOwn (hs : PySem.W.findIn X.K (.ref C) "__eq__" = some (some (.ref f))) (hf : PySem.W.isFn X.K (.ref f) = true) (F : FnOk X.prog X.w X.K X.mg X.base CX n f fd ps sp) (hb : Binds X.K fd ps []) (hr : Room n X.A) (hx : Passes CX X E) :
    OpR X (compareOp .Eq) (rEqOwn C sp E) := by
  intro pins s σ H x y v u Q I rx ry h
  obtain ⟨a, dx, fs, b, dy, gs, rfl, rfl, ha, hb', q⟩ := h
  cases (show v = Value.ref a from rx)
  cases (show u = Value.ref b from ry)
  obtain ⟨mA, J, _⟩ := ins_get I.hok ha
  obtain ⟨od, J, _⟩ := J.look
  obtain ⟨mB, J', _⟩ := ins_get I.hok hb'
  obtain ⟨od', J', _⟩ := J'.look
  obtain ⟨m, hF⟩ := I.fr
  refine PySem.W.cmp_K (op := .Eq) (tb := .ref C) hr.units0 hF I.ok.mod.kin J J'.type (by simp [PySem.W.notFirst]) hs hf ?_
  refine wpAny_mono (run_fn (us := [.ref a, .ref b]) (vs := [.ref a, .ref b]) F hr hb .nil hx I (.cons rfl (.cons rfl .nil)) q) (fun w s' z => ?_) fun _ _ e => e
  obtain ⟨z', H', I', rz, c, rfl, q'⟩ := z
  cases rz
  exact ⟨.bl c, H', I', rfl, q'⟩
end
end OF
/-! tuples: t + u, t[lo:hi], t[::-1] where the answer may be an operand itself; zip of tuples walked. -/
namespace OF
open PySem PySem.Spec PyProof.Rows L2
section
variable {X : Cx}
/-- t + u -/
def rCat2 : R2 := fun x y H Q => ∃ a b xs ys, x = .ref a ∧ y = .ref b ∧ H a = some (.tup xs) ∧ H b = some (.tup ys) ∧ xs.length + ys.length ≤ sizeLine ∧ ∀ p H', Same H H' → H' p = some (.tup (xs ++ ys)) → Q (.ref p) H'
theorem op_cat2 : OpR X (binaryOp .Add) rCat2 := by
  intro pins s σ H x y v u Q I rx ry h
  obtain ⟨a, b, xs, ys, rfl, rfl, ha, hb, hz, q⟩ := h
  refine op_catA pins s σ H _ _ v u Q I rx ry ⟨a, b, xs, ys, rfl, rfl, SqT.of ha, SqT.of hb, hz, fun e => ?_, fun _ e => ?_, fun _ _ p hp => q p _ (same_new hp) upd_same⟩
  · subst e
    exact q b H (Same.refl H) hb
  · subst e
    exact q a H (Same.refl H) (by rw [List.append_nil]; exact ha)
theorem cutV_whole (xs : List V) (lo hi : Option Int) (h : HT.sIx xs.length 0 lo = 0 ∧ HT.sIx xs.length xs.length hi = xs.length) : cutV xs lo hi = xs := by
  unfold cutV
  rw [h.1, h.2, List.drop_zero, Nat.sub_zero, List.take_length]
/-- t[lo:hi] -/
def rSl2 : V → Option Int → Option Int → Hp → VK → Prop := fun x lo hi H Q => ∃ a xs, x = .ref a ∧ H a = some (.tup xs) ∧ ∀ p H', Same H H' → H' p = some (.tup (cutV xs lo hi)) → Q (.ref p) H'
theorem sl_tup2 : SlR X rSl2 := by
  intro pins s σ H x v vl vu lo hi sl Q I rx hs pl pu h
  obtain ⟨a, xs, rfl, hx, q⟩ := h
  refine sl_tupA pins s σ H _ v vl vu lo hi sl Q I rx hs pl pu ⟨a, xs, rfl, SqT.of hx, fun e => q a H (Same.refl H) (by rw [cutV_whole xs lo hi e]; exact hx), fun _ p hp => q p _ (same_new hp) upd_same⟩
end
/-! ### t[::-1] -/
section
variable {prog : Program} {w : World} {A : Around} {E : Value → Shared → Prop} {s : Shared}
theorem sliceApplied_rev {sl : Addr} {vs : Value} {n : Nat} {Q : Int × Int × Nat → Shared → Prop} (hs : s.heap.IsSliceOf sl .none .none vs) (ps : PySem.IsPart vs (some (-1)))
    (h : Q ((n : Int) - 1, -1, n) s) : wpAny (model prog w) A (Builtin.Slice.sliceApplied (.ref sl) (pure (n : Int))) Q E s := by
  obtain ⟨os, hos, hcs, hds⟩ := id hs
  unfold Builtin.Slice.sliceApplied Builtin.Slice.sliceFields
  refine wpAny_bind (wpAny_bind (wpAny_field hos hds (x := .none) rfl (wpAny_bind (wpAny_field hos hds (x := .none) rfl (wpAny_bind (wpAny_field hos hds (x := vs) rfl (wpAny_pure ?_)))))))
  refine wpAny_bind (HT.slicePart_ ps ?_)
  show wpAny _ _ (if ((-1 : Int) == 0) = true then _ else _) _ _ s
  rw [if_neg (by decide)]
  refine wpAny_bind (slicePart_none (wpAny_bind (slicePart_none (wpAny_bind (wpAny_pure ?_)))))
  show wpAny _ _ (pure ((n : Int) - 1, (-1 : Int), Builtin.Slice.slicePlaces ((n : Int) - 1) (-1) (-1))) _ _ s
  have e : Builtin.Slice.slicePlaces ((n : Int) - 1) (-1) (-1) = n := by
    unfold Builtin.Slice.slicePlaces
    have h1 : ¬ ((-1 : Int) > 0) := by decide
    simp only [h1, if_false]
    split
    · rw [show (- -1 : Int) = 1 by decide, Int.ediv_one]
      omega
    · omega
  rw [e]
  exact wpAny_pure h
theorem fm_congr {α β : Type} {f g : α → Option β} : ∀ {l : List α}, (∀ x ∈ l, f x = g x) → l.filterMap f = l.filterMap g
  | [], _ => rfl
  | x :: l, h => by
    rw [List.filterMap_cons, List.filterMap_cons, h x List.mem_cons_self, fm_congr fun y hy => h y (List.mem_cons_of_mem _ hy)]
theorem pick_rev (xs : Array Value) : ((List.range xs.size).filterMap fun (k : Nat) => xs[(((xs.size : Int) - 1) + (k : Int) * (-1)).toNat]?).toArray = xs.toList.reverse.toArray := by
  have e : (List.range xs.size).filterMap (fun (k : Nat) => xs[(((xs.size : Int) - 1) + (k : Int) * (-1)).toNat]?) = ((List.range xs.size).map fun k => xs.size - 1 - k).filterMap (xs[·]?) := by
    rw [List.filterMap_map]
    refine fm_congr fun k hk => ?_
    have := List.mem_range.mp hk
    have e2 : (((xs.size : Int) - 1) + (k : Int) * (-1)).toNat = xs.size - 1 - k := by omega
    show _ = xs[xs.size - 1 - k]?
    rw [e2]
  rw [e, PySem.W.krv_range, List.filterMap_reverse, PySem.W.krv_all]
theorem getItem_tuple_rev {t sl : Addr} {items : Array Value} {vs : Value} {Q : Value → Shared → Prop} (ht : IsTup s.heap t items) (hs : s.heap.IsSliceOf sl .none .none vs) (ps : PySem.IsPart vs (some (-1)))
    (h : Q (.ref s.heap.objs.size) { s with heap := s.heap.push { cls := .type "tuple", data := .seq items.toList.reverse.toArray } })
    (hsz : items.size ≤ sizeLine) : wpAny (model prog w) A (getItem (.ref t) (.ref sl)) Q E s := by
  have htake : sizeOk (.seq items.toList.reverse.toArray) := by
    show items.toList.reverse.toArray.size ≤ sizeLine
    rw [List.size_toArray, List.length_reverse, Array.length_toList]
    exact hsz
  obtain ⟨os, hos, hcs, hds⟩ := id hs
  have hTs : s.TypeIs (.ref sl) "slice" := ⟨os, hos, hcs⟩
  unfold getItem
  try with_reducible refine wpAny_holding ?_
  first | refine wpAny_bind (wpAny_pure ?_) | skip
  refine wpAny_bind (wpAny_sequenceKey ht.typeIs (by decide) ?_)
  refine wpAny_bind (wpAny_callSpecial?_slot (name := Str.ofString "__getitem__") ht.typeIs PyProof.Rows.slot_tuple_getitem
    (wpAny_call_entry PyProof.Rows.slot_tuple_getitem ht.typeIs entry_tuple_getitem ?_ (args_tuple_getitem _ _)))
  show wpAny _ _ (Builtin.Tuple.tupleItemsOf (.ref t) >>= _) _ _ s
  refine wpAny_bind (tupleItemsOf_ ht ?_)
  refine wpAny_bind (wpAny_typeOf hTs ?_)
  rw [if_pos (by decide)]
  refine wpAny_bind (sliceApplied_rev hs ps ?_)
  have hno : ¬ ((((items.size : Int) - 1) == 0 && (-1 : Int) == 1 && items.size == items.size) = true) := by
    intro q
    rw [Bool.and_eq_true, Bool.and_eq_true] at q
    exact absurd q.1.2 (by decide)
  show wpAny _ _ (if (((items.size : Int) - 1) == 0 && (-1 : Int) == 1 && items.size == items.size) = true then _ else _) _ _ s
  rw [if_neg hno, pick_rev]
  first
    | exact wpAny_bind (m := Builtin.Tuple.tupleExact _) (wpAny_newObj_type (wpAny_pure ⟨_, rfl, wpAny_pure h⟩) htake)
    | exact wpAny_bind (m := Builtin.Tuple.tupleExact _) (wpAny_newObj_type (wpAny_bind (wpAny_pure (wpAny_pure ⟨_, rfl, wpAny_pure h⟩))) htake)
    | exact wpAny_bind (wpAny_bind (m := Builtin.Tuple.tupleExact _) (wpAny_newObj_type (wpAny_pure (wpAny_pure ⟨_, rfl, wpAny_pure h⟩)) htake))
    | exact wpAny_bind (wpAny_bind (m := Builtin.Tuple.tupleExact _) (wpAny_newObj_type (wpAny_pure ⟨_, rfl, wpAny_pure h⟩) htake))
end
section
variable {X : Cx}
def tRevT (K : PySem.W.Frag) (te : TE) : TE := fun σ H Q => te σ H fun x H1 => ∃ a xs, x = .ref a ∧ SqT K H1 a xs ∧ ∀ p, H1 p = none → Q (.ref p) (upd H1 p (.tup xs.reverse))
theorem pe_revT {e : Expr} {te : TE} {k : Nat} {p1 p2 p3 pos : Pos} (he : PE X e te) : PE X (.Subscript e (.Slice none none (some (.UnaryOp .USub (.Constant (.int 1) k p1) p2)) p3) pos) (tRevT X.K te) := by
  refine ⟨fun pins s σ H Q I h => ?_⟩
  refine Subscript_ (thn (he.run pins s σ H _ I h) fun v s1 ⟨x, H1, I1, r1, q1⟩ => ?_)
  obtain ⟨a, xs, ex, hx, q⟩ := q1
  subst ex
  cases r1
  have hst : PO X (some (.UnaryOp .USub (.Constant (.int 1) k p1) p2)) (tPart (tUn (rU fun i => .int (-i)) (tC (.int 1)))) := po_some (pe_un un_neg pe_int)
  refine wpAny_Slice (thn (po_none.run pins s1 σ H1 (fun o H2 => o = none ∧ H2 = H1) I1 ⟨rfl, rfl⟩) fun vl s2 ⟨l, H2, I2, pl, el, e2⟩ => ?_)
  subst el e2
  refine thn (po_none.run pins s2 σ H2 (fun o H3 => o = none ∧ H3 = H2) I2 ⟨rfl, rfl⟩) fun vu s3 ⟨u, H3, I3, pu, eu, e3⟩ => ?_
  subst eu e3
  cases pl
  cases pu
  refine thn (hst.run pins s3 σ H3 (fun o H4 => o = some (-1) ∧ H4 = H3) I3 ⟨1, rfl, -1, rfl, rfl, rfl⟩) fun vs s4 ⟨o, H4, I4, ps, eo, e4⟩ => ?_
  subst eo e4
  have I5 : Inv X pins σ H4 { s4 with heap := s4.heap.push { cls := .type "slice", data := .fields #[.none, .none, vs] } } := I4.kept (t' := s4.toks) fun b ob q => Heap.get?_push_of_some _ q
  obtain ⟨its, r, ht, hz⟩ := I5.tuple hx
  have hlen := r.length
  show wpAny (model X.prog X.w) X.A (subscriptTail e (.Slice none none (some (.UnaryOp .USub (.Constant (.int 1) k p1) p2)) p3) (.ref a) (.ref s4.heap.objs.size)) (EP X pins σ Q) X.xe { s4 with heap := s4.heap.push { cls := .type "slice", data := .fields #[.none, .none, vs] } }
  refine tail_any (ops := [.ref a, .ref s4.heap.objs.size]) ht.typeIs (PyProof.Rows.slot_tuple_getitem.lookup) ?_ (by with_unfolding_all rfl)
  refine getItem_tuple_rev ht (Heap.IsSliceOf.new _ .none .none vs) ps ?_ (by rw [List.size_toArray]; omega)
  refine ⟨.ref _, _, I5.laid (t' := s4.toks) (o := .tup xs.reverse) (fun b ob q => Heap.get?_push_of_some _ q) (Nat.le_refl _) ?_, rfl, q _ (I5.hok.fresh (Nat.le_refl _))⟩
  exact ⟨by rw [List.length_reverse]; exact hz, _, r.reverse, _, Heap.get?_push_size _ rfl, rfl, _, rfl⟩
end
/-- zip of two tuples of one length -/
theorem walk_zipT {K : PySem.W.Frag} {a b : Addr} {xs ys : List V} {n : Nat} (h1 : xs.length = n) (h2 : n ≤ ys.length) : Walk (RZ.ItzT K a b) n (fun H => SqT K H a xs ∧ SqT K H b ys) (YPair (fun i => xs[i]?) (fun i => ys[i]?)) :=
  ⟨fun i _ hi q => ⟨xs, ys, xs[i]'(by omega), ys[i]'(by omega), q.1, q.2, List.getElem?_eq_getElem _, List.getElem?_eq_getElem _⟩, fun _ q => ⟨xs, ys, q.1, q.2, .inl (by omega)⟩, fun _ _ _ _ _ q ⟨T, x, y, e, hT, eH, hx, hy⟩ => ⟨T, x, y, e, hT, eH, hx xs q.1, hy ys q.2⟩⟩
end OF
namespace K12
open PySem PySem.Spec PyProof.Rows L2 OF
def topS (i : Nat) : Stmt := PySem.Challenge.pw_oddfigures_k12_whole_written_or_closed.main.body.getD i (.Pass ⟨0, 0, 0, 0⟩)
abbrev sWhole : Stmt := topS 16
abbrev sIsInt : Stmt := topS 17
abbrev sIsBase : Stmt := topS 18
abbrev sIsDigit : Stmt := topS 19
abbrev sAre : Stmt := topS 20
abbrev sRowText : Stmt := topS 21
abbrev sRead : Stmt := topS 22
abbrev sOneOf : Stmt := topS 32
abbrev sIsPair : Stmt := topS 33
abbrev sDigList : Stmt := topS 34
abbrev sDiffDig : Stmt := topS 35
abbrev sDiffPair : Stmt := topS 36
abbrev sInit : Stmt := inClass (topS 38) 0
abbrev sAllows : Stmt := inClass (topS 38) 9
section
variable {P : Program} {w : World} {K : PySem.W.Frag} {mg : Str → Option Value} {base : Heap}

/-- is_whole -/
def spWhole : Sp := fun vs H Q _ => ∃ x : V, vs = [x] ∧ ((∃ n : Int, x = .int n ∧ Q (.bl true) H) ∨ (Odd H x ∧ Q (.bl false) H))
theorem scWh : FnScope ["value"] ["value"] (defScope sWhole) := ⟨rfl, rfl, rfl, by decide +kernel, rfl, by decide +kernel, by decide +kernel⟩
theorem ok_whole {f : Addr} {fd : FuncData} (F : Fun K "is_whole" "is_whole" sWhole f fd) (ms : mg "isinstance" = none) (mi : mg "int" = none) (mb : mg "bool" = none) : FnOk P w K mg base CX0 1 f fd ["value"] spWhole := by
  refine F.ok scWh (fun vs H Q E h => ?_) (fun cdv A outer s H vs Q E hr h => ?_)
  · obtain ⟨x, rfl, _⟩ := h
    rfl
  · obtain ⟨x, rfl, h⟩ := h
    refine ⟨_, pss_one (ps_ret (pe_and (pe_callB call_isi (by rfl) ms PyProof.Rows.boot_isinstance (pa_cons (pv 0) (pa_cons (pe_bltn (v := .ty "int") (by rfl) mi PyProof.Rows.boot_int rfl) pa_nil)))
      (pe_one (pe_not (pe_callB call_isi (by rfl) ms PyProof.Rows.boot_isinstance (pa_cons (pv 0) (pa_cons (pe_bltn (v := .ty "bool") (by rfl) mb PyProof.Rows.boot_bool rfl) pa_nil))))))), ?_⟩
    rcases h with ⟨n, rfl, q⟩ | ⟨o, q⟩
    · refine ⟨.int n, rfl, .int n, .ty "int", .type "int", .type "int", true, rfl, .ty _, .base (.int n), kit_ty (by decide +kernel), true, rfl, iteT ?_⟩
      exact ⟨.int n, rfl, .int n, .ty "bool", .type "int", .type "bool", false, rfl, .ty _, .base (.int n), kit_ty (by decide +kernel), false, rfl, q⟩
    · obtain ⟨t, b, ty, k1, k2⟩ := o.kit (K := K)
      refine ⟨x, rfl, x, .ty "int", t, .type "int", b, rfl, .ty _, ty, k1, b, rfl, ?_⟩
      cases b with
      | false => exact iteF q
      | true => exact iteT ⟨x, rfl, x, .ty "bool", t, .type "bool", true, rfl, .ty _, ty, k2 rfl, true, rfl, q⟩
/-- is_integer -/
def spIsInt : Sp := fun vs H Q _ => ∃ (x : V) (lo hi : Int), vs = [x, .int lo, .int hi] ∧ ((∃ n : Int, x = .int n ∧ Q (.bl (decide (lo ≤ n) && decide (n ≤ hi))) H) ∨ (Odd H x ∧ Q (.bl false) H))
def spIsDigit : Sp := fun vs H Q _ => ∃ (x : V), vs = [x] ∧ ((∃ n : Int, x = .int n ∧ Q (.bl (decide (-9 ≤ n) && decide (n ≤ 9))) H) ∨ (Odd H x ∧ Q (.bl false) H))
theorem scI : FnScope ["value", "low", "high"] ["value", "low", "high"] (defScope sIsInt) := ⟨rfl, rfl, rfl, by decide +kernel, rfl, by decide +kernel, by decide +kernel⟩
theorem ok_isint {f fW : Addr} {fd fdW : FuncData} (F : Fun K "is_integer" "is_integer" sIsInt f fd) (GW : FnOk P w K mg base CX0 1 fW fdW ["value"] spWhole) (gW : mg "is_whole" = some (.ref fW)) (kW : PySem.W.keepIn K (.ref fW) = true) (bW : Binds K fdW ["value"] []) : FnOk P w K mg base CX0 2 f fd ["value", "low", "high"] spIsInt := by
  refine F.ok scI (fun vs H Q E h => ?_) (fun cdv A outer s H vs Q E hr h => ?_)
  · obtain ⟨x, lo, hi, rfl, _⟩ := h
    rfl
  · obtain ⟨x, lo, hi, rfl, h⟩ := h
    refine ⟨_, pss_one (ps_ret (pe_and (pe_call GW hr (by rfl) gW kW bW .nil pass0 (pa_cons (pv 0) pa_nil)) (pe_one (pe_chain op_le op_le (pv 1) (pv 0) (pv 2))))), ?_⟩
    rcases h with ⟨n, rfl, q⟩ | ⟨o, q⟩
    · exact ⟨.int n, rfl, .int n, rfl, .inl ⟨n, rfl, true, rfl, iteT ⟨.int lo, rfl, .int n, rfl, lo, n, rfl, rfl, _, rfl, iteAnd (fun z => ⟨.int hi, rfl, n, hi, rfl, rfl, z⟩) q⟩⟩⟩
    · exact ⟨x, rfl, x, rfl, .inr ⟨o, false, rfl, iteF q⟩⟩
def isBase (n : Int) : Bool := (decide (2 ≤ n) && decide (n ≤ 6)) || (decide (-6 ≤ n) && decide (n ≤ -2))
def spIsBase : Sp := fun vs H Q _ => ∃ (x : V), vs = [x] ∧ ((∃ n : Int, x = .int n ∧ Q (.bl (isBase n)) H) ∨ (Odd H x ∧ Q (.bl false) H))
theorem scIB : FnScope ["value"] ["value"] (defScope sIsBase) := ⟨rfl, rfl, rfl, by decide +kernel, rfl, by decide +kernel, by decide +kernel⟩
theorem ok_isbase {f fI : Addr} {fd fdI : FuncData} {t : Tok} (F : Fun K "is_base" "is_base" sIsBase f fd) (GI : FnOk P w K mg base CX0 2 fI fdI ["value", "low", "high"] spIsInt) (gI : mg "is_integer" = some (.ref fI)) (kI : PySem.W.keepIn K (.ref fI) = true) (bI : Binds K fdI ["value", "low", "high"] [])
    (gG : mg "GREATEST_BASE" = some (.int 6 t)) : FnOk P w K mg base CX0 3 f fd ["value"] spIsBase := by
  refine F.ok scIB (fun vs H Q E h => ?_) (fun cdv A outer s H vs Q E hr h => ?_)
  · obtain ⟨x, rfl, _⟩ := h
    rfl
  · obtain ⟨x, rfl, h⟩ := h
    refine ⟨_, pss_one (ps_ret (pe_or (pe_call GI hr (by rfl) gI kI bI .nil pass0 (pa_cons (pv 0) (pa_cons pe_int (pa_cons (pe_glob (v := .int 6) rfl gG ⟨_, rfl⟩) pa_nil))))
      (pe_one (pe_call GI hr (by rfl) gI kI bI .nil pass0 (pa_cons (pv 0) (pa_cons (pe_un un_neg (pe_glob (v := .int 6) rfl gG ⟨_, rfl⟩)) (pa_cons (pe_un un_neg pe_int) pa_nil))))))), ?_⟩
    rcases h with ⟨n, rfl, q⟩ | ⟨o, q⟩
    · exact ⟨.int n, rfl, _, 2, 6, rfl, .inl ⟨n, rfl, _, rfl, iteOr (fun z => ⟨.int n, rfl, 6, rfl, 2, rfl, _, -6, -2, rfl, .inl ⟨n, rfl, z⟩⟩) q⟩⟩
    · exact ⟨x, rfl, _, 2, 6, rfl, .inr ⟨o, _, rfl, iteF ⟨x, rfl, 6, rfl, 2, rfl, _, -6, -2, rfl, .inr ⟨o, q⟩⟩⟩⟩
theorem scID : FnScope ["value"] ["value"] (defScope sIsDigit) := ⟨rfl, rfl, rfl, by decide +kernel, rfl, by decide +kernel, by decide +kernel⟩
theorem ok_isdigit {f fI : Addr} {fd fdI : FuncData} {t : Tok} (F : Fun K "is_digit" "is_digit" sIsDigit f fd) (GI : FnOk P w K mg base CX0 2 fI fdI ["value", "low", "high"] spIsInt) (gI : mg "is_integer" = some (.ref fI)) (kI : PySem.W.keepIn K (.ref fI) = true) (bI : Binds K fdI ["value", "low", "high"] [])
    (gG : mg "GREATEST_DIGIT" = some (.int 9 t)) : FnOk P w K mg base CX0 3 f fd ["value"] spIsDigit := by
  refine F.ok scID (fun vs H Q E h => ?_) (fun cdv A outer s H vs Q E hr h => ?_)
  · obtain ⟨x, rfl, _⟩ := h
    rfl
  · obtain ⟨x, rfl, h⟩ := h
    refine ⟨_, pss_one (ps_ret (pe_call GI hr (by rfl) gI kI bI .nil pass0 (pa_cons (pv 0) (pa_cons (pe_un un_neg (pe_glob (v := .int 9) rfl gG ⟨_, rfl⟩)) (pa_cons (pe_glob (v := .int 9) rfl gG ⟨_, rfl⟩) pa_nil))))), ?_⟩
    rcases h with ⟨n, rfl, q⟩ | ⟨o, q⟩
    · exact ⟨.int n, rfl, 9, rfl, _, -9, 9, rfl, .inl ⟨n, rfl, q⟩⟩
    · exact ⟨x, rfl, 9, rfl, _, -9, 9, rfl, .inr ⟨o, q⟩⟩
/-- a digit -/
def dig (n : Int) : Bool := decide (-9 ≤ n) && decide (n ≤ 9)
theorem same_seqT {K : PySem.W.Frag} {H H' : Hp} {a : Addr} {xs : List V} (s : Same H H') (h : SqT K H a xs) : SqT K H' a xs := by
  rcases h with (h | ⟨o, h⟩) | h
  · exact .inl (.inl (s _ _ h))
  · exact .inl (.inr ⟨o, s _ _ h⟩)
  · exact .inr h

/-! ### values of any kind -/
def ItemOk (H : Hp) (x : V) : Prop := (∃ n : Int, x = .int n) ∨ Odd H x
theorem ItemOk.same {H H' : Hp} {x : V} (h : ItemOk H x) (s : Same H H') : ItemOk H' x := h.imp id fun o => o.same s
def digV : V → Bool
  | .int n => dig n
  | _ => false
theorem digV_odd {H : Hp} {x : V} (o : Odd H x) : digV x = false := by cases o <;> rfl
/-- no list, no tuple -/
inductive NoSeq (H : Hp) : V → Prop
  | int (n : Int) : NoSeq H (.int n)
  | non : NoSeq H .non
  | bl (b : Bool) : NoSeq H (.bl b)
  | str (z : Str) : NoSeq H (.str z)
  | dK {a : Addr} {kvs : List (Key × V)} (e : H a = some (.dK kvs)) : NoSeq H (.ref a)
theorem NoSeq.same {H H' : Hp} {x : V} (h : NoSeq H x) (s : Same H H') : NoSeq H' x := by
  cases h with
  | int n => exact .int n
  | non => exact .non
  | bl b => exact .bl b
  | str z => exact .str z
  | dK e => exact .dK (s _ _ e)
theorem NoSeq.kit {K : PySem.W.Frag} {H : Hp} {x : V} (h : NoSeq H x) : ∃ t, TyX K H x t ∧ PySem.W.kitAny K t [.type "list", .type "tuple"] = some false := by
  have go : ∀ a : String, kitB a "list" = some false → kitB a "tuple" = some false → PySem.W.kitAny K (.type a) [.type "list", .type "tuple"] = some false := fun a h1 h2 =>
    kitAny_cons (b := false) (kit_ty h1) (fun _ => kitAny_cons (b := false) (kit_ty h2) (fun _ => kitAny_nil) fun z => nomatch z) fun z => nomatch z
  cases h with
  | int n => exact ⟨_, .base (.int n), go "int" (by decide +kernel) (by decide +kernel)⟩
  | non => exact ⟨_, .base .non, go "NoneType" (by decide +kernel) (by decide +kernel)⟩
  | bl b => exact ⟨_, .base (.bl b), go "bool" (by decide +kernel) (by decide +kernel)⟩
  | str z => exact ⟨_, .base (.str z), go "str" (by decide +kernel) (by decide +kernel)⟩
  | dK e => exact ⟨_, .base (.dK e), go "dict" (by decide +kernel) (by decide +kernel)⟩
/-- a list or tuple, a tuple that the text has written too -/
inductive IsSeq (K : PySem.W.Frag) (H : Hp) (p : Addr) (xs : List V) : Prop
  | lst (e : H p = some (.lst xs)) : IsSeq K H p xs
  | tup (e : H p = some (.tup xs)) : IsSeq K H p xs
  | kt {o : Obj} (e : K.lookup p = some o) (c : o.cls = .type "tuple") (h : SqT K H p xs) : IsSeq K H p xs
theorem IsSeq.same {K : PySem.W.Frag} {H H' : Hp} {p : Addr} {xs : List V} (h : IsSeq K H p xs) (s : Same H H') : IsSeq K H' p xs := by
  cases h with
  | lst e => exact .lst (s _ _ e)
  | tup e => exact .tup (s _ _ e)
  | kt e c h => exact .kt e c (same_seqT s h)
theorem IsSeq.sq {K : PySem.W.Frag} {H : Hp} {p : Addr} {xs : List V} (h : IsSeq K H p xs) : SqL K H p xs ∨ SqT K H p xs := by
  cases h with
  | lst e => exact .inl (SqL.of e)
  | tup e => exact .inr (SqT.of e)
  | kt e c h => exact .inr h
theorem IsSeq.lt {K : PySem.W.Frag} {H : Hp} {p : Addr} {xs : List V} (h : IsSeq K H p xs) : ∃ t, TyX K H (.ref p) t ∧ PySem.W.kitAny K t [.type "list", .type "tuple"] = some true := by
  have tu : PySem.W.kitAny K (.type "tuple") [.type "list", .type "tuple"] = some true := kitAny_cons (b := false) (kit_ty (by decide +kernel)) (fun _ => kitAny_cons (b := true) (kit_ty (by decide +kernel)) (fun z => nomatch z) fun _ => rfl) fun z => nomatch z
  cases h with
  | lst e => exact ⟨_, .base (.lst e), kitAny_cons (b := true) (kit_ty (by decide +kernel)) (fun z => nomatch z) fun _ => rfl⟩
  | tup e => exact ⟨_, .base (.tup e), tu⟩
  | kt e c h => exact ⟨_, .kTuple e c, tu⟩
/-- are_digits of a list or tuple of any items -/
def spAre (K : PySem.W.Frag) : Sp := fun vs H Q _ => ∃ (p : Addr) (xs : List V), vs = [.ref p] ∧ (SqL K H p xs ∨ SqT K H p xs) ∧ (∀ x ∈ xs, ItemOk H x) ∧ xs.length ≤ 1000 ∧ ∀ H', Same H H' → Q (.bl (xs.all digV)) H'
theorem scAr : FnScope ["items", "item"] ["items"] (defScope sAre) := ⟨rfl, rfl, rfl, by decide +kernel, rfl, by decide +kernel, by decide +kernel⟩
theorem ok_are {f fD : Addr} {fd fdD : FuncData} (F : Fun K "are_digits" "are_digits" sAre f fd) (GD : FnOk P w K mg base CX0 3 fD fdD ["value"] spIsDigit) (gD : mg "is_digit" = some (.ref fD)) (kD : PySem.W.keepIn K (.ref fD) = true) (bD : Binds K fdD ["value"] [])
    (mall : mg "all" = none) : FnOk P w K mg base CX0 4 f fd ["items"] (spAre K) := by
  refine F.ok scAr (fun vs H Q E h => ?_) (fun cdv A outer s H vs Q E hr h => ?_)
  · obtain ⟨p, xs, rfl, _⟩ := h
    rfl
  · obtain ⟨p, xs, rfl, hp, it, hl, q⟩ := h
    have turn : ∀ (i : Nat) (x : V) (H' : Hp) (D : Addr), H D = none → xs[i]? = some x → (Same H H' ∧ H' D = some (.lst ((xs.take i).map fun x => V.bl (digV x)))) →
        tCall spIsDigit [] E0 (tCons (tVar 1) tNil) [some (.ref p), some x] H' (fun v H2 => ∃ acc, H2 D = some (.lst acc) ∧ acc.length < sizeLine ∧ (Same H (upd H2 D (.lst (acc ++ [v]))) ∧ (upd H2 D (.lst (acc ++ [v]))) D = some (.lst ((xs.take (i + 1)).map fun x => V.bl (digV x))))) := by
      intro i x H' D hD hx ⟨s1, e1⟩
      have fin : ∃ acc, H' D = some (.lst acc) ∧ acc.length < sizeLine ∧ (Same H (upd H' D (.lst (acc ++ [.bl (digV x)]))) ∧ (upd H' D (.lst (acc ++ [.bl (digV x)]))) D = some (.lst ((xs.take (i + 1)).map fun x => V.bl (digV x)))) := by
        refine ⟨_, e1, ?_, Same.store s1 hD, ?_⟩
        · rw [List.length_map]
          exact Nat.lt_of_le_of_lt (List.length_take_le' _ _) (small1000 hl)
        · rw [upd_same, take_more hx, List.map_append]
          rfl
      rcases it x (List.mem_of_getElem? hx) with ⟨n, rfl⟩ | o
      · exact ⟨.int n, rfl, .int n, rfl, .inl ⟨n, rfl, fin⟩⟩
      · rw [digV_odd o] at fin
        exact ⟨x, rfl, x, rfl, .inr ⟨o.same s1, fin⟩⟩
    have done : ∀ (D : Addr) (H' : Hp), H' D = some (.lst ((xs.take xs.length).map fun x => V.bl (digV x))) → H' D = some (.lst ((xs.map digV).map V.bl)) ∧ (xs.map digV).all id = xs.all digV := by
      intro D H' e
      rw [List.take_length] at e
      refine ⟨by rw [e, List.map_map]; rfl, ?_⟩
      rw [List.all_map]
      rfl
    rcases hp with hp | hp
    · refine ⟨_, pss_one (ps_ret (pe_callB (cr_all rfl) (by rfl) mall (by decide +kernel) (pa_cons (pe_lc (own := [("item", 1)]) (g := gName 1) (tt := tYes) (te := tCall spIsDigit [] E0 (tCons (tVar 1) tNil)) rfl scAr.nd (pi_list (pv 0))
            (blkOk_by (own := [("item", 1)]) (N := ["items", "item"]) (sc := defScope sAre) (by decide +kernel)) (fun _ _ _ _ _ => pg_name (i := 1) scAr.nd rfl (Or.inl rfl)) (fun _ _ _ _ _ => pts_nil)
            (fun _ _ _ _ _ => by exact (pe_call GD hr (by rfl) gD kD bD .nil pass0 (pa_cons (pv 1) pa_nil)))) pa_nil))), ?_⟩
      refine ⟨.ref p, rfl, p, rfl, ⟨_, hp⟩, fun D hD => ?_⟩
      refine lc_list (K := K) (a := p) (xs := xs) (fun i H' => Same H H' ∧ H' D = some (.lst ((xs.take i).map fun x => V.bl (digV x)))) ⟨same_new hD, upd_same⟩ (fun i H' _ h => h.1.seq hp) ?_ ?_
      · rintro i x H' hx h
        exact ⟨rfl, tYes_if (turn i x H' D hD hx h)⟩
      · rintro H' ⟨s1, e1⟩
        obtain ⟨e2, e3⟩ := done D H' e1
        exact ⟨D, xs.map digV, rfl, SqL.of e2, by rw [e3]; exact q H' s1⟩
    · refine ⟨_, pss_one (ps_ret (pe_callB (cr_all rfl) (by rfl) mall (by decide +kernel) (pa_cons (pe_lc (own := [("item", 1)]) (g := gName 1) (tt := tYes) (te := tCall spIsDigit [] E0 (tCons (tVar 1) tNil)) rfl scAr.nd (pi_tup (pv 0))
            (blkOk_by (own := [("item", 1)]) (N := ["items", "item"]) (sc := defScope sAre) (by decide +kernel)) (fun _ _ _ _ _ => pg_name (i := 1) scAr.nd rfl (Or.inl rfl)) (fun _ _ _ _ _ => pts_nil)
            (fun _ _ _ _ _ => by exact (pe_call GD hr (by rfl) gD kD bD .nil pass0 (pa_cons (pv 1) pa_nil)))) pa_nil))), ?_⟩
      refine ⟨.ref p, rfl, p, rfl, ⟨_, hp⟩, fun D hD => ?_⟩
      refine lc_tup (K := K) (a := p) (xs := xs) (fun i H' => Same H H' ∧ H' D = some (.lst ((xs.take i).map fun x => V.bl (digV x)))) ⟨same_new hD, upd_same⟩ (fun i H' _ h => same_seqT h.1 hp) ?_ ?_
      · rintro i x H' hx h
        exact ⟨rfl, tYes_if (turn i x H' D hD hx h)⟩
      · rintro H' ⟨s1, e1⟩
        obtain ⟨e2, e3⟩ := done D H' e1
        exact ⟨D, xs.map digV, rfl, SqL.of e2, by rw [e3]; exact q H' s1⟩

/-- _is_digit_list of any value -/
def spDigList (K : PySem.W.Frag) : Sp := fun vs H Q _ => ∃ x : V, vs = [x] ∧ ((NoSeq H x ∧ ∀ H', Same H H' → Q (.bl false) H') ∨ ∃ (p : Addr) (xs : List V), x = .ref p ∧ IsSeq K H p xs ∧ (∀ y ∈ xs, ItemOk H y) ∧ xs.length ≤ 1000 ∧ ∀ H', Same H H' → Q (.bl (xs.all digV)) H')
theorem scDl : FnScope ["value"] ["value"] (defScope sDigList) := ⟨rfl, rfl, rfl, by decide +kernel, rfl, by decide +kernel, by decide +kernel⟩
theorem ok_diglist {f fA : Addr} {fd fdA : FuncData} (F : Fun K "_is_digit_list" "_is_digit_list" sDigList f fd) (GA : FnOk P w K mg base CX0 4 fA fdA ["items"] (spAre K)) (gA : mg "are_digits" = some (.ref fA)) (kA : PySem.W.keepIn K (.ref fA) = true) (bA : Binds K fdA ["items"] [])
    (mis : mg "isinstance" = none) (ml : mg "list" = none) (mt : mg "tuple" = none) : FnOk P w K mg base CX0 5 f fd ["value"] (spDigList K) := by
  refine F.ok scDl (fun vs H Q E h => ?_) (fun cdv A outer s H vs Q E hr h => ?_)
  · obtain ⟨x, rfl, _⟩ := h
    rfl
  · obtain ⟨x, rfl, h⟩ := h
    refine ⟨_, pss_one (ps_ret (pe_and (pe_callB call_isiT (by rfl) mis PyProof.Rows.boot_isinstance (pa_cons (pv 0) (pa_cons (pe_tup (pa_cons (pe_bltn (v := .ty "list") (by rfl) ml PyProof.Rows.boot_list rfl) (pa_cons (pe_bltn (v := .ty "tuple") (by rfl) mt (by decide +kernel) rfl) pa_nil))) pa_nil)))
      (pe_one (pe_call GA hr (by rfl) gA kA bA .nil pass0 (pa_cons (pv 0) pa_nil))))), ?_⟩
    refine ⟨x, rfl, (by show 2 ≤ sizeLine; decide), fun T hT => ?_⟩
    have s1 := same_new (o := .tup [.ty "list", .ty "tuple"]) hT
    rcases h with ⟨no, q⟩ | ⟨p, xs, rfl, hp, it, hl, q⟩
    · obtain ⟨t, ty, k⟩ := (no.same s1).kit (K := K)
      exact ⟨x, T, _, t, _, false, rfl, upd_same, .cons (.ty _) (.cons (.ty _) .nil), ty, k, false, rfl, iteF (q _ s1)⟩
    · obtain ⟨t, ty, k⟩ := (hp.same s1).lt (K := K)
      exact ⟨.ref p, T, _, t, _, true, rfl, upd_same, .cons (.ty _) (.cons (.ty _) .nil), ty, k, true, rfl, iteT ⟨.ref p, rfl, p, xs, rfl, (hp.same s1).sq, (fun y hy => (it y hy).same s1), hl, fun H' s2 => q H' (s1.trans s2)⟩⟩
theorem all_ints {xs : List V} (h : xs.all digV = true) : ∃ ns : List Int, xs = ns.map V.int ∧ ns.all dig = true := by
  induction xs with
  | nil => exact ⟨[], rfl, rfl⟩
  | cons x l ih =>
    rw [List.all_cons, Bool.and_eq_true] at h
    obtain ⟨ns, rfl, h2⟩ := ih h.2
    cases x with
    | int n => exact ⟨n :: ns, rfl, by rw [List.all_cons, h2, Bool.and_true]; exact h.1⟩
    | _ => exact absurd (show false = true from h.1) Bool.false_ne_true
/-- _different_digits of any value -/
def spDiffDig (K : PySem.W.Frag) (C : Addr) : Sp := fun vs H Q E => ∃ x : V, vs = [x] ∧ ((NoSeq H x ∧ Raised C "value" x H E) ∨ ∃ (p : Addr) (xs : List V), x = .ref p ∧ IsSeq K H p xs ∧ (∀ y ∈ xs, ItemOk H y) ∧ xs.length ≤ 60 ∧ (xs.all digV = false → Raised C "value" x H E) ∧
  ∀ ns : List Int, xs = ns.map V.int → ns.all dig = true → ∃ six : Bool, (∀ ks : List Int, ks.Nodup → (∀ k, k ∈ ks ↔ k ∈ ns) → (decide (1 ≤ ks.length) && decide (ks.length ≤ 6)) = six) ∧ (six = false → Raised C "value" x H E) ∧
    (six = true → ∀ (ds : List Int) (t : Addr) (H' : Hp), ds.Pairwise (· < ·) → (∀ k, k ∈ ds ↔ k ∈ ns) → Same H H' → H t = none → H' t = some (.tup (ds.map V.int)) → Q (.ref t) H'))
theorem scDd : FnScope ["digits"] ["digits"] (defScope sDiffDig) := ⟨rfl, rfl, rfl, by decide +kernel, rfl, by decide +kernel, by decide +kernel⟩
theorem ok_diffdig {f fL fI C : Addr} {fd fdL fdI : FuncData} {t6 : Tok} (F : Fun K "_different_digits" "_different_digits" sDiffDig f fd) (GL : FnOk P w K mg base CX0 5 fL fdL ["value"] (spDigList K)) (gL : mg "_is_digit_list" = some (.ref fL)) (kL : PySem.W.keepIn K (.ref fL) = true) (bL : Binds K fdL ["value"] [])
    (GI : FnOk P w K mg base CX0 3 fI fdI ["self", "value"] (spInit K "value" C)) (T : ErrC K mg "InvalidDigits" "value" C fI) (bI : Binds K fdI ["self", "value"] [])
    (g6 : mg "MOST_DIGITS" = some (.int 6 t6)) (ml : mg "len" = none) (ms : mg "set" = none) (mso : mg "sorted" = none) (mt : mg "tuple" = none) : FnOk P w K mg base (L2.CX P w) 6 f fd ["digits"] (spDiffDig K C) := by
  refine F.okX scDd (fun vs H Q E h => ?_) (fun cdv A outer s H vs Q E hr h => ?_)
  · obtain ⟨x, rfl, _⟩ := h
    rfl
  · obtain ⟨x, rfl, h⟩ := h
    have hr3 : Room 4 _ := hr.mono (by decide)
    apply Exists.intro
    apply And.intro
    · apply pss_cons
      · exact ps_if (PW.pt (pw_or (pt_not (pt_val (pe_call GL hr (by rfl) gL kL bL .nil pass0 (pa_cons (pv 0) pa_nil))))
            (pw_or1 (pt_not (pt_chain op_le op_le pe_int (pe_callB call_lenSetO (by rfl) ml PySem.boot_len (pa_cons (pe_callTy (cr_setI rfl) (by rfl) ms PyProof.Rows.boot_set (pa_cons (pv 0) pa_nil)) pa_nil)) (pe_glob (v := .int 6) (by rfl) g6 ⟨_, rfl⟩))))))
          (pss_one (ps_raise rfl (takes_of rfl rfl rfl rfl) (pmk_oex T.ox T.iC T.tI GI hr3 bI .nil pass0 (by rfl) T.g (pa_cons (pv 0) pa_nil)))) pss_nil
      apply pss_one
      · exact ps_ret (pe_callTy call_tuple_of (by rfl) mt (by decide +kernel) (pa_cons (pe_callB (cr_sortedSet rfl) (by rfl) mso (by decide +kernel) (pa_cons (pe_callTy (cr_setI rfl) (by rfl) ms PyProof.Rows.boot_set (pa_cons (pv 0) pa_nil)) pa_nil)) pa_nil))
    have raise : ∀ {H1 : Hp}, Raised C "value" x H E → Same H H1 → _ := fun {H1} hE s1 => raised_ok (K := K) (σ := start ["digits"] [x]) (D := { nx := fun _ H' => Q .non H', rt := Q }) hE s1
    rcases h with ⟨no, hE⟩ | ⟨p, xs, rfl, hp, it, hl, hE, hq⟩
    · exact ⟨x, rfl, x, rfl, .inl ⟨no, fun H1 s1 => ⟨false, rfl, iteT ⟨x, rfl, raise hE s1⟩⟩⟩⟩
    · refine ⟨.ref p, rfl, .ref p, rfl, .inr ⟨p, xs, rfl, hp, it, by omega, fun H1 s1 => ?_⟩⟩
      cases hd : xs.all digV with
      | false => exact ⟨false, rfl, iteT ⟨.ref p, rfl, raise (hE hd) s1⟩⟩
      | true =>
        obtain ⟨ns, rfl, hn⟩ := all_ints hd
        obtain ⟨six, h6, hE6, q⟩ := hq ns rfl hn
        rw [List.length_map] at hl
        refine ⟨true, rfl, iteF ?_⟩
        refine ⟨.ref p, rfl, p, ns, rfl, (hp.same s1).sq, hl, fun S1 ks hS1 nd mem => ?_⟩
        have h66 := h6 ks nd mem
        have s2 : Same H (upd H1 S1 (SetO w S1 (fun j => decide (j ∈ ns)) ks.length)) := s1.trans (same_new hS1)
        refine ⟨S1, _, ks.length, rfl, upd_same, 1, (ks.length : Int), rfl, rfl, _, rfl, ?_⟩
        have e1 : decide ((1 : Int) ≤ (ks.length : Int)) = decide (1 ≤ ks.length) := by
          rw [decide_eq_decide]
          omega
        have e6 : decide ((ks.length : Int) ≤ 6) = decide (ks.length ≤ 6) := by
          rw [decide_eq_decide]
          omega
        cases six with
        | false =>
          cases h1 : decide ((1 : Int) ≤ (ks.length : Int)) with
          | false => exact iteFB rfl ⟨_, rfl, iteTB rfl ⟨.ref p, rfl, raise (hE6 rfl) s2⟩⟩
          | true =>
            refine iteTB rfl ⟨(ks.length : Int), 6, rfl, rfl, _, rfl, ?_⟩
            rw [← e1, h1, Bool.true_and, ← e6] at h66
            exact iteTB (by rw [h66]; rfl) ⟨.ref p, rfl, raise (hE6 rfl) s2⟩
        | true =>
          rw [← e1, ← e6, Bool.and_eq_true] at h66
          refine iteTB h66.1 ⟨(ks.length : Int), 6, rfl, rfl, _, rfl, iteFB (by rw [h66.2]; rfl) ?_⟩
          refine ⟨.ref p, rfl, p, ns, rfl, (hp.same s2).sq, hl, fun S2 ks2 hS2 nd2 mem2 => ?_⟩
          have k66 := h6 ks2 nd2 mem2
          rw [Bool.and_eq_true, decide_eq_true_eq, decide_eq_true_eq] at k66
          refine ⟨S2, _, _, rfl, upd_same, by omega, fun ds D asc mds lds hD => ?_⟩
          have s3 : Same H (upd (upd (upd H1 S1 (SetO w S1 (fun j => decide (j ∈ ns)) ks.length)) S2 (SetO w S2 (fun j => decide (j ∈ ns)) ks2.length)) D (.lst (ds.map V.int))) := s2.trans ((same_new hS2).trans (same_new hD))
          refine ⟨D, _, rfl, .inl ⟨SqL.of upd_same, fun t ht => ?_⟩⟩
          exact q rfl ds t _ asc (fun k => (mds k).trans ⟨fun z => of_decide_eq_true z, fun z => decide_eq_true z⟩) (Same.store s3 (s3.free ht)) (s3.free ht) upd_same
end
end K12
set_option maxHeartbeats 4000000
/-! set(xs) of a tuple of tuples of ints. -/
namespace OF
open PySem PySem.Spec PyProof.Rows L2
section
variable {P : Program} {w : World} {A : Around} {E : Value → Shared → Prop}
theorem set_of_tuple2 {h : Heap} {g : Array GenState} {d : Drawn} {t : Nat} {os : OsState} {l : Addr} {xs : Array Value} (ks : List (Addr × List Int)) {Q : Value → Shared → Prop} (calm : A.handled = none) (tpl : h.IsTuple l xs)
    (refs : xs.toList = ks.map fun p => Value.ref p.1) (each : ∀ p ∈ ks, IsT P w h p.2 p.1) (few : ks.length < 64) (room : A.units + 3 < cLine)
    (fin : ∀ (h' : Heap) (tk : Nat) L es ep t', SetTR P w h' h.objs.size L es ep t' → Got ks ks.length L → (∀ b o, h.get? b = some o → h'.get? b = some o) → Q (.ref h.objs.size) ⟨h', g, d, tk, os⟩) :
    wpAny (model P w) A (call (.type "set") [.ref l]) Q E ⟨h, g, d, t, os⟩ := by
  have size : xs.size = ks.length := by
    rw [← Array.length_toList, refs, List.length_map]
  obtain ⟨c, tl, hmro⟩ := F.called_set.mro
  have f1 := F.called_set.made
  have f2 := F.called_set.sub
  have f3 := F.called_set.notType
  have f4 := F.called_set.canCreate
  have f5 := F.typeCall_set_1 (.ref l)
  apply wpAny_call
  apply codeAny_of_tree
  show wpAny _ _ (callAny (.type "set") _) _ _ _
  apply wpAny_pure
  refine ⟨Code.quiet_builtin _ (by decide +kernel), codeAny_builtin F.entry_type_call ?_⟩
  rw [Around.under_plain (weight_type_call_type "set" [.ref l] []) rfl]
  repeat any_goals first
    | assumption
    | wp_step
  refine codeAny_mono (code_set_led1 (s := ⟨h, g, d, t, os⟩) (.ref l) (E := E) (Q₁ := fun v s1 => v = .ref h.objs.size ∧ s1 = ⟨h.push (setObj0 w), g, d, t, os⟩) ⟨rfl, rfl⟩) ?_
  intro r s1 z
  cases r with
  | error e => exact z
  | ok fl =>
    cases fl with
    | next => exact z.elim
    | brk => exact z.elim
    | cont => exact z.elim
    | ret v =>
      obtain ⟨ev, es⟩ := z
      subst ev es
      have there : (h.push (setObj0 w)).get? h.objs.size = some (setObj0 w) := Heap.get?_push_size _ rfl
      have isSet : Shared.TypeIs ⟨h.push (setObj0 w), g, d, t, os⟩ (.ref h.objs.size) "set" := ⟨_, there, rfl⟩
      have i1 := F.called_set.init.lookup
      have i2 := F.called_set.init.bind (.ref h.objs.size)
      repeat any_goals first
        | assumption
        | wp_step
      refine codeAny_mono (codeAny_call_builtin (R := wants (fun r s2 => r = .none ∧ ∃ h' tk L es ep t', s2 = ⟨h', g, d, tk, os⟩ ∧ SetTR P w h' h.objs.size L es ep t' ∧ Got ks ks.length L ∧ (∀ b o, h.get? b = some o → h'.get? b = some o)) E)
        F.called_set.init.plain F.entry_set_init (check_set_init_1 isSet ?inner)) ?outer
      case outer =>
        intro r2 s2 z2
        cases r2 with
        | error e => exact z2
        | ok fl2 =>
          cases fl2 with
          | next => exact z2.elim
          | brk => exact z2.elim
          | cont => exact z2.elim
          | ret v2 =>
            obtain ⟨ev, h', tk, L, es, ep, t', e2, hS, hc, hk⟩ := z2
            subst ev e2
            repeat any_goals first
              | assumption
              | wp_step
            exact fin _ _ _ _ _ _ hS hc hk
      case inner =>
        obtain ⟨o1, ho1, hc1, m1, hd1⟩ := tpl
        obtain ⟨k1, k2, k3, k4⟩ := o1
        simp only at hc1 hd1
        subst hc1 hd1
        have there2 : (h.push (setObj0 w)).get? l = some { cls := .type "tuple", dict := k2, data := .seq xs m1, slots := k4 } := Heap.get?_push_of_some _ ho1
        have s1 := F.sub_tuple_set
        have s2 := F.sub_tuple_frozenset
        have apart : (Value.type "tuple" == Value.type "dict") = false := by decide
        have tpl1 : (h.push (setObj0 w)).IsTuple l xs := ⟨_, there2, rfl, m1, rfl⟩
        unfold Builtin.«set.__init__» noKeywords Builtin.Frozenset.updateFrom
        generalize same : pyIter = PI
        wp_walk
        subst same
        apply wpAny_pyIter_tuple tpl1
        apply wpAny_bind
        apply wpAny_runValue
        have below : l < h.objs.size := Heap.lt_size ho1
        have calm3 : A.in1.in1.in1.handled = none := by simp [calm]
        have sz : (h.push (setObj0 w)).objs.size = h.objs.size + 1 := Heap.size_push ..
        have ne1 : l ≠ (h.push (setObj0 w)).objs.size := by
          rw [sz]
          exact Nat.ne_of_lt (Nat.lt_succ_of_lt below)
        have ne2 : h.objs.size ∉ [(h.push (setObj0 w)).objs.size, l] := by
          rw [sz]
          simp only [List.mem_cons, List.not_mem_nil, or_false, not_or]
          exact ⟨Nat.ne_of_lt (Nat.lt_succ_self _), Nat.ne_of_gt below⟩
        have vals : ∀ (i : Nat) (v : Value), xs[i]? = some v → ∃ p, ks[i]? = some p ∧ v = .ref p.1 := by
          intro i v hv
          have e : xs.toList[i]? = some v := by
            rw [Array.getElem?_toList]
            exact hv
          rw [refs, List.getElem?_map] at e
          obtain ⟨p, hp, rfl⟩ := Option.map_eq_some_iff.mp e
          exact ⟨p, hp, rfl⟩
        have nothing : ∀ b, h.objs.size ≤ b → h.get? b = none := by
          intro b hb
          rcases Option.eq_none_or_eq_some (h.get? b) with z | ⟨o, z⟩
          · exact z
          · exact absurd (Nat.lt_of_lt_of_le (Heap.lt_size z) hb) (Nat.lt_irrefl _)
        refine set_update_tups ((Walks.tuple calm3 _ l ne1 xs).toS) h.objs.size ne2 ks size few vals h each (nothing _ (Nat.le_refl _)) (fun b hb => ?_) room (xs.size - 0) 0 _ (by omega) (Nat.zero_le _) ⟨⟨_, Heap.get?_push_size _ rfl, rfl, rfl⟩, (tpl1.push _)⟩ (fun b o e => Heap.get?_push_of_some _ (Heap.get?_push_of_some _ e)) ?start ?stop
        · rw [List.mem_singleton.mp hb, sz]
          exact nothing _ (Nat.le_succ _)
        case start =>
          have got : ((h.push (setObj0 w)).push { cls := .type "tuple_iterator", data := .fields #[.ref l, .int 0 0] }).get? h.objs.size = some (setObj0 w) := Heap.get?_push_of_some _ there
          exact ⟨[], #[], 0, _, setTR_fresh got, Got.zero ks⟩
        case stop =>
          intro s' L es ep t' hm hS hc hk
          obtain ⟨h', g2, d2, tk, os2⟩ := s'
          have eg : g2 = g := hm.gens
          have ed : d2 = d := hm.drawn
          have eo : os2 = os := hm.os
          subst eg ed eo
          show wpAny _ _ _ _ _ _
          apply wpAny_pure
          show wpAny _ _ (ret Value.none) _ _ _
          rw [size] at hc
          exact wpAny_pure ⟨rfl, h', tk, L, es, ep, t', rfl, hS, hc, hk⟩
end
section
variable {X : Cx}
/-- set(xs): xs a list or a tuple of tuples of ints -/
def rSetOfA (K : PySem.W.Frag) (P : Program) (w : World) : List V → Hp → VK → Prop := fun xs H Q => ∃ (l : Addr) (ks : List (Addr × List Int)), xs = [V.ref l] ∧ (SqL K H l (ks.map fun p => V.ref p.1) ∨ SqT K H l (ks.map fun p => V.ref p.1)) ∧ (∀ p ∈ ks, SqT K H p.1 (p.2.map V.int)) ∧ ks.length < 64 ∧
  ∀ a L, H a = none → (∀ p ∈ L, p ∈ ks) → (∀ p ∈ ks, p.2 ∈ L.map (·.2)) → Q (.ref a) (upd H a (SetTO P w a L))
theorem refs_vals : ∀ {ks : List (Addr × List Int)} {us : List Value}, Vals (ks.map fun p => V.ref p.1) us → us = ks.map fun p => Value.ref p.1
  | [], _, .nil => rfl
  | p :: ks, _, .cons r t => by
    cases r
    rw [refs_vals t, List.map_cons]
theorem cr_setOfA (hc : X.calm = true) (hu : X.A.units + 64 < cLine) : CallR X (.type "set") (rSetOfA X.K X.prog X.w) := by
  intro pins s σ H xs us Q I r h
  obtain ⟨l, ks, rfl, hl, hk, few, q⟩ := h
  rcases hl with hl | hl
  · exact cr_setOfT hc hu pins s σ H _ us Q I r ⟨l, ks, rfl, hl, hk, few, q⟩
  · obtain ⟨u, rfl, ru⟩ := vals1 r
    cases ru
    have hn : H s.heap.objs.size = none := I.hok.fresh (Nat.le_refl _)
    obtain ⟨its, rv, pl, _⟩ := I.tuple hl
    have each : ∀ p ∈ ks, IsT X.prog X.w s.heap p.2 p.1 := fun p hp => I.isT (hk p hp)
    have hd := I.ok.hd hc
    have rv2 := refs_vals rv
    obtain ⟨hp, g, d, t, os⟩ := s
    refine set_of_tuple2 ks hd pl (by simpa using rv2) each few (by omega) fun h' tk L es ep t' R gt k => ?_
    refine ⟨.ref hp.objs.size, upd H hp.objs.size (SetTO X.prog X.w hp.objs.size L), I.laid (t' := tk) k (Nat.le_refl _) (setTO_new R.t0), rfl, q _ L hn (fun p hp => ?_) fun p hp => ?_⟩
    · exact List.mem_of_mem_take (gt.sub p hp)
    · exact gt.all p (by rw [List.take_length]; exact hp)
end
end OF
/-! o.m(k = v, ..) by names alone; o.m(e) within a try, m may raise. -/
namespace OF
open PySem PySem.Spec PyProof.Rows L2
section
variable {X : Cx} {CX : CXT} {k n : Nat} {f C : Addr} {fd : FuncData} {ps ks : List Str} {sp : Sp} {E : XK} {m : Str} {p apos pos : Pos} {o e : Expr} {es : List Expr} {kws : List Keyword} {ta : TE} {t tk : TA} {g : List Value → List Value → List Value} {gV : List V → List V → List V}
def tMethN (C : Addr) (m : Str) (j : Nat) (sp : Sp) (gV : List V → List V → List V) (E : XK) (ta : TE) (tk : TA) : TE := fun σ H Q => ta σ H fun x H1 => ∃ a dx fs, x = .ref a ∧ H1 a = some (.ins C dx fs) ∧ fs.lookup m = none ∧
  tk σ H1 fun zs H2 => zs.length = j ∧ sp (gV [x] zs) H2 Q E
theorem pe_methN0 {pl : Sem Bool} (he : PE X o ta) (c : Cls X.K C) (hm : Meth X.K C m f) (F : FnOk X.prog X.w X.K X.mg X.base CX k f fd ps sp) (hr : Room k X.A) (hb : KBn X.K fd ps 1 ks g gV) (hx : Passes CX X E) (hkw : PK X kws tk)
    (hall : (backToKw pos (keywordEach kws X.env)).all (·.1.isSome) = true := by rfl) (hks : (backToKw pos (keywordEach kws X.env)).filterMap (·.1) = ks := by rfl)
    (hpl : ((backTo pos (starEach [] X.env)).any (·.1) || (backToKw pos (keywordEach kws X.env)).any (·.1.isNone)) = false := by rfl)
    (ht : eval (.Call (.Attribute o m apos) [] kws pos) X.env = (do
      let ov ← eval o X.env
      standAt apos.atName
      let (f, first) ← holding [ov] (getMethod ov m pl)
      callWith pos f first (backTo pos (starEach [] X.env)) (backToKw pos (keywordEach kws X.env))) := by rfl) :
    PE X (.Call (.Attribute o m apos) [] kws pos) (tMethN C m ks.length sp gV E ta tk) := by
  refine ⟨fun pins s σ H Q I h => ?_⟩
  refine PySem.W.methodCall_KW (pl := pl) (thn (he.run pins s σ H _ I h) fun u s1 ⟨x, H1, I1, rx, a, dx, fs, ex, ea, l, q⟩ => ?_) ht
  subst ex
  obtain rfl : u = Value.ref a := rx
  refine getmeth_ok I1 ea c hm l ?_
  refine PySem.W.callWith_KW0 (first := [.ref a]) (h₀ := X.base) I.ok.mod.kin hm.kp hall (thn (hkw.run pos pins s1 σ H1 _ I1 q) fun ws s2 ⟨zs, H2, I2, rz, l2, q2⟩ => ⟨I2.kIn, ?_⟩) hpl
  rw [hks]
  exact run_fnN (us := [.ref a]) (vs := [.ref a]) F hr hb hx I2 (.cons rfl .nil) rz rfl l2 q2
def tMethS (C : Addr) (m : Str) (sp : Sp) (E : L2.St → XK) (ta : TE) (t : TA) : TE := fun σ H Q => ta σ H fun x H1 => ∃ a dx fs, x = .ref a ∧ H1 a = some (.ins C dx fs) ∧ fs.lookup m = none ∧
  t σ H1 fun vs H2 => sp (x :: vs) H2 Q (E σ)
theorem pe_methSX {pl : Sem Bool} {E : L2.St → XK} (he : PE X o ta) (c : Cls X.K C) (hm : Meth X.K C m f) (F : FnOk X.prog X.w X.K X.mg X.base CX k f fd ps sp) (hr : Room k X.A) (hb : Binds X.K fd ps []) (hx : ∀ σ, PassesAt CX X σ (E σ)) (ha : PA X (e :: es) t)
    (hst : starEach (e :: es) X.env = (false, eval e X.env) :: starEach es X.env := by rfl) (hpl : (backTo pos (starEach es X.env)).any (·.1) = false := by rfl)
    (ht : eval (.Call (.Attribute o m apos) (e :: es) [] pos) X.env = (do
      let ov ← eval o X.env
      standAt apos.atName
      let (f, first) ← holding [ov] (getMethod ov m pl)
      callWith pos f first (backTo pos (starEach (e :: es) X.env)) (backToKw pos (keywordEach [] X.env))) := by rfl) :
    PE X (.Call (.Attribute o m apos) (e :: es) [] pos) (tMethS C m sp E ta t) := by
  refine ⟨fun pins s σ H Q I h => ?_⟩
  refine PySem.W.methodCall_KW (pl := pl) (thn (he.run pins s σ H _ I h) fun u s1 ⟨x, H1, I1, rx, a, dx, fs, ex, ea, l, q⟩ => ?_) ht
  subst ex
  obtain rfl : u = Value.ref a := rx
  refine getmeth_ok I1 ea c hm l ?_
  refine PySem.W.callWith_K (first := [.ref a]) (h₀ := X.base) I.ok.mod.kin hm.kp (thn (ha.run pos pins s1 σ H1 _ I1 q) fun us s2 ⟨vs, H2, I2, r, q2⟩ => ⟨I2.kIn, ?_⟩) hst hpl
  exact run_fnS (us := .ref a :: us) (vs := .ref a :: vs) F hr hb (hx σ) I2 (.cons rfl r) q2
end
end OF
/-! try: .. with several clauses «except X as n». -/
namespace OF
open PySem PySem.Spec PyProof.Rows L2
/-- behind a clause its name (slot i) is gone -/
def dropE (i : Nat) (D : Ends) : Ends := ⟨fun τ J => D.nx (τ.set i none) J, D.rt, fun τ J => D.bk (τ.set i none) J, fun τ J => D.ct (τ.set i none) J⟩
/-- the clauses: class, the name's slot, the suite's reading -/
abbrev Clauses := List (Value × Nat × (Addr → Value → Option Addr → TS))
def wManyA (K : PySem.W.Frag) (Wout : WX) (D : Ends) : Clauses → WX
  | [] => Wout
  | t :: rest => fun kl d τ J => ∃ b, PySem.W.exmOne K kl t.1 = some b ∧ (b = true → ∀ q, J q = none → t.2.2 q kl d (dropE t.2.1 D) (τ.set t.2.1 (some (.ref q))) J) ∧ (b = false → wManyA K Wout D rest kl d τ J)
inductive HdA (X : Cx) : List ExceptHandler → Clauses → Prop
  | nil : HdA X [] []
  | cons {x m : Str} {c : Value} {i : Nat} {ts : Addr → Value → Option Addr → TS} {first : Stmt} {suite : List Stmt} {p1 p2 : Pos} {more : List ExceptHandler} {l : Clauses} (named : Names X x c) (slot : X.N[i]? = some m) (own : X.env.kindOf m = some .local)
      (run : ∀ (q : Addr) (oe : Obj) (kl : Value) (d : Option Addr) (pn : List (Addr × Obj)), Zc kl d oe → (∃ vs, oe.data = .fields vs) → PSs (X.suite q ((q, oe) :: pn)) (first :: suite) (ts q kl d)) (rest : HdA X more l) :
      HdA X (.ExceptHandler (some (.Name x p1)) (some m) (first :: suite) p2 :: more) ((c, i, ts) :: l)
section
variable {X : Cx} {body : List Stmt} {h0 : ExceptHandler} {more : List ExceptHandler} {l : Clauses} {pos : Pos} {tb : WX → TS} {Wout : WX}
theorem not_frame {a : Addr} {B : Heap} {L : List Env} {h : Heap} {o : Obj} {vs : Array Value} (ff : h.FunFrames B L) (e : h.get? a = some o) (dd : o.data = .fields vs) : a ∉ frs L := by
  intro hm
  obtain ⟨_, o2, e2, no⟩ := ff.mem hm
  rw [e] at e2
  cases e2
  exact no _ dd
theorem ps_try_manyA (hs : X.stack = X.env :: X.outer) (hf : X.env.frame = some X.env.locals) (nd : X.N.Nodup) (tk : Takes X Wout)
    (hb : ∀ (W : WX) (pn : List (Addr × Obj)) (xe : Value → Shared → Prop), Takes (X.tr pn xe) W → PassesOwn (model X.prog X.w) X.A X.env xe → PSs (X.tr pn xe) body (tb W))
    (hh : HdA X (h0 :: more) l) : PS X (.Try body (h0 :: more) [] [] pos) (fun D τ J => tb (wManyA X.K Wout D l) D τ J) := by
  constructor
  intro pins s τ J D I reading
  have fine := I.ok
  have frames : X.A.frames = some (X.env :: X.outer) := fine.frames.trans (by rw [hs])
  refine wpAny_Try_except ?_
  refine wpAny_mono ((hb (wManyA X.K Wout D l) (X.pn ++ pins) (fun e t1 => wpAny (model X.prog X.w) X.A (noteFrame e X.env)
      (fun _ t2 => wpAny (model X.prog X.w) X.A (setFlight e none) (fun _ t3 => wpAny (model X.prog X.w) X.A (handleBy e X.env (h0 :: more)) (SP X pins D) X.xe t3) X.xe t2) X.xe t1) ?caught PassesOwn.looking).run [] s τ J D (I.toTry _) reading) ?through fun _ _ z => z
  case through =>
    intro fl t1 w
    cases fl with
    | next =>
      obtain ⟨τ1, J1, I1, z⟩ := w
      exact wpAny_execs_nil ⟨τ1, J1, I1.ofTry fine, z⟩
    | brk => exact let ⟨τ1, J1, I1, z⟩ := w; ⟨τ1, J1, I1.ofTry fine, z⟩
    | cont => exact let ⟨τ1, J1, I1, z⟩ := w; ⟨τ1, J1, I1.ofTry fine, z⟩
    | ret u => exact let ⟨v, τ1, J1, I1, r, z⟩ := w; ⟨v, τ1, J1, I1.ofTry fine, r, z⟩
  case caught =>
    intro u t1 raised
    obtain ⟨a, B, sI, pins2, τ1, J1, kl, d, rfl, I0, nb, up, sky, na, os, ag, wish⟩ := raised
    have I1 : Inv X pins τ1 J1 sI := I0.ofTry fine
    have sky1 : Sky B (X.env :: X.outer) a (Zc kl d) X.env.locals t1.heap := hs ▸ sky
    show wpAny (model X.prog X.w) X.A (noteFrame (.ref a) X.env) _ _ _
    refine Sky.land Zc.steady frames hf sky1 fun g fl up2 => ?_
    have I2 : Inv X pins τ1 J1 { t1 with heap := g } := I1.landed nb fl.1 (up.trans up2) os ag
    obtain ⟨oe, vs, at_e, ze, fe⟩ := fl.there
    have nf := not_frame fl.2.2.1 at_e fe
    have aL : a ≠ X.env.locals := fun z => nf (List.mem_filterMap.mpr ⟨X.env, List.mem_cons_self, hf.trans (congrArg some z.symm)⟩)
    have aF : a ∉ X.fs := fun hm => by
      obtain ⟨en, hen, q⟩ := List.mem_filterMap.mp hm
      exact nf (List.mem_filterMap.mpr ⟨en, List.mem_cons_of_mem _ hen, q⟩)
    have inSuite := I2.suite at_e fe na aL aF
    suffices go : ∀ {hds : List ExceptHandler} {cl : Clauses}, HdA X hds cl → wManyA X.K Wout D cl kl d τ1 J1 → wpAny (model X.prog X.w) X.A (handleBy (.ref a) X.env hds) (SP X pins D) X.xe { t1 with heap := g } from go hh wish
    intro hds cl hk
    induction hk with
    | nil =>
      intro out
      refine wpAny_handleBy_nil ?_
      obtain ⟨_, _, _, o1, _, T, _, _, at1, _, f1, i1, _⟩ := id fl
      unfold PySem.passOn
      refine wpAny_bind (wpAny_field at1 f1 i1 ?_)
      rw [if_neg (fun z => by simp at z)]
      have last : wpAny (model X.prog X.w) X.A (setFlight (.ref a) X.env.frame) (fun _ t4 => wpAny (model X.prog X.w) X.A (throw (.ref a) : Sem Flow) (SP X pins D) X.xe t4) X.xe { t1 with heap := g } := by
        rw [hf]
        refine HandSPX.setFlight_upZ fl fun g2 hg2 up3 => wpAny_throw (tk _ _ ⟨a, B, sI, pins, τ1, J1, kl, d, rfl, I1, nb, (up.trans up2).trans up3, .inr (.inr ?_), na, os, ag, out⟩)
        rw [hs]
        exact hg2
      first
        | exact wpAny_bind (wpAny_pure (wpAny_bind last))
        | exact wpAny_bind last
    | @cons x m c i ts first suite p1 p2 more2 l2 named slot own run _ ih =>
      intro w
      obtain ⟨b, asked, yes, no⟩ := w
      refine wpAny_handleBy_cons (codeAny_handlers_test ?_) (fun z => nomatch z)
      have isT : PySem.W.Looks (model X.prog X.w) g (typeOf (.ref a)) kl := fun _ _ _ t4 k z => wpAny_typeOf_ref (k _ _ at_e) (by rw [ze.1]; exact z)
      have isM := PySem.W.exm_one (M := model X.prog X.w) (I2.kIn) isT asked
      have name : ∀ {R E : Value → Shared → Prop}, R c { t1 with heap := g } → wpAny (model X.prog X.w) (X.A.mark (some (.ref a))) (eval (.Name x p1) X.env) R E { t1 with heap := g } := by
        intro R E z
        obtain ⟨gl, nodbg, mine | ⟨free, boot, nn⟩⟩ := named
        · exact ld_glob (X := X.suite a ((a, oe) :: (X.pn ++ pins))) inSuite gl mine z nodbg
        · exact ld_blt (X := X.suite a ((a, oe) :: (X.pn ++ pins))) inSuite gl free boot z nn nodbg
      refine name (isM.here ?_)
      cases b with
      | false =>
        show wpAny _ X.A (handleBy (.ref a) X.env more2) _ _ _
        exact ih (no rfl)
      | true =>
        refine codeAny_handlers_suite_as (HandSPX.lands_againZ fl fun g2 fl2 up3 => ?_)
        have I3 : Inv X pins τ1 J1 { t1 with heap := g2 } := I1.landed nb fl2.1 ((up.trans up2).trans up3) os ag
        obtain ⟨oe2, vs2, at2, ze2, fe2⟩ := fl2.there
        have S := I3.suite at2 fe2 na aL aF
        refine store_ok (X := X.suite a ((a, oe2) :: (X.pn ++ pins))) (v := .ref a) S nd slot (.inl own) rfl (fun t5 S5 => ?_) (.inr own)
        refine wpAny_mono ((run a oe2 kl d (X.pn ++ pins) ze2 ⟨_, fe2⟩).run [] t5 _ J1 _ S5 (yes rfl a na)) ?_ fun _ _ z => z.elim
        intro fl6 t6 w6
        have gone : ∀ {τ6 : L2.St} {J6 : Hp} {R : Shared → Prop}, Inv (X.suite a ((a, oe2) :: (X.pn ++ pins))) [] τ6 J6 t6 → (∀ t7, Inv X pins (τ6.set i none) J6 t7 → R t7) →
            wpAny (model X.prog X.w) X.A (do bindName X.env m .none; unbindBehindTheSuite X.env m p2) (fun _ t7 => R t7) X.xe t6 := fun S6 z => gone_ok (S6.unsuite fine) nd slot own z
        cases fl6 with
        | next => exact let ⟨τ6, J6, S6, z⟩ := w6; gone S6 fun _ I7 => ⟨_, _, I7, z⟩
        | brk => exact let ⟨τ6, J6, S6, z⟩ := w6; gone S6 fun _ I7 => ⟨_, _, I7, z⟩
        | cont => exact let ⟨τ6, J6, S6, z⟩ := w6; gone S6 fun _ I7 => ⟨_, _, I7, z⟩
        | ret u => exact let ⟨v6, τ6, J6, S6, r6, z⟩ := w6; gone S6 fun _ I7 => ⟨_, _, _, I7, r6, z⟩
end
end OF
/-! repr of any data without dicts; a value equal to itself; what an except clause does not take. -/
namespace OF
open PySem PySem.Spec PyProof.Rows L2
/-- repr of data -/
def rReprD (K : PySem.W.Frag) : List V → Hp → VK → Prop := fun xs H Q => ∃ (v : V) (d : PyData), xs = [v] ∧ Dp K H v d ∧ d.showable = true ∧ d.hasDict = false ∧ d.shown.length ≤ sizeLine ∧ d.depth ≤ 40 ∧ Q (.str d.shown) H
theorem call_reprD {X : Cx} (gu : X.A.guards = some []) (hu : X.A.units + 64 < cLine) : CallR X (.builtin "repr") (rReprD X.K) := by
  intro pins s σ H xs us Q I r h
  obtain ⟨v, d, rfl, hd, sh, nd, len, dep, q⟩ := h
  obtain ⟨u, rfl, ru⟩ := vals1 r
  have big : ∀ {p : Addr}, v = .ref p → wpAny (model X.prog X.w) X.A (call (.builtin "repr") [u]) (EP X pins σ Q) X.xe s := fun {p} e => by
    subst e
    cases ru
    obtain ⟨as, rd⟩ := Dp.reads I d _ _ hd rfl
    exact PySem.repr_of_reads' rd sh (fun z => by rw [nd] at z; cases z) gu (by omega) (fun _ _ z => z) (fun h' t tk kp => ⟨.str _, H, I.kept kp, ⟨_, rfl⟩, q⟩) len
  cases hd with
  | non =>
    cases ru
    exact PySem.P.repr_of_none ⟨.str _, H, I.tok _, ⟨_, rfl⟩, q⟩
  | bl b =>
    cases ru
    exact PySem.P.repr_of_bool ⟨.str _, H, I.tok _, ⟨_, rfl⟩, by cases b <;> exact q⟩
  | int i =>
    obtain ⟨t, rfl⟩ := ru
    exact PySem.P.repr_of_int (of_decide_eq_true sh) ⟨.str _, H, I.tok _, ⟨_, rfl⟩, q⟩
  | str z =>
    obtain ⟨t, rfl⟩ := ru
    exact PySem.P.repr_of_str ⟨.str _, H, I.tok _, ⟨_, rfl⟩, q⟩ len
  | lst h1 h2 => exact big rfl
  | tup h1 h2 => exact big rfl
/-- a value is equal to itself -/
def rEqSelf (K : PySem.W.Frag) : R2 := fun x y H Q => x = y ∧ ((∃ d, Dp K H x d ∧ SeqAt.shaped d = true) ∨ ∃ p, x = .ref p ∧ H p = some (.dK [])) ∧ Q (.bl true) H
theorem op_eqSelf {X : Cx} (hu : X.A.units + 64 < cLine) : OpR X (compareOp .Eq) (rEqSelf X.K) := by
  intro pins s σ H x y v u Q I rx ry h
  obtain ⟨rfl, h, q⟩ := h
  rcases h with ⟨d, hd, sh⟩ | ⟨p, rfl, hp⟩
  · refine op_eqD hu pins s σ H x x v u Q I rx ry ⟨d, d, hd, hd, sh, sh, ?_⟩
    rw [SeqAt.eqv_refl d (SeqAt.canLay_of_shaped sh)]
    exact q
  · exact op_eq_dictA (by omega) pins s σ H _ _ v u Q I rx ry ⟨p, p, [], [], rfl, rfl, hp, hp, rfl, (fun z hz => by cases hz), q⟩
/-- an error of another class -/
theorem exm_other {K : PySem.W.Frag} {S D : Addr} (h1 : PySem.W.subIn K (.ref D) (.type "BaseException") = some true) (h2 : PySem.W.isClsIn K D = true) (h3 : PySem.W.typeIn K (.ref D) = some (.type "type")) (h4 : PySem.W.subIn K (.ref S) (.ref D) = some false) (ne : S ≠ D) :
    PySem.W.exmOne K (.ref S) (.ref D) = some false := by
  have h2' : (PySem.W.clsIn K D).isSome = true := h2
  unfold PySem.W.exmOne
  simp only [h1, beq_self_eq_true, if_true]
  unfold PySem.W.kitCls
  simp only [h3, h4, h2', beq_self_eq_true, Bool.and_self, if_true]
end OF
namespace K12
open PySem PySem.Spec PyProof.Rows L2 OF
section
variable {P : Program} {w : World} {K : PySem.W.Frag} {mg : Str → Option Value} {base : Heap}
def spOneOf (K : PySem.W.Frag) : Sp := fun vs H Q _ => ∃ (t : Addr) (ds : List Int) (x : V), vs = [.ref t, x] ∧ SqT K H t (ds.map V.int) ∧ ((∃ n : Int, x = .int n ∧ Q (.bl (dig n && decide (n ∈ ds))) H) ∨ (Odd H x ∧ Q (.bl false) H))
theorem in_ints (n : Int) : ∀ ds : List Int, inV (.int n) (ds.map V.int) = decide (n ∈ ds)
  | [] => by
    show false = _
    rw [decide_eq_false (List.not_mem_nil)]
  | d :: ds => by
    show ((d == n) || inV (.int n) (ds.map V.int)) = _
    rw [in_ints n ds, Bool.eq_iff_iff]
    simp only [Bool.or_eq_true, beq_iff_eq, decide_eq_true_eq, List.mem_cons]
    constructor
    · rintro (h | h)
      · exact .inl h.symm
      · exact .inr h
    · rintro (h | h)
      · exact .inl h.symm
      · exact .inr h
theorem flat_ints : ∀ ds : List Int, (ds.map V.int).all flatV = true
  | [] => rfl
  | _ :: ds => flat_ints ds
theorem scOn : FnScope ["digits", "value"] ["digits", "value"] (defScope sOneOf) := ⟨rfl, rfl, rfl, by decide +kernel, rfl, by decide +kernel, by decide +kernel⟩
theorem ok_oneof {f fD : Addr} {fd fdD : FuncData} (F : Fun K "_is_one_of" "_is_one_of" sOneOf f fd) (GD : FnOk P w K mg base CX0 3 fD fdD ["value"] spIsDigit) (gD : mg "is_digit" = some (.ref fD)) (kD : PySem.W.keepIn K (.ref fD) = true) (bD : Binds K fdD ["value"] []) :
    FnOk P w K mg base CX0 4 f fd ["digits", "value"] (spOneOf K) := by
  refine F.ok scOn (fun vs H Q E h => ?_) (fun cdv A outer s H vs Q E hr h => ?_)
  · obtain ⟨t, ds, x, rfl, _⟩ := h
    rfl
  · obtain ⟨t, ds, x, rfl, ht, h⟩ := h
    refine ⟨_, pss_one (ps_ret (pe_and (pe_call GD hr (by rfl) gD kD bD .nil pass0 (pa_cons (pv 1) pa_nil)) (pe_one (pe_cmpR op_in_seq (pv 1) (pv 0) rfl)))), ?_⟩
    rcases h with ⟨n, rfl, q⟩ | ⟨o, q⟩
    · refine ⟨.int n, rfl, .int n, rfl, .inl ⟨n, rfl, _, rfl, iteAnd (fun z => ?_) q⟩⟩
      refine ⟨.int n, rfl, .ref t, rfl, t, _, rfl, .inr ht, rfl, flat_ints ds, ?_⟩
      have z2 := z
      rw [← in_ints n ds] at z2
      exact z2
    · exact ⟨x, rfl, x, rfl, .inr ⟨o, _, rfl, iteF q⟩⟩
theorem passNo {X : Cx} {P' : Program} {w' : World} : Passes (L2.CX P' w') X E0 := fun _ _ _ _ _ _ _ h => by
  obtain ⟨_, _, _, _, _, _, _, _, _, _, _, _, z⟩ := h
  exact z.elim

def isOne (ds : List Int) (n : Int) : Bool := dig n && decide (n ∈ ds)
def oneV (ds : List Int) : V → Bool
  | .int n => isOne ds n
  | _ => false
theorem oneV_odd {H : Hp} {ds : List Int} {x : V} (o : Odd H x) : oneV ds x = false := by cases o <;> rfl
/-- no tuple -/
inductive NoTup (H : Hp) : V → Prop
  | no {x : V} (h : NoSeq H x) : NoTup H x
  | lst {a : Addr} {xs : List V} (e : H a = some (.lst xs)) : NoTup H (.ref a)
theorem NoTup.same {H H' : Hp} {x : V} (h : NoTup H x) (s : Same H H') : NoTup H' x := by
  cases h with
  | no h => exact .no (h.same s)
  | lst e => exact .lst (s _ _ e)
theorem NoTup.kit {K : PySem.W.Frag} {H : Hp} {x : V} (h : NoTup H x) : ∃ t, TyX K H x t ∧ PySem.W.kitOne K t (.type "tuple") = some false := by
  cases h with
  | lst e => exact ⟨_, .base (.lst e), kit_ty (by decide +kernel)⟩
  | no h =>
    cases h with
    | int n => exact ⟨_, .base (.int n), kit_ty (by decide +kernel)⟩
    | non => exact ⟨_, .base .non, kit_ty (by decide +kernel)⟩
    | bl b => exact ⟨_, .base (.bl b), kit_ty (by decide +kernel)⟩
    | str z => exact ⟨_, .base (.str z), kit_ty (by decide +kernel)⟩
    | dK e => exact ⟨_, .base (.dK e), kit_ty (by decide +kernel)⟩
def pairB (ds : List Int) (xs : List V) : Bool := decide (xs.length = 2) && xs.all (oneV ds)
/-- _is_pair of any value -/
def spIsPair (K : PySem.W.Frag) : Sp := fun vs H Q _ => ∃ (t : Addr) (ds : List Int) (x : V), vs = [.ref t, x] ∧ SqT K H t (ds.map V.int) ∧ ((NoTup H x ∧ Q (.bl false) H) ∨ ∃ (p : Addr) (xs : List V), x = .ref p ∧ H p = some (.tup xs) ∧ xs.length ≤ 1000 ∧ (∀ y ∈ xs, ItemOk H y) ∧ ∀ H', Same H H' → Q (.bl (pairB ds xs)) H')
abbrev nIp : List Str := ["digits", "value", "item"]
theorem scIp : FnScope nIp ["digits", "value"] (defScope sIsPair) := ⟨rfl, rfl, rfl, by decide +kernel, rfl, by decide +kernel, by decide +kernel⟩
theorem ok_ispair {f fO : Addr} {fd fdO : FuncData} (F : Fun K "_is_pair" "_is_pair" sIsPair f fd) (GO : FnOk P w K mg base CX0 4 fO fdO ["digits", "value"] (spOneOf K)) (gO : mg "_is_one_of" = some (.ref fO)) (kO : PySem.W.keepIn K (.ref fO) = true) (bO : Binds K fdO ["digits", "value"] [])
    (mis : mg "isinstance" = none) (ml : mg "len" = none) (mall : mg "all" = none) (mt : mg "tuple" = none) : FnOk P w K mg base CX0 5 f fd ["digits", "value"] (spIsPair K) := by
  refine F.ok scIp (fun vs H Q E h => ?_) (fun cdv A outer s H vs Q E hr h => ?_)
  · obtain ⟨t, ds, x, rfl, _⟩ := h
    rfl
  · obtain ⟨t, ds, x, rfl, ht, h⟩ := h
    refine ⟨_, pss_one (ps_ret (pe_and (pe_callB call_isi (by rfl) mis PyProof.Rows.boot_isinstance (pa_cons (pv 1) (pa_cons (pe_bltn (v := .ty "tuple") (by rfl) mt (by decide +kernel) rfl) pa_nil)))
      (pe_and (pe_cmpR op_eq (pe_callB call_len_seq (by rfl) ml PySem.boot_len (pa_cons (pv 1) pa_nil)) pe_int (nomark _))
      (pe_one (pe_callB (cr_all rfl) (by rfl) mall (by decide +kernel) (pa_cons (pe_lc (own := [("item", 2)]) (g := gName 2) (tt := tYes) (te := tCall (spOneOf K) [] E0 (tCons (tVar 0) (tCons (tVar 2) tNil))) rfl scIp.nd (pi_tup (pv 1))
            (blkOk_by (own := [("item", 2)]) (N := nIp) (sc := defScope sIsPair) (by decide +kernel)) (fun _ _ _ _ _ => pg_name (i := 2) scIp.nd rfl (Or.inl rfl)) (fun _ _ _ _ _ => pts_nil)
            (fun _ _ _ _ _ => by exact (pe_call GO hr (by rfl) gO kO bO .nil pass0 (pa_cons (pv 0) (pa_cons (pv 2) pa_nil))))) pa_nil)))))), ?_⟩
    rcases h with ⟨no, q⟩ | ⟨p, xs, rfl, hp, hl, it, q⟩
    · obtain ⟨ty, tyx, k⟩ := no.kit (K := K)
      exact ⟨x, rfl, x, .ty "tuple", ty, .type "tuple", false, rfl, .ty _, tyx, k, false, rfl, iteF q⟩
    refine ⟨.ref p, rfl, .ref p, .ty "tuple", .type "tuple", .type "tuple", true, rfl, .ty _, .base (.tup hp), kit_ty (by decide +kernel), true, rfl, iteT ?_⟩
    refine ⟨.ref p, rfl, p, _, rfl, .inr (SqT.of hp), rfl, _, rfl, ?_⟩
    by_cases c : xs.length = 2
    · refine iteTB (decide_eq_true (congrArg (fun n : Nat => V.int (n : Int)) c)) ⟨.ref p, rfl, p, rfl, ⟨_, SqT.of hp⟩, fun D hD => ?_⟩
      refine lc_tup (K := K) (a := p) (xs := xs) (fun i H' => Same H H' ∧ H' D = some (.lst ((xs.take i).map fun x => V.bl (oneV ds x)))) ⟨same_new hD, upd_same⟩ (fun i H' _ h => SqT.of (h.1 _ _ hp)) ?_ ?_
      · rintro i z H' hi ⟨s1, e1⟩
        have fin : ∃ acc, H' D = some (.lst acc) ∧ acc.length < sizeLine ∧ (Same H (upd H' D (.lst (acc ++ [.bl (oneV ds z)]))) ∧ (upd H' D (.lst (acc ++ [.bl (oneV ds z)]))) D = some (.lst ((xs.take (i + 1)).map fun x => V.bl (oneV ds x)))) := by
          refine ⟨_, e1, ?_, Same.store s1 hD, ?_⟩
          · rw [List.length_map]
            exact Nat.lt_of_le_of_lt (List.length_take_le' _ _) (small1000 hl)
          · rw [upd_same, take_more hi, List.map_append]
            rfl
        refine ⟨rfl, tYes_if ⟨.ref t, rfl, z, rfl, t, ds, z, rfl, same_seqT s1 ht, ?_⟩⟩
        rcases it z (List.mem_of_getElem? hi) with ⟨n, rfl⟩ | o
        · exact .inl ⟨n, rfl, fin⟩
        · rw [oneV_odd o] at fin
          exact .inr ⟨o.same s1, fin⟩
      · rintro H' ⟨s1, e1⟩
        rw [List.take_length] at e1
        have z := q H' s1
        have e : pairB ds xs = (xs.map (oneV ds)).all id := by
          unfold pairB
          rw [decide_eq_true c, Bool.true_and, List.all_map]
          rfl
        rw [e] at z
        exact ⟨D, xs.map (oneV ds), rfl, SqL.of (by rw [e1, List.map_map]; rfl), z⟩
    · have z := q H (Same.refl H)
      have e : pairB ds xs = false := by
        unfold pairB
        rw [decide_eq_false c, Bool.false_and]
      rw [e] at z
      refine iteFB (decide_eq_false fun y => c ?_) z
      have y2 : ((xs.length : Nat) : Int) = 2 := V.int.inj y
      omega

/-- bars of a list or tuple: two of the digits each -/
def BarOk (H : Hp) (ds : List Int) (p : Addr × List Int) : Prop := ∃ x y, p.2 = [x, y] ∧ H p.1 = some (.tup [.int x, .int y]) ∧ isOne ds x = true ∧ isOne ds y = true
/-- an item that is no pair of the digits -/
def BadBar (H : Hp) (ds : List Int) (x : V) : Prop := NoTup H x ∨ ∃ (p : Addr) (xs : List V), x = .ref p ∧ H p = some (.tup xs) ∧ xs.length ≤ 1000 ∧ (∀ y ∈ xs, ItemOk H y) ∧ pairB ds xs = false
theorem BadBar.same {H H' : Hp} {ds : List Int} {x : V} (h : BadBar H ds x) (s : Same H H') : BadBar H' ds x := by
  rcases h with h | ⟨p, xs, e, hp, l, it, b⟩
  · exact .inl (h.same s)
  · exact .inr ⟨p, xs, e, s _ _ hp, l, fun y hy => (it y hy).same s, b⟩
/-- _different_pairs of any value: no list; a first bar that is none behind good ones; good ones alone -/
def spDiffPair (K : PySem.W.Frag) (C : Addr) : Sp := fun vs H Q E => ∃ (t : Addr) (ds : List Int) (x : V), vs = [.ref t, x] ∧ SqT K H t (ds.map V.int) ∧ ((NoSeq H x ∧ Raised C "value" x H E) ∨ ∃ (l : Addr) (ks : List (Addr × List Int)) (rest : List V), x = .ref l ∧ IsSeq K H l (ks.map (fun p => V.ref p.1) ++ rest) ∧ ks.length < 64 ∧ (∀ p ∈ ks, BarOk H ds p) ∧
  ((∃ (y : V) (more : List V), rest = y :: more ∧ BadBar H ds y ∧ Raised C "value" y H E) ∨ (rest = [] ∧
    ∀ (L : List (Addr × List Int)) (r : Addr) (H' : Hp), (∀ p ∈ L, p ∈ ks) → (∀ p ∈ ks, p.2 ∈ L.map (·.2)) → (L.map (·.2)).Nodup → L.Pairwise (fun q r => SrtO.lexB (duo r.2) (duo q.2) = false) → Same H H' → H' r = some (.tup (L.map fun q => V.ref q.1)) → Q (.ref r) H')))
abbrev nDp : List Str := ["digits", "bars", "item"]
theorem scDp : FnScope nDp ["digits", "bars"] (defScope sDiffPair) := ⟨rfl, rfl, rfl, by decide +kernel, rfl, by decide +kernel, by decide +kernel⟩
theorem barOk_pair {H : Hp} {ds : List Int} {p : Addr × List Int} (h : BarOk H ds p) : ∃ xs : List V, H p.1 = some (.tup xs) ∧ xs.length ≤ 1000 ∧ (∀ y ∈ xs, ItemOk H y) ∧ pairB ds xs = true := by
  obtain ⟨x, y, _, e, hx, hy⟩ := h
  refine ⟨_, e, (by show 2 ≤ 1000; decide), fun z hz => ?_, ?_⟩
  · simp only [List.mem_cons, List.not_mem_nil, or_false] at hz
    rcases hz with rfl | rfl
    · exact .inl ⟨_, rfl⟩
    · exact .inl ⟨_, rfl⟩
  · show (decide (2 = 2) && (isOne ds x && (isOne ds y && true))) = true
    rw [hx, hy]
    rfl
set_option maxHeartbeats 2000000 in
theorem ok_diffpair {f fO fI C : Addr} {fd fdO fdI : FuncData} (F : Fun K "_different_pairs" "_different_pairs" sDiffPair f fd) (GO : FnOk P w K mg base CX0 5 fO fdO ["digits", "value"] (spIsPair K)) (gO : mg "_is_pair" = some (.ref fO)) (kO : PySem.W.keepIn K (.ref fO) = true) (bO : Binds K fdO ["digits", "value"] [])
    (GI : FnOk P w K mg base CX0 3 fI fdI ["self", "value"] (spInit K "value" C)) (T : ErrC K mg "InvalidBars" "value" C fI) (bI : Binds K fdI ["self", "value"] [])
    (mis : mg "isinstance" = none) (mli : mg "list" = none) (ms : mg "set" = none) (mso : mg "sorted" = none) (mt : mg "tuple" = none) : FnOk P w K mg base (L2.CX P w) 6 f fd ["digits", "bars"] (spDiffPair K C) := by
  refine F.okX scDp (fun vs H Q E h => ?_) (fun cdv A outer s H vs Q E hr h => ?_)
  · obtain ⟨t, ds, x, rfl, _⟩ := h
    rfl
  · obtain ⟨t, ds, x, rfl, ht, h⟩ := h
    have hr3 : Room 4 _ := hr.mono (by decide)
    rcases h with ⟨no, hE⟩ | ⟨l, ks, rest, rfl, hl, few, hk, h⟩
    · refine ⟨_, pss_cons (ps_if (pt_not (pt_val (pe_callB call_isiT (by rfl) mis PyProof.Rows.boot_isinstance (pa_cons (pv 1) (pa_cons (pe_tup (pa_cons (pe_bltn (v := .ty "list") (by rfl) mli PyProof.Rows.boot_list rfl) (pa_cons (pe_bltn (v := .ty "tuple") (by rfl) mt (by decide +kernel) rfl) pa_nil))) pa_nil)))))
          (pss_one (ps_raise rfl (takes_of rfl rfl rfl rfl) (pmk_oex T.ox T.iC T.tI GI hr3 bI .nil pass0 (by rfl) T.g (pa_cons (pv 1) pa_nil)))) pss_nil)
        (pss_cons (ps_for (passes_of rfl) rfl (pi_list (pv 1)) (pg_name (i := 2) scDp.nd rfl (.inl rfl))
          (pss_one (ps_if (pt_not (pt_val (pe_call GO hr (by rfl) gO kO bO .nil pass0 (pa_cons (pv 0) (pa_cons (pv 2) pa_nil)))))
            (pss_one (ps_raise rfl (takes_of rfl rfl rfl rfl) (pmk_oex T.ox T.iC T.tI GI hr3 bI .nil pass0 (by rfl) T.g (pa_cons (pv 2) pa_nil)))) pss_nil)))
        (pss_one (ps_ret (pe_callTy call_tuple_of (by rfl) mt (by decide +kernel) (pa_cons (pe_callB (cr_sortedDuo rfl) (by rfl) mso (by decide +kernel) (pa_cons (pe_callTy (cr_setOfA rfl hr.units) (by rfl) ms PyProof.Rows.boot_set (pa_cons (pv 1) pa_nil)) pa_nil)) pa_nil))))), ?_⟩
      refine ⟨x, rfl, (by show 2 ≤ sizeLine; decide), fun U hU => ?_⟩
      have s1 : Same H (upd H U (.tup [.ty "list", .ty "tuple"])) := same_new hU
      obtain ⟨ty, hty, k⟩ := (no.same s1).kit (K := K)
      exact ⟨x, U, _, ty, _, false, rfl, upd_same, .cons (.ty _) (.cons (.ty _) .nil), hty, k, false, rfl, iteT ⟨x, rfl, raised_ok (K := K) (σ := start nDp [.ref t, x]) (D := { nx := fun _ H' => Q .non H', rt := Q }) hE s1⟩⟩
    have each : ∀ (i : Nat) (z : V), (ks.map (fun p => V.ref p.1) ++ rest)[i]? = some z → (i < ks.length ∧ ∃ p ∈ ks, z = .ref p.1) ∨ (∃ (more : List V), rest = z :: more) ∨ (ks.length < i) := fun i z hz => by
      rcases Nat.lt_trichotomy i ks.length with c | c | c
      · rw [List.getElem?_append_left (by rw [List.length_map]; exact c)] at hz
        obtain ⟨p, hp, e⟩ := get_map hz
        exact .inl ⟨c, p, List.mem_of_getElem? hp, e⟩
      · rw [List.getElem?_append_right (by rw [List.length_map, c]; exact Nat.le_refl _), List.length_map, c, Nat.sub_self] at hz
        cases rest with
        | nil => cases hz
        | cons y m =>
          cases Option.some.inj hz
          exact .inr (.inl ⟨m, rfl⟩)
      · exact .inr (.inr c)
    have tups : ∀ (H2 : Hp), Same H H2 → ∀ p ∈ ks, SqT K H2 p.1 (p.2.map V.int) := by
      intro H2 s3 p hp
      obtain ⟨x, y, e, ep, _⟩ := hk p hp
      rw [e]
      exact SqT.of (s3 _ _ ep)
    rcases hl.sq with sq | sq
    · refine ⟨_, pss_cons (ps_if (pt_not (pt_val (pe_callB call_isiT (by rfl) mis PyProof.Rows.boot_isinstance (pa_cons (pv 1) (pa_cons (pe_tup (pa_cons (pe_bltn (v := .ty "list") (by rfl) mli PyProof.Rows.boot_list rfl) (pa_cons (pe_bltn (v := .ty "tuple") (by rfl) mt (by decide +kernel) rfl) pa_nil))) pa_nil)))))
          (pss_one (ps_raise rfl (takes_of rfl rfl rfl rfl) (pmk_oex T.ox T.iC T.tI GI hr3 bI .nil pass0 (by rfl) T.g (pa_cons (pv 1) pa_nil)))) pss_nil)
        (pss_cons (ps_for (passes_of rfl) rfl (pi_list (pv 1)) (pg_name (i := 2) scDp.nd rfl (.inl rfl))
          (pss_one (ps_if (pt_not (pt_val (pe_call GO hr (by rfl) gO kO bO .nil pass0 (pa_cons (pv 0) (pa_cons (pv 2) pa_nil)))))
            (pss_one (ps_raise rfl (takes_of rfl rfl rfl rfl) (pmk_oex T.ox T.iC T.tI GI hr3 bI .nil pass0 (by rfl) T.g (pa_cons (pv 2) pa_nil)))) pss_nil)))
        (pss_one (ps_ret (pe_callTy call_tuple_of (by rfl) mt (by decide +kernel) (pa_cons (pe_callB (cr_sortedDuo rfl) (by rfl) mso (by decide +kernel) (pa_cons (pe_callTy (cr_setOfA rfl hr.units) (by rfl) ms PyProof.Rows.boot_set (pa_cons (pv 1) pa_nil)) pa_nil)) pa_nil))))), ?_⟩
      refine ⟨.ref l, rfl, (by show 2 ≤ sizeLine; decide), fun U hU => ?_⟩
      have s1 : Same H (upd H U (.tup [.ty "list", .ty "tuple"])) := same_new hU
      obtain ⟨ty, hty, k⟩ := (hl.same s1).lt
      refine ⟨.ref l, U, _, ty, _, true, rfl, upd_same, .cons (.ty _) (.cons (.ty _) .nil), hty, k, true, rfl, iteF ?_⟩
      generalize upd H U (.tup [.ty "list", .ty "tuple"]) = H1 at s1 ⊢
      refine ⟨.ref l, rfl, l, rfl, ⟨_, s1.seq sq⟩, for_list (K := K) (a := l) (xs := ks.map (fun p => V.ref p.1) ++ rest) (fun i σ H' => (∃ v, σ = [some (.ref t), some (.ref l), v]) ∧ Same H H' ∧ i ≤ ks.length) ⟨⟨none, rfl⟩, s1, Nat.zero_le _⟩ (fun i σ H' _ h => h.2.1.seq sq) ?_ ?_⟩
      · rintro i z σ H' hz ⟨⟨v, rfl⟩, s2, hi⟩
        rcases each i z hz with ⟨hi2, p, hp, rfl⟩ | ⟨more, er⟩ | c
        · obtain ⟨xs, e, l1, it, b⟩ := barOk_pair (hk p hp)
          refine ⟨.ref t, rfl, .ref p.1, rfl, t, ds, .ref p.1, rfl, same_seqT s2 ht, .inr ⟨p.1, xs, rfl, s2 _ _ e, l1, (fun y hy => (it y hy).same s2), fun H3 s3 => ⟨_, rfl, ?_⟩⟩⟩
          rw [b]
          exact iteF ⟨⟨_, rfl⟩, s2.trans s3, hi2⟩
        · rcases h with ⟨y, m2, e2, bad, hE⟩ | ⟨e2, _⟩
          · rw [er] at e2
            cases e2
            refine ⟨.ref t, rfl, z, rfl, t, ds, z, rfl, same_seqT s2 ht, ?_⟩
            have go : ∀ {H3 : Hp}, Same H H3 → _ := fun {H3} s3 => raised_ok (K := K) (σ := [some (.ref t), some (.ref l), some z]) (D := { nx := fun _ H' => Q .non H', rt := Q }) hE s3
            rcases bad with no | ⟨p, xs, rfl, hp, l1, it, b⟩
            · exact .inl ⟨no.same s2, false, rfl, iteT ⟨z, rfl, go s2⟩⟩
            · refine .inr ⟨p, xs, rfl, s2 _ _ hp, l1, (fun y hy => (it y hy).same s2), fun H3 s3 => ⟨_, rfl, ?_⟩⟩
              rw [b]
              exact iteT ⟨.ref p, rfl, go (s2.trans s3)⟩
          · rw [er] at e2
            cases e2
        · omega
      · rintro σ H' ⟨⟨v, rfl⟩, s2, hi⟩
        rw [List.length_append, List.length_map] at hi
        have er : rest = [] := List.eq_nil_of_length_eq_zero (by omega)
        rcases h with ⟨y, m2, e2, _⟩ | ⟨_, q⟩
        · rw [er] at e2
          cases e2
        subst er
        rw [List.append_nil] at sq
        refine ⟨.ref l, rfl, l, ks, rfl, .inl (s2.seq sq), tups H' s2, few, fun S L hS sub all => ?_⟩
        have s3 : Same H (upd H' S (SetTO P w S L)) := s2.trans (same_new hS)
        refine ⟨S, L, rfl, upd_same, fun p hp => tups _ s3 p (sub p hp), fun p hp => ?_, fun L' D pm nd sh pw hD => ?_⟩
        · obtain ⟨x, y, e, _⟩ := hk p (sub p hp)
          rw [e]
          rfl
        have s4 : Same H (upd (upd H' S (SetTO P w S L)) D (.lst (L'.map fun q => V.ref q.1))) := s3.trans (same_new hD)
        refine ⟨D, _, rfl, .inl ⟨SqL.of upd_same, fun r hr2 => ?_⟩⟩
        exact q L' r _ (fun p hp => sub p (pm.mem_iff.mp hp)) (fun p hp => (pm.map (·.2)).mem_iff.mpr (all p hp)) nd pw (Same.store s4 (s4.free hr2)) upd_same
    · refine ⟨_, pss_cons (ps_if (pt_not (pt_val (pe_callB call_isiT (by rfl) mis PyProof.Rows.boot_isinstance (pa_cons (pv 1) (pa_cons (pe_tup (pa_cons (pe_bltn (v := .ty "list") (by rfl) mli PyProof.Rows.boot_list rfl) (pa_cons (pe_bltn (v := .ty "tuple") (by rfl) mt (by decide +kernel) rfl) pa_nil))) pa_nil)))))
          (pss_one (ps_raise rfl (takes_of rfl rfl rfl rfl) (pmk_oex T.ox T.iC T.tI GI hr3 bI .nil pass0 (by rfl) T.g (pa_cons (pv 1) pa_nil)))) pss_nil)
        (pss_cons (ps_for (passes_of rfl) rfl (pi_tup (pv 1)) (pg_name (i := 2) scDp.nd rfl (.inl rfl))
          (pss_one (ps_if (pt_not (pt_val (pe_call GO hr (by rfl) gO kO bO .nil pass0 (pa_cons (pv 0) (pa_cons (pv 2) pa_nil)))))
            (pss_one (ps_raise rfl (takes_of rfl rfl rfl rfl) (pmk_oex T.ox T.iC T.tI GI hr3 bI .nil pass0 (by rfl) T.g (pa_cons (pv 2) pa_nil)))) pss_nil)))
        (pss_one (ps_ret (pe_callTy call_tuple_of (by rfl) mt (by decide +kernel) (pa_cons (pe_callB (cr_sortedDuo rfl) (by rfl) mso (by decide +kernel) (pa_cons (pe_callTy (cr_setOfA rfl hr.units) (by rfl) ms PyProof.Rows.boot_set (pa_cons (pv 1) pa_nil)) pa_nil)) pa_nil))))), ?_⟩
      refine ⟨.ref l, rfl, (by show 2 ≤ sizeLine; decide), fun U hU => ?_⟩
      have s1 : Same H (upd H U (.tup [.ty "list", .ty "tuple"])) := same_new hU
      obtain ⟨ty, hty, k⟩ := (hl.same s1).lt
      refine ⟨.ref l, U, _, ty, _, true, rfl, upd_same, .cons (.ty _) (.cons (.ty _) .nil), hty, k, true, rfl, iteF ?_⟩
      generalize upd H U (.tup [.ty "list", .ty "tuple"]) = H1 at s1 ⊢
      refine ⟨.ref l, rfl, l, rfl, ⟨_, same_seqT s1 sq⟩, for_tup (K := K) (a := l) (xs := ks.map (fun p => V.ref p.1) ++ rest) (fun i σ H' => (∃ v, σ = [some (.ref t), some (.ref l), v]) ∧ Same H H' ∧ i ≤ ks.length) ⟨⟨none, rfl⟩, s1, Nat.zero_le _⟩ (fun i σ H' _ h => same_seqT h.2.1 sq) ?_ ?_⟩
      · rintro i z σ H' hz ⟨⟨v, rfl⟩, s2, hi⟩
        rcases each i z hz with ⟨hi2, p, hp, rfl⟩ | ⟨more, er⟩ | c
        · obtain ⟨xs, e, l1, it, b⟩ := barOk_pair (hk p hp)
          refine ⟨.ref t, rfl, .ref p.1, rfl, t, ds, .ref p.1, rfl, same_seqT s2 ht, .inr ⟨p.1, xs, rfl, s2 _ _ e, l1, (fun y hy => (it y hy).same s2), fun H3 s3 => ⟨_, rfl, ?_⟩⟩⟩
          rw [b]
          exact iteF ⟨⟨_, rfl⟩, s2.trans s3, hi2⟩
        · rcases h with ⟨y, m2, e2, bad, hE⟩ | ⟨e2, _⟩
          · rw [er] at e2
            cases e2
            refine ⟨.ref t, rfl, z, rfl, t, ds, z, rfl, same_seqT s2 ht, ?_⟩
            have go : ∀ {H3 : Hp}, Same H H3 → _ := fun {H3} s3 => raised_ok (K := K) (σ := [some (.ref t), some (.ref l), some z]) (D := { nx := fun _ H' => Q .non H', rt := Q }) hE s3
            rcases bad with no | ⟨p, xs, rfl, hp, l1, it, b⟩
            · exact .inl ⟨no.same s2, false, rfl, iteT ⟨z, rfl, go s2⟩⟩
            · refine .inr ⟨p, xs, rfl, s2 _ _ hp, l1, (fun y hy => (it y hy).same s2), fun H3 s3 => ⟨_, rfl, ?_⟩⟩
              rw [b]
              exact iteT ⟨.ref p, rfl, go (s2.trans s3)⟩
          · rw [er] at e2
            cases e2
        · omega
      · rintro σ H' ⟨⟨v, rfl⟩, s2, hi⟩
        rw [List.length_append, List.length_map] at hi
        have er : rest = [] := List.eq_nil_of_length_eq_zero (by omega)
        rcases h with ⟨y, m2, e2, _⟩ | ⟨_, q⟩
        · rw [er] at e2
          cases e2
        subst er
        rw [List.append_nil] at sq
        refine ⟨.ref l, rfl, l, ks, rfl, .inr (same_seqT s2 sq), tups H' s2, few, fun S L hS sub all => ?_⟩
        have s3 : Same H (upd H' S (SetTO P w S L)) := s2.trans (same_new hS)
        refine ⟨S, L, rfl, upd_same, fun p hp => tups _ s3 p (sub p hp), fun p hp => ?_, fun L' D pm nd sh pw hD => ?_⟩
        · obtain ⟨x, y, e, _⟩ := hk p (sub p hp)
          rw [e]
          rfl
        have s4 : Same H (upd (upd H' S (SetTO P w S L)) D (.lst (L'.map fun q => V.ref q.1))) := s3.trans (same_new hD)
        refine ⟨D, _, rfl, .inl ⟨SqL.of upd_same, fun r hr2 => ?_⟩⟩
        exact q L' r _ (fun p hp => sub p (pm.mem_iff.mp hp)) (fun p hp => (pm.map (·.2)).mem_iff.mpr (all p hp)) nd pw (Same.store s4 (s4.free hr2)) upd_same
end
end K12
/-! C(e, .., k = v, ..) within a try: __init__ may raise. -/
namespace OF
open PySem PySem.Spec PyProof.Rows L2
section
variable {X : Cx} {CX : CXT} {k n : Nat} {f C : Addr} {fd : FuncData} {ps ks : List Str} {sp : Sp} {E : L2.St → XK} {x : Str} {p pos : Pos} {e : Expr} {es : List Expr} {kws : List Keyword} {t tk : TA} {g : List Value → List Value → List Value} {gV : List V → List V → List V}
def tMakeS (C : Addr) (n m : Nat) (sp : Sp) (gV : List V → List V → List V) (E : L2.St → XK) (t tk : TA) : TE := fun σ H Q =>
  t σ H fun vs H1 => tk σ H1 fun zs H2 => vs.length = n ∧ zs.length = m ∧ ∀ o d, H2 o = none → H2 d = none → d ≠ o →
    sp (gV (.ref o :: vs) zs) (upd (upd H2 d (.own o)) o (.ins C d [])) (fun v H3 => v = .non ∧ Q (.ref o) H3) (E σ)
theorem pe_makeS (M : Mk X.K C f) (F : FnOk X.prog X.w X.K X.mg X.base CX k f fd ps sp) (hr : Room (k + 1) X.A) (hg : Gl X x) (hm : X.mg x = some (.ref C)) (hb : KBn X.K fd ps (n + 1) ks g gV)
    (hx : ∀ σ, PassesAt CX X σ (E σ)) (ha : PA X (e :: es) t) (hkw : PK X kws tk)
    (named : (backToKw pos (keywordEach kws X.env)).all (·.1.isSome) = true := by rfl) (names : (backToKw pos (keywordEach kws X.env)).filterMap (·.1) = ks := by rfl) (nodbg : (x == ("__debug__" : Str)) = false := by decide)
    (st : starEach (e :: es) X.env = (false, eval e X.env) :: starEach es X.env := by rfl) (nostar : ((backTo pos (starEach (e :: es) X.env)).any (·.1) || (backToKw pos (keywordEach kws X.env)).any (·.1.isNone)) = false := by rfl) :
    PE X (.Call (.Name x p) (e :: es) kws pos) (tMakeS C n ks.length sp gV E t tk) := by
  constructor
  intro pins s σ H Q I reading
  apply wpAny_Call_Name_kw
  refine ld_glob I hg hm ?_ nodbg
  refine PySem.W.callWith_KW (h₀ := X.base) I.ok.mod.kin M.kp named (thn (ha.run pos pins s σ H _ I reading) ?_) nostar st
  rintro us sA ⟨vs, HA, IA, rv, qA⟩
  refine thn (hkw.run pos pins sA σ HA _ IA qA) ?_
  rintro ws sB ⟨zs, HB, IB, rw_, l1, l2, qB⟩
  refine ⟨IB.kIn, ?_⟩
  rw [names]
  have below : HB sB.heap.objs.size = none := IB.hok.fresh (Nat.le_refl _)
  have above : HB (sB.heap.objs.size + 1) = none := IB.hok.fresh (Nat.le_succ _)
  have want := qB (sB.heap.objs.size + 1) sB.heap.objs.size above below (Nat.ne_of_lt (Nat.lt_succ_self _))
  have IC := Inv.made (C := C) IB
  have r1 : Vals (V.ref (sB.heap.objs.size + 1) :: vs) (Value.ref (sB.heap.objs.size + 1) :: us) := .cons rfl rv
  have r2 := hb.rel r1 rw_
  have many : (Value.ref (sB.heap.objs.size + 1) :: us).length = n + 1 := by
    rw [List.length_cons, ← rv.length, l1]
  have bound := hb.to _ (Value.ref (sB.heap.objs.size + 1) :: us) ws IC.kIn many (rw_.length.symm.trans l2)
  have ran := F.run _ X.stack _ _ ⟨Value.ref (sB.heap.objs.size + 1) :: us, ks.zip ws⟩ (g (Value.ref (sB.heap.objs.size + 1) :: us) ws) _ _ (E σ) (hr.make C us (ks.zip ws)) (IC.env0.make C us (ks.zip ws)) bound r2 want
  refine wpAny_call (make_map (f := f) IB.kIn M.makes M.init (beq_iff_eq.mp M.fn) (codeAny_mono ran ?_))
  intro r sC got
  match r, got with
  | .error er, got => exact hx σ pins _ _ er sC IC got
  | .ok (.ret u), got =>
    obtain ⟨v, HC, ID, rv2, ev, q3⟩ := IC.after got
    subst ev
    exact ⟨rv2, V.ref (sB.heap.objs.size + 1), HC, ID, rfl, q3⟩
  | .ok .next, got => exact got.elim
  | .ok .brk, got => exact got.elim
  | .ok .cont, got => exact got.elim
end
end OF
namespace K12
open PySem PySem.Spec PyProof.Rows L2 OF
section
variable {P : Program} {w : World} {K : PySem.W.Frag} {mg : Str → Option Value} {base : Heap}

/-! ### what stays while a new instance is filled -/
/-- an instance of the class stands at a -/
def InsAt (H : Hp) (a : Addr) : Prop := ∃ C dx fs, H a = some (.ins C dx fs)
theorem InsAt.ne {H : Hp} {a p : Addr} {o : HO} (h : InsAt H a) (e : H p = some o) (n : ∀ C dx fs, o ≠ .ins C dx fs) : p ≠ a := fun z => by
  obtain ⟨C, dx, fs, i⟩ := h
  rw [z, i] at e
  exact n _ _ _ (Option.some.inj e).symm
section
variable {a : Addr} {H H' : Hp} (I : InsAt H a) (t : But a H H')
include I t
theorem odd_but {x : V} (h : Odd H x) : Odd H' x := by
  cases h with
  | non => exact .non
  | bl b => exact .bl b
  | str z => exact .str z
  | lst e => exact .lst (t _ _ (I.ne e fun _ _ _ z => by cases z) e)
  | tup e => exact .tup (t _ _ (I.ne e fun _ _ _ z => by cases z) e)
  | dK e => exact .dK (t _ _ (I.ne e fun _ _ _ z => by cases z) e)
theorem item_but {x : V} (h : ItemOk H x) : ItemOk H' x := h.imp id fun o => odd_but I t o
theorem noseq_but {x : V} (h : NoSeq H x) : NoSeq H' x := by
  cases h with
  | int n => exact .int n
  | non => exact .non
  | bl b => exact .bl b
  | str z => exact .str z
  | dK e => exact .dK (t _ _ (I.ne e fun _ _ _ z => by cases z) e)
theorem notup_but {x : V} (h : NoTup H x) : NoTup H' x := by
  cases h with
  | no h => exact .no (noseq_but I t h)
  | lst e => exact .lst (t _ _ (I.ne e fun _ _ _ z => by cases z) e)
theorem seqT_but {p : Addr} {xs : List V} (h : SqT K H p xs) : SqT K H' p xs := by
  rcases h with (h | ⟨o, h⟩) | h
  · exact .inl (.inl (t _ _ (I.ne h fun _ _ _ z => by cases z) h))
  · exact .inl (.inr ⟨o, t _ _ (I.ne h fun _ _ _ z => by cases z) h⟩)
  · exact .inr h
theorem isseq_but {p : Addr} {xs : List V} (h : IsSeq K H p xs) : IsSeq K H' p xs := by
  cases h with
  | lst e => exact .lst (t _ _ (I.ne e fun _ _ _ z => by cases z) e)
  | tup e => exact .tup (t _ _ (I.ne e fun _ _ _ z => by cases z) e)
  | kt e c h => exact .kt e c (seqT_but I t h)
theorem bad_but {ds : List Int} {x : V} (h : BadBar H ds x) : BadBar H' ds x := by
  rcases h with h | ⟨p, xs, e, hp, l, it, b⟩
  · exact .inl (notup_but I t h)
  · exact .inr ⟨p, xs, e, t _ _ (I.ne hp fun _ _ _ z => by cases z) hp, l, fun y hy => item_but I t (it y hy), b⟩
theorem bar_but {ds : List Int} {p : Addr × List Int} (h : BarOk H ds p) : BarOk H' ds p := by
  obtain ⟨x, y, e, hp, z⟩ := h
  exact ⟨x, y, e, t _ _ (I.ne hp fun _ _ _ z => by cases z) hp, z⟩
end
/-- a raised error while the instance at a is being filled -/
def RaisedA (a C : Addr) (f : Str) (v : V) (H : Hp) (E : XK) : Prop := ∀ (fs : List (Str × V)) (d : Addr) (H' : Hp), H d = none → But a H H' → H' d = some (.xd ((f, v) :: fs)) → E (.ref C) (some d) H'
theorem RaisedA.at_ {a C : Addr} {f : Str} {v : V} {H H1 : Hp} {E : XK} (h : RaisedA a C f v H E) (I : InsAt H1 a) (t : But a H H1) : Raised C f v H1 E := fun fs d H' hd s ed => by
  have nd : H d = none := by
    by_cases e : d = a
    · obtain ⟨C2, dx, fs, i⟩ := I
      rw [e, i] at hd
      cases hd
    · rcases Option.eq_none_or_eq_some (H d) with z | ⟨o, z⟩
      · exact z
      · rw [t d o e z] at hd
        cases hd
  exact h fs d H' nd (t.trans (But.of_same s)) ed
theorem isOne_mem {ds ns : List Int} (m : ∀ k, k ∈ ds ↔ k ∈ ns) (n : Int) : isOne ds n = isOne ns n := by
  unfold isOne
  rw [decide_eq_decide.mpr (m n)]
theorem oneV_mem {ds ns : List Int} (m : ∀ k, k ∈ ds ↔ k ∈ ns) (x : V) : oneV ds x = oneV ns x := by
  cases x <;> first | rfl | exact isOne_mem m _
theorem pairB_mem {ds ns : List Int} (m : ∀ k, k ∈ ds ↔ k ∈ ns) (xs : List V) : pairB ds xs = pairB ns xs := by
  unfold pairB
  rw [show oneV ds = oneV ns from funext fun x => oneV_mem m x]
theorem BarOk.mem_ {H : Hp} {ds ns : List Int} {p : Addr × List Int} (m : ∀ k, k ∈ ds ↔ k ∈ ns) (h : BarOk H ns p) : BarOk H ds p := by
  obtain ⟨x, y, e, hp, h1, h2⟩ := h
  exact ⟨x, y, e, hp, by rw [isOne_mem m, h1], by rw [isOne_mem m, h2]⟩
theorem BadBar.mem_ {H : Hp} {ds ns : List Int} {x : V} (m : ∀ k, k ∈ ds ↔ k ∈ ns) (h : BadBar H ns x) : BadBar H ds x := by
  rcases h with h | ⟨p, xs, e, hp, l, it, b⟩
  · exact .inl h
  · exact .inr ⟨p, xs, e, hp, l, it, by rw [pairB_mem m, b]⟩
def baseV : V → Bool
  | .int n => isBase n
  | _ => false
/-- the number of different ones is from 1 to 6 -/
def SixOf (ns : List Int) (six : Bool) : Prop := ∀ ks : List Int, ks.Nodup → (∀ k, k ∈ ks ↔ k ∈ ns) → (decide (1 ≤ ks.length) && decide (ks.length ≤ 6)) = six
/-- Scheme.__init__ of any values -/
def spNew (K : PySem.W.Frag) (C CB CD CP : Addr) : Sp := fun vs H Q E => ∃ (a dx : Addr) (x y z : V), vs = [.ref a, x, y, z] ∧ H a = some (.ins C dx []) ∧ ((ItemOk H x ∧ baseV x = false ∧ RaisedA a CB "value" x H E) ∨ ∃ b : Int, x = .int b ∧ isBase b = true ∧
  ((NoSeq H y ∧ RaisedA a CD "value" y H E) ∨ ∃ (p : Addr) (xs : List V), y = .ref p ∧ IsSeq K H p xs ∧ (∀ v ∈ xs, ItemOk H v) ∧ xs.length ≤ 60 ∧ (xs.all digV = false → RaisedA a CD "value" y H E) ∧
    ∀ ns : List Int, xs = ns.map V.int → ns.all dig = true → ∃ six : Bool, SixOf ns six ∧ (six = false → RaisedA a CD "value" y H E) ∧ (six = true →
      ((NoSeq H z ∧ RaisedA a CP "value" z H E) ∨ ∃ (l : Addr) (ks : List (Addr × List Int)) (rest : List V), z = .ref l ∧ IsSeq K H l (ks.map (fun p => V.ref p.1) ++ rest) ∧ ks.length < 64 ∧ (∀ p ∈ ks, BarOk H ns p) ∧
        ((∃ (u : V) (more : List V), rest = u :: more ∧ BadBar H ns u ∧ RaisedA a CP "value" u H E) ∨ (rest = [] ∧
          ∀ (ds : List Int) (L : List (Addr × List Int)) (t r : Addr) (H' : Hp), ds.Pairwise (· < ·) → (∀ k, k ∈ ds ↔ k ∈ ns) → (∀ p ∈ L, p ∈ ks) → (∀ p ∈ ks, p.2 ∈ L.map (·.2)) → (L.map (·.2)).Nodup → L.Pairwise (fun q r => SrtO.lexB (duo r.2) (duo q.2) = false) →
            But a H H' → H' a = some (.ins C dx [("_base", .int b), ("_digits", .ref t), ("_bars", .ref r)]) → H' t = some (.tup (ds.map V.int)) → H' r = some (.tup (L.map fun q => V.ref q.1)) → Q .non H'))))))
theorem scNew : FnScope ["self", "base", "digits", "bars"] ["self", "base", "digits", "bars"] (defScope sInit) := ⟨rfl, rfl, rfl, by decide +kernel, rfl, by decide +kernel, by decide +kernel⟩
set_option maxHeartbeats 2000000 in
theorem ok_new {f fB fD fP fI C CB CD CP : Addr} {fd fdB fdD fdP fdI : FuncData} (G : ∃ kws, FunD K "__init__" "Scheme.__init__" (defArgs sInit) (defBody sInit) (defScope sInit) [] kws f fd) (c : Cls K C) (n1 : NoAttr K C "_base") (n2 : NoAttr K C "_digits") (n3 : NoAttr K C "_bars")
    (GB : FnOk P w K mg base CX0 3 fB fdB ["value"] spIsBase) (gB : mg "is_base" = some (.ref fB)) (kB : PySem.W.keepIn K (.ref fB) = true) (bB : Binds K fdB ["value"] [])
    (GD : FnOk P w K mg base (L2.CX P w) 6 fD fdD ["digits"] (spDiffDig K CD)) (gD : mg "_different_digits" = some (.ref fD)) (kD : PySem.W.keepIn K (.ref fD) = true) (bD : Binds K fdD ["digits"] [])
    (GP : FnOk P w K mg base (L2.CX P w) 6 fP fdP ["digits", "bars"] (spDiffPair K CP)) (gP : mg "_different_pairs" = some (.ref fP)) (kP : PySem.W.keepIn K (.ref fP) = true) (bP : Binds K fdP ["digits", "bars"] [])
    (GI : FnOk P w K mg base CX0 3 fI fdI ["self", "value"] (spInit K "value" CB)) (T : ErrC K mg "InvalidBase" "value" CB fI) (bI : Binds K fdI ["self", "value"] []) :
    FnOk P w K mg base (L2.CX P w) 7 f fd ["self", "base", "digits", "bars"] (spNew K C CB CD CP) := by
  obtain ⟨kws, F⟩ := G
  refine F.ok scNew (fun vs H Q E h => ?_) (fun cdv A outer s H vs Q E hr h => ?_)
  · obtain ⟨a, dx, x, y, z, rfl, _⟩ := h
    rfl
  · obtain ⟨a, dx, x, y, z, rfl, ha, h⟩ := h
    have hr2 : Room 3 _ := hr.mono (by decide)
    have hr3 : Room 4 _ := hr.mono (by decide)
    have I0 : InsAt H a := ⟨_, _, _, ha⟩
    apply Exists.intro
    apply And.intro
    · apply pss_cons
      · exact ps_if (pt_not (pt_val (pe_call GB hr2 (by rfl) gB kB bB .nil pass0 (pa_cons (pv 1) pa_nil))))
          (pss_one (ps_raise rfl (takes_of rfl rfl rfl rfl) (pmk_oex T.ox T.iC T.tI GI hr3 bI .nil pass0 (by rfl) T.g (pa_cons (pv 1) pa_nil)))) pss_nil
      apply pss_cons
      · exact ps_fld (pv 0) (pv 1) rfl
      apply pss_cons
      · exact ps_fld (pv 0) (pe_call GD hr (by rfl) gD kD bD .nil (passes_call (W := fun cl d _ J => E cl d J) (takes_of rfl rfl rfl rfl) (fun _ _ _ _ z => z)) (pa_cons (pv 2) pa_nil)) rfl
      apply pss_one
      · exact ps_fld (pv 0) (pe_call GP hr (by rfl) gP kP bP .nil (passes_call (W := fun cl d _ J => E cl d J) (takes_of rfl rfl rfl rfl) (fun _ _ _ _ z => z)) (pa_cons (pe_fld (pv 0) rfl) (pa_cons (pv 3) pa_nil))) rfl
    rcases h with ⟨ix, bx, hE⟩ | ⟨b, rfl, hb, h⟩
    · have go := raised_ok (K := K) (σ := start ["self", "base", "digits", "bars"] [.ref a, x, y, z]) (D := { nx := fun _ H' => Q .non H', rt := Q }) (hE.at_ I0 But.refl) (Same.refl H)
      rcases ix with ⟨n, rfl⟩ | o
      · refine ⟨.int n, rfl, .int n, rfl, .inl ⟨n, rfl, ?_⟩⟩
        rw [show isBase n = false from bx]
        exact ⟨false, rfl, iteT ⟨.int n, rfl, go⟩⟩
      · exact ⟨x, rfl, x, rfl, .inr ⟨o, false, rfl, iteT ⟨x, rfl, go⟩⟩⟩
    refine ⟨.int b, rfl, .int b, rfl, .inl ⟨b, rfl, ?_⟩⟩
    rw [hb]
    refine ⟨true, rfl, iteF ?_⟩
    refine ⟨.int b, rfl, .ref a, rfl, a, C, dx, [], rfl, ha, c, n1, (by show 0 < 1000; decide), ?_⟩
    have t1 : But a H (upd H a (.ins C dx (putF "_base" (.int b) []))) := But.at_
    have e1 : (upd H a (.ins C dx (putF "_base" (.int b) []))) a = some (.ins C dx [("_base", .int b)]) := upd_same
    generalize upd H a (.ins C dx (putF "_base" (.int b) [])) = H1 at t1 e1 ⊢
    have I1 : InsAt H1 a := ⟨_, _, _, e1⟩
    rcases h with ⟨no, hE⟩ | ⟨p, xs, rfl, hp, it, hl, hE, h⟩
    · exact ⟨y, rfl, y, rfl, .inl ⟨noseq_but I0 t1 no, hE.at_ I1 t1⟩⟩
    refine ⟨.ref p, rfl, .ref p, rfl, .inr ⟨p, xs, rfl, isseq_but I0 t1 hp, (fun v hv => item_but I0 t1 (it v hv)), hl, (fun e => (hE e).at_ I1 t1), fun ns en hn => ?_⟩⟩
    obtain ⟨six, h6, hE6, h⟩ := h ns en hn
    refine ⟨six, h6, (fun e => (hE6 e).at_ I1 t1), fun e6 ds t H2 asc mds s2 ht et => ?_⟩
    have e2 : H2 a = some (.ins C dx [("_base", .int b)]) := s2 _ _ e1
    have nt : t ≠ a := fun z => by
      rw [z, e2] at et
      cases et
    refine ⟨.ref a, rfl, a, C, dx, _, rfl, e2, c, n2, (by show 1 < 1000; decide), ?_⟩
    have t3 : But a H (upd H2 a (.ins C dx (putF "_digits" (.ref t) [("_base", .int b)]))) := t1.trans ((But.of_same s2).trans But.at_)
    have e3 : (upd H2 a (.ins C dx (putF "_digits" (.ref t) [("_base", .int b)]))) a = some (.ins C dx (putF "_digits" (.ref t) [("_base", .int b)])) := upd_same
    have et3 : (upd H2 a (.ins C dx (putF "_digits" (.ref t) [("_base", .int b)]))) t = some (.tup (ds.map V.int)) := by rw [upd_ne nt]; exact et
    generalize upd H2 a (.ins C dx (putF "_digits" (.ref t) [("_base", .int b)])) = H3 at t3 e3 et3 ⊢
    have I3 : InsAt H3 a := ⟨_, _, _, e3⟩
    refine ⟨.ref a, rfl, a, C, dx, _, .ref t, rfl, e3, c, n2, (by rw [lookup_putF, if_pos rfl]), z, rfl, t, ds, z, rfl, SqT.of et3, ?_⟩
    rcases h e6 with ⟨no, hP⟩ | ⟨l, ks, rest, rfl, hl2, few, hk, h⟩
    · exact .inl ⟨noseq_but I0 t3 no, hP.at_ I3 t3⟩
    refine .inr ⟨l, ks, rest, rfl, isseq_but I0 t3 hl2, few, (fun p hp => (bar_but I0 t3 (hk p hp)).mem_ mds), ?_⟩
    rcases h with ⟨u, more, er, bad, hP⟩ | ⟨er, q⟩
    · exact .inl ⟨u, more, er, (bad_but I0 t3 bad).mem_ mds, hP.at_ I3 t3⟩
    refine .inr ⟨er, fun L r H4 sub all nd pw s4 er2 => ?_⟩
    have e4 := s4 _ _ e3
    have nr : r ≠ a := fun z => by
      rw [z, e4] at er2
      cases er2
    refine ⟨.ref a, rfl, a, C, dx, _, rfl, e4, c, n3, (by show 2 < 1000; decide), ?_⟩
    exact q ds L t r _ asc mds sub all nd pw (t3.trans ((But.of_same s4).trans But.at_)) upd_same (by rw [upd_ne nt]; exact s4 _ _ et3) (by rw [upd_ne nr]; exact er2)
end
end K12
namespace K12
open PySem PySem.Spec PyProof.Rows L2 OF
abbrev sPBase : Stmt := inClass (topS 38) 1
abbrev sPDigits : Stmt := inClass (topS 38) 2
abbrev sPBars : Stmt := inClass (topS 38) 3
abbrev sEq : Stmt := inClass (topS 38) 4
abbrev sLen : Stmt := inClass (topS 38) 5
section
variable {P : Program} {w : World} {K : PySem.W.Frag} {mg : Str → Option Value} {base : Heap}
/-! ### a scheme that stands in the heap -/
def pd2 (p : Int × Int) : PyData := .tuple [.int p.1, .int p.2]
structure SchemeAt (C : Addr) (H : Hp) (a t r : Addr) (b : Int) (ds : List Int) (ks : List (Addr × (Int × Int))) : Prop where
  ins : ∃ dx, H a = some (.ins C dx [("_base", .int b), ("_digits", .ref t), ("_bars", .ref r)])
  dig : H t = some (.tup (ds.map V.int))
  bar : H r = some (.tup (ks.map fun p => V.ref p.1))
  prs : ∀ p ∈ ks, H p.1 = some (.tup [.int p.2.1, .int p.2.2])
theorem SchemeAt.same {C : Addr} {H H' : Hp} {a t r : Addr} {b : Int} {ds : List Int} {ks : List (Addr × (Int × Int))} (h : SchemeAt C H a t r b ds ks) (s : Same H H') : SchemeAt C H' a t r b ds ks := by
  obtain ⟨⟨dx, h1⟩, h2, h3, h4⟩ := h
  exact ⟨⟨dx, s _ _ h1⟩, s _ _ h2, s _ _ h3, fun p hp => s _ _ (h4 p hp)⟩
theorem bars_dp {K : PySem.W.Frag} {H : Hp} : ∀ ks : List (Addr × (Int × Int)), (∀ p ∈ ks, H p.1 = some (.tup [.int p.2.1, .int p.2.2])) → DpAll K H (ks.map fun p => V.ref p.1) (ks.map fun p => pd2 p.2)
  | [], _ => .nil
  | p :: ks, h => .cons (.tup (SqT.of (h p List.mem_cons_self)) (.cons (.int _) (.cons (.int _) .nil))) (bars_dp ks fun q hq => h q (List.mem_cons_of_mem _ hq))
theorem bars_can : ∀ ks : List (Addr × (Int × Int)), PyData.canLayAll0 (ks.map fun p => pd2 p.2) = true ∧ PyData.depthAll (ks.map fun p => pd2 p.2) ≤ 1
  | [] => ⟨by simp only [List.map_nil, PyData.canLayAll0], by simp only [List.map_nil, PyData.depthAll]; omega⟩
  | p :: ks => by
    obtain ⟨h1, h2⟩ := bars_can ks
    refine ⟨?_, ?_⟩
    · rw [List.map_cons, PyData.canLayAll0, h1]
      simp only [pd2, PyData.canLay0, PyData.canLayAll0, Bool.and_true]
    · rw [List.map_cons, PyData.depthAll]
      simp only [pd2, PyData.depth, PyData.depthAll] at h2 ⊢
      omega
theorem bars_shaped (ks : List (Addr × (Int × Int))) : SeqAt.shaped (.tuple (ks.map fun p => pd2 p.2)) = true := by
  obtain ⟨h1, h2⟩ := bars_can ks
  refine shaped_of ?_ ?_
  · simp only [PyData.canLay0, h1]
  · simp only [PyData.depth]
    omega
theorem pd2_shaped (p : Int × Int) : SeqAt.shaped (pd2 p) = true := by
  refine shaped_of ?_ ?_
  · simp only [pd2, PyData.canLay0, PyData.canLayAll0, Bool.and_true]
  · simp only [pd2, PyData.depth, PyData.depthAll]
    omega
/-- whether a pair stands among the bars -/
def hasBar (ks : List (Addr × (Int × Int))) (n m : Int) : Bool := (ks.map fun p => pd2 p.2).any fun z => PyData.eqv z (pd2 (n, m))
theorem lk_digits {b : Int} {t r : Addr} : ([("_base", V.int b), ("_digits", .ref t), ("_bars", .ref r)] : List (Str × V)).lookup ("_digits" : Str) = some (.ref t) := by
  rw [lookup_put, if_neg (by decide), lookup_put, if_pos rfl]
theorem lk_bars {b : Int} {t r : Addr} : ([("_base", V.int b), ("_digits", .ref t), ("_bars", .ref r)] : List (Str × V)).lookup ("_bars" : Str) = some (.ref r) := by
  rw [lookup_put, if_neg (by decide), lookup_put, if_neg (by decide), lookup_put, if_pos rfl]
theorem lk_base {b : Int} {t r : Addr} : ([("_base", V.int b), ("_digits", .ref t), ("_bars", .ref r)] : List (Str × V)).lookup ("_base" : Str) = some (.int b) := by
  rw [lookup_put, if_pos rfl]
/-- what isinstance asks of the class -/
structure IsC (K : PySem.W.Frag) (C : Addr) : Prop where
  cl : Cls K C
  ha : PySem.W.findIn K (.ref C) "__class__" = some (some (.builtin "object.__class__"))
  hn : PySem.W.specialIn K (.builtin "object.__class__") "__get__" = some (some (.builtin "getset_descriptor.__get__"))
  ht : PySem.W.takesIn K (.builtin "object.__class__") = some true
  hm : PySem.W.mroIn K C (.type "object") = some true
  own : PySem.W.kitOne K (.ref C) (.ref C) = some true

/-- no built-in kind is of the class -/
def NotOf (K : PySem.W.Frag) (C : Addr) (H : Hp) (x : V) : Prop := ∃ t : Value, TyX K H x t ∧ PySem.W.kitOne K t (.ref C) = some false
def spEqS (C : Addr) : Sp := fun vs H Q _ => ∃ (a t r a2 t2 r2 : Addr) (b b2 : Int) (ds ds2 : List Int) (ks ks2 : List (Addr × (Int × Int))), vs = [.ref a, .ref a2] ∧ SchemeAt C H a t r b ds ks ∧ SchemeAt C H a2 t2 r2 b2 ds2 ks2 ∧ ds.length ≤ 60 ∧ ds2.length ≤ 60 ∧
  Q (.bl (decide (b = b2) && (PyData.eqv (.tuple (ds.map .int)) (.tuple (ds2.map .int)) && PyData.eqv (.tuple (ks.map fun p => pd2 p.2)) (.tuple (ks2.map fun p => pd2 p.2))))) H

/-- == of a scheme and any value -/
def spEqA (K : PySem.W.Frag) (C : Addr) : Sp := fun vs H Q E => spEqS C vs H Q E ∨ ∃ (a t r : Addr) (b : Int) (ds : List Int) (ks : List (Addr × (Int × Int))) (x : V), vs = [.ref a, x] ∧ SchemeAt C H a t r b ds ks ∧ NotOf K C H x ∧ Q (.bl false) H
theorem scEq : FnScope ["self", "other"] ["self", "other"] (defScope sEq) := ⟨rfl, rfl, rfl, by decide +kernel, rfl, by decide +kernel, by decide +kernel⟩
theorem dp_ints {K : PySem.W.Frag} {H : Hp} : ∀ ds : List Int, DpAll K H (ds.map V.int) (ds.map PyData.int)
  | [] => .nil
  | d :: ds => .cons (.int d) (dp_ints ds)
theorem ints_can : ∀ ds : List Int, PyData.canLayAll0 (ds.map PyData.int) = true ∧ PyData.depthAll (ds.map PyData.int) = 0
  | [] => ⟨by simp only [List.map_nil, PyData.canLayAll0], by simp only [List.map_nil, PyData.depthAll]⟩
  | d :: ds => by
    obtain ⟨h1, h2⟩ := ints_can ds
    refine ⟨?_, ?_⟩
    · rw [List.map_cons, PyData.canLayAll0, h1]
      simp only [PyData.canLay0, Bool.and_true]
    · rw [List.map_cons, PyData.depthAll, h2]
      simp only [PyData.depth, Nat.max_self]
theorem ints_shapedT (ds : List Int) : SeqAt.shaped (.tuple (ds.map .int)) = true := by
  obtain ⟨h1, h2⟩ := ints_can ds
  refine shaped_of ?_ ?_
  · simp only [PyData.canLay0, h1]
  · simp only [PyData.depth, h2]
    omega
theorem ints_shapedL (ds : List Int) : SeqAt.shaped (.list (ds.map .int)) = true := by
  obtain ⟨h1, h2⟩ := ints_can ds
  refine shaped_of ?_ ?_
  · simp only [PyData.canLay0, h1]
  · simp only [PyData.depth, h2]
    omega
set_option maxHeartbeats 1000000 in
theorem ok_eq {f C : Addr} {fd : FuncData} (F : Fun K "__eq__" "Scheme.__eq__" sEq f fd) (I : IsC K C) (n1 : NoAttr K C "_base") (n2 : NoAttr K C "_digits") (n3 : NoAttr K C "_bars") (gC : mg "Scheme" = some (.ref C)) (mis : mg "isinstance" = none) :
    FnOk P w K mg base CX0 1 f fd ["self", "other"] (spEqA K C) := by
  refine F.ok scEq (fun vs H Q E h => ?_) (fun cdv A outer s H vs Q E hr h => ?_)
  · rcases h with ⟨a, t, r, a2, t2, r2, b, b2, ds, ds2, ks, ks2, rfl, _⟩ | ⟨a, t, r, b, ds, ks, x, rfl, _⟩
    · rfl
    · rfl
  · apply Exists.intro
    apply And.intro
    · apply pss_one
      · exact ps_ret (pe_and (pe_callB call_isi (by rfl) mis PyProof.Rows.boot_isinstance (pa_cons (pv 1) (pa_cons (pe_glob (v := .ref C) (by rfl) gC rfl) pa_nil)))
          (pe_and (pe_cmpR op_eq (pe_fld (pv 0) rfl) (pe_fld (pv 1) rfl) (nomark _)) (pe_and (pe_cmpR (op_eqD hr.units) (pe_fld (pv 0) rfl) (pe_fld (pv 1) rfl) (nomark _)) (pe_one (pe_cmpR (op_eqD hr.units) (pe_fld (pv 0) rfl) (pe_fld (pv 1) rfl) (nomark _))))))
    rcases h with ⟨a, t, r, a2, t2, r2, b, b2, ds, ds2, ks, ks2, rfl, ⟨⟨dx, ha⟩, ht, hrr, hks⟩, ⟨⟨dx2, ha2⟩, ht2, hrr2, hks2⟩, l1, l2, q⟩ | ⟨a, t, r, b, ds, ks, x, rfl, S, ⟨ty, tyx, k⟩, q⟩
    case' inr => exact ⟨x, rfl, x, .ref C, ty, .ref C, false, rfl, .own C, tyx, k, false, rfl, iteF q⟩
    refine ⟨.ref a2, rfl, .ref a2, .ref C, .ref C, .ref C, true, rfl, .own C, .base (.ins ha2 I.cl I.ha I.hn I.ht I.hm), I.own, true, rfl, iteT ?_⟩
    refine ⟨.ref a, rfl, a, C, dx, _, .int b, rfl, ha, I.cl, n1, lk_base, .ref a2, rfl, a2, C, dx2, _, .int b2, rfl, ha2, I.cl, n1, lk_base, rfl, ?_⟩
    by_cases hb : b = b2
    · subst hb
      refine ⟨_, rfl, iteTB (decide_eq_true rfl) ?_⟩
      refine ⟨.ref a, rfl, a, C, dx, _, .ref t, rfl, ha, I.cl, n2, lk_digits, .ref a2, rfl, a2, C, dx2, _, .ref t2, rfl, ha2, I.cl, n2, lk_digits, .tuple (ds.map .int), .tuple (ds2.map .int), .tup (SqT.of ht) (dp_ints ds), .tup (SqT.of ht2) (dp_ints ds2), ints_shapedT ds, ints_shapedT ds2, _, rfl, ?_⟩
      rw [decide_eq_true rfl, Bool.true_and] at q
      refine iteAnd (fun z => ?_) q
      exact ⟨.ref a, rfl, a, C, dx, _, .ref r, rfl, ha, I.cl, n3, lk_bars, .ref a2, rfl, a2, C, dx2, _, .ref r2, rfl, ha2, I.cl, n3, lk_bars, .tuple (ks.map fun p => pd2 p.2), .tuple (ks2.map fun p => pd2 p.2), .tup (SqT.of hrr) (bars_dp ks hks), .tup (SqT.of hrr2) (bars_dp ks2 hks2), bars_shaped ks, bars_shaped ks2, z⟩
    · refine ⟨_, rfl, iteFB (decide_eq_false fun z => hb (V.int.inj z)) ?_⟩
      rw [decide_eq_false hb, Bool.false_and] at q
      exact q

/-! ### the properties, len -/
def spPB (C : Addr) : Sp := fun vs H Q _ => ∃ (a t r : Addr) (b : Int) (ds : List Int) (ks : List (Addr × (Int × Int))), vs = [.ref a] ∧ SchemeAt C H a t r b ds ks ∧ Q (.int b) H
def spPD (C : Addr) : Sp := fun vs H Q _ => ∃ (a t r : Addr) (b : Int) (ds : List Int) (ks : List (Addr × (Int × Int))), vs = [.ref a] ∧ SchemeAt C H a t r b ds ks ∧ Q (.ref t) H
def spPR (C : Addr) : Sp := fun vs H Q _ => ∃ (a t r : Addr) (b : Int) (ds : List Int) (ks : List (Addr × (Int × Int))), vs = [.ref a] ∧ SchemeAt C H a t r b ds ks ∧ Q (.ref r) H
def spLn (C : Addr) : Sp := fun vs H Q _ => ∃ (a t r : Addr) (b : Int) (ds : List Int) (ks : List (Addr × (Int × Int))), vs = [.ref a] ∧ SchemeAt C H a t r b ds ks ∧ Q (.int ds.length) H
theorem scPb : FnScope ["self"] ["self"] (defScope sPBase) := ⟨rfl, rfl, rfl, by decide +kernel, rfl, by decide +kernel, by decide +kernel⟩
theorem ok_pbase {f C : Addr} {fd : FuncData} (F : Fun K "base" "Scheme.base" sPBase f fd) (c : Cls K C) (n : NoAttr K C "_base") : FnOk P w K mg base CX0 1 f fd ["self"] (spPB C) := by
  refine F.ok scPb (fun vs H Q E h => ?_) (fun cdv A outer s H vs Q E hr h => ?_)
  · obtain ⟨a, t, r, b, ds, ks, rfl, _⟩ := h
    rfl
  · obtain ⟨a, t, r, b, ds, ks, rfl, S, q⟩ := h
    obtain ⟨⟨dx, hins⟩, _⟩ := id S
    exact ⟨_, pss_one (ps_ret (pe_fld (pv 0) rfl)), .ref a, rfl, a, C, dx, _, .int b, rfl, hins, c, n, lk_base, q⟩
theorem scPd : FnScope ["self"] ["self"] (defScope sPDigits) := ⟨rfl, rfl, rfl, by decide +kernel, rfl, by decide +kernel, by decide +kernel⟩
theorem ok_pdigits {f C : Addr} {fd : FuncData} (F : Fun K "digits" "Scheme.digits" sPDigits f fd) (c : Cls K C) (n : NoAttr K C "_digits") : FnOk P w K mg base CX0 1 f fd ["self"] (spPD C) := by
  refine F.ok scPd (fun vs H Q E h => ?_) (fun cdv A outer s H vs Q E hr h => ?_)
  · obtain ⟨a, t, r, b, ds, ks, rfl, _⟩ := h
    rfl
  · obtain ⟨a, t, r, b, ds, ks, rfl, S, q⟩ := h
    obtain ⟨⟨dx, hins⟩, _⟩ := id S
    exact ⟨_, pss_one (ps_ret (pe_fld (pv 0) rfl)), .ref a, rfl, a, C, dx, _, .ref t, rfl, hins, c, n, lk_digits, q⟩
theorem scPr : FnScope ["self"] ["self"] (defScope sPBars) := ⟨rfl, rfl, rfl, by decide +kernel, rfl, by decide +kernel, by decide +kernel⟩
theorem ok_pbars {f C : Addr} {fd : FuncData} (F : Fun K "bars" "Scheme.bars" sPBars f fd) (c : Cls K C) (n : NoAttr K C "_bars") : FnOk P w K mg base CX0 1 f fd ["self"] (spPR C) := by
  refine F.ok scPr (fun vs H Q E h => ?_) (fun cdv A outer s H vs Q E hr h => ?_)
  · obtain ⟨a, t, r, b, ds, ks, rfl, _⟩ := h
    rfl
  · obtain ⟨a, t, r, b, ds, ks, rfl, S, q⟩ := h
    obtain ⟨⟨dx, hins⟩, _⟩ := id S
    exact ⟨_, pss_one (ps_ret (pe_fld (pv 0) rfl)), .ref a, rfl, a, C, dx, _, .ref r, rfl, hins, c, n, lk_bars, q⟩
theorem scLn : FnScope ["self"] ["self"] (defScope sLen) := ⟨rfl, rfl, rfl, by decide +kernel, rfl, by decide +kernel, by decide +kernel⟩
theorem ok_len {f C : Addr} {fd : FuncData} (F : Fun K "__len__" "Scheme.__len__" sLen f fd) (c : Cls K C) (n : NoAttr K C "_digits") (ml : mg "len" = none) : FnOk P w K mg base CX0 1 f fd ["self"] (spLn C) := by
  refine F.ok scLn (fun vs H Q E h => ?_) (fun cdv A outer s H vs Q E hr h => ?_)
  · obtain ⟨a, t, r, b, ds, ks, rfl, _⟩ := h
    rfl
  · obtain ⟨a, t, r, b, ds, ks, rfl, S, q⟩ := h
    obtain ⟨⟨dx, hins⟩, ht, _⟩ := id S
    refine ⟨_, pss_one (ps_ret (pe_callB call_len_seq (by rfl) ml PySem.boot_len (pa_cons (pe_fld (pv 0) rfl) pa_nil))), .ref a, rfl, a, C, dx, _, .ref t, rfl, hins, c, n, lk_digits, t, _, rfl, .inr (SqT.of ht), ?_⟩
    rw [List.length_map]
    exact q
end
end K12
namespace K12
open PySem PySem.Spec PyProof.Rows L2 OF
section
variable {P : Program} {w : World} {K : PySem.W.Frag} {mg : Str → Option Value} {base : Heap}
/-- allows -/
def spAllows (C : Addr) : Sp := fun vs H Q _ => ∃ (a t r : Addr) (b : Int) (ds : List Int) (ks : List (Addr × (Int × Int))) (x y : V), vs = [.ref a, x, y] ∧ SchemeAt C H a t r b ds ks ∧
  ((Odd H x ∧ ∀ H', Same H H' → Q (.bl false) H') ∨ ∃ n : Int, x = .int n ∧
    ((y = .non ∧ ∀ H', Same H H' → Q (.bl (isOne ds n)) H') ∨ (∃ m : Int, y = .int m ∧ ∀ H', Same H H' → Q (.bl (isOne ds n && (isOne ds m && !hasBar ks n m))) H') ∨ (Odd H y ∧ y ≠ .non ∧ ∀ H', Same H H' → Q (.bl false) H')))
theorem scAl : FnScope ["self", "left", "right"] ["self", "left", "right"] (defScope sAllows) := ⟨rfl, rfl, rfl, by decide +kernel, rfl, by decide +kernel, by decide +kernel⟩
theorem ok_allows {f fO C : Addr} {fd fdO : FuncData} (F : Fun K "allows" "Scheme.allows" sAllows f fd) (c : Cls K C) (n2 : NoAttr K C "_digits") (n3 : NoAttr K C "_bars")
    (GO : FnOk P w K mg base CX0 4 fO fdO ["digits", "value"] (spOneOf K)) (gO : mg "_is_one_of" = some (.ref fO)) (kO : PySem.W.keepIn K (.ref fO) = true) (bO : Binds K fdO ["digits", "value"] []) : FnOk P w K mg base CX0 5 f fd ["self", "left", "right"] (spAllows C) := by
  refine F.ok scAl (fun vs H Q E h => ?_) (fun cdv A outer s H vs Q E hr h => ?_)
  · obtain ⟨a, t, r, b, ds, ks, x, y, rfl, _⟩ := h
    rfl
  · obtain ⟨a, t, r, b, ds, ks, x, y, rfl, ⟨⟨dx, ha⟩, ht, hrr, hks⟩, h⟩ := h
    have hu : A.units + 3 + 65 < cLine := by
      have := hr.un
      have e : (A.deeper (envOfC "Scheme.allows" (defScope sAllows) s.heap.objs.size f cdv)).units = A.units + 3 := rfl
      omega
    apply Exists.intro
    apply And.intro
    · apply pss_cons
      · exact ps_if (pt_not (pt_val (pe_call GO hr (by rfl) gO kO bO .nil pass0 (pa_cons (pe_fld (pv 0) rfl) (pa_cons (pv 1) pa_nil))))) (pss_one (ps_ret pe_bl)) pss_nil
      apply pss_cons
      · exact ps_if (pt_cmpR op_isN (pv 2) pe_non (nomark _)) (pss_one (ps_ret pe_bl)) pss_nil
      apply pss_one
      · exact ps_ret (pe_and (pe_call GO hr (by rfl) gO kO bO .nil pass0 (pa_cons (pe_fld (pv 0) rfl) (pa_cons (pv 2) pa_nil))) (pe_one (pe_cmpR (op_notInT hu) (pe_tup (pa_cons (pv 1) (pa_cons (pv 2) pa_nil))) (pe_fld (pv 0) rfl) rfl)))
    rcases h with ⟨o, q⟩ | ⟨n, rfl, h⟩
    · refine ⟨.ref a, rfl, a, C, dx, _, .ref t, rfl, ha, c, n2, lk_digits, x, rfl, t, ds, x, rfl, SqT.of ht, .inr ⟨o, false, rfl, iteT ?_⟩⟩
      exact q H (Same.refl H)
    · refine ⟨.ref a, rfl, a, C, dx, _, .ref t, rfl, ha, c, n2, lk_digits, .int n, rfl, t, ds, .int n, rfl, SqT.of ht, .inl ⟨n, rfl, _, rfl, ?_⟩⟩
      cases hb : (dig n && decide (n ∈ ds)) with
      | false =>
        refine iteT ?_
        have e1 : isOne ds n = false := hb
        rcases h with ⟨_, q⟩ | ⟨m, _, q⟩ | ⟨_, _, q⟩
        · have z := q H (Same.refl H)
          rw [e1] at z
          exact z
        · have z := q H (Same.refl H)
          rw [e1] at z
          exact z
        · exact q H (Same.refl H)
      | true =>
        refine iteF ?_
        have e1 : isOne ds n = true := hb
        rcases h with ⟨rfl, q⟩ | ⟨m, rfl, q⟩ | ⟨o, ny, q⟩
        · have z := q H (Same.refl H)
          rw [e1] at z
          exact ⟨.non, rfl, rfl, _, rfl, iteTB (decide_eq_true rfl) z⟩
        · refine ⟨.int m, rfl, rfl, _, rfl, iteFB (decide_eq_false (fun z => nomatch z)) ?_⟩
          refine ⟨.ref a, rfl, a, C, dx, _, .ref t, rfl, ha, c, n2, lk_digits, .int m, rfl, t, ds, .int m, rfl, SqT.of ht, .inl ⟨m, rfl, _, rfl, ?_⟩⟩
          cases hm : (dig m && decide (m ∈ ds)) with
          | false =>
            refine iteF ?_
            have e2 : isOne ds m = false := hm
            have z := q H (Same.refl H)
            rw [e1, e2] at z
            exact z
          | true =>
            refine iteT ?_
            have e2 : isOne ds m = true := hm
            refine ⟨.int n, rfl, .int m, rfl, (by show 2 ≤ sizeLine; decide), fun T hT => ?_⟩
            have s1 := same_new (o := .tup [.int n, .int m]) hT
            have z := q _ s1
            rw [e1, e2] at z
            refine ⟨.ref a, rfl, a, C, dx, _, .ref r, rfl, s1 _ _ ha, c, n3, lk_bars, pd2 (n, m), (ks.map fun (p : Addr × (Int × Int)) => pd2 p.2), .tup (SqT.of upd_same) (.cons (.int n) (.cons (.int m) .nil)), .tup (SqT.of (s1 _ _ hrr)) (bars_dp ks fun p hp => s1 _ _ (hks p hp)), pd2_shaped _, bars_shaped ks, (by rw [Bool.true_and, Bool.true_and] at z; exact z)⟩
        · refine ⟨y, rfl, rfl, _, rfl, iteFB (decide_eq_false ny) ?_⟩
          exact ⟨.ref a, rfl, a, C, dx, _, .ref t, rfl, ha, c, n2, lk_digits, y, rfl, t, ds, y, rfl, SqT.of ht, .inr ⟨o, _, rfl, iteF (q H (Same.refl H))⟩⟩
/-! ### row in scheme -/
/-- what allows says of two values -/
def jdg (ds : List Int) (ks : List (Addr × (Int × Int))) : V → V → Bool
  | .int n, .non => isOne ds n
  | .int n, .int m => isOne ds n && (isOne ds m && !hasBar ks n m)
  | _, _ => false
def rowB (ds : List Int) (ks : List (Addr × (Int × Int))) (xs : List V) : Bool := (xs.zip (xs.tail ++ [V.non])).all fun p => jdg ds ks p.1 p.2
theorem allows_of {C : Addr} {H : Hp} {a t r : Addr} {b : Int} {ds : List Int} {ks : List (Addr × (Int × Int))} {x y : V} {Q : VK} {E : XK} (S : SchemeAt C H a t r b ds ks) (hx : ItemOk H x) (hy : ItemOk H y ∨ y = .non) (q : ∀ H', Same H H' → Q (.bl (jdg ds ks x y)) H') :
    spAllows C [.ref a, x, y] H Q E := by
  refine ⟨a, t, r, b, ds, ks, x, y, rfl, S, ?_⟩
  rcases hx with ⟨n, rfl⟩ | o
  · refine .inr ⟨n, rfl, ?_⟩
    rcases hy with (⟨m, rfl⟩ | o) | rfl
    · exact .inr (.inl ⟨m, rfl, q⟩)
    · by_cases e : y = .non
      · subst e
        exact .inl ⟨rfl, q⟩
      · refine .inr (.inr ⟨o, e, fun H' s => ?_⟩)
        have z := q H' s
        have e2 : jdg ds ks (.int n) y = false := by
          cases o with
          | non => exact absurd rfl e
          | bl b => rfl
          | str z => rfl
          | lst e => rfl
          | tup e => rfl
          | dK e => rfl
        rw [e2] at z
        exact z
    · exact .inl ⟨rfl, q⟩
  · refine .inl ⟨o, fun H' s => ?_⟩
    have z := q H' s
    have e2 : jdg ds ks x y = false := by
      cases o with
      | non => rfl
      | bl b => rfl
      | str z => rfl
      | lst e => rfl
      | tup e => rfl
      | dK e => rfl
    rw [e2] at z
    exact z
end
end K12
/-! Dicts whose keys are None and ints, and those whose keys are tuples of such. -/
namespace OF
open PySem PySem.Spec PyProof.Rows L2
/-- a key: None or an int -/
abbrev KeyN := Option Int
def nV : KeyN → V
  | none => .non
  | some i => .int i
def nIs : KeyN → Value → Bool
  | none, .none => true
  | some i, v => Value.isInt i v
  | _, _ => false
def nHash : KeyN → Int
  | none => 0xFCA86420
  | some i => hashInt i
theorem nIs_shape : ∀ {k : KeyN} {v : Value}, nIs k v = true → (k = none ∧ v = .none) ∨ ∃ i t, k = some i ∧ v = .int i t
  | none, v, h => by
    cases v <;> first | exact .inl ⟨rfl, rfl⟩ | exact nomatch h
  | some i, v, h => by
    obtain ⟨t, e⟩ := Value.isInt_shape (k := i) (v := v) h
    exact .inr ⟨i, t, rfl, e⟩
section
variable {prog : Program} {w : World} {A : Around} {E : Value → Shared → Prop} {s : Shared}
theorem wpAny_pyHash_none {Q : Int → Shared → Prop} (h : Q 0xFCA86420 { s with toks := s.toks + 1 }) : wpAny (model prog w) A (pyHash .none) Q E s := by
  have T : s.TypeIs .none "NoneType" := rfl
  have seen := F.slot_NoneType_hash
  unfold pyHash pyHashByItsType
  refine wpAny_bind ?_
  rw [cRoomFor, if_neg (by exact Bool.false_ne_true)]
  refine wpAny_pure ?_
  refine wpAny_bind (wpAny_specialOf T seen.lookup ?_)
  show wpAny _ _ (if (some (Value.builtin "NoneType.__hash__") == some Value.none) = true then _ else _) Q E s
  rw [if_neg (by rw [beq_builtin_none]; exact Bool.false_ne_true)]
  refine wpAny_bind (wpAny_specialOf T seen.lookup ?_)
  show wpAny _ _ (callSpecialIfBoundUnlessNone? .none "__hash__" _ >>= _) Q E s
  refine wpAny_bind (wpAny_callSpecialIfBoundUnlessNone?_slot T seen
    (wpAny_call_entry seen T F.entry_NoneType_hash (show wpAny _ _ (do ret (← mkInt 0xFCA86420)) _ _ s from wpAny_ret_mkInt ?_) (F.args_NoneType_hash_1 _)))
  show wpAny _ _ (if (decide (-(2 : Int) ^ 63 ≤ (0xFCA86420 : Int)) && decide ((0xFCA86420 : Int) < 2 ^ 63)) = true then _ else _) Q E _
  rw [if_pos (by decide)]
  exact wpAny_pure h
end
/-- the keys None and the ints, as kinds of keys go -/
def nKind (prog : Program) (w : World) : PySem.KeyKind prog w KeyN where
  is := nIs
  hash := nHash
  inj := fun v a b ha hb => by
    rcases nIs_shape ha with ⟨rfl, rfl⟩ | ⟨i, t, rfl, rfl⟩ <;> rcases nIs_shape hb with ⟨rfl, e⟩ | ⟨j, u, rfl, e⟩
    · rfl
    · cases e
    · cases e
    · cases e
      rfl
  byValue := fun k v h => by
    rcases nIs_shape h with ⟨rfl, rfl⟩ | ⟨i, t, rfl, rfl⟩ <;> rfl
  pyHash := fun hv h => by
    rcases nIs_shape hv with ⟨rfl, rfl⟩ | ⟨i, t, rfl, rfl⟩
    · exact wpAny_pyHash_none h
    · exact wpAny_pyHash_int h
  eqBool := fun hu hv h => by
    rcases nIs_shape hu with ⟨rfl, rfl⟩ | ⟨i, t, rfl, rfl⟩ <;> rcases nIs_shape hv with ⟨rfl, rfl⟩ | ⟨j, u, rfl, rfl⟩
    · unfold eqBool
      refine wpAny_holding ?_
      exact wpAny_ite_split (fun _ => wpAny_bind (wpAny_rule (wpAny_pure h))) (fun ne => absurd rfl ne)
    · exact SeqAt.EqAt.none_int j u _ _ _ _ h
    · exact SeqAt.EqAt.int_none i t _ _ _ _ h
    · refine wpAny_eqBool_int ?_
      have z : decide ((some i : KeyN) = some j) = (i == j) := by
        by_cases e : i = j
        · subst e
          simp
        · rw [decide_eq_false (fun q => e (Option.some.inj q))]
          exact (beq_eq_false_iff_ne.mpr e).symm
      rw [← z]
      exact h
  «strs» := fun k x t v h => by
    rcases nIs_shape h with ⟨_, e⟩ | ⟨_, _, _, e⟩ <;> cases e
theorem nV_is {prog : Program} {w : World} {k : KeyN} {u : Value} (r : RelV (nV k) u) : (nKind prog w).is k u = true := by
  cases k with
  | none =>
    cases (show u = Value.none from r)
    rfl
  | some i =>
    obtain ⟨t, rfl⟩ := (show ∃ t, u = Value.int i t from r)
    show Value.isInt i (Value.int i t) = true
    simp [Value.isInt]
end OF
/-! Tracked dicts whose keys are None and ints. -/
namespace OF
open PySem PySem.Spec PyProof.Rows L2
theorem nV_inj {a b : KeyN} (e : nV a = nV b) : a = b := by
  cases a <;> cases b <;> first | rfl | cases e <;> rfl
def dnAt (P : Program) (w : World) (a : Addr) (kvs : List (KeyN × V)) (h : Heap) : Prop :=
  kvs.length ≤ sizeLine ∧ (a == sysModules) = false ∧ ∃ vs, KV kvs vs ∧ h.DictOf (nKind P w) a vs
/-- the dict at a: its keys None and ints -/
def dN (P : Program) (w : World) (a : Addr) (kvs : List (KeyN × V)) : HO := .ext (dnAt P w a kvs)
section
variable {P : Program} {w : World} {H : Hp} {h h' : Heap} {a : Addr} {kvs : List (KeyN × V)}
theorem dn_stays {h1 h2 : Heap} (x : dnAt P w a kvs h1) (k : ∀ o, h1.get? a = some o → h2.get? a = some o) : dnAt P w a kvs h2 := by
  obtain ⟨z, n, vs, r, o, es, ep, e, c⟩ := x
  exact ⟨z, n, vs, r, o, es, ep, k _ e, c⟩
theorem dn_obj (x : dnAt P w a kvs h) : ObjOk P w H h a (dN P w a kvs) := by
  have there : ∃ o, h.get? a = some o := by
    obtain ⟨_, _, _, _, o, _, _, e, _⟩ := x
    exact ⟨o, e⟩
  exact ⟨x, there, fun h1 h2 y k => dn_stays y k⟩
theorem dn_rd (ok : HOk P w H h) (e : Rd H a (dN P w a kvs)) : dnAt P w a kvs h := (show ObjOk P w H h a (dN P w a kvs) from e.ok ok).1
theorem dn_of (ok : HOk P w H h) (e : H a = some (dN P w a kvs)) : dnAt P w a kvs h := dn_rd ok (.inl e)
end
section
variable {X : Cx} {pos : Pos}
/-- d[k], there -/
def rIxN (X : Cx) : R2 := fun x y H Q => ∃ (a : Addr) (kvs : List (KeyN × V)) (k : KeyN) (v : V), x = .ref a ∧ y = nV k ∧ Rd H a (dN X.prog X.w a kvs) ∧ valV kvs k = some v ∧ Q v H
def rInN (X : Cx) : R2 := fun y x H Q => ∃ (a : Addr) (kvs : List (KeyN × V)) (k : KeyN), x = .ref a ∧ y = nV k ∧ Rd H a (dN X.prog X.w a kvs) ∧ Q (.bl (valV kvs k).isSome) H
def rNotInN (X : Cx) : R2 := fun y x H Q => ∃ (a : Addr) (kvs : List (KeyN × V)) (k : KeyN), x = .ref a ∧ y = nV k ∧ Rd H a (dN X.prog X.w a kvs) ∧ Q (.bl (!(valV kvs k).isSome)) H
theorem op_inN : OpR X (compareOp .In) (rInN X) := by
  intro pins s σ H y x u v Q I ry rx q
  obtain ⟨a, kvs, k, rfl, rfl, e, q⟩ := q
  cases (show v = Value.ref a from rx)
  obtain ⟨z, n, vs, rel, dd⟩ := dn_rd I.hok e
  have told := (rel.val k).isSome_eq
  refine wpAny_in_of (nV_is ry) n dd.mapOf ?_
  rw [← told]
  exact ⟨.bl _, H, I.tok _, rfl, q⟩
theorem op_notInN : OpR X (compareOp .NotIn) (rNotInN X) := by
  intro pins s σ H y x u v Q I ry rx q
  obtain ⟨a, kvs, k, rfl, rfl, e, q⟩ := q
  cases (show v = Value.ref a from rx)
  obtain ⟨z, n, vs, rel, dd⟩ := dn_rd I.hok e
  have told := (rel.val k).isSome_eq
  refine wpAny_notIn_of (nV_is ry) n dd.mapOf ?_
  rw [← told]
  exact ⟨.bl _, H, I.tok _, rfl, q⟩
/-- d[k] = v -/
def rSetN (X : Cx) : TSet := fun o i v H Q => ∃ (a : Addr) (kvs : List (KeyN × V)) (k : KeyN), o = .ref a ∧ i = nV k ∧ H a = some (dN X.prog X.w a kvs) ∧ kvs.length < sizeLine ∧ Q (upd H a (dN X.prog X.w a (putK kvs k v)))
theorem set_dictN : PSet X (rSetN X) := by
  intro pins s σ H o i v ov iv u Q I ro ri rv q
  obtain ⟨a, kvs, k, rfl, rfl, e, few, q⟩ := q
  cases (show ov = Value.ref a from ro)
  obtain ⟨z, n, vs, rel, dd⟩ := dn_of I.hok e
  have same := rel.length
  have grown := length_putK kvs k v
  refine wpAny_setItem_pairs (hsz := by omega) (nV_is ri) dd fun h' dd' hs => ⟨_, ?_, q⟩
  have there : ∃ o, h'.get? a = some o := by
    obtain ⟨o, _, _, e2, _⟩ := dd'
    exact ⟨o, e2⟩
  exact d_write I (by rw [e]; exact True.intro) hs there (dn_obj ⟨by omega, n, _, rel.put k rv, dd'⟩)
theorem ix_dictN : IxR X (rIxN X) := by
  intro value slice pins s σ H x y v u Q I rx ry q hs
  obtain ⟨a, kvs, k, z, rfl, rfl, e, there, q⟩ := q
  cases (show v = Value.ref a from rx)
  obtain ⟨few, n, vs, rel, dd⟩ := dn_rd I.hok e
  have got := rel.val k
  rw [there] at got
  obtain ⟨z2, e2, r2⟩ := RelO.some_of got
  exact tail_any dd.typeIs slot_dict_getitem.lookup (wpAny_getItem_of (nV_is ry) dd.mapOf e2 ⟨z, H, I.tok _, r2, q⟩) hs
/-- {} whose keys will be None and ints -/
def tDNewN (X : Cx) : TE := fun _ H Q => ∀ p, H p = none → Q (.ref p) (upd H p (dN X.prog X.w p []))
theorem pe_dnewN : PE X (.Dict [] [] pos) (tDNewN X) := by
  refine ⟨fun pins s σ H Q I q => wpAny_Dict_empty ?_⟩
  have free : H s.heap.objs.size = none := I.hok.fresh (Nat.le_refl _)
  have apart : (s.heap.objs.size == sysModules) = false := beq_eq_false_iff_ne.mpr (Ne.symm (Nat.ne_of_lt I.big))
  exact ⟨.ref _, _, I.laid (a := s.heap.objs.size) (o := dN X.prog X.w s.heap.objs.size []) (t' := s.toks) (fun _ _ z => Heap.get?_push_of_some _ z) (Nat.le_refl _) (dn_obj ⟨Nat.zero_le _, apart, [], .nil, Heap.DictOf.new _⟩), rfl, q _ free⟩
end
/-! ### keys that are tuples of None and ints -/
def dtAt (P : Program) (w : World) (a : Addr) (kvs : List (List KeyN × Addr × V)) (h : Heap) : Prop :=
  kvs.length ≤ sizeLine ∧ (a == sysModules) = false ∧ ∃ xs : List (List KeyN × Addr × Value), Paired (fun (p : List KeyN × Addr × V) (q : List KeyN × Addr × Value) => p.1 = q.1 ∧ p.2.1 = q.2.1 ∧ RelV p.2.2 q.2.2) kvs xs ∧
    ∃ o es ep, h.get? a = some o ∧ o.ExactDict ∧ o.data = .dict es ep ∧ es.toList = xs.map (entryOfKey (tupleKind (nKind P w))) ∧ (xs.map (·.1)).Nodup
/-- the dict at a: keys, where they stand, values -/
def dNT (P : Program) (w : World) (a : Addr) (kvs : List (List KeyN × Addr × V)) : HO := .ext (dtAt P w a kvs)
structure DictT (P : Program) (w : World) (H : Hp) (a : Addr) (kvs : List (List KeyN × Addr × V)) : Prop where
  at_ : Rd H a (dNT P w a kvs)
  ks : ∀ p ∈ kvs, H p.2.1 = some (.tup (p.1.map nV))
section
variable {P : Program} {w : World} {H : Hp} {h : Heap} {a b : Addr} {kvs : List (List KeyN × Addr × V)}
theorem dt_obj (x : dtAt P w a kvs h) : ObjOk P w H h a (dNT P w a kvs) := by
  have there : ∃ o, h.get? a = some o := by
    obtain ⟨_, _, _, _, o, _, _, e, _⟩ := x
    exact ⟨o, e⟩
  refine ⟨x, there, fun h1 h2 y k => ?_⟩
  obtain ⟨z, n, xs, r, o, es, ep, e, c⟩ := y
  exact ⟨z, n, xs, r, o, es, ep, k _ e, c⟩
theorem nItems : ∀ {ks : List KeyN} {us : List Value}, Vals (ks.map nV) us → ItemsAre (nKind P w) ks us
  | [], [], _ => .nil
  | k :: ks, u :: us, r => by
    cases r with
    | cons r1 r2 => exact .cons (nV_is r1) (nItems r2)
theorem nKey {ks : List KeyN} (ok : HOk P w H h) (e : H b = some (.tup (ks.map nV))) : (tupleKind (nKind P w)).is h ks b := by
  obtain ⟨_, us, r, o, e1, e2, n, e3⟩ := (show ObjOk P w H h b (.tup (ks.map nV)) from ok b _ e)
  exact ⟨o, us.toArray, n, e1, e2, e3, by simpa using nItems r⟩
theorem dnt_of (ok : HOk P w H h) (D : DictT P w H a kvs) : kvs.length ≤ sizeLine ∧ (a == sysModules) = false ∧ ∃ xs : List (List KeyN × Addr × Value), Paired (fun (p : List KeyN × Addr × V) (q : List KeyN × Addr × Value) => p.1 = q.1 ∧ p.2.1 = q.2.1 ∧ RelV p.2.2 q.2.2) kvs xs ∧ h.DictOfH (tupleKind (nKind P w)) a xs := by
  obtain ⟨z, n, xs, r, o, es, ep, e1, e2, e3, e4, e5⟩ := (show ObjOk P w H h a (dNT P w a kvs) from D.at_.ok ok).1
  refine ⟨z, n, xs, r, o, es, ep, e1, e2, e3, e4, ?_, e5⟩
  have each : ∀ {l : List (List KeyN × Addr × V)} {m : List (List KeyN × Addr × Value)}, Paired (fun (p : List KeyN × Addr × V) (q : List KeyN × Addr × Value) => p.1 = q.1 ∧ p.2.1 = q.2.1 ∧ RelV p.2.2 q.2.2) l m → (∀ p ∈ l, H p.2.1 = some (.tup (p.1.map nV))) → ∀ x ∈ m, (tupleKind (nKind P w)).is h x.1 x.2.1 := by
    intro l m r
    induction r with
    | nil => exact fun _ x hx => nomatch hx
    | @cons p q l m r1 _ ih =>
      intro K x hx
      rcases List.mem_cons.mp hx with rfl | hx
      · have t := K p List.mem_cons_self
        rw [r1.1, r1.2.1] at t
        exact nKey ok t
      · exact ih (fun p hp => K p (List.mem_cons_of_mem _ hp)) x hx
  exact each r D.ks
end
end OF
/-! Dicts whose keys are tuples of None and ints: asked, written, made. -/
namespace OF
open PySem PySem.Spec PyProof.Rows L2
abbrev KeyT := List KeyN × Addr × V
def getN (kvs : List KeyT) (k : List KeyN) : Option V := (kvs.find? fun p => decide (p.1 = k)).map (·.2.2)
def putN (kvs : List KeyT) (k : List KeyN) (b : Addr) (v : V) : List KeyT :=
  if (getN kvs k).isSome then kvs.map (fun p => if p.1 = k then (p.1, p.2.1, v) else p) else kvs ++ [(k, b, v)]
theorem putN_len (kvs : List KeyT) (k : List KeyN) (b : Addr) (v : V) : (putN kvs k b v).length ≤ kvs.length + 1 := by
  unfold putN
  split
  · rw [List.length_map]
    exact Nat.le_succ _
  · rw [List.length_append]
    exact Nat.le_refl _
theorem getN_nil (k : List KeyN) : getN [] k = none := rfl
theorem putN_new {kvs : List KeyT} {k : List KeyN} {b : Addr} {v : V} (h : getN kvs k = none) : putN kvs k b v = kvs ++ [(k, b, v)] := by
  unfold putN
  rw [h]
  rfl
abbrev KN : List KeyT → List (List KeyN × Addr × Value) → Prop := Paired (fun (p : List KeyN × Addr × V) (q : List KeyN × Addr × Value) => p.1 = q.1 ∧ p.2.1 = q.2.1 ∧ RelV p.2.2 q.2.2)
theorem KN.get {kvs : List KeyT} {xs : List (List KeyN × Addr × Value)} (r : KN kvs xs) (k : List KeyN) : RelO (getN kvs k) ((atKey xs k).map (·.2)) := by
  induction r with
  | nil => exact True.intro
  | @cons p q l m r1 _ ih =>
    unfold getN atKey at ih ⊢
    rw [List.find?_cons, List.find?_cons, ← r1.1]
    cases decide (p.1 = k) with
    | true => exact r1.2.2
    | false => exact ih
theorem KN.swap {kvs : List KeyT} {xs : List (List KeyN × Addr × Value)} (r : KN kvs xs) (k : List KeyN) {v : V} {u : Value} (rv : RelV v u) : KN (kvs.map fun p => if p.1 = k then (p.1, p.2.1, v) else p) (xs.map (putAt k u)) := by
  induction r with
  | nil => exact .nil
  | @cons p q l m r1 _ ih =>
    refine .cons ?_ ih
    unfold putAt
    rw [← r1.1]
    by_cases e : p.1 = k
    · simp only [if_pos e]
      exact ⟨trivial, r1.2.1, rv⟩
    · simp only [if_neg e]
      exact r1
theorem KN.put {kvs : List KeyT} {xs : List (List KeyN × Addr × Value)} (r : KN kvs xs) (k : List KeyN) (b : Addr) {v : V} {u : Value} (rv : RelV v u) : KN (putN kvs k b v) (storedH xs k b u) := by
  have same := (r.get k).isSome_eq
  rw [Option.isSome_map] at same
  unfold putN storedH
  rw [same]
  cases (atKey xs k).isSome with
  | true => exact r.swap k rv
  | false => exact Paired.snoc r ⟨rfl, rfl, rv⟩
section
variable {P : Program} {w : World} {H H' : Hp} {a : Addr} {kvs : List KeyT}
theorem DictT.stay (D : DictT P w H a kvs) (n : H' a = H a) (t : ∀ b xs, H b = some (.tup xs) → H' b = some (.tup xs)) : DictT P w H' a kvs := by
  refine ⟨?_, fun p hp => t _ _ (D.ks p hp)⟩
  rcases D.at_ with e | ⟨o, e⟩
  · exact .inl (n.trans e)
  · exact .inr ⟨o, n.trans e⟩
theorem DictT.same (D : DictT P w H a kvs) (s : Same H H') : DictT P w H' a kvs := by
  refine ⟨?_, fun p hp => s _ _ (D.ks p hp)⟩
  rcases D.at_ with e | ⟨o, e⟩
  · exact .inl (s _ _ e)
  · exact .inr ⟨o, s _ _ e⟩
theorem tup_off {o : HO} {c : Addr} {xs : List V} (e : H a = some (dNT P w a kvs)) (ec : H c = some (.tup xs)) : upd H a o c = some (.tup xs) := by
  rw [upd_ne]
  · exact ec
  · rintro rfl
    rw [e] at ec
    cases ec
theorem DictT.lock {o : Obj} (D : DictT P w H a kvs) (e : H a = some (dNT P w a kvs)) : DictT P w (upd H a (.frz o (dNT P w a kvs))) a kvs := ⟨.inr ⟨o, upd_same⟩, fun p hp => tup_off e (D.ks p hp)⟩
theorem DictT.put {k : List KeyN} {b : Addr} {v : V} (D : DictT P w H a kvs) (ea : H a = some (dNT P w a kvs)) (e : H b = some (.tup (k.map nV))) : DictT P w (upd H a (dNT P w a (putN kvs k b v))) a (putN kvs k b v) := by
  refine ⟨.inl upd_same, fun p hp => ?_⟩
  unfold putN at hp
  split at hp
  · obtain ⟨p0, h0, rfl⟩ := List.mem_map.mp hp
    have t := tup_off (o := dNT P w a (putN kvs k b v)) ea (D.ks p0 h0)
    split <;> exact t
  · rcases List.mem_append.mp hp with hp | hp
    · exact tup_off ea (D.ks p hp)
    · rw [List.mem_singleton.mp hp]
      exact tup_off ea e
end
section
variable {X : Cx} {pos : Pos}
def rIxNT (X : Cx) : R2 := fun x y H Q => ∃ (a : Addr) (kvs : List KeyT) (k : List KeyN) (b : Addr) (v : V), x = .ref a ∧ y = .ref b ∧ DictT X.prog X.w H a kvs ∧ H b = some (.tup (k.map nV)) ∧ getN kvs k = some v ∧ Q v H
def rInNT (X : Cx) : R2 := fun y x H Q => ∃ (a : Addr) (kvs : List KeyT) (k : List KeyN) (b : Addr), x = .ref a ∧ y = .ref b ∧ DictT X.prog X.w H a kvs ∧ H b = some (.tup (k.map nV)) ∧ Q (.bl (getN kvs k).isSome) H
def rNotInNT (X : Cx) : R2 := fun y x H Q => ∃ (a : Addr) (kvs : List KeyT) (k : List KeyN) (b : Addr), x = .ref a ∧ y = .ref b ∧ DictT X.prog X.w H a kvs ∧ H b = some (.tup (k.map nV)) ∧ Q (.bl (!(getN kvs k).isSome)) H
def rSetNT (X : Cx) : TSet := fun o i v H Q => ∃ (a : Addr) (kvs : List KeyT) (k : List KeyN) (b : Addr), o = .ref a ∧ i = .ref b ∧ DictT X.prog X.w H a kvs ∧ H a = some (dNT X.prog X.w a kvs) ∧ H b = some (.tup (k.map nV)) ∧ kvs.length < sizeLine ∧ Q (upd H a (dNT X.prog X.w a (putN kvs k b v)))
theorem ix_dictNT (hu : X.A.units + 1 < cLine) : IxR X (rIxNT X) := by
  intro value slice pins s σ H x y v u Q I rx ry q hs
  obtain ⟨a, kvs, k, b, z, rfl, rfl, D, eb, there, q⟩ := q
  cases (show v = Value.ref a from rx)
  cases (show u = Value.ref b from ry)
  obtain ⟨few, n, xs, rel, dd⟩ := dnt_of I.hok D
  have got := KN.get rel k
  rw [there] at got
  obtain ⟨z2, e2, r2⟩ := RelO.some_of got
  obtain ⟨p, e3, e4⟩ := Option.map_eq_some_iff.mp e2
  refine tail_any dd.typeIs slot_dict_getitem.lookup (wpAny_getItem_heap (tupleKind_room_in1 hu) (nKey I.hok eb) dd e3 ?_) hs
  rw [e4]
  exact ⟨z, H, I.tok _, r2, q⟩
theorem op_inNT (hu : X.A.units + 1 < cLine) : OpR X (compareOp .In) (rInNT X) := by
  intro pins s σ H y x u v Q I ry rx q
  obtain ⟨a, kvs, k, b, rfl, rfl, D, eb, q⟩ := q
  cases (show v = Value.ref a from rx)
  cases (show u = Value.ref b from ry)
  obtain ⟨few, n, xs, rel, dd⟩ := dnt_of I.hok D
  have told := (KN.get rel k).isSome_eq
  rw [Option.isSome_map] at told
  refine wpAny_in_heap (tupleKind_room_in1 hu) (nKey I.hok eb) n dd ?_
  rw [← told]
  exact ⟨.bl _, H, I.tok _, rfl, q⟩
theorem op_notInNT (hu : X.A.units + 1 < cLine) : OpR X (compareOp .NotIn) (rNotInNT X) := by
  intro pins s σ H y x u v Q I ry rx q
  obtain ⟨a, kvs, k, b, rfl, rfl, D, eb, q⟩ := q
  cases (show v = Value.ref a from rx)
  cases (show u = Value.ref b from ry)
  obtain ⟨few, n, xs, rel, dd⟩ := dnt_of I.hok D
  have told := (KN.get rel k).isSome_eq
  rw [Option.isSome_map] at told
  refine wpAny_notIn_heap (tupleKind_room_in1 hu) (nKey I.hok eb) n dd ?_
  rw [← told]
  exact ⟨.bl _, H, I.tok _, rfl, q⟩
theorem set_dictNT (hu : X.A.units + 1 < cLine) : PSet X (rSetNT X) := by
  intro pins s σ H o i v ov iv u Q I ro ri rv q
  obtain ⟨a, kvs, k, b, rfl, rfl, D, ea, eb, few, q⟩ := q
  cases (show ov = Value.ref a from ro)
  cases (show iv = Value.ref b from ri)
  obtain ⟨_, n, xs, rel, dd⟩ := dnt_of I.hok D
  have same := Paired.length rel
  have grown := putN_len kvs k b v
  refine wpAny_setItem_heap (hsz := by omega) (tupleKind_room_in1 hu) (nKey I.hok eb) dd fun h' dd' hs => ⟨_, ?_, q⟩
  obtain ⟨o, es, ep, e1, e2, e3, e4, _, e5⟩ := dd'
  exact d_write I (by rw [ea]; exact True.intro) hs ⟨o, e1⟩ (dt_obj ⟨by omega, n, _, KN.put rel k b rv, o, es, ep, e1, e2, e3, e4, e5⟩)
/-- {} whose keys will be tuples -/
def tDNewNT (X : Cx) : TE := fun _ H Q => ∀ p, H p = none → Q (.ref p) (upd H p (dNT X.prog X.w p []))
theorem pe_dnewNT : PE X (.Dict [] [] pos) (tDNewNT X) := by
  refine ⟨fun pins s σ H Q I q => wpAny_Dict_empty ?_⟩
  have free : H s.heap.objs.size = none := I.hok.fresh (Nat.le_refl _)
  have apart : (s.heap.objs.size == sysModules) = false := beq_eq_false_iff_ne.mpr (Ne.symm (Nat.ne_of_lt I.big))
  exact ⟨.ref _, _, I.laid (a := s.heap.objs.size) (o := dNT X.prog X.w s.heap.objs.size []) (t' := s.toks) (fun _ _ z => Heap.get?_push_of_some _ z) (Nat.le_refl _) (dt_obj ⟨Nat.zero_le _, apart, [], .nil, _, #[], 0, Heap.get?_push_size _ rfl, ⟨rfl, rfl, rfl⟩, rfl, rfl, List.nodup_nil⟩), rfl, q _ free⟩
end
end OF
/-! {k: v}, k a tuple of None and ints. -/
namespace OF
open PySem PySem.Spec PyProof.Rows L2
section
variable {X : Cx} {pos : Pos}
/-- {k: v}: the dict stands empty while the pair is made -/
def tD1NT (X : Cx) (tk tv : TE) : TE := fun σ H Q => ∀ p, H p = none → tk σ (upd H p (dNT X.prog X.w p [])) fun x H1 => tv σ H1 fun y H2 =>
  ∃ (k : List KeyN) (b : Addr), x = .ref b ∧ H2 p = some (dNT X.prog X.w p []) ∧ H2 b = some (.tup (k.map nV)) ∧ Q (.ref p) (upd H2 p (dNT X.prog X.w p [(k, b, y)]))
theorem pe_disp1NT {k v : Expr} {tk tv : TE} (hu : X.A.units < cLine) (hk : PE X k tk) (hv : PE X v tv) : PE X (.Dict [some k] [v] pos) (tD1NT X tk tv) := by
  refine ⟨fun pins s σ H Q I q => ?_⟩
  have free : H s.heap.objs.size = none := I.hok.fresh (Nat.le_refl _)
  have apart : (s.heap.objs.size == sysModules) = false := beq_eq_false_iff_ne.mpr (Ne.symm (Nat.ne_of_lt I.big))
  have made : ObjOk X.prog X.w (upd H s.heap.objs.size (dNT X.prog X.w s.heap.objs.size [])) (s.heap.push { cls := .type "dict", data := .dict #[] }) s.heap.objs.size (dNT X.prog X.w s.heap.objs.size []) :=
    dt_obj ⟨Nat.zero_le _, apart, [], .nil, _, #[], 0, Heap.get?_push_size _ rfl, ⟨rfl, rfl, rfl⟩, rfl, rfl, List.nodup_nil⟩
  have I1 := I.laid (a := s.heap.objs.size) (o := dNT X.prog X.w s.heap.objs.size []) (t' := s.toks) (fun _ _ z => Heap.get?_push_of_some _ z) (Nat.le_refl _) made
  have pairs : PPs X pos [some k] [v] [(tk, tv)] := pps_cons hk hv pps_nil
  have run := pairs.run pins _ σ _ (fun ps H2 => match ps with
    | [(x, y)] => ∃ (k : List KeyN) (b : Addr), x = .ref b ∧ H2 s.heap.objs.size = some (dNT X.prog X.w s.heap.objs.size []) ∧ H2 b = some (.tup (k.map nV)) ∧ Q (.ref s.heap.objs.size) (upd H2 s.heap.objs.size (dNT X.prog X.w s.heap.objs.size [(k, b, y)]))
    | _ => False) I1 (q _ free)
  have one : (pairTrees [some k] [v] X.env pos).length = 1 := rfl
  rw [arm_eval_Dict, zip_pairTrees [some k] [v] X.env pos rfl rfl, dictDisplay_pairs (pairTrees [some k] [v] X.env pos) (fun z => nomatch z) (by rw [one]; decide)]
  refine wpAny_bind (wpAny_standAt (wpAny_bind (wpAny_subDictH (knd := tupleKind (nKind X.prog X.w)) hu (by rw [one]; decide) (thn run fun ws s2 got => ?_))))
  obtain ⟨ps, H2, I2, rel, fin⟩ := got
  cases rel with
  | nil => exact fin.elim
  | @cons p0 w0 ps ws r1 r2 =>
    cases r2 with
    | cons _ _ => exact fin.elim
    | nil =>
      obtain ⟨x, y⟩ := p0
      obtain ⟨u0, u1⟩ := w0
      obtain ⟨ks, b, rfl, eD, eb, fin⟩ := fin
      cases (show u0 = Value.ref b from r1.1)
      have D2 : DictT X.prog X.w H2 s.heap.objs.size [] := ⟨.inl eD, fun p hp => nomatch hp⟩
      obtain ⟨few, n, xs, rel, dd⟩ := dnt_of I2.hok D2
      cases rel
      refine ⟨[(ks, b, u1)], ⟨rfl, rfl, nKey I2.hok eb, True.intro⟩, dd, fun h' tk' dd' hs => ?_⟩
      obtain ⟨o, es, ep, e1, e2, e3, e4, _, e5⟩ := dd'
      refine wpAny_pure ⟨.ref s.heap.objs.size, _, d_write I2 (by rw [eD]; exact True.intro) hs ⟨o, e1⟩ (dt_obj ⟨by show 1 ≤ sizeLine; decide, n, _, KN.put (.nil : KN [] []) ks b r1.2, o, es, ep, e1, e2, e3, ?_, ?_⟩), rfl, fin⟩
      · exact e4
      · exact e5
end
end OF
/-! list(d), len(d), `not d` of dicts whose keys are tuples of None and ints. -/
namespace OF
open PySem PySem.Spec PyProof.Rows L2
theorem KN.addr {kvs : List KeyT} {xs : List (List KeyN × Addr × Value)} (r : KN kvs xs) : kvs.map (·.2.1) = xs.map (·.2.1) := by
  induction r with
  | nil => rfl
  | cons r1 _ ih => rw [List.map_cons, List.map_cons, ih, r1.2.1]
section
variable {X : Cx}
theorem call_listNT (hc : X.calm = true) : CallR X (.type "list") (fun vs H Q => ∃ (a : Addr) (kvs : List KeyT), vs = [V.ref a] ∧ DictT X.prog X.w H a kvs ∧ ∀ p, H p = none → Q (.ref p) (upd H p (.lst (kvs.map fun z => V.ref z.2.1)))) := by
  intro pins s σ H vs us Q I r q
  obtain ⟨a, kvs, rfl, D, q⟩ := q
  obtain ⟨u, rfl, rx⟩ := r.one
  cases rx
  obtain ⟨few, n, xs, rel, o, es, ep, e1, e2, e3, e4, _, _⟩ := dnt_of I.hok D
  have c1 : es.size = xs.length := size_of_entries e4
  have c2 : kvs.length = xs.length := Paired.length rel
  refine PySem.W.kdl_call (kdl_raw n e2 e3) (I.ok.hd hc) e1 (by omega) fun h' tk out cap kept made held => ?_
  have all : out.toList = (kvs.map fun z => z.2.1).map Value.ref := by
    rw [KN.addr rel]
    refine List.ext_getElem? fun j => ?_
    rw [List.getElem?_map, List.getElem?_map]
    have same : out.toList.length = xs.length := by rw [Array.length_toList, held.1, c1]
    by_cases hj : j < xs.length
    · have h1 : out.toList[j]? = some out.toList[j] := List.getElem?_eq_getElem (by omega)
      obtain ⟨en, h2, h3⟩ := held.2 j _ (by rw [← Array.getElem?_toList]; exact h1)
      have h4 := entry_at e4 j
      rw [h2, List.getElem?_eq_getElem hj] at h4
      have h5 : en = entryOfKey (tupleKind (nKind X.prog X.w)) xs[j] := Option.some.inj h4
      rw [h1, h3, h5, List.getElem?_eq_getElem hj]
      rfl
    · rw [List.getElem?_eq_none (by omega), List.getElem?_eq_none (by omega)]
      rfl
  have vals : Vals (kvs.map fun z => V.ref z.2.1) out.toList := by
    rw [all, show (kvs.map fun z => V.ref z.2.1) = (kvs.map fun z => z.2.1).map V.ref by rw [List.map_map]; rfl]
    exact vals_refs _
  refine ⟨.ref s.heap.objs.size, _, I.laid (t' := tk) (o := .lst (kvs.map fun z => V.ref z.2.1)) kept (Nat.le_refl _) ⟨by rw [List.length_map]; exact few, out.toList, cap, vals, ?_⟩, rfl, q _ (I.hok.fresh (Nat.le_refl _))⟩
  rw [Array.toArray_toList]
  exact made
end
end OF
/-! {k: v for .. in ..} into a dict of any kind that is tracked. -/
namespace OF
open PySem PySem.Spec PyProof.Rows L2
/-- a kind of dict: how it stands empty, how a pair is put in -/
structure DKind (P : Program) (w : World) where
  emp : Addr → HO
  put : Addr → V → V → Hp → (Hp → Prop) → Prop
  emp_ok : ∀ (H : Hp) (h : Heap), sysModules < h.objs.size → ObjOk P w H (h.push { cls := .type "dict", data := .dict #[] }) h.objs.size (emp h.objs.size)
  put_ok : ∀ {X : Cx}, X.prog = P → X.w = w → X.A.units < cLine → ∀ {pins : List (Addr × Obj)} {σ : L2.St} {H : Hp} {s : Shared} {E : Value → Shared → Prop} {D : Addr} {y z : V} {u r : Value} {N : Hp → Prop}, Inv X pins σ H s → RelV y u → RelV z r → put D y z H N →
    wpAny (model X.prog X.w) X.A (dictSet D u r) (fun _ s' => ∃ H', Inv X pins σ H' s' ∧ N H') E s
def kN (P : Program) (w : World) : DKind P w where
  emp := fun a => dN P w a []
  put := fun D y z H N => ∃ (kvs : List (KeyN × V)) (k : KeyN), y = nV k ∧ H D = some (dN P w D kvs) ∧ kvs.length < sizeLine ∧ N (upd H D (dN P w D (putK kvs k z)))
  emp_ok := fun H h big => dn_obj ⟨Nat.zero_le _, beq_eq_false_iff_ne.mpr (Ne.symm (Nat.ne_of_lt big)), [], .nil, Heap.DictOf.new _⟩
  put_ok := by
    rintro X rfl rfl hu pins σ H s E D y z u r N I ry rz ⟨kvs, k, rfl, e, few, n⟩
    obtain ⟨_, apart, vs, rel, dd⟩ := dn_of I.hok e
    have same := rel.length
    have grown := length_putK kvs k z
    refine wpAny_dictSet_pairs (hsz := by omega) (nV_is ry) dd fun h' dd' hs => ⟨_, ?_, n⟩
    have there : ∃ o, h'.get? D = some o := by
      obtain ⟨o, _, _, e2, _⟩ := dd'
      exact ⟨o, e2⟩
    exact d_write I (by rw [e]; exact True.intro) hs there (dn_obj ⟨by omega, apart, _, rel.put k rz, dd'⟩)
def kNT (P : Program) (w : World) : DKind P w where
  emp := fun a => dNT P w a []
  put := fun D y z H N => ∃ (kvs : List KeyT) (k : List KeyN) (b : Addr), y = .ref b ∧ DictT P w H D kvs ∧ H D = some (dNT P w D kvs) ∧ H b = some (.tup (k.map nV)) ∧ kvs.length < sizeLine ∧ N (upd H D (dNT P w D (putN kvs k b z)))
  emp_ok := fun H h big => dt_obj ⟨Nat.zero_le _, beq_eq_false_iff_ne.mpr (Ne.symm (Nat.ne_of_lt big)), [], .nil, _, #[], 0, Heap.get?_push_size _ rfl, ⟨rfl, rfl, rfl⟩, rfl, rfl, List.nodup_nil⟩
  put_ok := by
    rintro X rfl rfl hu pins σ H s E D y z u r N I ry rz ⟨kvs, k, b, rfl, D0, ea, eb, few, n⟩
    cases (show u = Value.ref b from ry)
    obtain ⟨_, apart, xs, rel, dd⟩ := dnt_of I.hok D0
    have same := Paired.length rel
    have grown := putN_len kvs k b z
    refine wpAny_dictSet_heap (knd := tupleKind (nKind X.prog X.w)) (hsz := by omega) hu (nKey I.hok eb) dd fun h' dd' hs => ⟨_, ?_, n⟩
    obtain ⟨o, es, ep, e1, e2, e3, e4, _, e5⟩ := dd'
    exact d_write I (by rw [ea]; exact True.intro) hs ⟨o, e1⟩ (dt_obj ⟨by omega, apart, _, KN.put rel k b rz, o, es, ep, e1, e2, e3, e4, e5⟩)
end OF
/-! {k: v for .. in ..}: the rule, for each kind of dict. -/
namespace OF
open PySem PySem.Spec PyProof.Rows L2
section
variable {X : Cx}
/-- the new dict at D; each turn puts one pair in, or none -/
def tDcK {P : Program} {w : World} (κ : DKind P w) (wi : TI) (g : TG) (tt : TT) (tk tv : TE) (vs : List Nat) : TE := fun σ H Q => wi σ H fun J Ha => ∀ D, Ha D = none → ∃ V0 : Nat → Nat → Hp → Prop, (∃ m, V0 0 m (upd Ha D (κ.emp D))) ∧ ∀ i m Hb, V0 i m Hb →
  (J.stop i Hb ∧ Q (.ref D) Hb) ∨ (J.go i Hb ∧ ∃ N : Hp → Prop, (∀ Hc, N Hc → ∃ m', m' < m ∧ V0 (i + 1) m' Hc) ∧ ∀ x Hc, J.yld i Hb x Hc → g x (wipe σ vs) Hc fun σd Hd => wipe σd vs = wipe σ vs ∧ tt σd Hd fun b He =>
    if b = true then tk σd He fun y Hf => tv σd Hf fun z Hg => κ.put D y z Hg N else N He)
set_option maxHeartbeats 1000000 in
theorem pe_dcK {κ : DKind X.prog X.w} {kx vx tg iter : Expr} {ifs : List Expr} {scope : Scope} {own : List (Str × Nat)} {pos : Pos} {wi : TI} {g : TG} {tt : TT} {tk tv : TE} (hu : X.A.units < cLine) (hc : X.calm = true) (hN : X.N.Nodup) (hi : PI X tg iter wi) (ok : BlkOk X.N X.env.scope scope own)
    (hg : ∀ s H C cl fp, PG (X.blk s H scope (compEnvC scope cl C X.env) fp) tg g) (ht : ∀ s H C cl fp, PTs (X.blk s H scope (compEnvC scope cl C X.env) fp) ifs tt)
    (hk : ∀ s H C cl fp, PE (X.blk s H scope (compEnvC scope cl C X.env) fp) kx tk) (hv : ∀ s H C cl fp, PE (X.blk s H scope (compEnvC scope cl C X.env) fp) vx tv) (fold : ∀ x, foldedSetIterable iter X.env x = pure x := by intro _; rfl) :
    PE X (.DictComp kx vx [⟨tg, iter, ifs, 0⟩] scope pos) (tDcK κ wi g tt tk tv (own.map (·.2))) := by
  refine ⟨fun pins s σ H Q I h => ?_⟩
  rw [arm_eval_DictComp]
  have caught : ∀ y ∈ scope.names, y.2 = .free → ∃ c, X.env.cells.lookup y.1 = some c := fun y hy e => (ok.free y hy e).elim (fun k => I.ok.has _ (.inl k)) fun k => I.ok.has _ (.inr k)
  refine wpAny_comprehension_free (use := none) rfl fold (closure_ok caught) ok.kind (fun y hy e => by rw [ok.uniq y hy, e]) (thn (hi.run pins s σ H _ I h) fun xv sa hx => thn hx fun itv sb hb => ?_)
  obtain ⟨ita, fa, tna, J, Hb, rfl, Ib, T, stb, fb, q⟩ := hb
  refine wpAny_newObj_type (newEnv_comp ?_)
  generalize hD : sb.heap.objs.size = D
  have nD : Hb D = none := Ib.hok.fresh (Nat.le_of_eq hD)
  obtain ⟨V0, ⟨m0, w0⟩, turn⟩ := q D nD
  generalize hsc : ({ sb with heap := sb.heap.push { cls := .type "dict", data := .dict #[] } } : Shared) = sc
  have hsc' : sc.heap = sb.heap.push { cls := .type "dict", data := .dict #[] } := by rw [← hsc]
  have Ic : Inv X pins σ (upd Hb D (κ.emp D)) sc := by
    rw [← hsc, ← hD]
    exact Ib.laid (t' := sb.toks) (fun b o e => Heap.get?_push_of_some _ e) (Nat.le_refl _) (κ.emp_ok _ _ Ib.big)
  have small : ∀ b ∈ fa, b < sb.heap.objs.size := fun b hb => by
    obtain ⟨o, e, _⟩ := T.obj _ _ stb b hb
    exact Heap.lt_size e
  have fc : ∀ b ∈ fa, FpOk X pins (upd Hb D (κ.emp D)) b ∧ b < sc.heap.objs.size := fun b hb => by
    have lt := small b hb
    refine ⟨⟨?_, (fb b hb).2⟩, by rw [hsc', Heap.size_push]; exact Nat.lt_succ_of_lt lt⟩
    rw [upd_ne (by rw [← hD]; exact Nat.ne_of_lt lt)]
    exact (fb b hb).1
  have stc : tna 0 sc.heap := T.keep _ _ _ stb fun b _ o e => by
    rw [hsc']
    exact Heap.get?_push_of_some _ e
  have Id := block_start Ic ok hN fc
  have Gd := hg sc (upd Hb D (κ.emp D)) sc.heap.objs.size (cellsFrom (sc.heap.objs.size + 1) scope.names (cloFrom X.env.cells scope.names [])) fa
  have Td := ht sc (upd Hb D (κ.emp D)) sc.heap.objs.size (cellsFrom (sc.heap.objs.size + 1) scope.names (cloFrom X.env.cells scope.names [])) fa
  have Kd := hk sc (upd Hb D (κ.emp D)) sc.heap.objs.size (cellsFrom (sc.heap.objs.size + 1) scope.names (cloFrom X.env.cells scope.names [])) fa
  have Vd := hv sc (upd Hb D (κ.emp D)) sc.heap.objs.size (cellsFrom (sc.heap.objs.size + 1) scope.names (cloFrom X.env.cells scope.names [])) fa
  have clear0 : ∀ b ∈ fa, (upd Hb D (κ.emp D)) b = none := fun b hb => (fc b hb).1.1
  show codeAny _ _ (.compStart (.DictComp kx vx [⟨tg, iter, ifs, 0⟩] scope pos) 0 (.ref ita) (.ref D) (compEnvC scope (cellsFrom (sc.heap.objs.size + 1) scope.names (cloFrom X.env.cells scope.names [])) sc.heap.objs.size X.env)) _ _
  generalize hce : compEnvC scope (cellsFrom (sc.heap.objs.size + 1) scope.names (cloFrom X.env.cells scope.names [])) sc.heap.objs.size X.env = ce at Id Gd Td Kd Vd ⊢
  have cL : ce.locals = sc.heap.objs.size := by
    rw [← hce]
    rfl
  generalize hHc : upd Hb D (κ.emp D) = Hc at Ic Id Gd Td Kd Vd w0 clear0 fc
  generalize hsd : ({ sc with heap := pushCells (sc.heap.push { cls := .type "dict", data := .dict #[] }) scope.names } : Shared) = sd at Id ⊢
  have std : tna 0 sd.heap := T.keep _ _ _ stc fun b _ o e => by
    rw [← hsd]
    exact pushCells_keeps _ _ _ _ (Heap.get?_push_of_some _ e)
  have steady : ∀ {σ' : L2.St} {H' : Hp} {s' : Shared}, Inv (X.blk sc Hc scope ce fa) [] σ' H' s' → (∀ b ∈ fa, H' b = none) → ∀ b ∈ fa, FpOk (X.blk sc Hc scope ce fa) [] H' b := fun {σ' H' s'} I' nn b hb =>
    ⟨nn b hb, (I'.ok.exf b hb).1, I'.ok.exfs b hb, .inl hb, fun x c e => (I'.ok.exf b hb).2 x c e, fun p hp => nomatch hp⟩
  refine codeAny_compStart_dict ?loop (T.self X.A 0 _ _ _ std ?loop)
  refine compLoop_anyD (fun n s' => ∃ i H', Inv (X.blk sc Hc scope ce fa) [] (wipe σ (own.map (·.2))) H' s' ∧ tna i s'.heap ∧ (∀ b ∈ fa, H' b = none) ∧ V0 i n H') ?_ m0 ⟨0, Hc, Id, std, clear0, w0⟩
  rintro n se ⟨i, He, Ie, ste, ne, we⟩
  rcases turn i n He we with ⟨stop, qq⟩ | ⟨go, N, hNx, step⟩
  · refine thnF (T.done (X.blk sc Hc scope ce fa) rfl rfl rfl hc i [] se _ He (fun _ _ => False) Ie (steady Ie ne) ste stop) fun r sf ⟨hr, If⟩ => ?_
    subst hr
    have back : Inv X pins σ He sf := Ic.call' (ch := fa) If.os If.base If.hok If.bare fun b hb => ⟨(fc b hb).1.2.2.2.1, (fc b hb).1.2.1, (fc b hb).1.2.2.2.2.1, (fc b hb).1.2.2.2.2.2⟩
    have none_ : He sc.heap.objs.size = none := by
      have z : He ce.locals = none := If.free
      rw [cL] at z
      exact z
    obtain ⟨m, hn, _⟩ := If.loc
    have hn : sf.heap.Ns ce.locals m := hn
    rw [cL] at hn
    obtain ⟨f0, f1, f2, f3, f4, f5⟩ := Ic.fpOk (Nat.le_refl _) none_
    exact ⟨m, hn, fun h'' sb' => ⟨.ref D, He, back.turned (t' := sf.toks) (fun b o hb e => (sb'.2 b hb).trans e) f0 f1 f3 f4 f5, rfl, qq⟩⟩
  · refine thnF (T.item (X.blk sc Hc scope ce fa) rfl rfl rfl hc i [] se _ He (fun _ _ => False) Ie (steady Ie ne) ste go) fun r sf ⟨u, hr, hf⟩ => ?_
    subst hr
    refine thnF hf fun _ sg ⟨x, Hg, Ig, rg, yg, stg, ng⟩ => ?_
    refine thnF (Gd.run _ sg _ Hg x u _ (Ig.pinned (steady Ig ng) (T.obj _ _ stg)) rg (step x Hg yg)) fun _ sh ⟨σh, Hh, Ih, wh, qh⟩ => ?_
    refine thnF (Td.run _ sh σh Hh _ Ih qh) fun b si ⟨Hi, Ii, qi⟩ => ?_
    have over : ∀ {s' : Shared} {H' : Hp}, Inv (X.blk sc Hc scope ce fa) ([] ++ pinsAt fa sg.heap) σh H' s' → N H' → ∃ m, m < n ∧ ∃ i H', Inv (X.blk sc Hc scope ce fa) [] (wipe σ (own.map (·.2))) H' s' ∧ tna i s'.heap ∧ (∀ b ∈ fa, H' b = none) ∧ V0 i m H' := fun {s' H'} I' nx => by
      obtain ⟨m', less, w'⟩ := hNx H' nx
      have held : ∀ b ∈ fa, ∀ o, sg.heap.get? b = some o → s'.heap.get? b = some o ∧ H' b = none := fun b hb o e =>
        let z := I'.pin (b, o) (List.mem_append_right _ (List.mem_append_right _ (mem_pinsAt hb e)))
        ⟨z.1, z.2.1⟩
      refine ⟨m', less, i + 1, H', (I'.unpinned (pins := [])).weak (by rw [← wh, wipe_length]) (fun j v e => ?_), T.keep _ _ _ stg fun b hb o e => (held b hb o e).1, fun b hb => ?_, w'⟩
      · rw [← wh] at e
        exact (wipe_some e).1
      · obtain ⟨o, e, _⟩ := T.obj _ _ stg b hb
        exact (held b hb o e).2
    cases b with
    | false =>
      simp only [Bool.false_eq_true, if_false] at qi ⊢
      exact over Ii qi
    | true =>
      simp only [if_true] at qi ⊢
      refine thnF (Kd.run _ si σh Hi _ Ii qi) fun z sj ⟨yk, Hj, Ij, rj, qj⟩ => ?_
      refine thnF (Vd.run _ sj σh Hj _ Ij qj) fun z2 sk ⟨yv, Hk, Ik, rk, qk⟩ => ?_
      exact thnF (κ.put_ok (X := X.blk sc Hc scope ce fa) rfl rfl hu Ik rj rk qk) fun _ sl ⟨Hl, Il, nl⟩ => over Il nl
end
end OF
/-! for k in d, d locked, its keys tuples of None and ints. -/
namespace OF
open PySem PySem.Spec PyProof.Rows L2
theorem paired_at {α β : Type} {F : α → β → Prop} {l : List α} {m : List β} (r : Paired F l m) : ∀ {i : Nat} {x : α}, l[i]? = some x → ∃ y, m[i]? = some y ∧ F x y := by
  induction r with
  | nil => exact fun {i x} e => nomatch e
  | @cons p q l m r1 _ ih =>
    intro i x e
    cases i with
    | zero =>
      rw [List.getElem?_cons_zero] at e
      cases e
      exact ⟨q, rfl, r1⟩
    | succ i =>
      rw [List.getElem?_cons_succ] at e ⊢
      exact ih e
/-- the keys of the dict at d, in their order -/
def ItN (P : Program) (w : World) (d : Addr) (o : Obj) (kvs : List KeyT) : It where
  go i H := H d = some (.frz o (dNT P w d kvs)) ∧ i < kvs.length
  yld i H x H' := H' = H ∧ ∃ p, kvs[i]? = some p ∧ x = .ref p.2.1
  stop i H := H d = some (.frz o (dNT P w d kvs)) ∧ kvs.length ≤ i
theorem frzN {X : Cx} {pins : List (Addr × Obj)} {σ : L2.St} {H : Hp} {s : Shared} {d : Addr} {o : Obj} {kvs : List KeyT} (I : Inv X pins σ H s) (h : H d = some (.frz o (dNT X.prog X.w d kvs))) :
    (d == sysModules) = false ∧ s.heap.get? d = some o ∧ o.ExactDict ∧ ∃ (es : Array DictEntry) (ep : Nat), o.data = .dict es ep ∧ es.size = kvs.length ∧ ∀ (i : Nat) (p : KeyT), kvs[i]? = some p → ∃ en : DictEntry, es[i]? = some en ∧ en.key = .ref p.2.1 := by
  obtain ⟨there, inner⟩ := (show ObjOk X.prog X.w H s.heap d (.frz o (dNT X.prog X.w d kvs)) from I.hok d _ h)
  obtain ⟨_, apart, xs, rel, o2, es, ep, e1, e2, e3, e4, _⟩ := (show ObjOk X.prog X.w H s.heap d (dNT X.prog X.w d kvs) from inner).1
  rw [there] at e1
  cases e1
  have c1 : es.size = xs.length := size_of_entries e4
  have c2 : kvs.length = xs.length := Paired.length rel
  refine ⟨apart, there, e2, es, ep, e3, by omega, fun i p hp => ?_⟩
  obtain ⟨q, hq, r1⟩ := paired_at rel hp
  have at_ := entry_at e4 i
  rw [hq] at at_
  exact ⟨_, at_, by rw [r1.2.1]; rfl⟩
theorem turnN {P : Program} {w : World} {K : PySem.W.Frag} {tg : Expr} {d : Addr} {o : Obj} {es : Array DictEntry} {ep : Nat} {kvs : List KeyT} (it : Addr) (hod : o.data = .dict es ep) : Turn P w K tg (ItN P w d o kvs) [it] it (fun i h => h.IsKeyIter it d i kvs.length ep) where
  mem := List.mem_singleton.mpr rfl
  obj := fun i h st b hb => by
    rw [List.mem_singleton.mp hb]
    obtain ⟨oi, e, _, dd⟩ := st
    exact ⟨oi, e, fun v z => by rw [dd] at z; cases z⟩
  keep := fun i h h' st k => st.at fun oi e => k it (List.mem_singleton.mpr rfl) oi e
  item := by
    rintro X rfl rfl rfl hc i pins s σ H E I hf st ⟨hd, hi⟩
    obtain ⟨f0, f1, f2, f3, f4, f5⟩ := hf it (List.mem_singleton.mpr rfl)
    obtain ⟨apart, there, exact_, es2, ep2, hdt, sz, ent⟩ := frzN I hd
    obtain ⟨rfl, rfl⟩ := dict_ep hod hdt
    obtain ⟨en, h1, h2⟩ := ent i _ (List.getElem?_eq_getElem hi)
    refine next_key_item st there hdt sz h1 fun h' st' sb => ?_
    obtain ⟨oi, e, c, dd⟩ := id st'
    refine ⟨en.key, rfl, go_of (s := { s with heap := h' }) e c dd (by decide) ⟨.ref (kvs[i]).2.1, H, I.turned (t' := s.toks) (fun b ob hb e => (sb.2 b hb).trans e) f0 f1 f3 f4 f5, h2, ⟨rfl, kvs[i], List.getElem?_eq_getElem hi, rfl⟩, st', fun b hb => (hf b hb).1⟩⟩
  done := by
    rintro X rfl rfl rfl hc i pins s σ H E I hf st ⟨hd, hi⟩
    obtain ⟨f0, f1, f2, f3, f4, f5⟩ := hf it (List.mem_singleton.mpr rfl)
    obtain ⟨apart, there, exact_, es2, ep2, hdt, sz, ent⟩ := frzN I hd
    obtain ⟨rfl, rfl⟩ := dict_ep hod hdt
    exact next_key_end (I.ok.hd hc) st there hdt sz hi fun h' eb => ⟨rfl, I.turned (t' := s.toks) (fun b ob hb e => eb b ob hb e) f0 f1 f3 f4 f5⟩
  self := fun A i s Q E st h => by
    refine wpAny_pyIter_slot st.typeIs F.slot_dict_keyiterator_iter (wpAny_call_entry F.slot_dict_keyiterator_iter st.typeIs F.entry_dict_keyiterator_iter ?_ (F.args_dict_keyiterator_iter_1 _))
    exact wpAny_pure ⟨_, rfl, "dict_keyiterator", _, st.typeIs, F.slot_dict_keyiterator_next.lookup, h⟩
section
variable {X : Cx} {tg e : Expr} {td : TE}
def iKeysN (X : Cx) (td : TE) : TI := fun σ H R => td σ H fun x H1 => ∃ (d : Addr) (o : Obj) (kvs : List KeyT), x = .ref d ∧ H1 d = some (.frz o (dNT X.prog X.w d kvs)) ∧ R (ItN X.prog X.w d o kvs) H1
theorem pi_keysN (he : PE X e td) : PI X tg e (iKeysN X td) := by
  refine ⟨fun pins s σ H R I h => thn (he.run pins s σ H _ I h) fun u s1 ⟨x, H1, I1, rx, d, o, kvs, ex, hd, q⟩ => ?_⟩
  subst ex
  cases (show u = Value.ref d from rx)
  obtain ⟨apart, there, exact_, es, ep, hdt, sz, _⟩ := frzN I1 hd
  refine iter_keys apart there exact_ hdt (pi_one (tk := s1.toks) I1 _ (turnN _ hdt) ⟨_, Heap.get?_push_size _ rfl, rfl, ?_⟩ q)
  rw [sz] <;> rfl
end
end OF
/-! Walks: over such a dict; a dict comprehension over any walk. -/
namespace OF
open PySem PySem.Spec PyProof.Rows L2
theorem walkN {P : Program} {w : World} {d : Addr} {o : Obj} {kvs : List KeyT} : Walk (ItN P w d o kvs) kvs.length (fun H => H d = some (.frz o (dNT P w d kvs))) (fun i H x H' => H' = H ∧ ∃ p, kvs[i]? = some p ∧ x = .ref p.2.1) where
  goes := fun _ _ hi q => ⟨q, hi⟩
  stops := fun _ q => ⟨q, Nat.le_refl _⟩
  yields := fun _ _ _ _ _ _ y => y
/-- Pv: by the turn and the heap, the new dict within -/
theorem dcK_it {P : Program} {w : World} {κ : DKind P w} {J : It} {n : Nat} {G : Hp → Prop} {Y : Nat → Hp → V → Hp → Prop} (wk : Walk J n G Y) {g : TG} {tt : TT} {tk tv : TE} {vs : List Nat} {σ : L2.St} {Ha : Hp} {D : Addr} {Qd : Hp → Prop} (Pv : Nat → Hp → Prop)
    (h0 : Pv 0 (upd Ha D (κ.emp D))) (hG : ∀ i H, i ≤ n → Pv i H → G H)
    (hs : ∀ i x H Hc, i < n → Pv i H → Y i H x Hc → g x (wipe σ vs) Hc fun σd Hd => wipe σd vs = wipe σ vs ∧ tt σd Hd fun b He =>
      if b = true then tk σd He fun y Hf => tv σd Hf fun z Hg => κ.put D y z Hg (Pv (i + 1)) else Pv (i + 1) He) (hd : ∀ H, Pv n H → Qd H) :
    ∃ V0 : Nat → Nat → Hp → Prop, (∃ m, V0 0 m (upd Ha D (κ.emp D))) ∧ ∀ i m Hb, V0 i m Hb →
      (J.stop i Hb ∧ Qd Hb) ∨ (J.go i Hb ∧ ∃ N : Hp → Prop, (∀ Hc, N Hc → ∃ m', m' < m ∧ V0 (i + 1) m' Hc) ∧ ∀ x Hc, J.yld i Hb x Hc → g x (wipe σ vs) Hc fun σd Hd => wipe σd vs = wipe σ vs ∧ tt σd Hd fun b He =>
        if b = true then tk σd He fun y Hf => tv σd Hf fun z Hg => κ.put D y z Hg N else N He) := by
  refine ⟨fun i m H => m + i = n ∧ Pv i H, ⟨n, rfl, h0⟩, ?_⟩
  rintro i m H ⟨count, p⟩
  have held := hG i H (by omega) p
  cases m with
  | zero =>
    have e : i = n := by omega
    subst e
    exact .inl ⟨wk.stops H held, hd H p⟩
  | succ m =>
    have hi : i < n := by omega
    exact .inr ⟨wk.goes i H hi held, Pv (i + 1), fun Hc pc => ⟨m, Nat.lt_succ_self m, by omega, pc⟩, fun x Hc y => hs i x H Hc hi p (wk.yields i H x Hc hi held y)⟩
end OF
/-! len of dicts whose keys are None and ints, or tuples of such. -/
namespace OF
open PySem PySem.Spec PyProof.Rows L2
section
variable {X : Cx}
def rLenN (X : Cx) : List V → Hp → VK → Prop := fun vs H Q => ∃ a : Addr, vs = [V.ref a] ∧ ((∃ kvs : List (KeyN × V), Rd H a (dN X.prog X.w a kvs) ∧ Q (.int kvs.length) H) ∨ ∃ kvs : List KeyT, DictT X.prog X.w H a kvs ∧ Q (.int kvs.length) H)
theorem call_lenN : CallR X (.builtin "len") (rLenN X) := by
  intro pins s σ H vs us Q I r q
  obtain ⟨a, rfl, q⟩ := q
  obtain ⟨u, rfl, rx⟩ := r.one
  cases rx
  have line := line63
  rcases q with ⟨kvs, e, q⟩ | ⟨kvs, D, q⟩
  · obtain ⟨few, apart, vs, rel, dd⟩ := dn_rd I.hok e
    have same := rel.length
    refine call_len_dict apart dd (by omega) ?_
    rw [← same]
    exact ⟨.int kvs.length, H, I.tok _, ⟨_, rfl⟩, q⟩
  · obtain ⟨few, apart, xs, rel, dd⟩ := dnt_of I.hok D
    have same : kvs.length = xs.length := Paired.length rel
    refine call_len_dictH apart dd (by omega) ?_
    rw [← same]
    exact ⟨.int kvs.length, H, I.tok _, ⟨_, rfl⟩, q⟩
end
end OF
/-! Tests of dicts whose keys are tuples of None and ints: are they empty? -/
namespace OF
open PySem PySem.Spec PyProof.Rows L2
section
variable {prog : Program} {w : World} {A : Around} {E : Value → Shared → Prop} {s : Shared}
theorem truthy_keyed {K : Type} [DecidableEq K] {knd : HeapKind prog w K} {d : Addr} {xs : List (K × Addr × Value)} {Q : Bool → Shared → Prop} (apart : (d == sysModules) = false) (hm : s.heap.DictOfH knd d xs) (few : (xs.length : Int) < 2 ^ 63)
    (q : Q (!xs.isEmpty) { s with toks := s.toks + 1 + 1 }) : wpAny (model prog w) A (truthy (.ref d)) Q E s := by
  have asks : wpAny (model prog w) A (runValue (.builtin "len" ⟨[.ref d], []⟩)) (fun r s' => r = .int xs.length (s.toks + 1) ∧ s' = { s with toks := s.toks + 1 + 1 }) E s := by
    refine wpAny_runValue (codeAny_builtin entry_len ?_)
    rw [Around.under_plainId plain_len _]
    refine wpAny_mono (wpAny_len_body_dictH (Q := fun r s' => r = .int xs.length (s.toks + 1) ∧ s' = { s with toks := s.toks + 1 + 1 }) apart hm few ⟨rfl, rfl⟩) (fun fin s' z => ?_) fun _ _ z => z
    obtain ⟨r, rfl, told⟩ := z
    exact told
  have some_ : ((xs.length : Int) != 0) = !xs.isEmpty := by
    cases xs with
    | nil => rfl
    | cons x l =>
      rw [List.length_cons]
      simp
      omega
  unfold truthy
  refine wpAny_bind (wpAny_callSpecial?_none (name := Str.ofString "__bool__") hm.typeIs noBool_dict ?_)
  refine wpAny_bind (wpAny_specialOf (name := Str.ofString "__len__") hm.typeIs F.slot_dict_len.lookup ?_)
  refine wpAny_bind (wpAny_mono asks (fun r s' z => ?_) fun _ _ z => z)
  obtain ⟨rfl, rfl⟩ := z
  refine wpAny_pure ?_
  rw [← some_] at q
  exact q
end
section
variable {X : Cx} {e : Expr} {te : TE}
def tTruN (X : Cx) (te : TE) : TT := fun σ H Q => te σ H fun x H1 => ∃ (a : Addr) (kvs : List KeyT), x = .ref a ∧ DictT X.prog X.w H1 a kvs ∧ Q (!kvs.isEmpty) H1
theorem pt_dictN (he : PE X e te) (hi : ∀ whole, isTrue e X.env whole = (do let v ← whole; standAt e.pos; holding [v] (truthy v)) := by intro _; rfl) : PT X e (tTruN X te) := by
  refine ⟨fun pins s σ H Q I q => ?_⟩
  rw [hi]
  refine wpAny_bind (thn (he.run pins s σ H _ I q) fun u s1 ⟨x, H1, I1, rx, a, kvs, ex, D, q1⟩ => ?_)
  subst ex
  cases (show u = Value.ref a from rx)
  obtain ⟨few, apart, xs, rel, dd⟩ := dnt_of I1.hok D
  have same : kvs.length = xs.length := Paired.length rel
  have line := line63
  refine wpAny_bind (wpAny_standAt (wpAny_holding (truthy_keyed apart dd (by omega) ?_)))
  have e2 : xs.isEmpty = kvs.isEmpty := by cases rel <;> rfl
  rw [e2]
  exact ⟨H1, I1.tok _, q1⟩
end
end OF
namespace K12
open PySem PySem.Spec PyProof.Rows L2 OF
abbrev sLeft : Stmt := topS 24
abbrev sAllLeft : Stmt := topS 25
section
variable {P : Program} {w : World} {K : PySem.W.Frag} {mg : Str → Option Value} {base : Heap}
/-! ### the digits that may stand left of one -/
def spLeft (C : Addr) : Sp := fun vs H Q _ => ∃ (a t r : Addr) (b : Int) (ds : List Int) (ks : List (Addr × (Int × Int))) (z : V), vs = [.ref a, z] ∧ SchemeAt C H a t r b ds ks ∧ ds.length ≤ 60 ∧ (ItemOk H z ∨ z = .non) ∧
  ∀ (D : Addr) (H' : Hp), Same H H' → H' D = some (.lst ((ds.filter fun d => jdg ds ks (.int d) z).map V.int)) → Q (.ref D) H'
abbrev nLf : List Str := ["scheme", "right", "digit"]
theorem scLf : FnScope nLf ["scheme", "right"] (defScope sLeft) := ⟨rfl, rfl, rfl, by decide +kernel, rfl, by decide +kernel, by decide +kernel⟩
theorem ok_left {f fD fA C p : Addr} {fd fdD fdA : FuncData} (F : Fun K "left_digits" "left_digits" sLeft f fd) (c : Cls K C) (pD : PropOf K C "digits" p fD) (GD : FnOk P w K mg base CX0 1 fD fdD ["self"] (spPD C)) (bD : Binds K fdD ["self"] [])
    (mA : Meth K C "allows" fA) (GA : FnOk P w K mg base CX0 5 fA fdA ["self", "left", "right"] (spAllows C)) (bA : Binds K fdA ["self", "left", "right"] []) : FnOk P w K mg base CX0 6 f fd ["scheme", "right"] (spLeft C) := by
  refine F.ok scLf (fun vs H Q E h => ?_) (fun cdv A outer s H vs Q E hr h => ?_)
  · obtain ⟨a, t, r, b, ds, ks, z, rfl, _⟩ := h
    rfl
  · obtain ⟨a, t, r, b, ds, ks, z, rfl, S, hl, hz, q⟩ := h
    have hr2 : Room 2 _ := hr.mono (by decide)
    apply Exists.intro
    apply And.intro
    · apply pss_one
      · exact ps_ret (pe_lc (own := [("digit", 2)]) (g := gName 2) (tt := tB (tMeth C "allows" (spAllows C) [] E0 (tVar 0) (tCons (tVar 2) (tCons (tVar 1) tNil)))) (te := tVar 2) rfl scLf.nd (pi_tup (pe_prop (pv 0) c pD GD hr2 bD .nil pass0 (by rfl)))
          (blkOk_by (own := [("digit", 2)]) (N := nLf) (sc := defScope sLeft) (by decide +kernel)) (fun _ _ _ _ _ => pg_name (i := 2) scLf.nd rfl (Or.inl rfl)) (fun _ _ _ _ _ => by exact (pts_one (pt_val (pe_meth (pv 0) c mA GA hr bA .nil pass0 (pa_cons (pv 2) (pa_cons (pv 1) pa_nil)))))) (fun _ _ _ _ _ => by exact (pv 2)))
    obtain ⟨⟨dx, hins⟩, ht, _⟩ := id S
    refine ⟨.ref a, rfl, a, dx, _, rfl, hins, a, t, r, b, ds, ks, rfl, S, t, rfl, ⟨_, SqT.of ht⟩, fun D hD => ?_⟩
    refine lc_tup (K := K) (a := t) (xs := ds.map V.int) (fun i H' => Same H H' ∧ H' D = some (.lst (((ds.take i).filter fun d => jdg ds ks (.int d) z).map V.int))) ⟨same_new hD, upd_same⟩ (fun i H' _ h => SqT.of (h.1 _ _ ht)) ?_ ?_
    · rintro i x H1 hx ⟨s1, e1⟩
      obtain ⟨n, hn, rfl⟩ := get_map hx
      obtain ⟨⟨dx1, hins1⟩, _⟩ := id (S.same s1)
      refine ⟨rfl, .ref a, rfl, a, dx1, _, rfl, hins1, rfl, .int n, rfl, z, rfl, ?_⟩
      dsimp only [tNil, tCons, tC]
      refine allows_of (S.same s1) (.inl ⟨n, rfl⟩) (hz.imp (fun o => o.same s1) id) fun H2 s2 => ⟨_, rfl, ?_⟩
      have e2 := s2 _ _ e1
      cases hj : jdg ds ks (.int n) z with
      | true =>
        refine iteT ⟨.int n, rfl, _, e2, ?_, Same.store (s1.trans s2) hD, ?_⟩
        · rw [List.length_map]
          exact Nat.lt_of_le_of_lt (Nat.le_trans (List.length_filter_le _ _) (List.length_take_le' _ _)) (small1000 (by omega))
        · rw [upd_same, take_more hn, List.filter_append, List.map_append]
          simp [hj]
      | false =>
        refine iteF ⟨s1.trans s2, ?_⟩
        rw [e2, take_more hn, List.filter_append]
        simp [hj]
    · rintro H1 ⟨s1, e1⟩
      rw [List.length_map, List.take_length] at e1
      exact q D H1 s1 e1
/-- by the digit beside, or None: the digits that may stand left of it -/
def LeftsAt (P : Program) (w : World) (H : Hp) (D : Addr) (ds : List Int) (ks : List (Addr × (Int × Int))) (n : Nat) : Prop :=
  ∃ kvs : List (KeyN × V), H D = some (dN P w D kvs) ∧ kvs.length ≤ n ∧ ∀ i k, i < n → (none :: ds.map some)[i]? = some k → ∃ L, valV kvs k = some (.ref L) ∧ H L = some (.lst ((ds.filter fun d => jdg ds ks (.int d) (nV k)).map V.int))
def spAllLeft (P : Program) (w : World) (C : Addr) : Sp := fun vs H Q _ => ∃ (a t r : Addr) (b : Int) (ds : List Int) (ks : List (Addr × (Int × Int))), vs = [.ref a] ∧ SchemeAt C H a t r b ds ks ∧ ds.length ≤ 60 ∧
  ∀ (D : Addr) (H' : Hp), Same H H' → LeftsAt P w H' D ds ks (ds.length + 1) → Q (.ref D) H'
abbrev nAll : List Str := ["scheme", "right"]
theorem scAll : FnScope nAll ["scheme"] (defScope sAllLeft) := ⟨rfl, rfl, rfl, by decide +kernel, rfl, by decide +kernel, by decide +kernel⟩
theorem ok_allleft {f fL fD C p : Addr} {fd fdL fdD : FuncData} (F : Fun K "all_left_digits" "all_left_digits" sAllLeft f fd) (c : Cls K C) (pD : PropOf K C "digits" p fD) (GD : FnOk P w K mg base CX0 1 fD fdD ["self"] (spPD C)) (bD : Binds K fdD ["self"] [])
    (GL : FnOk P w K mg base CX0 6 fL fdL ["scheme", "right"] (spLeft C)) (gL : mg "left_digits" = some (.ref fL)) (kL : PySem.W.keepIn K (.ref fL) = true) (bL : Binds K fdL ["scheme", "right"] []) : FnOk P w K mg base CX0 7 f fd ["scheme"] (spAllLeft P w C) := by
  refine F.ok scAll (fun vs H Q E h => ?_) (fun cdv A outer s H vs Q E hr h => ?_)
  · obtain ⟨a, t, r, b, ds, ks, rfl, _⟩ := h
    rfl
  · obtain ⟨a, t, r, b, ds, ks, rfl, S, hl, q⟩ := h
    have hr2 : Room 2 _ := hr.mono (by decide)
    apply Exists.intro
    apply And.intro
    · apply pss_one
      · exact ps_ret (pe_dcK (κ := kN P w) (own := [("right", 1)]) (g := gName 1) (tk := tVar 1) (tv := tCall (spLeft C) [] E0 (tCons (tVar 0) (tCons (tVar 1) tNil))) (by exact Nat.lt_of_succ_lt (hu_of hr)) rfl scAll.nd (pi_tup (pe_op op_cat2 (pe_tup (pa_cons pe_non pa_nil)) (pe_prop (pv 0) c pD GD hr2 bD .nil pass0 (by rfl))))
          (blkOk_by (own := [("right", 1)]) (N := nAll) (sc := defScope sAllLeft) (by decide +kernel)) (fun _ _ _ _ _ => pg_name (i := 1) scAll.nd rfl (Or.inl rfl)) (fun _ _ _ _ _ => by exact pts_nil) (fun _ _ _ _ _ => by exact (pv 1)) (fun _ _ _ _ _ => by exact (pe_call GL hr (by rfl) gL kL bL .nil pass0 (pa_cons (pv 0) (pa_cons (pv 1) pa_nil)))))
    obtain ⟨⟨dx, hins⟩, ht, _⟩ := id S
    refine ⟨(by show 1 ≤ sizeLine; decide), fun p1 hp1 => ?_⟩
    have s1 := same_new (o := .tup [.non]) hp1
    have e1 : (upd H p1 (.tup [.non])) p1 = some (.tup [.non]) := upd_same
    generalize upd H p1 (.tup [.non]) = H1 at s1 e1 ⊢
    refine ⟨.ref a, rfl, a, dx, _, rfl, s1 _ _ hins, a, t, r, b, ds, ks, rfl, S.same s1, ?_⟩
    refine ⟨p1, t, _, _, rfl, rfl, e1, s1 _ _ ht, by rw [List.length_map]; exact Nat.le_trans (by show 1 + ds.length ≤ 1000; omega) (by decide), fun T H2 s2 eT => ?_⟩
    have s2 := s1.trans s2
    refine ⟨T, rfl, ⟨_, SqT.of eT⟩, fun D hD => ?_⟩
    refine dcK_it (κ := kN P w) (walk_tup (K := K) (a := T) (xs := [V.non] ++ ds.map V.int)) (fun i H' => Same H2 H' ∧ LeftsAt P w H' D ds ks i) ⟨same_new hD, [], upd_same, Nat.le_refl _, fun i k hi => nomatch hi⟩ (fun i H' _ h => SqT.of (h.1 _ _ eT)) ?_ ?_
    · rintro i x H0 H3 hi ⟨s3, kvs, e3, few, all⟩ ⟨rfl, hx⟩
      refine ⟨rfl, ?_⟩
      have same : [V.non] ++ ds.map V.int = (none :: ds.map some : List KeyN).map nV := by
        rw [List.map_cons, List.map_map]
        rfl
      rw [same] at hx
      obtain ⟨k, hk, rfl⟩ : ∃ k, (none :: ds.map some : List KeyN)[i]? = some k ∧ nV k = x := by
        rw [List.getElem?_map] at hx
        exact Option.map_eq_some_iff.mp hx
      have count : i < ds.length + 1 := by
        have z : ([V.non] ++ ds.map V.int).length = ds.length + 1 := by rw [List.length_append, List.length_map]; exact Nat.add_comm _ _
        omega
      have fits : ItemOk H3 (nV k) ∨ nV k = .non := by
        cases k with
        | none => exact .inr rfl
        | some d => exact .inl (.inl ⟨d, rfl⟩)
      dsimp only [tYes]
      refine iteTB rfl ?_
      refine ⟨_, rfl, .ref a, rfl, _, rfl, a, t, r, b, ds, ks, _, rfl, S.same (s2.trans s3), hl, fits, fun L H4 s4 eL => ?_⟩
      have e4 := s4 _ _ e3
      have off : ∀ {c : Addr} {xs : List V}, H4 c = some (.lst xs) → upd H4 D (dN P w D (putK kvs k (.ref L))) c = some (.lst xs) := fun {c xs} ec => by
        rw [upd_ne]
        · exact ec
        · rintro rfl
          rw [e4] at ec
          cases ec
      refine ⟨kvs, k, rfl, e4, Nat.lt_of_le_of_lt few (small1000 (by omega)), Same.store (s3.trans s4) hD, putK kvs k (.ref L), upd_same, Nat.le_trans (length_putK _ _ _) (by omega), fun i2 k2 hi2 hk2 => ?_⟩
      rw [valV_put]
      by_cases ek : k2 = k
      · subst ek
        rw [if_pos rfl]
        exact ⟨L, rfl, off eL⟩
      · rw [if_neg ek]
        have lt : i2 < i := by
          rcases Nat.lt_or_ge i2 i with z | z
          · exact z
          · have z2 : i2 = i := by omega
            subst z2
            rw [hk] at hk2
            exact absurd (Option.some.inj hk2).symm ek
        obtain ⟨L2, v2, e2⟩ := all i2 k2 lt hk2
        exact ⟨L2, v2, off (s4 _ _ e2)⟩
    · rintro H3 ⟨s3, L⟩
      exact q D H3 (s2.trans s3) (by
        have e : ([V.non] ++ ds.map V.int).length = ds.length + 1 := by rw [List.length_append, List.length_map]; exact Nat.add_comm _ _
        rw [e] at L
        exact L)
end
end K12
/-! The heap without the tables of code objects: facts about it stand while lambdas are made. -/
namespace OF
open PySem PySem.Spec PyProof.Rows L2 LamX NdefX
def nt (H : Hp) : Hp := fun c => match H c with
  | some (.tbl _) => none
  | o => o
theorem nt_some {H : Hp} {c : Addr} {o : HO} (e : nt H c = some o) : H c = some o ∧ ∀ ps, o ≠ .tbl ps := by
  unfold nt at e
  split at e
  · cases e
  · rename_i h
    refine ⟨e, fun ps z => ?_⟩
    subst z
    exact h ps e
theorem nt_at {H : Hp} {c : Addr} {o : HO} (e : H c = some o) (n : ∀ ps, o ≠ .tbl ps) : nt H c = some o := by
  unfold nt
  split
  · rename_i ps h
    rw [e] at h
    exact absurd (Option.some.inj h) (n ps)
  · exact e
theorem nt_same {H : Hp} : Same (nt H) H := fun c o e => (nt_some e).1
theorem ExtN.nt {H H' : Hp} (t : ExtN H H') : Same (OF.nt H) (OF.nt H') := fun c o e => by
  obtain ⟨e, n⟩ := nt_some e
  exact nt_at (t c o e n) n
theorem Same.nt {H H' : Hp} (s : Same H H') : Same (OF.nt H) (OF.nt H') := ExtN.nt (ExtN.of s)
theorem But.nt {a : Addr} {H H' : Hp} (t : But a H H') : But a (OF.nt H) (OF.nt H') := fun c o n e => by
  obtain ⟨e, k⟩ := nt_some e
  exact nt_at (t c o n e) k
theorem Box.nt {a : Addr} {n : Int} {H : Hp} (B : Box n H a) : Box n (OF.nt H) a := by
  obtain ⟨b0, b1, b2, e, r⟩ := B
  exact ⟨b0, b1, b2, nt_at e (fun ps z => by cases z), r⟩
end OF
/-! A function made while the program runs, that outlives its maker: called by the name that holds it. -/
namespace OF
open PySem PySem.Spec PyProof.Rows L2 LamX NdefX
/-- what stands at f answers calls as sp says -/
structure CalO (P : Program) (w : World) (K : PySem.W.Frag) (mg : Str → Option Value) (base : Heap) (k : Nat) (f : Addr) (o : HO) (sp : Sp) : Prop where
  fn : ∀ (H : Hp) (h : Heap), HOk P w H h → H f = some o → PySem.W.FnAt f h
  run : ∀ (A : Around) (outer : List Env) (s : Shared) (H : Hp) (us : List Value) (vs : List V) (Q : VK), Room k A → Env0 P w K mg base A outer s H → H f = some o → Vals vs us → sp vs H Q E0 → codeAny (model P w) A (.call (.ref f) ⟨us, []⟩) (CR CX0 outer P w H s Q E0) s
theorem CalO.mono {P : Program} {w : World} {K : PySem.W.Frag} {mg : Str → Option Value} {base : Heap} {j k : Nat} {f : Addr} {o : HO} {sp : Sp} (c : CalO P w K mg base j f o sp) (h : j ≤ k) : CalO P w K mg base k f o sp :=
  ⟨c.fn, fun A outer s H us vs Q hr => c.run A outer s H us vs Q (hr.mono h)⟩
/-- x(..), the i-th slot holding such a thing -/
def tClo (P : Program) (w : World) (K : PySem.W.Frag) (mg : Str → Option Value) (base : Heap) (k i : Nat) (t : TA) : TE := fun σ H Q => ∃ (f : Addr) (o : HO) (sp : Sp), σ[i]? = some (some (.ref f)) ∧ CalO P w K mg base k f o sp ∧ H f = some o ∧ t σ H fun vs H1 => H1 f = some o ∧ sp vs H1 Q E0
section
variable {X : Cx} {i k : Nat} {x : Str} {t : TA} {e : Expr} {es : List Expr} {p pos : Pos}
theorem pe_clo (hr : Room k X.A) (hN : X.N[i]? = some x) (hv : Vis X.env.scope x) (ha : PA X (e :: es) t)
    (hd : (x == ("__debug__" : Str)) = false := by decide) (hcd : (x == ("__classdict__" : Str)) = false := by decide)
    (he : starEach (e :: es) X.env = (false, eval e X.env) :: starEach es X.env := by rfl) (hpl : (backTo pos (starEach es X.env)).any (·.1) = false := by rfl) :
    PE X (.Call (.Name x p) (e :: es) [] pos) (tClo X.prog X.w X.K X.mg X.base k i t) := by
  refine ⟨fun pins s σ H Q I h => ?_⟩
  obtain ⟨f, o, sp, hs, hC, hf, ht⟩ := h
  refine wpAny_Call_Name_kw (thn ((pe_var (pos := p) hN hv hd hcd).run pins s σ H (fun v H1 => v = .ref f ∧ H1 = H) I ⟨.ref f, hs, rfl, rfl⟩) fun u s1 ⟨v, H1, I1, r1, q1⟩ => ?_)
  obtain ⟨ev, eH⟩ := q1
  subst ev
  rw [eH] at I1
  obtain rfl : u = Value.ref f := r1
  refine PySem.W.callWith_F (first := []) (hC.fn _ _ I1.hok hf) (thn (ha.run pos pins s1 σ H _ I1 ht) fun us s2 ⟨vs, H2, I2, r, h1, q⟩ => ⟨hC.fn _ _ I2.hok h1, ?_⟩) he hpl
  show wpAny _ _ (call (.ref f) us) _ _ _
  refine wpAny_call (codeAny_mono (hC.run X.A X.stack s2 H2 us vs Q hr I2.env0 h1 r q) fun r s' hq => ?_)
  cases r with
  | error e => exact False.elim hq
  | ok fl =>
    cases fl with
    | ret u => exact I2.after hq
    | next => exact False.elim hq
    | brk => exact False.elim hq
    | cont => exact False.elim hq
end
/-! ### a lambda with its captured cells -/
def LamO (f : Addr) (F : NF) (b : Expr) : HO := .ext fun h => ∃ pm ctv : Value, h.get? f = some (PySem.W.kla_obj "<lambda>" F.qual F.params b F.scope F.cl pm F.c ctv)
def CellO (c : Addr) (v : V) : HO := .ext fun h => ∃ u, L2.RelV v u ∧ h.IsCell c (some u)
theorem lamO_ok {P : Program} {w : World} {H : Hp} {h : Heap} {f : Addr} {F : NF} {b : Expr} (e : ∃ pm ctv : Value, h.get? f = some (PySem.W.kla_obj "<lambda>" F.qual F.params b F.scope F.cl pm F.c ctv)) : ObjOk P w H h f (LamO f F b) := by
  obtain ⟨pm, ctv, e⟩ := e
  exact ⟨⟨pm, ctv, e⟩, ⟨_, e⟩, fun h1 h2 ⟨p, t, z⟩ st => ⟨p, t, st _ z⟩⟩
theorem cellO_ok {P : Program} {w : World} {H : Hp} {h : Heap} {c : Addr} {v : V} (e : ∃ u, L2.RelV v u ∧ h.IsCell c (some u)) : ObjOk P w H h c (CellO c v) := by
  obtain ⟨u, r, o, e, d⟩ := e
  exact ⟨⟨u, r, o, e, d⟩, ⟨_, e⟩, fun h1 h2 ⟨u, r, o, z, d⟩ st => ⟨u, r, o, st _ z, d⟩⟩
/-- some cells untracked, and tracked again -/
def offC (cs : List Addr) (H : Hp) : Hp := fun b => if b ∈ cs then none else H b
def onC (cs : List Addr) (H H' : Hp) : Hp := fun b => if b ∈ cs then H b else H' b
theorem off_at {cs : List Addr} {H : Hp} {b : Addr} {o : HO} (hx : ∀ c ∈ cs, ∃ φ, H c = some (.ext φ)) (e : H b = some o) (n : ∀ φ, o ≠ .ext φ) : offC cs H b = some o := by
  refine (if_neg fun z => ?_).trans e
  obtain ⟨φ, q⟩ := hx b z
  rw [e] at q
  exact n φ (Option.some.inj q)
theorem off_ne {cs : List Addr} {H : Hp} {b : Addr} {o : HO} (n : b ∉ cs) (e : H b = some o) : offC cs H b = some o := (if_neg n).trans e
theorem on_same {cs : List Addr} {H H' : Hp} (s : Same (offC cs H) H') : Same H (onC cs H H') := fun c o e => by
  unfold onC
  split
  · exact e
  · rename_i n
    exact s _ _ (off_ne n e)
/-- what is new stands so when the cells are tracked again -/
theorem on_at {cs : List Addr} {H H' : Hp} {b : Addr} {o : HO} (g : ∀ c ∈ cs, H' c = none) (e : H' b = some o) : onC cs H H' b = some o := (if_neg fun z => by rw [g b z] at e; cases e).trans e
theorem off_ok {P : Program} {w : World} {cs : List Addr} {H : Hp} {h : Heap} (hok : HOk P w H h) (hx : ∀ c ∈ cs, ∃ φ, H c = some (.ext φ)) : HOk P w (offC cs H) h := fun b o e => by
  unfold offC at e
  split at e
  · cases e
  · refine (hok b o e).stay (fun _ _ _ q => q) (fun d q => ?_) fun d xs q => ?_
    · show (if d ∈ cs then none else H d) = _
      by_cases hd : d ∈ cs
      · obtain ⟨φ, z⟩ := hx d hd
        rw [z] at q
        cases q
      · rw [if_neg hd]
        exact q
    · show (if d ∈ cs then none else H d) = _
      by_cases hd : d ∈ cs
      · obtain ⟨φ, z⟩ := hx d hd
        rw [z] at q
        cases q
      · rw [if_neg hd]
        exact q
/-- the end of a call that began with the cells untracked -/
theorem on_end {P : Program} {w : World} {outer : List Env} {cs : List Addr} {H : Hp} {s s' : Shared} {Q : VK} {u : Value} (hok : HOk P w H s.heap) (hfr : ∀ b ∈ frs outer, H b = none) (hx : ∀ c ∈ cs, ∃ φ, H c = some (.ext φ))
    (hq : CE outer P w (offC cs H) s (fun v H' => (∀ c ∈ cs, H' c = none) → Q v (onC cs H H')) u s') : CE outer P w H s Q u s' := by
  obtain ⟨v, H', os, bare, un, ok, rv, q⟩ := hq
  have off : ∀ {b}, b ∉ cs → offC cs H b = H b := fun {b} n => if_neg n
  have offn : ∀ {b}, b ∈ cs → offC cs H b = none := fun {b} n => if_pos n
  have on : ∀ {b}, b ∉ cs → onC cs H H' b = H' b := fun {b} n => if_neg n
  have onn : ∀ {b}, b ∈ cs → onC cs H H' b = H b := fun {b} n => if_pos n
  have out : ∀ {b}, H b = none → b ∉ cs := fun {b} n z => by
    obtain ⟨φ, e⟩ := hx b z
    rw [n] at e
    cases e
  have kept : ∀ c ∈ cs, ∀ o, s.heap.get? c = some o → s'.heap.get? c = some o ∧ H' c = none := fun c hc o e => by
    have nf : c ∉ frs outer := fun z => by
      obtain ⟨φ, e2⟩ := hx c hc
      rw [hfr c z] at e2
      cases e2
    exact ⟨un.keep c o e (offn hc) nf (by simp), un.free c o e (offn hc) (by simp)⟩
  have gone : ∀ c ∈ cs, H' c = none := fun c hc => by
    obtain ⟨φ, e⟩ := hx c hc
    obtain ⟨_, ⟨o, e2⟩, _⟩ := hok c _ e
    exact (kept c hc o e2).2
  refine ⟨v, onC cs H H', os, bare, ⟨fun b o e n nf ne => ?_, fun b o e n nf ne => ?_, fun b o e n ne => ?_, fun b o e ne => un.there b o e ne, fun b xs e => ?_, fun b o y e => ?_, fun b ps e => ?_⟩, fun b o e => ?_, rv, q gone⟩
  · exact un.keep b o e ((off (out n)).trans n) nf ne
  · exact un.slot b o e ((off (out n)).trans n) nf ne
  · rw [on (out n)]
    exact un.free b o e ((off (out n)).trans n) ne
  · by_cases hb : b ∈ cs
    · rw [onn hb]
      exact e
    · rw [on hb]
      exact un.tups b xs ((off hb).trans e)
  · by_cases hb : b ∈ cs
    · rw [onn hb]
      exact e
    · rw [on hb]
      exact un.frzs b o y ((off hb).trans e)
  · by_cases hb : b ∈ cs
    · rw [onn hb]
      exact ⟨#[], by rw [e]; simp⟩
    · rw [on hb]
      exact un.tbls b ps ((off hb).trans e)
  · by_cases hb : b ∈ cs
    · rw [onn hb] at e
      obtain ⟨φ, e2⟩ := hx b hb
      rw [e2] at e
      cases e
      obtain ⟨p, ⟨o, eo⟩, st⟩ := hok b _ e2
      have k := (kept b hb o eo).1
      exact ⟨st _ _ p fun o' e' => (kept b hb o' e').1, ⟨o, k⟩, st⟩
    · rw [on hb] at e
      refine (ok b o e).stay (fun _ _ _ q => q) (fun d q => ?_) fun d xs q => ?_
      · by_cases hd : d ∈ cs
        · rw [gone d hd] at q
          cases q
        · rw [on hd]
          exact q
      · by_cases hd : d ∈ cs
        · rw [gone d hd] at q
          cases q
        · rw [on hd]
          exact q
/-! ### a lambda's promise by its body -/
structure CapsO (cl : List (Str × Addr)) (fr : List Str) (ws : List V) (H : Hp) : Prop where
  len : ws.length = fr.length
  all : ∀ p ∈ cl, ∃ v, H p.2 = some (CellO p.2 v)
  has : ∀ (i : Nat) (y : Str), fr[i]? = some y → ∃ c v, cl.lookup y = some c ∧ ws[i]? = some v ∧ H c = some (CellO c v)
def cellAs (cl : List (Str × Addr)) : List Addr := cl.map (·.2)
theorem CapsO.ext {cl : List (Str × Addr)} {fr : List Str} {ws : List V} {H : Hp} (C : CapsO cl fr ws H) : ∀ c ∈ cellAs cl, ∃ φ, H c = some (.ext φ) := fun c hc => by
  obtain ⟨p, hp, rfl⟩ := List.mem_map.mp hc
  obtain ⟨v, e⟩ := C.all p hp
  exact ⟨_, e⟩
theorem CapsO.same {cl : List (Str × Addr)} {fr : List Str} {ws : List V} {H H' : Hp} (C : CapsO cl fr ws H) (s : Same H H') : CapsO cl fr ws H' :=
  ⟨C.len, fun p hp => let ⟨v, e⟩ := C.all p hp; ⟨v, s _ _ e⟩, fun i y h => let ⟨c, v, a, b, e⟩ := C.has i y h; ⟨c, v, a, b, s _ _ e⟩⟩
/-- what is asked where the lambda F is called: sp, told what its cells hold -/
def spClo (F : NF) (fr : List Str) (sp : List V → Sp) : Sp := fun vs H Q E => ∃ ws, CapsO F.cl fr ws H ∧ H F.c = some (CodeO F.c F.qual) ∧ sp ws vs H Q E
section
variable {P : Program} {w : World} {K : PySem.W.Frag} {mg : Str → Option Value} {base : Heap} {N ps fr : List Str} {F : NF} {b : Expr} {f : Addr} {k : Nat} {sp : List V → Sp}
theorem env_off {A : Around} {outer : List Env} {s : Shared} {H : Hp} {cs : List Addr} (e0 : Env0 P w K mg base A outer s H) (hx : ∀ c ∈ cs, ∃ φ, H c = some (.ext φ)) : Env0 P w K mg base A outer s (offC cs H) := by
  have off : ∀ {b}, H b = none → offC cs H b = none := fun {b} n => by
    unfold offC
    split
    · rfl
    · exact n
  exact ⟨e0.frames, e0.mod, fun b o e => ⟨(e0.bs b o e).1, off (e0.bs b o e).2⟩, e0.bsz, e0.funs, fun b hb => off (e0.frf b hb), off_ok e0.hok hx, e0.bare⟩
theorem caps_at {s : Shared} {H : Hp} {cl : List (Str × Addr)} {ws : List V} (hok : HOk P w H s.heap) (inj : ∀ x y c, cl.lookup x = some c → cl.lookup y = some c → x = y) (C : CapsO cl fr ws H) : CellsAt cl fr (ws.map some) s.heap (offC (cellAs cl) H) := by
  have cell : ∀ c v, H c = some (CellO c v) → ∃ u, L2.RelV v u ∧ s.heap.IsCell c (some u) := fun c v e => by
    obtain ⟨z, _, _⟩ := hok c _ e
    exact z
  refine ⟨by rw [List.length_map]; exact C.len, fun y c e => ?_, inj, fun i y h => ?_⟩
  · have m := PySem.mem_of_lookup e
    obtain ⟨v, e2⟩ := C.all _ m
    obtain ⟨u, _, z⟩ := cell c v e2
    exact ⟨if_pos (List.mem_map.mpr ⟨_, m, rfl⟩), _, z⟩
  · obtain ⟨c, v, e1, e2, e3⟩ := C.has i y h
    refine ⟨c, e1, fun v' hv' => ?_⟩
    rw [List.getElem?_map, e2] at hv'
    cases hv'
    exact cell c v e3
/-- THE RULE: a lambda by its body -/
theorem lam_cal (S : NScope N ps fr F.scope) (inj : ∀ x y c, F.cl.lookup x = some c → F.cl.lookup y = some c → x = y) (hb : ∀ (pm ctv : Value) (us : List Value), us.length = ps.length → bindArgs (PySem.W.kla_fn "<lambda>" F.qual F.params b F.scope F.cl pm (.ref F.c) ctv) ⟨us, []⟩ = pure (ps.zip us))
    (len : ∀ ws vs H Q E, sp ws vs H Q E → vs.length = ps.length)
    (hbody : ∀ (A : Around) (outer : List Env) (s : Shared) (H : Hp) (vs ws : List V) (Q : VK), Room k (A.deeper (envF F f s.heap.objs.size)) → ws.length = fr.length → sp ws vs H Q E0 →
      ∃ te, PE (ncx CX0 P w K mg base N F f A outer s (offC (cellAs F.cl) H) E0) b te ∧ te (startF N vs (ws.map some)) (offC (cellAs F.cl) H) (fun v H' => (∀ c ∈ cellAs F.cl, H' c = none) → Q v (onC (cellAs F.cl) H H'))) :
    CalO P w K mg base (k + 1) f (LamO f F b) (spClo F fr sp) := by
  refine ⟨fun H h ok e => ?_, fun A outer s H us vs Q hr e0 hf r hq => ?_⟩
  · obtain ⟨⟨pm, ctv, e'⟩, _, _⟩ := ok f _ e
    exact ⟨_, _, _, _, e'⟩
  · obtain ⟨ws, C, hc, hsp⟩ := hq
    have hl := len _ _ _ _ _ hsp
    have lim : s.heap.NoLimit := e0.mod.nolimit.keeps fun b o e => (e0.bs b o e).1
    obtain ⟨⟨pm, ctv, ho⟩, _, _⟩ := e0.hok f _ hf
    have hx := C.ext
    refine PySem.W.kla_callFunE hr.depth ho rfl S.co S.gen rfl (codeO_at e0.hok hc) ?_
    rw [hb pm ctv us (by rw [← r.length]; exact hl)]
    refine wpAny_pure (wpAny_newFunctionEnv S.nocell (fun ⟨n, _⟩ hy => S.par n (List.of_mem_zip hy).1) (fun h₁ hns hsb => ⟨lim.fresh _ hsb, ?_⟩) S.kind)
    show codeAny _ _ (.expr b (envF F f s.heap.objs.size)) _ _
    have kp : ∀ b o, s.heap.get? b = some o → h₁.get? b = some o := fun b o e => hsb.extBut b o (Nat.ne_of_lt (Heap.lt_size e)) (Heap.get?_push_of_some _ e)
    obtain ⟨te, ht, q⟩ := hbody A outer s H vs ws Q (hr.deeper _) C.len hsp
    have I : Inv (ncx CX0 P w K mg base N F f A outer s (offC (cellAs F.cl) H) E0) [] (startF N vs (ws.map some)) (offC (cellAs F.cl) H) { s with heap := h₁, toks := s.toks + (ps.zip us).length } := inv_startN S hr.hd (env_off e0 hx) hl r (caps_at e0.hok inj C) hns kp
    refine PySem.W.kla_codeExpr (wpAny_mono (ht.run [] _ _ _ _ I q) (fun v s' hq => ?_) fun e s' hq => hq)
    obtain ⟨w', H', J', rv, q⟩ := hq
    exact on_end e0.hok e0.frf hx ⟨w', H', J'.os, J'.bare, J'.base, J'.hok, rv, q⟩
end
end OF
/-! A def that ends by `return lambda ..`: what it returns stands for calls later. -/
namespace OF
open PySem PySem.Spec PyProof.Rows L2 LamX NdefX
section
variable {X : Cx} {pins : List (Addr × Obj)} {σ : L2.St} {H : Hp} {s : Shared}
theorem inv_lam {F : NF} {b : Expr} {o : Obj} {t' : Nat} {pm ctv : Value} (I : Inv X pins σ H s) (ho : o = PySem.W.kla_obj "<lambda>" F.qual F.params b F.scope F.cl pm F.c ctv) :
    Inv X pins σ (upd H s.heap.objs.size (LamO s.heap.objs.size F b)) { s with heap := s.heap.push o, toks := t' } := by
  subst ho
  exact I.laid (a := s.heap.objs.size) (fun b u e => Heap.get?_push_of_some _ e) (Nat.le_refl _) (lamO_ok ⟨_, _, Heap.get?_push_size _ rfl⟩)
/-- a new lambda, known from now on -/
theorem lam_new {T : List (Addr × Str)} {c P : Addr} {params : Arguments} {body : Expr} {scope : Scope} {pos : Pos} {E Q : Value → Shared → Prop} (I : Inv X pins σ H s) (TB : TabB X.base X.mg c P) (hcode : X.env.code = .ref c)
    (hm : (P, X.env.qual ++ "<lambda>") ∈ T) (hu : ∀ p ∈ T, p.1 = P → p.2 = X.env.qual ++ "<lambda>") (hT : Tabs T H) (hdef : defaultsOf params X.env = ([], [])) (hfree : ∀ y ∈ scope.names, y.2 = .free → ∃ c, X.env.cells.lookup y.1 = some c)
    (h : ∀ (f c' : Addr) (H1 : Hp) (s' : Shared), Inv X pins σ H1 s' → ExtN H H1 → (∀ b, H1 b = Option.none → H b = Option.none) → Tabs T H1 → H1 f = some (LamO f ⟨"<lambda>", X.env.qual ++ "<lambda>", params, [], scope, cloFrom X.env.cells scope.names [], c'⟩ body) → H1 c' = some (CodeO c' (X.env.qual ++ "<lambda>")) → Q (.ref f) s') :
    wpAny (model X.prog X.w) X.A (eval (.Lambda params body scope pos) X.env) Q E s := by
  obtain ⟨ps, hP, ht, ha⟩ := hT _ hm
  refine PySem.W.kla_eval hdef ?_
  have bP : s.heap.BuiltinsAt X.mg P := TB.bm.keeps I.bk
  have oP : s.heap.get? P = some { cls := .none, data := .fields ps } := I.hok P _ hP
  cases hc : codeAmong pos ps.toList with
  | some cv =>
    obtain ⟨c', e, hco⟩ := ha pos cv hc
    subst e
    refine PySem.W.kla_makeFunctionHit (mg := X.mg) (c := c) (P := P) (ps := ps) (closure_ok hfree) I.ok.glob (I.mod.glob.keeps I.bk) hcode (TB.code.keeps I.bk) oP ht hc bP fun ctv h' tk hx hsz => ?_
    have I1 : Inv X pins σ H { s with heap := h', toks := tk } := I.kept hx
    have nF := I1.hok.fresh (Nat.le_refl h'.objs.size)
    have I2 := inv_lam (F := ⟨"<lambda>", X.env.qual ++ "<lambda>", params, [], scope, cloFrom X.env.cells scope.names [], c'⟩) (b := body) (t' := tk) (pm := (X.mg "__name__").getD .none) (ctv := ctv) I1 rfl
    have keep : ∀ {b o}, H b = some o → upd H h'.objs.size (LamO h'.objs.size ⟨"<lambda>", X.env.qual ++ "<lambda>", params, [], scope, cloFrom X.env.cells scope.names [], c'⟩ body) b = some o := fun {b o} e => (upd_ne (ne_of_none e nF)).trans e
    exact h h'.objs.size c' _ _ I2 (ExtN.of fun b o e => keep e) (fun b e => upd_none e) (hT.ext fun b o e => keep e) upd_same (keep hco)
  | none =>
    refine PySem.W.kla_makeFunction (mg := X.mg) (c := c) (P := P) (ps := ps) (closure_ok hfree) I.ok.glob (I.mod.glob.keeps I.bk) hcode (TB.code.keeps I.bk) oP ht hc TB.gP bP fun c' ctv h' tk hx hge hlt hrec htb => ?_
    obtain ⟨c2, oc, vs, t, e2, hoc, hd, hv⟩ := hrec
    cases e2
    have nC : H c' = none := I.hok.fresh hge
    have I1 := inv_table (t' := tk) (more := #[rawInt pos.line, rawInt pos.col, .ref c']) (h' := h') I hP (fun b o hb e => hx b o hb e) htb hge ⟨oc, vs, t, hoc, hd, hv⟩
    obtain ⟨Hm, eHm⟩ : ∃ Hm, Hm = upd (upd H P (.tbl (ps ++ #[rawInt pos.line, rawInt pos.col, .ref c']))) c' (CodeO c' (X.env.qual ++ "<lambda>")) := ⟨_, rfl⟩
    rw [← eHm] at I1
    have mC : Hm c' = some (CodeO c' (X.env.qual ++ "<lambda>")) := by rw [eHm]; exact upd_same
    have mP : Hm P = some (.tbl (ps ++ #[rawInt pos.line, rawInt pos.col, .ref c'])) := by rw [eHm, upd_ne (ne_of_none hP nC), upd_same]
    have mE : ∀ b o, b ≠ P → H b = some o → Hm b = some o := fun b o n e => by rw [eHm, upd_ne (ne_of_none e nC), upd_ne n]; exact e
    have nP : ∀ {b o}, H b = some o → (∀ ps, o ≠ .tbl ps) → b ≠ P := fun {b o} e n z => n ps (Option.some.inj (e.symm.trans (by rw [z]; exact hP)))
    have nF := I1.hok.fresh (Nat.le_refl h'.objs.size)
    have I2 := inv_lam (F := ⟨"<lambda>", X.env.qual ++ "<lambda>", params, [], scope, cloFrom X.env.cells scope.names [], c'⟩) (b := body) (t' := tk) (pm := (X.mg "__name__").getD .none) (ctv := ctv) I1 rfl
    have keep : ∀ {b o}, Hm b = some o → upd Hm h'.objs.size (LamO h'.objs.size ⟨"<lambda>", X.env.qual ++ "<lambda>", params, [], scope, cloFrom X.env.cells scope.names [], c'⟩ body) b = some o := fun {b o} e => (upd_ne (ne_of_none e nF)).trans e
    have TM : Tabs T Hm := fun p hp => by
      by_cases hb : p.1 = P
      · have hq : p.2 = X.env.qual ++ "<lambda>" := hu p hp hb
        rw [hb, hq]
        refine ⟨_, mP, ?_, fun p' cv hcv => ?_⟩
        · rw [Array.toList_append]
          exact PySem.TriplesOk_snoc _ _ _ _ ht
        · rw [Array.toList_append] at hcv
          rcases among_app _ ht hcv with z | z
          · obtain ⟨c0, e1, e2⟩ := ha p' cv z
            exact ⟨c0, e1, mE _ _ (nP e2 codeO_ne) e2⟩
          · exact ⟨c', z, mC⟩
      · obtain ⟨ps', a1, a2, a3⟩ := hT p hp
        refine ⟨ps', mE _ _ hb a1, a2, fun p' cv hcv => ?_⟩
        obtain ⟨c0, e1, e2⟩ := a3 p' cv hcv
        exact ⟨c0, e1, mE _ _ (nP e2 codeO_ne) e2⟩
    exact h h'.objs.size c' _ _ I2 (fun b o e n => keep (mE b o (nP e n) e)) (fun b e => by
      have q := upd_none e
      rw [eHm] at q
      exact upd_none (upd_none q)) (TM.ext fun b o e => keep e) upd_same (keep mC)
end
/-! ### bodies that end so -/
/-- the statements, and what then holds of how they end -/
structure PSR (X : Cx) (G : Flow → Shared → Prop) (st : List Stmt) (t : L2.St → Hp → Prop) : Prop where
  run : ∀ (pins : List (Addr × Obj)) (s : Shared) (σ : L2.St) (H : Hp), Inv X pins σ H s → t σ H → wpAny (model X.prog X.w) X.A (execs st X.env) G X.xe s
section
variable {X : Cx} {G : Flow → Shared → Prop}
theorem psr_cons {st : Stmt} {rest : List Stmt} {t : TS} {u : L2.St → Hp → Prop} (h1 : PS X st t) (h2 : PSR X G rest u) : PSR X G (st :: rest) (fun σ H => t { nx := u, rt := fun _ _ => False } σ H) := by
  refine ⟨fun pins s σ H I h => ?_⟩
  refine wpAny_execs_cons (thn (h1.run pins s σ H _ I h) fun f s1 q => ?_)
  cases f with
  | next =>
    obtain ⟨σ', H', I', q⟩ := q
    exact h2.run pins s1 σ' H' I' q
  | ret v =>
    obtain ⟨_, _, _, _, _, q⟩ := q
    exact q.elim
  | brk =>
    obtain ⟨_, _, _, q⟩ := q
    exact False.elim q
  | cont =>
    obtain ⟨_, _, _, q⟩ := q
    exact False.elim q
theorem psr_lam {T : List (Addr × Str)} {c P : Addr} {params : Arguments} {body : Expr} {scope : Scope} {pos rpos : Pos} {Fin : L2.St → Hp → Prop} (TB : TabB X.base X.mg c P) (hcode : X.env.code = .ref c)
    (hm : (P, X.env.qual ++ "<lambda>") ∈ T) (hu : ∀ p ∈ T, p.1 = P → p.2 = X.env.qual ++ "<lambda>") (hdef : defaultsOf params X.env = ([], [])) (hfree : X.Ok → ∀ y ∈ scope.names, y.2 = .free → ∃ c, X.env.cells.lookup y.1 = some c)
    (hG : ∀ (pins : List (Addr × Obj)) (σ : L2.St) (H : Hp) (f c' : Addr) (H1 : Hp) (s' : Shared), Fin σ H → Inv X pins σ H1 s' → ExtN H H1 → (∀ b, H1 b = Option.none → H b = Option.none) → Tabs T H1 → H1 f = some (LamO f ⟨"<lambda>", X.env.qual ++ "<lambda>", params, [], scope, cloFrom X.env.cells scope.names [], c'⟩ body) → H1 c' = some (CodeO c' (X.env.qual ++ "<lambda>")) → G (.ret (.ref f)) s') :
    PSR X G [.Return (some (.Lambda params body scope pos)) rpos] (fun σ H => Tabs T H ∧ Fin σ H) := by
  refine ⟨fun pins s σ H I h => ?_⟩
  obtain ⟨hT, hF⟩ := h
  refine wpAny_execs_cons (wpAny_Return_some (lam_new I TB hcode hm hu hT hdef (hfree I.ok) fun f c' H1 s' I1 e1 n1 t1 l1 c1 => ?_))
  exact hG pins σ H f c' H1 s' hF I1 e1 n1 t1 l1 c1
end
end OF
/-! A def that ends by `return lambda ..`: its promise, with what the lambda captured. -/
namespace OF
open PySem PySem.Spec PyProof.Rows L2 LamX NdefX
def InjC (cl : List (Str × Addr)) : Prop := ∀ x y c, cl.lookup x = some c → cl.lookup y = some c → x = y
def valAt (cl : List (Str × Addr)) : List Str → List V → Addr → V
  | y :: fr, v :: ws, b => if cl.lookup y = some b then v else valAt cl fr ws b
  | _, _, _ => .non
theorem valAt_at {cl : List (Str × Addr)} (inj : InjC cl) : ∀ {fr : List Str} {ws : List V} {i : Nat} {y : Str} {v : V} {c : Addr}, fr.Nodup → fr[i]? = some y → ws[i]? = some v → cl.lookup y = some c → valAt cl fr ws c = v
  | [], _, _, _, _, _, _, h, _, _ => by simp at h
  | _ :: _, [], _, _, _, _, _, _, h, _ => by simp at h
  | z :: fr, u :: ws, 0, y, v, c, _, h1, h2, e => by
    simp only [List.getElem?_cons_zero, Option.some.injEq] at h1 h2
    subst h1
    subst h2
    exact if_pos e
  | z :: fr, u :: ws, i + 1, y, v, c, nd, h1, h2, e => by
    rw [List.getElem?_cons_succ] at h1 h2
    have n : cl.lookup z ≠ some c := fun z1 => by
      have q := inj _ _ _ z1 e
      subst q
      exact (List.nodup_cons.mp nd).1 (List.mem_of_getElem? h1)
    show (if cl.lookup z = some c then u else valAt cl fr ws c) = v
    rw [if_neg n]
    exact valAt_at inj (List.nodup_cons.mp nd).2 h1 h2 e
def addC (cl : List (Str × Addr)) (fr : List Str) (ws : List V) (H : Hp) : Hp := fun b => if b ∈ cellAs cl then some (CellO b (valAt cl fr ws b)) else H b
section
variable {P : Program} {w : World} {K : PySem.W.Frag} {mg : Str → Option Value} {base : Heap} {cl : List (Str × Addr)} {fr : List Str} {ws : List V}
/-- the cells of a frame that has ended are tracked -/
theorem end_lam {outer : List Env} {H0 H1 : Hp} {s0 s' : Shared} {Q : VK} {v : V} {u : Value} (os : s'.os = s0.os) (bare : AllBare s'.gens) (un : Un (frs outer) [] H0 H1 s0.heap s'.heap) (ok : HOk P w H1 s'.heap) (nd : fr.Nodup)
    (C : CellsAt cl fr (ws.map some) s'.heap H1) (hcl : ∀ p ∈ cl, ∃ i : Nat, fr[i]? = some p.1 ∧ cl.lookup p.1 = some p.2) (new : ∀ p ∈ cl, s0.heap.objs.size ≤ p.2) (rv : RelV v u) (q : Q v (addC cl fr ws H1)) : CE outer P w H0 s0 Q u s' := by
  have gone : ∀ {b}, b ∈ cellAs cl → H1 b = none := fun {b} hb => by
    obtain ⟨p, hp, rfl⟩ := List.mem_map.mp hb
    obtain ⟨i, _, e⟩ := hcl p hp
    exact (C.all _ _ e).1
  have out : ∀ {b o}, H1 b = some o → b ∉ cellAs cl := fun {b o} e z => by
    rw [gone z] at e
    cases e
  have at_ : ∀ {b o}, H1 b = some o → addC cl fr ws H1 b = some o := fun {b o} e => (if_neg (out e)).trans e
  refine ⟨v, addC cl fr ws H1, os, bare, ⟨un.keep, un.slot, fun b o e n ne => ?_, un.there, fun b xs e => at_ (un.tups b xs e), fun b o y e => at_ (un.frzs b o y e), fun b ps e => ?_⟩, fun b o e => ?_, rv, q⟩
  · have nb : b ∉ cellAs cl := fun z => by
      obtain ⟨p, hp, rfl⟩ := List.mem_map.mp z
      exact absurd (Heap.lt_size e) (Nat.not_lt_of_le (new p hp))
    exact (if_neg nb).trans (un.free b o e n ne)
  · obtain ⟨more, e1⟩ := un.tbls b ps e
    exact ⟨more, at_ e1⟩
  · unfold addC at e
    split at e
    · rename_i hb
      cases e
      obtain ⟨p, hp, rfl⟩ := List.mem_map.mp hb
      obtain ⟨i, hi, el⟩ := hcl p hp
      obtain ⟨c, ec, hv⟩ := C.has i _ hi
      rw [el] at ec
      cases ec
      have lw : i < ws.length := by
        have := C.len
        rw [List.length_map] at this
        rw [this]
        exact (List.getElem?_eq_some_iff.mp hi).1
      have hw := List.getElem?_eq_getElem lw
      rw [valAt_at C.inj nd hi hw el]
      exact cellO_ok (hv _ (by rw [List.getElem?_map, hw]; rfl))
    · exact (ok b o e).stay (fun _ _ _ q => q) (fun d q => at_ q) fun d xs q => at_ q
theorem caps_add {H1 : Hp} {h : Heap} (nd : fr.Nodup) (C : CellsAt cl fr (ws.map some) h H1) (hcl : ∀ p ∈ cl, ∃ i : Nat, fr[i]? = some p.1 ∧ cl.lookup p.1 = some p.2) : CapsO cl fr ws (addC cl fr ws H1) := by
  have mem : ∀ p ∈ cl, addC cl fr ws H1 p.2 = some (CellO p.2 (valAt cl fr ws p.2)) := fun p hp => if_pos (List.mem_map.mpr ⟨p, hp, rfl⟩)
  have lw : ws.length = fr.length := by
    have := C.len
    rw [List.length_map] at this
    exact this
  refine ⟨lw, fun p hp => ⟨_, mem p hp⟩, fun i y h => ?_⟩
  obtain ⟨c, e, _⟩ := C.has i y h
  have li : i < ws.length := by
    rw [lw]
    exact (List.getElem?_eq_some_iff.mp h).1
  have hw := List.getElem?_eq_getElem li
  refine ⟨c, ws[i], e, hw, ?_⟩
  have m := mem (y, c) (PySem.mem_of_lookup e)
  rw [show valAt cl fr ws c = ws[i] from valAt_at C.inj nd h hw e] at m
  exact m
/-- how such a body ends: what is asked of the slots and the heap where the lambda is made -/
def FinC (T : List (Addr × Str)) (js : List Nat) (fr : List Str) (qual : Str) (params : Arguments) (scope : Scope) (body : Expr) (Q : VK) : L2.St → Hp → Prop := fun σ H => ∃ ws : List V, js.map (slotAt σ) = ws.map some ∧
  ∀ (g c' : Addr) (cl : List (Str × Addr)) (H2 : Hp), ExtN H H2 → (∀ b ∈ cellAs cl, H b = none) → Tabs T H2 → H2 g = some (LamO g ⟨"<lambda>", qual ++ "<lambda>", params, [], scope, cl, c'⟩ body) → H2 c' = some (CodeO c' (qual ++ "<lambda>")) → InjC cl → CapsO cl fr ws H2 → Q (.ref g) H2
theorem psr_end {N lps : List Str} {LN : List Str} {q : Str} {sc : Scope} {f c PT : Addr} {A : Around} {outer : List Env} {s : Shared} {H0 : Hp} {E : XK} {T : List (Addr × Str)} {params : Arguments} {body : Expr} {scope : Scope} {pos rpos : Pos} {js : List Nat} {Q : VK}
    (TB : TabB base mg c PT) (hu : ∀ p ∈ T, p.1 = PT → p.2 = (envOfC q sc s.heap.objs.size f (.ref c)).qual ++ "<lambda>") (hm2 : (PT, (envOfC q sc s.heap.objs.size f (.ref c)).qual ++ "<lambda>") ∈ T)
    (hdef : defaultsOf params (envOfC q sc s.heap.objs.size f (.ref c)) = ([], [])) (S : NScope LN lps fr scope) (hb : ndefB sc scope fr = true) (hjs : js.map (fun j => N[j]?) = fr.map some) :
    PSR (cxOf CX0 P w K mg base N q sc f (.ref c) A outer s H0 E) (fun fl s' => ∃ u, fl = .ret u ∧ CE outer P w H0 s Q u s') [.Return (some (.Lambda params body scope pos)) rpos]
      (fun σ H => Tabs T H ∧ FinC T js fr (envOfC q sc s.heap.objs.size f (.ref c)).qual params scope body Q σ H) := by
  have free : ∀ {X : Cx}, X.env.scope = sc → X.Ok → ∀ y ∈ scope.names, y.2 = .free → ∃ c, X.env.cells.lookup y.1 = some c := fun {X} hs ok y hy e => by
    rcases ndef_free hb y hy e with k | k
    · exact ok.has _ (.inl (by unfold Env.kindOf; rw [hs]; exact k))
    · exact ok.has _ (.inr (by unfold Env.kindOf; rw [hs]; exact k))
  refine psr_lam (c := c) (P := PT) TB rfl hm2 hu hdef (fun ok => free rfl ok) fun pins σ H g c' H1 s' hF I1 e1 n1 t1 l1 c1 => ?_
  obtain ⟨ws, hw, fin⟩ := hF
  have ndf : fr.Nodup := by
    have q := S.nd.sublist (List.take_sublist (lps.length + fr.length) LN)
    rw [S.pre] at q
    exact (List.nodup_append.mp q).2.1
  have cp := Caps.made I1.ok (ndef_free hb) (ndef_fr hb) hjs
  have C := cells_of I1 cp
  rw [hw] at C
  have hcl : ∀ p ∈ cloFrom (envOfC q sc s.heap.objs.size f (.ref c)).cells scope.names [], ∃ i : Nat, fr[i]? = some p.1 ∧ (cloFrom (envOfC q sc s.heap.objs.size f (.ref c)).cells scope.names []).lookup p.1 = some p.2 := fun p hp => by
    have one : ∀ {y : Str} {d : Addr}, (y, d) ∈ cloFrom (envOfC q sc s.heap.objs.size f (.ref c)).cells scope.names [] → (y, NameKind.free) ∈ scope.names ∧ d = ((envOfC q sc s.heap.objs.size f (.ref c)).cells.lookup y).getD 0 := fun {y d} h => by
      rcases cloFrom_mem h with h | h
      · cases h
      · exact h
    obtain ⟨m, e⟩ := one (show (p.1, p.2) ∈ _ from hp)
    obtain ⟨i, hi⟩ := List.mem_iff_getElem?.mp (S.free _ m rfl)
    obtain ⟨d, ed, _⟩ := C.has i _ hi
    obtain ⟨_, e2⟩ := one (PySem.mem_of_lookup ed)
    exact ⟨i, hi, by rw [e, ← e2]; exact ed⟩
  have new : ∀ p ∈ cloFrom (envOfC q sc s.heap.objs.size f (.ref c)).cells scope.names [], s.heap.objs.size ≤ p.2 := fun p hp => by
    obtain ⟨i, hi, el⟩ := hcl p hp
    have e3 : (envOfC q sc s.heap.objs.size f (.ref c)).cells.lookup p.1 = some p.2 := clo_cm (free rfl I1.ok) el
    exact I1.ok.cab _ _ rfl e3
  have keep : ∀ {b o}, H1 b = some o → addC (cloFrom (envOfC q sc s.heap.objs.size f (.ref c)).cells scope.names []) fr ws H1 b = some o := fun {b o} e => by
    refine (if_neg fun z => ?_).trans e
    obtain ⟨p, hp, rfl⟩ := List.mem_map.mp z
    obtain ⟨i, _, el⟩ := hcl p hp
    rw [(C.all _ _ el).1] at e
    cases e
  refine ⟨_, rfl, end_lam (v := .ref g) I1.os I1.bare I1.base I1.hok ndf C hcl new rfl ?_⟩
  exact fin g c' _ _ (e1.trans (ExtN.of fun b o e => keep e)) (fun b hb => by
    obtain ⟨p, hp, rfl⟩ := List.mem_map.mp hb
    obtain ⟨i, _, el⟩ := hcl p hp
    exact n1 _ (C.all _ _ el).1) (t1.ext fun b o e => keep e) (keep l1) (keep c1) C.inj (caps_add ndf C hcl)
/-- THE RULE: a def that ends so -/
theorem okLam {x q : Str} {st : Stmt} {f c : Addr} {fd : FuncData} {N ps : List Str} {k : Nat} {sp : Sp} (F : Fun K x q st f fd) (hc : fd.code = .ref c) (S : FnScope N ps (defScope st)) (len : ∀ vs H Q E, sp vs H Q E → vs.length = ps.length)
    (hbody : ∀ (A : Around) (outer : List Env) (s : Shared) (H : Hp) (vs : List V) (Q : VK) (E : XK), Room k (A.deeper (envOfC q (defScope st) s.heap.objs.size f (.ref c))) → sp vs H Q E →
      ∃ t, PSR (cxOf CX0 P w K mg base N q (defScope st) f (.ref c) A outer s H E) (fun fl s' => ∃ u, fl = .ret u ∧ CE outer P w H s Q u s') (defBody st) t ∧ t (start N vs) H) : FnOk P w K mg base CX0 (k + 1) f fd ps sp := by
  obtain ⟨oc, od, kV, doc, pm, an, cdv, ct, osl, rfl, lk, hcd⟩ := F.ex
  have e : cdv = .ref c := hc
  subst e
  refine ⟨len, fun A outer s H args us vs Q E hr e0 hb r hsp => ?_⟩
  have hl := len _ _ _ _ hsp
  have KX : K.In s.heap := e0.mod.kin.keeps fun b o e => (e0.bs b o e).1
  have lim : s.heap.NoLimit := e0.mod.nolimit.keeps fun b o e => (e0.bs b o e).1
  have hkind : ∀ y ∈ ps.zip us, (defScope st).names.lookup y.1 = some .local ∨ ((defScope st).names.lookup y.1 = some .cell ∧ ((cellsFrom (s.heap.objs.size + 1) (defScope st).names []).lookup y.1).isSome = true) := fun ⟨n, v⟩ hy => by
    rcases S.par n (List.of_mem_zip hy).1 with q | q
    · exact .inl q
    · exact .inr ⟨q, PySem.W.cellsFrom_some _ _ _ (.inl q)⟩
  refine codeAny_call_function hr.depth (KX _ _ lk) rfl S.co S.gen rfl (PySem.W.codeRec_of KX hcd) (hb _ _ _ _ ?_)
  refine wpAny_newFunctionEnv_cells S.kind hkind fun env he s1 x => ?_
  subst he
  refine ⟨lim.keeps x.toInCall.keep, codeAny_func ?_⟩
  obtain ⟨t, ht, hq⟩ := hbody A outer s H vs Q E (hr.deeper _) hsp
  have I : Inv (cxOf CX0 P w K mg base N q (defScope st) f (.ref c) A outer s H E) [] (start N vs) H s1 := inv_start S hr.hd e0 hl r x
  refine wpAny_mono (ht.run [] s1 (start N vs) H I hq) (fun fl s' hs => ?_) fun e s' hs => hs
  obtain ⟨u, rfl, ce⟩ := hs
  exact ce
end
end OF
namespace K12
open PySem PySem.Spec PyProof.Rows L2 OF LamX NdefX
abbrev sBehind : Stmt := topS 26
abbrev sFollow : Stmt := topS 27
section
variable {P : Program} {w : World} {K : PySem.W.Frag} {mg : Str → Option Value} {base : Heap}
/-! ### the places behind one -/
def plc (b : Int) (es : List Int) (n : Int) : List (Int × Int) := (es.filter fun d => decide ((n - d).fmod b = 0)).map fun d => ((n - d).fdiv b, d)
/-- a new list of places -/
def PlacesAt (H : Hp) (L : Addr) (ps : List (Int × Int)) : Prop := ∃ ks : List (Addr × (Int × Int)), ks.map (·.2) = ps ∧ H L = some (.lst (ks.map fun p => V.ref p.1)) ∧ ∀ p ∈ ks, H p.1 = some (.tup [.int p.2.1, .int p.2.2])
theorem PlacesAt.same {H H' : Hp} {L : Addr} {ps : List (Int × Int)} (h : PlacesAt H L ps) (s : Same H H') : PlacesAt H' L ps := by
  obtain ⟨ks, e, h1, h2⟩ := h
  exact ⟨ks, e, s _ _ h1, fun p hp => s _ _ (h2 p hp)⟩
def spBehind (K : PySem.W.Frag) : Sp := fun vs H Q _ => ∃ (b n : Int) (D : Addr) (es : List Int), vs = [.int b, .ref D, .int n] ∧ b ≠ 0 ∧ b.natAbs ≤ 6 ∧ H D = some (.lst (es.map V.int)) ∧ es.length ≤ 60 ∧ ∀ (L : Addr) (H' : Hp), Same H H' → PlacesAt H' L (plc b es n) → H L = none → Q (.ref L) H'
abbrev nBh : List Str := ["base", "digits", "rest", "digit"]
theorem scBh : FnScope nBh ["base", "digits", "rest"] (defScope sBehind) := ⟨rfl, rfl, rfl, by decide +kernel, rfl, by decide +kernel, by decide +kernel⟩
theorem ok_behind {f : Addr} {fd : FuncData} (F : Fun K "places_behind" "places_behind" sBehind f fd) : FnOk P w K mg base CX0 1 f fd ["base", "digits", "rest"] (spBehind K) := by
  refine F.ok scBh (fun vs H Q E h => ?_) (fun cdv A outer s H vs Q E hr h => ?_)
  · obtain ⟨b, n, D, es, rfl, _⟩ := h
    rfl
  · obtain ⟨b, n, D, es, rfl, b0, b6, hD, hl, q⟩ := h
    apply Exists.intro
    apply And.intro
    · apply pss_one
      · exact ps_ret (pe_lc (own := [("digit", 3)]) (g := gName 3) rfl scBh.nd (pi_list (pv 1)) (blkOk_by (own := [("digit", 3)]) (N := nBh) (sc := defScope sBehind) (by decide +kernel)) (fun _ _ _ _ _ => pg_name (i := 3) scBh.nd rfl (Or.inl rfl))
          (fun _ _ _ _ _ => by exact (pts_one (pt_cmpR op_eq (pe_op op_modN (pe_op op_sub (pv 2) (pv 3)) (pv 0)) pe_int (nomark _)))) (fun _ _ _ _ _ => by exact (pe_tup (pa_cons (pe_op op_fdivN (pe_op op_sub (pv 2) (pv 3)) (pv 0)) (pa_cons (pv 3) pa_nil)))))
    refine ⟨.ref D, rfl, D, rfl, ⟨_, SqL.of hD⟩, fun L hL => ?_⟩
    refine lc_list (K := K) (a := D) (xs := es.map V.int) (fun i H' => Same H H' ∧ ∃ ks : List (Addr × (Int × Int)), ks.map (·.2) = plc b (es.take i) n ∧ ks.length ≤ i ∧ H' L = some (.lst (ks.map fun p => V.ref p.1)) ∧ ∀ p ∈ ks, H' p.1 = some (.tup [.int p.2.1, .int p.2.2])) ⟨same_new hL, [], rfl, Nat.le_refl _, upd_same, fun p h => by cases h⟩ (fun i H' _ h => SqL.of (h.1 _ _ hD)) ?_ ?_
    · rintro i x H1 hx ⟨s1, ks, ek, lk, e1, tk⟩
      obtain ⟨d, hd, rfl⟩ := get_map hx
      have hi : i < es.length := (List.getElem?_eq_some_iff.mp hd).1
      refine ⟨rfl, .int n, rfl, .int d, rfl, n, d, rfl, rfl, .int b, rfl, n - d, b, rfl, rfl, b0, rfl, _, rfl, ite2 (fun c => ?_) (fun c => ?_)⟩
      · have c2 : (n - d).fmod b = 0 := V.int.inj (of_decide_eq_true c)
        refine ⟨.int n, rfl, .int d, rfl, n, d, rfl, rfl, .int b, rfl, n - d, b, rfl, rfl, ⟨b0, by omega⟩, .int d, rfl, (by show 2 ≤ sizeLine; decide), fun T hT => ?_⟩
        have s2 := same_new (o := .tup [.int ((n - d).fdiv b), .int d]) hT
        have e2 := s2 _ _ e1
        refine ⟨_, e2, ?_, Same.store (s1.trans s2) hL, ks ++ [(T, ((n - d).fdiv b, d))], ?_, ?_, ?_, fun p hp => ?_⟩
        · rw [List.length_map]
          exact small1000 (by omega)
        · rw [List.map_append, ek, take_more hd]
          unfold plc
          rw [List.filter_append, List.map_append]
          simp [c2]
        · rw [List.length_append]
          show ks.length + 1 ≤ i + 1
          omega
        · rw [upd_same, List.map_append]
          rfl
        · have nL : p.1 ≠ L := fun z => by
            rcases List.mem_append.mp hp with h | h
            · have := s2 _ _ (tk p h)
              rw [z, e2] at this
              cases this
            · cases List.mem_singleton.mp h
              have z2 : T = L := z
              rw [z2, e1] at hT
              cases hT
          rw [upd_ne nL]
          rcases List.mem_append.mp hp with h | h
          · exact s2 _ _ (tk p h)
          · cases List.mem_singleton.mp h
            exact upd_same
      · have c2 : ¬ (n - d).fmod b = 0 := fun z => c (decide_eq_true (congrArg V.int z))
        refine ⟨s1, ks, ?_, by omega, e1, tk⟩
        rw [ek, take_more hd]
        unfold plc
        rw [List.filter_append]
        simp [c2]
    · rintro H1 ⟨s1, ks, ek, lk, e1, tk⟩
      rw [List.length_map, List.take_length] at ek
      exact q L H1 s1 ⟨ks, ek, e1, tk⟩ hL


/-! ### follower: the lambda that it returns -/
def fParams : Arguments := match (defBody sFollow).getD 2 (.Pass ⟨0, 0, 0, 0⟩) with
  | .Return (some (.Lambda p _ _ _)) _ => p
  | _ => defArgs sFollow
def fBody : Expr := match (defBody sFollow).getD 2 (.Pass ⟨0, 0, 0, 0⟩) with
  | .Return (some (.Lambda _ b _ _)) _ => b
  | _ => .Name "x" ⟨0, 0, 0, 0⟩
def fScope : Scope := match (defBody sFollow).getD 2 (.Pass ⟨0, 0, 0, 0⟩) with
  | .Return (some (.Lambda _ _ s _)) _ => s
  | _ => defScope sFollow
abbrev fNF (q : Str) (cl : List (Str × Addr)) (c' : Addr) : NF := ⟨"<lambda>", q, fParams, [], fScope, cl, c'⟩
abbrev nLa : List Str := ["place", "base", "lefts"]
theorem nsLa : NScope nLa ["place"] ["base", "lefts"] fScope := nscope_by (by decide +kernel)
/-- the digits that the lambda finds left of a key -/
def leftOf (ds : List Int) (ks : List (Addr × (Int × Int))) (k : KeyN) : List Int := ds.filter fun d => jdg ds ks (.int d) (nV k)
def spStep (P : Program) (w : World) (b : Int) (D : Addr) (ds : List Int) (ks : List (Addr × (Int × Int))) (cl : List (Str × Addr)) : List V → Sp := fun ws vs H Q _ => ∃ (p : Addr) (n : Int) (k : KeyN), ws = [.int b, .ref D] ∧ vs = [.ref p] ∧ H p = some (.tup [.int n, nV k]) ∧ k ∈ (none :: ds.map some) ∧
  D ∉ cellAs cl ∧ (∀ c ∈ cellAs cl, ∃ φ, H c = some (.ext φ)) ∧ LeftsAt P w H D ds ks (ds.length + 1) ∧ ds.length ≤ 60 ∧ b ≠ 0 ∧ b.natAbs ≤ 6 ∧ ∀ (L : Addr) (H' : Hp), Same H H' → PlacesAt H' L (plc b (leftOf ds ks k) n) → H L = none → Q (.ref L) H'
theorem step_cal {f fB c' : Addr} {fdB : FuncData} {q : Str} {cl : List (Str × Addr)} {b : Int} {D : Addr} {ds : List Int} {ks : List (Addr × (Int × Int))} (inj : InjC cl)
    (GB : FnOk P w K mg base CX0 1 fB fdB ["base", "digits", "rest"] (spBehind K)) (gB : mg "places_behind" = some (.ref fB)) (kB : PySem.W.keepIn K (.ref fB) = true) (bB : Binds K fdB ["base", "digits", "rest"] []) :
    CalO P w K mg base 2 f (LamO f (fNF q cl c') fBody) (spClo (fNF q cl c') ["base", "lefts"] (spStep P w b D ds ks cl)) := by
  refine lam_cal (N := nLa) (ps := ["place"]) (F := fNF q cl c') nsLa inj (fun pm ctv us hl => match us, hl with | [_], _ => rfl) (fun ws vs H Q E h => ?_) (fun A outer s H vs ws Q hr hl h => ?_)
  · obtain ⟨p, n, k, _, rfl, _⟩ := h
    rfl
  · obtain ⟨p, n, k, rfl, rfl, hp, hk, nD, hx, LA, few, b0, b6, q⟩ := h
    refine ⟨_, pe_call GB hr (by rfl) gB kB bB .nil pass0 (pa_cons (pv 1) (pa_cons (pe_ix ix_dictN (pv 2) (pe_ix ix_tup (pv 0) pe_int (fun _ _ => rfl)) (fun _ _ => rfl)) (pa_cons (pe_ix ix_tup (pv 0) pe_int (fun _ _ => rfl)) pa_nil))), ?_⟩
    obtain ⟨kvs, eD, lk, all⟩ := LA
    obtain ⟨i, hi⟩ := List.mem_iff_getElem?.mp hk
    have li : i < ds.length + 1 := by
      have := (List.getElem?_eq_some_iff.mp hi).1
      rw [List.length_cons, List.length_map] at this
      exact this
    obtain ⟨L0, hv, eL⟩ := all i k li hi
    have op := off_at hx hp (fun φ z => by cases z)
    have oL := off_at hx eL (fun φ z => by cases z)
    have oD := off_ne nD eD
    refine ⟨.int b, rfl, .ref D, rfl, .ref p, rfl, p, _, 1, nV k, rfl, rfl, SqT.of op, atI_nat (j := 1) rfl, D, kvs, k, .ref L0, rfl, rfl, Rd.of oD, hv, .ref p, rfl, p, _, 0, .int n, rfl, rfl, SqT.of op, atI_nat (j := 0) rfl, ?_⟩
    refine ⟨b, n, L0, leftOf ds ks k, rfl, b0, b6, oL, Nat.le_trans (List.length_filter_le _ _) few, fun L H' s1 pl nw g => q L _ (on_same s1) ?_ ?_⟩
    · obtain ⟨ps, e1, e2, e3⟩ := pl
      exact ⟨ps, e1, on_at g e2, fun z hz => on_at g (e3 z hz)⟩
    · obtain ⟨ps, e1, e2, e3⟩ := pl
      have out : L ∉ cellAs cl := fun z => by
        rw [g L z] at e2
        cases e2
      exact (if_neg out).symm.trans nw
/-! ### follower -/
abbrev qLam : Str := Str.ofString "follower.<locals>." ++ "<lambda>"
/-- what follower answers -/
def FollowAt (P : Program) (w : World) (H : Hp) (f : Addr) (b : Int) (D : Addr) (ds : List Int) (ks : List (Addr × (Int × Int))) : Prop := ∃ (cl : List (Str × Addr)) (c' : Addr), H f = some (LamO f (fNF qLam cl c') fBody) ∧ InjC cl ∧ CapsO cl ["base", "lefts"] [.int b, .ref D] H ∧ H c' = some (CodeO c' qLam) ∧ D ∉ cellAs cl ∧ LeftsAt P w H D ds ks (ds.length + 1)
def spFollow (P : Program) (w : World) (C : Addr) (T : List (Addr × Str)) : Sp := fun vs H Q _ => ∃ (a t r : Addr) (b : Int) (ds : List Int) (ks : List (Addr × (Int × Int))), vs = [.ref a] ∧ SchemeAt C H a t r b ds ks ∧ ds.length ≤ 60 ∧ Tabs T H ∧
  ∀ (f D : Addr) (H' : Hp), ExtN H H' → Tabs T H' → FollowAt P w H' f b D ds ks → Q (.ref f) H'
abbrev nFo : List Str := ["scheme", "base", "lefts"]
theorem scFo : FnScope nFo ["scheme"] (defScope sFollow) := ⟨rfl, rfl, rfl, by decide +kernel, rfl, by decide +kernel, by decide +kernel⟩
theorem dn_ne {D : Addr} {kvs : List (KeyN × V)} (ps : Array Value) : dN P w D kvs ≠ .tbl ps := fun z => by
  unfold dN at z
  cases z
theorem LeftsAt.extN {H H' : Hp} {D : Addr} {ds : List Int} {ks : List (Addr × (Int × Int))} {n : Nat} (h : LeftsAt P w H D ds ks n) (e : ExtN H H') : LeftsAt P w H' D ds ks n := by
  obtain ⟨kvs, eD, lk, all⟩ := h
  refine ⟨kvs, e _ _ eD dn_ne, lk, fun i k hi hk => ?_⟩
  obtain ⟨L, hv, eL⟩ := all i k hi hk
  exact ⟨L, hv, e _ _ eL (fun ps z => by cases z)⟩
theorem ok_follow {f c PT fB fL C p : Addr} {fd fdB fdL : FuncData} {T : List (Addr × Str)} (F : Fun K "follower" "follower" sFollow f fd) (hc : fd.code = .ref c) (TB : TabB base mg c PT) (hm : (PT, qLam) ∈ T) (hu : ∀ p ∈ T, p.1 = PT → p.2 = qLam)
    (cC : Cls K C) (pB : PropOf K C "base" p fB) (GB : FnOk P w K mg base CX0 1 fB fdB ["self"] (spPB C)) (bB : Binds K fdB ["self"] [])
    (GL : FnOk P w K mg base CX0 7 fL fdL ["scheme"] (spAllLeft P w C)) (gL : mg "all_left_digits" = some (.ref fL)) (kL : PySem.W.keepIn K (.ref fL) = true) (bL : Binds K fdL ["scheme"] []) :
    FnOk P w K mg base CX0 8 f fd ["scheme"] (spFollow P w C T) := by
  refine okLam F hc scFo (fun vs H Q E h => ?_) (fun A outer s H vs Q E hr h => ?_)
  · obtain ⟨a, t, r, b, ds, ks, rfl, _⟩ := h
    rfl
  · obtain ⟨a, t, r, b, ds, ks, rfl, S, few, hT, q⟩ := h
    have hr2 : Room 2 _ := hr.mono (by decide)
    apply Exists.intro
    apply And.intro
    · apply psr_cons
      · exact ps_set (i := 1) scFo.nd rfl (.inr rfl) (pe_prop (pv 0) cC pB GB hr2 bB .nil pass0 (by rfl))
      apply psr_cons
      · exact ps_set (i := 2) scFo.nd rfl (.inr rfl) (pe_call GL hr (by rfl) gL kL bL .nil pass0 (pa_cons (pv 0) pa_nil))
      exact psr_end (T := T) (js := [1, 2]) (fr := ["base", "lefts"]) (Q := Q) (LN := nLa) (lps := ["place"]) (params := fParams) (body := fBody) (scope := fScope) TB hu hm rfl nsLa (by decide +kernel) rfl
    obtain ⟨⟨dx, hins⟩, _⟩ := id S
    refine ⟨.ref a, rfl, a, dx, _, rfl, hins, a, t, r, b, ds, ks, rfl, S, ?_⟩
    refine ⟨.ref a, rfl, a, t, r, b, ds, ks, rfl, S, few, fun D H1 s1 LA => ?_⟩
    refine ⟨hT.ext s1, [.int b, .ref D], rfl, fun g c' cl H2 e2 nw T2 eg ec inj caps => q g D H2 ((ExtN.of s1).trans e2) T2 ⟨cl, c', eg, inj, caps, ec, fun z => ?_, LA.extN e2⟩⟩
    obtain ⟨kvs, eD, _⟩ := LA
    rw [nw D z] at eD
    cases eD
end
end K12
/-! What can be reached: a stack, the keys met, each with its successors on the stack. -/
namespace OF
section
variable {α : Type} {succ : α → List α} {starts keys : List α}
inductive Reach (succ : α → List α) (starts : List α) : α → Prop
  | start {x : α} (h : x ∈ starts) : Reach succ starts x
  | step {x y : α} (r : Reach succ starts x) (h : y ∈ succ x) : Reach succ starts y
structure DInv (succ : α → List α) (starts keys stack : List α) : Prop where
  st : ∀ s ∈ starts, s ∈ keys ∨ s ∈ stack
  su : ∀ k ∈ keys, ∀ s ∈ succ k, s ∈ keys ∨ s ∈ stack
  re : ∀ x, x ∈ keys ∨ x ∈ stack → Reach succ starts x
  nd : keys.Nodup
theorem DInv.begin : DInv succ starts [] starts :=
  ⟨fun s h => .inr h, (fun k h => by cases h), fun x h => h.elim (fun z => by cases z) .start, .nil⟩
/-- popped, met before -/
theorem DInv.skip {l : List α} {y : α} (d : DInv succ starts keys (l ++ [y])) (h : y ∈ keys) : DInv succ starts keys l := by
  have to : ∀ s, s ∈ keys ∨ s ∈ l ++ [y] → s ∈ keys ∨ s ∈ l := fun s h' => by
    rcases h' with h' | h'
    · exact .inl h'
    · rcases List.mem_append.mp h' with z | z
      · exact .inr z
      · cases List.mem_singleton.mp z
        exact .inl h
  exact ⟨fun s hs => to s (d.st s hs), fun k hk s hs => to s (d.su k hk s hs), fun x hx => d.re x (hx.imp id fun z => List.mem_append_left _ z), d.nd⟩
/-- popped, new: its successors stand on the stack -/
theorem DInv.more {l : List α} {y : α} (d : DInv succ starts keys (l ++ [y])) (h : y ∉ keys) : DInv succ starts (keys ++ [y]) (l ++ succ y) := by
  have ry := d.re y (.inr (List.mem_append_right _ List.mem_cons_self))
  have to : ∀ s, s ∈ keys ∨ s ∈ l ++ [y] → s ∈ keys ++ [y] ∨ s ∈ l ++ succ y := fun s h' => by
    rcases h' with h' | h'
    · exact .inl (List.mem_append_left _ h')
    · rcases List.mem_append.mp h' with z | z
      · exact .inr (List.mem_append_left _ z)
      · exact .inl (List.mem_append_right _ z)
  refine ⟨fun s hs => to s (d.st s hs), fun k hk s hs => ?_, fun x hx => ?_, ?_⟩
  · rcases List.mem_append.mp hk with z | z
    · exact to s (d.su k z s hs)
    · cases List.mem_singleton.mp z
      exact .inr (List.mem_append_right _ hs)
  · rcases hx with hx | hx
    · rcases List.mem_append.mp hx with z | z
      · exact d.re x (.inl z)
      · cases List.mem_singleton.mp z
        exact ry
    · rcases List.mem_append.mp hx with z | z
      · exact d.re x (.inr (List.mem_append_left _ z))
      · exact .step ry z
  · rw [List.nodup_append]
    refine ⟨d.nd, List.nodup_cons.mpr ⟨(fun z => by cases z), .nil⟩, fun a ha b hb e => ?_⟩
    cases List.mem_singleton.mp hb
    exact h (e ▸ ha)
theorem DInv.end_ (d : DInv succ starts keys []) (x : α) : x ∈ keys ↔ Reach succ starts x := by
  refine ⟨fun h => d.re x (.inl h), fun r => ?_⟩
  induction r with
  | start h => exact (d.st _ h).elim id fun z => by cases z
  | step r h ih => exact (d.su _ ih _ h).elim id fun z => by cases z
/-- what holds of the starts and is kept by steps holds of all that is reached -/
theorem Reach.all {p : α → Prop} (h0 : ∀ x ∈ starts, p x) (hs : ∀ x, p x → ∀ y ∈ succ x, p y) {x : α} (r : Reach succ starts x) : p x := by
  induction r with
  | start h => exact h0 _ h
  | step r h ih => exact hs _ ih _ h
theorem nodup_le [DecidableEq α] : ∀ (l m : List α), l.Nodup → (∀ x ∈ l, x ∈ m) → l.length ≤ m.length
  | [], _, _, _ => Nat.zero_le _
  | x :: l, m, nd, h => by
    obtain ⟨n1, n2⟩ := List.nodup_cons.mp nd
    have hx := h x List.mem_cons_self
    have e := List.length_erase_of_mem hx
    have p := List.length_pos_of_mem hx
    have ih := nodup_le l (m.erase x) n2 fun y hy => (List.mem_erase_of_ne fun z => n1 (by rw [← z]; exact hy)).mpr (h y (List.mem_cons_of_mem _ hy))
    rw [List.length_cons]
    omega
end
/-! ### places: a rest and a key -/
abbrev Plc := Int × Option Int
/-- the places with a rest of at most B -/
def placesTo (B : Nat) (ds : List Int) : List Plc := ((List.range (2 * B + 1)).map fun k : Nat => (k : Int) - (B : Int)).flatMap fun n => (none :: ds.map some).map fun k => (n, k)
theorem mem_placesTo {B : Nat} {ds : List Int} {p : Plc} (h1 : p.1.natAbs ≤ B) (h2 : p.2 ∈ none :: ds.map some) : p ∈ placesTo B ds := by
  unfold placesTo
  refine List.mem_flatMap.mpr ⟨p.1, List.mem_map.mpr ⟨(p.1 + B).toNat, List.mem_range.mpr (by omega), by omega⟩, List.mem_map.mpr ⟨p.2, h2, rfl⟩⟩
theorem len_placesTo (B : Nat) (ds : List Int) : (placesTo B ds).length = (2 * B + 1) * (ds.length + 1) := by
  unfold placesTo
  rw [List.length_flatMap]
  have e : (((List.range (2 * B + 1)).map fun k : Nat => (k : Int) - (B : Int)).map fun n => ((none :: ds.map some).map fun k => ((n, k) : Plc)).length) = (List.replicate (2 * B + 1) (ds.length + 1)) := by
    rw [List.map_map]
    refine List.eq_replicate_iff.mpr ⟨by simp, fun x hx => ?_⟩
    obtain ⟨k, _, rfl⟩ := List.mem_map.mp hx
    simp
  rw [e, List.sum_replicate_nat]
/-- a step does not lead far: |(n - d) / b| is at most the greater of |n| and m, where |d| <= m (|b| - 1) -/
theorem step_near {n d b : Int} {m B : Nat} (hb : 2 ≤ b.natAbs) (hd : d.natAbs ≤ m) (hn : n.natAbs ≤ B) (hB : m ≤ B) (e : (n - d).fmod b = 0) : ((n - d).fdiv b).natAbs ≤ B := by
  have q := Int.mul_fdiv_add_fmod (n - d) b
  rw [e, Int.add_zero] at q
  have q2 := congrArg Int.natAbs q
  rw [Int.natAbs_mul] at q2
  have h1 : (n - d).natAbs ≤ 2 * B := by omega
  have h3 : 2 * ((n - d).fdiv b).natAbs ≤ b.natAbs * ((n - d).fdiv b).natAbs := Nat.mul_le_mul_right _ hb
  omega
end OF
/-! What a search by a stack finds, in its order. -/
namespace OF
inductive Dfs {α : Type} (succ : α → List α) : List α → List α → List α → Prop
  | done {ks st : List α} (e : st = []) : Dfs succ ks st ks
  | skip {ks st l r : List α} {x : α} (e : st = l ++ [x]) (h : x ∈ ks) (d : Dfs succ ks l r) : Dfs succ ks st r
  | more {ks st l r : List α} {x : α} (e : st = l ++ [x]) (h : x ∉ ks) (d : Dfs succ (ks ++ [x]) (l ++ succ x) r) : Dfs succ ks st r
theorem snoc_inj {α : Type} {l m : List α} {x y : α} (e : l ++ [x] = m ++ [y]) : l = m ∧ x = y := by
  have z := List.append_inj' e rfl
  exact ⟨z.1, List.head_eq_of_cons_eq z.2⟩
theorem Dfs.one {α : Type} {succ : α → List α} {ks st r r2 : List α} (a : Dfs succ ks st r) (b : Dfs succ ks st r2) : r = r2 := by
  induction a with
  | done e =>
    subst e
    cases b with
    | done _ => rfl
    | skip e _ _ => exact absurd e (by simp)
    | more e _ _ => exact absurd e (by simp)
  | skip e h _ ih =>
    subst e
    cases b with
    | done e => exact absurd e (by simp)
    | skip e _ d =>
      obtain ⟨rfl, rfl⟩ := snoc_inj e
      exact ih d
    | more e n _ =>
      obtain ⟨rfl, rfl⟩ := snoc_inj e
      exact absurd h n
  | more e h _ ih =>
    subst e
    cases b with
    | done e => exact absurd e (by simp)
    | skip e n _ =>
      obtain ⟨rfl, rfl⟩ := snoc_inj e
      exact absurd n h
    | more e _ d =>
      obtain ⟨rfl, rfl⟩ := snoc_inj e
      exact ih d
end OF
namespace K12
open PySem PySem.Spec PyProof.Rows L2 OF LamX NdefX
abbrev sGraph : Stmt := topS 28
/-! ### graphs of places -/
/-- the places one step further -/
def sucP (b : Int) (ds : List Int) (ks : List (Addr × (Int × Int))) (p : Plc) : List Plc := (plc b (leftOf ds ks p.2) p.1).map fun q => (q.1, some q.2)
abbrev keyP (p : Plc) : List KeyN := [some p.1, p.2]
abbrev vP (p : Plc) : HO := .tup [.int p.1, nV p.2]
/-- where a key stands, where the list of those behind it, the place -/
abbrev GRow := Addr × Addr × Plc
def kvG (es : List GRow) : List KeyT := es.map fun e => (keyP e.2.2, e.1, V.ref e.2.1)
def keysG (es : List GRow) : List Plc := es.map (·.2.2)
theorem keyP_inj {p q : Plc} (h : keyP p = keyP q) : p = q := by
  obtain ⟨n, k⟩ := p
  obtain ⟨m, j⟩ := q
  unfold keyP at h
  simp only [List.cons.injEq, Option.some.injEq, and_true] at h
  obtain ⟨rfl, rfl⟩ := h
  rfl
theorem getG (p : Plc) : ∀ es : List GRow, getN (kvG es) (keyP p) = (es.find? fun e => decide (e.2.2 = p)).map fun e => V.ref e.2.1
  | [] => rfl
  | e :: es => by
    have ih := getG p es
    unfold getN kvG at ih ⊢
    rw [List.map_cons, List.find?_cons, List.find?_cons]
    by_cases h : e.2.2 = p
    · rw [decide_eq_true (p := e.2.2 = p) h, decide_eq_true (congrArg keyP h)]
      rfl
    · rw [decide_eq_false (p := e.2.2 = p) h, decide_eq_false (fun z => h (keyP_inj z))]
      exact ih
theorem getG_none {es : List GRow} {p : Plc} (h : p ∉ keysG es) : getN (kvG es) (keyP p) = none := by
  rw [getG, List.find?_eq_none.mpr fun e he => ?_]
  · rfl
  · rw [decide_eq_true_eq]
    exact fun z => h (List.mem_map.mpr ⟨e, he, z⟩)
theorem getG_some {es : List GRow} {p : Plc} (h : p ∈ keysG es) : ∃ e ∈ es, e.2.2 = p ∧ getN (kvG es) (keyP p) = some (.ref e.2.1) := by
  rw [getG]
  cases hf : es.find? fun e => decide (e.2.2 = p) with
  | none =>
    obtain ⟨e, he, hp⟩ := List.mem_map.mp h
    have := List.find?_eq_none.mp hf e he
    rw [decide_eq_true_eq] at this
    exact absurd hp this
  | some e =>
    have := List.find?_some hf
    rw [decide_eq_true_eq] at this
    exact ⟨e, List.mem_of_find?_eq_some hf, this, rfl⟩
theorem getG_is (es : List GRow) (p : Plc) : (getN (kvG es) (keyP p)).isSome = decide (p ∈ keysG es) := by
  by_cases h : p ∈ keysG es
  · obtain ⟨e, _, _, g⟩ := getG_some h
    rw [g, decide_eq_true h]
    rfl
  · rw [getG_none h, decide_eq_false h]
    rfl
theorem kvG_app (es : List GRow) (a L : Addr) (p : Plc) : kvG (es ++ [(a, L, p)]) = kvG es ++ [(keyP p, a, V.ref L)] := by
  unfold kvG
  rw [List.map_append]
  rfl
theorem keysG_app (es : List GRow) (a L : Addr) (p : Plc) : keysG (es ++ [(a, L, p)]) = keysG es ++ [p] := by
  unfold keysG
  rw [List.map_append]
  rfl
section
variable {P : Program} {w : World} {K : PySem.W.Frag} {mg : Str → Option Value} {base : Heap}
theorem FollowAt.same {H H' : Hp} {f : Addr} {b : Int} {D : Addr} {ds : List Int} {ks : List (Addr × (Int × Int))} (h : FollowAt P w H f b D ds ks) (s : Same H H') : FollowAt P w H' f b D ds ks := by
  obtain ⟨cl, c', e1, e2, e3, e4, e5, e6⟩ := h
  exact ⟨cl, c', s _ _ e1, e2, e3.same s, s _ _ e4, e5, e6.extN (ExtN.of s)⟩
/-- a graph at G, and the lists in it -/
structure GraphAt (P : Program) (w : World) (H : Hp) (G : Addr) (b : Int) (ds : List Int) (ks : List (Addr × (Int × Int))) (es : List GRow) : Prop where
  at_ : H G = some (dNT P w G (kvG es))
  key : ∀ e ∈ es, H e.1 = some (vP e.2.2)
  val : ∀ e ∈ es, PlacesAt H e.2.1 (plc b (leftOf ds ks e.2.2.2) e.2.2.1)
theorem GraphAt.dict {H : Hp} {G : Addr} {b : Int} {ds : List Int} {ks : List (Addr × (Int × Int))} {es : List GRow} (g : GraphAt P w H G b ds ks es) : DictT P w H G (kvG es) := by
  refine ⟨.inl g.at_, fun p hp => ?_⟩
  obtain ⟨e, he, rfl⟩ := List.mem_map.mp hp
  exact g.key e he
theorem PlacesAt.but {T : Addr} {H H' : Hp} {L : Addr} {ps : List (Int × Int)} {xs : List V} (h : PlacesAt H L ps) (n : L ≠ T) (eT : H T = some (.lst xs)) (s : But T H H') : PlacesAt H' L ps := by
  obtain ⟨ks, e, h1, h2⟩ := h
  refine ⟨ks, e, s _ _ n h1, fun p hp => s _ _ (fun z => ?_) (h2 p hp)⟩
  have := h2 p hp
  rw [z, eT] at this
  cases this
theorem PlacesAt.dict {G : Addr} {kvs : List KeyT} {H : Hp} {L : Addr} {ps : List (Int × Int)} {o : HO} (h : PlacesAt H L ps) (eG : H G = some (dNT P w G kvs)) : PlacesAt (upd H G o) L ps := by
  obtain ⟨ks, e, h1, h2⟩ := h
  have nt : ∀ {c : Addr} {u : HO}, H c = some u → (∀ φ, u ≠ .ext φ) → upd H G o c = some u := fun {c u} e n => by
    rw [upd_ne]
    · exact e
    · rintro rfl
      rw [e] at eG
      exact n _ (Option.some.inj eG)
  exact ⟨ks, e, nt h1 (fun φ z => by cases z), fun p hp => nt (h2 p hp) (fun φ z => by cases z)⟩
def spGraph (P : Program) (w : World) : Sp := fun vs H Q _ => ∃ (S f D : Addr) (b : Int) (ds : List Int) (ks : List (Addr × (Int × Int))) (as : List (Addr × Plc)) (U : List Plc), vs = [.ref S, .ref f] ∧ FollowAt P w H f b D ds ks ∧ H S = some (.lst (as.map fun p => V.ref p.1)) ∧
  (∀ p ∈ as, H p.1 = some (vP p.2)) ∧ as.length ≤ 1000 ∧ ds.length ≤ 60 ∧ b ≠ 0 ∧ b.natAbs ≤ 6 ∧ (∀ p ∈ as, p.2 ∈ U) ∧ (∀ p ∈ U, ∀ q ∈ sucP b ds ks p, q ∈ U) ∧ (∀ p ∈ U, p.2 ∈ none :: ds.map some) ∧ U.length ≤ 100000 ∧
  ∀ (G : Addr) (H' : Hp) (es : List GRow), Same H H' → H G = none → GraphAt P w H' G b ds ks es → (keysG es).Nodup → (∀ x, x ∈ keysG es ↔ Reach (sucP b ds ks) (as.map (·.2)) x) → es.length ≤ U.length → Dfs (sucP b ds ks) [] (as.map (·.2)) (keysG es) → Q (.ref G) H'
abbrev nGr : List Str := ["starts", "follow", "graph", "stack", "node"]
theorem scGr : FnScope nGr ["starts", "follow"] (defScope sGraph) := ⟨rfl, rfl, rfl, by decide +kernel, rfl, by decide +kernel, by decide +kernel⟩
theorem big17 : 7000000 ≤ sizeLine := by unfold sizeLine; decide
theorem ok_graph {f fB : Addr} {fd fdB : FuncData} (F : Fun K "graph_from" "graph_from" sGraph f fd) (mli : mg "list" = none)
    (GB : FnOk P w K mg base CX0 1 fB fdB ["base", "digits", "rest"] (spBehind K)) (gB : mg "places_behind" = some (.ref fB)) (kB : PySem.W.keepIn K (.ref fB) = true) (bB : Binds K fdB ["base", "digits", "rest"] []) :
    FnOk P w K mg base CX0 3 f fd ["starts", "follow"] (spGraph P w) := by
  refine F.ok scGr (fun vs H Q E h => ?_) (fun cdv A outer s H vs Q E hr h => ?_)
  · obtain ⟨S, f, D, b, ds, ks, as, U, rfl, _⟩ := h
    rfl
  · obtain ⟨S, g, D, b, ds, ks, as, U, rfl, FA, hS, hA, lA, few, b0, b6, sU, cU, kU, lU, q⟩ := h
    apply Exists.intro
    apply And.intro
    · apply pss_cons
      · exact ps_set (i := 2) scGr.nd rfl (.inl rfl) pe_dnewNT
      apply pss_cons
      · exact ps_set (i := 3) scGr.nd rfl (.inl rfl) (pe_callTy call_list_of (by rfl) mli PyProof.Rows.boot_list (pa_cons (pv 0) pa_nil))
      apply pss_cons
      · exact ps_while PassesOwn.never (pt_truth (pv 3) (fun _ => rfl))
          (pss_cons (ps_set (i := 4) scGr.nd rfl (.inl rfl) (pe_bm0 PySem.F.plainAttrs_list PySem.F.slot_list_pop PySem.F.type_list_pop mt_pop (pv 3)))
            (pss_one (ps_if (pt_cmpR (op_notInNT (hu_of hr)) (pv 4) (pv 2) rfl)
              (pss_cons (ps_asg (pe_clo (k := 2) (i := 1) hr (by rfl) (.inl rfl) (pa_cons (pv 4) pa_nil)) (pg_sub (pv 2) (pv 4) (set_dictNT (hu_of hr)) (fun _ => rfl)))
                (pss_one (ps_expr (pe_bm PySem.F.plainAttrs_list PySem.F.slot_list_extend PySem.F.type_list_extend mt_extend (pv 3) (pa_cons (pe_ix (ix_dictNT (hu_of hr)) (pv 2) (pv 4) (fun _ _ => rfl)) pa_nil))))) pss_nil)))
      apply pss_one
      · exact ps_ret (pv 2)
    obtain ⟨cl, c', eg, inj, caps, ec, nD, LA⟩ := id FA
    have CA := step_cal (q := qLam) (c' := c') (D := D) (ds := ds) (ks := ks) (b := b) (f := g) inj GB gB kB bB
    refine fun G hG => ?_
    have sG := same_new (o := dNT P w G []) hG
    refine ⟨.ref S, rfl, S, _, rfl, .inl (SqL.of (sG _ _ hS)), fun T hT => ?_⟩
    have nTG : T ≠ G := fun z => by
      rw [z, upd_same] at hT
      cases hT
    have hT0 : H T = none := (upd_ne nTG).symm.trans hT
    refine ⟨fun m σ H' => ∃ (v : Option V) (es : List GRow) (st : List (Addr × Plc)), σ = [some (.ref S), some (.ref g), some (.ref G), some (.ref T), v] ∧ m = (U.length - es.length) * 61 + st.length ∧ Same H H' ∧ GraphAt P w H' G b ds ks es ∧ (∀ e ∈ es, e.2.1 ≠ T) ∧
      H' T = some (.lst (st.map fun p => V.ref p.1)) ∧ (∀ p ∈ st, H' p.1 = some (vP p.2)) ∧ DInv (sucP b ds ks) (as.map (·.2)) (keysG es) (st.map (·.2)) ∧ st.length ≤ 1000 + 60 * es.length ∧ ∀ r, Dfs (sucP b ds ks) (keysG es) (st.map (·.2)) r → Dfs (sucP b ds ks) [] (as.map (·.2)) r, ?_, ?_⟩
    · refine ⟨_, none, [], as, rfl, rfl, Same.trans sG (same_new hT), ⟨?_, (fun e h => by cases h), (fun e h => by cases h)⟩, (fun e h => by cases h), upd_same, fun p hp => same_new hT _ _ (sG _ _ (hA p hp)), DInv.begin, by omega, fun r h => h⟩
      rw [upd_ne nTG.symm, upd_same]
      rfl
    · rintro m σ H1 ⟨v, es, st, rfl, rfl, s1, gA, nT, eT, tS, dI, lS, dF⟩
      have inU : ∀ x, Reach (sucP b ds ks) (as.map (·.2)) x → x ∈ U := fun x r => Reach.all (p := fun x => x ∈ U) (fun x hx => by
        obtain ⟨p, hp, rfl⟩ := List.mem_map.mp hx
        exact sU p hp) (fun x hx y hy => cU x hx y hy) r
      have kLen : es.length ≤ U.length := by
        have := nodup_le (keysG es) U dI.nd fun x hx => inU x (dI.re x (.inl hx))
        rw [show (keysG es).length = es.length from List.length_map _] at this
        exact this
      refine ⟨.ref T, rfl, !(st.map fun p => V.ref p.1).isEmpty, .inl ⟨_, SqL.of eT, rfl⟩, ?_⟩
      rcases List.eq_nil_or_concat st with rfl | ⟨l, y, rfl⟩
      · refine iteFB rfl ⟨.ref G, rfl, q G H1 es s1 hG gA dI.nd dI.end_ kLen (dF _ (.done rfl))⟩
      · rw [List.concat_eq_append] at *
        have y1 := tS y (List.mem_append_right _ List.mem_cons_self)
        rw [List.map_append] at dI eT dF
        have yU := inU y.2 (dI.re y.2 (.inr (List.mem_append_right _ List.mem_cons_self)))
        have lS2 : l.length + 1 ≤ 1000 + 60 * es.length := by
          rw [List.length_append] at lS
          exact lS
        refine iteTB (by simp) ⟨_, fun σ' H' h => h, ?_⟩
        refine ⟨.ref T, rfl, .inl ⟨rfl, _, SqL.of eT⟩, T, _, .ref y.1, rfl, rfl, eT, by simp, ?_⟩
        have eP : (l.map (fun p => V.ref p.1) ++ [y].map fun p => V.ref p.1).dropLast = l.map fun p => V.ref p.1 := by simp
        rw [eP]
        have b2 : But T H1 (upd H1 T (.lst (l.map fun p => V.ref p.1))) := But.at_
        have s2 : Same H (upd H1 T (.lst (l.map fun p => V.ref p.1))) := Same.store s1 hT0
        have e2 : (upd H1 T (.lst (l.map fun p => V.ref p.1))) T = some (.lst (l.map fun p => V.ref p.1)) := upd_same
        generalize upd H1 T (.lst (l.map fun p => V.ref p.1)) = H2 at b2 s2 e2 ⊢
        have tupT : ∀ {c : Addr} {xs : List V}, H1 c = some (.tup xs) → H2 c = some (.tup xs) := fun {c xs} e => b2 _ _ (fun z => by
          rw [z, eT] at e
          cases e) e
        have gA2 : GraphAt P w H2 G b ds ks es := ⟨b2 _ _ nTG.symm gA.at_, fun e he => tupT (gA.key e he), fun e he => (gA.val e he).but (nT e he) eT b2⟩
        have y2 : H2 y.1 = some (vP y.2) := tupT y1
        have tS2 : ∀ p ∈ l, H2 p.1 = some (vP p.2) := fun p hp => tupT (tS p (List.mem_append_left _ hp))
        refine ⟨.ref y.1, rfl, .ref G, rfl, G, kvG es, keyP y.2, y.1, rfl, rfl, gA2.dict, y2, ?_⟩
        rw [getG_is]
        by_cases hk : y.2 ∈ keysG es
        · rw [decide_eq_true hk]
          refine ⟨_, rfl, iteF ?_⟩
          refine ⟨_, ?_, some (.ref y.1), es, l, rfl, rfl, s2, gA2, nT, e2, tS2, dI.skip hk, by omega, fun r h => dF r (.skip rfl hk h)⟩
          rw [List.length_append]
          show _ < _ + (l.length + 1)
          omega
        · rw [decide_eq_false hk]
          refine ⟨_, rfl, iteT ?_⟩
          refine ⟨g, _, _, rfl, CA, s2 _ _ eg, .ref y.1, rfl, s2 _ _ eg, [.int b, .ref D], caps.same s2, s2 _ _ ec, y.1, y.2.1, y.2.2, rfl, rfl, y2, kU _ yU, nD, (caps.same s2).ext, LA.extN (ExtN.of s2), few, b0, b6, fun L H3 s3 pl nL => ?_⟩
          have LnT : L ≠ T := fun z => by
            rw [z, e2] at nL
            cases nL
          have LnG : L ≠ G := fun z => by
            rw [z, gA2.at_] at nL
            cases nL
          have e3 := s3 _ _ gA2.at_
          have kl : es.length < U.length := by
            have z := nodup_le (keysG es ++ [y.2]) U (dI.more hk).nd fun x hx => by
              rcases List.mem_append.mp hx with h | h
              · exact inU x (dI.re x (.inl h))
              · cases List.mem_singleton.mp h
                exact yU
            rw [List.length_append, show (keysG es).length = es.length from List.length_map _] at z
            exact z
          have big := big17
          refine ⟨.ref G, rfl, .ref y.1, rfl, G, kvG es, keyP y.2, y.1, rfl, rfl, ⟨.inl e3, fun p hp => s3 _ _ (gA2.dict.ks p hp)⟩, e3, s3 _ _ y2, by rw [show (kvG es).length = es.length from List.length_map _]; omega, ?_⟩
          rw [putN_new (getG_none hk), ← kvG_app es y.1 L y.2]
          generalize e4H : upd H3 G (dNT _ _ G (kvG (es ++ [(y.1, L, y.2)]))) = H4
          have e4H : upd H3 G (dNT P w G (kvG (es ++ [(y.1, L, y.2)]))) = H4 := e4H
          have tup4 : ∀ {c : Addr} {xs : List V}, H2 c = some (.tup xs) → (upd H3 G (dNT P w G (kvG (es ++ [(y.1, L, y.2)])))) c = some (.tup xs) := fun {c xs} e => by
            have e := s3 _ _ e
            rw [upd_ne]
            · exact e
            · rintro rfl
              rw [e3] at e
              cases e
          have gA4 : GraphAt P w (upd H3 G (dNT P w G (kvG (es ++ [(y.1, L, y.2)])))) G b ds ks (es ++ [(y.1, L, y.2)]) := by
            refine ⟨upd_same, fun e he => ?_, fun e he => ?_⟩
            · rcases List.mem_append.mp he with h | h
              · exact tup4 (gA2.key e h)
              · cases List.mem_singleton.mp h
                exact tup4 y2
            · rcases List.mem_append.mp he with h | h
              · exact ((gA2.val e h).same s3).dict e3
              · cases List.mem_singleton.mp h
                exact pl.dict e3
          have s4 : Same H (upd H3 G (dNT P w G (kvG (es ++ [(y.1, L, y.2)])))) := Same.store (s2.trans s3) hG
          have e4 : (upd H3 G (dNT P w G (kvG (es ++ [(y.1, L, y.2)])))) T = some (.lst (l.map fun p => V.ref p.1)) := (upd_ne nTG).trans (s3 _ _ e2)
          have pl4 := pl.dict (o := dNT P w G (kvG (es ++ [(y.1, L, y.2)]))) e3
          rw [e4H] at tup4 gA4 s4 e4 pl4
          obtain ⟨ps, ep, eL, tp⟩ := pl4
          have lp : ps.length ≤ 60 := by
            have z := congrArg List.length ep
            rw [List.length_map] at z
            rw [z]
            unfold plc leftOf
            rw [List.length_map]
            exact Nat.le_trans (List.length_filter_le _ _) (Nat.le_trans (List.length_filter_le _ _) few)
          have gk : getN (kvG (es ++ [(y.1, L, y.2)])) (keyP y.2) = some (.ref L) := by
            rw [getG, List.find?_append, List.find?_eq_none.mpr fun e he => by
              rw [decide_eq_true_eq]
              exact fun z => hk (List.mem_map.mpr ⟨e, he, z⟩)]
            simp
          refine ⟨.ref T, rfl, .inl ⟨rfl, _, SqL.of e4⟩, .ref G, rfl, .ref y.1, rfl, G, _, keyP y.2, y.1, .ref L, rfl, rfl, gA4.dict, tup4 y2, gk, ?_⟩
          refine ⟨T, L, _, _, rfl, rfl, e4, eL, ?_, ?_⟩
          · rw [List.length_map, List.length_map]
            omega
          have b5 : But T H4 (upd H4 T (.lst ((l.map fun p => V.ref p.1) ++ ps.map fun p => V.ref p.1))) := But.at_
          have s5 := Same.store (o := .lst ((l.map fun p => V.ref p.1) ++ ps.map fun p => V.ref p.1)) s4 hT0
          have e5 : (upd H4 T (.lst ((l.map fun p => V.ref p.1) ++ ps.map fun p => V.ref p.1))) T = some (.lst ((l.map fun p => V.ref p.1) ++ ps.map fun p => V.ref p.1)) := upd_same
          generalize upd H4 T (.lst ((l.map fun p => V.ref p.1) ++ ps.map fun p => V.ref p.1)) = H5 at b5 s5 e5 ⊢
          have tupT5 : ∀ {c : Addr} {xs : List V}, H4 c = some (.tup xs) → H5 c = some (.tup xs) := fun {c xs} e => b5 _ _ (fun z => by
            rw [z, e4] at e
            cases e) e
          have nT5 : ∀ e ∈ es ++ [(y.1, L, y.2)], e.2.1 ≠ T := fun e he => by
            rcases List.mem_append.mp he with h | h
            · exact nT e h
            · cases List.mem_singleton.mp h
              exact LnT
          have eSuc : sucP b ds ks y.2 = (ps.map fun p => (p.1, ((p.2.1, some p.2.2) : Plc))).map (·.2) := by
            unfold sucP
            rw [← ep, List.map_map, List.map_map]
            rfl
          refine ⟨_, ?_, some (.ref y.1), es ++ [(y.1, L, y.2)], l ++ ps.map fun p => (p.1, ((p.2.1, some p.2.2) : Plc)), rfl, rfl, s5, ⟨b5 _ _ nTG.symm gA4.at_, fun e he => tupT5 (gA4.key e he), fun e he => (gA4.val e he).but (nT5 e he) e4 b5⟩, nT5, ?_, fun p hp => ?_, ?_, ?_, fun r h => dF r (.more rfl hk ?_)⟩
          · rw [List.length_append, List.length_append, List.length_append, List.length_map]
            show (U.length - (es.length + 1)) * 61 + (l.length + ps.length) < (U.length - es.length) * 61 + (l.length + 1)
            have : U.length - es.length = (U.length - (es.length + 1)) + 1 := by omega
            rw [this, Nat.add_mul]
            omega
          · rw [e5, List.map_append, List.map_map]
            rfl
          · rcases List.mem_append.mp hp with h | h
            · exact tupT5 (tup4 (tS2 p h))
            · obtain ⟨z, hz, rfl⟩ := List.mem_map.mp h
              exact tupT5 (tp z hz)
          · rw [keysG_app, List.map_append, ← eSuc]
            exact dI.more hk
          · rw [List.length_append, List.length_append, List.length_map]
            show l.length + ps.length ≤ 1000 + 60 * (es.length + 1)
            omega
          · rw [keysG_app, List.map_append, ← eSuc] at h
            exact h
end
end K12
namespace K12
open PySem PySem.Spec PyProof.Rows L2 OF
abbrev sIsSch : Stmt := topS 40
abbrev sCheckS : Stmt := topS 41
abbrev sCheckN : Stmt := topS 42
abbrev sIsRight : Stmt := topS 43
abbrev sCheckP : Stmt := topS 45
section
variable {P : Program} {w : World} {K : PySem.W.Frag} {mg : Str → Option Value} {base : Heap}
/-! ### what is no scheme -/
/-- no built-in kind is of the class -/
structure NotK (K : PySem.W.Frag) (C : Addr) : Prop where
  non : PySem.W.kitOne K (.type "NoneType") (.ref C) = some false
  bl : PySem.W.kitOne K (.type "bool") (.ref C) = some false
  str : PySem.W.kitOne K (.type "str") (.ref C) = some false
  lst : PySem.W.kitOne K (.type "list") (.ref C) = some false
  tup : PySem.W.kitOne K (.type "tuple") (.ref C) = some false
  dct : PySem.W.kitOne K (.type "dict") (.ref C) = some false
theorem NotK.odd {K : PySem.W.Frag} {C : Addr} {H : Hp} {x : V} (N : NotK K C) (h : Odd H x) : ∃ t : Value, TyX K H x t ∧ PySem.W.kitOne K t (.ref C) = some false := by
  cases h with
  | non => exact ⟨_, .base .non, N.non⟩
  | bl b => exact ⟨_, .base (.bl b), N.bl⟩
  | str z => exact ⟨_, .base (.str z), N.str⟩
  | lst e => exact ⟨_, .base (.lst e), N.lst⟩
  | tup e => exact ⟨_, .base (.tup e), N.tup⟩
  | dK e => exact ⟨_, .base (.dK e), N.dct⟩
def spIsSch (C : Addr) : Sp := fun vs H Q _ => ∃ x : V, vs = [x] ∧ ((∃ (a dx : Addr) (fs : List (Str × V)), x = .ref a ∧ H a = some (.ins C dx fs) ∧ Q (.bl true) H) ∨ (Odd H x ∧ Q (.bl false) H))
theorem scIs : FnScope ["value"] ["value"] (defScope sIsSch) := ⟨rfl, rfl, rfl, by decide +kernel, rfl, by decide +kernel, by decide +kernel⟩
theorem ok_issch {f C : Addr} {fd : FuncData} (F : Fun K "is_scheme" "is_scheme" sIsSch f fd) (I : IsC K C) (N : NotK K C) (gC : mg "Scheme" = some (.ref C)) (mis : mg "isinstance" = none) :
    FnOk P w K mg base CX0 1 f fd ["value"] (spIsSch C) := by
  refine F.ok scIs (fun vs H Q E h => ?_) (fun cdv A outer s H vs Q E hr h => ?_)
  · obtain ⟨x, rfl, _⟩ := h
    rfl
  · obtain ⟨x, rfl, h⟩ := h
    refine ⟨_, pss_one (ps_ret (pe_callB call_isi (by rfl) mis PyProof.Rows.boot_isinstance (pa_cons (pv 0) (pa_cons (pe_glob (v := .ref C) (by rfl) gC rfl) pa_nil)))), ?_⟩
    rcases h with ⟨a, dx, fs, rfl, ha, q⟩ | ⟨o, q⟩
    · exact ⟨.ref a, rfl, .ref a, .ref C, .ref C, .ref C, true, rfl, .own C, .base (.ins ha I.cl I.ha I.hn I.ht I.hm), I.own, q⟩
    · obtain ⟨t, ty, k⟩ := N.odd o
      exact ⟨x, rfl, x, .ref C, t, .ref C, false, rfl, .own C, ty, k, q⟩
def spCheckS (C CN : Addr) : Sp := fun vs H Q E => ∃ x : V, vs = [x] ∧ ((∃ (a dx : Addr) (fs : List (Str × V)), x = .ref a ∧ H a = some (.ins C dx fs) ∧ Q .non H) ∨ (Odd H x ∧ Raised CN "value" x H E))
theorem scCs : FnScope ["value"] ["value"] (defScope sCheckS) := ⟨rfl, rfl, rfl, by decide +kernel, rfl, by decide +kernel, by decide +kernel⟩
theorem ok_checks {f fS fI C CN : Addr} {fd fdS fdI : FuncData} (F : Fun K "check_scheme" "check_scheme" sCheckS f fd) (GS : FnOk P w K mg base CX0 1 fS fdS ["value"] (spIsSch C)) (gS : mg "is_scheme" = some (.ref fS)) (kS : PySem.W.keepIn K (.ref fS) = true) (bS : Binds K fdS ["value"] [])
    (GI : FnOk P w K mg base CX0 3 fI fdI ["self", "value"] (spInit K "value" CN)) (T : ErrC K mg "NotScheme" "value" CN fI) (bI : Binds K fdI ["self", "value"] []) :
    FnOk P w K mg base (L2.CX P w) 5 f fd ["value"] (spCheckS C CN) := by
  refine F.okX scCs (fun vs H Q E h => ?_) (fun cdv A outer s H vs Q E hr h => ?_)
  · obtain ⟨x, rfl, _⟩ := h
    rfl
  · obtain ⟨x, rfl, h⟩ := h
    have hr1 : Room 1 _ := hr.mono (by decide)
    refine ⟨_, pss_one (ps_if (pt_not (pt_val (pe_call GS hr1 (by rfl) gS kS bS .nil pass0 (pa_cons (pv 0) pa_nil))))
      (pss_one (ps_raise rfl (takes_of rfl rfl rfl rfl) (pmk_oex T.ox T.iC T.tI GI hr bI .nil pass0 (by rfl) T.g (pa_cons (pv 0) pa_nil)))) pss_nil), ?_⟩
    rcases h with ⟨a, dx, fs, rfl, ha, q⟩ | ⟨o, hE⟩
    · exact ⟨.ref a, rfl, .ref a, rfl, .inl ⟨a, dx, fs, rfl, ha, true, rfl, iteF q⟩⟩
    · exact ⟨x, rfl, x, rfl, .inr ⟨o, false, rfl, iteT ⟨x, rfl, raised_ok (σ := start ["value"] [x]) (D := { nx := fun _ H' => Q .non H', rt := Q }) hE (Same.refl H)⟩⟩⟩
def spCheckN (CI : Addr) : Sp := fun vs H Q E => ∃ x : V, vs = [x] ∧ ((∃ n : Int, x = .int n ∧ Q .non H) ∨ (Odd H x ∧ Raised CI "number" x H E))
theorem scCn : FnScope ["value"] ["value"] (defScope sCheckN) := ⟨rfl, rfl, rfl, by decide +kernel, rfl, by decide +kernel, by decide +kernel⟩
theorem ok_checkn {f fW fI CI : Addr} {fd fdW fdI : FuncData} (F : Fun K "check_number" "check_number" sCheckN f fd) (GW : FnOk P w K mg base CX0 1 fW fdW ["value"] spWhole) (gW : mg "is_whole" = some (.ref fW)) (kW : PySem.W.keepIn K (.ref fW) = true) (bW : Binds K fdW ["value"] [])
    (GI : FnOk P w K mg base CX0 3 fI fdI ["self", "number"] (spInit K "number" CI)) (T : ErrC K mg "InvalidNumber" "number" CI fI) (bI : Binds K fdI ["self", "number"] []) :
    FnOk P w K mg base (L2.CX P w) 5 f fd ["value"] (spCheckN CI) := by
  refine F.okX scCn (fun vs H Q E h => ?_) (fun cdv A outer s H vs Q E hr h => ?_)
  · obtain ⟨x, rfl, _⟩ := h
    rfl
  · obtain ⟨x, rfl, h⟩ := h
    have hr1 : Room 1 _ := hr.mono (by decide)
    refine ⟨_, pss_one (ps_if (pt_not (pt_val (pe_call GW hr1 (by rfl) gW kW bW .nil pass0 (pa_cons (pv 0) pa_nil))))
      (pss_one (ps_raise rfl (takes_of rfl rfl rfl rfl) (pmk_oex T.ox T.iC T.tI GI hr bI .nil pass0 (by rfl) T.g (pa_cons (pv 0) pa_nil)))) pss_nil), ?_⟩
    rcases h with ⟨n, rfl, q⟩ | ⟨o, hE⟩
    · exact ⟨.int n, rfl, .int n, rfl, .inl ⟨n, rfl, true, rfl, iteF q⟩⟩
    · exact ⟨x, rfl, x, rfl, .inr ⟨o, false, rfl, iteT ⟨x, rfl, raised_ok (σ := start ["value"] [x]) (D := { nx := fun _ H' => Q .non H', rt := Q }) hE (Same.refl H)⟩⟩⟩
/-- None or a digit of the scheme -/
def rightB (ds : List Int) : V → Bool
  | .non => true
  | .int n => isOne ds n
  | _ => false
def spIsRight (C : Addr) : Sp := fun vs H Q _ => ∃ (a t r : Addr) (b : Int) (ds : List Int) (ks : List (Addr × (Int × Int))) (x : V), vs = [.ref a, x] ∧ SchemeAt C H a t r b ds ks ∧ ItemOk H x ∧ ∀ H', Same H H' → Q (.bl (rightB ds x)) H'
theorem scIr : FnScope ["scheme", "value"] ["scheme", "value"] (defScope sIsRight) := ⟨rfl, rfl, rfl, by decide +kernel, rfl, by decide +kernel, by decide +kernel⟩
theorem ok_isright {f fA C : Addr} {fd fdA : FuncData} (F : Fun K "is_right" "is_right" sIsRight f fd) (c : Cls K C) (mA : Meth K C "allows" fA) (GA : FnOk P w K mg base CX0 5 fA fdA ["self", "left", "right"] (spAllows C)) (bA : Binds K fdA ["self", "left", "right"] []) :
    FnOk P w K mg base CX0 6 f fd ["scheme", "value"] (spIsRight C) := by
  refine F.ok scIr (fun vs H Q E h => ?_) (fun cdv A outer s H vs Q E hr h => ?_)
  · obtain ⟨a, t, r, b, ds, ks, x, rfl, _⟩ := h
    rfl
  · obtain ⟨a, t, r, b, ds, ks, x, rfl, S, hx, q⟩ := h
    refine ⟨_, pss_one (ps_ret (pe_or (pe_cmpR op_isN (pv 1) pe_non (nomark _)) (pe_one (pe_meth (pv 0) c mA GA hr bA .nil pass0 (pa_cons (pv 1) (pa_cons pe_non pa_nil)))))), ?_⟩
    obtain ⟨⟨dx, hins⟩, _⟩ := id S
    by_cases e : x = .non
    · subst e
      exact ⟨.non, rfl, rfl, _, rfl, iteTB (decide_eq_true rfl) (q H (Same.refl H))⟩
    · refine ⟨x, rfl, rfl, _, rfl, iteFB (decide_eq_false e) ⟨.ref a, rfl, a, dx, _, rfl, hins, rfl, x, rfl, ?_⟩⟩
      dsimp only [tNil, tCons, tC]
      refine allows_of S hx (.inr rfl) fun H' s' => ?_
      have z := q H' s'
      have e2 : jdg ds ks x .non = rightB ds x := by
        cases x with
        | non => exact absurd rfl e
        | int n => rfl
        | bl b => rfl
        | str y => rfl
        | ref p => rfl
        | flt y => rfl
        | byt y => rfl
        | ty y => rfl
      rw [e2]
      exact z
def spCheckP (C CN CI CU : Addr) : Sp := fun vs H Q E => ∃ x y z : V, vs = [x, y, z] ∧ ((Odd H x ∧ Raised CN "value" x H E) ∨
  ∃ (a t r : Addr) (b : Int) (ds : List Int) (ks : List (Addr × (Int × Int))), x = .ref a ∧ SchemeAt C H a t r b ds ks ∧ ((Odd H y ∧ Raised CI "number" y H E) ∨
    ∃ n : Int, y = .int n ∧ ItemOk H z ∧ (rightB ds z = true → ∀ H', Same H H' → Q .non H') ∧ (rightB ds z = false → Raised CU "digit" z H E)))
theorem scCp : FnScope ["scheme", "rest", "right"] ["scheme", "rest", "right"] (defScope sCheckP) := ⟨rfl, rfl, rfl, by decide +kernel, rfl, by decide +kernel, by decide +kernel⟩
theorem ok_checkp {f fS fN fR fI C CN CI CU : Addr} {fd fdS fdN fdR fdI : FuncData} (F : Fun K "_check_place" "_check_place" sCheckP f fd)
    (GS : FnOk P w K mg base (L2.CX P w) 5 fS fdS ["value"] (spCheckS C CN)) (gS : mg "check_scheme" = some (.ref fS)) (kS : PySem.W.keepIn K (.ref fS) = true) (bS : Binds K fdS ["value"] [])
    (GN : FnOk P w K mg base (L2.CX P w) 5 fN fdN ["value"] (spCheckN CI)) (gN : mg "check_number" = some (.ref fN)) (kN : PySem.W.keepIn K (.ref fN) = true) (bN : Binds K fdN ["value"] [])
    (GR : FnOk P w K mg base CX0 6 fR fdR ["scheme", "value"] (spIsRight C)) (gR : mg "is_right" = some (.ref fR)) (kR : PySem.W.keepIn K (.ref fR) = true) (bR : Binds K fdR ["scheme", "value"] [])
    (GI : FnOk P w K mg base CX0 3 fI fdI ["self", "digit"] (spInit K "digit" CU)) (T : ErrC K mg "UnknownDigit" "digit" CU fI) (bI : Binds K fdI ["self", "digit"] []) :
    FnOk P w K mg base (L2.CX P w) 7 f fd ["scheme", "rest", "right"] (spCheckP C CN CI CU) := by
  refine F.okX scCp (fun vs H Q E h => ?_) (fun cdv A outer s H vs Q E hr h => ?_)
  · obtain ⟨x, y, z, rfl, _⟩ := h
    rfl
  · obtain ⟨x, y, z, rfl, h⟩ := h
    have hr5 : Room 5 _ := hr.mono (by decide)
    have hr4 : Room 4 _ := hr.mono (by decide)
    apply Exists.intro
    apply And.intro
    · apply pss_cons
      · exact ps_expr (pe_call GS hr5 (by rfl) gS kS bS .nil (passes_call (W := fun cl d _ J => E cl d J) (takes_of rfl rfl rfl rfl) (fun _ _ _ _ z => z)) (pa_cons (pv 0) pa_nil))
      apply pss_cons
      · exact ps_expr (pe_call GN hr5 (by rfl) gN kN bN .nil (passes_call (W := fun cl d _ J => E cl d J) (takes_of rfl rfl rfl rfl) (fun _ _ _ _ z => z)) (pa_cons (pv 1) pa_nil))
      apply pss_one
      · exact ps_if (pt_not (pt_val (pe_call GR hr (by rfl) gR kR bR .nil pass0 (pa_cons (pv 0) (pa_cons (pv 2) pa_nil)))))
          (pss_one (ps_raise rfl (takes_of rfl rfl rfl rfl) (pmk_oex T.ox T.iC T.tI GI hr4 bI .nil pass0 (by rfl) T.g (pa_cons (pv 2) pa_nil)))) pss_nil
    rcases h with ⟨o, hE⟩ | ⟨a, t, r, b, ds, ks, rfl, S, h⟩
    · exact ⟨x, rfl, x, rfl, .inr ⟨o, hE⟩⟩
    · obtain ⟨⟨dx, hins⟩, _⟩ := id S
      refine ⟨.ref a, rfl, .ref a, rfl, .inl ⟨a, dx, _, rfl, hins, ?_⟩⟩
      rcases h with ⟨o, hE⟩ | ⟨n, rfl, hz, hq, hE⟩
      · exact ⟨y, rfl, y, rfl, .inr ⟨o, hE⟩⟩
      · refine ⟨.int n, rfl, .int n, rfl, .inl ⟨n, rfl, ?_⟩⟩
        refine ⟨.ref a, rfl, z, rfl, a, t, r, b, ds, ks, z, rfl, S, hz, fun H' s' => ⟨_, rfl, ?_⟩⟩
        cases hr3 : rightB ds z with
        | true => exact iteF (hq hr3 H' s')
        | false => exact iteT ⟨z, rfl, raised_ok (σ := start ["scheme", "rest", "right"] [.ref a, .int n, z]) (D := { nx := fun _ H' => Q .non H', rt := Q }) (hE hr3) s'⟩
end
end K12
namespace K12
open PySem PySem.Spec PyProof.Rows L2 OF
section
variable {P : Program} {w : World} {K : PySem.W.Frag} {mg : Str → Option Value} {base : Heap}
/-! ### core, steps -/
def mA (b : Int) : Int := if b < 0 then -b else b
/-- the greatest absolute value of these -/
def IsMx (ds : List Int) (m : Int) : Prop := m ∈ ds.map mA ∧ ∀ y ∈ ds.map mA, y ≤ m
theorem IsMx.one {ds : List Int} {m n : Int} (h : IsMx ds m) (k : IsMx ds n) : m = n := by
  have h1 := h.2 n k.1
  have h2 := k.2 m h.1
  omega
end
end K12
namespace K12
open PySem PySem.Spec PyProof.Rows L2 OF
abbrev sCell : Stmt := topS 53
abbrev sBox : Stmt := topS 54
abbrev sTake : Stmt := topS 55
abbrev sDigits : Stmt := topS 56
abbrev sPairs : Stmt := topS 57
abbrev sScheme : Stmt := topS 58
abbrev sMade : Stmt := topS 59
abbrev sFits : Stmt := topS 60
abbrev sLSteps : Stmt := topS 63
abbrev sRight : Stmt := topS 70
abbrev sLaw : Stmt := topS 72
section
variable {P : Program} {w : World} {K : PySem.W.Frag} {mg : Str → Option Value} {base : Heap}
theorem scC : FnScope ["_law_script", "_law_k"] ["_law_script", "_law_k"] (defScope sCell) := ⟨rfl, rfl, rfl, by decide +kernel, rfl, by decide +kernel, by decide +kernel⟩
theorem ok_cell {f : Addr} {fd : FuncData} (F : Fun K "_law_cell" "_law_cell" sCell f fd) (ml : mg "len" = none) : FnOk P w K mg base CX0 1 f fd ["_law_script", "_law_k"] (OF.spCell K) := by
  refine F.ok scC (fun vs H Q E h => ?_) (fun cdv A outer s H vs Q E hr h => ?_)
  · obtain ⟨a, ns, k, rfl, _⟩ := h
    rfl
  · obtain ⟨a, ns, k, rfl, hS, hk, q⟩ := h
    refine ⟨_, pss_cons (ps_if (pt_cmpR op_lt (pv 1) (pe_callB call_len_seq (by rfl) ml PySem.boot_len (pa_cons (pv 0) pa_nil)) (nomark _))
        (pss_one (ps_ret (pe_ix ix_list (pv 0) (pv 1) (fun _ _ => rfl)))) pss_nil)
      (pss_one (ps_ret (pe_op op_add (pe_op op_mul pe_int (pv 1)) pe_int))), ?_⟩
    refine ⟨.int k, rfl, .ref a, rfl, a, ns.map V.int, rfl, .inl hS, k, _, rfl, rfl, _, rfl, ite2 (fun c => ?_) (fun c => ?_)⟩
    · have c1 : k < ns.length := by
        have c2 := of_decide_eq_true c
        rw [List.length_map] at c2
        omega
      have g : (ns.map V.int)[k]? = some (.int ns[k]) := by
        rw [List.getElem?_map, List.getElem?_eq_getElem c1]
        rfl
      exact ⟨.ref a, rfl, .int k, rfl, a, _, k, .int ns[k], rfl, rfl, hS, atI_nat g, q _⟩
    · exact ⟨.int k, rfl, _, _, rfl, rfl, .inl ⟨by decide, by decide⟩, _, _, rfl, rfl, q _⟩
theorem scB : FnScope ["_law_cell_here"] ["_law_cell_here"] (defScope sBox) := ⟨rfl, rfl, rfl, by decide +kernel, rfl, by decide +kernel, by decide +kernel⟩
theorem ok_box {f : Addr} {fd : FuncData} (F : Fun K "_law_box" "_law_box" sBox f fd) (mi : mg "int" = none) (mm : mg "max" = none) : FnOk P w K mg base CX0 1 f fd ["_law_cell_here"] spBox := by
  refine F.ok scB (fun vs H Q E h => ?_) (fun cdv A outer s H vs Q E hr h => ?_)
  · obtain ⟨c, rfl, _⟩ := h
    rfl
  · obtain ⟨c, rfl, q⟩ := h
    refine ⟨_, pss_one (ps_ret (pe_lst (pa_cons (pe_callB (call_max2 rfl) (by rfl) mm PyProof.Rows.boot_max (pa_cons pe_int (pa_cons (pe_op op_sub (pv 0) (pe_op op_pow pe_int pe_int)) pa_nil)))
      (pa_cons (pe_op op_modR (pe_callTy call_int1 (by rfl) mi PyProof.Rows.boot_int (pa_cons (pv 0) pa_nil)) pe_int) (pa_cons pe_int pa_nil))))), ?_⟩
    refine ⟨.int c, rfl, _, _, rfl, rfl, ⟨by decide, by decide, by decide⟩, _, _, rfl, rfl, _, _, rfl, .int c, rfl, .inl ⟨_, rfl, _, _, rfl, rfl, by decide, fun r r0 r1 => ?_⟩⟩
    refine ⟨by show 3 ≤ sizeLine; decide, fun p hp => ?_⟩
    refine q p _ hp (same_new hp) ⟨_, r, 0, upd_same, ?_, r0, by omega, by decide, by decide⟩
    split <;> omega
theorem scT : FnScope ["_law_box_here", "_law_many", "_law_digit", "_law_amount"] ["_law_box_here", "_law_many"] (defScope sTake) := ⟨rfl, rfl, rfl, by decide +kernel, rfl, by decide +kernel, by decide +kernel⟩
theorem ok_take {f : Addr} {fd : FuncData} (F : Fun K "_law_take" "_law_take" sTake f fd) (mi : mg "int" = none) : FnOk P w K mg base CX0 1 f fd ["_law_box_here", "_law_many"] spTake := by
  refine F.ok scT (fun vs H Q E h => ?_) (fun cdv A outer s H vs Q E hr h => ?_)
  · obtain ⟨a, m, n, rfl, _⟩ := h
    rfl
  · obtain ⟨a, m, n, rfl, ⟨b0, b1, b2, hH, p0, p1, q1, p2, q2⟩, hn, hm, hmb, q⟩ := h
    refine ⟨_, pss_cons (ps_if (pt_cmpR op_gt (pe_ix ix_list (pv 0) pe_int (fun _ _ => rfl)) pe_int (nomark _))
        (pss_cons (ps_set (i := 2) scT.nd rfl (.inl rfl) (pe_op op_modR (pe_callTy call_int1 (by rfl) mi PyProof.Rows.boot_int (pa_cons (pe_ix ix_list (pv 0) pe_int (fun _ _ => rfl)) pa_nil)) (pv 1)))
        (pss_cons (ps_asg (pe_op op_fdivW (pe_ix ix_list (pv 0) pe_int (fun _ _ => rfl)) (pv 1)) (pg_sub (pv 0) pe_int set_list))
        (pss_one (ps_ret (pv 2))))) pss_nil)
      (pss_cons (ps_asg (pe_op op_add (pe_ix ix_list (pv 0) pe_int (fun _ _ => rfl)) pe_int) (pg_sub (pv 0) pe_int set_list))
      (pss_cons (ps_set (i := 3) scT.nd rfl (.inl rfl) (pe_op op_modR (pe_op op_pow (pe_callTy call_int1 (by rfl) mi PyProof.Rows.boot_int
          (pa_cons (pe_op op_add (pe_op op_add (pe_ix ix_list (pv 0) pe_int (fun _ _ => rfl)) (pe_op op_mul pe_int (pe_ix ix_list (pv 0) pe_int (fun _ _ => rfl)))) pe_int) pa_nil)) pe_int) pe_int))
      (pss_cons (ps_set (i := 3) scT.nd rfl (.inl rfl) (pe_op op_modR (pe_op op_pow (pe_callTy call_int1 (by rfl) mi PyProof.Rows.boot_int
          (pa_cons (pe_op op_add (pv 3) (pe_op op_mul pe_int (pe_ix ix_list (pv 0) pe_int (fun _ _ => rfl)))) pa_nil)) pe_int) pe_int))
      (pss_one (ps_ret (pe_op op_modR (pe_callTy call_int1 (by rfl) mi PyProof.Rows.boot_int (pa_cons (pe_op op_fdiv (pv 3) pe_int) pa_nil)) (pv 1))))))), ?_⟩
    refine ⟨.ref a, rfl, a, _, 0, .int b0, rfl, rfl, SqL.of hH, atI_nat (j := 0) rfl, b0, 0, rfl, rfl, _, rfl, ite2 (fun c => ?_) (fun c => ?_)⟩
    · refine ⟨.ref a, rfl, a, _, 0, .int b0, rfl, rfl, SqL.of hH, atI_nat (j := 0) rfl, .inl ⟨b0, rfl, .int m, rfl, b0, m, rfl, rfl, hm, fun r r0 r1 => ?_⟩⟩
      refine ⟨.ref a, rfl, a, _, 0, .int b0, rfl, rfl, SqL.of hH, atI_nat (j := 0) rfl, .int m, rfl, b0, m, rfl, rfl, wide_div hm hmb (by decide) (by decide), ?_⟩
      refine ⟨.ref a, rfl, a, _, 0, 0, rfl, rfl, hH, rfl, ?_⟩
      refine ⟨.int r, rfl, q r _ r0 r1 But.at_ ⟨b0 / m, b1, b2, upd_same, Int.ediv_nonneg p0 (by omega), p1, q1, p2, by omega⟩⟩
    · refine ⟨.ref a, rfl, a, _, 2, .int b2, rfl, rfl, SqL.of hH, atI_nat (j := 2) rfl, b2, 1, rfl, rfl, .ref a, rfl, a, _, 2, 2, rfl, rfl, hH, rfl, ?_⟩
      have hH1 : (upd H a (.lst [.int b0, .int b1, .int (b2 + 1)])) a = some (.lst [.int b0, .int b1, .int (b2 + 1)]) := upd_same
      refine ⟨.ref a, rfl, a, _, 1, .int b1, rfl, rfl, SqL.of hH1, atI_nat (j := 1) rfl, .ref a, rfl, a, _, 2, .int (b2 + 1), rfl, rfl, SqL.of hH1, atI_nat (j := 2) rfl,
        _, _, rfl, rfl, .inl ⟨by decide, by decide⟩, _, _, rfl, rfl, _, _, rfl, rfl, .inl ⟨_, rfl, _, _, rfl, rfl, ⟨by decide, by decide, by omega⟩, _, _, rfl, rfl, by decide, fun r r0 r1 => ?_⟩⟩
      refine ⟨.int r, rfl, .ref a, rfl, a, _, 2, .int (b2 + 1), rfl, rfl, SqL.of hH1, atI_nat (j := 2) rfl,
        _, _, rfl, rfl, .inl ⟨by decide, by decide⟩, _, _, rfl, rfl, .inl ⟨_, rfl, _, _, rfl, rfl, ⟨by decide, by decide, by omega⟩, _, _, rfl, rfl, by decide, fun r' r0' r1' => ?_⟩⟩
      refine ⟨.int r', rfl, _, _, rfl, rfl, ⟨by decide, by decide⟩, .inl ⟨_, rfl, .int m, rfl, _, _, rfl, rfl, hm, fun r2 h0 h1 => ?_⟩⟩
      exact q r2 _ h0 h1 But.at_ ⟨b0, b1, b2 + 1, upd_same, p0, p1, q1, by omega, by omega⟩

theorem _root_.OF.But.free_ {a p : Addr} {H H' : Hp} (t : OF.But a H H') (n : p ≠ a) (h : H' p = none) : H p = none := by
  rcases Option.eq_none_or_eq_some (H p) with z | ⟨o, z⟩
  · exact z
  · rw [t p o n z] at h
    cases h
/-! ### lists in order -/
theorem sorted_ext {α : Type} {r : α → α → Prop} (as : ∀ a b, r a b → ¬ r b a) : ∀ {l m : List α}, l.Pairwise r → m.Pairwise r → (∀ x, x ∈ l ↔ x ∈ m) → l = m
  | [], [], _, _, _ => rfl
  | [], y :: m, _, _, h => absurd ((h y).mpr List.mem_cons_self) List.not_mem_nil
  | x :: l, [], _, _, h => absurd ((h x).mp List.mem_cons_self) List.not_mem_nil
  | x :: l, y :: m, h1, h2, h => by
    obtain ⟨a1, b1⟩ := List.pairwise_cons.mp h1
    obtain ⟨a2, b2⟩ := List.pairwise_cons.mp h2
    have e : x = y := by
      rcases List.mem_cons.mp ((h x).mp List.mem_cons_self) with z | z
      · exact z
      · rcases List.mem_cons.mp ((h y).mpr List.mem_cons_self) with z2 | z2
        · exact z2.symm
        · exact absurd (a1 y z2) (as _ _ (a2 x z))
    subst e
    have e2 : l = m := sorted_ext as b1 b2 fun z => by
      constructor
      · intro hz
        rcases List.mem_cons.mp ((h z).mp (List.mem_cons_of_mem _ hz)) with q | q
        · subst q
          exact absurd (a1 z hz) (as _ _ (a1 z hz))
        · exact q
      · intro hz
        rcases List.mem_cons.mp ((h z).mpr (List.mem_cons_of_mem _ hz)) with q | q
        · subst q
          exact absurd (a2 z hz) (as _ _ (a2 z hz))
        · exact q
    rw [e2]
theorem erase_map {α β : Type} (f : α → β) : ∀ (l : List α) (k : Nat), (l.map f).eraseIdx k = (l.eraseIdx k).map f
  | [], _ => rfl
  | _ :: _, 0 => rfl
  | x :: l, k + 1 => by
    show f x :: (l.map f).eraseIdx k = f x :: (l.eraseIdx k).map f
    rw [erase_map f l k]
theorem erase_perm {α : Type} : ∀ (l : List α) (k : Nat) (h : k < l.length), (l[k] :: l.eraseIdx k).Perm l
  | x :: l, 0, _ => List.Perm.refl _
  | x :: l, k + 1, h => by
    have h2 : k < l.length := Nat.lt_of_succ_lt_succ h
    show (l[k] :: x :: l.eraseIdx k).Perm (x :: l)
    exact (List.Perm.swap _ _ _).trans ((erase_perm l k h2).cons x)
/-- pairs by their order -/
def lexP (p q : Int × Int) : Prop := p.1 < q.1 ∨ (p.1 = q.1 ∧ p.2 < q.2)
theorem lexP_as (p q : Int × Int) (h : lexP p q) : ¬ lexP q p := by
  intro z
  unfold lexP at h z
  omega
/-- all pairs, in order -/
def prod (ns : List Int) : List (Int × Int) := ns.flatMap fun x => ns.map fun y => (x, y)
theorem prod_aux {ms : List Int} (hm : ms.Pairwise (· < ·)) : ∀ {ns : List Int}, ns.Pairwise (· < ·) → (ns.flatMap fun x => ms.map fun y => (x, y)).Pairwise lexP
  | [], _ => List.Pairwise.nil
  | x :: ns, h => by
    obtain ⟨a, b⟩ := List.pairwise_cons.mp h
    rw [List.flatMap_cons, List.pairwise_append]
    refine ⟨?_, prod_aux hm b, fun p hp q hq => ?_⟩
    · rw [List.pairwise_map]
      exact hm.imp fun z => .inr ⟨rfl, z⟩
    · obtain ⟨y, _, rfl⟩ := List.mem_map.mp hp
      obtain ⟨x2, hx2, hq⟩ := List.mem_flatMap.mp hq
      obtain ⟨y2, _, rfl⟩ := List.mem_map.mp hq
      exact .inl (a x2 hx2)
theorem prod_mem {ns : List Int} {p : Int × Int} (h : p ∈ prod ns) : p.1 ∈ ns ∧ p.2 ∈ ns := by
  obtain ⟨x, hx, hp⟩ := List.mem_flatMap.mp h
  obtain ⟨y, hy, rfl⟩ := List.mem_map.mp hp
  exact ⟨hx, hy⟩
theorem flat_len {ms : List Int} : ∀ (ns : List Int), (ns.flatMap fun x => ms.map fun y => (x, y)).length = ns.length * ms.length
  | [] => by simp
  | x :: ns => by
    rw [List.flatMap_cons, List.length_append, flat_len ns, List.length_map, List.length_cons, Nat.succ_mul]
    omega
/-- the parts of a scheme that a law draws -/
structure Good (b : Int) (ns : List Int) (ps : List (Int × Int)) : Prop where
  b : isBase b = true
  asc : ns.Pairwise (· < ·)
  one : 1 ≤ ns.length
  six : ns.length ≤ 6
  dg : ∀ n ∈ ns, dig n = true
  mem : ∀ p ∈ ps, p.1 ∈ ns ∧ p.2 ∈ ns
  lex : ps.Pairwise lexP
  few : ps.length ≤ 36
/-- the list of these parts in the heap -/
structure ModAt (H : Hp) (m dl pl : Addr) (b : Int) (ns : List Int) (ks : List (Addr × (Int × Int))) : Prop where
  mo : H m = some (.lst [.int b, .ref dl, .ref pl])
  di : H dl = some (.lst (ns.map V.int))
  pa : H pl = some (.lst (ks.map fun p => V.ref p.1))
  pr : ∀ p ∈ ks, H p.1 = some (.tup [.int p.2.1, .int p.2.2])
theorem ModAt.same {H H' : Hp} {m dl pl : Addr} {b : Int} {ns : List Int} {ks : List (Addr × (Int × Int))} (h : ModAt H m dl pl b ns ks) (s : Same H H') : ModAt H' m dl pl b ns ks :=
  ⟨s _ _ h.mo, s _ _ h.di, s _ _ h.pa, fun p hp => s _ _ (h.pr p hp)⟩
/-- the law's parts of a scheme at m, wherever but the box at a may change -/
def Model (a : Addr) (H : Hp) (m : Addr) (b : Int) (ns : List Int) (ps : List (Int × Int)) : Prop := ∃ (dl pl : Addr) (ks : List (Addr × (Int × Int))), ks.map (·.2) = ps ∧ ∀ H', But a H H' → ModAt H' m dl pl b ns ks
theorem Model.but {a m : Addr} {H H' : Hp} {b : Int} {ns : List Int} {ps : List (Int × Int)} (h : Model a H m b ns ps) (t : But a H H') : Model a H' m b ns ps := by
  obtain ⟨dl, pl, ks, e, z⟩ := h
  exact ⟨dl, pl, ks, e, fun H2 t2 => z H2 (t.trans t2)⟩

/-! ### digits, drawn -/
theorem mA_cases {b : Int} (h : isBase b = true) : mA b = 2 ∨ mA b = 3 ∨ mA b = 4 ∨ mA b = 5 ∨ mA b = 6 := by
  unfold isBase at h
  unfold mA
  simp only [Bool.or_eq_true, Bool.and_eq_true, decide_eq_true_eq] at h
  split <;> omega
def spDigits : Sp := fun vs H Q _ => ∃ (a : Addr) (b n : Int), vs = [.ref a, .int b] ∧ Box n H a ∧ n ≤ 800000 ∧ isBase b = true ∧
  ∀ (D : Addr) (ns : List Int) (H' : Hp), H D = none → But a H H' → Box (n + 30) H' a → H' D = some (.lst (ns.map V.int)) → ns.Nodup → 1 ≤ ns.length → ns.length ≤ 6 → (∀ k ∈ ns, dig k = true) → Q (.ref D) H'
abbrev nDi : List Str := ["_law_box_here", "_law_base", "_law_way", "_law_many", "_law_first", "_law_some", "_law_pool", "_law_k", "_law_digit"]
theorem scDi : FnScope nDi ["_law_box_here", "_law_base"] (defScope sDigits) := ⟨rfl, rfl, rfl, by decide +kernel, rfl, by decide +kernel, by decide +kernel⟩
theorem rg_ints (a b : Int) : rgV a b = ((List.range (b - a).toNat).map fun (i : Nat) => a + (i : Int)).map V.int := by
  unfold rgV
  rw [List.map_map]
  rfl
theorem rg_nodup (a : Int) (n : Nat) : ((List.range n).map fun (i : Nat) => a + (i : Int)).Nodup := by
  rw [List.nodup_iff_pairwise_ne, List.pairwise_map]
  refine List.nodup_range.imp fun {i j} h e => h ?_
  omega
theorem dig_of {k : Int} (h : -9 ≤ k) (h2 : k ≤ 9) : dig k = true := by
  unfold dig
  rw [decide_eq_true h, decide_eq_true h2]
  rfl
/-- what the second way makes: one number for each remainder -/
def Spread (m : Int) (vs : List Int) (lo hi : Int) : Prop := ∀ (j : Nat) (v : Int), vs[j]? = some v → ∃ c : Int, v = j + m * c ∧ lo ≤ c ∧ c ≤ hi
theorem spread_push {m lo hi c : Int} {vs : List Int} (h : Spread m vs lo hi) (h0 : lo ≤ c) (h1 : c ≤ hi) : Spread m (vs ++ [vs.length + m * c]) lo hi := by
  intro j v e
  rcases Nat.lt_trichotomy j vs.length with z | z | z
  · rw [List.getElem?_append_left z] at e
    exact h j v e
  · subst z
    rw [List.getElem?_append_right (Nat.le_refl _), Nat.sub_self] at e
    cases Option.some.inj e
    exact ⟨c, rfl, h0, h1⟩
  · rw [List.getElem?_eq_none (by rw [List.length_append]; show vs.length + 1 ≤ j; omega)] at e
    cases e
theorem spread_nodup {m lo hi : Int} {vs : List Int} (h : Spread m vs lo hi) (hm : m = 2 ∨ m = 3 ∨ m = 4 ∨ m = 5 ∨ m = 6) (hl : (vs.length : Int) ≤ m) : vs.Nodup := by
  rw [List.nodup_iff_pairwise_ne, List.pairwise_iff_getElem]
  intro i j hi hj hij e
  obtain ⟨c, e1, _⟩ := h i _ (List.getElem?_eq_getElem hi)
  obtain ⟨d, e2, _⟩ := h j _ (List.getElem?_eq_getElem hj)
  rw [e1, e2] at e
  rcases hm with rfl | rfl | rfl | rfl | rfl <;> omega
set_option maxHeartbeats 2000000 in
theorem ok_digits {f fT : Addr} {fd fdT : FuncData} (F : Fun K "_law_digits" "_law_digits" sDigits f fd) (FT : Fun K "_law_take" "_law_take" sTake fT fdT) (gT : mg "_law_take" = some (.ref fT)) (bT : Binds K fdT ["_law_box_here", "_law_many"] [])
    (mi : mg "int" = none) (ml : mg "len" = none) (mr : mg "range" = none) (ms : mg "list" = none) (ma : mg "abs" = none) : FnOk P w K mg base CX0 2 f fd ["_law_box_here", "_law_base"] spDigits := by
  have GT : FnOk P w K mg base CX0 1 fT fdT ["_law_box_here", "_law_many"] spTake := ok_take FT mi
  refine F.ok scDi (fun vs H Q E h => ?_) (fun cdv A outer s H vs Q E hr h => ?_)
  · obtain ⟨a, b, n, rfl, _⟩ := h
    rfl
  · obtain ⟨a, b, n, rfl, hB, hn, hb, q⟩ := h
    apply Exists.intro
    apply And.intro
    · apply pss_cons
      · exact ps_par (i := 2) (j := 3) rfl scDi.nd rfl rfl (by decide) rfl rfl (pa_cons (pe_call GT hr (by rfl) gT FT.kp bT .nil pass0 (pa_cons (pv 0) (pa_cons pe_int pa_nil))) (pa_cons (pe_op op_add pe_int (pe_call GT hr (by rfl) gT FT.kp bT .nil pass0 (pa_cons (pv 0) (pa_cons pe_int pa_nil)))) pa_nil)) (by rfl)
      apply pss_cons
      · exact ps_if (pt_cmpR op_eq (pv 2) pe_int (nomark _)) (pss_cons (ps_set (i := 4) scDi.nd rfl (.inl rfl) (pe_op op_sub (pe_call GT hr (by rfl) gT FT.kp bT .nil pass0 (pa_cons (pv 0) (pa_cons pe_int pa_nil))) pe_int))
          (pss_one (ps_ret (pe_listRg rfl (by rfl) ms (prg_2 (by rfl) mr (pv 4) (pe_op op_add (pv 4) (pv 3))))))) pss_nil
      apply pss_cons
      · exact ps_if (pt_cmpR op_eq (pv 2) pe_int (nomark _)) (pss_cons (ps_setLc (i := 5) (own := [("_law_k", 7)]) (g := gName 7) (tt := tYes) rfl scDi.nd rfl rfl (sw_true rfl rfl rfl (by decide +kernel)) (pi_range1 rfl mr (pa_cons (pe_callB call_abs (by rfl) ma (by decide +kernel) (pa_cons (pv 1) pa_nil)) pa_nil))
              (blkOk_by (own := [("_law_k", 7)]) (N := nDi) (sc := defScope sDigits) (by decide +kernel)) (fun _ _ _ _ _ => pg_name (i := 7) scDi.nd rfl (Or.inl rfl)) (fun _ _ _ _ _ => pts_nil)
              (fun _ _ _ _ _ => by exact (pe_op op_add (pv 7) (pe_op op_mul (pe_callB call_abs (by rfl) ma (by decide +kernel) (pa_cons (pv 1) pa_nil)) (pe_op op_sub (pe_call GT hr (by rfl) gT FT.kp bT .nil pass0 (pa_cons (pv 0) (pa_cons pe_int pa_nil))) pe_int)))))
          (pss_one (ps_ret (pe_lc (own := [("_law_digit", 8)]) (g := gName 8) (tt := tYes) rfl scDi.nd (pi_list (pv 5)) (blkOk_by (own := [("_law_digit", 8)]) (N := nDi) (sc := defScope sDigits) (by decide +kernel)) (fun _ _ _ _ _ => pg_name (i := 8) scDi.nd rfl (Or.inl rfl)) (fun _ _ _ _ _ => pts_nil)
              (fun _ _ _ _ _ => by exact (pe_op op_sub (pv 8) (pe_op op_mul (pe_callB call_abs (by rfl) ma (by decide +kernel) (pa_cons (pv 1) pa_nil)) (pe_callTy call_int1 (by rfl) mi PyProof.Rows.boot_int (pa_cons (pe_cmpR op_gt (pv 8) pe_int (nomark _)) pa_nil)))))))) ) pss_nil
      apply pss_cons
      · exact ps_set (i := 6) scDi.nd rfl (.inr rfl) (pe_listRg rfl (by rfl) ms (prg_2 (by rfl) mr (pe_un un_neg pe_int) pe_int))
      apply pss_one
      · exact ps_ret (pe_lc (own := [("_law_k", 7)]) (g := gName 7) (tt := tYes) (te := tBM K "list" rPopAt (tVar 6) (tCons (tCall spTake [] E0 (tCons (tVar 0) (tCons (tCB (rLenS K) (tCons (tVar 6) tNil)) tNil))) tNil)) rfl scDi.nd (pi_range1 rfl mr (pa_cons (pv 3) pa_nil))
        (blkOk_by (own := [("_law_k", 7)]) (N := nDi) (sc := defScope sDigits) (by decide +kernel)) (fun _ _ _ _ _ => pg_name (i := 7) scDi.nd rfl (Or.inl rfl)) (fun _ _ _ _ _ => pts_nil)
        (fun _ _ _ _ _ => by exact (pe_bm PySem.F.plainAttrs_list PySem.F.slot_list_pop PySem.F.type_list_pop mt_popAt (pv 6)
          (pa_cons (pe_call GT hr (by rfl) gT FT.kp bT .nil pass0 (pa_cons (pv 0) (pa_cons (pe_callB call_len_seq (by rfl) ml PySem.boot_len (pa_cons (pv 6) pa_nil)) pa_nil))) pa_nil))))
    refine ⟨.ref a, rfl, a, 4, n, rfl, hB, by omega, by decide, by decide, fun wy H1 w0 w1 t1 B1 => ?_⟩
    refine ⟨.ref a, rfl, a, 6, n + 1, rfl, B1, by omega, by decide, by decide, fun mm H2 m0 m1 t2 B2 => ?_⟩
    have T2 := t1.trans t2
    refine ⟨1, mm, rfl, rfl, .int wy, .int (1 + mm), rfl, ?_⟩
    refine ⟨.int wy, rfl, rfl, _, rfl, ite2 (fun c => ?_) (fun c => ?_)⟩
    · refine ⟨.ref a, rfl, a, 4, n + 1 + 1, rfl, B2, by omega, by decide, by decide, fun r H3 r0 r1 t3 B3 => ?_⟩
      refine ⟨r, 3, rfl, rfl, .int (r - 3), rfl, .int (r - 3), rfl, .int (1 + mm), rfl, r - 3, 1 + mm, rfl, rfl, r - 3, r - 3 + (1 + mm), rfl, rfl, ⟨by omega, by omega, by omega, by omega, by omega⟩, fun D hD => ?_⟩
      have nDa := B3.ne hD
      have hD0 : H D = none := (T2.trans t3).free_ nDa hD
      refine q D ((List.range (r - 3 + (1 + mm) - (r - 3)).toNat).map fun (i : Nat) => (r - 3) + (i : Int)) _ hD0 ((T2.trans t3).trans (But.new hD)) ((B3.new hD).mono (by omega)) ?_ (rg_nodup _ _) ?_ ?_ fun k hk => ?_
      · rw [upd_same, rg_ints]
      · rw [List.length_map, List.length_range]
        omega
      · rw [List.length_map, List.length_range]
        omega
      · obtain ⟨i, hi, rfl⟩ := List.mem_map.mp hk
        have := List.mem_range.mp hi
        exact dig_of (by omega) (by omega)
    · refine ⟨.int wy, rfl, rfl, _, rfl, ite2 (fun c1 => ?_) (fun c1 => ?_)⟩
      · have hm := mA_cases hb
        refine ⟨.int b, rfl, b, rfl, mA b, rfl, by omega, by omega, fun D hD => ?_⟩
        have nDa := B2.ne hD
        refine lc_range (lo := 0) (n := (mA b).toNat) (fun i H' => But a H2 H' ∧ Box (n + 2 + i) H' a ∧ ∃ ws : List Int, H' D = some (.lst (ws.map V.int)) ∧ ws.length = i ∧ Spread (mA b) ws (-1) 1) ⟨But.new hD, (B2.new hD).mono (by omega), [], upd_same, rfl, fun j v e => by simp at e⟩ ?_ ?_
        · rintro i H' hi ⟨t, B, ws, eD, lw, hs⟩
          refine ⟨rfl, tYes_if ⟨.int (0 + i), rfl, .int b, rfl, b, rfl, .ref a, rfl, a, 3, n + 2 + i, rfl, B, by omega, by decide, by decide, fun r H3 r0 r1 t3 B3 => ?_⟩⟩
          refine ⟨r, 1, rfl, rfl, mA b, r - 1, rfl, rfl, .inl ⟨by omega, by omega⟩, 0 + i, mA b * (r - 1), rfl, rfl, _, t3 _ _ nDa eD, ?_, (t.trans t3).store hD, (B3.upd nDa).mono (by omega), ws ++ [(ws.length : Int) + mA b * (r - 1)], ?_, ?_, spread_push hs (by omega) (by omega)⟩
          · rw [List.length_map, lw]
            exact small1000 (by omega)
          · rw [upd_same, List.map_append, lw, Int.zero_add]
            rfl
          · rw [List.length_append, lw]
            rfl
        · rintro H3 ⟨t, B, ws, eD, lw, hs⟩
          refine ⟨.ref D, rfl, D, rfl, ⟨_, SqL.of eD⟩, fun D2 hD2 => ?_⟩
          have nD2a := B.ne hD2
          have hD20 : H D2 = none := (T2.trans t).free_ nD2a hD2
          refine lc_list (K := K) (a := D) (xs := ws.map V.int) (fun i H' => Same H3 H' ∧ ∃ ms : List Int, H' D2 = some (.lst (ms.map V.int)) ∧ ms.length = i ∧ Spread (mA b) ms (-2) 1 ∧ ∀ k ∈ ms, dig k = true) ⟨same_new hD2, [], upd_same, rfl, (fun j v e => by simp at e), fun k h => by cases h⟩ (fun i H' _ h => SqL.of (h.1 _ _ eD)) ?_ ?_
          · rintro i x H' hx ⟨s3, ms, e2, lm, sp, dg⟩
            obtain ⟨v, hv, rfl⟩ := get_map hx
            obtain ⟨c0, ev, c1', c2'⟩ := hs i v hv
            have hi : i < ws.length := (List.getElem?_eq_some_iff.mp hv).1
            have key : ∃ cc : Int, v - mA b * (if (decide ((9 : Int) < v)) = true then 1 else 0) = (i : Int) + mA b * cc ∧ -2 ≤ cc ∧ cc ≤ 1 ∧ -9 ≤ (i : Int) + mA b * cc ∧ (i : Int) + mA b * cc ≤ 9 := by
              by_cases h9 : (9 : Int) < v
              · rw [decide_eq_true h9, if_pos rfl]
                refine ⟨c0 - 1, ?_, by omega, by omega, ?_, ?_⟩ <;> rcases hm with e | e | e | e | e <;> rw [e] at ev lw ⊢ <;> omega
              · rw [decide_eq_false h9, if_neg (by decide)]
                refine ⟨c0, ?_, by omega, by omega, ?_, ?_⟩ <;> rcases hm with e | e | e | e | e <;> rw [e] at ev lw ⊢ <;> omega
            obtain ⟨cc, ek, k1, k2, k3, k4⟩ := key
            refine ⟨rfl, tYes_if ⟨.int v, rfl, .int b, rfl, b, rfl, .int v, rfl, v, 9, rfl, rfl, .inr ⟨_, rfl, mA b, (if (decide ((9 : Int) < v)) = true then 1 else 0), rfl, rfl, .inl ⟨by omega, by omega⟩, v, mA b * (if (decide ((9 : Int) < v)) = true then 1 else 0), rfl, rfl, _, e2, ?_, Same.store s3 hD2, ms ++ [(ms.length : Int) + mA b * cc], ?_, ?_, spread_push sp k1 k2, fun k hk => ?_⟩⟩⟩
            · rw [List.length_map, lm]
              exact small1000 (by omega)
            · rw [upd_same, List.map_append, lm, ← ek]
              rfl
            · rw [List.length_append, lm]
              rfl
            · rcases List.mem_append.mp hk with z | z
              · exact dg k z
              · cases List.mem_singleton.mp z
                rw [lm]
                exact dig_of k3 k4
          · rintro H4 ⟨s4, ms, e2, lm, sp, dg⟩
            rw [List.length_map] at lm
            refine q D2 ms H4 hD20 ((T2.trans t).trans (But.of_same s4)) ((B.same s4).mono (by omega)) e2 (spread_nodup sp hm (by omega)) (by omega) (by omega) dg
      · refine ⟨9, rfl, -9, 10, rfl, rfl, ⟨by decide, by decide, by decide, by decide, by decide⟩, fun l hl => ?_⟩
        have nla := B2.ne hl
        have hl0 : H l = none := T2.free_ nla hl
        have el : (upd H2 l (.lst (rgV (-9) 10))) l = some (.lst (((List.range 19).map fun (i : Nat) => (-9 : Int) + (i : Int)).map V.int)) := by
          rw [upd_same, rg_ints]
          rfl
        have tn : But a H2 (upd H2 l (.lst (rgV (-9) 10))) := But.new hl
        have Bn : Box (n + 2) (upd H2 l (.lst (rgV (-9) 10))) a := (B2.new hl).mono (by omega)
        have nfull : ((List.range 19).map fun (i : Nat) => (-9 : Int) + (i : Int)).Nodup := rg_nodup _ _
        have dfull : ∀ k ∈ ((List.range 19).map fun (i : Nat) => (-9 : Int) + (i : Int)), dig k = true := by decide +kernel
        have lfull : ((List.range 19).map fun (i : Nat) => (-9 : Int) + (i : Int)).length = 19 := by decide +kernel
        generalize ((List.range 19).map fun (i : Nat) => (-9 : Int) + (i : Int)) = full at el nfull dfull lfull
        generalize upd H2 l (.lst (rgV (-9) 10)) = H3 at el tn Bn ⊢
        refine ⟨.int (1 + mm), rfl, 1 + mm, rfl, by omega, by omega, fun D hD => ?_⟩
        have hDl : D ≠ l := fun e => by rw [e, el] at hD; cases hD
        have nDa := Bn.ne hD
        have hD0 : H D = none := (T2.trans tn).free_ nDa hD
        refine lc_range (lo := 0) (n := (1 + mm).toNat) (fun i H' => But a H H' ∧ Box (n + 2 + i) H' a ∧ ∃ ls acc : List Int, H' l = some (.lst (ls.map V.int)) ∧ H' D = some (.lst (acc.map V.int)) ∧ acc.length = i ∧ (acc ++ ls).Perm full) ?_ ?_ ?_
        · exact ⟨(T2.trans tn).trans (But.new hD), (Bn.new hD).mono (by omega), full, [], by rw [upd_ne hDl.symm]; exact el, upd_same, rfl, List.Perm.refl _⟩
        · rintro i H' hi ⟨t, B, ls, acc, el2, ea, la, pm⟩
          have ll : ls.length + i = 19 := by
            have := pm.length_eq
            rw [List.length_append, lfull] at this
            omega
          refine ⟨rfl, tYes_if ?_⟩
          refine ⟨.ref l, rfl, .inl ⟨rfl, _, SqL.of el2⟩, .ref a, rfl, .ref l, rfl, l, _, rfl, .inl (SqL.of el2), a, ((ls.map V.int).length : Int), n + 2 + i, rfl, B, by omega, by rw [List.length_map]; omega, by rw [List.length_map, Int.natAbs_natCast]; exact Nat.lt_of_le_of_lt (by omega : ls.length ≤ 19) (by decide), fun r H4 r0 r1 t4 B4 => ?_⟩
          rw [List.length_map] at r1
          have e4 : H4 l = some (.lst (ls.map V.int)) := t4 _ _ nla el2
          have hk : r.toNat < ls.length := by omega
          have hk2 : (ls.map V.int)[r.toNat]? = some (.int ls[r.toNat]) := by
            rw [List.getElem?_map, List.getElem?_eq_getElem hk]
            rfl
          refine ⟨l, ls.map V.int, r, r.toNat, .int ls[r.toNat], rfl, rfl, e4, by omega, by omega, (ixN_seq (ixN_in r0 (by rw [List.length_map]; omega))).1, hk2, ?_⟩
          refine ⟨acc.map V.int, ?_, by rw [List.length_map, la]; exact small1000 (by omega), ?_⟩
          · rw [upd_ne hDl]
            exact t4 _ _ nDa ea
          · refine ⟨((t.trans t4).store hl0).store hD0, ((B4.upd nla).upd nDa).mono (by omega), ls.eraseIdx r.toNat, acc ++ [ls[r.toNat]], ?_, ?_, ?_, ?_⟩
            · rw [upd_ne hDl.symm, upd_same, erase_map]
            · rw [upd_same, List.map_append]
              rfl
            · rw [List.length_append, la]
              rfl
            · rw [List.append_assoc]
              exact (List.Perm.append_left acc (erase_perm ls r.toNat hk)).trans pm
        · rintro H' ⟨t, B, ls, acc, el2, ea, la, pm⟩
          have nd : acc.Nodup := (List.nodup_append.mp (pm.nodup_iff.mpr nfull)).1
          refine q D acc H' hD0 t (B.mono (by omega)) ea nd (by omega) (by omega) fun k hk => dfull k (pm.mem_iff.mp (List.mem_append_left _ hk))

/-! ### pairs -/
def spPairs (K : PySem.W.Frag) : Sp := fun vs H Q _ => ∃ (dl : Addr) (ns : List Int), vs = [.ref dl] ∧ SqL K H dl (ns.map V.int) ∧ ns.length ≤ 6 ∧
  ∀ (pl : Addr) (ks : List (Addr × (Int × Int))) (H' : Hp), Same H H' → H pl = none → H' pl = some (.lst (ks.map fun p => V.ref p.1)) → (∀ p ∈ ks, H p.1 = none ∧ H' p.1 = some (.tup [.int p.2.1, .int p.2.2])) → ks.map (·.2) = prod ns → Q (.ref pl) H'
abbrev nPa : List Str := ["_law_digits_here", "_law_found", "_law_left", "_law_beside"]
theorem scPa : FnScope nPa ["_law_digits_here"] (defScope sPairs) := ⟨rfl, rfl, rfl, by decide +kernel, rfl, by decide +kernel, by decide +kernel⟩
theorem ok_pairs {f : Addr} {fd : FuncData} (F : Fun K "_law_pairs" "_law_pairs" sPairs f fd) : FnOk P w K mg base CX0 1 f fd ["_law_digits_here"] (spPairs K) := by
  refine F.ok scPa (fun vs H Q E h => ?_) (fun cdv A outer s H vs Q E hr h => ?_)
  · obtain ⟨dl, ns, rfl, _⟩ := h
    rfl
  · obtain ⟨dl, ns, rfl, hd, h6, q⟩ := h
    apply Exists.intro
    apply And.intro
    · apply pss_cons
      · exact ps_set (i := 1) scPa.nd rfl (.inl rfl) (pe_lst pa_nil)
      apply pss_cons
      · exact ps_for PassesOwn.never rfl (pi_list (pv 0)) (pg_name (i := 2) scPa.nd rfl (.inr rfl))
          (pss_one (ps_set (i := 1) scPa.nd rfl (.inl rfl) (pe_op op_cat (pv 1) (pe_lc (own := [("_law_beside", 3)]) (g := gName 3) (tt := tYes) rfl scPa.nd (pi_list (pv 0)) (blkOk_by (own := [("_law_beside", 3)]) (N := nPa) (sc := defScope sPairs) (by decide +kernel)) (fun _ _ _ _ _ => pg_name (i := 3) scPa.nd rfl (Or.inl rfl)) (fun _ _ _ _ _ => pts_nil)
            (fun _ _ _ _ _ => by exact (pe_tup (pa_cons (pv 2) (pa_cons (pv 3) pa_nil))))))))
      apply pss_one
      · exact ps_ret (pv 1)
    refine ⟨(by show 0 ≤ sizeLine; decide), fun p0 hp0 => ?_⟩
    have s0 := same_new (o := .lst []) hp0
    refine ⟨.ref dl, rfl, dl, rfl, ⟨_, s0.seq hd⟩, for_list (K := K) (a := dl) (xs := ns.map V.int) (fun i σ H' => ∃ (p : Addr) (v : Option V) (ks : List (Addr × (Int × Int))), σ = [some (.ref dl), some (.ref p), v, none] ∧ Same H H' ∧ H p = none ∧ H' p = some (.lst (ks.map fun p => V.ref p.1)) ∧ (∀ p ∈ ks, H p.1 = none ∧ H' p.1 = some (.tup [.int p.2.1, .int p.2.2])) ∧ ks.map (·.2) = (ns.take i).flatMap fun x => ns.map fun y => (x, y))
      ⟨p0, none, [], rfl, s0, hp0, upd_same, (fun p h => by cases h), rfl⟩ (fun i σ H' _ h => by obtain ⟨_, _, _, _, s, _⟩ := h; exact s.seq hd) ?_ ?_⟩
    · rintro i x σ H1 hx ⟨p, v, ks, rfl, s1, hp, ep, ek, em⟩
      obtain ⟨n, hn, rfl⟩ := get_map hx
      have hlk : ks.length ≤ 36 := by
        have e := congrArg List.length em
        rw [List.length_map, flat_len] at e
        have h1 : (ns.take i).length ≤ 6 := Nat.le_trans (List.length_take_le' _ _) h6
        rw [e]
        exact Nat.le_trans (Nat.mul_le_mul h1 h6) (by decide)
      refine ⟨.ref p, rfl, .ref dl, rfl, dl, rfl, ⟨_, s1.seq hd⟩, fun D hD => ?_⟩
      refine lc_list (K := K) (a := dl) (xs := ns.map V.int) (fun j H' => Same H1 H' ∧ ∃ kk : List (Addr × (Int × Int)), H' D = some (.lst (kk.map fun p => V.ref p.1)) ∧ kk.length = j ∧ (∀ p ∈ kk, H1 p.1 = none ∧ H' p.1 = some (.tup [.int p.2.1, .int p.2.2])) ∧ kk.map (·.2) = (ns.take j).map fun y => (n, y)) ⟨same_new hD, [], upd_same, rfl, (fun p h => by cases h), rfl⟩ (fun j H' _ h => (s1.trans h.1).seq hd) ?_ ?_
      · rintro j y H2 hy ⟨s2, kk, eD, lk, ekk, emk⟩
        obtain ⟨m, hm, rfl⟩ := get_map hy
        have hj : j < ns.length := (List.getElem?_eq_some_iff.mp hm).1
        refine ⟨rfl, tYes_if ⟨.int n, rfl, .int m, rfl, (by show 2 ≤ sizeLine; decide), fun T hT => ?_⟩⟩
        have s3 := same_new (o := .tup [.int n, .int m]) hT
        have hT1 : H1 T = none := s2.free hT
        refine ⟨kk.map (fun p => V.ref p.1), s3 _ _ eD, ?_, Same.store (s2.trans s3) hD, kk ++ [(T, (n, m))], ?_, ?_, fun p hp => ?_, ?_⟩
        · rw [List.length_map, lk]
          exact small1000 (by omega)
        · rw [upd_same, List.map_append]
          rfl
        · rw [List.length_append, lk]
          rfl
        · have nTD : p.1 = T → p.1 ≠ D := fun e z => by
            have h1 := s3 _ _ eD
            rw [← z, e, upd_same] at h1
            cases h1
          rcases List.mem_append.mp hp with h | h
          · obtain ⟨h1, h2⟩ := ekk p h
            refine ⟨h1, ?_⟩
            have h3 := s3 _ _ h2
            rw [upd_ne (fun z => by rw [z] at h2; rw [eD] at h2; cases h2)]
            exact h3
          · cases List.mem_singleton.mp h
            refine ⟨hT1, ?_⟩
            rw [upd_ne (nTD rfl)]
            exact upd_same
        · rw [List.map_append, take_more hm, List.map_append, emk]
          rfl
      · rintro H2 ⟨s2, kk, eD, lk, ekk, emk⟩
        rw [List.length_map] at lk emk
        rw [List.take_length] at emk
        have ep2 := s2 _ _ ep
        refine ⟨p, D, _, _, rfl, rfl, ep2, eD, ?_, fun p3 hp3 => ?_⟩
        · rw [List.length_map, List.length_map, sizeLine_eq]
          omega
        have s4 := same_new (o := .lst ((ks.map fun p => V.ref p.1) ++ kk.map fun p => V.ref p.1)) hp3
        have s14 := s1.trans (s2.trans s4)
        refine ⟨p3, some (.int n), ks ++ kk, rfl, s14, (s1.trans s2).free hp3, ?_, fun r hr2 => ?_, ?_⟩
        · rw [upd_same, List.map_append]
        · rcases List.mem_append.mp hr2 with h | h
          · exact ⟨(ek r h).1, (s2.trans s4) _ _ (ek r h).2⟩
          · exact ⟨s1.free (ekk r h).1, s4 _ _ (ekk r h).2⟩
        · rw [List.map_append, em, emk, take_more hn, List.flatMap_append]
          simp only [List.flatMap_cons, List.flatMap_nil, List.append_nil]
    · rintro σ H1 ⟨p, v, ks, rfl, s1, hp, ep, ek, em⟩
      rw [List.length_map, List.take_length] at em
      exact ⟨_, rfl, q p ks H1 s1 hp ep ek em⟩

/-! ### a scheme's parts, drawn -/
def spScheme : Sp := fun vs H Q _ => ∃ (a : Addr) (n : Int), vs = [.ref a] ∧ Box n H a ∧ n ≤ 700000 ∧
  ∀ (m : Addr) (b : Int) (ns : List Int) (ps : List (Int × Int)) (H' : Hp), But a H H' → Box (n + 100) H' a → Good b ns ps → Model a H' m b ns ps → Q (.ref m) H'
abbrev nSc : List Str := ["_law_box_here", "_law_base", "_law_digits_here", "_law_way", "_law_pairs_here", "_law_pair"]
theorem scSc : FnScope nSc ["_law_box_here"] (defScope sScheme) := ⟨rfl, rfl, rfl, by decide +kernel, rfl, by decide +kernel, by decide +kernel⟩
theorem bases_ok : ∀ b ∈ ([2, -2, 3, -3, 2, -4, 4, 5, -5, 6, -6] : List Int), isBase b = true := by decide
theorem strict_of {ns : List Int} (h : ns.Pairwise (· ≤ ·)) (nd : ns.Nodup) : ns.Pairwise (· < ·) := by
  rw [List.nodup_iff_pairwise_ne] at nd
  exact (h.and nd).imp fun ⟨h1, h2⟩ => by omega
theorem good_of {b : Int} {ns : List Int} {ps : List (Int × Int)} (hb : isBase b = true) (asc : ns.Pairwise (· < ·)) (h1 : 1 ≤ ns.length) (h6 : ns.length ≤ 6) (dg : ∀ n ∈ ns, dig n = true) (sub : ps.Sublist (prod ns)) : Good b ns ps := by
  refine ⟨hb, asc, h1, h6, dg, fun p hp => prod_mem (sub.subset hp), (prod_aux asc asc).sublist sub, ?_⟩
  have e : (prod ns).length = ns.length * ns.length := flat_len ns
  exact Nat.le_trans sub.length_le (by rw [e]; exact Nat.le_trans (Nat.mul_le_mul h6 h6) (by decide))
set_option maxHeartbeats 2000000 in
theorem ok_scheme {f fT fD fP : Addr} {fd fdT fdD fdP : FuncData} (F : Fun K "_law_scheme" "_law_scheme" sScheme f fd) (FT : Fun K "_law_take" "_law_take" sTake fT fdT) (gT : mg "_law_take" = some (.ref fT)) (bT : Binds K fdT ["_law_box_here", "_law_many"] [])
    (GD : FnOk P w K mg base CX0 2 fD fdD ["_law_box_here", "_law_base"] spDigits) (gD : mg "_law_digits" = some (.ref fD)) (kD : PySem.W.keepIn K (.ref fD) = true) (bD : Binds K fdD ["_law_box_here", "_law_base"] [])
    (GP : FnOk P w K mg base CX0 1 fP fdP ["_law_digits_here"] (spPairs K)) (gP : mg "_law_pairs" = some (.ref fP)) (kP : PySem.W.keepIn K (.ref fP) = true) (bP : Binds K fdP ["_law_digits_here"] [])
    (mi : mg "int" = none) (mso : mg "sorted" = none) : FnOk P w K mg base CX0 3 f fd ["_law_box_here"] spScheme := by
  have GT : FnOk P w K mg base CX0 1 fT fdT ["_law_box_here", "_law_many"] spTake := ok_take FT mi
  refine F.ok scSc (fun vs H Q E h => ?_) (fun cdv A outer s H vs Q E hr2 h => ?_)
  · obtain ⟨a, n, rfl, _⟩ := h
    rfl
  · obtain ⟨a, n, rfl, hB, hn, q⟩ := h
    have hr : Room 1 _ := hr2.mono (by decide)
    apply Exists.intro
    apply And.intro
    · apply pss_cons
      · exact ps_set (i := 1) scSc.nd rfl (.inl rfl) (pe_ix ix_list (pe_lst (pa_cons pe_int (pa_cons (pe_un un_neg pe_int) (pa_cons pe_int (pa_cons (pe_un un_neg pe_int) (pa_cons pe_int (pa_cons (pe_un un_neg pe_int) (pa_cons pe_int (pa_cons pe_int (pa_cons (pe_un un_neg pe_int) (pa_cons pe_int (pa_cons (pe_un un_neg pe_int) pa_nil))))))))))))
          (pe_call GT hr (by rfl) gT FT.kp bT .nil pass0 (pa_cons (pv 0) (pa_cons pe_int pa_nil))) (fun _ _ => rfl))
      apply pss_cons
      · exact ps_par (i := 2) (j := 3) rfl scSc.nd rfl rfl (by decide) rfl rfl (pa_cons (pe_callB cr_sorted (by rfl) mso (by decide +kernel) (pa_cons (pe_call GD hr2 (by rfl) gD kD bD .nil pass0 (pa_cons (pv 0) (pa_cons (pv 1) pa_nil))) pa_nil)) (pa_cons (pe_call GT hr (by rfl) gT FT.kp bT .nil pass0 (pa_cons (pv 0) (pa_cons pe_int pa_nil))) pa_nil)) (by rfl)
      apply pss_cons
      · exact ps_set (i := 4) scSc.nd rfl (.inl rfl) (pe_call GP hr (by rfl) gP kP bP .nil pass0 (pa_cons (pv 2) pa_nil))
      apply pss_cons
      · exact ps_if (pt_cmpR op_eq (pv 3) pe_int (nomark _)) (pss_one (ps_ret (pe_lst (pa_cons (pv 1) (pa_cons (pv 2) (pa_cons (pe_lst pa_nil) pa_nil)))))) pss_nil
      apply pss_cons
      · exact ps_if (pt_cmpR op_eq (pv 3) pe_int (nomark _)) (pss_one (ps_ret (pe_lst (pa_cons (pv 1) (pa_cons (pv 2) (pa_cons (pe_lc (own := [("_law_pair", 5)]) (g := gName 5)
            (tt := tAnd (tTest (tOp rNe (tOp (rIxT K) (tVar 5) (tC (.int 0))) (tC (.int 0)))) (tTest (tOp rNe (tOp (rIxT K) (tVar 5) (tC (.int 1))) (tC (.int 0))))) (te := tVar 5) rfl scSc.nd (pi_list (pv 4)) (blkOk_by (own := [("_law_pair", 5)]) (N := nSc) (sc := defScope sScheme) (by decide +kernel)) (fun _ _ _ _ _ => pg_name (i := 5) scSc.nd rfl (Or.inl rfl))
            (fun _ _ _ _ _ => by exact (pts_one (PW.pt (pw_and (pt_cmpR op_ne (pe_ix ix_tup (pv 5) pe_int (fun _ _ => rfl)) pe_int (nomark _)) (pw_and1 (pt_cmpR op_ne (pe_ix ix_tup (pv 5) pe_int (fun _ _ => rfl)) pe_int (nomark _))))))) (fun _ _ _ _ _ => by exact (pv 5))) pa_nil)))))) pss_nil
      apply pss_cons
      · exact ps_if (pt_cmpR op_eq (pv 3) pe_int (nomark _)) (pss_one (ps_ret (pe_lst (pa_cons (pv 1) (pa_cons (pv 2) (pa_cons (pe_lc (own := [("_law_pair", 5)]) (g := gName 5)
            (tt := tTest (tOp rEq (tOp (rIxT K) (tVar 5) (tC (.int 0))) (tOp (rIxT K) (tVar 5) (tC (.int 1))))) (te := tVar 5) rfl scSc.nd (pi_list (pv 4)) (blkOk_by (own := [("_law_pair", 5)]) (N := nSc) (sc := defScope sScheme) (by decide +kernel)) (fun _ _ _ _ _ => pg_name (i := 5) scSc.nd rfl (Or.inl rfl))
            (fun _ _ _ _ _ => by exact (pts_one (pt_cmpR op_eq (pe_ix ix_tup (pv 5) pe_int (fun _ _ => rfl)) (pe_ix ix_tup (pv 5) pe_int (fun _ _ => rfl)) (nomark _)))) (fun _ _ _ _ _ => by exact (pv 5))) pa_nil)))))) pss_nil
      apply pss_one
      · exact ps_ret (pe_lst (pa_cons (pv 1) (pa_cons (pv 2) (pa_cons (pe_lc (own := [("_law_pair", 5)]) (g := gName 5)
            (tt := tTest (tOp rEq (tCall spTake [] E0 (tCons (tVar 0) (tCons (tC (.int 4)) tNil))) (tC (.int 0)))) (te := tVar 5) rfl scSc.nd (pi_list (pv 4)) (blkOk_by (own := [("_law_pair", 5)]) (N := nSc) (sc := defScope sScheme) (by decide +kernel)) (fun _ _ _ _ _ => pg_name (i := 5) scSc.nd rfl (Or.inl rfl))
            (fun _ _ _ _ _ => by exact (pts_one (pt_cmpR op_eq (pe_call GT hr (by rfl) gT FT.kp bT .nil pass0 (pa_cons (pv 0) (pa_cons pe_int pa_nil))) pe_int (nomark _)))) (fun _ _ _ _ _ => by exact (pv 5))) pa_nil))))
    -- the base
    refine ⟨2, rfl, 3, rfl, 4, rfl, 5, rfl, 6, rfl, (by show 11 ≤ sizeLine; decide), fun l0 hl0 => ?_⟩
    have n0 := hB.ne hl0
    refine ⟨.ref a, rfl, a, 11, n, rfl, hB.new hl0, by omega, by decide, by decide, fun r H1 r0 r1 t1 B1 => ?_⟩
    have e0 := t1 _ _ n0 upd_same
    obtain ⟨v, hv, mv⟩ := pick (xs := ([2, -2, 3, -3, 2, -4, 4, 5, -5, 6, -6] : List Int).map V.int) r0 r1
    obtain ⟨b, mb, rfl⟩ := List.mem_map.mp mv
    have hb := bases_ok b mb
    refine ⟨l0, _, r, .int b, rfl, rfl, SqL.of e0, hv, ?_⟩
    have T1 : But a H H1 := (But.new hl0).trans t1
    clear e0 hv mv mb
    -- the digits
    refine ⟨.ref a, rfl, .int b, rfl, a, b, n + 1, rfl, B1, by omega, hb, fun D ns H2 hD t2 B2 eD nd l1 l6 dg => ?_⟩
    refine ⟨D, ns, rfl, SqL.of eD, by omega, fun ns' dl pm srt hdl => ?_⟩
    have ndl := B2.ne hdl
    have asc := strict_of srt (pm.nodup_iff.mpr nd)
    have dg' : ∀ k ∈ ns', dig k = true := fun k hk => dg k (pm.mem_iff.mp hk)
    have l1' : 1 ≤ ns'.length := by rw [pm.length_eq]; exact l1
    have l6' : ns'.length ≤ 6 := by rw [pm.length_eq]; exact l6
    have T2 : But a H (upd H2 dl (.lst (ns'.map V.int))) := (T1.trans t2).trans (But.new hdl)
    refine ⟨.ref a, rfl, a, 4, n + 1 + 30, rfl, B2.new hdl, by omega, by decide, by decide, fun wy H3 w0 w1 t3 B3 => ?_⟩
    have ed := t3 _ _ ndl upd_same
    have T3 := T2.trans t3
    clear pm srt nd dg l1 l6 eD
    refine ⟨.ref dl, .int wy, rfl, ?_⟩
    -- the pairs
    refine ⟨.ref dl, rfl, dl, ns', rfl, SqL.of ed, l6', fun pl ks H4 s4 npl epl ek em => ?_⟩
    have B4 := B3.same s4
    have T4 := T3.trans (But.of_same s4)
    have ed4 := s4 _ _ ed
    have pair : ∀ p ∈ ks, p.1 ≠ a := fun p hp z => by
      obtain ⟨b0, b1, b2, hb0, _⟩ := B3
      have := (ek p hp).1
      rw [z, hb0] at this
      cases this
    have fin : ∀ (H5 : Hp) (fl : Addr) (kk : List (Addr × (Int × Int))) (mo : Addr), But a H4 H5 → Box (n + 90) H5 a → fl ≠ a → H5 fl = some (.lst (kk.map fun p => V.ref p.1)) → kk.Sublist ks → H5 mo = none → Q (.ref mo) (upd H5 mo (.lst [.int b, .ref dl, .ref fl])) := by
      intro H5 fl kk mo t5 B5 nfl efl sub hmo
      have nmo := B5.ne hmo
      have ed5 := t5 _ _ ndl ed4
      have ek5 : ∀ p ∈ kk, H5 p.1 = some (.tup [.int p.2.1, .int p.2.2]) := fun p hp => t5 _ _ (pair p (sub.subset hp)) (ek p (sub.subset hp)).2
      have sub2 : (kk.map (·.2)).Sublist (prod ns') := em ▸ sub.map (·.2)
      refine q mo b ns' (kk.map (·.2)) _ ((T4.trans t5).trans (But.new hmo)) ((B5.new hmo).mono (by omega)) (good_of hb asc l1' l6' dg' sub2) ⟨dl, fl, kk, rfl, fun H6 t6 => ⟨t6 _ _ nmo upd_same, t6 _ _ ndl (same_new hmo _ _ ed5), t6 _ _ nfl (same_new hmo _ _ efl), fun p hp => t6 _ _ (pair p (sub.subset hp)) (same_new hmo _ _ (ek5 p hp))⟩⟩
    have lks : ks.length ≤ 36 := by
      have e := congrArg List.length em
      rw [List.length_map] at e
      have e2 : (prod ns').length = ns'.length * ns'.length := flat_len ns'
      rw [e, e2]
      exact Nat.le_trans (Nat.mul_le_mul l6' l6') (by decide)
    have sub_more : ∀ {i : Nat} {p : Addr × (Int × Int)} {kk : List (Addr × (Int × Int))}, ks[i]? = some p → kk.Sublist (ks.take i) → (kk ++ [p]).Sublist (ks.take (i + 1)) ∧ kk.Sublist (ks.take (i + 1)) := fun {i p kk} hp hs => by
      rw [take_more hp]
      exact ⟨List.Sublist.append hs (List.Sublist.refl _), hs.trans (List.sublist_append_left _ _)⟩
    have small : ∀ {i : Nat} {kk : List (Addr × (Int × Int))}, kk.Sublist (ks.take i) → (kk.map fun p => V.ref p.1).length < sizeLine := fun {i kk} hs => by
      rw [List.length_map]
      have := hs.length_le
      have h2 : (ks.take i).length ≤ ks.length := List.length_take_le' _ _
      exact small1000 (by omega)
    refine ⟨.int wy, rfl, rfl, _, rfl, ite2 (fun c => ?_) (fun c => ?_)⟩
    · refine ⟨.int b, rfl, .ref dl, rfl, (by show 0 ≤ sizeLine; decide), fun fl hfl => ⟨(by show 3 ≤ sizeLine; decide), fun mo hmo => ?_⟩⟩
      exact fin _ fl [] mo (But.new hfl) ((B4.new hfl).mono (by omega)) (B4.ne hfl) upd_same (List.nil_sublist _) hmo
    · refine ⟨.int wy, rfl, rfl, _, rfl, ite2 (fun c1 => ?_) (fun c1 => ?_)⟩
      · refine ⟨.int b, rfl, .ref dl, rfl, .ref pl, rfl, pl, rfl, ⟨_, SqL.of epl⟩, fun D2 hD2 => ?_⟩
        have nD2 := B4.ne hD2
        refine lc_list (K := K) (a := pl) (xs := ks.map fun p => V.ref p.1) (fun i H' => Same H4 H' ∧ ∃ kk, H' D2 = some (.lst (kk.map fun p => V.ref p.1)) ∧ kk.Sublist (ks.take i)) ⟨same_new hD2, [], upd_same, List.nil_sublist _⟩ (fun i H' _ h => SqL.of (h.1 _ _ epl)) ?_ ?_
        · rintro i x H' hx ⟨s5, kk, e5, sub⟩
          obtain ⟨p, hp, rfl⟩ := get_map hx
          have tp := s5 _ _ (ek p (List.mem_of_getElem? hp)).2
          have more := sub_more hp sub
          refine ⟨rfl, .ref p.1, rfl, p.1, _, 0, .int p.2.1, rfl, rfl, SqT.of tp, atI_nat (j := 0) rfl, rfl, _, rfl, ite2 (fun z => ?_) (fun z => ?_)⟩
          · refine ⟨.ref p.1, rfl, p.1, _, 1, .int p.2.2, rfl, rfl, SqT.of tp, atI_nat (j := 1) rfl, rfl, _, rfl, ite2 (fun z2 => ?_) (fun z2 => ?_)⟩
            · exact ⟨.ref p.1, rfl, _, e5, small sub, Same.store s5 hD2, kk ++ [p], by rw [upd_same, List.map_append]; rfl, more.1⟩
            · exact ⟨s5, kk, e5, more.2⟩
          · exact iteF ⟨s5, kk, e5, more.2⟩
        · rintro H' ⟨s5, kk, e5, sub⟩
          refine ⟨(by show 3 ≤ sizeLine; decide), fun mo hmo => fin H' D2 kk mo (But.of_same s5) ((B4.same s5).mono (by omega)) nD2 e5 (sub.trans (List.take_sublist _ _)) hmo⟩
      · refine ⟨.int wy, rfl, rfl, _, rfl, ite2 (fun c2 => ?_) (fun c2 => ?_)⟩
        · refine ⟨.int b, rfl, .ref dl, rfl, .ref pl, rfl, pl, rfl, ⟨_, SqL.of epl⟩, fun D2 hD2 => ?_⟩
          have nD2 := B4.ne hD2
          refine lc_list (K := K) (a := pl) (xs := ks.map fun p => V.ref p.1) (fun i H' => Same H4 H' ∧ ∃ kk, H' D2 = some (.lst (kk.map fun p => V.ref p.1)) ∧ kk.Sublist (ks.take i)) ⟨same_new hD2, [], upd_same, List.nil_sublist _⟩ (fun i H' _ h => SqL.of (h.1 _ _ epl)) ?_ ?_
          · rintro i x H' hx ⟨s5, kk, e5, sub⟩
            obtain ⟨p, hp, rfl⟩ := get_map hx
            have tp := s5 _ _ (ek p (List.mem_of_getElem? hp)).2
            have more := sub_more hp sub
            refine ⟨rfl, .ref p.1, rfl, p.1, _, 0, .int p.2.1, rfl, rfl, SqT.of tp, atI_nat (j := 0) rfl, .ref p.1, rfl, p.1, _, 1, .int p.2.2, rfl, rfl, SqT.of tp, atI_nat (j := 1) rfl, rfl, _, rfl, ite2 (fun z => ?_) (fun z => ?_)⟩
            · exact ⟨.ref p.1, rfl, _, e5, small sub, Same.store s5 hD2, kk ++ [p], by rw [upd_same, List.map_append]; rfl, more.1⟩
            · exact ⟨s5, kk, e5, more.2⟩
          · rintro H' ⟨s5, kk, e5, sub⟩
            refine ⟨(by show 3 ≤ sizeLine; decide), fun mo hmo => fin H' D2 kk mo (But.of_same s5) ((B4.same s5).mono (by omega)) nD2 e5 (sub.trans (List.take_sublist _ _)) hmo⟩
        · refine ⟨.int b, rfl, .ref dl, rfl, .ref pl, rfl, pl, rfl, ⟨_, SqL.of epl⟩, fun D2 hD2 => ?_⟩
          have nD2 := B4.ne hD2
          have npa : pl ≠ a := fun z => by
            obtain ⟨b0, b1, b2, hb0, _⟩ := B3
            rw [z, hb0] at npl
            cases npl
          refine lc_list (K := K) (a := pl) (xs := ks.map fun p => V.ref p.1) (fun i H' => But a H4 H' ∧ Box (n + 32 + i) H' a ∧ ∃ kk, H' D2 = some (.lst (kk.map fun p => V.ref p.1)) ∧ kk.Sublist (ks.take i)) ⟨But.new hD2, (B4.new hD2).mono (by omega), [], upd_same, List.nil_sublist _⟩ (fun i H' _ h => SqL.of (h.1 _ _ npa epl)) ?_ ?_
          · rintro i x H' hx ⟨t5, B5, kk, e5, sub⟩
            obtain ⟨p, hp, rfl⟩ := get_map hx
            have hi : i < ks.length := (List.getElem?_eq_some_iff.mp hp).1
            have more := sub_more hp sub
            refine ⟨rfl, .ref a, rfl, a, 4, n + 32 + i, rfl, B5, by omega, by decide, by decide, fun r2 H6 k0 k1 t6 B6 => ⟨rfl, _, rfl, ite2 (fun z => ?_) (fun z => ?_)⟩⟩
            · exact ⟨.ref p.1, rfl, _, t6 _ _ nD2 e5, small sub, (t5.trans t6).store hD2, (B6.upd nD2).mono (by omega), kk ++ [p], by rw [upd_same, List.map_append]; rfl, more.1⟩
            · exact ⟨t5.trans t6, B6.mono (by omega), kk, t6 _ _ nD2 e5, more.2⟩
          · rintro H' ⟨t5, B5, kk, e5, sub⟩
            rw [List.length_map] at B5
            refine ⟨(by show 3 ≤ sizeLine; decide), fun mo hmo => fin H' D2 kk mo t5 (B5.mono (by omega)) nD2 e5 (sub.trans (List.take_sublist _ _)) hmo⟩

def hasP (ps : List (Int × Int)) (x y : Int) : Bool := (ps.map pd2).any fun z => PyData.eqv z (pd2 (x, y))
theorem eqv_nilL : ∀ ds : List PyData, PyData.eqv (.list ds) (.list []) = ds.isEmpty
  | [] => by simp [PyData.eqv, PyData.eqvAll]
  | d :: ds => by simp [PyData.eqv, PyData.eqvAll]
theorem nil_shaped : SeqAt.shaped (.list []) = true := by decide +kernel
theorem ps_shaped {ks : List (Addr × (Int × Int))} {ps : List (Int × Int)} (e : ks.map (·.2) = ps) : SeqAt.shaped (.list (ps.map pd2)) = true := by
  obtain ⟨h1, h2⟩ := bars_can ks
  have e2 : (ks.map fun p => pd2 p.2) = ps.map pd2 := by rw [← e, List.map_map]; rfl
  rw [e2] at h1 h2
  refine shaped_of ?_ ?_
  · simp only [PyData.canLay0, h1]
  · simp only [PyData.depth]
    omega
theorem ps_dp {K : PySem.W.Frag} {H : Hp} {pl : Addr} {ks : List (Addr × (Int × Int))} {ps : List (Int × Int)} (e : ks.map (·.2) = ps) (hp : H pl = some (.lst (ks.map fun p => V.ref p.1))) (hk : ∀ p ∈ ks, H p.1 = some (.tup [.int p.2.1, .int p.2.2])) : Dp K H (.ref pl) (.list (ps.map pd2)) := by
  have e2 : (ks.map fun p => pd2 p.2) = ps.map pd2 := by rw [← e, List.map_map]; rfl
  rw [← e2]
  exact .lst (SqL.of hp) (bars_dp ks hk)
end
end K12
/-! len(o) of an own class with __len__; o == x, x an int or a tuple. -/
namespace OF
open PySem PySem.Spec PyProof.Rows L2
section
variable {X : Cx} {CX : CXT} {n : Nat} {f C : Addr} {fd : FuncData} {ps : List Str} {sp : Sp} {E : XK}
def rLenOwn (C : Addr) (sp : Sp) (E : XK) : List V → Hp → VK → Prop := fun xs H Q => ∃ a dx fs, xs = [.ref a] ∧ H a = some (.ins C dx fs) ∧ sp [.ref a] H (fun z H' => ∃ m : Nat, z = .int m ∧ m < 1000 ∧ Q (.int m) H') E
theorem call_lenOwn (hs : PySem.W.findIn X.K (.ref C) "__len__" = some (some (.ref f))) (hf : PySem.W.isFn X.K (.ref f) = true) (F : FnOk X.prog X.w X.K X.mg X.base CX n f fd ps sp) (hb : Binds X.K fd ps []) (hr : Room (n + 1) X.A) (hx : Passes CX X E) :
    CallR X (.builtin "len") (rLenOwn C sp E) := by
  intro pins s σ H xs us Q I r h
  obtain ⟨a, dx, fs, rfl, ha, q⟩ := h
  obtain ⟨u, rfl, ru⟩ := vals1 r
  cases ru
  obtain ⟨mA, J, _⟩ := ins_get I.hok ha
  obtain ⟨od, J, _⟩ := J.look
  obtain ⟨m, hF⟩ := I.fr
  refine PySem.W.len_K hF I.ok.mod.kin J hs hf ?_
  have bn := hb s [.ref a] I.kIn (F.len _ _ _ _ q)
  refine wpAny_call (codeAny_mono (F.run X.A.in1 X.stack s H ⟨[.ref a], []⟩ [.ref a] [.ref a] _ E hr.in1 I.env0.in1 bn (.cons rfl .nil) q) fun r s' hq => ?_)
  cases r with
  | error e => exact hx pins σ H s e s' I hq
  | ok fl =>
    cases fl with
    | ret u =>
      obtain ⟨z, H', I', rz, k, rfl, hk, q'⟩ := I.after hq
      obtain ⟨t, rfl⟩ := rz
      exact ⟨⟨by omega, by omega⟩, .int k, H', I'.tok _, ⟨_, rfl⟩, q'⟩
    | next => exact hq.elim
    | brk => exact hq.elim
    | cont => exact hq.elim
/-- o == x, x an int or a tuple -/
def rEqOther (C : Addr) (sp : Sp) (E : XK) : R2 := fun x y H Q => ∃ a dx fs, x = .ref a ∧ H a = some (.ins C dx fs) ∧ ((∃ n : Int, y = .int n) ∨ ∃ t ys, y = .ref t ∧ H t = some (.tup ys)) ∧ sp [x, y] H (fun z H' => ∃ b : Bool, z = .bl b ∧ Q z H') E
theorem op_eqOther (hs : PySem.W.findIn X.K (.ref C) "__eq__" = some (some (.ref f))) (hf : PySem.W.isFn X.K (.ref f) = true) (n1 : PySem.W.subIn X.K (.type "int") (.ref C) = some false) (n2 : PySem.W.subIn X.K (.type "tuple") (.ref C) = some false)
    (F : FnOk X.prog X.w X.K X.mg X.base CX n f fd ps sp) (hb : Binds X.K fd ps []) (hr : Room n X.A) (hx : Passes CX X E) : OpR X (compareOp .Eq) (rEqOther C sp E) := by
  intro pins s σ H x y v u Q I rx ry h
  obtain ⟨a, dx, fs, rfl, ha, hy, q⟩ := h
  cases (show v = Value.ref a from rx)
  obtain ⟨mA, J, _⟩ := ins_get I.hok ha
  obtain ⟨od, J, _⟩ := J.look
  obtain ⟨m, hF⟩ := I.fr
  have main : ∀ {tb : Value}, PySem.W.Looks (model X.prog X.w) s.heap (typeOf u) tb → PySem.W.notFirst X.K C tb = true → wpAny (model X.prog X.w) X.A (compareOp .Eq (.ref a) u) (EP X pins σ Q) X.xe s := fun {tb} lk nf => by
    refine PySem.W.cmp_K (op := .Eq) (tb := tb) hr.units0 hF I.ok.mod.kin J lk nf hs hf ?_
    refine wpAny_mono (run_fn (us := [.ref a, u]) (vs := [.ref a, y]) F hr hb .nil hx I (.cons rfl (.cons ry .nil)) q) (fun w s' z => ?_) fun _ _ e => e
    obtain ⟨z', H', I', rz, c, rfl, q'⟩ := z
    cases rz
    exact ⟨.bl c, H', I', rfl, q'⟩
  rcases hy with ⟨k, rfl⟩ | ⟨t, ys, rfl, ht⟩
  · obtain ⟨tk, rfl⟩ := ry
    exact main (tb := .type "int") (PySem.W.Looks.of_pure rfl) (by unfold PySem.W.notFirst; rw [n1]; rfl)
  · cases (show u = Value.ref t from ry)
    obtain ⟨its, _, ⟨o, ho, hc, _⟩, _⟩ := I.tuple (SqT.of ht)
    have lk : PySem.W.Looks (model X.prog X.w) s.heap (typeOf (.ref t)) (.type "tuple") := by
      rw [← hc]
      exact (PySem.W.Looks.ld ho).andThen .now
    exact main lk (by unfold PySem.W.notFirst; rw [n2]; rfl)
end
end OF
/-! -o and str(o) of an own class with __neg__, __str__. -/
namespace OF
open PySem PySem.Spec PyProof.Rows L2
section
variable {X : Cx} {CX : CXT} {n : Nat} {f C : Addr} {fd : FuncData} {ps : List Str} {sp : Sp} {E : XK}
def rNegOwn (C : Addr) (sp : Sp) (E : XK) : V → Hp → VK → Prop := fun x H Q => ∃ a dx fs, x = .ref a ∧ H a = some (.ins C dx fs) ∧ sp [.ref a] H Q E
theorem un_negOwn (hs : PySem.W.findIn X.K (.ref C) "__neg__" = some (some (.ref f))) (hf : PySem.W.isFn X.K (.ref f) = true) (F : FnOk X.prog X.w X.K X.mg X.base CX n f fd ps sp) (hb : Binds X.K fd ps []) (hr : Room n X.A) (hx : Passes CX X E) :
    UnR X (unaryOp .USub) (rNegOwn C sp E) := by
  intro pins s σ H x v Q I rx h
  obtain ⟨a, dx, fs, rfl, ha, q⟩ := h
  cases (show v = Value.ref a from rx)
  obtain ⟨mA, J, _⟩ := ins_get I.hok ha
  obtain ⟨od, J, _⟩ := J.look
  obtain ⟨m, hF⟩ := I.fr
  exact PySem.W.ksp_neg hF I.ok.mod.kin J hs hf (run_fn (us := [.ref a]) (vs := [.ref a]) F hr hb .nil hx I (.cons rfl .nil) q)
def rStrOwn (C : Addr) (sp : Sp) (E : XK) : List V → Hp → VK → Prop := fun xs H Q => ∃ a dx fs, xs = [.ref a] ∧ H a = some (.ins C dx fs) ∧ sp [.ref a] H (fun z H' => ∃ y : Str, z = .str y ∧ Q z H') E
theorem call_strOwn (hs : PySem.W.findIn X.K (.ref C) "__str__" = some (some (.ref f))) (hf : PySem.W.isFn X.K (.ref f) = true) (F : FnOk X.prog X.w X.K X.mg X.base CX n f fd ps sp) (hb : Binds X.K fd ps []) (hr : Room (n + 2) X.A) (hx : Passes CX X E) :
    CallR X (.type "str") (rStrOwn C sp E) := by
  intro pins s σ H xs us Q I r h
  obtain ⟨a, dx, fs, rfl, ha, q⟩ := h
  obtain ⟨u, rfl, ru⟩ := vals1 r
  cases ru
  obtain ⟨mA, J, _⟩ := ins_get I.hok ha
  obtain ⟨od, J, _⟩ := J.look
  obtain ⟨m, hF⟩ := I.fr
  refine PySem.W.kso_call hr.in1.in1.units0 I.kIn J hs hf ?_
  have bn := hb s [.ref a] I.kIn (F.len _ _ _ _ q)
  refine wpAny_call (codeAny_mono (F.run X.A.in1.in1 X.stack s H ⟨[.ref a], []⟩ [.ref a] [.ref a] _ E hr.in1.in1 I.env0.in1.in1 bn (.cons rfl .nil) q) fun r s' hq => ?_)
  cases r with
  | error e => exact hx pins σ H s e s' I hq
  | ok fl =>
    cases fl with
    | ret u =>
      obtain ⟨z, H', I', rz, y, rfl, q'⟩ := I.after hq
      obtain ⟨t, rfl⟩ := rz
      exact ⟨.str y, H', I', ⟨_, rfl⟩, q'⟩
    | next => exact hq.elim
    | brk => exact hq.elim
    | cont => exact hq.elim
end
end OF
namespace K12
open PySem PySem.Spec PyProof.Rows L2 OF
section
variable {P : Program} {w : World} {K : PySem.W.Frag} {mg : Str → Option Value} {base : Heap}
theorem ints_inj : ∀ {ns ms : List Int}, ns.map V.int = ms.map V.int → ns = ms
  | [], [], _ => rfl
  | [], _ :: _, e => by cases e
  | _ :: _, [], e => by cases e
  | a :: l, b :: m, e => by
    rw [List.map_cons, List.map_cons, List.cons.injEq] at e
    rw [V.int.inj e.1, ints_inj e.2]
inductive Ver
  | base (x : V)
  | dig (x : V)
  | bar (x : V)
  | made (b : Int) (ns : List Int) (ks : List (Addr × List Int))
inductive Due (K : PySem.W.Frag) (H : Hp) : V → V → V → Ver → Prop
  | base {x y z : V} (ix : ItemOk H x) (bx : baseV x = false) : Due K H x y z (.base x)
  | digN {b : Int} {y z : V} (hb : isBase b = true) (n : NoSeq H y) : Due K H (.int b) y z (.dig y)
  | digA {b : Int} {p : Addr} {xs : List V} {z : V} (hb : isBase b = true) (s : IsSeq K H p xs) (it : ∀ v ∈ xs, ItemOk H v) (l : xs.length ≤ 60) (bad : xs.all digV = false) : Due K H (.int b) (.ref p) z (.dig (.ref p))
  | digS {b : Int} {p : Addr} {ns : List Int} {z : V} (hb : isBase b = true) (s : IsSeq K H p (ns.map V.int)) (l : ns.length ≤ 60) (ok : ns.all dig = true) (six : SixOf ns false) : Due K H (.int b) (.ref p) z (.dig (.ref p))
  | barN {b : Int} {p : Addr} {ns : List Int} {z : V} (hb : isBase b = true) (s : IsSeq K H p (ns.map V.int)) (l : ns.length ≤ 60) (ok : ns.all dig = true) (six : SixOf ns true) (n : NoSeq H z) : Due K H (.int b) (.ref p) z (.bar z)
  | barB {b : Int} {p q : Addr} {ns : List Int} {ks : List (Addr × List Int)} {u : V} {more : List V} (hb : isBase b = true) (s : IsSeq K H p (ns.map V.int)) (l : ns.length ≤ 60) (ok : ns.all dig = true) (six : SixOf ns true) (t : IsSeq K H q (ks.map (fun p => V.ref p.1) ++ u :: more)) (few : ks.length < 64) (hk : ∀ p ∈ ks, BarOk H ns p) (bad : BadBar H ns u) : Due K H (.int b) (.ref p) (.ref q) (.bar u)
  | made {b : Int} {p q : Addr} {ns : List Int} {ks : List (Addr × List Int)} (hb : isBase b = true) (s : IsSeq K H p (ns.map V.int)) (l : ns.length ≤ 60) (ok : ns.all dig = true) (six : SixOf ns true) (t : IsSeq K H q (ks.map fun p => V.ref p.1)) (few : ks.length < 64) (hk : ∀ p ∈ ks, BarOk H ns p) : Due K H (.int b) (.ref p) (.ref q) (.made b ns ks)
theorem ints_item {H : Hp} (ns : List Int) : ∀ v ∈ ns.map V.int, ItemOk H v := fun v hv => by
  obtain ⟨n, _, rfl⟩ := List.mem_map.mp hv
  exact .inl ⟨n, rfl⟩
theorem ints_digV (ns : List Int) : (ns.map V.int).all digV = ns.all dig := by
  rw [List.all_map]
  rfl
/-- a new instance's heap -/
abbrev newAt (H : Hp) (C a dx : Addr) : Hp := upd (upd H dx (.own a)) a (.ins C dx [])
theorem newAt_same {H : Hp} {C a dx : Addr} (ha : H a = none) (hd : H dx = none) : Same H (newAt H C a dx) := fun c o hc => by
  show upd (upd H dx (.own a)) a (.ins C dx []) c = some o
  rw [upd_ne (ne_of_none hc ha), upd_ne (ne_of_none hc hd)]
  exact hc
theorem IsSeq.pairs {H H' : Hp} {ns : List Int} {ks : List (Addr × List Int)} (h : ∀ p ∈ ks, BarOk H ns p) (s : Same H H') : ∀ p ∈ ks, BarOk H' ns p := fun p hp => by
  obtain ⟨x, y, e, hp2, z⟩ := h p hp
  exact ⟨x, y, e, s _ _ hp2, z⟩
/-- Scheme(..) of any values, by what is due: the errors, or the parts -/
theorem new_due {C CB CD CP a dx : Addr} {H : Hp} {x y z : V} {v : Ver} {Q : VK} {E : XK} (d : Due K H x y z v) (ha : H a = none) (hd : H dx = none)
    (qe : ∀ (C' : Addr) (f : Str) (u : V), (v = .base u ∧ C' = CB ∨ v = .dig u ∧ C' = CD ∨ v = .bar u ∧ C' = CP) → ∀ (fs : List (Str × V)) (d : Addr) (H' : Hp), Same H H' → H' d = some (.xd (("value", u) :: fs)) → E (.ref C') (some d) H')
    (qm : ∀ (b : Int) (ns : List Int) (ks : List (Addr × List Int)), v = .made b ns ks → ∀ (ds : List Int) (L : List (Addr × List Int)) (t r : Addr) (H' : Hp), ds.Pairwise (· < ·) → (∀ k, k ∈ ds ↔ k ∈ ns) → (∀ p ∈ L, p ∈ ks) → (∀ p ∈ ks, p.2 ∈ L.map (·.2)) → (L.map (·.2)).Nodup → L.Pairwise (fun q r => SrtO.lexB (duo r.2) (duo q.2) = false) →
      Same H H' → H' a = some (.ins C dx [("_base", .int b), ("_digits", .ref t), ("_bars", .ref r)]) → H' t = some (.tup (ds.map V.int)) → H' r = some (.tup (L.map fun q => V.ref q.1)) → Q .non H') :
    spNew K C CB CD CP [.ref a, x, y, z] (newAt H C a dx) Q E := by
  have s0 := newAt_same (C := C) ha hd
  have ea : (newAt H C a dx) a = some (.ins C dx []) := upd_same
  have up : ∀ {H'}, But a (newAt H C a dx) H' → Same H H' := fun t c o hc => t c o (ne_of_none hc ha) (s0 c o hc)
  have er : ∀ (C' : Addr) (u : V), (v = .base u ∧ C' = CB ∨ v = .dig u ∧ C' = CD ∨ v = .bar u ∧ C' = CP) → RaisedA a C' "value" u (newAt H C a dx) E := fun C' u hv fs d H' _ t ed => qe C' "value" u hv fs d H' (up t) ed
  refine ⟨a, dx, x, y, z, rfl, ea, ?_⟩
  cases d with
  | base ix bx => exact .inl ⟨ix.same s0, bx, er CB x (.inl ⟨rfl, rfl⟩)⟩
  | digN hb n => exact .inr ⟨_, rfl, hb, .inl ⟨n.same s0, er CD y (.inr (.inl ⟨rfl, rfl⟩))⟩⟩
  | digA hb s it l bad =>
    refine .inr ⟨_, rfl, hb, .inr ⟨_, _, rfl, s.same s0, fun v hv => (it v hv).same s0, l, fun _ => er CD _ (.inr (.inl ⟨rfl, rfl⟩)), fun ns e ok => ?_⟩⟩
    rw [e, ints_digV, ok] at bad
    cases bad
  | @digS b p ns _ hb s l ok six =>
    refine .inr ⟨_, rfl, hb, .inr ⟨_, _, rfl, s.same s0, ints_item ns, (by rw [List.length_map]; exact l), fun _ => er CD _ (.inr (.inl ⟨rfl, rfl⟩)), fun ns2 e _ => ⟨false, ?_, fun _ => er CD _ (.inr (.inl ⟨rfl, rfl⟩)), fun z => nomatch z⟩⟩⟩
    cases ints_inj e
    exact six
  | @barN b p ns _ hb s l ok six n =>
    refine .inr ⟨_, rfl, hb, .inr ⟨_, _, rfl, s.same s0, ints_item ns, (by rw [List.length_map]; exact l), (fun h => by rw [ints_digV, ok] at h; cases h), fun ns2 e _ => ⟨true, ?_, (fun z => nomatch z), fun _ => .inl ⟨n.same s0, er CP _ (.inr (.inr ⟨rfl, rfl⟩))⟩⟩⟩⟩
    cases ints_inj e
    exact six
  | @barB b p q ns ks u more hb s l ok six t few hk bad =>
    refine .inr ⟨_, rfl, hb, .inr ⟨_, _, rfl, s.same s0, ints_item ns, (by rw [List.length_map]; exact l), (fun h => by rw [ints_digV, ok] at h; cases h), fun ns2 e _ => ?_⟩⟩
    cases ints_inj e
    exact ⟨true, six, (fun z => nomatch z), fun _ => .inr ⟨_, ks, u :: more, rfl, t.same s0, few, IsSeq.pairs hk s0, .inl ⟨u, more, rfl, bad.same s0, er CP _ (.inr (.inr ⟨rfl, rfl⟩))⟩⟩⟩
  | @made b p q ns ks hb s l ok six t few hk =>
    refine .inr ⟨_, rfl, hb, .inr ⟨_, _, rfl, s.same s0, ints_item ns, (by rw [List.length_map]; exact l), (fun h => by rw [ints_digV, ok] at h; cases h), fun ns2 e _ => ?_⟩⟩
    cases ints_inj e
    refine ⟨true, six, (fun z => nomatch z), fun _ => .inr ⟨_, ks, [], rfl, by rw [List.append_nil]; exact t.same s0, few, IsSeq.pairs hk s0, .inr ⟨rfl, fun ds L t r H' asc m sub all nd pw tb e1 e2 e3 => ?_⟩⟩⟩
    exact qm _ _ _ rfl ds L t r H' asc m sub all nd pw (up tb) e1 e2 e3


/-! ### a scheme, whole -/
def IsS (C : Addr) (H : Hp) (a : Addr) (b : Int) (ds : List Int) (ps : List (Int × Int)) : Prop := Good b ds ps ∧ ∃ (t r : Addr) (ks : List (Addr × (Int × Int))), ks.map (·.2) = ps ∧ SchemeAt C H a t r b ds ks
theorem IsS.same {C a : Addr} {H H' : Hp} {b : Int} {ds : List Int} {ps : List (Int × Int)} (h : IsS C H a b ds ps) (s : Same H H') : IsS C H' a b ds ps := by
  obtain ⟨G, t, r, ks, e, S⟩ := h
  exact ⟨G, t, r, ks, e, S.same s⟩
theorem lexP_tot {p q : Int × Int} (h : SrtO.lexB q p = false) (n : p ≠ q) : lexP p q := by
  have h2 : ¬ (q.1 < p.1 ∨ (q.1 = p.1 ∧ q.2 < p.2)) := fun z => by
    rw [SrtO.lexB_iff.mpr z] at h
    cases h
  unfold lexP
  rcases p with ⟨p1, p2⟩
  rcases q with ⟨q1, q2⟩
  have h3 : ¬ (p1 = q1 ∧ p2 = q2) := fun z => n (by rw [z.1, z.2])
  simp only at h2 ⊢
  omega
/-- the pairs of a list, as the program holds them -/
def asL (p : Addr × (Int × Int)) : Addr × List Int := (p.1, [p.2.1, p.2.2])
/-- Scheme(..) of good parts in any order, twice told or not -/
theorem new_made {C CB CD CP a dx p q : Addr} {H : Hp} {b : Int} {ns ds : List Int} {ks : List (Addr × (Int × Int))} {ps : List (Int × Int)} {Q : VK} {E : XK} (hb : isBase b = true) (s : IsSeq K H p (ns.map V.int)) (l : ns.length ≤ 60) (ok : ns.all dig = true)
    (t : IsSeq K H q (ks.map fun p => V.ref p.1)) (few : ks.length < 64) (hk : ∀ p ∈ ks, H p.1 = some (.tup [.int p.2.1, .int p.2.2])) (G : Good b ds ps) (md : ∀ k, k ∈ ds ↔ k ∈ ns) (mp : ∀ z, z ∈ ps ↔ z ∈ ks.map (·.2))
    (ha : H a = none) (hd : H dx = none) (qm : ∀ H', Same H H' → IsS C H' a b ds ps → Q .non H') : spNew K C CB CD CP [.ref a, .int b, .ref p, .ref q] (newAt H C a dx) Q E := by
  have six : SixOf ns true := fun k nd mem => by
    have pm : k.Perm ds := (List.perm_ext_iff_of_nodup nd (by rw [List.nodup_iff_pairwise_ne]; exact G.asc.imp fun h => by omega)).mpr fun z => (mem z).trans (md z).symm
    rw [pm.length_eq, decide_eq_true G.one, decide_eq_true G.six]
    rfl
  have one : ∀ n ∈ ds, isOne ns n = true := fun n hn => by
    unfold isOne
    rw [G.dg n hn, decide_eq_true ((md n).mp hn)]
    rfl
  have hk2 : ∀ z ∈ ks.map asL, BarOk H ns z := fun z hz => by
    obtain ⟨y, hy, rfl⟩ := List.mem_map.mp hz
    obtain ⟨m1, m2⟩ := G.mem y.2 ((mp _).mpr (List.mem_map.mpr ⟨y, hy, rfl⟩))
    exact ⟨_, _, rfl, hk y hy, one _ m1, one _ m2⟩
  have t2 : IsSeq K H q ((ks.map asL).map fun p => V.ref p.1) := by
    rw [List.map_map]
    exact t
  refine new_due (.made hb s l ok six t2 (by rw [List.length_map]; exact few) hk2) ha hd (fun C' f u z => ?_) fun b2 ns2 ks2 e => ?_
  · rcases z with ⟨z, _⟩ | ⟨z, _⟩ | ⟨z, _⟩ <;> cases z
  cases e
  intro ds2 L t3 r3 H' asc mds sub all nd pw s2 e1 e2 e3
  have eds : ds2 = ds := sorted_ext (r := (· < ·)) (fun a b h => by omega) asc G.asc fun x => (mds x).trans (md x).symm
  subst eds
  have two : ∀ p ∈ L, p.2 = [(duo p.2).1, (duo p.2).2] := fun p hp => by
    obtain ⟨z, _, rfl⟩ := List.mem_map.mp (sub p hp)
    rfl
  have eL : (L.map fun p => (p.1, duo p.2)).map (·.2) = ps := by
    refine sorted_ext lexP_as ?_ G.lex fun z => ?_
    · rw [List.map_map, List.pairwise_map]
      rw [List.nodup_iff_pairwise_ne, List.pairwise_map] at nd
      refine List.Pairwise.imp_of_mem (fun {q1 q2} h1 h2 ⟨z1, z2⟩ => ?_) (pw.and nd)
      refine lexP_tot z1 fun e => z2 ?_
      have e2 : duo q1.2 = duo q2.2 := e
      rw [two q1 h1, two q2 h2, e2]
    · rw [mp]
      constructor
      · intro hz
        rw [List.map_map] at hz
        obtain ⟨y, hy, rfl⟩ := List.mem_map.mp hz
        obtain ⟨x, hx, rfl⟩ := List.mem_map.mp (sub y hy)
        exact List.mem_map.mpr ⟨x, hx, rfl⟩
      · intro hz
        obtain ⟨x, hx, rfl⟩ := List.mem_map.mp hz
        obtain ⟨y, hy, e⟩ := List.mem_map.mp (all (asL x) (List.mem_map.mpr ⟨x, hx, rfl⟩))
        rw [List.map_map]
        refine List.mem_map.mpr ⟨y, hy, ?_⟩
        show duo y.2 = x.2
        rw [e]
        rfl
  refine qm H' s2 ⟨G, t3, r3, L.map fun p => (p.1, duo p.2), eL, ⟨⟨dx, e1⟩, e2, ?_, fun z hz => ?_⟩⟩
  · rw [e3, List.map_map]
    rfl
  · obtain ⟨y, hy, rfl⟩ := List.mem_map.mp hz
    obtain ⟨x, hx, rfl⟩ := List.mem_map.mp (sub y hy)
    exact s2 _ _ (hk x hx)

/-! ### the text of a row of digits -/
def gApp {α : Type} (us ws : List α) : List α := us ++ ws
theorem kbNew {f : Addr} {fd : FuncData} (G : ∃ kws, FunD K "__init__" "Scheme.__init__" (defArgs sInit) (defBody sInit) (defScope sInit) [] kws f fd) : KBn K fd ["self", "base", "digits", "bars"] 3 ["bars"] gApp gApp := by
  obtain ⟨kws, F⟩ := G
  obtain ⟨oc, od, dV, kV, doc, pm, an, cdv, ct, osl, rfl, lk, hcd, hD, _⟩ := F.ex
  rcases hD with ⟨_, rfl⟩ | ⟨e, _⟩
  · refine ⟨fun s us ws X l1 l2 => ?_, fun {vs us zs ws} r1 r2 => r1.append r2⟩
    match us, ws, l1, l2 with
    | [x, y, z], [v], _, _ => exact .of_eq rfl
  · exact absurd rfl e

/-! ### schemes that come of others -/
theorem made_ok {C CB CD CP p q : Addr} {H : Hp} {b : Int} {ns ds : List Int} {ks : List (Addr × (Int × Int))} {ps : List (Int × Int)} {Q : VK} {E : XK} (hb : isBase b = true) (s : IsSeq K H p (ns.map V.int)) (l : ns.length ≤ 60) (ok : ns.all dig = true)
    (t : IsSeq K H q (ks.map fun p => V.ref p.1)) (few : ks.length < 64) (hk : ∀ p ∈ ks, H p.1 = some (.tup [.int p.2.1, .int p.2.2])) (G : Good b ds ps) (md : ∀ k, k ∈ ds ↔ k ∈ ns) (mp : ∀ z, z ∈ ps ↔ z ∈ ks.map (·.2))
    (qm : ∀ o H', Same H H' → IsS C H' o b ds ps → Q (.ref o) H') : ∀ o d, H o = none → H d = none → d ≠ o → spNew K C CB CD CP [.ref o, .int b, .ref p, .ref q] (upd (upd H d (.own o)) o (.ins C d [])) (fun v H3 => v = .non ∧ Q (.ref o) H3) E :=
  fun o d ho hd _ => new_made hb s l ok t few hk G md mp ho hd fun H' s' S => ⟨rfl, qm o H' s' S⟩
theorem Good.all {b : Int} {ds : List Int} {ps : List (Int × Int)} (G : Good b ds ps) : ds.all dig = true := List.all_eq_true.mpr G.dg
/-! ### a scheme made of the law's parts -/
def spMadeL (C : Addr) : Sp := fun vs H Q _ => ∃ (m dl pl : Addr) (b : Int) (ds : List Int) (ks : List (Addr × (Int × Int))), vs = [.ref m] ∧ ModAt H m dl pl b ds ks ∧ Good b ds (ks.map (·.2)) ∧ ∀ o H', Same H H' → IsS C H' o b ds (ks.map (·.2)) → Q (.ref o) H'
theorem scMd : FnScope ["_law_model"] ["_law_model"] (defScope sMade) := ⟨rfl, rfl, rfl, by decide +kernel, rfl, by decide +kernel, by decide +kernel⟩
theorem ok_made {f fN C CB CD CP T : Addr} {fd fdN : FuncData} (F : Fun K "_law_made" "_law_made" sMade f fd) 
    (FN : FunD K "__init__" "Scheme.__init__" (defArgs sInit) (defBody sInit) (defScope sInit) [] [("bars", .ref T)] fN fdN) (M : Mk K C fN) (gC : mg "Scheme" = some (.ref C)) (GN : FnOk P w K mg base (L2.CX P w) 7 fN fdN ["self", "base", "digits", "bars"] (spNew K C CB CD CP)) :
    FnOk P w K mg base CX0 9 f fd ["_law_model"] (spMadeL C) := by
  have kbN := kbNew ⟨_, FN⟩
  refine F.ok scMd (fun vs H Q E h => ?_) (fun cdv A outer s H vs Q E hr h => ?_)
  · obtain ⟨m, dl, pl, b, ns, ks, rfl, _⟩ := h
    rfl
  · obtain ⟨m, dl, pl, b, ns, ks, rfl, ⟨hm, hd, hp, hk⟩, G, q⟩ := h
    apply Exists.intro
    apply And.intro
    · apply pss_one
      · exact ps_ret (pe_makeK M GN hr (by rfl) gC kbN passNo (pa_cons (pe_ix ix_list (pv 0) pe_int (fun _ _ => rfl)) (pa_cons (pe_ix ix_list (pv 0) pe_int (fun _ _ => rfl)) pa_nil)) (pk_cons (pe_ix ix_list (pv 0) pe_int (fun _ _ => rfl)) pk_nil))
    refine ⟨.ref m, rfl, m, _, 0, .int b, rfl, rfl, SqL.of hm, atI_nat (j := 0) rfl, .ref m, rfl, m, _, 1, .ref dl, rfl, rfl, SqL.of hm, atI_nat (j := 1) rfl, .ref m, rfl, m, _, 2, .ref pl, rfl, rfl, SqL.of hm, atI_nat (j := 2) rfl, rfl, rfl, ?_⟩
    have h6 := G.six
    have h36 := G.few
    rw [List.length_map] at h36
    exact made_ok G.b (.lst hd) (by omega) G.all (.lst hp) (by omega) hk G (fun _ => .rfl) (fun _ => .rfl) q
end
end K12
namespace K12
open PySem PySem.Spec PyProof.Rows L2 OF
section
variable {P : Program} {w : World} {K : PySem.W.Frag} {mg : Str → Option Value} {base : Heap}
def fitsB (ps : List (Int × Int)) (d : Int) : V → Bool
  | .int y => !hasP ps d y
  | _ => true
def spFits : Sp := fun vs H Q _ => ∃ (m dl pl : Addr) (b d : Int) (ns : List Int) (ks : List (Addr × (Int × Int))) (z : V), vs = [.ref m, .int d, z] ∧ ModAt H m dl pl b ns ks ∧ (z = .non ∨ ∃ y : Int, z = .int y) ∧ ∀ H', Same H H' → Q (.bl (fitsB (ks.map (·.2)) d z)) H'
abbrev nFt : List Str := ["_law_model", "_law_left", "_law_beside"]
theorem scFt : FnScope nFt ["_law_model", "_law_left", "_law_beside"] (defScope sFits) := ⟨rfl, rfl, rfl, by decide +kernel, rfl, by decide +kernel, by decide +kernel⟩
theorem ok_fits {f : Addr} {fd : FuncData} (F : Fun K "_law_fits" "_law_fits" sFits f fd) : FnOk P w K mg base CX0 2 f fd ["_law_model", "_law_left", "_law_beside"] spFits := by
  refine F.ok scFt (fun vs H Q E h => ?_) (fun cdv A outer s H vs Q E hr h => ?_)
  · obtain ⟨m, dl, pl, b, d, ns, ks, z, rfl, _⟩ := h
    rfl
  · obtain ⟨m, dl, pl, b, d, ns, ks, z, rfl, M, hz, q⟩ := h
    have hu : A.units + 3 + 65 < cLine := by
      have := hr.un
      have e : (A.deeper (envOfC "_law_fits" (defScope sFits) s.heap.objs.size f cdv)).units = A.units + 3 := rfl
      omega
    refine ⟨_, pss_one (ps_ret (pe_or (pe_cmpR op_isN (pv 2) pe_non (nomark _)) (pe_one (pe_cmpR (op_notInD hu) (pe_tup (pa_cons (pv 1) (pa_cons (pv 2) pa_nil))) (pe_ix ix_list (pv 0) pe_int (fun _ _ => rfl)) rfl)))), ?_⟩
    rcases hz with rfl | ⟨y, rfl⟩
    · exact ⟨.non, rfl, rfl, _, rfl, iteTB (decide_eq_true rfl) (q H (Same.refl H))⟩
    · refine ⟨.int y, rfl, rfl, _, rfl, iteFB rfl ⟨.int d, rfl, .int y, rfl, (by show 2 ≤ sizeLine; decide), fun T hT => ?_⟩⟩
      have s1 := same_new (o := .tup [.int d, .int y]) hT
      have M1 := M.same s1
      refine ⟨.ref m, rfl, m, _, 2, .ref pl, rfl, rfl, SqL.of M1.mo, atI_nat (j := 2) rfl, pd2 (d, y), (ks.map fun p => p.2).map pd2, .tup (SqT.of upd_same) (.cons (.int _) (.cons (.int _) .nil)), ps_dp rfl M1.pa M1.pr, pd2_shaped _, ps_shaped (ks := ks) rfl, ?_⟩
      exact q _ s1
/-- the places that the law finds -/
def plcL (b : Int) (ns : List Int) (ps : List (Int × Int)) (n : Int) (z : V) : List (Int × Int) := (ns.filter fun d => decide ((n - d) % mA b = 0) && fitsB ps d z).map fun d => ((n - d).fdiv b, d)
def spLSteps : Sp := fun vs H Q _ => ∃ (m dl pl pt : Addr) (b n : Int) (ns : List Int) (ks : List (Addr × (Int × Int))) (z : V), vs = [.ref m, .ref pt] ∧ ModAt H m dl pl b ns ks ∧ Good b ns (ks.map (·.2)) ∧ H pt = some (.tup [.int n, z]) ∧ (z = .non ∨ ∃ y : Int, z = .int y) ∧
  ∀ (L : Addr) (H' : Hp), Same H H' → H L = none → PlacesAt H' L (plcL b ns (ks.map (·.2)) n z) → Q (.ref L) H'
abbrev nLs : List Str := ["_law_model", "_law_place", "_law_found", "_law_digit"]
theorem scLs : FnScope nLs ["_law_model", "_law_place"] (defScope sLSteps) := ⟨rfl, rfl, rfl, by decide +kernel, rfl, by decide +kernel, by decide +kernel⟩
theorem fdiv_ok {b : Int} (h : isBase b = true) : b ≠ 0 ∧ b.natAbs ≤ 6 := by
  unfold isBase at h
  simp only [Bool.or_eq_true, Bool.and_eq_true, decide_eq_true_eq] at h
  omega
set_option maxHeartbeats 2000000 in
theorem ok_lsteps {f fF : Addr} {fd fdF : FuncData} (F : Fun K "_law_steps" "_law_steps" sLSteps f fd)
    (GF : FnOk P w K mg base CX0 2 fF fdF ["_law_model", "_law_left", "_law_beside"] spFits) (gF : mg "_law_fits" = some (.ref fF)) (kF : PySem.W.keepIn K (.ref fF) = true) (bF : Binds K fdF ["_law_model", "_law_left", "_law_beside"] [])
    (mi : mg "int" = none) (ma : mg "abs" = none) : FnOk P w K mg base CX0 3 f fd ["_law_model", "_law_place"] spLSteps := by
  refine F.ok scLs (fun vs H Q E h => ?_) (fun cdv A outer s H vs Q E hr h => ?_)
  · obtain ⟨m, dl, pl, pt, b, n, ns, ks, z, rfl, _⟩ := h
    rfl
  · obtain ⟨m, dl, pl, pt, b, n, ns, ks, z, rfl, M, G, ep, hz, q⟩ := h
    apply Exists.intro
    apply And.intro
    · apply pss_cons
      · exact ps_set (i := 2) scLs.nd rfl (.inl rfl) (pe_lst pa_nil)
      apply pss_cons
      · exact ps_for PassesOwn.never rfl (pi_list (pe_ix ix_list (pv 0) pe_int (fun _ _ => rfl))) (pg_name (i := 3) scLs.nd rfl (.inl rfl))
          (pss_one (ps_if (PW.pt (pw_and (pt_cmpR op_eq (pe_op op_mod (pe_callTy call_int1 (by rfl) mi PyProof.Rows.boot_int (pa_cons (pe_op op_sub (pe_ix ix_tup (pv 1) pe_int (fun _ _ => rfl)) (pv 3)) pa_nil)) (pe_callB call_abs (by rfl) ma (by decide +kernel) (pa_cons (pe_ix ix_list (pv 0) pe_int (fun _ _ => rfl)) pa_nil))) pe_int (nomark _))
              (pw_and1 (pt_val (pe_call GF hr (by rfl) gF kF bF .nil pass0 (pa_cons (pv 0) (pa_cons (pv 3) (pa_cons (pe_ix ix_tup (pv 1) pe_int (fun _ _ => rfl)) pa_nil))))))))
            (pss_one (ps_expr (pe_bm PySem.F.plainAttrs_list PySem.F.slot_list_append PySem.F.type_list_append mt_append (pv 2) (pa_cons (pe_tup (pa_cons (pe_op op_fdivN (pe_op op_sub (pe_ix ix_tup (pv 1) pe_int (fun _ _ => rfl)) (pv 3)) (pe_ix ix_list (pv 0) pe_int (fun _ _ => rfl))) (pa_cons (pv 3) pa_nil))) pa_nil)))) pss_nil))
      apply pss_one
      · exact ps_ret (pv 2)
    obtain ⟨b0, b6⟩ := fdiv_ok G.b
    have hm := mA_cases G.b
    refine ⟨(by show 0 ≤ sizeLine; decide), fun L hL => ?_⟩
    have s0 := same_new (o := .lst []) hL
    have M0 := M.same s0
    refine ⟨.ref m, rfl, m, _, 1, .ref dl, rfl, rfl, SqL.of M0.mo, atI_nat (j := 1) rfl, dl, rfl, ⟨_, SqL.of M0.di⟩, for_list (K := K) (a := dl) (xs := ns.map V.int) (fun i σ H' => (∃ v, σ = [some (.ref m), some (.ref pt), some (.ref L), v]) ∧ Same H H' ∧ ∃ kk : List (Addr × (Int × Int)), kk.map (·.2) = plcL b (ns.take i) (ks.map (·.2)) n z ∧ kk.length ≤ i ∧ H' L = some (.lst (kk.map fun p => V.ref p.1)) ∧ ∀ p ∈ kk, H' p.1 = some (.tup [.int p.2.1, .int p.2.2]))
      ⟨⟨none, rfl⟩, s0, [], rfl, Nat.le_refl _, upd_same, fun p h => by cases h⟩ (fun i σ H' _ h => SqL.of (h.2.1 _ _ M.di)) ?_ ?_⟩
    · rintro i x σ H1 hx ⟨⟨v, rfl⟩, s1, kk, ek, lk, e1, tk⟩
      obtain ⟨d, hd, rfl⟩ := get_map hx
      have hi : i < ns.length := (List.getElem?_eq_some_iff.mp hd).1
      have M1 := M.same s1
      have ep1 := s1 _ _ ep
      have h6 := G.six
      have skip : (decide ((n - d) % mA b = 0) && fitsB (ks.map (·.2)) d z) = false → ∀ H2, Same H1 H2 → (∃ v, [some (V.ref m), some (.ref pt), some (.ref L), some (.int d)] = [some (V.ref m), some (.ref pt), some (.ref L), v]) ∧ Same H H2 ∧ ∃ kk : List (Addr × (Int × Int)), kk.map (·.2) = plcL b (ns.take (i + 1)) (ks.map (·.2)) n z ∧ kk.length ≤ i + 1 ∧ H2 L = some (.lst (kk.map fun p => V.ref p.1)) ∧ ∀ p ∈ kk, H2 p.1 = some (.tup [.int p.2.1, .int p.2.2]) := fun c H2 s2 => by
        refine ⟨⟨_, rfl⟩, s1.trans s2, kk, ?_, by omega, s2 _ _ e1, fun p hp => s2 _ _ (tk p hp)⟩
        rw [ek, take_more hd]
        unfold plcL
        rw [List.filter_append]
        simp [c]
      refine ⟨.ref pt, rfl, pt, _, 0, .int n, rfl, rfl, SqT.of ep1, atI_nat (j := 0) rfl, .int d, rfl, n, d, rfl, rfl, .inl ⟨n - d, rfl, ?_⟩⟩
      refine ⟨.ref m, rfl, m, _, 0, .int b, rfl, rfl, SqL.of M1.mo, atI_nat (j := 0) rfl, b, rfl, n - d, mA b, rfl, rfl, by omega, rfl, _, rfl, ite2 (fun c => ?_) (fun c => ?_)⟩
      · have c2 : (n - d) % mA b = 0 := V.int.inj (of_decide_eq_true c)
        refine ⟨.ref m, rfl, .int d, rfl, .ref pt, rfl, pt, _, 1, z, rfl, rfl, SqT.of ep1, atI_nat (j := 1) rfl, m, dl, pl, b, d, ns, ks, z, rfl, M1, hz, fun H2 s2 => ⟨_, rfl, ?_⟩⟩
        cases c3 : fitsB (ks.map (·.2)) d z with
        | false => exact iteF (skip (by rw [c3, Bool.and_false]) H2 s2)
        | true =>
          have M2 := M1.same s2
          refine iteT ⟨.ref L, rfl, .inl ⟨rfl, _, SqL.of (s2 _ _ e1)⟩, .ref pt, rfl, pt, _, 0, .int n, rfl, rfl, SqT.of (s2 _ _ ep1), atI_nat (j := 0) rfl, .int d, rfl, n, d, rfl, rfl, .ref m, rfl, m, _, 0, .int b, rfl, rfl, SqL.of M2.mo, atI_nat (j := 0) rfl, n - d, b, rfl, rfl, ⟨b0, by omega⟩, .int d, rfl, (by show 2 ≤ sizeLine; decide), fun T hT => ?_⟩
          have s3 := same_new (o := .tup [.int ((n - d).fdiv b), .int d]) hT
          have s23 := s2.trans s3
          have e2 := s23 _ _ e1
          refine ⟨L, _, _, rfl, rfl, e2, ?_, ⟨_, rfl⟩, Same.store (s1.trans s23) hL, kk ++ [(T, ((n - d).fdiv b, d))], ?_, ?_, ?_, fun p hp => ?_⟩
          · rw [List.length_map]
            exact small1000 (by omega)
          · rw [List.map_append, ek, take_more hd]
            unfold plcL
            rw [List.filter_append, List.map_append]
            simp [c2, c3]
          · rw [List.length_append]
            show kk.length + 1 ≤ i + 1
            omega
          · rw [upd_same, List.map_append]
            rfl
          · have nL : p.1 ≠ L := fun z => by
              rcases List.mem_append.mp hp with h | h
              · have := s23 _ _ (tk p h)
                rw [z, e2] at this
                cases this
              · cases List.mem_singleton.mp h
                have z2 : T = L := z
                rw [z2, s2 _ _ e1] at hT
                cases hT
            rw [upd_ne nL]
            rcases List.mem_append.mp hp with h | h
            · exact s23 _ _ (tk p h)
            · cases List.mem_singleton.mp h
              exact upd_same
      · have c2 : ¬ (n - d) % mA b = 0 := fun z => c (decide_eq_true (congrArg V.int z))
        exact skip (by rw [decide_eq_false c2, Bool.false_and]) H1 (Same.refl H1)
    · rintro σ H1 ⟨⟨v, rfl⟩, s1, kk, ek, lk, e1, tk⟩
      rw [List.length_map, List.take_length] at ek
      exact ⟨_, rfl, q L H1 s1 hL ⟨kk, ek, e1, tk⟩⟩
/-- the program's places are the law's -/
theorem plc_law {b n : Int} {ns : List Int} {ks L : List (Addr × (Int × Int))} {z : V} (G : Good b ns (ks.map (·.2))) (eL : L.map (·.2) = ks.map (·.2)) (hz : z = .non ∨ ∃ y, y ∈ ns ∧ z = .int y) : plc b (ns.filter fun d => jdg ns L (.int d) z) n = plcL b ns (ks.map (·.2)) n z := by
  unfold plc plcL
  rw [List.filter_filter]
  congr 1
  refine List.filter_congr fun d hd => ?_
  have one : ∀ y ∈ ns, isOne ns y = true := fun y hy => by
    unfold isOne
    rw [G.dg y hy, decide_eq_true hy]
    rfl
  have bar : ∀ x y : Int, hasBar L x y = hasP (ks.map (·.2)) x y := fun x y => by
    unfold hasBar hasP
    rw [← eL, List.map_map]
    rfl
  have ed : decide ((n - d).fmod b = 0) = decide ((n - d) % mA b = 0) := by
    have hb := (fdiv_ok G.b).1
    refine decide_eq_decide.mpr ?_
    rw [← Int.dvd_iff_fmod_eq_zero, ← Int.dvd_iff_emod_eq_zero]
    unfold mA
    split
    · rw [Int.neg_dvd]
    · exact Iff.rfl
  rw [ed]
  congr 1
  rcases hz with rfl | ⟨y, hy, rfl⟩
  · exact one d hd
  · show (isOne ns d && (isOne ns y && !hasBar L d y)) = !hasP (ks.map (·.2)) d y
    rw [one d hd, one y hy, bar]
    rfl

/-! ### a number, drawn -/
end
end K12
/-! for and comprehensions over what may be a list or a tuple. -/
namespace OF
open PySem PySem.Spec PyProof.Rows L2
def iSq (K : PySem.W.Frag) (tl : TE) : TI := fun σ H R => tl σ H fun x H1 => ∃ a, x = .ref a ∧ (((∃ xs, SqL K H1 a xs) ∧ R (Itl K a) H1) ∨ ((∃ xs, SqT K H1 a xs) ∧ R (Itt K a) H1))
theorem pi_sq {X : Cx} {tg l : Expr} {tl : TE} (hl : PE X l tl) : PI X tg l (iSq X.K tl) := by
  refine ⟨fun pins s σ H R I h => ?_⟩
  refine thn (hl.run pins s σ H _ I h) fun v s1 ⟨x, H1, I1, r1, q1⟩ => ?_
  obtain ⟨a, rfl, q1⟩ := q1
  cases r1
  have free : ∀ b, b ∈ [s1.heap.objs.size] → FpOk X pins H1 b := fun b hb => by
    cases List.mem_singleton.mp hb
    exact I1.fpOk (Nat.le_refl _) (I1.hok.fresh (Nat.le_refl _))
  rcases q1 with ⟨⟨xs, hq⟩, q⟩ | ⟨⟨xs, hq⟩, q⟩
  · obtain ⟨its, rv, p, hz⟩ := I1.list hq
    exact wpAny_pyIter_list p.isList ⟨_, _, _, _, H1, rfl, I1.kept (t' := s1.toks) fun b o e => Heap.get?_push_of_some _ e, turn_list a _, ⟨_, Heap.get?_push_size _ rfl, rfl, rfl⟩, free, q⟩
  · obtain ⟨its, rv, p, hz⟩ := I1.tuple hq
    exact wpAny_pyIter_tuple (show s1.heap.IsTuple a its.toArray from p) ⟨_, _, _, _, H1, rfl, I1.kept (t' := s1.toks) fun b o e => Heap.get?_push_of_some _ e, turn_tuple a _, ⟨_, Heap.get?_push_size _ rfl, rfl, rfl⟩, free, q⟩
/-- list or tuple -/
def Sq (K : PySem.W.Frag) (k : Bool) (H : Hp) (a : Addr) (xs : List V) : Prop := if k then SqL K H a xs else SqT K H a xs
section
variable {K : PySem.W.Frag} {k : Bool} {a : Addr} {xs : List V}
abbrev ForW (J : It) (g : TG) (tb : TS) (D : Ends) (σ : L2.St) (H : Hp) : Prop := ∃ W : Nat → Nat → L2.St → Hp → Prop, (∃ m, W 0 m σ H) ∧ ∀ i m σ H, W i m σ H →
      (J.stop i H ∧ D.nx σ H) ∨ (J.go i H ∧ ∃ N : L2.St → Hp → Prop, (∀ σ' H', N σ' H' → ∃ m', m' < m ∧ W (i + 1) m' σ' H') ∧ ∀ x H', J.yld i H x H' → g x σ H' fun σ2 H2 => tb { D with nx := N, ct := N, bk := D.nx } σ2 H2)
theorem for_sq {g : TG} {tb : TS} {D : Ends} {σ : L2.St} {H : Hp} (Pv : Nat → L2.St → Hp → Prop) (h0 : Pv 0 σ H) (hl : ∀ i σ H, i ≤ xs.length → Pv i σ H → Sq K k H a xs)
    (hs : ∀ i x σ H, xs[i]? = some x → Pv i σ H → g x σ H fun σ2 H2 => tb { D with nx := Pv (i + 1), ct := Pv (i + 1), bk := D.nx } σ2 H2) (hd : ∀ σ H, Pv xs.length σ H → D.nx σ H) :
    ((∃ ys, SqL K H a ys) ∧ ForW (Itl K a) g tb D σ H) ∨ ((∃ ys, SqT K H a ys) ∧ ForW (Itt K a) g tb D σ H) := by
  have h1 := hl 0 σ H (Nat.zero_le _) h0
  cases k with
  | true => exact .inl ⟨⟨xs, h1⟩, for_list (K := K) (a := a) (xs := xs) Pv h0 hl hs hd⟩
  | false => exact .inr ⟨⟨xs, h1⟩, for_tup (K := K) (a := a) (xs := xs) Pv h0 hl hs hd⟩
end
end OF
/-! Comprehensions over what may be a list or a dict whose keys are tuples, locked; what a lock leaves. -/
namespace OF
open PySem PySem.Spec PyProof.Rows L2
def iLk (P : Program) (w : World) (K : PySem.W.Frag) (tl : TE) : TI := fun σ H R => tl σ H fun x H1 => ∃ a, x = .ref a ∧ (((∃ xs, SqL K H1 a xs) ∧ R (Itl K a) H1) ∨ ∃ (o : Obj) (kvs : List KeyT), H1 a = some (.frz o (dNT P w a kvs)) ∧ R (ItN P w a o kvs) H1)
theorem pi_lk {X : Cx} {tg l : Expr} {tl : TE} (hl : PE X l tl) : PI X tg l (iLk X.prog X.w X.K tl) := by
  refine ⟨fun pins s σ H R I h => ?_⟩
  refine thn (hl.run pins s σ H _ I h) fun v s1 ⟨x, H1, I1, r1, q1⟩ => ?_
  obtain ⟨a, rfl, q1⟩ := q1
  cases (show v = Value.ref a from r1)
  have free : ∀ b, b ∈ [s1.heap.objs.size] → FpOk X pins H1 b := fun b hb => by
    cases List.mem_singleton.mp hb
    exact I1.fpOk (Nat.le_refl _) (I1.hok.fresh (Nat.le_refl _))
  rcases q1 with ⟨⟨xs, hq⟩, q⟩ | ⟨o, kvs, hd, q⟩
  · obtain ⟨its, rv, p, hz⟩ := I1.list hq
    exact wpAny_pyIter_list p.isList ⟨_, _, _, _, H1, rfl, I1.kept (t' := s1.toks) fun b o e => Heap.get?_push_of_some _ e, turn_list a _, ⟨_, Heap.get?_push_size _ rfl, rfl, rfl⟩, free, q⟩
  · obtain ⟨apart, there, exact_, es, ep, hdt, sz, _⟩ := frzN I1 hd
    refine iter_keys apart there exact_ hdt (pi_one (tk := s1.toks) I1 _ (turnN _ hdt) ⟨_, Heap.get?_push_size _ rfl, rfl, ?_⟩ q)
    rw [sz] <;> rfl
/-- these addresses in a list, or as a locked dict's keys -/
def LkAt (P : Program) (w : World) (K : PySem.W.Frag) (k : Bool) (o : Obj) (kvs : List KeyT) (H : Hp) (a : Addr) (rs : List Addr) : Prop := if k then SqL K H a (rs.map V.ref) else H a = some (.frz o (dNT P w a kvs)) ∧ kvs.map (·.2.1) = rs
theorem lc_lk {P : Program} {w : World} {K : PySem.W.Frag} {k : Bool} {o : Obj} {kvs : List KeyT} {a : Addr} {rs : List Addr} {g : TG} {tt : TT} {te : TE} {vs : List Nat} {σ : L2.St} {H1 : Hp} {Q : Addr → Hp → Prop} (hp : LkAt P w K k o kvs H1 a rs)
    (h : ∀ D, H1 D = none → ∃ Pv : Nat → Hp → Prop, Pv 0 (upd H1 D (.lst [])) ∧ (∀ i H, i ≤ rs.length → Pv i H → LkAt P w K k o kvs H a rs) ∧
      (∀ i r H, rs[i]? = some r → Pv i H → g (.ref r) (wipe σ vs) H fun σ2 H2 => wipe σ2 vs = wipe σ vs ∧ tt σ2 H2 fun b H3 =>
        if b = true then te σ2 H3 fun y H4 => ∃ acc, H4 D = some (.lst acc) ∧ acc.length < sizeLine ∧ Pv (i + 1) (upd H4 D (.lst (acc ++ [y]))) else Pv (i + 1) H3) ∧ ∀ H, Pv rs.length H → Q D H) :
    let R : It → Hp → Prop := fun J H1 => ∀ D, H1 D = none → ∃ W : Nat → Nat → Hp → Prop, (∃ m, W 0 m (upd H1 D (.lst []))) ∧ ∀ i m H, W i m H →
      (J.stop i H ∧ Q D H) ∨ (J.go i H ∧ ∃ Nx : Hp → Prop, (∀ H', Nx H' → ∃ m', m' < m ∧ W (i + 1) m' H') ∧ ∀ x H', J.yld i H x H' → g x (wipe σ vs) H' fun σ2 H2 => wipe σ2 vs = wipe σ vs ∧ tt σ2 H2 fun b H3 =>
        if b = true then te σ2 H3 fun y H4 => ∃ acc, H4 D = some (.lst acc) ∧ acc.length < sizeLine ∧ Nx (upd H4 D (.lst (acc ++ [y]))) else Nx H3)
    ((∃ xs, SqL K H1 a xs) ∧ R (Itl K a) H1) ∨ ∃ (o : Obj) (kvs : List KeyT), H1 a = some (.frz o (dNT P w a kvs)) ∧ R (ItN P w a o kvs) H1 := by
  intro R
  cases k with
  | true =>
    refine .inl ⟨⟨_, hp⟩, fun D hD => ?_⟩
    obtain ⟨Pv, h0, hl, hs, hd⟩ := h D hD
    refine lc_list (K := K) (a := a) (xs := rs.map V.ref) Pv h0 (fun i H hi p => ?_) (fun i x H hx p => ?_) fun H p => ?_
    · rw [List.length_map] at hi
      exact hl i H hi p
    · rw [List.getElem?_map, Option.map_eq_some_iff] at hx
      obtain ⟨r, hr, rfl⟩ := hx
      exact hs i r H hr p
    · rw [List.length_map] at p
      exact hd H p
  | false =>
    obtain ⟨h1, e⟩ := hp
    refine .inr ⟨o, kvs, h1, fun D hD => ?_⟩
    obtain ⟨Pv, h0, hl, hs, hd⟩ := h D hD
    have el : rs.length = kvs.length := by rw [← e, List.length_map]
    refine lc_it walkN Pv h0 (fun i H hi p => (hl i H (by omega) p).1) (fun i x H H' hi p y => ?_) fun H p => ?_
    · obtain ⟨rfl, z, hz, rfl⟩ := y
      exact hs i _ H' (by rw [← e, List.getElem?_map, hz]; rfl) p
    · rw [← el] at p
      exact hd H p
theorem lc_sq {K : PySem.W.Frag} {k : Bool} {a : Addr} {xs : List V} {g : TG} {tt : TT} {te : TE} {vs : List Nat} {σ : L2.St} {H1 : Hp} {Q : Addr → Hp → Prop} (hp : Sq K k H1 a xs)
    (h : ∀ D, H1 D = none → ∃ Pv : Nat → Hp → Prop, Pv 0 (upd H1 D (.lst [])) ∧ (∀ i H, i ≤ xs.length → Pv i H → Sq K k H a xs) ∧
      (∀ i r H, xs[i]? = some r → Pv i H → g r (wipe σ vs) H fun σ2 H2 => wipe σ2 vs = wipe σ vs ∧ tt σ2 H2 fun b H3 =>
        if b = true then te σ2 H3 fun y H4 => ∃ acc, H4 D = some (.lst acc) ∧ acc.length < sizeLine ∧ Pv (i + 1) (upd H4 D (.lst (acc ++ [y]))) else Pv (i + 1) H3) ∧ ∀ H, Pv xs.length H → Q D H) :
    let R : It → Hp → Prop := fun J H1 => ∀ D, H1 D = none → ∃ W : Nat → Nat → Hp → Prop, (∃ m, W 0 m (upd H1 D (.lst []))) ∧ ∀ i m H, W i m H →
      (J.stop i H ∧ Q D H) ∨ (J.go i H ∧ ∃ Nx : Hp → Prop, (∀ H', Nx H' → ∃ m', m' < m ∧ W (i + 1) m' H') ∧ ∀ x H', J.yld i H x H' → g x (wipe σ vs) H' fun σ2 H2 => wipe σ2 vs = wipe σ vs ∧ tt σ2 H2 fun b H3 =>
        if b = true then te σ2 H3 fun y H4 => ∃ acc, H4 D = some (.lst acc) ∧ acc.length < sizeLine ∧ Nx (upd H4 D (.lst (acc ++ [y]))) else Nx H3)
    ((∃ ys, SqL K H1 a ys) ∧ R (Itl K a) H1) ∨ ((∃ ys, SqT K H1 a ys) ∧ R (Itt K a) H1) := by
  intro R
  cases k with
  | true =>
    refine .inl ⟨⟨_, hp⟩, fun D hD => ?_⟩
    obtain ⟨Pv, h0, hl, hs, hd⟩ := h D hD
    exact lc_list (K := K) (a := a) (xs := xs) Pv h0 hl hs hd
  | false =>
    refine .inr ⟨⟨_, hp⟩, fun D hD => ?_⟩
    obtain ⟨Pv, h0, hl, hs, hd⟩ := h D hD
    exact lc_tup (K := K) (a := a) (xs := xs) Pv h0 hl hs hd
theorem dc_sq {P : Program} {w : World} {κ : DKind P w} {K : PySem.W.Frag} {k : Bool} {a : Addr} {xs : List V} {g : TG} {tt : TT} {tk tv : TE} {vs : List Nat} {σ : L2.St} {H1 : Hp} {Q : Addr → Hp → Prop} (hp : Sq K k H1 a xs)
    (h : ∀ D, H1 D = none → ∃ Pv : Nat → Hp → Prop, Pv 0 (upd H1 D (κ.emp D)) ∧ (∀ i H, i ≤ xs.length → Pv i H → Sq K k H a xs) ∧
      (∀ i r H, xs[i]? = some r → Pv i H → g r (wipe σ vs) H fun σd Hd => wipe σd vs = wipe σ vs ∧ tt σd Hd fun b He =>
        if b = true then tk σd He fun y Hf => tv σd Hf fun z Hg => κ.put D y z Hg (Pv (i + 1)) else Pv (i + 1) He) ∧ ∀ H, Pv xs.length H → Q D H) :
    let R : It → Hp → Prop := fun J Ha => ∀ D, Ha D = none → ∃ V0 : Nat → Nat → Hp → Prop, (∃ m, V0 0 m (upd Ha D (κ.emp D))) ∧ ∀ i m Hb, V0 i m Hb →
      (J.stop i Hb ∧ Q D Hb) ∨ (J.go i Hb ∧ ∃ N : Hp → Prop, (∀ Hc, N Hc → ∃ m', m' < m ∧ V0 (i + 1) m' Hc) ∧ ∀ x Hc, J.yld i Hb x Hc → g x (wipe σ vs) Hc fun σd Hd => wipe σd vs = wipe σ vs ∧ tt σd Hd fun b He =>
        if b = true then tk σd He fun y Hf => tv σd Hf fun z Hg => κ.put D y z Hg N else N He)
    ((∃ ys, SqL K H1 a ys) ∧ R (Itl K a) H1) ∨ ((∃ ys, SqT K H1 a ys) ∧ R (Itt K a) H1) := by
  intro R
  cases k with
  | true =>
    refine .inl ⟨⟨_, hp⟩, fun D hD => ?_⟩
    obtain ⟨Pv, h0, hl, hs, hd⟩ := h D hD
    refine dcK_it walk_list Pv h0 hl (fun i x H Hc hi p y => ?_) hd
    obtain ⟨rfl, hx⟩ := y
    exact hs i x Hc hx p
  | false =>
    refine .inr ⟨⟨_, hp⟩, fun D hD => ?_⟩
    obtain ⟨Pv, h0, hl, hs, hd⟩ := h D hD
    refine dcK_it walk_tup Pv h0 hl (fun i x H Hc hi p y => ?_) hd
    obtain ⟨rfl, hx⟩ := y
    exact hs i x Hc hx p
theorem Sq.same {K : PySem.W.Frag} {k : Bool} {H H' : Hp} {a : Addr} {xs : List V} (h : Sq K k H a xs) (s : Same H H') : Sq K k H' a xs := by
  cases k with
  | true =>
    rcases h with (h | ⟨o, h⟩) | h
    · exact .inl (.inl (s _ _ h))
    · exact .inl (.inr ⟨o, s _ _ h⟩)
    · exact .inr h
  | false =>
    rcases h with (h | ⟨o, h⟩) | h
    · exact .inl (.inl (s _ _ h))
    · exact .inl (.inr ⟨o, s _ _ h⟩)
    · exact .inr h
theorem same_unlock {H H' : Hp} {a : Addr} {o : Obj} {u : HO} (e : H a = some u) (s : Same (upd H a (.frz o u)) H') : Same H (upd H' a u) := fun c x h => by
  by_cases z : c = a
  · subst z
    rw [upd_same]
    rw [e] at h
    exact h
  · rw [upd_ne z]
    exact s _ _ ((upd_ne z).trans h)
theorem lock_tup {H : Hp} {a c : Addr} {u o : HO} {xs : List V} (e : H a = some u) (n : ∀ ys, u ≠ .tup ys) (h : H c = some (.tup xs)) : upd H a o c = some (.tup xs) := by
  rw [upd_ne]
  · exact h
  · rintro rfl
    rw [e] at h
    exact n _ (Option.some.inj h)
end OF
namespace K12
open PySem PySem.Spec PyProof.Rows L2 OF LamX NdefX
abbrev sPGraph : Stmt := topS 29
abbrev sIsPlace : Stmt := topS 44
abbrev sZeros : Stmt := topS 47
section
variable {P : Program} {w : World} {K : PySem.W.Frag} {mg : Str → Option Value} {base : Heap}
/-! ### place_graph -/
/-- a finite set of places, closed under steps -/
structure Bound (b : Int) (ds : List Int) (ks : List (Addr × (Int × Int))) (U : List Plc) : Prop where
  cl : ∀ p ∈ U, ∀ q ∈ sucP b ds ks p, q ∈ U
  key : ∀ p ∈ U, p.2 ∈ none :: ds.map some
  len : U.length ≤ 100000
def spPGraph (P : Program) (w : World) (C : Addr) (T : List (Addr × Str)) : Sp := fun vs H Q _ => ∃ (S a t r : Addr) (b : Int) (ds : List Int) (ks : List (Addr × (Int × Int))) (as : List (Addr × Plc)) (U : List Plc), vs = [.ref a, .ref S] ∧ SchemeAt C H a t r b ds ks ∧ Tabs T H ∧ H S = some (.lst (as.map fun p => V.ref p.1)) ∧
  (∀ p ∈ as, H p.1 = some (vP p.2)) ∧ as.length ≤ 1000 ∧ ds.length ≤ 60 ∧ b ≠ 0 ∧ b.natAbs ≤ 6 ∧ (∀ p ∈ as, p.2 ∈ U) ∧ Bound b ds ks U ∧
  ∀ (G : Addr) (H' : Hp) (es : List GRow), ExtN H H' → Tabs T H' → GraphAt P w H' G b ds ks es → (keysG es).Nodup → (∀ x, x ∈ keysG es ↔ Reach (sucP b ds ks) (as.map (·.2)) x) → es.length ≤ U.length → Dfs (sucP b ds ks) [] (as.map (·.2)) (keysG es) → Q (.ref G) H'
abbrev nPg : List Str := ["scheme", "starts"]
theorem scPg : FnScope nPg ["scheme", "starts"] (defScope sPGraph) := ⟨rfl, rfl, rfl, by decide +kernel, rfl, by decide +kernel, by decide +kernel⟩
theorem ok_pgraph {f fG fF C : Addr} {fd fdG fdF : FuncData} {T : List (Addr × Str)} (F : Fun K "place_graph" "place_graph" sPGraph f fd)
    (GG : FnOk P w K mg base CX0 3 fG fdG ["starts", "follow"] (spGraph P w)) (gG : mg "graph_from" = some (.ref fG)) (kG : PySem.W.keepIn K (.ref fG) = true) (bG : Binds K fdG ["starts", "follow"] [])
    (GF : FnOk P w K mg base CX0 8 fF fdF ["scheme"] (spFollow P w C T)) (gF : mg "follower" = some (.ref fF)) (kF : PySem.W.keepIn K (.ref fF) = true) (bF : Binds K fdF ["scheme"] []) :
    FnOk P w K mg base CX0 9 f fd ["scheme", "starts"] (spPGraph P w C T) := by
  refine F.ok scPg (fun vs H Q E h => ?_) (fun cdv A outer s H vs Q E hr h => ?_)
  · obtain ⟨S, a, t, r, b, ds, ks, as, U, rfl, _⟩ := h
    rfl
  · obtain ⟨S, a, t, r, b, ds, ks, as, U, rfl, Sc, hT, hS, hA, lA, few, b0, b6, sU, BU, q⟩ := h
    have hr3 : Room 3 _ := hr.mono (by decide)
    refine ⟨_, pss_one (ps_ret (pe_call GG hr3 (by rfl) gG kG bG .nil pass0 (pa_cons (pv 1) (pa_cons (pe_call GF hr (by rfl) gF kF bF .nil pass0 (pa_cons (pv 0) pa_nil)) pa_nil)))), ?_⟩
    refine ⟨.ref S, rfl, .ref a, rfl, a, t, r, b, ds, ks, rfl, Sc, few, hT, fun g D H1 e1 T1 FA => ?_⟩
    refine ⟨S, g, D, b, ds, ks, as, U, rfl, FA, e1 _ _ hS (fun ps z => by cases z), fun p hp => e1 _ _ (hA p hp) (fun ps z => by cases z), lA, few, b0, b6, sU, BU.cl, BU.key, BU.len, fun G H2 es s2 hG gA nd re le df => ?_⟩
    exact q G H2 es (e1.trans (ExtN.of s2)) (T1.ext s2) gA nd re le df
/-! ### the places with the rest 0 -/
def spZeros (P : Program) (w : World) : Sp := fun vs H Q _ => ∃ (p : Addr) (as : List (Addr × Plc)), vs = [.ref p] ∧ (∀ q ∈ as, H q.1 = some (vP q.2)) ∧ as.length ≤ 100000 ∧ (H p = some (.lst (as.map fun q => V.ref q.1)) ∨ ∃ kvs, H p = some (dNT P w p kvs) ∧ kvs.map (·.2.1) = as.map (·.1)) ∧
  ∀ D H', Same H H' → H D = none → H' D = some (.lst ((as.filter fun q => decide (q.2.1 = 0)).map fun q => V.ref q.1)) → Q (.ref D) H'
abbrev nZe : List Str := ["places", "place"]
theorem scZe : FnScope nZe ["places"] (defScope sZeros) := ⟨rfl, rfl, rfl, by decide +kernel, rfl, by decide +kernel, by decide +kernel⟩
theorem big18 {n : Nat} (h : n ≤ 100000) : n < sizeLine := by unfold sizeLine; omega
theorem ok_zeros {f : Addr} {fd : FuncData} (F : Fun K "_zeros" "_zeros" sZeros f fd) : FnOk P w K mg base CX0 1 f fd ["places"] (spZeros P w) := by
  refine F.ok scZe (fun vs H Q E h => ?_) (fun cdv A outer s H vs Q E hr h => ?_)
  · obtain ⟨p, as, rfl, _⟩ := h
    rfl
  · obtain ⟨p, as, rfl, hA, lA, hp, q⟩ := h
    refine ⟨_, pss_one (ps_ret (pe_lock (pe_lc (own := [("place", 1)]) (g := gName 1) (tt := tTest (tOp rEq (tOp (rIxT K) (tVar 1) (tC (.int 0))) (tC (.int 0)))) (te := tVar 1) rfl scZe.nd (pi_lk (pv 0)) (blkOk_by (own := [("place", 1)]) (N := nZe) (sc := defScope sZeros) (by decide +kernel)) (fun _ _ _ _ _ => pg_name (i := 1) scZe.nd rfl (Or.inl rfl))
        (fun _ _ _ _ _ => by exact (pts_one (pt_cmpR op_eq (pe_ix ix_tup (pv 1) pe_int (fun _ _ => rfl)) pe_int (nomark _)))) (fun _ _ _ _ _ => by exact (pv 1))))), ?_⟩
    obtain ⟨u, k, kvs, hu, mu, nu, lk⟩ : ∃ (u : HO) (k : Bool) (kvs : List KeyT), H p = some u ∧ Mut (some u) ∧ (∀ ys, u ≠ .tup ys) ∧ ∀ od H', H' p = some (.frz od u) → LkAt P w K k od kvs H' p (as.map (·.1)) := by
      rcases hp with hp | ⟨kvs, hp, ek⟩
      · refine ⟨_, true, [], hp, trivial, (fun ys z => by cases z), fun od H' e => ?_⟩
        have e2 : (as.map fun q => V.ref q.1) = (as.map (·.1)).map V.ref := by rw [List.map_map]; rfl
        rw [e2] at e
        exact .inl (.inr ⟨od, e⟩)
      · exact ⟨_, false, kvs, hp, trivial, (fun ys z => by cases z), fun od H' e => ⟨e, ek⟩⟩
    refine ⟨p, u, hu, mu, fun od => ⟨.ref p, rfl, p, rfl, ?_⟩⟩
    have e0 : upd H p (.frz od u) p = some (.frz od u) := upd_same
    have tA : ∀ q ∈ as, upd H p (.frz od u) q.1 = some (vP q.2) := fun q hq => lock_tup hu nu (hA q hq)
    refine lc_lk (Q := fun D H' => H' p = some (.frz od u) ∧ Q (.ref D) (upd H' p u)) (lk od _ e0) fun D hD => ?_
    have nD : D ≠ p := fun z => by
      rw [z, e0] at hD
      cases hD
    have hD0 : H D = none := (upd_ne nD).symm.trans hD
    refine ⟨fun i H' => Same (upd H p (.frz od u)) H' ∧ H' D = some (.lst (((as.take i).filter fun q => decide (q.2.1 = 0)).map fun q => V.ref q.1)), ⟨same_new hD, upd_same⟩, fun i H' _ h => lk od H' (h.1 _ _ e0), ?_, ?_⟩
    · rintro i r H1 hr ⟨s1, e1⟩
      rw [List.getElem?_map, Option.map_eq_some_iff] at hr
      obtain ⟨q0, hq0, rfl⟩ := hr
      have tq := s1 _ _ (tA q0 (List.mem_of_getElem? hq0))
      refine ⟨rfl, .ref q0.1, rfl, q0.1, _, 0, .int q0.2.1, rfl, rfl, SqT.of tq, atI_nat (j := 0) rfl, rfl, _, rfl, ite2 (fun c => ?_) (fun c => ?_)⟩
      · have c2 : q0.2.1 = 0 := V.int.inj (of_decide_eq_true c)
        refine ⟨.ref q0.1, rfl, _, e1, ?_, Same.store s1 hD, ?_⟩
        · rw [List.length_map]
          exact big18 (Nat.le_trans (List.length_filter_le _ _) (Nat.le_trans (List.length_take_le' _ _) lA))
        · rw [upd_same, take_more hq0, List.filter_append, List.map_append]
          simp [c2]
      · have c2 : ¬ q0.2.1 = 0 := fun z => c (decide_eq_true (congrArg V.int z))
        refine ⟨s1, ?_⟩
        rw [e1, take_more hq0, List.filter_append]
        simp [c2]
    · rintro H1 ⟨s1, e1⟩
      rw [List.length_map, List.take_length] at e1
      exact ⟨s1 _ _ e0, q D _ (same_unlock hu s1) hD0 ((upd_ne nD).trans e1)⟩
/-! ### is a value a place? -/
def plB (ds : List Int) : List V → Bool
  | [.int _, z] => rightB ds z
  | _ => false
def spIsPlace (C : Addr) : Sp := fun vs H Q _ => ∃ (a t r : Addr) (b : Int) (ds : List Int) (ks : List (Addr × (Int × Int))) (x : V), vs = [.ref a, x] ∧ SchemeAt C H a t r b ds ks ∧ ((NoTup H x ∧ Q (.bl false) H) ∨
  ∃ (p : Addr) (ys : List V), x = .ref p ∧ H p = some (.tup ys) ∧ ys.length ≤ 1000 ∧ (∀ y ∈ ys, ItemOk H y) ∧ ∀ H', Same H H' → Q (.bl (plB ds ys)) H')
theorem scPl : FnScope ["scheme", "value"] ["scheme", "value"] (defScope sIsPlace) := ⟨rfl, rfl, rfl, by decide +kernel, rfl, by decide +kernel, by decide +kernel⟩
theorem ok_isplace {f fW fR C : Addr} {fd fdW fdR : FuncData} (F : Fun K "is_place" "is_place" sIsPlace f fd)
    (GW : FnOk P w K mg base CX0 1 fW fdW ["value"] spWhole) (gW : mg "is_whole" = some (.ref fW)) (kW : PySem.W.keepIn K (.ref fW) = true) (bW : Binds K fdW ["value"] [])
    (GR : FnOk P w K mg base CX0 6 fR fdR ["scheme", "value"] (spIsRight C)) (gR : mg "is_right" = some (.ref fR)) (kR : PySem.W.keepIn K (.ref fR) = true) (bR : Binds K fdR ["scheme", "value"] [])
    (mis : mg "isinstance" = none) (ml : mg "len" = none) (mt : mg "tuple" = none) : FnOk P w K mg base CX0 7 f fd ["scheme", "value"] (spIsPlace C) := by
  refine F.ok scPl (fun vs H Q E h => ?_) (fun cdv A outer s H vs Q E hr h => ?_)
  · obtain ⟨a, t, r, b, ds, ks, x, rfl, _⟩ := h
    rfl
  · obtain ⟨a, t, r, b, ds, ks, x, rfl, S, h⟩ := h
    have hr1 : Room 1 _ := hr.mono (by decide)
    refine ⟨_, pss_one (ps_ret (pe_and (pe_callB call_isi (by rfl) mis PyProof.Rows.boot_isinstance (pa_cons (pv 1) (pa_cons (pe_bltn (v := .ty "tuple") (by rfl) mt (by decide +kernel) rfl) pa_nil)))
      (pe_and (pe_cmpR op_eq (pe_callB call_len_seq (by rfl) ml PySem.boot_len (pa_cons (pv 1) pa_nil)) pe_int (nomark _))
      (pe_and (pe_call GW hr1 (by rfl) gW kW bW .nil pass0 (pa_cons (pe_ix ix_tup (pv 1) pe_int (fun _ _ => rfl)) pa_nil))
      (pe_one (pe_call GR hr (by rfl) gR kR bR .nil pass0 (pa_cons (pv 0) (pa_cons (pe_ix ix_tup (pv 1) pe_int (fun _ _ => rfl)) pa_nil)))))))), ?_⟩
    rcases h with ⟨no, q⟩ | ⟨p, ys, rfl, hp, hl, it, q⟩
    · obtain ⟨ty, tyx, k⟩ := no.kit (K := K)
      exact ⟨x, rfl, x, .ty "tuple", ty, .type "tuple", false, rfl, .ty _, tyx, k, false, rfl, iteF q⟩
    refine ⟨.ref p, rfl, .ref p, .ty "tuple", .type "tuple", .type "tuple", true, rfl, .ty _, .base (.tup hp), kit_ty (by decide +kernel), true, rfl, iteT ?_⟩
    refine ⟨.ref p, rfl, p, _, rfl, .inr (SqT.of hp), rfl, _, rfl, ?_⟩
    match ys, hp, it, hl, q with
    | [], hp, it, hl, q => exact iteFB (decide_eq_false fun z => by cases V.int.inj z) (q H (Same.refl H))
    | [y], hp, it, hl, q =>
      refine iteFB (decide_eq_false fun z => by cases V.int.inj z) ?_
      have z := q H (Same.refl H)
      have e : plB ds [y] = false := by cases y <;> rfl
      rw [e] at z
      exact z
    | [y, z], hp, it, hl, q =>
      refine iteTB (decide_eq_true rfl) ⟨.ref p, rfl, p, _, 0, y, rfl, rfl, SqT.of hp, atI_nat (j := 0) rfl, ?_⟩
      rcases it y List.mem_cons_self with ⟨n, rfl⟩ | o
      · refine ⟨.int n, rfl, .inl ⟨n, rfl, ?_⟩⟩
        refine ⟨_, rfl, iteT ⟨.ref a, rfl, .ref p, rfl, p, _, 1, z, rfl, rfl, SqT.of hp, atI_nat (j := 1) rfl, ?_⟩⟩
        exact ⟨a, t, r, b, ds, ks, z, rfl, S, it z (List.mem_cons_of_mem _ List.mem_cons_self), q⟩
      · refine ⟨y, rfl, .inr ⟨o, _, rfl, iteF ?_⟩⟩
        have e : plB ds [y, z] = false := by
          cases o <;> rfl
        have z := q H (Same.refl H)
        rw [e] at z
        exact z
    | y :: z :: v :: l, hp, it, hl, q =>
      refine iteFB (decide_eq_false fun z => ?_) ?_
      · have := V.int.inj z
        rw [List.length_cons, List.length_cons, List.length_cons] at this
        omega
      · have u := q H (Same.refl H)
        have e : plB ds (y :: z :: v :: l) = false := by
          cases y <;> rfl
        rw [e] at u
        exact u
end
end K12
/-! Levels: what is reached in n steps and not in fewer. -/
namespace OF
section
variable {α : Type} {succ : α → List α} {s : α}
inductive Walk (succ : α → List α) (s : α) : Nat → α → Prop
  | zero : Walk succ s 0 s
  | step {n : Nat} {x y : α} (w : Walk succ s n y) (h : x ∈ succ y) : Walk succ s (n + 1) x
def Lvl (succ : α → List α) (s : α) (n : Nat) (x : α) : Prop := Walk succ s n x ∧ ∀ m, m < n → ¬ Walk succ s m x
theorem Walk.reach {n : Nat} {x : α} (w : Walk succ s n x) : Reach succ [s] x := by
  induction w with
  | zero => exact .start List.mem_cons_self
  | step _ h ih => exact .step ih h
theorem walk_of {x : α} (r : Reach succ [s] x) : ∃ n, Walk succ s n x := by
  induction r with
  | start h =>
    cases List.mem_singleton.mp h
    exact ⟨0, .zero⟩
  | step _ h ih =>
    obtain ⟨n, w⟩ := ih
    exact ⟨n + 1, .step w h⟩
theorem walk_lvl : ∀ (n : Nat) {x : α}, Walk succ s n x → ∃ i, i ≤ n ∧ Lvl succ s i x := fun n => by
  induction n using Nat.strongRecOn with
  | _ n ih =>
    intro x w
    by_cases h : ∃ m, m < n ∧ Walk succ s m x
    · obtain ⟨m, hm, wm⟩ := h
      obtain ⟨i, hi, li⟩ := ih m hm wm
      exact ⟨i, by omega, li⟩
    · exact ⟨n, Nat.le_refl _, w, fun m hm wm => h ⟨m, hm, wm⟩⟩
theorem lvl_zero {x : α} : Lvl succ s 0 x ↔ x = s := by
  constructor
  · rintro ⟨w, _⟩
    cases w
    rfl
  · rintro rfl
    exact ⟨.zero, fun m hm => absurd hm (Nat.not_lt_zero m)⟩
theorem lvl_one {n m : Nat} {x : α} (a : Lvl succ s n x) (b : Lvl succ s m x) : n = m := by
  rcases Nat.lt_trichotomy n m with h | h | h
  · exact absurd a.1 (b.2 n h)
  · exact h
  · exact absurd b.1 (a.2 m h)
theorem lvl_from {n : Nat} {x : α} (h : Lvl succ s (n + 1) x) : ∃ y, Lvl succ s n y ∧ x ∈ succ y := by
  obtain ⟨w, no⟩ := h
  cases w with
  | step w h => exact ⟨_, ⟨w, fun m hm wm => no (m + 1) (by omega) (.step wm h)⟩, h⟩
/-- the next level: what follows this one and was not met -/
theorem lvl_next {n : Nat} {x : α} : Lvl succ s (n + 1) x ↔ (∃ y, Lvl succ s n y ∧ x ∈ succ y) ∧ ∀ i, i ≤ n → ¬ Lvl succ s i x := by
  constructor
  · intro h
    exact ⟨lvl_from h, fun i hi li => absurd (lvl_one h li) (by omega)⟩
  · rintro ⟨⟨y, hy, hx⟩, no⟩
    refine ⟨.step hy.1 hx, fun m hm wm => ?_⟩
    obtain ⟨i, hi, li⟩ := walk_lvl m wm
    exact no i (by omega) li
theorem lvl_none {n : Nat} (h : ∀ x, ¬ Lvl succ s (n + 1) x) : ∀ (k : Nat) (x : α), ¬ Lvl succ s (n + 1 + k) x
  | 0, x => h x
  | k + 1, x => fun l => by
    obtain ⟨y, hy, _⟩ := lvl_from l
    exact lvl_none h k y hy
/-- no further level: all that is reached stands in those met -/
theorem lvl_all {n : Nat} (h : ∀ x, ¬ Lvl succ s (n + 1) x) {x : α} (r : Reach succ [s] x) : ∃ i, i ≤ n ∧ Lvl succ s i x := by
  obtain ⟨m, w⟩ := walk_of r
  obtain ⟨i, _, l⟩ := walk_lvl m w
  refine ⟨i, ?_, l⟩
  by_cases hi : i ≤ n
  · exact hi
  · have e : i = n + 1 + (i - (n + 1)) := by omega
    rw [e] at l
    exact absurd l (lvl_none h _ x)
end
end OF
namespace K12
open PySem PySem.Spec PyProof.Rows L2 OF LamX NdefX
abbrev sLayers : Stmt := topS 46
section
variable {P : Program} {w : World} {K : PySem.W.Frag} {mg : Str → Option Value} {base : Heap}
/-! ### layers: dicts whose keys are places, one value -/
abbrev kvY (v : V) (rs : List (Addr × Plc)) : List KeyT := rs.map fun r => (keyP r.2, r.1, v)
theorem getY_none {v : V} {rs : List (Addr × Plc)} {p : Plc} (h : p ∉ rs.map (·.2)) : getN (kvY v rs) (keyP p) = none := by
  unfold getN
  rw [List.find?_eq_none.mpr fun e he => ?_]
  · rfl
  · obtain ⟨r, hr, rfl⟩ := List.mem_map.mp he
    rw [decide_eq_true_eq]
    exact fun z => h (List.mem_map.mpr ⟨r, hr, keyP_inj z⟩)
theorem getY_is (v : V) (rs : List (Addr × Plc)) (p : Plc) : (getN (kvY v rs) (keyP p)).isSome = decide (p ∈ rs.map (·.2)) := by
  by_cases h : p ∈ rs.map (·.2)
  · rw [decide_eq_true h]
    unfold getN
    cases hf : (kvY v rs).find? fun q => decide (q.1 = keyP p) with
    | none =>
      obtain ⟨r, hr, hp⟩ := List.mem_map.mp h
      have := List.find?_eq_none.mp hf (keyP r.2, r.1, v) (List.mem_map.mpr ⟨r, hr, rfl⟩)
      rw [decide_eq_true_eq] at this
      exact absurd (by rw [hp]) this
    | some e => rfl
  · rw [getY_none h, decide_eq_false h]
    rfl
theorem kvY_app (v : V) (rs : List (Addr × Plc)) (r : Addr × Plc) : kvY v (rs ++ [r]) = kvY v rs ++ [(keyP r.2, r.1, v)] := by
  unfold kvY
  rw [List.map_append]
  rfl
structure LayD (P : Program) (w : World) (H : Hp) (d : Addr) (v : V) (rs : List (Addr × Plc)) : Prop where
  at_ : H d = some (dNT P w d (kvY v rs))
  key : ∀ r ∈ rs, H r.1 = some (vP r.2)
theorem LayD.dict {H : Hp} {d : Addr} {v : V} {rs : List (Addr × Plc)} (g : LayD P w H d v rs) : DictT P w H d (kvY v rs) := by
  refine ⟨.inl g.at_, fun p hp => ?_⟩
  obtain ⟨e, he, rfl⟩ := List.mem_map.mp hp
  exact g.key e he
theorem LayD.same {H H' : Hp} {d : Addr} {v : V} {rs : List (Addr × Plc)} (g : LayD P w H d v rs) (s : Same H H') : LayD P w H' d v rs := ⟨s _ _ g.at_, fun r hr => s _ _ (g.key r hr)⟩
abbrev Lay := Addr × V × List (Addr × Plc)
structure LayersAt (P : Program) (w : World) (H : Hp) (L : Addr) (b : Int) (ds : List Int) (ks : List (Addr × (Int × Int))) (p0 : Plc) (Ls : List Lay) : Prop where
  at_ : H L = some (.lst (Ls.map fun l => V.ref l.1))
  each : ∀ l ∈ Ls, LayD P w H l.1 l.2.1 l.2.2
  lvl : ∀ i l, Ls[i]? = some l → ∀ x, x ∈ l.2.2.map (·.2) ↔ Lvl (sucP b ds ks) p0 i x
  nd : ∀ l ∈ Ls, (l.2.2.map (·.2)).Nodup
  first : ∃ (d l0 t0 : Addr) (rs : List (Addr × Plc)), Ls[0]? = some (d, V.ref l0, rs) ∧ H l0 = some (.lst [V.ref t0]) ∧ H t0 = some (.tup [])
theorem LayersAt.same {H H' : Hp} {L : Addr} {b : Int} {ds : List Int} {ks : List (Addr × (Int × Int))} {p0 : Plc} {Ls : List Lay} (g : LayersAt P w H L b ds ks p0 Ls) (s : Same H H') : LayersAt P w H' L b ds ks p0 Ls := by
  obtain ⟨d, l0, t0, rs, e0, e1, e2⟩ := g.first
  exact ⟨s _ _ g.at_, fun l hl => (g.each l hl).same s, g.lvl, g.nd, d, l0, t0, rs, e0, s _ _ e1, s _ _ e2⟩
/-- None where no rest 0 is reached; else the layers to the first one with a rest 0 -/
def spLayers (P : Program) (w : World) (C : Addr) (T : List (Addr × Str)) : Sp := fun vs H Q _ => ∃ (a t r st : Addr) (b : Int) (ds : List Int) (ks : List (Addr × (Int × Int))) (p0 : Plc) (U : List Plc), vs = [.ref a, .ref st] ∧ SchemeAt C H a t r b ds ks ∧ Tabs T H ∧ H st = some (vP p0) ∧
  ds.length ≤ 60 ∧ b ≠ 0 ∧ b.natAbs ≤ 6 ∧ p0 ∈ U ∧ Bound b ds ks U ∧
  (∀ H', ExtN H H' → Tabs T H' → (∀ x, Reach (sucP b ds ks) [p0] x → x.1 ≠ 0) → Q .non H') ∧
  ∀ (L : Addr) (Ls : List Lay) (H' : Hp), ExtN H H' → Tabs T H' → LayersAt P w H' L b ds ks p0 Ls → 1 ≤ Ls.length → Ls.length ≤ 100000 → (∃ x, Lvl (sucP b ds ks) p0 (Ls.length - 1) x ∧ x.1 = 0) → (∀ i x, i + 1 < Ls.length → Lvl (sucP b ds ks) p0 i x → x.1 ≠ 0) → Q (.ref L) H'
structure LInv (P : Program) (w : World) (H1 H' : Hp) (S L d0 l0 t0 st : Addr) (b : Int) (ds : List Int) (ks : List (Addr × (Int × Int))) (p0 : Plc) (Ls : List Lay) (sn : List (Addr × Plc)) : Prop where
  s : Same H1 H'
  at_ : H' L = some (.lst (Ls.map fun l => V.ref l.1))
  each : ∀ l ∈ Ls, LayD P w H' l.1 l.2.1 l.2.2
  lvl : ∀ i l, Ls[i]? = some l → ∀ x, x ∈ l.2.2.map (·.2) ↔ Lvl (sucP b ds ks) p0 i x
  nd : ∀ l ∈ Ls, (l.2.2.map (·.2)).Nodup
  sd : LayD P w H' S (.bl true) sn
  ne : ∀ l ∈ Ls, l.1 ≠ S
  fre : ∀ l ∈ Ls, H1 l.1 = none
  f0 : Ls[0]? = some (d0, V.ref l0, [(st, p0)])
  e1 : H' l0 = some (.lst [V.ref t0])
  e2 : H' t0 = some (.tup [])
  met : ∀ x, x ∈ sn.map (·.2) ↔ ∃ i, i < Ls.length ∧ Lvl (sucP b ds ks) p0 i x
  snd : (sn.map (·.2)).Nodup
  len : Ls.length ≤ sn.length
  no : ∀ i x, i + 1 < Ls.length → Lvl (sucP b ds ks) p0 i x → x.1 ≠ 0
theorem LInv.layers {H1 H' : Hp} {S L d0 l0 t0 st : Addr} {b : Int} {ds : List Int} {ks : List (Addr × (Int × Int))} {p0 : Plc} {Ls : List Lay} {sn : List (Addr × Plc)} (I : LInv P w H1 H' S L d0 l0 t0 st b ds ks p0 Ls sn) : LayersAt P w H' L b ds ks p0 Ls := ⟨I.at_, I.each, I.lvl, I.nd, d0, l0, t0, _, I.f0, I.e1, I.e2⟩
theorem lvl_U {b : Int} {ds : List Int} {ks : List (Addr × (Int × Int))} {p0 : Plc} {U : List Plc} (h0 : p0 ∈ U) (BU : Bound b ds ks U) {i : Nat} {x : Plc} (h : Lvl (sucP b ds ks) p0 i x) : x ∈ U :=
  h.1.reach.all (p := fun x => x ∈ U) (fun y hy => by cases List.mem_singleton.mp hy; exact h0) fun y hy z hz => BU.cl y hy z hz
theorem zeros_emptyY {as : List (Addr × Plc)} : ((as.filter fun q => decide (q.2.1 = 0)).map fun q => V.ref q.1).isEmpty = true ↔ ∀ x ∈ as.map (·.2), x.1 ≠ 0 := by
  rw [List.isEmpty_iff, List.map_eq_nil_iff, List.filter_eq_nil_iff]
  constructor
  · intro h x hx e
    obtain ⟨q, hq, rfl⟩ := List.mem_map.mp hx
    exact h q hq (decide_eq_true e)
  · intro h q hq e
    exact h q.2 (List.mem_map.mpr ⟨q, hq, rfl⟩) (of_decide_eq_true e)
/-- all but the two dicts stay -/
def Kp2 (S F : Addr) (H H' : Hp) : Prop := ∀ c o, c ≠ S → c ≠ F → H c = some o → H' c = some o
theorem Kp2.trans {S F : Addr} {H H1 H2 : Hp} (x : Kp2 S F H H1) (y : Kp2 S F H1 H2) : Kp2 S F H H2 := fun c o n m e => y c o n m (x c o n m e)
theorem Kp2.of {S F : Addr} {H H' : Hp} (s : Same H H') : Kp2 S F H H' := fun c o _ _ e => s c o e
theorem LayD.put {H : Hp} {d : Addr} {v : V} {rs : List (Addr × Plc)} {r : Addr × Plc} (g : LayD P w H d v rs) (hr : H r.1 = some (vP r.2)) : LayD P w (upd H d (dNT P w d (kvY v (rs ++ [r])))) d v (rs ++ [r]) := by
  have nt : ∀ {c : Addr} {xs : List V}, H c = some (.tup xs) → c ≠ d := fun {c xs} e z => by
    rw [z, g.at_] at e
    cases e
  refine ⟨upd_same, fun q hq => ?_⟩
  rcases List.mem_append.mp hq with h | h
  · rw [upd_ne (nt (g.key q h))]
    exact g.key q h
  · cases List.mem_singleton.mp h
    rw [upd_ne (nt hr)]
    exact hr
theorem LayD.past {H : Hp} {d c : Addr} {v u : V} {rs es fs : List (Addr × Plc)} (g : LayD P w H d v rs) (gc : LayD P w H c u es) (n : d ≠ c) : LayD P w (upd H c (dNT P w c (kvY u fs))) d v rs := by
  refine ⟨(upd_ne n).trans g.at_, fun q hq => (upd_ne fun z => ?_).trans (g.key q hq)⟩
  have e := g.key q hq
  rw [z, gc.at_] at e
  cases e
abbrev nLy : List Str := ["scheme", "start", "follow", "seen", "layers", "further", "place", "other"]
theorem scLy : FnScope nLy ["scheme", "start"] (defScope sLayers) := ⟨rfl, rfl, rfl, by decide +kernel, rfl, by decide +kernel, by decide +kernel⟩
theorem ok_layers {f fF fZ fB C : Addr} {fd fdF fdZ fdB : FuncData} {T : List (Addr × Str)} (F : Fun K "_layers_to_zero" "_layers_to_zero" sLayers f fd)
    (GF : FnOk P w K mg base CX0 8 fF fdF ["scheme"] (spFollow P w C T)) (gF : mg "follower" = some (.ref fF)) (kF : PySem.W.keepIn K (.ref fF) = true) (bF : Binds K fdF ["scheme"] [])
    (GZ : FnOk P w K mg base CX0 1 fZ fdZ ["places"] (spZeros P w)) (gZ : mg "_zeros" = some (.ref fZ)) (kZ : PySem.W.keepIn K (.ref fZ) = true) (bZ : Binds K fdZ ["places"] [])
    (GB : FnOk P w K mg base CX0 1 fB fdB ["base", "digits", "rest"] (spBehind K)) (gB : mg "places_behind" = some (.ref fB)) (kB : PySem.W.keepIn K (.ref fB) = true) (bB : Binds K fdB ["base", "digits", "rest"] []) :
    FnOk P w K mg base CX0 9 f fd ["scheme", "start"] (spLayers P w C T) := by
  refine F.ok scLy (fun vs H Q E h => ?_) (fun cdv A outer s H vs Q E hr h => ?_)
  · obtain ⟨a, t, r, st, b, ds, ks, p0, U, rfl, _⟩ := h
    rfl
  · obtain ⟨a, t, r, st, b, ds, ks, p0, U, rfl, Sc, hT, hst, few, b0, b6, sU, BU, q1, q2⟩ := h
    have hr1 : Room 1 _ := hr.mono (by decide)
    have hr2 : Room 2 _ := hr.mono (by decide)
    apply Exists.intro
    apply And.intro
    · apply pss_cons
      · exact ps_set (i := 2) scLy.nd rfl (.inl rfl) (pe_call GF hr (by rfl) gF kF bF .nil pass0 (pa_cons (pv 0) pa_nil))
      apply pss_cons
      · exact ps_set (i := 3) scLy.nd rfl (.inl rfl) (pe_disp1NT (Nat.lt_of_succ_lt (hu_of hr)) (pv 1) pe_bl)
      apply pss_cons
      · exact ps_set (i := 4) scLy.nd rfl (.inl rfl) (pe_lst (pa_cons (pe_disp1NT (Nat.lt_of_succ_lt (hu_of hr)) (pv 1) (pe_lst (pa_cons (pe_tup pa_nil) pa_nil))) pa_nil))
      apply pss_cons
      · exact ps_while PassesOwn.never (pt_not (pt_truth (pe_call GZ hr1 (by rfl) gZ kZ bZ .nil pass0 (pa_cons (pe_ix ix_list (pv 4) (pe_un un_neg pe_int) (fun _ _ => rfl)) pa_nil)) (fun _ => rfl)))
          (pss_cons (ps_set (i := 5) scLy.nd rfl (.inl rfl) pe_dnewNT)
            (pss_cons (ps_lock (ps_for PassesOwn.never rfl (pi_keysN (pe_ix ix_list (pv 4) (pe_un un_neg pe_int) (fun _ _ => rfl))) (pg_name (i := 6) scLy.nd rfl (.inl rfl))
              (pss_one (ps_for PassesOwn.never rfl (pi_list (pe_clo (k := 2) (i := 2) hr2 (by rfl) (.inl rfl) (pa_cons (pv 6) pa_nil))) (pg_name (i := 7) scLy.nd rfl (.inl rfl))
                (pss_one (ps_if (pt_cmpR (op_notInNT (hu_of hr)) (pv 7) (pv 3) rfl)
                  (pss_cons (ps_asg pe_bl (pg_sub (pv 3) (pv 7) (set_dictNT (hu_of hr)) (fun _ => rfl)))
                    (pss_one (ps_asg pe_bl (pg_sub (pv 5) (pv 7) (set_dictNT (hu_of hr)) (fun _ => rfl))))) pss_nil))))))
            (pss_cons (ps_if (pt_not (pt_dictN (pv 5))) (pss_one (ps_ret pe_non)) pss_nil)
              (pss_one (ps_expr (pe_bm PySem.F.plainAttrs_list PySem.F.slot_list_append PySem.F.type_list_append mt_append (pv 4) (pa_cons (pv 5) pa_nil)))))))
      apply pss_one
      · exact ps_ret (pv 4)
    refine ⟨.ref a, rfl, a, t, r, b, ds, ks, rfl, Sc, few, hT, fun f0 D0 H1 x1 T1 FA => ?_⟩
    have hst1 : H1 st = some (vP p0) := x1 _ _ hst (fun ps z => by cases z)
    have nst : ∀ {c : Addr}, H1 c = none → st ≠ c := fun {c} z e => by rw [← e, hst1] at z; cases z
    -- seen
    refine fun S hS => ⟨.ref st, rfl, keyP p0, st, rfl, upd_same, (upd_ne (nst hS)).trans hst1, ?_⟩
    have s2 : Same H1 (upd (upd H1 S (dNT P w S [])) S (dNT P w S [(keyP p0, st, .bl true)])) := Same.store (same_new hS) hS
    have e2 : (upd (upd H1 S (dNT P w S [])) S (dNT P w S [(keyP p0, st, .bl true)])) S = some (dNT P w S (kvY (.bl true) [(st, p0)])) := upd_same
    generalize eH2 : upd (upd H1 S (dNT _ _ S [])) S (dNT _ _ S [(keyP p0, st, .bl true)]) = H2
    have eH2 : upd (upd H1 S (dNT P w S [])) S (dNT P w S [(keyP p0, st, .bl true)]) = H2 := eH2
    rw [eH2] at s2 e2
    -- the first layer
    refine fun d0 hd0 => ⟨.ref st, rfl, (by show 0 ≤ sizeLine; decide), fun t0 ht0 => ⟨(by show 1 ≤ sizeLine; decide), fun l0 hl0 => ?_⟩⟩
    have nd0 : d0 ≠ S := fun z => by rw [z, e2] at hd0; cases hd0
    have ed0 : upd H2 d0 (dNT P w d0 []) d0 = some (dNT P w d0 []) := upd_same
    have s3 : Same H2 (upd H2 d0 (dNT P w d0 [])) := same_new hd0
    have s4 : Same (upd H2 d0 (dNT P w d0 [])) (upd (upd H2 d0 (dNT P w d0 [])) t0 (.tup [])) := same_new ht0
    have s5 : Same (upd (upd H2 d0 (dNT P w d0 [])) t0 (.tup [])) (upd (upd (upd H2 d0 (dNT P w d0 [])) t0 (.tup [])) l0 (.lst [V.ref t0])) := same_new hl0
    have h1d0 : H1 d0 = none := s2.free hd0
    have st3 : upd H2 d0 (dNT P w d0 []) st = some (vP p0) := s3 _ _ (s2 _ _ hst1)
    refine ⟨keyP p0, st, rfl, s5 _ _ (s4 _ _ ed0), s5 _ _ (s4 _ _ st3), ?_⟩
    have nst5 : st ≠ d0 := fun z => by rw [← z] at h1d0; rw [hst1] at h1d0; cases h1d0
    generalize eH6 : upd (upd (upd (upd H2 d0 (dNT _ _ d0 [])) t0 (.tup [])) l0 (.lst [V.ref t0])) d0 (dNT _ _ d0 [(keyP p0, st, .ref l0)]) = H6
    have eH6 : upd (upd (upd (upd H2 d0 (dNT P w d0 [])) t0 (.tup [])) l0 (.lst [V.ref t0])) d0 (dNT P w d0 [(keyP p0, st, .ref l0)]) = H6 := eH6
    have ht0 : upd H2 d0 (dNT P w d0 []) t0 = none := ht0
    have hl0 : upd (upd H2 d0 (dNT P w d0 [])) t0 (.tup []) l0 = none := hl0
    have nt0 : t0 ≠ d0 := fun z => by rw [z, ed0] at ht0; cases ht0
    have nl0 : l0 ≠ d0 := fun z => by rw [z, s4 _ _ ed0] at hl0; cases hl0
    have s26 : Same H2 H6 := by
      rw [← eH6]
      exact Same.store (s3.trans (s4.trans s5)) hd0
    have e6d : H6 d0 = some (dNT P w d0 (kvY (.ref l0) [(st, p0)])) := by rw [← eH6]; exact upd_same
    have e6l : H6 l0 = some (.lst [V.ref t0]) := by rw [← eH6, upd_ne nl0]; exact upd_same
    have e6t : H6 t0 = some (.tup []) := by rw [← eH6, upd_ne nt0]; exact s5 _ _ upd_same
    clear eH6 eH2
    refine ⟨(by show 1 ≤ sizeLine; decide), fun L hL => ?_⟩
    have s7 := same_new (o := .lst [V.ref d0]) hL
    have e7 : upd H6 L (.lst [V.ref d0]) L = some (.lst [V.ref d0]) := upd_same
    have nlL : l0 ≠ L := fun z => by rw [← z, e6l] at hL; cases hL
    have h1L : H1 L = none := (s2.trans s26).free hL
    have I7 : LInv P w H1 (upd H6 L (.lst [V.ref d0])) S L d0 l0 t0 st b ds ks p0 [(d0, V.ref l0, [(st, p0)])] [(st, p0)] := by
      refine ⟨(s2.trans s26).trans s7, e7, fun l hl => ?_, fun i l hl x => ?_, fun l hl => ?_, ⟨s7 _ _ (s26 _ _ e2), fun r hr => ?_⟩, fun l hl => ?_, fun l hl => ?_, rfl, s7 _ _ e6l, s7 _ _ e6t, fun x => ?_, ?_, Nat.le_refl _, fun i x hi => absurd hi (by show ¬ i + 1 < 1; omega)⟩
      · cases List.mem_singleton.mp hl
        refine ⟨s7 _ _ e6d, fun r hr => ?_⟩
        cases List.mem_singleton.mp hr
        exact s7 _ _ (s26 _ _ (s2 _ _ hst1))
      · cases i with
        | zero =>
          cases hl
          rw [lvl_zero]
          exact List.mem_singleton
        | succ i => cases hl
      · cases List.mem_singleton.mp hl
        exact List.nodup_cons.mpr ⟨(fun z => by cases z), .nil⟩
      · cases List.mem_singleton.mp hr
        exact s7 _ _ (s26 _ _ (s2 _ _ hst1))
      · cases List.mem_singleton.mp hl
        exact nd0
      · cases List.mem_singleton.mp hl
        exact h1d0
      · constructor
        · intro hx
          cases List.mem_singleton.mp hx
          exact ⟨0, by show 0 < 1; decide, lvl_zero.mpr rfl⟩
        · rintro ⟨i, hi, hx⟩
          have e : i = 0 := by
            have : i < 1 := hi
            omega
          subst e
          rw [lvl_zero] at hx
          subst hx
          exact List.mem_singleton.mpr rfl
      · exact List.nodup_cons.mpr ⟨(fun z => by cases z), .nil⟩
    generalize upd H6 L (.lst [V.ref d0]) = H7 at I7 ⊢
    refine ⟨fun m σ H' => ∃ (v5 v6 v7 : Option V) (Ls : List Lay) (sn : List (Addr × Plc)), σ = [some (.ref a), some (.ref st), some (.ref f0), some (.ref S), some (.ref L), v5, v6, v7] ∧ m = U.length - sn.length ∧ LInv P w H1 H' S L d0 l0 t0 st b ds ks p0 Ls sn, ⟨_, none, none, none, _, _, rfl, rfl, I7⟩, ?_⟩
    rintro m σ H8 ⟨v5, v6, v7, Ls, sn, rfl, rfl, I⟩
    clear I7 s7 e7 hL e6l e6t e6d s26 s3 s4 s5 ed0 hd0 ht0 hl0 nt0 nl0 e2 s2 st3
    have I8 := I
    rcases List.eq_nil_or_concat Ls with rfl | ⟨Lr, ll, rfl⟩
    · exact absurd I.f0 (fun z => by cases z)
    rw [List.concat_eq_append] at I I8
    have lenL : (Lr ++ [ll]).length = Lr.length + 1 := List.length_append
    have hll : (Lr ++ [ll])[Lr.length]? = some ll := by simp
    have mll : ll ∈ Lr ++ [ll] := List.mem_append_right _ List.mem_cons_self
    have DL := I.each ll mll
    have lvL := I.lvl _ _ hll
    have eL := I.at_
    rw [List.map_append] at eL
    have few2 : ll.2.2.length ≤ U.length := by
      have z := nodup_le _ U (I.nd ll mll) fun x hx => lvl_U sU BU ((lvL x).mp hx)
      rw [List.length_map] at z
      exact z
    refine ⟨.ref L, rfl, 1, rfl, L, _, -1, .ref ll.1, rfl, rfl, SqL.of eL, atI_last _ _, ll.1, ll.2.2, rfl, DL.key, Nat.le_trans few2 BU.len, .inr ⟨_, DL.at_, by rw [List.map_map]; rfl⟩, fun D H9 s9 hD eD => ?_⟩
    refine ⟨_, .inl ⟨_, SqL.of eD, rfl⟩, ?_⟩
    have zz := zeros_emptyY (as := ll.2.2)
    cases em : ((ll.2.2.filter fun q => decide (q.2.1 = 0)).map fun q => V.ref q.1).isEmpty with
    | false =>
      refine iteFB rfl ?_
      have ex : ∃ x, x ∈ ll.2.2.map (·.2) ∧ x.1 = 0 := Classical.byContradiction fun no => by
        have z := zz.mpr fun x hx e => no ⟨x, hx, e⟩
        rw [em] at z
        cases z
      obtain ⟨x, hx, e0⟩ := ex
      have I9 := I.layers.same s9
      have lenU : (Lr ++ [ll]).length ≤ 100000 := by
        have z := nodup_le _ U I.snd fun x hx => by
          obtain ⟨i, _, li⟩ := (I.met x).mp hx
          exact lvl_U sU BU li
        rw [List.length_map] at z
        exact Nat.le_trans I.len (Nat.le_trans z BU.len)
      refine ⟨.ref L, rfl, q2 L _ H9 (x1.trans (ExtN.of (I.s.trans s9))) (T1.ext (I.s.trans s9)) I9 (by omega) lenU ⟨x, ?_, e0⟩ I.no⟩
      rw [show (Lr ++ [ll]).length - 1 = Lr.length by omega]
      exact (lvL x).mp hx
    | true =>
      have nz := zz.mp em
      refine iteTB rfl ⟨_, fun σ' H' h => h, ?_⟩
      refine fun FU hFU => ?_
      have h1F : H1 FU = none := (I.s.trans s9).free hFU
      have s10 : Same H9 (upd H9 FU (dNT P w FU [])) := same_new hFU
      have e10 : upd H9 FU (dNT P w FU []) FU = some (dNT P w FU []) := upd_same
      generalize eH10 : upd H9 FU (dNT _ _ FU []) = H10
      have eH10 : upd H9 FU (dNT P w FU []) = H10 := eH10
      rw [eH10] at s10 e10
      have s8 : Same H8 H10 := s9.trans s10
      have DL10 := DL.same s8
      have nF : ∀ {c : Addr} {o : HO}, H8 c = some o → c ≠ FU := fun {c o} e z => by
        have z2 := s9 _ _ e
        rw [z, hFU] at z2
        cases z2
      dsimp only [gName]
      refine ⟨ll.1, dNT P w ll.1 (kvY ll.2.1 ll.2.2), DL10.at_, trivial, fun od => ?_⟩
      have nLl : L ≠ ll.1 := fun z => by
        rw [← z] at DL
        have z2 := DL.at_
        rw [eL] at z2
        cases z2
      have nSl : S ≠ ll.1 := (I.ne ll mll).symm
      have nFl : FU ≠ ll.1 := (nF DL.at_).symm
      have nSF : S ≠ FU := nF I.sd.at_
      have hl_l : upd H10 ll.1 (.frz od (dNT P w ll.1 (kvY ll.2.1 ll.2.2))) ll.1 = some (.frz od (dNT P w ll.1 (kvY ll.2.1 ll.2.2))) := upd_same
      have hl_o : ∀ c, c ≠ ll.1 → upd H10 ll.1 (.frz od (dNT P w ll.1 (kvY ll.2.1 ll.2.2))) c = H10 c := fun c n => upd_ne n
      have s1l : Same H1 (upd H10 ll.1 (.frz od (dNT P w ll.1 (kvY ll.2.1 ll.2.2)))) := Same.store (I.s.trans s8) (I.fre ll mll)
      refine ⟨.ref L, rfl, 1, rfl, L, _, -1, .ref ll.1, rfl, rfl, SqL.of ((hl_o L nLl).trans (s8 _ _ eL)), atI_last _ _, ll.1, od, kvY ll.2.1 ll.2.2, rfl, hl_l, ?_⟩
      generalize upd H10 ll.1 (.frz od (dNT P w ll.1 (kvY ll.2.1 ll.2.2))) = Hl at hl_l hl_o s1l ⊢
      obtain ⟨cl, c', eg, inj, caps, ec, nD, LA⟩ := id FA
      have CA := step_cal (q := qLam) (c' := c') (D := D0) (ds := ds) (ks := ks) (b := b) (f := f0) inj GB gB kB bB
      have smK : ∀ {H' : Hp}, Kp2 S FU Hl H' → Same H1 H' := fun {H'} k c o e => k c o (fun z => by rw [z, hS] at e; cases e) (fun z => by rw [z, h1F] at e; cases e) (s1l c o e)
      have kl : ∀ {r : Addr × Plc}, r ∈ ll.2.2 → Hl r.1 = some (vP r.2) := fun {r} hr => by
        have e := DL10.key r hr
        rw [hl_o r.1 (fun z => by rw [z, DL10.at_] at e; cases e)]
        exact e
      have SD : LayD P w Hl S (.bl true) (sn ++ []) := by
        rw [List.append_nil]
        have g := I.sd.same s8
        refine ⟨(hl_o S nSl).trans g.at_, fun r hr => ?_⟩
        have e := g.key r hr
        rw [hl_o r.1 (fun z => by rw [z, DL10.at_] at e; cases e)]
        exact e
      have FD : LayD P w Hl FU (.bl true) [] := ⟨(hl_o FU nFl).trans e10, fun r hr => by cases hr⟩
      have snU : ∀ x ∈ sn.map (·.2), x ∈ U := fun x hx => by
        obtain ⟨i, _, li⟩ := (I.met x).mp hx
        exact lvl_U sU BU li
      have llU : ∀ y ∈ ll.2.2.map (·.2), y ∈ U := fun y hy => lvl_U sU BU ((lvL y).mp hy)
      have sz : ∀ {fr : List (Addr × Plc)}, ((sn ++ fr).map (·.2)).Nodup → (∀ x ∈ fr.map (·.2), x ∈ U) → (sn ++ fr).length ≤ U.length := fun {fr} nd hU => by
        have z := nodup_le _ U nd fun x hx => by
          rw [List.map_append] at hx
          exact (List.mem_append.mp hx).elim (snU x) (hU x)
        rw [List.length_map] at z
        exact z
      refine for_it walkN (fun i σ H' => ∃ (v6 v7 : Option V) (fr : List (Addr × Plc)), σ = [some (.ref a), some (.ref st), some (.ref f0), some (.ref S), some (.ref L), some (.ref FU), v6, v7] ∧ Kp2 S FU Hl H' ∧ LayD P w H' S (.bl true) (sn ++ fr) ∧ LayD P w H' FU (.bl true) fr ∧ ((sn ++ fr).map (·.2)).Nodup ∧
        ∀ x, x ∈ fr.map (·.2) ↔ (∃ y ∈ (ll.2.2.take i).map (·.2), x ∈ sucP b ds ks y) ∧ x ∉ sn.map (·.2))
        ⟨v6, v7, [], rfl, fun c o _ _ e => e, SD, FD, by rw [List.append_nil]; exact I.snd, fun x => ⟨(fun z => by cases z), (fun z => by obtain ⟨⟨y, hy, _⟩, _⟩ := z; cases hy)⟩⟩ ?_ ?_ ?_
      · rintro i σ H' _ ⟨v6, v7, fr, rfl, k, _⟩
        exact k _ _ nSl.symm nFl.symm hl_l
      · rintro i x σ Hb H' hi ⟨v6, v7, fr, rfl, k, sd, fd, nd, mem⟩ ⟨rfl, p, hp, rfl⟩
        obtain ⟨y, hy, rfl⟩ := get_map (f := fun r : Addr × Plc => ((keyP r.2, r.1, ll.2.1) : KeyT)) hp
        have my := List.mem_of_getElem? hy
        have yU := llU y.2 (List.mem_map.mpr ⟨y, my, rfl⟩)
        have nk : ∀ {c : Addr} {xs : List V}, Hl c = some (.tup xs) → H' c = some (.tup xs) := fun {c xs} e => k c _ (fun z => by rw [z, SD.at_] at e; cases e) (fun z => by rw [z, FD.at_] at e; cases e) e
        have s1 := smK k
        refine ⟨f0, _, _, rfl, CA, s1 _ _ eg, .ref y.1, rfl, s1 _ _ eg, [.int b, .ref D0], caps.same s1, s1 _ _ ec, y.1, y.2.1, y.2.2, rfl, rfl, nk (kl my), BU.key _ yU, nD, (caps.same s1).ext, LA.extN (ExtN.of s1), few, b0, b6, fun Lp H3 s3 pl nL => ?_⟩
        obtain ⟨ps, ep, eLp, tp⟩ := pl
        have eSuc : sucP b ds ks y.2 = ps.map fun s => ((s.2.1, some s.2.2) : Plc) := by
          unfold sucP
          rw [← ep, List.map_map]
          rfl
        have k3 : Kp2 S FU Hl H3 := k.trans (.of s3)
        refine ⟨Lp, rfl, ⟨_, SqL.of eLp⟩, ?_⟩
        have nLpS : Lp ≠ S := fun z => by
          have e := (sd.same s3).at_
          rw [← z, eLp] at e
          cases e
        have nLpF : Lp ≠ FU := fun z => by
          have e := (fd.same s3).at_
          rw [← z, eLp] at e
          cases e
        refine for_list (K := K) (a := Lp) (xs := ps.map fun p => V.ref p.1) (fun j σ H' => ∃ (v7 : Option V) (fr2 : List (Addr × Plc)), σ = [some (.ref a), some (.ref st), some (.ref f0), some (.ref S), some (.ref L), some (.ref FU), some (.ref y.1), v7] ∧ Kp2 S FU H3 H' ∧ LayD P w H' S (.bl true) (sn ++ fr2) ∧ LayD P w H' FU (.bl true) fr2 ∧ ((sn ++ fr2).map (·.2)).Nodup ∧
          ∀ x, x ∈ fr2.map (·.2) ↔ ((∃ y ∈ (ll.2.2.take i).map (·.2), x ∈ sucP b ds ks y) ∨ x ∈ (ps.take j).map fun s => ((s.2.1, some s.2.2) : Plc)) ∧ x ∉ sn.map (·.2)) ?_ ?_ ?_ ?_
        · exact ⟨v7, fr, rfl, fun c o _ _ e => e, sd.same s3, fd.same s3, nd, fun x => by rw [mem x]; simp⟩
        · rintro j σ H4 _ ⟨v7, fr2, rfl, k4, _⟩
          exact SqL.of (k4 _ _ nLpS nLpF eLp)
        · rintro j x σ H4 hx ⟨v7, fr2, rfl, k4, sd4, fd4, nd4, mem4⟩
          obtain ⟨s0, hs0, rfl⟩ := get_map (f := fun p : Addr × (Int × Int) => V.ref p.1) hx
          have ms0 := List.mem_of_getElem? hs0
          have t4 : H4 s0.1 = some (vP (s0.2.1, some s0.2.2)) := k4 _ _ (fun z => by
            have e := tp s0 ms0
            rw [z, (sd.same s3).at_] at e
            cases e) (fun z => by
            have e := tp s0 ms0
            rw [z, (fd.same s3).at_] at e
            cases e) (tp s0 ms0)
          have suc0 : ((s0.2.1, some s0.2.2) : Plc) ∈ sucP b ds ks y.2 := by
            rw [eSuc]
            exact List.mem_map.mpr ⟨s0, ms0, rfl⟩
          refine ⟨.ref s0.1, rfl, .ref S, rfl, S, kvY (.bl true) (sn ++ fr2), keyP (s0.2.1, some s0.2.2), s0.1, rfl, rfl, sd4.dict, t4, _, rfl, ?_⟩
          rw [getY_is]
          have frU : ∀ {fr3 : List (Addr × Plc)}, (∀ x ∈ fr3.map (·.2), x ∈ fr2.map (·.2) ∨ x = ((s0.2.1, some s0.2.2) : Plc)) → ∀ x ∈ fr3.map (·.2), x ∈ U := fun {fr3} h x hx => by
            rcases h x hx with z | rfl
            · rcases ((mem4 x).mp z).1 with ⟨y2, hy2, hx2⟩ | hx2
              · obtain ⟨q, hq, rfl⟩ := List.mem_map.mp hy2
                exact BU.cl _ (llU q.2 (List.mem_map.mpr ⟨q, List.mem_of_mem_take hq, rfl⟩)) _ hx2
              · obtain ⟨q, hq, rfl⟩ := List.mem_map.mp hx2
                refine BU.cl _ yU _ ?_
                rw [eSuc]
                exact List.mem_map.mpr ⟨q, List.mem_of_mem_take hq, rfl⟩
            · exact BU.cl _ yU _ suc0
          have stepTk : ∀ x, x ∈ ((ps.take (j + 1)).map fun s => ((s.2.1, some s.2.2) : Plc)) ↔ x ∈ ((ps.take j).map fun s => ((s.2.1, some s.2.2) : Plc)) ∨ x = (s0.2.1, some s0.2.2) := fun x => by
            rw [take_more hs0, List.map_append, List.mem_append]
            exact or_congr Iff.rfl List.mem_singleton
          by_cases hin : ((s0.2.1, some s0.2.2) : Plc) ∈ (sn ++ fr2).map (·.2)
          · rw [decide_eq_true hin]
            refine iteF ⟨_, fr2, rfl, k4, sd4, fd4, nd4, fun x => ?_⟩
            rw [mem4 x, stepTk x]
            constructor
            · rintro ⟨h, n⟩
              exact ⟨h.imp id .inl, n⟩
            · rintro ⟨h | h | rfl, n⟩
              · exact ⟨.inl h, n⟩
              · exact ⟨.inr h, n⟩
              · rw [List.map_append] at hin
                rcases List.mem_append.mp hin with z | z
                · exact absurd z n
                · exact (mem4 _).mp z
          · rw [decide_eq_false hin]
            have nd5 : ((sn ++ (fr2 ++ [(s0.1, ((s0.2.1, some s0.2.2) : Plc))])).map (·.2)).Nodup := by
              rw [← List.append_assoc, List.map_append, List.nodup_append]
              refine ⟨nd4, List.nodup_cons.mpr ⟨(fun z => by cases z), .nil⟩, fun x hx z hz e => ?_⟩
              cases List.mem_singleton.mp hz
              have e : x = ((s0.2.1, some s0.2.2) : Plc) := e
              subst e
              exact hin hx
            have len4 := sz nd4 (frU fun x hx => .inl hx)
            have bU := BU.len
            have lf : fr2.length ≤ (sn ++ fr2).length := by rw [List.length_append]; omega
            refine iteT ?_
            refine ⟨.ref S, rfl, .ref s0.1, rfl, S, kvY (.bl true) (sn ++ fr2), keyP (s0.2.1, some s0.2.2), s0.1, rfl, rfl, sd4.dict, sd4.at_, t4, by rw [List.length_map]; exact big18 (Nat.le_trans len4 bU), ?_⟩
            rw [putN_new (getY_none hin), ← kvY_app (.bl true) (sn ++ fr2) (s0.1, ((s0.2.1, some s0.2.2) : Plc))]
            have sd5 := sd4.put (r := (s0.1, ((s0.2.1, some s0.2.2) : Plc))) t4
            have fd5 := fd4.past (fs := sn ++ fr2 ++ [(s0.1, ((s0.2.1, some s0.2.2) : Plc))]) sd4 nSF.symm
            have k5 : Kp2 S FU H4 (upd H4 S (dNT P w S (kvY (.bl true) (sn ++ fr2 ++ [(s0.1, ((s0.2.1, some s0.2.2) : Plc))])))) := fun c o n m e => by rw [upd_ne n]; exact e
            have t5 : upd H4 S (dNT P w S (kvY (.bl true) (sn ++ fr2 ++ [(s0.1, ((s0.2.1, some s0.2.2) : Plc))]))) s0.1 = some (vP (s0.2.1, some s0.2.2)) := by
              rw [upd_ne (fun z => by rw [z, sd4.at_] at t4; cases t4)]
              exact t4
            generalize eH5 : upd H4 S (dNT _ _ S (kvY (.bl true) (sn ++ fr2 ++ [(s0.1, ((s0.2.1, some s0.2.2) : Plc))]))) = H5
            have eH5 : upd H4 S (dNT P w S (kvY (.bl true) (sn ++ fr2 ++ [(s0.1, ((s0.2.1, some s0.2.2) : Plc))]))) = H5 := eH5
            rw [eH5] at sd5 fd5 k5 t5
            have hin2 : ((s0.2.1, some s0.2.2) : Plc) ∉ fr2.map (·.2) := fun z => hin (by rw [List.map_append]; exact List.mem_append_right _ z)
            refine ⟨.ref FU, rfl, .ref s0.1, rfl, FU, kvY (.bl true) fr2, keyP (s0.2.1, some s0.2.2), s0.1, rfl, rfl, fd5.dict, fd5.at_, t5, by rw [List.length_map]; exact big18 (by omega), ?_⟩
            rw [putN_new (getY_none hin2), ← kvY_app (.bl true) fr2 (s0.1, ((s0.2.1, some s0.2.2) : Plc))]
            have fd6 := fd5.put (r := (s0.1, ((s0.2.1, some s0.2.2) : Plc))) t5
            have sd6 := sd5.past (fs := fr2 ++ [(s0.1, ((s0.2.1, some s0.2.2) : Plc))]) fd5 nSF
            rw [List.append_assoc] at sd6
            refine ⟨_, fr2 ++ [(s0.1, ((s0.2.1, some s0.2.2) : Plc))], rfl, (k4.trans k5).trans (fun c o n m e => by rw [upd_ne m]; exact e), sd6, fd6, nd5, fun x => ?_⟩
            rw [List.map_append, List.mem_append, mem4 x, stepTk x]
            constructor
            · rintro (⟨h, n⟩ | h)
              · exact ⟨h.imp id .inl, n⟩
              · cases List.mem_singleton.mp h
                exact ⟨.inr (.inr rfl), fun z => hin (by rw [List.map_append]; exact List.mem_append_left _ z)⟩
            · rintro ⟨h | h | rfl, n⟩
              · exact .inl ⟨.inl h, n⟩
              · exact .inl ⟨.inr h, n⟩
              · exact .inr (List.mem_singleton.mpr rfl)
        · rintro σ H4 ⟨v7, fr2, rfl, k4, sd4, fd4, nd4, mem4⟩
          refine ⟨_, v7, fr2, rfl, k3.trans k4, sd4, fd4, nd4, fun x => ?_⟩
          rw [mem4 x, take_more hy, List.length_map, List.take_length, ← eSuc, List.map_append]
          constructor
          · rintro ⟨h | h, n⟩
            · obtain ⟨z, hz, hx⟩ := h
              exact ⟨⟨z, List.mem_append_left _ hz, hx⟩, n⟩
            · exact ⟨⟨y.2, List.mem_append_right _ (List.mem_singleton.mpr rfl), h⟩, n⟩
          · rintro ⟨⟨z, hz, hx⟩, n⟩
            rcases List.mem_append.mp hz with h | h
            · exact ⟨.inl ⟨z, h, hx⟩, n⟩
            · cases List.mem_singleton.mp h
              exact ⟨.inr hx, n⟩
      · rintro σ H' ⟨v6, v7, fr, rfl, k, sd, fd, nd, mem⟩
        have kvlen : (kvY ll.2.1 ll.2.2).length = ll.2.2.length := List.length_map _
        rw [kvlen, List.take_length] at mem
        have hll2 := k _ _ nSl.symm nFl.symm hl_l
        refine ⟨hll2, ?_⟩
        -- the layer, free again
        have lev : ∀ x, x ∈ fr.map (·.2) ↔ Lvl (sucP b ds ks) p0 (Lr.length + 1) x := fun x => by
          rw [mem x, lvl_next]
          constructor
          · rintro ⟨⟨y, hy, hx⟩, n⟩
            exact ⟨⟨y, (lvL y).mp hy, hx⟩, fun i hi li => n ((I.met x).mpr ⟨i, by omega, li⟩)⟩
          · rintro ⟨⟨y, hy, hx⟩, n⟩
            refine ⟨⟨y, (lvL y).mpr hy, hx⟩, fun z => ?_⟩
            obtain ⟨i, hi, li⟩ := (I.met x).mp z
            exact n i (by omega) li
        have un : ∀ c, c ≠ ll.1 → upd H' ll.1 (dNT P w ll.1 (kvY ll.2.1 ll.2.2)) c = H' c := fun c n => upd_ne n
        have unl : upd H' ll.1 (dNT P w ll.1 (kvY ll.2.1 ll.2.2)) ll.1 = some (dNT P w ll.1 (kvY ll.2.1 ll.2.2)) := upd_same
        have sU1 : Same H1 (upd H' ll.1 (dNT P w ll.1 (kvY ll.2.1 ll.2.2))) := Same.store (smK k) (I.fre ll mll)
        -- what stood at the loop's start, but for the two dicts
        have back : ∀ c o, c ≠ S → H8 c = some o → upd H' ll.1 (dNT P w ll.1 (kvY ll.2.1 ll.2.2)) c = some o := fun c o n e => by
          by_cases z : c = ll.1
          · subst z
            rw [DL.at_] at e
            rw [unl]
            exact e
          · rw [un c z]
            exact k c o n (nF e) ((hl_o c z).trans (s8 _ _ e))
        have tupS : ∀ {c : Addr} {xs : List V}, H8 c = some (.tup xs) → c ≠ S := fun {c xs} e z => by
          rw [z, I.sd.at_] at e
          cases e
        have sd8 : LayD P w (upd H' ll.1 (dNT P w ll.1 (kvY ll.2.1 ll.2.2))) S (.bl true) (sn ++ fr) := ⟨(un S nSl).trans sd.at_, fun r hr => (un r.1 fun z => by
          have e := sd.key r hr
          rw [z, hll2] at e
          cases e).trans (sd.key r hr)⟩
        have fd8 : LayD P w (upd H' ll.1 (dNT P w ll.1 (kvY ll.2.1 ll.2.2))) FU (.bl true) fr := ⟨(un FU nFl).trans fd.at_, fun r hr => (un r.1 fun z => by
          have e := fd.key r hr
          rw [z, hll2] at e
          cases e).trans (fd.key r hr)⟩
        generalize eH9 : upd H' ll.1 (dNT _ _ ll.1 (kvY ll.2.1 ll.2.2)) = H9' 
        have eH9 : upd H' ll.1 (dNT P w ll.1 (kvY ll.2.1 ll.2.2)) = H9' := eH9
        rw [eH9] at sU1 back sd8 fd8
        clear un unl eH9
        refine ⟨.ref FU, rfl, FU, kvY (.bl true) fr, rfl, fd8.dict, ?_⟩
        cases fr with
        | nil =>
          refine iteTB rfl (q1 H9' (x1.trans (ExtN.of sU1)) (T1.ext sU1) fun x rx => ?_)
          obtain ⟨i, hi, li⟩ := lvl_all (n := Lr.length) (fun x hx => by cases (lev x).mpr hx) rx
          by_cases e : i = Lr.length
          · subst e
            exact nz x ((lvL x).mpr li)
          · exact I.no i x (by omega) li
        | cons r0 fr1 =>
          have ndf : ((r0 :: fr1).map (·.2)).Nodup := by
            rw [List.map_append, List.nodup_append] at nd
            exact nd.2.1
          have frU : ∀ x ∈ (r0 :: fr1).map (·.2), x ∈ U := fun x hx => lvl_U sU BU ((lev x).mp hx)
          have lenU := sz nd frU
          have lenF : (sn ++ r0 :: fr1).length = sn.length + (fr1.length + 1) := by rw [List.length_append, List.length_cons]
          have bU := BU.len
          have nLS : L ≠ S := fun z => by
            have e := I.sd.at_
            rw [← z, eL] at e
            cases e
          have nFL : FU ≠ L := (nF eL).symm
          have eL9 := back L _ nLS eL
          have lenI := I.len
          refine iteFB rfl ?_
          refine ⟨.ref L, rfl, .inl ⟨rfl, _, SqL.of eL9⟩, .ref FU, rfl, L, _, .ref FU, rfl, rfl, eL9, ?_, ?_⟩
          · rw [← List.map_append, List.length_map, lenL]
            exact big18 (by omega)
          have nl0S : l0 ≠ S := fun z => by
            have e := I.sd.at_
            rw [← z, I.e1] at e
            cases e
          have tupL : ∀ {c : Addr} {xs : List V}, H8 c = some (.tup xs) → c ≠ L := fun {c xs} e z => by
            rw [z, eL] at e
            cases e
          have back2 : ∀ c o, c ≠ S → c ≠ L → H8 c = some o → upd H9' L (.lst (Lr.map (fun l => V.ref l.1) ++ [ll].map (fun l => V.ref l.1) ++ [V.ref FU])) c = some o := fun c o n m e => (upd_ne m).trans (back c o n e)
          have lay : ∀ {d : Addr} {v : V} {rs : List (Addr × Plc)}, d ≠ L → LayD P w H9' d v rs → LayD P w (upd H9' L (.lst (Lr.map (fun l => V.ref l.1) ++ [ll].map (fun l => V.ref l.1) ++ [V.ref FU]))) d v rs := fun {d v rs} n g => by
            refine ⟨(upd_ne n).trans g.at_, fun q hq => (upd_ne fun z => ?_).trans (g.key q hq)⟩
            have e := g.key q hq
            rw [z, eL9] at e
            cases e
          refine ⟨_, ?_, some (.ref FU), v6, v7, (Lr ++ [ll]) ++ [(FU, V.bl true, r0 :: fr1)], sn ++ r0 :: fr1, rfl, rfl, ?_⟩
          · omega
          · refine ⟨Same.store sU1 h1L, ?_, fun l hl => ?_, fun i l hl x => ?_, fun l hl => ?_, lay nLS.symm sd8, fun l hl => ?_, fun l hl => ?_, ?_, ?_, ?_, fun x => ?_, nd, ?_, fun i x hi lx => ?_⟩
            · rw [upd_same, List.map_append, List.map_append]
              rfl
            · rcases List.mem_append.mp hl with h | h
              · have g := I.each l h
                refine ⟨back2 _ _ (I.ne l h) (fun z => ?_) g.at_, fun q hq => back2 _ _ (tupS (g.key q hq)) (tupL (g.key q hq)) (g.key q hq)⟩
                have e := g.at_
                rw [z, eL] at e
                cases e
              · cases List.mem_singleton.mp h
                exact lay nFL fd8
            · by_cases hi : i < (Lr ++ [ll]).length
              · rw [List.getElem?_append_left hi] at hl
                exact I.lvl i l hl x
              · rw [List.getElem?_append_right (by omega)] at hl
                have e : i - (Lr ++ [ll]).length = 0 := by
                  have := (List.getElem?_eq_some_iff.mp hl).1
                  have z : i - (Lr ++ [ll]).length < 1 := this
                  omega
                rw [e] at hl
                cases hl
                rw [show i = Lr.length + 1 by omega]
                exact lev x
            · rcases List.mem_append.mp hl with h | h
              · exact I.nd l h
              · cases List.mem_singleton.mp h
                exact ndf
            · rcases List.mem_append.mp hl with h | h
              · exact I.ne l h
              · cases List.mem_singleton.mp h
                exact nSF.symm
            · rcases List.mem_append.mp hl with h | h
              · exact I.fre l h
              · cases List.mem_singleton.mp h
                exact h1F
            · rw [List.getElem?_append_left (by omega)]
              exact I.f0
            · exact back2 _ _ nl0S nlL I.e1
            · exact back2 _ _ (tupS I.e2) (tupL I.e2) I.e2
            · have len2 : ((Lr ++ [ll]) ++ [((FU, V.bl true, r0 :: fr1) : Lay)]).length = Lr.length + 2 := by rw [List.length_append, lenL]; rfl
              rw [List.map_append, List.mem_append, I.met x, lev x, len2, lenL]
              constructor
              · rintro (⟨i, hi, li⟩ | li)
                · exact ⟨i, by omega, li⟩
                · exact ⟨_, by omega, li⟩
              · rintro ⟨i, hi, li⟩
                by_cases e : i = Lr.length + 1
                · subst e
                  exact .inr li
                · exact .inl ⟨i, by omega, li⟩
            · rw [List.length_append, lenF]
              show _ + 1 ≤ _
              omega
            · have len2 : ((Lr ++ [ll]) ++ [((FU, V.bl true, r0 :: fr1) : Lay)]).length = Lr.length + 2 := by rw [List.length_append, lenL]; rfl
              by_cases e : i = Lr.length
              · subst e
                exact nz x ((lvL x).mpr lx)
              · exact I.no i x (by omega) lx
end
end K12
namespace K12
open PySem PySem.Spec PyProof.Rows L2 OF LamX NdefX
abbrev sIsWr : Stmt := topS 48
abbrev sWriting : Stmt := topS 49
abbrev sClosed : Stmt := topS 50
section
variable {P : Program} {w : World} {K : PySem.W.Frag} {mg : Str → Option Value} {base : Heap}
/-! ### functions of a place: the error that is due first, else what they answer -/
def ErrOr (C CN CI CU : Addr) (x y z : V) (H : Hp) (E : XK) (ok : Addr → Addr → Addr → Int → List Int → List (Addr × (Int × Int)) → Int → Prop) : Prop := (Odd H x ∧ Raised CN "value" x H E) ∨
  ∃ (a t r : Addr) (b : Int) (ds : List Int) (ks : List (Addr × (Int × Int))), x = .ref a ∧ SchemeAt C H a t r b ds ks ∧ ((Odd H y ∧ Raised CI "number" y H E) ∨
    ∃ n : Int, y = .int n ∧ ItemOk H z ∧ (rightB ds z = false → Raised CU "digit" z H E) ∧ (rightB ds z = true → ok a t r b ds ks n))
theorem checkP_of {C CN CI CU : Addr} {x y z : V} {H : Hp} {Q : VK} {E : XK} {ok : Addr → Addr → Addr → Int → List Int → List (Addr × (Int × Int)) → Int → Prop} (h : ErrOr C CN CI CU x y z H E ok)
    (f : ∀ a t r b ds ks n, x = .ref a → y = .int n → SchemeAt C H a t r b ds ks → rightB ds z = true → ok a t r b ds ks n → ∀ H', Same H H' → Q .non H') : spCheckP C CN CI CU [x, y, z] H Q E := by
  refine ⟨x, y, z, rfl, h.imp id fun ⟨a, t, r, b, ds, ks, e, S, h⟩ => ⟨a, t, r, b, ds, ks, e, S, h.imp id fun ⟨n, e2, hz, h1, h2⟩ => ⟨n, e2, hz, fun c => f a t r b ds ks n e e2 S c (h2 c), h1⟩⟩⟩
theorem right_key {ds : List Int} {z : V} (h : rightB ds z = true) : ∃ k : KeyN, z = nV k ∧ k ∈ none :: ds.map some := by
  cases z with
  | non => exact ⟨none, rfl, List.mem_cons_self⟩
  | int n =>
    have h2 : isOne ds n = true := h
    unfold isOne at h2
    rw [Bool.and_eq_true, decide_eq_true_eq] at h2
    exact ⟨some n, rfl, List.mem_cons_of_mem _ (List.mem_map.mpr ⟨n, h2.2, rfl⟩)⟩
  | _ => exact absurd h Bool.false_ne_true
/-- new: a list of places -/
def PlcsAt (H : Hp) (L : Addr) (as : List (Addr × Plc)) : Prop := H L = some (.lst (as.map fun p => V.ref p.1)) ∧ ∀ p ∈ as, H p.1 = some (vP p.2)
theorem zeros_empty {as : List (Addr × Plc)} : ((as.filter fun q => decide (q.2.1 = 0)).map fun q => V.ref q.1).isEmpty = true ↔ ∀ q ∈ as, q.2.1 ≠ 0 := by
  rw [List.isEmpty_iff, List.map_eq_nil_iff, List.filter_eq_nil_iff]
  constructor
  · intro h q hq e
    exact h q hq (decide_eq_true e)
  · intro h q hq e
    exact h q hq (of_decide_eq_true e)
/-- nothing but a table was tracked there -/
def NewN (H : Hp) (L : Addr) : Prop := ∀ o, H L = some o → ∃ ps, o = .tbl ps
theorem newN_of {H H' : Hp} {L : Addr} (x : ExtN H H') (h : H' L = none) : NewN H L := fun o e => Classical.byContradiction fun no => by
  have z := x _ _ e (fun ps h => no ⟨ps, h⟩)
  rw [h] at z
  cases z
def okClosed (C : Addr) (T : List (Addr × Str)) (z : V) (H : Hp) (Q : VK) : Addr → Addr → Addr → Int → List Int → List (Addr × (Int × Int)) → Int → Prop := fun a t r b ds ks n =>
  ds.length ≤ 60 ∧ b ≠ 0 ∧ b.natAbs ≤ 6 ∧ Tabs T H ∧ ∀ k : KeyN, z = nV k → ∃ U : List Plc, (n, k) ∈ U ∧ Bound b ds ks U ∧
    (∀ H', ExtN H H' → Tabs T H' → (∃ x, Reach (sucP b ds ks) [(n, k)] x ∧ x.1 = 0) → Q .non H') ∧
    ∀ (L : Addr) (H' : Hp) (as : List (Addr × Plc)), ExtN H H' → Tabs T H' → PlcsAt H' L as → (∀ x, x ∈ as.map (·.2) ↔ Reach (sucP b ds ks) [(n, k)] x) → (∀ x, Reach (sucP b ds ks) [(n, k)] x → x.1 ≠ 0) → Dfs (sucP b ds ks) [] [(n, k)] (as.map (·.2)) → NewN H L → Q (.ref L) H'
def spClosed (C CN CI CU : Addr) (T : List (Addr × Str)) : Sp := fun vs H Q E => ∃ x y z : V, vs = [x, y, z] ∧ ErrOr C CN CI CU x y z H E (okClosed C T z H Q)
abbrev nCl : List Str := ["scheme", "number", "right", "places"]
theorem scCl : FnScope nCl ["scheme", "number", "right"] (defScope sClosed) := ⟨rfl, rfl, rfl, by decide +kernel, rfl, by decide +kernel, by decide +kernel⟩
theorem ok_closed {f fP fG fZ C CN CI CU : Addr} {fd fdP fdG fdZ : FuncData} {T : List (Addr × Str)} (F : FunD K "closed_list" "closed_list" (defArgs sClosed) (defBody sClosed) (defScope sClosed) [.non] [] f fd)
    (GP : FnOk P w K mg base (L2.CX P w) 7 fP fdP ["scheme", "rest", "right"] (spCheckP C CN CI CU)) (gP : mg "_check_place" = some (.ref fP)) (kP : PySem.W.keepIn K (.ref fP) = true) (bP : Binds K fdP ["scheme", "rest", "right"] [])
    (GG : FnOk P w K mg base CX0 9 fG fdG ["scheme", "starts"] (spPGraph P w C T)) (gG : mg "place_graph" = some (.ref fG)) (kG : PySem.W.keepIn K (.ref fG) = true) (bG : Binds K fdG ["scheme", "starts"] [])
    (GZ : FnOk P w K mg base CX0 1 fZ fdZ ["places"] (spZeros P w)) (gZ : mg "_zeros" = some (.ref fZ)) (kZ : PySem.W.keepIn K (.ref fZ) = true) (bZ : Binds K fdZ ["places"] [])
    (mli : mg "list" = none) : FnOk P w K mg base (L2.CX P w) 10 f fd ["scheme", "number", "right"] (spClosed C CN CI CU T) := by
  refine F.ok scCl (fun vs H Q E h => ?_) (fun cdv A outer s H vs Q E hr h => ?_)
  · obtain ⟨x, y, z, rfl, _⟩ := h
    rfl
  · obtain ⟨x, y, z, rfl, h⟩ := h
    have hr1 : Room 1 _ := hr.mono (by decide)
    have hr7 : Room 7 _ := hr.mono (by decide)
    apply Exists.intro
    apply And.intro
    · apply pss_cons
      · exact ps_expr (pe_call GP hr7 (by rfl) gP kP bP .nil (passes_call (W := fun cl d _ J => E cl d J) (takes_of rfl rfl rfl rfl) (fun _ _ _ _ z => z)) (pa_cons (pv 0) (pa_cons (pv 1) (pa_cons (pv 2) pa_nil))))
      apply pss_cons
      · exact ps_set (i := 3) scCl.nd rfl (.inl rfl) (pe_callTy (call_listNT rfl) (by rfl) mli PyProof.Rows.boot_list (pa_cons (pe_call GG hr (by rfl) gG kG bG .nil pass0 (pa_cons (pv 0) (pa_cons (pe_lst (pa_cons (pe_tup (pa_cons (pv 1) (pa_cons (pv 2) pa_nil))) pa_nil)) pa_nil))) pa_nil))
      apply pss_cons
      · exact ps_if (pt_truth (pe_call GZ hr1 (by rfl) gZ kZ bZ .nil pass0 (pa_cons (pv 3) pa_nil)) (fun _ => rfl)) (pss_one (ps_ret pe_non)) pss_nil
      apply pss_one
      · exact ps_ret (pv 3)
    refine ⟨x, rfl, y, rfl, z, rfl, ?_⟩
    dsimp only [tNil, tCons, tC]
    refine checkP_of h ?_
    rintro a t r b ds ks n rfl rfl S hz ⟨few, b0, b6, hT, hk⟩ H1 s1
    obtain ⟨k, rfl, mk⟩ := right_key hz
    obtain ⟨U, nU, BU, q1, q2⟩ := hk k rfl
    refine ⟨.ref a, rfl, .int n, rfl, nV k, rfl, (by show 2 ≤ sizeLine; decide), fun p hp => ⟨(by show 1 ≤ sizeLine; decide), fun S0 hS0 => ?_⟩⟩
    have s2 := same_new (o := .tup [.int n, nV k]) hp
    have e2 : upd H1 p (.tup [.int n, nV k]) p = some (vP (n, k)) := upd_same
    generalize upd H1 p (.tup [.int n, nV k]) = H2 at s2 e2 hS0 ⊢
    have s3 := same_new (o := .lst [.ref p]) hS0
    have e3 : upd H2 S0 (.lst [.ref p]) S0 = some (.lst [.ref p]) := upd_same
    generalize upd H2 S0 (.lst [.ref p]) = H3 at s3 e3 ⊢
    have sA := s1.trans (s2.trans s3)
    refine ⟨S0, a, t, r, b, ds, ks, [(p, (n, k))], U, rfl, S.same sA, hT.ext sA, e3, ?_, (by show 1 ≤ 1000; decide), few, b0, b6, ?_, BU, fun G H4 es x4 T4 gA nd re le df => ?_⟩
    · intro q hq
      cases List.mem_singleton.mp hq
      exact s3 _ _ e2
    · intro q hq
      cases List.mem_singleton.mp hq
      exact nU
    refine ⟨G, _, rfl, gA.dict, fun L hL => ?_⟩
    have hN : NewN H L := newN_of ((ExtN.of sA).trans x4) hL
    have s5 := same_new (o := .lst ((kvG es).map fun z => V.ref z.2.1)) hL
    have e5 : upd H4 L (.lst ((kvG es).map fun z => V.ref z.2.1)) L = some (.lst ((es.map fun e => (e.1, e.2.2)).map fun q => V.ref q.1)) := by
      rw [upd_same]
      unfold kvG
      rw [List.map_map, List.map_map]
      rfl
    generalize upd H4 L (.lst ((kvG es).map fun z => V.ref z.2.1)) = H5 at s5 e5 ⊢
    have tup5 : ∀ q ∈ es.map fun e => (e.1, e.2.2), H5 q.1 = some (vP q.2) := fun q hq => by
      obtain ⟨e, he, rfl⟩ := List.mem_map.mp hq
      exact s5 _ _ (gA.key e he)
    have eK : (es.map fun e => (e.1, e.2.2)).map (·.2) = keysG es := by
      rw [List.map_map]
      rfl
    refine ⟨.ref L, rfl, L, _, rfl, tup5, ?_, .inl e5, fun D H6 s6 hD eD => ?_⟩
    · rw [List.length_map]
      exact Nat.le_trans le BU.len
    have x6 : ExtN H H6 := (ExtN.of sA).trans (x4.trans (ExtN.of (s5.trans s6)))
    have T6 := T4.ext (s5.trans s6)
    refine ⟨_, .inl ⟨_, SqL.of eD, rfl⟩, ?_⟩
    cases hz0 : ((((es.map fun e => (e.1, e.2.2)).filter fun q => decide (q.2.1 = 0)).map fun q => V.ref q.1)).isEmpty with
    | true =>
      have no := zeros_empty.mp hz0
      refine iteF ⟨.ref L, rfl, q2 L H6 _ x6 T6 ⟨s6 _ _ e5, fun q hq => s6 _ _ (tup5 q hq)⟩ (fun x => by rw [eK]; exact re x) (fun x hx => ?_) (by rw [eK]; exact df) hN⟩
      have hm := (re x).mpr hx
      rw [← eK] at hm
      obtain ⟨q, hq, rfl⟩ := List.mem_map.mp hm
      exact no q hq
    | false =>
      refine iteT (q1 H6 x6 T6 ?_)
      have nn : ¬ ∀ q ∈ es.map fun e => (e.1, e.2.2), q.2.1 ≠ 0 := fun h => by
        rw [zeros_empty.mpr h] at hz0
        cases hz0
      have ⟨q, hq, e0⟩ : ∃ q ∈ es.map fun e => (e.1, e.2.2), q.2.1 = 0 := by
        false_or_by_contra
        rename_i c
        exact nn fun q hq e => c ⟨q, hq, e⟩
      exact ⟨q.2, (re _).mp (by rw [← eK]; exact List.mem_map.mpr ⟨q, hq, rfl⟩), e0⟩
end
end K12
namespace K12
open PySem PySem.Spec PyProof.Rows L2 OF LamX NdefX
section
variable {P : Program} {w : World} {K : PySem.W.Frag} {mg : Str → Option Value} {base : Heap}
/-- is_written of good arguments -/
def okWritten (T : List (Addr × Str)) (z : V) (H : Hp) (Q : VK) : Addr → Addr → Addr → Int → List Int → List (Addr × (Int × Int)) → Int → Prop := fun _ _ _ b ds ks n =>
  ds.length ≤ 60 ∧ b ≠ 0 ∧ b.natAbs ≤ 6 ∧ Tabs T H ∧ ∀ k : KeyN, z = nV k → ∃ U : List Plc, (n, k) ∈ U ∧ Bound b ds ks U ∧
    ∀ (c : Bool) (H' : Hp), (c = true ↔ ∃ x, Reach (sucP b ds ks) [(n, k)] x ∧ x.1 = 0) → ExtN H H' → Tabs T H' → Q (.bl c) H'
def spWritten (C CN CI CU : Addr) (T : List (Addr × Str)) : Sp := fun vs H Q E => ∃ x y z : V, vs = [x, y, z] ∧ ErrOr C CN CI CU x y z H E (okWritten T z H Q)
theorem scIw : FnScope ["scheme", "number", "right"] ["scheme", "number", "right"] (defScope sIsWr) := ⟨rfl, rfl, rfl, by decide +kernel, rfl, by decide +kernel, by decide +kernel⟩
theorem ok_written {f fP fL C CN CI CU : Addr} {fd fdP fdL : FuncData} {T : List (Addr × Str)} (F : FunD K "is_written" "is_written" (defArgs sIsWr) (defBody sIsWr) (defScope sIsWr) [.non] [] f fd)
    (GP : FnOk P w K mg base (L2.CX P w) 7 fP fdP ["scheme", "rest", "right"] (spCheckP C CN CI CU)) (gP : mg "_check_place" = some (.ref fP)) (kP : PySem.W.keepIn K (.ref fP) = true) (bP : Binds K fdP ["scheme", "rest", "right"] [])
    (GL : FnOk P w K mg base CX0 9 fL fdL ["scheme", "start"] (spLayers P w C T)) (gL : mg "_layers_to_zero" = some (.ref fL)) (kL : PySem.W.keepIn K (.ref fL) = true) (bL : Binds K fdL ["scheme", "start"] []) :
    FnOk P w K mg base (L2.CX P w) 10 f fd ["scheme", "number", "right"] (spWritten C CN CI CU T) := by
  refine F.ok scIw (fun vs H Q E h => ?_) (fun cdv A outer s H vs Q E hr h => ?_)
  · obtain ⟨x, y, z, rfl, _⟩ := h
    rfl
  · obtain ⟨x, y, z, rfl, h⟩ := h
    have hr7 : Room 7 _ := hr.mono (by decide)
    apply Exists.intro
    apply And.intro
    · apply pss_cons
      · exact ps_expr (pe_call GP hr7 (by rfl) gP kP bP .nil (passes_call (W := fun cl d _ J => E cl d J) (takes_of rfl rfl rfl rfl) (fun _ _ _ _ z => z)) (pa_cons (pv 0) (pa_cons (pv 1) (pa_cons (pv 2) pa_nil))))
      apply pss_one
      · exact ps_ret (pe_cmpR op_notN (pe_call GL hr (by rfl) gL kL bL .nil pass0 (pa_cons (pv 0) (pa_cons (pe_tup (pa_cons (pv 1) (pa_cons (pv 2) pa_nil))) pa_nil))) pe_non (nomark _))
    refine ⟨x, rfl, y, rfl, z, rfl, ?_⟩
    dsimp only [tNil, tCons, tC]
    refine checkP_of h ?_
    rintro a t r b ds ks n rfl rfl S hz ⟨few, b0, b6, hT, hk⟩ H1 s1
    obtain ⟨k, rfl, mk⟩ := right_key hz
    obtain ⟨U, nU, BU, q⟩ := hk k rfl
    refine ⟨.ref a, rfl, .int n, rfl, nV k, rfl, (by show 2 ≤ sizeLine; decide), fun p hp => ?_⟩
    have s2 := same_new (o := .tup [.int n, nV k]) hp
    have e2 : upd H1 p (.tup [.int n, nV k]) p = some (vP (n, k)) := upd_same
    generalize upd H1 p (.tup [.int n, nV k]) = H2 at s2 e2 ⊢
    have sA := s1.trans s2
    refine ⟨a, t, r, p, b, ds, ks, (n, k), U, rfl, S.same sA, hT.ext sA, e2, few, b0, b6, nU, BU, fun H3 x3 T3 no => ⟨rfl, ?_⟩, fun L Ls H3 x3 T3 _ _ _ ex _ => ⟨rfl, ?_⟩⟩
    · rw [decide_eq_true rfl]
      refine q false H3 ⟨(fun z => by cases z), fun ⟨x, rx, e⟩ => absurd e (no x rx)⟩ ((ExtN.of sA).trans x3) T3
    · rw [decide_eq_false (fun z => by cases z)]
      obtain ⟨x, lx, e⟩ := ex
      exact q true H3 ⟨fun _ => ⟨x, lx.1.reach, e⟩, fun _ => rfl⟩ ((ExtN.of sA).trans x3) T3
end
end K12
namespace K12
open PySem PySem.Spec PyProof.Rows L2 OF
/-! ### the row that first_rows finds first, told by the levels -/
section
variable {b : Int} {ds : List Int} {ks : List (Addr × (Int × Int))} {p0 : Plc}
/-- what may stand to the right of d, in the order of the text -/
def rightsOf (ds : List Int) (ks : List (Addr × (Int × Int))) (d : Int) : List KeyN := (none :: ds.map some).filter fun k => jdg ds ks (.int d) (nV k)
/-- the first of l with F -/
def FirstOf {α : Type} (F : α → Prop) (l : List α) (k : α) : Prop := ∃ l1 l2, l = l1 ++ k :: l2 ∧ F k ∧ ∀ x ∈ l1, ¬ F x
theorem first_one {α : Type} {F : α → Prop} : ∀ {l : List α} {k j : α}, FirstOf F l k → FirstOf F l j → k = j
  | [], k, _, h, _ => by
    obtain ⟨l1, l2, e, _⟩ := h
    cases l1 <;> cases e
  | x :: l, k, j, ⟨l1, l2, e1, f1, n1⟩, ⟨m1, m2, e2, f2, n2⟩ => by
    cases l1 with
    | nil =>
      cases e1
      cases m1 with
      | nil =>
        cases e2
        rfl
      | cons y m1 =>
        cases e2
        exact absurd f1 (n2 x List.mem_cons_self)
    | cons y l1 =>
      cases e1
      cases m1 with
      | nil =>
        cases e2
        exact absurd f2 (n1 x List.mem_cons_self)
      | cons z m1 =>
        have e3 : l1 ++ k :: l2 = m1 ++ j :: m2 := (List.cons.inj e2).2
        exact first_one (l := l1 ++ k :: l2) ⟨l1, l2, rfl, f1, fun x hx => n1 x (List.mem_cons_of_mem _ hx)⟩ ⟨m1, m2, e3, f2, fun x hx => n2 x (List.mem_cons_of_mem _ hx)⟩
theorem first_some {α : Type} {F : α → Prop} : ∀ {l : List α}, (∃ k, k ∈ l ∧ F k) → ∃ k, FirstOf F l k
  | [], h => by
    obtain ⟨k, hk, _⟩ := h
    cases hk
  | x :: l, h => by
    by_cases hx : F x
    · exact ⟨x, [], l, rfl, hx, fun y hy => by cases hy⟩
    · obtain ⟨k, hk, fk⟩ := h
      rcases List.mem_cons.mp hk with rfl | hk
      · exact absurd fk hx
      · obtain ⟨j, l1, l2, e, fj, n⟩ := first_some ⟨k, hk, fk⟩
        refine ⟨j, x :: l1, l2, by rw [e]; rfl, fj, fun y hy => ?_⟩
        rcases List.mem_cons.mp hy with rfl | hy
        · exact hx
        · exact n y hy
inductive FR (b : Int) (ds : List Int) (ks : List (Addr × (Int × Int))) (p0 : Plc) : Nat → Plc → List Int → Prop
  | zero : FR b ds ks p0 0 p0 []
  | step {i : Nat} {r d : Int} {k : KeyN} {ls : List Int} (f : FirstOf (fun k => Lvl (sucP b ds ks) p0 i (r * b + d, k)) (rightsOf ds ks d) k) (h : FR b ds ks p0 i (r * b + d, k) ls) : FR b ds ks p0 (i + 1) (r, some d) (d :: ls)
theorem FR.one : ∀ {i : Nat} {p : Plc} {ls ms : List Int}, FR b ds ks p0 i p ls → FR b ds ks p0 i p ms → ls = ms
  | 0, _, _, _, .zero, .zero => rfl
  | i + 1, _, _, _, .step f h, .step g k => by
    cases first_one f g
    rw [FR.one h k]
theorem FR.len {i : Nat} {p : Plc} {ls : List Int} (h : FR b ds ks p0 i p ls) : ls.length = i := by
  induction h with
  | zero => rfl
  | step _ _ ih => rw [List.length_cons, ih]
/-- its value: from the rest of the start -/
theorem FR.val {i : Nat} {p : Plc} {ls : List Int} (h : FR b ds ks p0 i p ls) : ls.foldl (fun v d => v * b + d) p.1 = p0.1 := by
  induction h with
  | zero => rfl
  | step _ _ ih => rw [List.foldl_cons]; exact ih
/-- its last digit may stand to the left of what the start has to its right -/
theorem FR.last {i : Nat} {p : Plc} {ls : List Int} (h : FR b ds ks p0 i p ls) : ∀ d, ls.getLast? = some d → jdg ds ks (.int d) (nV p0.2) = true := by
  induction h with
  | zero => exact fun d e => by cases e
  | @step i r d k ls f h ih =>
    intro z e
    obtain ⟨l1, l2, eq, lk, _⟩ := f
    have mem : k ∈ rightsOf ds ks d := by rw [eq]; exact List.mem_append_right _ List.mem_cons_self
    have ok := (List.mem_filter.mp mem).2
    cases ls with
    | nil =>
      cases h
      cases e
      exact ok
    | cons y ls => exact ih z (by rw [List.getLast?_cons_cons] at e; exact e)
/-- digits beside each other are allowed -/
theorem FR.adj {i : Nat} {p : Plc} {ls : List Int} (h : FR b ds ks p0 i p ls) : ∀ (l1 l2 : List Int) (x y : Int), ls = l1 ++ x :: y :: l2 → jdg ds ks (.int x) (.int y) = true := by
  induction h with
  | zero => exact fun l1 l2 x y e => by cases l1 <;> cases e
  | @step i r d k ls f h ih =>
    intro l1 l2 x y e
    cases l1 with
    | cons z l1 => exact ih l1 l2 x y (List.cons.inj e).2
    | nil =>
      obtain ⟨rfl, e2⟩ := List.cons.inj e
      obtain ⟨m1, m2, eq, _, _⟩ := f
      have mem : k ∈ rightsOf ds ks d := by rw [eq]; exact List.mem_append_right _ List.mem_cons_self
      have ok := (List.mem_filter.mp mem).2
      subst e2
      cases h with
      | step _ _ => exact ok
/-- the place one level back, by the digit -/
theorem lvl_back {U : List Plc} (h0 : p0 ∈ U) (BU : Bound b ds ks U) (hb : b ≠ 0) {i : Nat} {p : Plc} (h : Lvl (sucP b ds ks) p0 (i + 1) p) : ∃ (d : Int) (k : KeyN), p.2 = some d ∧ d ∈ ds ∧ k ∈ rightsOf ds ks d ∧ Lvl (sucP b ds ks) p0 i (p.1 * b + d, k) := by
  obtain ⟨y, hy, hp⟩ := lvl_from h
  have yU := lvl_U h0 BU hy
  unfold sucP plc leftOf at hp
  obtain ⟨x, hx, rfl⟩ := List.mem_map.mp hp
  obtain ⟨d, hd, rfl⟩ := List.mem_map.mp hx
  obtain ⟨h1, h2⟩ := List.mem_filter.mp hd
  obtain ⟨h3, h4⟩ := List.mem_filter.mp h1
  have e0 : (y.1 - d).fmod b = 0 := of_decide_eq_true h2
  have back : (y.1 - d).fdiv b * b + d = y.1 := by
    have q := Int.mul_fdiv_add_fmod (y.1 - d) b
    rw [e0, Int.add_zero, Int.mul_comm] at q
    omega
  exact ⟨d, y.2, rfl, h3, List.mem_filter.mpr ⟨BU.key y yU, h4⟩, by
    show Lvl _ _ _ ((y.1 - d).fdiv b * b + d, y.2)
    rw [back]
    exact hy⟩
/-- from each place of a level there is such a row -/
theorem FR.some_ {U : List Plc} (h0 : p0 ∈ U) (BU : Bound b ds ks U) (hb : b ≠ 0) : ∀ (i : Nat) {p : Plc}, Lvl (sucP b ds ks) p0 i p → ∃ ls, FR b ds ks p0 i p ls
  | 0, p, h => by
    rw [lvl_zero] at h
    subst h
    exact ⟨[], .zero⟩
  | i + 1, p, h => by
    obtain ⟨y, hy, hp⟩ := lvl_from h
    have yU := lvl_U h0 BU hy
    unfold sucP plc leftOf at hp
    obtain ⟨x, hx, rfl⟩ := List.mem_map.mp hp
    obtain ⟨d, hd, rfl⟩ := List.mem_map.mp hx
    obtain ⟨h1, h2⟩ := List.mem_filter.mp hd
    obtain ⟨h3, h4⟩ := List.mem_filter.mp h1
    have e0 : (y.1 - d).fmod b = 0 := of_decide_eq_true h2
    have back : (y.1 - d).fdiv b * b + d = y.1 := by
      have q := Int.mul_fdiv_add_fmod (y.1 - d) b
      rw [e0, Int.add_zero, Int.mul_comm] at q
      omega
    obtain ⟨k, fk⟩ := first_some (F := fun k => Lvl (sucP b ds ks) p0 i ((y.1 - d).fdiv b * b + d, k)) (l := rightsOf ds ks d) ⟨y.2, List.mem_filter.mpr ⟨BU.key y yU, h4⟩, by rw [back]; exact hy⟩
    obtain ⟨l1, l2, _, lk, _⟩ := id fk
    obtain ⟨ls, hls⟩ := FR.some_ h0 BU hb i lk
    exact ⟨d :: ls, .step fk hls⟩
/-- the row of the fewest digits, the first of them -/
structure FirstRow (b : Int) (ds : List Int) (ks : List (Addr × (Int × Int))) (p0 : Plc) (m : Nat) (ls : List Int) : Prop where
  no : ∀ i x, i < m → Lvl (sucP b ds ks) p0 i x → x.1 ≠ 0
  ex : ∃ e, Lvl (sucP b ds ks) p0 m e ∧ e.1 = 0 ∧ (∀ f, Lvl (sucP b ds ks) p0 m f → f.1 = 0 → ∀ x y, e.2 = some x → f.2 = some y → x ≤ y) ∧ FR b ds ks p0 m e ls
theorem FirstRow.one {U : List Plc} (h0 : p0 ∈ U) (BU : Bound b ds ks U) (hb : b ≠ 0) {m n : Nat} {ls ms : List Int} (f : FirstRow b ds ks p0 m ls) (g : FirstRow b ds ks p0 n ms) : m = n ∧ ls = ms := by
  obtain ⟨e, l1, z1, le1, r1⟩ := f.ex
  obtain ⟨e2, l2, z2, le2, r2⟩ := g.ex
  have emn : m = n := by
    rcases Nat.lt_trichotomy m n with h | h | h
    · exact absurd z1 (g.no m e h l1)
    · exact h
    · exact absurd z2 (f.no n e2 h l2)
  subst emn
  refine ⟨rfl, ?_⟩
  have ee : e = e2 := by
    cases m with
    | zero => rw [lvl_zero.mp l1, lvl_zero.mp l2]
    | succ m =>
      obtain ⟨d, _, hd, _⟩ := lvl_back h0 BU hb l1
      obtain ⟨d2, _, hd2, _⟩ := lvl_back h0 BU hb l2
      have a := le1 e2 l2 z2 d d2 hd hd2
      have c := le2 e l1 z1 d2 d hd2 hd
      have : d = d2 := by omega
      subst this
      exact Prod.ext (z1.trans z2.symm) (hd.trans hd2.symm)
  subst ee
  exact FR.one r1 r2
end
end K12
/-! del xs[k:] where k is the length: nothing goes. -/
namespace OF
open PySem PySem.Spec PyProof.Rows L2
theorem zip_keep (sel : Nat → Bool) : ∀ (l : List Value) (j : Nat), (∀ k, j ≤ k → k < j + l.length → sel k = false) → (l.zipIdx j).filterMap (fun p => if sel p.2 = true then none else some p.1) = l
  | [], _, _ => rfl
  | x :: l, j, h => by
    rw [List.zipIdx_cons, List.filterMap_cons]
    have h0 : sel j = false := h j (Nat.le_refl _) (by rw [List.length_cons]; omega)
    simp only [h0, Bool.false_eq_true, if_false]
    rw [zip_keep sel l (j + 1) fun k h1 h2 => h k (by omega) (by rw [List.length_cons]; omega)]
section
variable {prog : Program} {w : World} {A : Around} {E : Value → Shared → Prop} {s : Shared}
def selT (start stop step : Int) (i : Nat) : Bool := if step > 0 then start ≤ i && i < stop && (i - start) % step == 0 else stop < i && i ≤ start && (start - i) % (-step) == 0
theorem bounds_tail (n : Nat) : sliceBounds (some (n : Int)) none none n = ((n : Int), (n : Int), 1) := by
  simp only [sliceBounds, Option.getD_none]
  have h1 : ¬ ((n : Int) < 0) := by omega
  simp only [h1, if_false, show (1 : Int) > 0 by decide, if_true]
  congr 1
  omega
theorem delItem_tail {l sl : Addr} {items : List Value} {n : Nat} {vl : Value} {Q : Unit → Shared → Prop}
    (e : s.heap.get? l = some { cls := .type "list", data := .seq items.toArray n }) (hs : s.heap.IsSliceOf sl vl .none .none) (pl : IsPart vl (some (items.length : Int))) (hz : items.length ≤ sizeLine)
    (h : ∀ f : Array Value → Array Value, f items.toArray = items.toArray → Q () { s with heap := s.heap.update l (Obj.mapSeq f) }) : wpAny (model prog w) A (delItem (.ref l) (.ref sl)) Q E s := by
  have hl : s.heap.IsList l items.toArray := PySem.IsL.isList e
  obtain ⟨os, hos, hcs, hds⟩ := id hs
  have hTs : s.TypeIs (.ref sl) "slice" := ⟨os, hos, hcs⟩
  have hstep : ¬ ((rawPart none == rawInt 0) = true) := Bool.false_ne_true
  have sz : items.toArray.size = items.length := List.size_toArray
  refine wpAny_delItem_slot hl.typeIs (by decide) F.slot_list_delitem (wpAny_call_entry F.slot_list_delitem hl.typeIs F.entry_list_delitem ?_ (F.args_list_delitem_2 _ _))
  show wpAny _ _ (Builtin.List.listSubscript? (.ref sl) >>= _) _ _ s
  refine wpAny_bind ?_
  unfold Builtin.List.listSubscript?
  refine wpAny_bind (wpAny_specialOf hTs slice_no_index ?_)
  simp only [Option.isNone_none, if_true]
  refine wpAny_pure ?_
  show wpAny _ _ (typeOf (.ref sl) >>= _) _ _ s
  refine wpAny_bind (wpAny_typeOf hTs ?_)
  rw [if_neg (by decide)]
  rw [listSliceParts_eq]
  refine wpAny_bind (wpAny_bind (wpAny_field hos hds (x := .none) rfl (wpAny_bind (wpAny_listPart .none ?_))))
  rw [if_neg hstep]
  refine wpAny_bind (wpAny_field hos hds (x := vl) rfl (wpAny_bind (wpAny_listPart pl ?_)))
  refine wpAny_bind (wpAny_field hos hds (x := .none) rfl (wpAny_bind (wpAny_listPart .none (wpAny_pure ?_))))
  unfold Builtin.List.listItems
  refine wpAny_bind (wpAny_bind (wpAny_seqItems e rfl (wpAny_pure ?_)))
  refine wpAny_bind (wpAny_of_eq ((sliceIndices_raw (some (items.length : Int)) none none items.toArray.size (by simp)).trans (congrArg (pure : Int × Int × Int → Sem (Int × Int × Int)) (show sliceBounds (some (items.length : Int)) none none items.toArray.size = ((items.length : Int), (items.length : Int), 1) from by rw [sz]; exact bounds_tail _))) ?_)
  refine wpAny_bind (wpAny_rule ?_)
  have keep : ∀ k : Nat, k < items.length → (selT items.length items.length 1 k) = false := fun k hk => by
    unfold selT
    have : ¬ ((items.length : Int) ≤ (k : Int)) := by omega
    rw [decide_eq_false this]
    rfl
  refine wpAny_bind (wpAny_updateSeq (hz := by rw [sz]; exact hz) (_hz' := ?_) e rfl ?_)
  · refine wpAny_bind (wpAny_letGo ?_)
    refine wpAny_pure ⟨.none, rfl, h _ ?_⟩
    exact congrArg List.toArray (zip_keep (fun k => selT items.length items.length 1 k) items 0 (fun k _ h2 => keep k (by omega)))
  · have z : (List.filterMap (fun x : Value × Nat => if selT items.length items.length 1 x.2 = true then none else some x.1) items.toArray.toList.zipIdx).toArray.size ≤ sizeLine + 1 := by
      rw [List.size_toArray]
      refine Nat.le_trans (List.length_filterMap_le _ _) ?_
      rw [List.length_zipIdx]
      exact Nat.le_succ_of_le hz
    exact z
end
section
variable {X : Cx} {o lo : Expr} {to tl : TE} {pos p2 tpos : Pos}
/-- del xs[k:], k the length of xs -/
def tDelTail (to tl : TE) : TS := fun D σ H => to σ H fun x H1 => tPart tl σ H1 fun k H2 => ∃ (l : Addr) (xs : List V), x = .ref l ∧ k = some (xs.length : Int) ∧ H2 l = some (.lst xs) ∧ D.nx σ H2
theorem upd_self {H : Hp} {l : Addr} {u : HO} (h : H l = some u) : upd H l u = H := by
  funext b
  by_cases e : b = l
  · subst e
    rw [upd_same, h]
  · rw [upd_ne e]
theorem ps_delTail (ho : PE X o to) (hl : PE X lo tl) : PS X (.Delete [.Subscript o (.Slice (some lo) none none p2) tpos] pos) (tDelTail to tl) := by
  refine ⟨fun pins s σ H D I h => ?_⟩
  refine wpAny_Delete (wpAny_deleteEach_cons (wpAny_delete_Subscript (thn (ho.run pins s σ H _ I h) fun u s1 ⟨x, H1, I1, rx, q1⟩ => ?_)))
  refine wpAny_Slice (thn ((po_some hl).run pins s1 σ H1 _ I1 q1) fun vl s2 ⟨k, H2, I2, pl, q2⟩ => ?_)
  rw [evalPart_none]
  refine wpAny_pure (wpAny_pure ?_)
  obtain ⟨l, xs, rfl, rfl, hH, q⟩ := q2
  obtain rfl : u = Value.ref l := rx
  have I4 : Inv X pins σ H2 { s2 with heap := s2.heap.push { cls := .type "slice", data := .fields #[vl, .none, .none] } } := I2.kept (t' := s2.toks) fun b ob q => Heap.get?_push_of_some _ q
  obtain ⟨z, its, n, r, hn, e⟩ := I4.lstM hH
  rw [hn] at pl
  refine delItem_tail (items := its) e (Heap.IsSliceOf.new ..) pl (by omega) fun f hf => ?_
  refine wpAny_deleteEach_nil ⟨σ, H2, ?_, q⟩
  have I5 := I4.lset (its' := its) (t' := s2.toks) hH e hf r (by omega)
  rw [upd_self hH] at I5
  exact I5
end
end OF
/-! sorted(xs, reverse=True): references to pairs of ints; one item may be anything that stands at an address. -/
namespace OF
open PySem PySem.Spec PyProof.Rows L2
section
variable {X : Cx}
def rSortedPR (K : PySem.W.Frag) : List V → List V → Hp → VK → Prop := fun vs zs H Q => ∃ (a : Addr) (xs : List V) (k : V → Int × Int), vs = [V.ref a] ∧ zs = [.bl true] ∧ SqL K H a xs ∧ (∀ x ∈ xs, ∃ t, x = V.ref t) ∧
  (2 ≤ xs.length → ∀ x ∈ xs, ∃ t, x = V.ref t ∧ H t = some (.tup [.int (k x).1, .int (k x).2])) ∧
  ∀ ys p, SrtO.Srtd (ltP k) ys → ys.Perm xs → H p = none → Q (.ref p) (upd H p (.lst ys.reverse))
theorem cr_sortedPR : CallRK X (.builtin "sorted") [Str.ofString "reverse"] (rSortedPR X.K) := by
  intro pins s σ H vs zs us ws Q I r rz h
  obtain ⟨a, xs, k, rfl, rfl, hs, hr, hx, q⟩ := h
  obtain rfl := Vals.ref1 r
  obtain ⟨w1, rfl, ew⟩ := vals1 rz
  obtain rfl : w1 = Value.bool true := ew
  obtain ⟨its, rv, hl, hz⟩ := I.list hs
  have size := rv.length
  obtain ⟨e1, e2⟩ := refs_back rv hr
  have pair : 2 ≤ its.length → ∀ v ∈ its, Srt.IsPair s.heap v (k (backV v)).1 (k (backV v)).2 := fun h2 v hv => by
    obtain ⟨t, rfl⟩ := e2 v hv
    obtain ⟨t', e, ht⟩ := hx (by omega) (V.ref t) (by rw [e1]; exact List.mem_map.mpr ⟨_, hv, rfl⟩)
    cases e
    obtain ⟨_, its2, r2, o, ho, hc, n, hd⟩ := I.hok _ _ ht
    obtain ⟨u1, u2, rfl, ⟨t1, rfl⟩, ⟨t2, rfl⟩⟩ := vals2 r2
    exact ⟨t, o, t1, t2, n, rfl, ho, hc, hd⟩
  refine SrtR.sorted_ordK (b := true) (fun _ => rfl) (args_sorted_rev _ _) (fun _ => args_list_sort_rev _ _) (SrtO.swo_lex fun u => k (backV u)) hl.isList (by rw [← size]; exact hz) (fun h2 h₁ d there kept => ?_) fun out h1 h2 => ?_
  · refine SrtO.pairs_sortableO (s := { s with heap := h₁ }) (by omega) (fun v hm => (pair h2 v hm).keeps fun b o e _ => (kept b o e).2) fun o e => ?_
    have e' : some o = some (seqObj "list" its.toArray 0) := e.symm.trans there
    cases e'
    exact fun c => absurd (Value.type.inj c) (by decide)
  · have perm : out.Perm its := h2.perm.trans (List.reverse_perm _)
    have refs : ∀ u ∈ out.reverse, ∃ b, u = Value.ref b := fun u hu => e2 u (perm.mem_iff.mp (List.mem_reverse.mp hu))
    have back : (out.map backV).Perm xs := by
      rw [e1]
      exact perm.map backV
    obtain ⟨ep, he⟩ := sortedAll_at s.heap its out.toArray.reverse
    have er : (out.map backV).reverse = out.reverse.map backV := List.map_reverse.symm
    have e0 : out.reverse.toArray = out.toArray.reverse := by simp
    refine ⟨.ref _, upd H (s.heap.objs.size + 1) (.lst (out.map backV).reverse), I.laid (t' := s.toks) (fun _ _ => sortedAll_old) (Nat.le_succ _) ⟨?_, out.reverse, ep, ?_, ?_⟩, rfl, q _ _ (SrtO.srtd_map h1) back (I.hok.fresh (Nat.le_succ _))⟩
    · rw [List.length_reverse, back.length_eq]
      exact hz
    · rw [er]
      exact vals_back refs
    · rw [e0]
      exact he
end
end OF
/-! name = {k: v for ..}: a dict comprehension whose value is stored while its block still stands. -/
namespace OF
open PySem PySem.Spec PyProof.Rows L2
section
variable {X : Cx}
theorem dcK_core {κ : DKind X.prog X.w} {kx vx tg iter : Expr} {ifs : List Expr} {scope : Scope} {own : List (Str × Nat)} {pos pos' : Pos} {wi : TI} {g : TG} {tt : TT} {tk tv : TE} {pins : List (Addr × Obj)} {s : Shared} {σ : L2.St} {H : Hp} {Q : VK} {use : Option (Value → Sem Unit)} {Qf : Value → Shared → Prop}
    (hu : X.A.units < cLine) (hc : X.calm = true) (hN : X.N.Nodup) (I : Inv X pins σ H s) (hi : PI X tg iter wi) (ok : BlkOk X.N X.env.scope scope own)
    (hg : ∀ s H C cl fp, PG (X.blk s H scope (compEnvC scope cl C X.env) fp) tg g) (ht : ∀ s H C cl fp, PTs (X.blk s H scope (compEnvC scope cl C X.env) fp) ifs tt)
    (hk : ∀ s H C cl fp, PE (X.blk s H scope (compEnvC scope cl C X.env) fp) kx tk) (hv : ∀ s H C cl fp, PE (X.blk s H scope (compEnvC scope cl C X.env) fp) vx tv) (fold : ∀ x, foldedSetIterable iter X.env x = pure x)
    (h : tDcK κ wi g tt tk tv (own.map (·.2)) σ H Q)
    (fin : ∀ D C s' m H', Inv X pins σ H' s' → Q (.ref D) H' → s'.heap.Ns C m → FpOk X pins H' C → compPost (model X.prog X.w) X.A X.xe use Qf (.ref D) C (.ok .next) s') :
    wpAny (model X.prog X.w) X.A (comprehension (.DictComp kx vx [⟨tg, iter, ifs, 0⟩] scope pos) scope X.env pos' newDict false (eval iter X.env) use) Qf X.xe s := by
  have caught : ∀ y ∈ scope.names, y.2 = .free → ∃ c, X.env.cells.lookup y.1 = some c := fun y hy e => (ok.free y hy e).elim (fun k => I.ok.has _ (.inl k)) fun k => I.ok.has _ (.inr k)
  refine wpAny_comprehension_free (use := use) rfl fold (closure_ok caught) ok.kind (fun y hy e => by rw [ok.uniq y hy, e]) (thn (hi.run pins s σ H _ I h) fun xv sa hx => thn hx fun itv sb hb => ?_)
  obtain ⟨ita, fa, tna, J, Hb, rfl, Ib, T, stb, fb, q⟩ := hb
  refine wpAny_newObj_type (newEnv_comp ?_)
  generalize hD : sb.heap.objs.size = D
  have nD : Hb D = none := Ib.hok.fresh (Nat.le_of_eq hD)
  obtain ⟨V0, ⟨m0, w0⟩, turn⟩ := q D nD
  generalize hsc : ({ sb with heap := sb.heap.push { cls := .type "dict", data := .dict #[] } } : Shared) = sc
  have hsc' : sc.heap = sb.heap.push { cls := .type "dict", data := .dict #[] } := by rw [← hsc]
  have Ic : Inv X pins σ (upd Hb D (κ.emp D)) sc := by
    rw [← hsc, ← hD]
    exact Ib.laid (t' := sb.toks) (fun b o e => Heap.get?_push_of_some _ e) (Nat.le_refl _) (κ.emp_ok _ _ Ib.big)
  have small : ∀ b ∈ fa, b < sb.heap.objs.size := fun b hb => by
    obtain ⟨o, e, _⟩ := T.obj _ _ stb b hb
    exact Heap.lt_size e
  have fc : ∀ b ∈ fa, FpOk X pins (upd Hb D (κ.emp D)) b ∧ b < sc.heap.objs.size := fun b hb => by
    have lt := small b hb
    refine ⟨⟨?_, (fb b hb).2⟩, by rw [hsc', Heap.size_push]; exact Nat.lt_succ_of_lt lt⟩
    rw [upd_ne (by rw [← hD]; exact Nat.ne_of_lt lt)]
    exact (fb b hb).1
  have stc : tna 0 sc.heap := T.keep _ _ _ stb fun b _ o e => by
    rw [hsc']
    exact Heap.get?_push_of_some _ e
  have Id := block_start Ic ok hN fc
  have Gd := hg sc (upd Hb D (κ.emp D)) sc.heap.objs.size (cellsFrom (sc.heap.objs.size + 1) scope.names (cloFrom X.env.cells scope.names [])) fa
  have Td := ht sc (upd Hb D (κ.emp D)) sc.heap.objs.size (cellsFrom (sc.heap.objs.size + 1) scope.names (cloFrom X.env.cells scope.names [])) fa
  have Kd := hk sc (upd Hb D (κ.emp D)) sc.heap.objs.size (cellsFrom (sc.heap.objs.size + 1) scope.names (cloFrom X.env.cells scope.names [])) fa
  have Vd := hv sc (upd Hb D (κ.emp D)) sc.heap.objs.size (cellsFrom (sc.heap.objs.size + 1) scope.names (cloFrom X.env.cells scope.names [])) fa
  have clear0 : ∀ b ∈ fa, (upd Hb D (κ.emp D)) b = none := fun b hb => (fc b hb).1.1
  show codeAny _ _ (.compStart (.DictComp kx vx [⟨tg, iter, ifs, 0⟩] scope pos) 0 (.ref ita) (.ref D) (compEnvC scope (cellsFrom (sc.heap.objs.size + 1) scope.names (cloFrom X.env.cells scope.names [])) sc.heap.objs.size X.env)) _ _
  generalize hce : compEnvC scope (cellsFrom (sc.heap.objs.size + 1) scope.names (cloFrom X.env.cells scope.names [])) sc.heap.objs.size X.env = ce at Id Gd Td Kd Vd ⊢
  have cL : ce.locals = sc.heap.objs.size := by
    rw [← hce]
    rfl
  generalize hHc : upd Hb D (κ.emp D) = Hc at Ic Id Gd Td Kd Vd w0 clear0 fc
  generalize hsd : ({ sc with heap := pushCells (sc.heap.push { cls := .type "dict", data := .dict #[] }) scope.names } : Shared) = sd at Id ⊢
  have std : tna 0 sd.heap := T.keep _ _ _ stc fun b _ o e => by
    rw [← hsd]
    exact pushCells_keeps _ _ _ _ (Heap.get?_push_of_some _ e)
  have steady : ∀ {σ' : L2.St} {H' : Hp} {s' : Shared}, Inv (X.blk sc Hc scope ce fa) [] σ' H' s' → (∀ b ∈ fa, H' b = none) → ∀ b ∈ fa, FpOk (X.blk sc Hc scope ce fa) [] H' b := fun {σ' H' s'} I' nn b hb =>
    ⟨nn b hb, (I'.ok.exf b hb).1, I'.ok.exfs b hb, .inl hb, fun x c e => (I'.ok.exf b hb).2 x c e, fun p hp => nomatch hp⟩
  refine codeAny_compStart_dict ?loop (T.self X.A 0 _ _ _ std ?loop)
  refine compLoop_anyD (fun n s' => ∃ i H', Inv (X.blk sc Hc scope ce fa) [] (wipe σ (own.map (·.2))) H' s' ∧ tna i s'.heap ∧ (∀ b ∈ fa, H' b = none) ∧ V0 i n H') ?_ m0 ⟨0, Hc, Id, std, clear0, w0⟩
  rintro n se ⟨i, He, Ie, ste, ne, we⟩
  rcases turn i n He we with ⟨stop, qq⟩ | ⟨go, N, hNx, step⟩
  · refine thnF (T.done (X.blk sc Hc scope ce fa) rfl rfl rfl hc i [] se _ He (fun _ _ => False) Ie (steady Ie ne) ste stop) fun r sf ⟨hr, If⟩ => ?_
    subst hr
    have back : Inv X pins σ He sf := Ic.call' (ch := fa) If.os If.base If.hok If.bare fun b hb => ⟨(fc b hb).1.2.2.2.1, (fc b hb).1.2.1, (fc b hb).1.2.2.2.2.1, (fc b hb).1.2.2.2.2.2⟩
    have none_ : He sc.heap.objs.size = none := by
      have z : He ce.locals = none := If.free
      rw [cL] at z
      exact z
    obtain ⟨m, hn, _⟩ := If.loc
    have hn : sf.heap.Ns ce.locals m := hn
    rw [cL] at hn
    exact fin D sc.heap.objs.size sf m He back qq hn (Ic.fpOk (Nat.le_refl _) none_)
  · refine thnF (T.item (X.blk sc Hc scope ce fa) rfl rfl rfl hc i [] se _ He (fun _ _ => False) Ie (steady Ie ne) ste go) fun r sf ⟨u, hr, hf⟩ => ?_
    subst hr
    refine thnF hf fun _ sg ⟨x, Hg, Ig, rg, yg, stg, ng⟩ => ?_
    refine thnF (Gd.run _ sg _ Hg x u _ (Ig.pinned (steady Ig ng) (T.obj _ _ stg)) rg (step x Hg yg)) fun _ sh ⟨σh, Hh, Ih, wh, qh⟩ => ?_
    refine thnF (Td.run _ sh σh Hh _ Ih qh) fun b si ⟨Hi, Ii, qi⟩ => ?_
    have over : ∀ {s' : Shared} {H' : Hp}, Inv (X.blk sc Hc scope ce fa) ([] ++ pinsAt fa sg.heap) σh H' s' → N H' → ∃ m, m < n ∧ ∃ i H', Inv (X.blk sc Hc scope ce fa) [] (wipe σ (own.map (·.2))) H' s' ∧ tna i s'.heap ∧ (∀ b ∈ fa, H' b = none) ∧ V0 i m H' := fun {s' H'} I' nx => by
      obtain ⟨m', less, w'⟩ := hNx H' nx
      have held : ∀ b ∈ fa, ∀ o, sg.heap.get? b = some o → s'.heap.get? b = some o ∧ H' b = none := fun b hb o e =>
        let z := I'.pin (b, o) (List.mem_append_right _ (List.mem_append_right _ (mem_pinsAt hb e)))
        ⟨z.1, z.2.1⟩
      refine ⟨m', less, i + 1, H', (I'.unpinned (pins := [])).weak (by rw [← wh, wipe_length]) (fun j v e => ?_), T.keep _ _ _ stg fun b hb o e => (held b hb o e).1, fun b hb => ?_, w'⟩
      · rw [← wh] at e
        exact (wipe_some e).1
      · obtain ⟨o, e, _⟩ := T.obj _ _ stg b hb
        exact (held b hb o e).2
    cases b with
    | false =>
      simp only [Bool.false_eq_true, if_false] at qi ⊢
      exact over Ii qi
    | true =>
      simp only [if_true] at qi ⊢
      refine thnF (Kd.run _ si σh Hi _ Ii qi) fun z sj ⟨yk, Hj, Ij, rj, qj⟩ => ?_
      refine thnF (Vd.run _ sj σh Hj _ Ij qj) fun z2 sk ⟨yv, Hk, Ik, rk, qk⟩ => ?_
      exact thnF (κ.put_ok (X := X.blk sc Hc scope ce fa) rfl rfl hu Ik rj rk qk) fun _ sl ⟨Hl, Il, nl⟩ => over Il nl
theorem ps_setDcK {κ : DKind X.prog X.w} {i : Nat} {y : Str} {py spos : Pos} {kx vx tg iter : Expr} {ifs : List Expr} {scope : Scope} {own : List (Str × Nat)} {pos : Pos} {wi : TI} {g : TG} {tt : TT} {tk tv : TE} (hu : X.A.units < cLine) (hc : X.calm = true) (hN : X.N.Nodup) (hy : X.N[i]? = some y) (hyl : X.env.scope.names.lookup y = some .local)
    (hsw : swapsWith (.DictComp kx vx [⟨tg, iter, ifs, 0⟩] scope pos) (some (.Name y py)) spos.line X.env = pure true) (hi : PI X tg iter wi) (ok : BlkOk X.N X.env.scope scope own)
    (hg : ∀ s H C cl fp, PG (X.blk s H scope (compEnvC scope cl C X.env) fp) tg g) (ht : ∀ s H C cl fp, PTs (X.blk s H scope (compEnvC scope cl C X.env) fp) ifs tt)
    (hk : ∀ s H C cl fp, PE (X.blk s H scope (compEnvC scope cl C X.env) fp) kx tk) (hv : ∀ s H C cl fp, PE (X.blk s H scope (compEnvC scope cl C X.env) fp) vx tv) (fold : ∀ x, foldedSetIterable iter X.env x = pure x := by intro _; rfl) :
    PS X (.Assign [.Name y py] (.DictComp kx vx [⟨tg, iter, ifs, 0⟩] scope pos) spos) (tAsg (tDcK κ wi g tt tk tv (own.map (·.2))) (gName i)) := by
  refine ⟨fun pins s σ H D I h => ?_⟩
  rw [exec_Assign_Name_used _ _ _ _ hsw]
  refine wpAny_bind (wpAny_standAt (wpAny_bind ?_))
  show wpAny _ X.A (do let _ ← comprehension (.DictComp kx vx [⟨tg, iter, ifs, 0⟩] scope pos) scope X.env (firstIterPos [⟨tg, iter, ifs, 0⟩] pos) newDict false (eval iter X.env) (some (assign (.Name y py) X.env))) _ _ s
  have h : tDcK κ wi g tt tk tv (own.map (·.2)) σ H (fun x H1 => gName i x σ H1 D.nx) := h
  refine wpAny_bind (thn (dcK_core (Qf := fun _ s' => SP X pins D .next s') hu hc hN I hi ok hg ht hk hv fold h fun L C s' m H' I' q hn f => ?_) fun _ s' hq => wpAny_pure (wpAny_pure hq))
  show wpAny _ _ (assign (.Name y py) X.env (.ref L)) _ _ _
  refine wpAny_assign_Name (store_ok2 (v := V.ref L) I' hN hy (.inl hyl) rfl (fun s2 I2 ⟨a, sb, ha⟩ => ?_) (.inr hyl))
  obtain ⟨f0, f1, f2, f3, f4, f5⟩ := f
  have away : C ≠ a := fun e => by
    rcases ha with z | z
    · exact f1 (e.trans z)
    · exact f4 y a z e.symm
  exact ⟨m, hn.sameBut sb away, fun h3 sb3 => ⟨_, H', I2.turned (t' := s2.toks) (fun b o hb e => (sb3.2 b hb).trans e) f0 f1 f3 f4 f5, q⟩⟩
theorem sw_dict {kx vx : Expr} {gs : List Comprehension} {scope : Scope} {pos py : Pos} {y : Str} {l : Nat} {env : Env} (fn : env.scope.kind = .function) (own : env.scope.names.lookup y = some .local) (line : (py.line == pos.line) = true)
    (free : (scope.names.any fun (n, k) => n == y && (k == .local || k == .cell)) = false) : swapsWith (.DictComp kx vx gs scope pos) (some (.Name y py)) l env = pure true := by
  have kind : env.kindOf y = some .local := own
  have block : env.blockKind = .function := by
    unfold Env.blockKind
    rw [fn]
    rfl
  unfold swapsWith
  simp only [block, kind, free, Expr.pos, line]
  rfl
end
end OF
namespace K12
open PySem PySem.Spec PyProof.Rows L2 OF LamX NdefX
abbrev sFirst : Stmt := topS 30
section
variable {P : Program} {w : World} {K : PySem.W.Frag} {mg : Str → Option Value} {base : Heap}
/-- the layers, what stands at their end with the rest 0: the first row alone, in a list -/
def spFirst (P : Program) (w : World) (C : Addr) : Sp := fun vs H Q _ => ∃ (a t r L Z : Addr) (b : Int) (ds : List Int) (ks : List (Addr × (Int × Int))) (p0 : Plc) (U : List Plc) (Ls : List Lay) (zs : List (Addr × Plc)), vs = [.ref a, .ref L, .ref Z, .int 1] ∧
  SchemeAt C H a t r b ds ks ∧ LayersAt P w H L b ds ks p0 Ls ∧ 1 ≤ Ls.length ∧ Ls.length ≤ 100000 ∧ ds.length ≤ 60 ∧ b ≠ 0 ∧ b.natAbs ≤ 6 ∧ p0 ∈ U ∧ Bound b ds ks U ∧ H Z = some (.lst (zs.map fun q => V.ref q.1)) ∧ (∀ q ∈ zs, H q.1 = some (vP q.2)) ∧ zs ≠ [] ∧ (zs.map (·.2)).Nodup ∧
  (∀ x, x ∈ zs.map (·.2) ↔ Lvl (sucP b ds ks) p0 (Ls.length - 1) x ∧ x.1 = 0) ∧
  ∀ (R tp : Addr) (ls : List Int) (e : Plc) (H' : Hp), Same H H' → H' R = some (.lst [.ref tp]) → H' tp = some (.tup (ls.map V.int)) → e ∈ zs.map (·.2) → (∀ f ∈ zs.map (·.2), ∀ x y, e.2 = some x → f.2 = some y → x ≤ y) → FR b ds ks p0 (Ls.length - 1) e ls → Q (.ref R) H'
def RightsAt (P : Program) (w : World) (H : Hp) (R : Addr) (ds : List Int) (ks : List (Addr × (Int × Int))) (n : Nat) : Prop :=
  ∃ kvs : List (KeyN × V), H R = some (dN P w R kvs) ∧ kvs.length ≤ n ∧ ∀ i d, i < n → ds[i]? = some d → ∃ L, valV kvs (some d) = some (.ref L) ∧ H L = some (.lst ((rightsOf ds ks d).map nV))
theorem getY_some {v : V} {rs : List (Addr × Plc)} {p : Plc} (h : p ∈ rs.map (·.2)) : getN (kvY v rs) (keyP p) = some v := by
  have z := getY_is v rs p
  rw [decide_eq_true h] at z
  unfold getN at z ⊢
  cases hf : (kvY v rs).find? fun q => decide (q.1 = keyP p) with
  | none =>
    rw [hf] at z
    cases z
  | some e =>
    obtain ⟨r, _, rfl⟩ := List.mem_map.mp (List.mem_of_find?_eq_some hf)
    rfl
/-- the two ints of a place -/
def keyZ (H : Hp) : V → Int × Int := fun v => match v with
  | .ref t => match H t with
    | some (.tup [.int m, .int n]) => (m, n)
    | _ => (0, 0)
  | _ => (0, 0)
theorem keyZ_at {H : Hp} {t : Addr} {p : Plc} {d : Int} (e : H t = some (vP p)) (hd : p.2 = some d) : keyZ H (.ref t) = (p.1, d) := by
  obtain ⟨n, k⟩ := p
  cases hd
  unfold keyZ
  simp only [e]
  rfl
/-- tuple(xs) -/
abbrev rTupOf (K : PySem.W.Frag) : List V → Hp → VK → Prop := fun xs H Q => ∃ p ys, xs = [.ref p] ∧ ((SqL K H p ys ∧ ∀ l, H l = none → Q (.ref l) (upd H l (.tup ys))) ∨ (SqT K H p ys ∧ Q (.ref p) H))
abbrev nFi : List Str := ["scheme", "layers", "ends", "most", "base", "rights", "rows", "row", "stack", "depth", "rest", "right", "before", "layer", "digit", "other", "end", "left", "lower"]
theorem scFi : FnScope nFi ["scheme", "layers", "ends", "most"] (defScope sFirst) := ⟨rfl, rfl, rfl, by decide +kernel, rfl, by decide +kernel, by decide +kernel⟩
theorem ok_first {f fB fD fA C p p2 : Addr} {fd fdB fdD fdA : FuncData} (F : Fun K "first_rows" "first_rows" sFirst f fd) (c : Cls K C)
    (pD : PropOf K C "digits" p fD) (GD : FnOk P w K mg base CX0 1 fD fdD ["self"] (spPD C)) (bD : Binds K fdD ["self"] []) (pB : PropOf K C "base" p2 fB) (GB : FnOk P w K mg base CX0 1 fB fdB ["self"] (spPB C)) (bB : Binds K fdB ["self"] [])
    (mA : Meth K C "allows" fA) (GA : FnOk P w K mg base CX0 5 fA fdA ["self", "left", "right"] (spAllows C)) (bA : Binds K fdA ["self", "left", "right"] [])
    (mso : mg "sorted" = none) (ml : mg "len" = none) (mre : mg "reversed" = none) (mt : mg "tuple" = none) : FnOk P w K mg base CX0 7 f fd ["scheme", "layers", "ends", "most"] (spFirst P w C) := by
  refine F.ok scFi (fun vs H Q E h => ?_) (fun cdv A outer s H vs Q E hr h => ?_)
  · obtain ⟨a, t, r, L, Z, b, ds, ks, p0, U, Ls, zs, rfl, _⟩ := h
    rfl
  · obtain ⟨a, t, r, L, Z, b, ds, ks, p0, U, Ls, zs, rfl, S, LA, l1, lK, few, b0, b6, pU, BU, hZ, zA, zne, znd, zI, q⟩ := h
    have hr2 : Room 2 _ := hr.mono (by decide)
    have hr5 : Room 5 _ := hr.mono (by decide)
    apply Exists.intro
    apply And.intro
    · apply pss_cons
      · exact ps_set (i := 4) scFi.nd rfl (.inl rfl) (pe_prop (pv 0) c pB GB hr2 bB .nil pass0 (by rfl))
      apply pss_cons
      · exact ps_setDcK (i := 5) (κ := kN P w) (own := [("digit", 14)]) (g := gName 14) (tt := tYes) (tk := tVar 14) (tv := (tLc (iTup K (tOp rCat2 (tTup (tCons (tC .non) tNil)) (tProp C (spPD C) [] E0 (tVar 0)))) (gName 15) (tB (tMeth C "allows" (spAllows C) [] E0 (tVar 0) (tCons (tVar 14) (tCons (tVar 15) tNil)))) (tVar 15) [15])) (by exact Nat.lt_of_succ_lt (hu_of hr)) rfl scFi.nd rfl rfl (sw_dict rfl rfl rfl (by decide +kernel)) (pi_tup (pe_prop (pv 0) c pD GD hr2 bD .nil pass0 (by rfl)))
          (blkOk_by (own := [("digit", 14)]) (N := nFi) (sc := defScope sFirst) (by decide +kernel)) (fun _ _ _ _ _ => pg_name (i := 14) scFi.nd rfl (Or.inr rfl)) (fun _ _ _ _ _ => by exact pts_nil) (fun _ _ _ _ _ => by exact (pv 14)) (fun _ _ _ _ _ => by exact (pe_lc (own := [("other", 15)]) (g := gName 15) rfl scFi.nd (pi_tup (pe_op op_cat2 (pe_tup (pa_cons pe_non pa_nil)) (pe_prop (pv 0) c pD GD hr2 bD .nil pass0 (by rfl))))
            (blkOk_by (own := [("other", 15)]) (N := nFi) (sc := ⟨.function, [(".0", .local), ("digit", .cell), ("scheme", .cell)], false, false, []⟩) (by decide +kernel)) (fun _ _ _ _ _ => pg_name (i := 15) scFi.nd rfl (Or.inl rfl)) (fun _ _ _ _ _ => by exact (pts_one (pt_val (pe_meth (pv 0) c mA GA hr5 bA .nil pass0 (pa_cons (pv 14) (pa_cons (pv 15) pa_nil)))))) (fun _ _ _ _ _ => by exact (pv 15))))
      apply pss_cons
      · exact ps_set (i := 6) scFi.nd rfl (.inl rfl) (pe_lst pa_nil)
      apply pss_cons
      · exact ps_set (i := 7) scFi.nd rfl (.inr rfl) (pe_lst pa_nil)
      apply pss_cons
      · exact ps_setLc (i := 8) (own := [("end", 16)]) (g := gName 16) (tt := tYes) (te := tTup (tCons (tC (.int 0)) (tCons (tVar 16) tNil))) rfl scFi.nd rfl rfl (sw_true rfl rfl rfl (by decide +kernel)) (pi_list (pe_callBK cr_sortedPR (by rfl) mso PyProof.Rows.boot_sorted (pa_cons (pv 2) pa_nil) (pk_cons pe_bl pk_nil))) (blkOk_by (own := [("end", 16)]) (N := nFi) (sc := defScope sFirst) (by decide +kernel)) (fun _ _ _ _ _ => pg_name (i := 16) scFi.nd rfl (Or.inl rfl))
            (fun _ _ _ _ _ => by exact pts_nil) (fun _ _ _ _ _ => by exact (pe_tup (pa_cons pe_int (pa_cons (pv 16) pa_nil))))
      apply pss_cons
      · exact ps_while PassesOwn.never (PW.pt (pw_and (pt_truth (pv 8) (fun _ => rfl)) (pw_and1 (pt_cmpR op_lt (pe_callB call_len_seq (by rfl) ml PySem.boot_len (pa_cons (pv 6) pa_nil)) (pv 3) (nomark _)))))
          (pss_cons (ps_asg (pe_bm0 PySem.F.plainAttrs_list PySem.F.slot_list_pop PySem.F.type_list_pop mt_pop (pv 8)) (pg_tup rfl (pgs_cons (pg_name (i := 9) scFi.nd rfl (.inr rfl)) (pgs_cons (pg_tup rfl (pgs_cons (pg_name (i := 10) scFi.nd rfl (.inl rfl)) (pgs_cons (pg_name (i := 11) scFi.nd rfl (.inl rfl)) pgs_nil))) pgs_nil))))
            (pss_cons (ps_delTail (pv 7) (pv 9))
              (pss_cons (ps_if (pt_cmpR op_eq (pv 9) (pe_op op_sub (pe_callB call_len_seq (by rfl) ml PySem.boot_len (pa_cons (pv 1) pa_nil)) pe_int) (nomark _))
                (pss_cons (ps_expr (pe_bm PySem.F.plainAttrs_list PySem.F.slot_list_extend PySem.F.type_list_extend mt_extend (pv 6) (pa_cons (pe_lc (own := [("lower", 18)]) (g := gName 18) (tt := tYes) (te := tOp rCat2 (tCB (rTupOf K) (tCons (tVar 7) tNil)) (tVar 18)) rfl scFi.nd (pi_list (pe_ix (ix_dictNT (hu_of hr)) (pe_ix ix_list (pv 1) pe_int (fun _ _ => rfl)) (pe_tup (pa_cons (pv 10) (pa_cons (pv 11) pa_nil))) (fun _ _ => rfl)))
                  (blkOk_by (own := [("lower", 18)]) (N := nFi) (sc := defScope sFirst) (by decide +kernel)) (fun _ _ _ _ _ => pg_name (i := 18) scFi.nd rfl (Or.inl rfl)) (fun _ _ _ _ _ => by exact pts_nil) (fun _ _ _ _ _ => by exact (pe_op op_cat2 (pe_callTy call_tuple_of (by rfl) mt (by decide +kernel) (pa_cons (pv 7) pa_nil)) (pv 18)))) pa_nil)))
                  (pss_one ps_continue)) pss_nil)
              (pss_cons (ps_expr (pe_bm PySem.F.plainAttrs_list PySem.F.slot_list_append PySem.F.type_list_append mt_append (pv 7) (pa_cons (pv 11) pa_nil)))
              (pss_cons (ps_set (i := 12) scFi.nd rfl (.inr rfl) (pe_op op_add (pe_op op_mul (pv 10) (pv 4)) (pv 11)))
              (pss_cons (ps_set (i := 13) scFi.nd rfl (.inr rfl) (pe_ix ix_list (pv 1) (pe_op op_sub (pe_un un_neg pe_int) (pv 9)) (fun _ _ => rfl)))
              (pss_one (ps_expr (pe_bm PySem.F.plainAttrs_list PySem.F.slot_list_extend PySem.F.type_list_extend mt_extend (pv 8) (pa_cons (pe_lc (own := [("left", 17)]) (g := gName 17) (tt := tTest (tOp (rInNT (cxOf CX0 P w K mg base nFi "first_rows" (defScope sFirst) f cdv A outer s H E)) (tTup (tCons (tVar 12) (tCons (tVar 17) tNil))) (tVar 13))) (te := tTup (tCons (tOp (rI0 fun i j => .int (i + j)) (tVar 9) (tC (.int 1))) (tCons (tTup (tCons (tVar 12) (tCons (tVar 17) tNil))) tNil))) rfl scFi.nd (RT.pi_revA (by rfl) mre (pe_ix ix_dictN (pv 5) (pv 11) (fun _ _ => rfl)))
                  (blkOk_by (own := [("left", 17)]) (N := nFi) (sc := defScope sFirst) (by decide +kernel)) (fun _ _ _ _ _ => pg_name (i := 17) scFi.nd rfl (Or.inl rfl)) (fun _ _ _ _ _ => by exact (pts_one (pt_cmpR (op_inNT (hu_of hr)) (pe_tup (pa_cons (pv 12) (pa_cons (pv 17) pa_nil))) (pv 13) rfl))) (fun _ _ _ _ _ => by exact (pe_tup (pa_cons (pe_op op_add (pv 9) pe_int) (pa_cons (pe_tup (pa_cons (pv 12) (pa_cons (pv 17) pa_nil))) pa_nil))))) pa_nil))))))))))
      apply pss_one
      · exact ps_ret (pe_slice sl_list (pv 6) po_none (po_some (pv 3)))
    obtain ⟨⟨dx, hins⟩, ht, _⟩ := id S
    refine ⟨.ref a, rfl, a, dx, _, rfl, hins, a, t, r, b, ds, ks, rfl, S, ?_⟩
    refine ⟨.ref a, rfl, a, dx, _, rfl, hins, a, t, r, b, ds, ks, rfl, S, t, rfl, ⟨_, SqT.of ht⟩, fun R hR => ?_⟩
    refine dcK_it (κ := kN P w) (walk_tup (K := K) (a := t) (xs := ds.map V.int)) (fun i H' => Same H H' ∧ RightsAt P w H' R ds ks i) ⟨same_new hR, [], upd_same, Nat.le_refl _, fun i d hi => nomatch hi⟩ (fun i H' _ h => SqT.of (h.1 _ _ ht)) ?_ ?_
    · rintro i x H0 H1 hi ⟨s1, kvs, e1, kfew, all⟩ ⟨rfl, hx⟩
      obtain ⟨d, hd, rfl⟩ := get_map hx
      have hi2 : i < ds.length := (List.getElem?_eq_some_iff.mp hd).1
      refine ⟨rfl, ?_⟩
      dsimp only [tYes]
      refine iteTB rfl ?_
      refine ⟨_, rfl, (by show 1 ≤ sizeLine; decide), fun p1 hp1 => ?_⟩
      have s2 := same_new (o := .tup [.non]) hp1
      have e2 : (upd H1 p1 (.tup [.non])) p1 = some (.tup [.non]) := upd_same
      generalize upd H1 p1 (.tup [.non]) = H2 at s2 e2 ⊢
      have sB := s1.trans s2
      refine ⟨.ref a, rfl, a, dx, _, rfl, sB _ _ hins, a, t, r, b, ds, ks, rfl, S.same sB, ?_⟩
      refine ⟨p1, t, _, _, rfl, rfl, e2, sB _ _ ht, by rw [List.length_map]; exact Nat.le_trans (by show 1 + ds.length ≤ 1000; omega) (by decide), fun T H3 s3 eT => ?_⟩
      have sC := sB.trans s3
      refine ⟨T, rfl, ⟨_, SqT.of eT⟩, fun D hD => ?_⟩
      have same : [V.non] ++ ds.map V.int = (none :: ds.map some : List KeyN).map nV := by
        rw [List.map_cons, List.map_map]
        rfl
      rw [same] at eT
      refine lc_tup (K := K) (a := T) (xs := (none :: ds.map some : List KeyN).map nV) (fun j H' => Same H3 H' ∧ H' D = some (.lst ((((none :: ds.map some : List KeyN).take j).filter fun k => jdg ds ks (.int d) (nV k)).map nV))) ⟨same_new hD, upd_same⟩ (fun j H' _ h => SqT.of (h.1 _ _ eT)) ?_ ?_
      · rintro j x H4 hx ⟨s4, e4⟩
        obtain ⟨k, hk, rfl⟩ := get_map hx
        have sD := sC.trans s4
        obtain ⟨⟨dx1, hins1⟩, _⟩ := id (S.same sD)
        refine ⟨rfl, .ref a, rfl, a, dx1, _, rfl, hins1, rfl, .int d, rfl, nV k, rfl, ?_⟩
        dsimp only [tNil, tCons, tC]
        have fits : ItemOk H4 (nV k) ∨ nV k = .non := by
          cases k with
          | none => exact .inr rfl
          | some d => exact .inl (.inl ⟨d, rfl⟩)
        refine allows_of (S.same sD) (.inl ⟨d, rfl⟩) fits fun H5 s5 => ⟨_, rfl, ?_⟩
        have e5 := s5 _ _ e4
        have jl : (none :: ds.map some : List KeyN).length ≤ 61 := by
          rw [List.length_cons, List.length_map]
          omega
        cases hj : jdg ds ks (.int d) (nV k) with
        | true =>
          refine iteT ⟨nV k, rfl, _, e5, ?_, Same.store (s4.trans s5) hD, ?_⟩
          · rw [List.length_map]
            exact Nat.lt_of_le_of_lt (Nat.le_trans (List.length_filter_le _ _) (List.length_take_le' _ _)) (small1000 (by omega))
          · rw [upd_same, take_more hk, List.filter_append, List.map_append]
            simp [hj]
        | false =>
          refine iteF ⟨s4.trans s5, ?_⟩
          rw [e5, take_more hk, List.filter_append]
          simp [hj]
      · rintro H4 ⟨s4, e4⟩
        rw [List.length_map, List.take_length] at e4
        have sD := (s2.trans s3).trans s4
        have eR := sD _ _ e1
        have off : ∀ {c : Addr} {xs : List V}, H4 c = some (.lst xs) → upd H4 R (dN P w R (putK kvs (some d) (.ref D))) c = some (.lst xs) := fun {c xs} ec => by
          rw [upd_ne]
          · exact ec
          · rintro rfl
            rw [eR] at ec
            cases ec
        refine ⟨kvs, some d, rfl, eR, Nat.lt_of_le_of_lt kfew (small1000 (by omega)), Same.store (s1.trans sD) hR, putK kvs (some d) (.ref D), upd_same, Nat.le_trans (length_putK _ _ _) (by omega), fun i2 d2 hi3 hd2 => ?_⟩
        rw [valV_put]
        by_cases ek : d2 = d
        · subst ek
          rw [if_pos rfl]
          exact ⟨D, rfl, off e4⟩
        · rw [if_neg (fun z => ek (Option.some.inj z))]
          have lt : i2 < i := by
            rcases Nat.lt_or_ge i2 i with z | z
            · exact z
            · have z2 : i2 = i := by omega
              subst z2
              rw [hd] at hd2
              exact absurd (Option.some.inj hd2).symm ek
          obtain ⟨L2, v2, e2'⟩ := all i2 d2 lt hd2
          exact ⟨L2, v2, off (sD _ _ e2')⟩
    rintro H1 ⟨s1, RA⟩
    rw [List.length_map] at RA
    generalize eN : Ls.length - 1 = n at q zI
    refine ⟨(by show 0 ≤ sizeLine; decide), fun rw_ hrw => ?_⟩
    have s2 := same_new (o := .lst []) hrw
    have e2 : upd H1 rw_ (.lst []) rw_ = some (.lst []) := upd_same
    generalize upd H1 rw_ (.lst []) = H2 at s2 e2 ⊢
    refine ⟨(by show 0 ≤ sizeLine; decide), fun ro hro => ?_⟩
    have s3 := same_new (o := .lst []) hro
    have e3 : upd H2 ro (.lst []) ro = some (.lst []) := upd_same
    have nrr : rw_ ≠ ro := ne_of_none e2 hro
    generalize upd H2 ro (.lst []) = H3 at s3 e3 ⊢
    have sA := s1.trans (s2.trans s3)
    have zA3 : ∀ q ∈ zs, H3 q.1 = some (vP q.2) := fun q hq => sA _ _ (zA q hq)
    have zone : ∀ x ∈ zs.map (·.2), 2 ≤ zs.length → ∃ d, x.2 = some d := fun x hx h2 => by
      obtain ⟨lx, _⟩ := (zI x).mp hx
      cases n with
      | zero =>
        have one : ∀ y ∈ zs.map (·.2), y = p0 := fun y hy => lvl_zero.mp ((zI y).mp hy).1
        exfalso
        match zs, znd, one, h2 with
        | u :: v :: l, znd, one, _ =>
          have e1 := one u.2 List.mem_cons_self
          have e2 := one v.2 (List.mem_cons_of_mem _ List.mem_cons_self)
          have := (List.nodup_cons.mp znd).1
          exact this (by show u.2 ∈ _; rw [e1, ← e2]; exact List.mem_cons_self)
      | succ n =>
        obtain ⟨d, _, e, _⟩ := lvl_back pU BU b0 lx
        exact ⟨d, e⟩
    refine ⟨.ref Z, rfl, Z, _, keyZ H3, rfl, rfl, SqL.of (sA _ _ hZ), fun x hx => ?_, fun h2 x hx => ?_, fun ys p srt prm hp => ?_⟩
    · obtain ⟨q0, _, rfl⟩ := List.mem_map.mp hx
      exact ⟨_, rfl⟩
    · obtain ⟨q0, hq0, rfl⟩ := List.mem_map.mp hx
      rw [List.length_map] at h2
      obtain ⟨d, hd⟩ := zone q0.2 (List.mem_map.mpr ⟨q0, hq0, rfl⟩) h2
      have e := zA3 q0 hq0
      refine ⟨q0.1, rfl, ?_⟩
      rw [e, keyZ_at e hd]
      unfold vP
      rw [hd]
      rfl
    have s4 := same_new (o := .lst ys.reverse) hp
    have e4 : upd H3 p (.lst ys.reverse) p = some (.lst ys.reverse) := upd_same
    generalize upd H3 p (.lst ys.reverse) = H4 at s4 e4 ⊢
    have zU : zs.length ≤ 100000 := by
      have z := nodup_le _ U znd fun x hx => lvl_U pU BU ((zI x).mp hx).1
      rw [List.length_map] at z
      exact Nat.le_trans z BU.len
    have yz : ys.length = zs.length := by rw [prm.length_eq, List.length_map]
    refine ⟨p, rfl, ⟨_, SqL.of e4⟩, fun st hst => ?_⟩
    refine lc_list (K := K) (a := p) (xs := ys.reverse) (fun i H' => Same H4 H' ∧ ∃ vs : List V, vs.length = i ∧ H' st = some (.lst vs) ∧ ∀ i', i = i' + 1 → ∃ (T : Addr) (y : V) (vs0 : List V), vs = vs0 ++ [.ref T] ∧ ys.reverse[i']? = some y ∧ H' T = some (.tup [.int 0, y])) ⟨same_new hst, [], rfl, upd_same, fun i' z => by omega⟩ (fun i H' _ h => SqL.of (h.1 _ _ e4)) ?_ ?_
    · rintro i x H5 hx ⟨s5, vs, lv, e5, _⟩
      have hi : i < ys.reverse.length := (List.getElem?_eq_some_iff.mp hx).1
      rw [List.length_reverse] at hi
      refine ⟨rfl, ?_⟩
      dsimp only [tYes]
      refine iteTB rfl ⟨x, rfl, (by show 2 ≤ sizeLine; decide), fun T hT => ?_⟩
      have s6 := same_new (o := .tup [.int 0, x]) hT
      have e6 : upd H5 T (.tup [.int 0, x]) T = some (.tup [.int 0, x]) := upd_same
      generalize upd H5 T (.tup [.int 0, x]) = H6 at s6 e6 ⊢
      have nT : T ≠ st := fun z => by
        rw [z, e5] at hT
        cases hT
      refine ⟨vs, s6 _ _ e5, by rw [lv]; exact big18 (by omega), Same.store (s5.trans s6) hst, vs ++ [.ref T], by rw [List.length_append, lv]; rfl, upd_same, fun i' z => ?_⟩
      have z2 : i = i' := by omega
      subst z2
      exact ⟨T, x, vs, rfl, hx, (upd_ne nT).trans e6⟩
    rintro H5 ⟨s5, vs, lv, e5, tl⟩
    rw [List.length_reverse] at lv tl
    cases hys : ys with
    | nil =>
      rw [hys] at yz
      exact absurd (List.length_eq_zero_iff.mp yz.symm) zne
    | cons y0 yl =>
    obtain ⟨T0, y, vs0, rfl, hy, eT0⟩ := tl yl.length (by rw [hys]; rfl)
    have hy0 : y = y0 := by
      rw [hys, List.reverse_cons, List.getElem?_append_right (by rw [List.length_reverse]; exact Nat.le_refl _), List.length_reverse, Nat.sub_self] at hy
      exact (Option.some.inj hy).symm
    subst hy0
    have my0 : y ∈ zs.map fun q => V.ref q.1 := prm.mem_iff.mp (by rw [hys]; exact List.mem_cons_self)
    obtain ⟨q0, hq0, rfl⟩ := List.mem_map.mp my0
    have least : ∀ f ∈ zs.map (·.2), ∀ x y, q0.2.2 = some x → f.2 = some y → x ≤ y := fun f hf x y ex ey => by
      obtain ⟨q1, hq1, rfl⟩ := List.mem_map.mp hf
      have m1 : V.ref q1.1 ∈ ys := prm.mem_iff.mpr (List.mem_map.mpr ⟨q1, hq1, rfl⟩)
      have k0 := keyZ_at (zA3 q0 hq0) ex
      have k1 := keyZ_at (zA3 q1 hq1) ey
      rw [hys] at m1 srt
      rcases List.mem_cons.mp m1 with e | m1
      · have e := V.ref.inj e
        have a := zA3 q1 hq1
        rw [e, zA3 q0 hq0] at a
        rw [e, k0] at k1
        have := (Prod.mk.inj k1).2
        omega
      · have lt := SrtO.srtd_head srt _ m1
        have lt : SrtO.lexB (keyZ H3 (.ref q1.1)) (keyZ H3 (.ref q0.1)) = false := lt
        rw [k0, k1] at lt
        have no := SrtO.lexB_no.mp lt
        have z0 := ((zI q0.2).mp (List.mem_map.mpr ⟨q0, hq0, rfl⟩)).2
        have z1 := ((zI q1.2).mp hf).2
        simp only [z0, z1, true_and] at no
        omega
    have lv0 := ((zI q0.2).mp (List.mem_map.mpr ⟨q0, hq0, rfl⟩)).1
    have free1 : ∀ {c : Addr}, H4 c = none → H1 c = none := fun h => (s2.trans (s3.trans s4)).free h
    have hst1 := free1 hst
    have hro1 : H1 ro = none := s2.free hro
    have nst : st ≠ rw_ := fun z => by
      rw [z, s4 _ _ (s3 _ _ e2)] at hst
      cases hst
    have nso : st ≠ ro := fun z => by
      rw [z, s4 _ _ e3] at hst
      cases hst
    have s15 := s2.trans (s3.trans (s4.trans s5))
    have lv2 : vs0.length ≤ 100000 := by
      rw [List.length_append] at lv
      have : [V.ref T0].length = 1 := rfl
      omega
    have z5 : H5 q0.1 = some (vP q0.2) := s5 _ _ (s4 _ _ (zA3 q0 hq0))
    have w5 := s5 _ _ (s4 _ _ (s3 _ _ e2))
    have o5 := s5 _ _ (s4 _ _ e3)
    have S1 := S.same s1
    have LA1 := LA.same s1
    refine ⟨fun m σ H' => ∃ v9 v10 v11 v12 v13 : Option V, σ = [some (.ref a), some (.ref L), some (.ref Z), some (.int 1), some (.int b), some (.ref R), some (.ref rw_), some (.ref ro), some (.ref st), v9, v10, v11, v12, v13, none, none, none, none, none] ∧ Same H1 H' ∧
      ((∃ (row : List Int) (xs : List V) (T e : Addr) (pl : Plc), m = n - row.length + 1 ∧ row.length ≤ n ∧ H' st = some (.lst (xs ++ [.ref T])) ∧ xs.length ≤ 100000 + 61 * row.length ∧ H' T = some (.tup [.int row.length, .ref e]) ∧ H' e = some (vP pl) ∧ Lvl (sucP b ds ks) p0 (n - row.length) pl ∧ H' ro = some (.lst (row.map V.int)) ∧ H' rw_ = some (.lst []) ∧ ∀ ms, FR b ds ks p0 (n - row.length) pl ms → FR b ds ks p0 n q0.2 (row ++ ms)) ∨
       ∃ (ls : List Int) (tp : Addr) (xs : List V), m = 0 ∧ H' st = some (.lst xs) ∧ H' rw_ = some (.lst [.ref tp]) ∧ H' tp = some (.tup (ls.map V.int)) ∧ FR b ds ks p0 n q0.2 ls), ⟨_, none, none, none, none, none, rfl, s15, .inl ⟨[], vs0, T0, q0.1, q0.2, rfl, Nat.zero_le _, e5, lv2, eT0, z5, lv0, o5, w5, fun ms h => h⟩⟩, ?_⟩
    rintro m σ H6 ⟨v9, v10, v11, v12, v13, rfl, s6, h⟩
    have fin : ∀ (ls : List Int) (tp : Addr), H6 rw_ = some (.lst [.ref tp]) → H6 tp = some (.tup (ls.map V.int)) → FR b ds ks p0 n q0.2 ls → ∀ pp, H6 pp = none → Q (.ref pp) (upd H6 pp (.lst (cutV [.ref tp] none (some 1)))) := fun ls tp e1 e2 r pp hpp => by
      have s7 := same_new (o := .lst (cutV [.ref tp] none (some 1))) hpp
      exact q pp tp ls q0.2 _ ((s1.trans s6).trans s7) upd_same (s7 _ _ e2) (List.mem_map.mpr ⟨q0, hq0, rfl⟩) least r
    rcases h with ⟨row, xs, T, e, pl, rfl, lr, eS, lx, eT, ee, lpl, eO, eW, fr⟩ | ⟨ls, tp, xs, rfl, eS, eW, etp, fr⟩
    · refine ⟨.ref st, rfl, _, .inl ⟨_, SqL.of eS, rfl⟩, ?_⟩
      refine iteTB (by simp) ⟨.ref rw_, rfl, rw_, _, rfl, .inl (SqL.of eW), .int 1, rfl, _, _, rfl, rfl, _, rfl, ?_⟩
      refine iteT ?_
      refine ⟨_, fun σ' H' h => h, ?_⟩
      refine ⟨.ref st, rfl, .inl ⟨rfl, _, SqL.of eS⟩, st, _, .ref T, rfl, rfl, eS, by simp, ?_⟩
      rw [show (xs ++ [V.ref T]).dropLast = xs by simp]
      have b7 : But st H6 (upd H6 st (.lst xs)) := But.at_
      have e7 : upd H6 st (.lst xs) st = some (.lst xs) := upd_same
      have s7 : Same H1 (upd H6 st (.lst xs)) := Same.store s6 hst1
      have nT : T ≠ st := fun z => by
        rw [z, eS] at eT
        cases eT
      have ne : e ≠ st := fun z => by
        rw [z, eS] at ee
        cases ee
      have T7 := b7 _ _ nT eT
      have E7 := b7 _ _ ne ee
      have O7 := b7 _ _ nso.symm eO
      have W7 := b7 _ _ nst.symm eW
      generalize upd H6 st (.lst xs) = H7 at b7 e7 s7 T7 E7 O7 W7 ⊢
      refine ⟨T, _, rfl, SqT.of T7, rfl, _, _, rfl, _, _, rfl, ?_⟩
      refine ⟨e, _, rfl, SqT.of E7, rfl, _, _, rfl, _, _, rfl, ?_⟩
      refine ⟨rfl, rfl, ?_⟩
      refine ⟨.ref ro, rfl, .int row.length, rfl, row.length, rfl, ro, row.map V.int, rfl, by rw [List.length_map], O7, ?_⟩
      have LA7 := LA1.same s7
      refine ⟨.int row.length, rfl, .ref L, rfl, L, _, rfl, .inl (SqL.of LA7.at_), _, _, rfl, rfl, rfl, _, rfl, ?_⟩
      rw [List.length_map]
      refine ite2 (fun c => ?_) (fun c => ?_)
      · have c2 : (row.length : Int) = (Ls.length : Int) - 1 := V.int.inj (of_decide_eq_true c)
        have c3 : row.length = n := by omega
        have e0 : n - row.length = 0 := by omega
        rw [e0] at lpl fr
        have epl := lvl_zero.mp lpl
        subst epl
        obtain ⟨d0, l0, t0, rs, g0, g1, g2⟩ := LA7.first
        have mem0 := List.mem_of_getElem? g0
        have in0 : pl ∈ rs.map (·.2) := (LA7.lvl 0 _ g0 pl).mpr (lvl_zero.mpr rfl)
        refine ⟨.ref rw_, rfl, .inl ⟨rfl, _, SqL.of W7⟩, .ref L, rfl, L, _, 0, .ref d0, rfl, rfl, SqL.of LA7.at_, ?_, .int pl.1, rfl, nV pl.2, rfl, (by show 2 ≤ sizeLine; decide), fun t1 ht1 => ?_⟩
        · refine atI_nat (j := 0) ?_
          rw [List.getElem?_map, g0]
          rfl
        have s8 := same_new (o := .tup [.int pl.1, nV pl.2]) ht1
        have e8 : upd H7 t1 (.tup [.int pl.1, nV pl.2]) t1 = some (vP pl) := upd_same
        generalize upd H7 t1 (.tup [.int pl.1, nV pl.2]) = H8 at s8 e8 ⊢
        have LD := (LA7.each _ mem0).same s8
        refine ⟨d0, _, keyP pl, t1, _, rfl, rfl, LD.dict, e8, getY_some in0, ?_⟩
        have g8 := s8 _ _ g1
        refine ⟨l0, rfl, ⟨_, SqL.of g8⟩, fun D hD => ?_⟩
        refine lc_list (K := K) (a := l0) (xs := [V.ref t0]) (fun i H' => Same H8 H' ∧ ∃ vs : List V, H' D = some (.lst vs) ∧ (i = 0 → vs = []) ∧ (i = 1 → ∃ tp, vs = [.ref tp] ∧ H' tp = some (.tup (row.map V.int)))) ⟨same_new hD, [], upd_same, fun _ => rfl, fun z => by cases z⟩ (fun i H' _ h => SqL.of (h.1 _ _ g8)) ?_ ?_
        · rintro i x H9 hx ⟨s9, vs, e9, v0, _⟩
          have hi : i < 1 := (List.getElem?_eq_some_iff.mp hx).1
          have i0 : i = 0 := by omega
          subst i0
          have ev := v0 rfl
          subst ev
          cases hx
          have O9 := s9 _ _ (s8 _ _ O7)
          have t9 := s9 _ _ (s8 _ _ g2)
          have nD : ∀ {c : Addr} {o : HO}, H8 c = some o → c ≠ D := fun e z => by
            rw [z, hD] at e
            cases e
          refine ⟨rfl, ?_⟩
          dsimp only [tYes]
          refine iteTB rfl ⟨.ref ro, rfl, ro, _, rfl, .inl ⟨SqL.of O9, fun u hu => ?_⟩⟩
          have s10 := same_new (o := .tup (row.map V.int)) hu
          have e10 : upd H9 u (.tup (row.map V.int)) u = some (.tup (row.map V.int)) := upd_same
          generalize upd H9 u (.tup (row.map V.int)) = H10 at s10 e10 ⊢
          refine ⟨.ref t0, rfl, u, t0, _, [], rfl, rfl, e10, s10 _ _ t9, ?_, fun tp H11 s11 e11 => ?_⟩
          · rw [List.length_map]
            exact Nat.le_of_lt (big18 (by show row.length + 0 ≤ 100000; omega))
          have e11d := s11 _ _ (s10 _ _ e9)
          have ntp : tp ≠ D := fun z => by
            rw [z, e11d] at e11
            cases e11
          rw [List.append_nil] at e11
          exact ⟨[], e11d, by show 0 < sizeLine; decide, Same.store (s9.trans (s10.trans s11)) hD, [.ref tp], upd_same, (fun z => by cases z), fun _ => ⟨tp, rfl, (upd_ne ntp).trans e11⟩⟩
        rintro H9 ⟨s9, vs, e9, _, v1⟩
        obtain ⟨tp, rfl, etp⟩ := v1 rfl
        have W9 := s9 _ _ (s8 _ _ W7)
        have sB := s8.trans s9
        have ntp : tp ≠ rw_ := fun z => by
          rw [z, W9] at etp
          cases etp
        refine ⟨rw_, D, _, _, rfl, rfl, W9, e9, by show 1 ≤ sizeLine; decide, ?_⟩
        exact ⟨0, Nat.succ_pos _, some _, some _, some _, v12, v13, rfl, Same.store (s7.trans sB) hrw, .inr ⟨row, tp, xs, rfl, (upd_ne nst).trans (sB _ _ e7), upd_same, (upd_ne ntp).trans etp, by
          have z := fr [] .zero
          rw [List.append_nil] at z
          exact z⟩⟩
      · have c2 : ¬ (row.length : Int) = (Ls.length : Int) - 1 := fun z => c (decide_eq_true (congrArg V.int z))
        have c3 : row.length < n := by omega
        obtain ⟨i, hi⟩ : ∃ i, n - row.length = i + 1 := ⟨n - row.length - 1, by omega⟩
        rw [hi] at lpl fr
        obtain ⟨d, k, hd, md, mk, lk⟩ := lvl_back pU BU b0 lpl
        rw [hd]
        obtain ⟨pr, pk⟩ := pl
        cases hd
        refine ⟨.ref ro, rfl, .inl ⟨rfl, _, SqL.of O7⟩, .int d, rfl, ro, _, .int d, rfl, rfl, O7, by rw [List.length_map]; exact big18 (by omega), ?_⟩
        have s8 : Same H1 (upd H7 ro (.lst (row.map V.int ++ [.int d]))) := Same.store s7 hro1
        have e8 : upd H7 ro (.lst (row.map V.int ++ [.int d])) ro = some (.lst ((row ++ [d]).map V.int)) := by
          rw [upd_same, List.map_append]
          rfl
        have S8 : upd H7 ro (.lst (row.map V.int ++ [.int d])) st = some (.lst xs) := (upd_ne nso).trans e7
        have W8 : upd H7 ro (.lst (row.map V.int ++ [.int d])) rw_ = some (.lst []) := (upd_ne nrr).trans W7
        generalize upd H7 ro (.lst (row.map V.int ++ [.int d])) = H8 at s8 e8 S8 W8 ⊢
        have LA8 := LA1.same s8
        obtain ⟨kvs, eR, _, all⟩ := RA
        obtain ⟨j, hj⟩ := List.mem_iff_getElem?.mp md
        have lj : j < ds.length := (List.getElem?_eq_some_iff.mp hj).1
        obtain ⟨Lr, hv, eLr⟩ := all j d lj hj
        have li : i < Ls.length := by omega
        have gl : Ls[i]? = some (Ls[i]'li) := by simp [li]
        have ml := List.mem_of_getElem? gl
        have LD := LA8.each _ ml
        have lev := LA8.lvl i _ gl
        generalize Ls[i]'li = ll at gl ml LD lev
        have ix : atI (Ls.map fun l => V.ref l.1) (-2 - (row.length : Int)) = some (.ref ll.1) := by
          unfold atI ixN
          rw [if_neg (by omega), if_pos (by rw [List.length_map]; omega), List.length_map]
          show (Ls.map fun l => V.ref l.1)[_]? = _
          rw [show ((-2 - (row.length : Int)) + (Ls.length : Int)).toNat = i by omega, List.getElem?_map, gl]
          rfl
        refine ⟨.int pr, rfl, .int b, rfl, pr, b, rfl, rfl, .inr ⟨by omega, by omega⟩, .int d, rfl, _, _, rfl, rfl, ?_⟩
        refine ⟨.ref L, rfl, 2, rfl, .int row.length, rfl, _, _, rfl, rfl, L, _, _, .ref ll.1, rfl, rfl, SqL.of LA8.at_, ix, ?_⟩
        refine ⟨.ref st, rfl, .inl ⟨rfl, _, SqL.of S8⟩, .ref R, rfl, .int d, rfl, R, kvs, some d, .ref Lr, rfl, rfl, Rd.of (s8 _ _ eR), hv, Lr, _, rfl, .inl ⟨SqL.of (s8 _ _ eLr), fun D hD => ?_⟩⟩
        have e8r := s8 _ _ eLr
        have rkl : (rightsOf ds ks d).length ≤ 61 := by
          refine Nat.le_trans (List.length_filter_le _ _) ?_
          rw [List.length_cons, List.length_map]
          omega
        generalize eF : (fun k => Lvl (sucP b ds ks) p0 i (pr * b + d, k)) = F
        have isF : ∀ k, F k ↔ (pr * b + d, k) ∈ ll.2.2.map (·.2) := fun k => by rw [← eF]; exact (lev _).symm
        generalize eK : rightsOf ds ks d = rk at e8r rkl mk
        refine lc_it (walk_rev (K := K) (a := Lr) (xs := rk.map nV)) (fun i' H' => Same H8 H' ∧ ∃ vs : List V, vs.length ≤ i' ∧ H' D = some (.lst vs) ∧ ((∃ k ∈ rk.drop (rk.length - i'), F k) → ∃ (T3 T2 : Addr) (k : KeyN) (vs0 : List V), vs = vs0 ++ [.ref T3] ∧ H' T3 = some (.tup [.int ((row.length : Int) + 1), .ref T2]) ∧ H' T2 = some (vP (pr * b + d, k)) ∧ FirstOf F (rk.drop (rk.length - i')) k)) ⟨same_new hD, [], Nat.le_refl _, upd_same, fun ⟨k, hk, _⟩ => by
            rw [Nat.sub_zero, List.drop_length] at hk
            cases hk⟩ (fun i' H' _ h => SqL.of (h.1 _ _ e8r)) ?_ ?_
        · rintro i' x H9 H9' hlt ⟨s9, vs, lv, e9, ih⟩ ⟨rfl, hx⟩
          rw [List.length_map] at hlt hx
          obtain ⟨k', hk', rfl⟩ := get_map hx
          have dr : rk.drop (rk.length - (i' + 1)) = k' :: rk.drop (rk.length - i') := by
            have lt : rk.length - (i' + 1) < rk.length := by omega
            rw [List.drop_eq_getElem_cons lt, show rk.length - (i' + 1) + 1 = rk.length - i' by omega]
            congr 1
            rw [show rk.length - 1 - i' = rk.length - (i' + 1) by omega] at hk'
            exact (List.getElem?_eq_some_iff.mp hk').2
          refine ⟨rfl, .int (pr * b + d), rfl, nV k', rfl, (by show 2 ≤ sizeLine; decide), fun T1 hT1 => ?_⟩
          have s10 := same_new (o := .tup [.int (pr * b + d), nV k']) hT1
          have e10 : upd H9' T1 (.tup [.int (pr * b + d), nV k']) T1 = some (vP (pr * b + d, k')) := upd_same
          generalize upd H9' T1 (.tup [.int (pr * b + d), nV k']) = H10 at s10 e10 ⊢
          have LD10 := LD.same (s9.trans s10)
          refine ⟨.ref ll.1, rfl, ll.1, _, keyP (pr * b + d, k'), T1, rfl, rfl, LD10.dict, e10, _, rfl, ?_⟩
          rw [getY_is]
          have D10 := s10 _ _ e9
          by_cases hF : (pr * b + d, k') ∈ ll.2.2.map (·.2)
          · rw [decide_eq_true hF]
            refine iteT ?_
            refine ⟨.int row.length, rfl, _, _, rfl, rfl, .int (pr * b + d), rfl, nV k', rfl, (by show 2 ≤ sizeLine; decide), fun T2 hT2 => ⟨(by show 2 ≤ sizeLine; decide), fun T3 hT3 => ?_⟩⟩
            have s11 := same_new (o := .tup [.int (pr * b + d), nV k']) hT2
            have e11 : upd H10 T2 (.tup [.int (pr * b + d), nV k']) T2 = some (vP (pr * b + d, k')) := upd_same
            generalize upd H10 T2 (.tup [.int (pr * b + d), nV k']) = H11 at s11 e11 hT3 ⊢
            have s12 := same_new (o := .tup [.int ((row.length : Int) + 1), .ref T2]) hT3
            have e12 : upd H11 T3 (.tup [.int ((row.length : Int) + 1), .ref T2]) T3 = some (.tup [.int ((row.length : Int) + 1), .ref T2]) := upd_same
            generalize upd H11 T3 (.tup [.int ((row.length : Int) + 1), .ref T2]) = H12 at s12 e12 ⊢
            have D12 := s12 _ _ (s11 _ _ D10)
            have f11 := s12 _ _ e11
            have n3 : T3 ≠ D := fun z => by
              rw [z, D12] at e12
              cases e12
            have n2 : T2 ≠ D := fun z => by
              rw [z, D12] at f11
              cases f11
            refine ⟨vs, D12, big18 (by omega), Same.store (s9.trans (s10.trans (s11.trans s12))) hD, vs ++ [.ref T3], ?_, upd_same, fun _ => ⟨T3, T2, k', vs, rfl, (upd_ne n3).trans e12, (upd_ne n2).trans f11, ?_⟩⟩
            · rw [List.length_append]
              show vs.length + 1 ≤ i' + 1
              omega
            · rw [dr]
              exact ⟨[], _, rfl, (isF k').mpr hF, fun x h => by cases h⟩
          · rw [decide_eq_false hF]
            refine iteF ⟨s9.trans s10, vs, by omega, D10, fun hex => ?_⟩
            rw [dr] at hex ⊢
            have nF : ¬ F k' := fun z => hF ((isF k').mp z)
            obtain ⟨k2, hk2, f2⟩ := hex
            rcases List.mem_cons.mp hk2 with rfl | hk2
            · exact absurd f2 nF
            · obtain ⟨T3, T2, k3, vs0, ev, a3, a2, l1, l2, el, fk, nl⟩ := ih ⟨k2, hk2, f2⟩
              refine ⟨T3, T2, k3, vs0, ev, s10 _ _ a3, s10 _ _ a2, k' :: l1, l2, by rw [el]; rfl, fk, fun x hx => ?_⟩
              rcases List.mem_cons.mp hx with rfl | hx
              · exact nF
              · exact nl x hx
        rintro H9 ⟨s9, vs, lv, e9, tl⟩
        rw [List.length_map] at lv tl
        rw [Nat.sub_self, List.drop_zero] at tl
        obtain ⟨T3, T2, k3, vs0, rfl, a3, a2, fo⟩ := tl ⟨k, mk, by rw [← eF]; exact lk⟩
        have S9 := s9 _ _ S8
        have lvs : vs0.length + 1 ≤ 61 := by
          rw [List.length_append] at lv
          have : [V.ref T3].length = 1 := rfl
          omega
        refine ⟨st, D, _, _, rfl, rfl, S9, e9, ?_, ?_⟩
        · rw [List.length_append]
          have : [V.ref T3].length = 1 := rfl
          unfold sizeLine
          omega
        have tupS : ∀ {c : Addr} {ys : List V} {o : HO}, H9 c = some (.tup ys) → upd H9 st o c = some (.tup ys) := fun {c ys o} e => by
          rw [upd_ne]
          · exact e
          · rintro rfl
            rw [S9] at e
            cases e
        have lr1 : (row ++ [d]).length = row.length + 1 := by rw [List.length_append]; rfl
        have hi2 : n - (row ++ [d]).length = i := by rw [lr1]; omega
        obtain ⟨m1, m2, em, fk3, _⟩ := id fo
        refine ⟨n - (row ++ [d]).length + 1, by rw [lr1]; omega, some _, some _, some _, some _, some _, rfl, Same.store (s8.trans s9) hst1, .inl ⟨row ++ [d], xs ++ vs0, T3, T2, (pr * b + d, k3), rfl, by omega, ?_, ?_, ?_, tupS a2, ?_, (upd_ne nso.symm).trans (s9 _ _ e8), (upd_ne nst.symm).trans (s9 _ _ W8), fun ms hms => ?_⟩⟩
        · rw [upd_same, List.append_assoc]
        · rw [List.length_append, lr1]
          omega
        · rw [lr1]
          exact tupS a3
        · rw [hi2]
          rw [← eF] at fk3
          exact fk3
        · rw [hi2] at hms
          rw [List.append_assoc]
          refine fr (d :: ms) (.step ?_ hms)
          rw [eK, eF]
          exact fo
    · refine ⟨.ref st, rfl, _, .inl ⟨_, SqL.of eS, rfl⟩, ?_⟩
      cases xs with
      | nil =>
        refine iteFB rfl ?_
        refine iteF ?_
        exact ⟨.ref rw_, rfl, .int 1, rfl, 1, rfl, rw_, _, rfl, SqL.of eW, fun pp hpp => fin ls tp eW etp fr pp hpp⟩
      | cons x xs =>
        refine iteTB rfl ⟨.ref rw_, rfl, rw_, _, rfl, .inl (SqL.of eW), .int 1, rfl, _, _, rfl, rfl, _, rfl, ?_⟩
        refine iteF ?_
        exact ⟨.ref rw_, rfl, .int 1, rfl, 1, rfl, rw_, _, rfl, SqL.of eW, fun pp hpp => fin ls tp eW etp fr pp hpp⟩
end
end K12
namespace K12
open PySem PySem.Spec PyProof.Rows L2 OF LamX NdefX
section
variable {P : Program} {w : World} {K : PySem.W.Frag} {mg : Str → Option Value} {base : Heap}
theorem SchemeAt.extN {C : Addr} {H H' : Hp} {a t r : Addr} {b : Int} {ds : List Int} {ks : List (Addr × (Int × Int))} (h : SchemeAt C H a t r b ds ks) (x : ExtN H H') : SchemeAt C H' a t r b ds ks := by
  obtain ⟨⟨dx, h1⟩, h2, h3, h4⟩ := h
  exact ⟨⟨dx, x _ _ h1 (fun ps z => by cases z)⟩, x _ _ h2 (fun ps z => by cases z), x _ _ h3 (fun ps z => by cases z), fun p hp => x _ _ (h4 p hp) (fun ps z => by cases z)⟩
/-- writing of good arguments -/
def okWriting (T : List (Addr × Str)) (z : V) (H : Hp) (Q : VK) : Addr → Addr → Addr → Int → List Int → List (Addr × (Int × Int)) → Int → Prop := fun _ _ _ b ds ks n =>
  ds.length ≤ 60 ∧ b ≠ 0 ∧ b.natAbs ≤ 6 ∧ Tabs T H ∧ ∀ k : KeyN, z = nV k → ∃ U : List Plc, (n, k) ∈ U ∧ Bound b ds ks U ∧
    (∀ H', (∀ x, Reach (sucP b ds ks) [(n, k)] x → x.1 ≠ 0) → ExtN H H' → Tabs T H' → Q .non H') ∧
    ∀ (tp : Addr) (m : Nat) (ls : List Int) (H' : Hp), FirstRow b ds ks (n, k) m ls → ls.length = m → ExtN H H' → Tabs T H' → H' tp = some (.tup (ls.map V.int)) → m ≤ 100000 → Q (.ref tp) H'
def spWriting (C CN CI CU : Addr) (T : List (Addr × Str)) : Sp := fun vs H Q E => ∃ x y z : V, vs = [x, y, z] ∧ ErrOr C CN CI CU x y z H E (okWriting T z H Q)
abbrev nWr : List Str := ["scheme", "number", "right", "layers"]
theorem scWr : FnScope nWr ["scheme", "number", "right"] (defScope sWriting) := ⟨rfl, rfl, rfl, by decide +kernel, rfl, by decide +kernel, by decide +kernel⟩
theorem ok_writing {f fP fL fF fZ C CN CI CU : Addr} {fd fdP fdL fdF fdZ : FuncData} {T : List (Addr × Str)} (F : FunD K "writing" "writing" (defArgs sWriting) (defBody sWriting) (defScope sWriting) [.non] [] f fd)
    (GP : FnOk P w K mg base (L2.CX P w) 7 fP fdP ["scheme", "rest", "right"] (spCheckP C CN CI CU)) (gP : mg "_check_place" = some (.ref fP)) (kP : PySem.W.keepIn K (.ref fP) = true) (bP : Binds K fdP ["scheme", "rest", "right"] [])
    (GL : FnOk P w K mg base CX0 9 fL fdL ["scheme", "start"] (spLayers P w C T)) (gL : mg "_layers_to_zero" = some (.ref fL)) (kL : PySem.W.keepIn K (.ref fL) = true) (bL : Binds K fdL ["scheme", "start"] [])
    (GF : FnOk P w K mg base CX0 7 fF fdF ["scheme", "layers", "ends", "most"] (spFirst P w C)) (gF : mg "first_rows" = some (.ref fF)) (kF : PySem.W.keepIn K (.ref fF) = true) (bF : Binds K fdF ["scheme", "layers", "ends", "most"] [])
    (GZ : FnOk P w K mg base CX0 1 fZ fdZ ["places"] (spZeros P w)) (gZ : mg "_zeros" = some (.ref fZ)) (kZ : PySem.W.keepIn K (.ref fZ) = true) (bZ : Binds K fdZ ["places"] []) :
    FnOk P w K mg base (L2.CX P w) 10 f fd ["scheme", "number", "right"] (spWriting C CN CI CU T) := by
  refine F.ok scWr (fun vs H Q E h => ?_) (fun cdv A outer s H vs Q E hr h => ?_)
  · obtain ⟨x, y, z, rfl, _⟩ := h
    rfl
  · obtain ⟨x, y, z, rfl, h⟩ := h
    have hr1 : Room 1 _ := hr.mono (by decide)
    have hr7 : Room 7 _ := hr.mono (by decide)
    apply Exists.intro
    apply And.intro
    · apply pss_cons
      · exact ps_expr (pe_call GP hr7 (by rfl) gP kP bP .nil (passes_call (W := fun cl d _ J => E cl d J) (takes_of rfl rfl rfl rfl) (fun _ _ _ _ z => z)) (pa_cons (pv 0) (pa_cons (pv 1) (pa_cons (pv 2) pa_nil))))
      apply pss_cons
      · exact ps_set (i := 3) scWr.nd rfl (.inl rfl) (pe_call GL hr (by rfl) gL kL bL .nil pass0 (pa_cons (pv 0) (pa_cons (pe_tup (pa_cons (pv 1) (pa_cons (pv 2) pa_nil))) pa_nil)))
      apply pss_cons
      · exact ps_if (pt_cmpR op_isN (pv 3) pe_non (nomark _)) (pss_one (ps_ret pe_non)) pss_nil
      apply pss_one
      · exact ps_ret (pe_ix ix_list (pe_call GF hr7 (by rfl) gF kF bF .nil pass0 (pa_cons (pv 0) (pa_cons (pv 3) (pa_cons (pe_call GZ hr1 (by rfl) gZ kZ bZ .nil pass0 (pa_cons (pe_ix ix_list (pv 3) (pe_un un_neg pe_int) (fun _ _ => rfl)) pa_nil)) (pa_cons pe_int pa_nil))))) pe_int (fun _ _ => rfl))
    refine ⟨x, rfl, y, rfl, z, rfl, ?_⟩
    dsimp only [tNil, tCons, tC]
    refine checkP_of h ?_
    rintro a t r b ds ks n rfl rfl S hz ⟨few, b0, b6, hT, hk⟩ H1 s1
    obtain ⟨k, rfl, mk⟩ := right_key hz
    obtain ⟨U, nU, BU, q1, q2⟩ := hk k rfl
    refine ⟨.ref a, rfl, .int n, rfl, nV k, rfl, (by show 2 ≤ sizeLine; decide), fun p hp => ?_⟩
    have s2 := same_new (o := .tup [.int n, nV k]) hp
    have e2 : upd H1 p (.tup [.int n, nV k]) p = some (vP (n, k)) := upd_same
    generalize upd H1 p (.tup [.int n, nV k]) = H2 at s2 e2 ⊢
    have sA := s1.trans s2
    refine ⟨a, t, r, p, b, ds, ks, (n, k), U, rfl, S.same sA, hT.ext sA, e2, few, b0, b6, nU, BU, fun H3 x3 T3 no => ?_, fun L Ls H3 x3 T3 LA l1 lK ex no => ?_⟩
    · exact ⟨.non, rfl, rfl, _, rfl, iteT (q1 H3 no ((ExtN.of sA).trans x3) T3)⟩
    · refine ⟨.ref L, rfl, rfl, _, rfl, iteF ?_⟩
      have S3 : SchemeAt C H3 a t r b ds ks := (S.same sA).extN x3
      obtain ⟨Lr, ll, eLs⟩ : ∃ Lr ll, Ls = Lr ++ [ll] := by
        rcases List.eq_nil_or_concat Ls with e | ⟨Lr, ll, e⟩
        · rw [e] at l1
          exact absurd l1 (by decide)
        · exact ⟨Lr, ll, by rw [e, List.concat_eq_append]⟩
      have lenL : Ls.length = Lr.length + 1 := by rw [eLs, List.length_append]; rfl
      have gl : Ls[Lr.length]? = some ll := by rw [eLs]; simp
      have ml := List.mem_of_getElem? gl
      have DL := LA.each ll ml
      have lev := LA.lvl _ _ gl
      have few2 : ll.2.2.length ≤ 100000 := by
        have z := nodup_le _ U (LA.nd ll ml) fun x hx => lvl_U nU BU ((lev x).mp hx)
        rw [List.length_map] at z
        exact Nat.le_trans z BU.len
      have eN : Ls.length - 1 = Lr.length := by omega
      rw [eN] at ex
      have aL : atI (Ls.map fun l => V.ref l.1) (-1) = some (.ref ll.1) := by
        rw [eLs, List.map_append]
        exact atI_last _ _
      refine ⟨.ref a, rfl, .ref L, rfl, .ref L, rfl, 1, rfl, L, _, -1, .ref ll.1, rfl, rfl, SqL.of LA.at_, aL, ll.1, ll.2.2, rfl, DL.key, few2, .inr ⟨_, DL.at_, by rw [List.map_map]; rfl⟩, fun D H4 s4 hD eD => ?_⟩
      have fz : ∀ x, x ∈ (ll.2.2.filter fun q => decide (q.2.1 = 0)).map (·.2) ↔ Lvl (sucP b ds ks) (n, k) Lr.length x ∧ x.1 = 0 := fun x => by
        rw [← lev x]
        constructor
        · intro h
          obtain ⟨q, hq, rfl⟩ := List.mem_map.mp h
          obtain ⟨h1, h2⟩ := List.mem_filter.mp hq
          exact ⟨List.mem_map.mpr ⟨q, h1, rfl⟩, of_decide_eq_true h2⟩
        · rintro ⟨h, e⟩
          obtain ⟨q, hq, rfl⟩ := List.mem_map.mp h
          exact List.mem_map.mpr ⟨q, List.mem_filter.mpr ⟨hq, decide_eq_true e⟩, rfl⟩
      refine ⟨a, t, r, L, D, b, ds, ks, (n, k), U, Ls, ll.2.2.filter fun q => decide (q.2.1 = 0), rfl, S3.same s4, LA.same s4, l1, lK, few, b0, b6, nU, BU, eD, fun q hq => s4 _ _ (DL.key q (List.mem_filter.mp hq).1), fun z => ?_, ?_, by rw [eN]; exact fz, fun R tp ls e H5 s5 eR etp me le fr => ?_⟩
      · obtain ⟨x, lx, e0⟩ := ex
        have := (fz x).mpr ⟨lx, e0⟩
        rw [z] at this
        cases this
      · exact List.Nodup.sublist (List.filter_sublist.map _) (LA.nd ll ml)
      · refine ⟨R, _, 0, .ref tp, rfl, rfl, SqL.of eR, atI_nat (j := 0) rfl, ?_⟩
        obtain ⟨le1, le2⟩ := (fz e).mp me
        rw [eN] at fr
        refine q2 tp Lr.length ls H5 ⟨fun i x hi lx => no i x (by omega) lx, e, le1, le2, fun f lf ef x y h1 h2 => le f ((fz f).mpr ⟨lf, ef⟩) x y h1 h2, fr⟩ fr.len ?_ (T3.ext (s4.trans s5)) etp (by omega)
        exact (ExtN.of sA).trans (x3.trans (ExtN.of (s4.trans s5)))
end
end K12
namespace K12
open PySem PySem.Spec PyProof.Rows L2 OF LamX NdefX
abbrev sIsClosed : Stmt := topS 51
section
variable {P : Program} {w : World} {K : PySem.W.Frag} {mg : Str → Option Value} {base : Heap}
/-! ### dicts of places, each with True -/
def kvL (es : List (Addr × Plc)) : List KeyT := es.map fun e => (keyP e.2, e.1, V.bl true)
theorem getL_is (p : Plc) : ∀ es : List (Addr × Plc), (getN (kvL es) (keyP p)).isSome = decide (p ∈ es.map (·.2))
  | [] => rfl
  | e :: es => by
    have ih := getL_is p es
    unfold getN kvL at ih ⊢
    rw [List.map_cons, List.find?_cons, List.map_cons]
    by_cases h : e.2 = p
    · rw [decide_eq_true (congrArg keyP h), decide_eq_true (List.mem_cons.mpr (.inl h.symm))]
      rfl
    · rw [decide_eq_false (fun z => h (keyP_inj z))]
      rw [show decide (p ∈ e.2 :: es.map (·.2)) = decide (p ∈ es.map (·.2)) from decide_eq_decide.mpr ⟨fun z => (List.mem_cons.mp z).elim (fun y => absurd y.symm h) id, List.mem_cons_of_mem _⟩]
      exact ih
def putL (es : List (Addr × Plc)) (q : Plc) (r : Addr) : List (Addr × Plc) := if q ∈ es.map (·.2) then es else es ++ [(r, q)]
theorem putL_kv (es : List (Addr × Plc)) (q : Plc) (r : Addr) : putN (kvL es) (keyP q) r (.bl true) = kvL (putL es q r) := by
  unfold putN putL
  rw [getL_is]
  by_cases h : q ∈ es.map (·.2)
  · rw [if_pos (decide_eq_true h), if_pos h]
    unfold kvL
    rw [List.map_map]
    refine List.map_congr_left fun e _ => ?_
    show (if keyP e.2 = keyP q then _ else _) = _
    split <;> rfl
  · rw [if_neg (by rw [decide_eq_false h]; exact Bool.false_ne_true), if_neg h]
    unfold kvL
    rw [List.map_append]
    rfl
theorem putL_mem {es : List (Addr × Plc)} {q x : Plc} {r : Addr} : x ∈ (putL es q r).map (·.2) ↔ x ∈ es.map (·.2) ∨ x = q := by
  unfold putL
  split
  · rename_i h
    exact ⟨.inl, fun z => z.elim id fun e => e ▸ h⟩
  · rw [List.map_append, List.mem_append]
    exact ⟨fun z => z.imp id fun y => List.mem_singleton.mp y, fun z => z.imp id fun y => List.mem_singleton.mpr y⟩
theorem putL_row {es : List (Addr × Plc)} {q : Plc} {r : Addr} {e : Addr × Plc} (h : e ∈ putL es q r) : e ∈ es ∨ e = (r, q) := by
  unfold putL at h
  split at h
  · exact .inl h
  · exact (List.mem_append.mp h).imp id fun y => List.mem_singleton.mp y
theorem putL_len (es : List (Addr × Plc)) (q : Plc) (r : Addr) : (putL es q r).length ≤ es.length + 1 := by
  unfold putL
  split
  · exact Nat.le_succ _
  · rw [List.length_append]
    exact Nat.le_refl _
/-! ### a list that may be closed -/
/-- a place, or a value that is none -/
def ItemIs (H : Hp) (ds : List Int) (x : V) : Option Plc → Prop
  | some q => ∃ p, x = .ref p ∧ H p = some (vP q) ∧ rightB ds (nV q.2) = true
  | none => NoTup H x ∨ ∃ (p : Addr) (ys : List V), x = .ref p ∧ H p = some (.tup ys) ∧ ys.length ≤ 1000 ∧ (∀ y ∈ ys, ItemOk H y) ∧ plB ds ys = false
theorem ItemIs.same {H H' : Hp} {ds : List Int} {x : V} {o : Option Plc} (h : ItemIs H ds x o) (s : Same H H') : ItemIs H' ds x o := by
  cases o with
  | some q =>
    obtain ⟨p, e, h1, h2⟩ := h
    exact ⟨p, e, s _ _ h1, h2⟩
  | none =>
    rcases h with h | ⟨p, ys, e, h1, h2, h3, h4⟩
    · exact .inl (h.same s)
    · exact .inr ⟨p, ys, e, s _ _ h1, h2, fun y hy => (h3 y hy).same s, h4⟩
def CListAt (K : PySem.W.Frag) (H : Hp) (ds : List Int) (v : V) : Option (List (Option Plc)) → Prop
  | none => NoSeq H v
  | some os => ∃ (p : Addr) (xs : List V), v = .ref p ∧ IsSeq K H p xs ∧ xs.length ≤ 100000 ∧ Paired (ItemIs H ds) xs os
def ansC (b : Int) (ds : List Int) (ks : List (Addr × (Int × Int))) (pl : Plc) : Option (List (Option Plc)) → Prop
  | none => False
  | some os => (∀ o ∈ os, o ≠ none) ∧ some pl ∈ os ∧ ∀ q, some q ∈ os → q.1 ≠ 0 ∧ ∀ s ∈ sucP b ds ks q, some s ∈ os
def okIsClosed (K : PySem.W.Frag) (T : List (Addr × Str)) (v z : V) (H : Hp) (Q : VK) : Addr → Addr → Addr → Int → List Int → List (Addr × (Int × Int)) → Int → Prop := fun a t r b ds ks n =>
  ds.length ≤ 60 ∧ b ≠ 0 ∧ b.natAbs ≤ 6 ∧ Tabs T H ∧ ∀ k : KeyN, z = nV k → ∃ vo, CListAt K H ds v vo ∧ ∀ (c : Bool) (H' : Hp), (c = true ↔ ansC b ds ks (n, k) vo) → ExtN H H' → Tabs T H' → Q (.bl c) H'
theorem paired_places {H : Hp} {ds : List Int} {xs : List V} {os : List (Option Plc)} (pr : Paired (ItemIs H ds) xs os) : (os.map Option.isSome).all id = true → ∃ as : List (Addr × Plc), xs = as.map (fun q => V.ref q.1) ∧ os = as.map (fun q => some q.2) ∧ ∀ q ∈ as, H q.1 = some (vP q.2) ∧ rightB ds (nV q.2.2) = true := by
  induction pr with
  | nil => exact fun _ => ⟨[], rfl, rfl, fun q h => by cases h⟩
  | @cons x o xs os h _ ih =>
    intro a
    rw [List.map_cons, List.all_cons, Bool.and_eq_true] at a
    obtain ⟨as, rfl, rfl, hA⟩ := ih a.2
    cases o with
    | none => exact absurd a.1 Bool.false_ne_true
    | some q =>
      obtain ⟨p, rfl, h1, h2⟩ := h
      refine ⟨(p, q) :: as, rfl, rfl, fun z hz => ?_⟩
      rcases List.mem_cons.mp hz with rfl | hz
      · exact ⟨h1, h2⟩
      · exact hA z hz
theorem sq_extN {k : Bool} {H H' : Hp} {a : Addr} {xs : List V} (h : Sq K k H a xs) (s : ExtN H H') : Sq K k H' a xs := by
  cases k with
  | true =>
    rcases h with (h | ⟨o, h⟩) | h
    · exact .inl (.inl (s _ _ h (fun ps z => by cases z)))
    · exact .inl (.inr ⟨o, s _ _ h (fun ps z => by cases z)⟩)
    · exact .inr h
  | false =>
    rcases h with (h | ⟨o, h⟩) | h
    · exact .inl (.inl (s _ _ h (fun ps z => by cases z)))
    · exact .inl (.inr ⟨o, s _ _ h (fun ps z => by cases z)⟩)
    · exact .inr h
def spIsClosed (K : PySem.W.Frag) (C CN CI CU : Addr) (T : List (Addr × Str)) : Sp := fun vs H Q E => ∃ x y v z : V, vs = [x, y, v, z] ∧ ErrOr C CN CI CU x y z H E (okIsClosed K T v z H Q)
abbrev nIc : List Str := ["scheme", "number", "value", "right", "follow", "listed", "item", "place", "other"]
theorem scIc : FnScope nIc ["scheme", "number", "value", "right"] (defScope sIsClosed) := ⟨rfl, rfl, rfl, by decide +kernel, rfl, by decide +kernel, by decide +kernel⟩
theorem ok_isclosed {f fP fL fF fZ fB C CN CI CU : Addr} {fd fdP fdL fdF fdZ fdB : FuncData} {T : List (Addr × Str)} (F : FunD K "is_closed_list" "is_closed_list" (defArgs sIsClosed) (defBody sIsClosed) (defScope sIsClosed) [.non] [] f fd)
    (GP : FnOk P w K mg base (L2.CX P w) 7 fP fdP ["scheme", "rest", "right"] (spCheckP C CN CI CU)) (gP : mg "_check_place" = some (.ref fP)) (kP : PySem.W.keepIn K (.ref fP) = true) (bP : Binds K fdP ["scheme", "rest", "right"] [])
    (GL : FnOk P w K mg base CX0 7 fL fdL ["scheme", "value"] (spIsPlace C)) (gL : mg "is_place" = some (.ref fL)) (kL : PySem.W.keepIn K (.ref fL) = true) (bL : Binds K fdL ["scheme", "value"] [])
    (GF : FnOk P w K mg base CX0 8 fF fdF ["scheme"] (spFollow P w C T)) (gF : mg "follower" = some (.ref fF)) (kF : PySem.W.keepIn K (.ref fF) = true) (bF : Binds K fdF ["scheme"] [])
    (GZ : FnOk P w K mg base CX0 1 fZ fdZ ["places"] (spZeros P w)) (gZ : mg "_zeros" = some (.ref fZ)) (kZ : PySem.W.keepIn K (.ref fZ) = true) (bZ : Binds K fdZ ["places"] [])
    (GB : FnOk P w K mg base CX0 1 fB fdB ["base", "digits", "rest"] (spBehind K)) (gB : mg "places_behind" = some (.ref fB)) (kB : PySem.W.keepIn K (.ref fB) = true) (bB : Binds K fdB ["base", "digits", "rest"] [])
    (mis : mg "isinstance" = none) (mli : mg "list" = none) (mt : mg "tuple" = none) (mall : mg "all" = none) : FnOk P w K mg base (L2.CX P w) 10 f fd ["scheme", "number", "value", "right"] (spIsClosed K C CN CI CU T) := by
  refine F.ok scIc (fun vs H Q E h => ?_) (fun cdv A outer s H vs Q E hr h => ?_)
  · obtain ⟨x, y, v, z, rfl, _⟩ := h
    rfl
  · obtain ⟨x, y, v, z, rfl, h⟩ := h
    have hr1 : Room 1 _ := hr.mono (by decide)
    have hr2 : Room 2 _ := hr.mono (by decide)
    have hr7 : Room 7 _ := hr.mono (by decide)
    have hr8 : Room 8 _ := hr.mono (by decide)
    apply Exists.intro
    apply And.intro
    · apply pss_cons
      · exact ps_expr (pe_call GP hr7 (by rfl) gP kP bP .nil (passes_call (W := fun cl d _ J => E cl d J) (takes_of rfl rfl rfl rfl) (fun _ _ _ _ z => z)) (pa_cons (pv 0) (pa_cons (pv 1) (pa_cons (pv 3) pa_nil))))
      apply pss_cons
      · exact ps_if (PW.pt (pw_or (pt_not (pt_val (pe_callB call_isiT (by rfl) mis PyProof.Rows.boot_isinstance (pa_cons (pv 2) (pa_cons (pe_tup (pa_cons (pe_bltn (v := .ty "list") (by rfl) mli PyProof.Rows.boot_list rfl) (pa_cons (pe_bltn (v := .ty "tuple") (by rfl) mt (by decide +kernel) rfl) pa_nil))) pa_nil)))))
          (pw_or1 (pt_not (pt_val (pe_callB (cr_all rfl) (by rfl) mall (by decide +kernel) (pa_cons (pe_lc (own := [("item", 6)]) (g := gName 6) (tt := tYes) (te := tCall (spIsPlace C) [] E0 (tCons (tVar 0) (tCons (tVar 6) tNil))) rfl scIc.nd (pi_sq (pv 2))
            (blkOk_by (own := [("item", 6)]) (N := nIc) (sc := defScope sIsClosed) (by decide +kernel)) (fun _ _ _ _ _ => pg_name (i := 6) scIc.nd rfl (Or.inl rfl)) (fun _ _ _ _ _ => pts_nil)
            (fun _ _ _ _ _ => by exact (pe_call GL hr7 (by rfl) gL kL bL .nil pass0 (pa_cons (pv 0) (pa_cons (pv 6) pa_nil))))) pa_nil))))))) (pss_one (ps_ret pe_bl)) pss_nil
      apply pss_cons
      · exact ps_set (i := 4) scIc.nd rfl (.inr rfl) (pe_call GF hr8 (by rfl) gF kF bF .nil pass0 (pa_cons (pv 0) pa_nil))
      apply pss_cons
      · exact ps_set (i := 5) scIc.nd rfl (.inr rfl) (pe_dcK (κ := kNT P w) (own := [("place", 7)]) (g := gName 7) (tt := tYes) (tk := tVar 7) (tv := tC (.bl true)) (by exact Nat.lt_of_succ_lt (hu_of hr)) rfl scIc.nd (pi_sq (pv 2))
          (blkOk_by (own := [("place", 7)]) (N := nIc) (sc := defScope sIsClosed) (by decide +kernel)) (fun _ _ _ _ _ => pg_name (i := 7) scIc.nd rfl (Or.inl rfl)) (fun _ _ _ _ _ => by exact pts_nil) (fun _ _ _ _ _ => by exact (pv 7)) (fun _ _ _ _ _ => by exact pe_bl))
      apply pss_cons
      · exact ps_if (PW.pt (pw_or (pt_cmpR (op_notInNT (hu_of hr)) (pe_tup (pa_cons (pv 1) (pa_cons (pv 3) pa_nil))) (pv 5) rfl) (pw_or1 (pt_truth (pe_call GZ hr1 (by rfl) gZ kZ bZ .nil pass0 (pa_cons (pv 5) pa_nil)) (fun _ => rfl))))) (pss_one (ps_ret pe_bl)) pss_nil
      apply pss_one
      · exact ps_ret (pe_lock (pe_callB (cr_all rfl) (by rfl) mall (by decide +kernel) (pa_cons (pe_lc2 (own := [("place", 7), ("other", 8)]) (g := gName 7) (g1 := gName 8) (tt := tYes) (tt1 := tYes) (vs1 := [8]) (wi1 := iList K (tClo P w K mg base 2 4 (tCons (tVar 7) tNil))) (te := tOp (rInNT (cxOf (L2.CX P w) P w K mg base nIc "is_closed_list" (defScope sIsClosed) f cdv A outer s H E)) (tVar 8) (tVar 5)) rfl scIc.nd (pi_keysN (pv 5))
          (blkOk_by (own := [("place", 7), ("other", 8)]) (N := nIc) (sc := defScope sIsClosed) (by decide +kernel)) (by decide) (fun _ _ _ _ _ => pg_name (i := 7) scIc.nd rfl (Or.inl rfl)) (fun _ _ _ _ _ => pts_nil)
          (fun _ _ _ _ _ => by exact (pi_list (pe_clo (k := 2) (i := 4) hr2 (by rfl) (by first | exact Or.inl rfl | exact Or.inr (Or.inl rfl) | exact Or.inr (Or.inr rfl)) (pa_cons (pv 7) pa_nil)))) (fun _ _ _ _ _ => pg_name (i := 8) scIc.nd rfl (Or.inl rfl)) (fun _ _ _ _ _ => pts_nil)
          (fun _ _ _ _ _ => by exact (pe_cmpR (op_inNT (hu_of hr)) (pv 8) (pv 5) rfl))) pa_nil)))
    refine ⟨x, rfl, y, rfl, z, rfl, ?_⟩
    dsimp only [tNil, tCons, tC]
    refine checkP_of h ?_
    rintro a t r b ds ks n rfl rfl S hz ⟨few, b0, b6, hT, hk⟩ H1 s1
    obtain ⟨k, rfl, mk⟩ := right_key hz
    obtain ⟨vo, cl, q⟩ := hk k rfl
    refine ⟨v, rfl, (by show 2 ≤ sizeLine; decide), fun T0 hT0 => ?_⟩
    have s2 := same_new (o := .tup [.ty "list", .ty "tuple"]) hT0
    have e2 : upd H1 T0 (.tup [.ty "list", .ty "tuple"]) T0 = some (.tup [.ty "list", .ty "tuple"]) := upd_same
    generalize upd H1 T0 (.tup [.ty "list", .ty "tuple"]) = H2 at s2 e2 ⊢
    have sA := s1.trans s2
    cases vo with
    | none =>
      obtain ⟨ty, tyx, kk⟩ := (NoSeq.same cl sA).kit (K := K)
      exact ⟨v, T0, _, ty, _, false, rfl, e2, .cons (.ty _) (.cons (.ty _) .nil), tyx, kk, false, rfl, iteT (iteT (q false H2 ⟨(fun z => nomatch z), (fun z => False.elim z)⟩ (ExtN.of sA) (hT.ext sA)))⟩
    | some os =>
    obtain ⟨p, xs, rfl, sq, lx, pr⟩ := cl
    obtain ⟨ty, tyx, kk⟩ := (sq.same sA).lt (K := K)
    obtain ⟨ki, hsq⟩ : ∃ ki, Sq K ki H p xs := sq.sq.elim (fun h => ⟨true, h⟩) (fun h => ⟨false, h⟩)
    refine ⟨.ref p, T0, _, ty, _, true, rfl, e2, .cons (.ty _) (.cons (.ty _) .nil), tyx, kk, true, rfl, iteF ?_⟩
    refine ⟨.ref p, rfl, p, rfl, lc_sq (K := K) (k := ki) (xs := xs) (hsq.same sA) fun D hD => ?_⟩
    refine ⟨fun i H' => Same H2 H' ∧ H' D = some (.lst (((os.take i).map Option.isSome).map V.bl)), ⟨same_new hD, upd_same⟩, fun i H' _ h => (hsq.same sA).same h.1, ?_, ?_⟩
    · rintro i x H3 hx ⟨s3, e3⟩
      obtain ⟨o, ho, it⟩ := paired_at pr hx
      have it3 := it.same (sA.trans s3)
      have li : i < os.length := (List.getElem?_eq_some_iff.mp ho).1
      have lo : os.length ≤ 100000 := by rw [← Paired.length pr]; exact lx
      have fin : ∀ H4, Same H3 H4 → ∃ acc, H4 D = some (.lst acc) ∧ acc.length < sizeLine ∧ (Same H2 (upd H4 D (.lst (acc ++ [.bl o.isSome]))) ∧ (upd H4 D (.lst (acc ++ [.bl o.isSome]))) D = some (.lst (((os.take (i + 1)).map Option.isSome).map V.bl))) := fun H4 s4 => by
        refine ⟨_, s4 _ _ e3, ?_, Same.store (s3.trans s4) hD, ?_⟩
        · rw [List.length_map, List.length_map]
          exact Nat.lt_of_le_of_lt (List.length_take_le' _ _) (big18 lo)
        · rw [upd_same, take_more ho, List.map_append, List.map_append]
          rfl
      refine ⟨rfl, tYes_if ⟨.ref a, rfl, x, rfl, a, t, r, b, ds, ks, x, rfl, S.same (sA.trans s3), ?_⟩⟩
      cases o with
      | some w0 =>
        obtain ⟨p0, rfl, hp0, hr0⟩ := it3
        refine .inr ⟨p0, _, rfl, hp0, (by show 2 ≤ 1000; decide), fun y hy => ?_, fun H4 s4 => ?_⟩
        · rcases List.mem_cons.mp hy with rfl | hy
          · exact .inl ⟨_, rfl⟩
          · cases List.mem_singleton.mp hy
            cases w0.2 with
            | none => exact .inr .non
            | some i => exact .inl ⟨i, rfl⟩
        · rw [show plB ds [.int w0.1, nV w0.2] = true from hr0]
          exact fin H4 s4
      | none =>
        rcases it3 with no | ⟨p0, ys, rfl, h1, h2, h3, h4⟩
        · exact .inl ⟨no, fin H3 (Same.refl H3)⟩
        · refine .inr ⟨p0, ys, rfl, h1, h2, h3, fun H4 s4 => ?_⟩
          rw [h4]
          exact fin H4 s4
    · rintro H3 ⟨s3, e3⟩
      rw [Paired.length pr, List.take_length] at e3
      have sB := sA.trans s3
      refine ⟨D, os.map Option.isSome, rfl, SqL.of e3, _, rfl, ?_⟩
      cases hall : (os.map Option.isSome).all id with
      | false =>
        refine iteT (q false H3 ⟨(fun z => nomatch z), fun z => ?_⟩ (ExtN.of sB) (hT.ext sB))
        have : (os.map Option.isSome).all id = true := by
          rw [List.all_map, List.all_eq_true]
          intro o ho
          cases o with
          | none => exact absurd rfl (z.1 _ ho)
          | some _ => rfl
        rw [this] at hall
        cases hall
      | true =>
        refine iteF ?_
        obtain ⟨as, rfl, rfl, hA⟩ := paired_places pr hall
        refine ⟨.ref a, rfl, a, t, r, b, ds, ks, rfl, S.same sB, few, hT.ext sB, fun g D0 H4 x4 T4 FA => ?_⟩
        have x04 : ExtN H H4 := (ExtN.of sB).trans x4
        have tA4 : ∀ q ∈ as, H4 q.1 = some (vP q.2) := fun q hq => x04 _ _ (hA q hq).1 (fun ps z => by cases z)
        have hsq4 : Sq K ki H4 p (as.map fun q => V.ref q.1) := sq_extN hsq x04
        refine ⟨.ref p, rfl, p, rfl, dc_sq (K := K) (k := ki) (κ := kNT P w) hsq4 fun G hG => ?_⟩
        have las : as.length ≤ 100000 := by rw [List.length_map] at lx; exact lx
        have big := big17
        refine ⟨fun i H' => Same H4 H' ∧ ∃ es : List (Addr × Plc), H' G = some (dNT P w G (kvL es)) ∧ es.length ≤ i ∧ (∀ e ∈ es, e ∈ as) ∧ ∀ x, x ∈ es.map (·.2) ↔ x ∈ (as.take i).map (·.2), ⟨same_new hG, [], upd_same, Nat.le_refl _, (fun e h => by cases h), fun x => .rfl⟩, fun i H' _ h => hsq4.same h.1, ?_, ?_⟩
        · rintro i x H5 hx ⟨s5, es, e5, l5, in5, m5⟩
          rw [List.getElem?_map, Option.map_eq_some_iff] at hx
          obtain ⟨q0, hq0, rfl⟩ := hx
          have li : i < as.length := (List.getElem?_eq_some_iff.mp hq0).1
          have tq := s5 _ _ (tA4 q0 (List.mem_of_getElem? hq0))
          refine ⟨rfl, tYes_if ⟨.ref q0.1, rfl, kvL es, keyP q0.2, q0.1, rfl, ⟨.inl e5, fun z hz => ?_⟩, e5, tq, ?_, ?_⟩⟩
          · obtain ⟨e, he, rfl⟩ := List.mem_map.mp hz
            exact s5 _ _ (tA4 e (in5 e he))
          · rw [show (kvL es).length = es.length from List.length_map _]
            omega
          · rw [putL_kv]
            refine ⟨Same.store s5 hG, _, upd_same, Nat.le_trans (putL_len _ _ _) (by omega), fun e he => ?_, fun x => ?_⟩
            · rcases putL_row he with h | h
              · exact in5 e h
              · rw [h]
                exact List.mem_of_getElem? hq0
            · rw [putL_mem, m5, take_more hq0, List.map_append, List.mem_append]
              exact or_congr .rfl List.mem_singleton.symm
        · rintro H5 ⟨s5, es, e5, l5, in5, m5⟩
          rw [List.length_map] at l5 m5
          rw [List.take_length] at m5
          have x5 : ExtN H H5 := x04.trans (ExtN.of s5)
          have T5 := T4.ext s5
          have ks5 : ∀ z ∈ kvL es, H5 z.2.1 = some (.tup (z.1.map nV)) := fun z hz => by
            obtain ⟨e, he, rfl⟩ := List.mem_map.mp hz
            exact s5 _ _ (tA4 e (in5 e he))
          refine ⟨.int n, rfl, nV k, rfl, (by show 2 ≤ sizeLine; decide), fun pt hpt => ?_⟩
          have s6 := same_new (o := .tup [.int n, nV k]) hpt
          have e6 : upd H5 pt (.tup [.int n, nV k]) pt = some (vP (n, k)) := upd_same
          generalize upd H5 pt (.tup [.int n, nV k]) = H6 at s6 e6 ⊢
          refine ⟨.ref G, rfl, G, kvL es, keyP (n, k), pt, rfl, rfl, ⟨.inl (s6 _ _ e5), fun z hz => s6 _ _ (ks5 z hz)⟩, e6, _, rfl, ?_⟩
          rw [getL_is]
          have x6 := x5.trans (ExtN.of s6)
          have T6 := T5.ext s6
          by_cases hin : (n, k) ∈ es.map (·.2)
          · rw [decide_eq_true hin]
            refine iteF ?_
            refine ⟨.ref G, rfl, G, es, rfl, fun q hq => s6 _ _ (s5 _ _ (tA4 q (in5 q hq))), by omega, .inr ⟨kvL es, s6 _ _ e5, ?_⟩, fun Dz H7 s7 hz7 e7 => ?_⟩
            · unfold kvL
              rw [List.map_map]
              rfl
            refine ⟨_, .inl ⟨_, SqL.of e7, rfl⟩, ?_⟩
            have x7 := x6.trans (ExtN.of s7)
            have T7 := T6.ext s7
            cases hz0 : ((es.filter fun q => decide (q.2.1 = 0)).map fun q => V.ref q.1).isEmpty with
            | false =>
              refine iteT (q false H7 ⟨(fun z => nomatch z), fun z => ?_⟩ x7 T7)
              have : ((es.filter fun q => decide (q.2.1 = 0)).map fun q => V.ref q.1).isEmpty = true := zeros_empty.mpr fun e he => (z.2.2 e.2 (List.mem_map.mpr ⟨e, in5 e he, rfl⟩)).1
              rw [this] at hz0
              cases hz0
            | true =>
              have noz := zeros_empty.mp hz0
              refine iteF ?_
              have e57 := s7 _ _ (s6 _ _ e5)
              refine ⟨G, _, e57, trivial, fun od => ?_⟩
              have s4L : Same H4 (upd H7 G (.frz od (dNT P w G (kvL es)))) := Same.store (s5.trans (s6.trans s7)) hG
              have eL : upd H7 G (.frz od (dNT P w G (kvL es))) G = some (.frz od (dNT P w G (kvL es))) := upd_same
              have sU : ∀ H', Same (upd H7 G (.frz od (dNT P w G (kvL es)))) H' → Same H7 (upd H' G (dNT P w G (kvL es))) := fun H' s => same_unlock e57 s
              refine ⟨.ref G, rfl, G, od, kvL es, rfl, upd_same, fun D2 hD2 => ?_⟩
              generalize upd H7 G (.frz od (dNT P w G (kvL es))) = Hl at s4L eL sU hD2 ⊢
              obtain ⟨cl, c', eg, inj, caps, ec, nD, LA⟩ := FA.same s4L
              have CA := step_cal (q := qLam) (c' := c') (D := D0) (ds := ds) (ks := ks) (b := b) (f := g) inj GB gB kB bB
              have lk : (kvL es).length = es.length := List.length_map _
              have tL : ∀ e ∈ es, Hl e.1 = some (vP e.2) := fun e he => s4L _ _ (tA4 e (in5 e he))
              refine ⟨fun i m H' => m = es.length - i ∧ i ≤ es.length ∧ Same Hl H' ∧ ∃ bs : List Bool, H' D2 = some (.lst (bs.map V.bl)) ∧ bs.length ≤ 60 * i ∧ (bs.all id = true ↔ ∀ e ∈ es.take i, ∀ s ∈ sucP b ds ks e.2, s ∈ es.map (·.2)), ⟨_, rfl, Nat.zero_le _, same_new hD2, [], upd_same, Nat.zero_le _, (fun _ e h => by cases h), fun _ => rfl⟩, ?_⟩
              rintro i m H8 ⟨rfl, hi, s8, bs, e8, l8, a8⟩
              have eL8 := s8 _ _ eL
              by_cases hlt : i < es.length
              · refine .inr ⟨⟨eL8, by omega⟩, fun H' => Same Hl H' ∧ ∃ bs : List Bool, H' D2 = some (.lst (bs.map V.bl)) ∧ bs.length ≤ 60 * (i + 1) ∧ (bs.all id = true ↔ ∀ e ∈ es.take (i + 1), ∀ s ∈ sucP b ds ks e.2, s ∈ es.map (·.2)), fun H' h => ⟨es.length - (i + 1), by omega, rfl, hlt, h⟩, ?_⟩
                rintro x H9 ⟨rfl, zt, hzt, rfl⟩
                obtain ⟨e0, he0, rfl⟩ := get_map (f := fun e : Addr × Plc => (keyP e.2, e.1, V.bl true)) hzt
                have me0 := List.mem_of_getElem? he0
                obtain ⟨k0, ek0, mk0⟩ := right_key (hA e0 (in5 e0 me0)).2
                have ek0 := nV_inj ek0
                rw [← ek0] at mk0
                refine ⟨rfl, tYes_if ?_⟩
                refine ⟨g, _, _, rfl, CA, s8 _ _ eg, .ref e0.1, rfl, s8 _ _ eg, [.int b, .ref D0], caps.same s8, s8 _ _ ec, e0.1, e0.2.1, e0.2.2, rfl, rfl, s8 _ _ (tL e0 me0), mk0, nD, (caps.same s8).ext, LA.extN (ExtN.of s8), few, b0, b6, fun L H10 s10 pl nL => ?_⟩
                obtain ⟨ps, ep, eL2, tp⟩ := pl
                have nLD : L ≠ D2 := fun z => by
                  rw [z, e8] at nL
                  cases nL
                have lp : ps.length ≤ 60 := by
                  have z := congrArg List.length ep
                  rw [List.length_map] at z
                  rw [z]
                  unfold plc leftOf
                  rw [List.length_map]
                  exact Nat.le_trans (List.length_filter_le _ _) (Nat.le_trans (List.length_filter_le _ _) few)
                have eSuc : sucP b ds ks e0.2 = ps.map fun s => ((s.2.1, some s.2.2) : Plc) := by
                  unfold sucP
                  rw [← ep, List.map_map]
                  rfl
                refine ⟨L, rfl, ⟨_, SqL.of eL2⟩, ?_⟩
                refine ⟨fun j k H' => k = ps.length - j ∧ j ≤ ps.length ∧ But D2 H10 H' ∧ Same Hl H' ∧ ∃ cs : List Bool, H' D2 = some (.lst ((bs ++ cs).map V.bl)) ∧ cs.length = j ∧ (cs.all id = true ↔ ∀ s ∈ ps.take j, ((s.2.1, some s.2.2) : Plc) ∈ es.map (·.2)), ⟨_, rfl, Nat.zero_le _, But.refl, s8.trans s10, [], by rw [List.append_nil]; exact s10 _ _ e8, rfl, (fun _ s h => by cases h), fun _ => rfl⟩, ?_⟩
                rintro j k2 H11 ⟨rfl, hj, bt, s11, cs, e11, lc, ac⟩
                have eLj := bt _ _ nLD eL2
                by_cases hj2 : j < ps.length
                · refine .inr ⟨walk_list.goes j H11 (by rw [List.length_map]; exact hj2) (SqL.of eLj), fun H' => But D2 H10 H' ∧ Same Hl H' ∧ ∃ cs : List Bool, H' D2 = some (.lst ((bs ++ cs).map V.bl)) ∧ cs.length = j + 1 ∧ (cs.all id = true ↔ ∀ s ∈ ps.take (j + 1), ((s.2.1, some s.2.2) : Plc) ∈ es.map (·.2)), fun H' h => ⟨ps.length - (j + 1), by omega, rfl, hj2, h⟩, fun x H12 y => ?_⟩
                  obtain ⟨rfl, hx⟩ := walk_list.yields j H11 x H12 (by rw [List.length_map]; exact hj2) (SqL.of eLj) y
                  obtain ⟨s0, hs0, rfl⟩ := get_map (f := fun p : Addr × (Int × Int) => V.ref p.1) hx
                  have ts0 : H12 s0.1 = some (.tup [.int s0.2.1, .int s0.2.2]) := bt _ _ (fun z => by
                    have := tp s0 (List.mem_of_getElem? hs0)
                    rw [z, s10 _ _ e8] at this
                    cases this) (tp s0 (List.mem_of_getElem? hs0))
                  refine ⟨rfl, tYes_if ⟨.ref s0.1, rfl, .ref G, rfl, G, kvL es, keyP (s0.2.1, some s0.2.2), s0.1, rfl, rfl, ⟨.inr ⟨od, s11 _ _ eL⟩, fun z hz => ?_⟩, ts0, ?_⟩⟩
                  · obtain ⟨e, he, rfl⟩ := List.mem_map.mp hz
                    exact s11 _ _ (tL e he)
                  rw [getL_is]
                  refine ⟨_, e11, ?_, But.trans bt But.at_, Same.store s11 hD2, cs ++ [decide (((s0.2.1, some s0.2.2) : Plc) ∈ es.map (·.2))], ?_, by rw [List.length_append, lc]; rfl, ?_⟩
                  · rw [List.length_map, List.length_append]
                    omega
                  · rw [upd_same, ← List.append_assoc, List.map_append, List.map_append, List.map_append]
                    rfl
                  · rw [List.all_append, Bool.and_eq_true, ac, take_more hs0]
                    constructor
                    · rintro ⟨h1, h2⟩ s hs
                      rcases List.mem_append.mp hs with h | h
                      · exact h1 s h
                      · cases List.mem_singleton.mp h
                        simpa using h2
                    · intro h
                      refine ⟨fun s hs => h s (List.mem_append_left _ hs), ?_⟩
                      have := h s0 (List.mem_append_right _ List.mem_cons_self)
                      simpa using this
                · have ej : j = ps.length := by omega
                  have eW : (ps.map fun p => V.ref p.1).length = j := by rw [List.length_map, ej]
                  have st := (walk_list (K := K)).stops H11 (SqL.of eLj)
                  rw [eW] at st
                  refine .inl ⟨st, s11, bs ++ cs, e11, ?_, ?_⟩
                  · rw [List.length_append, lc]
                    omega
                  · rw [List.all_append, Bool.and_eq_true, a8, ac, take_more he0, ej, List.take_length]
                    constructor
                    · rintro ⟨h1, h2⟩ e he s hs
                      rcases List.mem_append.mp he with h | h
                      · exact h1 e h s hs
                      · cases List.mem_singleton.mp h
                        rw [eSuc] at hs
                        obtain ⟨s0, hs0, rfl⟩ := List.mem_map.mp hs
                        exact h2 s0 hs0
                    · intro h
                      refine ⟨fun e he => h e (List.mem_append_left _ he), fun s hs => h e0 (List.mem_append_right _ List.mem_cons_self) _ ?_⟩
                      rw [eSuc]
                      exact List.mem_map.mpr ⟨s, hs, rfl⟩
              · have ei : i = es.length := by omega
                refine .inl ⟨⟨eL8, by omega⟩, D2, bs, rfl, SqL.of e8, eL8, q (bs.all id) _ ?_ (x7.trans (ExtN.of (sU H8 s8))) (T7.ext (sU H8 s8))⟩
                rw [a8, ei, List.take_length]
                have mS : ∀ x : Plc, some x ∈ (as.map fun q => some q.2) ↔ x ∈ es.map (·.2) := fun x => by
                  rw [m5]
                  constructor
                  · intro h
                    obtain ⟨e, he, ee⟩ := List.mem_map.mp h
                    exact List.mem_map.mpr ⟨e, he, Option.some.inj ee⟩
                  · intro h
                    obtain ⟨e, he, ee⟩ := List.mem_map.mp h
                    exact List.mem_map.mpr ⟨e, he, congrArg some ee⟩
                constructor
                · intro h
                  refine ⟨fun o ho z => ?_, (mS _).mpr hin, fun w0 hw => ?_⟩
                  · obtain ⟨e, _, ee⟩ := List.mem_map.mp ho
                    rw [z] at ee
                    cases ee
                  · obtain ⟨e, he, rfl⟩ := List.mem_map.mp ((mS _).mp hw)
                    exact ⟨noz e he, fun s hs => (mS _).mpr (h e he s hs)⟩
                · rintro ⟨_, _, h⟩ e he s hs
                  exact (mS _).mp ((h e.2 ((mS _).mpr (List.mem_map.mpr ⟨e, he, rfl⟩))).2 s hs)
          · rw [decide_eq_false hin]
            refine iteT (iteT (q false H6 ⟨(fun z => nomatch z), fun z => ?_⟩ x6 T6))
            refine absurd ((m5 _).mpr ?_) hin
            obtain ⟨e, he, ee⟩ := List.mem_map.mp z.2.1
            exact List.mem_map.mpr ⟨e, he, Option.some.inj ee⟩
end
end K12
/-! A list of whatever items against the empty list; an int sought among whatever items. -/
namespace OF
open PySem PySem.Spec PyProof.Rows L2
section
variable {X : Cx}
/-- xs == [] -/
def rEqNil (K : PySem.W.Frag) : R2 := fun x y H Q => ∃ (p q : Addr) (xs : List V), x = .ref p ∧ y = .ref q ∧ SqL K H p xs ∧ SqL K H q [] ∧ Q (.bl xs.isEmpty) H
def rNeNil (K : PySem.W.Frag) : R2 := fun x y H Q => ∃ (p q : Addr) (xs : List V), x = .ref p ∧ y = .ref q ∧ SqL K H p xs ∧ SqL K H q [] ∧ Q (.bl (!xs.isEmpty)) H
theorem vals_nil {us : List Value} (h : Vals [] us) : us = [] := by cases h; rfl
theorem vals_empty {xs : List V} {us : List Value} (h : Vals xs us) : xs.isEmpty = us.isEmpty := by cases h <;> rfl
theorem op_eqNil (hu : X.A.units + 64 < cLine) : OpR X (compareOp .Eq) (rEqNil X.K) := by
  intro pins s σ H x y v u Q I rx ry h
  obtain ⟨p, q, xs, rfl, rfl, hp, hq, z⟩ := h
  cases rx
  cases ry
  obtain ⟨its, r1, l1, _⟩ := I.list hp
  obtain ⟨its2, r2, l2, _⟩ := I.list hq
  cases vals_nil r2
  rw [vals_empty r1] at z
  cases its with
  | nil => exact SeqAt.eq_listAt (e := fun _ => true) l1.isList l2.isList rfl (by omega) (fun j h1 => absurd h1 (Nat.not_lt_zero j)) ⟨.bl true, H, I, rfl, z⟩
  | cons a m => exact SeqAt.eq_list_lengthsAt l1.isList l2.isList (by simp) (by omega) ⟨.bl false, H, I, rfl, z⟩
theorem op_neNil (hu : X.A.units + 64 < cLine) : OpR X (compareOp .NotEq) (rNeNil X.K) := by
  intro pins s σ H x y v u Q I rx ry h
  obtain ⟨p, q, xs, rfl, rfl, hp, hq, z⟩ := h
  cases rx
  cases ry
  obtain ⟨its, r1, l1, _⟩ := I.list hp
  obtain ⟨its2, r2, l2, _⟩ := I.list hq
  cases vals_nil r2
  rw [vals_empty r1] at z
  cases its with
  | nil => exact SeqAt.RcNeAt.lists (e := fun _ => true) l1.isList l2.isList rfl (by omega) (fun j h1 => absurd h1 (Nat.not_lt_zero j)) X.prog X.w X.xe _ ⟨.bl false, H, I, rfl, z⟩
  | cons a m => exact SeqAt.RcNeAt.lists_lengths l1.isList l2.isList (by simp) (by omega) X.prog X.w X.xe _ ⟨.bl true, H, I, rfl, z⟩
end
end OF
namespace K12
open PySem PySem.Spec PyProof.Rows L2 OF
abbrev sMet : Stmt := topS 64
section
variable {P : Program} {w : World} {K : PySem.W.Frag} {mg : Str → Option Value} {base : Heap}
/-! ### the law's places -/
theorem jdg_eq {ns : List Int} {L ks : List (Addr × (Int × Int))} (e : L.map (·.2) = ks.map (·.2)) : jdg ns L = jdg ns ks := by
  have h : ∀ n m, hasBar L n m = hasBar ks n m := fun n m => by
    unfold hasBar
    rw [show (L.map fun p => pd2 p.2) = (L.map (·.2)).map pd2 by rw [List.map_map]; rfl, show (ks.map fun p => pd2 p.2) = (ks.map (·.2)).map pd2 by rw [List.map_map]; rfl, e]
  funext x y
  unfold jdg
  simp only [h]
theorem sucP_eq {b : Int} {ns : List Int} {L ks : List (Addr × (Int × Int))} (e : L.map (·.2) = ks.map (·.2)) : sucP b ns L = sucP b ns ks := by
  funext p
  unfold sucP leftOf
  rw [jdg_eq e]
/-- all levels, in a list -/
structure LevAt (H : Hp) (V0 : Addr) (lv : List (Addr × List (Addr × Plc))) : Prop where
  at_ : H V0 = some (.lst (lv.map fun p => V.ref p.1))
  each : ∀ p ∈ lv, PlcsAt H p.1 p.2
theorem PlcsAt.same {H H' : Hp} {L : Addr} {as : List (Addr × Plc)} (h : PlcsAt H L as) (s : Same H H') : PlcsAt H' L as := ⟨s _ _ h.1, fun p hp => s _ _ (h.2 p hp)⟩
def spMet : Sp := fun vs H Q _ => ∃ (m dl pl pt : Addr) (b : Int) (ns : List Int) (ks : List (Addr × (Int × Int))) (q : Plc) (U : List Plc), vs = [.ref m, .ref pt] ∧ ModAt H m dl pl b ns ks ∧ Good b ns (ks.map (·.2)) ∧ H pt = some (vP q) ∧ q ∈ U ∧ Bound b ns ks U ∧
  ∀ (V0 : Addr) (lv : List (Addr × List (Addr × Plc))) (H' : Hp), Same H H' → LevAt H' V0 lv → ((lv.map (·.2)).flatten.map (·.2)).Nodup → lv.length ≤ 100002 → (∀ x, x ∈ (lv.map (·.2)).flatten.map (·.2) ↔ Reach (sucP b ns ks) [q] x) → (∀ i p, lv[i]? = some p → ∀ x, x ∈ p.2.map (·.2) ↔ Lvl (sucP b ns ks) q i x) → Q (.ref V0) H'
theorem flat_lvl {lv : List (Addr × List (Addr × Plc))} {x : Plc} : x ∈ ((lv.map (·.2)).flatten).map (·.2) ↔ ∃ (i : Nat) (p : Addr × List (Addr × Plc)), lv[i]? = some p ∧ x ∈ p.2.map (·.2) := by
  constructor
  · intro h
    obtain ⟨e, he, rfl⟩ := List.mem_map.mp h
    obtain ⟨z, hz, he2⟩ := List.mem_flatten.mp he
    obtain ⟨p, hp, rfl⟩ := List.mem_map.mp hz
    obtain ⟨i, hi⟩ := List.mem_iff_getElem?.mp hp
    exact ⟨i, p, hi, List.mem_map.mpr ⟨e, he2, rfl⟩⟩
  · rintro ⟨i, p, hi, h⟩
    obtain ⟨e, he, rfl⟩ := List.mem_map.mp h
    exact List.mem_map.mpr ⟨e, List.mem_flatten.mpr ⟨p.2, List.mem_map.mpr ⟨p, List.mem_of_getElem? hi, rfl⟩, he⟩, rfl⟩
theorem nodup_snoc {α : Type} {l : List α} {x : α} (h : l.Nodup) (n : x ∉ l) : (l ++ [x]).Nodup := by
  rw [List.nodup_append]
  refine ⟨h, List.nodup_cons.mpr ⟨(fun z => by cases z), .nil⟩, fun a ha b hb e => ?_⟩
  cases List.mem_singleton.mp hb
  exact n (e ▸ ha)
/-- all that was tracked, but for two boxes -/
def But2 (a b : Addr) (H H' : Hp) : Prop := ∀ c o, c ≠ a → c ≠ b → H c = some o → H' c = some o
theorem But2.refl {a b : Addr} {H : Hp} : But2 a b H H := fun _ _ _ _ e => e
theorem But2.trans {a b : Addr} {H H1 H2 : Hp} (x : But2 a b H H1) (y : But2 a b H1 H2) : But2 a b H H2 := fun c o n m e => y c o n m (x c o n m e)
theorem But2.of {a b : Addr} {H H' : Hp} (s : Same H H') : But2 a b H H' := fun c o _ _ e => s c o e
theorem But2.at1 {a b : Addr} {H : Hp} {o : HO} : But2 a b H (upd H a o) := fun c u n _ e => (upd_ne n).trans e
theorem But2.at2 {a b : Addr} {H : Hp} {o : HO} : But2 a b H (upd H b o) := fun c u _ n e => (upd_ne n).trans e
theorem But2.same {a b : Addr} {H H' : Hp} (x : But2 a b H H') (ha : H a = none) (hb : H b = none) : Same H H' := fun c o e => x c o (ne_of_none e ha) (ne_of_none e hb) e
theorem putL_new {es : List (Addr × Plc)} {q : Plc} {r : Addr} (h : q ∉ es.map (·.2)) : putL es q r = es ++ [(r, q)] := if_neg h
abbrev nMe : List Str := ["_law_model", "_law_place", "_law_levels", "_law_met_here", "_law_further", "_law_old", "_law_new"]
theorem scMe : FnScope nMe ["_law_model", "_law_place"] (defScope sMet) := ⟨rfl, rfl, rfl, by decide +kernel, rfl, by decide +kernel, by decide +kernel⟩
theorem ok_met {f fS : Addr} {fd fdS : FuncData} (F : Fun K "_law_met" "_law_met" sMet f fd)
    (GS : FnOk P w K mg base CX0 3 fS fdS ["_law_model", "_law_place"] spLSteps) (gS : mg "_law_steps" = some (.ref fS)) (kS : PySem.W.keepIn K (.ref fS) = true) (bS : Binds K fdS ["_law_model", "_law_place"] []) :
    FnOk P w K mg base CX0 4 f fd ["_law_model", "_law_place"] spMet := by
  refine F.ok scMe (fun vs H Q E h => ?_) (fun cdv A outer s H vs Q E hr h => ?_)
  · obtain ⟨m, dl, pl, pt, b, ns, ks, q, U, rfl, _⟩ := h
    rfl
  · obtain ⟨m, dl, pl, pt, b, ns, ks, q0, U, rfl, MA, G, hpt, qU, BU, q⟩ := h
    have lU := BU.len
    apply Exists.intro
    apply And.intro
    · apply pss_cons
      · exact ps_par (i := 2) (j := 3) rfl scMe.nd rfl rfl (by decide) rfl rfl (pa_cons (pe_lst (pa_cons (pe_lst (pa_cons (pv 1) pa_nil)) pa_nil)) (pa_cons (pe_disp1NT (by exact Nat.lt_of_succ_lt (hu_of hr)) (pv 1) pe_bl) pa_nil)) (by rfl)
      apply pss_cons
      · exact ps_while PassesOwn.never (pt_cmpR (op_neNil hr.units) (pe_ix ix_list (pv 2) (pe_un un_neg pe_int) (fun _ _ => rfl)) (pe_lst pa_nil) rfl)
          (pss_cons (ps_set (i := 4) scMe.nd rfl (.inl rfl) (pe_lst pa_nil))
          (pss_cons (ps_for PassesOwn.never rfl (pi_list (pe_ix ix_list (pv 2) (pe_un un_neg pe_int) (fun _ _ => rfl))) (pg_name (i := 5) scMe.nd rfl (.inl rfl))
            (pss_one (ps_for PassesOwn.never rfl (pi_list (pe_call GS hr (by rfl) gS kS bS .nil pass0 (pa_cons (pv 0) (pa_cons (pv 5) pa_nil)))) (pg_name (i := 6) scMe.nd rfl (.inl rfl))
              (pss_one (ps_if (pt_cmpR (op_notInNT (hu_of hr)) (pv 6) (pv 3) rfl)
                (pss_cons (ps_asg pe_bl (pg_sub (pv 3) (pv 6) (set_dictNT (hu_of hr)) (fun _ => rfl)))
                  (pss_one (ps_expr (pe_bm PySem.F.plainAttrs_list PySem.F.slot_list_append PySem.F.type_list_append mt_append (pv 4) (pa_cons (pv 6) pa_nil))))) pss_nil)))))
          (pss_one (ps_expr (pe_bm PySem.F.plainAttrs_list PySem.F.slot_list_append PySem.F.type_list_append mt_append (pv 2) (pa_cons (pv 4) pa_nil))))))
      apply pss_one
      · exact ps_ret (pv 2)
    refine ⟨.ref pt, rfl, (by show 1 ≤ sizeLine; decide), fun L0 hL0 => ⟨(by show 1 ≤ sizeLine; decide), fun V0 hV0 M hM => ?_⟩⟩
    have sa := same_new (o := .lst [.ref pt]) hL0
    have ea : upd H L0 (.lst [.ref pt]) L0 = some (.lst [.ref pt]) := upd_same
    generalize upd H L0 (.lst [.ref pt]) = Ha at sa ea hV0 hM ⊢
    have sb := same_new (o := .lst [.ref L0]) hV0
    have eb : upd Ha V0 (.lst [.ref L0]) V0 = some (.lst [.ref L0]) := upd_same
    have nLV : L0 ≠ V0 := ne_of_none ea hV0
    generalize upd Ha V0 (.lst [.ref L0]) = Hb at sb eb hM ⊢
    have sc := same_new (o := dNT P w M []) hM
    refine ⟨.ref pt, rfl, keyP q0, pt, rfl, upd_same, sc _ _ (sb _ _ (sa _ _ hpt)), ?_⟩
    generalize eHc : upd (upd Hb M (dNT _ _ M [])) M (dNT _ _ M [(keyP q0, pt, V.bl true)]) = Hc
    have eHc : upd (upd Hb M (dNT P w M [])) M (dNT P w M [(keyP q0, pt, V.bl true)]) = Hc := eHc
    have sc2 : Same Hb Hc := by rw [← eHc]; exact Same.store sc hM
    have ec : Hc M = some (dNT P w M (kvL [(pt, q0)])) := by rw [← eHc]; exact upd_same
    clear eHc sc
    have sHc : Same H Hc := sa.trans (sb.trans sc2)
    have hM0 : H M = none := by
      cases e : H M with
      | none => rfl
      | some o =>
        rw [sb _ _ (sa _ _ e)] at hM
        cases hM
    have hV00 : H V0 = none := by
      cases e : H V0 with
      | none => rfl
      | some o =>
        rw [sa _ _ e] at hV0
        cases hV0
    have nVM : V0 ≠ M := ne_of_none eb hM
    have nLM : L0 ≠ M := ne_of_none (sb _ _ ea) hM
    refine ⟨_, _, rfl, ?_⟩
    refine ⟨fun mm σ H1 => ∃ (v4 v5 v6 : Option V) (lv : List (Addr × List (Addr × Plc))) (la : Addr × List (Addr × Plc)) (es : List (Addr × Plc)), σ = [some (.ref m), some (.ref pt), some (.ref V0), some (.ref M), v4, v5, v6] ∧ mm = (U.length - es.length) + (if la.2 = [] then 0 else 1) ∧ es = ((lv ++ [la]).map (·.2)).flatten ∧
      Same H H1 ∧ H1 V0 = some (.lst ((lv ++ [la]).map fun p => V.ref p.1)) ∧ (∀ p ∈ lv ++ [la], PlcsAt H1 p.1 p.2 ∧ p.1 ≠ V0) ∧ H1 M = some (dNT P w M (kvL es)) ∧ (es.map (·.2)).Nodup ∧ (∀ e ∈ es, Reach (sucP b ns ks) [q0] e.2) ∧
      (∀ p ∈ lv, ∀ e ∈ p.2, ∀ s ∈ sucP b ns ks e.2, s ∈ es.map (·.2)) ∧ q0 ∈ es.map (·.2) ∧ lv.length + (if la.2 = [] then 0 else 1) ≤ es.length ∧ (∀ i p, (lv ++ [la])[i]? = some p → ∀ x, x ∈ p.2.map (·.2) ↔ Lvl (sucP b ns ks) q0 i x), ⟨_, none, none, none, [], (L0, [(pt, q0)]), [(pt, q0)], rfl, rfl, rfl, sHc, ?_, ?_, ec, ?_, ?_, (fun p h => by cases h), List.mem_cons_self, Nat.le_refl _, fun i p h x => ?_⟩, ?_⟩
    · exact sc2 _ _ eb
    · intro p hp
      cases List.mem_singleton.mp hp
      refine ⟨⟨sc2 _ _ (sb _ _ ea), fun z hz => ?_⟩, nLV⟩
      cases List.mem_singleton.mp hz
      exact sHc _ _ hpt
    · exact List.nodup_cons.mpr ⟨(fun z => by cases z), .nil⟩
    · intro e he
      cases List.mem_singleton.mp he
      exact .start List.mem_cons_self
    · cases i with
      | zero =>
        cases h
        rw [lvl_zero]
        exact List.mem_singleton
      | succ i => cases h
    rintro mm σ H1 ⟨v4, v5, v6, lv, la, es, rfl, rfl, ees, s1, eV, pA, eM, nd, re, cl, st, few, lev⟩
    have inU : ∀ x, Reach (sucP b ns ks) [q0] x → x ∈ U := fun x r => Reach.all (p := fun x => x ∈ U) (fun x hx => by
      cases List.mem_singleton.mp hx
      exact qU) (fun x hx y hy => BU.cl x hx y hy) r
    have lenU : ∀ fs : List (Addr × Plc), (fs.map (·.2)).Nodup → (∀ e ∈ fs, Reach (sucP b ns ks) [q0] e.2) → fs.length ≤ U.length := fun fs n r => by
      have z := nodup_le (fs.map (·.2)) U n fun x hx => by
        obtain ⟨e, he, rfl⟩ := List.mem_map.mp hx
        exact inU _ (r e he)
      rw [List.length_map] at z
      exact z
    have eU := lenU es nd re
    obtain ⟨pL, nLa⟩ := pA la (List.mem_append_right _ List.mem_cons_self)
    have aLast : atI ((lv ++ [la]).map fun p => V.ref p.1) (-1) = some (.ref la.1) := by
      rw [List.map_append]
      exact atI_last _ _
    refine ⟨.ref V0, rfl, 1, rfl, V0, _, -1, .ref la.1, rfl, rfl, SqL.of eV, aLast, (by show 0 ≤ sizeLine; decide), fun E0 hE0 => ?_⟩
    have s2 := same_new (o := .lst []) hE0
    have e2 : upd H1 E0 (.lst []) E0 = some (.lst []) := upd_same
    generalize upd H1 E0 (.lst []) = H2 at s2 e2 ⊢
    refine ⟨la.1, E0, _, rfl, rfl, SqL.of (s2 _ _ pL.1), SqL.of e2, _, rfl, ?_⟩
    by_cases hla : la.2 = []
    · rw [show (!(la.2.map fun p => V.ref p.1).isEmpty) = false by rw [hla]; rfl]
      rw [if_pos hla] at few
      refine iteF ⟨.ref V0, rfl, q V0 (lv ++ [la]) H2 (s1.trans s2) ⟨s2 _ _ eV, fun p hp => (pA p hp).1.same s2⟩ (by rw [← ees]; exact nd) (by rw [List.length_append]; show lv.length + 1 ≤ 100002; omega) (fun x => ?_) lev⟩
      rw [← ees]
      constructor
      · intro h
        obtain ⟨e, he, rfl⟩ := List.mem_map.mp h
        exact re e he
      · intro r
        induction r with
        | start h =>
          cases List.mem_singleton.mp h
          exact st
        | step r h ih =>
          obtain ⟨e, he, rfl⟩ := List.mem_map.mp ih
          rw [ees] at he
          obtain ⟨z, hz, he2⟩ := List.mem_flatten.mp he
          obtain ⟨p, hp, rfl⟩ := List.mem_map.mp hz
          rcases List.mem_append.mp hp with hp | hp
          · exact cl p hp e he2 _ h
          · cases List.mem_singleton.mp hp
            rw [hla] at he2
            cases he2
    · have nla : la.2 ≠ [] := hla
      rw [show (!(la.2.map fun p => V.ref p.1).isEmpty) = true by
        cases hh : la.2 with
        | nil => exact absurd hh hla
        | cons _ _ => rfl]
      rw [if_neg hla] at few
      refine iteT ⟨_, fun σ' H' h => h, ?_⟩
      refine ⟨(by show 0 ≤ sizeLine; decide), fun F0 hF => ?_⟩
      have s3 := same_new (o := .lst []) hF
      have e3 : upd H2 F0 (.lst []) F0 = some (.lst []) := upd_same
      have hF1 : H1 F0 = none := by
        cases e : H1 F0 with
        | none => rfl
        | some o =>
          rw [s2 _ _ e] at hF
          cases hF
      generalize upd H2 F0 (.lst []) = H3 at s3 e3 ⊢
      have s13 := s2.trans s3
      have nFM : F0 ≠ M := fun z => by
        rw [z, eM] at hF1
        cases hF1
      have nFV : F0 ≠ V0 := fun z => by
        rw [z, eV] at hF1
        cases hF1
      have eV3 := s13 _ _ eV
      have eM3 := s13 _ _ eM
      have pA3 : ∀ p ∈ lv ++ [la], PlcsAt H3 p.1 p.2 := fun p hp => (pA p hp).1.same s13
      have tE : ∀ e ∈ es, H3 e.1 = some (vP e.2) := fun e he => by
        rw [ees] at he
        obtain ⟨z, hz, he2⟩ := List.mem_flatten.mp he
        obtain ⟨p, hp, rfl⟩ := List.mem_map.mp hz
        exact (pA3 p hp).2 e he2
      have pL3 := pA3 la (List.mem_append_right _ List.mem_cons_self)
      have nLM : la.1 ≠ M := fun z => by
        have z0 := pL.1
        rw [z, eM] at z0
        cases z0
      have nLF : la.1 ≠ F0 := fun z => by
        have := pL.1
        rw [z, hF1] at this
        cases this
      refine ⟨.ref V0, rfl, 1, rfl, V0, _, -1, .ref la.1, rfl, rfl, SqL.of eV3, aLast, la.1, rfl, ⟨_, SqL.of pL3.1⟩, ?_⟩
      have laU : ∀ e ∈ la.2, e.2 ∈ U := fun e he => inU _ (re e (by
        rw [ees]
        exact List.mem_flatten.mpr ⟨la.2, List.mem_map.mpr ⟨la, List.mem_append_right _ List.mem_cons_self, rfl⟩, he⟩))
      refine for_list (K := K) (a := la.1) (xs := la.2.map fun p => V.ref p.1) (fun i σ H' => ∃ (v5 v6 : Option V) (fu : List (Addr × Plc)), σ = [some (.ref m), some (.ref pt), some (.ref V0), some (.ref M), some (.ref F0), v5, v6] ∧ But2 M F0 H3 H' ∧ PlcsAt H' F0 fu ∧ H' M = some (dNT P w M (kvL (es ++ fu))) ∧
        ((es ++ fu).map (·.2)).Nodup ∧ (∀ e ∈ es ++ fu, Reach (sucP b ns ks) [q0] e.2) ∧ (∀ e ∈ la.2.take i, ∀ s ∈ sucP b ns ks e.2, s ∈ (es ++ fu).map (·.2)) ∧ ∀ x ∈ fu.map (·.2), ∃ e ∈ la.2, x ∈ sucP b ns ks e.2) ?_ ?_ ?_ ?_
      · exact ⟨v5, v6, [], rfl, But2.refl, ⟨e3, fun p h => by cases h⟩, by rw [List.append_nil]; exact eM3, by rw [List.append_nil]; exact nd, by rw [List.append_nil]; exact re, (fun e h => by cases h), fun x h => by cases h⟩
      · rintro i σ H' _ ⟨_, _, _, _, bt, _⟩
        exact SqL.of (bt _ _ nLM nLF pL3.1)
      · rintro i x σ H4 hx ⟨v5, v6, fu, rfl, bt, fA, eM4, nd4, re4, cl4, fr4⟩
        obtain ⟨o, ho, rfl⟩ := get_map (f := fun p : Addr × Plc => V.ref p.1) hx
        have mo := List.mem_of_getElem? ho
        have tupN : ∀ {c : Addr} {xs : List V}, H3 c = some (.tup xs) → c ≠ M ∧ c ≠ F0 := fun {c xs} e => by
          constructor
          · rintro rfl
            rw [eM3] at e
            cases e
          · rintro rfl
            rw [e3] at e
            cases e
        have hF00 : H F0 = none := by
          cases e : H F0 with
          | none => rfl
          | some o =>
            rw [s1 _ _ e] at hF1
            cases hF1
        have s04 : Same H H4 := fun c o2 e => bt c o2 (ne_of_none e hM0) (ne_of_none e hF00) (s13 _ _ (s1 _ _ e))
        have to4 : H4 o.1 = some (vP o.2) := by
          have z := pL3.2 o mo
          obtain ⟨n1, n2⟩ := tupN z
          exact bt _ _ n1 n2 z
        have kU := BU.key _ (laU o mo)
        have hz : nV o.2.2 = .non ∨ ∃ y, y ∈ ns ∧ nV o.2.2 = .int y := by
          rcases List.mem_cons.mp kU with e | e
          · rw [e]
            exact .inl rfl
          · obtain ⟨y, hy, e⟩ := List.mem_map.mp e
            rw [← e]
            exact .inr ⟨y, hy, rfl⟩
        refine ⟨.ref m, rfl, .ref o.1, rfl, m, dl, pl, o.1, b, o.2.1, ns, ks, nV o.2.2, rfl, MA.same s04, G, to4, hz.imp id (fun ⟨y, _, e⟩ => ⟨y, e⟩), fun L H5 s5 hL p5 => ?_⟩
        rw [← plc_law G rfl hz] at p5
        obtain ⟨ps, ep, eL, tp⟩ := p5
        have eSuc : sucP b ns ks o.2 = ps.map fun s => ((s.2.1, some s.2.2) : Plc) := by
          unfold sucP leftOf
          rw [← ep, List.map_map]
          rfl
        have nLM2 : L ≠ M := fun z => by
          rw [z, eM4] at hL
          cases hL
        have nLF2 : L ≠ F0 := fun z => by
          rw [z, fA.1] at hL
          cases hL
        have lps : ps.length ≤ 1000 := by
          have z := congrArg List.length ep
          rw [List.length_map] at z
          rw [z]
          unfold plc
          rw [List.length_map]
          have := G.six
          exact Nat.le_trans (List.length_filter_le _ _) (Nat.le_trans (List.length_filter_le _ _) (by omega))
        refine ⟨L, rfl, ⟨_, SqL.of eL⟩, ?_⟩
        refine for_list (K := K) (a := L) (xs := ps.map fun p => V.ref p.1) (fun j σ H' => ∃ (v6 : Option V) (fu : List (Addr × Plc)), σ = [some (.ref m), some (.ref pt), some (.ref V0), some (.ref M), some (.ref F0), some (.ref o.1), v6] ∧ But2 M F0 H5 H' ∧ PlcsAt H' F0 fu ∧ H' M = some (dNT P w M (kvL (es ++ fu))) ∧
          ((es ++ fu).map (·.2)).Nodup ∧ (∀ e ∈ es ++ fu, Reach (sucP b ns ks) [q0] e.2) ∧ (∀ e ∈ la.2.take i, ∀ s ∈ sucP b ns ks e.2, s ∈ (es ++ fu).map (·.2)) ∧ (∀ s ∈ ps.take j, ((s.2.1, some s.2.2) : Plc) ∈ (es ++ fu).map (·.2)) ∧ ∀ x ∈ fu.map (·.2), ∃ e ∈ la.2, x ∈ sucP b ns ks e.2) ?_ ?_ ?_ ?_
        · exact ⟨v6, fu, rfl, But2.refl, fA.same s5, s5 _ _ eM4, nd4, re4, cl4, (fun s h => by cases h), fr4⟩
        · rintro j σ H' _ ⟨_, _, _, bt2, _⟩
          exact SqL.of (bt2 _ _ nLM2 nLF2 eL)
        · rintro j x σ H6 hx2 ⟨v6, fu, rfl, bt2, fA6, eM6, nd6, re6, cl6, in6, fr6⟩
          obtain ⟨s0, hs0, rfl⟩ := get_map (f := fun p : Addr × (Int × Int) => V.ref p.1) hx2
          have ms0 := List.mem_of_getElem? hs0
          have bt3 : But2 M F0 H3 H6 := (bt.trans (But2.of s5)).trans bt2
          have ts0 : H6 s0.1 = some (vP (s0.2.1, some s0.2.2)) := by
            have z := tp s0 ms0
            refine bt2 _ _ (fun y => ?_) (fun y => ?_) z
            · rw [y, s5 _ _ eM4] at z
              cases z
            · rw [y, s5 _ _ fA.1] at z
              cases z
          have tA6 : ∀ e ∈ es ++ fu, H6 e.1 = some (vP e.2) := fun e he => by
            rcases List.mem_append.mp he with he | he
            · have z := tE e he
              obtain ⟨n1, n2⟩ := tupN z
              exact bt3 _ _ n1 n2 z
            · exact fA6.2 e he
          have lfu := lenU _ nd6 re6
          have big := big17
          have dM : DictT P w H6 M (kvL (es ++ fu)) := ⟨.inl eM6, fun z hz => by
            obtain ⟨e, he, rfl⟩ := List.mem_map.mp hz
            exact tA6 e he⟩
          refine ⟨.ref s0.1, rfl, .ref M, rfl, M, _, keyP (s0.2.1, some s0.2.2), s0.1, rfl, rfl, dM, ts0, _, rfl, ?_⟩
          rw [getL_is]
          by_cases hin : ((s0.2.1, some s0.2.2) : Plc) ∈ (es ++ fu).map (·.2)
          · rw [decide_eq_true hin]
            refine iteF ⟨some (.ref s0.1), fu, rfl, bt2, fA6, eM6, nd6, re6, cl6, (fun s hs => ?_), fr6⟩
            rw [take_more hs0] at hs
            rcases List.mem_append.mp hs with h | h
            · exact in6 s h
            · cases List.mem_singleton.mp h
              exact hin
          · rw [decide_eq_false hin]
            refine iteT ?_
            have lk6 : (kvL (es ++ fu)).length = (es ++ fu).length := List.length_map _
            refine ⟨.ref M, rfl, .ref s0.1, rfl, M, _, keyP (s0.2.1, some s0.2.2), s0.1, rfl, rfl, dM, eM6, ts0, by omega, ?_⟩
            rw [putL_kv, putL_new hin, List.append_assoc]
            generalize e7H : upd H6 M (dNT _ _ M (kvL (es ++ (fu ++ [(s0.1, ((s0.2.1, some s0.2.2) : Plc))])))) = H7
            have e7H : upd H6 M (dNT P w M (kvL (es ++ (fu ++ [(s0.1, ((s0.2.1, some s0.2.2) : Plc))])))) = H7 := e7H
            have b7 : But2 M F0 H6 H7 := by rw [← e7H]; exact But2.at1
            have n7 : ∀ {c : Addr}, c ≠ M → H7 c = H6 c := fun n => by rw [← e7H, upd_ne n]
            have eM7 : H7 M = some (dNT P w M (kvL (es ++ (fu ++ [(s0.1, ((s0.2.1, some s0.2.2) : Plc))])))) := by rw [← e7H, upd_same]
            clear e7H
            have eF7 := (n7 nFM).trans fA6.1
            refine ⟨.ref F0, rfl, .inl ⟨rfl, _, SqL.of eF7⟩, .ref s0.1, rfl, F0, _, .ref s0.1, rfl, rfl, eF7, ?_, ?_⟩
            · rw [List.length_map]
              have : fu.length ≤ (es ++ fu).length := by rw [List.length_append]; omega
              omega
            have tup8 : ∀ {c : Addr} {xs : List V} {o2 : HO}, H6 c = some (.tup xs) → upd H7 F0 o2 c = some (.tup xs) := fun {c xs o2} e => by
              have n1 : c ≠ M := fun z => by
                rw [z, eM6] at e
                cases e
              have n2 : c ≠ F0 := fun z => by
                rw [z, fA6.1] at e
                cases e
              rw [upd_ne n2, n7 n1]
              exact e
            have reN : Reach (sucP b ns ks) [q0] ((s0.2.1, some s0.2.2) : Plc) := .step (re o (by
              rw [ees]
              exact List.mem_flatten.mpr ⟨la.2, List.mem_map.mpr ⟨la, List.mem_append_right _ List.mem_cons_self, rfl⟩, mo⟩)) (by
              rw [eSuc]
              exact List.mem_map.mpr ⟨s0, ms0, rfl⟩)
            have memN : ∀ {x : Plc}, x ∈ (es ++ fu).map (·.2) → x ∈ (es ++ (fu ++ [(s0.1, ((s0.2.1, some s0.2.2) : Plc))])).map (·.2) := fun {x} h => by
              rw [← List.append_assoc, List.map_append]
              exact List.mem_append_left _ h
            have memS : ((s0.2.1, some s0.2.2) : Plc) ∈ (es ++ (fu ++ [(s0.1, ((s0.2.1, some s0.2.2) : Plc))])).map (·.2) := by
              rw [← List.append_assoc, List.map_append]
              exact List.mem_append_right _ List.mem_cons_self
            refine ⟨some (.ref s0.1), fu ++ [(s0.1, ((s0.2.1, some s0.2.2) : Plc))], rfl, (bt2.trans b7).trans But2.at2, ⟨?_, fun p hp => ?_⟩, ?_, ?_, fun e he => ?_, (fun e he s hs => memN (cl6 e he s hs)), (fun s hs => ?_), fun x hx => ?_⟩
            · rw [upd_same, List.map_append]
              rfl
            · rcases List.mem_append.mp hp with h | h
              · exact tup8 (fA6.2 p h)
              · cases List.mem_singleton.mp h
                exact tup8 ts0
            · rw [upd_ne nFM.symm]
              exact eM7
            · rw [← List.append_assoc, List.map_append]
              exact nodup_snoc nd6 hin
            · rw [← List.append_assoc] at he
              rcases List.mem_append.mp he with h | h
              · exact re6 e h
              · cases List.mem_singleton.mp h
                exact reN
            · rw [take_more hs0] at hs
              rcases List.mem_append.mp hs with h | h
              · exact memN (in6 s h)
              · cases List.mem_singleton.mp h
                exact memS
            · rw [List.map_append] at hx
              rcases List.mem_append.mp hx with h | h
              · exact fr6 x h
              · cases List.mem_singleton.mp h
                exact ⟨o, mo, by rw [eSuc]; exact List.mem_map.mpr ⟨s0, ms0, rfl⟩⟩
        · rintro σ H6 ⟨v6, fu, rfl, bt2, fA6, eM6, nd6, re6, cl6, in6, fr6⟩
          rw [List.length_map, List.take_length] at in6
          refine ⟨some (.ref o.1), v6, fu, rfl, (bt.trans (But2.of s5)).trans bt2, fA6, eM6, nd6, re6, (fun e he s hs => ?_), fr6⟩
          rw [take_more ho] at he
          rcases List.mem_append.mp he with h | h
          · exact cl6 e h s hs
          · cases List.mem_singleton.mp h
            rw [eSuc] at hs
            obtain ⟨s0, hs0, rfl⟩ := List.mem_map.mp hs
            exact in6 s0 hs0
      · rintro σ H4 ⟨v5, v6, fu, rfl, bt, fA, eM4, nd4, re4, cl4, fr4⟩
        rw [List.length_map, List.take_length] at cl4
        have hF00 : H F0 = none := by
          cases e : H F0 with
          | none => rfl
          | some o =>
            rw [s1 _ _ e] at hF1
            cases hF1
        have s04 : Same H H4 := fun c o2 e => bt c o2 (ne_of_none e hM0) (ne_of_none e hF00) (s13 _ _ (s1 _ _ e))
        have eV4 := bt _ _ nVM nFV.symm eV3
        have lfu := lenU _ nd4 re4
        have les : (es ++ fu).length = es.length + fu.length := List.length_append
        have llv : (lv ++ [la]).length = lv.length + 1 := List.length_append
        refine ⟨.ref V0, rfl, .inl ⟨rfl, _, SqL.of eV4⟩, .ref F0, rfl, V0, _, .ref F0, rfl, rfl, eV4, ?_, ?_⟩
        · rw [List.length_map]
          unfold sizeLine
          omega
        have old : ∀ p ∈ lv ++ [la], PlcsAt (upd H4 V0 (.lst (((lv ++ [la]).map fun p => V.ref p.1) ++ [.ref F0]))) p.1 p.2 ∧ p.1 ≠ V0 := fun p hp => by
          obtain ⟨_, nV⟩ := pA p hp
          have z := pA3 p hp
          have n1 : p.1 ≠ M := fun y => by
            have u := z.1
            rw [y, eM3] at u
            cases u
          have n2 : p.1 ≠ F0 := fun y => by
            have u := (pA p hp).1.1
            rw [y, hF1] at u
            cases u
          refine ⟨⟨(upd_ne nV).trans (bt _ _ n1 n2 z.1), fun e he => ?_⟩, nV⟩
          have u := z.2 e he
          have m1 : e.1 ≠ M := fun y => by
            rw [y, eM3] at u
            cases u
          have m2 : e.1 ≠ F0 := fun y => by
            rw [y, e3] at u
            cases u
          have m3 : e.1 ≠ V0 := fun y => by
            rw [y, eV3] at u
            cases u
          exact (upd_ne m3).trans (bt _ _ m1 m2 u)
        have memN : ∀ {x : Plc}, x ∈ es.map (·.2) → x ∈ (es ++ fu).map (·.2) := fun {x} h => by
          rw [List.map_append]
          exact List.mem_append_left _ h
        refine ⟨_, ?_, some (.ref F0), v5, v6, lv ++ [la], (F0, fu), es ++ fu, rfl, rfl, ?_, Same.store s04 hV00, ?_, fun p hp => ?_, (upd_ne nVM.symm).trans eM4, nd4, re4, (fun p hp e he s hs => ?_), memN st, ?_, fun i p hi x => ?_⟩
        · rw [if_neg hla]
          by_cases hfu : fu = []
          · rw [hfu, if_pos rfl, List.append_nil]
            exact Nat.lt_succ_self _
          · rw [if_neg hfu]
            have := List.length_pos_iff.mpr hfu
            omega
        · rw [List.map_append (l₂ := [(F0, fu)]), List.flatten_append, ← ees]
          simp
        · rw [upd_same, List.map_append (l₂ := [(F0, fu)])]
          rfl
        · rcases List.mem_append.mp hp with h | h
          · exact old p h
          · cases List.mem_singleton.mp h
            refine ⟨⟨(upd_ne nFV).trans fA.1, fun e he => ?_⟩, nFV⟩
            have u := fA.2 e he
            rw [upd_ne fun y => by
              rw [y, eV4] at u
              cases u]
            exact u
        · rcases List.mem_append.mp hp with h | h
          · exact memN (cl p h e he s hs)
          · cases List.mem_singleton.mp h
            exact cl4 e he s hs
        · rw [llv, les]
          by_cases hfu : fu = []
          · rw [if_pos hfu]
            omega
          · rw [if_neg hfu]
            have := List.length_pos_iff.mpr hfu
            omega
        · by_cases hi2 : i < (lv ++ [la]).length
          · rw [List.getElem?_append_left hi2] at hi
            exact lev i p hi x
          · rw [List.getElem?_append_right (by omega)] at hi
            have e0 : i - (lv ++ [la]).length = 0 := by
              have z := (List.getElem?_eq_some_iff.mp hi).1
              have z2 : i - (lv ++ [la]).length < 1 := z
              omega
            rw [e0] at hi
            cases hi
            rw [show i = lv.length + 1 by omega, lvl_next]
            have laL : ∀ y, y ∈ la.2.map (·.2) ↔ Lvl (sucP b ns ks) q0 lv.length y := lev lv.length la (by simp)
            have esL : x ∈ es.map (·.2) ↔ ∃ j, j ≤ lv.length ∧ Lvl (sucP b ns ks) q0 j x := by
              rw [ees, flat_lvl]
              constructor
              · rintro ⟨j, p, hj, hx⟩
                have := (List.getElem?_eq_some_iff.mp hj).1
                exact ⟨j, by omega, (lev j p hj x).mp hx⟩
              · rintro ⟨j, hj, hx⟩
                have lj : j < (lv ++ [la]).length := by omega
                have ej : (lv ++ [la])[j]? = some ((lv ++ [la])[j]'lj) := by simp [lj]
                exact ⟨j, _, ej, (lev j _ ej x).mpr hx⟩
            rw [List.map_append, List.nodup_append] at nd4
            constructor
            · intro hx
              obtain ⟨e, he, hs⟩ := fr4 x hx
              refine ⟨⟨e.2, (laL e.2).mp (List.mem_map.mpr ⟨e, he, rfl⟩), hs⟩, fun j hj lx => ?_⟩
              exact nd4.2.2 x (esL.mpr ⟨j, hj, lx⟩) x hx rfl
            · rintro ⟨⟨y, hy, hs⟩, no⟩
              obtain ⟨e, he, rfl⟩ := List.mem_map.mp ((laL y).mpr hy)
              have z := cl4 e he x hs
              rw [List.map_append] at z
              rcases List.mem_append.mp z with z | z
              · obtain ⟨j, hj, lx⟩ := esL.mp z
                exact absurd lx (no j hj)
              · exact z
end
end K12
namespace K12
open PySem PySem.Spec PyProof.Rows L2 OF
abbrev sLClosed : Stmt := topS 66
/-! ### places as values -/
def nD : KeyN → PyData
  | none => .none
  | some d => .int d
def pdP (p : Plc) : PyData := .tuple [.int p.1, nD p.2]
theorem pdP_can (p : Plc) : (pdP p).canLay0 = true := by
  obtain ⟨n, k⟩ := p
  cases k <;> simp only [pdP, nD, PyData.canLay0, PyData.canLayAll0, Bool.and_true]
theorem pdP_dep (p : Plc) : (pdP p).depth ≤ 1 := by
  obtain ⟨n, k⟩ := p
  cases k <;> simp only [pdP, nD, PyData.depth, PyData.depthAll] <;> omega
theorem pdPs_can : ∀ ps : List Plc, PyData.canLayAll0 (ps.map pdP) = true ∧ PyData.depthAll (ps.map pdP) ≤ 1
  | [] => ⟨by simp only [List.map_nil, PyData.canLayAll0], by simp only [List.map_nil, PyData.depthAll]; omega⟩
  | p :: ps => by
    obtain ⟨h1, h2⟩ := pdPs_can ps
    have := pdP_dep p
    refine ⟨?_, ?_⟩
    · rw [List.map_cons, PyData.canLayAll0, h1, pdP_can]
      rfl
    · rw [List.map_cons, PyData.depthAll]
      omega
theorem pdP_shaped (p : Plc) : SeqAt.shaped (pdP p) = true := shaped_of (pdP_can p) (Nat.le_trans (pdP_dep p) (by decide))
theorem pdPs_shaped (ps : List Plc) : SeqAt.shaped (.list (ps.map pdP)) = true := by
  obtain ⟨h1, h2⟩ := pdPs_can ps
  refine shaped_of ?_ ?_
  · simp only [PyData.canLay0, h1]
  · simp only [PyData.depth]
    omega
theorem pdP_self (p : Plc) : PyData.eqv (pdP p) (pdP p) = true := SeqAt.eqv_refl _ (pdP_can p)
theorem pdPs_self (ps : List Plc) : PyData.eqv (.list (ps.map pdP)) (.list (ps.map pdP)) = true := SeqAt.eqv_refl _ (by simp only [PyData.canLay0, (pdPs_can ps).1])
section
variable {P : Program} {w : World} {K : PySem.W.Frag} {mg : Str → Option Value} {base : Heap}
theorem pdP_dp {H : Hp} {a : Addr} {p : Plc} (e : H a = some (vP p)) : Dp K H (.ref a) (pdP p) := by
  obtain ⟨n, k⟩ := p
  cases k with
  | none => exact .tup (SqT.of e) (.cons (.int _) (.cons .non .nil))
  | some d => exact .tup (SqT.of e) (.cons (.int _) (.cons (.int _) .nil))
theorem pdPs_all {H : Hp} : ∀ {as : List (Addr × Plc)}, (∀ p ∈ as, H p.1 = some (vP p.2)) → DpAll K H (as.map fun p => V.ref p.1) ((as.map (·.2)).map pdP)
  | [], _ => .nil
  | p :: as, h => .cons (pdP_dp (h p List.mem_cons_self)) (pdPs_all fun q hq => h q (List.mem_cons_of_mem _ hq))
theorem pdPs_dp {H : Hp} {L : Addr} {as : List (Addr × Plc)} (h : PlcsAt H L as) : Dp K H (.ref L) (.list ((as.map (·.2)).map pdP)) := .lst (SqL.of h.1) (pdPs_all h.2)
/-! ### the law's own look at a closed list (only at those that are closed) -/
def spLClosed : Sp := fun vs H Q _ => ∃ (m dl pl pt L : Addr) (b : Int) (ns : List Int) (ks : List (Addr × (Int × Int))) (q : Plc) (as : List (Addr × Plc)), vs = [.ref m, .ref pt, .ref L] ∧ ModAt H m dl pl b ns ks ∧ Good b ns (ks.map (·.2)) ∧ H pt = some (vP q) ∧ PlcsAt H L as ∧ as.length ≤ 100000 ∧
  (∀ p ∈ as, p.2.2 ∈ none :: ns.map some) ∧ q ∈ as.map (·.2) ∧ (∀ e ∈ as, e.2.1 ≠ 0 ∧ ∀ s ∈ sucP b ns ks e.2, s ∈ as.map (·.2)) ∧ ∀ H', Same H H' → Q (.bl true) H'
abbrev nCo : List Str := ["_law_model", "_law_place", "_law_told", "_law_held", "_law_item", "_law_new"]
theorem scCo : FnScope nCo ["_law_model", "_law_place", "_law_told"] (defScope sLClosed) := ⟨rfl, rfl, rfl, by decide +kernel, rfl, by decide +kernel, by decide +kernel⟩
theorem ok_lclosed {f fS : Addr} {fd fdS : FuncData} (F : Fun K "_law_closed" "_law_closed" sLClosed f fd)
    (GS : FnOk P w K mg base CX0 3 fS fdS ["_law_model", "_law_place"] spLSteps) (gS : mg "_law_steps" = some (.ref fS)) (kS : PySem.W.keepIn K (.ref fS) = true) (bS : Binds K fdS ["_law_model", "_law_place"] [])
    (mis : mg "isinstance" = none) (mli : mg "list" = none) : FnOk P w K mg base CX0 4 f fd ["_law_model", "_law_place", "_law_told"] spLClosed := by
  refine F.ok scCo (fun vs H Q E h => ?_) (fun cdv A outer s H vs Q E hr h => ?_)
  · obtain ⟨m, dl, pl, pt, L, b, ns, ks, q, as, rfl, _⟩ := h
    rfl
  · obtain ⟨m, dl, pl, pt, L, b, ns, ks, q0, as, rfl, MA, G, hpt, PL, las, kA, qA, cl, q⟩ := h
    have hu : A.units + 3 + 65 < cLine := by
      have := hr.un
      have e : (A.deeper (envOfC "_law_closed" (defScope sLClosed) s.heap.objs.size f cdv)).units = A.units + 3 := rfl
      omega
    apply Exists.intro
    apply And.intro
    · apply pss_cons
      · exact ps_if (PW.pt (pw_or (pt_not (pt_val (pe_callB call_isi (by rfl) mis PyProof.Rows.boot_isinstance (pa_cons (pv 2) (pa_cons (pe_bltn (v := .ty "list") (by rfl) mli PyProof.Rows.boot_list rfl) pa_nil)))))
          (pw_or1 (pt_cmpR (op_notInD hu) (pv 1) (pv 2) rfl)))) (pss_one (ps_ret pe_bl)) pss_nil
      apply pss_cons
      · exact ps_set (i := 3) scCo.nd rfl (.inr rfl) pe_dnewNT
      apply pss_cons
      · exact ps_for PassesOwn.never rfl (pi_list (pv 2)) (pg_name (i := 4) scCo.nd rfl (.inl rfl)) (pss_one (ps_asg pe_bl (pg_sub (pv 3) (pv 4) (set_dictNT (hu_of hr)) (fun _ => rfl))))
      apply pss_cons
      · exact ps_for PassesOwn.never rfl (pi_list (pv 2)) (pg_name (i := 4) scCo.nd rfl (.inl rfl)) (pss_one (ps_if (PW.pt (pw_or (pt_cmpR op_eq (pe_ix ix_tup (pv 4) pe_int (fun _ _ => rfl)) pe_int (nomark _))
          (pw_or1 (pt_cmpR (op_neNil hr.units) (pe_lc (own := [("_law_new", 5)]) (g := gName 5) (tt := tTest (tOp (rNotInNT (cxOf CX0 P w K mg base nCo "_law_closed" (defScope sLClosed) f cdv A outer s H E)) (tVar 5) (tVar 3))) (te := tVar 5) rfl scCo.nd (pi_list (pe_call GS hr (by rfl) gS kS bS .nil pass0 (pa_cons (pv 0) (pa_cons (pv 4) pa_nil))))
            (blkOk_by (own := [("_law_new", 5)]) (N := nCo) (sc := defScope sLClosed) (by decide +kernel)) (fun _ _ _ _ _ => pg_name (i := 5) scCo.nd rfl (Or.inl rfl)) (fun _ _ _ _ _ => by exact (pts_one (pt_cmpR (op_notInNT (hu_of hr)) (pv 5) (pv 3) rfl))) (fun _ _ _ _ _ => by exact (pv 5))) (pe_lst pa_nil) rfl)))) (pss_one (ps_ret pe_bl)) pss_nil))
      apply pss_one
      · exact ps_ret pe_bl
    refine ⟨.ref L, rfl, .ref L, .ty "list", .type "list", .type "list", true, rfl, .ty _, .base (.lst PL.1), kit_ty (by decide +kernel), true, rfl, ?_⟩
    refine iteF ⟨.ref pt, rfl, .ref L, rfl, pdP q0, _, pdP_dp hpt, pdPs_dp PL, pdP_shaped _, pdPs_shaped _, _, rfl, ?_⟩
    have there : (((as.map (·.2)).map pdP).any fun z => PyData.eqv z (pdP q0)) = true := List.any_eq_true.mpr ⟨pdP q0, List.mem_map.mpr ⟨q0, qA, rfl⟩, pdP_self q0⟩
    rw [there]
    refine iteF ?_
    refine fun Dh hDh => ?_
    have sD := same_new (o := dNT P w Dh []) hDh
    generalize eH3 : upd H Dh (dNT _ _ Dh []) = H3
    have eH3 : upd H Dh (dNT P w Dh []) = H3 := eH3
    rw [eH3] at sD
    have eD3 : H3 Dh = some (dNT P w Dh (kvL [])) := by rw [← eH3]; exact upd_same
    clear eH3
    refine ⟨.ref L, rfl, L, rfl, ⟨_, SqL.of (sD _ _ PL.1)⟩, for_list (K := K) (a := L) (xs := as.map fun q => V.ref q.1) (fun i σ H' => ∃ (v4 : Option V) (es : List (Addr × Plc)), σ = [some (.ref m), some (.ref pt), some (.ref L), some (.ref Dh), v4, none] ∧ Same H H' ∧ H' Dh = some (dNT P w Dh (kvL es)) ∧ es.length ≤ i ∧ (∀ e ∈ es, e ∈ as) ∧ ∀ x, x ∈ es.map (·.2) ↔ x ∈ (as.take i).map (·.2))
      ⟨none, [], rfl, sD, eD3, Nat.le_refl _, (fun e h => by cases h), fun x => .rfl⟩ (fun i σ H' _ ⟨_, _, _, s, _⟩ => SqL.of (s _ _ PL.1)) ?_ ?_⟩
    · rintro i x σ H4 hx ⟨v4, es, rfl, s4, e4, l4, in4, m4⟩
      obtain ⟨w0, hw0, rfl⟩ := get_map (f := fun q : Addr × Plc => V.ref q.1) hx
      have li : i < as.length := (List.getElem?_eq_some_iff.mp hw0).1
      have lk : (kvL es).length = es.length := List.length_map _
      refine ⟨.ref Dh, rfl, .ref w0.1, rfl, Dh, kvL es, keyP w0.2, w0.1, rfl, rfl, ⟨.inl e4, fun z hz => ?_⟩, e4, s4 _ _ (PL.2 w0 (List.mem_of_getElem? hw0)), by rw [lk]; exact big18 (by omega), ?_⟩
      · obtain ⟨e, he, rfl⟩ := List.mem_map.mp hz
        exact s4 _ _ (PL.2 e (in4 e he))
      rw [putL_kv]
      refine ⟨some (.ref w0.1), putL es w0.2 w0.1, rfl, Same.store s4 hDh, upd_same, Nat.le_trans (putL_len _ _ _) (by omega), fun e he => ?_, fun x => ?_⟩
      · rcases putL_row he with h | h
        · exact in4 e h
        · rw [h]
          exact List.mem_of_getElem? hw0
      · rw [putL_mem, m4, take_more hw0, List.map_append, List.mem_append]
        exact or_congr .rfl List.mem_singleton.symm
    rintro σ H4 ⟨v4, es, rfl, s4, e4, l4, in4, m4⟩
    rw [List.length_map] at l4 m4
    rw [List.take_length] at m4
    have ks4 : ∀ {H'' : Hp}, Same H4 H'' → DictT P w H'' Dh (kvL es) := fun {H''} s => ⟨.inl (s _ _ e4), fun z hz => by
      obtain ⟨e, he, rfl⟩ := List.mem_map.mp hz
      exact s _ _ (s4 _ _ (PL.2 e (in4 e he)))⟩
    refine ⟨.ref L, rfl, L, rfl, ⟨_, SqL.of (s4 _ _ PL.1)⟩, for_list (K := K) (a := L) (xs := as.map fun q => V.ref q.1) (fun i σ H' => ∃ v4 : Option V, σ = [some (.ref m), some (.ref pt), some (.ref L), some (.ref Dh), v4, none] ∧ Same H4 H')
      ⟨v4, rfl, Same.refl H4⟩ (fun i σ H' _ ⟨_, _, s⟩ => SqL.of (s _ _ (s4 _ _ PL.1))) ?_ ?_⟩
    · rintro i x σ H5 hx ⟨v4, rfl, s5⟩
      obtain ⟨w0, hw0, rfl⟩ := get_map (f := fun q : Addr × Plc => V.ref q.1) hx
      have mw := List.mem_of_getElem? hw0
      have tw := s5 _ _ (s4 _ _ (PL.2 w0 mw))
      have s05 := s4.trans s5
      obtain ⟨h0, hcl⟩ := cl w0 mw
      refine ⟨.ref w0.1, rfl, w0.1, _, 0, .int w0.2.1, rfl, rfl, SqT.of tw, atI_nat (j := 0) rfl, rfl, _, rfl, ?_⟩
      refine iteFB (decide_eq_false fun z => h0 (V.int.inj z)) ?_
      have hz : nV w0.2.2 = .non ∨ ∃ y, y ∈ ns ∧ nV w0.2.2 = .int y := by
        rcases List.mem_cons.mp (kA w0 mw) with e | e
        · rw [e]
          exact .inl rfl
        · obtain ⟨y, hy, e⟩ := List.mem_map.mp e
          rw [← e]
          exact .inr ⟨y, hy, rfl⟩
      refine ⟨.ref m, rfl, .ref w0.1, rfl, m, dl, pl, w0.1, b, w0.2.1, ns, ks, nV w0.2.2, rfl, MA.same s05, G, tw, hz.imp id (fun ⟨y, _, e⟩ => ⟨y, e⟩), fun L2 H6 s6 hL p6 => ?_⟩
      rw [← plc_law G rfl hz] at p6
      obtain ⟨ps, ep, eL, tp⟩ := p6
      have eSuc : sucP b ns ks w0.2 = ps.map fun s => ((s.2.1, some s.2.2) : Plc) := by
        unfold sucP leftOf
        rw [← ep, List.map_map]
        rfl
      refine ⟨L2, rfl, ⟨_, SqL.of eL⟩, fun D hD => ?_⟩
      refine lc_list (K := K) (a := L2) (xs := ps.map fun p => V.ref p.1) (fun j H' => Same H6 H' ∧ H' D = some (.lst [])) ⟨same_new hD, upd_same⟩ (fun j H' _ h => SqL.of (h.1 _ _ eL)) ?_ ?_
      · rintro j x H7 hx2 ⟨s7, e7⟩
        obtain ⟨s0, hs0, rfl⟩ := get_map (f := fun p : Addr × (Int × Int) => V.ref p.1) hx2
        have ms0 := List.mem_of_getElem? hs0
        refine ⟨rfl, .ref s0.1, rfl, .ref Dh, rfl, Dh, kvL es, keyP (s0.2.1, some s0.2.2), s0.1, rfl, rfl, ks4 (s5.trans (s6.trans s7)), s7 _ _ (tp s0 ms0), _, rfl, ?_⟩
        rw [getL_is, decide_eq_true ((m4 _).mpr (hcl _ (by rw [eSuc]; exact List.mem_map.mpr ⟨s0, ms0, rfl⟩)))]
        exact iteF ⟨s7, e7⟩
      · rintro H7 ⟨s7, e7⟩
        refine ⟨(by show 0 ≤ sizeLine; decide), fun E0 hE0 => ?_⟩
        have s8 := same_new (o := .lst []) hE0
        have e8 : upd H7 E0 (.lst []) E0 = some (.lst []) := upd_same
        generalize upd H7 E0 (.lst []) = H8 at s8 e8 ⊢
        refine ⟨D, E0, _, rfl, rfl, SqL.of (s8 _ _ e7), SqL.of e8, _, rfl, ?_⟩
        exact iteF ⟨some (.ref w0.1), rfl, s5.trans (s6.trans (s7.trans s8))⟩
    · rintro σ H5 ⟨v4, rfl, s5⟩
      exact q H5 (s4.trans s5)
end
end K12
namespace K12
open PySem PySem.Spec PyProof.Rows L2 OF
abbrev sIsRow : Stmt := topS 62
abbrev sValue : Stmt := topS 61
abbrev sNumber : Stmt := topS 65
section
variable {P : Program} {w : World} {K : PySem.W.Frag} {mg : Str → Option Value} {base : Heap}
/-- a row's value -/
def valI (b : Int) (ns : List Int) : Int := ns.foldl (fun v d => v * b + d) 0
/-! ### the law's own look at a row -/
def adjR (ps : List (Int × Int)) : List Int → Bool
  | x :: y :: l => !hasP ps x y && adjR ps (y :: l)
  | _ => true
def rowI (ns : List Int) (ps : List (Int × Int)) (ls : List Int) : Bool := ls.all (fun x => decide (x ∈ ns)) && adjR ps ls
theorem adjR_iff {ps : List (Int × Int)} : ∀ {ls : List Int}, adjR ps ls = true ↔ ∀ (i : Nat) (x y : Int), ls[i]? = some x → ls[i + 1]? = some y → hasP ps x y = false
  | [] => by
    refine ⟨fun _ i x y h => by simp at h, fun _ => rfl⟩
  | [u] => by
    refine ⟨fun _ i x y h1 h2 => ?_, fun _ => rfl⟩
    simp at h2
  | u :: v :: l => by
    unfold adjR
    rw [Bool.and_eq_true, adjR_iff (ls := v :: l)]
    constructor
    · rintro ⟨h1, h2⟩ i x y hx hy
      cases i with
      | zero =>
        cases Option.some.inj hx
        cases Option.some.inj hy
        cases e : hasP ps u v with
        | false => rfl
        | true => rw [e] at h1; cases h1
      | succ i => exact h2 i x y hx hy
    · intro h
      refine ⟨?_, fun i x y hx hy => h (i + 1) x y hx hy⟩
      rw [h 0 u v rfl rfl]
      rfl
theorem row_same {ns : List Int} {ks : List (Addr × (Int × Int))} {ps : List (Int × Int)} (hk : ks.map (·.2) = ps) (dg : ∀ n ∈ ns, dig n = true) : ∀ ls : List Int, rowB ns ks (ls.map V.int) = rowI ns ps ls := by
  have one : ∀ x : Int, isOne ns x = decide (x ∈ ns) := fun x => by
    unfold isOne
    by_cases h : x ∈ ns
    · rw [dg x h, Bool.true_and]
    · rw [decide_eq_false h, Bool.and_false]
  have bar : ∀ x y : Int, hasBar ks x y = hasP ps x y := fun x y => by
    unfold hasBar hasP
    rw [← hk, List.map_map]
    rfl
  intro ls
  induction ls with
  | nil => rfl
  | cons x l ih =>
    cases l with
    | nil =>
      show (isOne ns x && true) = ((decide (x ∈ ns) && true) && true)
      rw [one, Bool.and_true, Bool.and_true]
    | cons y l =>
      have e1 : rowB ns ks ((x :: y :: l).map V.int) = ((isOne ns x && (isOne ns y && !hasBar ks x y)) && rowB ns ks ((y :: l).map V.int)) := rfl
      rw [e1, ih, one, one, bar]
      show ((decide (x ∈ ns) && (decide (y ∈ ns) && !hasP ps x y)) && ((decide (y ∈ ns) && l.all fun x => decide (x ∈ ns)) && adjR ps (y :: l))) = ((decide (x ∈ ns) && (decide (y ∈ ns) && l.all fun x => decide (x ∈ ns))) && (!hasP ps x y && adjR ps (y :: l)))
      cases decide (x ∈ ns) <;> cases decide (y ∈ ns) <;> cases hasP ps x y <;> cases (l.all fun x => decide (x ∈ ns)) <;> cases adjR ps (y :: l) <;> rfl
def spIsRow : Sp := fun vs H Q _ => ∃ (m dl pl p : Addr) (b : Int) (ns ls : List Int) (ks : List (Addr × (Int × Int))), vs = [.ref m, .ref p] ∧ ModAt H m dl pl b ns ks ∧ H p = some (.tup (ls.map V.int)) ∧ ls.length ≤ 100000 ∧
  ∀ H', Same H H' → Q (.bl (rowI ns (ks.map (·.2)) ls)) H'
abbrev nIrw : List Str := ["_law_model", "_law_row", "_law_digit", "_law_k"]
theorem scIrw : FnScope nIrw ["_law_model", "_law_row"] (defScope sIsRow) := ⟨rfl, rfl, rfl, by decide +kernel, rfl, by decide +kernel, by decide +kernel⟩
theorem in_list_ints (n : Int) (ds : List Int) : inV (.int n) (ds.map V.int) = decide (n ∈ ds) := in_ints n ds
set_option maxHeartbeats 2000000 in
theorem ok_isrow {f : Addr} {fd : FuncData} (F : Fun K "_law_is_row" "_law_is_row" sIsRow f fd) (ml : mg "len" = none) (mr : mg "range" = none) : FnOk P w K mg base CX0 1 f fd ["_law_model", "_law_row"] spIsRow := by
  refine F.ok scIrw (fun vs H Q E h => ?_) (fun cdv A outer s H vs Q E hr h => ?_)
  · obtain ⟨m, dl, pl, p, b, ns, ls, ks, rfl, _⟩ := h
    rfl
  · obtain ⟨m, dl, pl, p, b, ns, ls, ks, rfl, M, hp, hl, q⟩ := h
    have hu : A.units + 3 + 65 < cLine := by
      have := hr.un
      have e : (A.deeper (envOfC "_law_is_row" (defScope sIsRow) s.heap.objs.size f cdv)).units = A.units + 3 := rfl
      omega
    apply Exists.intro
    apply And.intro
    · apply pss_cons
      · exact ps_if (pt_cmpR (op_neD hr.units) (pe_lc (own := [("_law_digit", 2)]) (g := gName 2) (tt := tTest (tOp (rIn K true) (tVar 2) (tOp (rIxL K) (tVar 0) (tC (.int 1))))) (te := tVar 2) rfl scIrw.nd (pi_tup (pv 1)) (blkOk_by (own := [("_law_digit", 2)]) (N := nIrw) (sc := defScope sIsRow) (by decide +kernel)) (fun _ _ _ _ _ => pg_name (i := 2) scIrw.nd rfl (Or.inl rfl))
            (fun _ _ _ _ _ => by exact (pts_one (pt_cmpR op_notIn_seq (pv 2) (pe_ix ix_list (pv 0) pe_int (fun _ _ => rfl)) rfl))) (fun _ _ _ _ _ => by exact (pv 2))) (pe_lst pa_nil) (nomark _)) (pss_one (ps_ret pe_bl)) pss_nil
      apply pss_one
      · exact ps_ret (pe_cmpR (op_eqD hr.units) (pe_lc (own := [("_law_k", 3)]) (g := gName 3) (tt := tTest (tOp (rInD K) (tTup (tCons (tOp (rIxT K) (tVar 1) (tOp (rI0 fun i j => .int (i - j)) (tVar 3) (tC (.int 1)))) (tCons (tOp (rIxT K) (tVar 1) (tVar 3)) tNil))) (tOp (rIxL K) (tVar 0) (tC (.int 2))))) (te := tVar 3) rfl scIrw.nd (pi_range2 rfl mr (pa_cons pe_int (pa_cons (pe_callB call_len_seq (by rfl) ml PySem.boot_len (pa_cons (pv 1) pa_nil)) pa_nil))) (blkOk_by (own := [("_law_k", 3)]) (N := nIrw) (sc := defScope sIsRow) (by decide +kernel)) (fun _ _ _ _ _ => pg_name (i := 3) scIrw.nd rfl (Or.inl rfl))
            (fun _ _ _ _ _ => by exact (pts_one (pt_cmpR (op_inD hu) (pe_tup (pa_cons (pe_ix ix_tup (pv 1) (pe_op op_sub (pv 3) pe_int) (fun _ _ => rfl)) (pa_cons (pe_ix ix_tup (pv 1) (pv 3) (fun _ _ => rfl)) pa_nil))) (pe_ix ix_list (pv 0) pe_int (fun _ _ => rfl)) rfl))) (fun _ _ _ _ _ => by exact (pv 3))) (pe_lst pa_nil) (nomark _))
    refine ⟨.ref p, rfl, p, rfl, ⟨_, SqT.of hp⟩, fun D hD => ?_⟩
    refine lc_tup (K := K) (a := p) (xs := ls.map V.int) (fun i H' => Same H H' ∧ H' D = some (.lst (((ls.take i).filter fun x => !decide (x ∈ ns)).map V.int))) ⟨same_new hD, upd_same⟩ (fun i H' _ h => SqT.of (h.1 _ _ hp)) ?_ ?_
    · rintro i x H1 hx ⟨s1, e1⟩
      obtain ⟨n, hn, rfl⟩ := get_map hx
      have M1 := M.same s1
      refine ⟨rfl, .int n, rfl, .ref m, rfl, m, _, 1, .ref dl, rfl, rfl, SqL.of M1.mo, atI_nat (j := 1) rfl, dl, _, rfl, .inl (SqL.of M1.di), rfl, flat_ints ns, _, rfl, ?_⟩
      have ein : inV (.int n) (ns.map V.int) = decide (n ∈ ns) := in_ints n ns
      rw [if_pos rfl, ein]
      by_cases hin : n ∈ ns
      · rw [decide_eq_true hin]
        refine iteF ⟨s1, ?_⟩
        rw [take_more hn, List.filter_append]
        rw [e1]
        simp [hin]
      · rw [decide_eq_false hin]
        refine iteT ⟨.int n, rfl, _, e1, ?_, Same.store s1 hD, ?_⟩
        · rw [List.length_map]
          refine Nat.lt_of_le_of_lt (Nat.le_trans (List.length_filter_le _ _) (List.length_take_le' _ _)) (by unfold sizeLine; omega)
        · rw [upd_same, take_more hn, List.filter_append, List.map_append]
          simp [hin]
    · rintro H1 ⟨s1, e1⟩
      rw [List.length_map, List.take_length] at e1
      refine ⟨(by show 0 ≤ sizeLine; decide), fun l0 hl0 => ?_⟩
      have s2 := same_new (o := .lst []) hl0
      refine ⟨.list ((ls.filter fun x => !decide (x ∈ ns)).map .int), .list [], .lst (SqL.of (s2 _ _ e1)) (dp_ints _), .lst (SqL.of upd_same) .nil, ints_shapedL _, nil_shaped, _, rfl, ?_⟩
      rw [eqv_nilL]
      have sA := s1.trans s2
      cases hf : ls.all (fun x => decide (x ∈ ns)) with
      | false =>
        have ne : (ls.filter fun x => !decide (x ∈ ns)).isEmpty = false := by
          rw [Bool.eq_false_iff]
          intro z
          have z2 := List.isEmpty_iff.mp z
          have : ls.all (fun x => decide (x ∈ ns)) = true := List.all_eq_true.mpr fun x hx => by
            cases hd : decide (x ∈ ns) with
            | true => rfl
            | false =>
              have : x ∈ ls.filter fun x => !decide (x ∈ ns) := List.mem_filter.mpr ⟨hx, by rw [hd]; rfl⟩
              rw [z2] at this
              cases this
          rw [this] at hf
          cases hf
        refine iteTB (by rw [List.isEmpty_map, ne]; rfl) ?_
        have z := q _ sA
        unfold rowI at z
        rw [hf, Bool.false_and] at z
        exact z
      | true =>
        have ne : (ls.filter fun x => !decide (x ∈ ns)) = [] := by
          rw [List.filter_eq_nil_iff]
          intro x hx
          rw [List.all_eq_true.mp hf x hx]
          decide
        refine iteFB (by rw [ne]; rfl) ?_
        generalize upd H1 l0 (.lst []) = H2 at sA ⊢
        refine ⟨.ref p, rfl, p, _, rfl, .inr (SqT.of (sA _ _ hp)), 1, ((ls.map V.int).length : Int), rfl, ⟨by decide, by decide, by rw [List.length_map]; omega, by rw [List.length_map]; omega⟩, fun D2 hD2 => ?_⟩
        refine lc_range (lo := 1) (n := (((ls.map V.int).length : Int) - 1).toNat) (fun i H' => Same H2 H' ∧ ∃ is : List Int, H' D2 = some (.lst (is.map V.int)) ∧ is.length ≤ i ∧ (is = [] ↔ ∀ (j : Nat) (x y : Int), j < i → ls[j]? = some x → ls[j + 1]? = some y → hasP (ks.map (·.2)) x y = false)) ⟨same_new hD2, [], upd_same, Nat.le_refl _, ⟨fun _ j x y h => by omega, fun _ => rfl⟩⟩ ?_ ?_
        · rintro i H3 hi ⟨s3, is, e3, l3, iff3⟩
          rw [List.length_map] at hi
          have hi1 : i + 1 < ls.length := by omega
          have hi0 : i < ls.length := by omega
          have sB := sA.trans s3
          have hp3 := sB _ _ hp
          have g0 : (ls.map V.int)[i]? = some (.int ls[i]) := by rw [List.getElem?_map, List.getElem?_eq_getElem hi0]; rfl
          have g1 : (ls.map V.int)[i + 1]? = some (.int ls[i + 1]) := by rw [List.getElem?_map, List.getElem?_eq_getElem hi1]; rfl
          have q0 : (1 + (i : Int)) - 1 = ((i : Nat) : Int) := by omega
          have q1 : (1 + (i : Int)) = ((i + 1 : Nat) : Int) := by omega
          refine ⟨rfl, .ref p, rfl, .int (1 + i), rfl, 1 + i, 1, rfl, rfl, p, _, (1 + (i : Int)) - 1, .int ls[i], rfl, rfl, SqT.of hp3, (by rw [q0]; exact atI_nat g0), .ref p, rfl, .int (1 + i), rfl, p, _, 1 + i, .int ls[i + 1], rfl, rfl, SqT.of hp3, (by rw [q1]; exact atI_nat g1), (by show 2 ≤ sizeLine; decide), fun T hT => ?_⟩
          have s4 := same_new (o := .tup [.int ls[i], .int ls[i + 1]]) hT
          have M4 := M.same (sB.trans s4)
          refine ⟨.ref m, rfl, m, _, 2, .ref pl, rfl, rfl, SqL.of M4.mo, atI_nat (j := 2) rfl, pd2 (ls[i], ls[i + 1]), (ks.map (·.2)).map pd2, .tup (SqT.of upd_same) (.cons (.int _) (.cons (.int _) .nil)), ps_dp rfl M4.pa M4.pr, pd2_shaped _, ps_shaped rfl, _, rfl, ?_⟩
          have e4 := s4 _ _ e3
          cases hh : hasP (ks.map (·.2)) ls[i] ls[i + 1] with
          | false =>
            refine iteFB hh ⟨s3.trans s4, is, e4, by omega, ?_⟩
            rw [iff3]
            constructor
            · intro z j x y hj hx hy
              rcases Nat.lt_or_ge j i with hlt | hge
              · exact z j x y hlt hx hy
              · have e : j = i := by omega
                subst e
                rw [List.getElem?_eq_getElem hi0] at hx
                rw [List.getElem?_eq_getElem hi1] at hy
                cases Option.some.inj hx
                cases Option.some.inj hy
                exact hh
            · intro z j x y hj hx hy
              exact z j x y (by omega) hx hy
          | true =>
            refine iteTB hh ⟨.int (1 + i), rfl, _, e4, ?_, Same.store (s3.trans s4) hD2, is ++ [1 + (i : Int)], ?_, ?_, ?_⟩
            · rw [List.length_map]
              unfold sizeLine
              omega
            · rw [upd_same, List.map_append]
              rfl
            · rw [List.length_append]
              show is.length + 1 ≤ i + 1
              omega
            · constructor
              · intro z
                exact absurd z (by simp)
              · intro z
                have := z i _ _ (by omega) (List.getElem?_eq_getElem hi0) (List.getElem?_eq_getElem hi1)
                rw [this] at hh
                cases hh
        · rintro H3 ⟨s3, is, e3, l3, iff3⟩
          rw [List.length_map] at iff3
          refine ⟨(by show 0 ≤ sizeLine; decide), fun l1 hl1 => ?_⟩
          have s4 := same_new (o := .lst []) hl1
          refine ⟨.list (is.map .int), .list [], .lst (SqL.of (s4 _ _ e3)) (dp_ints _), .lst (SqL.of upd_same) .nil, ints_shapedL _, nil_shaped, ?_⟩
          rw [eqv_nilL, List.isEmpty_map]
          have z := q _ (sA.trans (s3.trans s4))
          have eb : is.isEmpty = adjR (ks.map (·.2)) ls := by
            rw [Bool.eq_iff_iff, List.isEmpty_iff, iff3, adjR_iff]
            constructor
            · intro z j x y hx hy
              have := (List.getElem?_eq_some_iff.mp hy).1
              exact z j x y (by omega) hx hy
            · intro z j x y _ hx hy
              exact z j x y hx hy
          unfold rowI at z
          rw [hf, Bool.true_and] at z
          rw [eb]
          exact z
/-! ### the law's own value -/
def spValue : Sp := fun vs H Q _ => ∃ (b : Int) (p : Addr) (ns : List Int), vs = [.int b, .ref p] ∧ H p = some (.tup (ns.map V.int)) ∧ b.natAbs ≤ 6 ∧ Q (.int (valI b ns)) H
abbrev nVa : List Str := ["_law_base", "_law_row", "_law_total", "_law_digit"]
theorem scVa : FnScope nVa ["_law_base", "_law_row"] (defScope sValue) := ⟨rfl, rfl, rfl, by decide +kernel, rfl, by decide +kernel, by decide +kernel⟩
theorem ok_value {f : Addr} {fd : FuncData} (F : Fun K "_law_value" "_law_value" sValue f fd) : FnOk P w K mg base CX0 1 f fd ["_law_base", "_law_row"] spValue := by
  refine F.ok scVa (fun vs H Q E h => ?_) (fun cdv A outer s H vs Q E hr h => ?_)
  · obtain ⟨b, p, ns, rfl, _⟩ := h
    rfl
  · obtain ⟨b, p, ns, rfl, hp, hb, q⟩ := h
    refine ⟨_, pss_cons (ps_set (i := 2) scVa.nd rfl (.inl rfl) pe_int) (pss_cons (ps_for PassesOwn.never rfl (pi_tup (pv 1)) (pg_name (i := 3) scVa.nd rfl (.inl rfl)) (pss_one (ps_set (i := 2) scVa.nd rfl (.inl rfl) (pe_op op_add (pe_op op_mul (pv 2) (pv 0)) (pv 3))))) (pss_one (ps_ret (pv 2)))), ?_⟩
    refine ⟨.ref p, rfl, p, rfl, ⟨_, SqT.of hp⟩, for_tup (K := K) (a := p) (xs := ns.map V.int) (fun i σ H2 => (∃ v, σ = [some (.int b), some (.ref p), some (.int (valI b (ns.take i))), v]) ∧ H2 = H) ⟨⟨none, rfl⟩, rfl⟩ (fun i σ H2 _ h => by rw [h.2]; exact SqT.of hp) ?_ ?_⟩
    · rintro i x σ H2 hx ⟨⟨v, rfl⟩, rfl⟩
      obtain ⟨n, hn, rfl⟩ := get_map hx
      refine ⟨_, rfl, .int b, rfl, _, _, rfl, rfl, .inr ⟨by omega, by omega⟩, .int n, rfl, _, _, rfl, rfl, ⟨some (.int n), ?_⟩, rfl⟩
      rw [take_more hn]
      unfold valI
      rw [List.foldl_append]
      rfl
    · rintro σ H2 ⟨⟨v, rfl⟩, rfl⟩
      rw [List.length_map, List.take_length]
      exact ⟨_, rfl, q⟩

/-- what may stand right of a row's end -/
def nextOk (ps : List (Int × Int)) (ls : List Int) (x : Int) : Prop := ∀ y, ls.getLast? = some y → hasP ps y x = false
theorem adj_push {ps : List (Int × Int)} : ∀ {ls : List Int} {x : Int}, adjR ps ls = true → nextOk ps ls x → adjR ps (ls ++ [x]) = true
  | [], x, _, _ => rfl
  | [u], x, _, n => by
    show (!hasP ps u x && true) = true
    rw [n u rfl]
    rfl
  | u :: v :: l, x, h, n => by
    show (!hasP ps u v && adjR ps ((v :: l) ++ [x])) = true
    have h2 : (!hasP ps u v && adjR ps (v :: l)) = true := h
    rw [Bool.and_eq_true] at h2
    rw [h2.1, adj_push h2.2 fun y e => n y (by rw [List.getLast?_cons_cons]; exact e)]
    rfl
theorem rowI_of {ns : List Int} {ps : List (Int × Int)} {ls : List Int} (h : ∀ x ∈ ls, x ∈ ns) (a : adjR ps ls = true) : rowI ns ps ls = true := by
  unfold rowI
  rw [a, Bool.and_true, List.all_eq_true]
  exact fun x hx => decide_eq_true (h x hx)
/-! ### a number, drawn -/
def spNumber : Sp := fun vs H Q _ => ∃ (a : Addr) (n : Int), vs = [.ref a] ∧ Box n H a ∧ n ≤ 900000 ∧ ∀ (v : Int) (H' : Hp), But a H H' → Box (n + 10) H' a → v.natAbs < 10 ^ 30 → Q (.int v) H'
abbrev nNu : List Str := ["_law_box_here", "_law_amount"]
theorem scNu : FnScope nNu ["_law_box_here"] (defScope sNumber) := ⟨rfl, rfl, rfl, by decide +kernel, rfl, by decide +kernel, by decide +kernel⟩
theorem ok_number {f fT : Addr} {fd fdT : FuncData} (F : Fun K "_law_number" "_law_number" sNumber f fd) (FT : Fun K "_law_take" "_law_take" sTake fT fdT) (gT : mg "_law_take" = some (.ref fT)) (bT : Binds K fdT ["_law_box_here", "_law_many"] [])
    (mi : mg "int" = none) : FnOk P w K mg base CX0 2 f fd ["_law_box_here"] spNumber := by
  have GT : FnOk P w K mg base CX0 1 fT fdT ["_law_box_here", "_law_many"] spTake := ok_take FT mi
  refine F.ok scNu (fun vs H Q E h => ?_) (fun cdv A outer s H vs Q E hr h => ?_)
  · obtain ⟨a, n, rfl, _⟩ := h
    rfl
  · obtain ⟨a, n, rfl, hB, hn, q⟩ := h
    apply Exists.intro
    apply And.intro
    · apply pss_cons
      · exact ps_set (i := 1) scNu.nd rfl (.inl rfl) (pe_ix ix_list (pe_lst (pa_cons (pe_call GT hr (by rfl) gT FT.kp bT .nil pass0 (pa_cons (pv 0) (pa_cons pe_int pa_nil))) (pa_cons (pe_call GT hr (by rfl) gT FT.kp bT .nil pass0 (pa_cons (pv 0) (pa_cons pe_int pa_nil))) (pa_cons (pe_call GT hr (by rfl) gT FT.kp bT .nil pass0 (pa_cons (pv 0) (pa_cons (pe_op op_pow pe_int pe_int) pa_nil))) pa_nil)))) (pe_ix ix_list (pe_lst (pa_cons pe_int (pa_cons pe_int (pa_cons pe_int (pa_cons pe_int (pa_cons pe_int pa_nil)))))) (pe_call GT hr (by rfl) gT FT.kp bT .nil pass0 (pa_cons (pv 0) (pa_cons pe_int pa_nil))) (fun _ _ => rfl)) (fun _ _ => rfl))
      apply pss_one
      · exact ps_ret (pe_ix ix_list (pe_lst (pa_cons (pv 1) (pa_cons (pe_un un_neg (pv 1)) pa_nil))) (pe_call GT hr (by rfl) gT FT.kp bT .nil pass0 (pa_cons (pv 0) (pa_cons pe_int pa_nil))) (fun _ _ => rfl))
    refine ⟨.ref a, rfl, a, 12, n, rfl, hB, by omega, by decide, by decide, fun r1 H1 x0 x1 t1 B1 => ?_⟩
    refine ⟨.ref a, rfl, a, 400, n + 1, rfl, B1, by omega, by decide, by decide, fun r2 H2 y0 y1 t2 B2 => ?_⟩
    refine ⟨.ref a, rfl, 10, 30, rfl, rfl, ⟨by decide, by decide, by decide⟩, a, 10 ^ 30, n + 1 + 1, rfl, B2, by omega, by decide, by decide, fun r3 H3 z0 z1 t3 B3 => ?_⟩
    have T3 := t1.trans (t2.trans t3)
    refine ⟨(by show 3 ≤ sizeLine; decide), fun L1 hL1 => ?_⟩
    have T4 := T3.trans (But.new (o := .lst [.int r1, .int r2, .int r3]) hL1)
    have B4 := B3.new (o := .lst [.int r1, .int r2, .int r3]) hL1
    have e4 : (upd H3 L1 (.lst [.int r1, .int r2, .int r3])) L1 = some (.lst [.int r1, .int r2, .int r3]) := upd_same
    have n1 := B3.ne hL1
    generalize upd H3 L1 (.lst [.int r1, .int r2, .int r3]) = H4 at T4 B4 e4 ⊢
    refine ⟨(by show 5 ≤ sizeLine; decide), fun L2_ hL2 => ?_⟩
    have T5 := T4.trans (But.new (o := .lst [.int 0, .int 0, .int 1, .int 1, .int 2]) hL2)
    have B5 := B4.new (o := .lst [.int 0, .int 0, .int 1, .int 1, .int 2]) hL2
    have e5 : (upd H4 L2_ (.lst [.int 0, .int 0, .int 1, .int 1, .int 2])) L2_ = some (.lst [.int 0, .int 0, .int 1, .int 1, .int 2]) := upd_same
    have e4 := same_new (o := .lst [.int 0, .int 0, .int 1, .int 1, .int 2]) hL2 _ _ e4
    have n2 := B4.ne hL2
    generalize upd H4 L2_ (.lst [.int 0, .int 0, .int 1, .int 1, .int 2]) = H5 at T5 B5 e5 e4 ⊢
    refine ⟨.ref a, rfl, a, 5, n + 1 + 1 + 1, rfl, B5, by omega, by decide, by decide, fun k H6 k0 k1 t6 B6 => ?_⟩
    have e5 := t6 _ _ n2 e5
    have e4 := t6 _ _ n1 e4
    have T6 := T5.trans t6
    obtain ⟨j, hj, gj⟩ : ∃ j : Int, 0 ≤ j ∧ j < 3 ∧ atI [V.int 0, .int 0, .int 1, .int 1, .int 2] k = some (.int j) := by
      have : k = 0 ∨ k = 1 ∨ k = 2 ∨ k = 3 ∨ k = 4 := by omega
      rcases this with rfl | rfl | rfl | rfl | rfl
      · exact ⟨0, by decide, by decide, rfl⟩
      · exact ⟨0, by decide, by decide, rfl⟩
      · exact ⟨1, by decide, by decide, rfl⟩
      · exact ⟨1, by decide, by decide, rfl⟩
      · exact ⟨2, by decide, by decide, rfl⟩
    obtain ⟨j3, gk⟩ := gj
    obtain ⟨v, vb, gv⟩ : ∃ v : Int, v.natAbs < 10 ^ 30 ∧ atI [V.int r1, .int r2, .int r3] j = some (.int v) := by
      have c60 : (10 : Int) ^ 30 = 1000000000000000000000000000000 := by decide
      have d60 : (10 : Nat) ^ 30 = 1000000000000000000000000000000 := by decide
      rw [c60] at z1
      rw [d60]
      have : j = 0 ∨ j = 1 ∨ j = 2 := by omega
      rcases this with rfl | rfl | rfl
      · exact ⟨r1, by omega, rfl⟩
      · exact ⟨r2, by omega, rfl⟩
      · exact ⟨r3, by omega, rfl⟩
    refine ⟨L2_, _, k, .int j, rfl, rfl, SqL.of e5, gk, L1, _, j, .int v, rfl, rfl, SqL.of e4, gv, ?_⟩
    refine ⟨.int v, rfl, .int v, rfl, v, rfl, (by show 2 ≤ sizeLine; decide), fun L3 hL3 => ?_⟩
    have T7 := T6.trans (But.new (o := .lst [.int v, .int (-v)]) hL3)
    have B7 := B6.new (o := .lst [.int v, .int (-v)]) hL3
    have e7 : (upd H6 L3 (.lst [.int v, .int (-v)])) L3 = some (.lst [.int v, .int (-v)]) := upd_same
    have n3 := B6.ne hL3
    generalize upd H6 L3 (.lst [.int v, .int (-v)]) = H7 at T7 B7 e7 ⊢
    refine ⟨.ref a, rfl, a, 2, n + 1 + 1 + 1 + 1, rfl, B7, by omega, by decide, by decide, fun g H8 g0 g1 t8 B8 => ?_⟩
    have e8 := t8 _ _ n3 e7
    have : g = 0 ∨ g = 1 := by omega
    rcases this with rfl | rfl
    · exact ⟨L3, _, 0, .int v, rfl, rfl, SqL.of e8, rfl, q v H8 (T7.trans t8) (B8.mono (by omega)) vb⟩
    · exact ⟨L3, _, 1, .int (-v), rfl, rfl, SqL.of e8, rfl, q (-v) H8 (T7.trans t8) (B8.mono (by omega)) (by rw [Int.natAbs_neg]; exact vb)⟩
end
end K12
namespace K12
open PySem PySem.Spec PyProof.Rows L2 OF
abbrev sRowRight : Stmt := topS 67
section
variable {P : Program} {w : World} {K : PySem.W.Frag} {mg : Str → Option Value} {base : Heap}
theorem eqv_nilT : ∀ is : List Int, PyData.eqv (.tuple (is.map PyData.int)) (.tuple []) = is.isEmpty
  | [] => by decide +kernel
  | i :: is => by
    simp only [PyData.eqv, List.map_cons, PyData.eqvAll]
    rfl
/-- the law's own look at a row (only at those that are right) -/
def spRowRight : Sp := fun vs H Q _ => ∃ (m dl pl tp : Addr) (b n : Int) (k : KeyN) (ns ls : List Int) (ks : List (Addr × (Int × Int))), vs = [.ref m, .int n, nV k, .ref tp, .int ls.length] ∧ ModAt H m dl pl b ns ks ∧ b.natAbs ≤ 6 ∧ H tp = some (.tup (ls.map V.int)) ∧ ls.length ≤ 100000 ∧
  rowI ns (ks.map (·.2)) ls = true ∧ valI b ls = n ∧ (∀ d, ls.getLast? = some d → fitsB (ks.map (·.2)) d (nV k) = true) ∧ ∀ H', Same H H' → Q (.bl true) H'
abbrev nRr : List Str := ["_law_model", "_law_amount", "_law_beside", "_law_row", "_law_size", "_law_digit"]
theorem scRr : FnScope nRr ["_law_model", "_law_amount", "_law_beside", "_law_row", "_law_size"] (defScope sRowRight) := ⟨rfl, rfl, rfl, by decide +kernel, rfl, by decide +kernel, by decide +kernel⟩
theorem ok_rowright {f fI fV fF : Addr} {fd fdI fdV fdF : FuncData} (F : Fun K "_law_row_right" "_law_row_right" sRowRight f fd)
    (GI : FnOk P w K mg base CX0 1 fI fdI ["_law_model", "_law_row"] spIsRow) (gI : mg "_law_is_row" = some (.ref fI)) (kI : PySem.W.keepIn K (.ref fI) = true) (bI : Binds K fdI ["_law_model", "_law_row"] [])
    (GV : FnOk P w K mg base CX0 1 fV fdV ["_law_base", "_law_row"] spValue) (gV : mg "_law_value" = some (.ref fV)) (kV : PySem.W.keepIn K (.ref fV) = true) (bV : Binds K fdV ["_law_base", "_law_row"] [])
    (GF : FnOk P w K mg base CX0 2 fF fdF ["_law_model", "_law_left", "_law_beside"] spFits) (gF : mg "_law_fits" = some (.ref fF)) (kF : PySem.W.keepIn K (.ref fF) = true) (bF : Binds K fdF ["_law_model", "_law_left", "_law_beside"] [])
    (mis : mg "isinstance" = none) (mt : mg "tuple" = none) (mb : mg "bool" = none) (ml : mg "len" = none) : FnOk P w K mg base CX0 3 f fd ["_law_model", "_law_amount", "_law_beside", "_law_row", "_law_size"] spRowRight := by
  refine F.ok scRr (fun vs H Q E h => ?_) (fun cdv A outer s H vs Q E hr h => ?_)
  · obtain ⟨m, dl, pl, tp, b, n, k, ns, ls, ks, rfl, _⟩ := h
    rfl
  · obtain ⟨m, dl, pl, tp, b, n, k, ns, ls, ks, rfl, MA, b6, hT, hl, hrow, hval, hfit, q⟩ := h
    have hr1 : Room 1 _ := hr.mono (by decide)
    apply Exists.intro
    apply And.intro
    · apply pss_cons
      · exact ps_if (PW.pt (pw_or (pt_not (pt_val (pe_callB call_isi (by rfl) mis PyProof.Rows.boot_isinstance (pa_cons (pv 3) (pa_cons (pe_bltn (v := .ty "tuple") (by rfl) mt (by decide +kernel) rfl) pa_nil)))))
          (pw_or (pt_cmpR op_ne (pe_callB call_len_seq (by rfl) ml PySem.boot_len (pa_cons (pv 3) pa_nil)) (pv 4) (nomark _)) (pw_or1 (pt_not (pt_val (pe_call GI hr1 (by rfl) gI kI bI .nil pass0 (pa_cons (pv 0) (pa_cons (pv 3) pa_nil))))))))) (pss_one (ps_ret pe_bl)) pss_nil
      apply pss_cons
      · exact ps_if (pt_cmpR (op_neD hr.units) (pe_lc (own := [("_law_digit", 5)]) (g := gName 5) (tt := tB (tCB (rIsi K) (tCons (tVar 5) (tCons (tC (.ty "bool")) tNil)))) (te := tVar 5) rfl scRr.nd (pi_tup (pv 3)) (blkOk_by (own := [("_law_digit", 5)]) (N := nRr) (sc := defScope sRowRight) (by decide +kernel)) (fun _ _ _ _ _ => pg_name (i := 5) scRr.nd rfl (Or.inl rfl))
            (fun _ _ _ _ _ => by exact (pts_one (pt_val (pe_callB call_isi (by rfl) mis PyProof.Rows.boot_isinstance (pa_cons (pv 5) (pa_cons (pe_bltn (v := .ty "bool") (by rfl) mb PyProof.Rows.boot_bool rfl) pa_nil)))))) (fun _ _ _ _ _ => by exact (pv 5))) (pe_lst pa_nil) (nomark _)) (pss_one (ps_ret pe_bl)) pss_nil
      apply pss_one
      · exact ps_ret (pe_and (pe_cmpR op_eq (pe_call GV hr1 (by rfl) gV kV bV .nil pass0 (pa_cons (pe_ix ix_list (pv 0) pe_int (fun _ _ => rfl)) (pa_cons (pv 3) pa_nil))) (pv 1) (nomark _))
          (pe_one (pe_or (pe_cmpR (op_eqD hr.units) (pv 3) (pe_tup pa_nil) (nomark _)) (pe_one (pe_call GF hr (by rfl) gF kF bF .nil pass0 (pa_cons (pv 0) (pa_cons (pe_ix ix_tup (pv 3) (pe_un un_neg pe_int) (fun _ _ => rfl)) (pa_cons (pv 2) pa_nil))))))))
    refine ⟨.ref tp, rfl, .ref tp, .ty "tuple", .type "tuple", .type "tuple", true, rfl, .ty _, .base (.tup hT), kit_ty (by decide +kernel), true, rfl, ?_⟩
    refine iteF ⟨.ref tp, rfl, tp, _, rfl, .inr (SqT.of hT), .int ls.length, rfl, rfl, _, rfl, ?_⟩
    refine iteFB (by rw [List.length_map]; exact neSame rfl) ?_
    refine ⟨.ref m, rfl, .ref tp, rfl, m, dl, pl, tp, b, ns, ls, ks, rfl, MA, hT, hl, fun H1 s1 => ?_⟩
    rw [hrow]
    refine ⟨true, rfl, iteF ?_⟩
    have hT1 := s1 _ _ hT
    refine ⟨.ref tp, rfl, tp, rfl, ⟨_, SqT.of hT1⟩, fun D hD => ?_⟩
    refine lc_tup (K := K) (a := tp) (xs := ls.map V.int) (fun i H' => Same H1 H' ∧ H' D = some (.lst [])) ⟨same_new hD, upd_same⟩ (fun i H' _ h => SqT.of (h.1 _ _ hT1)) ?_ ?_
    · rintro i x H2 hx ⟨s2, e2⟩
      obtain ⟨d, hd, rfl⟩ := get_map hx
      exact ⟨rfl, .int d, rfl, .int d, .ty "bool", .type "int", .type "bool", false, rfl, .ty _, .base (.int d), kit_ty (by decide +kernel), false, rfl, iteF ⟨s2, e2⟩⟩
    rintro H2 ⟨s2, e2⟩
    refine ⟨(by show 0 ≤ sizeLine; decide), fun E0 hE0 => ?_⟩
    have s3 := same_new (o := .lst []) hE0
    have e3 : upd H2 E0 (.lst []) E0 = some (.lst []) := upd_same
    generalize upd H2 E0 (.lst []) = H3 at s3 e3 ⊢
    refine ⟨.list [], .list [], .lst (SqL.of (s3 _ _ e2)) .nil, .lst (SqL.of e3) .nil, nil_shaped, nil_shaped, _, rfl, ?_⟩
    refine iteFB (by rw [show PyData.eqv (.list []) (.list []) = true from SeqAt.eqv_refl _ (by decide +kernel)]; rfl) ?_
    have sA := s1.trans (s2.trans s3)
    have M3 := MA.same sA
    have hT3 := sA _ _ hT
    refine ⟨.ref m, rfl, m, _, 0, .int b, rfl, rfl, SqL.of M3.mo, atI_nat (j := 0) rfl, .ref tp, rfl, b, tp, ls, rfl, hT3, b6, .int n, rfl, rfl, ?_⟩
    refine ⟨_, rfl, iteTB (decide_eq_true (congrArg V.int hval)) ?_⟩
    refine ⟨.ref tp, rfl, (by show 0 ≤ sizeLine; decide), fun p hp => ?_⟩
    have s4 := same_new (o := .tup []) hp
    have e4 : upd H3 p (.tup []) p = some (.tup []) := upd_same
    generalize upd H3 p (.tup []) = H4 at s4 e4 ⊢
    have hT4 := s4 _ _ hT3
    refine ⟨.tuple (ls.map .int), .tuple [], .tup (SqT.of hT4) (dp_ints _), .tup (SqT.of e4) .nil, ints_shapedT _, ints_shapedT [], ?_⟩
    rw [eqv_nilT]
    cases ls with
    | nil => exact ⟨_, rfl, iteTB rfl (q H4 (sA.trans s4))⟩
    | cons x l =>
      refine ⟨_, rfl, iteFB rfl ?_⟩
      have M4 := M3.same s4
      obtain ⟨l1, d, el⟩ : ∃ l1 d, x :: l = l1 ++ [d] := by
        rcases List.eq_nil_or_concat (x :: l) with e | ⟨l1, d, e⟩
        · cases e
        · exact ⟨l1, d, by rw [e, List.concat_eq_append]⟩
      have hfd := hfit d (by rw [el]; simp)
      have hz : nV k = .non ∨ ∃ y : Int, nV k = .int y := by
        cases k with
        | none => exact .inl rfl
        | some y => exact .inr ⟨y, rfl⟩
      rw [el, List.map_append] at hT4
      refine ⟨.ref m, rfl, .ref tp, rfl, 1, rfl, tp, _, -1, .int d, rfl, rfl, SqT.of hT4, atI_last _ _, nV k, rfl, m, dl, pl, b, d, ns, ks, nV k, rfl, M4, hz, fun H5 s5 => ?_⟩
      rw [hfd]
      exact q H5 (sA.trans (s4.trans s5))
end
end K12
namespace K12
open PySem PySem.Spec PyProof.Rows L2 OF
abbrev sFirstRow : Stmt := topS 68
section
variable {P : Program} {w : World} {K : PySem.W.Frag} {mg : Str → Option Value} {base : Heap}
theorem jdg_fits {b : Int} {ns : List Int} {ks : List (Addr × (Int × Int))} (G : Good b ns (ks.map (·.2))) {d : Int} {k : KeyN} (hd : d ∈ ns) (hk : k ∈ none :: ns.map some) : jdg ns ks (.int d) (nV k) = fitsB (ks.map (·.2)) d (nV k) := by
  have one : ∀ y ∈ ns, isOne ns y = true := fun y hy => by
    unfold isOne
    rw [G.dg y hy, decide_eq_true hy]
    rfl
  have bar : ∀ x y : Int, hasBar ks x y = hasP (ks.map (·.2)) x y := fun x y => by
    unfold hasBar hasP
    rw [List.map_map]
    rfl
  rcases List.mem_cons.mp hk with rfl | h
  · exact one d hd
  · obtain ⟨y, hy, rfl⟩ := List.mem_map.mp h
    show (isOne ns d && (isOne ns y && !hasBar ks d y)) = !hasP (ks.map (·.2)) d y
    rw [one d hd, one y hy, bar]
    rfl
/-- the first that may stand right of d: the least one -/
theorem first_least {b : Int} {ns : List Int} {ks : List (Addr × (Int × Int))} (G : Good b ns (ks.map (·.2))) {d y : Int} {F : KeyN → Prop} (hn : ¬ F none) (my : some y ∈ rightsOf ns ks d) (fy : F (some y)) (le : ∀ z, some z ∈ rightsOf ns ks d → F (some z) → y ≤ z) : FirstOf F (rightsOf ns ks d) (some y) := by
  obtain ⟨k, l1, l2, e, fk, nl⟩ := first_some (F := F) (l := rightsOf ns ks d) ⟨some y, my, fy⟩
  have srt : (rightsOf ns ks d).Pairwise fun p q => ∀ u v, p = some u → q = some v → u < v := by
    refine List.Pairwise.filter _ (List.pairwise_cons.mpr ⟨(fun q _ u v h => by cases h), ?_⟩)
    refine List.pairwise_map.mpr (G.asc.imp fun {p q} h u v e1 e2 => ?_)
    cases e1
    cases e2
    exact h
  cases k with
  | none => exact absurd fk hn
  | some z =>
    have mz : some z ∈ rightsOf ns ks d := by rw [e]; exact List.mem_append_right _ List.mem_cons_self
    have yz := le z mz fk
    rw [e] at my srt
    rcases List.mem_append.mp my with h | h
    · exact absurd fy (nl _ h)
    · rcases List.mem_cons.mp h with h | h
      · cases h
        exact ⟨l1, l2, e, fk, nl⟩
      · have := (List.pairwise_cons.mp (List.pairwise_append.mp srt).2.1).1 (some y) h z y rfl rfl
        omega
/-- the digit of a place -/
def dgP (p : Plc) : Int := p.2.getD 0
def LevelsAre (b : Int) (ns : List Int) (ks : List (Addr × (Int × Int))) (p0 : Plc) (lv : List (Addr × List (Addr × Plc))) : Prop := ∀ (i : Nat) (p : Addr × List (Addr × Plc)), lv[i]? = some p → ∀ x, x ∈ p.2.map (·.2) ↔ Lvl (sucP b ns ks) p0 i x
/-- the row that the law finds in the levels, the last one the first with a rest 0 -/
def spFirstRow : Sp := fun vs H Q _ => ∃ (m dl pl V1 : Addr) (b : Int) (ns : List Int) (ks : List (Addr × (Int × Int))) (p0 : Plc) (U : List Plc) (lv : List (Addr × List (Addr × Plc))), vs = [.ref m, .ref V1] ∧ ModAt H m dl pl b ns ks ∧ Good b ns (ks.map (·.2)) ∧ p0 ∈ U ∧ Bound b ns ks U ∧ LevAt H V1 lv ∧
  1 ≤ lv.length ∧ lv.length ≤ 100002 ∧ LevelsAre b ns ks p0 lv ∧ (∀ p ∈ lv, p.2.length ≤ 100000) ∧ (∃ x, Lvl (sucP b ns ks) p0 (lv.length - 1) x ∧ x.1 = 0) ∧
  ∀ (tp : Addr) (ls : List Int) (e : Plc) (H' : Hp), Same H H' → H' tp = some (.tup (ls.map V.int)) → Lvl (sucP b ns ks) p0 (lv.length - 1) e → e.1 = 0 → (∀ f, Lvl (sucP b ns ks) p0 (lv.length - 1) f → f.1 = 0 → ∀ x y, e.2 = some x → f.2 = some y → x ≤ y) → FR b ns ks p0 (lv.length - 1) e ls → Q (.ref tp) H'
abbrev nFr : List Str := ["_law_model", "_law_levels", "_law_rest", "_law_digit", "_law_row", "_law_k", "_law_some", "_law_place", "_law_other"]
theorem scFr : FnScope nFr ["_law_model", "_law_levels"] (defScope sFirstRow) := ⟨rfl, rfl, rfl, by decide +kernel, rfl, by decide +kernel, by decide +kernel⟩
theorem ok_firstrow {f fF : Addr} {fd fdF : FuncData} (F : Fun K "_law_first_row" "_law_first_row" sFirstRow f fd)
    (GF : FnOk P w K mg base CX0 2 fF fdF ["_law_model", "_law_left", "_law_beside"] spFits) (gF : mg "_law_fits" = some (.ref fF)) (kF : PySem.W.keepIn K (.ref fF) = true) (bF : Binds K fdF ["_law_model", "_law_left", "_law_beside"] [])
    (ml : mg "len" = none) (mmn : mg "min" = none) (mr : mg "range" = none) : FnOk P w K mg base CX0 3 f fd ["_law_model", "_law_levels"] spFirstRow := by
  refine F.ok scFr (fun vs H Q E h => ?_) (fun cdv A outer s H vs Q E hr h => ?_)
  · obtain ⟨m, dl, pl, V1, b, ns, ks, p0, U, lv, rfl, _⟩ := h
    rfl
  · obtain ⟨m, dl, pl, V1, b, ns, ks, p0, U, lv, rfl, MA, G, pU, BU, LV, l1, lK, lev, few, ex, q⟩ := h
    apply Exists.intro
    apply And.intro
    · apply pss_cons
      · exact ps_if (pt_cmpR op_eq (pe_callB call_len_seq (by rfl) ml PySem.boot_len (pa_cons (pv 1) pa_nil)) pe_int (nomark _)) (pss_one (ps_ret (pe_tup pa_nil))) pss_nil
      apply pss_cons
      · exact ps_set (i := 3) scFr.nd rfl (.inr rfl) (pe_callB (cr_min rfl) (by rfl) mmn (by decide +kernel) (pa_cons (pe_lc (own := [("_law_rest", 2), ("_law_digit", 3)]) (g := gTup K 2 (gCons (gName 2) (gCons (gName 3) gNil))) (tt := tTest (tOp rEq (tVar 2) (tC (.int 0)))) (te := tVar 3) rfl scFr.nd (pi_list (pe_ix ix_list (pv 1) (pe_un un_neg pe_int) (fun _ _ => rfl)))
          (blkOk_by (own := [("_law_rest", 2), ("_law_digit", 3)]) (N := nFr) (sc := defScope sFirstRow) (by decide +kernel)) (fun _ _ _ _ _ => by exact (pg_tup rfl (pgs_cons (pg_name (i := 2) scFr.nd rfl (Or.inl rfl)) (pgs_cons (pg_name (i := 3) scFr.nd rfl (Or.inl rfl)) pgs_nil)))) (fun _ _ _ _ _ => by exact (pts_one (pt_cmpR op_eq (pv 2) pe_int (nomark _)))) (fun _ _ _ _ _ => by exact (pv 3))) pa_nil))
      apply pss_cons
      · exact ps_asg (pe_tup (pa_cons pe_int (pa_cons (pe_tup (pa_cons (pv 3) pa_nil)) pa_nil))) (pg_tup rfl (pgs_cons (pg_name (i := 2) scFr.nd rfl (.inr rfl)) (pgs_cons (pg_name (i := 4) scFr.nd rfl (.inl rfl)) pgs_nil)))
      apply pss_cons
      · exact ps_for PassesOwn.never rfl (pi_range3 (by rfl) mr (pa_cons (pe_op op_sub (pe_callB call_len_seq (by rfl) ml PySem.boot_len (pa_cons (pv 1) pa_nil)) pe_int) (pa_cons pe_int (pa_cons (pe_un un_neg pe_int) pa_nil)))) (pg_name (i := 5) scFr.nd rfl (.inl rfl))
          (pss_cons (ps_set (i := 2) scFr.nd rfl (.inr rfl) (pe_op op_add (pv 3) (pe_op op_mul (pe_ix ix_list (pv 0) pe_int (fun _ _ => rfl)) (pv 2))))
          (pss_cons (ps_setLc (i := 6) (own := [("_law_place", 7)]) (g := gName 7) (tt := tTest (tOp rEq (tOp (rIxT K) (tVar 7) (tC (.int 0))) (tVar 2))) (te := tOp (rIxT K) (tVar 7) (tC (.int 1))) rfl scFr.nd rfl rfl (sw_true rfl rfl rfl (by decide +kernel)) (pi_list (pe_ix ix_list (pv 1) (pv 5) (fun _ _ => rfl)))
            (blkOk_by (own := [("_law_place", 7)]) (N := nFr) (sc := defScope sFirstRow) (by decide +kernel)) (fun _ _ _ _ _ => pg_name (i := 7) scFr.nd rfl (Or.inl rfl)) (fun _ _ _ _ _ => by exact (pts_one (pt_cmpR op_eq (pe_ix ix_tup (pv 7) pe_int (fun _ _ => rfl)) (pv 2) (nomark _)))) (fun _ _ _ _ _ => by exact (pe_ix ix_tup (pv 7) pe_int (fun _ _ => rfl))))
          (pss_cons (ps_set (i := 3) scFr.nd rfl (.inr rfl) (pe_callB (cr_min rfl) (by rfl) mmn (by decide +kernel) (pa_cons (pe_lc (own := [("_law_other", 8)]) (g := gName 8) (tt := tB (tCall spFits [] E0 (tCons (tVar 0) (tCons (tVar 3) (tCons (tVar 8) tNil))))) (te := tVar 8) rfl scFr.nd (pi_list (pv 6))
            (blkOk_by (own := [("_law_other", 8)]) (N := nFr) (sc := defScope sFirstRow) (by decide +kernel)) (fun _ _ _ _ _ => pg_name (i := 8) scFr.nd rfl (Or.inl rfl)) (fun _ _ _ _ _ => by exact (pts_one (pt_val (pe_call GF hr (by rfl) gF kF bF .nil pass0 (pa_cons (pv 0) (pa_cons (pv 3) (pa_cons (pv 8) pa_nil))))))) (fun _ _ _ _ _ => by exact (pv 8))) pa_nil)))
          (pss_one (ps_set (i := 4) scFr.nd rfl (.inl rfl) (pe_op op_cat2 (pv 4) (pe_tup (pa_cons (pv 3) pa_nil))))))))
      apply pss_one
      · exact ps_ret (pv 4)
    refine ⟨.ref V1, rfl, V1, _, rfl, .inl (SqL.of LV.at_), rfl, _, rfl, ?_⟩
    rw [List.length_map]
    by_cases h1 : lv.length = 1
    · refine iteTB (decide_eq_true (by rw [h1]; rfl)) ⟨(by show 0 ≤ sizeLine; decide), fun tp htp => ?_⟩
      obtain ⟨x, lx, x0⟩ := ex
      rw [h1] at lx q
      have e := lvl_zero.mp lx
      subst e
      refine q tp [] x _ (same_new htp) upd_same lx x0 (fun f lf _ u v hu hv => ?_) .zero
      rw [lvl_zero.mp lf, hu] at hv
      cases hv
      exact Int.le_refl _
    refine iteFB (decide_eq_false fun z => h1 (by have := V.int.inj z; omega)) ?_
    obtain ⟨lr, ll, elv⟩ : ∃ lr ll, lv = lr ++ [ll] := by
      rcases List.eq_nil_or_concat lv with e | ⟨lr, ll, e⟩
      · rw [e] at l1
        exact absurd l1 (by decide)
      · exact ⟨lr, ll, by rw [e, List.concat_eq_append]⟩
    have lenL : lv.length = lr.length + 1 := by rw [elv, List.length_append]; rfl
    have eN : lv.length - 1 = lr.length := by omega
    rw [eN] at ex q
    generalize eM : lr.length = n at *
    have n1 : 1 ≤ n := by omega
    have gl : lv[n]? = some ll := by rw [elv, ← eM]; simp
    have ml2 := List.mem_of_getElem? gl
    have lvN := lev _ _ gl
    have PL := LV.each ll ml2
    have aL : atI (lv.map fun p => V.ref p.1) (-1) = some (.ref ll.1) := by
      rw [elv, List.map_append]
      exact atI_last _ _
    -- a place of a level from 1 on has a digit
    have hasD : ∀ (j : Nat) (x : Plc), 1 ≤ j → Lvl (sucP b ns ks) p0 j x → x.2 = some (dgP x) ∧ dgP x ∈ ns := fun j x hj lx => by
      obtain ⟨i, rfl⟩ : ∃ i, j = i + 1 := ⟨j - 1, by omega⟩
      obtain ⟨d, _, e, md, _⟩ := lvl_back pU BU (fdiv_ok G.b).1 lx
      unfold dgP
      rw [e]
      exact ⟨rfl, md⟩
    have tupD : ∀ (H' : Hp) (j : Nat) (q1 : Addr × Plc), 1 ≤ j → Lvl (sucP b ns ks) p0 j q1.2 → H' q1.1 = some (vP q1.2) → H' q1.1 = some (.tup [.int q1.2.1, .int (dgP q1.2)]) := fun H' j q1 hj lx e => by
      rw [e]
      unfold vP
      rw [(hasD j _ hj lx).1]
      rfl
    refine ⟨.ref V1, rfl, 1, rfl, V1, _, -1, .ref ll.1, rfl, rfl, SqL.of LV.at_, aL, ll.1, rfl, ⟨_, SqL.of PL.1⟩, fun D hD => ?_⟩
    refine lc_list (K := K) (a := ll.1) (xs := ll.2.map fun p => V.ref p.1) (fun i H' => Same H H' ∧ H' D = some (.lst (((ll.2.take i).filter fun p => decide (p.2.1 = 0)).map fun p => V.int (dgP p.2)))) ⟨same_new hD, upd_same⟩ (fun i H' _ h => SqL.of (h.1 _ _ PL.1)) ?_ ?_
    · rintro i x H2 hx ⟨s2, e2⟩
      obtain ⟨q1, hq1, rfl⟩ := get_map (f := fun p : Addr × Plc => V.ref p.1) hx
      have m1 := List.mem_of_getElem? hq1
      have t1 := tupD H2 n q1 n1 ((lvN _).mp (List.mem_map.mpr ⟨q1, m1, rfl⟩)) (s2 _ _ (PL.2 q1 m1))
      refine ⟨q1.1, _, rfl, SqT.of t1, rfl, _, _, rfl, _, _, rfl, rfl, rfl, .int q1.2.1, rfl, rfl, _, rfl, ?_⟩
      by_cases h0 : q1.2.1 = 0
      · rw [decide_eq_true (congrArg V.int h0)]
        refine iteT ⟨.int (dgP q1.2), rfl, _, e2, ?_, Same.store s2 hD, ?_⟩
        · rw [List.length_map]
          exact big18 (Nat.le_trans (List.length_filter_le _ _) (Nat.le_trans (List.length_take_le' _ _) (few ll ml2)))
        · rw [upd_same, take_more hq1, List.filter_append, List.map_append]
          simp [h0]
      · rw [decide_eq_false fun z => h0 (V.int.inj z)]
        refine iteF ⟨s2, ?_⟩
        rw [e2, take_more hq1, List.filter_append]
        simp [h0]
    rintro H1 ⟨s1, e1⟩
    rw [List.length_map, List.take_length] at e1
    have zin : ∀ x, Lvl (sucP b ns ks) p0 n x → x.1 = 0 → dgP x ∈ (ll.2.filter fun p => decide (p.2.1 = 0)).map fun p => dgP p.2 := fun x lx x0 => by
      obtain ⟨q1, hq1, rfl⟩ := List.mem_map.mp ((lvN x).mpr lx)
      exact List.mem_map.mpr ⟨q1, List.mem_filter.mpr ⟨hq1, decide_eq_true x0⟩, rfl⟩
    refine ⟨D, (ll.2.filter fun p => decide (p.2.1 = 0)).map fun p => dgP p.2, rfl, SqL.of (by rw [e1, List.map_map]; rfl), ?_, fun m0 hm0 hle => ?_⟩
    · obtain ⟨x, lx, x0⟩ := ex
      exact List.length_pos_of_mem (zin x lx x0)
    obtain ⟨q0, hq0, rfl⟩ := List.mem_map.mp hm0
    obtain ⟨mq0, zq0⟩ := List.mem_filter.mp hq0
    have zq0 : q0.2.1 = 0 := of_decide_eq_true zq0
    have lq0 := (lvN q0.2).mp (List.mem_map.mpr ⟨q0, mq0, rfl⟩)
    have hd0 := hasD n q0.2 n1 lq0
    have least : ∀ f, Lvl (sucP b ns ks) p0 n f → f.1 = 0 → ∀ x y, q0.2.2 = some x → f.2 = some y → x ≤ y := fun f lf f0 x y ex ey => by
      have z := hle _ (zin f lf f0)
      unfold dgP at z
      rw [ex, ey] at z
      exact z
    refine ⟨_, rfl, (by show 1 ≤ sizeLine; decide), fun p2 hp2 => ⟨(by show 2 ≤ sizeLine; decide), fun p3 hp3 => ?_⟩⟩
    have s2 := same_new (o := .tup [.int (dgP q0.2)]) hp2
    have e2 : upd H1 p2 (.tup [.int (dgP q0.2)]) p2 = some (.tup [.int (dgP q0.2)]) := upd_same
    generalize upd H1 p2 (.tup [.int (dgP q0.2)]) = H2 at s2 e2 hp3 ⊢
    have s3 := same_new (o := .tup [.int 0, .ref p2]) hp3
    have e3 : upd H2 p3 (.tup [.int 0, .ref p2]) p3 = some (.tup [.int 0, .ref p2]) := upd_same
    generalize upd H2 p3 (.tup [.int 0, .ref p2]) = H3 at s3 e3 ⊢
    refine ⟨p3, _, rfl, SqT.of e3, rfl, _, _, rfl, _, _, rfl, rfl, ?_⟩
    have sA := s1.trans (s2.trans s3)
    refine ⟨.ref V1, rfl, V1, _, rfl, .inl (SqL.of (sA _ _ LV.at_)), _, _, rfl, rfl, 1, rfl, _, _, _, n - 1, rfl, ?_, ?_⟩
    · rw [List.length_map]
      have := RgC.neg (i := (lv.length : Int) - 2) (j := 0) (by omega) (by omega) (by decide) (by decide)
      rw [show ((lv.length : Int) - 2 - 0).toNat = n - 1 by omega] at this
      exact this
    refine for_rangeC (fun i σ H' => ∃ (r : Int) (d : Int) (tp : Addr) (row : List Int) (v5 v6 : Option V), σ = [some (.ref m), some (.ref V1), some (.int r), some (.int d), some (.ref tp), v5, v6, none, none] ∧ Same H H' ∧ i ≤ n - 1 ∧ H' tp = some (.tup (row.map V.int)) ∧ row.length = i + 1 ∧ Lvl (sucP b ns ks) p0 (n - i) (r, some d) ∧ ∀ ms, FR b ns ks p0 (n - i) (r, some d) (d :: ms) → FR b ns ks p0 n q0.2 (row ++ ms)) ?_ ?_ ?_
    · refine ⟨0, dgP q0.2, p2, [dgP q0.2], none, none, rfl, sA, Nat.zero_le _, s3 _ _ e2, rfl, ?_, fun ms h => ?_⟩
      · have e : q0.2 = (0, some (dgP q0.2)) := Prod.ext zq0 hd0.1
        rw [← e]
        exact lq0
      · have e : q0.2 = (0, some (dgP q0.2)) := Prod.ext zq0 hd0.1
        rw [← e] at h
        exact h
    · rintro i σ H4 hi ⟨r, d, tp, row, v5, v6, rfl, s4, hin, eT, lR, lP, fr⟩
      obtain ⟨j, hj⟩ : ∃ j, n - i = j + 1 := ⟨n - i - 1, by omega⟩
      rw [hj] at lP fr
      have j1 : 1 ≤ j := by omega
      have md : d ∈ ns := (hasD (j + 1) _ (by omega) lP).2
      have ljv : j < lv.length := by omega
      have gj : lv[j]? = some (lv[j]'ljv) := by simp [ljv]
      have mj := List.mem_of_getElem? gj
      have lvJ := lev _ _ gj
      generalize lv[j]'ljv = lj at gj mj lvJ
      have PJ := (LV.each lj mj).same s4
      have M4 := MA.same s4
      have b6 := (fdiv_ok G.b).2
      refine ⟨.int d, rfl, .ref m, rfl, m, _, 0, .int b, rfl, rfl, SqL.of M4.mo, atI_nat (j := 0) rfl, .int r, rfl, b, r, rfl, rfl, .inl ⟨by omega, by omega⟩, _, _, rfl, rfl, ?_⟩
      have hv : d + b * r = r * b + d := by
        rw [Int.mul_comm b r]
        omega
      refine ⟨.ref V1, rfl, _, rfl, V1, _, _, .ref lj.1, rfl, rfl, SqL.of (s4 _ _ LV.at_), ?_, lj.1, rfl, ⟨_, SqL.of PJ.1⟩, fun D2 hD2 => ?_⟩
      · rw [List.length_map, show (lv.length : Int) - 2 + (i : Int) * -1 = ((j : Nat) : Int) by omega]
        exact atI_nat (by rw [List.getElem?_map, gj]; rfl)
      refine lc_list (K := K) (a := lj.1) (xs := lj.2.map fun p => V.ref p.1) (fun i' H' => Same H4 H' ∧ H' D2 = some (.lst ((((lj.2.take i').filter fun p => decide (p.2.1 = d + b * r)).map fun p => dgP p.2).map V.int))) ⟨same_new hD2, upd_same⟩ (fun i' H' _ h => SqL.of (h.1 _ _ PJ.1)) ?_ ?_
      · rintro i' x H5 hx ⟨s5, e5⟩
        obtain ⟨q1, hq1, rfl⟩ := get_map (f := fun p : Addr × Plc => V.ref p.1) hx
        have m1 := List.mem_of_getElem? hq1
        have t1 := tupD H5 j q1 j1 ((lvJ _).mp (List.mem_map.mpr ⟨q1, m1, rfl⟩)) (s5 _ _ (PJ.2 q1 m1))
        refine ⟨rfl, .ref q1.1, rfl, q1.1, _, 0, .int q1.2.1, rfl, rfl, SqT.of t1, atI_nat (j := 0) rfl, .int (d + b * r), rfl, rfl, _, rfl, ?_⟩
        by_cases h0 : q1.2.1 = d + b * r
        · rw [decide_eq_true (congrArg V.int h0)]
          refine iteT ⟨.ref q1.1, rfl, q1.1, _, 1, .int (dgP q1.2), rfl, rfl, SqT.of t1, atI_nat (j := 1) rfl, _, e5, ?_, Same.store s5 hD2, ?_⟩
          · rw [List.length_map, List.length_map]
            exact big18 (Nat.le_trans (List.length_filter_le _ _) (Nat.le_trans (List.length_take_le' _ _) (few lj mj)))
          · rw [upd_same, take_more hq1, List.filter_append, List.map_append, List.map_append]
            simp [h0]
        · rw [decide_eq_false fun z => h0 (V.int.inj z)]
          refine iteF ⟨s5, ?_⟩
          rw [e5, take_more hq1, List.filter_append]
          simp [h0]
      rintro H5 ⟨s5, e5⟩
      rw [List.length_map, List.take_length] at e5
      have inO : ∀ y : Int, y ∈ (lj.2.filter fun p => decide (p.2.1 = d + b * r)).map (fun p => dgP p.2) ↔ y ∈ ns ∧ Lvl (sucP b ns ks) p0 j (d + b * r, some y) := fun y => by
        constructor
        · intro h
          obtain ⟨q1, hq1, rfl⟩ := List.mem_map.mp h
          obtain ⟨m1, z1⟩ := List.mem_filter.mp hq1
          have lq := (lvJ _).mp (List.mem_map.mpr ⟨q1, m1, rfl⟩)
          have hd1 := hasD j _ j1 lq
          have e : q1.2 = (d + b * r, some (dgP q1.2)) := Prod.ext (of_decide_eq_true z1) hd1.1
          rw [← e]
          exact ⟨hd1.2, lq⟩
        · rintro ⟨_, h⟩
          obtain ⟨q1, hq1, e⟩ := List.mem_map.mp ((lvJ _).mpr h)
          have e : q1.2 = (d + b * r, some y) := e
          exact List.mem_map.mpr ⟨q1, List.mem_filter.mpr ⟨hq1, by rw [e]; exact decide_eq_true rfl⟩, by rw [e]; rfl⟩
      have fewO : ((lj.2.filter fun p => decide (p.2.1 = d + b * r)).map fun p => dgP p.2).length ≤ 100000 := by
        rw [List.length_map]
        exact Nat.le_trans (List.length_filter_le _ _) (few lj mj)
      generalize (lj.2.filter fun p => decide (p.2.1 = d + b * r)).map (fun p => dgP p.2) = os at e5 inO fewO
      have s45 := s4.trans s5
      refine ⟨.ref D2, rfl, D2, rfl, ⟨_, SqL.of e5⟩, fun D3 hD3 => ?_⟩
      refine lc_list (K := K) (a := D2) (xs := os.map V.int) (fun i' H' => Same H5 H' ∧ H' D3 = some (.lst (((os.take i').filter fun y => fitsB (ks.map (·.2)) d (.int y)).map V.int))) ⟨same_new hD3, upd_same⟩ (fun i' H' _ h => SqL.of (h.1 _ _ e5)) ?_ ?_
      · rintro i' x H6 hx ⟨s6, e6⟩
        obtain ⟨y, hy, rfl⟩ := get_map hx
        refine ⟨rfl, .ref m, rfl, .int d, rfl, .int y, rfl, m, dl, pl, b, d, ns, ks, .int y, rfl, MA.same (s45.trans s6), .inr ⟨y, rfl⟩, fun H7 s7 => ⟨_, rfl, ?_⟩⟩
        have e7 := s7 _ _ e6
        cases hf : fitsB (ks.map (·.2)) d (.int y) with
        | true =>
          refine iteT ⟨.int y, rfl, _, e7, ?_, Same.store (s6.trans s7) hD3, ?_⟩
          · rw [List.length_map]
            exact big18 (Nat.le_trans (List.length_filter_le _ _) (Nat.le_trans (List.length_take_le' _ _) fewO))
          · rw [upd_same, take_more hy, List.filter_append, List.map_append]
            simp [hf]
        | false =>
          refine iteF ⟨s6.trans s7, ?_⟩
          rw [e7, take_more hy, List.filter_append]
          simp [hf]
      rintro H6 ⟨s6, e6⟩
      rw [List.length_map, List.take_length] at e6
      have inR : ∀ y : Int, y ∈ (os.filter fun y => fitsB (ks.map (·.2)) d (.int y)) ↔ some y ∈ rightsOf ns ks d ∧ Lvl (sucP b ns ks) p0 j (d + b * r, some y) := fun y => by
        constructor
        · intro h
          obtain ⟨h1, h2⟩ := List.mem_filter.mp h
          obtain ⟨h3, h4⟩ := (inO y).mp h1
          have mk : some y ∈ none :: ns.map some := List.mem_cons_of_mem _ (List.mem_map.mpr ⟨y, h3, rfl⟩)
          exact ⟨List.mem_filter.mpr ⟨mk, (jdg_fits G md mk).trans h2⟩, h4⟩
        · rintro ⟨h1, h2⟩
          obtain ⟨h3, h4⟩ := List.mem_filter.mp h1
          exact List.mem_filter.mpr ⟨(inO y).mpr ⟨(hasD j _ j1 h2).2, h2⟩, (jdg_fits G md h3).symm.trans h4⟩
      refine ⟨D3, _, rfl, SqL.of e6, ?_, fun d2 hd2 hle2 => ?_⟩
      · obtain ⟨d3, k, ek, _, mk, lk⟩ := lvl_back pU BU (fdiv_ok G.b).1 lP
        cases ek
        have lk : Lvl (sucP b ns ks) p0 j (r * b + d, k) := lk
        rw [← hv] at lk
        have hk2 := (hasD j _ j1 lk).1
        have hk2 : k = some (dgP (d + b * r, k)) := hk2
        rw [hk2] at mk lk
        exact List.length_pos_of_mem ((inR _).mpr ⟨mk, lk⟩)
      obtain ⟨mr2, lr2⟩ := (inR d2).mp hd2
      have s46 := s45.trans s6
      refine ⟨.ref tp, rfl, .int d2, rfl, (by show 1 ≤ sizeLine; decide), fun p5 hp5 => ?_⟩
      have s7 := same_new (o := .tup [.int d2]) hp5
      have e7 : upd H6 p5 (.tup [.int d2]) p5 = some (.tup [.int d2]) := upd_same
      generalize upd H6 p5 (.tup [.int d2]) = H7 at s7 e7 ⊢
      refine ⟨tp, p5, _, _, rfl, rfl, s7 _ _ (s6 _ _ (s5 _ _ eT)), e7, ?_, fun tp2 H8 s8 e8 => ?_⟩
      · rw [List.length_map, lR]
        show i + 1 + 1 ≤ sizeLine
        unfold sizeLine
        omega
      refine ⟨d + b * r, d2, tp2, row ++ [d2], _, _, rfl, s46.trans (s7.trans s8), by omega, ?_, ?_, ?_, fun ms h => ?_⟩
      · rw [e8, List.map_append]
        rfl
      · rw [List.length_append, lR]
        rfl
      · rw [show n - (i + 1) = j by omega]
        exact lr2
      · rw [show n - (i + 1) = j by omega] at h
        rw [List.append_assoc]
        rw [hv] at h
        refine fr (d2 :: ms) (.step (k := some d2) ?_ h)
        rw [← hv]
        refine first_least G (fun z => ?_) mr2 lr2 fun z mz lz => hle2 z ((inR z).mpr ⟨mz, lz⟩)
        have := (hasD j _ j1 z).1
        cases this
    · rintro σ H4 ⟨r, d, tp, row, v5, v6, rfl, s4, hin, eT, lR, lP, fr⟩
      have n11 : n - (n - 1) = 0 + 1 := by omega
      rw [n11] at lP fr
      refine ⟨.ref tp, rfl, q tp row q0.2 H4 s4 eT lq0 zq0 least ?_⟩
      obtain ⟨d2, k, e2', md, mk, lk⟩ := lvl_back pU BU (fdiv_ok G.b).1 lP
      cases e2'
      have z := fr [] (.step (k := k) ?_ ?_)
      · rw [List.append_nil] at z
        exact z
      · obtain ⟨k2, f2⟩ := first_some (F := fun k => Lvl (sucP b ns ks) p0 0 (r * b + d, k)) (l := rightsOf ns ks d) ⟨k, mk, lk⟩
        have e1 := lvl_zero.mp lk
        obtain ⟨_, _, _, lk2, _⟩ := id f2
        have e2 := lvl_zero.mp lk2
        have ek : k2 = k := (Prod.mk.inj (e2.trans e1.symm)).2
        rw [← ek]
        exact f2
      · rw [lvl_zero.mp lk]
        exact .zero
end
end K12
namespace K12
open PySem PySem.Spec PyProof.Rows L2 OF LamX NdefX
/-! ### all but the box and the tables stay -/
def BN (a : Addr) (H H' : Hp) : Prop := ∀ b o, b ≠ a → H b = some o → (∀ ps, o ≠ .tbl ps) → H' b = some o
theorem BN.refl {a : Addr} {H : Hp} : BN a H H := fun _ _ _ h _ => h
theorem BN.trans {a : Addr} {H H1 H2 : Hp} (x : BN a H H1) (y : BN a H1 H2) : BN a H H2 := fun b o n h k => y b o n (x b o n h k) k
theorem BN.but {a : Addr} {H H' : Hp} (t : But a H H') : BN a H H' := fun b o n h _ => t b o n h
theorem BN.same {a : Addr} {H H' : Hp} (t : Same H H') : BN a H H' := fun b o _ h _ => t b o h
theorem BN.ext {a : Addr} {H H' : Hp} (t : ExtN H H') : BN a H H' := fun b o _ h k => t b o h k
theorem box_ext {a : Addr} {n : Int} {H H' : Hp} (hB : Box n H a) (t : ExtN H H') : Box n H' a := by
  obtain ⟨b0, b1, b2, e, r⟩ := hB
  exact ⟨b0, b1, b2, t _ _ e (fun ps z => by cases z), r⟩
theorem tabs_but {T : List (Addr × Str)} {a : Addr} {n : Int} {H H' : Hp} (hB : Box n H a) (t : But a H H') (h : Tabs T H) : Tabs T H' := fun p hp => by
  obtain ⟨b0, b1, b2, e, _⟩ := hB
  obtain ⟨ps, h1, h2, h3⟩ := h p hp
  refine ⟨ps, t _ _ (fun z => by rw [z, e] at h1; cases h1) h1, h2, fun pos cv hc => ?_⟩
  obtain ⟨c, e1, e2⟩ := h3 pos cv hc
  exact ⟨c, e1, t _ _ (fun z => by rw [z, e] at e2; cases e2) e2⟩
structure Rn (a : Addr) (T : List (Addr × Str)) (H0 : Hp) (k : Int) (H : Hp) : Prop where
  t : BN a H0 H
  B : Box k H a
  T : Tabs T H
section
variable {a : Addr} {T : List (Addr × Str)} {H0 H H' : Hp} {k m : Int}
theorem Rn.but (h : Rn a T H0 k H) (t : But a H H') (B : Box m H' a) : Rn a T H0 m H' := ⟨h.t.trans (.but t), B, tabs_but h.B t h.T⟩
theorem Rn.same (h : Rn a T H0 k H) (t : Same H H') : Rn a T H0 k H' := ⟨h.t.trans (.same t), h.B.same t, h.T.ext t⟩
theorem Rn.ext (h : Rn a T H0 k H) (t : ExtN H H') (hT : Tabs T H') : Rn a T H0 k H' := ⟨h.t.trans (.ext t), box_ext h.B t, hT⟩
theorem Rn.new {p : Addr} {o : HO} (h : Rn a T H0 k H) (hp : H p = none) : Rn a T H0 k (upd H p o) := h.same (same_new hp)
theorem Rn.store {p : Addr} {l : List V} {o : HO} (h : Rn a T H0 k H) (hp : H0 p = none) (ne : p ≠ a) (e : H p = some (.lst l)) : Rn a T H0 k (upd H p o) := by
  refine ⟨fun b u nb hb kk => ?_, h.B.upd ne, fun q hq => ?_⟩
  · have n : b ≠ p := fun z => by
      rw [z, hp] at hb
      cases hb
    rw [upd_ne n]
    exact h.t b u nb hb kk
  · obtain ⟨ps, h1, h2, h3⟩ := h.T q hq
    refine ⟨ps, ?_, h2, fun pos cv hc => ?_⟩
    · rw [upd_ne (fun z => by rw [z, e] at h1; cases h1)]
      exact h1
    · obtain ⟨c, e1, e2⟩ := h3 pos cv hc
      refine ⟨c, e1, ?_⟩
      rw [upd_ne (fun z => by rw [z, e] at e2; cases e2)]
      exact e2
theorem Rn.mono (h : Rn a T H0 k H) (l : k ≤ m) : Rn a T H0 m H := ⟨h.t, h.B.mono l, h.T⟩
end
/-- the parts of a scheme, wherever but the box and the tables may change -/
def ModN (a : Addr) (H : Hp) (m dl pl : Addr) (b : Int) (ns : List Int) (ks : List (Addr × (Int × Int))) : Prop := ∀ H', BN a H H' → ModAt H' m dl pl b ns ks
theorem model_n {a m : Addr} {H : Hp} {b : Int} {ns : List Int} {ps : List (Int × Int)} (h : Model a H m b ns ps) : ∃ (dl pl : Addr) (ks : List (Addr × (Int × Int))), ks.map (·.2) = ps ∧ ModN a H m dl pl b ns ks := by
  obtain ⟨dl, pl, ks, e, z⟩ := h
  have M0 := z H But.refl
  have M1 := z (upd H a (.dK [])) (fun c o n h => by rw [upd_ne n]; exact h)
  have nm : ∀ {c : Addr} {o : HO}, (upd H a (.dK [])) c = some o → (∀ ps, o ≠ .dK ps) → c ≠ a := fun {c o} h k z => by
    rw [z, upd_same] at h
    cases h
    exact k _ rfl
  refine ⟨dl, pl, ks, e, fun H' t => ⟨t _ _ (nm M1.mo (fun ps z => by cases z)) M0.mo (fun ps z => by cases z), t _ _ (nm M1.di (fun ps z => by cases z)) M0.di (fun ps z => by cases z), t _ _ (nm M1.pa (fun ps z => by cases z)) M0.pa (fun ps z => by cases z), fun p hp => t _ _ (nm (M1.pr p hp) (fun ps z => by cases z)) (M0.pr p hp) (fun ps z => by cases z)⟩⟩
theorem ModN.bn {a m dl pl : Addr} {H H' : Hp} {b : Int} {ns : List Int} {ks : List (Addr × (Int × Int))} (h : ModN a H m dl pl b ns ks) (t : BN a H H') : ModN a H' m dl pl b ns ks := fun H2 t2 => h H2 (t.trans t2)
theorem ModN.model {a m dl pl : Addr} {H : Hp} {b : Int} {ns : List Int} {ks : List (Addr × (Int × Int))} (h : ModN a H m dl pl b ns ks) : Model a H m b ns (ks.map (·.2)) := ⟨dl, pl, ks, rfl, fun H' t => h H' (.but t)⟩
theorem sch_n {C a o t r : Addr} {n b : Int} {H : Hp} {ns : List Int} {L : List (Addr × (Int × Int))} (hB : Box n H a) (S : SchemeAt C H o t r b ns L) : ∀ H', BN a H H' → SchemeAt C H' o t r b ns L := fun H' q => by
  obtain ⟨b0, b1, b2, e, _⟩ := hB
  obtain ⟨⟨dx, h1⟩, h2, h3, h4⟩ := S
  have nm : ∀ {c : Addr} {o : HO}, H c = some o → (∀ ps, o ≠ .lst ps) → c ≠ a := fun {c o} h k z => by
    rw [z, e] at h
    cases h
    exact k _ rfl
  exact ⟨⟨dx, q _ _ (nm h1 (fun ps z => by cases z)) h1 (fun ps z => by cases z)⟩, q _ _ (nm h2 (fun ps z => by cases z)) h2 (fun ps z => by cases z), q _ _ (nm h3 (fun ps z => by cases z)) h3 (fun ps z => by cases z), fun p hp => q _ _ (nm (h4 p hp) (fun ps z => by cases z)) (h4 p hp) (fun ps z => by cases z)⟩
theorem dig_le {k : Int} (h : dig k = true) : k.natAbs ≤ 9 := by
  unfold dig at h
  simp only [Bool.and_eq_true, decide_eq_true_eq] at h
  omega
theorem base_le {b : Int} (h : isBase b = true) : 2 ≤ b.natAbs ∧ b.natAbs ≤ 6 := by
  unfold isBase at h
  simp only [Bool.or_eq_true, Bool.and_eq_true, decide_eq_true_eq] at h
  omega
section
variable {b : Int} {ns : List Int} {ks : List (Addr × (Int × Int))}
theorem suc_mem {p q : Plc} (h : q ∈ sucP b ns ks p) : ∃ d ∈ ns, (p.1 - d).fmod b = 0 ∧ q = ((p.1 - d).fdiv b, some d) := by
  unfold sucP plc leftOf at h
  obtain ⟨x, hx, rfl⟩ := List.mem_map.mp h
  obtain ⟨d, hd, rfl⟩ := List.mem_map.mp hx
  obtain ⟨h1, h2⟩ := List.mem_filter.mp hd
  exact ⟨d, (List.mem_filter.mp h1).1, of_decide_eq_true h2, rfl⟩
theorem key_right (G : Good b ns (ks.map (·.2))) {k : KeyN} (h : k ∈ none :: ns.map some) : rightB ns (nV k) = true := by
  rcases List.mem_cons.mp h with rfl | h
  · rfl
  · obtain ⟨d, hd, rfl⟩ := List.mem_map.mp h
    show isOne ns d = true
    unfold isOne
    rw [G.dg d hd, decide_eq_true hd]
    rfl
end
theorem bool_eq {c d : Bool} {A : Prop} (h : c = true ↔ A) (k : d = true ↔ A) : c = d := by
  cases c <;> cases d
  · rfl
  · exact h.mpr (k.mp rfl)
  · exact (k.mpr (h.mp rfl)).symm
  · rfl
theorem nV_one {j k : KeyN} (h : nV j = nV k) : j = k := by
  cases j <;> cases k
  · rfl
  · cases h
  · cases h
  · cases h
    rfl
theorem key_item {H : Hp} (k : KeyN) : ItemOk H (nV k) := by
  cases k with
  | none => exact .inr .non
  | some i => exact .inl ⟨i, rfl⟩
theorem seq_all {A B : TS} {D : Ends} {σ : L2.St} {H : Hp} (I : L2.St → Hp → Prop) (hB : ∀ σ' H', I σ' H' → B D σ' H') (hA : ∀ N : L2.St → Hp → Prop, (∀ σ' H', I σ' H' → N σ' H') → A { D with nx := N } σ H) : tSeq A B D σ H := hA _ hB
/-! ### which places are reached from a number -/
def cN (b n : Int) : Nat → Int
  | 0 => n
  | i + 1 => (cN b n i).fdiv b
theorem fdiv_cases {b : Int} (h : isBase b = true) (c : Int) : ∃ m : Int, (m = 2 ∨ m = 3 ∨ m = 4 ∨ m = 5 ∨ m = 6) ∧ ((b = m ∧ c.fdiv b = c / m) ∨ (b = -m ∧ c.fdiv b = (-c) / m)) := by
  unfold isBase at h
  simp only [Bool.or_eq_true, Bool.and_eq_true, decide_eq_true_eq] at h
  by_cases p : 0 < b
  · refine ⟨b, by omega, .inl ⟨rfl, ?_⟩⟩
    exact Int.fdiv_eq_ediv_of_nonneg _ (by omega)
  · refine ⟨-b, by omega, .inr ⟨by omega, ?_⟩⟩
    have e : c.fdiv b = (-c).fdiv (-b) := (Int.neg_fdiv_neg c b).symm
    rw [e]
    exact Int.fdiv_eq_ediv_of_nonneg _ (by omega)
theorem half {b : Int} (h : isBase b = true) (c : Int) : 2 * (c.fdiv b).natAbs ≤ c.natAbs + 1 := by
  obtain ⟨m, hm, h | h⟩ := fdiv_cases h c
  · rw [h.2]
    rcases hm with rfl | rfl | rfl | rfl | rfl <;> omega
  · rw [h.2]
    rcases hm with rfl | rfl | rfl | rfl | rfl <;> omega
theorem cN_le {b : Int} (h : isBase b = true) (n : Int) : ∀ i, (cN b n i).natAbs ≤ n.natAbs / 2 ^ i + 1
  | 0 => by
    show n.natAbs ≤ n.natAbs / 1 + 1
    omega
  | i + 1 => by
    have ih := cN_le h n i
    have z := half h (cN b n i)
    show ((cN b n i).fdiv b).natAbs ≤ _
    rw [Nat.pow_succ, ← Nat.div_div_eq_div_mul]
    omega
theorem near_step {b c p d q : Int} (h : isBase b = true) (hd : d.natAbs ≤ 9) (hp : (p - c).natAbs ≤ 10) (e : b * q = p - d) : (q - c.fdiv b).natAbs ≤ 10 := by
  obtain ⟨m, hm, h | h⟩ := fdiv_cases h c
  · obtain ⟨rfl, h2⟩ := h
    rw [h2]
    rcases hm with rfl | rfl | rfl | rfl | rfl <;> omega
  · obtain ⟨rfl, h2⟩ := h
    rw [h2]
    rcases hm with rfl | rfl | rfl | rfl | rfl <;> omega
def winP (c : Int) (ds : List Int) : List Plc := ((List.range 21).map fun k : Nat => c + (k : Int) - 10).flatMap fun n => (none :: ds.map some).map fun k => (n, k)
theorem mem_winP {c : Int} {ds : List Int} {p : Plc} : p ∈ winP c ds ↔ (p.1 - c).natAbs ≤ 10 ∧ p.2 ∈ none :: ds.map some := by
  unfold winP
  constructor
  · intro h
    obtain ⟨n, hn, hp⟩ := List.mem_flatMap.mp h
    obtain ⟨j, hj, rfl⟩ := List.mem_map.mp hn
    obtain ⟨k, hk, rfl⟩ := List.mem_map.mp hp
    have := List.mem_range.mp hj
    exact ⟨by show (c + (j : Int) - 10 - c).natAbs ≤ 10; omega, hk⟩
  · rintro ⟨h1, h2⟩
    exact List.mem_flatMap.mpr ⟨p.1, List.mem_map.mpr ⟨(p.1 - c + 10).toNat, List.mem_range.mpr (by omega), by omega⟩, List.mem_map.mpr ⟨p.2, h2, rfl⟩⟩
theorem len_flat {α β : Type} {f : α → List β} {m : Nat} : ∀ {l : List α}, (∀ x ∈ l, (f x).length ≤ m) → (l.flatMap f).length ≤ l.length * m
  | [], _ => Nat.zero_le _
  | x :: l, h => by
    have i := len_flat fun y hy => h y (List.mem_cons_of_mem _ hy)
    have j := h x List.mem_cons_self
    rw [List.flatMap_cons, List.length_append, List.length_cons, Nat.succ_mul]
    omega
theorem of_placesTo {B : Nat} {ds : List Int} {p : Plc} (h : p ∈ placesTo B ds) : p.1.natAbs ≤ B ∧ p.2 ∈ none :: ds.map some := by
  unfold placesTo at h
  obtain ⟨n, hn, hp⟩ := List.mem_flatMap.mp h
  obtain ⟨j, hj, rfl⟩ := List.mem_map.mp hn
  obtain ⟨k, hk, rfl⟩ := List.mem_map.mp hp
  have := List.mem_range.mp hj
  exact ⟨by show ((j : Int) - (B : Int)).natAbs ≤ B; omega, hk⟩
def manyP (b n : Int) (ds : List Int) : List Plc := placesTo 15 ds ++ (List.range 110).flatMap fun i => winP (cN b n i) ds
theorem start_in {b n : Int} {ds : List Int} {k : KeyN} (hk : k ∈ none :: ds.map some) : (n, k) ∈ manyP b n ds := by
  refine List.mem_append_right _ (List.mem_flatMap.mpr ⟨0, List.mem_range.mpr (by decide), mem_winP.mpr ⟨?_, hk⟩⟩)
  show (n - n).natAbs ≤ 10
  omega
theorem boundN {b n : Int} {ns : List Int} {ks : List (Addr × (Int × Int))} (G : Good b ns (ks.map (·.2))) (hn : n.natAbs < 10 ^ 30) : Bound b ns ks (manyP b n ns) := by
  refine ⟨fun p hp q hq => ?_, fun p hp => ?_, ?_⟩
  · obtain ⟨d, hd, e, rfl⟩ := suc_mem hq
    have hk : (some d : KeyN) ∈ none :: ns.map some := List.mem_cons_of_mem _ (List.mem_map.mpr ⟨d, hd, rfl⟩)
    have d9 := dig_le (G.dg d hd)
    have b2 := (base_le G.b).1
    have near : p.1.natAbs ≤ 15 → ((p.1 - d).fdiv b, some d) ∈ placesTo 15 ns := fun h => mem_placesTo (step_near (m := 9) b2 d9 h (by decide) e) hk
    rcases List.mem_append.mp hp with h | h
    · exact List.mem_append_left _ (near (of_placesTo h).1)
    · obtain ⟨i, hi, h⟩ := List.mem_flatMap.mp h
      have hi := List.mem_range.mp hi
      obtain ⟨h1, h2⟩ := mem_winP.mp h
      by_cases l : i + 1 < 110
      · refine List.mem_append_right _ (List.mem_flatMap.mpr ⟨i + 1, List.mem_range.mpr l, mem_winP.mpr ⟨?_, hk⟩⟩)
        have z := Int.mul_fdiv_add_fmod (p.1 - d) b
        rw [e, Int.add_zero] at z
        exact near_step G.b d9 h1 z
      · have ei : i = 109 := by omega
        subst ei
        have z := cN_le G.b n 109
        have z2 : n.natAbs / 2 ^ 109 = 0 := Nat.div_eq_of_lt (Nat.lt_trans hn (by decide))
        rw [z2] at z
        exact List.mem_append_left _ (near (by omega))
  · rcases List.mem_append.mp hp with h | h
    · exact (of_placesTo h).2
    · obtain ⟨i, _, h⟩ := List.mem_flatMap.mp h
      exact (mem_winP.mp h).2
  · have six := G.six
    unfold manyP
    rw [List.length_append, len_placesTo]
    have h1 : (2 * 15 + 1) * (ns.length + 1) ≤ 217 := Nat.le_trans (Nat.mul_le_mul_left _ (Nat.succ_le_succ six)) (by decide)
    have h2 : ((List.range 110).flatMap fun i => winP (cN b n i) ns).length ≤ (List.range 110).length * 147 := len_flat fun i _ => by
      unfold winP
      refine Nat.le_trans (len_flat (m := 7) fun x _ => ?_) ?_
      · rw [List.length_map, List.length_cons, List.length_map]
        omega
      · rw [List.length_map, List.length_range]
        decide
    rw [List.length_range] at h2
    omega
/-! ### the functions asked, of good arguments -/
theorem FR.to {b : Int} {ds : List Int} {L ks : List (Addr × (Int × Int))} {p0 p : Plc} {i : Nat} {ls : List Int} (e : L.map (·.2) = ks.map (·.2)) (h : FR b ds L p0 i p ls) : FR b ds ks p0 i p ls := by
  induction h with
  | zero => exact .zero
  | step f _ ih =>
    refine .step ?_ ih
    unfold rightsOf at f ⊢
    rw [sucP_eq e, jdg_eq e] at f
    exact f
theorem FirstRow.to {b : Int} {ds : List Int} {L ks : List (Addr × (Int × Int))} {p0 : Plc} {m : Nat} {ls : List Int} (e : L.map (·.2) = ks.map (·.2)) (h : FirstRow b ds L p0 m ls) : FirstRow b ds ks p0 m ls := by
  obtain ⟨no, x, h1, h2, h3, h4⟩ := h
  rw [sucP_eq e] at no h1 h3
  exact ⟨no, x, h1, h2, h3, h4.to e⟩
section
variable {K : PySem.W.Frag} {C CN CI CU o t r : Addr} {T : List (Addr × Str)} {H : Hp} {b n : Int} {ns : List Int} {L ks : List (Addr × (Int × Int))} {k : KeyN} {Q : VK} {E : XK}
theorem ask_wr (G : Good b ns (ks.map (·.2))) (eL : L.map (·.2) = ks.map (·.2)) (hk : k ∈ none :: ns.map some) (hn : n.natAbs < 10 ^ 30) (S : SchemeAt C H o t r b ns L) (hT : Tabs T H)
    (q : ∀ (c : Bool) (H' : Hp), (c = true ↔ ∃ x, Reach (sucP b ns ks) [(n, k)] x ∧ x.1 = 0) → ExtN H H' → Tabs T H' → Q (.bl c) H') : spWritten C CN CI CU T [.ref o, .int n, nV k] H Q E := by
  have six := G.six
  obtain ⟨b2, b6⟩ := base_le G.b
  have GL : Good b ns (L.map (·.2)) := by rw [eL]; exact G
  refine ⟨_, _, _, rfl, .inr ⟨o, t, r, b, ns, L, rfl, S, .inr ⟨n, rfl, key_item k, fun c => ?_, fun _ => ⟨by omega, by omega, b6, hT, fun k2 e2 => ?_⟩⟩⟩⟩
  · rw [key_right G hk] at c
    cases c
  · cases nV_one e2
    refine ⟨manyP b n ns, start_in hk, boundN GL hn, fun c H' hc => q c H' ?_⟩
    rw [sucP_eq eL] at hc
    exact hc
theorem ask_wg (G : Good b ns (ks.map (·.2))) (eL : L.map (·.2) = ks.map (·.2)) (hk : k ∈ none :: ns.map some) (hn : n.natAbs < 10 ^ 30) (S : SchemeAt C H o t r b ns L) (hT : Tabs T H)
    (q1 : ∀ H', (∀ x, Reach (sucP b ns ks) [(n, k)] x → x.1 ≠ 0) → ExtN H H' → Tabs T H' → Q .non H')
    (q2 : ∀ (tp : Addr) (m : Nat) (ls : List Int) (H' : Hp), FirstRow b ns ks (n, k) m ls → ls.length = m → ExtN H H' → Tabs T H' → H' tp = some (.tup (ls.map V.int)) → m ≤ 100000 → Q (.ref tp) H') : spWriting C CN CI CU T [.ref o, .int n, nV k] H Q E := by
  have six := G.six
  obtain ⟨b2, b6⟩ := base_le G.b
  have GL : Good b ns (L.map (·.2)) := by rw [eL]; exact G
  refine ⟨_, _, _, rfl, .inr ⟨o, t, r, b, ns, L, rfl, S, .inr ⟨n, rfl, key_item k, fun c => ?_, fun _ => ⟨by omega, by omega, b6, hT, fun k2 e2 => ?_⟩⟩⟩⟩
  · rw [key_right G hk] at c
    cases c
  · cases nV_one e2
    refine ⟨manyP b n ns, start_in hk, boundN GL hn, fun H' h => q1 H' ?_, fun tp m ls H' f => q2 tp m ls H' (f.to eL)⟩
    rw [sucP_eq eL] at h
    exact h
theorem ask_cl (G : Good b ns (ks.map (·.2))) (eL : L.map (·.2) = ks.map (·.2)) (hk : k ∈ none :: ns.map some) (hn : n.natAbs < 10 ^ 30) (S : SchemeAt C H o t r b ns L) (hT : Tabs T H)
    (q1 : ∀ H', ExtN H H' → Tabs T H' → (∃ x, Reach (sucP b ns ks) [(n, k)] x ∧ x.1 = 0) → Q .non H')
    (q2 : ∀ (l : Addr) (H' : Hp) (as : List (Addr × Plc)), ExtN H H' → Tabs T H' → PlcsAt H' l as → (∀ x, x ∈ as.map (·.2) ↔ Reach (sucP b ns ks) [(n, k)] x) → (∀ x, Reach (sucP b ns ks) [(n, k)] x → x.1 ≠ 0) → Dfs (sucP b ns ks) [] [(n, k)] (as.map (·.2)) → NewN H l → Q (.ref l) H') : spClosed C CN CI CU T [.ref o, .int n, nV k] H Q E := by
  have six := G.six
  obtain ⟨b2, b6⟩ := base_le G.b
  have GL : Good b ns (L.map (·.2)) := by rw [eL]; exact G
  refine ⟨_, _, _, rfl, .inr ⟨o, t, r, b, ns, L, rfl, S, .inr ⟨n, rfl, key_item k, fun c => ?_, fun _ => ⟨by omega, by omega, b6, hT, fun k2 e2 => ?_⟩⟩⟩⟩
  · rw [key_right G hk] at c
    cases c
  · cases nV_one e2
    refine ⟨manyP b n ns, start_in hk, boundN GL hn, fun H' x1 x2 x3 => ?_, fun l H' as x1 x2 x3 x4 x5 x6 => ?_⟩
    · rw [sucP_eq eL] at x3
      exact q1 H' x1 x2 x3
    · rw [sucP_eq eL] at x4 x5 x6
      exact q2 l H' as x1 x2 x3 x4 x5 x6
theorem plcs_items {H : Hp} : ∀ {as : List (Addr × Plc)}, (∀ p ∈ as, H p.1 = some (vP p.2) ∧ rightB ns (nV p.2.2) = true) → Paired (ItemIs H ns) (as.map fun p => V.ref p.1) (as.map fun p => some p.2)
  | [], _ => .nil
  | p :: as, h => .cons ⟨p.1, rfl, (h p List.mem_cons_self).1, (h p List.mem_cons_self).2⟩ (plcs_items fun q hq => h q (List.mem_cons_of_mem _ hq))
theorem ask_is {l : Addr} {as : List (Addr × Plc)} (G : Good b ns (ks.map (·.2))) (eL : L.map (·.2) = ks.map (·.2)) (hk : k ∈ none :: ns.map some) (S : SchemeAt C H o t r b ns L) (hT : Tabs T H) (PL : PlcsAt H l as) (las : as.length ≤ 100000) (ok : ∀ p ∈ as, p.2.2 ∈ none :: ns.map some)
    (q : ∀ (c : Bool) (H' : Hp), (c = true ↔ (n, k) ∈ as.map (·.2) ∧ ∀ p ∈ as, p.2.1 ≠ 0 ∧ ∀ s ∈ sucP b ns ks p.2, s ∈ as.map (·.2)) → ExtN H H' → Tabs T H' → Q (.bl c) H') : spIsClosed K C CN CI CU T [.ref o, .int n, .ref l, nV k] H Q E := by
  have six := G.six
  obtain ⟨b2, b6⟩ := base_le G.b
  refine ⟨_, _, _, _, rfl, .inr ⟨o, t, r, b, ns, L, rfl, S, .inr ⟨n, rfl, key_item k, fun c => ?_, fun _ => ⟨by omega, by omega, b6, hT, fun k2 e2 => ?_⟩⟩⟩⟩
  · rw [key_right G hk] at c
    cases c
  · cases nV_one e2
    refine ⟨some (as.map fun p => some p.2), ⟨l, _, rfl, .lst PL.1, by rw [List.length_map]; exact las, plcs_items fun p hp => ⟨PL.2 p hp, key_right G (ok p hp)⟩⟩, fun c H' hc => q c H' (hc.trans ?_)⟩
    unfold ansC
    rw [sucP_eq eL]
    have mS : ∀ x : Plc, some x ∈ (as.map fun q => some q.2) ↔ x ∈ as.map (·.2) := fun x => by
      constructor
      · intro h
        obtain ⟨e, he, ee⟩ := List.mem_map.mp h
        exact List.mem_map.mpr ⟨e, he, Option.some.inj ee⟩
      · intro h
        obtain ⟨e, he, ee⟩ := List.mem_map.mp h
        exact List.mem_map.mpr ⟨e, he, congrArg some ee⟩
    constructor
    · rintro ⟨_, h1, h2⟩
      exact ⟨(mS _).mp h1, fun p hp => ⟨(h2 p.2 ((mS _).mpr (List.mem_map.mpr ⟨p, hp, rfl⟩))).1, fun s hs => (mS _).mp ((h2 p.2 ((mS _).mpr (List.mem_map.mpr ⟨p, hp, rfl⟩))).2 s hs)⟩⟩
    · rintro ⟨h1, h2⟩
      refine ⟨fun o ho e => ?_, (mS _).mpr h1, fun q hq => ?_⟩
      · subst e
        obtain ⟨p, _, e⟩ := List.mem_map.mp ho
        cases e
      · obtain ⟨p, hp, rfl⟩ := List.mem_map.mp ((mS _).mp hq)
        exact ⟨(h2 p hp).1, fun s hs => (mS _).mpr ((h2 p hp).2 s hs)⟩
end
end K12
namespace K12
open PySem PySem.Spec PyProof.Rows L2 OF LamX NdefX
abbrev sAsked : Stmt := topS 69
section
variable {P : Program} {w : World} {K : PySem.W.Frag} {mg : Str → Option Value} {base : Heap}
theorem box_no {a c : Addr} {e : Int} {H : Hp} {α : Type} {l : List α} {f : α → Addr} (hB : Box e H a) (h : H c = some (.lst (l.map fun p => V.ref (f p)))) : c ≠ a := fun z => by
  obtain ⟨b0, b1, b2, eb, _⟩ := hB
  rw [z, eb] at h
  cases l with
  | nil => cases h
  | cons x l => cases h
theorem lev_n {a V0 : Addr} {e : Int} {H : Hp} {lv : List (Addr × List (Addr × Plc))} (hB : Box e H a) (h : LevAt H V0 lv) : ∀ H', BN a H H' → LevAt H' V0 lv := fun H' t => by
  have tn : ∀ {c : Addr} {xs : List V}, H c = some (.tup xs) → c ≠ a := fun {c xs} e z => by
    obtain ⟨b0, b1, b2, eb, _⟩ := hB
    rw [z, eb] at e
    cases e
  exact ⟨t _ _ (box_no hB h.at_) h.at_ (fun ps z => by cases z), fun p hp => ⟨t _ _ (box_no hB (h.each p hp).1) (h.each p hp).1 (fun ps z => by cases z), fun q hq => t _ _ (tn ((h.each p hp).2 q hq)) ((h.each p hp).2 q hq) (fun ps z => by cases z)⟩⟩
theorem plcs_n {a D : Addr} {e : Int} {H H' : Hp} {as : List (Addr × Plc)} (hB : Box e H a) (h : PlcsAt H D as) (t : BN a H H') : PlcsAt H' D as := by
  have tn : ∀ {c : Addr} {xs : List V}, H c = some (.tup xs) → c ≠ a := fun {c xs} e z => by
    obtain ⟨b0, b1, b2, eb, _⟩ := hB
    rw [z, eb] at e
    cases e
  exact ⟨t _ _ (box_no hB h.1) h.1 (fun ps z => by cases z), fun q hq => t _ _ (tn (h.2 q hq)) (h.2 q hq) (fun ps z => by cases z)⟩
theorem PlcsAt.extN {H H' : Hp} {L : Addr} {as : List (Addr × Plc)} (h : PlcsAt H L as) (x : ExtN H H') : PlcsAt H' L as := ⟨x _ _ h.1 (fun ps z => by cases z), fun p hp => x _ _ (h.2 p hp) (fun ps z => by cases z)⟩
theorem newN_n {a l : Addr} {T : List (Addr × Str)} {e : Int} {H H' : Hp} (R : Rn a T H e H') (hN : NewN H' l) : l ≠ a ∧ NewN H l := by
  have na : l ≠ a := fun z => by
    obtain ⟨b0, b1, b2, eb, _⟩ := R.B
    rw [← z] at eb
    obtain ⟨ps, e⟩ := hN _ eb
    cases e
  refine ⟨na, fun o e => Classical.byContradiction fun no => ?_⟩
  have z := R.t _ _ na e (fun ps h => no ⟨ps, h⟩)
  exact no (hN _ z)
theorem seq_cut4 {A1 A2 A3 A4 B : TS} {D : Ends} {σ : L2.St} {H : Hp} (I : L2.St → Hp → Prop) (hB : ∀ σ' H', I σ' H' → B D σ' H') (hA : ∀ N : L2.St → Hp → Prop, (∀ σ' H', I σ' H' → N σ' H') → tSeq A1 (tSeq A2 (tSeq A3 A4)) { D with nx := N } σ H) : tSeq A1 (tSeq A2 (tSeq A3 (tSeq A4 B))) D σ H := hA _ hB
/-- does a level have a rest 0? -/
def zAt (lv : List (Addr × List (Addr × Plc))) (j : Nat) : Bool := match lv[j]? with
  | some p => !((p.2.filter fun q => decide (q.2.1 = 0)).map fun q => V.int q.2.1).isEmpty
  | none => false
theorem zAt_iff {lv : List (Addr × List (Addr × Plc))} {j : Nat} : zAt lv j = true ↔ ∃ p, lv[j]? = some p ∧ ∃ x, x ∈ p.2.map (·.2) ∧ x.1 = 0 := by
  unfold zAt
  cases h : lv[j]? with
  | none => exact ⟨(fun z => by cases z), fun ⟨p, z, _⟩ => by cases z⟩
  | some p =>
    show (!((p.2.filter fun q => decide (q.2.1 = 0)).map fun q => V.int q.2.1).isEmpty) = true ↔ _
    cases hf : p.2.filter fun q => decide (q.2.1 = 0) with
    | nil =>
      refine ⟨(fun z => by cases z), fun ⟨p2, e, x, hx, x0⟩ => ?_⟩
      cases e
      obtain ⟨q, hq, rfl⟩ := List.mem_map.mp hx
      have := List.filter_eq_nil_iff.mp hf q hq
      exact absurd (decide_eq_true x0) this
    | cons q l =>
      have hq : q ∈ p.2.filter fun q => decide (q.2.1 = 0) := by rw [hf]; exact List.mem_cons_self
      obtain ⟨h1, h2⟩ := List.mem_filter.mp hq
      exact ⟨fun _ => ⟨p, rfl, q.2, List.mem_map.mpr ⟨q, h1, rfl⟩, of_decide_eq_true h2⟩, fun _ => rfl⟩
def sizesOf (lv : List (Addr × List (Addr × Plc))) : List Nat := (List.range lv.length).filter (zAt lv)
section
variable {b : Int} {ns : List Int} {ks : List (Addr × (Int × Int))} {p0 : Plc} {lv : List (Addr × List (Addr × Plc))}
theorem sizes_mem (lev : LevelsAre b ns ks p0 lv) {j : Nat} : j ∈ sizesOf lv ↔ j < lv.length ∧ ∃ x, Lvl (sucP b ns ks) p0 j x ∧ x.1 = 0 := by
  unfold sizesOf
  rw [List.mem_filter, List.mem_range, zAt_iff]
  constructor
  · rintro ⟨h, p, e, x, hx, x0⟩
    exact ⟨h, x, (lev j p e x).mp hx, x0⟩
  · rintro ⟨h, x, lx, x0⟩
    have e : lv[j]? = some (lv[j]'h) := by simp [h]
    exact ⟨h, _, e, x, (lev j _ e x).mpr lx, x0⟩
theorem sizes_nil (lev : LevelsAre b ns ks p0 lv) (re : ∀ x, x ∈ (lv.map (·.2)).flatten.map (·.2) ↔ Reach (sucP b ns ks) [p0] x) : (sizesOf lv).isEmpty = true ↔ ∀ x, Reach (sucP b ns ks) [p0] x → x.1 ≠ 0 := by
  rw [List.isEmpty_iff]
  constructor
  · intro e x rx x0
    obtain ⟨i, p, hp, hx⟩ := flat_lvl.mp ((re x).mpr rx)
    have : i ∈ sizesOf lv := (sizes_mem lev).mpr ⟨(List.getElem?_eq_some_iff.mp hp).1, x, (lev i p hp x).mp hx, x0⟩
    rw [e] at this
    cases this
  · intro h
    refine List.eq_nil_iff_forall_not_mem.mpr fun j hj => ?_
    obtain ⟨_, x, lx, x0⟩ := (sizes_mem lev).mp hj
    exact h x lx.1.reach x0
theorem sizes_first (lev : LevelsAre b ns ks p0 lv) {s : Nat} {l : List Nat} (e : sizesOf lv = s :: l) : s < lv.length ∧ (∃ x, Lvl (sucP b ns ks) p0 s x ∧ x.1 = 0) ∧ ∀ i x, i < s → Lvl (sucP b ns ks) p0 i x → x.1 ≠ 0 := by
  have ms : s ∈ sizesOf lv := by rw [e]; exact List.mem_cons_self
  obtain ⟨h1, h2⟩ := (sizes_mem lev).mp ms
  refine ⟨h1, h2, fun i x hi lx x0 => ?_⟩
  have mi := (sizes_mem lev).mpr ⟨by omega, x, lx, x0⟩
  have srt : (sizesOf lv).Pairwise (· < ·) := List.Pairwise.filter _ List.pairwise_lt_range
  rw [e] at mi srt
  rcases List.mem_cons.mp mi with h | h
  · omega
  · have := (List.pairwise_cons.mp srt).1 i h
    omega
end
/-- what is asked of one number -/
def spAsked (C : Addr) (T : List (Addr × Str)) : Sp := fun vs H Q _ => ∃ (a m o dl pl t r : Addr) (n b e0 : Int) (k : KeyN) (ns : List Int) (ks L : List (Addr × (Int × Int))), vs = [.ref a, .ref m, .ref o, .int n, nV k] ∧ Good b ns (ks.map (·.2)) ∧ L.map (·.2) = ks.map (·.2) ∧ ModN a H m dl pl b ns ks ∧
  (∀ H', BN a H H' → SchemeAt C H' o t r b ns L) ∧ Box e0 H a ∧ e0 ≤ 900000 ∧ Tabs T H ∧ k ∈ none :: ns.map some ∧ n.natAbs < 10 ^ 30 ∧
  ∀ H', Rn a T H (e0 + 1) H' → Q (.bl true) H'
theorem cut_take {xs : List V} {j : Nat} (h : j ≤ xs.length) : cutV xs none (some (j : Int)) = xs.take j := by
  unfold cutV
  rw [HT.sIx_none, HT.sIx_nat, Nat.min_eq_left h]
  rfl
theorem Rn.storeN {a p : Addr} {T : List (Addr × Str)} {H0 H : Hp} {k : Int} {l : List V} {o : HO} (h : Rn a T H0 k H) (hp : NewN H0 p) (ne : p ≠ a) (e : H p = some (.lst l)) : Rn a T H0 k (upd H p o) := by
  refine ⟨fun b u nb hb kk => ?_, h.B.upd ne, fun q hq => ?_⟩
  · have n : b ≠ p := fun z => by
      rw [z] at hb
      obtain ⟨ps, e⟩ := hp _ hb
      exact kk ps e
    rw [upd_ne n]
    exact h.t b u nb hb kk
  · obtain ⟨ps, h1, h2, h3⟩ := h.T q hq
    refine ⟨ps, ?_, h2, fun pos cv hc => ?_⟩
    · rw [upd_ne (fun z => by rw [z, e] at h1; cases h1)]
      exact h1
    · obtain ⟨c, e1, e2⟩ := h3 pos cv hc
      refine ⟨c, e1, ?_⟩
      rw [upd_ne (fun z => by rw [z, e] at e2; cases e2)]
      exact e2
theorem dfs_nodup {α : Type} {succ : α → List α} {ks st r : List α} (d : Dfs succ ks st r) : ks.Nodup → r.Nodup := by
  induction d with
  | done _ => exact id
  | skip _ _ _ ih => exact ih
  | more _ h _ ih => exact fun n => ih (nodup_snoc n h)
theorem jdg_one {ns : List Int} {ks : List (Addr × (Int × Int))} {d : Int} {k : KeyN} (h : jdg ns ks (.int d) (nV k) = true) : d ∈ ns := by
  have one : isOne ns d = true := by
    cases k with
    | none => exact h
    | some y =>
      have z : (isOne ns d && (isOne ns y && !hasBar ks d y)) = true := h
      rw [Bool.and_eq_true] at z
      exact z.1
  unfold isOne at one
  rw [Bool.and_eq_true, decide_eq_true_eq] at one
  exact one.2
theorem FR.mem {b : Int} {ns : List Int} {ks : List (Addr × (Int × Int))} {p0 p : Plc} {i : Nat} {ls : List Int} (h : FR b ns ks p0 i p ls) : ∀ x ∈ ls, x ∈ ns := by
  induction h with
  | zero => exact fun x h => by cases h
  | @step i r d k ls f _ ih =>
    intro x hx
    rcases List.mem_cons.mp hx with rfl | hx
    · obtain ⟨l1, l2, e, _, _⟩ := f
      have : k ∈ rightsOf ns ks x := by rw [e]; exact List.mem_append_right _ List.mem_cons_self
      exact jdg_one (List.mem_filter.mp this).2
    · exact ih x hx
theorem FR.row {b : Int} {ns : List Int} {ks : List (Addr × (Int × Int))} {p0 p : Plc} {i : Nat} {ls : List Int} (G : Good b ns (ks.map (·.2))) (h : FR b ns ks p0 i p ls) : rowI ns (ks.map (·.2)) ls = true := by
  refine rowI_of h.mem (adjR_iff.mpr fun j x y hx hy => ?_)
  have lj := (List.getElem?_eq_some_iff.mp hx).1
  have lj2 := (List.getElem?_eq_some_iff.mp hy).1
  have e : ls = ls.take j ++ x :: y :: ls.drop (j + 2) := by
    have e1 : ls.drop j = x :: ls.drop (j + 1) := by
      rw [List.drop_eq_getElem_cons lj]
      congr 1
      exact (List.getElem?_eq_some_iff.mp hx).2
    have e2 : ls.drop (j + 1) = y :: ls.drop (j + 2) := by
      rw [List.drop_eq_getElem_cons lj2]
      congr 1
      exact (List.getElem?_eq_some_iff.mp hy).2
    rw [← e2, ← e1, List.take_append_drop]
  have z := h.adj _ _ x y e
  have mx := h.mem x (List.mem_of_getElem? hx)
  have my := h.mem y (List.mem_of_getElem? hy)
  have z2 := (jdg_fits G (k := some y) mx (List.mem_cons_of_mem _ (List.mem_map.mpr ⟨y, my, rfl⟩))).symm.trans z
  have z3 : (!hasP (ks.map (·.2)) x y) = true := z2
  rw [Bool.not_eq_true'] at z3
  exact z3
abbrev nAk : List Str := ["_law_box_here", "_law_model", "_law_house", "_law_amount", "_law_beside", "_law_levels", "_law_sizes", "_law_first", "_law_told", "_law_row", "_law_kept", "_law_k", "_law_rest", "_law_digit"]
theorem scAk : FnScope nAk ["_law_box_here", "_law_model", "_law_house", "_law_amount", "_law_beside"] (defScope sAsked) := ⟨rfl, rfl, rfl, by decide +kernel, rfl, by decide +kernel, by decide +kernel⟩
set_option maxHeartbeats 4000000 in
theorem ok_asked {f fT fM fL fG fW fC fF fR fO C CN CI CU : Addr} {fd fdT fdM fdL fdG fdW fdC fdF fdR fdO : FuncData} {T : List (Addr × Str)} (F : Fun K "_law_asked" "_law_asked" sAsked f fd)
    (GM : FnOk P w K mg base CX0 4 fM fdM ["_law_model", "_law_place"] (spMet)) (gM : mg "_law_met" = some (.ref fM)) (kM : PySem.W.keepIn K (.ref fM) = true) (bM : Binds K fdM ["_law_model", "_law_place"] [])
    (GL : FnOk P w K mg base (L2.CX P w) 10 fL fdL ["scheme", "number", "right"] (spClosed C CN CI CU T)) (gL : mg "closed_list" = some (.ref fL)) (kL : PySem.W.keepIn K (.ref fL) = true) (bL : Binds K fdL ["scheme", "number", "right"] [])
    (GG : FnOk P w K mg base (L2.CX P w) 10 fG fdG ["scheme", "number", "right"] (spWriting C CN CI CU T)) (gG : mg "writing" = some (.ref fG)) (kG : PySem.W.keepIn K (.ref fG) = true) (bG : Binds K fdG ["scheme", "number", "right"] [])
    (GW : FnOk P w K mg base (L2.CX P w) 10 fW fdW ["scheme", "number", "right"] (spWritten C CN CI CU T)) (gW : mg "is_written" = some (.ref fW)) (kW : PySem.W.keepIn K (.ref fW) = true) (bW : Binds K fdW ["scheme", "number", "right"] [])
    (GC : FnOk P w K mg base (L2.CX P w) 10 fC fdC ["scheme", "number", "value", "right"] (spIsClosed K C CN CI CU T)) (gC : mg "is_closed_list" = some (.ref fC)) (kC : PySem.W.keepIn K (.ref fC) = true) (bC : Binds K fdC ["scheme", "number", "value", "right"] [])
    (GF : FnOk P w K mg base CX0 3 fF fdF ["_law_model", "_law_levels"] (spFirstRow)) (gF : mg "_law_first_row" = some (.ref fF)) (kF : PySem.W.keepIn K (.ref fF) = true) (bF : Binds K fdF ["_law_model", "_law_levels"] [])
    (GR : FnOk P w K mg base CX0 3 fR fdR ["_law_model", "_law_amount", "_law_beside", "_law_row", "_law_size"] (spRowRight)) (gR : mg "_law_row_right" = some (.ref fR)) (kR : PySem.W.keepIn K (.ref fR) = true) (bR : Binds K fdR ["_law_model", "_law_amount", "_law_beside", "_law_row", "_law_size"] [])
    (GO : FnOk P w K mg base CX0 4 fO fdO ["_law_model", "_law_place", "_law_told"] (spLClosed)) (gO : mg "_law_closed" = some (.ref fO)) (kO : PySem.W.keepIn K (.ref fO) = true) (bO : Binds K fdO ["_law_model", "_law_place", "_law_told"] [])
    (FT : Fun K "_law_take" "_law_take" sTake fT fdT) (gT : mg "_law_take" = some (.ref fT)) (bT : Binds K fdT ["_law_box_here", "_law_many"] [])
    (mi : mg "int" = none) (ml : mg "len" = none) (mr : mg "range" = none) (mli : mg "list" = none) (mrp : mg "repr" = none) : FnOk P w K mg base CX0 11 f fd ["_law_box_here", "_law_model", "_law_house", "_law_amount", "_law_beside"] (spAsked C T) := by
  have GT : FnOk P w K mg base CX0 1 fT fdT ["_law_box_here", "_law_many"] spTake := ok_take FT mi
  refine F.ok scAk (fun vs H Q E h => ?_) (fun cdv A outer s H vs Q E hr h => ?_)
  · obtain ⟨a, m, o, dl, pl, t, r, n, b, e0, k, ns, ks, L, rfl, _⟩ := h
    rfl
  · obtain ⟨a, m, o, dl, pl, t, r, n, b, e0, k, ns, ks, L, rfl, G, eL, MN, SN, hB, he0, hT, hk, hn, q⟩ := h
    have hr1 : Room 1 _ := hr.mono (by decide)
    have hr3 : Room 3 _ := hr.mono (by decide)
    have hr4 : Room 4 _ := hr.mono (by decide)
    apply Exists.intro
    apply And.intro
    · apply pss_cons
      · exact ps_set (i := 5) scAk.nd rfl (.inr rfl) (pe_call GM hr4 (by rfl) gM kM bM .nil pass0 (pa_cons (pv 1) (pa_cons (pe_tup (pa_cons (pv 3) (pa_cons (pv 4) pa_nil))) pa_nil)))
      apply pss_cons
      · exact ps_setLc (i := 6) (own := [("_law_k", 11)]) (g := gName 11) (tt := tTest (tOp (rNeNil K) (tLc (iList K (tOp (rIxL K) (tVar 5) (tVar 11))) (gTup K 2 (gCons (gName 12) (gCons (gName 13) gNil))) (tTest (tOp rEq (tVar 12) (tC (.int 0)))) (tVar 12) [12, 13]) (tLst tNil))) (te := tVar 11) rfl scAk.nd rfl rfl (sw_true rfl rfl rfl (by decide +kernel)) (pi_range1 rfl mr (pa_cons (pe_callB call_len_seq (by rfl) ml PySem.boot_len (pa_cons (pv 5) pa_nil)) pa_nil)) (blkOk_by (own := [("_law_k", 11)]) (N := nAk) (sc := defScope sAsked) (by decide +kernel)) (fun _ _ _ _ _ => pg_name (i := 11) scAk.nd rfl (Or.inl rfl))
            (fun _ _ _ _ _ => by exact (pts_one (pt_cmpR (op_neNil hr.units) (by exact (pe_lc (own := [("_law_rest", 12), ("_law_digit", 13)]) (g := gTup K 2 (gCons (gName 12) (gCons (gName 13) gNil))) (tt := tTest (tOp rEq (tVar 12) (tC (.int 0)))) (te := tVar 12) rfl scAk.nd (pi_list (pe_ix ix_list (pv 5) (pv 11) (fun _ _ => rfl))) (blkOk_by (own := [("_law_rest", 12), ("_law_digit", 13)]) (N := nAk) (sc := ⟨.function, [(".0", .local), ("_law_k", .local), ("_law_levels", .cell)], false, false, []⟩) (by decide +kernel)) (fun _ _ _ _ _ => by exact (pg_tup rfl (pgs_cons (pg_name (i := 12) scAk.nd rfl (Or.inl rfl)) (pgs_cons (pg_name (i := 13) scAk.nd rfl (Or.inl rfl)) pgs_nil)))) (fun _ _ _ _ _ => by exact (pts_one (pt_cmpR op_eq (pv 12) pe_int (nomark _)))) (fun _ _ _ _ _ => by exact (pv 12)))) (pe_lst pa_nil) rfl))) (fun _ _ _ _ _ => by exact (pv 11))
      apply pss_cons
      · exact ps_set (i := 7) scAk.nd rfl (.inl rfl) (pe_call GT hr1 (by rfl) gT FT.kp bT .nil pass0 (pa_cons (pv 0) (pa_cons pe_int pa_nil)))
      apply pss_cons
      · exact ps_set (i := 8) scAk.nd rfl (.inl rfl) (pe_ifExp (pt_cmpR op_eq (pv 7) pe_int (nomark _)) (pe_call GL hr (by rfl) gL kL bL .nil passNo (pa_cons (pv 2) (pa_cons (pv 3) (pa_cons (pv 4) pa_nil)))) pe_non)
      apply pss_cons
      · exact ps_set (i := 9) scAk.nd rfl (.inl rfl) (pe_call GG hr (by rfl) gG kG bG .nil passNo (pa_cons (pv 2) (pa_cons (pv 3) (pa_cons (pv 4) pa_nil))))
      apply pss_cons
      · exact ps_set (i := 8) scAk.nd rfl (.inl rfl) (pe_ifExp (pt_cmpR op_eq (pv 7) pe_int (nomark _)) (pe_call GL hr (by rfl) gL kL bL .nil passNo (pa_cons (pv 2) (pa_cons (pv 3) (pa_cons (pv 4) pa_nil)))) (pv 8))
      apply pss_cons
      · exact ps_if (PW.pt (pw_or (pt_cmpR op_ne (pe_callB call_repr_bool (by rfl) mrp PyProof.Rows.boot_repr (pa_cons (pe_call GW hr (by rfl) gW kW bW .nil passNo (pa_cons (pv 2) (pa_cons (pv 3) (pa_cons (pv 4) pa_nil)))) pa_nil)) (pe_callB call_repr_bool (by rfl) mrp PyProof.Rows.boot_repr (pa_cons (pe_cmpR (op_neNil hr.units) (pv 6) (pe_lst pa_nil) rfl) pa_nil)) (nomark _)) (pw_or1 (pt_cmpR op_ne (pe_cmpR op_notN (pv 9) pe_non (nomark _)) (pe_cmpR (op_neNil hr.units) (pv 6) (pe_lst pa_nil) rfl) (nomark _))))) (pss_one (ps_ret pe_bl)) pss_nil
      apply pss_cons
      · exact ps_if (pt_cmpR (op_neNil hr.units) (pv 6) (pe_lst pa_nil) rfl) (pss_cons (ps_if (PW.pt (pw_or (pt_cmpR op_notN (pv 8) pe_non (nomark _)) (pw_or1 (pt_cmpR (op_neD hr.units) (pv 9) (pe_call GF hr3 (by rfl) gF kF bF .nil pass0 (pa_cons (pv 1) (pa_cons (pe_slice sl_list (pv 5) po_none (po_some (pe_op op_add (pe_ix ix_list (pv 6) pe_int (fun _ _ => rfl)) pe_int))) pa_nil))) (nomark _))))) (pss_one (ps_ret pe_bl)) pss_nil) (pss_one (ps_ret (pe_call GR hr3 (by rfl) gR kR bR .nil pass0 (pa_cons (pv 1) (pa_cons (pv 3) (pa_cons (pv 4) (pa_cons (pv 9) (pa_cons (pe_ix ix_list (pv 6) pe_int (fun _ _ => rfl)) pa_nil))))))))) pss_nil
      apply pss_cons
      · exact ps_if (PW.pt (pw_or (pt_cmpR op_isN (pv 8) pe_non (nomark _)) (pw_or1 (pt_not (pt_val (pe_call GO hr4 (by rfl) gO kO bO .nil pass0 (pa_cons (pv 1) (pa_cons (pe_tup (pa_cons (pv 3) (pa_cons (pv 4) pa_nil))) (pa_cons (pv 8) pa_nil))))))))) (pss_one (ps_ret pe_bl)) pss_nil
      apply pss_cons
      · exact ps_if (pt_not (pt_val (pe_call GC hr (by rfl) gC kC bC .nil passNo (pa_cons (pv 2) (pa_cons (pv 3) (pa_cons (pv 8) (pa_cons (pv 4) pa_nil))))))) (pss_one (ps_ret pe_bl)) pss_nil
      apply pss_cons
      · exact ps_set (i := 10) scAk.nd rfl (.inl rfl) (pe_callTy call_list_of (by rfl) mli PyProof.Rows.boot_list (pa_cons (pv 8) pa_nil))
      apply pss_cons
      · exact ps_expr (pe_bm0 PySem.F.plainAttrs_list PySem.F.slot_list_clear PySem.F.type_list_clear mt_clear (pv 8))
      apply pss_one
      · exact ps_ret (pe_and (pe_cmpR op_isBl (pe_call GC hr (by rfl) gC kC bC .nil passNo (pa_cons (pv 2) (pa_cons (pv 3) (pa_cons (pv 8) (pa_cons (pv 4) pa_nil))))) pe_bl rfl) (pe_one (pe_cmpR (op_eqD hr.units) (pe_call GL hr (by rfl) gL kL bL .nil passNo (pa_cons (pv 2) (pa_cons (pv 3) (pa_cons (pv 4) pa_nil)))) (pv 10) (nomark _))))
    have Z0 : Rn a T H e0 H := ⟨BN.refl, hB, hT⟩
    have BU := boundN (n := n) G hn
    refine ⟨.ref m, rfl, .int n, rfl, nV k, rfl, (by show 2 ≤ sizeLine; decide), fun T1 hT1 => ?_⟩
    have Z1 := Z0.new (o := .tup [.int n, nV k]) hT1
    have e1 : upd H T1 (.tup [.int n, nV k]) T1 = some (vP (n, k)) := upd_same
    generalize upd H T1 (.tup [.int n, nV k]) = H1 at Z1 e1 ⊢
    refine ⟨m, dl, pl, T1, b, ns, ks, (n, k), manyP b n ns, rfl, MN _ Z1.t, G, e1, start_in hk, BU, fun V0 lv H2 s2 LV nd lK re lev => ?_⟩
    have R2 := Z1.same s2
    have LVN := lev_n R2.B LV
    have lev : LevelsAre b ns ks (n, k) lv := lev
    have MN := MN.bn R2.t
    have SN : ∀ H', BN a H2 H' → SchemeAt C H' o t r b ns L := fun H' x => SN H' (R2.t.trans x)
    have q2 : ∀ H', Rn a T H2 (e0 + 1) H' → Q (.bl true) H' := fun H' x => q H' ⟨R2.t.trans x.t, x.B, x.T⟩
    have Z2 : Rn a T H2 e0 H2 := ⟨BN.refl, R2.B, R2.T⟩
    have lfew : ∀ p ∈ lv, p.2.length ≤ 100000 := fun p hp => by
      have z := nodup_le (((lv.map (·.2)).flatten).map (·.2)) (manyP b n ns) nd fun x hx => Reach.all (p := fun x => x ∈ manyP b n ns) (fun x hx => by
        cases List.mem_singleton.mp hx
        exact start_in hk) (fun x hx y hy => BU.cl x hx y hy) ((re x).mp hx)
      rw [List.length_map] at z
      have z2 : p.2.length ≤ ((lv.map (·.2)).flatten).length := (List.sublist_flatten_of_mem (List.mem_map.mpr ⟨p, hp, rfl⟩)).length_le
      exact Nat.le_trans z2 (Nat.le_trans z BU.len)
    clear R2 Z1 q hT hB LV s2 e1 hT1 Z0
    have e2V := (LVN _ BN.refl).at_
    refine ⟨.ref V0, rfl, V0, _, rfl, .inl (SqL.of e2V), _, rfl, by omega, by rw [List.length_map]; omega, fun D hD => ?_⟩
    rw [show (((lv.map fun p => V.ref p.1).length : Int)).toNat = lv.length by rw [List.length_map]; omega]
    refine lc_range (lo := 0) (n := lv.length) (fun i H' => Same H2 H' ∧ H' D = some (.lst (((List.range i).filter (zAt lv)).map fun j : Nat => V.int (j : Int)))) ⟨same_new hD, upd_same⟩ ?_ ?_
    · rintro i H3 hi ⟨s3, e3⟩
      have gp : lv[i]? = some (lv[i]'hi) := by simp [hi]
      have mp := List.mem_of_getElem? gp
      generalize lv[i]'hi = p at gp mp
      have L3 := LVN _ (.same s3)
      have P3 := L3.each p mp
      refine ⟨rfl, .ref V0, rfl, .int (0 + (i : Int)), rfl, V0, _, _, .ref p.1, rfl, rfl, SqL.of L3.at_, ?_, p.1, rfl, ⟨_, SqL.of P3.1⟩, fun D3 hD3 => ?_⟩
      · rw [show (0 : Int) + (i : Int) = ((i : Nat) : Int) by omega]
        exact atI_nat (by rw [List.getElem?_map, gp]; rfl)
      refine lc_list (K := K) (a := p.1) (xs := p.2.map fun p => V.ref p.1) (fun j H' => Same H3 H' ∧ H' D3 = some (.lst (((p.2.take j).filter fun q => decide (q.2.1 = 0)).map fun q => V.int q.2.1))) ⟨same_new hD3, upd_same⟩ (fun j H' _ h => SqL.of (h.1 _ _ P3.1)) ?_ ?_
      · rintro j x H4 hx ⟨s4, e4⟩
        obtain ⟨q1, hq1, rfl⟩ := get_map (f := fun p : Addr × Plc => V.ref p.1) hx
        have m1 := List.mem_of_getElem? hq1
        refine ⟨q1.1, _, rfl, SqT.of (s4 _ _ (P3.2 q1 m1)), rfl, _, _, rfl, _, _, rfl, rfl, rfl, .int q1.2.1, rfl, rfl, _, rfl, ?_⟩
        by_cases h0 : q1.2.1 = 0
        · rw [decide_eq_true (congrArg V.int h0)]
          refine iteT ⟨.int q1.2.1, rfl, _, e4, ?_, Same.store s4 hD3, ?_⟩
          · rw [List.length_map]
            exact big18 (Nat.le_trans (List.length_filter_le _ _) (Nat.le_trans (List.length_take_le' _ _) (lfew p mp)))
          · rw [upd_same, take_more hq1, List.filter_append, List.map_append]
            simp [h0]
        · rw [decide_eq_false fun z => h0 (V.int.inj z)]
          refine iteF ⟨s4, ?_⟩
          rw [e4, take_more hq1, List.filter_append]
          simp [h0]
      rintro H4 ⟨s4, e4⟩
      rw [List.length_map, List.take_length] at e4
      refine ⟨(by show 0 ≤ sizeLine; decide), fun E0 hE0 => ?_⟩
      have s5 := same_new (o := .lst []) hE0
      have e5 : upd H4 E0 (.lst []) E0 = some (.lst []) := upd_same
      generalize upd H4 E0 (.lst []) = H5 at s5 e5 ⊢
      have s35 := s4.trans s5
      have D5 := s35 _ _ e3
      refine ⟨D3, E0, _, rfl, rfl, SqL.of (s5 _ _ e4), SqL.of e5, _, rfl, ?_⟩
      have ez : zAt lv i = !((p.2.filter fun q => decide (q.2.1 = 0)).map fun q => V.int q.2.1).isEmpty := by
        unfold zAt
        rw [gp]
      rw [← ez]
      have er : List.range (i + 1) = List.range i ++ [i] := List.range_succ
      cases hz : zAt lv i with
      | true =>
        refine iteT ⟨.int (0 + (i : Int)), rfl, _, D5, ?_, Same.store (s3.trans s35) hD, ?_⟩
        · rw [List.length_map]
          have := List.length_filter_le (zAt lv) (List.range i)
          rw [List.length_range] at this
          unfold sizeLine
          omega
        · rw [upd_same, er, List.filter_append, List.map_append]
          simp [hz]
      | false =>
        refine iteF ⟨s3.trans s35, ?_⟩
        rw [D5, er, List.filter_append]
        simp [hz]
    rintro H3 ⟨s3, e3⟩
    have e3 : H3 D = some (.lst ((sizesOf lv).map fun j : Nat => V.int (j : Int))) := e3
    have Z3 := Z2.same s3
    have nD : D ≠ a := fun z => by
      obtain ⟨b0, b1, b2, eb, _⟩ := Z2.B
      rw [z, eb] at hD
      cases hD
    have DN : ∀ H', BN a H3 H' → H' D = some (.lst ((sizesOf lv).map fun j : Nat => V.int (j : Int))) := fun H' x => x _ _ nD e3 (fun ps z => by cases z)
    have MN := MN.bn Z3.t
    have SN : ∀ H', BN a H3 H' → SchemeAt C H' o t r b ns L := fun H' x => SN H' (Z3.t.trans x)
    have LVN : ∀ H', BN a H3 H' → LevAt H' V0 lv := fun H' x => LVN H' (Z3.t.trans x)
    have q3 : ∀ H', Rn a T H3 (e0 + 1) H' → Q (.bl true) H' := fun H' x => q2 H' ⟨Z3.t.trans x.t, x.B, x.T⟩
    have Y3 : Rn a T H3 e0 H3 := ⟨BN.refl, Z3.B, Z3.T⟩
    clear Z3 Z2 e3 nD s3 hD q2 e2V
    dsimp only [gName]
    refine seq_cut4 (fun σ' H' => ∃ (g : Int) (told row : V), σ' = [some (.ref a), some (.ref m), some (.ref o), some (.int n), some (nV k), some (.ref V0), some (.ref D), some (.int g), some told, some row, none, none, none, none] ∧ Rn a T H3 (e0 + 1) H' ∧
      ((told = .non ∧ ∃ (tp : Addr) (mm : Nat) (ls : List Int), row = .ref tp ∧ FirstRow b ns ks (n, k) mm ls ∧ ls.length = mm ∧ H' tp = some (.tup (ls.map V.int)) ∧ mm ≤ 100000) ∨
       (row = .non ∧ ∃ (l : Addr) (as : List (Addr × Plc)), told = .ref l ∧ PlcsAt H' l as ∧ (∀ x, x ∈ as.map (·.2) ↔ Reach (sucP b ns ks) [(n, k)] x) ∧ (∀ x, Reach (sucP b ns ks) [(n, k)] x → x.1 ≠ 0) ∧ Dfs (sucP b ns ks) [] [(n, k)] (as.map (·.2)) ∧ l ≠ a ∧ NewN H3 l))) ?_ (fun N hN => ?_)
    · rintro σ H4 ⟨g, told, row, rfl, Z4, h⟩
      have eb : ∀ {c : Bool}, (c = true ↔ ∃ x, Reach (sucP b ns ks) [(n, k)] x ∧ x.1 = 0) → c = !(sizesOf lv).isEmpty := fun {c} hc => by
        have z := sizes_nil lev re
        cases hs : (sizesOf lv).isEmpty with
        | true =>
          have no := z.mp hs
          cases c with
          | false => rfl
          | true =>
            obtain ⟨x, rx, x0⟩ := hc.mp rfl
            exact absurd x0 (no x rx)
        | false =>
          cases c with
          | true => rfl
          | false =>
            exfalso
            have no : ∀ x, Reach (sucP b ns ks) [(n, k)] x → x.1 ≠ 0 := fun x rx x0 => by
              have := hc.mpr ⟨x, rx, x0⟩
              cases this
            rw [z.mpr no] at hs
            cases hs
      have em : ((sizesOf lv).map fun j : Nat => V.int (j : Int)).isEmpty = (sizesOf lv).isEmpty := List.isEmpty_map
      refine ⟨.ref o, rfl, .int n, rfl, nV k, rfl, ask_wr G eL hk hn (SN _ Z4.t) Z4.T fun c H5 hc x5 T5 => ?_⟩
      have ec := eb hc
      subst ec
      have Z5 := Z4.ext x5 T5
      refine ⟨_, rfl, .ref D, rfl, (by show 0 ≤ sizeLine; decide), fun E1 hE1 => ?_⟩
      have Z6 := Z5.new (o := .lst []) hE1
      have s6 := same_new (o := .lst []) hE1
      have e6 : upd H5 E1 (.lst []) E1 = some (.lst []) := upd_same
      generalize upd H5 E1 (.lst []) = H6 at Z6 s6 e6 ⊢
      refine ⟨D, E1, _, rfl, rfl, SqL.of (DN _ Z6.t), SqL.of e6, ?_⟩
      rw [em]
      refine ⟨_, rfl, rfl, _, rfl, iteFB (neSame rfl) ?_⟩
      refine ⟨row, rfl, rfl, .ref D, rfl, (by show 0 ≤ sizeLine; decide), fun E2 hE2 => ?_⟩
      have Z7 := Z6.new (o := .lst []) hE2
      have s7 := same_new (o := .lst []) hE2
      have e7 : upd H6 E2 (.lst []) E2 = some (.lst []) := upd_same
      generalize upd H6 E2 (.lst []) = H7 at Z7 s7 e7 ⊢
      refine ⟨D, E2, _, rfl, rfl, SqL.of (DN _ Z7.t), SqL.of e7, ?_⟩
      rw [em]
      have x7 : ExtN H4 H7 := x5.trans (ExtN.of (s6.trans s7))
      rcases h with ⟨rfl, tp, mm, ls, rfl, fr, len, etp, m5⟩ | ⟨rfl, l, as, rfl, PL, re2, no, df, nl, nw⟩
      · have ne : (sizesOf lv).isEmpty = false := by
          obtain ⟨x, h1, h2, _⟩ := fr.ex
          exact (Bool.not_eq_true _).mp fun z => (sizes_nil lev re).mp z x h1.1.reach h2
        rw [ne]
        refine ⟨rfl, _, rfl, iteFB rfl ?_⟩
        refine ⟨.ref D, rfl, (by show 0 ≤ sizeLine; decide), fun E3 hE3 => ?_⟩
        have Z8 := Z7.new (o := .lst []) hE3
        have s8 := same_new (o := .lst []) hE3
        have e8 : upd H7 E3 (.lst []) E3 = some (.lst []) := upd_same
        generalize upd H7 E3 (.lst []) = H8 at Z8 s8 e8 ⊢
        refine ⟨D, E3, _, rfl, rfl, SqL.of (DN _ Z8.t), SqL.of e8, ?_⟩
        rw [em, ne]
        refine ⟨_, rfl, iteTB rfl ?_⟩
        refine ⟨.non, rfl, rfl, _, rfl, iteFB rfl ?_⟩
        obtain ⟨s0, sl, es⟩ : ∃ s0 sl, sizesOf lv = s0 :: sl := by
          cases h : sizesOf lv with
          | nil => rw [h] at ne; cases ne
          | cons s0 sl => exact ⟨s0, sl, rfl⟩
        obtain ⟨h1, h2, h3⟩ := sizes_first lev es
        have em2 : mm = s0 := by
          obtain ⟨x, lx, x0⟩ := h2
          obtain ⟨y, ly, y0, _⟩ := fr.ex
          rcases Nat.lt_trichotomy mm s0 with z | z | z
          · exact absurd y0 (h3 mm y z ly)
          · exact z
          · exact absurd x0 (fr.no s0 x z lx)
        subst em2
        have ixD : ∀ H', BN a H3 H' → SqL K H' D ((sizesOf lv).map fun j : Nat => V.int (j : Int)) := fun H' x => SqL.of (DN H' x)
        have at0 : atI ((sizesOf lv).map fun j : Nat => V.int (j : Int)) 0 = some (.int (mm : Int)) := by
          rw [es]
          exact atI_nat (j := 0) rfl
        have L8 := LVN _ Z8.t
        refine ⟨.ref tp, rfl, .ref m, rfl, .ref V0, rfl, .ref D, rfl, D, _, 0, .int (mm : Int), rfl, rfl, ixD _ Z8.t, at0, _, _, rfl, rfl, _, rfl, V0, _, rfl, SqL.of L8.at_, fun V1 hV1 => ?_⟩
        have lt1 : mm + 1 ≤ lv.length := h1
        have ecut : cutV (lv.map fun p => V.ref p.1) none (some ((mm : Int) + 1)) = (lv.take (mm + 1)).map fun p => V.ref p.1 := by
          rw [show ((mm : Int) + 1) = ((mm + 1 : Nat) : Int) by omega, cut_take (by rw [List.length_map]; exact lt1), List.map_take]
        rw [ecut]
        have Z9 := Z8.new (o := .lst ((lv.take (mm + 1)).map fun p => V.ref p.1)) hV1
        have s9 := same_new (o := .lst ((lv.take (mm + 1)).map fun p => V.ref p.1)) hV1
        have e9 : upd H8 V1 (.lst ((lv.take (mm + 1)).map fun p => V.ref p.1)) V1 = some (.lst ((lv.take (mm + 1)).map fun p => V.ref p.1)) := upd_same
        generalize upd H8 V1 (.lst ((lv.take (mm + 1)).map fun p => V.ref p.1)) = H9 at Z9 s9 e9 ⊢
        have lt2 : (lv.take (mm + 1)).length = mm + 1 := by rw [List.length_take]; omega
        have L9 := LVN _ Z9.t
        have x9 : ExtN H4 H9 := x7.trans (ExtN.of (s8.trans s9))
        refine ⟨m, dl, pl, V1, b, ns, ks, (n, k), manyP b n ns, lv.take (mm + 1), rfl, MN _ Z9.t, G, start_in hk, BU, ⟨e9, fun p hp => L9.each p (List.mem_of_mem_take hp)⟩, by omega, by omega, fun i p hp => lev i p ?_, fun p hp => lfew p (List.mem_of_mem_take hp), ?_, fun tp2 ls2 e H10 s10 e10 le e0' lea fr2 => ?_⟩
        · rw [List.getElem?_take] at hp
          split at hp
          · exact hp
          · cases hp
        · rw [lt2]
          exact h2
        · rw [lt2, Nat.add_sub_cancel] at le lea fr2
          have one := FirstRow.one (start_in hk) BU (fdiv_ok G.b).1 fr ⟨h3, e, le, e0', lea, fr2⟩
          have els := one.2
          subst els
          have Z10 := Z9.same s10
          have etp10 : H10 tp = some (.tup (ls.map V.int)) := s10 _ _ (x9 _ _ etp (fun ps z => by cases z))
          refine ⟨.tuple (ls.map .int), .tuple (ls.map .int), .tup (SqT.of etp10) (dp_ints _), .tup (SqT.of e10) (dp_ints _), ints_shapedT _, ints_shapedT _, _, rfl, ?_⟩
          refine iteFB (by rw [SeqAt.eqv_refl _ (by simp only [PyData.canLay0, (ints_can ls).1])]; rfl) ?_
          have val := fr2.val
          rw [e0'] at val
          refine ⟨.ref m, rfl, .int n, rfl, nV k, rfl, .ref tp, rfl, .ref D, rfl, D, _, 0, .int (mm : Int), rfl, rfl, ixD _ Z10.t, at0, m, dl, pl, tp, b, n, k, ns, ls, ks, by rw [len]; rfl, MN _ Z10.t, (fdiv_ok G.b).2, etp10, by omega, fr2.row G, val, fun d hd => ?_, fun H11 s11 => q3 _ (Z10.same s11)⟩
          have z := fr2.last d hd
          exact (jdg_fits G (jdg_one z) hk).symm.trans z
      · have ne : (sizesOf lv).isEmpty = true := (sizes_nil lev re).mpr no
        rw [ne]
        refine ⟨rfl, _, rfl, iteFB rfl ?_⟩
        refine ⟨.ref D, rfl, (by show 0 ≤ sizeLine; decide), fun E3 hE3 => ?_⟩
        have Z8 := Z7.new (o := .lst []) hE3
        have s8 := same_new (o := .lst []) hE3
        have e8 : upd H7 E3 (.lst []) E3 = some (.lst []) := upd_same
        generalize upd H7 E3 (.lst []) = H8 at Z8 s8 e8 ⊢
        refine ⟨D, E3, _, rfl, rfl, SqL.of (DN _ Z8.t), SqL.of e8, ?_⟩
        rw [em, ne]
        refine ⟨_, rfl, iteFB rfl ?_⟩
        refine ⟨.ref l, rfl, rfl, _, rfl, iteFB rfl ?_⟩
        have asU : as.length ≤ 100000 := by
          have z := nodup_le (as.map (·.2)) (manyP b n ns) (dfs_nodup df .nil) fun x hx => Reach.all (p := fun x => x ∈ manyP b n ns) (fun x hx => by
            cases List.mem_singleton.mp hx
            exact start_in hk) (fun x hx y hy => BU.cl x hx y hy) ((re2 x).mp hx)
          rw [List.length_map] at z
          exact Nat.le_trans z BU.len
        have asK : ∀ p ∈ as, p.2.2 ∈ none :: ns.map some := fun p hp => BU.key _ (Reach.all (p := fun x => x ∈ manyP b n ns) (fun x hx => by
            cases List.mem_singleton.mp hx
            exact start_in hk) (fun x hx y hy => BU.cl x hx y hy) ((re2 p.2).mp (List.mem_map.mpr ⟨p, hp, rfl⟩)))
        have asS : (n, k) ∈ as.map (·.2) := (re2 _).mpr (.start List.mem_cons_self)
        have asC : ∀ p ∈ as, p.2.1 ≠ 0 ∧ ∀ s ∈ sucP b ns ks p.2, s ∈ as.map (·.2) := fun p hp => by
          have r := (re2 p.2).mp (List.mem_map.mpr ⟨p, hp, rfl⟩)
          exact ⟨no _ r, fun s hs => (re2 s).mpr (.step r hs)⟩
        have x8 : ExtN H4 H8 := x7.trans (ExtN.of s8)
        refine ⟨.ref m, rfl, .int n, rfl, nV k, rfl, (by show 2 ≤ sizeLine; decide), fun T9 hT9 => ?_⟩
        have Z9 := Z8.new (o := .tup [.int n, nV k]) hT9
        have s9 := same_new (o := .tup [.int n, nV k]) hT9
        have e9 : upd H8 T9 (.tup [.int n, nV k]) T9 = some (vP (n, k)) := upd_same
        generalize upd H8 T9 (.tup [.int n, nV k]) = H9 at Z9 s9 e9 ⊢
        have x9 : ExtN H4 H9 := x8.trans (ExtN.of s9)
        refine ⟨.ref l, rfl, m, dl, pl, T9, l, b, ns, ks, (n, k), as, rfl, MN _ Z9.t, G, e9, PL.extN x9, asU, asK, asS, asC, fun H10 s10 => ⟨_, rfl, iteF ?_⟩⟩
        have Z10 := Z9.same s10
        have x10 : ExtN H4 H10 := x9.trans (ExtN.of s10)
        refine ⟨.ref o, rfl, .int n, rfl, .ref l, rfl, nV k, rfl, ask_is G eL hk (SN _ Z10.t) Z10.T (PL.extN x10) asU asK fun c H11 hc x11 T11 => ?_⟩
        have ec := hc.mpr ⟨asS, asC⟩
        subst ec
        refine ⟨_, rfl, iteF ?_⟩
        have Z11 := Z10.ext x11 T11
        have PL11 := PL.extN (x10.trans x11)
        refine ⟨.ref l, rfl, l, _, rfl, .inl (SqL.of PL11.1), fun kp hkp => ?_⟩
        have Z12 := Z11.new (o := .lst (as.map fun p => V.ref p.1)) hkp
        have s12 := same_new (o := .lst (as.map fun p => V.ref p.1)) hkp
        have e12 : upd H11 kp (.lst (as.map fun p => V.ref p.1)) kp = some (.lst (as.map fun p => V.ref p.1)) := upd_same
        have nkl : kp ≠ l := (ne_of_none PL11.1 hkp).symm
        generalize upd H11 kp (.lst (as.map fun p => V.ref p.1)) = H12 at Z12 s12 e12 ⊢
        have PL12 := PL11.same s12
        refine ⟨.ref l, rfl, .inl ⟨rfl, _, SqL.of PL12.1⟩, l, _, rfl, rfl, PL12.1, ?_⟩
        have Z13 := Z12.storeN (o := .lst []) nw nl PL12.1
        have e13 : upd H12 l (.lst []) l = some (.lst []) := upd_same
        have KP13 : PlcsAt (upd H12 l (.lst [])) kp as := by
          refine ⟨(upd_ne nkl).trans e12, fun p hp => ?_⟩
          have z := PL12.2 p hp
          rw [upd_ne fun y => by rw [y, PL12.1] at z; cases z]
          exact z
        generalize upd H12 l (.lst []) = H13 at Z13 e13 KP13 ⊢
        refine ⟨.ref o, rfl, .int n, rfl, .ref l, rfl, nV k, rfl, ask_is (as := []) G eL hk (SN _ Z13.t) Z13.T ⟨e13, fun p h => by cases h⟩ (Nat.zero_le _) (fun p h => by cases h) fun c H14 hc x14 T14 => ?_⟩
        have ec : c = false := (Bool.not_eq_true _).mp fun z => by
          have := (hc.mp z).1
          cases this
        subst ec
        refine ⟨false, false, rfl, rfl, _, rfl, iteTB (decide_eq_true rfl) ?_⟩
        have Z14 := Z13.ext x14 T14
        have KP14 := KP13.extN x14
        refine ⟨.ref o, rfl, .int n, rfl, nV k, rfl, ask_cl G eL hk hn (SN _ Z14.t) Z14.T (fun H15 _ _ ex => ?_) (fun l2 H15 as2 x15 T15 PL2 _ _ df2 _ => ?_)⟩
        · obtain ⟨x, rx, x0⟩ := ex
          exact absurd x0 (no x rx)
        · have Z15 := Z14.ext x15 T15
          have KP15 := KP14.extN x15
          have e : as2.map (·.2) = as.map (·.2) := Dfs.one df2 df
          refine ⟨.ref kp, rfl, _, _, pdPs_dp PL2, pdPs_dp KP15, pdPs_shaped _, pdPs_shaped _, ?_⟩
          rw [e, pdPs_self]
          exact q3 _ Z15
    · refine ⟨.ref a, rfl, a, 2, e0, rfl, Y3.B, by omega, by decide, by decide, fun g H4 g0 g1 t4 B4 => ?_⟩
      have Z4 := Y3.but t4 B4
      have no0 : ∀ {mm : Nat} {ls : List Int}, FirstRow b ns ks (n, k) mm ls → (∀ x, Reach (sucP b ns ks) [(n, k)] x → x.1 ≠ 0) → False := fun f no => by
        obtain ⟨x, h1, h2, _⟩ := f.ex
        exact no x h1.1.reach h2
      have gg : g = 0 ∨ g = 1 := by omega
      rcases gg with rfl | rfl
      · refine ⟨.int 0, rfl, rfl, _, rfl, iteTB (decide_eq_true rfl) ⟨.ref o, rfl, .int n, rfl, nV k, rfl, ask_cl G eL hk hn (SN _ Z4.t) Z4.T (fun H5 x5 T5 ex => ?_) (fun l H5 as x5 T5 PL re2 no df nw => ?_)⟩⟩
        · have Z5 := Z4.ext x5 T5
          refine ⟨.ref o, rfl, .int n, rfl, nV k, rfl, ask_wg G eL hk hn (SN _ Z5.t) Z5.T (fun H6 no _ _ => ?_) (fun tp mm ls H6 fr len x6 T6 etp m5 => ?_)⟩
          · obtain ⟨x, rx, x0⟩ := ex
            exact absurd x0 (no x rx)
          · exact ⟨.int 0, rfl, rfl, _, rfl, iteFB (decide_eq_false fun z => by cases z) ⟨.non, rfl, hN _ _ ⟨0, .non, .ref tp, rfl, Z5.ext x6 T6, .inl ⟨rfl, tp, mm, ls, rfl, fr, len, etp, m5⟩⟩⟩⟩
        · have Z5 := Z4.ext x5 T5
          obtain ⟨nl, nw3⟩ := newN_n Z4 nw
          refine ⟨.ref o, rfl, .int n, rfl, nV k, rfl, ask_wg G eL hk hn (SN _ Z5.t) Z5.T (fun H6 _ x6 T6 => ?_) (fun tp mm ls H6 fr _ _ _ _ _ => (no0 fr no).elim)⟩
          exact ⟨.int 0, rfl, rfl, _, rfl, iteFB (decide_eq_false fun z => by cases z) ⟨.ref l, rfl, hN _ _ ⟨0, .ref l, .non, rfl, Z5.ext x6 T6, .inr ⟨rfl, l, as, rfl, PL.extN x6, re2, no, df, nl, nw3⟩⟩⟩⟩
      · refine ⟨.int 1, rfl, rfl, _, rfl, iteFB (decide_eq_false fun z => by cases z) ⟨.ref o, rfl, .int n, rfl, nV k, rfl, ask_wg G eL hk hn (SN _ Z4.t) Z4.T (fun H5 no x5 T5 => ?_) (fun tp mm ls H5 fr len x5 T5 etp m5 => ?_)⟩⟩
        · have Z5 := Z4.ext x5 T5
          refine ⟨.int 1, rfl, rfl, _, rfl, iteTB (decide_eq_true rfl) ⟨.ref o, rfl, .int n, rfl, nV k, rfl, ask_cl G eL hk hn (SN _ Z5.t) Z5.T (fun H6 x6 T6 ex => ?_) (fun l H6 as x6 T6 PL re2 no df nw => ?_)⟩⟩
          · obtain ⟨x, rx, x0⟩ := ex
            exact absurd x0 (no x rx)
          · obtain ⟨nl, nw3⟩ := newN_n Z5 nw
            exact hN _ _ ⟨1, .ref l, .non, rfl, Z5.ext x6 T6, .inr ⟨rfl, l, as, rfl, PL, re2, no, df, nl, nw3⟩⟩
        · have Z5 := Z4.ext x5 T5
          refine ⟨.int 1, rfl, rfl, _, rfl, iteTB (decide_eq_true rfl) ⟨.ref o, rfl, .int n, rfl, nV k, rfl, ask_cl G eL hk hn (SN _ Z5.t) Z5.T (fun H6 x6 T6 ex => ?_) (fun l H6 as x6 T6 PL re2 no df nw => (no0 fr no).elim)⟩⟩
          exact hN _ _ ⟨1, .non, .ref tp, rfl, Z5.ext x6 T6, .inl ⟨rfl, tp, mm, ls, rfl, fr, len, x6 _ _ etp (fun ps z => by cases z), m5⟩⟩
end
end K12
/-! f(k = v, ..) and o.m(k = v, ..) by names alone, within a try; f, m may raise. -/
namespace OF
open PySem PySem.Spec PyProof.Rows L2
section
variable {X : Cx} {CX : CXT} {k n : Nat} {f C : Addr} {fd : FuncData} {ps ks : List Str} {sp : Sp} {E : L2.St → XK} {x m : Str} {p apos pos : Pos} {o : Expr} {kws : List Keyword} {ta : TE} {tk : TA} {g : List Value → List Value → List Value} {gV : List V → List V → List V}
theorem run_fnNS {pins : List (Addr × Obj)} {σ : L2.St} {H : Hp} {s : Shared} {Q : VK} {us ws : List Value} {vs zs : List V} (F : FnOk X.prog X.w X.K X.mg X.base CX k f fd ps sp) (hr : Room k X.A) (hb : KBn X.K fd ps n ks g gV) (hx : PassesAt CX X σ (E σ))
    (I : Inv X pins σ H s) (r : Vals vs us) (rz : Vals zs ws) (l1 : vs.length = n) (l2 : zs.length = ks.length) (h : sp (gV vs zs) H Q (E σ)) : wpAny (model X.prog X.w) X.A (call (.ref f) us (ks.zip ws)) (EP X pins σ Q) X.xe s := by
  have r2 := hb.rel r rz
  refine wpAny_call (codeAny_mono (F.run X.A X.stack s H ⟨us, ks.zip ws⟩ (g us ws) (gV vs zs) Q (E σ) hr I.env0 (hb.to s us ws I.kIn (r.length.symm.trans l1) (rz.length.symm.trans l2)) r2 h) fun r s' hq => ?_)
  cases r with
  | error e => exact hx pins H s e s' I hq
  | ok fl =>
    cases fl with
    | ret u => exact I.after hq
    | next => exact False.elim hq
    | brk => exact False.elim hq
    | cont => exact False.elim hq
def tCallNS (j : Nat) (sp : Sp) (gV : List V → List V → List V) (E : L2.St → XK) (tk : TA) : TE := fun σ H Q => tk σ H fun zs H2 => zs.length = j ∧ sp (gV [] zs) H2 Q (E σ)
theorem pe_callNS (F : FnOk X.prog X.w X.K X.mg X.base CX k f fd ps sp) (hr : Room k X.A) (hg : Gl X x) (hm : X.mg x = some (.ref f)) (hk : PySem.W.keepIn X.K (.ref f) = true) (hb : KBn X.K fd ps 0 ks g gV) (hx : ∀ σ, PassesAt CX X σ (E σ))
    (hkw : PK X kws tk) (hall : (backToKw pos (keywordEach kws X.env)).all (·.1.isSome) = true := by rfl) (hks : (backToKw pos (keywordEach kws X.env)).filterMap (·.1) = ks := by rfl)
    (hdb : (x == ("__debug__" : Str)) = false := by decide)
    (hpl : ((backTo pos (starEach [] X.env)).any (·.1) || (backToKw pos (keywordEach kws X.env)).any (·.1.isNone)) = false := by rfl) :
    PE X (.Call (.Name x p) [] kws pos) (tCallNS ks.length sp gV E tk) := by
  refine ⟨fun pins s σ H Q I h => ?_⟩
  refine wpAny_Call_Name_kw (ld_glob I hg hm ?_ hdb)
  refine PySem.W.callWith_KW0 (h₀ := X.base) I.ok.mod.kin hk hall (thn (hkw.run pos pins s σ H _ I h) fun ws s2 ⟨zs, H2, I2, rz, l2, q2⟩ => ⟨I2.kIn, ?_⟩) hpl
  rw [hks]
  exact run_fnNS (us := []) (vs := []) F hr hb (hx σ) I2 .nil rz rfl l2 q2
def tMethNS (C : Addr) (m : Str) (j : Nat) (sp : Sp) (gV : List V → List V → List V) (E : L2.St → XK) (ta : TE) (tk : TA) : TE := fun σ H Q => ta σ H fun x H1 => ∃ a dx fs, x = .ref a ∧ H1 a = some (.ins C dx fs) ∧ fs.lookup m = none ∧
  tk σ H1 fun zs H2 => zs.length = j ∧ sp (gV [x] zs) H2 Q (E σ)
theorem pe_methNS {pl : Sem Bool} (he : PE X o ta) (c : Cls X.K C) (hm : Meth X.K C m f) (F : FnOk X.prog X.w X.K X.mg X.base CX k f fd ps sp) (hr : Room k X.A) (hb : KBn X.K fd ps 1 ks g gV) (hx : ∀ σ, PassesAt CX X σ (E σ)) (hkw : PK X kws tk)
    (hall : (backToKw pos (keywordEach kws X.env)).all (·.1.isSome) = true := by rfl) (hks : (backToKw pos (keywordEach kws X.env)).filterMap (·.1) = ks := by rfl)
    (hpl : ((backTo pos (starEach [] X.env)).any (·.1) || (backToKw pos (keywordEach kws X.env)).any (·.1.isNone)) = false := by rfl)
    (ht : eval (.Call (.Attribute o m apos) [] kws pos) X.env = (do
      let ov ← eval o X.env
      standAt apos.atName
      let (f, first) ← holding [ov] (getMethod ov m pl)
      callWith pos f first (backTo pos (starEach [] X.env)) (backToKw pos (keywordEach kws X.env))) := by rfl) :
    PE X (.Call (.Attribute o m apos) [] kws pos) (tMethNS C m ks.length sp gV E ta tk) := by
  refine ⟨fun pins s σ H Q I h => ?_⟩
  refine PySem.W.methodCall_KW (pl := pl) (thn (he.run pins s σ H _ I h) fun u s1 ⟨x, H1, I1, rx, a, dx, fs, ex, ea, l, q⟩ => ?_) ht
  subst ex
  obtain rfl : u = Value.ref a := rx
  refine getmeth_ok I1 ea c hm l ?_
  refine PySem.W.callWith_KW0 (first := [.ref a]) (h₀ := X.base) I.ok.mod.kin hm.kp hall (thn (hkw.run pos pins s1 σ H1 _ I1 q) fun ws s2 ⟨zs, H2, I2, rz, l2, q2⟩ => ⟨I2.kIn, ?_⟩) hpl
  rw [hks]
  exact run_fnNS (us := [.ref a]) (vs := [.ref a]) F hr hb (hx σ) I2 (.cons rfl .nil) rz rfl l2 q2
end
end OF
namespace K12
open PySem PySem.Spec PyProof.Rows L2 OF LamX NdefX
def gRev {α : Type} (us ws : List α) : List α := us ++ ws.reverse
def gMid {α : Type} (us ws : List α) : List α := match ws with
  | [n, s, r] => us ++ [s, n, r]
  | ws => us ++ ws
theorem seq_cut2 {A1 A2 B : TS} {D : Ends} {σ : L2.St} {H : Hp} (I : L2.St → Hp → Prop) (hB : ∀ σ' H', I σ' H' → B D σ' H') (hA : ∀ N : L2.St → Hp → Prop, (∀ σ' H', I σ' H' → N σ' H') → tSeq A1 A2 { D with nx := N } σ H) : tSeq A1 (tSeq A2 B) D σ H := hA _ hB
/-- the parts of a scheme, drawn -/
structure Md where
  m : Addr
  dl : Addr
  pl : Addr
  b : Int
  ns : List Int
  ks : List (Addr × (Int × Int))
def ScM (C : Addr) (H : Hp) (x : Md) (o : Addr) : Prop := ∃ (t r : Addr) (L : List (Addr × (Int × Int))), L.map (·.2) = x.ks.map (·.2) ∧ SchemeAt C H o t r x.b x.ns L
section
variable {P : Program} {w : World} {K : PySem.W.Frag} {mg : Str → Option Value} {base : Heap}
abbrev nRi : List Str := ["_law_box_here", "_law_models", "_law_schemes", "_law_numbers", "_law_amount", "_law_k", "_law_beside", "_law_told", "_law_model"]
theorem scRi : FnScope nRi ["_law_box_here"] (defScope sRight) := ⟨rfl, rfl, rfl, by decide +kernel, rfl, by decide +kernel, by decide +kernel⟩
def spRight (T : List (Addr × Str)) : Sp := fun vs H Q _ => ∃ a : Addr, vs = [.ref a] ∧ Box 0 H a ∧ Tabs T H ∧ ∀ H', (∀ b o, b ≠ a → H b = some o → (∀ ps, o ≠ .tbl ps) → H' b = some o) → Tabs T H' → Q (.bl true) H'
set_option maxHeartbeats 4000000 in
theorem ok_right {f fT fS fM fN fA fW fG C CN CI CU : Addr} {fd fdT fdS fdM fdN fdA fdW fdG : FuncData} {T : List (Addr × Str)} (F : Fun K "_law_right" "_law_right" sRight f fd) (FT : Fun K "_law_take" "_law_take" sTake fT fdT) (gT : mg "_law_take" = some (.ref fT)) (bT : Binds K fdT ["_law_box_here", "_law_many"] [])
    (GS : FnOk P w K mg base CX0 4 fS fdS ["_law_box_here"] (spScheme)) (gS : mg "_law_scheme" = some (.ref fS)) (kS : PySem.W.keepIn K (.ref fS) = true) (bS : Binds K fdS ["_law_box_here"] [])
    (GM : FnOk P w K mg base CX0 9 fM fdM ["_law_model"] (spMadeL C)) (gM : mg "_law_made" = some (.ref fM)) (kM : PySem.W.keepIn K (.ref fM) = true) (bM : Binds K fdM ["_law_model"] [])
    (GN : FnOk P w K mg base CX0 2 fN fdN ["_law_box_here"] (spNumber)) (gN : mg "_law_number" = some (.ref fN)) (kN : PySem.W.keepIn K (.ref fN) = true) (bN : Binds K fdN ["_law_box_here"] [])
    (GA : FnOk P w K mg base CX0 11 fA fdA ["_law_box_here", "_law_model", "_law_house", "_law_amount", "_law_beside"] (spAsked C T)) (gA : mg "_law_asked" = some (.ref fA)) (kA : PySem.W.keepIn K (.ref fA) = true) (bA : Binds K fdA ["_law_box_here", "_law_model", "_law_house", "_law_amount", "_law_beside"] [])
    (GW : FnOk P w K mg base (L2.CX P w) 10 fW fdW ["scheme", "number", "right"] (spWritten C CN CI CU T)) (gW : mg "is_written" = some (.ref fW)) (kW : PySem.W.keepIn K (.ref fW) = true) (kbW : KBn K fdW ["scheme", "number", "right"] 0 ["number", "scheme", "right"] gMid gMid)
    (GG : FnOk P w K mg base (L2.CX P w) 10 fG fdG ["scheme", "number", "right"] (spWriting C CN CI CU T)) (gG : mg "writing" = some (.ref fG)) (kG : PySem.W.keepIn K (.ref fG) = true) (bG2 : Binds K fdG ["scheme", "number", "right"] [.none]) (kbG : KBn K fdG ["scheme", "number", "right"] 0 ["right", "number", "scheme"] gRev gRev)
    (mi : mg "int" = none) (ml : mg "len" = none) (mr : mg "range" = none) (mrp : mg "repr" = none) : FnG P w K mg base 12 f fd ["_law_box_here"] (spRight T) := by
  have GT : FnOk P w K mg base CX0 1 fT fdT ["_law_box_here", "_law_many"] spTake := ok_take FT mi
  refine okG F scRi (fun vs H Q E h => ?_) (fun cdv A outer s H vs Q E gu hr11 h => ?_)
  · obtain ⟨a, rfl, _⟩ := h
    rfl
  · obtain ⟨a, rfl, hB, hT, q⟩ := h
    have hr10 : Room 10 _ := hr11.mono (by decide)
    have hr1 : Room 1 _ := hr11.mono (by decide)
    have hr2 : Room 2 _ := hr11.mono (by decide)
    have hr3 : Room 4 _ := hr11.mono (by decide)
    have hr9 : Room 9 _ := hr11.mono (by decide)
    apply Exists.intro
    apply And.intro
    · apply pss_cons
      · exact ps_set (i := 1) scRi.nd rfl (.inl rfl) (pe_lst (pa_cons (pe_call GS hr3 (by rfl) gS kS bS .nil pass0 (pa_cons (pv 0) pa_nil)) (pa_cons (pe_call GS hr3 (by rfl) gS kS bS .nil pass0 (pa_cons (pv 0) pa_nil)) pa_nil)))
      apply pss_cons
      · exact ps_setLc (i := 2) (own := [("_law_model", 8)]) (g := gName 8) (tt := tYes) (te := tCall (spMadeL C) [] E0 (tCons (tVar 8) tNil)) rfl scRi.nd rfl rfl (sw_true rfl rfl rfl (by decide +kernel)) (pi_list (pv 1)) (blkOk_by (own := [("_law_model", 8)]) (N := nRi) (sc := defScope sRight) (by decide +kernel)) (fun _ _ _ _ _ => pg_name (i := 8) scRi.nd rfl (Or.inl rfl)) (fun _ _ _ _ _ => pts_nil) (fun _ _ _ _ _ => by exact (pe_call GM hr9 (by rfl) gM kM bM .nil pass0 (pa_cons (pv 8) pa_nil)))
      apply pss_cons
      · exact ps_set (i := 3) scRi.nd rfl (.inl rfl) (pe_op op_cat (pe_lc (own := [("_law_k", 5)]) (g := gName 5) (tt := tYes) (te := tCall spNumber [] E0 (tCons (tVar 0) tNil)) rfl scRi.nd (pi_range1 rfl mr (pa_cons pe_int pa_nil)) (blkOk_by (own := [("_law_k", 5)]) (N := nRi) (sc := defScope sRight) (by decide +kernel)) (fun _ _ _ _ _ => pg_name (i := 5) scRi.nd rfl (Or.inl rfl)) (fun _ _ _ _ _ => pts_nil) (fun _ _ _ _ _ => by exact (pe_call GN hr2 (by rfl) gN kN bN .nil pass0 (pa_cons (pv 0) pa_nil)))) (pe_lst (pa_cons pe_int pa_nil)))
      apply pss_cons
      · exact ps_for PassesOwn.never rfl (pi_list (pv 3)) (pg_name (i := 4) scRi.nd rfl (.inl rfl)) (pss_one (ps_for PassesOwn.never rfl (pi_list (pe_lst (pa_cons pe_int (pa_cons pe_int pa_nil)))) (pg_name (i := 5) scRi.nd rfl (.inl rfl)) (pss_cons (ps_set (i := 6) scRi.nd rfl (.inl rfl) (pe_ix ix_list (pe_op op_cat (pe_lst (pa_cons pe_non (pa_cons pe_non pa_nil))) (pe_ix ix_list (pe_ix ix_list (pv 1) (pv 5) (fun _ _ => rfl)) pe_int (fun _ _ => rfl))) (pe_call GT hr1 (by rfl) gT FT.kp bT .nil pass0 (pa_cons (pv 0) (pa_cons (pe_op op_add pe_int (pe_callB call_len_seq (by rfl) ml PySem.boot_len (pa_cons (pe_ix ix_list (pe_ix ix_list (pv 1) (pv 5) (fun _ _ => rfl)) pe_int (fun _ _ => rfl)) pa_nil))) pa_nil))) (fun _ _ => rfl))) (pss_one (ps_if (pt_not (pt_val (pe_call GA hr11 (by rfl) gA kA bA .nil pass0 (pa_cons (pv 0) (pa_cons (pe_ix ix_list (pv 1) (pv 5) (fun _ _ => rfl)) (pa_cons (pe_ix ix_list (pv 2) (pv 5) (fun _ _ => rfl)) (pa_cons (pv 4) (pa_cons (pv 6) pa_nil)))))))) (pss_one (ps_ret pe_bl)) pss_nil)))))
      apply pss_cons
      · exact ps_set (i := 7) scRi.nd rfl (.inl rfl) (pe_callN0 GW hr10 (by rfl) gW kW kbW passNo (pk_cons (pe_ix ix_list (pv 3) pe_int (fun _ _ => rfl)) (pk_cons (pe_ix ix_list (pv 2) pe_int (fun _ _ => rfl)) (pk_cons pe_non pk_nil))))
      apply pss_cons
      · exact ps_if (pt_cmpR op_ne (pe_callB call_repr_bool (by rfl) mrp PyProof.Rows.boot_repr (pa_cons (pv 7) pa_nil)) (pe_callB call_repr_bool (by rfl) mrp PyProof.Rows.boot_repr (pa_cons (pe_cmpR op_notN (pe_call GG hr10 (by rfl) gG kG bG2 (dvs := [.non]) (.cons rfl .nil) passNo (pa_cons (pe_ix ix_list (pv 2) pe_int (fun _ _ => rfl)) (pa_cons (pe_ix ix_list (pv 3) pe_int (fun _ _ => rfl)) pa_nil))) pe_non (nomark _)) pa_nil)) (nomark _)) (pss_one (ps_ret pe_bl)) pss_nil
      apply pss_one
      · exact ps_ret (pe_cmpR (op_eqD hr10.units) (pe_callN0 GG hr10 (by rfl) gG kG kbG passNo (pk_cons pe_non (pk_cons pe_int (pk_cons (pe_ix ix_list (pv 2) pe_int (fun _ _ => rfl)) pk_nil)))) (pe_tup pa_nil) (nomark _))
    refine ⟨.ref a, rfl, a, 0, rfl, hB, by decide, fun m1 b1 ns1 ps1 H1 t1 B1 G1 MO1 => ?_⟩
    refine ⟨.ref a, rfl, a, 0 + 100, rfl, B1, by decide, fun m2 b2 ns2 ps2 H2 t2 B2 G2 MO2 => ?_⟩
    have MO1 := MO1.but t2
    obtain ⟨dl1, pl1, ks1, rfl, MN1⟩ := model_n MO1
    obtain ⟨dl2, pl2, ks2, rfl, MN2⟩ := model_n MO2
    have R2 : Rn a T H (0 + 100 + 100) H2 := Rn.but (Rn.but ⟨BN.refl, hB, hT⟩ t1 B1) t2 B2
    have q2 : ∀ H', BN a H2 H' → Tabs T H' → Q (.bl true) H' := fun H' t => q H' (R2.t.trans t)
    have Z2 : Rn a T H2 200 H2 := ⟨BN.refl, R2.B, R2.T⟩
    obtain ⟨mds, emd, lmd, all⟩ : ∃ mds : List Md, mds.map (fun x => V.ref x.m) = [.ref m1, .ref m2] ∧ mds.length = 2 ∧ ∀ x ∈ mds, Good x.b x.ns (x.ks.map (·.2)) ∧ ModN a H2 x.m x.dl x.pl x.b x.ns x.ks := ⟨[⟨m1, dl1, pl1, b1, ns1, ks1⟩, ⟨m2, dl2, pl2, b2, ns2, ks2⟩], rfl, rfl, fun x hx => by
      rcases List.mem_cons.mp hx with rfl | hx
      · exact ⟨G1, MN1⟩
      · cases List.mem_singleton.mp hx
        exact ⟨G2, MN2⟩⟩
    clear R2 q MN1 MN2 G1 G2 MO1 MO2 B1 B2 t1 t2 hB hT
    refine ⟨(by show 2 ≤ sizeLine; decide), fun Lm hLm => ?_⟩
    rw [← emd]
    have Z3 := Z2.new (o := .lst (mds.map fun x => V.ref x.m)) hLm
    have nLm := Z2.B.ne hLm
    have e3 : upd H2 Lm (.lst (mds.map fun x => V.ref x.m)) Lm = some (.lst (mds.map fun x => V.ref x.m)) := upd_same
    generalize upd H2 Lm (.lst (mds.map fun x => V.ref x.m)) = H3 at Z3 e3 ⊢
    refine ⟨.ref Lm, rfl, Lm, rfl, ⟨_, SqL.of e3⟩, fun Ls hLs => ?_⟩
    have nLs := Z3.B.ne hLs
    refine lc_list (K := K) (a := Lm) (xs := mds.map fun x => V.ref x.m) (fun i H' => Same H3 H' ∧ ∃ os : List Addr, os.length = i ∧ H' Ls = some (.lst (os.map V.ref)) ∧ ∀ (j : Nat) (x : Md) (o : Addr), mds[j]? = some x → os[j]? = some o → ScM C H' x o) ⟨same_new hLs, [], rfl, upd_same, fun j x o _ h => by cases h⟩ (fun i H' _ h => SqL.of (h.1 _ _ e3)) ?_ ?_
    · rintro i v H4 hv ⟨s4, os, lo, e4, sc⟩
      obtain ⟨x, hx, rfl⟩ := get_map (f := fun x : Md => V.ref x.m) hv
      have li : i < mds.length := (List.getElem?_eq_some_iff.mp hx).1
      obtain ⟨Gx, Mx⟩ := all x (List.mem_of_getElem? hx)
      refine ⟨rfl, ?_⟩
      dsimp only [tYes]
      refine iteTB rfl ⟨_, rfl, x.m, x.dl, x.pl, x.b, x.ns, x.ks, rfl, Mx _ (Z3.t.trans (.same s4)), Gx, fun o H5 s5 IS => ?_⟩
      obtain ⟨_, t, r, L, eL, S0⟩ := IS
      have e5 := s5 _ _ e4
      have off : ∀ {c : Addr} {u : HO}, H5 c = some u → (∀ ps, u ≠ .lst ps) → upd H5 Ls (.lst (os.map V.ref ++ [.ref o])) c = some u := fun {c u} e k => by
        rw [upd_ne]
        · exact e
        · rintro rfl
          rw [e5] at e
          cases e
          exact k _ rfl
      refine ⟨_, e5, by rw [List.length_map, lo]; exact small1000 (by omega), Same.store (s4.trans s5) hLs, os ++ [o], by rw [List.length_append, lo]; rfl, by rw [upd_same, List.map_append]; rfl, fun j y o2 hj ho => ?_⟩
      have mk : ∀ {y : Md} {o2 : Addr}, ScM C H5 y o2 → ScM C (upd H5 Ls (.lst (os.map V.ref ++ [.ref o]))) y o2 := fun {y o2} ⟨t, r, L, eL, S⟩ => by
        obtain ⟨⟨dx, h1⟩, h2, h3, h4⟩ := S
        exact ⟨t, r, L, eL, ⟨dx, off h1 (fun ps z => by cases z)⟩, off h2 (fun ps z => by cases z), off h3 (fun ps z => by cases z), fun p hp => off (h4 p hp) (fun ps z => by cases z)⟩
      by_cases hj2 : j < os.length
      · rw [List.getElem?_append_left hj2] at ho
        obtain ⟨t', r', L', eL', S'⟩ := sc j y o2 hj ho
        exact mk ⟨t', r', L', eL', S'.same s5⟩
      · rw [List.getElem?_append_right (by omega)] at ho
        have e0 : j - os.length = 0 := by
          have := (List.getElem?_eq_some_iff.mp ho).1
          have z2 : j - os.length < 1 := this
          omega
        rw [e0] at ho
        cases ho
        have ej : j = i := by omega
        rw [ej, hx] at hj
        cases hj
        exact mk ⟨t, r, L, eL, S0⟩
    rintro H4 ⟨s4, os, lo, e4, sc⟩
    rw [List.length_map, lmd] at lo
    have Z4 := Z3.same s4
    have e3 := s4 _ _ e3
    have SN : ∀ (j : Nat) (x : Md) (o : Addr), mds[j]? = some x → os[j]? = some o → ∃ t r L, L.map (·.2) = x.ks.map (·.2) ∧ ∀ H', BN a H4 H' → SchemeAt C H' o t r x.b x.ns L := fun j x o hj ho => by
      obtain ⟨t, r, L, eL, S⟩ := sc j x o hj ho
      exact ⟨t, r, L, eL, sch_n Z4.B S⟩
    have MN : ∀ x ∈ mds, Good x.b x.ns (x.ks.map (·.2)) ∧ ∀ H', BN a H4 H' → ModAt H' x.m x.dl x.pl x.b x.ns x.ks := fun x hx => ⟨(all x hx).1, fun H' t => (all x hx).2 H' (Z4.t.trans t)⟩
    have LmN : ∀ H', BN a H4 H' → H' Lm = some (.lst (mds.map fun x => V.ref x.m)) := fun H' t => t _ _ nLm e3 (fun ps z => by cases z)
    have LsN : ∀ H', BN a H4 H' → H' Ls = some (.lst (os.map V.ref)) := fun H' t => t _ _ nLs e4 (fun ps z => by cases z)
    have q4 : ∀ H', BN a H4 H' → Tabs T H' → Q (.bl true) H' := fun H' t => q2 H' (Z4.t.trans t)
    have Y4 : Rn a T H4 200 H4 := ⟨BN.refl, Z4.B, Z4.T⟩
    clear Z4 Z3 Z2 e3 e4 sc all s4 q2 hLs hLm emd nLm nLs
    refine ⟨2, rfl, by decide, by decide, fun D hD => ?_⟩
    have nD := Y4.B.ne hD
    refine lc_range (lo := 0) (n := 2) (fun i H' => Rn a T H4 (200 + 10 * (i : Int)) H' ∧ ∃ xs : List Int, xs.length = i ∧ H' D = some (.lst (xs.map V.int)) ∧ ∀ x ∈ xs, x.natAbs < 10 ^ 30) ⟨(Y4.new hD).mono (by omega), [], rfl, upd_same, fun x h => by cases h⟩ ?_ ?_
    · rintro i H5 hi ⟨Z5, xs, lx, e5, sm⟩
      refine ⟨rfl, ?_⟩
      dsimp only [tYes]
      refine iteTB rfl ⟨.ref a, rfl, a, _, rfl, Z5.B, by omega, fun v H6 t6 B6 vb => ?_⟩
      have Z6 := Z5.but t6 B6
      have e6 := t6 _ _ nD e5
      refine ⟨_, e6, by rw [List.length_map, lx]; exact small1000 (by omega), (Z6.store hD nD e6).mono (by omega), xs ++ [v], by rw [List.length_append, lx]; rfl, by rw [upd_same, List.map_append]; rfl, fun x hx => ?_⟩
      rcases List.mem_append.mp hx with h | h
      · exact sm x h
      · cases List.mem_singleton.mp h
        exact vb
    rintro H5 ⟨Z5, xs, lx, e5, sm⟩
    refine ⟨(by show 1 ≤ sizeLine; decide), fun z0 hz0 => ?_⟩
    have Z6 := Z5.new (o := .lst [.int 0]) hz0
    have s6 := same_new (o := .lst [.int 0]) hz0
    have e6 : upd H5 z0 (.lst [.int 0]) z0 = some (.lst [.int 0]) := upd_same
    generalize upd H5 z0 (.lst [.int 0]) = H6 at Z6 s6 e6 ⊢
    refine ⟨D, z0, _, _, rfl, rfl, s6 _ _ e5, e6, by rw [List.length_map, lx]; show 2 + 1 ≤ sizeLine; decide, fun Nu hNu => ?_⟩
    obtain ⟨es, ees, les, esm, es0⟩ : ∃ es : List Int, xs.map V.int ++ [V.int 0] = es.map V.int ∧ es.length = 3 ∧ (∀ x ∈ es, x.natAbs < 10 ^ 30) ∧ ∃ n0, es[0]? = some n0 := by
      refine ⟨xs ++ [0], by rw [List.map_append]; rfl, by rw [List.length_append, lx]; rfl, fun x hx => ?_, ?_⟩
      · rcases List.mem_append.mp hx with h | h
        · exact sm x h
        · cases List.mem_singleton.mp h
          decide
      · have : 0 < (xs ++ [(0 : Int)]).length := by rw [List.length_append, lx]; decide
        exact ⟨(xs ++ [0])[0]'this, by simp [this]⟩
    rw [ees]
    have Z7 := Z6.new (o := .lst (es.map V.int)) hNu
    have nNu := Z6.B.ne hNu
    have e7 : upd H6 Nu (.lst (es.map V.int)) Nu = some (.lst (es.map V.int)) := upd_same
    generalize upd H6 Nu (.lst (es.map V.int)) = H7 at Z7 e7 ⊢
    have SN : ∀ (j : Nat) (x : Md) (o : Addr), mds[j]? = some x → os[j]? = some o → ∃ t r L, L.map (·.2) = x.ks.map (·.2) ∧ ∀ H', BN a H7 H' → SchemeAt C H' o t r x.b x.ns L := fun j x o hj ho => by
      obtain ⟨t, r, L, eL, S⟩ := SN j x o hj ho
      exact ⟨t, r, L, eL, fun H' t2 => S H' (Z7.t.trans t2)⟩
    have MN : ∀ x ∈ mds, Good x.b x.ns (x.ks.map (·.2)) ∧ ∀ H', BN a H7 H' → ModAt H' x.m x.dl x.pl x.b x.ns x.ks := fun x hx => ⟨(MN x hx).1, fun H' t => (MN x hx).2 H' (Z7.t.trans t)⟩
    have LmN : ∀ H', BN a H7 H' → H' Lm = some (.lst (mds.map fun x => V.ref x.m)) := fun H' t => LmN H' (Z7.t.trans t)
    have LsN : ∀ H', BN a H7 H' → H' Ls = some (.lst (os.map V.ref)) := fun H' t => LsN H' (Z7.t.trans t)
    have NuN : ∀ H', BN a H7 H' → H' Nu = some (.lst (es.map V.int)) := fun H' t => t _ _ nNu e7 (fun ps z => by cases z)
    have q7 : ∀ H', BN a H7 H' → Tabs T H' → Q (.bl true) H' := fun H' t => q4 H' (Z7.t.trans t)
    have Y7 : Rn a T H7 300 H7 := ⟨BN.refl, Z7.B.mono (by omega), Z7.T⟩
    clear Z7 Z6 Z5 Y4 q4 e7 e6 s6 e5 hNu nNu hz0 hD nD ees
    have two : ∀ {j : Nat} {v : V}, ([V.int 0, .int 1])[j]? = some v → v = .int (j : Int) ∧ j < 2 := fun {j v} h => by
      match j, h with
      | 0, h => cases h; exact ⟨rfl, by decide⟩
      | 1, h => cases h; exact ⟨rfl, by decide⟩
    have big := big17
    refine ⟨.ref Nu, rfl, Nu, rfl, ⟨_, SqL.of (NuN _ BN.refl)⟩, for_list (K := K) (a := Nu) (xs := es.map V.int) (fun i σ H' => ∃ v4 v5 v6 : Option V, σ = [some (.ref a), some (.ref Lm), some (.ref Ls), some (.ref Nu), v4, v5, v6, none, none] ∧ Rn a T H7 (300 + 10 * (i : Int)) H') ⟨none, none, none, rfl, Y7.mono (by omega)⟩ (fun i σ H' _ ⟨_, _, _, _, R⟩ => SqL.of (NuN _ R.t)) ?_ ?_⟩
    · rintro i x σ H8 hx ⟨v4, v5, v6, rfl, Z8⟩
      obtain ⟨n, hn, rfl⟩ := get_map hx
      have nb := esm n (List.mem_of_getElem? hn)
      have li : i < es.length := (List.getElem?_eq_some_iff.mp hn).1
      refine ⟨(by show 2 ≤ sizeLine; decide), fun L1 hL1 => ?_⟩
      have nL1 := Z8.B.ne hL1
      have Z9 := Z8.new (o := .lst [.int 0, .int 1]) hL1
      have e9 : upd H8 L1 (.lst [.int 0, .int 1]) L1 = some (.lst [.int 0, .int 1]) := upd_same
      generalize upd H8 L1 (.lst [.int 0, .int 1]) = H9 at Z9 e9 ⊢
      have L1N : ∀ H', BN a H9 H' → H' L1 = some (.lst [.int 0, .int 1]) := fun H' t => t _ _ nL1 e9 (fun ps z => by cases z)
      have Y9 : Rn a T H9 (300 + 10 * (i : Int)) H9 := ⟨BN.refl, Z9.B, Z9.T⟩
      refine ⟨L1, rfl, ⟨_, SqL.of e9⟩, for_list (K := K) (a := L1) (xs := [.int 0, .int 1]) (fun j σ H' => ∃ v5 v6 : Option V, σ = [some (.ref a), some (.ref Lm), some (.ref Ls), some (.ref Nu), some (.int n), v5, v6, none, none] ∧ Rn a T H9 (300 + 10 * (i : Int) + 2 * (j : Int)) H') ⟨v5, v6, rfl, Y9.mono (by omega)⟩ (fun j σ H' _ ⟨_, _, _, R⟩ => SqL.of (L1N _ R.t)) ?_ ?_⟩
      · rintro j v σ H10 hv ⟨v5, v6, rfl, Z10⟩
        obtain ⟨rfl, lj⟩ := two hv
        have ljm : j < mds.length := by omega
        have gm : mds[j]? = some (mds[j]'ljm) := by simp [ljm]
        have mm := List.mem_of_getElem? gm
        generalize mds[j]'ljm = x at gm mm
        have ljo : j < os.length := by omega
        have go : os[j]? = some (os[j]'ljo) := by simp [ljo]
        generalize os[j]'ljo = o at go
        obtain ⟨t, r, L, eL, SNx⟩ := SN j x o gm go
        obtain ⟨G, MNx⟩ := MN x mm
        have b79 : BN a H7 H9 := Z9.t
        have atM : atI (mds.map fun x => V.ref x.m) (j : Int) = some (.ref x.m) := atI_nat (by rw [List.getElem?_map, gm]; rfl)
        have atO : atI (os.map V.ref) (j : Int) = some (.ref o) := atI_nat (by rw [List.getElem?_map, go]; rfl)
        have six := G.six
        have ld : (x.ns.map V.int).length = x.ns.length := List.length_map _
        refine ⟨(by show 2 ≤ sizeLine; decide), fun l1 h1 => ?_⟩
        have Z11 := Z10.new (o := .lst [.non, .non]) h1
        have e11 : upd H10 l1 (.lst [.non, .non]) l1 = some (.lst [.non, .non]) := upd_same
        generalize upd H10 l1 (.lst [.non, .non]) = H11 at Z11 e11 ⊢
        have t11 := b79.trans Z11.t
        have M11 := MNx _ t11
        refine ⟨.ref Lm, rfl, .int (j : Int), rfl, Lm, _, _, .ref x.m, rfl, rfl, SqL.of (LmN _ t11), atM, x.m, _, 1, .ref x.dl, rfl, rfl, SqL.of M11.mo, atI_nat (j := 1) rfl, ?_⟩
        refine ⟨l1, x.dl, _, _, rfl, rfl, e11, M11.di, (by rw [ld]; show 2 + _ ≤ _; omega), fun l2 h2 => ?_⟩
        have Z12 := Z11.new (o := .lst ([V.non, V.non] ++ x.ns.map V.int)) h2
        have n2 := Z11.B.ne h2
        have e12 : upd H11 l2 (.lst ([V.non, V.non] ++ x.ns.map V.int)) l2 = some (.lst ([V.non, V.non] ++ x.ns.map V.int)) := upd_same
        generalize upd H11 l2 (.lst ([V.non, V.non] ++ x.ns.map V.int)) = H12 at Z12 e12 ⊢
        have t12 := b79.trans Z12.t
        have M12 := MNx _ t12
        refine ⟨.ref a, rfl, .ref Lm, rfl, .int (j : Int), rfl, Lm, _, _, .ref x.m, rfl, rfl, SqL.of (LmN _ t12), atM, x.m, _, 1, .ref x.dl, rfl, rfl, SqL.of M12.mo, atI_nat (j := 1) rfl, x.dl, _, rfl, .inl (SqL.of M12.di), ?_⟩
        refine ⟨2, _, rfl, rfl, a, _, _, rfl, Z12.B, by omega, by omega, by omega, fun r1 H13 u0 u1 t13 B13 => ?_⟩
        have Z13 := Z12.but t13 B13
        have e13 : H13 l2 = some (.lst ([V.non, V.non] ++ x.ns.map V.int)) := t13 _ _ n2 e12
        have ll : ([V.non, V.non] ++ x.ns.map V.int).length = 2 + x.ns.length := by rw [List.length_append, ld]; rfl
        obtain ⟨vk, hvk, mv⟩ := pick (xs := [V.non, V.non] ++ x.ns.map V.int) u0 (by rw [ll]; omega)
        have hk : ∃ k : KeyN, vk = nV k ∧ k ∈ none :: x.ns.map some := by
          rcases List.mem_append.mp mv with z | z
          · simp only [List.mem_cons, List.not_mem_nil, or_false, or_self] at z
            exact ⟨none, z, List.mem_cons_self⟩
          · obtain ⟨d, hd, rfl⟩ := List.mem_map.mp z
            exact ⟨some d, rfl, List.mem_cons_of_mem _ (List.mem_map.mpr ⟨d, hd, rfl⟩)⟩
        obtain ⟨k, rfl, hk⟩ := hk
        refine ⟨l2, _, r1, nV k, rfl, rfl, SqL.of e13, hvk, ?_⟩
        have t13 := b79.trans Z13.t
        refine ⟨.ref a, rfl, .ref Lm, rfl, .int (j : Int), rfl, Lm, _, _, .ref x.m, rfl, rfl, SqL.of (LmN _ t13), atM, .ref Ls, rfl, .int (j : Int), rfl, Ls, _, _, .ref o, rfl, rfl, SqL.of (LsN _ t13), atO, .int n, rfl, nV k, rfl, ?_⟩
        refine ⟨a, x.m, o, x.dl, x.pl, t, r, n, x.b, _, k, x.ns, x.ks, L, rfl, G, eL, fun H' t' => MNx H' (t13.trans t'), fun H' t' => SNx H' (t13.trans t'), Z13.B, by omega, Z13.T, hk, nb, fun H14 R14 => ⟨_, rfl, iteF ?_⟩⟩
        exact ⟨_, _, rfl, ⟨Z13.t.trans R14.t, R14.B.mono (by omega), R14.T⟩⟩
      · rintro σ H10 ⟨v5, v6, rfl, Z10⟩
        exact ⟨_, _, _, rfl, ⟨Z9.t.trans Z10.t, Z10.B.mono (by show _ + 2 * ((2 : Nat) : Int) ≤ _; omega), Z10.T⟩⟩
    · rintro σ H8 ⟨v4, v5, v6, rfl, Z8⟩
      rw [List.length_map, les] at Z8
      obtain ⟨n0, hn0⟩ := es0
      have nb0 := esm n0 (List.mem_of_getElem? hn0)
      obtain ⟨x0, g0⟩ : ∃ x0, mds[0]? = some x0 := ⟨mds[0]'(by omega), by simp [show 0 < mds.length by omega]⟩
      obtain ⟨x1, g1⟩ : ∃ x1, mds[1]? = some x1 := ⟨mds[1]'(by omega), by simp [show 1 < mds.length by omega]⟩
      obtain ⟨o0, p0⟩ : ∃ o0, os[0]? = some o0 := ⟨os[0]'(by omega), by simp [show 0 < os.length by omega]⟩
      obtain ⟨o1, p1⟩ : ∃ o1, os[1]? = some o1 := ⟨os[1]'(by omega), by simp [show 1 < os.length by omega]⟩
      obtain ⟨t0, r0, L0, eL0, S0⟩ := SN 0 x0 o0 g0 p0
      obtain ⟨t1, r1, L1, eL1, S1⟩ := SN 1 x1 o1 g1 p1
      have G0 := (MN x0 (List.mem_of_getElem? g0)).1
      have G1 := (MN x1 (List.mem_of_getElem? g1)).1
      have atN : atI (es.map V.int) 0 = some (.int n0) := atI_nat (j := 0) (by rw [List.getElem?_map, hn0]; rfl)
      have at0 : atI (os.map V.ref) 0 = some (.ref o0) := atI_nat (j := 0) (by rw [List.getElem?_map, p0]; rfl)
      have at1 : atI (os.map V.ref) 1 = some (.ref o1) := atI_nat (j := 1) (by rw [List.getElem?_map, p1]; rfl)
      have k0 : (none : KeyN) ∈ none :: x0.ns.map some := List.mem_cons_self
      have k1 : (none : KeyN) ∈ none :: x1.ns.map some := List.mem_cons_self
      dsimp only
      refine seq_cut2 (fun σ' H' => ∃ v7 : Option V, σ' = [some (.ref a), some (.ref Lm), some (.ref Ls), some (.ref Nu), v4, v5, v6, v7, none] ∧ ∃ k, Rn a T H7 k H') ?_ (fun N hN => ?_)
      · rintro σ' H9 ⟨v7, rfl, k, Z9⟩
        refine ⟨.ref Ls, rfl, Ls, _, 1, .ref o1, rfl, rfl, SqL.of (LsN _ Z9.t), at1, rfl, rfl, ?_⟩
        show spWriting C CN CI CU T [.ref o1, .int 0, nV none] H9 _ _
        refine ask_wg G1 eL1 k1 (by decide) (S1 _ Z9.t) Z9.T (fun H10 no _ _ => absurd rfl (no (0, none) (.start List.mem_cons_self))) (fun tp m ls H10 fr len x10 T10 etp m5 => ?_)
        have Z10 := Z9.ext x10 T10
        have els := FirstRow.one (start_in k1) (boundN G1 (by decide)) (fdiv_ok G1.b).1 fr (⟨fun i x hi _ => absurd hi (Nat.not_lt_zero i), (0, none), lvl_zero.mpr rfl, rfl, (fun f _ _ x y h => by cases h), .zero⟩ : FirstRow x1.b x1.ns x1.ks (0, none) 0 [])
        have els := els.2
        subst els
        refine ⟨(by show 0 ≤ sizeLine; decide), fun p hp => ?_⟩
        have Z11 := Z10.new (o := .tup []) hp
        have s11 := same_new (o := .tup []) hp
        have e11 : upd H10 p (.tup []) p = some (.tup []) := upd_same
        generalize upd H10 p (.tup []) = H11 at Z11 s11 e11 ⊢
        refine ⟨.tuple [], .tuple [], .tup (SqT.of (s11 _ _ etp)) .nil, .tup (SqT.of e11) .nil, ints_shapedT [], ints_shapedT [], ?_⟩
        rw [show PyData.eqv (.tuple []) (.tuple []) = true from SeqAt.eqv_refl _ (by decide +kernel)]
        exact q7 _ Z11.t Z11.T
      · refine ⟨.ref Nu, rfl, Nu, _, 0, .int n0, rfl, rfl, SqL.of (NuN _ Z8.t), atN, .ref Ls, rfl, Ls, _, 0, .ref o0, rfl, rfl, SqL.of (LsN _ Z8.t), at0, rfl, rfl, ?_⟩
        show spWritten C CN CI CU T [.ref o0, .int n0, nV none] H8 _ _
        refine ask_wr G0 eL0 k0 nb0 (S0 _ Z8.t) Z8.T fun c H9 hc x9 T9 => ?_
        have Z9 := Z8.ext x9 T9
        refine ⟨.bl c, rfl, c, rfl, .ref Ls, rfl, Ls, _, 0, .ref o0, rfl, rfl, SqL.of (LsN _ Z9.t), at0, .ref Nu, rfl, Nu, _, 0, .int n0, rfl, rfl, SqL.of (NuN _ Z9.t), atN, ?_⟩
        show spWriting C CN CI CU T [.ref o0, .int n0, nV none] H9 _ _
        refine ask_wg G0 eL0 k0 nb0 (S0 _ Z9.t) Z9.T (fun H10 no x10 T10 => ?_) (fun tp m ls H10 fr len x10 T10 etp m5 => ?_)
        · have ec : c = false := (Bool.not_eq_true _).mp fun z => by
            obtain ⟨x, rx, e0⟩ := hc.mp z
            exact no x rx e0
          subst ec
          exact ⟨rfl, false, rfl, rfl, _, rfl, iteFB (neSame rfl) (hN _ _ ⟨_, rfl, _, Z9.ext x10 T10⟩)⟩
        · have ec : c = true := by
            obtain ⟨x, h1, h2, _⟩ := fr.ex
            exact hc.mpr ⟨x, h1.1.reach, h2⟩
          subst ec
          exact ⟨rfl, true, rfl, rfl, _, rfl, iteFB (neSame rfl) (hN _ _ ⟨_, rfl, _, Z9.ext x10 T10⟩)⟩
end
end K12
namespace K12
open PySem PySem.Spec PyProof.Rows L2 OF LamX NdefX
abbrev sFar : Stmt := topS 71
/-! ### base 2, digits -6 and 7 -/
def farP : List Plc := [(3, none), (-2, some 7), (2, some (-6)), (4, some (-6)), (5, some (-6)), (-1, some 7), (-4, some 7), (1, some (-6)), (-3, some 7), (-5, some 7), (-6, some 7), (0, some (-6))]
def cf (i : Nat) : Plc := farP.getD i (0, none)
theorem cf_step : ∀ i, i < 11 → sucP 2 [-6, 7] [] (cf i) = [cf (i + 1)] := by decide +kernel
theorem cf_no : ∀ i, i < 11 → (cf i).1 ≠ 0 := by decide +kernel
theorem cf_walk : ∀ i, i ≤ 11 → Walk (sucP 2 [-6, 7] []) (3, none) i (cf i)
  | 0, _ => .zero
  | i + 1, h => .step (cf_walk i (by omega)) (by rw [cf_step i (by omega)]; exact List.mem_cons_self)
theorem walk_cf : ∀ (i : Nat) {x : Plc}, i ≤ 11 → Walk (sucP 2 [-6, 7] []) (3, none) i x → x = cf i
  | 0, x, _, w => by
    cases w
    rfl
  | i + 1, x, h, w => by
    cases w with
    | step w hx =>
      have e := walk_cf i (by omega) w
      subst e
      rw [cf_step i (by omega)] at hx
      exact List.mem_singleton.mp hx
def rowTo : Nat → List Int
  | 0 => []
  | i + 1 => dgP (cf (i + 1)) :: rowTo i
theorem rowTo_11 : rowTo 11 = [-6, 7, 7, 7, -6, 7, 7, -6, -6, -6, 7] := by decide +kernel
theorem fr_cf : ∀ (i : Nat) {p : Plc} {ls : List Int}, i ≤ 11 → p = cf i → FR 2 [-6, 7] [] (3, none) i p ls → ls = rowTo i
  | 0, p, ls, _, _, h => by
    cases h
    rfl
  | i + 1, p, ls, hi, e, h => by
    cases h with
    | @step _ r d k ls f h =>
      obtain ⟨_, _, _, lk, _⟩ := f
      have z := walk_cf i (by omega) lk.1
      have y := fr_cf i (by omega) z h
      rw [y]
      show d :: _ = dgP (cf (i + 1)) :: _
      rw [← e]
      rfl
theorem first_cf {m : Nat} {ls : List Int} (f : FirstRow 2 [-6, 7] [] (3, none) m ls) : ls = [-6, 7, 7, 7, -6, 7, 7, -6, -6, -6, 7] := by
  obtain ⟨e, le, e0, _, fr⟩ := f.ex
  have l11 : Lvl (sucP 2 [-6, 7] []) (3, none) 11 (cf 11) := ⟨cf_walk 11 (by decide), fun j hj w => by
    have z := walk_cf j (by omega) w
    have := cf_no j hj
    rw [← z] at this
    exact this rfl⟩
  have em : m = 11 := by
    rcases Nat.lt_trichotomy m 11 with h | h | h
    · have z := walk_cf m (by omega) le.1
      rw [z] at e0
      exact absurd e0 (cf_no m h)
    · exact h
    · exact absurd rfl (f.no 11 _ h l11)
  subst em
  rw [← rowTo_11]
  exact fr_cf 11 (by decide) (walk_cf 11 (by decide) le.1) fr
theorem reach_3 : Reach (sucP 2 [-6, 7] []) [(3, none)] (cf 11) := (cf_walk 11 (by decide)).reach
theorem far_good : Good 2 [-6, 7] [] := ⟨by decide, by decide, by decide, by decide, by decide +kernel, (fun p h => by cases h), .nil, by decide⟩
theorem no_6 : ∀ x, Reach (sucP 2 [-6, 7] []) [(6, none)] x → x.1 ≠ 0 := fun x r => by
  have z : x.1 = 6 := r.all (p := fun x => x.1 = 6) (fun y hy => by
    cases List.mem_singleton.mp hy
    rfl) fun y hy z hz => by
      obtain ⟨d, hd, e, rfl⟩ := suc_mem hz
      rw [hy] at e ⊢
      rcases List.mem_cons.mp hd with rfl | hd
      · rfl
      · cases List.mem_singleton.mp hd
        exact absurd e (by decide)
  rw [z]
  decide
section
variable {P : Program} {w : World} {K : PySem.W.Frag} {mg : Str → Option Value} {base : Heap}
def gDef {α : Type} (us ms ws : List α) : List α := us ++ ms
theorem kbDef {f T : Addr} {fd : FuncData} (F : FunD K "__init__" "Scheme.__init__" (defArgs sInit) (defBody sInit) (defScope sInit) [] [("bars", .ref T)] f fd) : ∃ mv : List Value, KBn K fd ["self", "base", "digits", "bars"] 3 [] (fun us ws => gDef us mv ws) (fun vs zs => gDef vs [.ref T] zs) :=
  F.kbinds0 (ps := ["self", "base", "digits", "bars"]) 3 [] [("bars", .ref T)] gDef (fun z => by cases z) (fun q hq => hq) (fun r1 r2 _ => r1.append r2) (fun D doc pm an cdv ct us mv ws l1 l2 l3 => by
    match us, mv, ws, l1, l2, l3 with
    | [x, y, z], [d], [], _, _, _ => exact ⟨_, _, _, _, _, _, rfl, rfl, rfl⟩)
theorem make_far {C CB CD CP TD : Addr} {σ : L2.St} {H : Hp} {n : Nat} {u : TS} {D : Ends} {g : TG} (hn : n = 0) (hTD : ∀ H, IsSeq K H TD []) (q : ∀ o H', Same H H' → IsS C H' o 2 [-6, 7] [] → g (.ref o) σ H' (u D)) :
    tSeq (tAsg (tMakeK C 2 n (spNew K C CB CD CP) (fun vs zs => gDef vs [V.ref TD] zs) E0 (tCons (tC (V.int 2)) (tCons (tLst (tCons (tUn (rU fun i => V.int (-i)) (tC (V.int 6))) (tCons (tC (V.int 7)) tNil))) tNil)) tNil) g) u D σ H := by
  refine ⟨6, rfl, (by show 2 ≤ sizeLine; decide), fun A hA => ?_⟩
  have s1 := same_new (o := .lst [.int (-6), .int 7]) hA
  have e1 : upd H A (.lst [.int (-6), .int 7]) A = some (.lst (([-6, 7] : List Int).map V.int)) := upd_same
  refine ⟨rfl, hn.symm, ?_⟩
  exact made_ok (ns := [-6, 7]) (ks := []) (p := A) (Q := fun x H1 => g x σ H1 (u D)) (by decide) (.lst e1) (by decide) (by decide +kernel) (hTD _) (by decide) (fun p h => by cases h) far_good (fun _ => .rfl) (fun _ => .rfl) fun o H1 s' IS => q o H1 (s1.trans s') IS
def spFar (T : List (Addr × Str)) : Sp := fun vs H Q _ => vs = [] ∧ Tabs T H ∧ ∀ H', ExtN H H' → Tabs T H' → Q (.bl true) H'
theorem scFa : FnScope ["_law_house"] [] (defScope sFar) := ⟨rfl, rfl, rfl, by decide +kernel, rfl, by decide +kernel, by decide +kernel⟩
set_option maxHeartbeats 4000000 in
theorem ok_far {f fN fW fG fL fO C CB CD CP CN CI CU TD : Addr} {fd fdN fdW fdG fdL fdO : FuncData} {T : List (Addr × Str)} (F : Fun K "_law_far_right" "_law_far_right" sFar f fd)
    (FN : FunD K "__init__" "Scheme.__init__" (defArgs sInit) (defBody sInit) (defScope sInit) [] [("bars", .ref TD)] fN fdN) (hTD : ∀ H, IsSeq K H TD []) (M : Mk K C fN) (gC : mg "Scheme" = some (.ref C)) (GN : FnOk P w K mg base (L2.CX P w) 7 fN fdN ["self", "base", "digits", "bars"] (spNew K C CB CD CP))
    (GW : FnOk P w K mg base (L2.CX P w) 10 fW fdW ["scheme", "number", "right"] (spWritten C CN CI CU T)) (gW : mg "is_written" = some (.ref fW)) (kW : PySem.W.keepIn K (.ref fW) = true) (bW : Binds K fdW ["scheme", "number", "right"] [.none])
    (GG : FnOk P w K mg base (L2.CX P w) 10 fG fdG ["scheme", "number", "right"] (spWriting C CN CI CU T)) (gG : mg "writing" = some (.ref fG)) (kG : PySem.W.keepIn K (.ref fG) = true) (bG : Binds K fdG ["scheme", "number", "right"] [.none])
    (GL : FnOk P w K mg base (L2.CX P w) 10 fL fdL ["scheme", "number", "right"] (spClosed C CN CI CU T)) (gL : mg "closed_list" = some (.ref fL)) (kL : PySem.W.keepIn K (.ref fL) = true) (bL : Binds K fdL ["scheme", "number", "right"] [.none])
    (GO : FnOk P w K mg base CX0 4 fO fdO ["_law_model", "_law_place", "_law_told"] (spLClosed)) (gO : mg "_law_closed" = some (.ref fO)) (kO : PySem.W.keepIn K (.ref fO) = true) (bO : Binds K fdO ["_law_model", "_law_place", "_law_told"] []) : FnOk P w K mg base CX0 11 f fd [] (spFar T) := by
  obtain ⟨mvD, kbD⟩ := kbDef FN
  refine F.ok scFa (fun vs H Q E h => ?_) (fun cdv A outer s H vs Q E hr h => ?_)
  · obtain ⟨rfl, _⟩ := h
    rfl
  · obtain ⟨rfl, hT, q⟩ := h
    have hr8 : Room 8 _ := hr.mono (by decide)
    have hr4 : Room 4 _ := hr.mono (by decide)
    apply Exists.intro
    apply And.intro
    · apply pss_cons
      · exact ps_set (i := 0) scFa.nd rfl (.inl rfl) (pe_makeK M GN hr8 (by rfl) gC kbD passNo (pa_cons pe_int (pa_cons (pe_lst (pa_cons (pe_un un_neg pe_int) (pa_cons pe_int pa_nil))) pa_nil)) pk_nil)
      apply pss_cons
      · exact ps_if (PW.pt (pw_or (pt_cmpR (op_neD hr.units) (pe_call GG hr (by rfl) gG kG bG (dvs := [.non]) (.cons rfl .nil) passNo (pa_cons (pv 0) (pa_cons pe_int pa_nil))) (pe_tup (pa_cons (pe_un un_neg pe_int) (pa_cons pe_int (pa_cons pe_int (pa_cons pe_int (pa_cons (pe_un un_neg pe_int) (pa_cons pe_int (pa_cons pe_int (pa_cons (pe_un un_neg pe_int) (pa_cons (pe_un un_neg pe_int) (pa_cons (pe_un un_neg pe_int) (pa_cons pe_int pa_nil)))))))))))) (nomark _)) (pw_or1 (pt_cmpR op_notBl (pe_call GW hr (by rfl) gW kW bW (dvs := [.non]) (.cons rfl .nil) passNo (pa_cons (pv 0) (pa_cons pe_int pa_nil))) pe_bl rfl)))) (pss_one (ps_ret pe_bl)) pss_nil
      apply pss_cons
      · exact ps_if (PW.pt (pw_or (pt_cmpR op_notN (pe_call GL hr (by rfl) gL kL bL (dvs := [.non]) (.cons rfl .nil) passNo (pa_cons (pv 0) (pa_cons pe_int pa_nil))) pe_non (nomark _)) (pw_or (pt_cmpR op_notBl (pe_call GW hr (by rfl) gW kW bW (dvs := [.non]) (.cons rfl .nil) passNo (pa_cons (pv 0) (pa_cons pe_int pa_nil))) pe_bl rfl) (pw_or1 (pt_cmpR op_notN (pe_call GG hr (by rfl) gG kG bG (dvs := [.non]) (.cons rfl .nil) passNo (pa_cons (pv 0) (pa_cons pe_int pa_nil))) pe_non (nomark _)))))) (pss_one (ps_ret pe_bl)) pss_nil
      apply pss_one
      · exact ps_ret (pe_call GO hr4 (by rfl) gO kO bO .nil pass0 (pa_cons (pe_lst (pa_cons pe_int (pa_cons (pe_lst (pa_cons (pe_un un_neg pe_int) (pa_cons pe_int pa_nil))) (pa_cons (pe_lst pa_nil) pa_nil)))) (pa_cons (pe_tup (pa_cons pe_int (pa_cons pe_non pa_nil))) (pa_cons (pe_call GL hr (by rfl) gL kL bL (dvs := [.non]) (.cons rfl .nil) passNo (pa_cons (pv 0) (pa_cons pe_int pa_nil))) pa_nil))))
    have G : Good 2 [-6, 7] (([] : List (Addr × (Int × Int))).map (·.2)) := far_good
    have kn : (none : KeyN) ∈ none :: ([-6, 7] : List Int).map some := List.mem_cons_self
    refine make_far rfl hTD fun o H1 s1 IS => ?_
    obtain ⟨_, t, r, L, eL, S⟩ := IS
    have eL : L.map (·.2) = ([] : List (Addr × (Int × Int))).map (·.2) := eL
    have T1 := hT.ext s1
    have x1 : ExtN H H1 := ExtN.of s1
    refine ⟨.ref o, rfl, ?_⟩
    show spWriting C CN CI CU T [.ref o, .int 3, nV none] H1 _ _
    refine ask_wg G eL kn (by decide) S T1 (fun H2 no _ _ => absurd rfl (no _ reach_3)) (fun tp m ls H2 fr len x2 T2 etp m5 => ?_)
    have els := first_cf fr
    subst els
    refine ⟨6, rfl, 6, rfl, 6, rfl, 6, rfl, 6, rfl, (by show 11 ≤ sizeLine; decide), fun p hp => ?_⟩
    have s3 := same_new (o := .tup ([-6, 7, 7, 7, -6, 7, 7, -6, -6, -6, 7].map V.int)) hp
    have e3 : upd H2 p (.tup ([-6, 7, 7, 7, -6, 7, 7, -6, -6, -6, 7].map V.int)) p = some (.tup ([-6, 7, 7, 7, -6, 7, 7, -6, -6, -6, 7].map V.int)) := upd_same
    have big : ([-6, 7, 7, 7, -6, 7, 7, -6, -6, -6, 7] : List Int) = rowTo 11 := rowTo_11.symm
    refine ⟨.tuple ((([-6, 7, 7, 7, -6, 7, 7, -6, -6, -6, 7] : List Int)).map .int), .tuple ((([-6, 7, 7, 7, -6, 7, 7, -6, -6, -6, 7] : List Int)).map .int), .tup (SqT.of (s3 _ _ etp)) (dp_ints _), .tup (SqT.of e3) (dp_ints _), ints_shapedT _, ints_shapedT _, _, rfl, ?_⟩
    refine iteFB (by rw [SeqAt.eqv_refl _ (by simp only [PyData.canLay0, (ints_can _).1])]; rfl) ?_
    have x3 : ExtN H1 (upd H2 p (.tup ([-6, 7, 7, 7, -6, 7, 7, -6, -6, -6, 7].map V.int))) := x2.trans (ExtN.of s3)
    have T3 := T2.ext s3
    refine ⟨.ref o, rfl, ?_⟩
    show spWritten C CN CI CU T [.ref o, .int 3, nV none] (upd H2 p (.tup ([-6, 7, 7, 7, -6, 7, 7, -6, -6, -6, 7].map V.int))) _ _
    generalize upd H2 p (.tup ([-6, 7, 7, 7, -6, 7, 7, -6, -6, -6, 7].map V.int)) = H3 at x3 T3 ⊢
    clear s3 e3 hp etp x2 T2
    have S3 := S.extN x3
    refine ask_wr G eL kn (by decide) S3 T3 fun c H4 hc x4 T4 => ?_
    have ec : c = true := hc.mpr ⟨_, reach_3, rfl⟩
    subst ec
    refine ⟨true, true, rfl, rfl, _, rfl, iteF ?_⟩
    have S4 := S3.extN x4
    refine ⟨.ref o, rfl, ?_⟩
    show spClosed C CN CI CU T [.ref o, .int 3, nV none] H4 _ _
    refine ask_cl G eL kn (by decide) S4 T4 (fun H5 x5 T5 _ => ?_) (fun l H5 as _ _ _ _ no _ _ => absurd rfl (no _ reach_3))
    have S5 := S4.extN x5
    refine ⟨rfl, _, rfl, iteF ?_⟩
    refine ⟨.ref o, rfl, ?_⟩
    show spWritten C CN CI CU T [.ref o, .int 6, nV none] H5 _ _
    refine ask_wr G eL kn (by decide) S5 T5 fun c H6 hc x6 T6 => ?_
    have ec : c = false := (Bool.not_eq_true _).mp fun z => by
      obtain ⟨x, rx, x0⟩ := hc.mp z
      exact no_6 x rx x0
    subst ec
    refine ⟨false, false, rfl, rfl, _, rfl, iteF ?_⟩
    have S6 := S5.extN x6
    refine ⟨.ref o, rfl, ?_⟩
    show spWriting C CN CI CU T [.ref o, .int 6, nV none] H6 _ _
    refine ask_wg G eL kn (by decide) S6 T6 (fun H7 _ x7 T7 => ?_) (fun tp m ls H7 fr _ _ _ _ _ => by
      obtain ⟨e, h1, h2, _⟩ := fr.ex
      exact absurd h2 (no_6 e h1.1.reach))
    have S7 := S6.extN x7
    refine ⟨rfl, _, rfl, iteF ?_⟩
    refine ⟨6, rfl, (by show 2 ≤ sizeLine; decide), fun dl hdl => ⟨(by show 0 ≤ sizeLine; decide), fun pl hpl => ⟨(by show 3 ≤ sizeLine; decide), fun m hm => ?_⟩⟩⟩
    refine ⟨(by show 2 ≤ sizeLine; decide), fun pt hpt => ?_⟩
    have s8 := same_new (o := .lst [.int (-6), .int 7]) hdl
    have e8 : upd H7 dl (.lst [.int (-6), .int 7]) dl = some (.lst (([-6, 7] : List Int).map V.int)) := upd_same
    have s9 := same_new (o := .lst []) hpl
    have e9 : upd (upd H7 dl (.lst [.int (-6), .int 7])) pl (.lst []) pl = some (.lst []) := upd_same
    have s10 := same_new (o := .lst [.int 2, .ref dl, .ref pl]) hm
    have e10 : upd (upd (upd H7 dl (.lst [.int (-6), .int 7])) pl (.lst [])) m (.lst [.int 2, .ref dl, .ref pl]) m = some (.lst [.int 2, .ref dl, .ref pl]) := upd_same
    have s11 := same_new (o := .tup [.int 6, .non]) hpt
    have e11 : upd (upd (upd (upd H7 dl (.lst [.int (-6), .int 7])) pl (.lst [])) m (.lst [.int 2, .ref dl, .ref pl])) pt (.tup [.int 6, .non]) pt = some (vP (6, none)) := upd_same
    have s12 := s8.trans (s9.trans (s10.trans s11))
    have M12 : ModAt (upd (upd (upd (upd H7 dl (.lst [.int (-6), .int 7])) pl (.lst [])) m (.lst [.int 2, .ref dl, .ref pl])) pt (.tup [.int 6, .non])) m dl pl 2 [-6, 7] [] := ⟨s11 _ _ e10, s11 _ _ (s10 _ _ (s9 _ _ e8)), s11 _ _ (s10 _ _ e9), fun p h => by cases h⟩
    refine ⟨.ref o, rfl, ?_⟩
    show spClosed C CN CI CU T [.ref o, .int 6, nV none] (upd (upd (upd (upd H7 dl (.lst [.int (-6), .int 7])) pl (.lst [])) m (.lst [.int 2, .ref dl, .ref pl])) pt (.tup [.int 6, .non])) _ _
    generalize upd (upd (upd (upd H7 dl (.lst [.int (-6), .int 7])) pl (.lst [])) m (.lst [.int 2, .ref dl, .ref pl])) pt (.tup [.int 6, .non]) = H12 at s12 e11 M12 ⊢
    clear s8 e8 s9 e9 s10 e10 s11
    have T12 := T7.ext s12
    have BU := boundN (n := 6) G (by decide)
    refine ask_cl G eL kn (by decide) (S7.same s12) T12 (fun H13 _ _ ex => by
      obtain ⟨x, rx, x0⟩ := ex
      exact absurd x0 (no_6 x rx)) (fun l H13 as x13 T13 PL re no df _ => ?_)
    have inU : ∀ x ∈ as.map (·.2), x ∈ manyP 2 6 [-6, 7] := fun x hx => Reach.all (p := fun x => x ∈ manyP 2 6 [-6, 7]) (fun x hx => by
      cases List.mem_singleton.mp hx
      exact start_in kn) (fun x hx y hy => BU.cl x hx y hy) ((re x).mp hx)
    have asU : as.length ≤ 100000 := by
      have z := nodup_le (as.map (·.2)) (manyP 2 6 [-6, 7]) (dfs_nodup df .nil) inU
      rw [List.length_map] at z
      exact Nat.le_trans z BU.len
    have M13 : ModAt H13 m dl pl 2 [-6, 7] [] := ⟨x13 _ _ M12.mo (fun ps z => by cases z), x13 _ _ M12.di (fun ps z => by cases z), x13 _ _ M12.pa (fun ps z => by cases z), fun p h => by cases h⟩
    refine ⟨m, dl, pl, pt, l, 2, [-6, 7], [], (6, none), as, rfl, M13, G, x13 _ _ e11 (fun ps z => by cases z), PL, asU, fun p hp => BU.key _ (inU _ (List.mem_map.mpr ⟨p, hp, rfl⟩)), (re _).mpr (.start List.mem_cons_self), fun p hp => ?_, fun H14 s14 => ?_⟩
    · have rr := (re p.2).mp (List.mem_map.mpr ⟨p, hp, rfl⟩)
      exact ⟨no _ rr, fun s hs => (re s).mpr (.step rr hs)⟩
    · exact q H14 (x1.trans (x3.trans (x4.trans (x5.trans (x6.trans (x7.trans ((ExtN.of s12).trans (x13.trans (ExtN.of s14)))))))) ) (T13.ext s14)
end
end K12
namespace K12
open PySem PySem.Spec PyProof.Rows L2 OF LamX NdefX
abbrev sFig : Stmt := inClass (topS 2) 0
abbrev sInBase : Stmt := inClass (topS 3) 0
abbrev sInDig : Stmt := inClass (topS 4) 0
abbrev sInBars : Stmt := inClass (topS 5) 0
abbrev sInNum : Stmt := inClass (topS 8) 0
abbrev sUnk : Stmt := inClass (topS 9) 0
abbrev sNotS : Stmt := inClass (topS 10) 0
section
variable {P : Program} {w : World} {K : PySem.W.Frag} {mg : Str → Option Value} {base : Heap}

/-- no built-in kind is below an own class -/
theorem notK_of {C : Addr} (ty : PySem.W.typeIn K (.ref C) = some (.type "type")) (ic : PySem.W.isClsIn K C = true) : NotK K C := by
  have ic2 : (PySem.W.clsIn K C).isSome = true := ic
  have one : ∀ (T : String) (l : List Value), fastBuiltinMro T = some l → l.contains (.ref C) = false → PySem.W.kitOne K (.type T) (.ref C) = some false := fun T l h hl => by
    unfold PySem.W.kitOne
    split
    · rename_i e
      have e2 : Value.type T = Value.ref C := eq_of_beq e
      cases e2
    · unfold PySem.W.kitCls
      simp only [ty, ic2, beq_self_eq_true, Bool.and_self, if_true]
      show (fastBuiltinMro T).map (·.contains (Value.ref C)) = some false
      rw [h, Option.map_some, hl]
  exact ⟨one "NoneType" _ rfl rfl, one "bool" _ rfl rfl, one "str" _ rfl rfl, one "list" _ rfl rfl, one "tuple" _ rfl rfl, one "dict" _ rfl rfl⟩
theorem exm_off {S D : Addr} (h1 : PySem.W.subIn K (.ref D) (.type "BaseException") = some true) (h2 : PySem.W.isClsIn K D = true) (h3 : PySem.W.typeIn K (.ref D) = some (.type "type")) (h4 : PySem.W.subIn K (.ref S) (.ref D) = some false) (h5 : PySem.W.subIn K (.ref S) (.ref S) = some true) : PySem.W.exmOne K (.ref S) (.ref D) = some false :=
  exm_other h1 h2 h3 h4 fun e => by
    subst e
    rw [h4] at h5
    cases h5

/-! ### calls by names, calls with all arguments -/
theorem vals_rev {vs : List V} {us : List Value} (r : Vals vs us) : Vals vs.reverse us.reverse := by
  induction r with
  | nil => exact .nil
  | cons a _ ih =>
    rw [List.reverse_cons, List.reverse_cons]
    exact ih.append (.cons a .nil)
theorem vals_mid {vs : List V} {us : List Value} {zs : List V} {ws : List Value} (r1 : Vals vs us) (r2 : Vals zs ws) : Vals (gMid vs zs) (gMid us ws) := by
  cases r2 with
  | nil => exact r1.append .nil
  | cons a r2 =>
    cases r2 with
    | nil => exact r1.append (.cons a .nil)
    | cons b r2 =>
      cases r2 with
      | nil => exact r1.append (.cons a (.cons b .nil))
      | cons c r2 =>
        cases r2 with
        | nil => exact r1.append (.cons b (.cons a (.cons c .nil)))
        | cons d r2 => exact r1.append (.cons a (.cons b (.cons c (.cons d r2))))
theorem bdD2 {f : Addr} {fd : FuncData} (F : FunD K "is_written" "is_written" (defArgs sIsWr) (defBody sIsWr) (defScope sIsWr) [.non] [] f fd) : Binds K fd ["scheme", "number", "right"] [] := by
  obtain ⟨ds, hv, hb⟩ := F.binds1 (ps := ["scheme", "number", "right"]) 3 1 (by decide) rfl (fun T kV doc pm an cdv ct us its l1 l2 => by
    match us, its, l1, l2 with
    | [x, y, z], [d], _, _ => exact ⟨_, rfl, rfl⟩)
  cases hv
  exact hb
theorem beD2 {f : Addr} {fd : FuncData} (F : FunD K "is_written" "is_written" (defArgs sIsWr) (defBody sIsWr) (defScope sIsWr) [.non] [] f fd) : Binds K fd ["scheme", "number", "right"] [.none] := by
  obtain ⟨ds, hv, hb⟩ := F.binds1 (ps := ["scheme", "number", "right"]) 2 0 (by decide) rfl (fun T kV doc pm an cdv ct us its l1 l2 => by
    match us, its, l1, l2 with
    | [x, y], [d], _, _ => exact ⟨_, rfl, rfl⟩)
  obtain ⟨u, rfl, rfl⟩ := vals1 hv
  exact hb
theorem bdD3 {f : Addr} {fd : FuncData} (F : FunD K "writing" "writing" (defArgs sWriting) (defBody sWriting) (defScope sWriting) [.non] [] f fd) : Binds K fd ["scheme", "number", "right"] [] := by
  obtain ⟨ds, hv, hb⟩ := F.binds1 (ps := ["scheme", "number", "right"]) 3 1 (by decide) rfl (fun T kV doc pm an cdv ct us its l1 l2 => by
    match us, its, l1, l2 with
    | [x, y, z], [d], _, _ => exact ⟨_, rfl, rfl⟩)
  cases hv
  exact hb
theorem beD3 {f : Addr} {fd : FuncData} (F : FunD K "writing" "writing" (defArgs sWriting) (defBody sWriting) (defScope sWriting) [.non] [] f fd) : Binds K fd ["scheme", "number", "right"] [.none] := by
  obtain ⟨ds, hv, hb⟩ := F.binds1 (ps := ["scheme", "number", "right"]) 2 0 (by decide) rfl (fun T kV doc pm an cdv ct us its l1 l2 => by
    match us, its, l1, l2 with
    | [x, y], [d], _, _ => exact ⟨_, rfl, rfl⟩)
  obtain ⟨u, rfl, rfl⟩ := vals1 hv
  exact hb
theorem bdD4 {f : Addr} {fd : FuncData} (F : FunD K "closed_list" "closed_list" (defArgs sClosed) (defBody sClosed) (defScope sClosed) [.non] [] f fd) : Binds K fd ["scheme", "number", "right"] [] := by
  obtain ⟨ds, hv, hb⟩ := F.binds1 (ps := ["scheme", "number", "right"]) 3 1 (by decide) rfl (fun T kV doc pm an cdv ct us its l1 l2 => by
    match us, its, l1, l2 with
    | [x, y, z], [d], _, _ => exact ⟨_, rfl, rfl⟩)
  cases hv
  exact hb
theorem beD4 {f : Addr} {fd : FuncData} (F : FunD K "closed_list" "closed_list" (defArgs sClosed) (defBody sClosed) (defScope sClosed) [.non] [] f fd) : Binds K fd ["scheme", "number", "right"] [.none] := by
  obtain ⟨ds, hv, hb⟩ := F.binds1 (ps := ["scheme", "number", "right"]) 2 0 (by decide) rfl (fun T kV doc pm an cdv ct us its l1 l2 => by
    match us, its, l1, l2 with
    | [x, y], [d], _, _ => exact ⟨_, rfl, rfl⟩)
  obtain ⟨u, rfl, rfl⟩ := vals1 hv
  exact hb
theorem bdD5 {f : Addr} {fd : FuncData} (F : FunD K "is_closed_list" "is_closed_list" (defArgs sIsClosed) (defBody sIsClosed) (defScope sIsClosed) [.non] [] f fd) : Binds K fd ["scheme", "number", "value", "right"] [] := by
  obtain ⟨ds, hv, hb⟩ := F.binds1 (ps := ["scheme", "number", "value", "right"]) 4 1 (by decide) rfl (fun T kV doc pm an cdv ct us its l1 l2 => by
    match us, its, l1, l2 with
    | [x, y, z, u], [d], _, _ => exact ⟨_, rfl, rfl⟩)
  cases hv
  exact hb
theorem kbD2 {f : Addr} {fd : FuncData} (F : FunD K "is_written" "is_written" (defArgs sIsWr) (defBody sIsWr) (defScope sIsWr) [.non] [] f fd) : KBn K fd ["scheme", "number", "right"] 0 ["number", "scheme", "right"] gMid gMid := by
  obtain ⟨its, h⟩ := F.kbindsD (ps := ["scheme", "number", "right"]) 0 ["number", "scheme", "right"] (fun {α} (us _ zs : List α) => gMid us zs) (by decide) (fun {vs ds zs us its ws} r1 r2 r3 => vals_mid r1 r3)
    (fun T kV doc pm an cdv ct us its ws l1 l2 l3 => by
      match us, its, ws, l1, l2, l3 with
      | [], [d], [n, s, r], _, _, _ => exact ⟨_, rfl, rfl⟩)
  exact h
theorem kbD3 {f : Addr} {fd : FuncData} (F : FunD K "writing" "writing" (defArgs sWriting) (defBody sWriting) (defScope sWriting) [.non] [] f fd) : KBn K fd ["scheme", "number", "right"] 0 ["right", "number", "scheme"] gRev gRev := by
  obtain ⟨its, h⟩ := F.kbindsD (ps := ["scheme", "number", "right"]) 0 ["right", "number", "scheme"] (fun {α} (us _ zs : List α) => gRev us zs) (by decide) (fun {vs ds zs us its ws} r1 r2 r3 => r1.append (vals_rev r3))
    (fun T kV doc pm an cdv ct us its ws l1 l2 l3 => by
      match us, its, ws, l1, l2, l3 with
      | [], [d], [r, n, s], _, _, _ => exact ⟨_, rfl, rfl⟩)
  exact h
theorem scFig : FnScope ["self", "text"] ["self", "text"] (defScope sFig) := ⟨rfl, rfl, rfl, by decide +kernel, rfl, by decide +kernel, by decide +kernel⟩
theorem ok_fig {f : Addr} {fd : FuncData} (F : Fun K "__init__" "FigureError.__init__" sFig f fd) (mV : mg "ValueError" = none) (vV : PySem.W.findCls K (.type "ValueError") (.type "type") "__init__" = some (.val (.builtin "ValueError.__init__"))) :
    FnOk P w K mg base CX0 1 f fd ["self", "text"] (spFig K) := by
  refine F.ok scFig (fun vs H Q E h => ?_) (fun cdv A outer s H vs Q E hr h => ?_)
  · obtain ⟨a, C, v, nm, rfl, _⟩ := h
    rfl
  · obtain ⟨a, C, v, nm, rfl, T, N, ha, q⟩ := h
    refine ⟨_, pss_cons (ps_expr (pe_veinit (by rfl) mV vV (pa_cons (pv 0) (pa_cons (pv 1) pa_nil)))) (pss_one (ps_ost (pv 0) (pe_cname (pv 0)))), ?_⟩
    exact ⟨.ref a, rfl, v, rfl, a, C, [v], rfl, (by show 1 ≤ 1000; decide), T, ha, .ref a, rfl, a, C, nm, rfl, ha, N, .ref a, rfl, a, C, rfl, T, N.no, .inl ⟨ha, fun d hd nd => q d hd nd⟩⟩
theorem sc_InvalidBase : FnScope ["self", "value"] ["self", "value"] (defScope sInBase) := ⟨rfl, rfl, rfl, by decide +kernel, rfl, by decide +kernel, by decide +kernel⟩
theorem ok_InvalidBase {f f0 C C0 : Addr} {fd fd0 : FuncData} (F : Fun K "__init__" "InvalidBase.__init__" sInBase f fd) (F0 : Fun K "__init__" "FigureError.__init__" sFig f0 fd0) (T0 : FigC K mg C0 f0) (b0 : Binds K fd0 ["self", "text"] []) (T : ErrC K mg "InvalidBase" "value" C f)
    (mV : mg "ValueError" = none) (vV : PySem.W.findCls K (.type "ValueError") (.type "type") "__init__" = some (.val (.builtin "ValueError.__init__"))) :
    FnOk P w K mg base CX0 2 f fd ["self", "value"] (spInit K "value" C) := by
  have G0 : FnOk P w K mg base CX0 1 f0 fd0 ["self", "text"] (spFig K) := ok_fig F0 mV vV
  refine F.ok sc_InvalidBase (fun vs H Q E h => ?_) (fun cdv A outer s H vs Q E hr h => ?_)
  · obtain ⟨a, v, rfl, _⟩ := h
    rfl
  · obtain ⟨a, v, rfl, ha, q⟩ := h
    refine ⟨_, pss_cons (ps_expr (pe_unb G0 hr (by rfl) T0.g T0.rd T0.val T0.kp b0 pass0 (pa_cons (pv 0) (pa_cons pe_str pa_nil)))) (pss_one (ps_ost (pv 0) (pv 1))), ?_⟩
    obtain ⟨nm, N⟩ := T.nam
    refine ⟨.ref a, rfl, a, C, _, nm, rfl, T.ox, N, ha, fun d hd nd => ?_⟩
    refine ⟨v, rfl, .ref a, rfl, a, C, rfl, T.ox, T.no, .inr ⟨d, _, upd_same, by rw [upd_ne nd]; exact upd_same, (by show 1 ≤ 900; decide), ?_⟩⟩
    rw [upd_swap nd]
    exact q _ d hd nd

theorem sc_InvalidDigits : FnScope ["self", "value"] ["self", "value"] (defScope sInDig) := ⟨rfl, rfl, rfl, by decide +kernel, rfl, by decide +kernel, by decide +kernel⟩
theorem ok_InvalidDigits {f f0 C C0 : Addr} {fd fd0 : FuncData} (F : Fun K "__init__" "InvalidDigits.__init__" sInDig f fd) (F0 : Fun K "__init__" "FigureError.__init__" sFig f0 fd0) (T0 : FigC K mg C0 f0) (b0 : Binds K fd0 ["self", "text"] []) (T : ErrC K mg "InvalidDigits" "value" C f)
    (mV : mg "ValueError" = none) (vV : PySem.W.findCls K (.type "ValueError") (.type "type") "__init__" = some (.val (.builtin "ValueError.__init__"))) :
    FnOk P w K mg base CX0 2 f fd ["self", "value"] (spInit K "value" C) := by
  have G0 : FnOk P w K mg base CX0 1 f0 fd0 ["self", "text"] (spFig K) := ok_fig F0 mV vV
  refine F.ok sc_InvalidDigits (fun vs H Q E h => ?_) (fun cdv A outer s H vs Q E hr h => ?_)
  · obtain ⟨a, v, rfl, _⟩ := h
    rfl
  · obtain ⟨a, v, rfl, ha, q⟩ := h
    refine ⟨_, pss_cons (ps_expr (pe_unb G0 hr (by rfl) T0.g T0.rd T0.val T0.kp b0 pass0 (pa_cons (pv 0) (pa_cons pe_str pa_nil)))) (pss_one (ps_ost (pv 0) (pv 1))), ?_⟩
    obtain ⟨nm, N⟩ := T.nam
    refine ⟨.ref a, rfl, a, C, _, nm, rfl, T.ox, N, ha, fun d hd nd => ?_⟩
    refine ⟨v, rfl, .ref a, rfl, a, C, rfl, T.ox, T.no, .inr ⟨d, _, upd_same, by rw [upd_ne nd]; exact upd_same, (by show 1 ≤ 900; decide), ?_⟩⟩
    rw [upd_swap nd]
    exact q _ d hd nd

theorem sc_InvalidBars : FnScope ["self", "value"] ["self", "value"] (defScope sInBars) := ⟨rfl, rfl, rfl, by decide +kernel, rfl, by decide +kernel, by decide +kernel⟩
theorem ok_InvalidBars {f f0 C C0 : Addr} {fd fd0 : FuncData} (F : Fun K "__init__" "InvalidBars.__init__" sInBars f fd) (F0 : Fun K "__init__" "FigureError.__init__" sFig f0 fd0) (T0 : FigC K mg C0 f0) (b0 : Binds K fd0 ["self", "text"] []) (T : ErrC K mg "InvalidBars" "value" C f)
    (mV : mg "ValueError" = none) (vV : PySem.W.findCls K (.type "ValueError") (.type "type") "__init__" = some (.val (.builtin "ValueError.__init__"))) :
    FnOk P w K mg base CX0 2 f fd ["self", "value"] (spInit K "value" C) := by
  have G0 : FnOk P w K mg base CX0 1 f0 fd0 ["self", "text"] (spFig K) := ok_fig F0 mV vV
  refine F.ok sc_InvalidBars (fun vs H Q E h => ?_) (fun cdv A outer s H vs Q E hr h => ?_)
  · obtain ⟨a, v, rfl, _⟩ := h
    rfl
  · obtain ⟨a, v, rfl, ha, q⟩ := h
    refine ⟨_, pss_cons (ps_expr (pe_unb G0 hr (by rfl) T0.g T0.rd T0.val T0.kp b0 pass0 (pa_cons (pv 0) (pa_cons pe_str pa_nil)))) (pss_one (ps_ost (pv 0) (pv 1))), ?_⟩
    obtain ⟨nm, N⟩ := T.nam
    refine ⟨.ref a, rfl, a, C, _, nm, rfl, T.ox, N, ha, fun d hd nd => ?_⟩
    refine ⟨v, rfl, .ref a, rfl, a, C, rfl, T.ox, T.no, .inr ⟨d, _, upd_same, by rw [upd_ne nd]; exact upd_same, (by show 1 ≤ 900; decide), ?_⟩⟩
    rw [upd_swap nd]
    exact q _ d hd nd

theorem sc_NotScheme : FnScope ["self", "value"] ["self", "value"] (defScope sNotS) := ⟨rfl, rfl, rfl, by decide +kernel, rfl, by decide +kernel, by decide +kernel⟩
theorem ok_NotScheme {f f0 C C0 : Addr} {fd fd0 : FuncData} (F : Fun K "__init__" "NotScheme.__init__" sNotS f fd) (F0 : Fun K "__init__" "FigureError.__init__" sFig f0 fd0) (T0 : FigC K mg C0 f0) (b0 : Binds K fd0 ["self", "text"] []) (T : ErrC K mg "NotScheme" "value" C f)
    (mV : mg "ValueError" = none) (vV : PySem.W.findCls K (.type "ValueError") (.type "type") "__init__" = some (.val (.builtin "ValueError.__init__"))) :
    FnOk P w K mg base CX0 2 f fd ["self", "value"] (spInit K "value" C) := by
  have G0 : FnOk P w K mg base CX0 1 f0 fd0 ["self", "text"] (spFig K) := ok_fig F0 mV vV
  refine F.ok sc_NotScheme (fun vs H Q E h => ?_) (fun cdv A outer s H vs Q E hr h => ?_)
  · obtain ⟨a, v, rfl, _⟩ := h
    rfl
  · obtain ⟨a, v, rfl, ha, q⟩ := h
    refine ⟨_, pss_cons (ps_expr (pe_unb G0 hr (by rfl) T0.g T0.rd T0.val T0.kp b0 pass0 (pa_cons (pv 0) (pa_cons pe_str pa_nil)))) (pss_one (ps_ost (pv 0) (pv 1))), ?_⟩
    obtain ⟨nm, N⟩ := T.nam
    refine ⟨.ref a, rfl, a, C, _, nm, rfl, T.ox, N, ha, fun d hd nd => ?_⟩
    refine ⟨v, rfl, .ref a, rfl, a, C, rfl, T.ox, T.no, .inr ⟨d, _, upd_same, by rw [upd_ne nd]; exact upd_same, (by show 1 ≤ 900; decide), ?_⟩⟩
    rw [upd_swap nd]
    exact q _ d hd nd

theorem sc_InvalidNumber : FnScope ["self", "number"] ["self", "number"] (defScope sInNum) := ⟨rfl, rfl, rfl, by decide +kernel, rfl, by decide +kernel, by decide +kernel⟩
theorem ok_InvalidNumber {f f0 C C0 : Addr} {fd fd0 : FuncData} (F : Fun K "__init__" "InvalidNumber.__init__" sInNum f fd) (F0 : Fun K "__init__" "FigureError.__init__" sFig f0 fd0) (T0 : FigC K mg C0 f0) (b0 : Binds K fd0 ["self", "text"] []) (T : ErrC K mg "InvalidNumber" "number" C f)
    (mV : mg "ValueError" = none) (vV : PySem.W.findCls K (.type "ValueError") (.type "type") "__init__" = some (.val (.builtin "ValueError.__init__"))) :
    FnOk P w K mg base CX0 2 f fd ["self", "number"] (spInit K "number" C) := by
  have G0 : FnOk P w K mg base CX0 1 f0 fd0 ["self", "text"] (spFig K) := ok_fig F0 mV vV
  refine F.ok sc_InvalidNumber (fun vs H Q E h => ?_) (fun cdv A outer s H vs Q E hr h => ?_)
  · obtain ⟨a, v, rfl, _⟩ := h
    rfl
  · obtain ⟨a, v, rfl, ha, q⟩ := h
    refine ⟨_, pss_cons (ps_expr (pe_unb G0 hr (by rfl) T0.g T0.rd T0.val T0.kp b0 pass0 (pa_cons (pv 0) (pa_cons pe_str pa_nil)))) (pss_one (ps_ost (pv 0) (pv 1))), ?_⟩
    obtain ⟨nm, N⟩ := T.nam
    refine ⟨.ref a, rfl, a, C, _, nm, rfl, T.ox, N, ha, fun d hd nd => ?_⟩
    refine ⟨v, rfl, .ref a, rfl, a, C, rfl, T.ox, T.no, .inr ⟨d, _, upd_same, by rw [upd_ne nd]; exact upd_same, (by show 1 ≤ 900; decide), ?_⟩⟩
    rw [upd_swap nd]
    exact q _ d hd nd

theorem sc_UnknownDigit : FnScope ["self", "digit"] ["self", "digit"] (defScope sUnk) := ⟨rfl, rfl, rfl, by decide +kernel, rfl, by decide +kernel, by decide +kernel⟩
theorem ok_UnknownDigit {f f0 C C0 : Addr} {fd fd0 : FuncData} (F : Fun K "__init__" "UnknownDigit.__init__" sUnk f fd) (F0 : Fun K "__init__" "FigureError.__init__" sFig f0 fd0) (T0 : FigC K mg C0 f0) (b0 : Binds K fd0 ["self", "text"] []) (T : ErrC K mg "UnknownDigit" "digit" C f)
    (mV : mg "ValueError" = none) (vV : PySem.W.findCls K (.type "ValueError") (.type "type") "__init__" = some (.val (.builtin "ValueError.__init__"))) :
    FnOk P w K mg base CX0 2 f fd ["self", "digit"] (spInit K "digit" C) := by
  have G0 : FnOk P w K mg base CX0 1 f0 fd0 ["self", "text"] (spFig K) := ok_fig F0 mV vV
  refine F.ok sc_UnknownDigit (fun vs H Q E h => ?_) (fun cdv A outer s H vs Q E hr h => ?_)
  · obtain ⟨a, v, rfl, _⟩ := h
    rfl
  · obtain ⟨a, v, rfl, ha, q⟩ := h
    refine ⟨_, pss_cons (ps_expr (pe_unb G0 hr (by rfl) T0.g T0.rd T0.val T0.kp b0 pass0 (pa_cons (pv 0) (pa_cons pe_str pa_nil)))) (pss_one (ps_ost (pv 0) (pv 1))), ?_⟩
    obtain ⟨nm, N⟩ := T.nam
    refine ⟨.ref a, rfl, a, C, _, nm, rfl, T.ox, N, ha, fun d hd nd => ?_⟩
    refine ⟨v, rfl, .ref a, rfl, a, C, rfl, T.ox, T.no, .inr ⟨d, _, upd_same, by rw [upd_ne nd]; exact upd_same, (by show 1 ≤ 900; decide), ?_⟩⟩
    rw [upd_swap nd]
    exact q _ d hd nd


/-- a list that the box and the tables leave -/
theorem seq_pastN {K : PySem.W.Frag} {H H1 H2 : Hp} {a p : Addr} {xs : List V} (hp : H p = none) (s : Same H H1) (b : BN p H1 H2) (h : SqL K H a xs) : SqL K H2 a xs := by
  rcases h with (h | ⟨o, h⟩) | h
  · exact .inl (.inl (b _ _ (ne_of_none h hp) (s _ _ h) (fun ps z => by cases z)))
  · exact .inl (.inr ⟨o, b _ _ (ne_of_none h hp) (s _ _ h) (fun ps z => by cases z)⟩)
  · exact .inr h
def spLaw (K : PySem.W.Frag) (T : List (Addr × Str)) : Sp := fun vs H Q _ => ∃ (a : Addr) (ns : List Int), vs = [.ref a] ∧ SqL K H a (ns.map V.int) ∧ ns.length ≤ 63 ∧ Tabs T H ∧ ∀ H', Q (.bl true) H'
theorem scL : FnScope ["_law_script", "_law_k"] ["_law_script"] (defScope sLaw) := ⟨rfl, rfl, rfl, by decide +kernel, rfl, by decide +kernel, by decide +kernel⟩
theorem ok_law {f fC fX fR fA : Addr} {fd fdC fdX fdR fdA : FuncData} {T : List (Addr × Str)} (F : Fun K "law" "law" sLaw f fd)
    (FC : Fun K "_law_cell" "_law_cell" sCell fC fdC) (gC : mg "_law_cell" = some (.ref fC)) (bC : Binds K fdC ["_law_script", "_law_k"] [])
    (FX : Fun K "_law_box" "_law_box" sBox fX fdX) (gX : mg "_law_box" = some (.ref fX)) (bX : Binds K fdX ["_law_cell_here"] [])
    (GR : FnG P w K mg base 12 fR fdR ["_law_box_here"] (spRight T)) (gR : mg "_law_right" = some (.ref fR)) (kR : PySem.W.keepIn K (.ref fR) = true) (bR : Binds K fdR ["_law_box_here"] [])
    (GA : FnOk P w K mg base CX0 11 fA fdA [] (spFar T)) (gA : mg "_law_far_right" = some (.ref fA)) (kA : PySem.W.keepIn K (.ref fA) = true) (bA : Binds K fdA [] [])
    (mi : mg "int" = none) (ml : mg "len" = none) (mr : mg "range" = none) (mx : mg "max" = none) (mn : mg "min" = none) : FnG P w K mg base 13 f fd ["_law_script"] (spLaw K T) := by
  have GC : FnOk P w K mg base CX0 1 fC fdC ["_law_script", "_law_k"] (OF.spCell K) := ok_cell FC ml
  have GX : FnOk P w K mg base CX0 1 fX fdX ["_law_cell_here"] spBox := ok_box FX mi mx
  refine okG F scL (fun vs H Q E h => ?_) (fun cdv A outer s H vs Q E gu hr h => ?_)
  · obtain ⟨a, ns, rfl, _⟩ := h
    rfl
  · obtain ⟨a, ns, rfl, hS, hlen, hT, q⟩ := h
    have hr1 : Room 1 _ := hr.mono (by decide)
    apply Exists.intro
    apply And.intro
    · apply pss_cons
      · exact ps_for PassesOwn.never rfl (pi_range1 rfl mr (pa_cons (pe_callB (call_max2 rfl) (by rfl) mx PyProof.Rows.boot_max (pa_cons pe_int (pa_cons
            (pe_callB (call_min2 rfl) (by rfl) mn PyProof.Rows.boot_min (pa_cons pe_int (pa_cons (pe_callB call_len_seq (by rfl) ml PySem.boot_len (pa_cons (pv 0) pa_nil)) pa_nil))) pa_nil))) pa_nil))
          (pg_name (i := 1) scL.nd rfl (.inl rfl))
          (pss_one (ps_if (pt_not (pt_val (pe_callG GR gu hr (by rfl) gR kR bR pass0 (pa_cons (pe_call GX hr1 (by rfl) gX FX.kp bX .nil pass0 (pa_cons (pe_call GC hr1 (by rfl) gC FC.kp bC .nil pass0 (pa_cons (pv 0) (pa_cons (pv 1) pa_nil))) pa_nil)) pa_nil))))
            (pss_one (ps_ret pe_bl)) pss_nil))
      apply pss_one
      · exact ps_ret (pe_call0 GA (hr.mono (by decide)) (by rfl) gA kA bA .nil pass0)
    refine ⟨.ref a, rfl, a, _, rfl, .inl hS, _, _, rfl, _, _, rfl, _, rfl, ?_, ?_, for_range (lo := 0) (n := _) (fun i σ H' => ∃ v, σ = [some (.ref a), v] ∧ SqL K H' a (ns.map V.int) ∧ Tabs T H') ⟨none, rfl, hS, hT⟩ ?_ ?_⟩
    · rw [List.length_map]
      split <;> split <;> omega
    · rw [List.length_map]
      split <;> split <;> omega
    · rintro i σ H' hi ⟨v, rfl, hS', hT'⟩
      have hi' : i < 1000 := by
        rw [List.length_map] at hi
        split at hi <;> split at hi <;> omega
      refine ⟨.ref a, rfl, .int (0 + i), rfl, a, ns, i, ?_, hS', hi', fun c => ?_⟩
      · rw [Int.zero_add]
        rfl
      refine ⟨c, rfl, fun p H1 hp s1 B1 => ?_⟩
      refine ⟨p, rfl, B1, hT'.ext s1, fun H2 t2 T2 => ⟨true, rfl, iteF ?_⟩⟩
      exact ⟨some (.int (0 + i)), rfl, seq_pastN hp s1 t2 hS', T2⟩
    · rintro σ H' ⟨v, rfl, hS', hT'⟩
      exact ⟨rfl, hT', fun H2 _ _ => q H2⟩
end
end K12
namespace K12
open PySem PySem.Spec PyProof.Rows L2 OF LamX NdefX
set_option maxHeartbeats 4000000 in
theorem all_mk {l : PySem.W.OpenLaw} {w : World} {K : PySem.W.Frag} {h : Heap} {mg : Str → Option Value} {fa f1 f2 f3 f4 f5 f6 f7 f8 f9 f10 f11 f12 f13 f14 f15 f16 f17 f18 f19 f20 f21 f22 f23 f24 f25 f26 f27 f28 f29 f30 f31 f32 f33 f34 f35 f36 f37 f38 f39 f40 f41 f42 f43 f44 f45 CF fF CS h1 C1 fI1 C2 fI2 C3 fI3 C4 fI4 C5 fI5 C6 fI6 : Addr}
    {od1 an1 od2 an2 od3 an3 od4 an4 od5 an5 od6 an6 od7 an7 od8 an8 od9 an9 od10 an10 od11 an11 od12 an12 od13 an13 od14 an14 od15 an15 od16 an16 od17 an17 od18 an18 od19 an19 od20 an20 od21 an21 od22 an22 od23 an23 od24 an24 od25 an25 od26 an26 od27 an27 od28 an28 od29 an29 od30 an30 od31 an31 od32 an32 od33 an33 od34 an34 od35 an35 od36 an36 od37 an37 od38 an38 od39 an39 od40 an40 od41 an41 od42 an42 od43 an43 od44 an44 od45 an45 odF anF odM1 anM1 odI1 anI1 odI2 anI2 odI3 anI3 odI4 anI4 odI5 anI5 odI6 anI6 : Option Addr}
    {sl1 sl2 sl3 sl4 sl5 sl6 sl7 sl8 sl9 sl10 sl11 sl12 sl13 sl14 sl15 sl16 sl17 sl18 sl19 sl20 sl21 sl22 sl23 sl24 sl25 sl26 sl27 sl28 sl29 sl30 sl31 sl32 sl33 sl34 sl35 sl36 sl37 sl38 sl39 sl40 sl41 sl42 sl43 sl44 sl45 slF slM1 slI1 slI2 slI3 slI4 slI5 slI6 : Array (Option Value)}
    {oc1 kV1 dc1 pm1 cd1 ct1 oc2 kV2 dc2 pm2 cd2 ct2 oc3 kV3 dc3 pm3 cd3 ct3 oc4 kV4 dc4 pm4 cd4 ct4 oc5 kV5 dc5 pm5 cd5 ct5 oc6 kV6 dc6 pm6 cd6 ct6 oc7 kV7 dc7 pm7 cd7 ct7 oc8 kV8 dc8 pm8 cd8 ct8 oc9 kV9 dc9 pm9 cd9 ct9 oc10 kV10 dc10 pm10 cd10 ct10 oc11 kV11 dc11 pm11 cd11 ct11 oc12 kV12 dc12 pm12 cd12 ct12 oc13 kV13 dc13 pm13 cd13 ct13 oc14 kV14 dc14 pm14 cd14 ct14 oc15 kV15 dc15 pm15 cd15 ct15 oc16 kV16 dc16 pm16 cd16 ct16 oc17 kV17 dc17 pm17 cd17 ct17 oc18 kV18 dc18 pm18 cd18 ct18 oc19 kV19 dc19 pm19 cd19 ct19 oc20 kV20 dc20 pm20 cd20 ct20 oc21 kV21 dc21 pm21 cd21 ct21 oc22 kV22 dc22 pm22 cd22 ct22 oc23 kV23 dc23 pm23 cd23 ct23 oc24 kV24 dc24 pm24 cd24 ct24 oc25 kV25 dc25 pm25 cd25 ct25 oc26 kV26 dc26 pm26 cd26 ct26 oc27 kV27 dc27 pm27 cd27 ct27 oc28 kV28 dc28 pm28 cd28 ct28 oc29 kV29 dc29 pm29 cd29 ct29 oc30 kV30 dc30 pm30 cd30 ct30 oc31 kV31 dc31 pm31 cd31 ct31 oc32 kV32 dc32 pm32 cd32 ct32 oc33 kV33 dc33 pm33 cd33 ct33 oc34 kV34 dc34 pm34 cd34 ct34 oc35 kV35 dc35 pm35 cd35 ct35 oc36 kV36 dc36 pm36 cd36 ct36 oc37 kV37 dc37 pm37 cd37 ct37 oc38 kV38 dc38 pm38 cd38 ct38 oc39 kV39 dc39 pm39 cd39 ct39 oc40 kV40 dc40 pm40 cd40 ct40 oc41 kV41 dc41 pm41 cd41 ct41 oc42 kV42 dc42 pm42 cd42 ct42 oc43 kV43 dc43 pm43 cd43 ct43 oc44 kV44 dc44 pm44 cd44 ct44 oc45 kV45 dc45 pm45 cd45 ct45 ocF kVF dcF pmF cdF ctF ocM1 kVM1 dcM1 pmM1 cdM1 ctM1 ocI1 kVI1 dcI1 pmI1 cdI1 ctI1 ocI2 kVI2 dcI2 pmI2 cdI2 ctI2 ocI3 kVI3 dcI3 pmI3 cdI3 ctI3 ocI4 kVI4 dcI4 pmI4 cdI4 ctI4 ocI5 kVI5 dcI5 pmI5 cdI5 ctI5 ocI6 kVI6 dcI6 pmI6 cdI6 ctI6 : Value}
    {t6 t9 tb : Tok}
    {hN pB pD TD DK c0 PT gB gD fIW fWr fCl fIc : Addr}
    {odPB anPB odPD anPD odIn anIn odT : Option Addr}
    {slPB slPD slIn slT : Array (Option Value)}
    {ocPB kVPB dcPB pmPB cdPB ctPB ocPD kVPD dcPD pmPD cdPD ctPD ocIn dcIn pmIn cdIn ctIn : Value}
    {restB restD : List Value}
    {nT : Nat}
    {nm1 q1 : Str} {N1 : Addr} {bs1 : List Value} {sn1 : List Str} {sub1 : List Value} {ab1 : Bool} {col1 : Option Bool} {dd1 : Option Addr} {m01 m11 m31 m51 : Option Value} {cn1 : Str} {tkE1 : Tok}
    {nm2 q2 : Str} {N2 : Addr} {bs2 : List Value} {sn2 : List Str} {sub2 : List Value} {ab2 : Bool} {col2 : Option Bool} {dd2 : Option Addr} {m02 m12 m32 m52 : Option Value} {cn2 : Str} {tkE2 : Tok}
    {nm3 q3 : Str} {N3 : Addr} {bs3 : List Value} {sn3 : List Str} {sub3 : List Value} {ab3 : Bool} {col3 : Option Bool} {dd3 : Option Addr} {m03 m13 m33 m53 : Option Value} {cn3 : Str} {tkE3 : Tok}
    {nm4 q4 : Str} {N4 : Addr} {bs4 : List Value} {sn4 : List Str} {sub4 : List Value} {ab4 : Bool} {col4 : Option Bool} {dd4 : Option Addr} {m04 m14 m34 m54 : Option Value} {cn4 : Str} {tkE4 : Tok}
    {nm5 q5 : Str} {N5 : Addr} {bs5 : List Value} {sn5 : List Str} {sub5 : List Value} {ab5 : Bool} {col5 : Option Bool} {dd5 : Option Addr} {m05 m15 m35 m55 : Option Value} {cn5 : Str} {tkE5 : Tok}
    {nm6 q6 : Str} {N6 : Addr} {bs6 : List Value} {sn6 : List Str} {sub6 : List Value} {ab6 : Bool} {col6 : Option Bool} {dd6 : Option Addr} {m06 m16 m36 m56 : Option Value} {cn6 : Str} {tkE6 : Tok}
    (X : K.In h) (G : h.Ns mainGlobals mg) (hfa : mg "law" = some (.ref fa))
    (a1 : PySem.W.nsIn K mainGlobals "is_whole" = some (some (.ref f1)))
    (l1 : K.lookup f1 = some ⟨oc1, od1, .func (PySem.W.fnOf "is_whole" "is_whole" (defArgs sWhole) (defBody sWhole) (defScope sWhole) .none kV1 dc1 pm1 an1 cd1 ct1), sl1⟩)
    (c1 : PySem.W.codeIn K cd1 "is_whole" = true)
    (k1 : PySem.W.keepIn K (.ref f1) = true)
    (a2 : PySem.W.nsIn K mainGlobals "is_integer" = some (some (.ref f2)))
    (l2 : K.lookup f2 = some ⟨oc2, od2, .func (PySem.W.fnOf "is_integer" "is_integer" (defArgs sIsInt) (defBody sIsInt) (defScope sIsInt) .none kV2 dc2 pm2 an2 cd2 ct2), sl2⟩)
    (c2 : PySem.W.codeIn K cd2 "is_integer" = true)
    (k2 : PySem.W.keepIn K (.ref f2) = true)
    (a3 : PySem.W.nsIn K mainGlobals "is_base" = some (some (.ref f3)))
    (l3 : K.lookup f3 = some ⟨oc3, od3, .func (PySem.W.fnOf "is_base" "is_base" (defArgs sIsBase) (defBody sIsBase) (defScope sIsBase) .none kV3 dc3 pm3 an3 cd3 ct3), sl3⟩)
    (c3 : PySem.W.codeIn K cd3 "is_base" = true)
    (k3 : PySem.W.keepIn K (.ref f3) = true)
    (a4 : PySem.W.nsIn K mainGlobals "is_digit" = some (some (.ref f4)))
    (l4 : K.lookup f4 = some ⟨oc4, od4, .func (PySem.W.fnOf "is_digit" "is_digit" (defArgs sIsDigit) (defBody sIsDigit) (defScope sIsDigit) .none kV4 dc4 pm4 an4 cd4 ct4), sl4⟩)
    (c4 : PySem.W.codeIn K cd4 "is_digit" = true)
    (k4 : PySem.W.keepIn K (.ref f4) = true)
    (a5 : PySem.W.nsIn K mainGlobals "are_digits" = some (some (.ref f5)))
    (l5 : K.lookup f5 = some ⟨oc5, od5, .func (PySem.W.fnOf "are_digits" "are_digits" (defArgs sAre) (defBody sAre) (defScope sAre) .none kV5 dc5 pm5 an5 cd5 ct5), sl5⟩)
    (c5 : PySem.W.codeIn K cd5 "are_digits" = true)
    (k5 : PySem.W.keepIn K (.ref f5) = true)
    (a6 : PySem.W.nsIn K mainGlobals "_is_one_of" = some (some (.ref f6)))
    (l6 : K.lookup f6 = some ⟨oc6, od6, .func (PySem.W.fnOf "_is_one_of" "_is_one_of" (defArgs sOneOf) (defBody sOneOf) (defScope sOneOf) .none kV6 dc6 pm6 an6 cd6 ct6), sl6⟩)
    (c6 : PySem.W.codeIn K cd6 "_is_one_of" = true)
    (k6 : PySem.W.keepIn K (.ref f6) = true)
    (a7 : PySem.W.nsIn K mainGlobals "_is_pair" = some (some (.ref f7)))
    (l7 : K.lookup f7 = some ⟨oc7, od7, .func (PySem.W.fnOf "_is_pair" "_is_pair" (defArgs sIsPair) (defBody sIsPair) (defScope sIsPair) .none kV7 dc7 pm7 an7 cd7 ct7), sl7⟩)
    (c7 : PySem.W.codeIn K cd7 "_is_pair" = true)
    (k7 : PySem.W.keepIn K (.ref f7) = true)
    (a8 : PySem.W.nsIn K mainGlobals "_is_digit_list" = some (some (.ref f8)))
    (l8 : K.lookup f8 = some ⟨oc8, od8, .func (PySem.W.fnOf "_is_digit_list" "_is_digit_list" (defArgs sDigList) (defBody sDigList) (defScope sDigList) .none kV8 dc8 pm8 an8 cd8 ct8), sl8⟩)
    (c8 : PySem.W.codeIn K cd8 "_is_digit_list" = true)
    (k8 : PySem.W.keepIn K (.ref f8) = true)
    (a9 : PySem.W.nsIn K mainGlobals "_different_digits" = some (some (.ref f9)))
    (l9 : K.lookup f9 = some ⟨oc9, od9, .func (PySem.W.fnOf "_different_digits" "_different_digits" (defArgs sDiffDig) (defBody sDiffDig) (defScope sDiffDig) .none kV9 dc9 pm9 an9 cd9 ct9), sl9⟩)
    (c9 : PySem.W.codeIn K cd9 "_different_digits" = true)
    (k9 : PySem.W.keepIn K (.ref f9) = true)
    (a10 : PySem.W.nsIn K mainGlobals "_different_pairs" = some (some (.ref f10)))
    (l10 : K.lookup f10 = some ⟨oc10, od10, .func (PySem.W.fnOf "_different_pairs" "_different_pairs" (defArgs sDiffPair) (defBody sDiffPair) (defScope sDiffPair) .none kV10 dc10 pm10 an10 cd10 ct10), sl10⟩)
    (c10 : PySem.W.codeIn K cd10 "_different_pairs" = true)
    (k10 : PySem.W.keepIn K (.ref f10) = true)
    (a11 : PySem.W.nsIn K mainGlobals "left_digits" = some (some (.ref f11)))
    (l11 : K.lookup f11 = some ⟨oc11, od11, .func (PySem.W.fnOf "left_digits" "left_digits" (defArgs sLeft) (defBody sLeft) (defScope sLeft) .none kV11 dc11 pm11 an11 cd11 ct11), sl11⟩)
    (c11 : PySem.W.codeIn K cd11 "left_digits" = true)
    (k11 : PySem.W.keepIn K (.ref f11) = true)
    (a12 : PySem.W.nsIn K mainGlobals "all_left_digits" = some (some (.ref f12)))
    (l12 : K.lookup f12 = some ⟨oc12, od12, .func (PySem.W.fnOf "all_left_digits" "all_left_digits" (defArgs sAllLeft) (defBody sAllLeft) (defScope sAllLeft) .none kV12 dc12 pm12 an12 cd12 ct12), sl12⟩)
    (c12 : PySem.W.codeIn K cd12 "all_left_digits" = true)
    (k12 : PySem.W.keepIn K (.ref f12) = true)
    (a13 : PySem.W.nsIn K mainGlobals "places_behind" = some (some (.ref f13)))
    (l13 : K.lookup f13 = some ⟨oc13, od13, .func (PySem.W.fnOf "places_behind" "places_behind" (defArgs sBehind) (defBody sBehind) (defScope sBehind) .none kV13 dc13 pm13 an13 cd13 ct13), sl13⟩)
    (c13 : PySem.W.codeIn K cd13 "places_behind" = true)
    (k13 : PySem.W.keepIn K (.ref f13) = true)
    (a14 : PySem.W.nsIn K mainGlobals "follower" = some (some (.ref f14)))
    (l14 : K.lookup f14 = some ⟨oc14, od14, .func (PySem.W.fnOf "follower" "follower" (defArgs sFollow) (defBody sFollow) (defScope sFollow) .none kV14 dc14 pm14 an14 cd14 ct14), sl14⟩)
    (c14 : PySem.W.codeIn K cd14 "follower" = true)
    (k14 : PySem.W.keepIn K (.ref f14) = true)
    (a15 : PySem.W.nsIn K mainGlobals "graph_from" = some (some (.ref f15)))
    (l15 : K.lookup f15 = some ⟨oc15, od15, .func (PySem.W.fnOf "graph_from" "graph_from" (defArgs sGraph) (defBody sGraph) (defScope sGraph) .none kV15 dc15 pm15 an15 cd15 ct15), sl15⟩)
    (c15 : PySem.W.codeIn K cd15 "graph_from" = true)
    (k15 : PySem.W.keepIn K (.ref f15) = true)
    (a16 : PySem.W.nsIn K mainGlobals "place_graph" = some (some (.ref f16)))
    (l16 : K.lookup f16 = some ⟨oc16, od16, .func (PySem.W.fnOf "place_graph" "place_graph" (defArgs sPGraph) (defBody sPGraph) (defScope sPGraph) .none kV16 dc16 pm16 an16 cd16 ct16), sl16⟩)
    (c16 : PySem.W.codeIn K cd16 "place_graph" = true)
    (k16 : PySem.W.keepIn K (.ref f16) = true)
    (a17 : PySem.W.nsIn K mainGlobals "first_rows" = some (some (.ref f17)))
    (l17 : K.lookup f17 = some ⟨oc17, od17, .func (PySem.W.fnOf "first_rows" "first_rows" (defArgs sFirst) (defBody sFirst) (defScope sFirst) .none kV17 dc17 pm17 an17 cd17 ct17), sl17⟩)
    (c17 : PySem.W.codeIn K cd17 "first_rows" = true)
    (k17 : PySem.W.keepIn K (.ref f17) = true)
    (a18 : PySem.W.nsIn K mainGlobals "is_scheme" = some (some (.ref f18)))
    (l18 : K.lookup f18 = some ⟨oc18, od18, .func (PySem.W.fnOf "is_scheme" "is_scheme" (defArgs sIsSch) (defBody sIsSch) (defScope sIsSch) .none kV18 dc18 pm18 an18 cd18 ct18), sl18⟩)
    (c18 : PySem.W.codeIn K cd18 "is_scheme" = true)
    (k18 : PySem.W.keepIn K (.ref f18) = true)
    (a19 : PySem.W.nsIn K mainGlobals "check_scheme" = some (some (.ref f19)))
    (l19 : K.lookup f19 = some ⟨oc19, od19, .func (PySem.W.fnOf "check_scheme" "check_scheme" (defArgs sCheckS) (defBody sCheckS) (defScope sCheckS) .none kV19 dc19 pm19 an19 cd19 ct19), sl19⟩)
    (c19 : PySem.W.codeIn K cd19 "check_scheme" = true)
    (k19 : PySem.W.keepIn K (.ref f19) = true)
    (a20 : PySem.W.nsIn K mainGlobals "check_number" = some (some (.ref f20)))
    (l20 : K.lookup f20 = some ⟨oc20, od20, .func (PySem.W.fnOf "check_number" "check_number" (defArgs sCheckN) (defBody sCheckN) (defScope sCheckN) .none kV20 dc20 pm20 an20 cd20 ct20), sl20⟩)
    (c20 : PySem.W.codeIn K cd20 "check_number" = true)
    (k20 : PySem.W.keepIn K (.ref f20) = true)
    (a21 : PySem.W.nsIn K mainGlobals "is_right" = some (some (.ref f21)))
    (l21 : K.lookup f21 = some ⟨oc21, od21, .func (PySem.W.fnOf "is_right" "is_right" (defArgs sIsRight) (defBody sIsRight) (defScope sIsRight) .none kV21 dc21 pm21 an21 cd21 ct21), sl21⟩)
    (c21 : PySem.W.codeIn K cd21 "is_right" = true)
    (k21 : PySem.W.keepIn K (.ref f21) = true)
    (a22 : PySem.W.nsIn K mainGlobals "is_place" = some (some (.ref f22)))
    (l22 : K.lookup f22 = some ⟨oc22, od22, .func (PySem.W.fnOf "is_place" "is_place" (defArgs sIsPlace) (defBody sIsPlace) (defScope sIsPlace) .none kV22 dc22 pm22 an22 cd22 ct22), sl22⟩)
    (c22 : PySem.W.codeIn K cd22 "is_place" = true)
    (k22 : PySem.W.keepIn K (.ref f22) = true)
    (a23 : PySem.W.nsIn K mainGlobals "_check_place" = some (some (.ref f23)))
    (l23 : K.lookup f23 = some ⟨oc23, od23, .func (PySem.W.fnOf "_check_place" "_check_place" (defArgs sCheckP) (defBody sCheckP) (defScope sCheckP) .none kV23 dc23 pm23 an23 cd23 ct23), sl23⟩)
    (c23 : PySem.W.codeIn K cd23 "_check_place" = true)
    (k23 : PySem.W.keepIn K (.ref f23) = true)
    (a24 : PySem.W.nsIn K mainGlobals "_layers_to_zero" = some (some (.ref f24)))
    (l24 : K.lookup f24 = some ⟨oc24, od24, .func (PySem.W.fnOf "_layers_to_zero" "_layers_to_zero" (defArgs sLayers) (defBody sLayers) (defScope sLayers) .none kV24 dc24 pm24 an24 cd24 ct24), sl24⟩)
    (c24 : PySem.W.codeIn K cd24 "_layers_to_zero" = true)
    (k24 : PySem.W.keepIn K (.ref f24) = true)
    (a25 : PySem.W.nsIn K mainGlobals "_zeros" = some (some (.ref f25)))
    (l25 : K.lookup f25 = some ⟨oc25, od25, .func (PySem.W.fnOf "_zeros" "_zeros" (defArgs sZeros) (defBody sZeros) (defScope sZeros) .none kV25 dc25 pm25 an25 cd25 ct25), sl25⟩)
    (c25 : PySem.W.codeIn K cd25 "_zeros" = true)
    (k25 : PySem.W.keepIn K (.ref f25) = true)
    (a26 : PySem.W.nsIn K mainGlobals "_law_cell" = some (some (.ref f26)))
    (l26 : K.lookup f26 = some ⟨oc26, od26, .func (PySem.W.fnOf "_law_cell" "_law_cell" (defArgs sCell) (defBody sCell) (defScope sCell) .none kV26 dc26 pm26 an26 cd26 ct26), sl26⟩)
    (c26 : PySem.W.codeIn K cd26 "_law_cell" = true)
    (k26 : PySem.W.keepIn K (.ref f26) = true)
    (a27 : PySem.W.nsIn K mainGlobals "_law_box" = some (some (.ref f27)))
    (l27 : K.lookup f27 = some ⟨oc27, od27, .func (PySem.W.fnOf "_law_box" "_law_box" (defArgs sBox) (defBody sBox) (defScope sBox) .none kV27 dc27 pm27 an27 cd27 ct27), sl27⟩)
    (c27 : PySem.W.codeIn K cd27 "_law_box" = true)
    (k27 : PySem.W.keepIn K (.ref f27) = true)
    (a28 : PySem.W.nsIn K mainGlobals "_law_take" = some (some (.ref f28)))
    (l28 : K.lookup f28 = some ⟨oc28, od28, .func (PySem.W.fnOf "_law_take" "_law_take" (defArgs sTake) (defBody sTake) (defScope sTake) .none kV28 dc28 pm28 an28 cd28 ct28), sl28⟩)
    (c28 : PySem.W.codeIn K cd28 "_law_take" = true)
    (k28 : PySem.W.keepIn K (.ref f28) = true)
    (a29 : PySem.W.nsIn K mainGlobals "_law_digits" = some (some (.ref f29)))
    (l29 : K.lookup f29 = some ⟨oc29, od29, .func (PySem.W.fnOf "_law_digits" "_law_digits" (defArgs sDigits) (defBody sDigits) (defScope sDigits) .none kV29 dc29 pm29 an29 cd29 ct29), sl29⟩)
    (c29 : PySem.W.codeIn K cd29 "_law_digits" = true)
    (k29 : PySem.W.keepIn K (.ref f29) = true)
    (a30 : PySem.W.nsIn K mainGlobals "_law_pairs" = some (some (.ref f30)))
    (l30 : K.lookup f30 = some ⟨oc30, od30, .func (PySem.W.fnOf "_law_pairs" "_law_pairs" (defArgs sPairs) (defBody sPairs) (defScope sPairs) .none kV30 dc30 pm30 an30 cd30 ct30), sl30⟩)
    (c30 : PySem.W.codeIn K cd30 "_law_pairs" = true)
    (k30 : PySem.W.keepIn K (.ref f30) = true)
    (a31 : PySem.W.nsIn K mainGlobals "_law_scheme" = some (some (.ref f31)))
    (l31 : K.lookup f31 = some ⟨oc31, od31, .func (PySem.W.fnOf "_law_scheme" "_law_scheme" (defArgs sScheme) (defBody sScheme) (defScope sScheme) .none kV31 dc31 pm31 an31 cd31 ct31), sl31⟩)
    (c31 : PySem.W.codeIn K cd31 "_law_scheme" = true)
    (k31 : PySem.W.keepIn K (.ref f31) = true)
    (a32 : PySem.W.nsIn K mainGlobals "_law_made" = some (some (.ref f32)))
    (l32 : K.lookup f32 = some ⟨oc32, od32, .func (PySem.W.fnOf "_law_made" "_law_made" (defArgs sMade) (defBody sMade) (defScope sMade) .none kV32 dc32 pm32 an32 cd32 ct32), sl32⟩)
    (c32 : PySem.W.codeIn K cd32 "_law_made" = true)
    (k32 : PySem.W.keepIn K (.ref f32) = true)
    (a33 : PySem.W.nsIn K mainGlobals "_law_fits" = some (some (.ref f33)))
    (l33 : K.lookup f33 = some ⟨oc33, od33, .func (PySem.W.fnOf "_law_fits" "_law_fits" (defArgs sFits) (defBody sFits) (defScope sFits) .none kV33 dc33 pm33 an33 cd33 ct33), sl33⟩)
    (c33 : PySem.W.codeIn K cd33 "_law_fits" = true)
    (k33 : PySem.W.keepIn K (.ref f33) = true)
    (a34 : PySem.W.nsIn K mainGlobals "_law_value" = some (some (.ref f34)))
    (l34 : K.lookup f34 = some ⟨oc34, od34, .func (PySem.W.fnOf "_law_value" "_law_value" (defArgs sValue) (defBody sValue) (defScope sValue) .none kV34 dc34 pm34 an34 cd34 ct34), sl34⟩)
    (c34 : PySem.W.codeIn K cd34 "_law_value" = true)
    (k34 : PySem.W.keepIn K (.ref f34) = true)
    (a35 : PySem.W.nsIn K mainGlobals "_law_is_row" = some (some (.ref f35)))
    (l35 : K.lookup f35 = some ⟨oc35, od35, .func (PySem.W.fnOf "_law_is_row" "_law_is_row" (defArgs sIsRow) (defBody sIsRow) (defScope sIsRow) .none kV35 dc35 pm35 an35 cd35 ct35), sl35⟩)
    (c35 : PySem.W.codeIn K cd35 "_law_is_row" = true)
    (k35 : PySem.W.keepIn K (.ref f35) = true)
    (a36 : PySem.W.nsIn K mainGlobals "_law_steps" = some (some (.ref f36)))
    (l36 : K.lookup f36 = some ⟨oc36, od36, .func (PySem.W.fnOf "_law_steps" "_law_steps" (defArgs sLSteps) (defBody sLSteps) (defScope sLSteps) .none kV36 dc36 pm36 an36 cd36 ct36), sl36⟩)
    (c36 : PySem.W.codeIn K cd36 "_law_steps" = true)
    (k36 : PySem.W.keepIn K (.ref f36) = true)
    (a37 : PySem.W.nsIn K mainGlobals "_law_met" = some (some (.ref f37)))
    (l37 : K.lookup f37 = some ⟨oc37, od37, .func (PySem.W.fnOf "_law_met" "_law_met" (defArgs sMet) (defBody sMet) (defScope sMet) .none kV37 dc37 pm37 an37 cd37 ct37), sl37⟩)
    (c37 : PySem.W.codeIn K cd37 "_law_met" = true)
    (k37 : PySem.W.keepIn K (.ref f37) = true)
    (a38 : PySem.W.nsIn K mainGlobals "_law_number" = some (some (.ref f38)))
    (l38 : K.lookup f38 = some ⟨oc38, od38, .func (PySem.W.fnOf "_law_number" "_law_number" (defArgs sNumber) (defBody sNumber) (defScope sNumber) .none kV38 dc38 pm38 an38 cd38 ct38), sl38⟩)
    (c38 : PySem.W.codeIn K cd38 "_law_number" = true)
    (k38 : PySem.W.keepIn K (.ref f38) = true)
    (a39 : PySem.W.nsIn K mainGlobals "_law_closed" = some (some (.ref f39)))
    (l39 : K.lookup f39 = some ⟨oc39, od39, .func (PySem.W.fnOf "_law_closed" "_law_closed" (defArgs sLClosed) (defBody sLClosed) (defScope sLClosed) .none kV39 dc39 pm39 an39 cd39 ct39), sl39⟩)
    (c39 : PySem.W.codeIn K cd39 "_law_closed" = true)
    (k39 : PySem.W.keepIn K (.ref f39) = true)
    (a40 : PySem.W.nsIn K mainGlobals "_law_row_right" = some (some (.ref f40)))
    (l40 : K.lookup f40 = some ⟨oc40, od40, .func (PySem.W.fnOf "_law_row_right" "_law_row_right" (defArgs sRowRight) (defBody sRowRight) (defScope sRowRight) .none kV40 dc40 pm40 an40 cd40 ct40), sl40⟩)
    (c40 : PySem.W.codeIn K cd40 "_law_row_right" = true)
    (k40 : PySem.W.keepIn K (.ref f40) = true)
    (a41 : PySem.W.nsIn K mainGlobals "_law_first_row" = some (some (.ref f41)))
    (l41 : K.lookup f41 = some ⟨oc41, od41, .func (PySem.W.fnOf "_law_first_row" "_law_first_row" (defArgs sFirstRow) (defBody sFirstRow) (defScope sFirstRow) .none kV41 dc41 pm41 an41 cd41 ct41), sl41⟩)
    (c41 : PySem.W.codeIn K cd41 "_law_first_row" = true)
    (k41 : PySem.W.keepIn K (.ref f41) = true)
    (a42 : PySem.W.nsIn K mainGlobals "_law_asked" = some (some (.ref f42)))
    (l42 : K.lookup f42 = some ⟨oc42, od42, .func (PySem.W.fnOf "_law_asked" "_law_asked" (defArgs sAsked) (defBody sAsked) (defScope sAsked) .none kV42 dc42 pm42 an42 cd42 ct42), sl42⟩)
    (c42 : PySem.W.codeIn K cd42 "_law_asked" = true)
    (k42 : PySem.W.keepIn K (.ref f42) = true)
    (a43 : PySem.W.nsIn K mainGlobals "_law_right" = some (some (.ref f43)))
    (l43 : K.lookup f43 = some ⟨oc43, od43, .func (PySem.W.fnOf "_law_right" "_law_right" (defArgs sRight) (defBody sRight) (defScope sRight) .none kV43 dc43 pm43 an43 cd43 ct43), sl43⟩)
    (c43 : PySem.W.codeIn K cd43 "_law_right" = true)
    (k43 : PySem.W.keepIn K (.ref f43) = true)
    (a44 : PySem.W.nsIn K mainGlobals "_law_far_right" = some (some (.ref f44)))
    (l44 : K.lookup f44 = some ⟨oc44, od44, .func (PySem.W.fnOf "_law_far_right" "_law_far_right" (defArgs sFar) (defBody sFar) (defScope sFar) .none kV44 dc44 pm44 an44 cd44 ct44), sl44⟩)
    (c44 : PySem.W.codeIn K cd44 "_law_far_right" = true)
    (k44 : PySem.W.keepIn K (.ref f44) = true)
    (a45 : PySem.W.nsIn K mainGlobals "law" = some (some (.ref f45)))
    (l45 : K.lookup f45 = some ⟨oc45, od45, .func (PySem.W.fnOf "law" "law" (defArgs sLaw) (defBody sLaw) (defScope sLaw) .none kV45 dc45 pm45 an45 cd45 ct45), sl45⟩)
    (c45 : PySem.W.codeIn K cd45 "law" = true)
    (k45 : PySem.W.keepIn K (.ref f45) = true)
    (aF : PySem.W.nsIn K mainGlobals "FigureError" = some (some (.ref CF)))
    (rF : PySem.W.readsIn K CF (.type "type") = true)
    (gaF : PySem.W.specialIn K (.ref CF) "__getattribute__" = some (some (.builtin "type.__getattribute__")))
    (atF : PySem.W.findCls K (.ref CF) (.type "type") "__init__" = some (.val (.ref fF)))
    (lF : K.lookup fF = some ⟨ocF, odF, .func (PySem.W.fnOf "__init__" "FigureError.__init__" (defArgs sFig) (defBody sFig) (defScope sFig) .none kVF dcF pmF anF cdF ctF), slF⟩)
    (cF : PySem.W.codeIn K cdF "FigureError.__init__" = true)
    (kF : PySem.W.keepIn K (.ref fF) = true)
    (vV : PySem.W.findCls K (.type "ValueError") (.type "type") "__init__" = some (.val (.builtin "ValueError.__init__")))
    (aC1 : PySem.W.nsIn K mainGlobals "InvalidBase" = some (some (.ref C1)))
    (xC1 : K.lookup C1 = some (excClassObj nm1 q1 C1 N1 bs1 [.ref CF, .type "ValueError", .type "Exception", .type "BaseException", .type "object"] true sn1 sub1 ab1 col1 dd1 m01 m11 (some (.str cn1 tkE1)) m31 m51 "ValueError.__new__"))
    (sa1 : PySem.W.findIn K (.ref C1) "__setattr__" = some (some (.builtin "object.__setattr__")))
    (ex1 : PySem.W.subIn K (.ref C1) (.type "BaseException") = some true)
    (ty1 : PySem.W.typeIn K (.ref C1) = some (.type "type"))
    (kC1 : PySem.W.keepIn K (.ref C1) = true)
    (iC1 : PySem.W.findIn K (.ref C1) "__init__" = some (some (.ref fI1)))
    (tI1 : PySem.W.typeIn K (.ref fI1) = some (.type "function"))
    (no1 : PySem.W.findIn K (.ref C1) "value" = some none)
    (ga1 : PySem.W.findIn K (.ref C1) "__getattribute__" = some (some (.builtin "BaseException.__getattribute__")))
    (gg1 : PySem.W.findIn K (.ref C1) "__getattr__" = some none)
    (hd1 : PySem.W.hasDictIn K C1 = true)
    (sb1 : PySem.W.subIn K (.ref C1) (.ref C1) = some true)
    (ic1 : PySem.W.isClsIn K C1 = true)
    (lI1 : K.lookup fI1 = some ⟨ocI1, odI1, .func (PySem.W.fnOf "__init__" "InvalidBase.__init__" (defArgs sInBase) (defBody sInBase) (defScope sInBase) .none kVI1 dcI1 pmI1 anI1 cdI1 ctI1), slI1⟩)
    (cI1 : PySem.W.codeIn K cdI1 "InvalidBase.__init__" = true)
    (kI1 : PySem.W.keepIn K (.ref fI1) = true)
    (aC2 : PySem.W.nsIn K mainGlobals "InvalidDigits" = some (some (.ref C2)))
    (xC2 : K.lookup C2 = some (excClassObj nm2 q2 C2 N2 bs2 [.ref CF, .type "ValueError", .type "Exception", .type "BaseException", .type "object"] true sn2 sub2 ab2 col2 dd2 m02 m12 (some (.str cn2 tkE2)) m32 m52 "ValueError.__new__"))
    (sa2 : PySem.W.findIn K (.ref C2) "__setattr__" = some (some (.builtin "object.__setattr__")))
    (ex2 : PySem.W.subIn K (.ref C2) (.type "BaseException") = some true)
    (ty2 : PySem.W.typeIn K (.ref C2) = some (.type "type"))
    (kC2 : PySem.W.keepIn K (.ref C2) = true)
    (iC2 : PySem.W.findIn K (.ref C2) "__init__" = some (some (.ref fI2)))
    (tI2 : PySem.W.typeIn K (.ref fI2) = some (.type "function"))
    (no2 : PySem.W.findIn K (.ref C2) "value" = some none)
    (ga2 : PySem.W.findIn K (.ref C2) "__getattribute__" = some (some (.builtin "BaseException.__getattribute__")))
    (gg2 : PySem.W.findIn K (.ref C2) "__getattr__" = some none)
    (hd2 : PySem.W.hasDictIn K C2 = true)
    (sb2 : PySem.W.subIn K (.ref C2) (.ref C2) = some true)
    (ic2 : PySem.W.isClsIn K C2 = true)
    (lI2 : K.lookup fI2 = some ⟨ocI2, odI2, .func (PySem.W.fnOf "__init__" "InvalidDigits.__init__" (defArgs sInDig) (defBody sInDig) (defScope sInDig) .none kVI2 dcI2 pmI2 anI2 cdI2 ctI2), slI2⟩)
    (cI2 : PySem.W.codeIn K cdI2 "InvalidDigits.__init__" = true)
    (kI2 : PySem.W.keepIn K (.ref fI2) = true)
    (aC3 : PySem.W.nsIn K mainGlobals "InvalidBars" = some (some (.ref C3)))
    (xC3 : K.lookup C3 = some (excClassObj nm3 q3 C3 N3 bs3 [.ref CF, .type "ValueError", .type "Exception", .type "BaseException", .type "object"] true sn3 sub3 ab3 col3 dd3 m03 m13 (some (.str cn3 tkE3)) m33 m53 "ValueError.__new__"))
    (sa3 : PySem.W.findIn K (.ref C3) "__setattr__" = some (some (.builtin "object.__setattr__")))
    (ex3 : PySem.W.subIn K (.ref C3) (.type "BaseException") = some true)
    (ty3 : PySem.W.typeIn K (.ref C3) = some (.type "type"))
    (kC3 : PySem.W.keepIn K (.ref C3) = true)
    (iC3 : PySem.W.findIn K (.ref C3) "__init__" = some (some (.ref fI3)))
    (tI3 : PySem.W.typeIn K (.ref fI3) = some (.type "function"))
    (no3 : PySem.W.findIn K (.ref C3) "value" = some none)
    (ga3 : PySem.W.findIn K (.ref C3) "__getattribute__" = some (some (.builtin "BaseException.__getattribute__")))
    (gg3 : PySem.W.findIn K (.ref C3) "__getattr__" = some none)
    (hd3 : PySem.W.hasDictIn K C3 = true)
    (sb3 : PySem.W.subIn K (.ref C3) (.ref C3) = some true)
    (ic3 : PySem.W.isClsIn K C3 = true)
    (lI3 : K.lookup fI3 = some ⟨ocI3, odI3, .func (PySem.W.fnOf "__init__" "InvalidBars.__init__" (defArgs sInBars) (defBody sInBars) (defScope sInBars) .none kVI3 dcI3 pmI3 anI3 cdI3 ctI3), slI3⟩)
    (cI3 : PySem.W.codeIn K cdI3 "InvalidBars.__init__" = true)
    (kI3 : PySem.W.keepIn K (.ref fI3) = true)
    (aC4 : PySem.W.nsIn K mainGlobals "NotScheme" = some (some (.ref C4)))
    (xC4 : K.lookup C4 = some (excClassObj nm4 q4 C4 N4 bs4 [.ref CF, .type "ValueError", .type "Exception", .type "BaseException", .type "object"] true sn4 sub4 ab4 col4 dd4 m04 m14 (some (.str cn4 tkE4)) m34 m54 "ValueError.__new__"))
    (sa4 : PySem.W.findIn K (.ref C4) "__setattr__" = some (some (.builtin "object.__setattr__")))
    (ex4 : PySem.W.subIn K (.ref C4) (.type "BaseException") = some true)
    (ty4 : PySem.W.typeIn K (.ref C4) = some (.type "type"))
    (kC4 : PySem.W.keepIn K (.ref C4) = true)
    (iC4 : PySem.W.findIn K (.ref C4) "__init__" = some (some (.ref fI4)))
    (tI4 : PySem.W.typeIn K (.ref fI4) = some (.type "function"))
    (no4 : PySem.W.findIn K (.ref C4) "value" = some none)
    (ga4 : PySem.W.findIn K (.ref C4) "__getattribute__" = some (some (.builtin "BaseException.__getattribute__")))
    (gg4 : PySem.W.findIn K (.ref C4) "__getattr__" = some none)
    (hd4 : PySem.W.hasDictIn K C4 = true)
    (sb4 : PySem.W.subIn K (.ref C4) (.ref C4) = some true)
    (ic4 : PySem.W.isClsIn K C4 = true)
    (lI4 : K.lookup fI4 = some ⟨ocI4, odI4, .func (PySem.W.fnOf "__init__" "NotScheme.__init__" (defArgs sNotS) (defBody sNotS) (defScope sNotS) .none kVI4 dcI4 pmI4 anI4 cdI4 ctI4), slI4⟩)
    (cI4 : PySem.W.codeIn K cdI4 "NotScheme.__init__" = true)
    (kI4 : PySem.W.keepIn K (.ref fI4) = true)
    (aC5 : PySem.W.nsIn K mainGlobals "InvalidNumber" = some (some (.ref C5)))
    (xC5 : K.lookup C5 = some (excClassObj nm5 q5 C5 N5 bs5 [.ref CF, .type "ValueError", .type "Exception", .type "BaseException", .type "object"] true sn5 sub5 ab5 col5 dd5 m05 m15 (some (.str cn5 tkE5)) m35 m55 "ValueError.__new__"))
    (sa5 : PySem.W.findIn K (.ref C5) "__setattr__" = some (some (.builtin "object.__setattr__")))
    (ex5 : PySem.W.subIn K (.ref C5) (.type "BaseException") = some true)
    (ty5 : PySem.W.typeIn K (.ref C5) = some (.type "type"))
    (kC5 : PySem.W.keepIn K (.ref C5) = true)
    (iC5 : PySem.W.findIn K (.ref C5) "__init__" = some (some (.ref fI5)))
    (tI5 : PySem.W.typeIn K (.ref fI5) = some (.type "function"))
    (no5 : PySem.W.findIn K (.ref C5) "number" = some none)
    (ga5 : PySem.W.findIn K (.ref C5) "__getattribute__" = some (some (.builtin "BaseException.__getattribute__")))
    (gg5 : PySem.W.findIn K (.ref C5) "__getattr__" = some none)
    (hd5 : PySem.W.hasDictIn K C5 = true)
    (sb5 : PySem.W.subIn K (.ref C5) (.ref C5) = some true)
    (ic5 : PySem.W.isClsIn K C5 = true)
    (lI5 : K.lookup fI5 = some ⟨ocI5, odI5, .func (PySem.W.fnOf "__init__" "InvalidNumber.__init__" (defArgs sInNum) (defBody sInNum) (defScope sInNum) .none kVI5 dcI5 pmI5 anI5 cdI5 ctI5), slI5⟩)
    (cI5 : PySem.W.codeIn K cdI5 "InvalidNumber.__init__" = true)
    (kI5 : PySem.W.keepIn K (.ref fI5) = true)
    (aC6 : PySem.W.nsIn K mainGlobals "UnknownDigit" = some (some (.ref C6)))
    (xC6 : K.lookup C6 = some (excClassObj nm6 q6 C6 N6 bs6 [.ref CF, .type "ValueError", .type "Exception", .type "BaseException", .type "object"] true sn6 sub6 ab6 col6 dd6 m06 m16 (some (.str cn6 tkE6)) m36 m56 "ValueError.__new__"))
    (sa6 : PySem.W.findIn K (.ref C6) "__setattr__" = some (some (.builtin "object.__setattr__")))
    (ex6 : PySem.W.subIn K (.ref C6) (.type "BaseException") = some true)
    (ty6 : PySem.W.typeIn K (.ref C6) = some (.type "type"))
    (kC6 : PySem.W.keepIn K (.ref C6) = true)
    (iC6 : PySem.W.findIn K (.ref C6) "__init__" = some (some (.ref fI6)))
    (tI6 : PySem.W.typeIn K (.ref fI6) = some (.type "function"))
    (no6 : PySem.W.findIn K (.ref C6) "digit" = some none)
    (ga6 : PySem.W.findIn K (.ref C6) "__getattribute__" = some (some (.builtin "BaseException.__getattribute__")))
    (gg6 : PySem.W.findIn K (.ref C6) "__getattr__" = some none)
    (hd6 : PySem.W.hasDictIn K C6 = true)
    (sb6 : PySem.W.subIn K (.ref C6) (.ref C6) = some true)
    (ic6 : PySem.W.isClsIn K C6 = true)
    (lI6 : K.lookup fI6 = some ⟨ocI6, odI6, .func (PySem.W.fnOf "__init__" "UnknownDigit.__init__" (defArgs sUnk) (defBody sUnk) (defScope sUnk) .none kVI6 dcI6 pmI6 anI6 cdI6 ctI6), slI6⟩)
    (cI6 : PySem.W.codeIn K cdI6 "UnknownDigit.__init__" = true)
    (kI6 : PySem.W.keepIn K (.ref fI6) = true)
    (aS : PySem.W.nsIn K mainGlobals "Scheme" = some (some (.ref CS)))
    (pgS : PySem.W.plainGet K CS Str.empty = true)
    (hdS : PySem.W.hasDictIn K CS = true)
    (poS : PySem.W.plainOver K CS = true)
    (saS : PySem.W.findIn K (.ref CS) "__setattr__" = some (some (.builtin "object.__setattr__")))
    (mkS : PySem.W.makesIn K CS = true)
    (nB : PySem.W.findIn K (.ref CS) "_base" = some none)
    (nD : PySem.W.findIn K (.ref CS) "_digits" = some none)
    (nR : PySem.W.findIn K (.ref CS) "_bars" = some none)
    (haS : PySem.W.findIn K (.ref CS) "__class__" = some (some (.builtin "object.__class__")))
    (xn : PySem.W.specialIn K (.builtin "object.__class__") "__get__" = some (some (.builtin "getset_descriptor.__get__")))
    (xt : PySem.W.takesIn K (.builtin "object.__class__") = some true)
    (hmS : PySem.W.mroIn K CS (.type "object") = some true)
    (sbS : PySem.W.subIn K (.ref CS) (.ref CS) = some true)
    (icS : PySem.W.isClsIn K CS = true)
    (tyS : PySem.W.typeIn K (.ref CS) = some (.type "type"))
    (kpS : PySem.W.keepIn K (.ref CS) = true)
    (at1 : PySem.W.findIn K (.ref CS) "allows" = some (some (.ref h1)))
    (fn1 : PySem.W.isFn K (.ref h1) = true)
    (lM1 : K.lookup h1 = some ⟨ocM1, odM1, .func (PySem.W.fnOf "allows" "Scheme.allows" (defArgs sAllows) (defBody sAllows) (defScope sAllows) .none kVM1 dcM1 pmM1 anM1 cdM1 ctM1), slM1⟩)
    (cM1 : PySem.W.codeIn K cdM1 "Scheme.allows" = true)
    (kM1 : PySem.W.keepIn K (.ref h1) = true)
    (apB : PySem.W.findIn K (.ref CS) "base" = some (some (.ref pB)))
    (gtB : PySem.W.specialIn K (.ref pB) "__get__" = some (some (.builtin "property.__get__")))
    (tkB : PySem.W.takesIn K (.ref pB) = some true)
    (rcB : PySem.W.recIn K pB "property" = some (.ref gB :: restB))
    (apD : PySem.W.findIn K (.ref CS) "digits" = some (some (.ref pD)))
    (gtD : PySem.W.specialIn K (.ref pD) "__get__" = some (some (.builtin "property.__get__")))
    (tkD : PySem.W.takesIn K (.ref pD) = some true)
    (rcD : PySem.W.recIn K pD "property" = some (.ref gD :: restD))
    (atN : PySem.W.findIn K (.ref CS) "__init__" = some (some (.ref hN)))
    (fnN : PySem.W.isFn K (.ref hN) = true)
    (lIn : K.lookup hN = some ⟨ocIn, odIn, .func (PySem.W.fnOf "__init__" "Scheme.__init__" (defArgs sInit) (defBody sInit) (defScope sInit) .none (.ref DK) dcIn pmIn anIn cdIn ctIn), slIn⟩)
    (cIn : PySem.W.codeIn K cdIn "Scheme.__init__" = true)
    (kIn : PySem.W.keepIn K (.ref hN) = true)
    (nsB : PySem.W.nsIn K DK "bars" = some (some (.ref TD)))
    (lT : K.lookup TD = some ⟨.type "tuple", odT, .seq #[] nT, slT⟩)
    (ecF : cd14 = .ref c0)
    (aD2 : PySem.W.nsIn K mainGlobals "is_written" = some (some (.ref fIW)))
    (eD2 : ∃ fd, FunD K "is_written" "is_written" (defArgs sIsWr) (defBody sIsWr) (defScope sIsWr) [.non] [] fIW fd)
    (aD3 : PySem.W.nsIn K mainGlobals "writing" = some (some (.ref fWr)))
    (eD3 : ∃ fd, FunD K "writing" "writing" (defArgs sWriting) (defBody sWriting) (defScope sWriting) [.non] [] fWr fd)
    (aD4 : PySem.W.nsIn K mainGlobals "closed_list" = some (some (.ref fCl)))
    (eD4 : ∃ fd, FunD K "closed_list" "closed_list" (defArgs sClosed) (defBody sClosed) (defScope sClosed) [.non] [] fCl fd)
    (aD5 : PySem.W.nsIn K mainGlobals "is_closed_list" = some (some (.ref fIc)))
    (eD5 : ∃ fd, FunD K "is_closed_list" "is_closed_list" (defArgs sIsClosed) (defBody sIsClosed) (defScope sIsClosed) [.non] [] fIc fd)
    (lPB : K.lookup gB = some ⟨ocPB, odPB, .func (PySem.W.fnOf "base" "Scheme.base" (defArgs sPBase) (defBody sPBase) (defScope sPBase) .none kVPB dcPB pmPB anPB cdPB ctPB), slPB⟩)
    (cPB : PySem.W.codeIn K cdPB "Scheme.base" = true)
    (kPB : PySem.W.keepIn K (.ref gB) = true)
    (lPD : K.lookup gD = some ⟨ocPD, odPD, .func (PySem.W.fnOf "digits" "Scheme.digits" (defArgs sPDigits) (defBody sPDigits) (defScope sPDigits) .none kVPD dcPD pmPD anPD cdPD ctPD), slPD⟩)
    (cPD : PySem.W.codeIn K cdPD "Scheme.digits" = true)
    (kPD : PySem.W.keepIn K (.ref gD) = true)
    (z1 : PySem.W.nsIn K mainGlobals "len" = some none)
    (z2 : PySem.W.nsIn K mainGlobals "range" = some none)
    (z3 : PySem.W.nsIn K mainGlobals "int" = some none)
    (z4 : PySem.W.nsIn K mainGlobals "bool" = some none)
    (z5 : PySem.W.nsIn K mainGlobals "isinstance" = some none)
    (z6 : PySem.W.nsIn K mainGlobals "repr" = some none)
    (z7 : PySem.W.nsIn K mainGlobals "list" = some none)
    (z8 : PySem.W.nsIn K mainGlobals "tuple" = some none)
    (z9 : PySem.W.nsIn K mainGlobals "set" = some none)
    (z10 : PySem.W.nsIn K mainGlobals "sorted" = some none)
    (z11 : PySem.W.nsIn K mainGlobals "all" = some none)
    (z12 : PySem.W.nsIn K mainGlobals "max" = some none)
    (z13 : PySem.W.nsIn K mainGlobals "min" = some none)
    (z14 : PySem.W.nsIn K mainGlobals "abs" = some none)
    (z15 : PySem.W.nsIn K mainGlobals "ValueError" = some none)
    (z16 : PySem.W.nsIn K mainGlobals "reversed" = some none)
    (v1 : PySem.W.nsIn K mainGlobals "MOST_DIGITS" = some (some (.int 6 t6)))
    (v2 : PySem.W.nsIn K mainGlobals "GREATEST_DIGIT" = some (some (.int 9 t9)))
    (v3 : PySem.W.nsIn K mainGlobals "GREATEST_BASE" = some (some (.int 6 tb)))
    (haE1 : PySem.W.findIn K (.ref C1) "__class__" = some (some (.builtin "object.__class__")))
    (hmE1 : PySem.W.mroIn K C1 (.type "object") = some true)
    (fcE1 : PySem.W.findCls K (.ref C1) (.type "type") "__name__" = some (.get (.builtin "getset_descriptor.__get__") (.builtin "type.__name__") (.ref C1) (.type "type")))
    (nnE1 : PySem.W.findIn K (.ref C1) "class_name" = some none)
    (haE2 : PySem.W.findIn K (.ref C2) "__class__" = some (some (.builtin "object.__class__")))
    (hmE2 : PySem.W.mroIn K C2 (.type "object") = some true)
    (fcE2 : PySem.W.findCls K (.ref C2) (.type "type") "__name__" = some (.get (.builtin "getset_descriptor.__get__") (.builtin "type.__name__") (.ref C2) (.type "type")))
    (nnE2 : PySem.W.findIn K (.ref C2) "class_name" = some none)
    (haE3 : PySem.W.findIn K (.ref C3) "__class__" = some (some (.builtin "object.__class__")))
    (hmE3 : PySem.W.mroIn K C3 (.type "object") = some true)
    (fcE3 : PySem.W.findCls K (.ref C3) (.type "type") "__name__" = some (.get (.builtin "getset_descriptor.__get__") (.builtin "type.__name__") (.ref C3) (.type "type")))
    (nnE3 : PySem.W.findIn K (.ref C3) "class_name" = some none)
    (haE4 : PySem.W.findIn K (.ref C4) "__class__" = some (some (.builtin "object.__class__")))
    (hmE4 : PySem.W.mroIn K C4 (.type "object") = some true)
    (fcE4 : PySem.W.findCls K (.ref C4) (.type "type") "__name__" = some (.get (.builtin "getset_descriptor.__get__") (.builtin "type.__name__") (.ref C4) (.type "type")))
    (nnE4 : PySem.W.findIn K (.ref C4) "class_name" = some none)
    (haE5 : PySem.W.findIn K (.ref C5) "__class__" = some (some (.builtin "object.__class__")))
    (hmE5 : PySem.W.mroIn K C5 (.type "object") = some true)
    (fcE5 : PySem.W.findCls K (.ref C5) (.type "type") "__name__" = some (.get (.builtin "getset_descriptor.__get__") (.builtin "type.__name__") (.ref C5) (.type "type")))
    (nnE5 : PySem.W.findIn K (.ref C5) "class_name" = some none)
    (haE6 : PySem.W.findIn K (.ref C6) "__class__" = some (some (.builtin "object.__class__")))
    (hmE6 : PySem.W.mroIn K C6 (.type "object") = some true)
    (fcE6 : PySem.W.findCls K (.ref C6) (.type "type") "__name__" = some (.get (.builtin "getset_descriptor.__get__") (.builtin "type.__name__") (.ref C6) (.type "type")))
    (nnE6 : PySem.W.findIn K (.ref C6) "class_name" = some none)
    (xnE : PySem.W.specialIn K (.builtin "object.__class__") "__get__" = some (some (.builtin "getset_descriptor.__get__")))
    (xtE : PySem.W.takesIn K (.builtin "object.__class__") = some true)
    (stE : PySem.W.nsIn K cStatics "thirdparty.any" = some none)
    : ∃ fd : FuncData, (∀ (s : Shared) (v : Value), BindsTo s fd ⟨[v], []⟩ [("_law_script", v)]) ∧ ∀ base : Heap, K.In base → base.Ns mainGlobals mg → TabB base mg c0 PT → FnG l.prog w K mg base 13 fa fd ["_law_script"] (spLaw K [(PT, qLam)]) := by
  have e := hfa.symm.trans (PySem.W.mg_of X G a45)
  cases e
  have F1 := fun_mk (st := sWhole) l1 c1 k1
  have g1 := PySem.W.mg_of X G a1
  have b1 := F1.binds (ps := ["value"]) fun _ _ _ _ _ _ us hl => match us, hl with | [_], _ => rfl
  have F2 := fun_mk (st := sIsInt) l2 c2 k2
  have g2 := PySem.W.mg_of X G a2
  have b2 := F2.binds (ps := ["value", "low", "high"]) fun _ _ _ _ _ _ us hl => match us, hl with | [_, _, _], _ => rfl
  have F3 := fun_mk (st := sIsBase) l3 c3 k3
  have g3 := PySem.W.mg_of X G a3
  have b3 := F3.binds (ps := ["value"]) fun _ _ _ _ _ _ us hl => match us, hl with | [_], _ => rfl
  have F4 := fun_mk (st := sIsDigit) l4 c4 k4
  have g4 := PySem.W.mg_of X G a4
  have b4 := F4.binds (ps := ["value"]) fun _ _ _ _ _ _ us hl => match us, hl with | [_], _ => rfl
  have F5 := fun_mk (st := sAre) l5 c5 k5
  have g5 := PySem.W.mg_of X G a5
  have b5 := F5.binds (ps := ["items"]) fun _ _ _ _ _ _ us hl => match us, hl with | [_], _ => rfl
  have F6 := fun_mk (st := sOneOf) l6 c6 k6
  have g6 := PySem.W.mg_of X G a6
  have b6 := F6.binds (ps := ["digits", "value"]) fun _ _ _ _ _ _ us hl => match us, hl with | [_, _], _ => rfl
  have F7 := fun_mk (st := sIsPair) l7 c7 k7
  have g7 := PySem.W.mg_of X G a7
  have b7 := F7.binds (ps := ["digits", "value"]) fun _ _ _ _ _ _ us hl => match us, hl with | [_, _], _ => rfl
  have F8 := fun_mk (st := sDigList) l8 c8 k8
  have g8 := PySem.W.mg_of X G a8
  have b8 := F8.binds (ps := ["value"]) fun _ _ _ _ _ _ us hl => match us, hl with | [_], _ => rfl
  have F9 := fun_mk (st := sDiffDig) l9 c9 k9
  have g9 := PySem.W.mg_of X G a9
  have b9 := F9.binds (ps := ["digits"]) fun _ _ _ _ _ _ us hl => match us, hl with | [_], _ => rfl
  have F10 := fun_mk (st := sDiffPair) l10 c10 k10
  have g10 := PySem.W.mg_of X G a10
  have b10 := F10.binds (ps := ["digits", "bars"]) fun _ _ _ _ _ _ us hl => match us, hl with | [_, _], _ => rfl
  have F11 := fun_mk (st := sLeft) l11 c11 k11
  have g11 := PySem.W.mg_of X G a11
  have b11 := F11.binds (ps := ["scheme", "right"]) fun _ _ _ _ _ _ us hl => match us, hl with | [_, _], _ => rfl
  have F12 := fun_mk (st := sAllLeft) l12 c12 k12
  have g12 := PySem.W.mg_of X G a12
  have b12 := F12.binds (ps := ["scheme"]) fun _ _ _ _ _ _ us hl => match us, hl with | [_], _ => rfl
  have F13 := fun_mk (st := sBehind) l13 c13 k13
  have g13 := PySem.W.mg_of X G a13
  have b13 := F13.binds (ps := ["base", "digits", "rest"]) fun _ _ _ _ _ _ us hl => match us, hl with | [_, _, _], _ => rfl
  have F14 := fun_mk (st := sFollow) l14 c14 k14
  have g14 := PySem.W.mg_of X G a14
  have b14 := F14.binds (ps := ["scheme"]) fun _ _ _ _ _ _ us hl => match us, hl with | [_], _ => rfl
  have F15 := fun_mk (st := sGraph) l15 c15 k15
  have g15 := PySem.W.mg_of X G a15
  have b15 := F15.binds (ps := ["starts", "follow"]) fun _ _ _ _ _ _ us hl => match us, hl with | [_, _], _ => rfl
  have F16 := fun_mk (st := sPGraph) l16 c16 k16
  have g16 := PySem.W.mg_of X G a16
  have b16 := F16.binds (ps := ["scheme", "starts"]) fun _ _ _ _ _ _ us hl => match us, hl with | [_, _], _ => rfl
  have F17 := fun_mk (st := sFirst) l17 c17 k17
  have g17 := PySem.W.mg_of X G a17
  have b17 := F17.binds (ps := ["scheme", "layers", "ends", "most"]) fun _ _ _ _ _ _ us hl => match us, hl with | [_, _, _, _], _ => rfl
  have F18 := fun_mk (st := sIsSch) l18 c18 k18
  have g18 := PySem.W.mg_of X G a18
  have b18 := F18.binds (ps := ["value"]) fun _ _ _ _ _ _ us hl => match us, hl with | [_], _ => rfl
  have F19 := fun_mk (st := sCheckS) l19 c19 k19
  have g19 := PySem.W.mg_of X G a19
  have b19 := F19.binds (ps := ["value"]) fun _ _ _ _ _ _ us hl => match us, hl with | [_], _ => rfl
  have F20 := fun_mk (st := sCheckN) l20 c20 k20
  have g20 := PySem.W.mg_of X G a20
  have b20 := F20.binds (ps := ["value"]) fun _ _ _ _ _ _ us hl => match us, hl with | [_], _ => rfl
  have F21 := fun_mk (st := sIsRight) l21 c21 k21
  have g21 := PySem.W.mg_of X G a21
  have b21 := F21.binds (ps := ["scheme", "value"]) fun _ _ _ _ _ _ us hl => match us, hl with | [_, _], _ => rfl
  have F22 := fun_mk (st := sIsPlace) l22 c22 k22
  have g22 := PySem.W.mg_of X G a22
  have b22 := F22.binds (ps := ["scheme", "value"]) fun _ _ _ _ _ _ us hl => match us, hl with | [_, _], _ => rfl
  have F23 := fun_mk (st := sCheckP) l23 c23 k23
  have g23 := PySem.W.mg_of X G a23
  have b23 := F23.binds (ps := ["scheme", "rest", "right"]) fun _ _ _ _ _ _ us hl => match us, hl with | [_, _, _], _ => rfl
  have F24 := fun_mk (st := sLayers) l24 c24 k24
  have g24 := PySem.W.mg_of X G a24
  have b24 := F24.binds (ps := ["scheme", "start"]) fun _ _ _ _ _ _ us hl => match us, hl with | [_, _], _ => rfl
  have F25 := fun_mk (st := sZeros) l25 c25 k25
  have g25 := PySem.W.mg_of X G a25
  have b25 := F25.binds (ps := ["places"]) fun _ _ _ _ _ _ us hl => match us, hl with | [_], _ => rfl
  have F26 := fun_mk (st := sCell) l26 c26 k26
  have g26 := PySem.W.mg_of X G a26
  have b26 := F26.binds (ps := ["_law_script", "_law_k"]) fun _ _ _ _ _ _ us hl => match us, hl with | [_, _], _ => rfl
  have F27 := fun_mk (st := sBox) l27 c27 k27
  have g27 := PySem.W.mg_of X G a27
  have b27 := F27.binds (ps := ["_law_cell_here"]) fun _ _ _ _ _ _ us hl => match us, hl with | [_], _ => rfl
  have F28 := fun_mk (st := sTake) l28 c28 k28
  have g28 := PySem.W.mg_of X G a28
  have b28 := F28.binds (ps := ["_law_box_here", "_law_many"]) fun _ _ _ _ _ _ us hl => match us, hl with | [_, _], _ => rfl
  have F29 := fun_mk (st := sDigits) l29 c29 k29
  have g29 := PySem.W.mg_of X G a29
  have b29 := F29.binds (ps := ["_law_box_here", "_law_base"]) fun _ _ _ _ _ _ us hl => match us, hl with | [_, _], _ => rfl
  have F30 := fun_mk (st := sPairs) l30 c30 k30
  have g30 := PySem.W.mg_of X G a30
  have b30 := F30.binds (ps := ["_law_digits_here"]) fun _ _ _ _ _ _ us hl => match us, hl with | [_], _ => rfl
  have F31 := fun_mk (st := sScheme) l31 c31 k31
  have g31 := PySem.W.mg_of X G a31
  have b31 := F31.binds (ps := ["_law_box_here"]) fun _ _ _ _ _ _ us hl => match us, hl with | [_], _ => rfl
  have F32 := fun_mk (st := sMade) l32 c32 k32
  have g32 := PySem.W.mg_of X G a32
  have b32 := F32.binds (ps := ["_law_model"]) fun _ _ _ _ _ _ us hl => match us, hl with | [_], _ => rfl
  have F33 := fun_mk (st := sFits) l33 c33 k33
  have g33 := PySem.W.mg_of X G a33
  have b33 := F33.binds (ps := ["_law_model", "_law_left", "_law_beside"]) fun _ _ _ _ _ _ us hl => match us, hl with | [_, _, _], _ => rfl
  have F34 := fun_mk (st := sValue) l34 c34 k34
  have g34 := PySem.W.mg_of X G a34
  have b34 := F34.binds (ps := ["_law_base", "_law_row"]) fun _ _ _ _ _ _ us hl => match us, hl with | [_, _], _ => rfl
  have F35 := fun_mk (st := sIsRow) l35 c35 k35
  have g35 := PySem.W.mg_of X G a35
  have b35 := F35.binds (ps := ["_law_model", "_law_row"]) fun _ _ _ _ _ _ us hl => match us, hl with | [_, _], _ => rfl
  have F36 := fun_mk (st := sLSteps) l36 c36 k36
  have g36 := PySem.W.mg_of X G a36
  have b36 := F36.binds (ps := ["_law_model", "_law_place"]) fun _ _ _ _ _ _ us hl => match us, hl with | [_, _], _ => rfl
  have F37 := fun_mk (st := sMet) l37 c37 k37
  have g37 := PySem.W.mg_of X G a37
  have b37 := F37.binds (ps := ["_law_model", "_law_place"]) fun _ _ _ _ _ _ us hl => match us, hl with | [_, _], _ => rfl
  have F38 := fun_mk (st := sNumber) l38 c38 k38
  have g38 := PySem.W.mg_of X G a38
  have b38 := F38.binds (ps := ["_law_box_here"]) fun _ _ _ _ _ _ us hl => match us, hl with | [_], _ => rfl
  have F39 := fun_mk (st := sLClosed) l39 c39 k39
  have g39 := PySem.W.mg_of X G a39
  have b39 := F39.binds (ps := ["_law_model", "_law_place", "_law_told"]) fun _ _ _ _ _ _ us hl => match us, hl with | [_, _, _], _ => rfl
  have F40 := fun_mk (st := sRowRight) l40 c40 k40
  have g40 := PySem.W.mg_of X G a40
  have b40 := F40.binds (ps := ["_law_model", "_law_amount", "_law_beside", "_law_row", "_law_size"]) fun _ _ _ _ _ _ us hl => match us, hl with | [_, _, _, _, _], _ => rfl
  have F41 := fun_mk (st := sFirstRow) l41 c41 k41
  have g41 := PySem.W.mg_of X G a41
  have b41 := F41.binds (ps := ["_law_model", "_law_levels"]) fun _ _ _ _ _ _ us hl => match us, hl with | [_, _], _ => rfl
  have F42 := fun_mk (st := sAsked) l42 c42 k42
  have g42 := PySem.W.mg_of X G a42
  have b42 := F42.binds (ps := ["_law_box_here", "_law_model", "_law_house", "_law_amount", "_law_beside"]) fun _ _ _ _ _ _ us hl => match us, hl with | [_, _, _, _, _], _ => rfl
  have F43 := fun_mk (st := sRight) l43 c43 k43
  have g43 := PySem.W.mg_of X G a43
  have b43 := F43.binds (ps := ["_law_box_here"]) fun _ _ _ _ _ _ us hl => match us, hl with | [_], _ => rfl
  have F44 := fun_mk (st := sFar) l44 c44 k44
  have g44 := PySem.W.mg_of X G a44
  have b44 := F44.binds (ps := []) fun _ _ _ _ _ _ us hl => match us, hl with | [], _ => rfl
  have F45 := fun_mk (st := sLaw) l45 c45 k45
  have g45 := PySem.W.mg_of X G a45
  have b45 := F45.binds (ps := ["_law_script"]) fun _ _ _ _ _ _ us hl => match us, hl with | [_], _ => rfl
  have FF := fun_mk (st := sFig) lF cF kF
  have bF := FF.binds (ps := ["self", "text"]) fun _ _ _ _ _ _ us hl => match us, hl with | [_, _], _ => rfl
  have TF : FigC K mg CF fF := ⟨PySem.W.mg_of X G aF, ⟨rF, gaF⟩, atF, kF⟩
  have FI1 := fun_mk (st := sInBase) lI1 cI1 kI1
  have bI1 := FI1.binds (ps := ["self", "value"]) fun _ _ _ _ _ _ us hl => match us, hl with | [_, _], _ => rfl
  have T1 : ErrC K mg "InvalidBase" "value" C1 fI1 := ⟨PySem.W.mg_of X G aC1, ⟨⟨_, _, _, _, _, _, _, _, _, _, _, _, _, _, _, xC1, by first | rfl | decide +kernel⟩, sa1, ex1, ty1, kC1⟩, iC1, tI1, no1, ⟨ga1, gg1, ex1, hd1⟩, exm_own ex1 ic1 ty1 sb1, ⟨cn1, ⟨⟨ga1, gg1, ex1, hd1⟩, by simpa [PySem.W.isClsIn] using ic1, haE1, xnE, xtE, hmE1, ty1, stE, fcE1, ⟨_, tkE1, xC1, rfl, rfl⟩, nnE1⟩⟩⟩
  have FI2 := fun_mk (st := sInDig) lI2 cI2 kI2
  have bI2 := FI2.binds (ps := ["self", "value"]) fun _ _ _ _ _ _ us hl => match us, hl with | [_, _], _ => rfl
  have T2 : ErrC K mg "InvalidDigits" "value" C2 fI2 := ⟨PySem.W.mg_of X G aC2, ⟨⟨_, _, _, _, _, _, _, _, _, _, _, _, _, _, _, xC2, by first | rfl | decide +kernel⟩, sa2, ex2, ty2, kC2⟩, iC2, tI2, no2, ⟨ga2, gg2, ex2, hd2⟩, exm_own ex2 ic2 ty2 sb2, ⟨cn2, ⟨⟨ga2, gg2, ex2, hd2⟩, by simpa [PySem.W.isClsIn] using ic2, haE2, xnE, xtE, hmE2, ty2, stE, fcE2, ⟨_, tkE2, xC2, rfl, rfl⟩, nnE2⟩⟩⟩
  have FI3 := fun_mk (st := sInBars) lI3 cI3 kI3
  have bI3 := FI3.binds (ps := ["self", "value"]) fun _ _ _ _ _ _ us hl => match us, hl with | [_, _], _ => rfl
  have T3 : ErrC K mg "InvalidBars" "value" C3 fI3 := ⟨PySem.W.mg_of X G aC3, ⟨⟨_, _, _, _, _, _, _, _, _, _, _, _, _, _, _, xC3, by first | rfl | decide +kernel⟩, sa3, ex3, ty3, kC3⟩, iC3, tI3, no3, ⟨ga3, gg3, ex3, hd3⟩, exm_own ex3 ic3 ty3 sb3, ⟨cn3, ⟨⟨ga3, gg3, ex3, hd3⟩, by simpa [PySem.W.isClsIn] using ic3, haE3, xnE, xtE, hmE3, ty3, stE, fcE3, ⟨_, tkE3, xC3, rfl, rfl⟩, nnE3⟩⟩⟩
  have FI4 := fun_mk (st := sNotS) lI4 cI4 kI4
  have bI4 := FI4.binds (ps := ["self", "value"]) fun _ _ _ _ _ _ us hl => match us, hl with | [_, _], _ => rfl
  have T4 : ErrC K mg "NotScheme" "value" C4 fI4 := ⟨PySem.W.mg_of X G aC4, ⟨⟨_, _, _, _, _, _, _, _, _, _, _, _, _, _, _, xC4, by first | rfl | decide +kernel⟩, sa4, ex4, ty4, kC4⟩, iC4, tI4, no4, ⟨ga4, gg4, ex4, hd4⟩, exm_own ex4 ic4 ty4 sb4, ⟨cn4, ⟨⟨ga4, gg4, ex4, hd4⟩, by simpa [PySem.W.isClsIn] using ic4, haE4, xnE, xtE, hmE4, ty4, stE, fcE4, ⟨_, tkE4, xC4, rfl, rfl⟩, nnE4⟩⟩⟩
  have FI5 := fun_mk (st := sInNum) lI5 cI5 kI5
  have bI5 := FI5.binds (ps := ["self", "number"]) fun _ _ _ _ _ _ us hl => match us, hl with | [_, _], _ => rfl
  have T5 : ErrC K mg "InvalidNumber" "number" C5 fI5 := ⟨PySem.W.mg_of X G aC5, ⟨⟨_, _, _, _, _, _, _, _, _, _, _, _, _, _, _, xC5, by first | rfl | decide +kernel⟩, sa5, ex5, ty5, kC5⟩, iC5, tI5, no5, ⟨ga5, gg5, ex5, hd5⟩, exm_own ex5 ic5 ty5 sb5, ⟨cn5, ⟨⟨ga5, gg5, ex5, hd5⟩, by simpa [PySem.W.isClsIn] using ic5, haE5, xnE, xtE, hmE5, ty5, stE, fcE5, ⟨_, tkE5, xC5, rfl, rfl⟩, nnE5⟩⟩⟩
  have FI6 := fun_mk (st := sUnk) lI6 cI6 kI6
  have bI6 := FI6.binds (ps := ["self", "digit"]) fun _ _ _ _ _ _ us hl => match us, hl with | [_, _], _ => rfl
  have T6 : ErrC K mg "UnknownDigit" "digit" C6 fI6 := ⟨PySem.W.mg_of X G aC6, ⟨⟨_, _, _, _, _, _, _, _, _, _, _, _, _, _, _, xC6, by first | rfl | decide +kernel⟩, sa6, ex6, ty6, kC6⟩, iC6, tI6, no6, ⟨ga6, gg6, ex6, hd6⟩, exm_own ex6 ic6 ty6 sb6, ⟨cn6, ⟨⟨ga6, gg6, ex6, hd6⟩, by simpa [PySem.W.isClsIn] using ic6, haE6, xnE, xtE, hmE6, ty6, stE, fcE6, ⟨_, tkE6, xC6, rfl, rfl⟩, nnE6⟩⟩⟩
  have cS : Cls K CS := ⟨pgS, hdS, poS, saS⟩
  have iS : IsC K CS := ⟨cS, haS, xn, xt, hmS, kit_own icS tyS sbS⟩
  have gS := PySem.W.mg_of X G aS
  have FM1 := fun_mk (st := sAllows) lM1 cM1 kM1
  have bM1 := FM1.binds (ps := ["self", "left", "right"]) fun _ _ _ _ _ _ us hl => match us, hl with | [_, _, _], _ => rfl
  have mm1 : Meth K CS "allows" h1 := ⟨at1, fn1, kM1⟩
  have XPB := fun_mk (st := sPBase) lPB cPB kPB
  have bXPB := XPB.binds (ps := ["self"]) fun _ _ _ _ _ _ us hl => match us, hl with | [_], _ => rfl
  have XPD := fun_mk (st := sPDigits) lPD cPD kPD
  have bXPD := XPD.binds (ps := ["self"]) fun _ _ _ _ _ _ us hl => match us, hl with | [_], _ => rfl
  obtain ⟨fdD2, FD2⟩ := eD2
  have gD2 := PySem.W.mg_of X G aD2
  have bD2 := bdD2 FD2
  obtain ⟨fdD3, FD3⟩ := eD3
  have gD3 := PySem.W.mg_of X G aD3
  have bD3 := bdD3 FD3
  obtain ⟨fdD4, FD4⟩ := eD4
  have gD4 := PySem.W.mg_of X G aD4
  have bD4 := bdD4 FD4
  obtain ⟨fdD5, FD5⟩ := eD5
  have gD5 := PySem.W.mg_of X G aD5
  have bD5 := bdD5 FD5
  have pb : PropOf K CS "base" pB gB := ⟨apB, gtB, tkB, ⟨_, rcB⟩⟩
  have pd : PropOf K CS "digits" pD gD := ⟨apD, gtD, tkD, ⟨_, rcD⟩⟩
  have FIn : FunD K "__init__" "Scheme.__init__" (defArgs sInit) (defBody sInit) (defScope sInit) [] [("bars", .ref TD)] hN _ := ⟨⟨_, _, _, _, _, _, _, _, _, _, rfl, lIn, cIn, .inl ⟨rfl, rfl⟩, .inr ⟨DK, rfl, fun q hq => by cases List.mem_singleton.mp hq; exact ⟨_, nsB, rfl⟩⟩⟩, kIn⟩
  have hTD : ∀ H, IsSeq K H TD [] := fun H => .kt lT rfl (.inr ⟨_, #[], nT, lT, rfl, rfl, by decide, .nil⟩)
  have y_len := PySem.W.mg_none_of X G z1
  have y_range := PySem.W.mg_none_of X G z2
  have y_int := PySem.W.mg_none_of X G z3
  have y_bool := PySem.W.mg_none_of X G z4
  have y_isinstance := PySem.W.mg_none_of X G z5
  have y_repr := PySem.W.mg_none_of X G z6
  have y_list := PySem.W.mg_none_of X G z7
  have y_tuple := PySem.W.mg_none_of X G z8
  have y_set := PySem.W.mg_none_of X G z9
  have y_sorted := PySem.W.mg_none_of X G z10
  have y_all := PySem.W.mg_none_of X G z11
  have y_max := PySem.W.mg_none_of X G z12
  have y_min := PySem.W.mg_none_of X G z13
  have y_abs := PySem.W.mg_none_of X G z14
  have y_ValueError := PySem.W.mg_none_of X G z15
  have y_reversed := PySem.W.mg_none_of X G z16
  have u_MOST_DIGITS := PySem.W.mg_of X G v1
  have u_GREATEST_DIGIT := PySem.W.mg_of X G v2
  have u_GREATEST_BASE := PySem.W.mg_of X G v3
  refine ⟨PySem.W.fnOf "law" "law" (defArgs sLaw) (defBody sLaw) (defScope sLaw) .none kV45 dc45 pm45 an45 cd45 ct45, fun s v => .of_eq rfl, fun base _ _ TB => ?_⟩
  have E1 := (ok_InvalidBase (P := l.prog) (w := w) (base := base) FI1 FF TF bF T1 y_ValueError vV).mono (by decide : 2 ≤ 3)
  have E2 := (ok_InvalidDigits (P := l.prog) (w := w) (base := base) FI2 FF TF bF T2 y_ValueError vV).mono (by decide : 2 ≤ 3)
  have E3 := (ok_InvalidBars (P := l.prog) (w := w) (base := base) FI3 FF TF bF T3 y_ValueError vV).mono (by decide : 2 ≤ 3)
  have E4 := (ok_NotScheme (P := l.prog) (w := w) (base := base) FI4 FF TF bF T4 y_ValueError vV).mono (by decide : 2 ≤ 3)
  have E5 := (ok_InvalidNumber (P := l.prog) (w := w) (base := base) FI5 FF TF bF T5 y_ValueError vV).mono (by decide : 2 ≤ 3)
  have E6 := (ok_UnknownDigit (P := l.prog) (w := w) (base := base) FI6 FF TF bF T6 y_ValueError vV).mono (by decide : 2 ≤ 3)
  have G1 := ok_whole (P := l.prog) (w := w) (base := base) F1 y_isinstance y_int y_bool
  have G2 := ok_isint (P := l.prog) (w := w) (base := base) F2 G1 g1 F1.kp b1
  have G3 := ok_isbase (P := l.prog) (w := w) (base := base) F3 G2 g2 F2.kp b2 u_GREATEST_BASE
  have G4 := ok_isdigit (P := l.prog) (w := w) (base := base) F4 G2 g2 F2.kp b2 u_GREATEST_DIGIT
  have G5 := ok_are (P := l.prog) (w := w) (base := base) F5 G4 g4 F4.kp b4 y_all
  have G6 := ok_oneof (P := l.prog) (w := w) (base := base) F6 G4 g4 F4.kp b4
  have G7 := ok_ispair (P := l.prog) (w := w) (base := base) F7 G6 g6 F6.kp b6 y_isinstance y_len y_all y_tuple
  have G8 := ok_diglist (P := l.prog) (w := w) (base := base) F8 G5 g5 F5.kp b5 y_isinstance y_list y_tuple
  have G9 := ok_diffdig (P := l.prog) (w := w) (base := base) F9 G8 g8 F8.kp b8 E2 T2 bI2 u_MOST_DIGITS y_len y_set y_sorted y_tuple
  have G10 := ok_diffpair (P := l.prog) (w := w) (base := base) F10 G7 g7 F7.kp b7 E3 T3 bI3 y_isinstance y_list y_set y_sorted y_tuple
  have GN := ok_new (P := l.prog) (w := w) (base := base) ⟨_, FIn⟩ cS nB nD nR G3 g3 F3.kp b3 G9 g9 F9.kp b9 G10 g10 F10.kp b10 E1 T1 bI1
  have MK : Mk K CS hN := ⟨mkS, atN, fnN, kpS⟩
  have GA := ok_allows (P := l.prog) (w := w) (base := base) FM1 cS nD nR G6 g6 F6.kp b6
  have NK : NotK K CS := notK_of tyS icS
  have PBx := ok_pbase (mg := mg) (P := l.prog) (w := w) (base := base) XPB cS nB
  have PDx := ok_pdigits (mg := mg) (P := l.prog) (w := w) (base := base) XPD cS nD
  have LFx := ok_left (P := l.prog) (w := w) (base := base) F11 cS pd PDx bXPD mm1 GA bM1
  have ALx := ok_allleft (P := l.prog) (w := w) (base := base) F12 cS pd PDx bXPD LFx g11 F11.kp b11
  have BHx := ok_behind (mg := mg) (P := l.prog) (w := w) (base := base) F13
  have FOx := ok_follow (T := [(PT, qLam)]) (P := l.prog) (w := w) (base := base) F14 ecF TB (List.mem_singleton.mpr rfl) (fun p hp _ => by cases List.mem_singleton.mp hp; rfl) cS pb PBx bXPB ALx g12 F12.kp b12
  have GRx := ok_graph (P := l.prog) (w := w) (base := base) F15 y_list BHx g13 F13.kp b13
  have PGx := ok_pgraph (P := l.prog) (w := w) (base := base) F16 GRx g15 F15.kp b15 FOx g14 F14.kp b14
  have FRx := ok_first (P := l.prog) (w := w) (base := base) F17 cS pd PDx bXPD pb PBx bXPB mm1 GA bM1 y_sorted y_len y_reversed y_tuple
  have ISx := ok_issch (P := l.prog) (w := w) (base := base) F18 iS NK gS y_isinstance
  have CSx := ok_checks (P := l.prog) (w := w) (base := base) F19 ISx g18 F18.kp b18 E4 T4 bI4
  have CNx := ok_checkn (P := l.prog) (w := w) (base := base) F20 G1 g1 F1.kp b1 E5 T5 bI5
  have IRx := ok_isright (P := l.prog) (w := w) (base := base) F21 cS mm1 GA bM1
  have CPx := ok_checkp (P := l.prog) (w := w) (base := base) F23 CSx g19 F19.kp b19 CNx g20 F20.kp b20 IRx g21 F21.kp b21 E6 T6 bI6
  have IPx := ok_isplace (P := l.prog) (w := w) (base := base) F22 G1 g1 F1.kp b1 IRx g21 F21.kp b21 y_isinstance y_len y_tuple
  have ZEx := ok_zeros (mg := mg) (P := l.prog) (w := w) (base := base) F25
  have LYx := ok_layers (P := l.prog) (w := w) (base := base) F24 FOx g14 F14.kp b14 ZEx g25 F25.kp b25 BHx g13 F13.kp b13
  have IWx := ok_written (P := l.prog) (w := w) (base := base) FD2 CPx g23 F23.kp b23 LYx g24 F24.kp b24
  have WRx := ok_writing (P := l.prog) (w := w) (base := base) FD3 CPx g23 F23.kp b23 LYx g24 F24.kp b24 FRx g17 F17.kp b17 ZEx g25 F25.kp b25
  have CLx := ok_closed (P := l.prog) (w := w) (base := base) FD4 CPx g23 F23.kp b23 PGx g16 F16.kp b16 ZEx g25 F25.kp b25 y_list
  have ICx := ok_isclosed (P := l.prog) (w := w) (base := base) FD5 CPx g23 F23.kp b23 IPx g22 F22.kp b22 FOx g14 F14.kp b14 ZEx g25 F25.kp b25 BHx g13 F13.kp b13 y_isinstance y_list y_tuple y_all
  have DG := ok_digits (P := l.prog) (w := w) (base := base) F29 F28 g28 b28 y_int y_len y_range y_list y_abs
  have PR := ok_pairs (mg := mg) (P := l.prog) (w := w) (base := base) F30
  have SC := (ok_scheme (P := l.prog) (w := w) (base := base) F31 F28 g28 b28 DG g29 F29.kp b29 PR g30 F30.kp b30 y_int y_sorted).mono (by decide : 3 ≤ 4)
  have MD := ok_made (P := l.prog) (w := w) (base := base) F32 FIn MK gS GN
  have FT := ok_fits (mg := mg) (P := l.prog) (w := w) (base := base) F33
  have VA := ok_value (mg := mg) (P := l.prog) (w := w) (base := base) F34
  have IRW := ok_isrow (P := l.prog) (w := w) (base := base) F35 y_len y_range
  have LS := ok_lsteps (P := l.prog) (w := w) (base := base) F36 FT g33 F33.kp b33 y_int y_abs
  have ME := ok_met (P := l.prog) (w := w) (base := base) F37 LS g36 F36.kp b36
  have NU := ok_number (P := l.prog) (w := w) (base := base) F38 F28 g28 b28 y_int
  have LC := ok_lclosed (P := l.prog) (w := w) (base := base) F39 LS g36 F36.kp b36 y_isinstance y_list
  have RR := ok_rowright (P := l.prog) (w := w) (base := base) F40 IRW g35 F35.kp b35 VA g34 F34.kp b34 FT g33 F33.kp b33 y_isinstance y_tuple y_bool y_len
  have FW := ok_firstrow (P := l.prog) (w := w) (base := base) F41 FT g33 F33.kp b33 y_len y_min y_range
  have AK := ok_asked (P := l.prog) (w := w) (base := base) F42 ME g37 F37.kp b37 CLx gD4 FD4.kp bD4 WRx gD3 FD3.kp bD3 IWx gD2 FD2.kp bD2 ICx gD5 FD5.kp bD5 FW g41 F41.kp b41 RR g40 F40.kp b40 LC g39 F39.kp b39 F28 g28 b28 y_int y_len y_range y_list y_repr
  have R := ok_right (P := l.prog) (w := w) (base := base) F43 F28 g28 b28 SC g31 F31.kp b31 MD g32 F32.kp b32 NU g38 F38.kp b38 AK g42 F42.kp b42 IWx gD2 FD2.kp (kbD2 FD2) WRx gD3 FD3.kp (beD3 FD3) (kbD3 FD3) y_int y_len y_range y_repr
  have FA := ok_far (P := l.prog) (w := w) (base := base) F44 FIn hTD MK gS GN IWx gD2 FD2.kp (beD2 FD2) WRx gD3 FD3.kp (beD3 FD3) CLx gD4 FD4.kp (beD4 FD4) LC g39 F39.kp b39
  exact ok_law F45 F26 g26 b26 F27 g27 b27 R g43 F43.kp b43 FA g44 F44.kp b44 y_int y_len y_range y_max y_min
end K12
set_option maxHeartbeats 0
namespace K12
open PySem PySem.Spec PyProof.Rows L2 OF LamX NdefX K12H
theorem from_head {l : PySem.W.OpenLaw} {w : World} {K : PySem.W.Frag} {h : Heap} {mg : Str → Option Value} {fa : Addr} (X : K.In h) (G : h.Ns mainGlobals mg) (hfa : mg "law" = some (.ref fa)) (c : OF.Says hfn htf hex h K) :
    ∃ fd : FuncData, (∀ (s : Shared) (v : Value), BindsTo s fd ⟨[v], []⟩ [("_law_script", v)]) ∧ ∀ base : Heap, K.In base → base.Ns mainGlobals mg → TabB base mg (He.cT K ("follower", none)).1 (He.cT K ("follower", none)).2 → FnG l.prog w K mg base 13 fa fd ["_law_script"] (spLaw K [((He.cT K ("follower", none)).2, qLam)]) := by
  obtain ⟨oc0_, od0_, kV0_, dc0_, pm0_, an0_, cd0_, ct0_, sl0_, fl0, fc0, fk0⟩ := c.fun_ 0 (f := l_f1) (x := "is_whole") (q := "is_whole") (st := sWhole) rfl
  obtain ⟨oc1_, od1_, kV1_, dc1_, pm1_, an1_, cd1_, ct1_, sl1_, fl1, fc1, fk1⟩ := c.fun_ 1 (f := l_f2) (x := "is_integer") (q := "is_integer") (st := sIsInt) rfl
  obtain ⟨oc2_, od2_, kV2_, dc2_, pm2_, an2_, cd2_, ct2_, sl2_, fl2, fc2, fk2⟩ := c.fun_ 2 (f := l_f3) (x := "is_base") (q := "is_base") (st := sIsBase) rfl
  obtain ⟨oc3_, od3_, kV3_, dc3_, pm3_, an3_, cd3_, ct3_, sl3_, fl3, fc3, fk3⟩ := c.fun_ 3 (f := l_f4) (x := "is_digit") (q := "is_digit") (st := sIsDigit) rfl
  obtain ⟨oc4_, od4_, kV4_, dc4_, pm4_, an4_, cd4_, ct4_, sl4_, fl4, fc4, fk4⟩ := c.fun_ 4 (f := l_f5) (x := "are_digits") (q := "are_digits") (st := sAre) rfl
  obtain ⟨oc5_, od5_, kV5_, dc5_, pm5_, an5_, cd5_, ct5_, sl5_, fl5, fc5, fk5⟩ := c.fun_ 5 (f := l_f6) (x := "_is_one_of") (q := "_is_one_of") (st := sOneOf) rfl
  obtain ⟨oc6_, od6_, kV6_, dc6_, pm6_, an6_, cd6_, ct6_, sl6_, fl6, fc6, fk6⟩ := c.fun_ 6 (f := l_f7) (x := "_is_pair") (q := "_is_pair") (st := sIsPair) rfl
  obtain ⟨oc7_, od7_, kV7_, dc7_, pm7_, an7_, cd7_, ct7_, sl7_, fl7, fc7, fk7⟩ := c.fun_ 7 (f := l_f8) (x := "_is_digit_list") (q := "_is_digit_list") (st := sDigList) rfl
  obtain ⟨oc8_, od8_, kV8_, dc8_, pm8_, an8_, cd8_, ct8_, sl8_, fl8, fc8, fk8⟩ := c.fun_ 8 (f := l_f9) (x := "_different_digits") (q := "_different_digits") (st := sDiffDig) rfl
  obtain ⟨oc9_, od9_, kV9_, dc9_, pm9_, an9_, cd9_, ct9_, sl9_, fl9, fc9, fk9⟩ := c.fun_ 9 (f := l_f10) (x := "_different_pairs") (q := "_different_pairs") (st := sDiffPair) rfl
  obtain ⟨oc10_, od10_, kV10_, dc10_, pm10_, an10_, cd10_, ct10_, sl10_, fl10, fc10, fk10⟩ := c.fun_ 10 (f := l_f11) (x := "left_digits") (q := "left_digits") (st := sLeft) rfl
  obtain ⟨oc11_, od11_, kV11_, dc11_, pm11_, an11_, cd11_, ct11_, sl11_, fl11, fc11, fk11⟩ := c.fun_ 11 (f := l_f12) (x := "all_left_digits") (q := "all_left_digits") (st := sAllLeft) rfl
  obtain ⟨oc12_, od12_, kV12_, dc12_, pm12_, an12_, cd12_, ct12_, sl12_, fl12, fc12, fk12⟩ := c.fun_ 12 (f := l_f13) (x := "places_behind") (q := "places_behind") (st := sBehind) rfl
  obtain ⟨oc13_, od13_, kV13_, dc13_, pm13_, an13_, cd13_, ct13_, sl13_, fl13, fc13, fk13⟩ := c.fun_ 13 (f := l_f14) (x := "follower") (q := "follower") (st := sFollow) rfl
  obtain ⟨oc14_, od14_, kV14_, dc14_, pm14_, an14_, cd14_, ct14_, sl14_, fl14, fc14, fk14⟩ := c.fun_ 14 (f := l_f15) (x := "graph_from") (q := "graph_from") (st := sGraph) rfl
  obtain ⟨oc15_, od15_, kV15_, dc15_, pm15_, an15_, cd15_, ct15_, sl15_, fl15, fc15, fk15⟩ := c.fun_ 15 (f := l_f16) (x := "place_graph") (q := "place_graph") (st := sPGraph) rfl
  obtain ⟨oc16_, od16_, kV16_, dc16_, pm16_, an16_, cd16_, ct16_, sl16_, fl16, fc16, fk16⟩ := c.fun_ 16 (f := l_f17) (x := "first_rows") (q := "first_rows") (st := sFirst) rfl
  obtain ⟨oc17_, od17_, kV17_, dc17_, pm17_, an17_, cd17_, ct17_, sl17_, fl17, fc17, fk17⟩ := c.fun_ 17 (f := l_f18) (x := "is_scheme") (q := "is_scheme") (st := sIsSch) rfl
  obtain ⟨oc18_, od18_, kV18_, dc18_, pm18_, an18_, cd18_, ct18_, sl18_, fl18, fc18, fk18⟩ := c.fun_ 18 (f := l_f19) (x := "check_scheme") (q := "check_scheme") (st := sCheckS) rfl
  obtain ⟨oc19_, od19_, kV19_, dc19_, pm19_, an19_, cd19_, ct19_, sl19_, fl19, fc19, fk19⟩ := c.fun_ 19 (f := l_f20) (x := "check_number") (q := "check_number") (st := sCheckN) rfl
  obtain ⟨oc20_, od20_, kV20_, dc20_, pm20_, an20_, cd20_, ct20_, sl20_, fl20, fc20, fk20⟩ := c.fun_ 20 (f := l_f21) (x := "is_right") (q := "is_right") (st := sIsRight) rfl
  obtain ⟨oc21_, od21_, kV21_, dc21_, pm21_, an21_, cd21_, ct21_, sl21_, fl21, fc21, fk21⟩ := c.fun_ 21 (f := l_f22) (x := "is_place") (q := "is_place") (st := sIsPlace) rfl
  obtain ⟨oc22_, od22_, kV22_, dc22_, pm22_, an22_, cd22_, ct22_, sl22_, fl22, fc22, fk22⟩ := c.fun_ 22 (f := l_f23) (x := "_check_place") (q := "_check_place") (st := sCheckP) rfl
  obtain ⟨oc23_, od23_, kV23_, dc23_, pm23_, an23_, cd23_, ct23_, sl23_, fl23, fc23, fk23⟩ := c.fun_ 23 (f := l_f24) (x := "_layers_to_zero") (q := "_layers_to_zero") (st := sLayers) rfl
  obtain ⟨oc24_, od24_, kV24_, dc24_, pm24_, an24_, cd24_, ct24_, sl24_, fl24, fc24, fk24⟩ := c.fun_ 24 (f := l_f25) (x := "_zeros") (q := "_zeros") (st := sZeros) rfl
  obtain ⟨oc25_, od25_, kV25_, dc25_, pm25_, an25_, cd25_, ct25_, sl25_, fl25, fc25, fk25⟩ := c.fun_ 25 (f := l_f26) (x := "_law_cell") (q := "_law_cell") (st := sCell) rfl
  obtain ⟨oc26_, od26_, kV26_, dc26_, pm26_, an26_, cd26_, ct26_, sl26_, fl26, fc26, fk26⟩ := c.fun_ 26 (f := l_f27) (x := "_law_box") (q := "_law_box") (st := sBox) rfl
  obtain ⟨oc27_, od27_, kV27_, dc27_, pm27_, an27_, cd27_, ct27_, sl27_, fl27, fc27, fk27⟩ := c.fun_ 27 (f := l_f28) (x := "_law_take") (q := "_law_take") (st := sTake) rfl
  obtain ⟨oc28_, od28_, kV28_, dc28_, pm28_, an28_, cd28_, ct28_, sl28_, fl28, fc28, fk28⟩ := c.fun_ 28 (f := l_f29) (x := "_law_digits") (q := "_law_digits") (st := sDigits) rfl
  obtain ⟨oc29_, od29_, kV29_, dc29_, pm29_, an29_, cd29_, ct29_, sl29_, fl29, fc29, fk29⟩ := c.fun_ 29 (f := l_f30) (x := "_law_pairs") (q := "_law_pairs") (st := sPairs) rfl
  obtain ⟨oc30_, od30_, kV30_, dc30_, pm30_, an30_, cd30_, ct30_, sl30_, fl30, fc30, fk30⟩ := c.fun_ 30 (f := l_f31) (x := "_law_scheme") (q := "_law_scheme") (st := sScheme) rfl
  obtain ⟨oc31_, od31_, kV31_, dc31_, pm31_, an31_, cd31_, ct31_, sl31_, fl31, fc31, fk31⟩ := c.fun_ 31 (f := l_f32) (x := "_law_made") (q := "_law_made") (st := sMade) rfl
  obtain ⟨oc32_, od32_, kV32_, dc32_, pm32_, an32_, cd32_, ct32_, sl32_, fl32, fc32, fk32⟩ := c.fun_ 32 (f := l_f33) (x := "_law_fits") (q := "_law_fits") (st := sFits) rfl
  obtain ⟨oc33_, od33_, kV33_, dc33_, pm33_, an33_, cd33_, ct33_, sl33_, fl33, fc33, fk33⟩ := c.fun_ 33 (f := l_f34) (x := "_law_value") (q := "_law_value") (st := sValue) rfl
  obtain ⟨oc34_, od34_, kV34_, dc34_, pm34_, an34_, cd34_, ct34_, sl34_, fl34, fc34, fk34⟩ := c.fun_ 34 (f := l_f35) (x := "_law_is_row") (q := "_law_is_row") (st := sIsRow) rfl
  obtain ⟨oc35_, od35_, kV35_, dc35_, pm35_, an35_, cd35_, ct35_, sl35_, fl35, fc35, fk35⟩ := c.fun_ 35 (f := l_f36) (x := "_law_steps") (q := "_law_steps") (st := sLSteps) rfl
  obtain ⟨oc36_, od36_, kV36_, dc36_, pm36_, an36_, cd36_, ct36_, sl36_, fl36, fc36, fk36⟩ := c.fun_ 36 (f := l_f37) (x := "_law_met") (q := "_law_met") (st := sMet) rfl
  obtain ⟨oc37_, od37_, kV37_, dc37_, pm37_, an37_, cd37_, ct37_, sl37_, fl37, fc37, fk37⟩ := c.fun_ 37 (f := l_f38) (x := "_law_number") (q := "_law_number") (st := sNumber) rfl
  obtain ⟨oc38_, od38_, kV38_, dc38_, pm38_, an38_, cd38_, ct38_, sl38_, fl38, fc38, fk38⟩ := c.fun_ 38 (f := l_f39) (x := "_law_closed") (q := "_law_closed") (st := sLClosed) rfl
  obtain ⟨oc39_, od39_, kV39_, dc39_, pm39_, an39_, cd39_, ct39_, sl39_, fl39, fc39, fk39⟩ := c.fun_ 39 (f := l_f40) (x := "_law_row_right") (q := "_law_row_right") (st := sRowRight) rfl
  obtain ⟨oc40_, od40_, kV40_, dc40_, pm40_, an40_, cd40_, ct40_, sl40_, fl40, fc40, fk40⟩ := c.fun_ 40 (f := l_f41) (x := "_law_first_row") (q := "_law_first_row") (st := sFirstRow) rfl
  obtain ⟨oc41_, od41_, kV41_, dc41_, pm41_, an41_, cd41_, ct41_, sl41_, fl41, fc41, fk41⟩ := c.fun_ 41 (f := l_f42) (x := "_law_asked") (q := "_law_asked") (st := sAsked) rfl
  obtain ⟨oc42_, od42_, kV42_, dc42_, pm42_, an42_, cd42_, ct42_, sl42_, fl42, fc42, fk42⟩ := c.fun_ 42 (f := l_f43) (x := "_law_right") (q := "_law_right") (st := sRight) rfl
  obtain ⟨oc43_, od43_, kV43_, dc43_, pm43_, an43_, cd43_, ct43_, sl43_, fl43, fc43, fk43⟩ := c.fun_ 43 (f := l_f44) (x := "_law_far_right") (q := "_law_far_right") (st := sFar) rfl
  obtain ⟨oc44_, od44_, kV44_, dc44_, pm44_, an44_, cd44_, ct44_, sl44_, fl44, fc44, fk44⟩ := c.fun_ 44 (f := l_f45) (x := "law") (q := "law") (st := sLaw) rfl
  obtain ⟨oc45_, od45_, kV45_, dc45_, pm45_, an45_, cd45_, ct45_, sl45_, fl45, fc45, fk45⟩ := c.fun_ 45 (f := l_fF) (x := "__init__") (q := "FigureError.__init__") (st := sFig) rfl
  obtain ⟨oc46_, od46_, kV46_, dc46_, pm46_, an46_, cd46_, ct46_, sl46_, fl46, fc46, fk46⟩ := c.fun_ 46 (f := l_fI1) (x := "__init__") (q := "InvalidBase.__init__") (st := sInBase) rfl
  obtain ⟨oc47_, od47_, kV47_, dc47_, pm47_, an47_, cd47_, ct47_, sl47_, fl47, fc47, fk47⟩ := c.fun_ 47 (f := l_fI2) (x := "__init__") (q := "InvalidDigits.__init__") (st := sInDig) rfl
  obtain ⟨oc48_, od48_, kV48_, dc48_, pm48_, an48_, cd48_, ct48_, sl48_, fl48, fc48, fk48⟩ := c.fun_ 48 (f := l_fI3) (x := "__init__") (q := "InvalidBars.__init__") (st := sInBars) rfl
  obtain ⟨oc49_, od49_, kV49_, dc49_, pm49_, an49_, cd49_, ct49_, sl49_, fl49, fc49, fk49⟩ := c.fun_ 49 (f := l_fI4) (x := "__init__") (q := "NotScheme.__init__") (st := sNotS) rfl
  obtain ⟨oc50_, od50_, kV50_, dc50_, pm50_, an50_, cd50_, ct50_, sl50_, fl50, fc50, fk50⟩ := c.fun_ 50 (f := l_fI5) (x := "__init__") (q := "InvalidNumber.__init__") (st := sInNum) rfl
  obtain ⟨oc51_, od51_, kV51_, dc51_, pm51_, an51_, cd51_, ct51_, sl51_, fl51, fc51, fk51⟩ := c.fun_ 51 (f := l_fI6) (x := "__init__") (q := "UnknownDigit.__init__") (st := sUnk) rfl
  obtain ⟨oc52_, od52_, kV52_, dc52_, pm52_, an52_, cd52_, ct52_, sl52_, fl52, fc52, fk52⟩ := c.fun_ 52 (f := l_h1) (x := "allows") (q := "Scheme.allows") (st := sAllows) rfl
  obtain ⟨oc53_, od53_, kV53_, dc53_, pm53_, an53_, cd53_, ct53_, sl53_, fl53, fc53, fk53⟩ := c.fun_ 53 (f := l_hN) (x := "__init__") (q := "Scheme.__init__") (st := sInit) rfl
  have kw53 := OF.kwdR_ok (OF.nthB c.more 0 rfl) fl53
  subst kw53
  obtain ⟨oc54_, od54_, kV54_, dc54_, pm54_, an54_, cd54_, ct54_, sl54_, fl54, fc54, fk54⟩ := c.fun_ 54 (f := l_gB) (x := "base") (q := "Scheme.base") (st := sPBase) rfl
  obtain ⟨oc55_, od55_, kV55_, dc55_, pm55_, an55_, cd55_, ct55_, sl55_, fl55, fc55, fk55⟩ := c.fun_ 55 (f := l_gD) (x := "digits") (q := "Scheme.digits") (st := sPDigits) rfl
  have ecF_ : cd13_ = .ref (He.cT K ("follower", none)).1 := by
    obtain ⟨c0_, e0_⟩ := He.codeIn_ref fc13
    subst e0_
    exact congrArg Value.ref (He.codeOf_eq (p := ("follower", none)) fl13 rfl).symm
  obtain ⟨x53_0, x53_1, x53_2, x53_3, x53_4, x53_5, x53_6, x53_7, x53_8, x53_9, x53_10, x53_11, x53_12, x53_13, x53_14, x53⟩ := OF.excB_ok (OF.nthB c.more 52 rfl)
  obtain ⟨x67_0, x67_1, x67_2, x67_3, x67_4, x67_5, x67_6, x67_7, x67_8, x67_9, x67_10, x67_11, x67_12, x67_13, x67_14, x67⟩ := OF.excB_ok (OF.nthB c.more 66 rfl)
  obtain ⟨x81_0, x81_1, x81_2, x81_3, x81_4, x81_5, x81_6, x81_7, x81_8, x81_9, x81_10, x81_11, x81_12, x81_13, x81_14, x81⟩ := OF.excB_ok (OF.nthB c.more 80 rfl)
  obtain ⟨x95_0, x95_1, x95_2, x95_3, x95_4, x95_5, x95_6, x95_7, x95_8, x95_9, x95_10, x95_11, x95_12, x95_13, x95_14, x95⟩ := OF.excB_ok (OF.nthB c.more 94 rfl)
  obtain ⟨x109_0, x109_1, x109_2, x109_3, x109_4, x109_5, x109_6, x109_7, x109_8, x109_9, x109_10, x109_11, x109_12, x109_13, x109_14, x109⟩ := OF.excB_ok (OF.nthB c.more 108 rfl)
  obtain ⟨x123_0, x123_1, x123_2, x123_3, x123_4, x123_5, x123_6, x123_7, x123_8, x123_9, x123_10, x123_11, x123_12, x123_13, x123_14, x123⟩ := OF.excB_ok (OF.nthB c.more 122 rfl)
  obtain ⟨x158_0, x158⟩ := OF.recB_ok (OF.nthB c.more 157 rfl)
  obtain ⟨x162_0, x162⟩ := OF.recB_ok (OF.nthB c.more 161 rfl)
  obtain ⟨x166_0, x166_1, x166_2, x166⟩ := OF.tup0B_ok (OF.nthB c.more 165 rfl)
  obtain ⟨x187_0, x187⟩ := OF.intB_ok (OF.nthB c.more 186 rfl)
  obtain ⟨x188_0, x188⟩ := OF.intB_ok (OF.nthB c.more 187 rfl)
  obtain ⟨x189_0, x189⟩ := OF.intB_ok (OF.nthB c.more 188 rfl)
  exact all_mk X G hfa (of_decide_eq_true (OF.nthB c.more 1 rfl)) fl0 fc0 fk0 (of_decide_eq_true (OF.nthB c.more 2 rfl)) fl1 fc1 fk1 (of_decide_eq_true (OF.nthB c.more 3 rfl)) fl2 fc2 fk2 (of_decide_eq_true (OF.nthB c.more 4 rfl)) fl3 fc3 fk3 (of_decide_eq_true (OF.nthB c.more 5 rfl)) fl4 fc4 fk4 (of_decide_eq_true (OF.nthB c.more 6 rfl)) fl5 fc5 fk5 (of_decide_eq_true (OF.nthB c.more 7 rfl)) fl6 fc6 fk6 (of_decide_eq_true (OF.nthB c.more 8 rfl)) fl7 fc7 fk7 (of_decide_eq_true (OF.nthB c.more 9 rfl)) fl8 fc8 fk8 (of_decide_eq_true (OF.nthB c.more 10 rfl)) fl9 fc9 fk9 (of_decide_eq_true (OF.nthB c.more 11 rfl)) fl10 fc10 fk10 (of_decide_eq_true (OF.nthB c.more 12 rfl)) fl11 fc11 fk11 (of_decide_eq_true (OF.nthB c.more 13 rfl)) fl12 fc12 fk12 (of_decide_eq_true (OF.nthB c.more 14 rfl)) fl13 fc13 fk13 (of_decide_eq_true (OF.nthB c.more 15 rfl)) fl14 fc14 fk14 (of_decide_eq_true (OF.nthB c.more 16 rfl)) fl15 fc15 fk15 (of_decide_eq_true (OF.nthB c.more 17 rfl)) fl16 fc16 fk16 (of_decide_eq_true (OF.nthB c.more 18 rfl)) fl17 fc17 fk17 (of_decide_eq_true (OF.nthB c.more 19 rfl)) fl18 fc18 fk18 (of_decide_eq_true (OF.nthB c.more 20 rfl)) fl19 fc19 fk19 (of_decide_eq_true (OF.nthB c.more 21 rfl)) fl20 fc20 fk20 (of_decide_eq_true (OF.nthB c.more 22 rfl)) fl21 fc21 fk21 (of_decide_eq_true (OF.nthB c.more 23 rfl)) fl22 fc22 fk22 (of_decide_eq_true (OF.nthB c.more 24 rfl)) fl23 fc23 fk23 (of_decide_eq_true (OF.nthB c.more 25 rfl)) fl24 fc24 fk24 (of_decide_eq_true (OF.nthB c.more 26 rfl)) fl25 fc25 fk25 (of_decide_eq_true (OF.nthB c.more 27 rfl)) fl26 fc26 fk26 (of_decide_eq_true (OF.nthB c.more 28 rfl)) fl27 fc27 fk27 (of_decide_eq_true (OF.nthB c.more 29 rfl)) fl28 fc28 fk28 (of_decide_eq_true (OF.nthB c.more 30 rfl)) fl29 fc29 fk29 (of_decide_eq_true (OF.nthB c.more 31 rfl)) fl30 fc30 fk30 (of_decide_eq_true (OF.nthB c.more 32 rfl)) fl31 fc31 fk31 (of_decide_eq_true (OF.nthB c.more 33 rfl)) fl32 fc32 fk32 (of_decide_eq_true (OF.nthB c.more 34 rfl)) fl33 fc33 fk33 (of_decide_eq_true (OF.nthB c.more 35 rfl)) fl34 fc34 fk34 (of_decide_eq_true (OF.nthB c.more 36 rfl)) fl35 fc35 fk35 (of_decide_eq_true (OF.nthB c.more 37 rfl)) fl36 fc36 fk36 (of_decide_eq_true (OF.nthB c.more 38 rfl)) fl37 fc37 fk37 (of_decide_eq_true (OF.nthB c.more 39 rfl)) fl38 fc38 fk38 (of_decide_eq_true (OF.nthB c.more 40 rfl)) fl39 fc39 fk39 (of_decide_eq_true (OF.nthB c.more 41 rfl)) fl40 fc40 fk40 (of_decide_eq_true (OF.nthB c.more 42 rfl)) fl41 fc41 fk41 (of_decide_eq_true (OF.nthB c.more 43 rfl)) fl42 fc42 fk42 (of_decide_eq_true (OF.nthB c.more 44 rfl)) fl43 fc43 fk43 (of_decide_eq_true (OF.nthB c.more 45 rfl)) fl44 fc44 fk44 (of_decide_eq_true (OF.nthB c.more 46 rfl)) (OF.nthB c.more 47 rfl) (of_decide_eq_true (OF.nthB c.more 48 rfl)) (OF.fcVal_ok (of_decide_eq_true (OF.nthB c.more 49 rfl))) fl45 fc45 fk45 (OF.fcVal_ok (of_decide_eq_true (OF.nthB c.more 50 rfl))) (of_decide_eq_true (OF.nthB c.more 51 rfl)) x53 (of_decide_eq_true (OF.nthB c.more 53 rfl)) (of_decide_eq_true (OF.nthB c.more 54 rfl)) (of_decide_eq_true (OF.nthB c.more 55 rfl)) (OF.nthB c.more 56 rfl) (of_decide_eq_true (OF.nthB c.more 57 rfl)) (of_decide_eq_true (OF.nthB c.more 58 rfl)) (of_decide_eq_true (OF.nthB c.more 59 rfl)) (of_decide_eq_true (OF.nthB c.more 60 rfl)) (of_decide_eq_true (OF.nthB c.more 61 rfl)) (OF.nthB c.more 62 rfl) (of_decide_eq_true (OF.nthB c.more 63 rfl)) (OF.nthB c.more 64 rfl) fl46 fc46 fk46 (of_decide_eq_true (OF.nthB c.more 65 rfl)) x67 (of_decide_eq_true (OF.nthB c.more 67 rfl)) (of_decide_eq_true (OF.nthB c.more 68 rfl)) (of_decide_eq_true (OF.nthB c.more 69 rfl)) (OF.nthB c.more 70 rfl) (of_decide_eq_true (OF.nthB c.more 71 rfl)) (of_decide_eq_true (OF.nthB c.more 72 rfl)) (of_decide_eq_true (OF.nthB c.more 73 rfl)) (of_decide_eq_true (OF.nthB c.more 74 rfl)) (of_decide_eq_true (OF.nthB c.more 75 rfl)) (OF.nthB c.more 76 rfl) (of_decide_eq_true (OF.nthB c.more 77 rfl)) (OF.nthB c.more 78 rfl) fl47 fc47 fk47 (of_decide_eq_true (OF.nthB c.more 79 rfl)) x81 (of_decide_eq_true (OF.nthB c.more 81 rfl)) (of_decide_eq_true (OF.nthB c.more 82 rfl)) (of_decide_eq_true (OF.nthB c.more 83 rfl)) (OF.nthB c.more 84 rfl) (of_decide_eq_true (OF.nthB c.more 85 rfl)) (of_decide_eq_true (OF.nthB c.more 86 rfl)) (of_decide_eq_true (OF.nthB c.more 87 rfl)) (of_decide_eq_true (OF.nthB c.more 88 rfl)) (of_decide_eq_true (OF.nthB c.more 89 rfl)) (OF.nthB c.more 90 rfl) (of_decide_eq_true (OF.nthB c.more 91 rfl)) (OF.nthB c.more 92 rfl) fl48 fc48 fk48 (of_decide_eq_true (OF.nthB c.more 93 rfl)) x95 (of_decide_eq_true (OF.nthB c.more 95 rfl)) (of_decide_eq_true (OF.nthB c.more 96 rfl)) (of_decide_eq_true (OF.nthB c.more 97 rfl)) (OF.nthB c.more 98 rfl) (of_decide_eq_true (OF.nthB c.more 99 rfl)) (of_decide_eq_true (OF.nthB c.more 100 rfl)) (of_decide_eq_true (OF.nthB c.more 101 rfl)) (of_decide_eq_true (OF.nthB c.more 102 rfl)) (of_decide_eq_true (OF.nthB c.more 103 rfl)) (OF.nthB c.more 104 rfl) (of_decide_eq_true (OF.nthB c.more 105 rfl)) (OF.nthB c.more 106 rfl) fl49 fc49 fk49 (of_decide_eq_true (OF.nthB c.more 107 rfl)) x109 (of_decide_eq_true (OF.nthB c.more 109 rfl)) (of_decide_eq_true (OF.nthB c.more 110 rfl)) (of_decide_eq_true (OF.nthB c.more 111 rfl)) (OF.nthB c.more 112 rfl) (of_decide_eq_true (OF.nthB c.more 113 rfl)) (of_decide_eq_true (OF.nthB c.more 114 rfl)) (of_decide_eq_true (OF.nthB c.more 115 rfl)) (of_decide_eq_true (OF.nthB c.more 116 rfl)) (of_decide_eq_true (OF.nthB c.more 117 rfl)) (OF.nthB c.more 118 rfl) (of_decide_eq_true (OF.nthB c.more 119 rfl)) (OF.nthB c.more 120 rfl) fl50 fc50 fk50 (of_decide_eq_true (OF.nthB c.more 121 rfl)) x123 (of_decide_eq_true (OF.nthB c.more 123 rfl)) (of_decide_eq_true (OF.nthB c.more 124 rfl)) (of_decide_eq_true (OF.nthB c.more 125 rfl)) (OF.nthB c.more 126 rfl) (of_decide_eq_true (OF.nthB c.more 127 rfl)) (of_decide_eq_true (OF.nthB c.more 128 rfl)) (of_decide_eq_true (OF.nthB c.more 129 rfl)) (of_decide_eq_true (OF.nthB c.more 130 rfl)) (of_decide_eq_true (OF.nthB c.more 131 rfl)) (OF.nthB c.more 132 rfl) (of_decide_eq_true (OF.nthB c.more 133 rfl)) (OF.nthB c.more 134 rfl) fl51 fc51 fk51 (of_decide_eq_true (OF.nthB c.more 135 rfl)) (OF.nthB c.more 136 rfl) (OF.nthB c.more 137 rfl) (OF.nthB c.more 138 rfl) (of_decide_eq_true (OF.nthB c.more 139 rfl)) (OF.nthB c.more 140 rfl) (of_decide_eq_true (OF.nthB c.more 141 rfl)) (of_decide_eq_true (OF.nthB c.more 142 rfl)) (of_decide_eq_true (OF.nthB c.more 143 rfl)) (of_decide_eq_true (OF.nthB c.more 144 rfl)) (of_decide_eq_true (OF.nthB c.more 145 rfl)) (of_decide_eq_true (OF.nthB c.more 146 rfl)) (of_decide_eq_true (OF.nthB c.more 147 rfl)) (of_decide_eq_true (OF.nthB c.more 148 rfl)) (OF.nthB c.more 149 rfl) (of_decide_eq_true (OF.nthB c.more 150 rfl)) (OF.nthB c.more 151 rfl) (of_decide_eq_true (OF.nthB c.more 152 rfl)) (OF.nthB c.more 153 rfl) fl52 fc52 fk52 (of_decide_eq_true (OF.nthB c.more 154 rfl)) (of_decide_eq_true (OF.nthB c.more 155 rfl)) (of_decide_eq_true (OF.nthB c.more 156 rfl)) x158 (of_decide_eq_true (OF.nthB c.more 158 rfl)) (of_decide_eq_true (OF.nthB c.more 159 rfl)) (of_decide_eq_true (OF.nthB c.more 160 rfl)) x162 (of_decide_eq_true (OF.nthB c.more 162 rfl)) (OF.nthB c.more 163 rfl) fl53 fc53 fk53 (of_decide_eq_true (OF.nthB c.more 164 rfl)) x166 ecF_ (of_decide_eq_true (OF.nthB c.more 166 rfl)) (c.def_ 56 (d := { at_ := l_fIW, name := "is_written", qual := "is_written", params := defArgs sIsWr, body := defBody sIsWr, scope := defScope sIsWr, dfl := [.non] }) rfl) (of_decide_eq_true (OF.nthB c.more 167 rfl)) (c.def_ 57 (d := { at_ := l_fWr, name := "writing", qual := "writing", params := defArgs sWriting, body := defBody sWriting, scope := defScope sWriting, dfl := [.non] }) rfl) (of_decide_eq_true (OF.nthB c.more 168 rfl)) (c.def_ 58 (d := { at_ := l_fCl, name := "closed_list", qual := "closed_list", params := defArgs sClosed, body := defBody sClosed, scope := defScope sClosed, dfl := [.non] }) rfl) (of_decide_eq_true (OF.nthB c.more 169 rfl)) (c.def_ 59 (d := { at_ := l_fIc, name := "is_closed_list", qual := "is_closed_list", params := defArgs sIsClosed, body := defBody sIsClosed, scope := defScope sIsClosed, dfl := [.non] }) rfl) fl54 fc54 fk54 fl55 fc55 fk55 (of_decide_eq_true (OF.nthB c.more 170 rfl)) (of_decide_eq_true (OF.nthB c.more 171 rfl)) (of_decide_eq_true (OF.nthB c.more 172 rfl)) (of_decide_eq_true (OF.nthB c.more 173 rfl)) (of_decide_eq_true (OF.nthB c.more 174 rfl)) (of_decide_eq_true (OF.nthB c.more 175 rfl)) (of_decide_eq_true (OF.nthB c.more 176 rfl)) (of_decide_eq_true (OF.nthB c.more 177 rfl)) (of_decide_eq_true (OF.nthB c.more 178 rfl)) (of_decide_eq_true (OF.nthB c.more 179 rfl)) (of_decide_eq_true (OF.nthB c.more 180 rfl)) (of_decide_eq_true (OF.nthB c.more 181 rfl)) (of_decide_eq_true (OF.nthB c.more 182 rfl)) (of_decide_eq_true (OF.nthB c.more 183 rfl)) (of_decide_eq_true (OF.nthB c.more 184 rfl)) (of_decide_eq_true (OF.nthB c.more 185 rfl)) x187 x188 x189 (of_decide_eq_true (OF.nthB c.more 189 rfl)) (of_decide_eq_true (OF.nthB c.more 190 rfl)) (OF.fcGet_ok (of_decide_eq_true (OF.nthB c.more 191 rfl))) (of_decide_eq_true (OF.nthB c.more 192 rfl)) (of_decide_eq_true (OF.nthB c.more 193 rfl)) (of_decide_eq_true (OF.nthB c.more 194 rfl)) (OF.fcGet_ok (of_decide_eq_true (OF.nthB c.more 195 rfl))) (of_decide_eq_true (OF.nthB c.more 196 rfl)) (of_decide_eq_true (OF.nthB c.more 197 rfl)) (of_decide_eq_true (OF.nthB c.more 198 rfl)) (OF.fcGet_ok (of_decide_eq_true (OF.nthB c.more 199 rfl))) (of_decide_eq_true (OF.nthB c.more 200 rfl)) (of_decide_eq_true (OF.nthB c.more 201 rfl)) (of_decide_eq_true (OF.nthB c.more 202 rfl)) (OF.fcGet_ok (of_decide_eq_true (OF.nthB c.more 203 rfl))) (of_decide_eq_true (OF.nthB c.more 204 rfl)) (of_decide_eq_true (OF.nthB c.more 205 rfl)) (of_decide_eq_true (OF.nthB c.more 206 rfl)) (OF.fcGet_ok (of_decide_eq_true (OF.nthB c.more 207 rfl))) (of_decide_eq_true (OF.nthB c.more 208 rfl)) (of_decide_eq_true (OF.nthB c.more 209 rfl)) (of_decide_eq_true (OF.nthB c.more 210 rfl)) (OF.fcGet_ok (of_decide_eq_true (OF.nthB c.more 211 rfl))) (of_decide_eq_true (OF.nthB c.more 212 rfl)) (of_decide_eq_true (OF.nthB c.more 213 rfl)) (of_decide_eq_true (OF.nthB c.more 214 rfl)) (of_decide_eq_true (OF.nthB c.more 215 rfl))
end K12
/-! The end of a row whose top has one table of code objects, guards known. -/
namespace OF
open PySem PySem.Spec PyProof.Rows L2 LamX
section
variable {P : Program} {w : World} {K : PySem.W.Frag} {mg mb : Str → Option Value}
/-- namespaces stand in what is left where a list and a table are hidden -/
theorem ns_left2 {h : Heap} {H : Hp} {a t b : Addr} {xs : Array Value} {m : Str → Option Value} (ha : h.get? a = some { cls := .type "list", data := .seq xs }) (ht : h.get? t = some { cls := .none, data := .fields #[] }) (near : ∀ c, H c ≠ none → c = a ∨ c = t) (z : h.Ns b m) : (hidT h H).Ns b m := by
  obtain ⟨o, es, ep, eo, ed, rest⟩ := z
  have free : H b = none := Classical.byContradiction fun no => by
    rcases near b no with e | e
    · subst e
      rw [eo] at ha
      cases ha
      cases ed
    · subst e
      rw [eo] at ht
      cases ht
      cases ed
  exact ⟨o, es, ep, hidT_get eo free, ed, rest⟩
theorem law_callGT {n : Nat} {fa a c t : Addr} {fd : FuncData} {x : Str} {sp : Sp} {s : Shared} {vs : List Value} {ns : List Int} (KX : K.In s.heap) (hg : s.heap.Ns mainGlobals mg) (hb : s.heap.Ns builtinsNs mb) (hbb : ∀ y : Str, y ≠ "__name__" → mb y = bootBuiltins y)
    (hlim : s.heap.NoLimit) (he : s.gens = #[]) (hd : PySem.W.codeHdIn K c t = true) (out2 : K.lookup t = none) (ht : s.heap.get? t = some { cls := .none, data := .fields #[] })
    (hm : ∃ (b : Addr) (ob : Obj), mg "__builtins__" = some (.ref b) ∧ b ≠ builtinsNs ∧ s.heap.get? b = some ob ∧ ob.cls = .type "module" ∧ ob.dict = some builtinsNs ∧ ob.data = .plain)
    (ha : s.heap.get? a = some { cls := .type "list", data := .seq vs.toArray }) (hi : IntsAre vs ns) (hl : ns.length ≤ sizeLine) (room : Room n callerA)
    (F : ∀ base : Heap, K.In base → base.Ns mainGlobals mg → TabB base mg c t → FnG P w K mg base n fa fd [x] sp) (bind : ∀ (s : Shared) (u : Value), BindsTo s fd ⟨[u], []⟩ [(x, u)])
    (hsp : ∀ H : Hp, H t = some (.tbl #[]) → SqL K H a (ns.map V.int) → sp [.ref a] H (fun v _ => v = .bl true) fun _ _ _ => False) :
    codeAny (model P w) callerA (.call (.ref fa) ⟨[.ref a], []⟩) (fun r s' => r = .ok (.ret (.bool true)) ∧ OldK s.heap s'.heap ∧ s'.os = s.os ∧ AllBare s'.gens) s := by
  obtain ⟨H, only, seq, hok, near, out⟩ := script_heap (P := P) (w := w) KX ha hi hl
  have nta : t ≠ a := fun z => by
    rw [z, ha] at ht
    cases ht
  have hHt : H t = none := Classical.byContradiction fun no => nta (near t no)
  have near2 : ∀ b, upd H t (.tbl #[]) b ≠ none → b = a ∨ b = t := fun b no => by
    by_cases z : b = t
    · exact .inr z
    · rw [upd_ne z] at no
      exact .inl (near b no)
  have seq2 : SqL K (upd H t (.tbl #[])) a (ns.map V.int) := by
    rcases seq with (z | ⟨o, z⟩) | z
    · exact .inl (.inl (by rw [upd_ne nta.symm]; exact z))
    · exact .inl (.inr ⟨o, by rw [upd_ne nta.symm]; exact z⟩)
    · exact .inr z
  have hok2 : HOk P w (upd H t (.tbl #[])) s.heap := fun b o z => by
    by_cases y : b = t
    · subst y
      rw [upd_same] at z
      cases z
      exact ht
    · rw [upd_ne y] at z
      rcases only b with fr | ⟨o2, xs, fr⟩
      · rw [fr] at z
        cases z
      · have k := hok b _ fr
        rw [fr] at z
        cases z
        exact k
  have ht2 : upd H t (.tbl #[]) t = some (.tbl #[]) := upd_same
  have KB : K.In (hidT s.heap (upd H t (.tbl #[]))) := by
    intro b o z
    refine hidT_get (KX b o z) (Classical.byContradiction fun no => ?_)
    rcases near2 b no with e | e
    · subst e
      rw [upd_ne nta.symm] at no
      rw [out no] at z
      cases z
    · subst e
      rw [out2] at z
      cases z
  have keepNs : ∀ {b : Addr} {m : Str → Option Value}, s.heap.Ns b m → (hidT s.heap (upd H t (.tbl #[]))).Ns b m := fun z => ns_left2 ha ht near2 z
  have lim : (hidT s.heap (upd H t (.tbl #[]))).NoLimit := by
    obtain ⟨mc, h1, h2⟩ := hlim
    exact ⟨mc, keepNs h1, h2⟩
  have M : Mod K mg (hidT s.heap (upd H t (.tbl #[]))) := { kin := KB, glob := keepNs hg, blt := ⟨mb, keepNs hb, hbb⟩, nolimit := lim }
  have E0 : Env0 P w K mg (hidT s.heap (upd H t (.tbl #[]))) callerA [] s (upd H t (.tbl #[])) := {
    frames := rfl, mod := M, bs := fun c o z => of_hidT z, bsz := Nat.le_of_eq (hidT_size _ _), funs := trivial
    frf := fun c z => (by cases z), hok := hok2, bare := AllBare.of_eq he }
  have TB : TabB (hidT s.heap (upd H t (.tbl #[]))) mg c t := by
    refine NdefX.tabB_of_K KB hd ?_ ?_
    · obtain ⟨b, ob, m1, m2, m3, m4, m5, m6⟩ := hm
      have nb : upd H t (.tbl #[]) b = none := Classical.byContradiction fun no => by
        rcases near2 b no with e | e
        · subst e
          rw [m3] at ha
          cases ha
          cases m6
        · subst e
          rw [m3] at ht
          cases ht
          cases m6
      refine ⟨b, ob, m1, m2, fun z => ?_, fun z => ?_, hidT_get m3 nb, m4, m5, m6⟩
      · obtain ⟨o, es, ep, eo, ed, _⟩ := hg
        rw [← z, m3] at eo
        cases eo
        rw [m6] at ed
        cases ed
      · rw [z, ht] at m3
        cases m3
        cases m6
    · intro z
      obtain ⟨o, es, ep, eo, ed, _⟩ := hg
      rw [z, ht] at eo
      cases eo
      cases ed
  have main := (F _ KB (keepNs hg) TB).go callerA [] s (upd H t (.tbl #[])) ⟨[.ref a], []⟩ [.ref a] [.ref a] _ _ rfl room E0 (bind s (.ref a)) (.cons rfl .nil) (hsp _ ht2 seq2)
  apply codeAny_mono main
  intro r s' z
  cases r with
  | error er => cases z
  | ok fl =>
    cases fl with
    | next => cases z
    | brk => cases z
    | cont => cases z
    | ret u =>
      obtain ⟨v, H', sameOs, bare, un, hok', rv, ev⟩ := z
      have ev2 : v = .bl true := ev
      subst ev2
      have eu : u = Value.bool true := rv
      subst eu
      obtain ⟨more, em⟩ := un.tbls t #[] ht2
      have gm : s'.heap.get? t = some { cls := .none, data := .fields (#[] ++ more) } := hok' t _ em
      have others : ∀ b o, b ≠ t → s.heap.get? b = some o → s'.heap.get? b = some o := fun b o nb z => by
        rcases only b with fr | ⟨o2, xs, fr⟩
        · apply un.keep b o z (by rw [upd_ne nb]; exact fr)
          · intro y; cases y
          · intro y; cases y
        · have fr2 := un.frzs b o2 _ (by rw [upd_ne nb]; exact fr)
          have g1 := (hok b _ fr).1
          have g2 := (hok' b _ fr2).1
          rw [z] at g1
          rw [g2, ← Option.some.inj g1]
      refine ⟨rfl, ⟨fun b o z => ?_, fun b o z => ?_⟩, sameOs, bare⟩
      · by_cases y : b = t
        · subst y
          rw [ht] at z
          cases z
          exact .inr (.inl ⟨((PySem.W.codeHd_of_K KX hd).tab ht).isCodeTable, rfl, #[], more, rfl, gm⟩)
        · exact .inl (others b o y z)
      · by_cases y : b = t
        · subst y
          exact ⟨_, gm⟩
        · exact ⟨o, others b o y z⟩
/-- the end of a row over such a head, one table -/
theorem walkGTE {l : PySem.W.OpenLaw} {m n : Nat} {q : Program} {loose : List Str} {XP : (Str → Option Value) → Heap → Prop} {YP : World → Heap → Prop} {d : DefRec} {x : Str}
    (hm : l.most = some m) (hm2 : m ≤ sizeLine) (hdf : d.params.defaults = []) (room : Room n callerA)
    (F : ∀ (w : World) (mg : Str → Option Value) (fa : Addr) (h : Heap), YP w h → h.Ns mainGlobals mg → mg d.name = some (.ref fa) →
      ∃ (K : PySem.W.Frag) (sp : Sp) (c t : Addr), K.In h ∧ PySem.W.codeHdIn K c t = true ∧ K.lookup t = none ∧ h.get? t = some { cls := .none, data := .fields #[] } ∧
        (∃ fd : FuncData, (∀ (s : Shared) (u : Value), BindsTo s fd ⟨[u], []⟩ [(x, u)]) ∧ ∀ base : Heap, K.In base → base.Ns mainGlobals mg → TabB base mg c t → FnG l.prog w K mg base n fa fd [x] sp) ∧
        ∀ (H : Hp) (a : Addr) (ns : List Int), ns.length ≤ m → H t = some (.tbl #[]) → SqL K H a (ns.map V.int) → sp [.ref a] H (fun v _ => v = .bl true) fun _ _ _ => False) :
    PySem.W.WalkO q loose XP YP l.row.toRowW d [] (fun f vs => PySem.call f vs) := by
  apply Att.attach_call hm hdf
  intro w s₀ s₁ mg mb fa o pm cd doc a vs ns G Y ho hd hcd hmg hobj hints hlen hg
  obtain ⟨K, sp, c, t, KX, hh, out2, ht, ⟨fd, bind, FF⟩, hsp⟩ := F w mg fa _ Y G.T.g hmg
  exact law_callGT KX G.T.g G.T.b G.T.builtins G.T.nolimit hg hh out2 ht G.T.bmain hobj hints (Nat.le_trans hlen hm2) room FF bind fun H => hsp H a ns hlen
end
end OF
open PySem PySem.W PySem.Calls PyProof.Rows
set_option maxRecDepth 100000 in
set_option maxHeartbeats 0 in
theorem PySem.Challenge.cw_oddfigures_k12_whole_written_or_closed_holds : PySem.Challenge.rw_oddfigures_k12_whole_written_or_closed.Holds := by
  w_on; o_law
  refine HandSHeadRun.head_any (r := K12H.hR) (q := view K12H.hR.prog [72]) (H := K12H.hk) (ob := K12H.hob) (M := 9000) (loose := K12H.hNames) (d := HandSHeadRun.topDef K12H.hR.prog 72) (kwd := []) K12H.hob_eq (by kernel_rfl) (fun s => by kernel_rfl)
    K12H.hrun (by kernel_rfl) (by kernel_rfl) (by kernel_rfl) (by rfl) (by first | assumption | decide +kernel) (by decide +kernel) ⟨rfl, rfl, rfl, rfl, rfl, by decide +kernel⟩ ?hw ?hc
  case hw => w_witness2
  case hc =>
    refine OF.walkGTE (l := PySem.Challenge.rw_oddfigures_k12_whole_written_or_closed) (m := 63) (n := 13) (x := "_law_script") rfl (by decide) (by kernel_rfl) ⟨rfl, by decide, by decide⟩ ?F
    intro w mg fa h Y G hmg0
    obtain ⟨K, KX, c⟩ := Y
    have hmg : mg ("law" : PySem.Str) = some (.ref fa) := by
      have e : (HandSHeadRun.topDef K12H.hR.prog 72).name = ("law" : PySem.Str) := by kernel_rfl
      rw [← e]
      exact hmg0
    have mem : (("follower", none) : He.Defn) ∈ K12H.htf := List.mem_cons_self
    exact ⟨K, K12.spLaw K [((He.cT K ("follower", none)).2, K12.qLam)], (He.cT K ("follower", none)).1, (He.cT K ("follower", none)).2, KX, c.hd _ mem, c.out _ mem, c.empty _ mem, K12.from_head (l := PySem.Challenge.rw_oddfigures_k12_whole_written_or_closed) (w := w) KX G hmg c, fun H a ns hl hH hS => ⟨a, ns, rfl, hS, hl, (fun p hp => by cases List.mem_singleton.mp hp; exact LamX.TabS.nil hH), fun _ => rfl⟩⟩
