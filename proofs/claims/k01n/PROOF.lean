import PyProof.Rows.All
import Wide.All
import OpenK.AllK
import Wide.FinOn
import HandS.ForMost
import HandS.IsInst
import HandS.Defaults
import HandS.Wide
import PySem.Challenge.RW_oddfigures_k01_bases_and_digits
set_option Elab.async false
set_option linter.all false
set_option maxRecDepth 100000
/-! What the laws of this program have in common: heaps that stay but for one box, the box that draws are taken from, calls by names alone, repr of a truth. -/
namespace OF
open PySem PySem.Spec PyProof.Rows L2

/-! ### heaps that stay but for one place -/
/-- all that was tracked, but for the box at a, is as it was -/
def But (a : Addr) (H H' : Hp) : Prop := ∀ b o, b ≠ a → H b = some o → H' b = some o
theorem But.refl {a : Addr} {H : Hp} : But a H H := fun _ _ _ h => h
theorem But.trans {a : Addr} {H H1 H2 : Hp} (x : But a H H1) (y : But a H1 H2) : But a H H2 := fun b o n h => y b o n (x b o n h)
theorem But.of_same {a : Addr} {H H' : Hp} (x : Same H H') : But a H H' := fun b o _ h => x b o h
theorem But.new {a p : Addr} {H : Hp} {o : HO} (hp : H p = none) : But a H (upd H p o) := fun b u _ h => by
  rw [upd_ne (ne_of_none h hp)]; exact h
theorem But.at_ {a : Addr} {H : Hp} {o : HO} : But a H (upd H a o) := fun b u n h => by
  rw [upd_ne n]; exact h
/-- what was none ahead of the steps is a new place: a store to it keeps all -/
theorem But.store {a p : Addr} {H H1 : Hp} {o : HO} (x : But a H H1) (hp : H p = none) : But a H (upd H1 p o) := fun b u n h => by
  rw [upd_ne (ne_of_none h hp)]; exact x b u n h
theorem But.seqL {K : PySem.W.Frag} {a p : Addr} {H H' : Hp} {xs : List V} (x : But a H H') (n : p ≠ a) (h : SqL K H p xs) : SqL K H' p xs := by
  rcases h with (h | ⟨o, h⟩) | h
  · exact .inl (.inl (x _ _ n h))
  · exact .inl (.inr ⟨o, x _ _ n h⟩)
  · exact .inr h
theorem But.seqT {K : PySem.W.Frag} {a p : Addr} {H H' : Hp} {xs : List V} (x : But a H H') (n : p ≠ a) (h : SqT K H p xs) : SqT K H' p xs := by
  rcases h with (h | ⟨o, h⟩) | h
  · exact .inl (.inl (x _ _ n h))
  · exact .inl (.inr ⟨o, x _ _ n h⟩)
  · exact .inr h
theorem same_new {H : Hp} {p : Addr} {o : HO} (h : H p = none) : Same H (upd H p o) := fun b x e => by
  rw [upd_ne (ne_of_none e h)]; exact e

/-! ### the box -/
/-- at a stands a box: what is left of a large cell, a seed, how many were mixed (at most n) -/
def Box (n : Int) (H : Hp) (a : Addr) : Prop := ∃ b0 b1 b2 : Int, H a = some (.lst [.int b0, .int b1, .int b2]) ∧ 0 ≤ b0 ∧ 0 ≤ b1 ∧ b1 < 2147483648 ∧ 0 ≤ b2 ∧ b2 ≤ n
theorem Box.mono {n m : Int} {H : Hp} {a : Addr} (h : Box n H a) (hm : n ≤ m) : Box m H a := by
  obtain ⟨b0, b1, b2, h1, h2, h3, h4, h5, h6⟩ := h
  exact ⟨b0, b1, b2, h1, h2, h3, h4, h5, by omega⟩
theorem Box.same {n : Int} {H H' : Hp} {a : Addr} (h : Box n H a) (s : Same H H') : Box n H' a := by
  obtain ⟨b0, b1, b2, h1, r⟩ := h
  exact ⟨b0, b1, b2, s _ _ h1, r⟩
theorem Box.new {n : Int} {H : Hp} {a p : Addr} {o : HO} (h : Box n H a) (hp : H p = none) : Box n (upd H p o) a := h.same (same_new hp)
theorem Box.ne {n : Int} {H : Hp} {a p : Addr} (h : Box n H a) (hp : H p = none) : p ≠ a := by
  obtain ⟨b0, b1, b2, h1, r⟩ := h
  exact (ne_of_none h1 hp).symm
theorem Box.upd {n : Int} {H : Hp} {a p : Addr} {o : HO} (h : Box n H a) (hp : p ≠ a) : Box n (L2.upd H p o) a := by
  obtain ⟨b0, b1, b2, h1, r⟩ := h
  exact ⟨b0, b1, b2, by rw [upd_ne hp.symm]; exact h1, r⟩

/-- a draw: box, many; a number from 0 to many - 1, the box goes on -/
def spTake : Sp := fun vs H Q _ => ∃ (a : Addr) (m n : Int), vs = [.ref a, .int m] ∧ Box n H a ∧ n ≤ 1000000 ∧ 0 < m ∧ m.natAbs < 2 ^ 400 ∧
  ∀ (r : Int) (H' : Hp), 0 ≤ r → r < m → But a H H' → Box (n + 1) H' a → Q (.int r) H'
/-- a cell of the script, or a number made of the place -/
def spCell (K : PySem.W.Frag) : Sp := fun vs H Q _ => ∃ (a : Addr) (ns : List Int) (k : Nat), vs = [.ref a, .int k] ∧ SqL K H a (ns.map V.int) ∧ k < 1000 ∧ ∀ c : Int, Q (.int c) H
/-- a new box of a cell -/
def spBox : Sp := fun vs H Q _ => ∃ c : Int, vs = [.int c] ∧ ∀ (p : Addr) (H' : Hp), H p = none → Same H H' → Box 0 H' p → Q (.ref p) H'
/-- a list's items in a drawn order -/
def spMixed (K : PySem.W.Frag) : Sp := fun vs H Q _ => ∃ (a p : Addr) (xs : List V) (n : Int), vs = [.ref a, .ref p] ∧ Box n H a ∧ SqL K H p xs ∧ p ≠ a ∧ xs.length ≤ 1000 ∧ n ≤ 900000 ∧
  ∀ (D : Addr) (ys : List V) (H' : Hp), H D = none → But a H H' → Box (n + xs.length) H' a → H' D = some (.lst ys) → ys.length = xs.length → (∀ y ∈ ys, y ∈ xs) → Q (.ref D) H'

/-! ### calls by names alone -/
section
variable {X : Cx} {CX : CXT} {k : Nat} {f : Addr} {fd : FuncData} {ps ks : List Str} {sp : Sp} {E : XK} {x : Str} {p pos : Pos} {kws : List Keyword} {tk : TA} {g : List Value → List Value → List Value} {gV : List V → List V → List V}
/-- f(k = v, ..) -/
theorem pe_callN0 (F : FnOk X.prog X.w X.K X.mg X.base CX k f fd ps sp) (hr : Room k X.A) (hg : Gl X x) (hm : X.mg x = some (.ref f)) (hk : PySem.W.keepIn X.K (.ref f) = true) (hb : KBn X.K fd ps 0 ks g gV) (hx : Passes CX X E)
    (hkw : PK X kws tk) (hall : (backToKw pos (keywordEach kws X.env)).all (·.1.isSome) = true := by rfl) (hks : (backToKw pos (keywordEach kws X.env)).filterMap (·.1) = ks := by rfl)
    (hdb : (x == ("__debug__" : Str)) = false := by decide)
    (hpl : ((backTo pos (starEach [] X.env)).any (·.1) || (backToKw pos (keywordEach kws X.env)).any (·.1.isNone)) = false := by rfl) :
    PE X (.Call (.Name x p) [] kws pos) (tCallN 0 ks.length sp gV E tNil tk) := by
  refine ⟨fun pins s σ H Q I h => ?_⟩
  refine wpAny_Call_Name_kw (ld_glob I hg hm ?_ hdb)
  refine PySem.W.callWith_KW0 (h₀ := X.base) I.ok.mod.kin hk hall (thn (hkw.run pos pins s σ H _ I h) fun ws s2 ⟨zs, H2, I2, rz, l1, l2, q2⟩ => ⟨I2.kIn, ?_⟩) hpl
  rw [hks]
  exact run_fnN (us := []) (vs := []) F hr hb hx I2 .nil rz l1 l2 q2
/-- % by a positive number: some rest, in its bounds -/
theorem op_modR : OpR X (binaryOp .Mod) (fun x y H Q => ∃ i j : Int, x = .int i ∧ y = .int j ∧ 0 < j ∧ ∀ r : Int, 0 ≤ r → r < j → Q (.int r) H) := by
  intro pins s σ H x y v u Q I rx ry h
  obtain ⟨i, j, e1, e2, hj, q⟩ := h
  exact op_mod pins s σ H x y v u Q I rx ry ⟨i, j, e1, e2, hj, q _ (Int.emod_nonneg _ (by omega)) (Int.emod_lt_of_pos _ hj)⟩
theorem call_repr_bool : CallR X (.builtin "repr") (fun xs H Q => ∃ b, xs = [.bl b] ∧ Q (.str (if b then "True" else "False")) H) := by
  intro pins s σ H xs us Q I r h
  obtain ⟨b, rfl, q⟩ := h
  obtain ⟨u, rfl, hu⟩ := vals1 r
  cases hu
  exact PySem.P.repr_of_bool ⟨.str _, H, I.tok _, ⟨_, rfl⟩, q⟩
end
end OF
namespace OF
open PySem PySem.Spec PyProof.Rows L2
/-- len of a list or tuple -/
abbrev rLenS (K : PySem.W.Frag) : List V → Hp → VK → Prop := fun xs H Q => ∃ p ys, xs = [.ref p] ∧ (SqL K H p ys ∨ SqT K H p ys) ∧ Q (.int ys.length) H
theorem tYes_if {σ : L2.St} {H : Hp} {A B : Hp → Prop} (h : A H) : tYes σ H (fun b H3 => if b = true then A H3 else B H3) := by
  show (if true = true then A H else B H)
  rw [if_pos rfl]
  exact h
/-- both ways of a test lead to the same rest -/
theorem iteDup {c : Bool} {A B R : Prop} (f : R → c = true → A) (g : R → c = false → B) (r : R) : if c = true then A else B := by
  cases c with
  | true => exact iteT (f r rfl)
  | false => exact iteF (g r rfl)
theorem iteAnd {c d : Bool} {A : Prop} {Q : V → Hp → Prop} {H : Hp} (hA : Q (.bl d) H → A) (h : Q (.bl (c && d)) H) : if c = true then A else Q (.bl false) H := by
  cases c with
  | true => exact iteT (hA h)
  | false => exact iteF h
theorem iteOr {c d : Bool} {A : Prop} {Q : V → Hp → Prop} {H : Hp} (hA : Q (.bl d) H → A) (h : Q (.bl (c || d)) H) : if c = true then Q (.bl true) H else A := by
  cases c with
  | true => exact iteT h
  | false => exact iteF (hA h)
/-- an if whose test is known -/
theorem iteTB {c : Bool} {A B : Prop} (e : c = true) (h : A) : if c = true then A else B := by rw [if_pos e]; exact h
theorem iteFB {c : Bool} {A B : Prop} (e : c = false) (h : B) : if c = true then A else B := by rw [if_neg (by rw [e]; exact Bool.false_ne_true)]; exact h
/-- two values that are the same: no difference -/
theorem neSame {x y : V} (h : x = y) : (!decide (x = y)) = false := by rw [decide_eq_true h]; rfl
theorem eqSame {x y : V} (h : x = y) : decide (x = y) = true := decide_eq_true h
theorem seq_past {K : PySem.W.Frag} {H H1 H2 : Hp} {a p : Addr} {xs : List V} (hp : H p = none) (s : Same H H1) (b : But p H1 H2) (h : SqL K H a xs) : SqL K H2 a xs := by
  rcases h with (h | ⟨o, h⟩) | h
  · exact .inl (.inl (b _ _ (ne_of_none h hp) (s _ _ h)))
  · exact .inl (.inr ⟨o, b _ _ (ne_of_none h hp) (s _ _ h)⟩)
  · exact .inr h
/-- an item at a place within -/
theorem pick {xs : List V} {r : Int} (h0 : 0 ≤ r) (h1 : r < xs.length) : ∃ v, atI xs r = some v ∧ v ∈ xs := by
  obtain ⟨k, rfl⟩ := Int.eq_ofNat_of_zero_le h0
  have hk : k < xs.length := by omega
  exact ⟨xs[k], atI_nat (List.getElem?_eq_getElem hk), List.getElem_mem hk⟩
theorem ixN_in {n : Nat} {r : Int} (h0 : 0 ≤ r) (h1 : r < n) : ixN n r = some r.toNat := by
  unfold ixN
  rw [if_pos h0, if_pos h1]
/-- a value of a kind that is no int, or a truth -/
inductive Odd (H : Hp) : V → Prop
  | non : Odd H .non
  | bl (b : Bool) : Odd H (.bl b)
  | str (z : Str) : Odd H (.str z)
  | lst {a : Addr} {xs : List V} (e : H a = some (.lst xs)) : Odd H (.ref a)
  | tup {a : Addr} {xs : List V} (e : H a = some (.tup xs)) : Odd H (.ref a)
  | dK {a : Addr} {kvs : List (Key × V)} (e : H a = some (.dK kvs)) : Odd H (.ref a)
theorem Odd.same {H H' : Hp} {x : V} (h : Odd H x) (s : Same H H') : Odd H' x := by
  cases h with
  | non => exact .non
  | bl b => exact .bl b
  | str z => exact .str z
  | lst e => exact .lst (s _ _ e)
  | tup e => exact .tup (s _ _ e)
  | dK e => exact .dK (s _ _ e)
theorem Odd.kit {K : PySem.W.Frag} {H : Hp} {x : V} (h : Odd H x) : ∃ (t : Value) (b : Bool), TyX K H x t ∧ PySem.W.kitOne K t (.type "int") = some b ∧ (b = true → PySem.W.kitOne K t (.type "bool") = some true) := by
  cases h with
  | non => exact ⟨_, false, .base .non, kit_ty (by decide +kernel), fun z => nomatch z⟩
  | bl b => exact ⟨_, true, .base (.bl b), kit_ty (by decide +kernel), fun _ => kit_ty (by decide +kernel)⟩
  | str z => exact ⟨_, false, .base (.str z), kit_ty (by decide +kernel), fun z => nomatch z⟩
  | lst e => exact ⟨_, false, .base (.lst e), kit_ty (by decide +kernel), fun z => nomatch z⟩
  | tup e => exact ⟨_, false, .base (.tup e), kit_ty (by decide +kernel), fun z => nomatch z⟩
  | dK e => exact ⟨_, false, .base (.dK e), kit_ty (by decide +kernel), fun z => nomatch z⟩
theorem Odd.but {a : Addr} {H H' : Hp} {x : V} (h : Odd H x) (hx : x ≠ .ref a) (t : But a H H') : Odd H' x := by
  cases h with
  | non => exact .non
  | bl b => exact .bl b
  | str z => exact .str z
  | lst e => exact .lst (t _ _ (fun z => hx (congrArg V.ref z)) e)
  | tup e => exact .tup (t _ _ (fun z => hx (congrArg V.ref z)) e)
  | dK e => exact .dK (t _ _ (fun z => hx (congrArg V.ref z)) e)
theorem Same.store {p : Addr} {H H1 : Hp} {o : HO} (x : Same H H1) (hp : H p = none) : Same H (upd H1 p o) := fun b u h => by
  rw [upd_ne (ne_of_none h hp)]; exact x b u h
theorem q_eq {Q : V → Hp → Prop} {H : Hp} {x y : V} (h : x = y) (q : Q (.bl true) H) : Q (.bl (decide (x = y))) H := by
  rw [decide_eq_true h]; exact q
end OF
namespace K01
open PySem PySem.Spec PyProof.Rows L2 OF
def topS (i : Nat) : Stmt := PySem.Challenge.pw_oddfigures_k01_bases_and_digits.main.body.getD i (.Pass ⟨0, 0, 0, 0⟩)
abbrev sWhole : Stmt := topS 4
abbrev sIsInt : Stmt := topS 5
abbrev sIsBase : Stmt := topS 6
abbrev sIsDigit : Stmt := topS 7
abbrev sCell : Stmt := topS 9
abbrev sBox : Stmt := topS 10
abbrev sTake : Stmt := topS 11
abbrev sMixed : Stmt := topS 12
abbrev sNumber : Stmt := topS 13
abbrev sRight : Stmt := topS 14
abbrev sLaw : Stmt := topS 15


section
variable {P : Program} {w : World} {K : PySem.W.Frag} {mg : Str → Option Value} {base : Heap}
theorem scC : FnScope ["_law_script", "_law_k"] ["_law_script", "_law_k"] (defScope sCell) := ⟨rfl, rfl, rfl, by decide +kernel, rfl, by decide +kernel, by decide +kernel⟩
theorem ok_cell {f : Addr} {fd : FuncData} (F : Fun K "_law_cell" "_law_cell" sCell f fd) (ml : mg "len" = none) : FnOk P w K mg base CX0 2 f fd ["_law_script", "_law_k"] (spCell K) := by
  refine F.ok scC (fun vs H Q E h => ?_) (fun cdv A outer s H vs Q E hr h => ?_)
  · obtain ⟨a, ns, k, rfl, _⟩ := h
    rfl
  · obtain ⟨a, ns, k, rfl, hS, hk, q⟩ := h
    refine ⟨_, pss_cons (ps_if (pt_cmpR op_lt (pv 1) (pe_callB call_len_seq (by rfl) ml PySem.boot_len (pa_cons (pv 0) pa_nil)) (nomark _))
        (pss_one (ps_ret (pe_ix ix_list (pv 0) (pv 1) (fun _ _ => rfl)))) pss_nil)
      (pss_one (ps_ret (pe_op op_add (pe_op op_mul pe_int (pv 1)) pe_int))), ?_⟩
    refine ⟨.int k, rfl, .ref a, rfl, a, ns.map V.int, rfl, .inl hS, k, _, rfl, rfl, _, rfl, ite2 (fun c => ?_) (fun c => ?_)⟩
    · have c1 : k < ns.length := by
        have c2 := of_decide_eq_true c
        rw [List.length_map] at c2
        omega
      have g : (ns.map V.int)[k]? = some (.int ns[k]) := by
        rw [List.getElem?_map, List.getElem?_eq_getElem c1]
        rfl
      exact ⟨.ref a, rfl, .int k, rfl, a, _, k, .int ns[k], rfl, rfl, hS, atI_nat g, q _⟩
    · exact ⟨.int k, rfl, _, _, rfl, rfl, .inl ⟨by decide, by decide⟩, _, _, rfl, rfl, q _⟩
theorem scB : FnScope ["_law_cell_here"] ["_law_cell_here"] (defScope sBox) := ⟨rfl, rfl, rfl, by decide +kernel, rfl, by decide +kernel, by decide +kernel⟩
theorem ok_box {f : Addr} {fd : FuncData} (F : Fun K "_law_box" "_law_box" sBox f fd) (mi : mg "int" = none) (mm : mg "max" = none) : FnOk P w K mg base CX0 2 f fd ["_law_cell_here"] spBox := by
  refine F.ok scB (fun vs H Q E h => ?_) (fun cdv A outer s H vs Q E hr h => ?_)
  · obtain ⟨c, rfl, _⟩ := h
    rfl
  · obtain ⟨c, rfl, q⟩ := h
    refine ⟨_, pss_one (ps_ret (pe_lst (pa_cons (pe_callB (call_max2 rfl) (by rfl) mm PyProof.Rows.boot_max (pa_cons pe_int (pa_cons (pe_op op_sub (pv 0) (pe_op op_pow pe_int pe_int)) pa_nil)))
      (pa_cons (pe_op op_modR (pe_callTy call_int1 (by rfl) mi PyProof.Rows.boot_int (pa_cons (pv 0) pa_nil)) pe_int) (pa_cons pe_int pa_nil))))), ?_⟩
    refine ⟨.int c, rfl, _, _, rfl, rfl, ⟨by decide, by decide, by decide⟩, _, _, rfl, rfl, _, _, rfl, .int c, rfl, .inl ⟨_, rfl, _, _, rfl, rfl, by decide, fun r r0 r1 => ?_⟩⟩
    refine ⟨by show 3 ≤ sizeLine; decide, fun p hp => ?_⟩
    refine q p _ hp (same_new hp) ⟨_, r, 0, upd_same, ?_, r0, by omega, by decide, by decide⟩
    split <;> omega
theorem scT : FnScope ["_law_box_here", "_law_many", "_law_digit", "_law_number_here"] ["_law_box_here", "_law_many"] (defScope sTake) := ⟨rfl, rfl, rfl, by decide +kernel, rfl, by decide +kernel, by decide +kernel⟩
theorem ok_take {f : Addr} {fd : FuncData} (F : Fun K "_law_take" "_law_take" sTake f fd) (mi : mg "int" = none) : FnOk P w K mg base CX0 2 f fd ["_law_box_here", "_law_many"] spTake := by
  refine F.ok scT (fun vs H Q E h => ?_) (fun cdv A outer s H vs Q E hr h => ?_)
  · obtain ⟨a, m, n, rfl, _⟩ := h
    rfl
  · obtain ⟨a, m, n, rfl, ⟨b0, b1, b2, hH, p0, p1, q1, p2, q2⟩, hn, hm, hmb, q⟩ := h
    refine ⟨_, pss_cons (ps_if (pt_cmpR op_gt (pe_ix ix_list (pv 0) pe_int (fun _ _ => rfl)) pe_int (nomark _))
        (pss_cons (ps_set (i := 2) scT.nd rfl (.inl rfl) (pe_op op_modR (pe_callTy call_int1 (by rfl) mi PyProof.Rows.boot_int (pa_cons (pe_ix ix_list (pv 0) pe_int (fun _ _ => rfl)) pa_nil)) (pv 1)))
        (pss_cons (ps_asg (pe_op op_fdivW (pe_ix ix_list (pv 0) pe_int (fun _ _ => rfl)) (pv 1)) (pg_sub (pv 0) pe_int set_list))
        (pss_one (ps_ret (pv 2))))) pss_nil)
      (pss_cons (ps_asg (pe_op op_add (pe_ix ix_list (pv 0) pe_int (fun _ _ => rfl)) pe_int) (pg_sub (pv 0) pe_int set_list))
      (pss_cons (ps_set (i := 3) scT.nd rfl (.inl rfl) (pe_op op_modR (pe_op op_pow (pe_callTy call_int1 (by rfl) mi PyProof.Rows.boot_int
          (pa_cons (pe_op op_add (pe_op op_add (pe_ix ix_list (pv 0) pe_int (fun _ _ => rfl)) (pe_op op_mul pe_int (pe_ix ix_list (pv 0) pe_int (fun _ _ => rfl)))) pe_int) pa_nil)) pe_int) pe_int))
      (pss_cons (ps_set (i := 3) scT.nd rfl (.inl rfl) (pe_op op_modR (pe_op op_pow (pe_callTy call_int1 (by rfl) mi PyProof.Rows.boot_int
          (pa_cons (pe_op op_add (pv 3) (pe_op op_mul pe_int (pe_ix ix_list (pv 0) pe_int (fun _ _ => rfl)))) pa_nil)) pe_int) pe_int))
      (pss_one (ps_ret (pe_op op_modR (pe_callTy call_int1 (by rfl) mi PyProof.Rows.boot_int (pa_cons (pe_op op_fdiv (pv 3) pe_int) pa_nil)) (pv 1))))))), ?_⟩
    refine ⟨.ref a, rfl, a, _, 0, .int b0, rfl, rfl, SqL.of hH, atI_nat (j := 0) rfl, b0, 0, rfl, rfl, _, rfl, ite2 (fun c => ?_) (fun c => ?_)⟩
    · refine ⟨.ref a, rfl, a, _, 0, .int b0, rfl, rfl, SqL.of hH, atI_nat (j := 0) rfl, .inl ⟨b0, rfl, .int m, rfl, b0, m, rfl, rfl, hm, fun r r0 r1 => ?_⟩⟩
      refine ⟨.ref a, rfl, a, _, 0, .int b0, rfl, rfl, SqL.of hH, atI_nat (j := 0) rfl, .int m, rfl, b0, m, rfl, rfl, wide_div hm hmb (by decide) (by decide), ?_⟩
      refine ⟨.ref a, rfl, a, _, 0, 0, rfl, rfl, hH, rfl, ?_⟩
      refine ⟨.int r, rfl, q r _ r0 r1 But.at_ ⟨b0 / m, b1, b2, upd_same, Int.ediv_nonneg p0 (by omega), p1, q1, p2, by omega⟩⟩
    · refine ⟨.ref a, rfl, a, _, 2, .int b2, rfl, rfl, SqL.of hH, atI_nat (j := 2) rfl, b2, 1, rfl, rfl, .ref a, rfl, a, _, 2, 2, rfl, rfl, hH, rfl, ?_⟩
      have hH1 : (upd H a (.lst [.int b0, .int b1, .int (b2 + 1)])) a = some (.lst [.int b0, .int b1, .int (b2 + 1)]) := upd_same
      refine ⟨.ref a, rfl, a, _, 1, .int b1, rfl, rfl, SqL.of hH1, atI_nat (j := 1) rfl, .ref a, rfl, a, _, 2, .int (b2 + 1), rfl, rfl, SqL.of hH1, atI_nat (j := 2) rfl,
        _, _, rfl, rfl, .inl ⟨by decide, by decide⟩, _, _, rfl, rfl, _, _, rfl, rfl, .inl ⟨_, rfl, _, _, rfl, rfl, ⟨by decide, by decide, by omega⟩, _, _, rfl, rfl, by decide, fun r r0 r1 => ?_⟩⟩
      refine ⟨.int r, rfl, .ref a, rfl, a, _, 2, .int (b2 + 1), rfl, rfl, SqL.of hH1, atI_nat (j := 2) rfl,
        _, _, rfl, rfl, .inl ⟨by decide, by decide⟩, _, _, rfl, rfl, .inl ⟨_, rfl, _, _, rfl, rfl, ⟨by decide, by decide, by omega⟩, _, _, rfl, rfl, by decide, fun r' r0' r1' => ?_⟩⟩
      refine ⟨.int r', rfl, _, _, rfl, rfl, ⟨by decide, by decide⟩, .inl ⟨_, rfl, .int m, rfl, _, _, rfl, rfl, hm, fun r2 h0 h1 => ?_⟩⟩
      exact q r2 _ h0 h1 But.at_ ⟨b0, b1, b2 + 1, upd_same, p0, p1, q1, by omega, by omega⟩
theorem scM : FnScope ["_law_box_here", "_law_some", "_law_left", "_law_k"] ["_law_box_here", "_law_some"] (defScope sMixed) := ⟨rfl, rfl, rfl, by decide +kernel, rfl, by decide +kernel, by decide +kernel⟩
theorem ok_mixed {f fT : Addr} {fd fdT : FuncData} (F : Fun K "_law_mixed" "_law_mixed" sMixed f fd) (FT : Fun K "_law_take" "_law_take" sTake fT fdT) (gT : mg "_law_take" = some (.ref fT)) (bT : Binds K fdT ["_law_box_here", "_law_many"] [])
    (mi : mg "int" = none) (ml : mg "len" = none) (mr : mg "range" = none) (ms : mg "list" = none) : FnOk P w K mg base CX0 3 f fd ["_law_box_here", "_law_some"] (spMixed K) := by
  have GT : FnOk P w K mg base CX0 2 fT fdT ["_law_box_here", "_law_many"] spTake := ok_take FT mi
  refine F.ok scM (fun vs H Q E h => ?_) (fun cdv A outer s H vs Q E hr h => ?_)
  · obtain ⟨a, p, xs, n, rfl, _⟩ := h
    rfl
  · obtain ⟨a, p, xs, n, rfl, hB, hS, npa, hlen, hn, q⟩ := h
    refine ⟨_, pss_cons (ps_set (i := 2) scM.nd rfl (.inr rfl) (pe_callTy call_list_of (by rfl) ms PyProof.Rows.boot_list (pa_cons (pv 1) pa_nil)))
      (pss_one (ps_ret (pe_lc (own := [("_law_k", 3)]) (g := gName 3) (tt := tYes) (te := tBM K "list" rPopAt (tVar 2) (tCons (tCall spTake [] E0 (tCons (tVar 0) (tCons (tCB (rLenS K) (tCons (tVar 2) tNil)) tNil))) tNil)) rfl scM.nd (pi_range1 rfl mr (pa_cons (pe_callB call_len_seq (by rfl) ml PySem.boot_len (pa_cons (pv 1) pa_nil)) pa_nil))
        (blkOk_by (own := [("_law_k", 3)]) (N := ["_law_box_here", "_law_some", "_law_left", "_law_k"]) (sc := defScope sMixed) (by decide +kernel)) (fun _ _ _ _ _ => pg_name (i := 3) scM.nd rfl (Or.inl rfl)) (fun _ _ _ _ _ => pts_nil)
        (fun _ _ _ _ _ => by exact (pe_bm PySem.F.plainAttrs_list PySem.F.slot_list_pop PySem.F.type_list_pop mt_popAt (pv 2)
          (pa_cons (pe_call GT hr (by rfl) gT FT.kp bT .nil pass0 (pa_cons (pv 0) (pa_cons (pe_callB call_len_seq (by rfl) ml PySem.boot_len (pa_cons (pv 2) pa_nil)) pa_nil))) pa_nil)))))), ?_⟩
    refine ⟨.ref p, rfl, p, xs, rfl, .inl hS, fun l hl => ?_⟩
    have nla : l ≠ a := hB.ne hl
    have s1 : Same H (upd H l (.lst xs)) := same_new hl
    refine ⟨.ref p, rfl, p, xs, rfl, .inl (s1.seq hS), _, rfl, by omega, by omega, fun D hD => ?_⟩
    have hDl : D ≠ l := fun e => by rw [e, upd_same] at hD; cases hD
    have hD0 : H D = none := s1.free hD
    have nDa : D ≠ a := hB.ne hD0
    refine lc_range (lo := 0) (n := xs.length) (fun i H' => But a H H' ∧ Box (n + i) H' a ∧ (∃ ls, H' l = some (.lst ls) ∧ ls.length + i = xs.length ∧ ∀ y ∈ ls, y ∈ xs) ∧ ∃ acc, H' D = some (.lst acc) ∧ acc.length = i ∧ ∀ y ∈ acc, y ∈ xs) ?_ ?_ ?_
    · refine ⟨(But.new hl).trans (But.new hD), ?_, ⟨xs, ?_, rfl, fun _ h => h⟩, [], upd_same, rfl, fun y h => by cases h⟩
      · exact (((hB.upd nla).upd nDa).mono (by omega))
      · rw [upd_ne hDl.symm]
        exact upd_same
    · rintro i H' hi ⟨t, B, ⟨ls, el, ll, ml2⟩, acc, ea, la, ma⟩
      refine ⟨rfl, tYes_if ?_⟩
      refine ⟨.ref l, rfl, .inl ⟨rfl, _, SqL.of el⟩, .ref a, rfl, .ref l, rfl, l, ls, rfl, .inl (SqL.of el), a, ls.length, n + i, rfl, B, by omega, by omega, by omega, fun r H4 r0 r1 t4 B4 => ?_⟩
      have e4 : H4 l = some (.lst ls) := t4 _ _ nla el
      have hk : r.toNat < ls.length := by omega
      refine ⟨l, ls, r, r.toNat, ls[r.toNat], rfl, rfl, e4, by omega, by omega, (ixN_seq (ixN_in r0 r1)).1, List.getElem?_eq_getElem hk, ?_⟩
      refine ⟨acc, ?_, by rw [la]; exact small1000 (by omega), ?_⟩
      · rw [upd_ne hDl]
        exact t4 _ _ nDa ea
      · refine ⟨((t.trans t4).store hl).store hD0, (((B4.upd nla).upd nDa).mono (by omega)), ⟨ls.eraseIdx r.toNat, ?_, ?_, fun y hy => ml2 y (List.mem_of_mem_eraseIdx hy)⟩, _, upd_same, ?_, fun y hy => ?_⟩
        · rw [upd_ne hDl.symm]
          exact upd_same
        · rw [List.length_eraseIdx, if_pos hk]
          omega
        · rw [List.length_append, la]
          rfl
        · rcases List.mem_append.mp hy with h | h
          · exact ma y h
          · cases List.mem_singleton.mp h
            exact ml2 _ (List.getElem_mem hk)
    · rintro H' ⟨t, B, _, acc, ea, la, ma⟩
      exact q D acc H' hD0 t B ea la ma

/-- a number: of at most some sixty figures -/
def spNumber : Sp := fun vs H Q _ => ∃ (a : Addr) (n : Int), vs = [.ref a] ∧ Box n H a ∧ n ≤ 900000 ∧ ∀ (v : Int) (H' : Hp), v.natAbs < 2 ^ 200 → But a H H' → Box (n + 3) H' a → Q (.int v) H'
theorem scN : FnScope ["_law_box_here", "_law_way", "_law_number_here"] ["_law_box_here"] (defScope sNumber) := ⟨rfl, rfl, rfl, by decide +kernel, rfl, by decide +kernel, by decide +kernel⟩
theorem small_menu : ∀ i ∈ ([9, -9, 10, -10, 6, -6, 7, -7, 1, -1, 0, 2, -2] : List Int), i.natAbs < 2 ^ 200 := by decide
theorem ok_number {f fT : Addr} {fd fdT : FuncData} (F : Fun K "_law_number" "_law_number" sNumber f fd) (FT : Fun K "_law_take" "_law_take" sTake fT fdT) (gT : mg "_law_take" = some (.ref fT)) (bT : Binds K fdT ["_law_box_here", "_law_many"] [])
    (mi : mg "int" = none) : FnOk P w K mg base CX0 3 f fd ["_law_box_here"] spNumber := by
  have GT : FnOk P w K mg base CX0 2 fT fdT ["_law_box_here", "_law_many"] spTake := ok_take FT mi
  refine F.ok scN (fun vs H Q E h => ?_) (fun cdv A outer s H vs Q E hr h => ?_)
  · obtain ⟨a, n, rfl, _⟩ := h
    rfl
  · obtain ⟨a, n, rfl, hB, hn, q⟩ := h
    refine ⟨_, pss_cons (ps_set (i := 1) scN.nd rfl (.inl rfl) (pe_call GT hr (by rfl) gT FT.kp bT .nil pass0 (pa_cons (pv 0) (pa_cons pe_int pa_nil))))
      (pss_cons (ps_if (pt_cmpR op_eq (pv 1) pe_int (nomark _)) (pss_one (ps_ret (pe_op op_sub (pe_call GT hr (by rfl) gT FT.kp bT .nil pass0 (pa_cons (pv 0) (pa_cons pe_int pa_nil))) pe_int))) pss_nil)
      (pss_cons (ps_if (pt_cmpR op_eq (pv 1) pe_int (nomark _)) (pss_one (ps_ret (pe_ix ix_list
          (pe_lst (pa_cons pe_int (pa_cons (pe_un un_neg pe_int) (pa_cons pe_int (pa_cons (pe_un un_neg pe_int) (pa_cons pe_int (pa_cons (pe_un un_neg pe_int) (pa_cons pe_int (pa_cons (pe_un un_neg pe_int) (pa_cons pe_int (pa_cons (pe_un un_neg pe_int)
            (pa_cons pe_int (pa_cons pe_int (pa_cons (pe_un un_neg pe_int) pa_nil))))))))))))))
          (pe_call GT hr (by rfl) gT FT.kp bT .nil pass0 (pa_cons (pv 0) (pa_cons pe_int pa_nil))) (fun _ _ => rfl)))) pss_nil)
      (pss_cons (ps_set (i := 2) scN.nd rfl (.inl rfl) (pe_call GT hr (by rfl) gT FT.kp bT .nil pass0 (pa_cons (pv 0) (pa_cons (pe_ix ix_list (pe_lst (pa_cons (pe_op op_pow pe_int pe_int) (pa_cons (pe_op op_pow pe_int pe_int) pa_nil))) (pe_op op_sub (pv 1) pe_int) (fun _ _ => rfl)) pa_nil))))
      (pss_one (ps_ret (pe_ix ix_list (pe_lst (pa_cons (pv 2) (pa_cons (pe_un un_neg (pv 2)) pa_nil))) (pe_call GT hr (by rfl) gT FT.kp bT .nil pass0 (pa_cons (pv 0) (pa_cons pe_int pa_nil))) (fun _ _ => rfl))))))), ?_⟩
    refine ⟨.ref a, rfl, a, 4, n, rfl, hB, by omega, by decide, by decide, fun r H1 r0 r1 t1 B1 => ?_⟩
    refine ⟨.int r, rfl, rfl, _, rfl, ite2 (fun c => ?_) (fun c => ?_)⟩
    · exact ⟨.ref a, rfl, a, 25, n + 1, rfl, B1, by omega, by decide, by decide, fun r2 H2 h0 h1 t2 B2 => ⟨_, _, rfl, rfl, q _ H2 (Nat.lt_of_le_of_lt (by omega : (r2 - 12).natAbs ≤ 25) (by decide)) (t1.trans t2) (B2.mono (by omega))⟩⟩
    · have hr0 : r ≠ 0 := fun e => c (decide_eq_true (congrArg V.int e))
      refine ⟨.int r, rfl, rfl, _, rfl, ite2 (fun c1 => ?_) (fun c1 => ?_)⟩
      · refine ⟨_, rfl, _, rfl, _, rfl, _, rfl, _, rfl, _, rfl, (by show 13 ≤ sizeLine; decide), fun l hl => ?_⟩
        have nla := B1.ne hl
        refine ⟨.ref a, rfl, a, 13, n + 1, rfl, B1.new hl, by omega, by decide, by decide, fun r2 H2 h0 h1 t2 B2 => ?_⟩
        have el := t2 _ _ nla upd_same
        obtain ⟨v, hv, mv⟩ := pick (xs := ([9, -9, 10, -10, 6, -6, 7, -7, 1, -1, 0, 2, -2] : List Int).map V.int) h0 h1
        obtain ⟨i, mi2, rfl⟩ := List.mem_map.mp mv
        exact ⟨l, _, r2, .int i, rfl, rfl, SqL.of el, hv, q i H2 (small_menu i mi2) (t1.trans ((But.new hl).trans t2)) (B2.mono (by omega))⟩
      · have hr1 : r ≠ 1 := fun e => c1 (decide_eq_true (congrArg V.int e))
        refine ⟨.ref a, rfl, _, _, rfl, rfl, ⟨by decide, by decide, by decide⟩, _, _, rfl, rfl, ⟨by decide, by decide, by decide⟩, (by show 2 ≤ sizeLine; decide), fun l hl => ?_⟩
        have nla := B1.ne hl
        have hm : ∃ m : Int, atI [V.int ((10 : Int) ^ (3 : Int).toNat), V.int ((10 : Int) ^ (60 : Int).toNat)] (r - 2) = some (V.int m) ∧ 0 < m ∧ m.natAbs < 2 ^ 200 := by
          have h : r = 2 ∨ r = 3 := by omega
          rcases h with rfl | rfl
          · exact ⟨_, atI_nat (j := 0) rfl, by decide, by decide⟩
          · exact ⟨_, atI_nat (j := 1) rfl, by decide, by decide⟩
        obtain ⟨m, em, m0, m1⟩ := hm
        refine ⟨.int r, rfl, _, _, rfl, rfl, l, _, r - 2, .int m, rfl, rfl, SqL.of upd_same, em, ?_⟩
        refine ⟨a, m, n + 1, rfl, B1.new hl, by omega, m0, Nat.lt_trans m1 (by decide), fun r2 H2 h0 h1 t2 B2 => ?_⟩
        refine ⟨.int r2, rfl, .int r2, rfl, _, rfl, (by show 2 ≤ sizeLine; decide), fun l2 hl2 => ?_⟩
        have nl2 := B2.ne hl2
        refine ⟨.ref a, rfl, a, 2, n + 1 + 1, rfl, B2.new hl2, by omega, by decide, by decide, fun r3 H3 k0 k1 t3 B3 => ?_⟩
        have el := t3 _ _ nl2 upd_same
        have b2 : r2.natAbs < 2 ^ 200 := Nat.lt_trans (by omega : r2.natAbs < m.natAbs) m1
        have hv : ∃ v : Int, atI [V.int r2, V.int (-r2)] r3 = some (V.int v) ∧ v.natAbs < 2 ^ 200 := by
          have h : r3 = 0 ∨ r3 = 1 := by omega
          rcases h with rfl | rfl
          · exact ⟨_, atI_nat (j := 0) rfl, b2⟩
          · exact ⟨_, atI_nat (j := 1) rfl, by rw [Int.natAbs_neg]; exact b2⟩
        obtain ⟨v, ev, bv⟩ := hv
        exact ⟨l2, _, r3, .int v, rfl, rfl, SqL.of el, ev, q v H3 bv (t1.trans ((But.new hl).trans (t2.trans ((But.new hl2).trans t3)))) (B3.mono (by omega))⟩

/-- is_integer -/
def spIsInt : Sp := fun vs H Q _ => ∃ (x : V) (lo hi : Int), vs = [x, .int lo, .int hi] ∧ ((∃ n : Int, x = .int n ∧ Q (.bl (decide (lo ≤ n) && decide (n ≤ hi))) H) ∨ (Odd H x ∧ Q (.bl false) H))
def isBase (n : Int) : Bool := (decide (2 ≤ n) && decide (n ≤ 6)) || (decide (-6 ≤ n) && decide (n ≤ -2))
def spIsBase : Sp := fun vs H Q _ => ∃ (x : V), vs = [x] ∧ ((∃ n : Int, x = .int n ∧ Q (.bl (isBase n)) H) ∨ (Odd H x ∧ Q (.bl false) H))
def spIsDigit : Sp := fun vs H Q _ => ∃ (x : V), vs = [x] ∧ ((∃ n : Int, x = .int n ∧ Q (.bl (decide (-9 ≤ n) && decide (n ≤ 9))) H) ∨ (Odd H x ∧ Q (.bl false) H))
theorem scI : FnScope ["value", "low", "high"] ["value", "low", "high"] (defScope sIsInt) := ⟨rfl, rfl, rfl, by decide +kernel, rfl, by decide +kernel, by decide +kernel⟩

/-- is_whole -/
def spWhole : Sp := fun vs H Q _ => ∃ x : V, vs = [x] ∧ ((∃ n : Int, x = .int n ∧ Q (.bl true) H) ∨ (Odd H x ∧ Q (.bl false) H))
theorem scWh : FnScope ["value"] ["value"] (defScope sWhole) := ⟨rfl, rfl, rfl, by decide +kernel, rfl, by decide +kernel, by decide +kernel⟩
theorem ok_whole {f : Addr} {fd : FuncData} (F : Fun K "is_whole" "is_whole" sWhole f fd) (ms : mg "isinstance" = none) (mi : mg "int" = none) (mb : mg "bool" = none) : FnOk P w K mg base CX0 1 f fd ["value"] spWhole := by
  refine F.ok scWh (fun vs H Q E h => ?_) (fun cdv A outer s H vs Q E hr h => ?_)
  · obtain ⟨x, rfl, _⟩ := h
    rfl
  · obtain ⟨x, rfl, h⟩ := h
    refine ⟨_, pss_one (ps_ret (pe_and (pe_callB call_isi (by rfl) ms PyProof.Rows.boot_isinstance (pa_cons (pv 0) (pa_cons (pe_bltn (v := .ty "int") (by rfl) mi PyProof.Rows.boot_int rfl) pa_nil)))
      (pe_one (pe_not (pe_callB call_isi (by rfl) ms PyProof.Rows.boot_isinstance (pa_cons (pv 0) (pa_cons (pe_bltn (v := .ty "bool") (by rfl) mb PyProof.Rows.boot_bool rfl) pa_nil))))))), ?_⟩
    rcases h with ⟨n, rfl, q⟩ | ⟨o, q⟩
    · refine ⟨.int n, rfl, .int n, .ty "int", .type "int", .type "int", true, rfl, .ty _, .base (.int n), kit_ty (by decide +kernel), true, rfl, iteT ?_⟩
      exact ⟨.int n, rfl, .int n, .ty "bool", .type "int", .type "bool", false, rfl, .ty _, .base (.int n), kit_ty (by decide +kernel), false, rfl, q⟩
    · obtain ⟨t, b, ty, k1, k2⟩ := o.kit (K := K)
      refine ⟨x, rfl, x, .ty "int", t, .type "int", b, rfl, .ty _, ty, k1, b, rfl, ?_⟩
      cases b with
      | false => exact iteF q
      | true => exact iteT ⟨x, rfl, x, .ty "bool", t, .type "bool", true, rfl, .ty _, ty, k2 rfl, true, rfl, q⟩
theorem ok_isint0 {f fW : Addr} {fd fdW : FuncData} (F : Fun K "is_integer" "is_integer" sIsInt f fd) (GW : FnOk P w K mg base CX0 1 fW fdW ["value"] spWhole) (gW : mg "is_whole" = some (.ref fW)) (kW : PySem.W.keepIn K (.ref fW) = true) (bW : Binds K fdW ["value"] []) : FnOk P w K mg base CX0 2 f fd ["value", "low", "high"] spIsInt := by
  refine F.ok scI (fun vs H Q E h => ?_) (fun cdv A outer s H vs Q E hr h => ?_)
  · obtain ⟨x, lo, hi, rfl, _⟩ := h
    rfl
  · obtain ⟨x, lo, hi, rfl, h⟩ := h
    refine ⟨_, pss_one (ps_ret (pe_and (pe_call GW hr (by rfl) gW kW bW .nil pass0 (pa_cons (pv 0) pa_nil)) (pe_one (pe_chain op_le op_le (pv 1) (pv 0) (pv 2))))), ?_⟩
    rcases h with ⟨n, rfl, q⟩ | ⟨o, q⟩
    · exact ⟨.int n, rfl, .int n, rfl, .inl ⟨n, rfl, true, rfl, iteT ⟨.int lo, rfl, .int n, rfl, lo, n, rfl, rfl, _, rfl, iteAnd (fun z => ⟨.int hi, rfl, n, hi, rfl, rfl, z⟩) q⟩⟩⟩
    · exact ⟨x, rfl, x, rfl, .inr ⟨o, false, rfl, iteF q⟩⟩

/-- no bool of its own, and is_whole stands -/
structure BoolW (K : PySem.W.Frag) (mg : Str → Option Value) : Prop where
  b : mg "bool" = none
  ex : ∃ (f : Addr) (fd : FuncData), Fun K "is_whole" "is_whole" sWhole f fd ∧ mg "is_whole" = some (.ref f) ∧ Binds K fd ["value"] []
theorem ok_isint {f : Addr} {fd : FuncData} (F : Fun K "is_integer" "is_integer" sIsInt f fd) (ms : mg "isinstance" = none) (mi : mg "int" = none) (mb : BoolW K mg) : FnOk P w K mg base CX0 2 f fd ["value", "low", "high"] spIsInt := by
  obtain ⟨fW, fdW, FW, gW, bW⟩ := mb.ex
  have GW : FnOk P w K mg base CX0 1 fW fdW ["value"] spWhole := ok_whole FW ms mi mb.b
  exact ok_isint0 F GW gW FW.kp bW
theorem scIB : FnScope ["value"] ["value"] (defScope sIsBase) := ⟨rfl, rfl, rfl, by decide +kernel, rfl, by decide +kernel, by decide +kernel⟩
theorem ok_isbase {f fI : Addr} {fd fdI : FuncData} {t : Tok} (F : Fun K "is_base" "is_base" sIsBase f fd) (FI : Fun K "is_integer" "is_integer" sIsInt fI fdI) (gI : mg "is_integer" = some (.ref fI)) (bI : Binds K fdI ["value", "low", "high"] [])
    (gG : mg "GREATEST_BASE" = some (.int 6 t)) (ms : mg "isinstance" = none) (mi : mg "int" = none) (mb : BoolW K mg) : FnOk P w K mg base CX0 3 f fd ["value"] spIsBase := by
  have GI : FnOk P w K mg base CX0 2 fI fdI ["value", "low", "high"] spIsInt := ok_isint FI ms mi mb
  refine F.ok scIB (fun vs H Q E h => ?_) (fun cdv A outer s H vs Q E hr h => ?_)
  · obtain ⟨x, rfl, _⟩ := h
    rfl
  · obtain ⟨x, rfl, h⟩ := h
    refine ⟨_, pss_one (ps_ret (pe_or (pe_call GI hr (by rfl) gI FI.kp bI .nil pass0 (pa_cons (pv 0) (pa_cons pe_int (pa_cons (pe_glob (v := .int 6) rfl gG ⟨_, rfl⟩) pa_nil))))
      (pe_one (pe_call GI hr (by rfl) gI FI.kp bI .nil pass0 (pa_cons (pv 0) (pa_cons (pe_un un_neg (pe_glob (v := .int 6) rfl gG ⟨_, rfl⟩)) (pa_cons (pe_un un_neg pe_int) pa_nil))))))), ?_⟩
    rcases h with ⟨n, rfl, q⟩ | ⟨o, q⟩
    · exact ⟨.int n, rfl, _, 2, 6, rfl, .inl ⟨n, rfl, _, rfl, iteOr (fun z => ⟨.int n, rfl, 6, rfl, 2, rfl, _, -6, -2, rfl, .inl ⟨n, rfl, z⟩⟩) q⟩⟩
    · exact ⟨x, rfl, _, 2, 6, rfl, .inr ⟨o, _, rfl, iteF ⟨x, rfl, 6, rfl, 2, rfl, _, -6, -2, rfl, .inr ⟨o, q⟩⟩⟩⟩
theorem scID : FnScope ["value"] ["value"] (defScope sIsDigit) := ⟨rfl, rfl, rfl, by decide +kernel, rfl, by decide +kernel, by decide +kernel⟩
theorem ok_isdigit {f fI : Addr} {fd fdI : FuncData} {t : Tok} (F : Fun K "is_digit" "is_digit" sIsDigit f fd) (FI : Fun K "is_integer" "is_integer" sIsInt fI fdI) (gI : mg "is_integer" = some (.ref fI)) (bI : Binds K fdI ["value", "low", "high"] [])
    (gG : mg "GREATEST_DIGIT" = some (.int 9 t)) (ms : mg "isinstance" = none) (mi : mg "int" = none) (mb : BoolW K mg) : FnOk P w K mg base CX0 3 f fd ["value"] spIsDigit := by
  have GI : FnOk P w K mg base CX0 2 fI fdI ["value", "low", "high"] spIsInt := ok_isint FI ms mi mb
  refine F.ok scID (fun vs H Q E h => ?_) (fun cdv A outer s H vs Q E hr h => ?_)
  · obtain ⟨x, rfl, _⟩ := h
    rfl
  · obtain ⟨x, rfl, h⟩ := h
    refine ⟨_, pss_one (ps_ret (pe_call GI hr (by rfl) gI FI.kp bI .nil pass0 (pa_cons (pv 0) (pa_cons (pe_un un_neg (pe_glob (v := .int 9) rfl gG ⟨_, rfl⟩)) (pa_cons (pe_glob (v := .int 9) rfl gG ⟨_, rfl⟩) pa_nil))))), ?_⟩
    rcases h with ⟨n, rfl, q⟩ | ⟨o, q⟩
    · exact ⟨.int n, rfl, 9, rfl, _, -9, 9, rfl, .inl ⟨n, rfl, q⟩⟩
    · exact ⟨x, rfl, 9, rfl, _, -9, 9, rfl, .inr ⟨o, q⟩⟩
end
end K01
namespace K01
open PySem PySem.Spec PyProof.Rows L2 OF
section
variable {P : Program} {w : World} {K : PySem.W.Frag} {mg : Str → Option Value} {base : Heap}

theorem scR : FnScope ["_law_box_here", "_law_number_here", "_law_floor", "_law_roof", "_law_odd"] ["_law_box_here"] (defScope sRight) := ⟨rfl, rfl, rfl, by decide +kernel, rfl, by decide +kernel, by decide +kernel⟩
def spRight : Sp := fun vs H Q _ => ∃ a : Addr, vs = [.ref a] ∧ Box 0 H a ∧ ∀ H', But a H H' → Q (.bl true) H'
/-- high, value, low: by these names, in this order -/
def gHVL {α : Type} (_ : List α) (ws : List α) : List α := match ws with
  | [h, v, l] => [v, l, h]
  | _ => []
theorem kbI {f : Addr} {fd : FuncData} (F : Fun K "is_integer" "is_integer" sIsInt f fd) : KBn K fd ["value", "low", "high"] 0 ["high", "value", "low"] gHVL gHVL := by
  obtain ⟨oc, od, kV, doc, pm, an, cdv, ct, osl, rfl, lk, hcd⟩ := F.ex
  refine ⟨fun s us ws X l1 l2 => ?_, fun {vs us zs ws} r1 r2 => ?_⟩
  · match us, ws, l1, l2 with
    | [], [h, v, l], _, _ => exact .of_eq rfl
  · cases r2 with
    | nil => exact .nil
    | cons a t => cases t with
      | nil => exact .nil
      | cons b t => cases t with
        | nil => exact .nil
        | cons c t => cases t with
          | nil => exact .cons b (.cons c (.cons a .nil))
          | cons d t => exact .nil
def g1 {α : Type} (_ : List α) (ws : List α) : List α := ws
theorem kbB {f : Addr} {fd : FuncData} (F : Fun K "is_base" "is_base" sIsBase f fd) : KBn K fd ["value"] 0 ["value"] g1 g1 := by
  obtain ⟨oc, od, kV, doc, pm, an, cdv, ct, osl, rfl, lk, hcd⟩ := F.ex
  refine ⟨fun s us ws X l1 l2 => ?_, fun {vs us zs ws} r1 r2 => r2⟩
  match us, ws, l1, l2 with
  | [], [v], _, _ => exact .of_eq rfl
theorem kbD {f : Addr} {fd : FuncData} (F : Fun K "is_digit" "is_digit" sIsDigit f fd) : KBn K fd ["value"] 0 ["value"] g1 g1 := by
  obtain ⟨oc, od, kV, doc, pm, an, cdv, ct, osl, rfl, lk, hcd⟩ := F.ex
  refine ⟨fun s us ws X l1 l2 => ?_, fun {vs us zs ws} r1 r2 => r2⟩
  match us, ws, l1, l2 with
  | [], [v], _, _ => exact .of_eq rfl
theorem base_in (n : Int) : inV (.int n) (([-6, -5, -4, -3, -2, 2, 3, 4, 5, 6] : List Int).map V.int) = isBase n := by
  have e : inV (.int n) (([-6, -5, -4, -3, -2, 2, 3, 4, 5, 6] : List Int).map V.int) = ([-6, -5, -4, -3, -2, 2, 3, 4, 5, 6] : List Int).any (fun i => eqV (.int i) (.int n)) := by
    unfold inV
    rw [List.any_map]
    rfl
  rw [e]
  rw [Bool.eq_iff_iff]
  simp only [isBase, List.any_cons, List.any_nil, Bool.or_eq_true, Bool.and_eq_true, decide_eq_true_eq, eqV, beq_iff_eq, Bool.or_false, Bool.false_eq_true, or_false]
  omega
theorem digit_abs (n : Int) : decide ((if n < 0 then -n else n) ≤ 9) = (decide (-9 ≤ n) && decide (n ≤ 9)) := by
  rw [Bool.eq_iff_iff]
  simp only [Bool.and_eq_true, decide_eq_true_eq]
  split <;> omega
theorem log_small {n : Int} (h : n.natAbs < 2 ^ 200) : n.natAbs.log2 < 1920 := Nat.lt_of_lt_of_le (PySem.Flt.log2_lt_of (by decide) h) (by decide)
theorem ok_right {f fT fM fN fI fB fD : Addr} {fd fdT fdM fdN fdI fdB fdD : FuncData} {t6 t9 : Tok} (F : Fun K "_law_right" "_law_right" sRight f fd)
    (FT : Fun K "_law_take" "_law_take" sTake fT fdT) (gT : mg "_law_take" = some (.ref fT)) (bT : Binds K fdT ["_law_box_here", "_law_many"] [])
    (FM : Fun K "_law_mixed" "_law_mixed" sMixed fM fdM) (gM : mg "_law_mixed" = some (.ref fM)) (bM : Binds K fdM ["_law_box_here", "_law_some"] [])
    (FN : Fun K "_law_number" "_law_number" sNumber fN fdN) (gN : mg "_law_number" = some (.ref fN)) (bN : Binds K fdN ["_law_box_here"] [])
    (FI : Fun K "is_integer" "is_integer" sIsInt fI fdI) (gI : mg "is_integer" = some (.ref fI)) (bI : Binds K fdI ["value", "low", "high"] [])
    (FB : Fun K "is_base" "is_base" sIsBase fB fdB) (gB : mg "is_base" = some (.ref fB)) (bB : Binds K fdB ["value"] [])
    (FD : Fun K "is_digit" "is_digit" sIsDigit fD fdD) (gD : mg "is_digit" = some (.ref fD)) (bD : Binds K fdD ["value"] [])
    (g6 : mg "GREATEST_BASE" = some (.int 6 t6)) (g9 : mg "GREATEST_DIGIT" = some (.int 9 t9))
    (mi : mg "int" = none) (ml : mg "len" = none) (mr : mg "range" = none) (ms : mg "list" = none) (mis : mg "isinstance" = none) (mb : BoolW K mg) (mrp : mg "repr" = none) (mab : mg "abs" = none) (mst : mg "str" = none) :
    FnOk P w K mg base CX0 4 f fd ["_law_box_here"] spRight := by
  have GM : FnOk P w K mg base CX0 3 fM fdM ["_law_box_here", "_law_some"] (spMixed K) := ok_mixed FM FT gT bT mi ml mr ms
  have GN : FnOk P w K mg base CX0 3 fN fdN ["_law_box_here"] spNumber := ok_number FN FT gT bT mi
  have GI : FnOk P w K mg base CX0 2 fI fdI ["value", "low", "high"] spIsInt := ok_isint FI mis mi mb
  have GB : FnOk P w K mg base CX0 3 fB fdB ["value"] spIsBase := ok_isbase FB FI gI bI g6 mis mi mb
  have GD : FnOk P w K mg base CX0 3 fD fdD ["value"] spIsDigit := ok_isdigit FD FI gI bI g9 mis mi mb
  refine F.ok scR (fun vs H Q E h => ?_) (fun cdv A outer s H vs Q E hr h => ?_)
  · obtain ⟨a, rfl, _⟩ := h
    rfl
  · obtain ⟨a, rfl, hB, q⟩ := h
    have hr1 : Room 2 _ := hr.mono (by decide)
    apply Exists.intro
    apply And.intro
    · apply pss_cons
      · exact ps_set (i := 1) scR.nd rfl (.inl rfl) (pe_call GN hr (by rfl) gN FN.kp bN .nil pass0 (pa_cons (pv 0) pa_nil))
      apply pss_cons
      · exact ps_set (i := 2) scR.nd rfl (.inl rfl) (pe_call GN hr (by rfl) gN FN.kp bN .nil pass0 (pa_cons (pv 0) pa_nil))
      apply pss_cons
      · exact ps_set (i := 3) scR.nd rfl (.inl rfl) (pe_call GN hr (by rfl) gN FN.kp bN .nil pass0 (pa_cons (pv 0) pa_nil))
      apply pss_cons
      · exact ps_if (pt_cmpR op_ne (pe_callB call_repr_bool (by rfl) mrp PyProof.Rows.boot_repr (pa_cons (pe_call GI hr1 (by rfl) gI FI.kp bI .nil pass0 (pa_cons (pv 1) (pa_cons (pv 2) (pa_cons (pv 3) pa_nil)))) pa_nil))
          (pe_callB call_repr_bool (by rfl) mrp PyProof.Rows.boot_repr (pa_cons (pe_and (pe_cmpR op_le (pv 2) (pv 1) (nomark _)) (pe_one (pe_cmpR op_le (pv 1) (pv 3) (nomark _)))) pa_nil)) (nomark _)) (pss_one (ps_ret pe_bl)) pss_nil
      apply pss_cons
      · exact ps_if (pt_cmpR op_ne (pe_callB call_repr_bool (by rfl) mrp PyProof.Rows.boot_repr (pa_cons (pe_callN0 GI hr1 (by rfl) gI FI.kp (kbI FI) pass0 (pk_cons (pv 1) (pk_cons (pv 1) (pk_cons (pv 1) pk_nil)))) pa_nil)) pe_str (nomark _)) (pss_one (ps_ret pe_bl)) pss_nil
      apply pss_cons
      · exact ps_if (pt_cmpR op_ne (pe_callB call_repr_bool (by rfl) mrp PyProof.Rows.boot_repr (pa_cons (pe_callN0 GB hr (by rfl) gB FB.kp (kbB FB) pass0 (pk_cons (pv 1) pk_nil)) pa_nil))
          (pe_callB call_repr_bool (by rfl) mrp PyProof.Rows.boot_repr (pa_cons (pe_cmpR op_in_seq (pv 1)
            (pe_lst (pa_cons (pe_un un_neg pe_int) (pa_cons (pe_un un_neg pe_int) (pa_cons (pe_un un_neg pe_int) (pa_cons (pe_un un_neg pe_int) (pa_cons (pe_un un_neg pe_int) (pa_cons pe_int (pa_cons pe_int (pa_cons pe_int (pa_cons pe_int (pa_cons pe_int pa_nil))))))))))) rfl) pa_nil)) (nomark _)) (pss_one (ps_ret pe_bl)) pss_nil
      apply pss_cons
      · exact ps_if (pt_cmpR op_ne (pe_callB call_repr_bool (by rfl) mrp PyProof.Rows.boot_repr (pa_cons (pe_call GD hr (by rfl) gD FD.kp bD .nil pass0 (pa_cons (pv 1) pa_nil)) pa_nil))
          (pe_callB call_repr_bool (by rfl) mrp PyProof.Rows.boot_repr (pa_cons (pe_cmpR op_le (pe_callB call_abs (by rfl) mab PyProof.Rows.boot_abs (pa_cons (pv 1) pa_nil)) pe_int (nomark _)) pa_nil)) (nomark _)) (pss_one (ps_ret pe_bl)) pss_nil
      apply pss_cons
      · exact ps_for PassesOwn.never rfl (pi_list (pe_call GM hr (by rfl) gM FM.kp bM .nil pass0 (pa_cons (pv 0) (pa_cons
          (pe_lst (pa_cons pe_bl (pa_cons pe_bl (pa_cons pe_non (pa_cons pe_str (pa_cons pe_str (pa_cons (pe_callTy call_str_int (by rfl) mst PyProof.Rows.boot_str (pa_cons (pv 1) pa_nil))
            (pa_cons (pe_lst (pa_cons (pv 1) pa_nil)) (pa_cons (pe_tup (pa_cons (pv 1) pa_nil)) (pa_cons (pe_disp (pps_cons (pv 1) pe_int pps_nil) (by rfl) (by rfl) (fun z => by cases z) (by decide)) (pa_cons pe_dnewK pa_nil))))))))))) pa_nil))))
          (pg_name (i := 4) scR.nd rfl (.inl rfl))
          (pss_one (ps_if (pt_cmpR (op_neD hr.units) (pe_lst (pa_cons (pe_callB call_repr_bool (by rfl) mrp PyProof.Rows.boot_repr (pa_cons (pe_call GI hr1 (by rfl) gI FI.kp bI .nil pass0 (pa_cons (pv 4) (pa_cons (pe_un un_neg pe_int) (pa_cons pe_int pa_nil)))) pa_nil))
              (pa_cons (pe_callB call_repr_bool (by rfl) mrp PyProof.Rows.boot_repr (pa_cons (pe_call GB hr (by rfl) gB FB.kp bB .nil pass0 (pa_cons (pv 4) pa_nil)) pa_nil))
              (pa_cons (pe_callB call_repr_bool (by rfl) mrp PyProof.Rows.boot_repr (pa_cons (pe_callN0 GD hr (by rfl) gD FD.kp (kbD FD) pass0 (pk_cons (pv 4) pk_nil)) pa_nil)) pa_nil))))
            (pe_op op_rep (pe_lst (pa_cons pe_str pa_nil)) pe_int) (nomark _)) (pss_one (ps_ret pe_bl)) pss_nil))
      apply pss_one
      · exact ps_ret (pe_cmpR op_eq (pe_callB call_repr_bool (by rfl) mrp PyProof.Rows.boot_repr (pa_cons (pe_call GD hr (by rfl) gD FD.kp bD .nil pass0 (pa_cons (pv 1) pa_nil)) pa_nil))
          (pe_callB call_repr_bool (by rfl) mrp PyProof.Rows.boot_repr (pa_cons (pe_cmpR op_le (pe_callB call_abs (by rfl) mab PyProof.Rows.boot_abs (pa_cons (pv 1) pa_nil)) pe_int (nomark _)) pa_nil)) (nomark _))
    -- three numbers
    refine ⟨.ref a, rfl, a, 0, rfl, hB, by decide, fun n H1 bn t1 B1 => ?_⟩
    refine ⟨.ref a, rfl, a, _, rfl, B1, by decide, fun lo H2 _ t2 B2 => ?_⟩
    refine ⟨.ref a, rfl, a, _, rfl, B2, by decide, fun hi H3 _ t3 B3 => ?_⟩
    have t := t1.trans (t2.trans t3)
    -- is_integer by position
    refine ⟨.int n, rfl, .int lo, rfl, .int hi, rfl, _, lo, hi, rfl, .inl ⟨n, rfl, _, rfl, ?_⟩⟩
    refine ⟨.int lo, rfl, .int n, rfl, lo, n, rfl, rfl, _, rfl, iteDup (fun h c => ⟨.int n, rfl, .int hi, rfl, n, hi, rfl, rfl, _, rfl, rfl, _, rfl, iteFB (neSame (by rw [c]; rfl)) h⟩)
      (fun h c => ⟨_, rfl, rfl, _, rfl, iteFB (neSame (by rw [c]; rfl)) h⟩) ?_⟩
    -- by names
    refine ⟨.int n, rfl, .int n, rfl, .int n, rfl, rfl, rfl, .int n, n, n, rfl, Or.inl ⟨n, rfl, _, rfl, rfl, _, rfl, iteFB ?_ ?_⟩⟩
    · have e : (decide (n ≤ n) && decide (n ≤ n)) = true := by simp
      rw [e]
      exact neSame rfl
    -- is_base
    refine ⟨.int n, rfl, rfl, rfl, _, rfl, .inl ⟨n, rfl, _, rfl, ?_⟩⟩
    refine ⟨.int n, rfl, _, rfl, _, rfl, _, rfl, _, rfl, _, rfl, (by show 10 ≤ sizeLine; decide), fun l hl => ?_⟩
    refine ⟨l, _, rfl, .inl (SqL.of upd_same), rfl, rfl, _, rfl, rfl, _, rfl, iteFB (neSame ?_) ?_⟩
    · exact congrArg (fun b : Bool => V.str (if b then "True" else "False")) (base_in n).symm
    -- is_digit
    refine ⟨.int n, rfl, _, rfl, .inl ⟨n, rfl, _, rfl, ?_⟩⟩
    refine ⟨.int n, rfl, n, rfl, _, _, rfl, rfl, _, rfl, rfl, _, rfl, iteFB (neSame ?_) ?_⟩
    · exact congrArg (fun b : Bool => V.str (if b then "True" else "False")) (digit_abs n).symm
    -- values of other kinds
    have B3l := B3.new (o := .lst (([-6, -5, -4, -3, -2, 2, 3, 4, 5, 6] : List Int).map V.int)) hl
    refine ⟨.ref a, rfl, .int n, rfl, n, rfl, log_small bn, .int n, rfl, (by show 1 ≤ sizeLine; decide), fun p1 h1 => ?_⟩
    refine ⟨.int n, rfl, (by show 1 ≤ sizeLine; decide), fun p2 h2 => ?_⟩
    refine fun p3 h3 => ⟨.int n, rfl, upd_same, [(Sum.inl n, .int 2)], rfl, (by show 1 ≤ 15; decide), ?_⟩
    refine fun p4 h4 => ⟨(by show 10 ≤ sizeLine; decide), fun L hL => ?_⟩
    have c0 := same_new (o := .lst (([-6, -5, -4, -3, -2, 2, 3, 4, 5, 6] : List Int).map V.int)) hl
    have c1 := same_new (o := .lst [.int n]) h1
    have c2 := same_new (o := .tup [.int n]) h2
    have c3 := Same.store (o := .dK (mergeK [] [(Sum.inl n, .int 2)])) (same_new (o := .dK []) h3) h3
    have c4 := same_new (o := .dK []) h4
    have c5 := same_new (o := .lst [.bl true, .bl false, .non, .str "", .str "2", .str (toString n), .ref p1, .ref p2, .ref p3, .ref p4]) hL
    have n1 : p1 ≠ a := B3l.ne h1
    have n2 : p2 ≠ a := (B3l.same c1).ne h2
    have n3 : p3 ≠ a := ((B3l.same c1).same c2).ne h3
    have n4 : p4 ≠ a := (((B3l.same c1).same c2).same c3).ne h4
    have nL : L ≠ a := ((((B3l.same c1).same c2).same c3).same c4).ne hL
    refine ⟨a, L, _, _, rfl, (((((B3l.same c1).same c2).same c3).same c4).same c5), SqL.of upd_same, nL, (by show 10 ≤ 1000; decide), by decide, fun D ys Hc hD tD BD eD ly my => ?_⟩
    have oys : ∀ y ∈ ys, Odd Hc y := fun y hy => by
      have hx := my y hy
      simp only [List.mem_cons, List.not_mem_nil, or_false] at hx
      rcases hx with rfl | rfl | rfl | rfl | rfl | rfl | rfl | rfl | rfl | rfl
      · exact .bl _
      · exact .bl _
      · exact .non
      · exact .str _
      · exact .str _
      · exact .str _
      · exact Odd.but (.lst (c5 _ _ (c4 _ _ (c3 _ _ (c2 _ _ upd_same))))) (fun z => n1 (V.ref.inj z)) tD
      · exact Odd.but (.tup (c5 _ _ (c4 _ _ (c3 _ _ upd_same)))) (fun z => n2 (V.ref.inj z)) tD
      · exact Odd.but (.dK (c5 _ _ (c4 _ _ upd_same))) (fun z => n3 (V.ref.inj z)) tD
      · exact Odd.but (.dK (c5 _ _ upd_same)) (fun z => n4 (V.ref.inj z)) tD
    have tc : But a H Hc := t.trans ((But.of_same (Same.trans c0 (Same.trans c1 (Same.trans c2 (Same.trans c3 (Same.trans c4 c5)))))).trans tD)
    refine ⟨D, rfl, ⟨ys, SqL.of eD⟩, for_list (K := K) (a := D) (xs := ys) (fun i σ H' => ∃ v, σ = [some (.ref a), some (.int n), some (.int lo), some (.int hi), v] ∧ Same Hc H') ⟨none, rfl, Same.refl _⟩ (fun i σ H' _ ⟨_, _, s5⟩ => s5.seq (SqL.of eD)) ?_ ?_⟩
    · rintro i x σ H' hi2 ⟨v, rfl, s5⟩
      have o : Odd H' x := (oys x (List.mem_of_getElem? hi2)).same s5
      refine ⟨x, rfl, _, rfl, x, -5, 5, rfl, .inr ⟨o, _, rfl, x, rfl, x, rfl, .inr ⟨o, _, rfl, x, rfl, rfl, rfl, x, rfl, .inr ⟨o, _, rfl, ?_⟩⟩⟩⟩
      refine ⟨(by show 3 ≤ sizeLine; decide), fun q1 k1 => ⟨(by show 1 ≤ sizeLine; decide), fun q2 k2 => ?_⟩⟩
      refine ⟨q2, 3, _, rfl, rfl, upd_same, by decide, by decide, (by show 1 * 3 ≤ sizeLine; decide), fun q3 k3 => ?_⟩
      have d1 := same_new (o := .lst [.str "False", .str "False", .str "False"]) k1
      have d2 := same_new (o := .lst [.str "False"]) k2
      have d3 := same_new (o := .lst (List.replicate (3 : Int).toNat [V.str "False"]).flatten) k3
      refine ⟨.list [.str "False", .str "False", .str "False"], .list [.str "False", .str "False", .str "False"], Dp.lst (SqL.of (d3 _ _ (d2 _ _ upd_same))) (.cons (.str _) (.cons (.str _) (.cons (.str _) .nil))),
        Dp.lst (SqL.of upd_same) (.cons (.str _) (.cons (.str _) (.cons (.str _) .nil))), by decide +kernel, by decide +kernel, _, rfl, iteFB (by decide +kernel) ?_⟩
      exact ⟨some x, rfl, s5.trans (d1.trans (d2.trans d3))⟩
    · rintro σ H' ⟨v, rfl, s5⟩
      refine ⟨.int n, rfl, _, rfl, .inl ⟨n, rfl, _, rfl, ?_⟩⟩
      refine ⟨.int n, rfl, n, rfl, _, _, rfl, rfl, _, rfl, rfl, q_eq ?_ (q _ (tc.trans (But.of_same s5)))⟩
      exact congrArg (fun b : Bool => V.str (if b then "True" else "False")) (digit_abs n).symm

def spLaw (K : PySem.W.Frag) : Sp := fun vs H Q _ => ∃ (a : Addr) (ns : List Int), vs = [.ref a] ∧ SqL K H a (ns.map V.int) ∧ ns.length ≤ 63 ∧ ∀ H', Q (.bl true) H'
theorem scL : FnScope ["_law_script", "_law_k"] ["_law_script"] (defScope sLaw) := ⟨rfl, rfl, rfl, by decide +kernel, rfl, by decide +kernel, by decide +kernel⟩
theorem ok_law {f fC fX fR : Addr} {fd fdC fdX fdR : FuncData} {t6 t9 : Tok} (F : Fun K "law" "law" sLaw f fd)
    (FC : Fun K "_law_cell" "_law_cell" sCell fC fdC) (gC : mg "_law_cell" = some (.ref fC)) (bC : Binds K fdC ["_law_script", "_law_k"] [])
    (FX : Fun K "_law_box" "_law_box" sBox fX fdX) (gX : mg "_law_box" = some (.ref fX)) (bX : Binds K fdX ["_law_cell_here"] [])
    (GR : FnOk P w K mg base CX0 4 fR fdR ["_law_box_here"] spRight) (gR : mg "_law_right" = some (.ref fR)) (kR : PySem.W.keepIn K (.ref fR) = true) (bR : Binds K fdR ["_law_box_here"] [])
    (g6 : mg "MOST_DIGITS" = some (.int 6 t6)) (g9 : mg "GREATEST_DIGIT" = some (.int 9 t9))
    (mi : mg "int" = none) (ml : mg "len" = none) (mr : mg "range" = none) (mx : mg "max" = none) (mn : mg "min" = none) : FnOk P w K mg base CX0 5 f fd ["_law_script"] (spLaw K) := by
  have GC : FnOk P w K mg base CX0 2 fC fdC ["_law_script", "_law_k"] (spCell K) := ok_cell FC ml
  have GX : FnOk P w K mg base CX0 2 fX fdX ["_law_cell_here"] spBox := ok_box FX mi mx
  refine F.ok scL (fun vs H Q E h => ?_) (fun cdv A outer s H vs Q E hr h => ?_)
  · obtain ⟨a, ns, rfl, _⟩ := h
    rfl
  · obtain ⟨a, ns, rfl, hS, hlen, q⟩ := h
    have hr1 : Room 2 _ := hr.mono (by decide)
    apply Exists.intro
    apply And.intro
    · apply pss_cons
      · exact ps_for PassesOwn.never rfl (pi_range1 rfl mr (pa_cons (pe_callB (call_max2 rfl) (by rfl) mx PyProof.Rows.boot_max (pa_cons pe_int (pa_cons
            (pe_callB (call_min2 rfl) (by rfl) mn PyProof.Rows.boot_min (pa_cons pe_int (pa_cons (pe_callB call_len_seq (by rfl) ml PySem.boot_len (pa_cons (pv 0) pa_nil)) pa_nil))) pa_nil))) pa_nil))
          (pg_name (i := 1) scL.nd rfl (.inl rfl))
          (pss_one (ps_if (pt_not (pt_val (pe_call GR hr (by rfl) gR kR bR .nil pass0 (pa_cons (pe_call GX hr1 (by rfl) gX FX.kp bX .nil pass0 (pa_cons (pe_call GC hr1 (by rfl) gC FC.kp bC .nil pass0 (pa_cons (pv 0) (pa_cons (pv 1) pa_nil))) pa_nil)) pa_nil))))
            (pss_one (ps_ret pe_bl)) pss_nil))
      apply pss_one
      · exact ps_ret (pe_and (pe_cmpR op_eq (pe_glob (v := .int 6) rfl g6 ⟨_, rfl⟩) pe_int (nomark _)) (pe_one (pe_cmpR op_eq (pe_glob (v := .int 9) rfl g9 ⟨_, rfl⟩) pe_int (nomark _))))
    refine ⟨.ref a, rfl, a, _, rfl, .inl hS, _, _, rfl, _, _, rfl, _, rfl, ?_, ?_, for_range (lo := 0) (n := _) (fun i σ H' => ∃ v, σ = [some (.ref a), v] ∧ SqL K H' a (ns.map V.int)) ⟨none, rfl, hS⟩ ?_ ?_⟩
    · rw [List.length_map]
      split <;> split <;> omega
    · rw [List.length_map]
      split <;> split <;> omega
    · rintro i σ H' hi ⟨v, rfl, hS'⟩
      have hi' : i < 1000 := by
        rw [List.length_map] at hi
        split at hi <;> split at hi <;> omega
      refine ⟨.ref a, rfl, .int (0 + i), rfl, a, ns, i, ?_, hS', hi', fun c => ?_⟩
      · rw [Int.zero_add]
        rfl
      refine ⟨c, rfl, fun p H1 hp s1 B1 => ?_⟩
      refine ⟨p, rfl, B1, fun H2 t2 => ⟨true, rfl, iteF ?_⟩⟩
      exact ⟨some (.int (0 + i)), rfl, seq_past hp s1 t2 hS'⟩
    · rintro σ H' ⟨v, rfl, hS'⟩
      exact ⟨rfl, _, rfl, iteTB rfl ⟨rfl, q H'⟩⟩

theorem all_mk {l : PySem.W.OpenLaw} {w : World} {K : PySem.W.Frag} {h : Heap} {mg : Str → Option Value} {fW : Addr} {odW anW : Option Addr} {slW : Array (Option Value)} {ocW kVW dcW pmW cdW ctW : Value} {fa f1 f2 f3 f4 f5 f6 f7 f8 f9 f10 : Addr} (X : K.In h) (G : h.Ns mainGlobals mg) (hfa : mg "law" = some (.ref fa))
    {od1 an1 od2 an2 od3 an3 od4 an4 od5 an5 od6 an6 od7 an7 od8 an8 od9 an9 od10 an10 : Option Addr} {sl1 sl2 sl3 sl4 sl5 sl6 sl7 sl8 sl9 sl10 : Array (Option Value)} {oc1 kV1 dc1 pm1 cd1 ct1 oc2 kV2 dc2 pm2 cd2 ct2 oc3 kV3 dc3 pm3 cd3 ct3 oc4 kV4 dc4 pm4 cd4 ct4 oc5 kV5 dc5 pm5 cd5 ct5 oc6 kV6 dc6 pm6 cd6 ct6 oc7 kV7 dc7 pm7 cd7 ct7 oc8 kV8 dc8 pm8 cd8 ct8 oc9 kV9 dc9 pm9 cd9 ct9 oc10 kV10 dc10 pm10 cd10 ct10 : Value} {tk1 tk2 tk3 : Tok}
    (a1 : PySem.W.nsIn K mainGlobals "is_integer" = some (some (.ref f1))) (l1 : K.lookup f1 = some ⟨oc1, od1, .func (PySem.W.fnOf "is_integer" "is_integer" (defArgs sIsInt) (defBody sIsInt) (defScope sIsInt) .none kV1 dc1 pm1 an1 cd1 ct1), sl1⟩) (c1 : PySem.W.codeIn K cd1 "is_integer" = true) (k1 : PySem.W.keepIn K (.ref f1) = true)
    (a2 : PySem.W.nsIn K mainGlobals "is_base" = some (some (.ref f2))) (l2 : K.lookup f2 = some ⟨oc2, od2, .func (PySem.W.fnOf "is_base" "is_base" (defArgs sIsBase) (defBody sIsBase) (defScope sIsBase) .none kV2 dc2 pm2 an2 cd2 ct2), sl2⟩) (c2 : PySem.W.codeIn K cd2 "is_base" = true) (k2 : PySem.W.keepIn K (.ref f2) = true)
    (a3 : PySem.W.nsIn K mainGlobals "is_digit" = some (some (.ref f3))) (l3 : K.lookup f3 = some ⟨oc3, od3, .func (PySem.W.fnOf "is_digit" "is_digit" (defArgs sIsDigit) (defBody sIsDigit) (defScope sIsDigit) .none kV3 dc3 pm3 an3 cd3 ct3), sl3⟩) (c3 : PySem.W.codeIn K cd3 "is_digit" = true) (k3 : PySem.W.keepIn K (.ref f3) = true)
    (a4 : PySem.W.nsIn K mainGlobals "_law_cell" = some (some (.ref f4))) (l4 : K.lookup f4 = some ⟨oc4, od4, .func (PySem.W.fnOf "_law_cell" "_law_cell" (defArgs sCell) (defBody sCell) (defScope sCell) .none kV4 dc4 pm4 an4 cd4 ct4), sl4⟩) (c4 : PySem.W.codeIn K cd4 "_law_cell" = true) (k4 : PySem.W.keepIn K (.ref f4) = true)
    (a5 : PySem.W.nsIn K mainGlobals "_law_box" = some (some (.ref f5))) (l5 : K.lookup f5 = some ⟨oc5, od5, .func (PySem.W.fnOf "_law_box" "_law_box" (defArgs sBox) (defBody sBox) (defScope sBox) .none kV5 dc5 pm5 an5 cd5 ct5), sl5⟩) (c5 : PySem.W.codeIn K cd5 "_law_box" = true) (k5 : PySem.W.keepIn K (.ref f5) = true)
    (a6 : PySem.W.nsIn K mainGlobals "_law_take" = some (some (.ref f6))) (l6 : K.lookup f6 = some ⟨oc6, od6, .func (PySem.W.fnOf "_law_take" "_law_take" (defArgs sTake) (defBody sTake) (defScope sTake) .none kV6 dc6 pm6 an6 cd6 ct6), sl6⟩) (c6 : PySem.W.codeIn K cd6 "_law_take" = true) (k6 : PySem.W.keepIn K (.ref f6) = true)
    (a7 : PySem.W.nsIn K mainGlobals "_law_mixed" = some (some (.ref f7))) (l7 : K.lookup f7 = some ⟨oc7, od7, .func (PySem.W.fnOf "_law_mixed" "_law_mixed" (defArgs sMixed) (defBody sMixed) (defScope sMixed) .none kV7 dc7 pm7 an7 cd7 ct7), sl7⟩) (c7 : PySem.W.codeIn K cd7 "_law_mixed" = true) (k7 : PySem.W.keepIn K (.ref f7) = true)
    (a8 : PySem.W.nsIn K mainGlobals "_law_number" = some (some (.ref f8))) (l8 : K.lookup f8 = some ⟨oc8, od8, .func (PySem.W.fnOf "_law_number" "_law_number" (defArgs sNumber) (defBody sNumber) (defScope sNumber) .none kV8 dc8 pm8 an8 cd8 ct8), sl8⟩) (c8 : PySem.W.codeIn K cd8 "_law_number" = true) (k8 : PySem.W.keepIn K (.ref f8) = true)
    (a9 : PySem.W.nsIn K mainGlobals "_law_right" = some (some (.ref f9))) (l9 : K.lookup f9 = some ⟨oc9, od9, .func (PySem.W.fnOf "_law_right" "_law_right" (defArgs sRight) (defBody sRight) (defScope sRight) .none kV9 dc9 pm9 an9 cd9 ct9), sl9⟩) (c9 : PySem.W.codeIn K cd9 "_law_right" = true) (k9 : PySem.W.keepIn K (.ref f9) = true)
    (a10 : PySem.W.nsIn K mainGlobals "law" = some (some (.ref f10))) (l10 : K.lookup f10 = some ⟨oc10, od10, .func (PySem.W.fnOf "law" "law" (defArgs sLaw) (defBody sLaw) (defScope sLaw) .none kV10 dc10 pm10 an10 cd10 ct10), sl10⟩) (c10 : PySem.W.codeIn K cd10 "law" = true) (k10 : PySem.W.keepIn K (.ref f10) = true)
    (z1 : PySem.W.nsIn K mainGlobals "len" = some none)
    (z2 : PySem.W.nsIn K mainGlobals "range" = some none)
    (z3 : PySem.W.nsIn K mainGlobals "int" = some none)
    (z4 : PySem.W.nsIn K mainGlobals "bool" = some none)
    (z5 : PySem.W.nsIn K mainGlobals "isinstance" = some none)
    (z6 : PySem.W.nsIn K mainGlobals "max" = some none)
    (z7 : PySem.W.nsIn K mainGlobals "min" = some none)
    (z8 : PySem.W.nsIn K mainGlobals "list" = some none)
    (z9 : PySem.W.nsIn K mainGlobals "repr" = some none)
    (z10 : PySem.W.nsIn K mainGlobals "abs" = some none)
    (z11 : PySem.W.nsIn K mainGlobals "str" = some none)
    (v1 : PySem.W.nsIn K mainGlobals "MOST_DIGITS" = some (some (.int 6 tk1)))
    (v2 : PySem.W.nsIn K mainGlobals "GREATEST_DIGIT" = some (some (.int 9 tk2)))
    (v3 : PySem.W.nsIn K mainGlobals "GREATEST_BASE" = some (some (.int 6 tk3)))
    (aW : PySem.W.nsIn K mainGlobals "is_whole" = some (some (.ref fW))) (lW : K.lookup fW = some ⟨ocW, odW, .func (PySem.W.fnOf "is_whole" "is_whole" (defArgs sWhole) (defBody sWhole) (defScope sWhole) .none kVW dcW pmW anW cdW ctW), slW⟩) (cW : PySem.W.codeIn K cdW "is_whole" = true) (kW : PySem.W.keepIn K (.ref fW) = true)
    : ∃ fd : FuncData, (∀ (s : Shared) (v : Value), BindsTo s fd ⟨[v], []⟩ [("_law_script", v)]) ∧ ∀ base : Heap, K.In base → base.Ns mainGlobals mg → FnOk l.prog w K mg base CX0 5 fa fd ["_law_script"] (spLaw K) := by
  have e := hfa.symm.trans (PySem.W.mg_of X G a10)
  cases e
  have FW := fun_mk (st := sWhole) lW cW kW
  have gW := PySem.W.mg_of X G aW
  have bW := FW.binds (ps := ["value"]) fun _ _ _ _ _ _ us hl => match us, hl with | [_], _ => rfl
  have F1 := fun_mk (st := sIsInt) l1 c1 k1
  have F2 := fun_mk (st := sIsBase) l2 c2 k2
  have F3 := fun_mk (st := sIsDigit) l3 c3 k3
  have F4 := fun_mk (st := sCell) l4 c4 k4
  have F5 := fun_mk (st := sBox) l5 c5 k5
  have F6 := fun_mk (st := sTake) l6 c6 k6
  have F7 := fun_mk (st := sMixed) l7 c7 k7
  have F8 := fun_mk (st := sNumber) l8 c8 k8
  have F9 := fun_mk (st := sRight) l9 c9 k9
  have F10 := fun_mk (st := sLaw) l10 c10 k10
  have b1 := F1.binds (ps := ["value", "low", "high"]) fun _ _ _ _ _ _ us hl => match us, hl with | [_, _, _], _ => rfl
  have b2 := F2.binds (ps := ["value"]) fun _ _ _ _ _ _ us hl => match us, hl with | [_], _ => rfl
  have b3 := F3.binds (ps := ["value"]) fun _ _ _ _ _ _ us hl => match us, hl with | [_], _ => rfl
  have b4 := F4.binds (ps := ["_law_script", "_law_k"]) fun _ _ _ _ _ _ us hl => match us, hl with | [_, _], _ => rfl
  have b5 := F5.binds (ps := ["_law_cell_here"]) fun _ _ _ _ _ _ us hl => match us, hl with | [_], _ => rfl
  have b6 := F6.binds (ps := ["_law_box_here", "_law_many"]) fun _ _ _ _ _ _ us hl => match us, hl with | [_, _], _ => rfl
  have b7 := F7.binds (ps := ["_law_box_here", "_law_some"]) fun _ _ _ _ _ _ us hl => match us, hl with | [_, _], _ => rfl
  have b8 := F8.binds (ps := ["_law_box_here"]) fun _ _ _ _ _ _ us hl => match us, hl with | [_], _ => rfl
  have b9 := F9.binds (ps := ["_law_box_here"]) fun _ _ _ _ _ _ us hl => match us, hl with | [_], _ => rfl
  have y1 := PySem.W.mg_none_of X G z1
  have y2 := PySem.W.mg_none_of X G z2
  have y3 := PySem.W.mg_none_of X G z3
  have y4 : BoolW K mg := ⟨PySem.W.mg_none_of X G z4, _, _, FW, gW, bW⟩
  have y5 := PySem.W.mg_none_of X G z5
  have y6 := PySem.W.mg_none_of X G z6
  have y7 := PySem.W.mg_none_of X G z7
  have y8 := PySem.W.mg_none_of X G z8
  have y9 := PySem.W.mg_none_of X G z9
  have y10 := PySem.W.mg_none_of X G z10
  have y11 := PySem.W.mg_none_of X G z11
  have u1 := PySem.W.mg_of X G v1
  have u2 := PySem.W.mg_of X G v2
  have u3 := PySem.W.mg_of X G v3
  have g1 := PySem.W.mg_of X G a1
  have g2 := PySem.W.mg_of X G a2
  have g3 := PySem.W.mg_of X G a3
  have g4 := PySem.W.mg_of X G a4
  have g5 := PySem.W.mg_of X G a5
  have g6 := PySem.W.mg_of X G a6
  have g7 := PySem.W.mg_of X G a7
  have g8 := PySem.W.mg_of X G a8
  have g9 := PySem.W.mg_of X G a9
  refine ⟨PySem.W.fnOf "law" "law" (defArgs sLaw) (defBody sLaw) (defScope sLaw) .none kV10 dc10 pm10 an10 cd10 ct10, fun s v => .of_eq rfl, fun base _ _ => ?_⟩
  have R : FnOk l.prog w K mg base CX0 4 _ _ ["_law_box_here"] spRight := ok_right F9 F6 g6 b6 F7 g7 b7 F8 g8 b8 F1 g1 b1 F2 g2 b2 F3 g3 b3 u3 u2 y3 y1 y2 y8 y5 y4 y9 y10 y11
  exact ok_law F10 F4 g4 b4 F5 g5 b5 R g9 F9.kp b9 u1 u2 y3 y1 y2 y6 y7
end
end K01
open PySem PySem.W PyProof.Rows
set_option maxRecDepth 100000 in
set_option maxHeartbeats 0 in
theorem PySem.Challenge.cw_oddfigures_k01_bases_and_digits_holds : PySem.Challenge.rw_oddfigures_k01_bases_and_digits.Holds := by
  w_on; o_law; k_head; (case hw => w_witness2)
  k_fill
  refine L2.walk_of (l := PySem.Challenge.rw_oddfigures_k01_bases_and_digits) (n := 63) (k := 5) (x := "_law_script") (CX := fun _ => L2.CX0) (sp := fun w => K01.spLaw _) rfl (by decide) rfl ⟨rfl, by decide, by decide⟩ (fun w h Y => PySem.W.kIn_of Y) ?F (fun _ _ a ns hl _ hS => ⟨a, ns, rfl, hS, hl, fun _ => rfl⟩) (fun _ _ _ _ _ h => h)
  case F =>
    intro w mg fa h KX G hmg
    refine' K01.all_mk KX G hmg ?a1 ?l1 ?c1 ?k1 ?a2 ?l2 ?c2 ?k2 ?a3 ?l3 ?c3 ?k3 ?a4 ?l4 ?c4 ?k4 ?a5 ?l5 ?c5 ?k5 ?a6 ?l6 ?c6 ?k6 ?a7 ?l7 ?c7 ?k7 ?a8 ?l8 ?c8 ?k8 ?a9 ?l9 ?c9 ?k9 ?a10 ?l10 ?c10 ?k10 ?z1 ?z2 ?z3 ?z4 ?z5 ?z6 ?z7 ?z8 ?z9 ?z10 ?z11 ?v1 ?v2 ?v3 ?aW ?lW ?cW ?kW
    (case a1 => k_is)
    (case l1 => k_is)
    (case c1 => k_is)
    (case k1 => k_is)
    (case a2 => k_is)
    (case l2 => k_is)
    (case c2 => k_is)
    (case k2 => k_is)
    (case a3 => k_is)
    (case l3 => k_is)
    (case c3 => k_is)
    (case k3 => k_is)
    (case a4 => k_is)
    (case l4 => k_is)
    (case c4 => k_is)
    (case k4 => k_is)
    (case a5 => k_is)
    (case l5 => k_is)
    (case c5 => k_is)
    (case k5 => k_is)
    (case a6 => k_is)
    (case l6 => k_is)
    (case c6 => k_is)
    (case k6 => k_is)
    (case a7 => k_is)
    (case l7 => k_is)
    (case c7 => k_is)
    (case k7 => k_is)
    (case a8 => k_is)
    (case l8 => k_is)
    (case c8 => k_is)
    (case k8 => k_is)
    (case a9 => k_is)
    (case l9 => k_is)
    (case c9 => k_is)
    (case k9 => k_is)
    (case a10 => k_is)
    (case l10 => k_is)
    (case c10 => k_is)
    (case k10 => k_is)
    (case z1 => k_is)
    (case z2 => k_is)
    (case z3 => k_is)
    (case z4 => k_is)
    (case z5 => k_is)
    (case z6 => k_is)
    (case z7 => k_is)
    (case z8 => k_is)
    (case z9 => k_is)
    (case z10 => k_is)
    (case z11 => k_is)
    (case v1 => k_is)
    (case v2 => k_is)
    (case v3 => k_is)
    (case aW => k_is)
    (case lW => k_is)
    (case cW => k_is)
    (case kW => k_is)
