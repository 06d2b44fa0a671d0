import PyProof.Rows.All
import Wide.All
import OpenK.AllK
import Wide.FinOn
import HandS.ForMost
import HandS.Wide
import HandS.Codes
import HandS.Conv
import HandS.TupAny
import HandS.Style
import HandS.IsInst
import HandS.FStr
import HandS.DictComp
import HandS.NoneIn
import KE.GoesEnumKw
import HandS.Zip
import PySem.Challenge.RW_farplaces_k01_trees_read_and_shown
set_option Elab.async false
set_option linter.all false
set_option maxRecDepth 100000
set_option maxHeartbeats 8000000
namespace Far
open PySem PySem.Spec PyProof.Rows L2
open C8 (pss_cut tCut)
def topS (i : Nat) : Stmt := PySem.Challenge.pw_farplaces_k01_trees_read_and_shown.main.body.getD i (.Pass ⟨0, 0, 0, 0⟩)

theorem hd_of {A : Around} {k : Nat} (hr : Room k A) (h : 1 ≤ k) : A.units + 64 < cLine := by
  have := hr.units
  omega

/-- a def of the module that may be called by its name -/
structure Cal (P : Program) (w : World) (K : PySem.W.Frag) (mg : Str → Option Value) (base : Heap) (k : Nat) (x : Str) (sp : Sp) : Prop where
  ex : ∃ (f : Addr) (fd : FuncData) (ps : List Str), FnOk P w K mg base CX0 k f fd ps sp ∧ mg x = some (.ref f) ∧ PySem.W.keepIn K (.ref f) = true ∧ Binds K fd ps []
theorem pe_c {X : Cx} {k j : Nat} {x : Str} {sp : Sp} {p pos : Pos} {e : Expr} {es : List Expr} {t : TA} (c : Cal X.prog X.w X.K X.mg X.base k x sp) (hr : Room j X.A) (hk : k ≤ j) (hg : Gl X x) (ha : PA X (e :: es) t)
    (hdb : (x == ("__debug__" : Str)) = false := by decide) (he : starEach (e :: es) X.env = (false, eval e X.env) :: starEach es X.env := by rfl) (hpl : (backTo pos (starEach es X.env)).any (·.1) = false := by rfl) :
    PE X (.Call (.Name x p) (e :: es) [] pos) (tCall sp [] E0 t) := by
  obtain ⟨f, fd, ps, F, hm, kp, b⟩ := c.ex
  exact pe_call F (hr.mono hk) hg hm kp b .nil pass0 ha hdb he hpl

theorem bt_len : bootBuiltins ("len" : Str) = some (.builtin "len") := by decide +kernel
theorem bt_sum : bootBuiltins ("sum" : Str) = some (.builtin "sum") := by decide +kernel
theorem bt_max : bootBuiltins ("max" : Str) = some (.builtin "max") := by decide +kernel
theorem bt_all : bootBuiltins ("all" : Str) = some (.builtin "all") := by decide +kernel
theorem bt_isinstance : bootBuiltins ("isinstance" : Str) = some (.builtin "isinstance") := by decide +kernel
theorem bt_int : bootBuiltins ("int" : Str) = some (.type "int") := by decide +kernel
theorem bt_str : bootBuiltins ("str" : Str) = some (.type "str") := by decide +kernel
theorem bt_tuple : bootBuiltins ("tuple" : Str) = some (.type "tuple") := by decide +kernel
theorem bt_bool : bootBuiltins ("bool" : Str) = some (.type "bool") := by decide +kernel
theorem bt_list : bootBuiltins ("list" : Str) = some (.type "list") := by decide +kernel
/-- rules with the written part named, for use within a comprehension -/
def rLenV (K : PySem.W.Frag) : List V → Hp → VK → Prop := fun xs H Q => ∃ x n, xs = [x] ∧ LenV K x H n ∧ Q (.int n) H
theorem lenK {X : Cx} {K : PySem.W.Frag} (e : X.K = K := by rfl) : CallR X (.builtin "len") (rLenV K) := by
  subst e
  exact call_len
theorem ixl {X : Cx} {K : PySem.W.Frag} (e : X.K = K := by rfl) : IxR X (rIxL K) := by
  subst e
  exact ix_list
theorem ixt {X : Cx} {K : PySem.W.Frag} (e : X.K = K := by rfl) : IxR X (rIxT K) := by
  subst e
  exact ix_tup
/-- what the module's names hold that are built-ins, and its constants -/
structure Txt (mg : Str → Option Value) : Prop where
  len : mg "len" = none
  sum : mg "sum" = none
  range : mg "range" = none
  int : mg "int" = none
  max : mg "max" = none
  list : mg "list" = none
  tuple : mg "tuple" = none

/-- all that stood stands as it was, but for the one object -/
def SmX (d : Addr) (H H' : Hp) : Prop := ∀ b o, b ≠ d → H b = some o → H' b = some o
theorem SmX.refl {d : Addr} (H : Hp) : SmX d H H := fun _ _ _ h => h
theorem SmX.trans {d : Addr} {H H1 H2 : Hp} (a : SmX d H H1) (b : SmX d H1 H2) : SmX d H H2 := fun x o n h => b x o n (a x o n h)
theorem SmX.new {d : Addr} {H H1 : Hp} {p : Addr} {o : HO} (a : SmX d H H1) (n : H1 p = none) : SmX d H (upd H1 p o) := fun x u nx h => by
  rw [upd_ne (ne_of_none (a x u nx h) n)]
  exact a x u nx h
theorem SmX.mut {d : Addr} {H H1 : Hp} {o : HO} (a : SmX d H H1) : SmX d H (upd H1 d o) := fun x u nx h => by
  rw [upd_ne nx]
  exact a x u nx h
/-- an object that the first heap does not know may change -/
theorem SmX.put {d : Addr} {H H1 : Hp} {p : Addr} {o : HO} (a : SmX d H H1) (n : H p = none) : SmX d H (upd H1 p o) := fun x u nx h => by
  rw [upd_ne (ne_of_none h n)]
  exact a x u nx h

/-- the deck at d, its cells at c: at most n were mixed -/
def DeckAt (H : Hp) (d c : Addr) (n : Nat) : Prop := ∃ (cs : List Int) (i l m z : Int), H d = some (.lst [.ref c, .int i, .int l, .int m, .int z]) ∧ H c = some (.lst (cs.map V.int)) ∧ c ≠ d ∧ cs.length ≤ 63 ∧ 0 ≤ i ∧ i ≤ 63 ∧ 0 ≤ l ∧ 0 ≤ m ∧ m ≤ n
theorem DeckAt.new {H : Hp} {d c p : Addr} {o : HO} {n : Nat} (h : DeckAt H d c n) (np : H p = none) : DeckAt (upd H p o) d c n := by
  obtain ⟨cs, i, l, m, z, h1, h2, h3⟩ := h
  exact ⟨cs, i, l, m, z, by rw [upd_ne (ne_of_none h1 np)]; exact h1, by rw [upd_ne (ne_of_none h2 np)]; exact h2, h3⟩
theorem DeckAt.put {H : Hp} {d c p : Addr} {o : HO} {n : Nat} (h : DeckAt H d c n) (nd : p ≠ d) (nc : p ≠ c) : DeckAt (upd H p o) d c n := by
  obtain ⟨cs, i, l, m, z, h1, h2, h3⟩ := h
  exact ⟨cs, i, l, m, z, by rw [upd_ne nd.symm]; exact h1, by rw [upd_ne nc.symm]; exact h2, h3⟩
theorem DeckAt.nd {H : Hp} {d c p : Addr} {n : Nat} (h : DeckAt H d c n) (np : H p = none) : p ≠ d := fun e => by
  obtain ⟨_, _, _, _, _, h1, _⟩ := h
  rw [e, h1] at np
  cases np
theorem DeckAt.nc {H : Hp} {d c p : Addr} {n : Nat} (h : DeckAt H d c n) (np : H p = none) : p ≠ c := fun e => by
  obtain ⟨_, _, _, _, _, _, h2, _⟩ := h
  rw [e, h2] at np
  cases np
theorem DeckAt.mono {H : Hp} {d c : Addr} {n m : Nat} (h : DeckAt H d c n) (le : n ≤ m) : DeckAt H d c m := by
  obtain ⟨cs, i, l, m', z, h1, h2, h3, h4, h5, h6, h7, h8, h9⟩ := h
  exact ⟨cs, i, l, m', z, h1, h2, h3, h4, h5, h6, h7, h8, by omega⟩
theorem SmX.free {d : Addr} {H H' : Hp} {p : Addr} (a : SmX d H H') (n : H' p = none) (nd : p ≠ d) : H p = none := by
  cases q : H p with
  | none => rfl
  | some o =>
    rw [a p o nd q] at n
    cases n

abbrev s_law_mix : Stmt := topS 15
abbrev N_law_mix : List Str := ["cell", "k", "number"]
theorem sc_law_mix : FnScope N_law_mix ["cell", "k"] (defScope s_law_mix) := ⟨rfl, rfl, rfl, by decide +kernel, rfl, by decide +kernel, by decide +kernel⟩
section
variable {P : Program} {w : World} {K : PySem.W.Frag} {mg : Str → Option Value} {base : Heap}
def spMix : Sp := fun vs H Q _ => ∃ c k : Int, vs = [.int c, .int k] ∧ 0 ≤ k ∧ k < 1000000000000 ∧ ∀ r : Int, 0 ≤ r → Q (.int r) H
theorem ok_mix {f : Addr} {fd : FuncData} (F : Fun K "_law_mix" "_law_mix" s_law_mix f fd) : FnOk P w K mg base CX0 1 f fd ["cell", "k"] spMix := by
  refine F.ok sc_law_mix (fun vs H Q E h => ?_) (fun cdv A outer s H vs Q E hr h => ?_)
  · obtain ⟨c, k, rfl, _⟩ := h
    rfl
  · obtain ⟨c, k, rfl, k0, k1, q⟩ := h
    refine ⟨_, (pss_cons (ps_set (i := 2) sc_law_mix.nd rfl (.inl rfl) (pe_op op_add (pe_op op_mod (pv 0) pe_int) (pe_op op_mul (pe_op op_mul pe_int (pv 1)) (pv 1))))
      (pss_cons (ps_set (i := 2) sc_law_mix.nd rfl (.inl rfl) (pe_op op_mod (pe_op op_add (pv 2) (pe_op op_mul pe_int (pv 1))) pe_int))
      (pss_cons (ps_set (i := 2) sc_law_mix.nd rfl (.inl rfl) (pe_op op_mod (pe_op op_mul (pv 2) (pv 2)) pe_int))
      (pss_one (ps_ret (pe_op op_fdiv (pe_op op_mod (pe_op op_mul (pv 2) (pe_op op_add (pv 2) pe_int)) pe_int) pe_int)))))), ?_⟩
    refine ⟨_, rfl, _, _, rfl, rfl, (by show (0 : Int) < _; decide), _, rfl, _, _, rfl, rfl, .inl (by decide), _, rfl, _, _, rfl, rfl, .inr ⟨by omega, by omega⟩, _, _, rfl, rfl, ?_⟩
    refine ⟨_, rfl, _, rfl, _, _, rfl, rfl, .inl (by decide), _, _, rfl, rfl, _, _, rfl, rfl, (by show (0 : Int) < _; decide), ?_⟩
    generalize hm : (c % 2147483629 + 1000003 * k * k + 7919 * k) % 2147483629 = m
    have m0 : 0 ≤ m := by omega
    have m1 : m < 2147483629 := by omega
    refine ⟨_, rfl, _, rfl, _, _, rfl, rfl, .inl ⟨by omega, by omega⟩, _, _, rfl, rfl, (by show (0 : Int) < _; decide), ?_⟩
    generalize hn : m * m % 2147483587 = n
    have n0 : 0 ≤ n := by omega
    have n1 : n < 2147483587 := by omega
    refine ⟨_, rfl, _, rfl, _, _, rfl, rfl, _, _, rfl, rfl, .inl ⟨by omega, by omega⟩, _, _, rfl, rfl, (by show (0 : Int) < _; decide), _, _, rfl, rfl, ⟨by decide, by decide⟩, ?_⟩
    exact q _ (by omega)

abbrev s_law_next : Stmt := topS 17
abbrev N_law_next : List Str := ["deck", "many", "cell", "found"]
theorem sc_law_next : FnScope N_law_next ["deck", "many"] (defScope s_law_next) := ⟨rfl, rfl, rfl, by decide +kernel, rfl, by decide +kernel, by decide +kernel⟩
/-- a number from 0 on below many; the deck stands a step further; what else stood stands -/
def spNext : Sp := fun vs H Q _ => ∃ (d c : Addr) (n : Nat) (many : Int), vs = [.ref d, .int many] ∧ DeckAt H d c n ∧ n < 100000 ∧ 0 < many ∧ many < 2 ^ 60 ∧ ∀ (H' : Hp) (r : Int), 0 ≤ r → r < many → SmX d H H' → DeckAt H' d c (n + 1) → Q (.int r) H'
theorem ok_next {f : Addr} {fd : FuncData} (F : Fun K "_law_next" "_law_next" s_law_next f fd) (T : Txt mg) (C_law_mix : Cal P w K mg base 1 "_law_mix" spMix) : FnOk P w K mg base CX0 2 f fd ["deck", "many"] spNext := by
  refine F.ok sc_law_next (fun vs H Q E h => ?_) (fun cdv A outer s H vs Q E hr h => ?_)
  · obtain ⟨d, c, n, many, rfl, _⟩ := h
    rfl
  · obtain ⟨d, c, n, many, rfl, hD, hn, hm0, hm1, q⟩ := h
    refine ⟨_, (pss_cut (ps_if (PW.pt (pw_and (pt_cmpR op_eq (pe_ix ix_list (pv 0) pe_int (fun _ _ => rfl)) pe_int (nomark _)) (pw_and1 (pt_cmpR op_lt (pe_ix ix_list (pv 0) pe_int (fun _ _ => rfl)) (pe_callB call_len_seq (by rfl) T.len bt_len (pa_cons (pe_ix ix_list (pv 0) pe_int (fun _ _ => rfl)) pa_nil)) (nomark _)))))
        (pss_cons (ps_set (i := 2) sc_law_next.nd rfl (.inl rfl) (pe_ix ix_list (pe_ix ix_list (pv 0) pe_int (fun _ _ => rfl)) (pe_ix ix_list (pv 0) pe_int (fun _ _ => rfl)) (fun _ _ => rfl)))
        (pss_cons (ps_asg (pe_op op_add (pe_ix ix_list (pv 0) pe_int (fun _ _ => rfl)) pe_int) (pg_sub (pv 0) pe_int set_list))
        (pss_cons (ps_if (pt_cmpR op_lt (pv 2) (pe_op op_pow pe_int pe_int) (nomark _))
          (pss_one (ps_ret (pe_op op_mod (pe_c C_law_mix hr (by decide) rfl (pa_cons (pv 2) (pa_cons (pe_ix ix_list (pv 0) pe_int (fun _ _ => rfl)) pa_nil))) (pv 1))))
          pss_nil)
        (pss_one (ps_asg (pv 2) (pg_sub (pv 0) pe_int set_list))))))
        pss_nil)
      (pss_cut (ps_if (pt_cmpR op_gt (pe_ix ix_list (pv 0) pe_int (fun _ _ => rfl)) pe_int (nomark _))
        (pss_cons (ps_set (i := 3) sc_law_next.nd rfl (.inl rfl) (pe_op op_mod (pe_ix ix_list (pv 0) pe_int (fun _ _ => rfl)) (pv 1)))
        (pss_cons (ps_asg (pe_op op_fdivW (pe_ix ix_list (pv 0) pe_int (fun _ _ => rfl)) (pv 1)) (pg_sub (pv 0) pe_int set_list))
        (pss_one (ps_ret (pv 3)))))
        pss_nil)
      (pss_cons (ps_asg (pe_op op_add (pe_ix ix_list (pv 0) pe_int (fun _ _ => rfl)) pe_int) (pg_sub (pv 0) pe_int set_list))
      (pss_one (ps_ret (pe_op op_mod (pe_c C_law_mix hr (by decide) rfl (pa_cons (pe_ix ix_list (pv 0) pe_int (fun _ _ => rfl)) (pa_cons (pe_op op_add (pe_ix ix_list (pv 0) pe_int (fun _ _ => rfl)) pe_int) pa_nil))) (pv 1))))))), ?_⟩
    refine ⟨fun σ' H' => (∃ x y, σ' = [some (.ref d), some (.int many), x, y]) ∧ SmX d H H' ∧ DeckAt H' d c n, ?_, fun σ' H1 hM => ?_⟩
    · obtain ⟨cs, i, l, m, z, h1, h2, ncd, len, i0, i63, l0, m0, mn⟩ := id hD
      refine ⟨_, rfl, d, _, 2, _, rfl, rfl, SqL.of h1, rfl, rfl, _, rfl, ?_⟩
      refine ite2 (fun e => ?_) (fun e => ?_)
      · refine ⟨_, rfl, d, _, 1, _, rfl, rfl, SqL.of h1, rfl, _, rfl, d, _, 0, _, rfl, rfl, SqL.of h1, rfl, c, _, rfl, .inl (SqL.of h2), _, _, rfl, rfl, _, rfl, ?_⟩
        refine ite2 (fun e2 => ?_) (fun e2 => ?_)
        · have lt : i < cs.length := by simpa using of_decide_eq_true e2
          have gi : (cs.map V.int)[i.toNat]? = some (.int (cs[i.toNat]'(by omega))) := by
            rw [List.getElem?_map, List.getElem?_eq_getElem (by omega)]
            rfl
          have ei : i = ((i.toNat : Nat) : Int) := by omega
          refine ⟨_, rfl, d, _, 0, _, rfl, rfl, SqL.of h1, rfl, _, rfl, d, _, 1, _, rfl, rfl, SqL.of h1, rfl, c, _, i, _, rfl, rfl, SqL.of h2, at_of ei gi, ?_⟩
          generalize cs[i.toNat]'(by omega) = cell
          refine ⟨_, rfl, d, _, 1, _, rfl, rfl, SqL.of h1, rfl, i, 1, rfl, rfl, ?_⟩
          refine ⟨_, rfl, d, _, 1, 1, rfl, rfl, h1, rfl, ?_⟩
          have S1 : SmX d H (upd H d (.lst [.ref c, .int (i + 1), .int l, .int m, .int z])) := (SmX.refl H).mut
          have h1' : (upd H d (.lst [.ref c, .int (i + 1), .int l, .int m, .int z])) d = some (.lst [.ref c, .int (i + 1), .int l, .int m, .int z]) := upd_same
          have h2' : (upd H d (.lst [.ref c, .int (i + 1), .int l, .int m, .int z])) c = some (.lst (cs.map V.int)) := by
            rw [upd_ne ncd]
            exact h2
          refine ⟨_, rfl, _, _, rfl, rfl, ⟨by decide, by decide, by decide⟩, _, _, rfl, rfl, _, rfl, ?_⟩
          refine ite2 (fun e3 => ?_) (fun e3 => ?_)
          · refine ⟨_, rfl, _, rfl, d, _, 1, _, rfl, rfl, SqL.of h1', rfl, ?_⟩
            refine ⟨cell, i + 1, rfl, by omega, by omega, fun r r0 => ?_⟩
            refine ⟨_, rfl, _, _, rfl, rfl, hm0, ?_⟩
            exact q _ _ (Int.emod_nonneg _ (by omega)) (Int.emod_lt_of_pos _ hm0) S1 ⟨cs, i + 1, l, m, z, h1', h2', ncd, len, by omega, by omega, l0, m0, by omega⟩
          · have big : (10 : Int) ^ 18 ≤ cell := by
              have := of_decide_eq_false (by simpa using e3 : decide (cell < (10 : Int) ^ 18) = false)
              omega
            refine ⟨_, rfl, _, rfl, d, _, 2, 2, rfl, rfl, h1', rfl, ?_⟩
            refine ⟨⟨_, _, rfl⟩, S1.mut, cs, i + 1, cell, m, z, upd_same, by rw [upd_ne ncd]; exact h2', ncd, len, by omega, by omega, by omega, m0, by omega⟩
        · exact ⟨⟨_, _, rfl⟩, SmX.refl H, hD⟩
      · exact ite2 (fun e2 => absurd e2 (by simp)) fun _ => ⟨⟨_, _, rfl⟩, SmX.refl H, hD⟩
    · obtain ⟨⟨x, y, rfl⟩, SM, cs, i, l, m, z, h1, h2, ncd, len, i0, i63, l0, m0, mn⟩ := hM
      refine ⟨fun σ' H' => σ' = [some (.ref d), some (.int many), x, y] ∧ H' = H1, ?_, fun σ' H2 hM => ?_⟩
      · refine ⟨_, rfl, d, _, 2, _, rfl, rfl, SqL.of h1, rfl, _, _, rfl, rfl, _, rfl, ?_⟩
        refine ite2 (fun e => ?_) (fun e => ⟨rfl, rfl⟩)
        refine ⟨_, rfl, d, _, 2, _, rfl, rfl, SqL.of h1, rfl, _, rfl, _, _, rfl, rfl, hm0, ?_⟩
        refine ⟨_, rfl, d, _, 2, _, rfl, rfl, SqL.of h1, rfl, _, rfl, _, _, rfl, rfl, wide_div (b := 60) hm0 (by omega) (by decide) (by decide), ?_⟩
        refine ⟨_, rfl, d, _, 2, 2, rfl, rfl, h1, rfl, ?_⟩
        refine ⟨_, rfl, ?_⟩
        refine q _ _ (Int.emod_nonneg _ (by omega)) (Int.emod_lt_of_pos _ hm0) SM.mut ⟨cs, i, l / many, m, z, upd_same, by rw [upd_ne ncd]; exact h2, ncd, len, i0, i63, Int.ediv_nonneg l0 (by omega), m0, by omega⟩
      · obtain ⟨rfl, rfl⟩ := hM
        refine ⟨_, rfl, d, _, 3, _, rfl, rfl, SqL.of h1, rfl, _, _, rfl, rfl, _, rfl, d, _, 3, 3, rfl, rfl, h1, rfl, ?_⟩
        have h1' : (upd H2 d (.lst [.ref c, .int i, .int l, .int (m + 1), .int z])) d = some (.lst [.ref c, .int i, .int l, .int (m + 1), .int z]) := upd_same
        refine ⟨_, rfl, d, _, 4, _, rfl, rfl, SqL.of h1', rfl, _, rfl, d, _, 3, _, rfl, rfl, SqL.of h1', rfl, _, _, rfl, rfl, ?_⟩
        refine ⟨z, m + 1 + _, rfl, by omega, by omega, fun r r0 => ?_⟩
        refine ⟨_, rfl, _, _, rfl, rfl, hm0, ?_⟩
        exact q _ _ (Int.emod_nonneg _ (by omega)) (Int.emod_lt_of_pos _ hm0) SM.mut ⟨cs, i, l, m + 1, z, h1', by rw [upd_ne ncd]; exact h2, ncd, len, i0, i63, l0, by omega, by omega⟩
end
end Far

namespace Far
open PySem PySem.Spec PyProof.Rows L2
open C8 (pss_cut tCut)
open SX (S)

/-- the signs of a name -/
def NameOk (l : List Nat) : Prop := 1 ≤ l.length ∧ l.length ≤ 8 ∧ ∀ c ∈ l, 97 ≤ c ∧ c ≤ 122
theorem sz_le {n : Nat} (h : n ≤ 100000) : n ≤ sizeLine := Nat.le_trans h (by decide)
theorem sz_lt {n : Nat} (h : n ≤ 100000) : n < sizeLine := Nat.lt_of_le_of_lt h (by decide)
theorem atI_in {α : Type} {xs : List α} {i : Int} (h0 : 0 ≤ i) (h1 : i < xs.length) : ∃ v, atI xs i = some v ∧ v ∈ xs := by
  have e : i = ((i.toNat : Nat) : Int) := by omega
  have l : i.toNat < xs.length := by omega
  refine ⟨xs[i.toNat], ?_, List.getElem_mem l⟩
  have q := atI_nat (List.getElem?_eq_getElem l)
  rwa [← e] at q
theorem S_of (z : Str) : ∃ l, z = S l := ⟨z.cps.toList, (SX.S_tl z).symm⟩
theorem join_none : ∀ ys : List (List Nat), TL.joinL [] ys = ys.flatten
  | [] => rfl
  | [x] => by simp [TL.joinL]
  | x :: y :: r => by
    have ih := join_none (y :: r)
    show x ++ ([] ++ TL.joinL [] (y :: r)) = x ++ (y :: r).flatten
    rw [ih]
    rfl
theorem flat_one (cs : List Nat) : (cs.map fun c => [c]).flatten = cs := by
  induction cs with
  | nil => rfl
  | cons c r ih => rw [List.map_cons, List.flatten_cons, ih]; rfl
theorem one_sum' (cs : List Nat) : ((cs.map fun c => S [c]).map (·.length)).sum = cs.length := by
  induction cs with
  | nil => rfl
  | cons c r ih =>
    rw [List.map_cons, List.map_cons, List.sum_cons, ih, List.length_cons, SX.S_len]
    show 1 + r.length = r.length + 1
    omega
abbrev s_law_name : Stmt := topS 18
abbrev N_law_name : List Str := ["deck", "size", "letters", "k"]
theorem sc_law_name : FnScope N_law_name ["deck"] (defScope s_law_name) := ⟨rfl, rfl, rfl, by decide +kernel, rfl, by decide +kernel, by decide +kernel⟩
section
variable {P : Program} {w : World} {K : PySem.W.Frag} {mg : Str → Option Value} {base : Heap}
def spName : Sp := fun vs H Q _ => ∃ (d c : Addr) (n : Nat), vs = [.ref d] ∧ DeckAt H d c n ∧ n < 90000 ∧ ∀ (H' : Hp) (l : List Nat), NameOk l → SmX d H H' → DeckAt H' d c (n + 11) → Q (.str (S l)) H'
theorem ok_name {f : Addr} {fd : FuncData} (F : Fun K "_law_name" "_law_name" s_law_name f fd) (T : Txt mg) (C_law_next : Cal P w K mg base 2 "_law_next" spNext) : FnOk P w K mg base CX0 3 f fd ["deck"] spName := by
  refine F.ok sc_law_name (fun vs H Q E h => ?_) (fun cdv A outer s H vs Q E hr h => ?_)
  · obtain ⟨d, c, n, rfl, _⟩ := h
    rfl
  · obtain ⟨d, c, n, rfl, hD, hn, q⟩ := h
    refine ⟨_, (pss_cons (ps_set (i := 1) sc_law_name.nd rfl (.inl rfl) (pe_ix ix_list (pe_lst (pa_cons pe_int (pa_cons pe_int (pa_cons pe_int (pa_cons (pe_op op_add pe_int (pe_c C_law_next hr (by decide) rfl (pa_cons (pv 0) (pa_cons pe_int pa_nil)))) pa_nil))))) (pe_c C_law_next hr (by decide) rfl (pa_cons (pv 0) (pa_cons pe_int pa_nil))) (fun _ _ => rfl)))
      (pss_cons (ps_set (i := 2) sc_law_name.nd rfl (.inr rfl) (pe_ix ix_list (pe_lst (pa_cons pe_str (pa_cons pe_str (pa_cons pe_str (pa_cons pe_str pa_nil))))) (pe_c C_law_next hr (by decide) rfl (pa_cons (pv 0) (pa_cons pe_int pa_nil))) (fun _ _ => rfl)))
      (pss_one (ps_ret (pe_join pe_str (pe_lc (own := [("k", 3)]) (g := gName 3) (tt := tYes) rfl sc_law_name.nd (pi_range1 (by rfl) T.range (pa_cons (pv 1) pa_nil)) (blkOk_by (N := N_law_name) (sc := defScope s_law_name) (by decide +kernel)) (fun _ _ _ _ _ => pg_name (i := 3) sc_law_name.nd rfl (Or.inl rfl)) (fun _ _ _ _ _ => pts_nil) (fun _ _ _ _ _ => (pe_ix ix_str (pv 2) (pe_c C_law_next hr (by decide) rfl (pa_cons (pv 0) (pa_cons (pe_callB (lenK (K := K)) (by rfl) T.len bt_len (pa_cons (pv 2) pa_nil)) pa_nil))) (fun _ _ => rfl))))))))), ?_⟩
    refine ⟨_, rfl, d, c, n, 8, rfl, hD, by omega, by decide, by decide, fun H1 r r0 r1 S1 D1 => ?_⟩
    refine ⟨_, _, rfl, rfl, (by show 4 ≤ sizeLine; decide), fun p np => ?_⟩
    have npd : p ≠ d := D1.nd np
    refine ⟨_, rfl, d, c, n + 1, 4, rfl, D1.new np, by omega, by decide, by decide, fun H2 r' r0' r1' S2 D2 => ?_⟩
    have hp : H2 p = some (.lst [.int 1, .int 2, .int 8, .int (1 + r)]) := S2 p _ npd upd_same
    obtain ⟨v, hv, mv⟩ := atI_in (xs := [V.int 1, .int 2, .int 8, .int (1 + r)]) r0' (by simpa using r1')
    have hs : ∃ sz : Int, v = .int sz ∧ 1 ≤ sz ∧ sz ≤ 8 := by
      simp only [List.mem_cons, List.not_mem_nil, or_false] at mv
      rcases mv with e | e | e | e <;> exact ⟨_, e, by omega, by omega⟩
    obtain ⟨sz, rfl, s1, s8⟩ := hs
    refine ⟨p, _, r', _, rfl, rfl, SqL.of hp, hv, ?_⟩
    have S12 : SmX d H H2 := (S1.new np).trans S2
    -- letters
    refine ⟨(by show 4 ≤ sizeLine; decide), fun p3 np3 => ?_⟩
    have npd3 : p3 ≠ d := D2.nd np3
    refine ⟨_, rfl, d, c, n + 2, 4, rfl, D2.new np3, by omega, by decide, by decide, fun H3 r'' r0'' r1'' S3 D3 => ?_⟩
    have hp3 := S3 p3 _ npd3 upd_same
    obtain ⟨v, hv, mv⟩ := atI_in (xs := [V.str ("abcdefghijklmnopqrstuvwxyz" : Str), .str ("ab" : Str), .str ("az" : Str), .str ("mno" : Str)]) r0'' (by simpa using r1'')
    have hs : ∃ ls : List Nat, v = .str (S ls) ∧ 1 ≤ ls.length ∧ ls.length ≤ 26 ∧ ∀ c ∈ ls, 97 ≤ c ∧ c ≤ 122 := by
      simp only [List.mem_cons, List.not_mem_nil, or_false] at mv
      rcases mv with e | e | e | e
      · exact ⟨("abcdefghijklmnopqrstuvwxyz" : Str).cps.toList, by rw [e, SX.S_tl], by decide +kernel, by decide +kernel, by decide +kernel⟩
      · exact ⟨("ab" : Str).cps.toList, by rw [e, SX.S_tl], by decide +kernel, by decide +kernel, by decide +kernel⟩
      · exact ⟨("az" : Str).cps.toList, by rw [e, SX.S_tl], by decide +kernel, by decide +kernel, by decide +kernel⟩
      · exact ⟨("mno" : Str).cps.toList, by rw [e, SX.S_tl], by decide +kernel, by decide +kernel, by decide +kernel⟩
    obtain ⟨ls, rfl, l1, l26, lok⟩ := hs
    refine ⟨p3, _, r'', _, rfl, rfl, SqL.of hp3, hv, ?_⟩
    have S13 : SmX d H H3 := (S12.new np3).trans S3
    -- the join
    refine ⟨⟨_, rfl⟩, _, rfl, sz, rfl, by omega, by omega, fun D nD => ?_⟩
    have nDd : D ≠ d := D3.nd nD
    have nDc : D ≠ c := D3.nc nD
    refine lc_range (lo := 0) (n := sz.toNat) (fun i H' => ∃ cs : List Nat, cs.length = i ∧ (∀ c ∈ cs, 97 ≤ c ∧ c ≤ 122) ∧ H' D = some (.lst ((cs.map fun c => S [c]).map V.str)) ∧ SmX d H H' ∧ DeckAt H' d c (n + 3 + i)) ⟨[], rfl, by simp, upd_same, S13.new nD, D3.new nD⟩ (fun i H' hi hP => ?_) (fun H' hP => ?_)
    · obtain ⟨cs, hl, hc, hD', SM, DD⟩ := hP
      refine ⟨rfl, _, rfl, _, rfl, _, rfl, .str (S ls), ls.length, rfl, ⟨by rw [SX.S_len]; exact sz_le (by omega), (SX.S_len _).symm⟩, d, c, _, _, rfl, DD, by omega, by omega, by omega, fun H4 r4 r40 r41 S4 D4 => ?_⟩
      obtain ⟨v, hv, mv⟩ := atI_in (xs := ls) r40 r41
      refine ⟨S ls, r4, v, rfl, rfl, by rw [SX.S_len]; exact sz_le (by omega), by simpa using hv, ?_⟩
      refine ⟨_, S4 D _ nDd hD', by rw [List.length_map, List.length_map]; exact sz_lt (by omega), cs ++ [v], by simp [hl], fun c hc' => ?_, ?_, (SM.trans S4).put ?_, ?_⟩
      · rcases List.mem_append.mp hc' with z | z
        · exact hc c z
        · rw [List.mem_singleton.mp z]
          exact lok v mv
      · rw [upd_same, List.map_append, List.map_append]
        rfl
      · exact SmX.free S13 nD nDd
      · exact D4.put nDd nDc
    · obtain ⟨cs, hl, hc, hD', SM, DD⟩ := hP
      refine ⟨_, D, cs.map (fun c => S [c]), rfl, rfl, .inl (SqL.of hD'), ?_, ?_⟩
      · rw [one_sum']
        have : ((("" : Str)).length) = 0 := rfl
        rw [this, List.length_map]
        omega
      · have e : Txt.join ("" : Str) (cs.map fun c => S [c]) = S cs := by
          have := SX.join_S [] (cs.map fun c => [c])
          rw [List.map_map] at this
          rw [join_none, flat_one] at this
          exact this
        rw [e]
        exact q H' cs ⟨by omega, by omega, hc⟩ SM (DD.mono (by omega))
end
end Far

namespace Far
open PySem PySem.Spec PyProof.Rows L2
open C8 (pss_cut tCut)
open SX (S)

/-! ### lists without an item twice -/
theorem nodup_sub_len {α : Type} [DecidableEq α] : ∀ (l m : List α), l.Nodup → (∀ x ∈ l, x ∈ m) → l.length ≤ m.length
  | [], _, _, _ => Nat.zero_le _
  | a :: r, m, h, hs => by
    obtain ⟨h1, h2⟩ := List.nodup_cons.mp h
    have ha : a ∈ m := hs a (List.mem_cons.mpr (.inl rfl))
    have ih := nodup_sub_len r (m.erase a) h2 fun x hx => by
      have ne : x ≠ a := fun e => h1 (e ▸ hx)
      exact (List.mem_erase_of_ne ne).mpr (hs x (List.mem_cons.mpr (.inr hx)))
    have hl := List.length_erase_of_mem ha
    have hp : 0 < m.length := List.length_pos_of_mem ha
    rw [List.length_cons]
    omega
theorem nd_snoc' {α : Type} {l : List α} {x : α} (h : l.Nodup) (hx : x ∉ l) : (l ++ [x]).Nodup := by
  rw [List.nodup_append]
  exact ⟨h, by simp, fun a ha b hb e => hx (by rw [← List.mem_singleton.mp hb, ← e]; exact ha)⟩

/-! ### texts as data -/
theorem strOk_S {l : List Nat} (h : NameOk l) : PyData.strOk (S l) = true := by
  show (l.toArray.all (· < 0x110000)) = true
  rw [← Array.all_toList, List.all_eq_true]
  intro c hc
  have := h.2.2 c hc
  exact decide_eq_true (by omega)
theorem inV_strs (l : List Nat) (ls : List (List Nat)) : inV (.str (S l)) ((ls.map S).map V.str) = decide (l ∈ ls) := by
  induction ls with
  | nil => rfl
  | cons a r ih =>
    show (S a == S l || inV (.str (S l)) ((r.map S).map V.str)) = _
    rw [ih, SX.S_beq_eq]
    by_cases e : a = l
    · subst e
      simp
    · have : l ≠ a := fun z => e z.symm
      simp [e, this]
theorem flat_strs (ls : List (List Nat)) : ((ls.map S).map V.str).all flatV = true := by
  induction ls with
  | nil => rfl
  | cons a r ih => exact ih
theorem strs_at {ls : List (List Nat)} {v : V} (h : v ∈ (ls.map S).map V.str) : ∃ l ∈ ls, v = .str (S l) := by
  obtain ⟨z, hz, rfl⟩ := List.mem_map.mp h
  obtain ⟨l, hl, rfl⟩ := List.mem_map.mp hz
  exact ⟨l, hl, rfl⟩
theorem dp_strs (K : PySem.W.Frag) (H : Hp) : ∀ ls : List (List Nat), DpAll K H ((ls.map S).map V.str) (ls.map fun l => PyData.str (S l))
  | [] => .nil
  | l :: r => .cons (.str _) (dp_strs K H r)
theorem lay_strs : ∀ {ls : List (List Nat)}, (∀ l ∈ ls, NameOk l) → PyData.canLayAll0 (ls.map fun l => PyData.str (S l)) = true
  | [], _ => rfl
  | l :: r, h => by
    show (PyData.strOk (S l) && PyData.canLayAll0 (r.map fun l => PyData.str (S l))) = true
    rw [strOk_S (h l (List.mem_cons.mpr (.inl rfl))), lay_strs fun x hx => h x (List.mem_cons.mpr (.inr hx))]
    rfl
theorem dep_strs : ∀ ls : List (List Nat), PyData.depthAll (ls.map fun l => PyData.str (S l)) = 0
  | [] => rfl
  | l :: r => by
    show max 0 (PyData.depthAll (r.map fun l => PyData.str (S l))) = 0
    rw [dep_strs r]
    rfl
theorem shaped_strs {ls : List (List Nat)} (h : ∀ l ∈ ls, NameOk l) : SeqAt.shaped (.list (ls.map fun l => PyData.str (S l))) = true := by
  show (PyData.canLayAll0 (ls.map fun l => PyData.str (S l)) && decide (PyData.depthAll (ls.map fun l => PyData.str (S l)) + 1 ≤ 64)) = true
  rw [lay_strs h, dep_strs]
  rfl

/-! ### names made otherwise -/
theorem a8_is : ("aaaaaaaa" : Str) = S (List.replicate 8 97) := by decide +kernel
theorem ten_at : ∀ k : _root_.Fin 10, atI ("abcdefghij" : Str).cps.toList ((k.val : Nat) : Int) = some (97 + k.val) := by decide +kernel
theorem abc_ok : ∀ c ∈ ("abcdefghijklmnopqrstuvwxyz" : Str).cps.toList, 97 ≤ c ∧ c ≤ 122 := by decide +kernel
def cand (q : List Nat) (j : Nat) : List Nat := q ++ [97 + j / 10] ++ [97 + j % 10]
theorem cand_inj {q : List Nat} {i j : Nat} (h : cand q i = cand q j) : i = j := by
  unfold cand at h
  rw [List.append_assoc, List.append_assoc] at h
  have := List.append_cancel_left h
  simp at this
  omega
def six (l : List Nat) : List Nat := (l ++ List.replicate 8 97).take 6
theorem six_len (l : List Nat) : (six l).length = 6 := by
  unfold six
  rw [List.length_take, List.length_append, List.length_replicate]
  omega
theorem six_ok {l : List Nat} (h : NameOk l) : ∀ c ∈ six l, 97 ≤ c ∧ c ≤ 122 := fun c hc => by
  have := List.mem_of_mem_take hc
  rcases List.mem_append.mp this with z | z
  · exact h.2.2 c z
  · rw [List.eq_of_mem_replicate z]
    omega
theorem cand_len {q : List Nat} (hq : q.length = 6) (j : Nat) : (cand q j).length = 8 := by
  unfold cand
  simp [hq]
theorem six_cand {q : List Nat} (hq : q.length = 6) (j : Nat) : six (cand q j) = q := by
  unfold six cand
  rw [List.append_assoc, List.append_assoc, ← hq]
  simp
theorem cand_ok {q : List Nat} (hq : q.length = 6) (ho : ∀ c ∈ q, 97 ≤ c ∧ c ≤ 122) {j : Nat} (hj : j < 100) : NameOk (cand q j) := by
  refine ⟨by rw [cand_len hq]; omega, by rw [cand_len hq]; omega, fun c hc => ?_⟩
  unfold cand at hc
  simp at hc
  rcases hc with z | z | z
  · exact ho c z
  · omega
  · omega
/-- of the names tried so far all but the last are found already -/
structure Tried (ls : List (List Nat)) (t : Nat) (l : List Nat) : Prop where
  ok : NameOk l
  last : t ≠ 0 → l = cand (six l) (t - 1)
  old : ∀ j, j + 1 < t → cand (six l) j ∈ ls
theorem Tried.lt {ls : List (List Nat)} {t : Nat} {l : List Nat} (h : Tried ls t l) (hl : l ∈ ls) : t ≤ ls.length := by
  have sub : ∀ x ∈ (List.range t).map (cand (six l)), x ∈ ls := fun x hx => by
    obtain ⟨j, hj, rfl⟩ := List.mem_map.mp hx
    have hj := List.mem_range.mp hj
    by_cases e : j + 1 < t
    · exact h.old j e
    · have e2 : j = t - 1 := by omega
      rw [e2, ← h.last (by omega)]
      exact hl
  have nd : ((List.range t).map (cand (six l))).Nodup := by
    rw [List.Nodup, List.pairwise_map]
    exact (List.nodup_range (n := t)).imp fun ne e => ne (cand_inj e)
  have := nodup_sub_len _ ls nd sub
  rw [List.length_map, List.length_range] at this
  exact this
theorem Tried.next {ls : List (List Nat)} {t : Nat} {l : List Nat} (h : Tried ls t l) (hl : l ∈ ls) (h30 : ls.length < 30) : Tried ls (t + 1) (cand (six l) t) := by
  have hlt := h.lt hl
  have e6 := six_cand (six_len l) t
  refine ⟨cand_ok (six_len l) (six_ok h.ok) (by omega), fun _ => by rw [e6]; rfl, fun j hj => ?_⟩
  rw [e6]
  by_cases e : j + 1 < t
  · exact h.old j e
  · have e2 : j = t - 1 := by omega
    rw [e2, ← h.last (by omega)]
    exact hl
end Far

namespace Far
open PySem PySem.Spec PyProof.Rows L2
open C8 (pss_cut tCut)
open SX (S)
abbrev s_law_names : Stmt := topS 19
abbrev N_law_names : List Str := ["deck", "many", "found", "name", "at", "sign", "some", "turn", "ten"]
theorem sc_law_names : FnScope N_law_names ["deck", "many"] (defScope s_law_names) := ⟨rfl, rfl, rfl, by decide +kernel, rfl, by decide +kernel, by decide +kernel⟩
section
variable {P : Program} {w : World} {K : PySem.W.Frag} {mg : Str → Option Value} {base : Heap}
def NamesAt (H : Hp) (p : Addr) (ls : List (List Nat)) : Prop := H p = some (.lst ((ls.map S).map V.str))
def spNames : Sp := fun vs H Q _ => ∃ (d c : Addr) (n : Nat) (many : Nat), vs = [.ref d, .int many] ∧ DeckAt H d c n ∧ n < 80000 ∧ many ≤ 30 ∧ ∀ (H' : Hp) (p : Addr) (ls : List (List Nat)), H p = none → p ≠ d → p ≠ c → NamesAt H' p ls → ls.length = many → ls.Nodup → (∀ l ∈ ls, NameOk l) → SmX d H H' → DeckAt H' d c (n + 600) → Q (.ref p) H'
theorem ok_names {f : Addr} {fd : FuncData} (F : Fun K "_law_names" "_law_names" s_law_names f fd) (T : Txt mg) (C_law_next : Cal P w K mg base 2 "_law_next" spNext) (C_law_name : Cal P w K mg base 3 "_law_name" spName) : FnOk P w K mg base CX0 4 f fd ["deck", "many"] spNames := by
  refine F.ok sc_law_names (fun vs H Q E h => ?_) (fun cdv A outer s H vs Q E hr h => ?_)
  · obtain ⟨d, c, n, many, rfl, _⟩ := h
    rfl
  · obtain ⟨d, c, n, many, rfl, hD, hn, hm, q⟩ := h
    refine ⟨_, (pss_cons (ps_set (i := 2) sc_law_names.nd rfl (.inl rfl) (pe_lst pa_nil))
      (pss_cut (ps_while PassesOwn.never (pt_cmpR op_lt (pe_callB call_len_seq (by rfl) T.len bt_len (pa_cons (pv 2) pa_nil)) (pv 1) (nomark _))
        (pss_cons (ps_set (i := 3) sc_law_names.nd rfl (.inl rfl) (pe_c C_law_name hr (by decide) rfl (pa_cons (pv 0) pa_nil)))
        (pss_cut (ps_if (PW.pt (pw_and (pt_cmpR (op_neD (hd_of hr (by decide))) (pv 2) (pe_lst pa_nil) (nomark _)) (pw_and1 (pt_cmpR op_eq (pe_c C_law_next hr (by decide) rfl (pa_cons (pv 0) (pa_cons pe_int pa_nil))) pe_int (nomark _)))))
          (pss_cons (ps_set (i := 3) sc_law_names.nd rfl (.inl rfl) (pe_ix ix_list (pv 2) (pe_c C_law_next hr (by decide) rfl (pa_cons (pv 0) (pa_cons (pe_callB call_len_seq (by rfl) T.len bt_len (pa_cons (pv 2) pa_nil)) pa_nil))) (fun _ _ => rfl)))
          (pss_cons (ps_set (i := 4) sc_law_names.nd rfl (.inl rfl) (pe_c C_law_next hr (by decide) rfl (pa_cons (pv 0) (pa_cons (pe_callB call_len (by rfl) T.len bt_len (pa_cons (pv 3) pa_nil)) pa_nil))))
          (pss_cons (ps_set (i := 5) sc_law_names.nd rfl (.inl rfl) (pe_ix ix_str pe_str (pe_c C_law_next hr (by decide) rfl (pa_cons (pv 0) (pa_cons pe_int pa_nil))) (fun _ _ => rfl)))
          (pss_cons (ps_set (i := 6) sc_law_names.nd rfl (.inl rfl) (pe_lst (pa_cons (pe_op op_add_str (pe_op op_add_str (pe_slice C8.sl_txt (pv 3) po_none (po_some (pv 4))) (pv 5)) (pe_slice C8.sl_txt (pv 3) (po_some (pe_op op_add (pv 4) pe_int)) po_none)) (pa_cons (pe_slice C8.sl_txt (pv 3) po_none (po_some (pe_op op_add (pv 4) pe_int))) (pa_cons (pe_slice C8.sl_txt (pe_op op_add_str (pv 3) (pv 5)) po_none (po_some pe_int)) pa_nil)))))
          (pss_one (ps_set (i := 3) sc_law_names.nd rfl (.inl rfl) (pe_ix ix_list (pv 6) (pe_c C_law_next hr (by decide) rfl (pa_cons (pv 0) (pa_cons pe_int pa_nil))) (fun _ _ => rfl))))))))
          pss_nil)
        (pss_cons (ps_set (i := 7) sc_law_names.nd rfl (.inl rfl) pe_int)
        (pss_cut (ps_while PassesOwn.never (pt_cmpR op_in_seq (pv 3) (pv 2) rfl)
          (pss_cons (ps_set (i := 8) sc_law_names.nd rfl (.inl rfl) (pe_ix ix_str pe_str (pe_op op_fdiv (pv 7) pe_int) (fun _ _ => rfl)))
          (pss_cons (ps_set (i := 3) sc_law_names.nd rfl (.inl rfl) (pe_op op_add_str (pe_op op_add_str (pe_slice C8.sl_txt (pe_op op_add_str (pv 3) pe_str) po_none (po_some pe_int)) (pv 8)) (pe_ix ix_str pe_str (pe_op op_mod (pv 7) pe_int) (fun _ _ => rfl))))
          (pss_one (ps_set (i := 7) sc_law_names.nd rfl (.inl rfl) (pe_op op_add (pv 7) pe_int))))))
        (pss_one (ps_expr (pe_bm PySem.F.plainAttrs_list PySem.F.slot_list_append PySem.F.type_list_append mt_append (pv 2) (pa_cons (pv 3) pa_nil)))))))))
      (pss_one (ps_ret (pv 2))))), ?_⟩
    refine ⟨Nat.zero_le _, fun p np => ?_⟩
    have npd : p ≠ d := hD.nd np
    have npc : p ≠ c := hD.nc np
    -- the loop
    refine ⟨fun σ' H' => ∃ (ls : List (List Nat)) (x3 x4 x5 x6 x7 x8 : Option V), σ' = [some (.ref d), some (.int many), some (.ref p), x3, x4, x5, x6, x7, x8] ∧ NamesAt H' p ls ∧ ls.length = many ∧ ls.Nodup ∧ (∀ l ∈ ls, NameOk l) ∧ SmX d H H' ∧ DeckAt H' d c (n + 600), ?_, fun σ' H' hM => ?_⟩
    · refine ⟨fun m σ' H' => ∃ (ls : List (List Nat)) (x3 x4 x5 x6 x7 x8 : Option V), σ' = [some (.ref d), some (.int many), some (.ref p), x3, x4, x5, x6, x7, x8] ∧ NamesAt H' p ls ∧ ls.length + m = many ∧ ls.Nodup ∧ (∀ l ∈ ls, NameOk l) ∧ SmX d H H' ∧ DeckAt H' d c (n + 16 * ls.length), ⟨many, [], none, none, none, none, none, none, rfl, upd_same, by simp, List.nodup_nil, by simp, (SmX.refl H).new np, hD.new np⟩, ?_⟩
      rintro m σ1 H1 ⟨ls, x3, x4, x5, x6, x7, x8, rfl, hN, hl, nd, ok, SM, DD⟩
      refine ⟨_, rfl, p, _, rfl, .inl (SqL.of hN), _, rfl, _, _, rfl, rfl, _, rfl, ?_⟩
      rw [List.length_map, List.length_map]
      refine ite2 (fun e => ?_) (fun e => ?_)
      · have lt : ls.length < many := by simpa using of_decide_eq_true e
        refine ⟨fun σ' H' => ∃ (ls' : List (List Nat)) (x3 x4 x5 x6 x7 x8 : Option V), σ' = [some (.ref d), some (.int many), some (.ref p), x3, x4, x5, x6, x7, x8] ∧ NamesAt H' p ls' ∧ ls'.length = ls.length + 1 ∧ ls'.Nodup ∧ (∀ l ∈ ls', NameOk l) ∧ SmX d H H' ∧ DeckAt H' d c (n + 16 * ls'.length), fun σ' H' hM => ?_, ?_⟩
        · obtain ⟨ls', y3, y4, y5, y6, y7, y8, e1, e2, e3, e4, e5, e6, e7⟩ := hM
          exact ⟨m - 1, by omega, ls', y3, y4, y5, y6, y7, y8, e1, e2, by omega, e4, e5, e6, e7⟩
        -- name = _law_name(deck)
        refine ⟨_, rfl, d, c, n + 16 * ls.length, rfl, DD, by omega, fun H2 l hlok S2 D2 => ?_⟩
        have hN2 : NamesAt H2 p ls := S2 p _ npd hN
        have SM2 : SmX d H H2 := SM.trans S2
        -- the if
        refine ⟨fun σ' H' => ∃ (l : List Nat) (x4 x5 x6 : Option V), σ' = [some (.ref d), some (.int many), some (.ref p), some (.str (S l)), x4, x5, x6, x7, x8] ∧ NameOk l ∧ NamesAt H' p ls ∧ SmX d H H' ∧ DeckAt H' d c (n + 16 * ls.length + 16), ?_, fun σ' H' hM => ?_⟩
        · refine ⟨_, rfl, Nat.zero_le _, fun p2 np2 => ?_⟩
          have hN2' : NamesAt (upd H2 p2 (.lst [])) p ls := by
            unfold NamesAt
            rw [upd_ne (ne_of_none hN2 np2)]
            exact hN2
          have D2' := D2.new (o := .lst []) np2
          have SM2' : SmX d H (upd H2 p2 (.lst [])) := SM2.new np2
          refine ⟨_, _, .lst (SqL.of hN2') (dp_strs _ _ ls), .lst (SqL.of upd_same) .nil, shaped_strs ok, rfl, _, rfl, ?_⟩
          refine ite2 (fun e1 => ?_) (fun e1 => ?_)
          · have pos : 0 < ls.length := by
              cases ls with
              | nil => exact absurd e1 (by decide)
              | cons a r => exact Nat.succ_pos _
            refine ⟨_, rfl, d, c, _, 3, rfl, D2', by omega, by decide, by decide, fun H3 r r0 r1 S3 D3 => ?_⟩
            have hN3 : NamesAt H3 p ls := S3 p _ npd hN2'
            have SM3 : SmX d H H3 := SM2'.trans S3
            refine ⟨rfl, _, rfl, ite2 (fun e2 => ?_) (fun e2 => ?_)⟩
            · -- name = found[..]
              refine ⟨_, rfl, _, rfl, _, rfl, p, _, rfl, .inl (SqL.of hN3), d, c, _, _, rfl, D3, by omega, ?_, ?_, fun H4 r4 r40 r41 S4 D4 => ?_⟩
              · rw [List.length_map, List.length_map]
                omega
              · rw [List.length_map, List.length_map]
                omega
              have hN4 : NamesAt H4 p ls := S4 p _ npd hN3
              obtain ⟨v, hv, mv⟩ := atI_in r40 r41
              obtain ⟨l2, hl2, rfl⟩ := strs_at mv
              have ok2 := ok l2 hl2
              refine ⟨p, _, r4, _, rfl, rfl, SqL.of hN4, hv, ?_⟩
              -- at
              refine ⟨_, rfl, _, rfl, .str (S l2), l2.length, rfl, ⟨by rw [SX.S_len]; exact sz_le (by have := ok2.2.1; omega), (SX.S_len _).symm⟩, d, c, _, _, rfl, D4, by omega, by have := ok2.1; omega, by have := ok2.2.1; omega, fun H5 r5 r50 r51 S5 D5 => ?_⟩
              -- sign
              refine ⟨_, rfl, d, c, _, 26, rfl, D5, by omega, by decide, by decide, fun H6 r6 r60 r61 S6 D6 => ?_⟩
              obtain ⟨sg, hsg, msg⟩ := atI_in (xs := ("abcdefghijklmnopqrstuvwxyz" : Str).cps.toList) r60 (by
                have : ("abcdefghijklmnopqrstuvwxyz" : Str).cps.toList.length = 26 := by decide +kernel
                omega)
              have oks := abc_ok sg msg
              refine ⟨("abcdefghijklmnopqrstuvwxyz" : Str), r6, sg, rfl, rfl, by decide, hsg, ?_⟩
              have hN6 : NamesAt H6 p ls := S6 p _ npd (S5 p _ npd hN4)
              have SM6 : SmX d H H6 := ((SM3.trans S4).trans S5).trans S6
              have h8 := ok2.2.1
              have h1 := ok2.1
              -- some
              refine ⟨_, rfl, _, rfl, r5, rfl, S l2, rfl, by rw [SX.S_len]; exact sz_le (by omega), _, rfl, S (l2.take r5.toNat), S [sg], congrArg V.str (SX.slice_to r50), rfl, by rw [SX.S_len, SX.S_len, List.length_take, List.length_singleton]; exact sz_le (by omega),
                _, rfl, _, rfl, r5, 1, rfl, rfl, r5 + 1, rfl, S l2, rfl, by rw [SX.S_len]; exact sz_le (by omega), S (l2.take r5.toNat ++ [sg]), S (l2.drop (r5 + 1).toNat), congrArg V.str (SX.S_cat _ _), congrArg V.str (SX.slice_from (by omega)), by rw [SX.S_len, SX.S_len, List.length_append, List.length_take, List.length_drop, List.length_singleton]; exact sz_le (by omega),
                _, rfl, _, rfl, r5, 1, rfl, rfl, r5 + 1, rfl, S l2, rfl, by rw [SX.S_len]; exact sz_le (by omega), 
                _, rfl, _, rfl, S l2, S [sg], rfl, rfl, by rw [SX.S_len, SX.S_len, List.length_singleton]; exact sz_le (by omega), 8, rfl, S (l2 ++ [sg]), congrArg V.str (SX.S_cat _ _), by rw [SX.S_len, List.length_append, List.length_singleton]; exact sz_le (by omega), by show 3 ≤ sizeLine; decide, fun p7 np7 => ?_⟩
              have np7d := D6.nd np7
              have D6' := D6.new (o := .lst [V.str (S (l2.take r5.toNat ++ [sg]) ++ S (l2.drop (r5 + 1).toNat)), .str (Txt.slice (S l2) none (some (r5 + 1))), .str (Txt.slice (S (l2 ++ [sg])) none (some 8))]) np7
              refine ⟨_, rfl, _, rfl, d, c, _, 3, rfl, D6', by omega, by decide, by decide, fun H7 r7 r70 r71 S7 D7 => ?_⟩
              have h7 := S7 p7 _ np7d upd_same
              have SM7 : SmX d H H7 := (SM6.new np7).trans S7
              have hN7 : NamesAt H7 p ls := S7 p _ npd (by rw [upd_ne (ne_of_none hN6 np7)]; exact hN6)
              obtain ⟨v, hv, mv⟩ := atI_in (xs := [V.str (S (l2.take r5.toNat ++ [sg]) ++ S (l2.drop (r5 + 1).toNat)), .str (Txt.slice (S l2) none (some (r5 + 1))), .str (Txt.slice (S (l2 ++ [sg])) none (some 8))]) r70 (by simpa using r71)
              have hs : ∃ l3 : List Nat, v = .str (S l3) ∧ NameOk l3 := by
                simp only [List.mem_cons, List.not_mem_nil, or_false] at mv
                rcases mv with e | e | e
                · refine ⟨l2.take r5.toNat ++ [sg] ++ l2.drop (r5 + 1).toNat, by rw [e, SX.S_cat], ?_, ?_, fun x hx => ?_⟩
                  · simp
                    omega
                  · simp
                    omega
                  · rcases List.mem_append.mp hx with z | z
                    · rcases List.mem_append.mp z with z | z
                      · exact ok2.2.2 x (List.mem_of_mem_take z)
                      · rw [List.mem_singleton.mp z]
                        exact oks
                    · exact ok2.2.2 x (List.mem_of_mem_drop z)
                · refine ⟨l2.take (r5 + 1).toNat, by rw [e, SX.slice_to (by omega)], ?_, ?_, fun x hx => ok2.2.2 x (List.mem_of_mem_take hx)⟩
                  · rw [List.length_take]
                    omega
                  · rw [List.length_take]
                    omega
                · refine ⟨(l2 ++ [sg]).take 8, by rw [e, SX.slice_to (by decide)]; rfl, ?_, ?_, fun x hx => ?_⟩
                  · rw [List.length_take, List.length_append, List.length_singleton]
                    omega
                  · rw [List.length_take]
                    omega
                  · rcases List.mem_append.mp (List.mem_of_mem_take hx) with z | z
                    · exact ok2.2.2 x z
                    · rw [List.mem_singleton.mp z]
                      exact oks
              obtain ⟨l3, rfl, ok3⟩ := hs
              refine ⟨p7, _, r7, _, rfl, rfl, SqL.of h7, hv, ?_⟩
              exact ⟨l3, _, _, _, rfl, ok3, hN7, SM7, D7⟩
            · exact ⟨l, _, _, _, rfl, hlok, hN3, SM3, D3.mono (by omega)⟩
          · exact ⟨l, _, _, _, rfl, hlok, hN2', SM2', D2'.mono (by omega)⟩
        · -- the second loop
          obtain ⟨l, y4, y5, y6, rfl, lok, hN3, SM3, D3⟩ := hM
          refine ⟨fun σ' H'' => ∃ (l : List Nat) (x7 x8 : Option V), σ' = [some (.ref d), some (.int many), some (.ref p), some (.str (S l)), y4, y5, y6, x7, x8] ∧ NameOk l ∧ l ∉ ls ∧ H'' = H', ?_, fun σ' H'' hM => ?_⟩
          · refine ⟨fun m σ' H'' => ∃ (l : List Nat) (t : Nat) (x8 : Option V), σ' = [some (.ref d), some (.int many), some (.ref p), some (.str (S l)), y4, y5, y6, some (.int t), x8] ∧ H'' = H' ∧ Tried ls t l ∧ t + m = 100, ⟨100, l, 0, x8, rfl, rfl, ⟨lok, fun z => absurd rfl z, fun j hj => absurd hj (by omega)⟩, rfl⟩, ?_⟩
            rintro m' σ2 H4 ⟨l, t, x8, rfl, rfl, tr, em⟩
            refine ⟨_, rfl, _, rfl, p, _, rfl, .inl (SqL.of hN3), rfl, flat_strs ls, _, rfl, ?_⟩
            rw [inV_strs]
            refine ite2 (fun e2 => ?_) (fun e2 => ?_)
            · have hin : l ∈ ls := of_decide_eq_true e2
              have tl := tr.lt hin
              have nx := tr.next hin (by omega)
              refine ⟨fun σ' H'' => ∃ (l : List Nat) (t' : Nat) (x8 : Option V), σ' = [some (.ref d), some (.int many), some (.ref p), some (.str (S l)), y4, y5, y6, some (.int t'), x8] ∧ H'' = H4 ∧ Tried ls t' l ∧ t' = t + 1, ?_, ?_⟩
              · rintro σ' H'' ⟨l', t', x8', e1, e2', e3, e4⟩
                exact ⟨m' - 1, by omega, l', t', x8', e1, e2', e3, by omega⟩
              have et : (t : Int) / 10 = (((t / 10 : Nat)) : Int) := by omega
              have em' : (t : Int) % 10 = (((t % 10 : Nat)) : Int) := by omega
              have a1 : atI ("abcdefghij" : Str).cps.toList ((t : Int) / 10) = some (97 + t / 10) := by
                rw [et]
                exact ten_at ⟨t / 10, by omega⟩
              have a2 : atI ("abcdefghij" : Str).cps.toList ((t : Int) % 10) = some (97 + t % 10) := by
                rw [em']
                exact ten_at ⟨t % 10, by omega⟩
              have l8 := tr.ok.2.1
              have s6 := six_len l
              refine ⟨_, rfl, _, _, rfl, rfl, ⟨by decide, by decide⟩, ("abcdefghij" : Str), (t : Int) / 10, _, rfl, rfl, by decide, a1, ?_⟩
              refine ⟨_, rfl, S l, S (List.replicate 8 97), rfl, congrArg V.str a8_is, by rw [SX.S_len, SX.S_len, List.length_replicate]; exact sz_le (by omega), 6, rfl, S (l ++ List.replicate 8 97), congrArg V.str (SX.S_cat _ _), by rw [SX.S_len, List.length_append, List.length_replicate]; exact sz_le (by omega),
                _, rfl, S (six l), S [97 + t / 10], congrArg V.str (SX.slice_to (by decide)), rfl, by rw [SX.S_len, SX.S_len, s6]; exact sz_le (by simp), _, rfl, _, _, rfl, rfl, (by show (0 : Int) < _; decide), ("abcdefghij" : Str), (t : Int) % 10, _, rfl, rfl, by decide, a2,
                S (six l ++ [97 + t / 10]), S [97 + t % 10], congrArg V.str (SX.S_cat _ _), rfl, by rw [SX.S_len, SX.S_len, List.length_append, s6]; exact sz_le (by simp), ?_⟩
              refine ⟨_, rfl, _, _, rfl, rfl, ?_⟩
              refine ⟨cand (six l) t, t + 1, some (.str (S [97 + t / 10])), ?_, rfl, nx, rfl⟩
              show [some (V.ref d), some (V.int many), some (V.ref p), some (V.str (S (six l ++ [97 + t / 10]) ++ S [97 + t % 10])), y4, y5, y6, some (V.int ((t : Int) + 1)), some (V.str (S [97 + t / 10]))] = _
              rw [SX.S_cat]
              rfl
            · exact ⟨l, _, _, rfl, tr.ok, fun z => e2 (decide_eq_true z), rfl⟩
          · obtain ⟨l, x7, x8, rfl, lok, nin, rfl⟩ := hM
            refine ⟨_, rfl, .inl ⟨rfl, _, SqL.of hN3⟩, _, rfl, p, _, _, rfl, rfl, hN3, ?_, ?_⟩
            · rw [List.length_map, List.length_map]
              exact sz_lt (by omega)
            refine ⟨ls ++ [l], _, _, _, _, _, _, rfl, ?_, by simp, nd_snoc' nd nin, fun x hx => ?_, SM3.put np, ?_⟩
            · unfold NamesAt
              rw [upd_same, List.map_append, List.map_append]
              rfl
            · rcases List.mem_append.mp hx with z | z
              · exact ok x z
              · rw [List.mem_singleton.mp z]
                exact lok
            · exact (D3.put npd npc).mono (by rw [List.length_append, List.length_singleton]; omega)
      · have ge : many ≤ ls.length := by
          have := of_decide_eq_false (by simpa using e : decide ((ls.length : Int) < many) = false)
          omega
        exact ⟨ls, _, _, _, _, _, _, rfl, hN, by omega, nd, ok, SM, DD.mono (by omega)⟩
    · obtain ⟨ls, x3, x4, x5, x6, x7, x8, rfl, hN, hl, nd, ok, SM, DD⟩ := hM
      exact ⟨_, rfl, q H' p ls np npd npc hN hl nd ok SM DD⟩
end
end Far

namespace Far
open PySem PySem.Spec PyProof.Rows L2
open SX (S)
abbrev Nm := List Nat
abbrev Tie := Nm × Nm × Int
/-- places in an order in which each has one tie to those ahead; the ties in that order -/
inductive Grown : List Nm → List Tie → Prop
  | one (a : Nm) : Grown [a] []
  | leaf {os : List Nm} {es : List Tie} {a b : Nm} {k : Int} {e : Tie} : Grown os es → a ∈ os → b ∉ os → e = (a, b, k) ∨ e = (b, a, k) → 1 ≤ k → k ≤ 1000000 → Grown (os ++ [b]) (es ++ [e])
def IsTree (pl : List Nm) (ts : List Tie) : Prop := ∃ os es, Grown os es ∧ pl.Perm os ∧ ts.Perm es
theorem Grown.nodup {os : List Nm} {es : List Tie} (h : Grown os es) : os.Nodup := by
  induction h with
  | one a => simp
  | leaf _ _ hb _ _ _ ih => exact nd_snoc' ih hb
theorem Grown.len {os : List Nm} {es : List Tie} (h : Grown os es) : os.length = es.length + 1 := by
  induction h with
  | one a => rfl
  | leaf _ _ _ _ _ _ ih => rw [List.length_append, List.length_append, ih]; rfl
theorem Grown.ties {os : List Nm} {es : List Tie} (h : Grown os es) : ∀ e ∈ es, e.1 ∈ os ∧ e.2.1 ∈ os ∧ 1 ≤ e.2.2 ∧ e.2.2 ≤ 1000000 := by
  induction h with
  | one a => simp
  | leaf h1 ha hb he k1 k2 ih =>
    intro e hm
    rcases List.mem_append.mp hm with z | z
    · obtain ⟨a1, a2, a3⟩ := ih e z
      exact ⟨List.mem_append_left _ a1, List.mem_append_left _ a2, a3⟩
    · rw [List.mem_singleton.mp z]
      rcases he with e | e <;> rw [e] <;> simp [ha, k1, k2]
theorem IsTree.nodup {pl : List Nm} {ts : List Tie} (h : IsTree pl ts) : pl.Nodup := by
  obtain ⟨os, es, g, p, _⟩ := h
  exact p.nodup_iff.mpr g.nodup
theorem IsTree.len {pl : List Nm} {ts : List Tie} (h : IsTree pl ts) : pl.length = ts.length + 1 := by
  obtain ⟨os, es, g, p, q⟩ := h
  rw [p.length_eq, q.length_eq]
  exact g.len
theorem IsTree.ties {pl : List Nm} {ts : List Tie} (h : IsTree pl ts) : ∀ e ∈ ts, e.1 ∈ pl ∧ e.2.1 ∈ pl ∧ 1 ≤ e.2.2 ∧ e.2.2 ≤ 1000000 := by
  obtain ⟨os, es, g, p, q⟩ := h
  intro e he
  obtain ⟨a, b, c⟩ := g.ties e (q.mem_iff.mp he)
  exact ⟨p.mem_iff.mpr a, p.mem_iff.mpr b, c⟩

/-! ### as data -/
def tieD (t : Tie) : PyData := .tuple [.str (S t.1), .str (S t.2.1), .int t.2.2]
def strD (l : Nm) : PyData := .str (S l)
def treeD (pl : List Nm) (ts : List Tie) : PyData := .tuple [.tuple (pl.map strD), .tuple (ts.map tieD)]
/-- tuples stand as they stood -/
def TK (H H' : Hp) : Prop := ∀ b xs, H b = some (.tup xs) → H' b = some (.tup xs)
theorem TK.refl (H : Hp) : TK H H := fun _ _ h => h
theorem TK.trans {H H1 H2 : Hp} (a : TK H H1) (b : TK H1 H2) : TK H H2 := fun x o h => b x o (a x o h)
theorem TK.of {H H' : Hp} (a : Same H H') : TK H H' := fun x _ h => a x _ h
theorem TK.new {H : Hp} {p : Addr} {o : HO} (n : H p = none) : TK H (upd H p o) := fun b xs h => by
  rw [upd_ne (ne_of_none h n)]
  exact h
theorem TK.mut {H : Hp} {p : Addr} {o : HO} {xs : List V} (n : H p = some (.lst xs)) : TK H (upd H p o) := fun b ys h => by
  rw [upd_ne (ne_of h n (by intro z; cases z))]
  exact h
theorem SmX.tk {d : Addr} {H H' : Hp} {xs : List V} (s : SmX d H H') (n : H d = some (.lst xs)) : TK H H' := fun b ys h =>
  s b _ (ne_of h n (by intro z; cases z)) h
theorem DeckAt.lst {H : Hp} {d c : Addr} {n : Nat} (h : DeckAt H d c n) : ∃ xs, H d = some (.lst xs) := by
  obtain ⟨_, _, _, _, _, h1, _⟩ := h
  exact ⟨_, h1⟩
theorem DeckAt.tk {H H' : Hp} {d c : Addr} {n : Nat} (h : DeckAt H d c n) (s : SmX d H H') : TK H H' := by
  obtain ⟨xs, e⟩ := h.lst
  exact s.tk e
mutual
/-- a value that never changes: none, truths, numbers, texts, tuples of such -/
inductive Dt (H : Hp) : V → PyData → Prop
  | non : Dt H .non .none
  | bl (b : Bool) : Dt H (.bl b) (.bool b)
  | int (i : Int) : Dt H (.int i) (.int i)
  | str (x : Str) : Dt H (.str x) (.str x)
  | tup {a : Addr} {xs : List V} {ds : List PyData} : H a = some (.tup xs) → DtAll H xs ds → Dt H (.ref a) (.tuple ds)
inductive DtAll (H : Hp) : List V → List PyData → Prop
  | nil : DtAll H [] []
  | cons {v : V} {vs : List V} {d : PyData} {ds : List PyData} : Dt H v d → DtAll H vs ds → DtAll H (v :: vs) (d :: ds)
end
mutual
theorem Dt.keep {H H' : Hp} (t : TK H H') : ∀ {v : V} {d : PyData}, Dt H v d → Dt H' v d
  | _, _, .non => .non
  | _, _, .bl b => .bl b
  | _, _, .int i => .int i
  | _, _, .str x => .str x
  | _, _, .tup a b => .tup (t _ _ a) (DtAll.keep t b)
theorem DtAll.keep {H H' : Hp} (t : TK H H') : ∀ {vs : List V} {ds : List PyData}, DtAll H vs ds → DtAll H' vs ds
  | _, _, .nil => .nil
  | _, _, .cons a b => .cons (Dt.keep t a) (DtAll.keep t b)
end
mutual
theorem Dt.dp {K : PySem.W.Frag} {H : Hp} : ∀ {v : V} {d : PyData}, Dt H v d → Dp K H v d
  | _, _, .non => .non
  | _, _, .bl b => .bl b
  | _, _, .int i => .int i
  | _, _, .str x => .str x
  | _, _, .tup a b => .tup (.inl (.inl a)) (DtAll.dp b)
theorem DtAll.dp {K : PySem.W.Frag} {H : Hp} : ∀ {vs : List V} {ds : List PyData}, DtAll H vs ds → DpAll K H vs ds
  | _, _, .nil => .nil
  | _, _, .cons a b => .cons (Dt.dp a) (DtAll.dp b)
end
theorem DtAll.len {H : Hp} : ∀ {vs : List V} {ds : List PyData}, DtAll H vs ds → vs.length = ds.length
  | _, _, .nil => rfl
  | _, _, .cons _ t => congrArg (· + 1) (DtAll.len t)
theorem DtAll.app {H : Hp} : ∀ {vs ws : List V} {ds es : List PyData}, DtAll H vs ds → DtAll H ws es → DtAll H (vs ++ ws) (ds ++ es)
  | _, _, _, _, .nil, h => h
  | _, _, _, _, .cons a t, h => .cons a (DtAll.app t h)
theorem DtAll.get {H : Hp} : ∀ {vs : List V} {ds : List PyData} {i : Nat} {v : V}, DtAll H vs ds → vs[i]? = some v → ∃ d, ds[i]? = some d ∧ Dt H v d
  | _, _, _, _, .nil, e => by simp at e
  | _, _, 0, _, .cons a _, e => by
    simp at e
    subst e
    exact ⟨_, rfl, a⟩
  | _, _, i + 1, _, .cons _ t, e => by
    obtain ⟨d, h1, h2⟩ := DtAll.get (i := i) t (by simpa using e)
    exact ⟨d, by simpa using h1, h2⟩
theorem DtAll.del {H : Hp} : ∀ {vs : List V} {ds : List PyData} (i : Nat), DtAll H vs ds → DtAll H (vs.eraseIdx i) (ds.eraseIdx i)
  | _, _, _, .nil => .nil
  | _, _, 0, .cons _ t => t
  | _, _, i + 1, .cons a t => .cons a (DtAll.del i t)
theorem DtAll.strs {H : Hp} : ∀ {ls : List Nm} {vs : List V}, DtAll H vs (ls.map strD) → vs = (ls.map S).map V.str
  | [], _, .nil => rfl
  | l :: r, _, .cons (.str _) t => by
    rw [DtAll.strs (ls := r) t]
    rfl
theorem dt_strs (H : Hp) : ∀ ls : List Nm, DtAll H ((ls.map S).map V.str) (ls.map strD)
  | [] => .nil
  | _ :: r => .cons (.str _) (dt_strs H r)
theorem perm_erase {α : Type} : ∀ {l : List α} {k : Nat} {x : α}, l[k]? = some x → (x :: l.eraseIdx k).Perm l
  | [], _, _, e => by simp at e
  | a :: r, 0, x, e => by
    simp at e
    subst e
    exact .refl _
  | a :: r, k + 1, x, e => by
    have ih := perm_erase (l := r) (k := k) (x := x) (by simpa using e)
    show (x :: a :: r.eraseIdx k).Perm (a :: r)
    exact (List.Perm.swap a x _).trans (ih.cons a)
theorem perm_pick {α : Type} {l1 l2 m : List α} {x : α} {k : Nat} (h : (l1 ++ l2).Perm m) (e : l2[k]? = some x) : ((l1 ++ [x]) ++ l2.eraseIdx k).Perm m := by
  rw [List.append_assoc]
  exact ((List.Perm.refl l1).append (perm_erase e)).trans h
theorem map_erase {α β : Type} (f : α → β) : ∀ (l : List α) (k : Nat), (l.map f).eraseIdx k = (l.eraseIdx k).map f
  | [], _ => rfl
  | _ :: _, 0 => rfl
  | a :: r, k + 1 => congrArg (f a :: ·) (map_erase f r k)
end Far

namespace Far
open PySem PySem.Spec PyProof.Rows L2
open C8 (pss_cut tCut)
open SX (S)
abbrev s_law_tree : Stmt := topS 20
abbrev N_law_tree : List Str := ["deck", "most", "many", "names", "way", "long", "ties", "k", "some", "at", "length", "ends", "left", "places", "mixed"]
theorem sc_law_tree : FnScope N_law_tree ["deck", "most"] (defScope s_law_tree) := ⟨rfl, rfl, rfl, by decide +kernel, rfl, by decide +kernel, by decide +kernel⟩
section
variable {P : Program} {w : World} {K : PySem.W.Frag} {mg : Str → Option Value} {base : Heap}
def spTree (K : PySem.W.Frag) : Sp := fun vs H Q _ => ∃ (d c : Addr) (n : Nat) (most : Nat), vs = [.ref d, .int most] ∧ DeckAt H d c n ∧ n < 70000 ∧ 1 ≤ most ∧ most ≤ 30 ∧ ∀ (H' : Hp) (t : Addr) (pl : List Nm) (ts : List Tie), IsTree pl ts → (∀ l ∈ pl, NameOk l) → pl.length ≤ max most 4 → Dt H' (.ref t) (treeD pl ts) → SmX d H H' → DeckAt H' d c (n + 800) → Q (.ref t) H'
/-- within the making of a tree: the names at p, the ties so far at t -/
structure Tr (K : PySem.W.Frag) (H H' : Hp) (d c p t : Addr) (n : Nat) (ls : List Nm) (tvs : List V) (ts : List Tie) : Prop where
  nm : NamesAt H' p ls
  tt : H' t = some (.lst tvs)
  al : DtAll H' tvs (ts.map tieD)
  sm : SmX d H H'
  dk : DeckAt H' d c n
theorem Tr.new {H H' : Hp} {d c p t q : Addr} {n : Nat} {ls : List Nm} {tvs : List V} {ts : List Tie} {o : HO} (x : Tr K H H' d c p t n ls tvs ts) (nq : H' q = none) : Tr K H (upd H' q o) d c p t n ls tvs ts :=
  ⟨by unfold NamesAt; rw [upd_ne (ne_of_none x.nm nq)]; exact x.nm, by rw [upd_ne (ne_of_none x.tt nq)]; exact x.tt, DtAll.keep (TK.new nq) x.al, x.sm.new nq, x.dk.new nq⟩
theorem Tr.step {H H' H'' : Hp} {d c p t : Addr} {n m : Nat} {ls : List Nm} {tvs : List V} {ts : List Tie} (x : Tr K H H' d c p t n ls tvs ts) (npd : p ≠ d) (ntd : t ≠ d) (s : SmX d H' H'') (D : DeckAt H'' d c m) : Tr K H H'' d c p t m ls tvs ts :=
  ⟨s p _ npd x.nm, s t _ ntd x.tt, DtAll.keep (x.dk.tk s) x.al, x.sm.trans s, D⟩
/-- another new object changes -/
theorem Tr.put {H H' : Hp} {d c p t q : Addr} {n : Nat} {ls : List Nm} {tvs xs : List V} {ts : List Tie} {o : HO} (x : Tr K H H' d c p t n ls tvs ts) (np : q ≠ p) (nt : q ≠ t) (nd : q ≠ d) (nc : q ≠ c) (n0 : H q = none) (hq : H' q = some (.lst xs)) : Tr K H (upd H' q o) d c p t n ls tvs ts :=
  ⟨by unfold NamesAt; rw [upd_ne np.symm]; exact x.nm, by rw [upd_ne nt.symm]; exact x.tt, DtAll.keep (TK.mut hq) x.al, x.sm.put n0, x.dk.put nd nc⟩
/-- a tie is taken -/
theorem Tr.take {H H' : Hp} {d c p t : Addr} {n k : Nat} {ls : List Nm} {tvs : List V} {ts : List Tie} (x : Tr K H H' d c p t n ls tvs ts) (np : p ≠ t) (nd : t ≠ d) (nc : t ≠ c) (n0 : H t = none) : Tr K H (upd H' t (.lst (tvs.eraseIdx k))) d c p t n ls (tvs.eraseIdx k) (ts.eraseIdx k) :=
  ⟨by unfold NamesAt; rw [upd_ne np]; exact x.nm, upd_same, by rw [← map_erase]; exact DtAll.del k (DtAll.keep (TK.mut x.tt) x.al), x.sm.put n0, x.dk.put nd nc⟩
theorem seq_ix {r : Int} {n : Nat} (h0 : 0 ≤ r) (h1 : r < n) : seqIndex? r n = some r.toNat := by
  refine (ixN_seq (j := r.toNat) ?_).1
  unfold ixN
  rw [if_pos h0, if_pos h1]
theorem ok_tree {f : Addr} {fd : FuncData} (F : Fun K "_law_tree" "_law_tree" s_law_tree f fd) (T : Txt mg) (C_law_next : Cal P w K mg base 2 "_law_next" spNext) (C_law_names : Cal P w K mg base 4 "_law_names" spNames) : FnOk P w K mg base CX0 5 f fd ["deck", "most"] (spTree K) := by
  refine F.ok sc_law_tree (fun vs H Q E h => ?_) (fun cdv A outer s H vs Q E hr h => ?_)
  · obtain ⟨d, c, n, most, rfl, _⟩ := h
    rfl
  · obtain ⟨d, c, n, most, rfl, hD, hn, hm1, hm, q⟩ := h
    refine ⟨_, (pss_cons (ps_set (i := 2) sc_law_tree.nd rfl (.inl rfl) (pe_ix ix_list (pe_lst (pa_cons (pe_op op_add pe_int (pe_c C_law_next hr (by decide) rfl (pa_cons (pv 0) (pa_cons (pv 1) pa_nil)))) (pa_cons (pv 1) (pa_cons (pe_op op_add pe_int (pe_c C_law_next hr (by decide) rfl (pa_cons (pv 0) (pa_cons pe_int pa_nil)))) pa_nil)))) (pe_c C_law_next hr (by decide) rfl (pa_cons (pv 0) (pa_cons pe_int pa_nil))) (fun _ _ => rfl)))
      (pss_cons (ps_set (i := 3) sc_law_tree.nd rfl (.inl rfl) (pe_c C_law_names hr (by decide) rfl (pa_cons (pv 0) (pa_cons (pv 2) pa_nil))))
      (pss_cons (ps_set (i := 4) sc_law_tree.nd rfl (.inl rfl) (pe_c C_law_next hr (by decide) rfl (pa_cons (pv 0) (pa_cons pe_int pa_nil))))
      (pss_cons (ps_set (i := 5) sc_law_tree.nd rfl (.inl rfl) (pe_c C_law_next hr (by decide) rfl (pa_cons (pv 0) (pa_cons pe_int pa_nil))))
      (pss_cons (ps_set (i := 6) sc_law_tree.nd rfl (.inr rfl) (pe_lst pa_nil))
      (pss_cut (ps_for PassesOwn.never rfl (pi_range2 (by rfl) T.range (pa_cons pe_int (pa_cons (pv 2) pa_nil))) (pg_name (i := 7) sc_law_tree.nd rfl (.inl rfl))
        (pss_cons (ps_set (i := 8) sc_law_tree.nd rfl (.inl rfl) (pe_lst (pa_cons (pe_op op_sub (pv 7) pe_int) (pa_cons pe_int (pa_cons (pe_c C_law_next hr (by decide) rfl (pa_cons (pv 0) (pa_cons (pv 7) pa_nil))) (pa_cons (pe_op op_fdiv (pe_op op_sub (pv 7) pe_int) pe_int) (pa_cons (pe_op op_sub (pe_op op_sub (pv 7) pe_int) (pe_callTy call_int1 (by rfl) T.int bt_int (pa_cons (pe_cmpR op_eq (pe_op op_mod (pv 7) pe_int) pe_int (nomark _)) pa_nil))) (pa_cons (pe_callB (call_max2 rfl) (by rfl) T.max bt_max (pa_cons pe_int (pa_cons (pe_op op_sub (pv 7) pe_int) pa_nil))) pa_nil))))))))
        (pss_cons (ps_set (i := 9) sc_law_tree.nd rfl (.inl rfl) (pe_ix ix_list (pv 8) (pv 4) (fun _ _ => rfl)))
        (pss_cons (ps_set (i := 10) sc_law_tree.nd rfl (.inl rfl) (pe_op op_add pe_int (pe_ix ix_list (pe_lst (pa_cons (pe_c C_law_next hr (by decide) rfl (pa_cons (pv 0) (pa_cons (pe_op op_pow pe_int pe_int) pa_nil))) (pa_cons pe_int (pa_cons (pe_c C_law_next hr (by decide) rfl (pa_cons (pv 0) (pa_cons pe_int pa_nil))) (pa_cons (pe_op op_sub (pe_op op_pow pe_int pe_int) pe_int) pa_nil))))) (pv 5) (fun _ _ => rfl))))
        (pss_cons (ps_set (i := 11) sc_law_tree.nd rfl (.inl rfl) (pe_ix ix_list (pe_lst (pa_cons (pe_tup (pa_cons (pe_ix ix_list (pv 3) (pv 9) (fun _ _ => rfl)) (pa_cons (pe_ix ix_list (pv 3) (pv 7) (fun _ _ => rfl)) pa_nil))) (pa_cons (pe_tup (pa_cons (pe_ix ix_list (pv 3) (pv 7) (fun _ _ => rfl)) (pa_cons (pe_ix ix_list (pv 3) (pv 9) (fun _ _ => rfl)) pa_nil))) pa_nil))) (pe_c C_law_next hr (by decide) rfl (pa_cons (pv 0) (pa_cons pe_int pa_nil))) (fun _ _ => rfl)))
        (pss_one (ps_expr (pe_bm PySem.F.plainAttrs_list PySem.F.slot_list_append PySem.F.type_list_append mt_append (pv 6) (pa_cons (pe_op op_catA (pv 11) (pe_tup (pa_cons (pv 10) pa_nil))) pa_nil)))))))))
      (pss_cons (ps_set (i := 12) sc_law_tree.nd rfl (.inr rfl) (pe_callTy call_list_of (by rfl) T.list bt_list (pa_cons (pv 3) pa_nil)))
      (pss_cons (ps_setLc (i := 13) (own := [("k", 7)]) (g := gName 7) (tt := tYes) rfl sc_law_tree.nd rfl rfl (sw_true rfl rfl rfl (by decide +kernel)) (pi_range1 (by rfl) T.range (pa_cons (pv 2) pa_nil)) (blkOk_by (N := N_law_tree) (sc := defScope s_law_tree) (by decide +kernel)) (fun _ _ _ _ _ => pg_name (i := 7) sc_law_tree.nd rfl (Or.inl rfl)) (fun _ _ _ _ _ => pts_nil) (fun _ _ _ _ _ => (show PE _ _ (tBM K "list" rPopAt _ _) from pe_bm PySem.F.plainAttrs_list PySem.F.slot_list_pop PySem.F.type_list_pop mt_popAt (pv 12) (pa_cons (pe_c C_law_next hr (by decide) rfl (pa_cons (pv 0) (pa_cons (pe_callB (lenK (K := K)) (by rfl) T.len bt_len (pa_cons (pv 12) pa_nil)) pa_nil))) pa_nil))))
      (pss_cons (ps_setLc (i := 14) (own := [("k", 7)]) (g := gName 7) (tt := tYes) rfl sc_law_tree.nd rfl rfl (sw_true rfl rfl rfl (by decide +kernel)) (pi_range1 (by rfl) T.range (pa_cons (pe_op op_sub (pv 2) pe_int) pa_nil)) (blkOk_by (N := N_law_tree) (sc := defScope s_law_tree) (by decide +kernel)) (fun _ _ _ _ _ => pg_name (i := 7) sc_law_tree.nd rfl (Or.inl rfl)) (fun _ _ _ _ _ => pts_nil) (fun _ _ _ _ _ => (show PE _ _ (tBM K "list" rPopAt _ _) from pe_bm PySem.F.plainAttrs_list PySem.F.slot_list_pop PySem.F.type_list_pop mt_popAt (pv 6) (pa_cons (pe_c C_law_next hr (by decide) rfl (pa_cons (pv 0) (pa_cons (pe_callB (lenK (K := K)) (by rfl) T.len bt_len (pa_cons (pv 6) pa_nil)) pa_nil))) pa_nil))))
      (pss_one (ps_ret (pe_tup (pa_cons (pe_tupleOf (by rfl) T.tuple (pe_ix ix_list (pe_lst (pa_cons (pv 13) (pa_cons (pv 3) pa_nil))) (pe_c C_law_next hr (by decide) rfl (pa_cons (pv 0) (pa_cons pe_int pa_nil))) (fun _ _ => rfl))) (pa_cons (pe_tupleOf (by rfl) T.tuple (pv 14)) pa_nil)))))))))))))), ?_⟩
    -- many
    refine ⟨_, rfl, _, rfl, d, c, n, most, rfl, hD, by omega, by omega, by omega, fun H1 r1 r10 r11 S1 D1 => ?_⟩
    refine ⟨_, _, rfl, rfl, _, rfl, _, rfl, d, c, _, 4, rfl, D1, by omega, by decide, by decide, fun H2 r2 r20 r21 S2 D2 => ?_⟩
    refine ⟨_, _, rfl, rfl, (by show 3 ≤ sizeLine; decide), fun p1 np1 => ?_⟩
    refine ⟨_, rfl, d, c, _, 3, rfl, D2.new np1, by omega, by decide, by decide, fun H3 r3 r30 r31 S3 D3 => ?_⟩
    have hp1 := S3 p1 _ (D2.nd np1) upd_same
    have SM3 : SmX d H H3 := ((S1.trans S2).new np1).trans S3
    obtain ⟨v, hv, mv⟩ := atI_in (xs := [V.int (1 + r1), .int most, .int (1 + r2)]) r30 (by simpa using r31)
    have hs : ∃ m : Nat, v = .int m ∧ 1 ≤ m ∧ m ≤ 30 ∧ m ≤ max most 4 := by
      simp only [List.mem_cons, List.not_mem_nil, or_false] at mv
      rcases mv with e | e | e
      · exact ⟨(1 + r1).toNat, by rw [e]; congr 1; omega, by omega, by omega, by omega⟩
      · exact ⟨most, e, by omega, by omega, by omega⟩
      · exact ⟨(1 + r2).toNat, by rw [e]; congr 1; omega, by omega, by omega, by omega⟩
    obtain ⟨many, rfl, m1, m30, mm⟩ := hs
    refine ⟨p1, _, r3, _, rfl, rfl, SqL.of hp1, hv, ?_⟩
    -- names
    refine ⟨_, rfl, _, rfl, d, c, _, many, rfl, D3, by omega, m30, fun H4 p ls np npd npc hN4 hl nd ok S4 D4 => ?_⟩
    have SM4 : SmX d H H4 := SM3.trans S4
    have np0 : H p = none := SM3.free np npd
    -- way, long
    refine ⟨_, rfl, d, c, _, 6, rfl, D4, by omega, by decide, by decide, fun H5 way w0 w1 S5 D5 => ?_⟩
    have hN5 : NamesAt H5 p ls := S5 p _ npd hN4
    refine ⟨_, rfl, d, c, _, 4, rfl, D5, by omega, by decide, by decide, fun H6 long g0 g1 S6 D6 => ?_⟩
    have hN6 : NamesAt H6 p ls := S6 p _ npd hN5
    have SM6 : SmX d H H6 := (SM4.trans S5).trans S6
    -- ties
    refine ⟨Nat.zero_le _, fun t nt => ?_⟩
    have ntd : t ≠ d := D6.nd nt
    have ntc : t ≠ c := D6.nc nt
    have ntp : p ≠ t := ne_of_none hN6 nt
    have nt0 : H t = none := SM6.free nt ntd
    have hk0 : 0 < ls.length := by omega
    -- the loop
    refine ⟨fun σ' H' => ∃ (x7 x8 x9 x10 x11 : Option V) (tvs : List V) (ts : List Tie), σ' = [some (.ref d), some (.int most), some (.int many), some (.ref p), some (.int way), some (.int long), some (.ref t), x7, x8, x9, x10, x11, none, none, none] ∧ Grown ls ts ∧ Tr K H H' d c p t (n + 726) ls tvs ts, ?_, fun σ' H' hM => ?_⟩
    · refine ⟨_, rfl, 1, many, rfl, ⟨by decide, by decide, by omega, by omega⟩, ?_⟩
      refine for_range (lo := 1) (n := ((many : Int) - 1).toNat) (fun i σ' H' => ∃ (x7 x8 x9 x10 x11 : Option V) (tvs : List V) (ts : List Tie), σ' = [some (.ref d), some (.int most), some (.int many), some (.ref p), some (.int way), some (.int long), some (.ref t), x7, x8, x9, x10, x11, none, none, none] ∧ Grown (ls.take (i + 1)) ts ∧ Tr K H H' d c p t (n + 605 + 4 * i) ls tvs ts) ⟨none, none, none, none, none, [], [], rfl, ?_, ?_, upd_same, .nil, SM6.new nt, (D6.new nt).mono (by omega)⟩ (fun i σ' H' hi hP => ?_) (fun σ' H' hP => ?_)
      · cases ls with
        | nil => exact absurd hk0 (by decide)
        | cons a r => exact Grown.one a
      · unfold NamesAt
        rw [upd_ne ntp]
        exact hN6
      · obtain ⟨x7, x8, x9, x10, x11, tvs, ts, rfl, hG, X0⟩ := hP
        have hi' : i + 1 < many := by omega
        -- some
        refine ⟨_, rfl, _, _, rfl, rfl, _, rfl, _, rfl, d, c, _, _, rfl, X0.dk, by omega, by omega, by omega, fun H7 a a0 a1 S7 D7 => ?_⟩
        have X7 := X0.step npd ntd S7 D7
        refine ⟨_, rfl, _, _, rfl, rfl, _, _, rfl, rfl, ⟨by decide, by decide⟩, _, rfl, _, _, rfl, rfl, _, rfl, _, _, rfl, rfl, (by show (0 : Int) < _; decide), rfl, .inr ⟨_, rfl, _, _, rfl, rfl, _, rfl, _, _, rfl, rfl, _, _, rfl, (by show 6 ≤ sizeLine; decide), fun p8 np8 => ?_⟩⟩
        have X8 := X7.new (o := .lst [V.int (1 + (i : Int) - 1), .int 0, .int a, .int ((1 + (i : Int) - 1) / 2), .int (1 + (i : Int) - 1 - if decide (V.int ((1 + (i : Int)) % 2) = V.int 0) = true then 1 else 0), .int (if 1 + (i : Int) - 2 > 0 then 1 + (i : Int) - 2 else 0)]) np8
        obtain ⟨v, hv, mv⟩ := atI_in (xs := [V.int (1 + (i : Int) - 1), .int 0, .int a, .int ((1 + (i : Int) - 1) / 2), .int (1 + (i : Int) - 1 - if decide (V.int ((1 + (i : Int)) % 2) = V.int 0) = true then 1 else 0), .int (if 1 + (i : Int) - 2 > 0 then 1 + (i : Int) - 2 else 0)]) w0 (by simpa using w1)
        have hs : ∃ m : Nat, v = .int m ∧ m < i + 1 := by
          simp only [List.mem_cons, List.not_mem_nil, or_false] at mv
          rcases mv with e | e | e | e | e | e
          · exact ⟨i, by rw [e]; congr 1; omega, by omega⟩
          · exact ⟨0, e, by omega⟩
          · exact ⟨a.toNat, by rw [e]; congr 1; omega, by omega⟩
          · exact ⟨i / 2, by rw [e]; congr 1; omega, by omega⟩
          · by_cases z : (1 + (i : Int)) % 2 = 0
            · rw [z, if_pos (by decide)] at e
              exact ⟨i - 1, by rw [e]; congr 1; omega, by omega⟩
            · rw [if_neg (fun y => z (V.int.inj (of_decide_eq_true y)))] at e
              exact ⟨i, by rw [e]; congr 1; omega, by omega⟩
          · by_cases z : 1 + (i : Int) - 2 > 0
            · rw [if_pos z] at e
              exact ⟨i - 1, by rw [e]; congr 1; omega, by omega⟩
            · rw [if_neg z] at e
              exact ⟨0, e, by omega⟩
        obtain ⟨at', rfl, hat⟩ := hs
        refine ⟨_, rfl, _, rfl, p8, _, way, _, rfl, rfl, SqL.of upd_same, hv, ?_⟩
        -- length
        refine ⟨_, rfl, _, _, rfl, rfl, ⟨by decide, by decide, by decide⟩, d, c, _, _, rfl, X8.dk, by omega, by decide, by decide, fun H9 u u0 u1 S9 D9 => ?_⟩
        have X9 := X8.step npd ntd S9 D9
        refine ⟨_, rfl, d, c, _, 3, rfl, X9.dk, by omega, by decide, by decide, fun H10 u' u0' u1' S10 D10 => ?_⟩
        have X10 := X9.step npd ntd S10 D10
        refine ⟨_, _, rfl, rfl, ⟨by decide, by decide, by decide⟩, _, _, rfl, rfl, (by show 4 ≤ sizeLine; decide), fun p9 np9 => ?_⟩
        have X11 := X10.new (o := .lst [V.int u, .int 0, .int u', .int (10 ^ (6 : Int).toNat - 1)]) np9
        obtain ⟨v, hv, mv⟩ := atI_in (xs := [V.int u, .int 0, .int u', .int (10 ^ (6 : Int).toNat - 1)]) g0 (by simpa using g1)
        have hs : ∃ m : Int, v = .int m ∧ 0 ≤ m ∧ m < 1000000 := by
          have e6 : (10 : Int) ^ (6 : Int).toNat = 1000000 := by decide
          rw [e6] at mv u1
          simp only [List.mem_cons, List.not_mem_nil, or_false] at mv
          rcases mv with e | e | e | e
          · exact ⟨u, e, u0, u1⟩
          · exact ⟨0, e, by omega, by omega⟩
          · exact ⟨u', e, by omega, by omega⟩
          · exact ⟨999999, e, by omega, by omega⟩
        obtain ⟨lg, rfl, lg0, lg1⟩ := hs
        refine ⟨_, rfl, p9, _, long, _, rfl, rfl, SqL.of upd_same, hv, _, _, rfl, rfl, ?_⟩
        -- ends
        have la : at' < ls.length := by omega
        have lk : i + 1 < ls.length := by omega
        have ga : ((ls.map S).map V.str)[at']? = some (.str (S ls[at'])) := by
          rw [List.getElem?_map, List.getElem?_map, List.getElem?_eq_getElem la]
          rfl
        have gk : ((ls.map S).map V.str)[i + 1]? = some (.str (S ls[i + 1])) := by
          rw [List.getElem?_map, List.getElem?_map, List.getElem?_eq_getElem lk]
          rfl
        have ek : 1 + (i : Int) = ((i + 1 : Nat) : Int) := by omega
        refine ⟨_, rfl, _, rfl, p, _, at', _, rfl, rfl, SqL.of X11.nm, atI_nat ga, _, rfl, _, rfl, p, _, 1 + (i : Int), _, rfl, rfl, SqL.of X11.nm, at_of ek gk, (by show 2 ≤ sizeLine; decide), fun e1 ne1 => ?_⟩
        have X12 := X11.new (o := .tup [.str (S ls[at']), .str (S ls[i + 1])]) ne1
        refine ⟨_, rfl, _, rfl, p, _, 1 + (i : Int), _, rfl, rfl, SqL.of X12.nm, at_of ek gk, _, rfl, _, rfl, p, _, at', _, rfl, rfl, SqL.of X12.nm, atI_nat ga, (by show 2 ≤ sizeLine; decide), fun e2 ne2 => ?_⟩
        have X13 := X12.new (o := .tup [.str (S ls[i + 1]), .str (S ls[at'])]) ne2
        refine ⟨(by show 2 ≤ sizeLine; decide), fun p10 np10 => ?_⟩
        have X14 := X13.new (o := .lst [.ref e1, .ref e2]) np10
        refine ⟨_, rfl, d, c, _, 2, rfl, X14.dk, by omega, by decide, by decide, fun H15 b b0 b1 S15 D15 => ?_⟩
        have X15 := X14.step npd ntd S15 D15
        have h1 : H15 e1 = some (.tup [.str (S ls[at']), .str (S ls[i + 1])]) := S15 e1 _ (X11.dk.nd ne1) (by rw [upd_ne (ne_of_none (by rw [upd_ne (ne_of_none upd_same ne2)]; exact upd_same) np10), upd_ne (ne_of_none upd_same ne2)]; exact upd_same)
        have h2 : H15 e2 = some (.tup [.str (S ls[i + 1]), .str (S ls[at'])]) := S15 e2 _ (X12.dk.nd ne2) (by rw [upd_ne (ne_of_none upd_same np10)]; exact upd_same)
        have h3 : H15 p10 = some (.lst [.ref e1, .ref e2]) := S15 p10 _ (X13.dk.nd np10) upd_same
        obtain ⟨v, hv, mv⟩ := atI_in (xs := [V.ref e1, .ref e2]) b0 (by simpa using b1)
        have hs : ∃ (e : Addr) (xa xb : Nm), v = .ref e ∧ H15 e = some (.tup [.str (S xa), .str (S xb)]) ∧ ((xa = ls[at'] ∧ xb = ls[i + 1]) ∨ (xa = ls[i + 1] ∧ xb = ls[at'])) := by
          simp only [List.mem_cons, List.not_mem_nil, or_false] at mv
          rcases mv with e | e
          · exact ⟨e1, _, _, e, h1, .inl ⟨rfl, rfl⟩⟩
          · exact ⟨e2, _, _, e, h2, .inr ⟨rfl, rfl⟩⟩
        obtain ⟨e, xa, xb, rfl, he, hab⟩ := hs
        refine ⟨p10, _, b, _, rfl, rfl, SqL.of h3, hv, ?_⟩
        -- ties.append(ends + (length,))
        refine ⟨_, rfl, .inl ⟨rfl, _, SqL.of X15.tt⟩, _, rfl, _, rfl, (by show 1 ≤ sizeLine; decide), fun e3 ne3 => ?_⟩
        have X16 := X15.new (o := .tup [.int (1 + lg)]) ne3
        refine ⟨e, e3, [.str (S xa), .str (S xb)], [.int (1 + lg)], rfl, rfl, .inl (.inl (by rw [upd_ne (ne_of_none he ne3)]; exact he)), .inl (.inl upd_same), (by show 3 ≤ sizeLine; decide), (fun z => nomatch z), (fun _ z => nomatch z), fun _ _ e4 ne4 => ?_⟩
        have X17 := X16.new (o := .tup ([.str (S xa), .str (S xb)] ++ [.int (1 + lg)])) ne4
        have tl : tvs.length = ts.length := by
          have := DtAll.len X17.al
          rwa [List.length_map] at this
        have gl := hG.len
        rw [List.length_take] at gl
        refine ⟨t, tvs, _, rfl, rfl, X17.tt, sz_lt (by omega), ?_⟩
        refine ⟨_, _, _, _, _, tvs ++ [.ref e4], ts ++ [(xa, xb, 1 + lg)], rfl, ?_, ?_, upd_same, ?_, X17.sm.put nt0, (X17.dk.put ntd ntc).mono (by omega)⟩
        · have e5 : ls.take (i + 1 + 1) = ls.take (i + 1) ++ [ls[i + 1]] := by
            rw [List.take_add_one, List.getElem?_eq_getElem lk]
            rfl
          rw [e5]
          refine Grown.leaf (a := ls[at']) (k := 1 + lg) hG ?_ ?_ ?_ (by omega) (by omega)
          · exact List.mem_take_iff_getElem.mpr ⟨at', by omega, rfl⟩
          · intro hm
            obtain ⟨j, hj, ej⟩ := List.mem_take_iff_getElem.mp hm
            have := (List.getElem_inj nd).mp ej
            omega
          · rcases hab with ⟨z1, z2⟩ | ⟨z1, z2⟩ <;> rw [z1, z2]
            · exact .inl rfl
            · exact .inr rfl
        · unfold NamesAt
          rw [upd_ne ntp]
          exact X17.nm
        · rw [List.map_append]
          have tk : TK (upd (upd H15 e3 (.tup [.int (1 + lg)])) e4 (.tup ([.str (S xa), .str (S xb)] ++ [.int (1 + lg)]))) (upd (upd (upd H15 e3 (.tup [.int (1 + lg)])) e4 (.tup ([.str (S xa), .str (S xb)] ++ [.int (1 + lg)]))) t (.lst (tvs ++ [.ref e4]))) := TK.mut X17.tt
          refine DtAll.app (DtAll.keep tk X17.al) (.cons (.tup (tk _ _ upd_same) (.cons (.str _) (.cons (.str _) (.cons (.int _) .nil)))) .nil)
      · obtain ⟨x7, x8, x9, x10, x11, tvs, ts, rfl, hG, X0⟩ := hP
        refine ⟨_, _, _, _, _, tvs, ts, rfl, ?_, X0.nm, X0.tt, X0.al, X0.sm, X0.dk.mono (by omega)⟩
        have : ls.take (((many : Int) - 1).toNat + 1) = ls := List.take_of_length_le (by omega)
        rwa [this] at hG
    · obtain ⟨x7, x8, x9, x10, x11, tvs, ts, rfl, hG, X0⟩ := hM
      -- left
      refine ⟨_, rfl, p, _, rfl, .inl (SqL.of X0.nm), fun lf nlf => ?_⟩
      have X1 := X0.new (o := .lst ((ls.map S).map V.str)) nlf
      have lfd := X0.dk.nd nlf
      have lfc := X0.dk.nc nlf
      have lf0 : H lf = none := X0.sm.free nlf lfd
      have lfp : lf ≠ p := (ne_of_none X0.nm nlf).symm
      have lft : lf ≠ t := (ne_of_none X0.tt nlf).symm
      -- places
      refine ⟨_, rfl, (many : Int), rfl, by omega, by omega, fun D nD => ?_⟩
      have Dd := X1.dk.nd nD
      have Dc := X1.dk.nc nD
      have D0 : H D = none := X1.sm.free nD Dd
      have Dp' : D ≠ p := (ne_of_none X1.nm nD).symm
      have DNt : D ≠ t := (ne_of_none X1.tt nD).symm
      have Dlf : D ≠ lf := (ne_of_none upd_same nD).symm
      refine lc_range (lo := 0) (n := (many : Int).toNat) (fun i H'' => ∃ l1 l2 : List Nm, l1.length = i ∧ (l1 ++ l2).Perm ls ∧ H'' D = some (.lst ((l1.map S).map V.str)) ∧ H'' lf = some (.lst ((l2.map S).map V.str)) ∧ Tr K H H'' d c p t (n + 726 + i) ls tvs ts)
        ⟨[], ls, rfl, List.Perm.refl _, upd_same, by rw [upd_ne Dlf.symm]; exact upd_same, X1.new nD⟩ (fun i H'' hi hP => ?_) (fun H'' hP => ?_)
      · obtain ⟨l1, l2, hl1, pm, hD, hlf, X2⟩ := hP
        have ll := pm.length_eq
        rw [List.length_append] at ll
        refine ⟨rfl, _, rfl, .inl ⟨rfl, _, SqL.of hlf⟩, _, rfl, _, rfl, .ref lf, _, rfl, .inl ⟨_, SqL.of hlf, rfl⟩, d, c, _, _, rfl, X2.dk, by omega, by rw [List.length_map, List.length_map]; omega, by rw [List.length_map, List.length_map]; omega, fun H3 r r0 r1 S3 D3 => ?_⟩
        have X3 := X2.step npd ntd S3 D3
        have hD3 := S3 D _ Dd hD
        have hlf3 := S3 lf _ lfd hlf
        rw [List.length_map, List.length_map] at r1
        have hx : l2[r.toNat]? = some (l2[r.toNat]'(by omega)) := List.getElem?_eq_getElem (by omega)
        generalize l2[r.toNat]'(by omega) = x at hx
        have hx' : ((l2.map S).map V.str)[r.toNat]? = some (.str (S x)) := by
          rw [List.getElem?_map, List.getElem?_map, hx]
          rfl
        refine ⟨lf, _, r, r.toNat, .str (S x), rfl, rfl, hlf3, by omega, by omega, seq_ix r0 (by rw [List.length_map, List.length_map]; exact r1), hx', ?_⟩
        have X4 := X3.put (o := .lst (((l2.map S).map V.str).eraseIdx r.toNat)) lfp lft lfd lfc lf0 hlf3
        have hD4 : (upd H3 lf (.lst (((l2.map S).map V.str).eraseIdx r.toNat))) D = some (.lst ((l1.map S).map V.str)) := by
          rw [upd_ne Dlf]
          exact hD3
        refine ⟨_, hD4, by rw [List.length_map, List.length_map]; exact sz_lt (by omega), l1 ++ [x], l2.eraseIdx r.toNat, by rw [List.length_append, hl1]; rfl, perm_pick pm hx, ?_, ?_, X4.put Dp' DNt Dd Dc D0 hD4⟩
        · rw [upd_same, List.map_append, List.map_append]
          rfl
        · rw [upd_ne Dlf.symm, upd_same, map_erase, map_erase]
      · obtain ⟨l1, l2, hl1, pm, hD, hlf, X2⟩ := hP
        have ll := pm.length_eq
        rw [List.length_append] at ll
        have e2 : l2 = [] := List.length_eq_zero_iff.mp (by omega)
        subst e2
        rw [List.append_nil] at pm
        have gl := hG.len
        -- mixed
        refine ⟨_, rfl, _, _, rfl, rfl, (many : Int) - 1, rfl, by omega, by omega, fun G nG => ?_⟩
        have Gd := X2.dk.nd nG
        have Gc := X2.dk.nc nG
        have G0 : H G = none := X2.sm.free nG Gd
        have Gp : G ≠ p := (ne_of_none X2.nm nG).symm
        have Gt : G ≠ t := (ne_of_none X2.tt nG).symm
        have GD : G ≠ D := (ne_of_none hD nG).symm
        refine lc_range (lo := 0) (n := ((many : Int) - 1).toNat) (fun i H'' => ∃ (ts1 ts2 : List Tie) (vs1 vs2 : List V), ts1.length = i ∧ (ts1 ++ ts2).Perm ts ∧ H'' D = some (.lst ((l1.map S).map V.str)) ∧ H'' G = some (.lst vs1) ∧ DtAll H'' vs1 (ts1.map tieD) ∧ Tr K H H'' d c p t (n + 756 + i) ls vs2 ts2)
          ⟨[], ts, [], tvs, rfl, List.Perm.refl _, by rw [upd_ne GD.symm]; exact hD, upd_same, .nil, ?_⟩ (fun i H3 hi hP => ?_) (fun H3 hP => ?_)
        · have := X2.new (o := .lst []) nG
          exact ⟨this.nm, this.tt, this.al, this.sm, this.dk.mono (by omega)⟩
        · obtain ⟨ts1, ts2, vs1, vs2, hl1', pm', hD3, hG3, hA3, X3⟩ := hP
          have ll' := pm'.length_eq
          rw [List.length_append] at ll'
          have v2 : vs2.length = ts2.length := by
            have := DtAll.len X3.al
            rwa [List.length_map] at this
          have v1 : vs1.length = ts1.length := by
            have := DtAll.len hA3
            rwa [List.length_map] at this
          refine ⟨rfl, _, rfl, .inl ⟨rfl, _, SqL.of X3.tt⟩, _, rfl, _, rfl, .ref t, _, rfl, .inl ⟨_, SqL.of X3.tt, rfl⟩, d, c, _, _, rfl, X3.dk, by omega, by omega, by omega, fun H4 r r0 r1 S4 D4 => ?_⟩
          have X4 := X3.step npd ntd S4 D4
          have hD4 := S4 D _ Dd hD3
          have hG4 := S4 G _ Gd hG3
          have hA4 := DtAll.keep (X3.dk.tk S4) hA3
          have hy : vs2[r.toNat]? = some (vs2[r.toNat]'(by omega)) := List.getElem?_eq_getElem (by omega)
          generalize vs2[r.toNat]'(by omega) = y at hy
          obtain ⟨dy, hdy, hDy⟩ := DtAll.get X4.al hy
          have hx : ts2[r.toNat]? = some (ts2[r.toNat]'(by omega)) := List.getElem?_eq_getElem (by omega)
          generalize ts2[r.toNat]'(by omega) = x at hx
          have edy : dy = tieD x := by
            rw [List.getElem?_map, hx] at hdy
            exact (Option.some.inj hdy).symm
          subst edy
          refine ⟨t, _, r, r.toNat, y, rfl, rfl, X4.tt, by omega, by omega, seq_ix r0 r1, hy, ?_⟩
          have X5 := X4.take (k := r.toNat) ntp ntd ntc nt0
          have hG5 : (upd H4 t (.lst (vs2.eraseIdx r.toNat))) G = some (.lst vs1) := by
            rw [upd_ne Gt]
            exact hG4
          have hD5 : (upd H4 t (.lst (vs2.eraseIdx r.toNat))) D = some (.lst ((l1.map S).map V.str)) := by
            rw [upd_ne DNt]
            exact hD4
          have tk : TK H4 (upd (upd H4 t (.lst (vs2.eraseIdx r.toNat))) G (.lst (vs1 ++ [y]))) := (TK.mut X4.tt).trans (TK.mut hG5)
          refine ⟨_, hG5, sz_lt (by omega), ts1 ++ [x], ts2.eraseIdx r.toNat, vs1 ++ [y], vs2.eraseIdx r.toNat, by rw [List.length_append, hl1']; rfl, perm_pick pm' hx, by rw [upd_ne GD.symm]; exact hD5, upd_same, ?_, X5.put Gp Gt Gd Gc G0 hG5⟩
          rw [List.map_append]
          exact DtAll.app (DtAll.keep tk hA4) (.cons (Dt.keep tk hDy) .nil)
        · obtain ⟨ts1, ts2, vs1, vs2, hl1', pm', hD3, hG3, hA3, X3⟩ := hP
          have ll' := pm'.length_eq
          rw [List.length_append] at ll'
          have e2 : ts2 = [] := List.length_eq_zero_iff.mp (by omega)
          subst e2
          rw [List.append_nil] at pm'
          -- return
          refine ⟨_, rfl, _, rfl, (by show 2 ≤ sizeLine; decide), fun p20 np20 => ?_⟩
          have X4 := X3.new (o := .lst [.ref D, .ref p]) np20
          refine ⟨_, rfl, d, c, _, 2, rfl, X4.dk, by omega, by decide, by decide, fun H5 b b0 b1 S5 D5 => ?_⟩
          have X5 := X4.step npd ntd S5 D5
          have hD5 : H5 D = some (.lst ((l1.map S).map V.str)) := S5 D _ Dd (by rw [upd_ne (ne_of_none hD3 np20)]; exact hD3)
          have hG5 : H5 G = some (.lst vs1) := S5 G _ Gd (by rw [upd_ne (ne_of_none hG3 np20)]; exact hG3)
          have hA5 : DtAll H5 vs1 (ts1.map tieD) := DtAll.keep ((TK.new np20).trans (X4.dk.tk S5)) hA3
          obtain ⟨v, hv, mv⟩ := atI_in (xs := [V.ref D, .ref p]) b0 (by simpa using b1)
          have hs : ∃ (e : Addr) (pl : List Nm), v = .ref e ∧ H5 e = some (.lst ((pl.map S).map V.str)) ∧ pl.Perm ls := by
            simp only [List.mem_cons, List.not_mem_nil, or_false] at mv
            rcases mv with e | e
            · exact ⟨D, l1, e, hD5, pm⟩
            · exact ⟨p, ls, e, X5.nm, List.Perm.refl _⟩
          obtain ⟨e, pl, rfl, he, hpl⟩ := hs
          refine ⟨p20, _, b, _, rfl, rfl, SqL.of (S5 p20 _ (X3.dk.nd np20) upd_same), hv, .inl ⟨e, _, rfl, SqL.of he, fun q1 nq1 => ?_⟩⟩
          have X6 := X5.new (o := .tup ((pl.map S).map V.str)) nq1
          refine ⟨_, rfl, .inl ⟨G, vs1, rfl, SqL.of (by rw [upd_ne (ne_of_none hG5 nq1)]; exact hG5), fun q2 nq2 => ?_⟩⟩
          have X7 := X6.new (o := .tup vs1) nq2
          refine ⟨(by show 2 ≤ sizeLine; decide), fun q3 nq3 => ?_⟩
          have X8 := X7.new (o := .tup [.ref q1, .ref q2]) nq3
          have tk1 : TK (upd H5 q1 (.tup ((pl.map S).map V.str))) (upd (upd (upd H5 q1 (.tup ((pl.map S).map V.str))) q2 (.tup vs1)) q3 (.tup [.ref q1, .ref q2])) := (TK.new nq2).trans (TK.new nq3)
          have tk2 : TK (upd (upd H5 q1 (.tup ((pl.map S).map V.str))) q2 (.tup vs1)) (upd (upd (upd H5 q1 (.tup ((pl.map S).map V.str))) q2 (.tup vs1)) q3 (.tup [.ref q1, .ref q2])) := TK.new nq3
          have tk0 : TK H5 (upd (upd (upd H5 q1 (.tup ((pl.map S).map V.str))) q2 (.tup vs1)) q3 (.tup [.ref q1, .ref q2])) := (TK.new nq1).trans tk1
          refine q _ q3 pl ts1 ⟨ls, ts, hG, hpl, pm'⟩ (fun l hl => ok l (hpl.mem_iff.mp hl)) (by rw [hpl.length_eq]; omega) (.tup upd_same (.cons (.tup (tk1 _ _ upd_same) ?_) (.cons (.tup (tk2 _ _ upd_same) (DtAll.keep tk0 hA5)) .nil))) X8.sm (X8.dk.mono (by omega))
          exact dt_strs _ pl
end
end Far

namespace Far
open PySem PySem.Spec PyProof.Rows L2
section
variable {X : Cx}
theorem countU {x : V} : ∀ {ys : List V} {us : List Value}, Vals ys us → ys.all flatV = true → us.countP (eqU x) = ys.countP (fun y => eqV y x)
  | _, _, .nil, _ => rfl
  | y :: ys, u :: us, .cons r t, f => by
    rw [List.all_cons, Bool.and_eq_true] at f
    rw [List.countP_cons, List.countP_cons, eqU_of r f.1, countU t f.2]
/-- list.count of a flat value in a list of flat values -/
def rCountV (K : PySem.W.Frag) : V → List V → Hp → VK → Prop := fun x xs H Q => ∃ (p : Addr) (ys : List V) (y : V), x = .ref p ∧ xs = [y] ∧ SqL K H p ys ∧ flatV y = true ∧ ys.all flatV = true ∧ Q (.int (ys.countP (fun z => eqV z y) : Nat)) H
theorem mt_countV {K : PySem.W.Frag} (eK : X.K = K := by rfl) : MtR X "list.count" (rCountV K) := by
  subst eK
  intro pins s σ H x xs v us Q I rx rxs h
  obtain ⟨p, ys, y, rfl, rfl, hs, fy, fys, q⟩ := h
  cases rx
  obtain ⟨u, rfl, ru⟩ := rxs.one
  obtain ⟨its, rv, ⟨⟨cl, di, da, so⟩, n, ho, hc, hdn, hd⟩, hl⟩ := I.list hs
  simp only at hc hd
  subst hc hd
  refine call_meets PySem.F.slot_list_count ⟨_, ho, rfl⟩ PySem.F.entry_list_count (PySem.F.args_list_count_2 _ _) (SeqAt.list_countAt p its.toArray n di so u (eqU y)) ⟨ho, fun z hz => mem_eqAt ru fy rv fys z (by simpa using hz), ?_⟩
  refine ⟨.int (ys.countP (fun z => eqV z y) : Nat), H, I.tok _, ⟨s.toks, ?_⟩, q⟩
  have e : its.toArray.toList.countP (eqU y) = ys.countP (fun z => eqV z y) := countU rv fys
  rw [e]

/-! ### enumerate(xs, start=c) -/
theorem callWith_typeK {M : Model} {A : Around} {E : Value → Shared → Prop} {s : Shared} {pos : Pos} {T : String} {env : Env} {e : Expr} {rest : List Expr} {kws : List Keyword} {Q : Value → Shared → Prop}
    (h : wpAny M A (spliced (backTo pos (starEach (e :: rest) env))) (fun vs s1 => wpAny M A (evalAll ((backToKw pos (keywordEach kws env)).map (·.2)))
      (fun ws s2 => wpAny M A (call (.type T) vs (((backToKw pos (keywordEach kws env)).filterMap (·.1)).zip ws)) Q E s2) E s1) E s)
    (he : backTo pos (starEach (e :: rest) env) = (false, eval e env) :: backTo pos (starEach rest env) := by rfl)
    (hp : (backTo pos (starEach (e :: rest) env)).any (·.1) = false := by rfl)
    (ha : (backToKw pos (keywordEach kws env)).all (·.1.isSome) = true := by rfl)
    (hk : (backToKw pos (keywordEach kws env)).any (·.1.isNone) = false := by rfl) :
    wpAny M A (callWith pos (.type T) [] (backTo pos (starEach (e :: rest) env)) (backToKw pos (keywordEach kws env))) Q E s := by
  unfold callWith
  refine wpAny_bind (wpAny_holding (wpAny_mono (Q := fun a s1 => wpAny M A (call (.type T) ([] ++ a.pos) a.kw) Q E s1) ?_ (fun a s1 h1 => wpAny_bind (wpAny_standAt ?_)) fun _ _ x => x))
  · rw [he] at h ⊢
    exact evalArgs_kwB ha h
  · simp only [hp, hk, Bool.or_false]
    exact wpAny_bind (wpAny_pure (wpAny_bind (wpAny_mono h1 (fun r s2 hr => wpAny_bind (wpAny_holding (wpAny_point (wpAny_pure hr)))) fun _ _ x => x)))
/-- the pairs (c + i, item) of the list at a as it stands at each turn -/
def Ites (K : PySem.W.Frag) (a : Addr) (c : Int) : It :=
  ⟨fun i H => ∃ (xs : List V) (x : V), SqL K H a xs ∧ xs[i]? = some x,
   fun i H v H' => ∃ T x, v = .ref T ∧ H T = none ∧ H' = upd H T (.tup [.int (c + (i : Nat)), x]) ∧ ∀ xs, SqL K H a xs → xs[i]? = some x,
   fun i H => ∃ xs : List V, SqL K H a xs ∧ xs.length ≤ i⟩
theorem turn_enumS {P : Program} {w : World} {K : PySem.W.Frag} {elts : List Expr} {kk : Nat} {tpos : Pos} (a e it : Addr) (c : Int) :
    Turn P w K (.Tuple elts kk tpos) (Ites K a c) [e, it] e (fun i h => (∃ o, IsEnum h e it (c + ((i : Nat) : Int)) o) ∧ h.IsListIter it a i ∧ e ≠ it ∧ a ≠ it) where
  mem := by simp
  obj := fun i h st b hb => by
    obtain ⟨⟨o', he⟩, ⟨o, ho, hc, hd⟩, _⟩ := st
    rcases (show b = e ∨ b = it by simpa using hb) with rfl | rfl
    · exact ⟨_, he, fun v q => nomatch q⟩
    · exact ⟨o, ho, fun v q => by rw [hd] at q; cases q⟩
  keep := fun i h h' ⟨⟨o, he⟩, hi, hne⟩ k => ⟨⟨o, k e (by simp) _ he⟩, hi.at fun o q => k it (by simp) o q, hne⟩
  item := by
    intro X hP hw hK hc i pins s σ H E I hf st hg
    subst hP hw hK
    obtain ⟨⟨old, he⟩, hit, hne, hna⟩ := st
    obtain ⟨xs, x, hq, hx⟩ := hg
    obtain ⟨its, rv, p, hz⟩ := I.list hq
    obtain ⟨u, hu, ru⟩ := rv.get hx
    have hel : e < s.heap.objs.size := Heap.lt_size he
    have hil : it < s.heap.objs.size := by
      obtain ⟨_, q, _⟩ := hit
      exact Heap.lt_size q
    have hea : e ∉ [it, a] := by
      intro hm
      rcases List.mem_cons.mp hm with z | z
      · exact hne z
      · have z := List.mem_singleton.mp z
        obtain ⟨o, m, q, _⟩ := p.isList
        rw [← z, he] at m
        cases m
        have q : Value.type "enumerate" = Value.type "list" := q
        exact absurd q (by decide)
    have hlt : i < its.toArray.size := by
      have := (List.getElem?_eq_some_iff.mp hu).1
      simpa using this
    refine wpAny_pyNext_enum_itemC (Draws.list (A := X.A.in1) (I.ok.hd hc) it a hna its.toArray) he ⟨hit, p.isList⟩ hlt hne hea fun x' h' tk hx' ho hst' hT hsz hk => ?_
    have ex : x' = u := by
      have : its.toArray[i]? = some u := by simpa using hu
      exact Option.some.inj (hx'.symm.trans this)
    subst ex
    refine ⟨_, rfl, wpAny_letOwnedTupleGo_enum (s := { s with heap := h', toks := tk + 1 }) ho fun h2 he2 sb => ?_⟩
    have hT2 : h2.get? s.heap.objs.size = some { cls := .type "tuple", data := .seq #[.int (c + (i : Nat)) tk, x'] } := (sb.2 _ (Nat.ne_of_gt hel)).trans hT
    have new : ObjOk X.prog X.w (upd H s.heap.objs.size (.tup [.int (c + (i : Nat)), x])) h2 s.heap.objs.size (.tup [.int (c + (i : Nat)), x]) :=
      ⟨by show 2 ≤ sizeLine; decide, [.int (c + (i : Nat)) tk, x'], .cons ⟨_, rfl⟩ (.cons ru .nil), ⟨_, hT2, rfl, _, rfl⟩⟩
    have I1 : Inv X pins σ (upd H s.heap.objs.size (.tup [.int (c + (i : Nat)), x])) { s with heap := h2, toks := tk + 1 } :=
      I.turnedNew (ch := [e, it]) (fun b ob hb q => (sb.2 b (fun z => hb (by simp [z]))).trans (hk b ob (fun z => hb (by simp [z])) (fun z => hb (by simp [z])) q)) hf (Nat.le_refl _) new
    refine ⟨.ref s.heap.objs.size, _, I1, rfl, ⟨_, x, rfl, I.hok.fresh (Nat.le_refl _), rfl, fun ys hy => by rw [I.list_inj hy hq]; exact hx⟩, ⟨⟨x', ?_⟩, hst'.1.at fun o q => (sb.2 it (Ne.symm hne)).trans q, hne, hna⟩, fun b hb => ?_⟩
    · rw [show c + ((i + 1 : Nat) : Int) = c + (i : Nat) + 1 by omega]
      exact he2
    · have hb' : b < s.heap.objs.size := by
        rcases (show b = e ∨ b = it by simpa using hb) with z | z
        · rw [z]; exact hel
        · rw [z]; exact hil
      rw [upd_ne (Nat.ne_of_lt hb')]
      exact (hf b hb).1
  done := by
    intro X hP hw hK hc i pins s σ H E I hf st hg
    subst hP hw hK
    obtain ⟨⟨old, he⟩, hit, hne, hna⟩ := st
    obtain ⟨xs, hq, hx⟩ := hg
    obtain ⟨its, rv, p, hz⟩ := I.list hq
    obtain ⟨f0, f1, f2, f3, f4, f5⟩ := hf it (by simp)
    have hl := rv.length
    have D : Draws X.prog X.w X.A.in1 it [it, a] i (fun _ _ => True) (fun j h => (h.IsListIter it a j ∧ h.IsList a its.toArray) ∧ j = i) :=
      { live := fun _ _ st => let ⟨o, ho, _⟩ := st.1.1; ⟨o, ho⟩
        frame := fun _ _ _ st hk => ⟨⟨st.1.1.at fun o e => hk it (by simp) o e, st.1.2.at fun o e => hk a (by simp) o e⟩, st.2⟩
        item := fun j _ _ _ hj st _ => absurd st.2 (by omega)
        done := fun s Q E st hE => wpAny_nextOf_list_end (I.ok.hd hc) st.1.1 st.1.2 (by simp; omega) hE }
    exact wpAny_pyNext_enum_endD D he ⟨⟨hit, p.isList⟩, rfl⟩ fun h' eb => ⟨rfl, I.turned (t' := s.toks) (fun b o hb q => eb b o hb q) f0 f1 f3 f4 f5⟩
  self := fun A i s Q E st h => by
    obtain ⟨⟨_, he⟩, _⟩ := st
    exact wpAny_pyIter_enum he h
/-- for .. in enumerate(xs, start=c) -/
def iEnumS (K : PySem.W.Frag) (c : Int) (ta : TA) : TI := fun σ H R => ta σ H fun vs H1 => ∃ a xs, vs = [.ref a] ∧ SqL K H1 a xs ∧ R (Ites K a c) H1
theorem pi_enumS {e : Expr} {ta : TA} {p pos tpos kp cp : Pos} {elts : List Expr} {kk j : Nat} {c : Int} (hg : Gl X "enumerate") (hm : X.mg "enumerate" = none) (ha : PA X [e] ta) (c0 : -(2 ^ 63) ≤ c) (c1 : c < 2 ^ 63) (hs : starEach [e] X.env = [(false, eval e X.env)] := by rfl) :
    PI X (.Tuple elts kk tpos) (.Call (.Name "enumerate" p) [e] [⟨some (Str.ofString "start"), .Constant (.int c) j cp, kp⟩] pos) (iEnumS X.K c ta) := by
  refine ⟨fun pins s σ H R I h => ?_⟩
  show wpAny _ _ (eval (.Name "enumerate" p) X.env >>= _) _ _ _
  refine wpAny_bind (ld_blt I hg hm boot_enumerate (callWith_typeK (thn (ha.run pos pins s σ H _ I h) fun us s1 ⟨vs, H1, I1, r1, q1⟩ => kws_cons (wpAny_Constant_int (kws_nil ?_))) ?_ ?_ ?_ ?_))
  · obtain ⟨a, xs, ex, hq, q⟩ := q1
    subst ex
    cases r1 with
    | cons r rr =>
      cases rr
      cases r
      obtain ⟨its, rv, p', hz⟩ := I1.list hq
      show wpAny _ _ (call (.type "enumerate") [.ref a] [(Str.ofString "start", .int c s1.toks)]) _ _ _
      refine enum_begins_start (s := { s1 with toks := s1.toks + 1 }) (begins_list a its.toArray) p'.isList c0 c1 fun h' he hit hsz hk => wpAny_pyIter_enum he ?_
      have I2 : Inv X pins σ H1 { s1 with heap := h', toks := s1.toks + 1 } := I1.kept (t' := s1.toks + 1) hk
      have hal : a < s1.heap.objs.size := by
        obtain ⟨o, m, _⟩ := p'.isList
        exact Heap.lt_size m
      refine ⟨s1.heap.objs.size + 1, [s1.heap.objs.size + 1, s1.heap.objs.size], _, _, H1, rfl, I2, turn_enumS a (s1.heap.objs.size + 1) s1.heap.objs.size c, ⟨⟨.none, by simpa using he⟩, ⟨_, hit, rfl, rfl⟩, Nat.succ_ne_self _, Nat.ne_of_lt hal⟩, fun b hb => ?_, q⟩
      have hle : s1.heap.objs.size ≤ b := by
        rcases (show b = s1.heap.objs.size + 1 ∨ b = s1.heap.objs.size by simpa using hb) with z | z
        · rw [z]; exact Nat.le_add_right _ _
        · rw [z]; exact Nat.le_refl _
      exact I1.fpOk hle (I1.hok.fresh hle)
  · rw [hs]
    rfl
  · rw [hs]
    rfl
  all_goals rfl
end
end Far

namespace Far
open PySem PySem.Spec PyProof.Rows L2
section
variable {X : Cx}
/-- name = {k: v for ..} on one line, the name a local one -/
theorem ps_setDc {i : Nat} {y : Str} {py spos pos : Pos} {kx vx tg iter : Expr} {ifs : List Expr} {scope : Scope} {own : List (Str × Nat)} {wi : TI} {g : TG} {tt : TT} {tk tv : TE}
    (hc : X.calm = true) (hN : X.N.Nodup) (hy : X.N[i]? = some y) (hyl : X.env.scope.names.lookup y = some .local) (hsw : swapsWith (.DictComp kx vx [⟨tg, iter, ifs, 0⟩] scope pos) (some (.Name y py)) spos.line X.env = pure true)
    (hi : PI X tg iter wi) (ok : BlkOk X.N X.env.scope scope own)
    (hg : ∀ (s : Shared) (H : Hp) (C : Addr) (l : List (Str × Addr)) (fp : List Addr), PG (X.blk s H scope (compEnvC scope l C X.env) fp) tg g)
    (ht : ∀ (s : Shared) (H : Hp) (C : Addr) (l : List (Str × Addr)) (fp : List Addr), PTs (X.blk s H scope (compEnvC scope l C X.env) fp) ifs tt)
    (hk : ∀ (s : Shared) (H : Hp) (C : Addr) (l : List (Str × Addr)) (fp : List Addr), PE (X.blk s H scope (compEnvC scope l C X.env) fp) kx tk)
    (hv : ∀ (s : Shared) (H : Hp) (C : Addr) (l : List (Str × Addr)) (fp : List Addr), PE (X.blk s H scope (compEnvC scope l C X.env) fp) vx tv)
    (hs : ∀ x, foldedSetIterable iter X.env x = pure x := by intro _; rfl) : PS X (.Assign [.Name y py] (.DictComp kx vx [⟨tg, iter, ifs, 0⟩] scope pos) spos) (tAsg (tDc wi g tt tk tv (own.map (·.2))) (gName i)) := by
  refine ⟨fun pins s σ H D I h => ?_⟩
  replace h : tDc wi g tt tk tv (own.map (·.2)) σ H (fun v H1 => gName i v σ H1 D.nx) := h
  rw [exec_Assign_Name_used _ _ _ _ hsw]
  refine wpAny_bind (wpAny_standAt (wpAny_bind ?_))
  show wpAny _ X.A (do let _ ← comprehension (.DictComp kx vx [⟨tg, iter, ifs, 0⟩] scope pos) scope X.env (firstIterPos [⟨tg, iter, ifs, 0⟩] pos) newDict false (eval iter X.env) (some (assign (.Name y py) X.env))) _ _ s
  refine wpAny_bind (thn (dc_core (Qf := fun _ s1 => SP X pins D .next s1) hc hN I hi ok hg ht hk hv hs h fun L C s1 m H1 I1 q hn f => ?_) fun _ s1 z => wpAny_pure (wpAny_pure z))
  show wpAny _ _ (assign (.Name y py) X.env (.ref L)) _ _ _
  obtain ⟨f0, f1, f2, f3, f4, f5⟩ := f
  refine wpAny_assign_Name (store_ok2 (v := V.ref L) I1 hN hy (.inl hyl) rfl (fun s2 I2 ⟨a, sb, ha⟩ => ⟨m, hn.sameBut sb ?_, fun h3 sb3 => ?_⟩) (.inr hyl))
  · rcases ha with z | z
    · exact z ▸ f1
    · exact fun e => f4 y a z e.symm
  · exact ⟨_, H1, I2.turned (t' := s2.toks) (fun b o hb e => (sb3.2 b hb).trans e) f0 f1 f3 f4 f5, q⟩
theorem swD_true {kx vx : Expr} {gs : List Comprehension} {scope : Scope} {pos py : Pos} {y : Str} {l : Nat} {env : Env} (hk : env.scope.kind = .function) (hy : env.scope.names.lookup y = some .local) (hl : (py.line == pos.line) = true)
    (ha : (scope.names.any fun (n, k) => n == y && (k == .local || k == .cell)) = false) : swapsWith (.DictComp kx vx gs scope pos) (some (.Name y py)) l env = pure true := by
  have e1 : env.kindOf y = some .local := hy
  have e2 : env.blockKind = .function := by unfold Env.blockKind; rw [hk]; rfl
  unfold swapsWith
  simp only [e2, e1, ha, Expr.pos, hl]
  rfl
end
end Far

namespace Far
open PySem PySem.Spec PyProof.Rows L2
open C8 (pss_cut tCut)
open SX (S)
/-! ### the program's own names -/
structure TxtP (mg : Str → Option Value) : Prop where
  len : mg "len" = none
  all : mg "all" = none
  tuple : mg "tuple" = none
  int : mg "int" = none
  list : mg "list" = none
  enumerate : mg "enumerate" = none
  LETTERS : ∃ t, mg "LETTERS" = some (.str ("abcdefghijklmnopqrstuvwxyz" : Str) t)
  FIGURES : ∃ t, mg "FIGURES" = some (.str ("0123456789" : Str) t)
  LONGEST_NAME : ∃ t, mg "LONGEST_NAME" = some (.int 8 t)
/-- a comprehension over a text's signs -/
theorem lc_str {x : Str} {g : TG} {tt : TT} {te : TE} {vs : List Nat} {σ : L2.St} {H1 : Hp} {D : Addr} {Qd : Hp → Prop} (Pv : Nat → Hp → Prop) (h0 : Pv 0 (upd H1 D (.lst [])))
    (hs : ∀ i c H, x.cps[i]? = some c → Pv i H → g (.str ⟨#[c]⟩) (wipe σ vs) H fun σ2 H2 => wipe σ2 vs = wipe σ vs ∧ tt σ2 H2 fun b H3 =>
      if b = true then te σ2 H3 fun y H4 => ∃ acc, H4 D = some (.lst acc) ∧ acc.length < sizeLine ∧ Pv (i + 1) (upd H4 D (.lst (acc ++ [y]))) else Pv (i + 1) H3) (hd : ∀ H, Pv x.cps.size H → Qd H) :
    ∃ W : Nat → Nat → Hp → Prop, (∃ m, W 0 m (upd H1 D (.lst []))) ∧ ∀ i m H, W i m H →
      ((Its x).stop i H ∧ Qd H) ∨ ((Its x).go i H ∧ ∃ Nx : Hp → Prop, (∀ H', Nx H' → ∃ m', m' < m ∧ W (i + 1) m' H') ∧ ∀ v H', (Its x).yld i H v H' → g v (wipe σ vs) H' fun σ2 H2 => wipe σ2 vs = wipe σ vs ∧ tt σ2 H2 fun b H3 =>
        if b = true then te σ2 H3 fun y H4 => ∃ acc, H4 D = some (.lst acc) ∧ acc.length < sizeLine ∧ Nx (upd H4 D (.lst (acc ++ [y]))) else Nx H3) := by
  refine ⟨fun i m H => m = x.cps.size - i ∧ i ≤ x.cps.size ∧ Pv i H, ⟨x.cps.size, by simp, Nat.zero_le _, h0⟩, fun i m H ⟨em, hi, p⟩ => ?_⟩
  by_cases lt : i < x.cps.size
  · refine .inr ⟨lt, Pv (i + 1), fun H' p' => ⟨x.cps.size - (i + 1), by omega, rfl, lt, p'⟩, fun v H' ⟨e, c, hc, ev⟩ => ?_⟩
    rw [e, ev]
    exact hs i c H hc p
  · have e : i = x.cps.size := by omega
    rw [e] at p
    exact .inl ⟨by show x.cps.size ≤ i; omega, hd H p⟩
theorem letters_is (c : Nat) : decide (c ∈ ("abcdefghijklmnopqrstuvwxyz" : Str).cps.toList) = (decide (97 ≤ c) && decide (c ≤ 122)) := by
  have e : ("abcdefghijklmnopqrstuvwxyz" : Str).cps.toList = List.range' 97 26 := by decide +kernel
  rw [e]
  by_cases h : 97 ≤ c ∧ c ≤ 122
  · rw [decide_eq_true h.1, decide_eq_true h.2]
    exact decide_eq_true (List.mem_range'_1.mpr (by omega))
  · have n : ¬ c ∈ List.range' 97 26 := fun m => h (by have := List.mem_range'_1.mp m; omega)
    rw [decide_eq_false n]
    by_cases h1 : 97 ≤ c
    · rw [decide_eq_false (show ¬ c ≤ 122 by omega), Bool.and_false]
    · rw [decide_eq_false h1, Bool.false_and]
theorem figures_is (c : Nat) : decide (c ∈ ("0123456789" : Str).cps.toList) = (decide (48 ≤ c) && decide (c ≤ 57)) := by
  have e : ("0123456789" : Str).cps.toList = List.range' 48 10 := by decide +kernel
  rw [e]
  by_cases h : 48 ≤ c ∧ c ≤ 57
  · rw [decide_eq_true h.1, decide_eq_true h.2]
    exact decide_eq_true (List.mem_range'_1.mpr (by omega))
  · have n : ¬ c ∈ List.range' 48 10 := fun m => h (by have := List.mem_range'_1.mp m; omega)
    rw [decide_eq_false n]
    by_cases h1 : 48 ≤ c
    · rw [decide_eq_false (show ¬ c ≤ 57 by omega), Bool.and_false]
    · rw [decide_eq_false h1, Bool.false_and]
def isName (l : Nm) : Bool := decide (1 ≤ l.length) && decide (l.length ≤ 8) && l.all fun c => decide (97 ≤ c) && decide (c ≤ 122)
theorem isName_iff {l : Nm} : isName l = true ↔ NameOk l := by
  unfold isName NameOk
  simp only [Bool.and_eq_true, decide_eq_true_eq, List.all_eq_true, and_assoc]
def isLen (l : Nm) : Bool := !(decide (l = []) || decide (l.head? = some 48)) && l.all fun c => decide (48 ≤ c) && decide (c ≤ 57)
abbrev s_is_name : Stmt := topS 12
abbrev N_is_name : List Str := ["word", "sign"]
theorem sc_is_name : FnScope N_is_name ["word"] (defScope s_is_name) := ⟨rfl, rfl, rfl, by decide +kernel, rfl, by decide +kernel, by decide +kernel⟩
abbrev s_is_length : Stmt := topS 13
abbrev N_is_length : List Str := ["word", "sign"]
theorem sc_is_length : FnScope N_is_length ["word"] (defScope s_is_length) := ⟨rfl, rfl, rfl, by decide +kernel, rfl, by decide +kernel, by decide +kernel⟩
section
variable {P : Program} {w : World} {K : PySem.W.Frag} {mg : Str → Option Value} {base : Heap}
theorem all_take {α : Type} {p : α → Bool} {cs : List α} {i : Nat} {c : α} (h : cs[i]? = some c) : (cs.take (i + 1)).map p = (cs.take i).map p ++ [p c] := by
  rw [List.take_add_one, h, List.map_append]
  rfl
def spIsName : Sp := fun vs H Q _ => ∃ l : Nm, vs = [.str (S l)] ∧ l.length ≤ 100000 ∧ ∀ H', Same H H' → Q (.bl (isName l)) H'
theorem ok_is_name {f : Addr} {fd : FuncData} (F : Fun K "is_name" "is_name" s_is_name f fd) (T : TxtP mg) : FnOk P w K mg base CX0 1 f fd ["word"] spIsName := by
  obtain ⟨t1, h_LETTERS⟩ := T.LETTERS
  obtain ⟨t3, h_LONGEST_NAME⟩ := T.LONGEST_NAME
  refine F.ok sc_is_name (fun vs H Q E h => ?_) (fun cdv A outer s H vs Q E hr h => ?_)
  · obtain ⟨l, rfl, _⟩ := h
    rfl
  · obtain ⟨l, rfl, hl, q⟩ := h
    refine ⟨_, (pss_cut (ps_if (pt_not (pt_chain op_le op_le pe_int (pe_callB call_len (by rfl) T.len bt_len (pa_cons (pv 0) pa_nil)) (pe_glob (v := .int 8) rfl h_LONGEST_NAME ⟨_, rfl⟩)))
        (pss_one (ps_ret pe_bl))
        pss_nil)
      (pss_one (ps_ret (pe_callB (cr_all rfl) (by rfl) T.all bt_all (pa_cons (pe_lc (own := [("sign", 1)]) (g := gName 1) (tt := tYes) rfl sc_is_name.nd (pi_str (pv 0)) (blkOk_by (N := N_is_name) (sc := defScope s_is_name) (by decide +kernel)) (fun _ _ _ _ _ => pg_name (i := 1) sc_is_name.nd rfl (Or.inl rfl)) (fun _ _ _ _ _ => pts_nil) (fun _ _ _ _ _ => (pe_cmpR op_in_sign (pv 1) (pe_glob (v := .str ("abcdefghijklmnopqrstuvwxyz" : Str)) rfl h_LETTERS ⟨_, rfl⟩) rfl))) pa_nil))))), ?_⟩
    refine ⟨fun σ' H' => σ' = [some (.str (S l)), none] ∧ H' = H ∧ (1 ≤ l.length ∧ l.length ≤ 8), ?_, fun σ' H' hM => ?_⟩
    · refine ⟨_, rfl, _, _, rfl, ⟨by rw [SX.S_len]; exact sz_le hl, (SX.S_len _).symm⟩, _, _, rfl, rfl, _, rfl, ite2 (fun e1 => ?_) (fun e1 => ?_)⟩
      · refine ⟨_, _, rfl, rfl, _, rfl, ?_⟩
        have h1 := of_decide_eq_true e1
        by_cases h2 : (l.length : Int) ≤ 8
        · rw [decide_eq_true h2]
          exact iteF ⟨rfl, rfl, by omega, by omega⟩
        · rw [decide_eq_false h2]
          have : isName l = false := by
            cases e : isName l with
            | false => rfl
            | true => exact absurd (isName_iff.mp e).2.1 (by omega)
          have := q H (Same.refl H)
          rw [‹isName l = false›] at this
          exact iteT this
      · refine ⟨_, rfl, ?_⟩
        have : isName l = false := by
          cases e : isName l with
          | false => rfl
          | true => exact absurd (decide_eq_true (show (1 : Int) ≤ (l.length : Int) from by have := (isName_iff.mp e).1; omega)) e1
        have := q H (Same.refl H)
        rw [‹isName l = false›] at this
        exact iteT this
    · obtain ⟨rfl, rfl, h1, h8⟩ := hM
      refine ⟨_, rfl, _, rfl, fun D nD => ?_⟩
      refine lc_str (x := S l) (fun i H'' => H'' = upd H' D (.lst (((l.take i).map fun c => decide (97 ≤ c) && decide (c ≤ 122)).map V.bl))) rfl (fun i c H'' hc hP => ?_) (fun H'' hP => ?_)
      · subst hP
        have hc : l[i]? = some c := by simpa using hc
        have il := (List.getElem?_eq_some_iff.mp hc).1
        refine ⟨rfl, _, rfl, c, _, rfl, rfl, _, upd_same, by rw [List.length_map, List.length_map, List.length_take]; exact sz_lt (by omega), ?_⟩
        rw [upd_upd, letters_is, all_take hc, List.map_append]
        rfl
      · subst hP
        have e : (S l).cps.size = l.length := by simp
        rw [e, List.take_length]
        refine ⟨D, _, rfl, SqL.of upd_same, ?_⟩
        have e2 : isName l = (l.map fun c => decide (97 ≤ c) && decide (c ≤ 122)).all id := by
          unfold isName
          rw [decide_eq_true h1, decide_eq_true h8, List.all_map]
          rfl
        rw [← e2]
        refine q _ fun b o hb => ?_
        rw [upd_ne (ne_of_none hb nD)]
        exact hb
def spIsLen : Sp := fun vs H Q _ => ∃ l : Nm, vs = [.str (S l)] ∧ l.length ≤ 100000 ∧ ∀ H', Same H H' → Q (.bl (isLen l)) H'
theorem starts0 (l : Nm) : Txt.startswith (S l) ("0" : Str) = decide (l.head? = some 48) := by
  cases l with
  | nil => decide +kernel
  | cons c r =>
    have e : ("0" : Str) = S [48] := by decide +kernel
    unfold Txt.startswith
    rw [PySem.StrLaws.subAt_eq, e]
    have h1 : decide (0 + (S [48]).length ≤ (S (c :: r)).length) = true := decide_eq_true (by rw [SX.S_len, SX.S_len]; simp)
    rw [h1, Bool.true_and]
    show ((c :: r).take 1 == [48]) = decide (some c = some 48)
    by_cases h : c = 48
    · subst h
      simp
    · rw [decide_eq_false (fun z => h (Option.some.inj z))]
      simp [h]
theorem ok_is_length {f : Addr} {fd : FuncData} (F : Fun K "is_length" "is_length" s_is_length f fd) (T : TxtP mg) : FnOk P w K mg base CX0 1 f fd ["word"] spIsLen := by
  obtain ⟨t1, h_FIGURES⟩ := T.FIGURES
  refine F.ok sc_is_length (fun vs H Q E h => ?_) (fun cdv A outer s H vs Q E hr h => ?_)
  · obtain ⟨l, rfl, _⟩ := h
    rfl
  · obtain ⟨l, rfl, hl, q⟩ := h
    refine ⟨_, (pss_cut (ps_if (PW.pt (pw_or (pt_cmpR op_eq (pv 0) pe_str (nomark _)) (pw_or1 (pt_val (pe_m1 PySem.F.slot_str_startswith PySem.F.type_str_startswith mt_startswith (pv 0) pe_str)))))
        (pss_one (ps_ret pe_bl))
        pss_nil)
      (pss_one (ps_ret (pe_callB (cr_all rfl) (by rfl) T.all bt_all (pa_cons (pe_lc (own := [("sign", 1)]) (g := gName 1) (tt := tYes) rfl sc_is_length.nd (pi_str (pv 0)) (blkOk_by (N := N_is_length) (sc := defScope s_is_length) (by decide +kernel)) (fun _ _ _ _ _ => pg_name (i := 1) sc_is_length.nd rfl (Or.inl rfl)) (fun _ _ _ _ _ => pts_nil) (fun _ _ _ _ _ => (pe_cmpR op_in_sign (pv 1) (pe_glob (v := .str ("0123456789" : Str)) rfl h_FIGURES ⟨_, rfl⟩) rfl))) pa_nil))))), ?_⟩
    have e0 : ("" : Str) = S [] := by decide +kernel
    refine ⟨fun σ' H' => σ' = [some (.str (S l)), none] ∧ H' = H ∧ isLen l = l.all fun c => decide (48 ≤ c) && decide (c ≤ 57), ?_, fun σ' H' hM => ?_⟩
    · refine ⟨_, rfl, rfl, _, rfl, ite2 (fun e1 => ?_) (fun e1 => ?_)⟩
      · have el : l = [] := by
          have := of_decide_eq_true e1
          rw [e0] at this
          exact SX.S_inj (V.str.inj this)
        subst el
        exact iteT (q H (Same.refl H))
      · have nl : l ≠ [] := fun z => e1 (by rw [z]; exact decide_eq_true (by rw [e0]))
        refine ⟨_, rfl, ⟨_, rfl⟩, _, _, rfl, rfl, _, rfl, ?_⟩
        rw [starts0]
        by_cases h0 : l.head? = some 48
        · rw [decide_eq_true h0]
          have : isLen l = false := by
            unfold isLen
            rw [decide_eq_true h0, Bool.or_true]
            rfl
          have := q H (Same.refl H)
          rw [‹isLen l = false›] at this
          exact iteT this
        · rw [decide_eq_false h0]
          refine iteF ⟨rfl, rfl, ?_⟩
          unfold isLen
          rw [decide_eq_false h0, decide_eq_false nl]
          rfl
    · obtain ⟨rfl, rfl, he⟩ := hM
      refine ⟨_, rfl, _, rfl, fun D nD => ?_⟩
      refine lc_str (x := S l) (fun i H'' => H'' = upd H' D (.lst (((l.take i).map fun c => decide (48 ≤ c) && decide (c ≤ 57)).map V.bl))) rfl (fun i c H'' hc hP => ?_) (fun H'' hP => ?_)
      · subst hP
        have hc : l[i]? = some c := by simpa using hc
        have il := (List.getElem?_eq_some_iff.mp hc).1
        refine ⟨rfl, _, rfl, c, _, rfl, rfl, _, upd_same, by rw [List.length_map, List.length_map, List.length_take]; exact sz_lt (by omega), ?_⟩
        rw [upd_upd, figures_is, all_take hc, List.map_append]
        rfl
      · subst hP
        have e : (S l).cps.size = l.length := by simp
        rw [e, List.take_length]
        refine ⟨D, _, rfl, SqL.of upd_same, ?_⟩
        have e2 : isLen l = (l.map fun c => decide (48 ≤ c) && decide (c ≤ 57)).all id := by
          rw [he, List.all_map]
          rfl
        rw [← e2]
        refine q _ fun b o hb => ?_
        rw [upd_ne (ne_of_none hb nD)]
        exact hb
end
end Far

namespace Far
open PySem PySem.Spec PyProof.Rows L2
open C8 (pss_cut tCut)
open SX (S)
/-! ### rows of a text -/
def joinW (ws : List Nm) : Nm := TL.joinL [32] ws
def numW (k : Int) : Nm := TL.numL k.toNat
def rowT (t : Tie) : Nm := joinW [t.1, t.2.1, numW t.2.2]
theorem joinL_len (s : Nm) : ∀ ys : List Nm, (TL.joinL s ys).length ≤ (ys.map (·.length)).sum + ys.length * s.length
  | [] => by simp [TL.joinL]
  | [x] => by simp [TL.joinL]
  | x :: y :: r => by
    have ih := joinL_len s (y :: r)
    show (x ++ (s ++ TL.joinL s (y :: r))).length ≤ _
    rw [List.length_append, List.length_append, List.map_cons, List.sum_cons, List.length_cons, Nat.succ_mul]
    omega
theorem sum_le {B : Nat} : ∀ {ys : List Nm}, (∀ y ∈ ys, y.length ≤ B) → (ys.map (·.length)).sum ≤ ys.length * B
  | [], _ => Nat.zero_le _
  | y :: r, h => by
    have ih := sum_le (ys := r) fun z hz => h z (List.mem_cons.mpr (.inr hz))
    have := h y (List.mem_cons.mpr (.inl rfl))
    rw [List.map_cons, List.sum_cons, List.length_cons, Nat.succ_mul]
    omega
theorem blank_is : (" " : Str) = S [32] := by decide +kernel
theorem feed_is : ("\n" : Str) = S [10] := by decide +kernel
theorem name_no {l : Nm} (h : NameOk l) {c : Nat} (hc : c < 97) : c ∉ l := fun hm => by
  have := h.2.2 c hm
  omega
theorem split_words {ws : List Nm} (hne : ws ≠ []) (h : ∀ p ∈ ws, 32 ∉ p) : Txt.split (S (joinW ws)) (" " : Str) = ws.map S := by
  rw [blank_is, SX.split_S (by simp) (by decide)]
  unfold joinW
  rw [SX.spl_join hne h]
theorem num_digits (k : Int) : ∀ c ∈ numW k, 48 ≤ c ∧ c ≤ 57 := fun c hc => TL.numL_digits k.toNat c hc
theorem num_no {k : Int} {c : Nat} (h : c < 48) : c ∉ numW k := fun hm => by
  have := num_digits k c hm
  omega
theorem numL_head : ∀ n : Nat, 0 < n → (TL.numL n).head? ≠ some 48 := by
  intro n
  induction n using Nat.strongRecOn with
  | _ n ih =>
    intro h
    by_cases h10 : n < 10
    · rw [TL.numL_lt h10]
      simp
      omega
    · rw [TL.numL_step (by omega)]
      have := ih (n / 10) (by omega) (by omega)
      cases e : TL.numL (n / 10) with
      | nil => exact absurd e (TL.numL_ne _)
      | cons c r =>
        rw [e] at this
        simpa using this
theorem num_isLen {k : Int} (h : 1 ≤ k) : isLen (numW k) = true := by
  unfold isLen numW
  rw [decide_eq_false (TL.numL_ne _), decide_eq_false (numL_head _ (by omega))]
  rw [Bool.or_false, Bool.not_false, Bool.true_and, List.all_eq_true]
  intro c hc
  have := TL.numL_digits k.toNat c hc
  rw [Bool.and_eq_true]
  exact ⟨decide_eq_true this.1, decide_eq_true this.2⟩
theorem num_len {k : Int} (h : k ≤ 1000000) : (numW k).length ≤ 7 := TL.numL_len (by decide) (by
  have : (10 : Nat) ^ 7 = 10000000 := by decide
  omega)
theorem num_int {k : Int} (h : 1 ≤ k) (h2 : k ≤ 1000000) : PySem.intText? (S (numW k)) = some k := by
  have e := SX.int_S (a := numW k) (List.all_eq_true.mpr fun c hc => by
    have := num_digits k c hc
    rw [Bool.and_eq_true]
    exact ⟨decide_eq_true this.1, decide_eq_true this.2⟩) (TL.numL_ne _) (by have := num_len h2; omega)
  rw [e]
  unfold numW
  rw [TL.numL_val]
  congr 1
  omega
theorem count_one {l : Nm} : ∀ {pl : List Nm}, pl.Nodup → (((pl.map S).map V.str).countP fun z => eqV z (.str (S l))) ≤ 1
  | [], _ => Nat.zero_le _
  | a :: r, h => by
    obtain ⟨h1, h2⟩ := List.nodup_cons.mp h
    have ih := count_one (l := l) h2
    rw [List.map_cons, List.map_cons, List.countP_cons]
    by_cases e : a = l
    · subst e
      have : (((r.map S).map V.str).countP fun z => eqV z (.str (S a))) = 0 := by
        rw [List.countP_eq_zero]
        intro z hz
        obtain ⟨b, hb, rfl⟩ := strs_at hz
        show ¬ (S b == S a) = true
        rw [SX.S_beq_eq]
        intro q
        exact h1 (of_decide_eq_true q ▸ hb)
      rw [this]
      split <;> omega
    · have : (eqV (V.str (S a)) (.str (S l))) = false := by
        show (S a == S l) = false
        rw [SX.S_beq_eq]
        exact decide_eq_false e
      rw [this]
      simpa using ih
/-! ### the parts of a tree's reading: each place's mark -/
def partsK (pl : List Nm) (mk : Nm → Nm) : List (Key × V) := pl.map fun l => (Sum.inr (S l), V.str (S (mk l)))
theorem key_eq (a b : Nm) : decide ((Sum.inr (S a) : Key) = Sum.inr (S b)) = decide (a = b) := by
  by_cases h : a = b
  · rw [h, decide_eq_true rfl, decide_eq_true rfl]
  · rw [decide_eq_false h]
    exact decide_eq_false fun z => h (SX.S_inj (Sum.inr.inj z))
theorem parts_get {mk : Nm → Nm} {x : Nm} : ∀ {pl : List Nm}, x ∈ pl → valV (partsK pl mk) (Sum.inr (S x)) = some (.str (S (mk x)))
  | [], h => by simp at h
  | a :: r, h => by
    show valV ((Sum.inr (S a), V.str (S (mk a))) :: partsK r mk) _ = _
    by_cases e : a = x
    · subst e
      exact valV_pos rfl
    · rw [valV_neg (fun z => e (SX.S_inj (Sum.inr.inj z)))]
      refine parts_get ?_
      rcases List.mem_cons.mp h with z | z
      · exact absurd z.symm e
      · exact z
theorem parts_no {mk : Nm → Nm} {x : Nm} : ∀ {pl : List Nm}, x ∉ pl → valV (partsK pl mk) (Sum.inr (S x)) = none
  | [], _ => rfl
  | a :: r, h => by
    show valV ((Sum.inr (S a), V.str (S (mk a))) :: partsK r mk) _ = _
    rw [valV_neg (fun z => h (List.mem_cons.mpr (.inl (SX.S_inj (Sum.inr.inj z)).symm)))]
    exact parts_no fun z => h (List.mem_cons.mpr (.inr z))
theorem parts_put {mk : Nm → Nm} {x y : Nm} {pl : List Nm} (h : x ∈ pl) : putK (partsK pl mk) (Sum.inr (S x)) (.str (S y)) = partsK pl (fun z => if z = x then y else mk z) := by
  unfold putK
  rw [valV_any, parts_get h, if_pos (show (some (V.str (S (mk x)))).isSome = true from rfl)]
  unfold partsK
  rw [List.map_map]
  refine List.map_congr_left fun a _ => ?_
  show (if (Sum.inr (S a) : Key) = Sum.inr (S x) then _ else _) = _
  by_cases e : a = x
  · subst e
    rw [if_pos rfl]
    show (_, _) = (_, V.str (S (if a = a then y else mk a)))
    rw [if_pos rfl]
  · rw [if_neg (fun z => e (SX.S_inj (Sum.inr.inj z)))]
    show (_, _) = (_, V.str (S (if a = x then y else mk a)))
    rw [if_neg e]
theorem parts_cong {mk mk' : Nm → Nm} {pl : List Nm} (h : ∀ x ∈ pl, mk x = mk' x) : partsK pl mk = partsK pl mk' :=
  List.map_congr_left fun a ha => by rw [h a ha]
def PartsAt (H : Hp) (d : Addr) (pl : List Nm) (mk : Nm → Nm) : Prop := H d = some (.dK (partsK pl mk))
abbrev s_read_places : Stmt := topS 9
abbrev N_read_places : List Str := ["row", "names", "name"]
theorem sc_read_places : FnScope N_read_places ["row"] (defScope s_read_places) := ⟨rfl, rfl, rfl, by decide +kernel, rfl, by decide +kernel, by decide +kernel⟩
abbrev s_read_tie : Stmt := topS 10
abbrev N_read_tie : List Str := ["row", "number", "parts", "words", "one", "other", "length"]
theorem sc_read_tie : FnScope N_read_tie ["row", "number", "parts"] (defScope s_read_tie) := ⟨rfl, rfl, rfl, by decide +kernel, rfl, by decide +kernel, by decide +kernel⟩
abbrev s_hang_together : Stmt := topS 11
abbrev N_hang_together : List Str := ["parts", "one", "other", "kept", "gone", "place"]
theorem sc_hang_together : FnScope N_hang_together ["parts", "one", "other"] (defScope s_hang_together) := ⟨rfl, rfl, rfl, by decide +kernel, rfl, by decide +kernel, by decide +kernel⟩
section
variable {P : Program} {w : World} {K : PySem.W.Frag} {mg : Str → Option Value} {base : Heap}
theorem same_new {H H1 : Hp} {p : Addr} {o : HO} (a : Same H H1) (n : H1 p = none) : Same H (upd H1 p o) := fun x u h => by
  rw [upd_ne (ne_of_none (a x u h) n)]
  exact a x u h
theorem same_put {H H1 : Hp} {p : Addr} {o : HO} (a : Same H H1) (n : H p = none) : Same H (upd H1 p o) := fun x u h => by
  rw [upd_ne (ne_of_none h n)]
  exact a x u h
def spPlaces : Sp := fun vs H Q _ => ∃ pl : List Nm, vs = [.str (S (joinW pl))] ∧ pl ≠ [] ∧ pl.Nodup ∧ (∀ l ∈ pl, NameOk l) ∧ pl.length ≤ 1000 ∧ ∀ (H' : Hp) (t : Addr), Same H H' → H t = none → H' t = some (.tup ((pl.map S).map V.str)) → Q (.ref t) H'
theorem ok_read_places {f : Addr} {fd : FuncData} (F : Fun K "_read_places" "_read_places" s_read_places f fd) (T : TxtP mg) (C_is_name : Cal P w K mg base 1 "is_name" spIsName) : FnOk P w K mg base CX0 2 f fd ["row"] spPlaces := by
  refine F.ok sc_read_places (fun vs H Q E h => ?_) (fun cdv A outer s H vs Q E hr h => ?_)
  · obtain ⟨pl, rfl, _⟩ := h
    rfl
  · obtain ⟨pl, rfl, hne, nd, ok, hl, q⟩ := h
    refine ⟨_, (pss_cons (ps_set (i := 1) sc_read_places.nd rfl (.inl rfl) (pe_split (pv 0) pe_str))
      (pss_cut (ps_for PassesOwn.never rfl (pi_list (pv 1)) (pg_name (i := 2) sc_read_places.nd rfl (.inl rfl))
        (pss_one (ps_if (PW.pt (pw_or (pt_not (pt_val (pe_c C_is_name hr (by decide) rfl (pa_cons (pv 2) pa_nil)))) (pw_or1 (pt_cmpR op_gt (pe_bm PySem.F.plainAttrs_list PySem.F.slot_list_count PySem.F.type_list_count mt_countV (pv 1) (pa_cons (pv 2) pa_nil)) pe_int (nomark _)))))
          (pss_one ps_never)
          pss_nil)))
      (pss_one (ps_ret (pe_tupleOf (by rfl) T.tuple (pv 1)))))), ?_⟩
    have lw : (joinW pl).length ≤ 9000 := by
      have h1 := joinL_len [32] pl
      have h2 := sum_le (B := 8) fun y hy => (ok y hy).2.1
      have h3 : ([32] : Nm).length = 1 := rfl
      rw [h3] at h1
      unfold joinW
      omega
    refine ⟨_, rfl, ⟨_, rfl⟩, _, _, rfl, rfl, by decide +kernel, by rw [SX.S_len]; exact Nat.le_trans (show _ ≤ 100000 by omega) (by decide), fun p np => ?_⟩
    rw [split_words hne fun x hx => name_no (ok x hx) (by decide)]
    refine ⟨fun σ' H' => ∃ x2, σ' = [some (.str (S (joinW pl))), some (.ref p), x2] ∧ Same H H' ∧ H' p = some (.lst ((pl.map S).map V.str)), ?_, fun σ' H' hM => ?_⟩
    · refine ⟨_, rfl, p, rfl, ⟨_, SqL.of upd_same⟩, for_list (K := K) (a := p) (xs := (pl.map S).map V.str) (fun i σ' H' => ∃ x2, σ' = [some (.str (S (joinW pl))), some (.ref p), x2] ∧ Same H H' ∧ H' p = some (.lst ((pl.map S).map V.str))) ⟨none, rfl, same_new (Same.refl H) np, upd_same⟩ (fun i σ' H' _ hP => ?_) (fun i x σ' H' hi hP => ?_) (fun σ' H' hP => ?_)⟩
      · obtain ⟨_, _, _, hp⟩ := hP
        exact SqL.of hp
      · obtain ⟨x2, rfl, sm, hp⟩ := hP
        obtain ⟨l, hl', rfl⟩ := strs_at (List.mem_of_getElem? hi)
        have okl := ok l hl'
        refine ⟨_, rfl, l, rfl, by have := okl.2.1; omega, fun H1 S1 => ?_⟩
        rw [isName_iff.mpr okl]
        refine ⟨_, rfl, iteF ?_⟩
        have hp1 := S1 _ _ hp
        refine ⟨_, rfl, .inl ⟨rfl, _, SqL.of hp1⟩, _, rfl, p, _, .str (S l), rfl, rfl, SqL.of hp1, rfl, flat_strs pl, _, _, rfl, rfl, _, rfl, ?_⟩
        have c1 := count_one (l := l) nd
        rw [decide_eq_false (by omega)]
        exact iteF ⟨_, rfl, sm.trans S1, hp1⟩
      · exact hP
    · obtain ⟨x2, rfl, sm, hp⟩ := hM
      refine ⟨_, rfl, .inl ⟨p, _, rfl, SqL.of hp, fun t nt => q _ t (same_new sm nt) (sm.free nt) upd_same⟩⟩
def spTie : Sp := fun vs H Q _ => ∃ (t : Tie) (n : Int) (d : Addr) (pl : List Nm) (mk : Nm → Nm), vs = [.str (S (rowT t)), .int n, .ref d] ∧ PartsAt H d pl mk ∧ t.1 ∈ pl ∧ t.2.1 ∈ pl ∧ NameOk t.1 ∧ NameOk t.2.1 ∧ 1 ≤ t.2.2 ∧ t.2.2 ≤ 1000000 ∧ mk t.1 ≠ mk t.2.1 ∧
  ∀ (H' : Hp) (q : Addr), Same H H' → H q = none → H' q = some (.tup [.str (S t.1), .str (S t.2.1), .int t.2.2]) → Q (.ref q) H'
theorem ok_read_tie {f : Addr} {fd : FuncData} (F : Fun K "_read_tie" "_read_tie" s_read_tie f fd) (T : TxtP mg) (C_is_length : Cal P w K mg base 1 "is_length" spIsLen) : FnOk P w K mg base CX0 2 f fd ["row", "number", "parts"] spTie := by
  refine F.ok sc_read_tie (fun vs H Q E h => ?_) (fun cdv A outer s H vs Q E hr h => ?_)
  · obtain ⟨t, n, d, pl, mk, rfl, _⟩ := h
    rfl
  · obtain ⟨⟨a, b, k⟩, n, d, pl, mk, rfl, hD, ha, hb, oka, okb, k1, k2, hne, q⟩ := h
    dsimp only at ha hb oka okb k1 k2 hne
    refine ⟨_, (pss_cons (ps_set (i := 3) sc_read_tie.nd rfl (.inl rfl) (pe_split (pv 0) pe_str))
      (pss_cut (ps_if (pt_cmpR op_ne (pe_callB call_len_seq (by rfl) T.len bt_len (pa_cons (pv 3) pa_nil)) pe_int (nomark _))
        (pss_one ps_never)
        pss_nil)
      (pss_cons (ps_asg (pv 3) (pg_unl rfl (pgs_cons (pg_name (i := 4) sc_read_tie.nd rfl (.inl rfl)) (pgs_cons (pg_name (i := 5) sc_read_tie.nd rfl (.inl rfl)) (pgs_cons (pg_name (i := 6) sc_read_tie.nd rfl (.inl rfl)) pgs_nil)))))
      (pss_cut (ps_if (PW.pt (pw_or (pt_cmp (pc_dnotin (hu_of hr) (pv 4) (pv 2))) (pw_or1 (pt_cmp (pc_dnotin (hu_of hr) (pv 5) (pv 2))))))
        (pss_one ps_never)
        pss_nil)
      (pss_cut (ps_if (PW.pt (pw_or (pt_not (pt_val (pe_c C_is_length hr (by decide) rfl (pa_cons (pv 6) pa_nil)))) (pw_or1 (pt_cmpR op_eq (pe_dget (hu_of hr) (pv 2) (pv 4) (fun _ _ => rfl)) (pe_dget (hu_of hr) (pv 2) (pv 5) (fun _ _ => rfl)) (nomark _)))))
        (pss_one ps_never)
        pss_nil)
      (pss_one (ps_ret (pe_tup (pa_cons (pv 4) (pa_cons (pv 5) (pa_cons (pe_callTy call_int_str (by rfl) T.int bt_int (pa_cons (pv 6) pa_nil)) pa_nil))))))))))), ?_⟩
    have ln := num_len k2
    have la := oka.2.1
    have lb := okb.2.1
    have lw : (rowT (a, b, k)).length ≤ 30 := by
      show (a ++ ([32] ++ (b ++ ([32] ++ numW k)))).length ≤ 30
      simp
      omega
    refine ⟨_, rfl, ⟨_, rfl⟩, _, _, rfl, rfl, by decide +kernel, by rw [SX.S_len]; exact Nat.le_trans (show _ ≤ 100000 by omega) (by decide), fun p np => ?_⟩
    have ep : Txt.split (S (rowT (a, b, k))) (" " : Str) = [a, b, numW k].map S := split_words (by simp) (fun x hx => by
      rcases List.mem_cons.mp hx with rfl | hx
      · exact name_no oka (by decide)
      · rcases List.mem_cons.mp hx with rfl | hx
        · exact name_no okb (by decide)
        · rw [List.mem_singleton.mp hx]
          exact num_no (by decide))
    rw [ep]
    have hp : (upd H p (.lst (([a, b, numW k].map S).map V.str))) p = some (.lst [.str (S a), .str (S b), .str (S (numW k))]) := upd_same
    have hD1 : PartsAt (upd H p (.lst (([a, b, numW k].map S).map V.str))) d pl mk := by
      unfold PartsAt
      rw [upd_ne (ne_of_none hD np)]
      exact hD
    generalize hH1 : upd H p (.lst (([a, b, numW k].map S).map V.str)) = H1 at hp hD1
    have S1 : Same H H1 := hH1 ▸ same_new (Same.refl H) np
    refine ⟨fun σ' H' => σ' = [some (.str (S (rowT (a, b, k)))), some (.int n), some (.ref d), some (.ref p), none, none, none] ∧ H' = H1, ?_, fun σ' H' hM => ?_⟩
    · exact ⟨_, rfl, p, _, rfl, .inl (SqL.of hp), rfl, _, rfl, iteF ⟨rfl, rfl⟩⟩
    · obtain ⟨rfl, rfl⟩ := hM
      refine ⟨_, rfl, p, _, rfl, SqL.of hp, rfl, _, _, rfl, _, _, rfl, _, _, rfl, rfl, ?_⟩
      refine ⟨fun σ' H'' => σ' = [some (.str (S (rowT (a, b, k)))), some (.int n), some (.ref d), some (.ref p), some (.str (S a)), some (.str (S b)), some (.str (S (numW k)))] ∧ H'' = H', ?_, fun σ' H'' hM => ?_⟩
      · refine ⟨_, rfl, _, rfl, d, _, rfl, DGet.k (k := Sum.inr (S a)) hD1, _, rfl, ?_⟩
        rw [parts_get ha]
        refine iteF ⟨_, rfl, _, rfl, d, _, rfl, DGet.k (k := Sum.inr (S b)) hD1, _, rfl, ?_⟩
        rw [parts_get hb]
        exact iteF ⟨rfl, rfl⟩
      · obtain ⟨rfl, rfl⟩ := hM
        refine ⟨fun σ' H1 => σ' = [some (.str (S (rowT (a, b, k)))), some (.int n), some (.ref d), some (.ref p), some (.str (S a)), some (.str (S b)), some (.str (S (numW k)))] ∧ Same H H1, ?_, fun σ' H1 hM => ?_⟩
        · refine ⟨_, rfl, numW k, rfl, by omega, fun H2 S2 => ?_⟩
          rw [num_isLen k1]
          have hD2 : PartsAt H2 d pl mk := S2 _ _ hD1
          refine ⟨_, rfl, iteF ⟨_, rfl, _, rfl, d, _, rfl, by rw [← parts_get ha]; exact DGet.k (k := Sum.inr (S a)) hD2, _, rfl, _, rfl, d, _, rfl, by rw [← parts_get hb]; exact DGet.k (k := Sum.inr (S b)) hD2, rfl, _, rfl, ?_⟩⟩
          rw [decide_eq_false (fun z => hne (SX.S_inj (V.str.inj z)))]
          exact iteF ⟨rfl, S1.trans S2⟩
        · obtain ⟨rfl, S2⟩ := hM
          refine ⟨_, rfl, _, rfl, _, rfl, S (numW k), k, rfl, num_int k1 k2, by rw [SX.S_len]; omega, (by show 3 ≤ sizeLine; decide), fun t nt => ?_⟩
          exact q _ t (same_new S2 nt) (S2.free nt) upd_same
/-- the part of other has the mark of the part of one -/
def merged (mk : Nm → Nm) (a b : Nm) : Nm → Nm := fun x => if mk x = mk b then mk a else mk x
def spHang : Sp := fun vs H Q _ => ∃ (d : Addr) (pl : List Nm) (mk : Nm → Nm) (a b : Nm), vs = [.ref d, .str (S a), .str (S b)] ∧ PartsAt H d pl mk ∧ pl.Nodup ∧ pl.length ≤ 1000 ∧ a ∈ pl ∧ b ∈ pl ∧
  ∀ H' : Hp, SmX d H H' → PartsAt H' d pl (merged mk a b) → Q .non H'
theorem ok_hang {f : Addr} {fd : FuncData} (F : Fun K "_hang_together" "_hang_together" s_hang_together f fd) (T : TxtP mg) : FnOk P w K mg base CX0 1 f fd ["parts", "one", "other"] spHang := by
  refine F.ok sc_hang_together (fun vs H Q E h => ?_) (fun cdv A outer s H vs Q E hr h => ?_)
  · obtain ⟨d, pl, mk, a, b, rfl, _⟩ := h
    rfl
  · obtain ⟨d, pl, mk, a, b, rfl, hD, nd, hl, ha, hb, q⟩ := h
    refine ⟨_, (pss_cons (ps_set (i := 3) sc_hang_together.nd rfl (.inl rfl) (pe_dget (hu_of hr) (pv 0) (pv 1) (fun _ _ => rfl)))
      (pss_cons (ps_set (i := 4) sc_hang_together.nd rfl (.inl rfl) (pe_dget (hu_of hr) (pv 0) (pv 2) (fun _ _ => rfl)))
      (pss_one (ps_for PassesOwn.never rfl (pi_list (pe_callTy (call_list_dK rfl) (by rfl) T.list bt_list (pa_cons (pv 0) pa_nil))) (pg_name (i := 5) sc_hang_together.nd rfl (.inl rfl))
        (pss_one (ps_if (pt_cmpR op_eq (pe_dget (hu_of hr) (pv 0) (pv 5) (fun _ _ => rfl)) (pv 4) (nomark _))
          (pss_one (ps_dput (hu_of hr) (pv 0) (pv 5) (pv 3) rfl))
          pss_nil)))))), ?_⟩
    refine ⟨_, rfl, _, rfl, d, _, rfl, by rw [← parts_get ha]; exact DGet.k (k := Sum.inr (S a)) hD, ?_⟩
    refine ⟨_, rfl, _, rfl, d, _, rfl, by rw [← parts_get hb]; exact DGet.k (k := Sum.inr (S b)) hD, ?_⟩
    refine ⟨_, rfl, d, _, rfl, hD, fun p np => ?_⟩
    have npd : p ≠ d := (ne_of_none hD np).symm
    have ek : (partsK pl mk).map (fun kv => kV kv.1) = (pl.map S).map V.str := by
      unfold partsK
      rw [List.map_map, List.map_map]
      rfl
    rw [ek]
    have lk : (partsK pl mk).length = pl.length := List.length_map _
    refine ⟨p, rfl, ⟨_, SqL.of upd_same⟩, for_list (K := K) (a := p) (xs := (pl.map S).map V.str) (fun i σ' H' => ∃ x5, σ' = [some (.ref d), some (.str (S a)), some (.str (S b)), some (.str (S (mk a))), some (.str (S (mk b))), x5] ∧ SmX d H H' ∧ H' p = some (.lst ((pl.map S).map V.str)) ∧ PartsAt H' d pl (fun x => if x ∈ pl.take i ∧ mk x = mk b then mk a else mk x))
      ⟨none, rfl, (SmX.refl H).new np, upd_same, ?_⟩ (fun i σ' H' _ hP => ?_) (fun i x σ' H' hi hP => ?_) (fun σ' H' hP => ?_)⟩
    · unfold PartsAt
      rw [upd_ne npd.symm, hD]
      exact congrArg (fun z => some (HO.dK z)) (parts_cong fun x _ => by simp)
    · obtain ⟨_, _, _, hp, _⟩ := hP
      exact SqL.of hp
    · obtain ⟨x5, rfl, sm, hp, hD'⟩ := hP
      have hi0 := hi
      rw [List.getElem?_map, List.getElem?_map] at hi
      cases el : pl[i]? with
      | none =>
        rw [el] at hi
        cases hi
      | some l =>
        rw [el] at hi
        have ex : x = .str (S l) := (Option.some.inj hi).symm
        subst ex
        have hl' : l ∈ pl := List.mem_of_getElem? el
        have ln : l ∉ pl.take i := fun hm => by
          obtain ⟨j, hj, ej⟩ := List.mem_take_iff_getElem.mp hm
          obtain ⟨hi', ei⟩ := List.getElem?_eq_some_iff.mp el
          have := (List.getElem_inj nd).mp (ej.trans ei.symm)
          omega
        have et : pl.take (i + 1) = pl.take i ++ [l] := by
          rw [List.take_add_one, el]
          rfl
        refine ⟨_, rfl, _, rfl, d, _, rfl, by rw [← parts_get hl']; exact DGet.k (k := Sum.inr (S l)) hD', _, rfl, rfl, _, rfl, ?_⟩
        rw [if_neg (fun z => ln z.1)]
        by_cases e : mk l = mk b
        · rw [e, decide_eq_true rfl]
          refine iteT ⟨_, rfl, _, rfl, _, rfl, d, _, rfl, DPut.k (k := Sum.inr (S l)) hD' (by show (partsK pl _).length < sizeLine; unfold partsK; rw [List.length_map]; exact sz_lt (by omega)), ?_⟩
          refine ⟨_, rfl, sm.mut, by rw [upd_ne npd]; exact hp, ?_⟩
          unfold PartsAt
          rw [upd_same, parts_put hl']
          congr 2
          refine parts_cong fun x _ => ?_
          rw [et]
          by_cases ex : x = l
          · subst ex
            rw [if_pos rfl, if_pos ⟨by simp, e⟩]
          · rw [if_neg ex]
            simp [ex]
        · rw [decide_eq_false (fun z => e (SX.S_inj (V.str.inj z)))]
          refine iteF ⟨_, rfl, sm, hp, ?_⟩
          unfold PartsAt at hD' ⊢
          rw [hD']
          congr 2
          refine parts_cong fun x _ => ?_
          rw [et]
          by_cases ex : x = l
          · subst ex
            rw [if_neg (fun z => e z.2), if_neg (fun z => e z.2)]
          · simp [ex]
    · obtain ⟨x5, rfl, sm, hp, hD'⟩ := hP
      refine q H' sm ?_
      unfold PartsAt at hD' ⊢
      rw [hD', List.length_map, List.length_map, List.take_length]
      congr 2
      refine parts_cong fun x hx => ?_
      unfold merged
      simp [hx]
end
end Far

namespace Far
open PySem PySem.Spec PyProof.Rows L2
open C8 (pss_cut tCut)
open SX (S)
/-! ### a tree's tie taken out leaves two sides -/
theorem snoc_split {α : Type} {es l r : List α} {e0 e : α} (h : es ++ [e0] = l ++ e :: r) : (r = [] ∧ es = l ∧ e0 = e) ∨ ∃ r', r = r' ++ [e0] ∧ es = l ++ e :: r' := by
  rcases List.eq_nil_or_concat r with hr | ⟨r', e1, hr⟩
  · subst hr
    have := List.append_inj' h rfl
    exact .inl ⟨rfl, this.1, (List.cons.inj this.2).1⟩
  · rw [List.concat_eq_append] at hr
    subst hr
    have h2 : es ++ [e0] = (l ++ e :: r') ++ [e1] := by
      rw [h]
      simp
    have := List.append_inj' h2 rfl
    have e2 := (List.cons.inj this.2).1
    subst e2
    exact .inr ⟨r', rfl, this.1⟩
theorem Grown.cut {os : List Nm} {es : List Tie} (h : Grown os es) : ∀ (l r : List Tie) (e : Tie), es = l ++ e :: r → ∃ f : Nm → Bool, (∀ x ∈ l ++ r, f x.1 = f x.2.1) ∧ f e.1 ≠ f e.2.1 := by
  induction h with
  | one a => intro l r e h; simp at h
  | @leaf os es a b k e0 g ha hb he0 k1 k2 ih =>
    intro l r e hs
    have inos := g.ties
    rcases snoc_split hs with ⟨hr, h1, h2⟩ | ⟨r', hr, h1⟩
    · subst hr h1 h2
      refine ⟨fun x => x == b, fun x hx => ?_, ?_⟩
      · rw [List.append_nil] at hx
        obtain ⟨i1, i2, _⟩ := inos x hx
        have n1 : (x.1 == b) = false := beq_eq_false_iff_ne.mpr fun z => hb (z ▸ i1)
        have n2 : (x.2.1 == b) = false := beq_eq_false_iff_ne.mpr fun z => hb (z ▸ i2)
        show (x.1 == b) = (x.2.1 == b)
        rw [n1, n2]
      · have na : (a == b) = false := beq_eq_false_iff_ne.mpr fun z => hb (z ▸ ha)
        rcases he0 with z | z <;> rw [z] <;> simp [na]
    · subst hr
      obtain ⟨f, hf, hne⟩ := ih l r' e h1
      have old : ∀ y : Nm, y ∈ os → (if y = b then f a else f y) = f y := fun y hy => if_neg fun (z : y = b) => hb (z ▸ hy)
      refine ⟨fun x => if x = b then f a else f x, fun x hx => ?_, ?_⟩
      · have hx : x ∈ l ++ r' ∨ x = e0 := by
          rw [← List.append_assoc] at hx
          rcases List.mem_append.mp hx with z | z
          · exact .inl z
          · exact .inr (List.mem_singleton.mp z)
        rcases hx with hx | rfl
        · have hm : x ∈ es := by
            rw [h1]
            rcases List.mem_append.mp hx with z | z
            · exact List.mem_append_left _ z
            · exact List.mem_append_right _ (List.mem_cons.mpr (.inr z))
          obtain ⟨i1, i2, _⟩ := inos x hm
          show (if x.1 = b then f a else f x.1) = (if x.2.1 = b then f a else f x.2.1)
          rw [old _ i1, old _ i2]
          exact hf x hx
        · rcases he0 with z | z <;> rw [z]
          · show (if a = b then f a else f a) = (if b = b then f a else f b)
            rw [old a ha, if_pos rfl]
          · show (if b = b then f a else f b) = (if a = b then f a else f a)
            rw [old a ha, if_pos rfl]
      · obtain ⟨i1, i2, _⟩ := inos e (by rw [h1]; simp)
        show (if e.1 = b then f a else f e.1) ≠ (if e.2.1 = b then f a else f e.2.1)
        rw [old _ i1, old _ i2]
        exact hne
theorem IsTree.cut {pl : List Nm} {ts l r : List Tie} {e : Tie} (h : IsTree pl ts) (hs : ts = l ++ e :: r) : ∃ f : Nm → Bool, (∀ x ∈ l ++ r, f x.1 = f x.2.1) ∧ f e.1 ≠ f e.2.1 := by
  obtain ⟨os, es, g, _, p⟩ := h
  have hm : e ∈ es := p.mem_iff.mp (by rw [hs]; simp)
  obtain ⟨l', r', he⟩ := List.append_of_mem hm
  obtain ⟨f, hf, hne⟩ := g.cut l' r' e he
  refine ⟨f, fun x hx => hf x ?_, hne⟩
  have q : (e :: (l ++ r)).Perm (e :: (l' ++ r')) := (List.perm_middle.symm.trans (by rw [← hs, ← he]; exact p)).trans List.perm_middle
  exact q.cons_inv.mem_iff.mp hx
/-- places that have one mark hang together by these ties -/
def MarkInv (done : List Tie) (pl : List Nm) (mk : Nm → Nm) : Prop := ∀ f : Nm → Bool, (∀ e ∈ done, f e.1 = f e.2.1) → ∀ x ∈ pl, f (mk x) = f x
theorem MarkInv.start (pl : List Nm) : MarkInv [] pl id := fun _ _ _ _ => rfl
theorem MarkInv.ne {pl : List Nm} {ts l r : List Tie} {e : Tie} {mk : Nm → Nm} (h : IsTree pl ts) (hs : ts = l ++ e :: r) (M : MarkInv l pl mk) : mk e.1 ≠ mk e.2.1 := fun z => by
  obtain ⟨f, hf, hne⟩ := h.cut hs
  obtain ⟨i1, i2, _⟩ := h.ties e (by rw [hs]; simp)
  have hl : ∀ x ∈ l, f x.1 = f x.2.1 := fun x hx => hf x (List.mem_append_left _ hx)
  exact hne (by rw [← M f hl _ i1, ← M f hl _ i2, z])
theorem MarkInv.next {pl : List Nm} {l : List Tie} {e : Tie} {mk : Nm → Nm} (M : MarkInv l pl mk) (i1 : e.1 ∈ pl) (i2 : e.2.1 ∈ pl) : MarkInv (l ++ [e]) pl (merged mk e.1 e.2.1) := fun f hf x hx => by
  have hl : ∀ y ∈ l, f y.1 = f y.2.1 := fun y hy => hf y (List.mem_append_left _ hy)
  unfold merged
  by_cases z : mk x = mk e.2.1
  · rw [if_pos z, M f hl _ i1, hf e (by simp), ← M f hl _ i2, ← z, M f hl x hx]
  · rw [if_neg z]
    exact M f hl x hx
/-! ### a tree's text -/
def rowsT (pl : List Nm) (ts : List Tie) : List Nm := joinW pl :: ts.map rowT
def textT (pl : List Nm) (ts : List Tie) : Nm := TL.joinL [10] (rowsT pl ts)
theorem joinL_mem {c : Nat} {s : Nm} : ∀ {ys : List Nm}, c ∈ TL.joinL s ys → c ∈ s ∨ ∃ y ∈ ys, c ∈ y
  | [], h => by simp [TL.joinL] at h
  | [x], h => .inr ⟨x, by simp, h⟩
  | x :: y :: r, h => by
    have h : c ∈ x ++ (s ++ TL.joinL s (y :: r)) := h
    rcases List.mem_append.mp h with z | z
    · exact .inr ⟨x, by simp, z⟩
    · rcases List.mem_append.mp z with z | z
      · exact .inl z
      · rcases joinL_mem z with z | ⟨w, hw, z⟩
        · exact .inl z
        · exact .inr ⟨w, List.mem_cons.mpr (.inr hw), z⟩
theorem joinW_no {ws : List Nm} (h : ∀ x ∈ ws, 10 ∉ x) : 10 ∉ joinW ws := fun hm => by
  rcases joinL_mem hm with z | ⟨w, hw, z⟩
  · simp at z
  · exact h w hw z
theorem split_rows {ys : List Nm} (hne : ys ≠ []) (h : ∀ p ∈ ys, 10 ∉ p) : Txt.split (S (TL.joinL [10] ys)) ("\n" : Str) = ys.map S := by
  rw [feed_is, SX.split_S (by simp) (by decide), SX.spl_join hne h]
structure Fine (pl : List Nm) (ts : List Tie) : Prop where
  tree : IsTree pl ts
  ok : ∀ l ∈ pl, NameOk l
  len : pl.length ≤ 1000
theorem Fine.okT {pl : List Nm} {ts : List Tie} (F : Fine pl ts) {e : Tie} (he : e ∈ ts) : NameOk e.1 ∧ NameOk e.2.1 := by
  obtain ⟨i1, i2, _⟩ := F.tree.ties e he
  exact ⟨F.ok _ i1, F.ok _ i2⟩
theorem Fine.ne {pl : List Nm} {ts : List Tie} (F : Fine pl ts) : pl ≠ [] := fun z => by
  have := F.tree.len
  rw [z] at this
  simp at this
theorem Fine.rowLen {pl : List Nm} {ts : List Tie} (F : Fine pl ts) {e : Tie} (he : e ∈ ts) : (rowT e).length ≤ 30 := by
  obtain ⟨o1, o2⟩ := F.okT he
  obtain ⟨_, _, _, k2⟩ := F.tree.ties e he
  have ln := num_len k2
  have la := o1.2.1
  have lb := o2.2.1
  show (e.1 ++ ([32] ++ (e.2.1 ++ ([32] ++ numW e.2.2)))).length ≤ 30
  simp
  omega
theorem Fine.headLen {pl : List Nm} {ts : List Tie} (F : Fine pl ts) : (joinW pl).length ≤ 9000 := by
  have h1 := joinL_len [32] pl
  have h2 := sum_le (B := 8) fun y hy => (F.ok y hy).2.1
  have h3 : ([32] : Nm).length = 1 := rfl
  have h4 := F.len
  rw [h3] at h1
  unfold joinW
  omega
theorem Fine.sumLen {pl : List Nm} {ts : List Tie} (F : Fine pl ts) : ((rowsT pl ts).map (·.length)).sum + (rowsT pl ts).length ≤ 50000 := by
  have h1 := F.headLen
  have h2 := sum_le (ys := ts.map rowT) (B := 30) fun y hy => by
    obtain ⟨e, he, rfl⟩ := List.mem_map.mp hy
    exact F.rowLen he
  have h3 := F.tree.len
  have h4 := F.len
  unfold rowsT
  rw [List.map_cons, List.sum_cons, List.length_cons]
  rw [List.length_map] at h2 ⊢
  omega
theorem Fine.textLen {pl : List Nm} {ts : List Tie} (F : Fine pl ts) : (textT pl ts).length ≤ 50000 := by
  have h1 := joinL_len [10] (rowsT pl ts)
  have h2 := F.sumLen
  have h3 : ([10] : Nm).length = 1 := rfl
  rw [h3] at h1
  unfold textT
  omega
theorem Fine.noFeed {pl : List Nm} {ts : List Tie} (F : Fine pl ts) : ∀ y ∈ rowsT pl ts, 10 ∉ y := fun y hy => by
  rcases List.mem_cons.mp hy with rfl | hy
  · exact joinW_no fun x hx => name_no (F.ok x hx) (by decide)
  · obtain ⟨e, he, rfl⟩ := List.mem_map.mp hy
    obtain ⟨o1, o2⟩ := F.okT he
    refine joinW_no fun x hx => ?_
    rcases List.mem_cons.mp hx with rfl | hx
    · exact name_no o1 (by decide)
    · rcases List.mem_cons.mp hx with rfl | hx
      · exact name_no o2 (by decide)
      · rw [List.mem_singleton.mp hx]
        exact num_no (by decide)
/-! ### walks by enumerate from c on -/
theorem for_enumS {K : PySem.W.Frag} {a : Addr} {c : Int} {xs : List V} {g : TG} {tb : TS} {D : Ends} {σ : L2.St} {H : Hp} (Pv : Nat → L2.St → Hp → Prop) (h0 : Pv 0 σ H) (hl : ∀ i σ H, Pv i σ H → SqL K H a xs)
    (hs : ∀ i x σ H T, xs[i]? = some x → Pv i σ H → H T = none → g (.ref T) σ (upd H T (.tup [.int (c + (i : Nat)), x])) fun σ2 H2 => tb { D with nx := Pv (i + 1), ct := Pv (i + 1), bk := D.nx } σ2 H2) (hd : ∀ σ H, Pv xs.length σ H → D.nx σ H) :
    ∃ W : Nat → Nat → L2.St → Hp → Prop, (∃ m, W 0 m σ H) ∧ ∀ i m σ H, W i m σ H →
      ((Ites K a c).stop i H ∧ D.nx σ H) ∨ ((Ites K a c).go i H ∧ ∃ N : L2.St → Hp → Prop, (∀ σ' H', N σ' H' → ∃ m', m' < m ∧ W (i + 1) m' σ' H') ∧ ∀ x H', (Ites K a c).yld i H x H' → g x σ H' fun σ2 H2 => tb { D with nx := N, ct := N, bk := D.nx } σ2 H2) := by
  refine ⟨fun i m σ H => m = xs.length - i ∧ i ≤ xs.length ∧ Pv i σ H, ⟨xs.length, by simp, Nat.zero_le _, h0⟩, fun i m σ H ⟨em, hi, p⟩ => ?_⟩
  have q := hl i σ H p
  by_cases lt : i < xs.length
  · refine .inr ⟨⟨xs, xs[i], q, by simp [lt]⟩, Pv (i + 1), fun σ' H' p' => ⟨xs.length - (i + 1), by omega, rfl, lt, p'⟩, fun v H' ⟨T, x, ev, nT, eH, hx⟩ => ?_⟩
    rw [ev, eH]
    exact hs i x σ H T (hx xs q) p nT
  · have e : i = xs.length := by omega
    rw [e] at p
    exact .inl ⟨⟨xs, q, by omega⟩, hd σ H p⟩
theorem same_smx {H H1 H2 : Hp} {d : Addr} (a : Same H H1) (s : SmX d H1 H2) (n : H d = none) : Same H H2 := fun b o h => s b o (ne_of_none h n) (a b o h)
theorem free_smx {H1 H2 : Hp} {d p : Addr} (s : SmX d H1 H2) (h : H2 p = none) (n : p ≠ d) : H1 p = none := s.free h n
abbrev s_read_tree : Stmt := topS 7
abbrev N_read_tree : List Str := ["text", "rows", "places", "parts", "ties", "number", "row", "tie", "place"]
theorem sc_read_tree : FnScope N_read_tree ["text"] (defScope s_read_tree) := ⟨rfl, rfl, rfl, by decide +kernel, rfl, by decide +kernel, by decide +kernel⟩
abbrev s_tree_shown : Stmt := topS 8
abbrev N_tree_shown : List Str := ["tree", "places", "ties", "rows", "one", "other", "length"]
theorem sc_tree_shown : FnScope N_tree_shown ["tree"] (defScope s_tree_shown) := ⟨rfl, rfl, rfl, by decide +kernel, rfl, by decide +kernel, by decide +kernel⟩
section
variable {P : Program} {w : World} {K : PySem.W.Frag} {mg : Str → Option Value} {base : Heap}
def spRead : Sp := fun vs H Q _ => ∃ (pl : List Nm) (ts : List Tie), vs = [.str (S (textT pl ts))] ∧ Fine pl ts ∧ ∀ (H' : Hp) (t : Addr), Same H H' → H t = none → Dt H' (.ref t) (treeD pl ts) → Q (.ref t) H'
theorem ok_read_tree {f : Addr} {fd : FuncData} (F : Fun K "read_tree" "read_tree" s_read_tree f fd) (T : TxtP mg) (C_read_places : Cal P w K mg base 2 "_read_places" spPlaces) (C_read_tie : Cal P w K mg base 2 "_read_tie" spTie) (C_hang_together : Cal P w K mg base 1 "_hang_together" spHang) : FnOk P w K mg base CX0 3 f fd ["text"] spRead := by
  refine F.ok sc_read_tree (fun vs H Q E h => ?_) (fun cdv A outer s H vs Q E hr h => ?_)
  · obtain ⟨pl, ts, rfl, _⟩ := h
    rfl
  · obtain ⟨pl, ts, rfl, fine, q⟩ := h
    refine ⟨_, (pss_cons (ps_set (i := 1) sc_read_tree.nd rfl (.inl rfl) (pe_split (pv 0) pe_str))
      (pss_cons (ps_set (i := 2) sc_read_tree.nd rfl (.inl rfl) (pe_c C_read_places hr (by decide) rfl (pa_cons (pe_ix ix_list (pv 1) pe_int (fun _ _ => rfl)) pa_nil)))
      (pss_cons (ps_setDc (i := 3) (own := [("place", 8)]) (g := gName 8) (tt := tYes) rfl sc_read_tree.nd rfl rfl (swD_true rfl rfl rfl (by decide +kernel)) (pi_tup (pv 2)) (blkOk_by (N := N_read_tree) (sc := defScope s_read_tree) (by decide +kernel)) (fun _ _ _ _ _ => pg_name (i := 8) sc_read_tree.nd rfl (Or.inl rfl)) (fun _ _ _ _ _ => pts_nil) (fun _ _ _ _ _ => (pv 8)) (fun _ _ _ _ _ => (pv 8)))
      (pss_cons (ps_set (i := 4) sc_read_tree.nd rfl (.inl rfl) (pe_lst pa_nil))
      (pss_cut (ps_for PassesOwn.never rfl (pi_enumS (by rfl) T.enumerate (pa_cons (pe_slice sl_list (pv 1) (po_some pe_int) po_none) pa_nil) (by decide) (by decide)) (pg_tup rfl (pgs_cons (pg_name (i := 5) sc_read_tree.nd rfl (.inl rfl)) (pgs_cons (pg_name (i := 6) sc_read_tree.nd rfl (.inl rfl)) pgs_nil)))
        (pss_cons (ps_set (i := 7) sc_read_tree.nd rfl (.inl rfl) (pe_c C_read_tie hr (by decide) rfl (pa_cons (pv 6) (pa_cons (pv 5) (pa_cons (pv 3) pa_nil)))))
        (pss_cons (ps_expr (pe_c C_hang_together hr (by decide) rfl (pa_cons (pv 3) (pa_cons (pe_ix ix_tup (pv 7) pe_int (fun _ _ => rfl)) (pa_cons (pe_ix ix_tup (pv 7) pe_int (fun _ _ => rfl)) pa_nil)))))
        (pss_one (ps_expr (pe_bm PySem.F.plainAttrs_list PySem.F.slot_list_append PySem.F.type_list_append mt_append (pv 4) (pa_cons (pv 7) pa_nil)))))))
      (pss_cut (ps_if (pt_cmpR op_lt (pe_callB call_len_seq (by rfl) T.len bt_len (pa_cons (pv 4) pa_nil)) (pe_op op_sub (pe_callB call_len_seq (by rfl) T.len bt_len (pa_cons (pv 2) pa_nil)) pe_int) (nomark _))
        (pss_one ps_never)
        pss_nil)
      (pss_one (ps_ret (pe_tup (pa_cons (pv 2) (pa_cons (pe_tupleOf (by rfl) T.tuple (pv 4)) pa_nil))))))))))), ?_⟩
    have tl := fine.textLen
    have nd := fine.tree.nodup
    have pl1 := fine.len
    have len := fine.tree.len
    refine ⟨_, rfl, ⟨_, rfl⟩, _, _, rfl, rfl, by decide +kernel, by rw [SX.S_len]; exact Nat.le_trans (show _ ≤ 100000 by omega) (by decide), fun p np => ?_⟩
    rw [show Txt.split (S (textT pl ts)) ("\n" : Str) = (rowsT pl ts).map S from split_rows (by simp [rowsT]) fine.noFeed]
    -- places
    refine ⟨_, rfl, p, _, 0, .str (S (joinW pl)), rfl, rfl, SqL.of upd_same, atI_nat (j := 0) rfl, pl, rfl, fine.ne, nd, fine.ok, pl1, fun H1 t S1 nt ht => ?_⟩
    have hp1 := S1 p _ upd_same
    have SM1 : Same H H1 := (same_new (Same.refl H) np).trans S1
    have nt0 : H t = none := (same_new (o := .lst (((rowsT pl ts).map S).map V.str)) (Same.refl H) np).free nt
    -- parts
    refine ⟨_, rfl, t, rfl, ⟨_, SqT.of ht⟩, fun D nD => ?_⟩
    have D0 : H D = none := SM1.free nD
    have Dt' : D ≠ t := (ne_of_none ht nD).symm
    have Dp' : D ≠ p := (ne_of_none hp1 nD).symm
    refine dc_tup (K := K) (a := t) (xs := (pl.map S).map V.str) (fun i H' => H' = upd H1 D (.dK (partsK (pl.take i) id))) rfl (fun i H' _ hP => ?_) (fun i x H' hi hP => ?_) (fun H' hP => ?_)
    · rw [hP]
      exact SqT.of (by rw [upd_ne Dt'.symm]; exact ht)
    · subst hP
      rw [List.getElem?_map, List.getElem?_map] at hi
      cases el : pl[i]? with
      | none =>
        rw [el] at hi
        cases hi
      | some l =>
        rw [el] at hi
        have ex : x = .str (S l) := (Option.some.inj hi).symm
        subst ex
        have ln : l ∉ pl.take i := fun hm => by
          obtain ⟨j, hj, ej⟩ := List.mem_take_iff_getElem.mp hm
          obtain ⟨hi', ei⟩ := List.getElem?_eq_some_iff.mp el
          have := (List.getElem_inj nd).mp (ej.trans ei.symm)
          omega
        refine ⟨rfl, _, rfl, _, rfl, _, Sum.inr (S l), rfl, upd_same, by unfold partsK; rw [List.length_map, List.length_take]; exact sz_lt (by omega), ?_⟩
        rw [upd_upd, putK_new _ (parts_no ln), List.take_add_one, el]
        unfold partsK
        rw [List.map_append]
        rfl
    · subst hP
      rw [List.length_map, List.length_map, List.take_length]
      -- ties
      refine ⟨Nat.zero_le _, fun g ng => ?_⟩
      have gD : g ≠ D := (ne_of_none upd_same ng).symm
      have ng1 : H1 g = none := by rw [upd_ne gD] at ng; exact ng
      have g0 : H g = none := SM1.free ng1
      have gt : g ≠ t := (ne_of_none ht ng1).symm
      have gp : g ≠ p := (ne_of_none hp1 ng1).symm
      refine ⟨fun σ' H' => ∃ (x5 x6 x7 : Option V) (vs : List V), σ' = [some (.str (S (textT pl ts))), some (.ref p), some (.ref t), some (.ref D), some (.ref g), x5, x6, x7, none] ∧ Same H H' ∧ H' t = some (.tup ((pl.map S).map V.str)) ∧ H' g = some (.lst vs) ∧ DtAll H' vs (ts.map tieD), ?_, fun σ' H' hM => ?_⟩
      · -- rows[1:]
        refine ⟨_, rfl, 1, rfl, p, _, rfl, SqL.of (by rw [upd_ne gp.symm, upd_ne Dp'.symm]; exact hp1), fun c nc => ?_⟩
        have cg : c ≠ g := (ne_of_none upd_same nc).symm
        have nc1 : (upd H1 D (.dK (partsK pl id))) c = none := by rw [upd_ne cg] at nc; exact nc
        have cD : c ≠ D := (ne_of_none upd_same nc1).symm
        have nc2 : H1 c = none := by rw [upd_ne cD] at nc1; exact nc1
        have c0 : H c = none := SM1.free nc2
        have ct : c ≠ t := (ne_of_none ht nc2).symm
        have ecut : cutV (((rowsT pl ts).map S).map V.str) (some 1) none = ((ts.map rowT).map S).map V.str := by
          unfold cutV
          rw [show HT.sIx (((rowsT pl ts).map S).map V.str).length 0 (some 1) = min 1 (((rowsT pl ts).map S).map V.str).length from HT.sIx_nat _ 0 1, HT.sIx_none]
          unfold rowsT
          simp
          exact List.take_of_length_le (by simp)
        rw [ecut]
        refine ⟨c, _, rfl, SqL.of upd_same, for_enumS (K := K) (a := c) (c := 1) (xs := ((ts.map rowT).map S).map V.str) (fun i σ' H' => ∃ (x5 x6 x7 : Option V) (vs : List V) (mk : Nm → Nm), σ' = [some (.str (S (textT pl ts))), some (.ref p), some (.ref t), some (.ref D), some (.ref g), x5, x6, x7, none] ∧ Same H H' ∧ H' t = some (.tup ((pl.map S).map V.str)) ∧ H' c = some (.lst (((ts.map rowT).map S).map V.str)) ∧ PartsAt H' D pl mk ∧ MarkInv (ts.take i) pl mk ∧ H' g = some (.lst vs) ∧ DtAll H' vs ((ts.take i).map tieD))
          ⟨none, none, none, [], id, rfl, same_put (same_put (same_put SM1 D0) g0) c0, by rw [upd_ne ct.symm, upd_ne gt.symm, upd_ne Dt'.symm]; exact ht, upd_same, by unfold PartsAt; rw [upd_ne cD.symm, upd_ne gD.symm]; exact upd_same, MarkInv.start pl, by rw [upd_ne cg.symm]; exact upd_same, .nil⟩ (fun i σ' H' hP => ?_) (fun i x σ' H' T hi hP nT => ?_) (fun σ' H' hP => ?_)⟩
        · obtain ⟨_, _, _, _, _, _, _, _, hc, _⟩ := hP
          exact SqL.of hc
        · obtain ⟨x5, x6, x7, vs, mk, rfl, SM, ht', hc, hD, M, hg, hA⟩ := hP
          rw [List.getElem?_map, List.getElem?_map, List.getElem?_map] at hi
          cases ee : ts[i]? with
          | none =>
            rw [ee] at hi
            cases hi
          | some e =>
            rw [ee] at hi
            have ex : x = .str (S (rowT e)) := (Option.some.inj hi).symm
            subst ex
            have em : e ∈ ts := List.mem_of_getElem? ee
            obtain ⟨i1, i2, k1, k2⟩ := fine.tree.ties e em
            obtain ⟨o1, o2⟩ := fine.okT em
            obtain ⟨hi', ei⟩ := List.getElem?_eq_some_iff.mp ee
            have hsp : ts = ts.take i ++ e :: ts.drop (i + 1) := by
              rw [← ei, List.getElem_cons_drop, List.take_append_drop]
            have et : ts.take (i + 1) = ts.take i ++ [e] := by
              rw [List.take_add_one, ee]
              rfl
            refine ⟨T, _, rfl, SqT.of upd_same, rfl, _, _, rfl, _, _, rfl, rfl, ?_⟩
            have sT : Same H' (upd H' T (.tup [.int (1 + (i : Nat)), .str (S (rowT e))])) := same_new (Same.refl H') nT
            refine ⟨_, rfl, _, rfl, _, rfl, e, _, D, pl, mk, rfl, sT _ _ hD, i1, i2, o1, o2, k1, k2, M.ne fine.tree hsp, fun H2 u S2 nu hu => ?_⟩
            have S02 : Same H' H2 := sT.trans S2
            refine ⟨_, rfl, _, rfl, u, _, 0, _, rfl, rfl, SqT.of hu, rfl, _, rfl, u, _, 1, _, rfl, rfl, SqT.of hu, rfl, D, pl, mk, e.1, e.2.1, rfl, S02 _ _ hD, nd, pl1, i1, i2, fun H3 S3 hD3 => ?_⟩
            have uD : u ≠ D := (ne_of_none (sT _ _ hD) nu).symm
            have hg3 : H3 g = some (.lst vs) := S3 g _ gD (S02 _ _ hg)
            have vl : vs.length = (ts.take i).length := by
              have := DtAll.len hA
              rwa [List.length_map] at this
            rw [List.length_take] at vl
            refine ⟨_, rfl, .inl ⟨rfl, _, SqL.of hg3⟩, _, rfl, g, _, _, rfl, rfl, hg3, sz_lt (by omega), ?_⟩
            have tk2 : TK H2 H3 := fun b ys h => S3 b _ (ne_of h (S02 _ _ hD) (by intro z; cases z)) h
            have tk3 : TK H3 (upd H3 g (.lst (vs ++ [.ref u]))) := TK.mut hg3
            refine ⟨_, _, _, vs ++ [.ref u], merged mk e.1 e.2.1, rfl, same_put (same_smx (SM.trans S02) S3 D0) g0, by rw [upd_ne gt.symm]; exact S3 t _ Dt'.symm (S02 _ _ ht'), by rw [upd_ne cg]; exact S3 c _ cD (S02 _ _ hc), by unfold PartsAt; rw [upd_ne gD.symm]; exact hD3, by rw [et]; exact M.next i1 i2, upd_same, ?_⟩
            rw [et, List.map_append]
            exact DtAll.app (DtAll.keep (((TK.of S02).trans tk2).trans tk3) hA) (.cons (Dt.keep (tk2.trans tk3) (.tup hu (.cons (.str _) (.cons (.str _) (.cons (.int _) .nil))))) .nil)
        · obtain ⟨x5, x6, x7, vs, mk, rfl, SM, ht', hc, hD, M, hg, hA⟩ := hP
          rw [List.length_map, List.length_map, List.length_map, List.take_length] at hA
          exact ⟨x5, x6, x7, vs, rfl, SM, ht', hg, hA⟩
      · obtain ⟨x5, x6, x7, vs, rfl, SM, ht', hg, hA⟩ := hM
        have vl : vs.length = ts.length := by
          have := DtAll.len hA
          rwa [List.length_map] at this
        refine ⟨fun σ'' H'' => σ'' = [some (.str (S (textT pl ts))), some (.ref p), some (.ref t), some (.ref D), some (.ref g), x5, x6, x7, none] ∧ H'' = H', ?_, fun σ'' H'' hM => ?_⟩
        · refine ⟨_, rfl, g, _, rfl, .inl (SqL.of hg), _, rfl, t, _, rfl, .inr (SqT.of ht'), _, _, rfl, rfl, _, _, rfl, rfl, _, rfl, ?_⟩
          rw [List.length_map, List.length_map, decide_eq_false (by omega)]
          exact iteF ⟨rfl, rfl⟩
        · obtain ⟨rfl, rfl⟩ := hM
          refine ⟨_, rfl, _, rfl, .inl ⟨g, _, rfl, SqL.of hg, fun a2 na2 => ?_⟩⟩
          refine ⟨(by show 2 ≤ sizeLine; decide), fun a3 na3 => ?_⟩
          have tk : TK H'' (upd (upd H'' a2 (.tup vs)) a3 (.tup [.ref t, .ref a2])) := (TK.new na2).trans (TK.new na3)
          refine q _ a3 (same_new (same_new SM na2) na3) ((same_new (o := .tup vs) SM na2).free na3) (.tup upd_same (.cons (.tup (tk _ _ ht') (dt_strs _ pl)) (.cons (.tup (TK.new na3 _ _ upd_same) (DtAll.keep tk hA)) .nil)))
theorem dt_pair {H : Hp} {v : V} {d e : PyData} (h : Dt H v (.tuple [d, e])) : ∃ (a : Addr) (x y : V), v = .ref a ∧ H a = some (.tup [x, y]) ∧ Dt H x d ∧ Dt H y e := by
  cases h with
  | tup ha hs =>
    cases hs with
    | cons h1 hr =>
      cases hr with
      | cons h2 hn =>
        cases hn
        exact ⟨_, _, _, rfl, ha, h1, h2⟩
theorem dt_tup {H : Hp} {v : V} {ds : List PyData} (h : Dt H v (.tuple ds)) : ∃ (a : Addr) (xs : List V), v = .ref a ∧ H a = some (.tup xs) ∧ DtAll H xs ds := by
  cases h with
  | tup ha hs => exact ⟨_, _, rfl, ha, hs⟩
/-- a tree in the heap: its parts -/
theorem dt_tree {H : Hp} {v : V} {pl : List Nm} {ts : List Tie} (h : Dt H v (treeD pl ts)) : ∃ (t a b : Addr) (vs : List V), v = .ref t ∧ H t = some (.tup [.ref a, .ref b]) ∧ H a = some (.tup ((pl.map S).map V.str)) ∧ H b = some (.tup vs) ∧ DtAll H vs (ts.map tieD) := by
  obtain ⟨t, x, y, rfl, ht, hx, hy⟩ := dt_pair h
  obtain ⟨a, xs, rfl, ha, hs⟩ := dt_tup hx
  obtain ⟨b, vs, rfl, hb, hv⟩ := dt_tup hy
  rw [DtAll.strs hs] at ha
  exact ⟨t, a, b, vs, rfl, ht, ha, hb, hv⟩
theorem dt_tie {H : Hp} {v : V} {e : Tie} (h : Dt H v (tieD e)) : ∃ t : Addr, v = .ref t ∧ H t = some (.tup [.str (S e.1), .str (S e.2.1), .int e.2.2]) := by
  obtain ⟨t, xs, rfl, ht, hs⟩ := dt_tup h
  cases hs with
  | cons h1 hr =>
    cases hr with
    | cons h2 hr =>
      cases hr with
      | cons h3 hr =>
        cases hr
        cases h1
        cases h2
        cases h3
        exact ⟨t, rfl, ht⟩
def spShown : Sp := fun vs H Q _ => ∃ (v : V) (pl : List Nm) (ts : List Tie), vs = [v] ∧ Dt H v (treeD pl ts) ∧ Fine pl ts ∧ ∀ H' : Hp, Same H H' → Q (.str (S (textT pl ts))) H'
theorem ok_tree_shown {f : Addr} {fd : FuncData} (F : Fun K "tree_shown" "tree_shown" s_tree_shown f fd) : FnOk P w K mg base CX0 1 f fd ["tree"] spShown := by
  refine F.ok sc_tree_shown (fun vs H Q E h => ?_) (fun cdv A outer s H vs Q E hr h => ?_)
  · obtain ⟨v, pl, ts, rfl, _⟩ := h
    rfl
  · obtain ⟨v, pl, ts, rfl, hd, fine, q⟩ := h
    obtain ⟨t, a, b, vs, rfl, ht, ha, hb, hA⟩ := dt_tree hd
    refine ⟨_, (pss_cons (ps_asg (pv 0) (pg_tup rfl (pgs_cons (pg_name (i := 1) sc_tree_shown.nd rfl (.inl rfl)) (pgs_cons (pg_name (i := 2) sc_tree_shown.nd rfl (.inl rfl)) pgs_nil))))
      (pss_cons (ps_set (i := 3) sc_tree_shown.nd rfl (.inl rfl) (pe_lst (pa_cons (pe_join pe_str (pv 1)) pa_nil)))
      (pss_cut (ps_for PassesOwn.never rfl (pi_tup (pv 2)) (pg_tup rfl (pgs_cons (pg_name (i := 4) sc_tree_shown.nd rfl (.inl rfl)) (pgs_cons (pg_name (i := 5) sc_tree_shown.nd rfl (.inl rfl)) (pgs_cons (pg_name (i := 6) sc_tree_shown.nd rfl (.inl rfl)) pgs_nil))))
        (pss_one (ps_expr (pe_bm PySem.F.plainAttrs_list PySem.F.slot_list_append PySem.F.type_list_append mt_append (pv 3) (pa_cons (pe_joined (.cons (pe_fmt (pv 4)) (.cons pe_str (.cons (pe_fmt (pv 5)) (.cons pe_str (.cons (pe_fmt (pv 6)) .nil)))))) pa_nil)))))
      (pss_one (ps_ret (pe_join pe_str (pv 3))))))), ?_⟩
    have hl := fine.headLen
    have pl1 := fine.len
    have len := fine.tree.len
    have vl : vs.length = ts.length := by
      have := DtAll.len hA
      rwa [List.length_map] at this
    refine ⟨_, rfl, t, _, rfl, SqT.of ht, rfl, _, _, rfl, _, _, rfl, rfl, ?_⟩
    have ej : Txt.join (" " : Str) (pl.map S) = S (joinW pl) := by
      rw [blank_is, SX.join_S]
      rfl
    have sj : ((pl.map S).map (·.length)).sum + (pl.map S).length * ((" " : Str)).length ≤ 16777216 := by
      have h2 := sum_le (B := 8) fun y hy => (fine.ok y hy).2.1
      have h3 : ((" " : Str)).length = 1 := by decide +kernel
      rw [SX.lens, List.length_map, h3]
      exact Nat.le_trans (Nat.add_le_add (show _ ≤ pl.length * 8 from h2) (Nat.le_refl _)) (by omega)
    refine ⟨⟨_, rfl⟩, _, rfl, _, a, pl.map S, rfl, rfl, .inr (SqT.of ha), sj, (by show 1 ≤ sizeLine; decide), fun p np => ?_⟩
    rw [ej]
    refine ⟨fun σ' H' => ∃ x4 x5 x6, σ' = [some (.ref t), some (.ref a), some (.ref b), some (.ref p), x4, x5, x6] ∧ Same H H' ∧ H' p = some (.lst (((rowsT pl ts).map S).map V.str)), ?_, fun σ' H' hM => ?_⟩
    · refine ⟨_, rfl, b, rfl, ⟨_, SqT.of (by rw [upd_ne (ne_of_none hb np)]; exact hb)⟩, for_tup (K := K) (a := b) (xs := vs) (fun i σ' H' => ∃ x4 x5 x6, σ' = [some (.ref t), some (.ref a), some (.ref b), some (.ref p), x4, x5, x6] ∧ Same H H' ∧ H' p = some (.lst (((rowsT pl (ts.take i)).map S).map V.str)))
        ⟨none, none, none, rfl, same_new (Same.refl H) np, upd_same⟩ (fun i σ' H' _ hP => ?_) (fun i x σ' H' hi hP => ?_) (fun σ' H' hP => ?_)⟩
      · obtain ⟨_, _, _, _, sm, _⟩ := hP
        exact SqT.of (sm _ _ hb)
      · obtain ⟨x4, x5, x6, rfl, sm, hp⟩ := hP
        obtain ⟨d, hd, hx⟩ := DtAll.get hA hi
        rw [List.getElem?_map] at hd
        cases ee : ts[i]? with
        | none =>
          rw [ee] at hd
          cases hd
        | some e =>
          rw [ee] at hd
          have ed : d = tieD e := (Option.some.inj hd).symm
          subst ed
          obtain ⟨u, rfl, hu⟩ := dt_tie hx
          have em : e ∈ ts := List.mem_of_getElem? ee
          obtain ⟨i1, i2, k1, k2⟩ := fine.tree.ties e em
          obtain ⟨o1, o2⟩ := fine.okT em
          have ln := num_len k2
          have l1 := o1.2.1
          have l2 := o2.2.1
          have et : ts.take (i + 1) = ts.take i ++ [e] := by
            rw [List.take_add_one, ee]
            rfl
          refine ⟨u, _, rfl, SqT.of (sm _ _ hu), rfl, _, _, rfl, _, _, rfl, _, _, rfl, rfl, ?_⟩
          have ek : (toString e.2.2 : String) = toString ((e.2.2.toNat : Nat) : Int) := by
            congr 1
            omega
          have en : Str.ofString (toString e.2.2) = S (numW e.2.2) := by
            rw [ek]
            exact SX.num_S _
          have e0 : Str.empty = S [] := by decide +kernel
          have lb : e.2.2.natAbs.log2 < 1920 := Nat.lt_trans (PySem.Flt.log2_lt_of (k := 20) (by decide) (by
            have : (2 : Nat) ^ 20 = 1048576 := by decide
            omega)) (by decide)
          refine ⟨_, rfl, .inl ⟨rfl, _, SqL.of hp⟩, _, rfl, .inl ⟨S e.1, rfl, by rw [SX.S_len]; exact sz_le (by omega), S e.1, rfl, by rw [e0, SX.S_cat, SX.S_len]; exact sz_le (by simp; omega), " ", rfl, by rw [e0, SX.S_cat, blank_is, SX.S_cat, SX.S_len]; exact sz_le (by simp; omega),
            _, rfl, .inl ⟨S e.2.1, rfl, by rw [SX.S_len]; exact sz_le (by omega), S e.2.1, rfl, by rw [e0, SX.S_cat, blank_is, SX.S_cat, SX.S_cat, SX.S_len]; exact sz_le (by simp; omega), " ", rfl, by rw [e0, SX.S_cat, blank_is, SX.S_cat, SX.S_cat, SX.S_cat, SX.S_len]; exact sz_le (by simp; omega),
            _, rfl, .inr ⟨e.2.2, rfl, lb, S (numW e.2.2), congrArg V.str en, by rw [e0, SX.S_cat, blank_is, SX.S_cat, SX.S_cat, SX.S_cat, SX.S_cat, SX.S_len]; exact sz_le (by simp; omega), p, _, _, rfl, rfl, hp, by rw [List.length_map, List.length_map]; unfold rowsT; rw [List.length_cons, List.length_map, List.length_take]; exact sz_lt (by omega), ?_⟩⟩⟩⟩
          refine ⟨_, _, _, rfl, same_put sm np, ?_⟩
          rw [upd_same, e0, SX.S_cat, blank_is, SX.S_cat, SX.S_cat, SX.S_cat, SX.S_cat, et]
          have er : [] ++ e.1 ++ [32] ++ e.2.1 ++ [32] ++ numW e.2.2 = rowT e := by
            show _ = e.1 ++ ([32] ++ (e.2.1 ++ ([32] ++ numW e.2.2)))
            simp
          rw [er]
          unfold rowsT
          rw [List.map_append, List.map_cons, List.map_cons, List.map_cons, List.map_cons, List.map_append, List.map_append]
          rfl
      · obtain ⟨x4, x5, x6, rfl, sm, hp⟩ := hP
        rw [vl, List.take_length] at hp
        exact ⟨_, _, _, rfl, sm, hp⟩
    · obtain ⟨x4, x5, x6, rfl, sm, hp⟩ := hM
      have s1 := fine.sumLen
      have h3 : (("\n" : Str)).length = 1 := by decide +kernel
      refine ⟨⟨_, rfl⟩, _, rfl, _, p, (rowsT pl ts).map S, rfl, rfl, .inl (SqL.of hp), by rw [SX.lens, List.length_map, h3, Nat.mul_one]; exact Nat.le_trans (show _ ≤ 50000 from s1) (by decide), ?_⟩
      rw [feed_is, SX.join_S]
      exact q H' sm
end
end Far

namespace Far
open PySem PySem.Spec PyProof.Rows L2
open C8 (pss_cut tCut)
open SX (S)
open RZ (ItzT iZipA pi_zipA)
structure TxtL (mg : Str → Option Value) : Prop where
  isinstance : mg "isinstance" = none
  tuple : mg "tuple" = none
  str : mg "str" = none
  int : mg "int" = none
  bool : mg "bool" = none
  len : mg "len" = none
  zip : mg "zip" = none
  range : mg "range" = none
/-- what two told things have in common: texts, whole numbers, tuples of such -/
inductive Plain : Nat → PyData → Prop
  | str (n : Nat) (x : Str) : Plain (n + 1) (.str x)
  | int (n : Nat) (i : Int) : Plain (n + 1) (.int i)
  | tup {n : Nat} {ds : List PyData} : (∀ d ∈ ds, Plain n d) → ds.length ≤ 1000 → Plain (n + 1) (.tuple ds)
theorem kit_cls (K : PySem.W.Frag) {a b : String} {r : Bool} (h : kitB a b = some r) : PySem.W.kitOne K (.type a) (.type b) = some r := kit_ty h
abbrev s_law_same : Stmt := topS 21
abbrev N_law_same : List Str := ["found", "due", "one", "other"]
theorem sc_law_same : FnScope N_law_same ["found", "due"] (defScope s_law_same) := ⟨rfl, rfl, rfl, by decide +kernel, rfl, by decide +kernel, by decide +kernel⟩
section
variable {P : Program} {w : World} {K : PySem.W.Frag} {mg : Str → Option Value} {base : Heap}
theorem zip_it {K : PySem.W.Frag} {a b : Addr} {xs ys : List V} {g : TG} {tt : TT} {te : TE} {vs : List Nat} {σ : L2.St} {H1 : Hp} {D : Addr} {Qd : Hp → Prop} (len : xs.length = ys.length) (Pv : Nat → Hp → Prop) (h0 : Pv 0 (upd H1 D (.lst []))) (hl : ∀ i H, Pv i H → SqT K H a xs ∧ SqT K H b ys)
    (hs : ∀ i x y H T, xs[i]? = some x → ys[i]? = some y → Pv i H → H T = none → g (.ref T) (wipe σ vs) (upd H T (.tup [x, y])) fun σ2 H2 => wipe σ2 vs = wipe σ vs ∧ tt σ2 H2 fun b H3 =>
      if b = true then te σ2 H3 fun y H4 => ∃ acc, H4 D = some (.lst acc) ∧ acc.length < sizeLine ∧ Pv (i + 1) (upd H4 D (.lst (acc ++ [y]))) else Pv (i + 1) H3) (hd : ∀ H, Pv xs.length H → Qd H) :
    ∃ W : Nat → Nat → Hp → Prop, (∃ m, W 0 m (upd H1 D (.lst []))) ∧ ∀ i m H, W i m H →
      ((ItzT K a b).stop i H ∧ Qd H) ∨ ((ItzT K a b).go i H ∧ ∃ Nx : Hp → Prop, (∀ H', Nx H' → ∃ m', m' < m ∧ W (i + 1) m' H') ∧ ∀ v H', (ItzT K a b).yld i H v H' → g v (wipe σ vs) H' fun σ2 H2 => wipe σ2 vs = wipe σ vs ∧ tt σ2 H2 fun b H3 =>
        if b = true then te σ2 H3 fun y H4 => ∃ acc, H4 D = some (.lst acc) ∧ acc.length < sizeLine ∧ Nx (upd H4 D (.lst (acc ++ [y]))) else Nx H3) := by
  refine ⟨fun i m H => m = xs.length - i ∧ i ≤ xs.length ∧ Pv i H, ⟨xs.length, by simp, Nat.zero_le _, h0⟩, fun i m H ⟨em, hi, p⟩ => ?_⟩
  obtain ⟨q1, q2⟩ := hl i H p
  by_cases lt : i < xs.length
  · have lt2 : i < ys.length := by omega
    refine .inr ⟨⟨xs, ys, xs[i], ys[i], q1, q2, by simp [lt], by simp [lt2]⟩, Pv (i + 1), fun H' p' => ⟨xs.length - (i + 1), by omega, rfl, lt, p'⟩, fun v H' ⟨T, x, y, ev, nT, eH, hx, hy⟩ => ?_⟩
    rw [ev, eH]
    exact hs i x y H T (hx xs q1) (hy ys q2) p nT
  · have e : i = xs.length := by omega
    rw [e] at p
    exact .inl ⟨⟨xs, ys, q1, q2, .inl (by omega)⟩, hd H p⟩
/-- two that stand for the same data (of depth below n) are the same -/
def spSame (n : Nat) : Sp := fun vs H Q _ => ∃ (u v : V) (d : PyData), vs = [u, v] ∧ Dt H u d ∧ Dt H v d ∧ Plain n d ∧ ∀ H' : Hp, Same H H' → Q (.bl true) H'
theorem dt_ty {H : Hp} {u : V} {ds : List PyData} (h : Dt H u (.tuple ds)) : TyX K H u (.type "tuple") := by
  cases h with
  | tup ha _ => exact .base (.tup ha)
theorem ok_same {f : Addr} {fd : FuncData} {n k : Nat} (hk : 1 ≤ k) (F : Fun K "_law_same" "_law_same" s_law_same f fd) (T : TxtL mg) (C_law_same : Cal P w K mg base k "_law_same" (spSame n)) : FnOk P w K mg base CX0 (k + 1) f fd ["found", "due"] (spSame (n + 1)) := by
  refine F.ok sc_law_same (fun vs H Q E h => ?_) (fun cdv A outer s H vs Q E hr h => ?_)
  · obtain ⟨u, v, d, rfl, _⟩ := h
    rfl
  · obtain ⟨u, v, d, rfl, hu, hv, hp, q⟩ := h
    refine ⟨_, (pss_cut (ps_if (pt_val (pe_callB call_isi (by rfl) T.isinstance bt_isinstance (pa_cons (pv 1) (pa_cons (pe_bltn (v := .ty "tuple") (by rfl) T.tuple bt_tuple rfl) pa_nil))))
        (pss_cut (ps_if (PW.pt (pw_or (pt_not (pt_val (pe_callB call_isi (by rfl) T.isinstance bt_isinstance (pa_cons (pv 0) (pa_cons (pe_bltn (v := .ty "tuple") (by rfl) T.tuple bt_tuple rfl) pa_nil))))) (pw_or1 (pt_cmpR op_ne (pe_callB call_len_seq (by rfl) T.len bt_len (pa_cons (pv 0) pa_nil)) (pe_callB call_len_seq (by rfl) T.len bt_len (pa_cons (pv 1) pa_nil)) (nomark _)))))
          (pss_one (ps_ret pe_bl))
          pss_nil)
        (pss_one (ps_ret (pe_cmpR (op_eqD (hd_of hr hk)) (pe_lc (own := [("one", 2), ("other", 3)]) (g := gTup K 2 (gCons (gName 2) (gCons (gName 3) gNil)))  rfl sc_law_same.nd (pi_zipA (by rfl) T.zip (pa_cons (pv 0) (pa_cons (pv 1) pa_nil))) (blkOk_by (N := N_law_same) (sc := defScope s_law_same) (by decide +kernel)) (fun _ _ _ _ _ => (pg_tup rfl (pgs_cons (pg_name (i := 2) sc_law_same.nd rfl (.inl rfl)) (pgs_cons (pg_name (i := 3) sc_law_same.nd rfl (.inl rfl)) pgs_nil)))) (fun _ _ _ _ _ => pts_one (pt_not (pt_val (pe_c C_law_same hr (Nat.le_refl _) rfl (pa_cons (pv 2) (pa_cons (pv 3) pa_nil)))))) (fun _ _ _ _ _ => pe_int)) (pe_lst pa_nil) (nomark _)))))
        pss_nil)
      (pss_cut (ps_if (pt_val (pe_callB call_isi (by rfl) T.isinstance bt_isinstance (pa_cons (pv 1) (pa_cons (pe_bltn (v := .ty "str") (by rfl) T.str bt_str rfl) pa_nil))))
        (pss_one (ps_ret (pe_and (pe_callB call_isi (by rfl) T.isinstance bt_isinstance (pa_cons (pv 0) (pa_cons (pe_bltn (v := .ty "str") (by rfl) T.str bt_str rfl) pa_nil))) (pe_one (pe_cmpR op_eq (pv 0) (pv 1) (nomark _))))))
        pss_nil)
      (pss_one (ps_ret (pe_and (pe_callB call_isi (by rfl) T.isinstance bt_isinstance (pa_cons (pv 0) (pa_cons (pe_bltn (v := .ty "int") (by rfl) T.int bt_int rfl) pa_nil))) (pe_and (pe_not (pe_callB call_isi (by rfl) T.isinstance bt_isinstance (pa_cons (pv 0) (pa_cons (pe_bltn (v := .ty "bool") (by rfl) T.bool bt_bool rfl) pa_nil)))) (pe_one (pe_cmpR op_eq (pv 0) (pv 1) (nomark _))))))))), ?_⟩
    cases hp with
    | str _ x =>
      cases hu
      cases hv
      refine ⟨fun σ' H' => σ' = [some (.str x), some (.str x), none, none] ∧ H' = H, ?_, fun σ' H' hM => ?_⟩
      · exact ⟨_, rfl, _, _, _, _, false, rfl, .ty _, .base (.str x), kit_cls K (by decide +kernel), _, rfl, iteF ⟨rfl, rfl⟩⟩
      · obtain ⟨rfl, rfl⟩ := hM
        refine ⟨fun σ' H' => False, ?_, fun σ' H' hM => hM.elim⟩
        refine ⟨_, rfl, _, _, _, _, true, rfl, .ty _, .base (.str x), kit_cls K (by decide +kernel), _, rfl, iteT ?_⟩
        refine ⟨_, rfl, _, _, _, _, true, rfl, .ty _, .base (.str x), kit_cls K (by decide +kernel), _, rfl, iteT ⟨_, rfl, _, rfl, by simp [scal], ?_⟩⟩
        rw [decide_eq_true rfl]
        exact q _ (Same.refl _)
    | int _ x =>
      cases hu
      cases hv
      refine ⟨fun σ' H' => σ' = [some (.int x), some (.int x), none, none] ∧ H' = H, ?_, fun σ' H' hM => ?_⟩
      · exact ⟨_, rfl, _, _, _, _, false, rfl, .ty _, .base (.int x), kit_cls K (by decide +kernel), _, rfl, iteF ⟨rfl, rfl⟩⟩
      · obtain ⟨rfl, rfl⟩ := hM
        refine ⟨fun σ' H'' => σ' = [some (.int x), some (.int x), none, none] ∧ H'' = H', ?_, fun σ' H'' hM => ?_⟩
        · exact ⟨_, rfl, _, _, _, _, false, rfl, .ty _, .base (.int x), kit_cls K (by decide +kernel), _, rfl, iteF ⟨rfl, rfl⟩⟩
        · obtain ⟨rfl, rfl⟩ := hM
          refine ⟨_, rfl, _, _, _, _, true, rfl, .ty _, .base (.int x), kit_cls K (by decide +kernel), _, rfl, iteT ?_⟩
          refine ⟨_, rfl, _, _, _, _, false, rfl, .ty _, .base (.int x), kit_cls K (by decide +kernel), _, rfl, _, rfl, iteT ⟨_, rfl, _, rfl, by simp [scal], ?_⟩⟩
          rw [decide_eq_true rfl]
          exact q _ (Same.refl _)
    | @tup _ ds hds hl =>
      obtain ⟨a, xs, rfl, ha, hA⟩ := dt_tup hu
      obtain ⟨b, ys, rfl, hb, hB⟩ := dt_tup hv
      have l1 := DtAll.len hA
      have l2 := DtAll.len hB
      refine ⟨fun σ' H' => False, ?_, fun σ' H' hM => hM.elim⟩
      refine ⟨_, rfl, _, _, _, _, true, rfl, .ty _, .base (.tup hb), kit_cls K (by decide +kernel), _, rfl, iteT ?_⟩
      refine ⟨fun σ' H' => σ' = [some (.ref a), some (.ref b), none, none] ∧ H' = H, ?_, fun σ' H' hM => ?_⟩
      · refine ⟨_, rfl, _, _, _, _, true, rfl, .ty _, .base (.tup ha), kit_cls K (by decide +kernel), _, rfl, iteF ?_⟩
        refine ⟨_, rfl, a, _, rfl, .inr (SqT.of ha), _, rfl, b, _, rfl, .inr (SqT.of hb), rfl, _, rfl, ?_⟩
        rw [l1, l2, decide_eq_true rfl]
        exact iteF ⟨rfl, rfl⟩
      · obtain ⟨rfl, rfl⟩ := hM
        refine ⟨_, rfl, _, rfl, a, b, xs, ys, rfl, .inr ⟨SqT.of ha, SqT.of hb, fun D nD => ?_⟩⟩
        refine zip_it (by omega) (fun i H'' => Same H' H'' ∧ H'' D = some (.lst [])) ⟨same_new (Same.refl H') nD, upd_same⟩ (fun i H'' hP => ⟨SqT.of (hP.1 _ _ ha), SqT.of (hP.1 _ _ hb)⟩) (fun i x y H'' T hx hy hP nT => ?_) (fun H'' hP => ?_)
        · obtain ⟨d1, hd1, hx'⟩ := DtAll.get hA hx
          obtain ⟨d2, hd2, hy'⟩ := DtAll.get hB hy
          have ed : d1 = d2 := Option.some.inj (hd1.symm.trans hd2)
          subst ed
          have sT : Same H' (upd H'' T (.tup [x, y])) := same_new hP.1 nT
          refine ⟨T, _, rfl, SqT.of upd_same, rfl, _, _, rfl, _, _, rfl, rfl, rfl, ?_⟩
          refine ⟨_, rfl, _, rfl, x, y, d1, rfl, Dt.keep (TK.of sT) hx', Dt.keep (TK.of sT) hy', hds d1 (List.mem_of_getElem? hd1), fun H3 S3 => ?_⟩
          refine ⟨_, rfl, iteF ⟨sT.trans S3, S3 _ _ ?_⟩⟩
          rw [upd_ne (ne_of_none hP.2 nT)]
          exact hP.2
        · refine ⟨Nat.zero_le _, fun p np => ?_⟩
          refine ⟨_, _, .lst (SqL.of (by rw [upd_ne (ne_of_none hP.2 np)]; exact hP.2)) .nil, .lst (SqL.of upd_same) .nil, rfl, rfl, ?_⟩
          exact q _ (same_new hP.1 np)
end
end Far

namespace Far
open PySem PySem.Spec PyProof.Rows L2
open C8 (pss_cut tCut)
open SX (S)
abbrev s_law_deck : Stmt := topS 16
abbrev N_law_deck : List Str := ["script"]
theorem sc_law_deck : FnScope N_law_deck ["script"] (defScope s_law_deck) := ⟨rfl, rfl, rfl, by decide +kernel, rfl, by decide +kernel, by decide +kernel⟩
abbrev s_law : Stmt := topS 22
abbrev N_law : List Str := ["script", "deck", "trees", "tree", "places", "ties", "text", "name", "one", "other", "length", "found", "k"]
theorem sc_law : FnScope N_law ["script"] (defScope s_law) := ⟨rfl, rfl, rfl, by decide +kernel, rfl, by decide +kernel, by decide +kernel⟩
section
variable {P : Program} {w : World} {K : PySem.W.Frag} {mg : Str → Option Value} {base : Heap}
theorem cut_all (xs : List V) (h : xs.length ≤ 63) : cutV xs none (some 63) = xs := by
  unfold cutV
  rw [HT.sIx_none, show HT.sIx xs.length xs.length (some 63) = min 63 xs.length from HT.sIx_nat _ _ 63, Nat.min_eq_right h, List.drop_zero, Nat.sub_zero]
  exact List.take_length
theorem cut_one (x : V) (r : List V) : cutV (x :: r) (some 1) none = r := by
  unfold cutV
  rw [show HT.sIx (x :: r).length 0 (some 1) = min 1 (x :: r).length from HT.sIx_nat _ 0 1, HT.sIx_none]
  have e : min 1 (x :: r).length = 1 := by rw [List.length_cons]; omega
  rw [e]
  show r.take ((x :: r).length - 1) = r
  rw [List.length_cons, Nat.add_sub_cancel]
  exact List.take_length
def spDeck (K : PySem.W.Frag) : Sp := fun vs H Q _ => ∃ (a : Addr) (ns : List Int), vs = [.ref a] ∧ SqL K H a (ns.map V.int) ∧ ns.length ≤ 63 ∧ ∀ (H' : Hp) (d c : Addr), Same H H' → H d = none → DeckAt H' d c 0 → Q (.ref d) H'
theorem ok_deck {f : Addr} {fd : FuncData} (F : Fun K "_law_deck" "_law_deck" s_law_deck f fd) (T : Txt mg) : FnOk P w K mg base CX0 1 f fd ["script"] (spDeck K) := by
  refine F.ok sc_law_deck (fun vs H Q E h => ?_) (fun cdv A outer s H vs Q E hr h => ?_)
  · obtain ⟨a, ns, rfl, _⟩ := h
    rfl
  · obtain ⟨a, ns, rfl, hS, hl, q⟩ := h
    refine ⟨_, (pss_one (ps_ret (pe_lst (pa_cons (pe_slice sl_list (pv 0) po_none (po_some pe_int)) (pa_cons pe_int (pa_cons pe_int (pa_cons pe_int (pa_cons (pe_callB (cr_sum rfl) (by rfl) T.sum bt_sum (pa_cons (pe_slice sl_list (pv 0) po_none (po_some pe_int)) pa_nil)) pa_nil)))))))), ?_⟩
    have hl' : (ns.map V.int).length ≤ 63 := by rw [List.length_map]; exact hl
    refine ⟨_, rfl, 63, rfl, a, _, rfl, hS, fun c nc => ?_⟩
    rw [cut_all _ hl']
    have S1 : Same H (upd H c (.lst (ns.map V.int))) := same_new (Same.refl H) nc
    refine ⟨_, rfl, 63, rfl, a, _, rfl, S1.seq hS, fun c2 nc2 => ?_⟩
    rw [cut_all _ hl']
    have S2 := same_new (o := .lst (ns.map V.int)) S1 nc2
    refine ⟨c2, ns, rfl, SqL.of upd_same, (by show 5 ≤ sizeLine; decide), fun d nd => ?_⟩
    have S3 := same_new (o := .lst [.ref c, .int 0, .int 0, .int 0, .int ns.sum]) S2 nd
    have h2 : (upd (upd H c (.lst (ns.map V.int))) c2 (.lst (ns.map V.int))) c = some (.lst (ns.map V.int)) := by
      rw [upd_ne (ne_of_none upd_same nc2)]
      exact upd_same
    exact q _ d c S3 (S2.free nd) ⟨ns, 0, 0, 0, ns.sum, upd_same, by rw [upd_ne (ne_of_none h2 nd)]; exact h2, ne_of_none h2 nd, hl, by omega, by omega, by omega, by omega, by omega⟩
theorem joinL_snoc (s y : Nm) : ∀ {ys : List Nm}, ys ≠ [] → TL.joinL s (ys ++ [y]) = TL.joinL s ys ++ (s ++ y)
  | [], h => absurd rfl h
  | [x], _ => rfl
  | x :: z :: r, _ => by
    have ih := joinL_snoc s y (ys := z :: r) (by simp)
    show x ++ (s ++ TL.joinL s ((z :: r) ++ [y])) = x ++ (s ++ TL.joinL s (z :: r)) ++ (s ++ y)
    rw [ih]
    simp
theorem joinL_mono (s : Nm) : ∀ (ys zs : List Nm), (TL.joinL s ys).length ≤ (TL.joinL s (ys ++ zs)).length
  | ys, [] => by rw [List.append_nil]; exact Nat.le_refl _
  | ys, z :: r => by
    have ih := joinL_mono s (ys ++ [z]) r
    rw [List.append_assoc] at ih
    refine Nat.le_trans ?_ ih
    cases ys with
    | nil => exact Nat.zero_le _
    | cons y t =>
      rw [joinL_snoc s z (by simp), List.length_append]
      omega
theorem plain_tree {pl : List Nm} {ts : List Tie} (F : Fine pl ts) : Plain 4 (treeD pl ts) := by
  have h1 := F.len
  have h2 := F.tree.len
  refine .tup (fun d hd => ?_) (by show 2 ≤ 1000; decide)
  rcases List.mem_cons.mp hd with rfl | hd
  · refine .tup (fun d hd => ?_) (by rw [List.length_map]; exact h1)
    obtain ⟨l, _, rfl⟩ := List.mem_map.mp hd
    exact .str _ _
  · rw [List.mem_singleton.mp hd]
    refine .tup (fun d hd => ?_) (by rw [List.length_map]; omega)
    obtain ⟨e, _, rfl⟩ := List.mem_map.mp hd
    refine .tup (fun d hd => ?_) (by show 3 ≤ 1000; decide)
    rcases List.mem_cons.mp hd with rfl | hd
    · exact .str _ _
    · rcases List.mem_cons.mp hd with rfl | hd
      · exact .str _ _
      · rw [List.mem_singleton.mp hd]
        exact .int _ _
theorem fine_a : Fine [[97]] [] := ⟨⟨[[97]], [], .one _, List.Perm.refl _, List.Perm.refl _⟩, by simp [NameOk], by decide⟩
theorem fine_ba : Fine [[98], [97]] [([97], [98], 7)] := by
  refine ⟨⟨[[97]] ++ [[98]], [] ++ [([97], [98], 7)], .leaf (.one [97]) (List.mem_singleton.mpr rfl) (by decide) (.inl rfl) (by decide) (by decide), List.Perm.swap _ _ _, List.Perm.refl _⟩, fun l hl => ?_, by decide⟩
  rcases List.mem_cons.mp hl with rfl | hl
  · simp [NameOk]
  · rw [List.mem_singleton.mp hl]
    simp [NameOk]
def spLaw (K : PySem.W.Frag) : Sp := fun vs H Q _ => ∃ (a : Addr) (ns : List Int), vs = [.ref a] ∧ SqL K H a (ns.map V.int) ∧ ns.length ≤ 63 ∧ ∀ H', Q (.bl true) H'
/-- a list's values that stand for trees -/
def Trees (H : Hp) (vs : List V) : Prop := ∀ v ∈ vs, ∃ pl ts, Dt H v (treeD pl ts) ∧ Fine pl ts
theorem Trees.keep {H H' : Hp} {vs : List V} (h : Trees H vs) (t : TK H H') : Trees H' vs := fun v hv => by
  obtain ⟨pl, ts, a, b⟩ := h v hv
  exact ⟨pl, ts, Dt.keep t a, b⟩
theorem ok_law {f : Addr} {fd : FuncData} (F : Fun K "law" "law" s_law f fd) (T0 : Txt mg) (T : TxtL mg) (C_law_deck : Cal P w K mg base 1 "_law_deck" (spDeck K)) (C_law_tree : Cal P w K mg base 5 "_law_tree" (spTree K))
    (Ctree_shown : Cal P w K mg base 1 "tree_shown" spShown) (Cread_tree : Cal P w K mg base 3 "read_tree" spRead) (C_law_same : Cal P w K mg base 5 "_law_same" (spSame 4)) : FnOk P w K mg base CX0 6 f fd ["script"] (spLaw K) := by
  refine F.ok sc_law (fun vs H Q E h => ?_) (fun cdv A outer s H vs Q E hr h => ?_)
  · obtain ⟨a, ns, rfl, _⟩ := h
    rfl
  · obtain ⟨a, ns, rfl, hS, hl, q⟩ := h
    refine ⟨_, (pss_cons (ps_set (i := 1) sc_law.nd rfl (.inr rfl) (pe_c C_law_deck hr (by decide) rfl (pa_cons (pv 0) pa_nil)))
      (pss_cons (ps_setLc (i := 2) (own := [("k", 12)]) (g := gName 12) (tt := tYes) rfl sc_law.nd rfl rfl (sw_true rfl rfl rfl (by decide +kernel)) (pi_range1 (by rfl) T.range (pa_cons pe_int pa_nil)) (blkOk_by (N := N_law) (sc := defScope s_law) (by decide +kernel)) (fun _ _ _ _ _ => pg_name (i := 12) sc_law.nd rfl (Or.inl rfl)) (fun _ _ _ _ _ => pts_nil) (fun _ _ _ _ _ => (pe_c C_law_tree hr (by decide) rfl (pa_cons (pv 1) (pa_cons pe_int pa_nil)))))
      (pss_cut (ps_for PassesOwn.never rfl (pi_list (pe_op op_cat (pv 2) (pe_revL (pv 2)))) (pg_name (i := 3) sc_law.nd rfl (.inl rfl))
        (pss_cons (ps_asg (pv 3) (pg_tup rfl (pgs_cons (pg_name (i := 4) sc_law.nd rfl (.inl rfl)) (pgs_cons (pg_name (i := 5) sc_law.nd rfl (.inl rfl)) pgs_nil))))
        (pss_cons (ps_set (i := 6) sc_law.nd rfl (.inl rfl) (pe_ix ix_tup (pv 4) pe_int (fun _ _ => rfl)))
        (pss_cut (ps_for PassesOwn.never rfl (pi_tup (pe_slice sl_tup (pv 4) (po_some pe_int) po_none)) (pg_name (i := 7) sc_law.nd rfl (.inl rfl))
          (pss_one (ps_set (i := 6) sc_law.nd rfl (.inl rfl) (pe_op op_add_str (pe_op op_add_str (pv 6) pe_str) (pv 7)))))
        (pss_cut (ps_for PassesOwn.never rfl (pi_tup (pv 5)) (pg_tup rfl (pgs_cons (pg_name (i := 8) sc_law.nd rfl (.inl rfl)) (pgs_cons (pg_name (i := 9) sc_law.nd rfl (.inl rfl)) (pgs_cons (pg_name (i := 10) sc_law.nd rfl (.inl rfl)) pgs_nil))))
          (pss_cons (ps_set (i := 6) sc_law.nd rfl (.inl rfl) (pe_op op_add_str (pe_op op_add_str (pe_op op_add_str (pe_op op_add_str (pe_op op_add_str (pv 6) pe_str) (pv 8)) pe_str) (pv 9)) pe_str))
          (pss_one (ps_set (i := 6) sc_law.nd rfl (.inl rfl) (pe_op op_add_str (pv 6) (pe_callTy call_str_int (by rfl) T.str bt_str (pa_cons (pv 10) pa_nil)))))))
        (pss_cons (ps_set (i := 11) sc_law.nd rfl (.inl rfl) (pe_c Ctree_shown hr (by decide) rfl (pa_cons (pv 3) pa_nil)))
        (pss_one (ps_if (PW.pt (pw_or (pt_not (pt_val (pe_callB call_isi (by rfl) T.isinstance bt_isinstance (pa_cons (pv 11) (pa_cons (pe_bltn (v := .ty "str") (by rfl) T.str bt_str rfl) pa_nil))))) (pw_or (pt_cmpR op_ne (pv 11) (pv 6) (nomark _)) (pw_or1 (pt_not (pt_val (pe_c C_law_same hr (by decide) rfl (pa_cons (pe_c Cread_tree hr (by decide) rfl (pa_cons (pv 6) pa_nil)) (pa_cons (pv 3) pa_nil)))))))))
          (pss_one (ps_ret pe_bl))
          pss_nil))))))))
      (pss_one (ps_ret (pe_and (pe_cmpR (op_eqD (hd_of hr (by decide))) (pe_c Cread_tree hr (by decide) rfl (pa_cons pe_str pa_nil)) (pe_tup (pa_cons (pe_tup (pa_cons pe_str pa_nil)) (pa_cons (pe_tup pa_nil) pa_nil))) (nomark _)) (pe_one (pe_cmpR op_eq (pe_c Ctree_shown hr (by decide) rfl (pa_cons (pe_tup (pa_cons (pe_tup (pa_cons pe_str (pa_cons pe_str pa_nil))) (pa_cons (pe_tup (pa_cons (pe_tup (pa_cons pe_str (pa_cons pe_str (pa_cons pe_int pa_nil)))) pa_nil)) pa_nil))) pa_nil)) pe_str (nomark _))))))))), ?_⟩
    -- deck
    refine ⟨_, rfl, a, ns, rfl, hS, hl, fun H1 d c S1 d0 D1 => ?_⟩
    -- trees
    refine ⟨6, rfl, by decide, by decide, fun D nD => ?_⟩
    have Dd := D1.nd nD
    have Dc := D1.nc nD
    refine lc_range (lo := 0) (n := 6) (fun i H' => ∃ vs : List V, vs.length = i ∧ H' D = some (.lst vs) ∧ Trees H' vs ∧ DeckAt H' d c (800 * i)) ⟨[], rfl, upd_same, fun v hv => (by cases hv), D1.new nD⟩ (fun i H' hi hP => ?_) (fun H' hP => ?_)
    · obtain ⟨vs, vl, hD, hT, DD⟩ := hP
      refine ⟨rfl, _, rfl, d, c, _, 30, rfl, DD, by omega, by decide, by decide, fun H2 t pl ts it ok pll hDt S2 D2 => ?_⟩
      have tk := DD.tk S2
      have hD2 := S2 D _ Dd hD
      have tk2 : TK H2 (upd H2 D (.lst (vs ++ [.ref t]))) := TK.mut hD2
      refine ⟨vs, hD2, sz_lt (by omega), vs ++ [.ref t], by rw [List.length_append, vl]; rfl, upd_same, fun v hv => ?_, (D2.put Dd Dc).mono (by omega)⟩
      rcases List.mem_append.mp hv with z | z
      · exact (hT.keep (tk.trans tk2)) v z
      · rw [List.mem_singleton.mp z]
        exact ⟨pl, ts, Dt.keep tk2 hDt, it, ok, by omega⟩
    · obtain ⟨vs, vl, hD, hT, DD⟩ := hP
      refine ⟨fun σ2 H2 => (∃ x3 x4 x5 x6 x7 x8 x9 x10 x11 x12, σ2 = [some (.ref a), some (.ref d), some (.ref D), x3, x4, x5, x6, x7, x8, x9, x10, x11, x12]), ?_, fun σ2 H2 hM => ?_⟩
      · refine ⟨_, rfl, _, rfl, D, vs, rfl, SqL.of hD, fun r nr => ?_⟩
        have hD' : (upd H' r (.lst vs.reverse)) D = some (.lst vs) := by
          rw [upd_ne (ne_of_none hD nr)]
          exact hD
        refine ⟨D, r, vs, vs.reverse, rfl, rfl, hD', upd_same, by rw [List.length_reverse]; exact sz_le (by omega), fun g ng => ?_⟩
        have hT3 : Trees (upd (upd H' r (.lst vs.reverse)) g (.lst (vs ++ vs.reverse))) (vs ++ vs.reverse) := by
          have := hT.keep ((TK.new (o := .lst vs.reverse) nr).trans (TK.new (o := .lst (vs ++ vs.reverse)) ng))
          intro v hv
          rcases List.mem_append.mp hv with z | z
          · exact this v z
          · exact this v (List.mem_reverse.mp z)
        have hg : (upd (upd H' r (.lst vs.reverse)) g (.lst (vs ++ vs.reverse))) g = some (.lst (vs ++ vs.reverse)) := upd_same
        generalize upd (upd H' r (.lst vs.reverse)) g (.lst (vs ++ vs.reverse)) = H3 at hT3 hg
        refine ⟨g, rfl, ⟨_, SqL.of hg⟩, for_list (K := K) (a := g) (xs := vs ++ vs.reverse) (fun i σ2 H2 => (∃ x3 x4 x5 x6 x7 x8 x9 x10 x11 x12, σ2 = [some (.ref a), some (.ref d), some (.ref D), x3, x4, x5, x6, x7, x8, x9, x10, x11, x12]) ∧ Same H3 H2) ⟨⟨_, _, _, _, _, _, _, _, _, _, rfl⟩, Same.refl H3⟩ (fun i σ2 H2 _ hP => SqL.of (hP.2 _ _ hg)) (fun i v σ2 H2 hi hP => ?_) (fun σ2 H2 hP => hP.1)⟩
        obtain ⟨⟨x3, x4, x5, x6, x7, x8, x9, x10, x11, x12, rfl⟩, SM⟩ := hP
        obtain ⟨pl, ts, hv, fine⟩ := hT3 v (List.mem_of_getElem? hi)
        have hv := Dt.keep (TK.of SM) hv
        obtain ⟨t, ta, tb, tvs, rfl, ht, hta, htb, hA⟩ := dt_tree hv
        have tvl : tvs.length = ts.length := by
          have := DtAll.len hA
          rwa [List.length_map] at this
        have tx := fine.textLen
        have hx := fine.headLen
        obtain ⟨p0, pr, rfl⟩ : ∃ x r, pl = x :: r := by
          cases pl with
          | nil => exact absurd rfl fine.ne
          | cons x r => exact ⟨x, r, rfl⟩
        refine ⟨_, rfl, t, _, rfl, SqT.of ht, rfl, _, _, rfl, _, _, rfl, rfl, ?_⟩
        refine ⟨_, rfl, ta, _, 0, .str (S p0), rfl, rfl, SqT.of hta, atI_nat (j := 0) rfl, ?_⟩
        -- for name in places[1:]
        refine ⟨fun σ4 H4 => ∃ x7, σ4 = [some (.ref a), some (.ref d), some (.ref D), some (.ref t), some (.ref ta), some (.ref tb), some (.str (S (joinW (p0 :: pr)))), x7, x8, x9, x10, x11, x12] ∧ Same H2 H4, ?_, fun σ4 H4 hM => ?_⟩
        · refine ⟨_, rfl, 1, rfl, ta, _, rfl, SqT.of hta, ?_, fun p np => ?_⟩
          · rw [show HT.sIx (((p0 :: pr).map S).map V.str).length 0 (some 1) = min 1 (((p0 :: pr).map S).map V.str).length from HT.sIx_nat _ 0 1]
            intro z
            have := z.1
            simp at this
          rw [show cutV (((p0 :: pr).map S).map V.str) (some 1) none = (pr.map S).map V.str from cut_one _ _]
          refine ⟨p, rfl, ⟨_, SqT.of upd_same⟩, for_tup (K := K) (a := p) (xs := (pr.map S).map V.str) (fun i σ4 H4 => ∃ x7, σ4 = [some (.ref a), some (.ref d), some (.ref D), some (.ref t), some (.ref ta), some (.ref tb), some (.str (S (joinW (p0 :: pr.take i)))), x7, x8, x9, x10, x11, x12] ∧ Same H2 H4 ∧ H4 p = some (.tup ((pr.map S).map V.str)))
            ⟨_, rfl, same_new (Same.refl H2) np, upd_same⟩ (fun i σ4 H4 _ hP => ?_) (fun i x σ4 H4 hi hP => ?_) (fun σ4 H4 hP => ?_)⟩
          · obtain ⟨_, _, _, hp⟩ := hP
            exact SqT.of hp
          · obtain ⟨x7, rfl, sm, hp⟩ := hP
            rw [List.getElem?_map, List.getElem?_map] at hi
            cases el : pr[i]? with
            | none =>
              rw [el] at hi
              cases hi
            | some l =>
              rw [el] at hi
              have ex : x = .str (S l) := (Option.some.inj hi).symm
              subst ex
              have et : pr.take (i + 1) = pr.take i ++ [l] := by
                rw [List.take_add_one, el]
                rfl
              have e2 : joinW (p0 :: pr.take (i + 1)) = joinW (p0 :: pr.take i) ++ [32] ++ l := by
                rw [et]
                have := joinL_snoc [32] l (ys := p0 :: pr.take i) (by simp)
                rw [List.append_assoc]
                exact this
              have b1 : (joinW (p0 :: pr.take (i + 1))).length ≤ 9000 := by
                have := joinL_mono [32] (p0 :: pr.take (i + 1)) (pr.drop (i + 1))
                rw [List.cons_append, List.take_append_drop] at this
                exact Nat.le_trans this hx
              have b2 : (joinW (p0 :: pr.take i) ++ [32]).length ≤ 9000 := by
                rw [e2, List.length_append] at b1
                omega
              refine ⟨_, rfl, S (joinW (p0 :: pr.take i)), S [32], rfl, congrArg V.str blank_is, by rw [SX.S_len, SX.S_len, ← List.length_append]; exact sz_le (by omega), _, rfl, S (joinW (p0 :: pr.take i) ++ [32]), S l, congrArg V.str (SX.S_cat _ _), rfl, by rw [SX.S_len, SX.S_len, ← List.length_append, ← e2]; exact sz_le (by omega), ?_⟩
              refine ⟨some (.str (S l)), ?_, sm, hp⟩
              rw [SX.S_cat, ← e2]
              rfl
          · obtain ⟨x7, rfl, sm, hp⟩ := hP
            rw [List.length_map, List.length_map, List.take_length]
            exact ⟨_, rfl, sm⟩
        · obtain ⟨x7, rfl, sm⟩ := hM
          -- for one, other, length in ties
          refine ⟨fun σ5 H5 => ∃ x8 x9 x10, σ5 = [some (.ref a), some (.ref d), some (.ref D), some (.ref t), some (.ref ta), some (.ref tb), some (.str (S (textT (p0 :: pr) ts))), x7, x8, x9, x10, x11, x12] ∧ Same H2 H5, ?_, fun σ5 H5 hM => ?_⟩
          · refine ⟨_, rfl, tb, rfl, ⟨_, SqT.of (sm _ _ htb)⟩, for_tup (K := K) (a := tb) (xs := tvs) (fun i σ4 H4 => ∃ x8 x9 x10, σ4 = [some (.ref a), some (.ref d), some (.ref D), some (.ref t), some (.ref ta), some (.ref tb), some (.str (S (textT (p0 :: pr) (ts.take i)))), x7, x8, x9, x10, x11, x12] ∧ Same H2 H4)
              ⟨_, _, _, rfl, sm⟩ (fun i σ4 H4 _ hP => ?_) (fun i x σ4 H4 hi hP => ?_) (fun σ4 H4 hP => ?_)⟩
            · obtain ⟨_, _, _, _, sm⟩ := hP
              exact SqT.of (sm _ _ htb)
            · obtain ⟨x8, x9, x10, rfl, sm⟩ := hP
              obtain ⟨dd, hd, hx'⟩ := DtAll.get hA hi
              rw [List.getElem?_map] at hd
              cases ee : ts[i]? with
              | none =>
                rw [ee] at hd
                cases hd
              | some e =>
                rw [ee] at hd
                have ed : dd = tieD e := (Option.some.inj hd).symm
                subst ed
                obtain ⟨u, rfl, hu⟩ := dt_tie hx'
                have em : e ∈ ts := List.mem_of_getElem? ee
                obtain ⟨i1, i2, k1, k2⟩ := fine.tree.ties e em
                have et : ts.take (i + 1) = ts.take i ++ [e] := by
                  rw [List.take_add_one, ee]
                  rfl
                have e2 : textT (p0 :: pr) (ts.take (i + 1)) = textT (p0 :: pr) (ts.take i) ++ [10] ++ e.1 ++ [32] ++ e.2.1 ++ [32] ++ numW e.2.2 := by
                  have h1 : textT (p0 :: pr) (ts.take (i + 1)) = textT (p0 :: pr) (ts.take i) ++ ([10] ++ rowT e) := by
                    rw [et]
                    unfold textT rowsT
                    rw [List.map_append]
                    exact joinL_snoc [10] (rowT e) (ys := joinW (p0 :: pr) :: (ts.take i).map rowT) (by simp)
                  have h2 : rowT e = e.1 ++ ([32] ++ (e.2.1 ++ ([32] ++ numW e.2.2))) := rfl
                  rw [h1, h2]
                  simp
                have b1 : (textT (p0 :: pr) (ts.take (i + 1))).length ≤ 50000 := by
                  have := joinL_mono [10] (rowsT (p0 :: pr) (ts.take (i + 1))) ((ts.drop (i + 1)).map rowT)
                  have e3 : rowsT (p0 :: pr) (ts.take (i + 1)) ++ (ts.drop (i + 1)).map rowT = rowsT (p0 :: pr) ts := by
                    unfold rowsT
                    rw [List.cons_append, ← List.map_append, List.take_append_drop]
                  rw [e3] at this
                  exact Nat.le_trans this tx
                generalize textT (p0 :: pr) (ts.take i) = U at e2
                have b0 : (U ++ [10] ++ e.1 ++ [32] ++ e.2.1 ++ [32] ++ numW e.2.2).length ≤ 50000 := by rw [← e2]; exact b1
                simp only [List.length_append, List.length_singleton] at b0
                have ek : (toString e.2.2 : String) = toString ((e.2.2.toNat : Nat) : Int) := by
                  congr 1
                  omega
                have en : Str.ofString (toString e.2.2) = S (numW e.2.2) := by
                  rw [ek]
                  exact SX.num_S _
                have lb : e.2.2.natAbs.log2 < 1920 := Nat.lt_trans (PySem.Flt.log2_lt_of (k := 20) (by decide) (by
                  have : (2 : Nat) ^ 20 = 1048576 := by decide
                  omega)) (by decide)
                refine ⟨u, _, rfl, SqT.of (sm _ _ hu), rfl, _, _, rfl, _, _, rfl, _, _, rfl, rfl, ?_⟩
                refine ⟨_, rfl, S U, S [10], rfl, congrArg V.str feed_is, by rw [SX.S_len, SX.S_len]; exact sz_le (by simp; omega), _, rfl, S (U ++ [10]), S e.1, congrArg V.str (SX.S_cat _ _), rfl, by rw [SX.S_len, SX.S_len]; exact sz_le (by simp; omega),
                  S (U ++ [10] ++ e.1), S [32], congrArg V.str (SX.S_cat _ _), congrArg V.str blank_is, by rw [SX.S_len, SX.S_len]; exact sz_le (by simp; omega), _, rfl, S (U ++ [10] ++ e.1 ++ [32]), S e.2.1, congrArg V.str (SX.S_cat _ _), rfl, by rw [SX.S_len, SX.S_len]; exact sz_le (by simp; omega),
                  S (U ++ [10] ++ e.1 ++ [32] ++ e.2.1), S [32], congrArg V.str (SX.S_cat _ _), congrArg V.str blank_is, by rw [SX.S_len, SX.S_len]; exact sz_le (by simp; omega), ?_⟩
                refine ⟨_, rfl, _, rfl, e.2.2, rfl, lb, S (U ++ [10] ++ e.1 ++ [32] ++ e.2.1 ++ [32]), S (numW e.2.2), congrArg V.str (SX.S_cat _ _), congrArg V.str en, by rw [SX.S_len, SX.S_len]; exact sz_le (by simp; omega), ?_⟩
                refine ⟨some (.str (S e.1)), some (.str (S e.2.1)), some (.int e.2.2), ?_, sm⟩
                rw [SX.S_cat, SX.S_cat, ← e2]
                rfl
            · obtain ⟨x8, x9, x10, rfl, sm⟩ := hP
              rw [tvl, List.take_length]
              exact ⟨_, _, _, rfl, sm⟩
          · obtain ⟨x8, x9, x10, rfl, sm5⟩ := hM
            have hv5 := Dt.keep (TK.of sm5) hv
            refine ⟨_, rfl, .ref t, p0 :: pr, ts, rfl, hv5, fine, fun H6 S6 => ?_⟩
            refine ⟨_, rfl, _, _, _, _, true, rfl, .ty _, .base (.str _), kit_cls K (by decide +kernel), _, rfl, iteF ?_⟩
            refine ⟨_, rfl, _, rfl, by simp [scal], _, rfl, ?_⟩
            rw [decide_eq_true rfl]
            refine iteF ⟨_, rfl, p0 :: pr, ts, rfl, fine, fun H7 t7 S7 n7 hv7 => ?_⟩
            refine ⟨_, rfl, .ref t7, .ref t, _, rfl, hv7, Dt.keep (TK.of (S6.trans S7)) hv5, plain_tree fine, fun H8 S8 => ?_⟩
            refine ⟨_, rfl, iteF ⟨⟨_, _, _, _, _, _, _, _, _, _, rfl⟩, ?_⟩⟩
            exact SM.trans (sm5.trans (S6.trans (S7.trans S8)))
      · obtain ⟨x3, x4, x5, x6, x7, x8, x9, x10, x11, x12, rfl⟩ := hM
        have ea : ("a" : Str) = S (textT [[97]] []) := by decide +kernel
        refine ⟨[[97]], [], congrArg (fun z => [V.str z]) ea, fine_a, fun H4 t4 S4 n4 hv4 => ?_⟩
        refine ⟨(by show 1 ≤ sizeLine; decide), fun p5 n5 => ?_⟩
        refine ⟨Nat.zero_le _, fun p6 n6 => ?_⟩
        refine ⟨(by show 2 ≤ sizeLine; decide), fun p7 n7 => ?_⟩
        have tk5 : TK H4 (upd H4 p5 (.tup [.str ("a" : Str)])) := TK.new n5
        have tk6 : TK (upd H4 p5 (.tup [.str ("a" : Str)])) (upd (upd H4 p5 (.tup [.str ("a" : Str)])) p6 (.tup [])) := TK.new n6
        have tk7 : TK (upd (upd H4 p5 (.tup [.str ("a" : Str)])) p6 (.tup [])) (upd (upd (upd H4 p5 (.tup [.str ("a" : Str)])) p6 (.tup [])) p7 (.tup [.ref p5, .ref p6])) := TK.new n7
        refine ⟨treeD [[97]] [], .tuple [.tuple [.str ("a" : Str)], .tuple []], Dt.dp (Dt.keep ((tk5.trans tk6).trans tk7) hv4), Dt.dp (.tup upd_same (.cons (.tup ((tk6.trans tk7) _ _ upd_same) (.cons (.str _) .nil)) (.cons (.tup (tk7 _ _ upd_same) .nil) .nil))), by decide +kernel, by decide +kernel, ?_⟩
        have ee : (treeD [[97]] []).eqv (.tuple [.tuple [.str ("a" : Str)], .tuple []]) = true := by decide +kernel
        rw [ee]
        refine ⟨_, rfl, iteT ?_⟩
        generalize upd (upd (upd H4 p5 (.tup [.str ("a" : Str)])) p6 (.tup [])) p7 (.tup [.ref p5, .ref p6]) = H8
        refine ⟨(by show 2 ≤ sizeLine; decide), fun q1 m1 => ⟨(by show 3 ≤ sizeLine; decide), fun q2 m2 => ⟨(by show 1 ≤ sizeLine; decide), fun q3 m3 => ⟨(by show 2 ≤ sizeLine; decide), fun q4 m4 => ?_⟩⟩⟩⟩
        have eb : ("b" : Str) = S [98] := by decide +kernel
        have ea' : ("a" : Str) = S [97] := by decide +kernel
        refine ⟨.ref q4, [[98], [97]], [([97], [98], 7)], rfl, ?_, fine_ba, fun H9 S9 => ?_⟩
        · rw [eb, ea'] at *
          refine .tup upd_same (.cons (.tup ?_ (.cons (.str _) (.cons (.str _) .nil))) (.cons (.tup (TK.new m4 _ _ upd_same) (.cons (.tup (a := q2) (TK.new m4 _ _ (TK.new m3 _ _ upd_same)) (.cons (.str _) (.cons (.str _) (.cons (.int _) .nil)))) .nil)) .nil))
          · exact TK.new m4 _ _ (TK.new m3 _ _ (TK.new m2 _ _ upd_same))
        · refine ⟨rfl, ?_⟩
          have et : decide (V.str (S (textT [[98], [97]] [([97], [98], 7)])) = V.str ("b a\na b 7" : Str)) = true := by decide +kernel
          rw [et]
          exact q _
end
end Far

namespace Far
open PySem PySem.Spec PyProof.Rows L2
theorem same_none {P : Program} {w : World} {K : PySem.W.Frag} {mg : Str → Option Value} {base : Heap} {f : Addr} {fd : FuncData} : FnOk P w K mg base CX0 1 f fd ["found", "due"] (spSame 0) :=
  ⟨fun vs H Q E h => by obtain ⟨u, v, d, rfl, _⟩ := h; rfl, fun A outer s H args us vs Q E hr e b v h => by obtain ⟨_, _, _, _, _, _, hp, _⟩ := h; cases hp⟩
theorem all_mk {l : PySem.W.OpenLaw} {w : World} {K : PySem.W.Frag} {h : Heap} {mg : Str → Option Value} {fa f1 f2 f3 f4 f5 f6 f7 f8 f9 f10 f11 f12 f13 f14 f15 : Addr} (X : K.In h) (G : h.Ns mainGlobals mg) (hfa : mg "law" = some (.ref fa))
    {od1 od2 od3 od4 od5 od6 od7 od8 od9 od10 od11 od12 od13 od14 od15 an1 an2 an3 an4 an5 an6 an7 an8 an9 an10 an11 an12 an13 an14 an15 : Option Addr} {sl1 sl2 sl3 sl4 sl5 sl6 sl7 sl8 sl9 sl10 sl11 sl12 sl13 sl14 sl15 : Array (Option Value)} {oc1 oc2 oc3 oc4 oc5 oc6 oc7 oc8 oc9 oc10 oc11 oc12 oc13 oc14 oc15 kV1 kV2 kV3 kV4 kV5 kV6 kV7 kV8 kV9 kV10 kV11 kV12 kV13 kV14 kV15 dc1 dc2 dc3 dc4 dc5 dc6 dc7 dc8 dc9 dc10 dc11 dc12 dc13 dc14 dc15 pm1 pm2 pm3 pm4 pm5 pm6 pm7 pm8 pm9 pm10 pm11 pm12 pm13 pm14 pm15 cd1 cd2 cd3 cd4 cd5 cd6 cd7 cd8 cd9 cd10 cd11 cd12 cd13 cd14 cd15 ct1 ct2 ct3 ct4 ct5 ct6 ct7 ct8 ct9 ct10 ct11 ct12 ct13 ct14 ct15 : Value}
    {tLETTERS tFIGURES tLONGEST_NAME : Tok}
    (a1 : PySem.W.nsIn K mainGlobals "_law_mix" = some (some (.ref f1))) (l1 : K.lookup f1 = some ⟨oc1, od1, .func (PySem.W.fnOf "_law_mix" "_law_mix" (defArgs s_law_mix) (defBody s_law_mix) (defScope s_law_mix) .none kV1 dc1 pm1 an1 cd1 ct1), sl1⟩) (c1 : PySem.W.codeIn K cd1 "_law_mix" = true) (k1 : PySem.W.keepIn K (.ref f1) = true)
    (a2 : PySem.W.nsIn K mainGlobals "_law_deck" = some (some (.ref f2))) (l2 : K.lookup f2 = some ⟨oc2, od2, .func (PySem.W.fnOf "_law_deck" "_law_deck" (defArgs s_law_deck) (defBody s_law_deck) (defScope s_law_deck) .none kV2 dc2 pm2 an2 cd2 ct2), sl2⟩) (c2 : PySem.W.codeIn K cd2 "_law_deck" = true) (k2 : PySem.W.keepIn K (.ref f2) = true)
    (a3 : PySem.W.nsIn K mainGlobals "_law_next" = some (some (.ref f3))) (l3 : K.lookup f3 = some ⟨oc3, od3, .func (PySem.W.fnOf "_law_next" "_law_next" (defArgs s_law_next) (defBody s_law_next) (defScope s_law_next) .none kV3 dc3 pm3 an3 cd3 ct3), sl3⟩) (c3 : PySem.W.codeIn K cd3 "_law_next" = true) (k3 : PySem.W.keepIn K (.ref f3) = true)
    (a4 : PySem.W.nsIn K mainGlobals "_law_name" = some (some (.ref f4))) (l4 : K.lookup f4 = some ⟨oc4, od4, .func (PySem.W.fnOf "_law_name" "_law_name" (defArgs s_law_name) (defBody s_law_name) (defScope s_law_name) .none kV4 dc4 pm4 an4 cd4 ct4), sl4⟩) (c4 : PySem.W.codeIn K cd4 "_law_name" = true) (k4 : PySem.W.keepIn K (.ref f4) = true)
    (a5 : PySem.W.nsIn K mainGlobals "_law_names" = some (some (.ref f5))) (l5 : K.lookup f5 = some ⟨oc5, od5, .func (PySem.W.fnOf "_law_names" "_law_names" (defArgs s_law_names) (defBody s_law_names) (defScope s_law_names) .none kV5 dc5 pm5 an5 cd5 ct5), sl5⟩) (c5 : PySem.W.codeIn K cd5 "_law_names" = true) (k5 : PySem.W.keepIn K (.ref f5) = true)
    (a6 : PySem.W.nsIn K mainGlobals "_law_tree" = some (some (.ref f6))) (l6 : K.lookup f6 = some ⟨oc6, od6, .func (PySem.W.fnOf "_law_tree" "_law_tree" (defArgs s_law_tree) (defBody s_law_tree) (defScope s_law_tree) .none kV6 dc6 pm6 an6 cd6 ct6), sl6⟩) (c6 : PySem.W.codeIn K cd6 "_law_tree" = true) (k6 : PySem.W.keepIn K (.ref f6) = true)
    (a7 : PySem.W.nsIn K mainGlobals "is_name" = some (some (.ref f7))) (l7 : K.lookup f7 = some ⟨oc7, od7, .func (PySem.W.fnOf "is_name" "is_name" (defArgs s_is_name) (defBody s_is_name) (defScope s_is_name) .none kV7 dc7 pm7 an7 cd7 ct7), sl7⟩) (c7 : PySem.W.codeIn K cd7 "is_name" = true) (k7 : PySem.W.keepIn K (.ref f7) = true)
    (a8 : PySem.W.nsIn K mainGlobals "is_length" = some (some (.ref f8))) (l8 : K.lookup f8 = some ⟨oc8, od8, .func (PySem.W.fnOf "is_length" "is_length" (defArgs s_is_length) (defBody s_is_length) (defScope s_is_length) .none kV8 dc8 pm8 an8 cd8 ct8), sl8⟩) (c8 : PySem.W.codeIn K cd8 "is_length" = true) (k8 : PySem.W.keepIn K (.ref f8) = true)
    (a9 : PySem.W.nsIn K mainGlobals "_read_places" = some (some (.ref f9))) (l9 : K.lookup f9 = some ⟨oc9, od9, .func (PySem.W.fnOf "_read_places" "_read_places" (defArgs s_read_places) (defBody s_read_places) (defScope s_read_places) .none kV9 dc9 pm9 an9 cd9 ct9), sl9⟩) (c9 : PySem.W.codeIn K cd9 "_read_places" = true) (k9 : PySem.W.keepIn K (.ref f9) = true)
    (a10 : PySem.W.nsIn K mainGlobals "_read_tie" = some (some (.ref f10))) (l10 : K.lookup f10 = some ⟨oc10, od10, .func (PySem.W.fnOf "_read_tie" "_read_tie" (defArgs s_read_tie) (defBody s_read_tie) (defScope s_read_tie) .none kV10 dc10 pm10 an10 cd10 ct10), sl10⟩) (c10 : PySem.W.codeIn K cd10 "_read_tie" = true) (k10 : PySem.W.keepIn K (.ref f10) = true)
    (a11 : PySem.W.nsIn K mainGlobals "_hang_together" = some (some (.ref f11))) (l11 : K.lookup f11 = some ⟨oc11, od11, .func (PySem.W.fnOf "_hang_together" "_hang_together" (defArgs s_hang_together) (defBody s_hang_together) (defScope s_hang_together) .none kV11 dc11 pm11 an11 cd11 ct11), sl11⟩) (c11 : PySem.W.codeIn K cd11 "_hang_together" = true) (k11 : PySem.W.keepIn K (.ref f11) = true)
    (a12 : PySem.W.nsIn K mainGlobals "read_tree" = some (some (.ref f12))) (l12 : K.lookup f12 = some ⟨oc12, od12, .func (PySem.W.fnOf "read_tree" "read_tree" (defArgs s_read_tree) (defBody s_read_tree) (defScope s_read_tree) .none kV12 dc12 pm12 an12 cd12 ct12), sl12⟩) (c12 : PySem.W.codeIn K cd12 "read_tree" = true) (k12 : PySem.W.keepIn K (.ref f12) = true)
    (a13 : PySem.W.nsIn K mainGlobals "tree_shown" = some (some (.ref f13))) (l13 : K.lookup f13 = some ⟨oc13, od13, .func (PySem.W.fnOf "tree_shown" "tree_shown" (defArgs s_tree_shown) (defBody s_tree_shown) (defScope s_tree_shown) .none kV13 dc13 pm13 an13 cd13 ct13), sl13⟩) (c13 : PySem.W.codeIn K cd13 "tree_shown" = true) (k13 : PySem.W.keepIn K (.ref f13) = true)
    (a14 : PySem.W.nsIn K mainGlobals "_law_same" = some (some (.ref f14))) (l14 : K.lookup f14 = some ⟨oc14, od14, .func (PySem.W.fnOf "_law_same" "_law_same" (defArgs s_law_same) (defBody s_law_same) (defScope s_law_same) .none kV14 dc14 pm14 an14 cd14 ct14), sl14⟩) (c14 : PySem.W.codeIn K cd14 "_law_same" = true) (k14 : PySem.W.keepIn K (.ref f14) = true)
    (a15 : PySem.W.nsIn K mainGlobals "law" = some (some (.ref f15))) (l15 : K.lookup f15 = some ⟨oc15, od15, .func (PySem.W.fnOf "law" "law" (defArgs s_law) (defBody s_law) (defScope s_law) .none kV15 dc15 pm15 an15 cd15 ct15), sl15⟩) (c15 : PySem.W.codeIn K cd15 "law" = true) (k15 : PySem.W.keepIn K (.ref f15) = true)
    (zLETTERS : PySem.W.nsIn K mainGlobals "LETTERS" = some (some (.str ("abcdefghijklmnopqrstuvwxyz" : Str) tLETTERS)))
    (zFIGURES : PySem.W.nsIn K mainGlobals "FIGURES" = some (some (.str ("0123456789" : Str) tFIGURES)))
    (zLONGEST_NAME : PySem.W.nsIn K mainGlobals "LONGEST_NAME" = some (some (.int 8 tLONGEST_NAME)))
    (zlen : PySem.W.nsIn K mainGlobals "len" = some none)
    (zsum : PySem.W.nsIn K mainGlobals "sum" = some none)
    (zrange : PySem.W.nsIn K mainGlobals "range" = some none)
    (zint : PySem.W.nsIn K mainGlobals "int" = some none)
    (zmax : PySem.W.nsIn K mainGlobals "max" = some none)
    (zlist : PySem.W.nsIn K mainGlobals "list" = some none)
    (ztuple : PySem.W.nsIn K mainGlobals "tuple" = some none)
    (zall : PySem.W.nsIn K mainGlobals "all" = some none)
    (zenumerate : PySem.W.nsIn K mainGlobals "enumerate" = some none)
    (zisinstance : PySem.W.nsIn K mainGlobals "isinstance" = some none)
    (zstr : PySem.W.nsIn K mainGlobals "str" = some none)
    (zbool : PySem.W.nsIn K mainGlobals "bool" = some none)
    (zzip : PySem.W.nsIn K mainGlobals "zip" = some none) :
    ∃ fd : FuncData, (∀ (s : Shared) (v : Value), BindsTo s fd ⟨[v], []⟩ [("script", v)]) ∧ ∀ base : Heap, K.In base → base.Ns mainGlobals mg → FnOk l.prog w K mg base CX0 6 fa fd ["script"] (spLaw K) := by
  have e := hfa.symm.trans (PySem.W.mg_of X G a15)
  cases e
  have F1 := fun_mk (st := s_law_mix) l1 c1 k1
  have b1 := F1.binds (ps := ["cell", "k"]) fun _ _ _ _ _ _ us hl => match us, hl with | [_, _], _ => rfl
  have F2 := fun_mk (st := s_law_deck) l2 c2 k2
  have b2 := F2.binds (ps := ["script"]) fun _ _ _ _ _ _ us hl => match us, hl with | [_], _ => rfl
  have F3 := fun_mk (st := s_law_next) l3 c3 k3
  have b3 := F3.binds (ps := ["deck", "many"]) fun _ _ _ _ _ _ us hl => match us, hl with | [_, _], _ => rfl
  have F4 := fun_mk (st := s_law_name) l4 c4 k4
  have b4 := F4.binds (ps := ["deck"]) fun _ _ _ _ _ _ us hl => match us, hl with | [_], _ => rfl
  have F5 := fun_mk (st := s_law_names) l5 c5 k5
  have b5 := F5.binds (ps := ["deck", "many"]) fun _ _ _ _ _ _ us hl => match us, hl with | [_, _], _ => rfl
  have F6 := fun_mk (st := s_law_tree) l6 c6 k6
  have b6 := F6.binds (ps := ["deck", "most"]) fun _ _ _ _ _ _ us hl => match us, hl with | [_, _], _ => rfl
  have F7 := fun_mk (st := s_is_name) l7 c7 k7
  have b7 := F7.binds (ps := ["word"]) fun _ _ _ _ _ _ us hl => match us, hl with | [_], _ => rfl
  have F8 := fun_mk (st := s_is_length) l8 c8 k8
  have b8 := F8.binds (ps := ["word"]) fun _ _ _ _ _ _ us hl => match us, hl with | [_], _ => rfl
  have F9 := fun_mk (st := s_read_places) l9 c9 k9
  have b9 := F9.binds (ps := ["row"]) fun _ _ _ _ _ _ us hl => match us, hl with | [_], _ => rfl
  have F10 := fun_mk (st := s_read_tie) l10 c10 k10
  have b10 := F10.binds (ps := ["row", "number", "parts"]) fun _ _ _ _ _ _ us hl => match us, hl with | [_, _, _], _ => rfl
  have F11 := fun_mk (st := s_hang_together) l11 c11 k11
  have b11 := F11.binds (ps := ["parts", "one", "other"]) fun _ _ _ _ _ _ us hl => match us, hl with | [_, _, _], _ => rfl
  have F12 := fun_mk (st := s_read_tree) l12 c12 k12
  have b12 := F12.binds (ps := ["text"]) fun _ _ _ _ _ _ us hl => match us, hl with | [_], _ => rfl
  have F13 := fun_mk (st := s_tree_shown) l13 c13 k13
  have b13 := F13.binds (ps := ["tree"]) fun _ _ _ _ _ _ us hl => match us, hl with | [_], _ => rfl
  have F14 := fun_mk (st := s_law_same) l14 c14 k14
  have b14 := F14.binds (ps := ["found", "due"]) fun _ _ _ _ _ _ us hl => match us, hl with | [_, _], _ => rfl
  have F15 := fun_mk (st := s_law) l15 c15 k15
  have T0 : Txt mg := ⟨PySem.W.mg_none_of X G zlen, PySem.W.mg_none_of X G zsum, PySem.W.mg_none_of X G zrange, PySem.W.mg_none_of X G zint, PySem.W.mg_none_of X G zmax, PySem.W.mg_none_of X G zlist, PySem.W.mg_none_of X G ztuple⟩
  have TP : TxtP mg := ⟨PySem.W.mg_none_of X G zlen, PySem.W.mg_none_of X G zall, PySem.W.mg_none_of X G ztuple, PySem.W.mg_none_of X G zint, PySem.W.mg_none_of X G zlist, PySem.W.mg_none_of X G zenumerate, ⟨_, PySem.W.mg_of X G zLETTERS⟩, ⟨_, PySem.W.mg_of X G zFIGURES⟩, ⟨_, PySem.W.mg_of X G zLONGEST_NAME⟩⟩
  have TL : TxtL mg := ⟨PySem.W.mg_none_of X G zisinstance, PySem.W.mg_none_of X G ztuple, PySem.W.mg_none_of X G zstr, PySem.W.mg_none_of X G zint, PySem.W.mg_none_of X G zbool, PySem.W.mg_none_of X G zlen, PySem.W.mg_none_of X G zzip, PySem.W.mg_none_of X G zrange⟩
  have C_law_mix : ∀ base : Heap, Cal l.prog w K mg base 1 "_law_mix" spMix := fun base => ⟨f1, _, _, ok_mix F1, PySem.W.mg_of X G a1, k1, b1⟩
  have C_law_deck : ∀ base : Heap, Cal l.prog w K mg base 1 "_law_deck" (spDeck K) := fun base => ⟨f2, _, _, ok_deck F2 T0, PySem.W.mg_of X G a2, k2, b2⟩
  have C_law_next : ∀ base : Heap, Cal l.prog w K mg base 2 "_law_next" spNext := fun base => ⟨f3, _, _, ok_next F3 T0 (C_law_mix base), PySem.W.mg_of X G a3, k3, b3⟩
  have C_law_name : ∀ base : Heap, Cal l.prog w K mg base 3 "_law_name" spName := fun base => ⟨f4, _, _, ok_name F4 T0 (C_law_next base), PySem.W.mg_of X G a4, k4, b4⟩
  have C_law_names : ∀ base : Heap, Cal l.prog w K mg base 4 "_law_names" spNames := fun base => ⟨f5, _, _, ok_names F5 T0 (C_law_next base) (C_law_name base), PySem.W.mg_of X G a5, k5, b5⟩
  have C_law_tree : ∀ base : Heap, Cal l.prog w K mg base 5 "_law_tree" (spTree K) := fun base => ⟨f6, _, _, ok_tree F6 T0 (C_law_next base) (C_law_names base), PySem.W.mg_of X G a6, k6, b6⟩
  have C_is_name : ∀ base : Heap, Cal l.prog w K mg base 1 "is_name" spIsName := fun base => ⟨f7, _, _, ok_is_name F7 TP, PySem.W.mg_of X G a7, k7, b7⟩
  have C_is_length : ∀ base : Heap, Cal l.prog w K mg base 1 "is_length" spIsLen := fun base => ⟨f8, _, _, ok_is_length F8 TP, PySem.W.mg_of X G a8, k8, b8⟩
  have C_read_places : ∀ base : Heap, Cal l.prog w K mg base 2 "_read_places" spPlaces := fun base => ⟨f9, _, _, ok_read_places F9 TP (C_is_name base), PySem.W.mg_of X G a9, k9, b9⟩
  have C_read_tie : ∀ base : Heap, Cal l.prog w K mg base 2 "_read_tie" spTie := fun base => ⟨f10, _, _, ok_read_tie F10 TP (C_is_length base), PySem.W.mg_of X G a10, k10, b10⟩
  have C_hang_together : ∀ base : Heap, Cal l.prog w K mg base 1 "_hang_together" spHang := fun base => ⟨f11, _, _, ok_hang F11 TP, PySem.W.mg_of X G a11, k11, b11⟩
  have Cread_tree : ∀ base : Heap, Cal l.prog w K mg base 3 "read_tree" spRead := fun base => ⟨f12, _, _, ok_read_tree F12 TP (C_read_places base) (C_read_tie base) (C_hang_together base), PySem.W.mg_of X G a12, k12, b12⟩
  have Ctree_shown : ∀ base : Heap, Cal l.prog w K mg base 1 "tree_shown" spShown := fun base => ⟨f13, _, _, ok_tree_shown F13, PySem.W.mg_of X G a13, k13, b13⟩
  have C_same0 : ∀ base : Heap, Cal l.prog w K mg base 1 "_law_same" (spSame 0) := fun base => ⟨f14, _, _, same_none, PySem.W.mg_of X G a14, k14, b14⟩
  have C_same1 : ∀ base : Heap, Cal l.prog w K mg base 2 "_law_same" (spSame 1) := fun base => ⟨f14, _, _, ok_same (by decide) F14 TL (C_same0 base), PySem.W.mg_of X G a14, k14, b14⟩
  have C_same2 : ∀ base : Heap, Cal l.prog w K mg base 3 "_law_same" (spSame 2) := fun base => ⟨f14, _, _, ok_same (by decide) F14 TL (C_same1 base), PySem.W.mg_of X G a14, k14, b14⟩
  have C_same3 : ∀ base : Heap, Cal l.prog w K mg base 4 "_law_same" (spSame 3) := fun base => ⟨f14, _, _, ok_same (by decide) F14 TL (C_same2 base), PySem.W.mg_of X G a14, k14, b14⟩
  have C_same4 : ∀ base : Heap, Cal l.prog w K mg base 5 "_law_same" (spSame 4) := fun base => ⟨f14, _, _, ok_same (by decide) F14 TL (C_same3 base), PySem.W.mg_of X G a14, k14, b14⟩
  exact ⟨_, fun s v => .of_eq rfl, fun base _ _ => ok_law F15 T0 TL (C_law_deck base) (C_law_tree base) (Ctree_shown base) (Cread_tree base) (C_same4 base)⟩
end Far
open PySem PySem.W PyProof.Rows in
set_option maxRecDepth 100000 in
set_option maxHeartbeats 0 in
theorem PySem.Challenge.cw_farplaces_k01_trees_read_and_shown_holds : PySem.Challenge.rw_farplaces_k01_trees_read_and_shown.Holds := by
  w_on; o_law; k_head; (case hw => w_witness2)
  k_fill
  refine L2.walk_of (l := PySem.Challenge.rw_farplaces_k01_trees_read_and_shown) (n := 63) (k := 6) (x := "script") (CX := fun _ => L2.CX0) (sp := fun w => Far.spLaw _) rfl (by decide) rfl ⟨rfl, by decide, by decide⟩ (fun w h Y => PySem.W.kIn_of Y) ?F (fun _ _ a ns hl _ hS => ⟨a, ns, rfl, hS, hl, fun _ => rfl⟩) (fun _ _ _ _ _ h => h)
  case F =>
    intro w mg fa h KX G hmg
    refine' Far.all_mk KX G hmg ?a1 ?l1 ?c1 ?k1 ?a2 ?l2 ?c2 ?k2 ?a3 ?l3 ?c3 ?k3 ?a4 ?l4 ?c4 ?k4 ?a5 ?l5 ?c5 ?k5 ?a6 ?l6 ?c6 ?k6 ?a7 ?l7 ?c7 ?k7 ?a8 ?l8 ?c8 ?k8 ?a9 ?l9 ?c9 ?k9 ?a10 ?l10 ?c10 ?k10 ?a11 ?l11 ?c11 ?k11 ?a12 ?l12 ?c12 ?k12 ?a13 ?l13 ?c13 ?k13 ?a14 ?l14 ?c14 ?k14 ?a15 ?l15 ?c15 ?k15 ?zLETTERS ?zFIGURES ?zLONGEST_NAME ?zlen ?zsum ?zrange ?zint ?zmax ?zlist ?ztuple ?zall ?zenumerate ?zisinstance ?zstr ?zbool ?zzip
    (case a1 => k_is); (case l1 => k_is); (case c1 => k_is); (case k1 => k_is); (case a2 => k_is); (case l2 => k_is); (case c2 => k_is); (case k2 => k_is); (case a3 => k_is); (case l3 => k_is); (case c3 => k_is); (case k3 => k_is); (case a4 => k_is); (case l4 => k_is); (case c4 => k_is); (case k4 => k_is); (case a5 => k_is); (case l5 => k_is); (case c5 => k_is); (case k5 => k_is); (case a6 => k_is); (case l6 => k_is); (case c6 => k_is); (case k6 => k_is); (case a7 => k_is); (case l7 => k_is); (case c7 => k_is); (case k7 => k_is); (case a8 => k_is); (case l8 => k_is); (case c8 => k_is); (case k8 => k_is); (case a9 => k_is); (case l9 => k_is); (case c9 => k_is); (case k9 => k_is); (case a10 => k_is); (case l10 => k_is); (case c10 => k_is); (case k10 => k_is); (case a11 => k_is); (case l11 => k_is); (case c11 => k_is); (case k11 => k_is); (case a12 => k_is); (case l12 => k_is); (case c12 => k_is); (case k12 => k_is); (case a13 => k_is); (case l13 => k_is); (case c13 => k_is); (case k13 => k_is); (case a14 => k_is); (case l14 => k_is); (case c14 => k_is); (case k14 => k_is); (case a15 => k_is); (case l15 => k_is); (case c15 => k_is); (case k15 => k_is); (case zLETTERS => k_is); (case zFIGURES => k_is); (case zLONGEST_NAME => k_is); (case zlen => k_is); (case zsum => k_is); (case zrange => k_is); (case zint => k_is); (case zmax => k_is); (case zlist => k_is); (case ztuple => k_is); (case zall => k_is); (case zenumerate => k_is); (case zisinstance => k_is); (case zstr => k_is); (case zbool => k_is); (case zzip => k_is)

