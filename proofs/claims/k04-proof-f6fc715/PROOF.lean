import PyProof.Rows.All
import Wide.All
import OpenK.AllK
import Wide.FinOn
import HandS.ForMost
import HandS.Wide
import HandS.Codes
import HandS.Conv
import HandS.TupAny
import HandS.Style
import HandS.IsInst
import HandS.FStr
import HandS.DictComp
import HandS.NoneIn
import HandS.Strs
import KE.GoesEnumKw
import HandS.Exc
import HandS.ExcInit
import HandS.ClsMeth
import HandS.ExcValue
import HandS.TryOnly
import HandS.ExcIs
import HandS.ExcField
import HandS.WordsExc
import HandS.Zip
import PySem.Challenge.RW_farplaces_k04_ways_between
set_option Elab.async false
set_option linter.all false
set_option maxRecDepth 100000
set_option maxHeartbeats 8000000
namespace Far
open PySem PySem.Spec PyProof.Rows L2
open C8 (pss_cut tCut)
def topS (i : Nat) : Stmt := PySem.Challenge.pw_farplaces_k04_ways_between.main.body.getD i (.Pass ⟨0, 0, 0, 0⟩)

theorem hd_of {A : Around} {k : Nat} (hr : Room k A) (h : 1 ≤ k) : A.units + 64 < cLine := by
  have := hr.units
  omega

/-- a def of the module that may be called by its name -/
structure Cal (P : Program) (w : World) (K : PySem.W.Frag) (mg : Str → Option Value) (base : Heap) (k : Nat) (x : Str) (sp : Sp) : Prop where
  ex : ∃ (f : Addr) (fd : FuncData) (ps : List Str), FnOk P w K mg base CX0 k f fd ps sp ∧ mg x = some (.ref f) ∧ PySem.W.keepIn K (.ref f) = true ∧ Binds K fd ps []
theorem pe_c {X : Cx} {k j : Nat} {x : Str} {sp : Sp} {p pos : Pos} {e : Expr} {es : List Expr} {t : TA} (c : Cal X.prog X.w X.K X.mg X.base k x sp) (hr : Room j X.A) (hk : k ≤ j) (hg : Gl X x) (ha : PA X (e :: es) t)
    (hdb : (x == ("__debug__" : Str)) = false := by decide) (he : starEach (e :: es) X.env = (false, eval e X.env) :: starEach es X.env := by rfl) (hpl : (backTo pos (starEach es X.env)).any (·.1) = false := by rfl) :
    PE X (.Call (.Name x p) (e :: es) [] pos) (tCall sp [] E0 t) := by
  obtain ⟨f, fd, ps, F, hm, kp, b⟩ := c.ex
  exact pe_call F (hr.mono hk) hg hm kp b .nil pass0 ha hdb he hpl

theorem bt_len : bootBuiltins ("len" : Str) = some (.builtin "len") := by decide +kernel
theorem bt_sum : bootBuiltins ("sum" : Str) = some (.builtin "sum") := by decide +kernel
theorem bt_max : bootBuiltins ("max" : Str) = some (.builtin "max") := by decide +kernel
theorem bt_all : bootBuiltins ("all" : Str) = some (.builtin "all") := by decide +kernel
theorem bt_isinstance : bootBuiltins ("isinstance" : Str) = some (.builtin "isinstance") := by decide +kernel
theorem bt_int : bootBuiltins ("int" : Str) = some (.type "int") := by decide +kernel
theorem bt_str : bootBuiltins ("str" : Str) = some (.type "str") := by decide +kernel
theorem bt_tuple : bootBuiltins ("tuple" : Str) = some (.type "tuple") := by decide +kernel
theorem bt_bool : bootBuiltins ("bool" : Str) = some (.type "bool") := by decide +kernel
theorem bt_list : bootBuiltins ("list" : Str) = some (.type "list") := by decide +kernel
/-- rules with the written part named, for use within a comprehension -/
def rLenV (K : PySem.W.Frag) : List V → Hp → VK → Prop := fun xs H Q => ∃ x n, xs = [x] ∧ LenV K x H n ∧ Q (.int n) H
theorem lenK {X : Cx} {K : PySem.W.Frag} (e : X.K = K := by rfl) : CallR X (.builtin "len") (rLenV K) := by
  subst e
  exact call_len
theorem ixl {X : Cx} {K : PySem.W.Frag} (e : X.K = K := by rfl) : IxR X (rIxL K) := by
  subst e
  exact ix_list
theorem ixt {X : Cx} {K : PySem.W.Frag} (e : X.K = K := by rfl) : IxR X (rIxT K) := by
  subst e
  exact ix_tup
/-- what the module's names hold that are built-ins, and its constants -/
structure Txt (mg : Str → Option Value) : Prop where
  len : mg "len" = none
  sum : mg "sum" = none
  range : mg "range" = none
  int : mg "int" = none
  max : mg "max" = none
  list : mg "list" = none
  tuple : mg "tuple" = none

/-- all that stood stands as it was, but for the one object -/
def SmX (d : Addr) (H H' : Hp) : Prop := ∀ b o, b ≠ d → H b = some o → H' b = some o
theorem SmX.refl {d : Addr} (H : Hp) : SmX d H H := fun _ _ _ h => h
theorem SmX.trans {d : Addr} {H H1 H2 : Hp} (a : SmX d H H1) (b : SmX d H1 H2) : SmX d H H2 := fun x o n h => b x o n (a x o n h)
theorem SmX.new {d : Addr} {H H1 : Hp} {p : Addr} {o : HO} (a : SmX d H H1) (n : H1 p = none) : SmX d H (upd H1 p o) := fun x u nx h => by
  rw [upd_ne (ne_of_none (a x u nx h) n)]
  exact a x u nx h
theorem SmX.mut {d : Addr} {H H1 : Hp} {o : HO} (a : SmX d H H1) : SmX d H (upd H1 d o) := fun x u nx h => by
  rw [upd_ne nx]
  exact a x u nx h
/-- an object that the first heap does not know may change -/
theorem SmX.put {d : Addr} {H H1 : Hp} {p : Addr} {o : HO} (a : SmX d H H1) (n : H p = none) : SmX d H (upd H1 p o) := fun x u nx h => by
  rw [upd_ne (ne_of_none h n)]
  exact a x u nx h

/-- the deck at d, its cells at c: at most n were mixed -/
def DeckAt (H : Hp) (d c : Addr) (n : Nat) : Prop := ∃ (cs : List Int) (i l m z : Int), H d = some (.lst [.ref c, .int i, .int l, .int m, .int z]) ∧ H c = some (.lst (cs.map V.int)) ∧ c ≠ d ∧ cs.length ≤ 63 ∧ 0 ≤ i ∧ i ≤ 63 ∧ 0 ≤ l ∧ 0 ≤ m ∧ m ≤ n
theorem DeckAt.new {H : Hp} {d c p : Addr} {o : HO} {n : Nat} (h : DeckAt H d c n) (np : H p = none) : DeckAt (upd H p o) d c n := by
  obtain ⟨cs, i, l, m, z, h1, h2, h3⟩ := h
  exact ⟨cs, i, l, m, z, by rw [upd_ne (ne_of_none h1 np)]; exact h1, by rw [upd_ne (ne_of_none h2 np)]; exact h2, h3⟩
theorem DeckAt.put {H : Hp} {d c p : Addr} {o : HO} {n : Nat} (h : DeckAt H d c n) (nd : p ≠ d) (nc : p ≠ c) : DeckAt (upd H p o) d c n := by
  obtain ⟨cs, i, l, m, z, h1, h2, h3⟩ := h
  exact ⟨cs, i, l, m, z, by rw [upd_ne nd.symm]; exact h1, by rw [upd_ne nc.symm]; exact h2, h3⟩
theorem DeckAt.nd {H : Hp} {d c p : Addr} {n : Nat} (h : DeckAt H d c n) (np : H p = none) : p ≠ d := fun e => by
  obtain ⟨_, _, _, _, _, h1, _⟩ := h
  rw [e, h1] at np
  cases np
theorem DeckAt.nc {H : Hp} {d c p : Addr} {n : Nat} (h : DeckAt H d c n) (np : H p = none) : p ≠ c := fun e => by
  obtain ⟨_, _, _, _, _, _, h2, _⟩ := h
  rw [e, h2] at np
  cases np
theorem DeckAt.mono {H : Hp} {d c : Addr} {n m : Nat} (h : DeckAt H d c n) (le : n ≤ m) : DeckAt H d c m := by
  obtain ⟨cs, i, l, m', z, h1, h2, h3, h4, h5, h6, h7, h8, h9⟩ := h
  exact ⟨cs, i, l, m', z, h1, h2, h3, h4, h5, h6, h7, h8, by omega⟩
theorem SmX.free {d : Addr} {H H' : Hp} {p : Addr} (a : SmX d H H') (n : H' p = none) (nd : p ≠ d) : H p = none := by
  cases q : H p with
  | none => rfl
  | some o =>
    rw [a p o nd q] at n
    cases n

abbrev s_law_mix : Stmt := topS 13
abbrev N_law_mix : List Str := ["cell", "k", "number"]
theorem sc_law_mix : FnScope N_law_mix ["cell", "k"] (defScope s_law_mix) := ⟨rfl, rfl, rfl, by decide +kernel, rfl, by decide +kernel, by decide +kernel⟩
section
variable {P : Program} {w : World} {K : PySem.W.Frag} {mg : Str → Option Value} {base : Heap}
def spMix : Sp := fun vs H Q _ => ∃ c k : Int, vs = [.int c, .int k] ∧ 0 ≤ k ∧ k < 1000000000000 ∧ ∀ r : Int, 0 ≤ r → Q (.int r) H
theorem ok_mix {f : Addr} {fd : FuncData} (F : Fun K "_law_mix" "_law_mix" s_law_mix f fd) : FnOk P w K mg base CX0 1 f fd ["cell", "k"] spMix := by
  refine F.ok sc_law_mix (fun vs H Q E h => ?_) (fun cdv A outer s H vs Q E hr h => ?_)
  · obtain ⟨c, k, rfl, _⟩ := h
    rfl
  · obtain ⟨c, k, rfl, k0, k1, q⟩ := h
    refine ⟨_, (pss_cons (ps_set (i := 2) sc_law_mix.nd rfl (.inl rfl) (pe_op op_add (pe_op op_mod (pv 0) pe_int) (pe_op op_mul (pe_op op_mul pe_int (pv 1)) (pv 1))))
      (pss_cons (ps_set (i := 2) sc_law_mix.nd rfl (.inl rfl) (pe_op op_mod (pe_op op_add (pv 2) (pe_op op_mul pe_int (pv 1))) pe_int))
      (pss_cons (ps_set (i := 2) sc_law_mix.nd rfl (.inl rfl) (pe_op op_mod (pe_op op_mul (pv 2) (pv 2)) pe_int))
      (pss_one (ps_ret (pe_op op_fdiv (pe_op op_mod (pe_op op_mul (pv 2) (pe_op op_add (pv 2) pe_int)) pe_int) pe_int)))))), ?_⟩
    refine ⟨_, rfl, _, _, rfl, rfl, (by show (0 : Int) < _; decide), _, rfl, _, _, rfl, rfl, .inl (by decide), _, rfl, _, _, rfl, rfl, .inr ⟨by omega, by omega⟩, _, _, rfl, rfl, ?_⟩
    refine ⟨_, rfl, _, rfl, _, _, rfl, rfl, .inl (by decide), _, _, rfl, rfl, _, _, rfl, rfl, (by show (0 : Int) < _; decide), ?_⟩
    generalize hm : (c % 2147483629 + 1000003 * k * k + 7919 * k) % 2147483629 = m
    have m0 : 0 ≤ m := by omega
    have m1 : m < 2147483629 := by omega
    refine ⟨_, rfl, _, rfl, _, _, rfl, rfl, .inl ⟨by omega, by omega⟩, _, _, rfl, rfl, (by show (0 : Int) < _; decide), ?_⟩
    generalize hn : m * m % 2147483587 = n
    have n0 : 0 ≤ n := by omega
    have n1 : n < 2147483587 := by omega
    refine ⟨_, rfl, _, rfl, _, _, rfl, rfl, _, _, rfl, rfl, .inl ⟨by omega, by omega⟩, _, _, rfl, rfl, (by show (0 : Int) < _; decide), _, _, rfl, rfl, ⟨by decide, by decide⟩, ?_⟩
    exact q _ (by omega)

abbrev s_law_next : Stmt := topS 15
abbrev N_law_next : List Str := ["deck", "many", "cell", "found"]
theorem sc_law_next : FnScope N_law_next ["deck", "many"] (defScope s_law_next) := ⟨rfl, rfl, rfl, by decide +kernel, rfl, by decide +kernel, by decide +kernel⟩
/-- a number from 0 on below many; the deck stands a step further; what else stood stands -/
def spNext : Sp := fun vs H Q _ => ∃ (d c : Addr) (n : Nat) (many : Int), vs = [.ref d, .int many] ∧ DeckAt H d c n ∧ n < 100000 ∧ 0 < many ∧ many < 2 ^ 60 ∧ ∀ (H' : Hp) (r : Int), 0 ≤ r → r < many → SmX d H H' → DeckAt H' d c (n + 1) → Q (.int r) H'
theorem ok_next {f : Addr} {fd : FuncData} (F : Fun K "_law_next" "_law_next" s_law_next f fd) (T : Txt mg) (C_law_mix : Cal P w K mg base 1 "_law_mix" spMix) : FnOk P w K mg base CX0 2 f fd ["deck", "many"] spNext := by
  refine F.ok sc_law_next (fun vs H Q E h => ?_) (fun cdv A outer s H vs Q E hr h => ?_)
  · obtain ⟨d, c, n, many, rfl, _⟩ := h
    rfl
  · obtain ⟨d, c, n, many, rfl, hD, hn, hm0, hm1, q⟩ := h
    refine ⟨_, (pss_cut (ps_if (PW.pt (pw_and (pt_cmpR op_eq (pe_ix ix_list (pv 0) pe_int (fun _ _ => rfl)) pe_int (nomark _)) (pw_and1 (pt_cmpR op_lt (pe_ix ix_list (pv 0) pe_int (fun _ _ => rfl)) (pe_callB call_len_seq (by rfl) T.len bt_len (pa_cons (pe_ix ix_list (pv 0) pe_int (fun _ _ => rfl)) pa_nil)) (nomark _)))))
        (pss_cons (ps_set (i := 2) sc_law_next.nd rfl (.inl rfl) (pe_ix ix_list (pe_ix ix_list (pv 0) pe_int (fun _ _ => rfl)) (pe_ix ix_list (pv 0) pe_int (fun _ _ => rfl)) (fun _ _ => rfl)))
        (pss_cons (ps_asg (pe_op op_add (pe_ix ix_list (pv 0) pe_int (fun _ _ => rfl)) pe_int) (pg_sub (pv 0) pe_int set_list))
        (pss_cons (ps_if (pt_cmpR op_lt (pv 2) (pe_op op_pow pe_int pe_int) (nomark _))
          (pss_one (ps_ret (pe_op op_mod (pe_c C_law_mix hr (by decide) rfl (pa_cons (pv 2) (pa_cons (pe_ix ix_list (pv 0) pe_int (fun _ _ => rfl)) pa_nil))) (pv 1))))
          pss_nil)
        (pss_one (ps_asg (pv 2) (pg_sub (pv 0) pe_int set_list))))))
        pss_nil)
      (pss_cut (ps_if (pt_cmpR op_gt (pe_ix ix_list (pv 0) pe_int (fun _ _ => rfl)) pe_int (nomark _))
        (pss_cons (ps_set (i := 3) sc_law_next.nd rfl (.inl rfl) (pe_op op_mod (pe_ix ix_list (pv 0) pe_int (fun _ _ => rfl)) (pv 1)))
        (pss_cons (ps_asg (pe_op op_fdivW (pe_ix ix_list (pv 0) pe_int (fun _ _ => rfl)) (pv 1)) (pg_sub (pv 0) pe_int set_list))
        (pss_one (ps_ret (pv 3)))))
        pss_nil)
      (pss_cons (ps_asg (pe_op op_add (pe_ix ix_list (pv 0) pe_int (fun _ _ => rfl)) pe_int) (pg_sub (pv 0) pe_int set_list))
      (pss_one (ps_ret (pe_op op_mod (pe_c C_law_mix hr (by decide) rfl (pa_cons (pe_ix ix_list (pv 0) pe_int (fun _ _ => rfl)) (pa_cons (pe_op op_add (pe_ix ix_list (pv 0) pe_int (fun _ _ => rfl)) pe_int) pa_nil))) (pv 1))))))), ?_⟩
    refine ⟨fun σ' H' => (∃ x y, σ' = [some (.ref d), some (.int many), x, y]) ∧ SmX d H H' ∧ DeckAt H' d c n, ?_, fun σ' H1 hM => ?_⟩
    · obtain ⟨cs, i, l, m, z, h1, h2, ncd, len, i0, i63, l0, m0, mn⟩ := id hD
      refine ⟨_, rfl, d, _, 2, _, rfl, rfl, SqL.of h1, rfl, rfl, _, rfl, ?_⟩
      refine ite2 (fun e => ?_) (fun e => ?_)
      · refine ⟨_, rfl, d, _, 1, _, rfl, rfl, SqL.of h1, rfl, _, rfl, d, _, 0, _, rfl, rfl, SqL.of h1, rfl, c, _, rfl, .inl (SqL.of h2), _, _, rfl, rfl, _, rfl, ?_⟩
        refine ite2 (fun e2 => ?_) (fun e2 => ?_)
        · have lt : i < cs.length := by simpa using of_decide_eq_true e2
          have gi : (cs.map V.int)[i.toNat]? = some (.int (cs[i.toNat]'(by omega))) := by
            rw [List.getElem?_map, List.getElem?_eq_getElem (by omega)]
            rfl
          have ei : i = ((i.toNat : Nat) : Int) := by omega
          refine ⟨_, rfl, d, _, 0, _, rfl, rfl, SqL.of h1, rfl, _, rfl, d, _, 1, _, rfl, rfl, SqL.of h1, rfl, c, _, i, _, rfl, rfl, SqL.of h2, at_of ei gi, ?_⟩
          generalize cs[i.toNat]'(by omega) = cell
          refine ⟨_, rfl, d, _, 1, _, rfl, rfl, SqL.of h1, rfl, i, 1, rfl, rfl, ?_⟩
          refine ⟨_, rfl, d, _, 1, 1, rfl, rfl, h1, rfl, ?_⟩
          have S1 : SmX d H (upd H d (.lst [.ref c, .int (i + 1), .int l, .int m, .int z])) := (SmX.refl H).mut
          have h1' : (upd H d (.lst [.ref c, .int (i + 1), .int l, .int m, .int z])) d = some (.lst [.ref c, .int (i + 1), .int l, .int m, .int z]) := upd_same
          have h2' : (upd H d (.lst [.ref c, .int (i + 1), .int l, .int m, .int z])) c = some (.lst (cs.map V.int)) := by
            rw [upd_ne ncd]
            exact h2
          refine ⟨_, rfl, _, _, rfl, rfl, ⟨by decide, by decide, by decide⟩, _, _, rfl, rfl, _, rfl, ?_⟩
          refine ite2 (fun e3 => ?_) (fun e3 => ?_)
          · refine ⟨_, rfl, _, rfl, d, _, 1, _, rfl, rfl, SqL.of h1', rfl, ?_⟩
            refine ⟨cell, i + 1, rfl, by omega, by omega, fun r r0 => ?_⟩
            refine ⟨_, rfl, _, _, rfl, rfl, hm0, ?_⟩
            exact q _ _ (Int.emod_nonneg _ (by omega)) (Int.emod_lt_of_pos _ hm0) S1 ⟨cs, i + 1, l, m, z, h1', h2', ncd, len, by omega, by omega, l0, m0, by omega⟩
          · have big : (10 : Int) ^ 18 ≤ cell := by
              have := of_decide_eq_false (by simpa using e3 : decide (cell < (10 : Int) ^ 18) = false)
              omega
            refine ⟨_, rfl, _, rfl, d, _, 2, 2, rfl, rfl, h1', rfl, ?_⟩
            refine ⟨⟨_, _, rfl⟩, S1.mut, cs, i + 1, cell, m, z, upd_same, by rw [upd_ne ncd]; exact h2', ncd, len, by omega, by omega, by omega, m0, by omega⟩
        · exact ⟨⟨_, _, rfl⟩, SmX.refl H, hD⟩
      · exact ite2 (fun e2 => absurd e2 (by simp)) fun _ => ⟨⟨_, _, rfl⟩, SmX.refl H, hD⟩
    · obtain ⟨⟨x, y, rfl⟩, SM, cs, i, l, m, z, h1, h2, ncd, len, i0, i63, l0, m0, mn⟩ := hM
      refine ⟨fun σ' H' => σ' = [some (.ref d), some (.int many), x, y] ∧ H' = H1, ?_, fun σ' H2 hM => ?_⟩
      · refine ⟨_, rfl, d, _, 2, _, rfl, rfl, SqL.of h1, rfl, _, _, rfl, rfl, _, rfl, ?_⟩
        refine ite2 (fun e => ?_) (fun e => ⟨rfl, rfl⟩)
        refine ⟨_, rfl, d, _, 2, _, rfl, rfl, SqL.of h1, rfl, _, rfl, _, _, rfl, rfl, hm0, ?_⟩
        refine ⟨_, rfl, d, _, 2, _, rfl, rfl, SqL.of h1, rfl, _, rfl, _, _, rfl, rfl, wide_div (b := 60) hm0 (by omega) (by decide) (by decide), ?_⟩
        refine ⟨_, rfl, d, _, 2, 2, rfl, rfl, h1, rfl, ?_⟩
        refine ⟨_, rfl, ?_⟩
        refine q _ _ (Int.emod_nonneg _ (by omega)) (Int.emod_lt_of_pos _ hm0) SM.mut ⟨cs, i, l / many, m, z, upd_same, by rw [upd_ne ncd]; exact h2, ncd, len, i0, i63, Int.ediv_nonneg l0 (by omega), m0, by omega⟩
      · obtain ⟨rfl, rfl⟩ := hM
        refine ⟨_, rfl, d, _, 3, _, rfl, rfl, SqL.of h1, rfl, _, _, rfl, rfl, _, rfl, d, _, 3, 3, rfl, rfl, h1, rfl, ?_⟩
        have h1' : (upd H2 d (.lst [.ref c, .int i, .int l, .int (m + 1), .int z])) d = some (.lst [.ref c, .int i, .int l, .int (m + 1), .int z]) := upd_same
        refine ⟨_, rfl, d, _, 4, _, rfl, rfl, SqL.of h1', rfl, _, rfl, d, _, 3, _, rfl, rfl, SqL.of h1', rfl, _, _, rfl, rfl, ?_⟩
        refine ⟨z, m + 1 + _, rfl, by omega, by omega, fun r r0 => ?_⟩
        refine ⟨_, rfl, _, _, rfl, rfl, hm0, ?_⟩
        exact q _ _ (Int.emod_nonneg _ (by omega)) (Int.emod_lt_of_pos _ hm0) SM.mut ⟨cs, i, l, m + 1, z, h1', by rw [upd_ne ncd]; exact h2, ncd, len, i0, i63, l0, by omega, by omega⟩
end
end Far

namespace Far
open PySem PySem.Spec PyProof.Rows L2
open C8 (pss_cut tCut)
open SX (S)

/-- the signs of a name -/
def NameOk (l : List Nat) : Prop := 1 ≤ l.length ∧ l.length ≤ 8 ∧ ∀ c ∈ l, 97 ≤ c ∧ c ≤ 122
theorem sz_le {n : Nat} (h : n ≤ 100000) : n ≤ sizeLine := Nat.le_trans h (by decide)
theorem sz_lt {n : Nat} (h : n ≤ 100000) : n < sizeLine := Nat.lt_of_le_of_lt h (by decide)
theorem atI_in {α : Type} {xs : List α} {i : Int} (h0 : 0 ≤ i) (h1 : i < xs.length) : ∃ v, atI xs i = some v ∧ v ∈ xs := by
  have e : i = ((i.toNat : Nat) : Int) := by omega
  have l : i.toNat < xs.length := by omega
  refine ⟨xs[i.toNat], ?_, List.getElem_mem l⟩
  have q := atI_nat (List.getElem?_eq_getElem l)
  rwa [← e] at q
theorem S_of (z : Str) : ∃ l, z = S l := ⟨z.cps.toList, (SX.S_tl z).symm⟩
theorem join_none : ∀ ys : List (List Nat), TL.joinL [] ys = ys.flatten
  | [] => rfl
  | [x] => by simp [TL.joinL]
  | x :: y :: r => by
    have ih := join_none (y :: r)
    show x ++ ([] ++ TL.joinL [] (y :: r)) = x ++ (y :: r).flatten
    rw [ih]
    rfl
theorem flat_one (cs : List Nat) : (cs.map fun c => [c]).flatten = cs := by
  induction cs with
  | nil => rfl
  | cons c r ih => rw [List.map_cons, List.flatten_cons, ih]; rfl
theorem one_sum' (cs : List Nat) : ((cs.map fun c => S [c]).map (·.length)).sum = cs.length := by
  induction cs with
  | nil => rfl
  | cons c r ih =>
    rw [List.map_cons, List.map_cons, List.sum_cons, ih, List.length_cons, SX.S_len]
    show 1 + r.length = r.length + 1
    omega
abbrev s_law_name : Stmt := topS 16
abbrev N_law_name : List Str := ["deck", "size", "letters", "k"]
theorem sc_law_name : FnScope N_law_name ["deck"] (defScope s_law_name) := ⟨rfl, rfl, rfl, by decide +kernel, rfl, by decide +kernel, by decide +kernel⟩
section
variable {P : Program} {w : World} {K : PySem.W.Frag} {mg : Str → Option Value} {base : Heap}
def spName : Sp := fun vs H Q _ => ∃ (d c : Addr) (n : Nat), vs = [.ref d] ∧ DeckAt H d c n ∧ n < 90000 ∧ ∀ (H' : Hp) (l : List Nat), NameOk l → SmX d H H' → DeckAt H' d c (n + 11) → Q (.str (S l)) H'
theorem ok_name {f : Addr} {fd : FuncData} (F : Fun K "_law_name" "_law_name" s_law_name f fd) (T : Txt mg) (C_law_next : Cal P w K mg base 2 "_law_next" spNext) : FnOk P w K mg base CX0 3 f fd ["deck"] spName := by
  refine F.ok sc_law_name (fun vs H Q E h => ?_) (fun cdv A outer s H vs Q E hr h => ?_)
  · obtain ⟨d, c, n, rfl, _⟩ := h
    rfl
  · obtain ⟨d, c, n, rfl, hD, hn, q⟩ := h
    refine ⟨_, (pss_cons (ps_set (i := 1) sc_law_name.nd rfl (.inl rfl) (pe_ix ix_list (pe_lst (pa_cons pe_int (pa_cons pe_int (pa_cons pe_int (pa_cons (pe_op op_add pe_int (pe_c C_law_next hr (by decide) rfl (pa_cons (pv 0) (pa_cons pe_int pa_nil)))) pa_nil))))) (pe_c C_law_next hr (by decide) rfl (pa_cons (pv 0) (pa_cons pe_int pa_nil))) (fun _ _ => rfl)))
      (pss_cons (ps_set (i := 2) sc_law_name.nd rfl (.inr rfl) (pe_ix ix_list (pe_lst (pa_cons pe_str (pa_cons pe_str (pa_cons pe_str (pa_cons pe_str pa_nil))))) (pe_c C_law_next hr (by decide) rfl (pa_cons (pv 0) (pa_cons pe_int pa_nil))) (fun _ _ => rfl)))
      (pss_one (ps_ret (pe_join pe_str (pe_lc (own := [("k", 3)]) (g := gName 3) (tt := tYes) rfl sc_law_name.nd (pi_range1 (by rfl) T.range (pa_cons (pv 1) pa_nil)) (blkOk_by (N := N_law_name) (sc := defScope s_law_name) (by decide +kernel)) (fun _ _ _ _ _ => pg_name (i := 3) sc_law_name.nd rfl (Or.inl rfl)) (fun _ _ _ _ _ => pts_nil) (fun _ _ _ _ _ => (pe_ix ix_str (pv 2) (pe_c C_law_next hr (by decide) rfl (pa_cons (pv 0) (pa_cons (pe_callB (lenK (K := K)) (by rfl) T.len bt_len (pa_cons (pv 2) pa_nil)) pa_nil))) (fun _ _ => rfl))))))))), ?_⟩
    refine ⟨_, rfl, d, c, n, 8, rfl, hD, by omega, by decide, by decide, fun H1 r r0 r1 S1 D1 => ?_⟩
    refine ⟨_, _, rfl, rfl, (by show 4 ≤ sizeLine; decide), fun p np => ?_⟩
    have npd : p ≠ d := D1.nd np
    refine ⟨_, rfl, d, c, n + 1, 4, rfl, D1.new np, by omega, by decide, by decide, fun H2 r' r0' r1' S2 D2 => ?_⟩
    have hp : H2 p = some (.lst [.int 1, .int 2, .int 8, .int (1 + r)]) := S2 p _ npd upd_same
    obtain ⟨v, hv, mv⟩ := atI_in (xs := [V.int 1, .int 2, .int 8, .int (1 + r)]) r0' (by simpa using r1')
    have hs : ∃ sz : Int, v = .int sz ∧ 1 ≤ sz ∧ sz ≤ 8 := by
      simp only [List.mem_cons, List.not_mem_nil, or_false] at mv
      rcases mv with e | e | e | e <;> exact ⟨_, e, by omega, by omega⟩
    obtain ⟨sz, rfl, s1, s8⟩ := hs
    refine ⟨p, _, r', _, rfl, rfl, SqL.of hp, hv, ?_⟩
    have S12 : SmX d H H2 := (S1.new np).trans S2
    -- letters
    refine ⟨(by show 4 ≤ sizeLine; decide), fun p3 np3 => ?_⟩
    have npd3 : p3 ≠ d := D2.nd np3
    refine ⟨_, rfl, d, c, n + 2, 4, rfl, D2.new np3, by omega, by decide, by decide, fun H3 r'' r0'' r1'' S3 D3 => ?_⟩
    have hp3 := S3 p3 _ npd3 upd_same
    obtain ⟨v, hv, mv⟩ := atI_in (xs := [V.str ("abcdefghijklmnopqrstuvwxyz" : Str), .str ("ab" : Str), .str ("az" : Str), .str ("mno" : Str)]) r0'' (by simpa using r1'')
    have hs : ∃ ls : List Nat, v = .str (S ls) ∧ 1 ≤ ls.length ∧ ls.length ≤ 26 ∧ ∀ c ∈ ls, 97 ≤ c ∧ c ≤ 122 := by
      simp only [List.mem_cons, List.not_mem_nil, or_false] at mv
      rcases mv with e | e | e | e
      · exact ⟨("abcdefghijklmnopqrstuvwxyz" : Str).cps.toList, by rw [e, SX.S_tl], by decide +kernel, by decide +kernel, by decide +kernel⟩
      · exact ⟨("ab" : Str).cps.toList, by rw [e, SX.S_tl], by decide +kernel, by decide +kernel, by decide +kernel⟩
      · exact ⟨("az" : Str).cps.toList, by rw [e, SX.S_tl], by decide +kernel, by decide +kernel, by decide +kernel⟩
      · exact ⟨("mno" : Str).cps.toList, by rw [e, SX.S_tl], by decide +kernel, by decide +kernel, by decide +kernel⟩
    obtain ⟨ls, rfl, l1, l26, lok⟩ := hs
    refine ⟨p3, _, r'', _, rfl, rfl, SqL.of hp3, hv, ?_⟩
    have S13 : SmX d H H3 := (S12.new np3).trans S3
    -- the join
    refine ⟨⟨_, rfl⟩, _, rfl, sz, rfl, by omega, by omega, fun D nD => ?_⟩
    have nDd : D ≠ d := D3.nd nD
    have nDc : D ≠ c := D3.nc nD
    refine lc_range (lo := 0) (n := sz.toNat) (fun i H' => ∃ cs : List Nat, cs.length = i ∧ (∀ c ∈ cs, 97 ≤ c ∧ c ≤ 122) ∧ H' D = some (.lst ((cs.map fun c => S [c]).map V.str)) ∧ SmX d H H' ∧ DeckAt H' d c (n + 3 + i)) ⟨[], rfl, by simp, upd_same, S13.new nD, D3.new nD⟩ (fun i H' hi hP => ?_) (fun H' hP => ?_)
    · obtain ⟨cs, hl, hc, hD', SM, DD⟩ := hP
      refine ⟨rfl, _, rfl, _, rfl, _, rfl, .str (S ls), ls.length, rfl, ⟨by rw [SX.S_len]; exact sz_le (by omega), (SX.S_len _).symm⟩, d, c, _, _, rfl, DD, by omega, by omega, by omega, fun H4 r4 r40 r41 S4 D4 => ?_⟩
      obtain ⟨v, hv, mv⟩ := atI_in (xs := ls) r40 r41
      refine ⟨S ls, r4, v, rfl, rfl, by rw [SX.S_len]; exact sz_le (by omega), by simpa using hv, ?_⟩
      refine ⟨_, S4 D _ nDd hD', by rw [List.length_map, List.length_map]; exact sz_lt (by omega), cs ++ [v], by simp [hl], fun c hc' => ?_, ?_, (SM.trans S4).put ?_, ?_⟩
      · rcases List.mem_append.mp hc' with z | z
        · exact hc c z
        · rw [List.mem_singleton.mp z]
          exact lok v mv
      · rw [upd_same, List.map_append, List.map_append]
        rfl
      · exact SmX.free S13 nD nDd
      · exact D4.put nDd nDc
    · obtain ⟨cs, hl, hc, hD', SM, DD⟩ := hP
      refine ⟨_, D, cs.map (fun c => S [c]), rfl, rfl, .inl (SqL.of hD'), ?_, ?_⟩
      · rw [one_sum']
        have : ((("" : Str)).length) = 0 := rfl
        rw [this, List.length_map]
        omega
      · have e : Txt.join ("" : Str) (cs.map fun c => S [c]) = S cs := by
          have := SX.join_S [] (cs.map fun c => [c])
          rw [List.map_map] at this
          rw [join_none, flat_one] at this
          exact this
        rw [e]
        exact q H' cs ⟨by omega, by omega, hc⟩ SM (DD.mono (by omega))
end
end Far

namespace Far
open PySem PySem.Spec PyProof.Rows L2
open C8 (pss_cut tCut)
open SX (S)

/-! ### lists without an item twice -/
theorem nodup_sub_len {α : Type} [DecidableEq α] : ∀ (l m : List α), l.Nodup → (∀ x ∈ l, x ∈ m) → l.length ≤ m.length
  | [], _, _, _ => Nat.zero_le _
  | a :: r, m, h, hs => by
    obtain ⟨h1, h2⟩ := List.nodup_cons.mp h
    have ha : a ∈ m := hs a (List.mem_cons.mpr (.inl rfl))
    have ih := nodup_sub_len r (m.erase a) h2 fun x hx => by
      have ne : x ≠ a := fun e => h1 (e ▸ hx)
      exact (List.mem_erase_of_ne ne).mpr (hs x (List.mem_cons.mpr (.inr hx)))
    have hl := List.length_erase_of_mem ha
    have hp : 0 < m.length := List.length_pos_of_mem ha
    rw [List.length_cons]
    omega
theorem nd_snoc' {α : Type} {l : List α} {x : α} (h : l.Nodup) (hx : x ∉ l) : (l ++ [x]).Nodup := by
  rw [List.nodup_append]
  exact ⟨h, by simp, fun a ha b hb e => hx (by rw [← List.mem_singleton.mp hb, ← e]; exact ha)⟩

/-! ### texts as data -/
theorem strOk_S {l : List Nat} (h : NameOk l) : PyData.strOk (S l) = true := by
  show (l.toArray.all (· < 0x110000)) = true
  rw [← Array.all_toList, List.all_eq_true]
  intro c hc
  have := h.2.2 c hc
  exact decide_eq_true (by omega)
theorem inV_strs (l : List Nat) (ls : List (List Nat)) : inV (.str (S l)) ((ls.map S).map V.str) = decide (l ∈ ls) := by
  induction ls with
  | nil => rfl
  | cons a r ih =>
    show (S a == S l || inV (.str (S l)) ((r.map S).map V.str)) = _
    rw [ih, SX.S_beq_eq]
    by_cases e : a = l
    · subst e
      simp
    · have : l ≠ a := fun z => e z.symm
      simp [e, this]
theorem flat_strs (ls : List (List Nat)) : ((ls.map S).map V.str).all flatV = true := by
  induction ls with
  | nil => rfl
  | cons a r ih => exact ih
theorem strs_at {ls : List (List Nat)} {v : V} (h : v ∈ (ls.map S).map V.str) : ∃ l ∈ ls, v = .str (S l) := by
  obtain ⟨z, hz, rfl⟩ := List.mem_map.mp h
  obtain ⟨l, hl, rfl⟩ := List.mem_map.mp hz
  exact ⟨l, hl, rfl⟩
theorem dp_strs (K : PySem.W.Frag) (H : Hp) : ∀ ls : List (List Nat), DpAll K H ((ls.map S).map V.str) (ls.map fun l => PyData.str (S l))
  | [] => .nil
  | l :: r => .cons (.str _) (dp_strs K H r)
theorem lay_strs : ∀ {ls : List (List Nat)}, (∀ l ∈ ls, NameOk l) → PyData.canLayAll0 (ls.map fun l => PyData.str (S l)) = true
  | [], _ => rfl
  | l :: r, h => by
    show (PyData.strOk (S l) && PyData.canLayAll0 (r.map fun l => PyData.str (S l))) = true
    rw [strOk_S (h l (List.mem_cons.mpr (.inl rfl))), lay_strs fun x hx => h x (List.mem_cons.mpr (.inr hx))]
    rfl
theorem dep_strs : ∀ ls : List (List Nat), PyData.depthAll (ls.map fun l => PyData.str (S l)) = 0
  | [] => rfl
  | l :: r => by
    show max 0 (PyData.depthAll (r.map fun l => PyData.str (S l))) = 0
    rw [dep_strs r]
    rfl
theorem shaped_strs {ls : List (List Nat)} (h : ∀ l ∈ ls, NameOk l) : SeqAt.shaped (.list (ls.map fun l => PyData.str (S l))) = true := by
  show (PyData.canLayAll0 (ls.map fun l => PyData.str (S l)) && decide (PyData.depthAll (ls.map fun l => PyData.str (S l)) + 1 ≤ 64)) = true
  rw [lay_strs h, dep_strs]
  rfl

/-! ### names made otherwise -/
theorem a8_is : ("aaaaaaaa" : Str) = S (List.replicate 8 97) := by decide +kernel
theorem ten_at : ∀ k : _root_.Fin 10, atI ("abcdefghij" : Str).cps.toList ((k.val : Nat) : Int) = some (97 + k.val) := by decide +kernel
theorem abc_ok : ∀ c ∈ ("abcdefghijklmnopqrstuvwxyz" : Str).cps.toList, 97 ≤ c ∧ c ≤ 122 := by decide +kernel
def cand (q : List Nat) (j : Nat) : List Nat := q ++ [97 + j / 10] ++ [97 + j % 10]
theorem cand_inj {q : List Nat} {i j : Nat} (h : cand q i = cand q j) : i = j := by
  unfold cand at h
  rw [List.append_assoc, List.append_assoc] at h
  have := List.append_cancel_left h
  simp at this
  omega
def six (l : List Nat) : List Nat := (l ++ List.replicate 8 97).take 6
theorem six_len (l : List Nat) : (six l).length = 6 := by
  unfold six
  rw [List.length_take, List.length_append, List.length_replicate]
  omega
theorem six_ok {l : List Nat} (h : NameOk l) : ∀ c ∈ six l, 97 ≤ c ∧ c ≤ 122 := fun c hc => by
  have := List.mem_of_mem_take hc
  rcases List.mem_append.mp this with z | z
  · exact h.2.2 c z
  · rw [List.eq_of_mem_replicate z]
    omega
theorem cand_len {q : List Nat} (hq : q.length = 6) (j : Nat) : (cand q j).length = 8 := by
  unfold cand
  simp [hq]
theorem six_cand {q : List Nat} (hq : q.length = 6) (j : Nat) : six (cand q j) = q := by
  unfold six cand
  rw [List.append_assoc, List.append_assoc, ← hq]
  simp
theorem cand_ok {q : List Nat} (hq : q.length = 6) (ho : ∀ c ∈ q, 97 ≤ c ∧ c ≤ 122) {j : Nat} (hj : j < 100) : NameOk (cand q j) := by
  refine ⟨by rw [cand_len hq]; omega, by rw [cand_len hq]; omega, fun c hc => ?_⟩
  unfold cand at hc
  simp at hc
  rcases hc with z | z | z
  · exact ho c z
  · omega
  · omega
/-- of the names tried so far all but the last are found already -/
structure Tried (ls : List (List Nat)) (t : Nat) (l : List Nat) : Prop where
  ok : NameOk l
  last : t ≠ 0 → l = cand (six l) (t - 1)
  old : ∀ j, j + 1 < t → cand (six l) j ∈ ls
theorem Tried.lt {ls : List (List Nat)} {t : Nat} {l : List Nat} (h : Tried ls t l) (hl : l ∈ ls) : t ≤ ls.length := by
  have sub : ∀ x ∈ (List.range t).map (cand (six l)), x ∈ ls := fun x hx => by
    obtain ⟨j, hj, rfl⟩ := List.mem_map.mp hx
    have hj := List.mem_range.mp hj
    by_cases e : j + 1 < t
    · exact h.old j e
    · have e2 : j = t - 1 := by omega
      rw [e2, ← h.last (by omega)]
      exact hl
  have nd : ((List.range t).map (cand (six l))).Nodup := by
    rw [List.Nodup, List.pairwise_map]
    exact (List.nodup_range (n := t)).imp fun ne e => ne (cand_inj e)
  have := nodup_sub_len _ ls nd sub
  rw [List.length_map, List.length_range] at this
  exact this
theorem Tried.next {ls : List (List Nat)} {t : Nat} {l : List Nat} (h : Tried ls t l) (hl : l ∈ ls) (h30 : ls.length < 30) : Tried ls (t + 1) (cand (six l) t) := by
  have hlt := h.lt hl
  have e6 := six_cand (six_len l) t
  refine ⟨cand_ok (six_len l) (six_ok h.ok) (by omega), fun _ => by rw [e6]; rfl, fun j hj => ?_⟩
  rw [e6]
  by_cases e : j + 1 < t
  · exact h.old j e
  · have e2 : j = t - 1 := by omega
    rw [e2, ← h.last (by omega)]
    exact hl
end Far

namespace Far
open PySem PySem.Spec PyProof.Rows L2
open C8 (pss_cut tCut)
open SX (S)
abbrev s_law_names : Stmt := topS 17
abbrev N_law_names : List Str := ["deck", "many", "found", "name", "at", "sign", "some", "turn", "ten"]
theorem sc_law_names : FnScope N_law_names ["deck", "many"] (defScope s_law_names) := ⟨rfl, rfl, rfl, by decide +kernel, rfl, by decide +kernel, by decide +kernel⟩
section
variable {P : Program} {w : World} {K : PySem.W.Frag} {mg : Str → Option Value} {base : Heap}
def NamesAt (H : Hp) (p : Addr) (ls : List (List Nat)) : Prop := H p = some (.lst ((ls.map S).map V.str))
def spNames : Sp := fun vs H Q _ => ∃ (d c : Addr) (n : Nat) (many : Nat), vs = [.ref d, .int many] ∧ DeckAt H d c n ∧ n < 80000 ∧ many ≤ 30 ∧ ∀ (H' : Hp) (p : Addr) (ls : List (List Nat)), H p = none → p ≠ d → p ≠ c → NamesAt H' p ls → ls.length = many → ls.Nodup → (∀ l ∈ ls, NameOk l) → SmX d H H' → DeckAt H' d c (n + 600) → Q (.ref p) H'
theorem ok_names {f : Addr} {fd : FuncData} (F : Fun K "_law_names" "_law_names" s_law_names f fd) (T : Txt mg) (C_law_next : Cal P w K mg base 2 "_law_next" spNext) (C_law_name : Cal P w K mg base 3 "_law_name" spName) : FnOk P w K mg base CX0 4 f fd ["deck", "many"] spNames := by
  refine F.ok sc_law_names (fun vs H Q E h => ?_) (fun cdv A outer s H vs Q E hr h => ?_)
  · obtain ⟨d, c, n, many, rfl, _⟩ := h
    rfl
  · obtain ⟨d, c, n, many, rfl, hD, hn, hm, q⟩ := h
    refine ⟨_, (pss_cons (ps_set (i := 2) sc_law_names.nd rfl (.inl rfl) (pe_lst pa_nil))
      (pss_cut (ps_while PassesOwn.never (pt_cmpR op_lt (pe_callB call_len_seq (by rfl) T.len bt_len (pa_cons (pv 2) pa_nil)) (pv 1) (nomark _))
        (pss_cons (ps_set (i := 3) sc_law_names.nd rfl (.inl rfl) (pe_c C_law_name hr (by decide) rfl (pa_cons (pv 0) pa_nil)))
        (pss_cut (ps_if (PW.pt (pw_and (pt_cmpR (op_neD (hd_of hr (by decide))) (pv 2) (pe_lst pa_nil) (nomark _)) (pw_and1 (pt_cmpR op_eq (pe_c C_law_next hr (by decide) rfl (pa_cons (pv 0) (pa_cons pe_int pa_nil))) pe_int (nomark _)))))
          (pss_cons (ps_set (i := 3) sc_law_names.nd rfl (.inl rfl) (pe_ix ix_list (pv 2) (pe_c C_law_next hr (by decide) rfl (pa_cons (pv 0) (pa_cons (pe_callB call_len_seq (by rfl) T.len bt_len (pa_cons (pv 2) pa_nil)) pa_nil))) (fun _ _ => rfl)))
          (pss_cons (ps_set (i := 4) sc_law_names.nd rfl (.inl rfl) (pe_c C_law_next hr (by decide) rfl (pa_cons (pv 0) (pa_cons (pe_callB call_len (by rfl) T.len bt_len (pa_cons (pv 3) pa_nil)) pa_nil))))
          (pss_cons (ps_set (i := 5) sc_law_names.nd rfl (.inl rfl) (pe_ix ix_str pe_str (pe_c C_law_next hr (by decide) rfl (pa_cons (pv 0) (pa_cons pe_int pa_nil))) (fun _ _ => rfl)))
          (pss_cons (ps_set (i := 6) sc_law_names.nd rfl (.inl rfl) (pe_lst (pa_cons (pe_op op_add_str (pe_op op_add_str (pe_slice C8.sl_txt (pv 3) po_none (po_some (pv 4))) (pv 5)) (pe_slice C8.sl_txt (pv 3) (po_some (pe_op op_add (pv 4) pe_int)) po_none)) (pa_cons (pe_slice C8.sl_txt (pv 3) po_none (po_some (pe_op op_add (pv 4) pe_int))) (pa_cons (pe_slice C8.sl_txt (pe_op op_add_str (pv 3) (pv 5)) po_none (po_some pe_int)) pa_nil)))))
          (pss_one (ps_set (i := 3) sc_law_names.nd rfl (.inl rfl) (pe_ix ix_list (pv 6) (pe_c C_law_next hr (by decide) rfl (pa_cons (pv 0) (pa_cons pe_int pa_nil))) (fun _ _ => rfl))))))))
          pss_nil)
        (pss_cons (ps_set (i := 7) sc_law_names.nd rfl (.inl rfl) pe_int)
        (pss_cut (ps_while PassesOwn.never (pt_cmpR op_in_seq (pv 3) (pv 2) rfl)
          (pss_cons (ps_set (i := 8) sc_law_names.nd rfl (.inl rfl) (pe_ix ix_str pe_str (pe_op op_fdiv (pv 7) pe_int) (fun _ _ => rfl)))
          (pss_cons (ps_set (i := 3) sc_law_names.nd rfl (.inl rfl) (pe_op op_add_str (pe_op op_add_str (pe_slice C8.sl_txt (pe_op op_add_str (pv 3) pe_str) po_none (po_some pe_int)) (pv 8)) (pe_ix ix_str pe_str (pe_op op_mod (pv 7) pe_int) (fun _ _ => rfl))))
          (pss_one (ps_set (i := 7) sc_law_names.nd rfl (.inl rfl) (pe_op op_add (pv 7) pe_int))))))
        (pss_one (ps_expr (pe_bm PySem.F.plainAttrs_list PySem.F.slot_list_append PySem.F.type_list_append mt_append (pv 2) (pa_cons (pv 3) pa_nil)))))))))
      (pss_one (ps_ret (pv 2))))), ?_⟩
    refine ⟨Nat.zero_le _, fun p np => ?_⟩
    have npd : p ≠ d := hD.nd np
    have npc : p ≠ c := hD.nc np
    -- the loop
    refine ⟨fun σ' H' => ∃ (ls : List (List Nat)) (x3 x4 x5 x6 x7 x8 : Option V), σ' = [some (.ref d), some (.int many), some (.ref p), x3, x4, x5, x6, x7, x8] ∧ NamesAt H' p ls ∧ ls.length = many ∧ ls.Nodup ∧ (∀ l ∈ ls, NameOk l) ∧ SmX d H H' ∧ DeckAt H' d c (n + 600), ?_, fun σ' H' hM => ?_⟩
    · refine ⟨fun m σ' H' => ∃ (ls : List (List Nat)) (x3 x4 x5 x6 x7 x8 : Option V), σ' = [some (.ref d), some (.int many), some (.ref p), x3, x4, x5, x6, x7, x8] ∧ NamesAt H' p ls ∧ ls.length + m = many ∧ ls.Nodup ∧ (∀ l ∈ ls, NameOk l) ∧ SmX d H H' ∧ DeckAt H' d c (n + 16 * ls.length), ⟨many, [], none, none, none, none, none, none, rfl, upd_same, by simp, List.nodup_nil, by simp, (SmX.refl H).new np, hD.new np⟩, ?_⟩
      rintro m σ1 H1 ⟨ls, x3, x4, x5, x6, x7, x8, rfl, hN, hl, nd, ok, SM, DD⟩
      refine ⟨_, rfl, p, _, rfl, .inl (SqL.of hN), _, rfl, _, _, rfl, rfl, _, rfl, ?_⟩
      rw [List.length_map, List.length_map]
      refine ite2 (fun e => ?_) (fun e => ?_)
      · have lt : ls.length < many := by simpa using of_decide_eq_true e
        refine ⟨fun σ' H' => ∃ (ls' : List (List Nat)) (x3 x4 x5 x6 x7 x8 : Option V), σ' = [some (.ref d), some (.int many), some (.ref p), x3, x4, x5, x6, x7, x8] ∧ NamesAt H' p ls' ∧ ls'.length = ls.length + 1 ∧ ls'.Nodup ∧ (∀ l ∈ ls', NameOk l) ∧ SmX d H H' ∧ DeckAt H' d c (n + 16 * ls'.length), fun σ' H' hM => ?_, ?_⟩
        · obtain ⟨ls', y3, y4, y5, y6, y7, y8, e1, e2, e3, e4, e5, e6, e7⟩ := hM
          exact ⟨m - 1, by omega, ls', y3, y4, y5, y6, y7, y8, e1, e2, by omega, e4, e5, e6, e7⟩
        -- name = _law_name(deck)
        refine ⟨_, rfl, d, c, n + 16 * ls.length, rfl, DD, by omega, fun H2 l hlok S2 D2 => ?_⟩
        have hN2 : NamesAt H2 p ls := S2 p _ npd hN
        have SM2 : SmX d H H2 := SM.trans S2
        -- the if
        refine ⟨fun σ' H' => ∃ (l : List Nat) (x4 x5 x6 : Option V), σ' = [some (.ref d), some (.int many), some (.ref p), some (.str (S l)), x4, x5, x6, x7, x8] ∧ NameOk l ∧ NamesAt H' p ls ∧ SmX d H H' ∧ DeckAt H' d c (n + 16 * ls.length + 16), ?_, fun σ' H' hM => ?_⟩
        · refine ⟨_, rfl, Nat.zero_le _, fun p2 np2 => ?_⟩
          have hN2' : NamesAt (upd H2 p2 (.lst [])) p ls := by
            unfold NamesAt
            rw [upd_ne (ne_of_none hN2 np2)]
            exact hN2
          have D2' := D2.new (o := .lst []) np2
          have SM2' : SmX d H (upd H2 p2 (.lst [])) := SM2.new np2
          refine ⟨_, _, .lst (SqL.of hN2') (dp_strs _ _ ls), .lst (SqL.of upd_same) .nil, shaped_strs ok, rfl, _, rfl, ?_⟩
          refine ite2 (fun e1 => ?_) (fun e1 => ?_)
          · have pos : 0 < ls.length := by
              cases ls with
              | nil => exact absurd e1 (by decide)
              | cons a r => exact Nat.succ_pos _
            refine ⟨_, rfl, d, c, _, 3, rfl, D2', by omega, by decide, by decide, fun H3 r r0 r1 S3 D3 => ?_⟩
            have hN3 : NamesAt H3 p ls := S3 p _ npd hN2'
            have SM3 : SmX d H H3 := SM2'.trans S3
            refine ⟨rfl, _, rfl, ite2 (fun e2 => ?_) (fun e2 => ?_)⟩
            · -- name = found[..]
              refine ⟨_, rfl, _, rfl, _, rfl, p, _, rfl, .inl (SqL.of hN3), d, c, _, _, rfl, D3, by omega, ?_, ?_, fun H4 r4 r40 r41 S4 D4 => ?_⟩
              · rw [List.length_map, List.length_map]
                omega
              · rw [List.length_map, List.length_map]
                omega
              have hN4 : NamesAt H4 p ls := S4 p _ npd hN3
              obtain ⟨v, hv, mv⟩ := atI_in r40 r41
              obtain ⟨l2, hl2, rfl⟩ := strs_at mv
              have ok2 := ok l2 hl2
              refine ⟨p, _, r4, _, rfl, rfl, SqL.of hN4, hv, ?_⟩
              -- at
              refine ⟨_, rfl, _, rfl, .str (S l2), l2.length, rfl, ⟨by rw [SX.S_len]; exact sz_le (by have := ok2.2.1; omega), (SX.S_len _).symm⟩, d, c, _, _, rfl, D4, by omega, by have := ok2.1; omega, by have := ok2.2.1; omega, fun H5 r5 r50 r51 S5 D5 => ?_⟩
              -- sign
              refine ⟨_, rfl, d, c, _, 26, rfl, D5, by omega, by decide, by decide, fun H6 r6 r60 r61 S6 D6 => ?_⟩
              obtain ⟨sg, hsg, msg⟩ := atI_in (xs := ("abcdefghijklmnopqrstuvwxyz" : Str).cps.toList) r60 (by
                have : ("abcdefghijklmnopqrstuvwxyz" : Str).cps.toList.length = 26 := by decide +kernel
                omega)
              have oks := abc_ok sg msg
              refine ⟨("abcdefghijklmnopqrstuvwxyz" : Str), r6, sg, rfl, rfl, by decide, hsg, ?_⟩
              have hN6 : NamesAt H6 p ls := S6 p _ npd (S5 p _ npd hN4)
              have SM6 : SmX d H H6 := ((SM3.trans S4).trans S5).trans S6
              have h8 := ok2.2.1
              have h1 := ok2.1
              -- some
              refine ⟨_, rfl, _, rfl, r5, rfl, S l2, rfl, by rw [SX.S_len]; exact sz_le (by omega), _, rfl, S (l2.take r5.toNat), S [sg], congrArg V.str (SX.slice_to r50), rfl, by rw [SX.S_len, SX.S_len, List.length_take, List.length_singleton]; exact sz_le (by omega),
                _, rfl, _, rfl, r5, 1, rfl, rfl, r5 + 1, rfl, S l2, rfl, by rw [SX.S_len]; exact sz_le (by omega), S (l2.take r5.toNat ++ [sg]), S (l2.drop (r5 + 1).toNat), congrArg V.str (SX.S_cat _ _), congrArg V.str (SX.slice_from (by omega)), by rw [SX.S_len, SX.S_len, List.length_append, List.length_take, List.length_drop, List.length_singleton]; exact sz_le (by omega),
                _, rfl, _, rfl, r5, 1, rfl, rfl, r5 + 1, rfl, S l2, rfl, by rw [SX.S_len]; exact sz_le (by omega), 
                _, rfl, _, rfl, S l2, S [sg], rfl, rfl, by rw [SX.S_len, SX.S_len, List.length_singleton]; exact sz_le (by omega), 8, rfl, S (l2 ++ [sg]), congrArg V.str (SX.S_cat _ _), by rw [SX.S_len, List.length_append, List.length_singleton]; exact sz_le (by omega), by show 3 ≤ sizeLine; decide, fun p7 np7 => ?_⟩
              have np7d := D6.nd np7
              have D6' := D6.new (o := .lst [V.str (S (l2.take r5.toNat ++ [sg]) ++ S (l2.drop (r5 + 1).toNat)), .str (Txt.slice (S l2) none (some (r5 + 1))), .str (Txt.slice (S (l2 ++ [sg])) none (some 8))]) np7
              refine ⟨_, rfl, _, rfl, d, c, _, 3, rfl, D6', by omega, by decide, by decide, fun H7 r7 r70 r71 S7 D7 => ?_⟩
              have h7 := S7 p7 _ np7d upd_same
              have SM7 : SmX d H H7 := (SM6.new np7).trans S7
              have hN7 : NamesAt H7 p ls := S7 p _ npd (by rw [upd_ne (ne_of_none hN6 np7)]; exact hN6)
              obtain ⟨v, hv, mv⟩ := atI_in (xs := [V.str (S (l2.take r5.toNat ++ [sg]) ++ S (l2.drop (r5 + 1).toNat)), .str (Txt.slice (S l2) none (some (r5 + 1))), .str (Txt.slice (S (l2 ++ [sg])) none (some 8))]) r70 (by simpa using r71)
              have hs : ∃ l3 : List Nat, v = .str (S l3) ∧ NameOk l3 := by
                simp only [List.mem_cons, List.not_mem_nil, or_false] at mv
                rcases mv with e | e | e
                · refine ⟨l2.take r5.toNat ++ [sg] ++ l2.drop (r5 + 1).toNat, by rw [e, SX.S_cat], ?_, ?_, fun x hx => ?_⟩
                  · simp
                    omega
                  · simp
                    omega
                  · rcases List.mem_append.mp hx with z | z
                    · rcases List.mem_append.mp z with z | z
                      · exact ok2.2.2 x (List.mem_of_mem_take z)
                      · rw [List.mem_singleton.mp z]
                        exact oks
                    · exact ok2.2.2 x (List.mem_of_mem_drop z)
                · refine ⟨l2.take (r5 + 1).toNat, by rw [e, SX.slice_to (by omega)], ?_, ?_, fun x hx => ok2.2.2 x (List.mem_of_mem_take hx)⟩
                  · rw [List.length_take]
                    omega
                  · rw [List.length_take]
                    omega
                · refine ⟨(l2 ++ [sg]).take 8, by rw [e, SX.slice_to (by decide)]; rfl, ?_, ?_, fun x hx => ?_⟩
                  · rw [List.length_take, List.length_append, List.length_singleton]
                    omega
                  · rw [List.length_take]
                    omega
                  · rcases List.mem_append.mp (List.mem_of_mem_take hx) with z | z
                    · exact ok2.2.2 x z
                    · rw [List.mem_singleton.mp z]
                      exact oks
              obtain ⟨l3, rfl, ok3⟩ := hs
              refine ⟨p7, _, r7, _, rfl, rfl, SqL.of h7, hv, ?_⟩
              exact ⟨l3, _, _, _, rfl, ok3, hN7, SM7, D7⟩
            · exact ⟨l, _, _, _, rfl, hlok, hN3, SM3, D3.mono (by omega)⟩
          · exact ⟨l, _, _, _, rfl, hlok, hN2', SM2', D2'.mono (by omega)⟩
        · -- the second loop
          obtain ⟨l, y4, y5, y6, rfl, lok, hN3, SM3, D3⟩ := hM
          refine ⟨fun σ' H'' => ∃ (l : List Nat) (x7 x8 : Option V), σ' = [some (.ref d), some (.int many), some (.ref p), some (.str (S l)), y4, y5, y6, x7, x8] ∧ NameOk l ∧ l ∉ ls ∧ H'' = H', ?_, fun σ' H'' hM => ?_⟩
          · refine ⟨fun m σ' H'' => ∃ (l : List Nat) (t : Nat) (x8 : Option V), σ' = [some (.ref d), some (.int many), some (.ref p), some (.str (S l)), y4, y5, y6, some (.int t), x8] ∧ H'' = H' ∧ Tried ls t l ∧ t + m = 100, ⟨100, l, 0, x8, rfl, rfl, ⟨lok, fun z => absurd rfl z, fun j hj => absurd hj (by omega)⟩, rfl⟩, ?_⟩
            rintro m' σ2 H4 ⟨l, t, x8, rfl, rfl, tr, em⟩
            refine ⟨_, rfl, _, rfl, p, _, rfl, .inl (SqL.of hN3), rfl, flat_strs ls, _, rfl, ?_⟩
            rw [inV_strs]
            refine ite2 (fun e2 => ?_) (fun e2 => ?_)
            · have hin : l ∈ ls := of_decide_eq_true e2
              have tl := tr.lt hin
              have nx := tr.next hin (by omega)
              refine ⟨fun σ' H'' => ∃ (l : List Nat) (t' : Nat) (x8 : Option V), σ' = [some (.ref d), some (.int many), some (.ref p), some (.str (S l)), y4, y5, y6, some (.int t'), x8] ∧ H'' = H4 ∧ Tried ls t' l ∧ t' = t + 1, ?_, ?_⟩
              · rintro σ' H'' ⟨l', t', x8', e1, e2', e3, e4⟩
                exact ⟨m' - 1, by omega, l', t', x8', e1, e2', e3, by omega⟩
              have et : (t : Int) / 10 = (((t / 10 : Nat)) : Int) := by omega
              have em' : (t : Int) % 10 = (((t % 10 : Nat)) : Int) := by omega
              have a1 : atI ("abcdefghij" : Str).cps.toList ((t : Int) / 10) = some (97 + t / 10) := by
                rw [et]
                exact ten_at ⟨t / 10, by omega⟩
              have a2 : atI ("abcdefghij" : Str).cps.toList ((t : Int) % 10) = some (97 + t % 10) := by
                rw [em']
                exact ten_at ⟨t % 10, by omega⟩
              have l8 := tr.ok.2.1
              have s6 := six_len l
              refine ⟨_, rfl, _, _, rfl, rfl, ⟨by decide, by decide⟩, ("abcdefghij" : Str), (t : Int) / 10, _, rfl, rfl, by decide, a1, ?_⟩
              refine ⟨_, rfl, S l, S (List.replicate 8 97), rfl, congrArg V.str a8_is, by rw [SX.S_len, SX.S_len, List.length_replicate]; exact sz_le (by omega), 6, rfl, S (l ++ List.replicate 8 97), congrArg V.str (SX.S_cat _ _), by rw [SX.S_len, List.length_append, List.length_replicate]; exact sz_le (by omega),
                _, rfl, S (six l), S [97 + t / 10], congrArg V.str (SX.slice_to (by decide)), rfl, by rw [SX.S_len, SX.S_len, s6]; exact sz_le (by simp), _, rfl, _, _, rfl, rfl, (by show (0 : Int) < _; decide), ("abcdefghij" : Str), (t : Int) % 10, _, rfl, rfl, by decide, a2,
                S (six l ++ [97 + t / 10]), S [97 + t % 10], congrArg V.str (SX.S_cat _ _), rfl, by rw [SX.S_len, SX.S_len, List.length_append, s6]; exact sz_le (by simp), ?_⟩
              refine ⟨_, rfl, _, _, rfl, rfl, ?_⟩
              refine ⟨cand (six l) t, t + 1, some (.str (S [97 + t / 10])), ?_, rfl, nx, rfl⟩
              show [some (V.ref d), some (V.int many), some (V.ref p), some (V.str (S (six l ++ [97 + t / 10]) ++ S [97 + t % 10])), y4, y5, y6, some (V.int ((t : Int) + 1)), some (V.str (S [97 + t / 10]))] = _
              rw [SX.S_cat]
              rfl
            · exact ⟨l, _, _, rfl, tr.ok, fun z => e2 (decide_eq_true z), rfl⟩
          · obtain ⟨l, x7, x8, rfl, lok, nin, rfl⟩ := hM
            refine ⟨_, rfl, .inl ⟨rfl, _, SqL.of hN3⟩, _, rfl, p, _, _, rfl, rfl, hN3, ?_, ?_⟩
            · rw [List.length_map, List.length_map]
              exact sz_lt (by omega)
            refine ⟨ls ++ [l], _, _, _, _, _, _, rfl, ?_, by simp, nd_snoc' nd nin, fun x hx => ?_, SM3.put np, ?_⟩
            · unfold NamesAt
              rw [upd_same, List.map_append, List.map_append]
              rfl
            · rcases List.mem_append.mp hx with z | z
              · exact ok x z
              · rw [List.mem_singleton.mp z]
                exact lok
            · exact (D3.put npd npc).mono (by rw [List.length_append, List.length_singleton]; omega)
      · have ge : many ≤ ls.length := by
          have := of_decide_eq_false (by simpa using e : decide ((ls.length : Int) < many) = false)
          omega
        exact ⟨ls, _, _, _, _, _, _, rfl, hN, by omega, nd, ok, SM, DD.mono (by omega)⟩
    · obtain ⟨ls, x3, x4, x5, x6, x7, x8, rfl, hN, hl, nd, ok, SM, DD⟩ := hM
      exact ⟨_, rfl, q H' p ls np npd npc hN hl nd ok SM DD⟩
end
end Far

namespace Far
open PySem PySem.Spec PyProof.Rows L2
open SX (S)
abbrev Nm := List Nat
abbrev Tie := Nm × Nm × Int
/-- places in an order in which each has one tie to those ahead; the ties in that order -/
inductive Grown : List Nm → List Tie → Prop
  | one (a : Nm) : Grown [a] []
  | leaf {os : List Nm} {es : List Tie} {a b : Nm} {k : Int} {e : Tie} : Grown os es → a ∈ os → b ∉ os → e = (a, b, k) ∨ e = (b, a, k) → 1 ≤ k → k ≤ 1000000 → Grown (os ++ [b]) (es ++ [e])
def IsTree (pl : List Nm) (ts : List Tie) : Prop := ∃ os es, Grown os es ∧ pl.Perm os ∧ ts.Perm es
theorem Grown.nodup {os : List Nm} {es : List Tie} (h : Grown os es) : os.Nodup := by
  induction h with
  | one a => simp
  | leaf _ _ hb _ _ _ ih => exact nd_snoc' ih hb
theorem Grown.len {os : List Nm} {es : List Tie} (h : Grown os es) : os.length = es.length + 1 := by
  induction h with
  | one a => rfl
  | leaf _ _ _ _ _ _ ih => rw [List.length_append, List.length_append, ih]; rfl
theorem Grown.ties {os : List Nm} {es : List Tie} (h : Grown os es) : ∀ e ∈ es, e.1 ∈ os ∧ e.2.1 ∈ os ∧ 1 ≤ e.2.2 ∧ e.2.2 ≤ 1000000 := by
  induction h with
  | one a => simp
  | leaf h1 ha hb he k1 k2 ih =>
    intro e hm
    rcases List.mem_append.mp hm with z | z
    · obtain ⟨a1, a2, a3⟩ := ih e z
      exact ⟨List.mem_append_left _ a1, List.mem_append_left _ a2, a3⟩
    · rw [List.mem_singleton.mp z]
      rcases he with e | e <;> rw [e] <;> simp [ha, k1, k2]
theorem IsTree.nodup {pl : List Nm} {ts : List Tie} (h : IsTree pl ts) : pl.Nodup := by
  obtain ⟨os, es, g, p, _⟩ := h
  exact p.nodup_iff.mpr g.nodup
theorem IsTree.len {pl : List Nm} {ts : List Tie} (h : IsTree pl ts) : pl.length = ts.length + 1 := by
  obtain ⟨os, es, g, p, q⟩ := h
  rw [p.length_eq, q.length_eq]
  exact g.len
theorem IsTree.ties {pl : List Nm} {ts : List Tie} (h : IsTree pl ts) : ∀ e ∈ ts, e.1 ∈ pl ∧ e.2.1 ∈ pl ∧ 1 ≤ e.2.2 ∧ e.2.2 ≤ 1000000 := by
  obtain ⟨os, es, g, p, q⟩ := h
  intro e he
  obtain ⟨a, b, c⟩ := g.ties e (q.mem_iff.mp he)
  exact ⟨p.mem_iff.mpr a, p.mem_iff.mpr b, c⟩

/-! ### as data -/
def tieD (t : Tie) : PyData := .tuple [.str (S t.1), .str (S t.2.1), .int t.2.2]
def strD (l : Nm) : PyData := .str (S l)
def treeD (pl : List Nm) (ts : List Tie) : PyData := .tuple [.tuple (pl.map strD), .tuple (ts.map tieD)]
/-- tuples stand as they stood -/
structure TK (H H' : Hp) : Prop where
  tup : ∀ b xs, H b = some (.tup xs) → H' b = some (.tup xs)
  frz : ∀ b o xs, H b = some (.frz o (.tup xs)) → H' b = some (.frz o (.tup xs))
theorem TK.refl (H : Hp) : TK H H := ⟨fun _ _ h => h, fun _ _ _ h => h⟩
theorem TK.trans {H H1 H2 : Hp} (a : TK H H1) (b : TK H1 H2) : TK H H2 := ⟨fun x o h => b.tup x o (a.tup x o h), fun x o u h => b.frz x o u (a.frz x o u h)⟩
theorem TK.of {H H' : Hp} (a : Same H H') : TK H H' := ⟨fun x _ h => a x _ h, fun x _ _ h => a x _ h⟩
theorem TK.new {H : Hp} {p : Addr} {o : HO} (n : H p = none) : TK H (upd H p o) :=
  ⟨fun b xs h => by rw [upd_ne (ne_of_none h n)]; exact h, fun b u xs h => by rw [upd_ne (ne_of_none h n)]; exact h⟩
theorem TK.mut {H : Hp} {p : Addr} {o : HO} {xs : List V} (n : H p = some (.lst xs)) : TK H (upd H p o) :=
  ⟨fun b ys h => by rw [upd_ne (ne_of h n (by intro z; cases z))]; exact h, fun b u ys h => by rw [upd_ne (ne_of h n (by intro z; cases z))]; exact h⟩
theorem SmX.tk {d : Addr} {H H' : Hp} {xs : List V} (s : SmX d H H') (n : H d = some (.lst xs)) : TK H H' :=
  ⟨fun b ys h => s b _ (ne_of h n (by intro z; cases z)) h, fun b u ys h => s b _ (ne_of h n (by intro z; cases z)) h⟩
theorem DeckAt.lst {H : Hp} {d c : Addr} {n : Nat} (h : DeckAt H d c n) : ∃ xs, H d = some (.lst xs) := by
  obtain ⟨_, _, _, _, _, h1, _⟩ := h
  exact ⟨_, h1⟩
theorem DeckAt.tk {H H' : Hp} {d c : Addr} {n : Nat} (h : DeckAt H d c n) (s : SmX d H H') : TK H H' := by
  obtain ⟨xs, e⟩ := h.lst
  exact s.tk e
mutual
/-- a value that never changes: none, truths, numbers, texts, tuples of such -/
inductive Dt (H : Hp) : V → PyData → Prop
  | non : Dt H .non .none
  | bl (b : Bool) : Dt H (.bl b) (.bool b)
  | int (i : Int) : Dt H (.int i) (.int i)
  | str (x : Str) : Dt H (.str x) (.str x)
  | tup {a : Addr} {xs : List V} {ds : List PyData} : H a = some (.tup xs) → DtAll H xs ds → Dt H (.ref a) (.tuple ds)
  /-- a tuple of texts that is known to have no dict of its own -/
  | tupZ {a : Addr} {pl : List Nm} {ds : List PyData} {o : Obj} : ds = pl.map strD → pl ≠ [] → o.dict = none → H a = some (.frz o (.tup ((pl.map S).map V.str))) → Dt H (.ref a) (.tuple ds)
inductive DtAll (H : Hp) : List V → List PyData → Prop
  | nil : DtAll H [] []
  | cons {v : V} {vs : List V} {d : PyData} {ds : List PyData} : Dt H v d → DtAll H vs ds → DtAll H (v :: vs) (d :: ds)
end
mutual
theorem Dt.keep {H H' : Hp} (t : TK H H') : ∀ {v : V} {d : PyData}, Dt H v d → Dt H' v d
  | _, _, .non => .non
  | _, _, .bl b => .bl b
  | _, _, .int i => .int i
  | _, _, .str x => .str x
  | _, _, .tup a b => .tup (t.tup _ _ a) (DtAll.keep t b)
  | _, _, .tupZ e n d a => .tupZ e n d (t.frz _ _ _ a)
theorem DtAll.keep {H H' : Hp} (t : TK H H') : ∀ {vs : List V} {ds : List PyData}, DtAll H vs ds → DtAll H' vs ds
  | _, _, .nil => .nil
  | _, _, .cons a b => .cons (Dt.keep t a) (DtAll.keep t b)
end
theorem dpa_strs {K : PySem.W.Frag} (H : Hp) : ∀ ls : List Nm, DpAll K H ((ls.map S).map V.str) (ls.map strD)
  | [] => .nil
  | _ :: r => .cons (.str _) (dpa_strs H r)
mutual
theorem Dt.dp {K : PySem.W.Frag} {H : Hp} : ∀ {v : V} {d : PyData}, Dt H v d → Dp K H v d
  | _, _, .non => .non
  | _, _, .bl b => .bl b
  | _, _, .int i => .int i
  | _, _, .str x => .str x
  | _, _, .tup a b => .tup (.inl (.inl a)) (DtAll.dp b)
  | _, _, .tupZ (pl := pl) (o := o) e _ _ a => e ▸ .tup (.inl (.inr ⟨o, a⟩)) (dpa_strs H pl)
theorem DtAll.dp {K : PySem.W.Frag} {H : Hp} : ∀ {vs : List V} {ds : List PyData}, DtAll H vs ds → DpAll K H vs ds
  | _, _, .nil => .nil
  | _, _, .cons a b => .cons (Dt.dp a) (DtAll.dp b)
end
theorem DtAll.len {H : Hp} : ∀ {vs : List V} {ds : List PyData}, DtAll H vs ds → vs.length = ds.length
  | _, _, .nil => rfl
  | _, _, .cons _ t => congrArg (· + 1) (DtAll.len t)
theorem DtAll.app {H : Hp} : ∀ {vs ws : List V} {ds es : List PyData}, DtAll H vs ds → DtAll H ws es → DtAll H (vs ++ ws) (ds ++ es)
  | _, _, _, _, .nil, h => h
  | _, _, _, _, .cons a t, h => .cons a (DtAll.app t h)
theorem DtAll.get {H : Hp} : ∀ {vs : List V} {ds : List PyData} {i : Nat} {v : V}, DtAll H vs ds → vs[i]? = some v → ∃ d, ds[i]? = some d ∧ Dt H v d
  | _, _, _, _, .nil, e => by simp at e
  | _, _, 0, _, .cons a _, e => by
    simp at e
    subst e
    exact ⟨_, rfl, a⟩
  | _, _, i + 1, _, .cons _ t, e => by
    obtain ⟨d, h1, h2⟩ := DtAll.get (i := i) t (by simpa using e)
    exact ⟨d, by simpa using h1, h2⟩
theorem DtAll.del {H : Hp} : ∀ {vs : List V} {ds : List PyData} (i : Nat), DtAll H vs ds → DtAll H (vs.eraseIdx i) (ds.eraseIdx i)
  | _, _, _, .nil => .nil
  | _, _, 0, .cons _ t => t
  | _, _, i + 1, .cons a t => .cons a (DtAll.del i t)
theorem DtAll.strs {H : Hp} : ∀ {ls : List Nm} {vs : List V}, DtAll H vs (ls.map strD) → vs = (ls.map S).map V.str
  | [], _, .nil => rfl
  | l :: r, _, .cons (.str _) t => by
    rw [DtAll.strs (ls := r) t]
    rfl
theorem dt_strs (H : Hp) : ∀ ls : List Nm, DtAll H ((ls.map S).map V.str) (ls.map strD)
  | [] => .nil
  | _ :: r => .cons (.str _) (dt_strs H r)
theorem perm_erase {α : Type} : ∀ {l : List α} {k : Nat} {x : α}, l[k]? = some x → (x :: l.eraseIdx k).Perm l
  | [], _, _, e => by simp at e
  | a :: r, 0, x, e => by
    simp at e
    subst e
    exact .refl _
  | a :: r, k + 1, x, e => by
    have ih := perm_erase (l := r) (k := k) (x := x) (by simpa using e)
    show (x :: a :: r.eraseIdx k).Perm (a :: r)
    exact (List.Perm.swap a x _).trans (ih.cons a)
theorem perm_pick {α : Type} {l1 l2 m : List α} {x : α} {k : Nat} (h : (l1 ++ l2).Perm m) (e : l2[k]? = some x) : ((l1 ++ [x]) ++ l2.eraseIdx k).Perm m := by
  rw [List.append_assoc]
  exact ((List.Perm.refl l1).append (perm_erase e)).trans h
theorem map_erase {α β : Type} (f : α → β) : ∀ (l : List α) (k : Nat), (l.map f).eraseIdx k = (l.eraseIdx k).map f
  | [], _ => rfl
  | _ :: _, 0 => rfl
  | a :: r, k + 1 => congrArg (f a :: ·) (map_erase f r k)
/-- a tuple of texts: of this heap, or one known through and through -/
def TupAt (H : Hp) (a : Addr) (xs : List V) : Prop := H a = some (.tup xs) ∨ ∃ o : Obj, o.dict = none ∧ H a = some (.frz o (.tup xs))
theorem TupAt.sq {K : PySem.W.Frag} {H : Hp} {a : Addr} {xs : List V} (h : TupAt H a xs) : SqT K H a xs := h.elim (fun h => .inl (.inl h)) fun ⟨o, _, h⟩ => .inl (.inr ⟨o, h⟩)
theorem TupAt.ne {H : Hp} {a p : Addr} {xs : List V} (h : TupAt H a xs) (n : H p = none) : a ≠ p := h.elim (fun h => ne_of_none h n) fun ⟨_, _, h⟩ => ne_of_none h n
theorem TupAt.same {H H' : Hp} {a : Addr} {xs : List V} (h : TupAt H a xs) (s : Same H H') : TupAt H' a xs := h.elim (fun h => .inl (s _ _ h)) fun ⟨o, d, h⟩ => .inr ⟨o, d, s _ _ h⟩
theorem TupAt.upd {H : Hp} {a p : Addr} {xs : List V} {o : HO} (h : TupAt H a xs) (n : H p = none) : TupAt (L2.upd H p o) a xs := h.elim (fun q => .inl (by rw [upd_ne (ne_of_none q n)]; exact q)) fun ⟨u, d, q⟩ => .inr ⟨u, d, by rw [upd_ne (ne_of_none q n)]; exact q⟩
theorem TupAt.updN {H : Hp} {a p : Addr} {xs : List V} {o : HO} (h : TupAt H a xs) (n : a ≠ p) : TupAt (L2.upd H p o) a xs := h.elim (fun q => .inl (by rw [upd_ne n]; exact q)) fun ⟨u, d, q⟩ => .inr ⟨u, d, by rw [upd_ne n]; exact q⟩
end Far

namespace Far
open PySem PySem.Spec PyProof.Rows L2
section
variable {X : Cx} {a o e : Expr} {ta to te : TE}
/-- tuple(xs) of a list, the new tuple known through and through -/
def tTupZ (K : PySem.W.Frag) (ta : TE) : TE := fun σ H Q => ta σ H fun x H1 => ∃ (l : Addr) (xs : List V), x = .ref l ∧ SqL K H1 l xs ∧ ∀ (p : Addr) (o : Obj), H1 p = none → o.dict = none → Q (.ref p) (upd H1 p (.frz o (.tup xs)))
theorem pe_tupleZ {p pos : Pos} (hg : Gl X "tuple") (hm : X.mg "tuple" = none) (ha : PE X a ta) (na : starEach [a] X.env = (false, eval a X.env) :: starEach [] X.env := by rfl) : PE X (.Call (.Name "tuple" p) [a] [] pos) (tTupZ X.K ta) := by
  refine ⟨fun pins s σ H Q I h => ?_⟩
  refine Call_ (ld_blt I hg hm bt_tuple (PyProof.Rows.callWith_type1 (one_arg ha I h (fun v s2 x H2 I2 r q => ?_) na) na))
  obtain ⟨l, xs, rfl, hq, q⟩ := q
  cases r
  obtain ⟨its, rv, pl, hz⟩ := I2.list hq
  refine call_tuple_list pl.isList (fun h' k => ?_) (by rw [List.size_toArray, ← rv.length]; exact hz)
  have I3 : Inv X pins σ H2 { s2 with heap := h' } := I2.kept (t' := s2.toks) k
  have new : (h'.push { cls := .type "tuple", data := .seq its.toArray }).get? h'.objs.size = some ({ cls := .type "tuple", data := .seq its.toArray } : Obj) := Heap.get?_push_size _ rfl
  exact ⟨.ref h'.objs.size, _, I3.laid (t' := s2.toks) (o := .frz { cls := .type "tuple", data := .seq its.toArray } (.tup xs)) (fun b o e => Heap.get?_push_of_some _ e) (Nat.le_refl _)
    (show ObjOk X.prog X.w _ _ _ (.frz _ (.tup xs)) from ⟨new, hz, its, rv, IsTup.new _ _⟩), rfl, q _ _ (I3.hok.fresh (Nat.le_refl _)) rfl⟩
/-- t.index(x), the first place, of a tuple of texts known through and through -/
def tIxZ (to te : TE) : TE := fun σ H Q => to σ H fun x H1 => ∃ (p : Addr) (ys : List Str) (u : Obj), x = .ref p ∧ u.dict = none ∧ H1 p = some (.frz u (.tup (ys.map V.str))) ∧ te σ H1 fun y H2 => H2 p = H1 p ∧ ∃ (z : Str) (j : Nat), y = .str z ∧ ys[j]? = some z ∧ (∀ m, m < j → ys[m]? ≠ some z) ∧ Q (.int (j : Nat)) H2
theorem pe_ixZ {apos cpos : Pos} (ho : PE X o to) (he : PE X e te) (hbase : attributeBase o "index" X.env (eval o X.env) = eval o X.env := by rfl)
    (hfew : ((backTo cpos (starEach [e] X.env)).all (fun x => !x.1) && (backToKw cpos (keywordEach [] X.env)).all (fun x => x.1.isSome)
      && decide ([e].length + ([] : List Keyword).length + (if ([] : List Keyword).isEmpty then 0 else 1) < 30)) = true := by rfl)
    (hline : (apos.endLine == cpos.line) = true := by rfl) (na : starEach [e] X.env = (false, eval e X.env) :: starEach [] X.env := by rfl) :
    PE X (.Call (.Attribute o "index" apos) [e] [] cpos) (tIxZ to te) := by
  refine ⟨fun pins s σ H Q I h => ?_⟩
  refine wpAny_Call_method_late hbase hfew hline rfl (thn (ho.run pins s σ H _ I h) fun v s1 ⟨x, H1, I1, r1, q1⟩ => ?_)
  obtain ⟨p, ys, u, rfl, hd, hp, q1⟩ := q1
  cases r1
  have fz : ObjOk X.prog X.w H1 s1.heap p (.frz u (.tup (ys.map V.str))) := I1.hok p _ hp
  obtain ⟨hu, hz, its, rv, it⟩ := fz
  refine ⟨"tuple", "tuple.index", PySem.F.plainAttrs_tuple, PySem.F.slot_tuple_index, PySem.F.type_tuple_index, it.typeIs, fun c e => by cases e; exact ⟨u, hu, hd⟩, ?_⟩
  have hA : wpAny (model X.prog X.w) X.A (spliced (backTo cpos (starEach [e] X.env))) (fun us s2 => wpAny (model X.prog X.w) X.A (call (.builtin "tuple.index") (.ref p :: us)) (EP X pins σ Q) X.xe s2) X.xe s1 :=
    one_arg he I1 q1 (fun y s2 x H2 I2 r2 q2 => by
      obtain ⟨same, z, j, rfl, hj, hno, q⟩ := q2
      exact mt_tup_index pins s2 σ H2 (.ref p) [.str z] (.ref p) [y] Q I2 rfl (.cons r2 .nil) ⟨p, ys, z, j, rfl, rfl, .inl (.inr ⟨u, same.trans hp⟩), hj, hno, q⟩) na
  rw [na] at hA ⊢
  exact Calls.callWith_builtin (by rfl) (Calls.evalArgs_plain hA)
end
end Far

namespace Far
open PySem PySem.Spec PyProof.Rows L2
open C8 (pss_cut tCut)
open SX (S)
abbrev s_law_tree : Stmt := topS 18
abbrev N_law_tree : List Str := ["deck", "most", "many", "names", "way", "long", "ties", "k", "some", "at", "length", "ends", "left", "places", "mixed"]
theorem sc_law_tree : FnScope N_law_tree ["deck", "most"] (defScope s_law_tree) := ⟨rfl, rfl, rfl, by decide +kernel, rfl, by decide +kernel, by decide +kernel⟩
section
variable {P : Program} {w : World} {K : PySem.W.Frag} {mg : Str → Option Value} {base : Heap}
/-- the tree's places stand as a tuple that is known through and through -/
def PlZ (H : Hp) (v : V) (pl : List Nm) : Prop := ∃ (t a b : Addr) (o : Obj), v = .ref t ∧ H t = some (.tup [.ref a, .ref b]) ∧ o.dict = none ∧ H a = some (.frz o (.tup ((pl.map S).map V.str)))
theorem PlZ.same {H H' : Hp} {v : V} {pl : List Nm} (h : PlZ H v pl) (s : Same H H') : PlZ H' v pl := by
  obtain ⟨t, a, b, o, e, h1, h2, h3⟩ := h
  exact ⟨t, a, b, o, e, s _ _ h1, h2, s _ _ h3⟩
theorem PlZ.keep {H H' : Hp} {v : V} {pl : List Nm} (h : PlZ H v pl) (s : TK H H') : PlZ H' v pl := by
  obtain ⟨t, a, b, o, e, h1, h2, h3⟩ := h
  exact ⟨t, a, b, o, e, s.tup _ _ h1, h2, s.frz _ _ _ h3⟩
def spTree (K : PySem.W.Frag) : Sp := fun vs H Q _ => ∃ (d c : Addr) (n : Nat) (most : Nat), vs = [.ref d, .int most] ∧ DeckAt H d c n ∧ n < 70000 ∧ 1 ≤ most ∧ most ≤ 30 ∧ ∀ (H' : Hp) (t : Addr) (pl : List Nm) (ts : List Tie), IsTree pl ts → (∀ l ∈ pl, NameOk l) → pl.length ≤ max most 4 → Dt H' (.ref t) (treeD pl ts) → PlZ H' (.ref t) pl → SmX d H H' → DeckAt H' d c (n + 800) → Q (.ref t) H'
/-- within the making of a tree: the names at p, the ties so far at t -/
structure Tr (K : PySem.W.Frag) (H H' : Hp) (d c p t : Addr) (n : Nat) (ls : List Nm) (tvs : List V) (ts : List Tie) : Prop where
  nm : NamesAt H' p ls
  tt : H' t = some (.lst tvs)
  al : DtAll H' tvs (ts.map tieD)
  sm : SmX d H H'
  dk : DeckAt H' d c n
theorem Tr.new {H H' : Hp} {d c p t q : Addr} {n : Nat} {ls : List Nm} {tvs : List V} {ts : List Tie} {o : HO} (x : Tr K H H' d c p t n ls tvs ts) (nq : H' q = none) : Tr K H (upd H' q o) d c p t n ls tvs ts :=
  ⟨by unfold NamesAt; rw [upd_ne (ne_of_none x.nm nq)]; exact x.nm, by rw [upd_ne (ne_of_none x.tt nq)]; exact x.tt, DtAll.keep (TK.new nq) x.al, x.sm.new nq, x.dk.new nq⟩
theorem Tr.step {H H' H'' : Hp} {d c p t : Addr} {n m : Nat} {ls : List Nm} {tvs : List V} {ts : List Tie} (x : Tr K H H' d c p t n ls tvs ts) (npd : p ≠ d) (ntd : t ≠ d) (s : SmX d H' H'') (D : DeckAt H'' d c m) : Tr K H H'' d c p t m ls tvs ts :=
  ⟨s p _ npd x.nm, s t _ ntd x.tt, DtAll.keep (x.dk.tk s) x.al, x.sm.trans s, D⟩
/-- another new object changes -/
theorem Tr.put {H H' : Hp} {d c p t q : Addr} {n : Nat} {ls : List Nm} {tvs xs : List V} {ts : List Tie} {o : HO} (x : Tr K H H' d c p t n ls tvs ts) (np : q ≠ p) (nt : q ≠ t) (nd : q ≠ d) (nc : q ≠ c) (n0 : H q = none) (hq : H' q = some (.lst xs)) : Tr K H (upd H' q o) d c p t n ls tvs ts :=
  ⟨by unfold NamesAt; rw [upd_ne np.symm]; exact x.nm, by rw [upd_ne nt.symm]; exact x.tt, DtAll.keep (TK.mut hq) x.al, x.sm.put n0, x.dk.put nd nc⟩
/-- a tie is taken -/
theorem Tr.take {H H' : Hp} {d c p t : Addr} {n k : Nat} {ls : List Nm} {tvs : List V} {ts : List Tie} (x : Tr K H H' d c p t n ls tvs ts) (np : p ≠ t) (nd : t ≠ d) (nc : t ≠ c) (n0 : H t = none) : Tr K H (upd H' t (.lst (tvs.eraseIdx k))) d c p t n ls (tvs.eraseIdx k) (ts.eraseIdx k) :=
  ⟨by unfold NamesAt; rw [upd_ne np]; exact x.nm, upd_same, by rw [← map_erase]; exact DtAll.del k (DtAll.keep (TK.mut x.tt) x.al), x.sm.put n0, x.dk.put nd nc⟩
theorem seq_ix {r : Int} {n : Nat} (h0 : 0 ≤ r) (h1 : r < n) : seqIndex? r n = some r.toNat := by
  refine (ixN_seq (j := r.toNat) ?_).1
  unfold ixN
  rw [if_pos h0, if_pos h1]
theorem ok_tree {f : Addr} {fd : FuncData} (F : Fun K "_law_tree" "_law_tree" s_law_tree f fd) (T : Txt mg) (C_law_next : Cal P w K mg base 2 "_law_next" spNext) (C_law_names : Cal P w K mg base 4 "_law_names" spNames) : FnOk P w K mg base CX0 5 f fd ["deck", "most"] (spTree K) := by
  refine F.ok sc_law_tree (fun vs H Q E h => ?_) (fun cdv A outer s H vs Q E hr h => ?_)
  · obtain ⟨d, c, n, most, rfl, _⟩ := h
    rfl
  · obtain ⟨d, c, n, most, rfl, hD, hn, hm1, hm, q⟩ := h
    refine ⟨_, (pss_cons (ps_set (i := 2) sc_law_tree.nd rfl (.inl rfl) (pe_ix ix_list (pe_lst (pa_cons (pe_op op_add pe_int (pe_c C_law_next hr (by decide) rfl (pa_cons (pv 0) (pa_cons (pv 1) pa_nil)))) (pa_cons (pv 1) (pa_cons (pe_op op_add pe_int (pe_c C_law_next hr (by decide) rfl (pa_cons (pv 0) (pa_cons pe_int pa_nil)))) pa_nil)))) (pe_c C_law_next hr (by decide) rfl (pa_cons (pv 0) (pa_cons pe_int pa_nil))) (fun _ _ => rfl)))
      (pss_cons (ps_set (i := 3) sc_law_tree.nd rfl (.inl rfl) (pe_c C_law_names hr (by decide) rfl (pa_cons (pv 0) (pa_cons (pv 2) pa_nil))))
      (pss_cons (ps_set (i := 4) sc_law_tree.nd rfl (.inl rfl) (pe_c C_law_next hr (by decide) rfl (pa_cons (pv 0) (pa_cons pe_int pa_nil))))
      (pss_cons (ps_set (i := 5) sc_law_tree.nd rfl (.inl rfl) (pe_c C_law_next hr (by decide) rfl (pa_cons (pv 0) (pa_cons pe_int pa_nil))))
      (pss_cons (ps_set (i := 6) sc_law_tree.nd rfl (.inr rfl) (pe_lst pa_nil))
      (pss_cut (ps_for PassesOwn.never rfl (pi_range2 (by rfl) T.range (pa_cons pe_int (pa_cons (pv 2) pa_nil))) (pg_name (i := 7) sc_law_tree.nd rfl (.inl rfl))
        (pss_cons (ps_set (i := 8) sc_law_tree.nd rfl (.inl rfl) (pe_lst (pa_cons (pe_op op_sub (pv 7) pe_int) (pa_cons pe_int (pa_cons (pe_c C_law_next hr (by decide) rfl (pa_cons (pv 0) (pa_cons (pv 7) pa_nil))) (pa_cons (pe_op op_fdiv (pe_op op_sub (pv 7) pe_int) pe_int) (pa_cons (pe_op op_sub (pe_op op_sub (pv 7) pe_int) (pe_callTy call_int1 (by rfl) T.int bt_int (pa_cons (pe_cmpR op_eq (pe_op op_mod (pv 7) pe_int) pe_int (nomark _)) pa_nil))) (pa_cons (pe_callB (call_max2 rfl) (by rfl) T.max bt_max (pa_cons pe_int (pa_cons (pe_op op_sub (pv 7) pe_int) pa_nil))) pa_nil))))))))
        (pss_cons (ps_set (i := 9) sc_law_tree.nd rfl (.inl rfl) (pe_ix ix_list (pv 8) (pv 4) (fun _ _ => rfl)))
        (pss_cons (ps_set (i := 10) sc_law_tree.nd rfl (.inl rfl) (pe_op op_add pe_int (pe_ix ix_list (pe_lst (pa_cons (pe_c C_law_next hr (by decide) rfl (pa_cons (pv 0) (pa_cons (pe_op op_pow pe_int pe_int) pa_nil))) (pa_cons pe_int (pa_cons (pe_c C_law_next hr (by decide) rfl (pa_cons (pv 0) (pa_cons pe_int pa_nil))) (pa_cons (pe_op op_sub (pe_op op_pow pe_int pe_int) pe_int) pa_nil))))) (pv 5) (fun _ _ => rfl))))
        (pss_cons (ps_set (i := 11) sc_law_tree.nd rfl (.inl rfl) (pe_ix ix_list (pe_lst (pa_cons (pe_tup (pa_cons (pe_ix ix_list (pv 3) (pv 9) (fun _ _ => rfl)) (pa_cons (pe_ix ix_list (pv 3) (pv 7) (fun _ _ => rfl)) pa_nil))) (pa_cons (pe_tup (pa_cons (pe_ix ix_list (pv 3) (pv 7) (fun _ _ => rfl)) (pa_cons (pe_ix ix_list (pv 3) (pv 9) (fun _ _ => rfl)) pa_nil))) pa_nil))) (pe_c C_law_next hr (by decide) rfl (pa_cons (pv 0) (pa_cons pe_int pa_nil))) (fun _ _ => rfl)))
        (pss_one (ps_expr (pe_bm PySem.F.plainAttrs_list PySem.F.slot_list_append PySem.F.type_list_append mt_append (pv 6) (pa_cons (pe_op op_catA (pv 11) (pe_tup (pa_cons (pv 10) pa_nil))) pa_nil)))))))))
      (pss_cons (ps_set (i := 12) sc_law_tree.nd rfl (.inr rfl) (pe_callTy call_list_of (by rfl) T.list bt_list (pa_cons (pv 3) pa_nil)))
      (pss_cons (ps_setLc (i := 13) (own := [("k", 7)]) (g := gName 7) (tt := tYes) rfl sc_law_tree.nd rfl rfl (sw_true rfl rfl rfl (by decide +kernel)) (pi_range1 (by rfl) T.range (pa_cons (pv 2) pa_nil)) (blkOk_by (N := N_law_tree) (sc := defScope s_law_tree) (by decide +kernel)) (fun _ _ _ _ _ => pg_name (i := 7) sc_law_tree.nd rfl (Or.inl rfl)) (fun _ _ _ _ _ => pts_nil) (fun _ _ _ _ _ => (show PE _ _ (tBM K "list" rPopAt _ _) from pe_bm PySem.F.plainAttrs_list PySem.F.slot_list_pop PySem.F.type_list_pop mt_popAt (pv 12) (pa_cons (pe_c C_law_next hr (by decide) rfl (pa_cons (pv 0) (pa_cons (pe_callB (lenK (K := K)) (by rfl) T.len bt_len (pa_cons (pv 12) pa_nil)) pa_nil))) pa_nil))))
      (pss_cons (ps_setLc (i := 14) (own := [("k", 7)]) (g := gName 7) (tt := tYes) rfl sc_law_tree.nd rfl rfl (sw_true rfl rfl rfl (by decide +kernel)) (pi_range1 (by rfl) T.range (pa_cons (pe_op op_sub (pv 2) pe_int) pa_nil)) (blkOk_by (N := N_law_tree) (sc := defScope s_law_tree) (by decide +kernel)) (fun _ _ _ _ _ => pg_name (i := 7) sc_law_tree.nd rfl (Or.inl rfl)) (fun _ _ _ _ _ => pts_nil) (fun _ _ _ _ _ => (show PE _ _ (tBM K "list" rPopAt _ _) from pe_bm PySem.F.plainAttrs_list PySem.F.slot_list_pop PySem.F.type_list_pop mt_popAt (pv 6) (pa_cons (pe_c C_law_next hr (by decide) rfl (pa_cons (pv 0) (pa_cons (pe_callB (lenK (K := K)) (by rfl) T.len bt_len (pa_cons (pv 6) pa_nil)) pa_nil))) pa_nil))))
      (pss_one (ps_ret (pe_tup (pa_cons (pe_tupleZ (by rfl) T.tuple (pe_ix ix_list (pe_lst (pa_cons (pv 13) (pa_cons (pv 3) pa_nil))) (pe_c C_law_next hr (by decide) rfl (pa_cons (pv 0) (pa_cons pe_int pa_nil))) (fun _ _ => rfl))) (pa_cons (pe_tupleOf (by rfl) T.tuple (pv 14)) pa_nil)))))))))))))), ?_⟩
    -- many
    refine ⟨_, rfl, _, rfl, d, c, n, most, rfl, hD, by omega, by omega, by omega, fun H1 r1 r10 r11 S1 D1 => ?_⟩
    refine ⟨_, _, rfl, rfl, _, rfl, _, rfl, d, c, _, 4, rfl, D1, by omega, by decide, by decide, fun H2 r2 r20 r21 S2 D2 => ?_⟩
    refine ⟨_, _, rfl, rfl, (by show 3 ≤ sizeLine; decide), fun p1 np1 => ?_⟩
    refine ⟨_, rfl, d, c, _, 3, rfl, D2.new np1, by omega, by decide, by decide, fun H3 r3 r30 r31 S3 D3 => ?_⟩
    have hp1 := S3 p1 _ (D2.nd np1) upd_same
    have SM3 : SmX d H H3 := ((S1.trans S2).new np1).trans S3
    obtain ⟨v, hv, mv⟩ := atI_in (xs := [V.int (1 + r1), .int most, .int (1 + r2)]) r30 (by simpa using r31)
    have hs : ∃ m : Nat, v = .int m ∧ 1 ≤ m ∧ m ≤ 30 ∧ m ≤ max most 4 := by
      simp only [List.mem_cons, List.not_mem_nil, or_false] at mv
      rcases mv with e | e | e
      · exact ⟨(1 + r1).toNat, by rw [e]; congr 1; omega, by omega, by omega, by omega⟩
      · exact ⟨most, e, by omega, by omega, by omega⟩
      · exact ⟨(1 + r2).toNat, by rw [e]; congr 1; omega, by omega, by omega, by omega⟩
    obtain ⟨many, rfl, m1, m30, mm⟩ := hs
    refine ⟨p1, _, r3, _, rfl, rfl, SqL.of hp1, hv, ?_⟩
    -- names
    refine ⟨_, rfl, _, rfl, d, c, _, many, rfl, D3, by omega, m30, fun H4 p ls np npd npc hN4 hl nd ok S4 D4 => ?_⟩
    have SM4 : SmX d H H4 := SM3.trans S4
    have np0 : H p = none := SM3.free np npd
    -- way, long
    refine ⟨_, rfl, d, c, _, 6, rfl, D4, by omega, by decide, by decide, fun H5 way w0 w1 S5 D5 => ?_⟩
    have hN5 : NamesAt H5 p ls := S5 p _ npd hN4
    refine ⟨_, rfl, d, c, _, 4, rfl, D5, by omega, by decide, by decide, fun H6 long g0 g1 S6 D6 => ?_⟩
    have hN6 : NamesAt H6 p ls := S6 p _ npd hN5
    have SM6 : SmX d H H6 := (SM4.trans S5).trans S6
    -- ties
    refine ⟨Nat.zero_le _, fun t nt => ?_⟩
    have ntd : t ≠ d := D6.nd nt
    have ntc : t ≠ c := D6.nc nt
    have ntp : p ≠ t := ne_of_none hN6 nt
    have nt0 : H t = none := SM6.free nt ntd
    have hk0 : 0 < ls.length := by omega
    -- the loop
    refine ⟨fun σ' H' => ∃ (x7 x8 x9 x10 x11 : Option V) (tvs : List V) (ts : List Tie), σ' = [some (.ref d), some (.int most), some (.int many), some (.ref p), some (.int way), some (.int long), some (.ref t), x7, x8, x9, x10, x11, none, none, none] ∧ Grown ls ts ∧ Tr K H H' d c p t (n + 726) ls tvs ts, ?_, fun σ' H' hM => ?_⟩
    · refine ⟨_, rfl, 1, many, rfl, ⟨by decide, by decide, by omega, by omega⟩, ?_⟩
      refine for_range (lo := 1) (n := ((many : Int) - 1).toNat) (fun i σ' H' => ∃ (x7 x8 x9 x10 x11 : Option V) (tvs : List V) (ts : List Tie), σ' = [some (.ref d), some (.int most), some (.int many), some (.ref p), some (.int way), some (.int long), some (.ref t), x7, x8, x9, x10, x11, none, none, none] ∧ Grown (ls.take (i + 1)) ts ∧ Tr K H H' d c p t (n + 605 + 4 * i) ls tvs ts) ⟨none, none, none, none, none, [], [], rfl, ?_, ?_, upd_same, .nil, SM6.new nt, (D6.new nt).mono (by omega)⟩ (fun i σ' H' hi hP => ?_) (fun σ' H' hP => ?_)
      · cases ls with
        | nil => exact absurd hk0 (by decide)
        | cons a r => exact Grown.one a
      · unfold NamesAt
        rw [upd_ne ntp]
        exact hN6
      · obtain ⟨x7, x8, x9, x10, x11, tvs, ts, rfl, hG, X0⟩ := hP
        have hi' : i + 1 < many := by omega
        -- some
        refine ⟨_, rfl, _, _, rfl, rfl, _, rfl, _, rfl, d, c, _, _, rfl, X0.dk, by omega, by omega, by omega, fun H7 a a0 a1 S7 D7 => ?_⟩
        have X7 := X0.step npd ntd S7 D7
        refine ⟨_, rfl, _, _, rfl, rfl, _, _, rfl, rfl, ⟨by decide, by decide⟩, _, rfl, _, _, rfl, rfl, _, rfl, _, _, rfl, rfl, (by show (0 : Int) < _; decide), rfl, .inr ⟨_, rfl, _, _, rfl, rfl, _, rfl, _, _, rfl, rfl, _, _, rfl, (by show 6 ≤ sizeLine; decide), fun p8 np8 => ?_⟩⟩
        have X8 := X7.new (o := .lst [V.int (1 + (i : Int) - 1), .int 0, .int a, .int ((1 + (i : Int) - 1) / 2), .int (1 + (i : Int) - 1 - if decide (V.int ((1 + (i : Int)) % 2) = V.int 0) = true then 1 else 0), .int (if 1 + (i : Int) - 2 > 0 then 1 + (i : Int) - 2 else 0)]) np8
        obtain ⟨v, hv, mv⟩ := atI_in (xs := [V.int (1 + (i : Int) - 1), .int 0, .int a, .int ((1 + (i : Int) - 1) / 2), .int (1 + (i : Int) - 1 - if decide (V.int ((1 + (i : Int)) % 2) = V.int 0) = true then 1 else 0), .int (if 1 + (i : Int) - 2 > 0 then 1 + (i : Int) - 2 else 0)]) w0 (by simpa using w1)
        have hs : ∃ m : Nat, v = .int m ∧ m < i + 1 := by
          simp only [List.mem_cons, List.not_mem_nil, or_false] at mv
          rcases mv with e | e | e | e | e | e
          · exact ⟨i, by rw [e]; congr 1; omega, by omega⟩
          · exact ⟨0, e, by omega⟩
          · exact ⟨a.toNat, by rw [e]; congr 1; omega, by omega⟩
          · exact ⟨i / 2, by rw [e]; congr 1; omega, by omega⟩
          · by_cases z : (1 + (i : Int)) % 2 = 0
            · rw [z, if_pos (by decide)] at e
              exact ⟨i - 1, by rw [e]; congr 1; omega, by omega⟩
            · rw [if_neg (fun y => z (V.int.inj (of_decide_eq_true y)))] at e
              exact ⟨i, by rw [e]; congr 1; omega, by omega⟩
          · by_cases z : 1 + (i : Int) - 2 > 0
            · rw [if_pos z] at e
              exact ⟨i - 1, by rw [e]; congr 1; omega, by omega⟩
            · rw [if_neg z] at e
              exact ⟨0, e, by omega⟩
        obtain ⟨at', rfl, hat⟩ := hs
        refine ⟨_, rfl, _, rfl, p8, _, way, _, rfl, rfl, SqL.of upd_same, hv, ?_⟩
        -- length
        refine ⟨_, rfl, _, _, rfl, rfl, ⟨by decide, by decide, by decide⟩, d, c, _, _, rfl, X8.dk, by omega, by decide, by decide, fun H9 u u0 u1 S9 D9 => ?_⟩
        have X9 := X8.step npd ntd S9 D9
        refine ⟨_, rfl, d, c, _, 3, rfl, X9.dk, by omega, by decide, by decide, fun H10 u' u0' u1' S10 D10 => ?_⟩
        have X10 := X9.step npd ntd S10 D10
        refine ⟨_, _, rfl, rfl, ⟨by decide, by decide, by decide⟩, _, _, rfl, rfl, (by show 4 ≤ sizeLine; decide), fun p9 np9 => ?_⟩
        have X11 := X10.new (o := .lst [V.int u, .int 0, .int u', .int (10 ^ (6 : Int).toNat - 1)]) np9
        obtain ⟨v, hv, mv⟩ := atI_in (xs := [V.int u, .int 0, .int u', .int (10 ^ (6 : Int).toNat - 1)]) g0 (by simpa using g1)
        have hs : ∃ m : Int, v = .int m ∧ 0 ≤ m ∧ m < 1000000 := by
          have e6 : (10 : Int) ^ (6 : Int).toNat = 1000000 := by decide
          rw [e6] at mv u1
          simp only [List.mem_cons, List.not_mem_nil, or_false] at mv
          rcases mv with e | e | e | e
          · exact ⟨u, e, u0, u1⟩
          · exact ⟨0, e, by omega, by omega⟩
          · exact ⟨u', e, by omega, by omega⟩
          · exact ⟨999999, e, by omega, by omega⟩
        obtain ⟨lg, rfl, lg0, lg1⟩ := hs
        refine ⟨_, rfl, p9, _, long, _, rfl, rfl, SqL.of upd_same, hv, _, _, rfl, rfl, ?_⟩
        -- ends
        have la : at' < ls.length := by omega
        have lk : i + 1 < ls.length := by omega
        have ga : ((ls.map S).map V.str)[at']? = some (.str (S ls[at'])) := by
          rw [List.getElem?_map, List.getElem?_map, List.getElem?_eq_getElem la]
          rfl
        have gk : ((ls.map S).map V.str)[i + 1]? = some (.str (S ls[i + 1])) := by
          rw [List.getElem?_map, List.getElem?_map, List.getElem?_eq_getElem lk]
          rfl
        have ek : 1 + (i : Int) = ((i + 1 : Nat) : Int) := by omega
        refine ⟨_, rfl, _, rfl, p, _, at', _, rfl, rfl, SqL.of X11.nm, atI_nat ga, _, rfl, _, rfl, p, _, 1 + (i : Int), _, rfl, rfl, SqL.of X11.nm, at_of ek gk, (by show 2 ≤ sizeLine; decide), fun e1 ne1 => ?_⟩
        have X12 := X11.new (o := .tup [.str (S ls[at']), .str (S ls[i + 1])]) ne1
        refine ⟨_, rfl, _, rfl, p, _, 1 + (i : Int), _, rfl, rfl, SqL.of X12.nm, at_of ek gk, _, rfl, _, rfl, p, _, at', _, rfl, rfl, SqL.of X12.nm, atI_nat ga, (by show 2 ≤ sizeLine; decide), fun e2 ne2 => ?_⟩
        have X13 := X12.new (o := .tup [.str (S ls[i + 1]), .str (S ls[at'])]) ne2
        refine ⟨(by show 2 ≤ sizeLine; decide), fun p10 np10 => ?_⟩
        have X14 := X13.new (o := .lst [.ref e1, .ref e2]) np10
        refine ⟨_, rfl, d, c, _, 2, rfl, X14.dk, by omega, by decide, by decide, fun H15 b b0 b1 S15 D15 => ?_⟩
        have X15 := X14.step npd ntd S15 D15
        have h1 : H15 e1 = some (.tup [.str (S ls[at']), .str (S ls[i + 1])]) := S15 e1 _ (X11.dk.nd ne1) (by rw [upd_ne (ne_of_none (by rw [upd_ne (ne_of_none upd_same ne2)]; exact upd_same) np10), upd_ne (ne_of_none upd_same ne2)]; exact upd_same)
        have h2 : H15 e2 = some (.tup [.str (S ls[i + 1]), .str (S ls[at'])]) := S15 e2 _ (X12.dk.nd ne2) (by rw [upd_ne (ne_of_none upd_same np10)]; exact upd_same)
        have h3 : H15 p10 = some (.lst [.ref e1, .ref e2]) := S15 p10 _ (X13.dk.nd np10) upd_same
        obtain ⟨v, hv, mv⟩ := atI_in (xs := [V.ref e1, .ref e2]) b0 (by simpa using b1)
        have hs : ∃ (e : Addr) (xa xb : Nm), v = .ref e ∧ H15 e = some (.tup [.str (S xa), .str (S xb)]) ∧ ((xa = ls[at'] ∧ xb = ls[i + 1]) ∨ (xa = ls[i + 1] ∧ xb = ls[at'])) := by
          simp only [List.mem_cons, List.not_mem_nil, or_false] at mv
          rcases mv with e | e
          · exact ⟨e1, _, _, e, h1, .inl ⟨rfl, rfl⟩⟩
          · exact ⟨e2, _, _, e, h2, .inr ⟨rfl, rfl⟩⟩
        obtain ⟨e, xa, xb, rfl, he, hab⟩ := hs
        refine ⟨p10, _, b, _, rfl, rfl, SqL.of h3, hv, ?_⟩
        -- ties.append(ends + (length,))
        refine ⟨_, rfl, .inl ⟨rfl, _, SqL.of X15.tt⟩, _, rfl, _, rfl, (by show 1 ≤ sizeLine; decide), fun e3 ne3 => ?_⟩
        have X16 := X15.new (o := .tup [.int (1 + lg)]) ne3
        refine ⟨e, e3, [.str (S xa), .str (S xb)], [.int (1 + lg)], rfl, rfl, .inl (.inl (by rw [upd_ne (ne_of_none he ne3)]; exact he)), .inl (.inl upd_same), (by show 3 ≤ sizeLine; decide), (fun z => nomatch z), (fun _ z => nomatch z), fun _ _ e4 ne4 => ?_⟩
        have X17 := X16.new (o := .tup ([.str (S xa), .str (S xb)] ++ [.int (1 + lg)])) ne4
        have tl : tvs.length = ts.length := by
          have := DtAll.len X17.al
          rwa [List.length_map] at this
        have gl := hG.len
        rw [List.length_take] at gl
        refine ⟨t, tvs, _, rfl, rfl, X17.tt, sz_lt (by omega), ?_⟩
        refine ⟨_, _, _, _, _, tvs ++ [.ref e4], ts ++ [(xa, xb, 1 + lg)], rfl, ?_, ?_, upd_same, ?_, X17.sm.put nt0, (X17.dk.put ntd ntc).mono (by omega)⟩
        · have e5 : ls.take (i + 1 + 1) = ls.take (i + 1) ++ [ls[i + 1]] := by
            rw [List.take_add_one, List.getElem?_eq_getElem lk]
            rfl
          rw [e5]
          refine Grown.leaf (a := ls[at']) (k := 1 + lg) hG ?_ ?_ ?_ (by omega) (by omega)
          · exact List.mem_take_iff_getElem.mpr ⟨at', by omega, rfl⟩
          · intro hm
            obtain ⟨j, hj, ej⟩ := List.mem_take_iff_getElem.mp hm
            have := (List.getElem_inj nd).mp ej
            omega
          · rcases hab with ⟨z1, z2⟩ | ⟨z1, z2⟩ <;> rw [z1, z2]
            · exact .inl rfl
            · exact .inr rfl
        · unfold NamesAt
          rw [upd_ne ntp]
          exact X17.nm
        · rw [List.map_append]
          have tk : TK (upd (upd H15 e3 (.tup [.int (1 + lg)])) e4 (.tup ([.str (S xa), .str (S xb)] ++ [.int (1 + lg)]))) (upd (upd (upd H15 e3 (.tup [.int (1 + lg)])) e4 (.tup ([.str (S xa), .str (S xb)] ++ [.int (1 + lg)]))) t (.lst (tvs ++ [.ref e4]))) := TK.mut X17.tt
          refine DtAll.app (DtAll.keep tk X17.al) (.cons (.tup (tk.tup _ _ upd_same) (.cons (.str _) (.cons (.str _) (.cons (.int _) .nil)))) .nil)
      · obtain ⟨x7, x8, x9, x10, x11, tvs, ts, rfl, hG, X0⟩ := hP
        refine ⟨_, _, _, _, _, tvs, ts, rfl, ?_, X0.nm, X0.tt, X0.al, X0.sm, X0.dk.mono (by omega)⟩
        have : ls.take (((many : Int) - 1).toNat + 1) = ls := List.take_of_length_le (by omega)
        rwa [this] at hG
    · obtain ⟨x7, x8, x9, x10, x11, tvs, ts, rfl, hG, X0⟩ := hM
      -- left
      refine ⟨_, rfl, p, _, rfl, .inl (SqL.of X0.nm), fun lf nlf => ?_⟩
      have X1 := X0.new (o := .lst ((ls.map S).map V.str)) nlf
      have lfd := X0.dk.nd nlf
      have lfc := X0.dk.nc nlf
      have lf0 : H lf = none := X0.sm.free nlf lfd
      have lfp : lf ≠ p := (ne_of_none X0.nm nlf).symm
      have lft : lf ≠ t := (ne_of_none X0.tt nlf).symm
      -- places
      refine ⟨_, rfl, (many : Int), rfl, by omega, by omega, fun D nD => ?_⟩
      have Dd := X1.dk.nd nD
      have Dc := X1.dk.nc nD
      have D0 : H D = none := X1.sm.free nD Dd
      have Dp' : D ≠ p := (ne_of_none X1.nm nD).symm
      have DNt : D ≠ t := (ne_of_none X1.tt nD).symm
      have Dlf : D ≠ lf := (ne_of_none upd_same nD).symm
      refine lc_range (lo := 0) (n := (many : Int).toNat) (fun i H'' => ∃ l1 l2 : List Nm, l1.length = i ∧ (l1 ++ l2).Perm ls ∧ H'' D = some (.lst ((l1.map S).map V.str)) ∧ H'' lf = some (.lst ((l2.map S).map V.str)) ∧ Tr K H H'' d c p t (n + 726 + i) ls tvs ts)
        ⟨[], ls, rfl, List.Perm.refl _, upd_same, by rw [upd_ne Dlf.symm]; exact upd_same, X1.new nD⟩ (fun i H'' hi hP => ?_) (fun H'' hP => ?_)
      · obtain ⟨l1, l2, hl1, pm, hD, hlf, X2⟩ := hP
        have ll := pm.length_eq
        rw [List.length_append] at ll
        refine ⟨rfl, _, rfl, .inl ⟨rfl, _, SqL.of hlf⟩, _, rfl, _, rfl, .ref lf, _, rfl, .inl ⟨_, SqL.of hlf, rfl⟩, d, c, _, _, rfl, X2.dk, by omega, by rw [List.length_map, List.length_map]; omega, by rw [List.length_map, List.length_map]; omega, fun H3 r r0 r1 S3 D3 => ?_⟩
        have X3 := X2.step npd ntd S3 D3
        have hD3 := S3 D _ Dd hD
        have hlf3 := S3 lf _ lfd hlf
        rw [List.length_map, List.length_map] at r1
        have hx : l2[r.toNat]? = some (l2[r.toNat]'(by omega)) := List.getElem?_eq_getElem (by omega)
        generalize l2[r.toNat]'(by omega) = x at hx
        have hx' : ((l2.map S).map V.str)[r.toNat]? = some (.str (S x)) := by
          rw [List.getElem?_map, List.getElem?_map, hx]
          rfl
        refine ⟨lf, _, r, r.toNat, .str (S x), rfl, rfl, hlf3, by omega, by omega, seq_ix r0 (by rw [List.length_map, List.length_map]; exact r1), hx', ?_⟩
        have X4 := X3.put (o := .lst (((l2.map S).map V.str).eraseIdx r.toNat)) lfp lft lfd lfc lf0 hlf3
        have hD4 : (upd H3 lf (.lst (((l2.map S).map V.str).eraseIdx r.toNat))) D = some (.lst ((l1.map S).map V.str)) := by
          rw [upd_ne Dlf]
          exact hD3
        refine ⟨_, hD4, by rw [List.length_map, List.length_map]; exact sz_lt (by omega), l1 ++ [x], l2.eraseIdx r.toNat, by rw [List.length_append, hl1]; rfl, perm_pick pm hx, ?_, ?_, X4.put Dp' DNt Dd Dc D0 hD4⟩
        · rw [upd_same, List.map_append, List.map_append]
          rfl
        · rw [upd_ne Dlf.symm, upd_same, map_erase, map_erase]
      · obtain ⟨l1, l2, hl1, pm, hD, hlf, X2⟩ := hP
        have ll := pm.length_eq
        rw [List.length_append] at ll
        have e2 : l2 = [] := List.length_eq_zero_iff.mp (by omega)
        subst e2
        rw [List.append_nil] at pm
        have gl := hG.len
        -- mixed
        refine ⟨_, rfl, _, _, rfl, rfl, (many : Int) - 1, rfl, by omega, by omega, fun G nG => ?_⟩
        have Gd := X2.dk.nd nG
        have Gc := X2.dk.nc nG
        have G0 : H G = none := X2.sm.free nG Gd
        have Gp : G ≠ p := (ne_of_none X2.nm nG).symm
        have Gt : G ≠ t := (ne_of_none X2.tt nG).symm
        have GD : G ≠ D := (ne_of_none hD nG).symm
        refine lc_range (lo := 0) (n := ((many : Int) - 1).toNat) (fun i H'' => ∃ (ts1 ts2 : List Tie) (vs1 vs2 : List V), ts1.length = i ∧ (ts1 ++ ts2).Perm ts ∧ H'' D = some (.lst ((l1.map S).map V.str)) ∧ H'' G = some (.lst vs1) ∧ DtAll H'' vs1 (ts1.map tieD) ∧ Tr K H H'' d c p t (n + 756 + i) ls vs2 ts2)
          ⟨[], ts, [], tvs, rfl, List.Perm.refl _, by rw [upd_ne GD.symm]; exact hD, upd_same, .nil, ?_⟩ (fun i H3 hi hP => ?_) (fun H3 hP => ?_)
        · have := X2.new (o := .lst []) nG
          exact ⟨this.nm, this.tt, this.al, this.sm, this.dk.mono (by omega)⟩
        · obtain ⟨ts1, ts2, vs1, vs2, hl1', pm', hD3, hG3, hA3, X3⟩ := hP
          have ll' := pm'.length_eq
          rw [List.length_append] at ll'
          have v2 : vs2.length = ts2.length := by
            have := DtAll.len X3.al
            rwa [List.length_map] at this
          have v1 : vs1.length = ts1.length := by
            have := DtAll.len hA3
            rwa [List.length_map] at this
          refine ⟨rfl, _, rfl, .inl ⟨rfl, _, SqL.of X3.tt⟩, _, rfl, _, rfl, .ref t, _, rfl, .inl ⟨_, SqL.of X3.tt, rfl⟩, d, c, _, _, rfl, X3.dk, by omega, by omega, by omega, fun H4 r r0 r1 S4 D4 => ?_⟩
          have X4 := X3.step npd ntd S4 D4
          have hD4 := S4 D _ Dd hD3
          have hG4 := S4 G _ Gd hG3
          have hA4 := DtAll.keep (X3.dk.tk S4) hA3
          have hy : vs2[r.toNat]? = some (vs2[r.toNat]'(by omega)) := List.getElem?_eq_getElem (by omega)
          generalize vs2[r.toNat]'(by omega) = y at hy
          obtain ⟨dy, hdy, hDy⟩ := DtAll.get X4.al hy
          have hx : ts2[r.toNat]? = some (ts2[r.toNat]'(by omega)) := List.getElem?_eq_getElem (by omega)
          generalize ts2[r.toNat]'(by omega) = x at hx
          have edy : dy = tieD x := by
            rw [List.getElem?_map, hx] at hdy
            exact (Option.some.inj hdy).symm
          subst edy
          refine ⟨t, _, r, r.toNat, y, rfl, rfl, X4.tt, by omega, by omega, seq_ix r0 r1, hy, ?_⟩
          have X5 := X4.take (k := r.toNat) ntp ntd ntc nt0
          have hG5 : (upd H4 t (.lst (vs2.eraseIdx r.toNat))) G = some (.lst vs1) := by
            rw [upd_ne Gt]
            exact hG4
          have hD5 : (upd H4 t (.lst (vs2.eraseIdx r.toNat))) D = some (.lst ((l1.map S).map V.str)) := by
            rw [upd_ne DNt]
            exact hD4
          have tk : TK H4 (upd (upd H4 t (.lst (vs2.eraseIdx r.toNat))) G (.lst (vs1 ++ [y]))) := (TK.mut X4.tt).trans (TK.mut hG5)
          refine ⟨_, hG5, sz_lt (by omega), ts1 ++ [x], ts2.eraseIdx r.toNat, vs1 ++ [y], vs2.eraseIdx r.toNat, by rw [List.length_append, hl1']; rfl, perm_pick pm' hx, by rw [upd_ne GD.symm]; exact hD5, upd_same, ?_, X5.put Gp Gt Gd Gc G0 hG5⟩
          rw [List.map_append]
          exact DtAll.app (DtAll.keep tk hA4) (.cons (Dt.keep tk hDy) .nil)
        · obtain ⟨ts1, ts2, vs1, vs2, hl1', pm', hD3, hG3, hA3, X3⟩ := hP
          have ll' := pm'.length_eq
          rw [List.length_append] at ll'
          have e2 : ts2 = [] := List.length_eq_zero_iff.mp (by omega)
          subst e2
          rw [List.append_nil] at pm'
          -- return
          refine ⟨_, rfl, _, rfl, (by show 2 ≤ sizeLine; decide), fun p20 np20 => ?_⟩
          have X4 := X3.new (o := .lst [.ref D, .ref p]) np20
          refine ⟨_, rfl, d, c, _, 2, rfl, X4.dk, by omega, by decide, by decide, fun H5 b b0 b1 S5 D5 => ?_⟩
          have X5 := X4.step npd ntd S5 D5
          have hD5 : H5 D = some (.lst ((l1.map S).map V.str)) := S5 D _ Dd (by rw [upd_ne (ne_of_none hD3 np20)]; exact hD3)
          have hG5 : H5 G = some (.lst vs1) := S5 G _ Gd (by rw [upd_ne (ne_of_none hG3 np20)]; exact hG3)
          have hA5 : DtAll H5 vs1 (ts1.map tieD) := DtAll.keep ((TK.new np20).trans (X4.dk.tk S5)) hA3
          obtain ⟨v, hv, mv⟩ := atI_in (xs := [V.ref D, .ref p]) b0 (by simpa using b1)
          have hs : ∃ (e : Addr) (pl : List Nm), v = .ref e ∧ H5 e = some (.lst ((pl.map S).map V.str)) ∧ pl.Perm ls := by
            simp only [List.mem_cons, List.not_mem_nil, or_false] at mv
            rcases mv with e | e
            · exact ⟨D, l1, e, hD5, pm⟩
            · exact ⟨p, ls, e, X5.nm, List.Perm.refl _⟩
          obtain ⟨e, pl, rfl, he, hpl⟩ := hs
          refine ⟨p20, _, b, _, rfl, rfl, SqL.of (S5 p20 _ (X3.dk.nd np20) upd_same), hv, e, _, rfl, SqL.of he, fun q1 o nq1 od => ?_⟩
          have X6 := X5.new (o := .frz o (.tup ((pl.map S).map V.str))) nq1
          refine ⟨_, rfl, .inl ⟨G, vs1, rfl, SqL.of (by rw [upd_ne (ne_of_none hG5 nq1)]; exact hG5), fun q2 nq2 => ?_⟩⟩
          have X7 := X6.new (o := .tup vs1) nq2
          refine ⟨(by show 2 ≤ sizeLine; decide), fun q3 nq3 => ?_⟩
          have X8 := X7.new (o := .tup [.ref q1, .ref q2]) nq3
          have tk1 : TK (upd H5 q1 (.frz o (.tup ((pl.map S).map V.str)))) (upd (upd (upd H5 q1 (.frz o (.tup ((pl.map S).map V.str)))) q2 (.tup vs1)) q3 (.tup [.ref q1, .ref q2])) := (TK.new nq2).trans (TK.new nq3)
          have tk2 : TK (upd (upd H5 q1 (.frz o (.tup ((pl.map S).map V.str)))) q2 (.tup vs1)) (upd (upd (upd H5 q1 (.frz o (.tup ((pl.map S).map V.str)))) q2 (.tup vs1)) q3 (.tup [.ref q1, .ref q2])) := TK.new nq3
          have tk0 : TK H5 (upd (upd (upd H5 q1 (.frz o (.tup ((pl.map S).map V.str)))) q2 (.tup vs1)) q3 (.tup [.ref q1, .ref q2])) := (TK.new nq1).trans tk1
          have it : IsTree pl ts1 := ⟨ls, ts, hG, hpl, pm'⟩
          have plne : pl ≠ [] := fun z => by
            have := it.len
            rw [z] at this
            simp at this
          refine q _ q3 pl ts1 it (fun l hl => ok l (hpl.mem_iff.mp hl)) (by rw [hpl.length_eq]; omega) (.tup upd_same (.cons (.tupZ rfl plne od (tk1.frz _ _ _ upd_same)) (.cons (.tup (tk2.tup _ _ upd_same) (DtAll.keep tk0 hA5)) .nil))) ⟨q3, q1, q2, o, rfl, upd_same, od, tk1.frz _ _ _ upd_same⟩ X8.sm (X8.dk.mono (by omega))
end
end Far

namespace Far
open PySem PySem.Spec PyProof.Rows L2
section
variable {X : Cx}
theorem countU {x : V} : ∀ {ys : List V} {us : List Value}, Vals ys us → ys.all flatV = true → us.countP (eqU x) = ys.countP (fun y => eqV y x)
  | _, _, .nil, _ => rfl
  | y :: ys, u :: us, .cons r t, f => by
    rw [List.all_cons, Bool.and_eq_true] at f
    rw [List.countP_cons, List.countP_cons, eqU_of r f.1, countU t f.2]
/-- list.count of a flat value in a list of flat values -/
def rCountV (K : PySem.W.Frag) : V → List V → Hp → VK → Prop := fun x xs H Q => ∃ (p : Addr) (ys : List V) (y : V), x = .ref p ∧ xs = [y] ∧ SqL K H p ys ∧ flatV y = true ∧ ys.all flatV = true ∧ Q (.int (ys.countP (fun z => eqV z y) : Nat)) H
theorem mt_countV {K : PySem.W.Frag} (eK : X.K = K := by rfl) : MtR X "list.count" (rCountV K) := by
  subst eK
  intro pins s σ H x xs v us Q I rx rxs h
  obtain ⟨p, ys, y, rfl, rfl, hs, fy, fys, q⟩ := h
  cases rx
  obtain ⟨u, rfl, ru⟩ := rxs.one
  obtain ⟨its, rv, ⟨⟨cl, di, da, so⟩, n, ho, hc, hdn, hd⟩, hl⟩ := I.list hs
  simp only at hc hd
  subst hc hd
  refine call_meets PySem.F.slot_list_count ⟨_, ho, rfl⟩ PySem.F.entry_list_count (PySem.F.args_list_count_2 _ _) (SeqAt.list_countAt p its.toArray n di so u (eqU y)) ⟨ho, fun z hz => mem_eqAt ru fy rv fys z (by simpa using hz), ?_⟩
  refine ⟨.int (ys.countP (fun z => eqV z y) : Nat), H, I.tok _, ⟨s.toks, ?_⟩, q⟩
  have e : its.toArray.toList.countP (eqU y) = ys.countP (fun z => eqV z y) := countU rv fys
  rw [e]

/-! ### enumerate(xs, start=c) -/
theorem callWith_typeK {M : Model} {A : Around} {E : Value → Shared → Prop} {s : Shared} {pos : Pos} {T : String} {env : Env} {e : Expr} {rest : List Expr} {kws : List Keyword} {Q : Value → Shared → Prop}
    (h : wpAny M A (spliced (backTo pos (starEach (e :: rest) env))) (fun vs s1 => wpAny M A (evalAll ((backToKw pos (keywordEach kws env)).map (·.2)))
      (fun ws s2 => wpAny M A (call (.type T) vs (((backToKw pos (keywordEach kws env)).filterMap (·.1)).zip ws)) Q E s2) E s1) E s)
    (he : backTo pos (starEach (e :: rest) env) = (false, eval e env) :: backTo pos (starEach rest env) := by rfl)
    (hp : (backTo pos (starEach (e :: rest) env)).any (·.1) = false := by rfl)
    (ha : (backToKw pos (keywordEach kws env)).all (·.1.isSome) = true := by rfl)
    (hk : (backToKw pos (keywordEach kws env)).any (·.1.isNone) = false := by rfl) :
    wpAny M A (callWith pos (.type T) [] (backTo pos (starEach (e :: rest) env)) (backToKw pos (keywordEach kws env))) Q E s := by
  unfold callWith
  refine wpAny_bind (wpAny_holding (wpAny_mono (Q := fun a s1 => wpAny M A (call (.type T) ([] ++ a.pos) a.kw) Q E s1) ?_ (fun a s1 h1 => wpAny_bind (wpAny_standAt ?_)) fun _ _ x => x))
  · rw [he] at h ⊢
    exact evalArgs_kwB ha h
  · simp only [hp, hk, Bool.or_false]
    exact wpAny_bind (wpAny_pure (wpAny_bind (wpAny_mono h1 (fun r s2 hr => wpAny_bind (wpAny_holding (wpAny_point (wpAny_pure hr)))) fun _ _ x => x)))
/-- the pairs (c + i, item) of the list at a as it stands at each turn -/
def Ites (K : PySem.W.Frag) (a : Addr) (c : Int) : It :=
  ⟨fun i H => ∃ (xs : List V) (x : V), SqL K H a xs ∧ xs[i]? = some x,
   fun i H v H' => ∃ T x, v = .ref T ∧ H T = none ∧ H' = upd H T (.tup [.int (c + (i : Nat)), x]) ∧ ∀ xs, SqL K H a xs → xs[i]? = some x,
   fun i H => ∃ xs : List V, SqL K H a xs ∧ xs.length ≤ i⟩
theorem turn_enumS {P : Program} {w : World} {K : PySem.W.Frag} {elts : List Expr} {kk : Nat} {tpos : Pos} (a e it : Addr) (c : Int) :
    Turn P w K (.Tuple elts kk tpos) (Ites K a c) [e, it] e (fun i h => (∃ o, IsEnum h e it (c + ((i : Nat) : Int)) o) ∧ h.IsListIter it a i ∧ e ≠ it ∧ a ≠ it) where
  mem := by simp
  obj := fun i h st b hb => by
    obtain ⟨⟨o', he⟩, ⟨o, ho, hc, hd⟩, _⟩ := st
    rcases (show b = e ∨ b = it by simpa using hb) with rfl | rfl
    · exact ⟨_, he, fun v q => nomatch q⟩
    · exact ⟨o, ho, fun v q => by rw [hd] at q; cases q⟩
  keep := fun i h h' ⟨⟨o, he⟩, hi, hne⟩ k => ⟨⟨o, k e (by simp) _ he⟩, hi.at fun o q => k it (by simp) o q, hne⟩
  item := by
    intro X hP hw hK hc i pins s σ H E I hf st hg
    subst hP hw hK
    obtain ⟨⟨old, he⟩, hit, hne, hna⟩ := st
    obtain ⟨xs, x, hq, hx⟩ := hg
    obtain ⟨its, rv, p, hz⟩ := I.list hq
    obtain ⟨u, hu, ru⟩ := rv.get hx
    have hel : e < s.heap.objs.size := Heap.lt_size he
    have hil : it < s.heap.objs.size := by
      obtain ⟨_, q, _⟩ := hit
      exact Heap.lt_size q
    have hea : e ∉ [it, a] := by
      intro hm
      rcases List.mem_cons.mp hm with z | z
      · exact hne z
      · have z := List.mem_singleton.mp z
        obtain ⟨o, m, q, _⟩ := p.isList
        rw [← z, he] at m
        cases m
        have q : Value.type "enumerate" = Value.type "list" := q
        exact absurd q (by decide)
    have hlt : i < its.toArray.size := by
      have := (List.getElem?_eq_some_iff.mp hu).1
      simpa using this
    refine wpAny_pyNext_enum_itemC (Draws.list (A := X.A.in1) (I.ok.hd hc) it a hna its.toArray) he ⟨hit, p.isList⟩ hlt hne hea fun x' h' tk hx' ho hst' hT hsz hk => ?_
    have ex : x' = u := by
      have : its.toArray[i]? = some u := by simpa using hu
      exact Option.some.inj (hx'.symm.trans this)
    subst ex
    refine ⟨_, rfl, wpAny_letOwnedTupleGo_enum (s := { s with heap := h', toks := tk + 1 }) ho fun h2 he2 sb => ?_⟩
    have hT2 : h2.get? s.heap.objs.size = some { cls := .type "tuple", data := .seq #[.int (c + (i : Nat)) tk, x'] } := (sb.2 _ (Nat.ne_of_gt hel)).trans hT
    have new : ObjOk X.prog X.w (upd H s.heap.objs.size (.tup [.int (c + (i : Nat)), x])) h2 s.heap.objs.size (.tup [.int (c + (i : Nat)), x]) :=
      ⟨by show 2 ≤ sizeLine; decide, [.int (c + (i : Nat)) tk, x'], .cons ⟨_, rfl⟩ (.cons ru .nil), ⟨_, hT2, rfl, _, rfl⟩⟩
    have I1 : Inv X pins σ (upd H s.heap.objs.size (.tup [.int (c + (i : Nat)), x])) { s with heap := h2, toks := tk + 1 } :=
      I.turnedNew (ch := [e, it]) (fun b ob hb q => (sb.2 b (fun z => hb (by simp [z]))).trans (hk b ob (fun z => hb (by simp [z])) (fun z => hb (by simp [z])) q)) hf (Nat.le_refl _) new
    refine ⟨.ref s.heap.objs.size, _, I1, rfl, ⟨_, x, rfl, I.hok.fresh (Nat.le_refl _), rfl, fun ys hy => by rw [I.list_inj hy hq]; exact hx⟩, ⟨⟨x', ?_⟩, hst'.1.at fun o q => (sb.2 it (Ne.symm hne)).trans q, hne, hna⟩, fun b hb => ?_⟩
    · rw [show c + ((i + 1 : Nat) : Int) = c + (i : Nat) + 1 by omega]
      exact he2
    · have hb' : b < s.heap.objs.size := by
        rcases (show b = e ∨ b = it by simpa using hb) with z | z
        · rw [z]; exact hel
        · rw [z]; exact hil
      rw [upd_ne (Nat.ne_of_lt hb')]
      exact (hf b hb).1
  done := by
    intro X hP hw hK hc i pins s σ H E I hf st hg
    subst hP hw hK
    obtain ⟨⟨old, he⟩, hit, hne, hna⟩ := st
    obtain ⟨xs, hq, hx⟩ := hg
    obtain ⟨its, rv, p, hz⟩ := I.list hq
    obtain ⟨f0, f1, f2, f3, f4, f5⟩ := hf it (by simp)
    have hl := rv.length
    have D : Draws X.prog X.w X.A.in1 it [it, a] i (fun _ _ => True) (fun j h => (h.IsListIter it a j ∧ h.IsList a its.toArray) ∧ j = i) :=
      { live := fun _ _ st => let ⟨o, ho, _⟩ := st.1.1; ⟨o, ho⟩
        frame := fun _ _ _ st hk => ⟨⟨st.1.1.at fun o e => hk it (by simp) o e, st.1.2.at fun o e => hk a (by simp) o e⟩, st.2⟩
        item := fun j _ _ _ hj st _ => absurd st.2 (by omega)
        done := fun s Q E st hE => wpAny_nextOf_list_end (I.ok.hd hc) st.1.1 st.1.2 (by simp; omega) hE }
    exact wpAny_pyNext_enum_endD D he ⟨⟨hit, p.isList⟩, rfl⟩ fun h' eb => ⟨rfl, I.turned (t' := s.toks) (fun b o hb q => eb b o hb q) f0 f1 f3 f4 f5⟩
  self := fun A i s Q E st h => by
    obtain ⟨⟨_, he⟩, _⟩ := st
    exact wpAny_pyIter_enum he h
/-- for .. in enumerate(xs, start=c) -/
def iEnumS (K : PySem.W.Frag) (c : Int) (ta : TA) : TI := fun σ H R => ta σ H fun vs H1 => ∃ a xs, vs = [.ref a] ∧ SqL K H1 a xs ∧ R (Ites K a c) H1
theorem pi_enumS {e : Expr} {ta : TA} {p pos tpos kp cp : Pos} {elts : List Expr} {kk j : Nat} {c : Int} (hg : Gl X "enumerate") (hm : X.mg "enumerate" = none) (ha : PA X [e] ta) (c0 : -(2 ^ 63) ≤ c) (c1 : c < 2 ^ 63) (hs : starEach [e] X.env = [(false, eval e X.env)] := by rfl) :
    PI X (.Tuple elts kk tpos) (.Call (.Name "enumerate" p) [e] [⟨some (Str.ofString "start"), .Constant (.int c) j cp, kp⟩] pos) (iEnumS X.K c ta) := by
  refine ⟨fun pins s σ H R I h => ?_⟩
  show wpAny _ _ (eval (.Name "enumerate" p) X.env >>= _) _ _ _
  refine wpAny_bind (ld_blt I hg hm boot_enumerate (callWith_typeK (thn (ha.run pos pins s σ H _ I h) fun us s1 ⟨vs, H1, I1, r1, q1⟩ => kws_cons (wpAny_Constant_int (kws_nil ?_))) ?_ ?_ ?_ ?_))
  · obtain ⟨a, xs, ex, hq, q⟩ := q1
    subst ex
    cases r1 with
    | cons r rr =>
      cases rr
      cases r
      obtain ⟨its, rv, p', hz⟩ := I1.list hq
      show wpAny _ _ (call (.type "enumerate") [.ref a] [(Str.ofString "start", .int c s1.toks)]) _ _ _
      refine enum_begins_start (s := { s1 with toks := s1.toks + 1 }) (begins_list a its.toArray) p'.isList c0 c1 fun h' he hit hsz hk => wpAny_pyIter_enum he ?_
      have I2 : Inv X pins σ H1 { s1 with heap := h', toks := s1.toks + 1 } := I1.kept (t' := s1.toks + 1) hk
      have hal : a < s1.heap.objs.size := by
        obtain ⟨o, m, _⟩ := p'.isList
        exact Heap.lt_size m
      refine ⟨s1.heap.objs.size + 1, [s1.heap.objs.size + 1, s1.heap.objs.size], _, _, H1, rfl, I2, turn_enumS a (s1.heap.objs.size + 1) s1.heap.objs.size c, ⟨⟨.none, by simpa using he⟩, ⟨_, hit, rfl, rfl⟩, Nat.succ_ne_self _, Nat.ne_of_lt hal⟩, fun b hb => ?_, q⟩
      have hle : s1.heap.objs.size ≤ b := by
        rcases (show b = s1.heap.objs.size + 1 ∨ b = s1.heap.objs.size by simpa using hb) with z | z
        · rw [z]; exact Nat.le_add_right _ _
        · rw [z]; exact Nat.le_refl _
      exact I1.fpOk hle (I1.hok.fresh hle)
  · rw [hs]
    rfl
  · rw [hs]
    rfl
  all_goals rfl
end
end Far

namespace Far
open PySem PySem.Spec PyProof.Rows L2
section
variable {X : Cx}
/-- name = {k: v for ..} on one line, the name a local one -/
theorem ps_setDc {i : Nat} {y : Str} {py spos pos : Pos} {kx vx tg iter : Expr} {ifs : List Expr} {scope : Scope} {own : List (Str × Nat)} {wi : TI} {g : TG} {tt : TT} {tk tv : TE}
    (hc : X.calm = true) (hN : X.N.Nodup) (hy : X.N[i]? = some y) (hyl : X.env.scope.names.lookup y = some .local) (hsw : swapsWith (.DictComp kx vx [⟨tg, iter, ifs, 0⟩] scope pos) (some (.Name y py)) spos.line X.env = pure true)
    (hi : PI X tg iter wi) (ok : BlkOk X.N X.env.scope scope own)
    (hg : ∀ (s : Shared) (H : Hp) (C : Addr) (l : List (Str × Addr)) (fp : List Addr), PG (X.blk s H scope (compEnvC scope l C X.env) fp) tg g)
    (ht : ∀ (s : Shared) (H : Hp) (C : Addr) (l : List (Str × Addr)) (fp : List Addr), PTs (X.blk s H scope (compEnvC scope l C X.env) fp) ifs tt)
    (hk : ∀ (s : Shared) (H : Hp) (C : Addr) (l : List (Str × Addr)) (fp : List Addr), PE (X.blk s H scope (compEnvC scope l C X.env) fp) kx tk)
    (hv : ∀ (s : Shared) (H : Hp) (C : Addr) (l : List (Str × Addr)) (fp : List Addr), PE (X.blk s H scope (compEnvC scope l C X.env) fp) vx tv)
    (hs : ∀ x, foldedSetIterable iter X.env x = pure x := by intro _; rfl) : PS X (.Assign [.Name y py] (.DictComp kx vx [⟨tg, iter, ifs, 0⟩] scope pos) spos) (tAsg (tDc wi g tt tk tv (own.map (·.2))) (gName i)) := by
  refine ⟨fun pins s σ H D I h => ?_⟩
  replace h : tDc wi g tt tk tv (own.map (·.2)) σ H (fun v H1 => gName i v σ H1 D.nx) := h
  rw [exec_Assign_Name_used _ _ _ _ hsw]
  refine wpAny_bind (wpAny_standAt (wpAny_bind ?_))
  show wpAny _ X.A (do let _ ← comprehension (.DictComp kx vx [⟨tg, iter, ifs, 0⟩] scope pos) scope X.env (firstIterPos [⟨tg, iter, ifs, 0⟩] pos) newDict false (eval iter X.env) (some (assign (.Name y py) X.env))) _ _ s
  refine wpAny_bind (thn (dc_core (Qf := fun _ s1 => SP X pins D .next s1) hc hN I hi ok hg ht hk hv hs h fun L C s1 m H1 I1 q hn f => ?_) fun _ s1 z => wpAny_pure (wpAny_pure z))
  show wpAny _ _ (assign (.Name y py) X.env (.ref L)) _ _ _
  obtain ⟨f0, f1, f2, f3, f4, f5⟩ := f
  refine wpAny_assign_Name (store_ok2 (v := V.ref L) I1 hN hy (.inl hyl) rfl (fun s2 I2 ⟨a, sb, ha⟩ => ⟨m, hn.sameBut sb ?_, fun h3 sb3 => ?_⟩) (.inr hyl))
  · rcases ha with z | z
    · exact z ▸ f1
    · exact fun e => f4 y a z e.symm
  · exact ⟨_, H1, I2.turned (t' := s2.toks) (fun b o hb e => (sb3.2 b hb).trans e) f0 f1 f3 f4 f5, q⟩
theorem swD_true {kx vx : Expr} {gs : List Comprehension} {scope : Scope} {pos py : Pos} {y : Str} {l : Nat} {env : Env} (hk : env.scope.kind = .function) (hy : env.scope.names.lookup y = some .local) (hl : (py.line == pos.line) = true)
    (ha : (scope.names.any fun (n, k) => n == y && (k == .local || k == .cell)) = false) : swapsWith (.DictComp kx vx gs scope pos) (some (.Name y py)) l env = pure true := by
  have e1 : env.kindOf y = some .local := hy
  have e2 : env.blockKind = .function := by unfold Env.blockKind; rw [hk]; rfl
  unfold swapsWith
  simp only [e2, e1, ha, Expr.pos, hl]
  rfl
end
end Far

namespace Far
open PySem
open SX (S)
/-! ### ways in a tree -/
def Adj (ts : List Tie) (u v : Nm) (k : Int) : Prop := (u, v, k) ∈ ts ∨ (v, u, k) ∈ ts
theorem Adj.symm {ts : List Tie} {u v : Nm} {k : Int} (h : Adj ts u v k) : Adj ts v u k := h.elim .inr .inl
theorem Adj.perm {ts ts' : List Tie} {u v : Nm} {k : Int} (p : ts.Perm ts') (h : Adj ts u v k) : Adj ts' u v k := h.elim (fun h => .inl (p.mem_iff.mp h)) fun h => .inr (p.mem_iff.mp h)
/-- from u to v, no place twice: the places, the length -/
inductive Way (ts : List Tie) (u : Nm) : Nm → List Nm → Int → Prop
  | nil : Way ts u u [u] 0
  | snoc {v w : Nm} {p : List Nm} {L k : Int} : Way ts u v p L → Adj ts v w k → w ∉ p → Way ts u w (p ++ [w]) (L + k)
theorem Way.perm {ts ts' : List Tie} (q : ts.Perm ts') {u v : Nm} {p : List Nm} {L : Int} (h : Way ts u v p L) : Way ts' u v p L := by
  induction h with
  | nil => exact .nil
  | snoc _ ha hn ih => exact .snoc ih (ha.perm q) hn
theorem Way.last {ts : List Tie} {u v : Nm} {p : List Nm} {L : Int} (h : Way ts u v p L) : ∃ q, p = q ++ [v] := by
  cases h with
  | nil => exact ⟨[], rfl⟩
  | snoc _ _ _ => exact ⟨_, rfl⟩
theorem Way.mem {ts : List Tie} {u v : Nm} {p : List Nm} {L : Int} (h : Way ts u v p L) : v ∈ p := by
  obtain ⟨q, rfl⟩ := h.last
  simp
theorem Way.first {ts : List Tie} {u v : Nm} {p : List Nm} {L : Int} (h : Way ts u v p L) : ∃ q, p = u :: q := by
  induction h with
  | nil => exact ⟨[], rfl⟩
  | snoc _ _ _ ih =>
    obtain ⟨q, rfl⟩ := ih
    exact ⟨q ++ [_], rfl⟩
theorem Way.nodup {ts : List Tie} {u v : Nm} {p : List Nm} {L : Int} (h : Way ts u v p L) : p.Nodup := by
  induction h with
  | nil => simp
  | snoc _ _ hn ih => exact nd_snoc' ih hn
theorem Way.inside {ts : List Tie} {pl : List Nm} (ht : ∀ e ∈ ts, e.1 ∈ pl ∧ e.2.1 ∈ pl) {u v : Nm} {p : List Nm} {L : Int} (h : Way ts u v p L) (hu : u ∈ pl) : ∀ x ∈ p, x ∈ pl := by
  induction h with
  | nil =>
    intro x hx
    rw [List.mem_singleton.mp hx]
    exact hu
  | snoc _ ha _ ih =>
    intro x hx
    rcases List.mem_append.mp hx with z | z
    · exact ih x z
    · rw [List.mem_singleton.mp z]
      rcases ha with h | h
      · exact (ht _ h).2
      · exact (ht _ h).1
/-- a place on the way is come to by a way of its own -/
theorem Way.upto {ts : List Tie} {u v x : Nm} {p : List Nm} {L : Int} (h : Way ts u v p L) (hx : x ∈ p) : ∃ q M, Way ts u x q M ∧ ∀ y ∈ q, y ∈ p := by
  induction h with
  | nil =>
    rw [List.mem_singleton.mp hx]
    exact ⟨_, _, .nil, fun _ h => h⟩
  | snoc h1 ha hn ih =>
    rcases List.mem_append.mp hx with z | z
    · obtain ⟨q, M, hq, hs⟩ := ih z
      exact ⟨q, M, hq, fun y hy => List.mem_append_left _ (hs y hy)⟩
    · rw [List.mem_singleton.mp z]
      exact ⟨_, _, .snoc h1 ha hn, fun _ h => h⟩
section leaf
variable {os : List Nm} {es : List Tie} {a b : Nm} {k : Int} {e0 : Tie}
theorem adj_new (hb : ∀ e ∈ es, e.1 ≠ b ∧ e.2.1 ≠ b) (ab : a ≠ b) (he : e0 = (a, b, k) ∨ e0 = (b, a, k)) {x y : Nm} {m : Int} (h : Adj (es ++ [e0]) x y m) :
    (Adj es x y m ∧ x ≠ b ∧ y ≠ b) ∨ (x = a ∧ y = b ∧ m = k) ∨ (x = b ∧ y = a ∧ m = k) := by
  rcases h with h | h <;> rcases List.mem_append.mp h with z | z
  · exact .inl ⟨.inl z, hb _ z⟩
  · have z := List.mem_singleton.mp z
    rcases he with e | e <;> rw [e] at z <;> cases z
    · exact .inr (.inl ⟨rfl, rfl, rfl⟩)
    · exact .inr (.inr ⟨rfl, rfl, rfl⟩)
  · exact .inl ⟨.inr z, (hb _ z).2, (hb _ z).1⟩
  · have z := List.mem_singleton.mp z
    rcases he with e | e <;> rw [e] at z <;> cases z
    · exact .inr (.inr ⟨rfl, rfl, rfl⟩)
    · exact .inr (.inl ⟨rfl, rfl, rfl⟩)
theorem way_old (hb : ∀ e ∈ es, e.1 ≠ b ∧ e.2.1 ≠ b) (ab : a ≠ b) (he : e0 = (a, b, k) ∨ e0 = (b, a, k)) {u v : Nm} {p : List Nm} {L : Int} (h : Way (es ++ [e0]) u v p L) (hu : u ≠ b) :
    (v ≠ b ∧ b ∉ p ∧ Way es u v p L) ∨ (v = b ∧ ∃ q M, p = q ++ [b] ∧ L = M + k ∧ Way es u a q M) := by
  induction h with
  | nil => exact .inl ⟨hu, fun z => hu (List.mem_singleton.mp z).symm, .nil⟩
  | @snoc v w p L m h1 ha hn ih =>
    rcases ih with ⟨hv, hbp, hw⟩ | ⟨hv, q, M, hp, _, hq⟩
    · rcases adj_new hb ab he ha with ⟨ha, _, wb⟩ | ⟨e1, e2, e3⟩ | ⟨e1, _, _⟩
      · refine .inl ⟨wb, fun z => ?_, .snoc hw ha hn⟩
        rcases List.mem_append.mp z with z | z
        · exact hbp z
        · exact wb (List.mem_singleton.mp z).symm
      · subst e1 e2 e3
        exact .inr ⟨rfl, p, L, rfl, rfl, hw⟩
      · exact absurd e1 hv
    · rcases adj_new hb ab he ha with ⟨_, vb, _⟩ | ⟨e1, _, _⟩ | ⟨_, e2, _⟩
      · exact absurd hv vb
      · exact absurd (e1.symm.trans hv) ab
      · refine absurd ?_ hn
        rw [e2, hp]
        exact List.mem_append_left _ hq.mem
theorem way_from (hb : ∀ e ∈ es, e.1 ≠ b ∧ e.2.1 ≠ b) (ab : a ≠ b) (he : e0 = (a, b, k) ∨ e0 = (b, a, k)) {v : Nm} {p : List Nm} {L : Int} (h : Way (es ++ [e0]) b v p L) :
    (v = b ∧ p = [b] ∧ L = 0) ∨ (v ≠ b ∧ ∃ q M, p = b :: q ∧ L = k + M ∧ Way es a v q M) := by
  induction h with
  | nil => exact .inl ⟨rfl, rfl, rfl⟩
  | @snoc v w p L m h1 ha hn ih =>
    rcases ih with ⟨hv, hp, hL⟩ | ⟨hv, q, M, hp, hL, hq⟩
    · rcases adj_new hb ab he ha with ⟨_, vb, _⟩ | ⟨e1, _, _⟩ | ⟨_, e2, e3⟩
      · exact absurd hv vb
      · exact absurd (e1.symm.trans hv) ab
      · subst e2 e3 hp hL
        exact .inr ⟨ab, [w], 0, rfl, by omega, .nil⟩
    · have wb : w ≠ b := fun z => hn (by rw [z, hp]; simp)
      rcases adj_new hb ab he ha with ⟨ha, _, _⟩ | ⟨_, e2, _⟩ | ⟨e1, _, _⟩
      · subst hp hL
        exact .inr ⟨wb, q ++ [w], M + m, rfl, by omega, .snoc hq ha fun z => hn (List.mem_cons.mpr (.inr z))⟩
      · exact absurd e2 wb
      · exact absurd e1 hv
end leaf
theorem Grown.one_way {os : List Nm} {es : List Tie} (g : Grown os es) : ∀ {u v : Nm} {p q : List Nm} {L M : Int}, Way es u v p L → Way es u v q M → p = q ∧ L = M := by
  induction g with
  | one a =>
    intro u v p q L M h1 h2
    cases h1 with
    | nil =>
      cases h2 with
      | nil => exact ⟨rfl, rfl⟩
      | snoc _ ha _ => rcases ha with h | h <;> cases h
    | snoc _ ha _ => rcases ha with h | h <;> cases h
  | @leaf os es a b k e0 g ha hbn he k1 k2 ih =>
    intro u v p q L M h1 h2
    have hb : ∀ e ∈ es, e.1 ≠ b ∧ e.2.1 ≠ b := fun e hm => by
      obtain ⟨i1, i2, _⟩ := g.ties e hm
      exact ⟨fun z => hbn (z ▸ i1), fun z => hbn (z ▸ i2)⟩
    have ab : a ≠ b := fun z => hbn (z ▸ ha)
    by_cases hu : u = b
    · subst hu
      rcases way_from hb ab he h1 with ⟨v1, p1, l1⟩ | ⟨v1, p1, l1, e1, e2, w1⟩ <;> rcases way_from hb ab he h2 with ⟨v2, p2, l2⟩ | ⟨v2, p2, l2, e3, e4, w2⟩
      · exact ⟨p1.trans p2.symm, l1.trans l2.symm⟩
      · exact absurd v1 v2
      · exact absurd v2 v1
      · obtain ⟨z1, z2⟩ := ih w1 w2
        rw [e1, e2, e3, e4, z1, z2]
        exact ⟨rfl, rfl⟩
    · rcases way_old hb ab he h1 hu with ⟨v1, _, w1⟩ | ⟨v1, p1, l1, e1, e2, w1⟩ <;> rcases way_old hb ab he h2 hu with ⟨v2, _, w2⟩ | ⟨v2, p2, l2, e3, e4, w2⟩
      · exact ih w1 w2
      · exact absurd v2 v1
      · exact absurd v1 v2
      · obtain ⟨z1, z2⟩ := ih w1 w2
        rw [e1, e2, e3, e4, z1, z2]
        exact ⟨rfl, rfl⟩
theorem IsTree.one_way {pl : List Nm} {ts : List Tie} (h : IsTree pl ts) {u v : Nm} {p q : List Nm} {L M : Int} (h1 : Way ts u v p L) (h2 : Way ts u v q M) : p = q ∧ L = M := by
  obtain ⟨os, es, g, _, p2⟩ := h
  exact g.one_way (h1.perm p2) (h2.perm p2)
/-- what is closed by ties and holds one place holds all -/
theorem Grown.all_of {os : List Nm} {es : List Tie} (g : Grown os es) : ∀ {F : Nm → Prop}, (∃ u ∈ os, F u) → (∀ x y k, F x → Adj es x y k → F y) → ∀ v ∈ os, F v := by
  induction g with
  | one a =>
    intro F ⟨u, hu, hF⟩ _ v hv
    rw [List.mem_singleton.mp hv, ← List.mem_singleton.mp hu]
    exact hF
  | @leaf os es a b k e0 g ha hbn he k1 k2 ih =>
    intro F ⟨u, hu, hF⟩ cl v hv
    have cab : Adj (es ++ [e0]) a b k := by
      rcases he with e | e
      · exact .inl (by rw [e]; simp)
      · exact .inr (by rw [e]; simp)
    have cl' : ∀ x y m, F x → Adj es x y m → F y := fun x y m hx h => cl x y m hx (h.elim (fun z => .inl (List.mem_append_left _ z)) fun z => .inr (List.mem_append_left _ z))
    have start : ∃ w ∈ os, F w := by
      rcases List.mem_append.mp hu with z | z
      · exact ⟨u, z, hF⟩
      · rw [List.mem_singleton.mp z] at hF
        exact ⟨a, ha, cl b a k hF cab.symm⟩
    have old := ih start cl'
    rcases List.mem_append.mp hv with z | z
    · exact old v z
    · rw [List.mem_singleton.mp z]
      exact cl a b k (old a ha) cab
theorem IsTree.all_of {pl : List Nm} {ts : List Tie} (h : IsTree pl ts) {F : Nm → Prop} {u : Nm} (hu : u ∈ pl) (hF : F u) (cl : ∀ x y k, F x → Adj ts x y k → F y) : ∀ v ∈ pl, F v := by
  obtain ⟨os, es, g, p1, p2⟩ := h
  intro v hv
  exact g.all_of ⟨u, p1.mem_iff.mp hu, hF⟩ (fun x y k hx ha => cl x y k hx (ha.perm p2.symm)) v (p1.mem_iff.mp hv)
theorem IsTree.way {pl : List Nm} {ts : List Tie} (h : IsTree pl ts) {u v : Nm} (hu : u ∈ pl) (hv : v ∈ pl) : ∃ p L, Way ts u v p L := by
  refine h.all_of (F := fun v => ∃ p L, Way ts u v p L) hu ⟨_, _, .nil⟩ (fun x y k ⟨p, L, hw⟩ ha => ?_) v hv
  by_cases hy : y ∈ p
  · obtain ⟨q, M, hq, _⟩ := hw.upto hy
    exact ⟨q, M, hq⟩
  · exact ⟨_, _, .snoc hw ha hy⟩
open Classical in
/-- the way and its length -/
noncomputable def wayOf (ts : List Tie) (u v : Nm) : List Nm × Int := if h : ∃ x : List Nm × Int, Way ts u v x.1 x.2 then h.choose else ([], 0)
noncomputable def path (ts : List Tie) (u v : Nm) : List Nm := (wayOf ts u v).1
noncomputable def dist (ts : List Tie) (u v : Nm) : Int := (wayOf ts u v).2
theorem IsTree.is_way {pl : List Nm} {ts : List Tie} (h : IsTree pl ts) {u v : Nm} {p : List Nm} {L : Int} (w : Way ts u v p L) : path ts u v = p ∧ dist ts u v = L := by
  have hx : ∃ x : List Nm × Int, Way ts u v x.1 x.2 := ⟨(p, L), w⟩
  unfold path dist wayOf
  rw [dif_pos hx]
  exact h.one_way hx.choose_spec w
theorem IsTree.the_way {pl : List Nm} {ts : List Tie} (h : IsTree pl ts) {u v : Nm} (hu : u ∈ pl) (hv : v ∈ pl) : Way ts u v (path ts u v) (dist ts u v) := by
  obtain ⟨p, L, w⟩ := h.way hu hv
  obtain ⟨e1, e2⟩ := h.is_way w
  rw [e1, e2]
  exact w
/-- the way back -/
theorem Way.cons {ts : List Tie} {u v w : Nm} {p : List Nm} {L k : Int} (ha : Adj ts w u k) (h : Way ts u v p L) (hn : w ∉ p) : Way ts w v (w :: p) (k + L) := by
  induction h with
  | nil =>
    have := Way.snoc (ts := ts) (u := w) .nil ha (by simpa using fun z => hn (by rw [z]; simp))
    simpa using this
  | @snoc v x p L m h1 hb hx ih =>
    have hn1 : w ∉ p := fun z => hn (List.mem_append_left _ z)
    have hxw : x ∉ w :: p := fun z => by
      rcases List.mem_cons.mp z with z | z
      · exact hn (by rw [z]; simp)
      · exact hx z
    have := Way.snoc (ih hn1) hb hxw
    rw [← Int.add_assoc]
    exact this
theorem Way.rev {ts : List Tie} {u v : Nm} {p : List Nm} {L : Int} (h : Way ts u v p L) : Way ts v u p.reverse L := by
  induction h with
  | nil => exact .nil
  | @snoc v w p L k h1 ha hn ih =>
    rw [List.reverse_append]
    have := Way.cons ha.symm ih (fun z => hn (List.mem_reverse.mp z))
    rw [Int.add_comm L k]
    exact this
theorem IsTree.dist_symm {pl : List Nm} {ts : List Tie} (h : IsTree pl ts) {u v : Nm} (hu : u ∈ pl) (hv : v ∈ pl) : dist ts u v = dist ts v u ∧ path ts v u = (path ts u v).reverse := by
  obtain ⟨e1, e2⟩ := h.is_way (h.the_way hu hv).rev
  exact ⟨e2.symm, e1⟩
theorem IsTree.dist_self {pl : List Nm} {ts : List Tie} (h : IsTree pl ts) (u : Nm) : dist ts u u = 0 ∧ path ts u u = [u] := by
  obtain ⟨e1, e2⟩ := h.is_way (u := u) .nil
  exact ⟨e2, e1⟩
theorem Way.nonneg {ts : List Tie} (hk : ∀ e ∈ ts, 1 ≤ e.2.2) {u v : Nm} {p : List Nm} {L : Int} (h : Way ts u v p L) : 0 ≤ L ∧ (p.length : Int) ≤ L + 1 := by
  induction h with
  | nil => simp
  | @snoc v w p L k _ ha _ ih =>
    have h1 : 1 ≤ k := ha.elim (fun z => hk _ z) fun z => hk _ z
    rw [List.length_append, List.length_singleton]
    omega
section
open PySem.Spec PyProof.Rows L2
/-! ### dicts by places -/
def dkm (fs : List Nm) (f : Nm → V) : List (Key × V) := fs.map fun l => (Sum.inr (S l), f l)
theorem dkm_get {f : Nm → V} {x : Nm} : ∀ {fs : List Nm}, x ∈ fs → valV (dkm fs f) (Sum.inr (S x)) = some (f x)
  | [], h => by simp at h
  | a :: r, h => by
    show valV ((Sum.inr (S a), f a) :: dkm r f) _ = _
    by_cases e : a = x
    · subst e
      exact valV_pos rfl
    · rw [valV_neg (fun z => e (SX.S_inj (Sum.inr.inj z)))]
      refine dkm_get ?_
      rcases List.mem_cons.mp h with z | z
      · exact absurd z.symm e
      · exact z
theorem dkm_no {f : Nm → V} {x : Nm} : ∀ {fs : List Nm}, x ∉ fs → valV (dkm fs f) (Sum.inr (S x)) = none
  | [], _ => rfl
  | a :: r, h => by
    show valV ((Sum.inr (S a), f a) :: dkm r f) _ = _
    rw [valV_neg (fun z => h (List.mem_cons.mpr (.inl (SX.S_inj (Sum.inr.inj z)).symm)))]
    exact dkm_no fun z => h (List.mem_cons.mpr (.inr z))
theorem dkm_cong {f g : Nm → V} {fs : List Nm} (h : ∀ x ∈ fs, f x = g x) : dkm fs f = dkm fs g := List.map_congr_left fun a ha => by rw [h a ha]
theorem dkm_new {f : Nm → V} {x : Nm} {v : V} {fs : List Nm} (h : x ∉ fs) : putK (dkm fs f) (Sum.inr (S x)) v = dkm (fs ++ [x]) (fun z => if z = x then v else f z) := by
  rw [putK_new _ (dkm_no h)]
  unfold dkm
  rw [List.map_append]
  have e : fs.map (fun l => ((Sum.inr (S l) : Key), f l)) = fs.map (fun l => ((Sum.inr (S l) : Key), if l = x then v else f l)) := List.map_congr_left fun a ha => by rw [if_neg (fun (z : a = x) => h (z ▸ ha))]
  rw [e]
  show _ = _ ++ [((Sum.inr (S x) : Key), if x = x then v else f x)]
  rw [if_pos rfl]
theorem dkm_some {f : Nm → V} {x : Nm} {fs : List Nm} : (valV (dkm fs f) (Sum.inr (S x))).isSome = decide (x ∈ fs) := by
  by_cases h : x ∈ fs
  · rw [dkm_get h, decide_eq_true h]
    rfl
  · rw [dkm_no h, decide_eq_false h]
    rfl
theorem tkD {H : Hp} {D : Addr} {kvs : List (Key × V)} {o : HO} (h : H D = some (.dK kvs)) : TK H (upd H D o) :=
  ⟨fun b xs z => by rw [upd_ne (ne_of z h (by intro q; cases q))]; exact z, fun b u xs z => by rw [upd_ne (ne_of z h (by intro q; cases q))]; exact z⟩
/-! ### a walk through a tree: fs come to, st to be gone on from, ex being gone on from -/
structure Wk (pl : List Nm) (ts : List Tie) (u : Nm) (fs st : List Nm) (prev : Nm → Nm) (ex : Nm → Prop) : Prop where
  nd : fs.Nodup
  sub : ∀ x ∈ fs, x ∈ pl
  sti : ∀ x ∈ st, x ∈ fs
  hu : u ∈ fs
  cl : ∀ x ∈ fs, ∀ y ∈ path ts u x, y ∈ fs
  pr : ∀ x ∈ fs, x ≠ u → prev x ∈ fs ∧ path ts u x = path ts u (prev x) ++ [x]
  done : ∀ x ∈ fs, x ∉ st → ¬ ex x → ∀ y k, Adj ts x y k → y ∈ fs
theorem Wk.start {pl : List Nm} {ts : List Tie} (h : IsTree pl ts) {u : Nm} (hu : u ∈ pl) : Wk pl ts u [u] [u] (fun _ => u) (fun _ => False) := by
  refine ⟨by simp, fun x hx => ?_, fun x hx => hx, by simp, fun x hx => ?_, fun x hx n => ?_, fun x hx n => absurd hx n⟩
  · rw [List.mem_singleton.mp hx]
    exact hu
  · rw [List.mem_singleton.mp hx, (h.dist_self u).2]
    exact fun y hy => hy
  · exact absurd (List.mem_singleton.mp hx) n
theorem Wk.pop {pl : List Nm} {ts : List Tie} {u h : Nm} {fs st : List Nm} {prev : Nm → Nm} (w : Wk pl ts u fs (st ++ [h]) prev (fun _ => False)) : h ∈ fs ∧ Wk pl ts u fs st prev (fun x => x = h) := by
  refine ⟨w.sti h (by simp), w.nd, w.sub, fun x hx => w.sti x (List.mem_append_left _ hx), w.hu, w.cl, w.pr, fun x hx n ne => w.done x hx (fun z => ?_) (fun z => z)⟩
  rcases List.mem_append.mp z with z | z
  · exact n z
  · exact ne (List.mem_singleton.mp z)
theorem Wk.push {pl : List Nm} {ts : List Tie} (tr : IsTree pl ts) {u h y : Nm} {k : Int} {fs st : List Nm} {prev : Nm → Nm} {ex : Nm → Prop} (w : Wk pl ts u fs st prev ex) (hh : h ∈ fs) (ha : Adj ts h y k) (hy : y ∉ fs) :
    dist ts u y = dist ts u h + k ∧ Wk pl ts u (fs ++ [y]) (st ++ [y]) (fun z => if z = y then h else prev z) ex := by
  have wh := tr.the_way (w.sub u w.hu) (w.sub h hh)
  have wy := Way.snoc wh ha fun z => hy (w.cl h hh y z)
  obtain ⟨e1, e2⟩ := tr.is_way wy
  have yp : y ∈ pl := by
    rcases ha with z | z
    · exact (tr.ties _ z).2.1
    · exact (tr.ties _ z).1
  refine ⟨e2, nd_snoc' w.nd hy, fun x hx => ?_, fun x hx => ?_, List.mem_append_left _ w.hu, fun x hx z hz => ?_, fun x hx n => ?_, fun x hx n ne z m hz => ?_⟩
  · rcases List.mem_append.mp hx with z | z
    · exact w.sub x z
    · rw [List.mem_singleton.mp z]
      exact yp
  · rcases List.mem_append.mp hx with z | z
    · exact List.mem_append_left _ (w.sti x z)
    · exact List.mem_append_right _ z
  · rcases List.mem_append.mp hx with q | q
    · exact List.mem_append_left _ (w.cl x q z hz)
    · rw [List.mem_singleton.mp q, e1] at hz
      rcases List.mem_append.mp hz with r | r
      · exact List.mem_append_left _ (w.cl h hh z r)
      · exact List.mem_append_right _ r
  · rcases List.mem_append.mp hx with q | q
    · have xy : x ≠ y := fun e => hy (e ▸ q)
      show (if x = y then h else prev x) ∈ fs ++ [y] ∧ path ts u x = path ts u (if x = y then h else prev x) ++ [x]
      rw [if_neg xy]
      exact ⟨List.mem_append_left _ (w.pr x q n).1, (w.pr x q n).2⟩
    · have xy := List.mem_singleton.mp q
      show (if x = y then h else prev x) ∈ fs ++ [y] ∧ path ts u x = path ts u (if x = y then h else prev x) ++ [x]
      rw [if_pos xy, xy]
      exact ⟨List.mem_append_left _ hh, e1⟩
  · rcases List.mem_append.mp hx with q | q
    · exact List.mem_append_left _ (w.done x q (fun r => n (List.mem_append_left _ r)) ne z m hz)
    · exact absurd (List.mem_append_right _ q) n
theorem Wk.shut {pl : List Nm} {ts : List Tie} {u h : Nm} {fs st : List Nm} {prev : Nm → Nm} (w : Wk pl ts u fs st prev (fun x => x = h)) (hd : ∀ y k, Adj ts h y k → y ∈ fs) : Wk pl ts u fs st prev (fun _ => False) :=
  ⟨w.nd, w.sub, w.sti, w.hu, w.cl, w.pr, fun x hx n _ y k ha => by
    by_cases e : x = h
    · rw [e] at ha
      exact hd y k ha
    · exact w.done x hx n e y k ha⟩
theorem Wk.all {pl : List Nm} {ts : List Tie} (tr : IsTree pl ts) {u : Nm} {fs : List Nm} {prev : Nm → Nm} (w : Wk pl ts u fs [] prev (fun _ => False)) : ∀ x, x ∈ fs ↔ x ∈ pl := fun x =>
  ⟨w.sub x, fun hx => tr.all_of (F := fun z => z ∈ fs) (w.sub u w.hu) w.hu (fun a b k ha hab => w.done a ha (by simp) (fun z => z) b k hab) x hx⟩
structure Fine (pl : List Nm) (ts : List Tie) : Prop where
  tree : IsTree pl ts
  ok : ∀ l ∈ pl, NameOk l
  len : pl.length ≤ 1000
theorem Fine.okT {pl : List Nm} {ts : List Tie} (F : Fine pl ts) {e : Tie} (he : e ∈ ts) : NameOk e.1 ∧ NameOk e.2.1 := by
  obtain ⟨i1, i2, _⟩ := F.tree.ties e he
  exact ⟨F.ok _ i1, F.ok _ i2⟩
theorem Fine.ne {pl : List Nm} {ts : List Tie} (F : Fine pl ts) : pl ≠ [] := fun z => by
  have := F.tree.len
  rw [z] at this
  simp at this
theorem dt_pair {H : Hp} {v : V} {d e : PyData} (h : Dt H v (.tuple [d, e])) (ne : ∀ l : Nm, e ≠ strD l) : ∃ (a : Addr) (x y : V), v = .ref a ∧ H a = some (.tup [x, y]) ∧ Dt H x d ∧ Dt H y e := by
  cases h with
  | tup ha hs =>
    cases hs with
    | cons h1 hr =>
      cases hr with
      | cons h2 hn =>
        cases hn
        exact ⟨_, _, _, rfl, ha, h1, h2⟩
  | @tupZ a pl _ o e _ _ _ =>
    exfalso
    cases pl with
    | nil => cases e
    | cons l r =>
      cases r with
      | nil => cases e
      | cons l2 r2 => exact ne l2 (List.cons.inj (List.cons.inj e).2).1
theorem dt_tup {H : Hp} {v : V} {ds : List PyData} (h : Dt H v (.tuple ds)) (ne : ds ≠ [] → ∃ d ∈ ds, ∀ l : Nm, d ≠ strD l) : ∃ (a : Addr) (xs : List V), v = .ref a ∧ H a = some (.tup xs) ∧ DtAll H xs ds := by
  cases h with
  | tup ha hs => exact ⟨_, _, rfl, ha, hs⟩
  | @tupZ a pl _ o e n _ _ =>
    exfalso
    obtain ⟨d, hd, no⟩ := ne (by rw [e]; simpa using n)
    rw [e] at hd
    obtain ⟨l, _, z⟩ := List.mem_map.mp hd
    exact no l z.symm
theorem dt_names {H : Hp} {v : V} {pl : List Nm} (h : Dt H v (.tuple (pl.map strD))) : ∃ a : Addr, v = .ref a ∧ TupAt H a ((pl.map S).map V.str) := by
  have inj : ∀ {p q : List Nm}, p.map strD = q.map strD → p = q := by
    intro p
    induction p with
    | nil =>
      intro q e
      cases q with
      | nil => rfl
      | cons _ _ => cases e
    | cons a r ih =>
      intro q e
      cases q with
      | nil => cases e
      | cons b t =>
        have e' := List.cons.inj e
        have h1 : S a = S b := PyData.str.inj e'.1
        rw [SX.S_inj h1, ih e'.2]
  generalize hd : pl.map strD = ds at h
  cases h with
  | tup ha hs =>
    subst hd
    rw [DtAll.strs hs] at ha
    exact ⟨_, rfl, .inl ha⟩
  | @tupZ a pl2 _ o e n d ha =>
    rw [← inj (hd.trans e)] at ha
    exact ⟨_, rfl, .inr ⟨o, d, ha⟩⟩
theorem tie_no (e : Tie) (l : Nm) : tieD e ≠ strD l := fun z => nomatch z
/-- a tree in the heap: its parts -/
theorem dt_tree {H : Hp} {v : V} {pl : List Nm} {ts : List Tie} (h : Dt H v (treeD pl ts)) : ∃ (t a b : Addr) (vs : List V), v = .ref t ∧ H t = some (.tup [.ref a, .ref b]) ∧ TupAt H a ((pl.map S).map V.str) ∧ H b = some (.tup vs) ∧ DtAll H vs (ts.map tieD) := by
  obtain ⟨t, x, y, rfl, ht, hx, hy⟩ := dt_pair h fun l z => nomatch z
  obtain ⟨a, rfl, ha⟩ := dt_names hx
  obtain ⟨b, vs, rfl, hb, hv⟩ := dt_tup hy fun n => by
    cases ts with
    | nil => exact absurd rfl n
    | cons e r => exact ⟨tieD e, List.mem_cons_self .., tie_no e⟩
  exact ⟨t, a, b, vs, rfl, ht, ha, hb, hv⟩
theorem dt_tie {H : Hp} {v : V} {e : Tie} (h : Dt H v (tieD e)) : ∃ t : Addr, v = .ref t ∧ H t = some (.tup [.str (S e.1), .str (S e.2.1), .int e.2.2]) := by
  obtain ⟨t, xs, rfl, ht, hs⟩ := dt_tup h fun _ => ⟨.int e.2.2, by simp [tieD], fun l z => nomatch z⟩
  cases hs with
  | cons h1 hr =>
    cases hr with
    | cons h2 hr =>
      cases hr with
      | cons h3 hr =>
        cases hr
        cases h1
        cases h2
        cases h3
        exact ⟨t, rfl, ht⟩
end
end Far

namespace Far
open PySem PySem.Spec PyProof.Rows L2
theorem same_new {H H1 : Hp} {p : Addr} {o : HO} (a : Same H H1) (n : H1 p = none) : Same H (upd H1 p o) := fun x u h => by
  rw [upd_ne (ne_of_none (a x u h) n)]
  exact a x u h
theorem same_put {H H1 : Hp} {p : Addr} {o : HO} (a : Same H H1) (n : H p = none) : Same H (upd H1 p o) := fun x u h => by
  rw [upd_ne (ne_of_none h n)]
  exact a x u h
end Far

namespace Far
open PySem PySem.Spec PyProof.Rows L2
open C8 (pss_cut tCut)
open SX (S)
structure TxtW (mg : Str → Option Value) : Prop where
  tuple : mg "tuple" = none
/-! ### the ties of each place -/
def pairD (x : Nm × Int) : PyData := .tuple [.str (S x.1), .int x.2]
theorem dt_pairD {H : Hp} {v : V} {x : Nm × Int} (h : Dt H v (pairD x)) : ∃ t : Addr, v = .ref t ∧ H t = some (.tup [.str (S x.1), .int x.2]) := by
  obtain ⟨t, a, b, rfl, ht, h1, h2⟩ := dt_pair h fun l z => nomatch z
  cases h1
  cases h2
  exact ⟨t, rfl, ht⟩
/-- at D: for each place a list of its own, of the places tied to it with the ties' lengths -/
structure BesideAt (H : Hp) (D : Addr) (pl : List Nm) (ad : Nm → Addr) (nb : Nm → List (Nm × Int)) : Prop where
  dict : H D = some (.dK (dkm pl fun l => .ref (ad l)))
  each : ∀ l ∈ pl, ∃ vs, H (ad l) = some (.lst vs) ∧ DtAll H vs ((nb l).map pairD)
  inj : ∀ l ∈ pl, ∀ m ∈ pl, ad l = ad m → l = m
def nbAdd (nb : Nm → List (Nm × Int)) (a : Nm) (x : Nm × Int) : Nm → List (Nm × Int) := fun l => if l = a then nb l ++ [x] else nb l
theorem BesideAt.keep {H H' : Hp} {D : Addr} {pl : List Nm} {ad : Nm → Addr} {nb : Nm → List (Nm × Int)} (b : BesideAt H D pl ad nb) (s : Same H H') : BesideAt H' D pl ad nb :=
  ⟨s _ _ b.dict, fun l hl => let ⟨vs, h1, h2⟩ := b.each l hl; ⟨vs, s _ _ h1, DtAll.keep (TK.of s) h2⟩, b.inj⟩
theorem BesideAt.ne {H : Hp} {D : Addr} {pl : List Nm} {ad : Nm → Addr} {nb : Nm → List (Nm × Int)} (b : BesideAt H D pl ad nb) {l : Nm} (hl : l ∈ pl) : ad l ≠ D := by
  obtain ⟨vs, h, _⟩ := b.each l hl
  exact ne_of h b.dict (by intro z; cases z)
theorem BesideAt.add {H : Hp} {D : Addr} {pl : List Nm} {ad : Nm → Addr} {nb : Nm → List (Nm × Int)} (b : BesideAt H D pl ad nb) {a : Nm} (ha : a ∈ pl) {x : Nm × Int} {v : V} {vs : List V} (hv : Dt H v (pairD x)) (hvs : H (ad a) = some (.lst vs)) :
    BesideAt (upd H (ad a) (.lst (vs ++ [v]))) D pl ad (nbAdd nb a x) := by
  have tk : TK H (upd H (ad a) (.lst (vs ++ [v]))) := TK.mut hvs
  refine ⟨by rw [upd_ne (b.ne ha).symm]; exact b.dict, fun l hl => ?_, b.inj⟩
  by_cases e : l = a
  · subst e
    obtain ⟨ws, h1, h2⟩ := b.each l hl
    rw [hvs] at h1
    cases h1
    refine ⟨_, upd_same, ?_⟩
    unfold nbAdd
    rw [if_pos rfl, List.map_append]
    exact DtAll.app (DtAll.keep tk h2) (.cons (Dt.keep tk hv) .nil)
  · obtain ⟨ws, h1, h2⟩ := b.each l hl
    refine ⟨ws, by rw [upd_ne (fun z => e (b.inj l hl a ha z))]; exact h1, ?_⟩
    unfold nbAdd
    rw [if_neg e]
    exact DtAll.keep tk h2
/-- the ties of a place, as the program takes them down -/
def nbOf : List Tie → Nm → List (Nm × Int) := List.foldl (fun nb e => nbAdd (nbAdd nb e.1 (e.2.1, e.2.2)) e.2.1 (e.1, e.2.2)) (fun _ => [])
theorem nbOf_snoc (ts : List Tie) (e : Tie) : nbOf (ts ++ [e]) = nbAdd (nbAdd (nbOf ts) e.1 (e.2.1, e.2.2)) e.2.1 (e.1, e.2.2) := by
  unfold nbOf
  rw [List.foldl_append]
  rfl
theorem list_rec_snoc {α : Type} {P : List α → Prop} (h0 : P []) (h1 : ∀ l x, P l → P (l ++ [x])) : ∀ l, P l := by
  intro l
  have : ∀ r : List α, P r.reverse := by
    intro r
    induction r with
    | nil => exact h0
    | cons x r ih =>
      rw [List.reverse_cons]
      exact h1 _ _ ih
  have q := this l.reverse
  rwa [List.reverse_reverse] at q
theorem nbAdd_mem {nb : Nm → List (Nm × Int)} {a l : Nm} {x y : Nm × Int} : y ∈ nbAdd nb a x l ↔ y ∈ nb l ∨ (l = a ∧ y = x) := by
  unfold nbAdd
  by_cases e : l = a
  · rw [if_pos e, List.mem_append, List.mem_singleton]
    simp [e]
  · rw [if_neg e]
    simp [e]
theorem nbOf_adj (ts : List Tie) : ∀ (l x : Nm) (k : Int), (x, k) ∈ nbOf ts l ↔ Adj ts l x k := by
  induction ts using list_rec_snoc with
  | h0 =>
    intro l x k
    constructor
    · intro h
      cases h
    · intro h
      rcases h with h | h <;> cases h
  | h1 ts e ih =>
    intro l x k
    rw [nbOf_snoc, nbAdd_mem, nbAdd_mem, ih]
    obtain ⟨a, b, m⟩ := e
    constructor
    · rintro ((h | ⟨h1, h2⟩) | ⟨h1, h2⟩)
      · exact h.elim (fun z => .inl (List.mem_append_left _ z)) fun z => .inr (List.mem_append_left _ z)
      · cases h2
        exact .inl (by rw [h1]; simp)
      · cases h2
        exact .inr (by rw [h1]; simp)
    · rintro (h | h) <;> rcases List.mem_append.mp h with z | z
      · exact .inl (.inl (.inl z))
      · have z := List.mem_singleton.mp z
        cases z
        exact .inl (.inr ⟨rfl, rfl⟩)
      · exact .inl (.inl (.inr z))
      · have z := List.mem_singleton.mp z
        cases z
        exact .inr ⟨rfl, rfl⟩
theorem nbAdd_len {nb : Nm → List (Nm × Int)} {a l : Nm} {x : Nm × Int} : (nbAdd nb a x l).length ≤ (nb l).length + 1 := by
  unfold nbAdd
  split
  · rw [List.length_append]
    exact Nat.le_refl _
  · omega
theorem nbOf_len (ts : List Tie) : ∀ l, (nbOf ts l).length ≤ 2 * ts.length := by
  induction ts using list_rec_snoc with
  | h0 => intro l; exact Nat.zero_le _
  | h1 ts e ih =>
    intro l
    rw [nbOf_snoc, List.length_append, List.length_singleton]
    have h1 := nbAdd_len (nb := nbAdd (nbOf ts) e.1 (e.2.1, e.2.2)) (a := e.2.1) (l := l) (x := (e.1, e.2.2))
    have h2 := nbAdd_len (nb := nbOf ts) (a := e.1) (l := l) (x := (e.2.1, e.2.2))
    have h3 := ih l
    omega
/-- another object changes -/
theorem BesideAt.off {H : Hp} {D g : Addr} {o : HO} {pl : List Nm} {ad : Nm → Addr} {nb : Nm → List (Nm × Int)} (b : BesideAt H D pl ad nb) (tk : TK H (upd H g o)) (n : D ≠ g) (na : ∀ l ∈ pl, ad l ≠ g) : BesideAt (upd H g o) D pl ad nb :=
  ⟨by rw [upd_ne n]; exact b.dict, fun l hl => let ⟨vs, h1, h2⟩ := b.each l hl; ⟨vs, by rw [upd_ne (na l hl)]; exact h1, DtAll.keep tk h2⟩, b.inj⟩
abbrev s_ties_of_each : Stmt := topS 11
abbrev N_ties_of_each : List Str := ["tree", "places", "ties", "beside", "one", "other", "length", "place"]
theorem sc_ties_of_each : FnScope N_ties_of_each ["tree"] (defScope s_ties_of_each) := ⟨rfl, rfl, rfl, by decide +kernel, rfl, by decide +kernel, by decide +kernel⟩
section
variable {P : Program} {w : World} {K : PySem.W.Frag} {mg : Str → Option Value} {base : Heap}
def spTies : Sp := fun vs H Q _ => ∃ (v : V) (pl : List Nm) (ts : List Tie), vs = [v] ∧ Dt H v (treeD pl ts) ∧ Fine pl ts ∧ ∀ (H' : Hp) (D : Addr) (ad : Nm → Addr), Same H H' → H D = none → BesideAt H' D pl ad (nbOf ts) → (∀ l ∈ pl, H (ad l) = none) → Q (.ref D) H'
theorem ok_ties_of_each {f : Addr} {fd : FuncData} (F : Fun K "_ties_of_each" "_ties_of_each" s_ties_of_each f fd) : FnOk P w K mg base CX0 1 f fd ["tree"] spTies := by
  refine F.ok sc_ties_of_each (fun vs H Q E h => ?_) (fun cdv A outer s H vs Q E hr h => ?_)
  · obtain ⟨v, pl, ts, rfl, _⟩ := h
    rfl
  · obtain ⟨v, pl, ts, rfl, hd, fine, q⟩ := h
    obtain ⟨t, a, b, vs, rfl, ht, ha, hb, hA⟩ := dt_tree hd
    refine ⟨_, (pss_cons (ps_asg (pv 0) (pg_tup rfl (pgs_cons (pg_name (i := 1) sc_ties_of_each.nd rfl (.inl rfl)) (pgs_cons (pg_name (i := 2) sc_ties_of_each.nd rfl (.inl rfl)) pgs_nil))))
      (pss_cons (ps_setDc (i := 3) (own := [("place", 7)]) (g := gName 7) (tt := tYes) rfl sc_ties_of_each.nd rfl rfl (swD_true rfl rfl rfl (by decide +kernel)) (pi_tup (pv 1)) (blkOk_by (N := N_ties_of_each) (sc := defScope s_ties_of_each) (by decide +kernel)) (fun _ _ _ _ _ => pg_name (i := 7) sc_ties_of_each.nd rfl (Or.inl rfl)) (fun _ _ _ _ _ => pts_nil) (fun _ _ _ _ _ => (pv 7)) (fun _ _ _ _ _ => (pe_lst pa_nil)))
      (pss_cut (ps_for PassesOwn.never rfl (pi_tup (pv 2)) (pg_tup rfl (pgs_cons (pg_name (i := 4) sc_ties_of_each.nd rfl (.inl rfl)) (pgs_cons (pg_name (i := 5) sc_ties_of_each.nd rfl (.inl rfl)) (pgs_cons (pg_name (i := 6) sc_ties_of_each.nd rfl (.inl rfl)) pgs_nil))))
        (pss_cons (ps_expr (pe_bm PySem.F.plainAttrs_list PySem.F.slot_list_append PySem.F.type_list_append mt_append (pe_dget (hu_of hr) (pv 3) (pv 4) (fun _ _ => rfl)) (pa_cons (pe_tup (pa_cons (pv 5) (pa_cons (pv 6) pa_nil))) pa_nil)))
        (pss_one (ps_expr (pe_bm PySem.F.plainAttrs_list PySem.F.slot_list_append PySem.F.type_list_append mt_append (pe_dget (hu_of hr) (pv 3) (pv 5) (fun _ _ => rfl)) (pa_cons (pe_tup (pa_cons (pv 4) (pa_cons (pv 6) pa_nil))) pa_nil))))))
      (pss_one (ps_ret (pv 3)))))), ?_⟩
    have nd := fine.tree.nodup
    have pl1 := fine.len
    have len := fine.tree.len
    have vl : vs.length = ts.length := by
      have := DtAll.len hA
      rwa [List.length_map] at this
    refine ⟨_, rfl, t, _, rfl, SqT.of ht, rfl, _, _, rfl, _, _, rfl, rfl, ?_⟩
    refine ⟨_, rfl, a, rfl, ⟨_, ha.sq⟩, fun D nD => ?_⟩
    have Da : D ≠ a := (ha.ne nD).symm
    refine dc_tup (K := K) (a := a) (xs := (pl.map S).map V.str) (fun i H' => ∃ ad : Nm → Addr, Same H H' ∧ BesideAt H' D (pl.take i) ad (fun _ => []) ∧ ∀ l ∈ pl.take i, H (ad l) = none) ⟨fun _ => 0, same_new (Same.refl H) nD, ⟨upd_same, fun l hl => (by cases hl), fun l hl => (by cases hl)⟩, fun l hl => (by cases hl)⟩ (fun i H' _ hP => ?_) (fun i x H' hi hP => ?_) (fun H' hP => ?_)
    · obtain ⟨_, sm, _⟩ := hP
      exact (ha.same sm).sq
    · obtain ⟨ad, sm, bs, fr⟩ := hP
      rw [List.getElem?_map, List.getElem?_map] at hi
      cases el : pl[i]? with
      | none =>
        rw [el] at hi
        cases hi
      | some l =>
        rw [el] at hi
        have ex : x = .str (S l) := (Option.some.inj hi).symm
        subst ex
        have ln : l ∉ pl.take i := fun hm => by
          obtain ⟨j, hj, ej⟩ := List.mem_take_iff_getElem.mp hm
          obtain ⟨hi', ei⟩ := List.getElem?_eq_some_iff.mp el
          have := (List.getElem_inj nd).mp (ej.trans ei.symm)
          omega
        have et : pl.take (i + 1) = pl.take i ++ [l] := by
          rw [List.take_add_one, el]
          rfl
        refine ⟨rfl, _, rfl, Nat.zero_le _, fun g ng => ?_⟩
        have gD : g ≠ D := (ne_of_none bs.dict ng).symm
        have hD : (upd H' g (.lst [])) D = some (.dK (dkm (pl.take i) fun l => .ref (ad l))) := by
          rw [upd_ne gD.symm]
          exact bs.dict
        refine ⟨_, Sum.inr (S l), rfl, hD, by unfold dkm; rw [List.length_map, List.length_take]; exact sz_lt (by omega), ?_⟩
        rw [dkm_new ln, et]
        have adg : ∀ m ∈ pl.take i, ad m ≠ g := fun m hm => by
          obtain ⟨ws, h1, _⟩ := bs.each m hm
          exact ne_of_none h1 ng
        refine ⟨fun z => if z = l then g else ad z, same_put (same_new sm ng) nD, ⟨?_, fun m hm => ?_, fun m hm m' hm' => ?_⟩, fun m hm => ?_⟩
        · rw [upd_same]
          refine congrArg (fun z => some (HO.dK z)) (dkm_cong fun z _ => ?_)
          by_cases e : z = l <;> simp [e]
        · rcases List.mem_append.mp hm with z | z
          · have ml : m ≠ l := fun e => ln (e ▸ z)
            obtain ⟨ws, h1, h2⟩ := bs.each m z
            refine ⟨ws, ?_, DtAll.keep ((TK.new ng).trans (tkD hD)) h2⟩
            rw [if_neg ml, upd_ne (bs.ne z), upd_ne (adg m z)]
            exact h1
          · rw [List.mem_singleton.mp z, if_pos rfl]
            exact ⟨[], by rw [upd_ne gD]; exact upd_same, .nil⟩
        · rcases List.mem_append.mp hm with z | z <;> rcases List.mem_append.mp hm' with y | y
          · have ml : m ≠ l := fun e => ln (e ▸ z)
            have ml' : m' ≠ l := fun e => ln (e ▸ y)
            rw [if_neg ml, if_neg ml']
            exact bs.inj m z m' y
          · have ml : m ≠ l := fun e => ln (e ▸ z)
            rw [if_neg ml, List.mem_singleton.mp y, if_pos rfl]
            exact fun e => absurd e (adg m z)
          · have ml' : m' ≠ l := fun e => ln (e ▸ y)
            rw [if_neg ml', List.mem_singleton.mp z, if_pos rfl]
            exact fun e => absurd e.symm (adg m' y)
          · rw [List.mem_singleton.mp z, List.mem_singleton.mp y]
            exact fun _ => rfl
        · rcases List.mem_append.mp hm with z | z
          · have ml : m ≠ l := fun e => ln (e ▸ z)
            show H (if m = l then g else ad m) = none
            rw [if_neg ml]
            exact fr m z
          · rw [List.mem_singleton.mp z]
            show H (if l = l then g else ad l) = none
            rw [if_pos rfl]
            exact sm.free ng
    · obtain ⟨ad, sm, bs, fr⟩ := hP
      rw [List.length_map, List.length_map, List.take_length] at bs fr
      refine ⟨fun σ2 H2 => ∃ x4 x5 x6, σ2 = [some (.ref t), some (.ref a), some (.ref b), some (.ref D), x4, x5, x6, none] ∧ Same H H2 ∧ BesideAt H2 D pl ad (nbOf ts), ?_, fun σ2 H2 hM => ?_⟩
      · refine ⟨_, rfl, b, rfl, ⟨_, SqT.of (sm _ _ hb)⟩, for_tup (K := K) (a := b) (xs := vs) (fun i σ2 H2 => ∃ x4 x5 x6, σ2 = [some (.ref t), some (.ref a), some (.ref b), some (.ref D), x4, x5, x6, none] ∧ Same H H2 ∧ BesideAt H2 D pl ad (nbOf (ts.take i)))
          ⟨none, none, none, rfl, sm, bs⟩ (fun i σ2 H2 _ hP => ?_) (fun i x σ2 H2 hi hP => ?_) (fun σ2 H2 hP => ?_)⟩
        · obtain ⟨_, _, _, _, sm, _⟩ := hP
          exact SqT.of (sm _ _ hb)
        · obtain ⟨x4, x5, x6, rfl, sm2, bs2⟩ := hP
          obtain ⟨d, hd, hx⟩ := DtAll.get hA hi
          rw [List.getElem?_map] at hd
          cases ee : ts[i]? with
          | none =>
            rw [ee] at hd
            cases hd
          | some e =>
            rw [ee] at hd
            have ed : d = tieD e := (Option.some.inj hd).symm
            subst ed
            obtain ⟨u, rfl, hu⟩ := dt_tie hx
            have em : e ∈ ts := List.mem_of_getElem? ee
            obtain ⟨i1, i2, k1, k2⟩ := fine.tree.ties e em
            have et : ts.take (i + 1) = ts.take i ++ [e] := by
              rw [List.take_add_one, ee]
              rfl
            have tl : (ts.take i).length ≤ 1000 := by
              rw [List.length_take]
              omega
            refine ⟨u, _, rfl, SqT.of (sm2 _ _ hu), rfl, _, _, rfl, _, _, rfl, _, _, rfl, rfl, ?_⟩
            -- beside[one].append
            obtain ⟨w1, g1, g2⟩ := bs2.each e.1 i1
            have l1 : w1.length = (nbOf (ts.take i) e.1).length := by
              have := DtAll.len g2
              rwa [List.length_map] at this
            have l1' := nbOf_len (ts.take i) e.1
            refine ⟨_, rfl, _, rfl, D, .ref (ad e.1), rfl, by rw [← dkm_get (f := fun l => V.ref (ad l)) i1]; exact DGet.k (k := Sum.inr (S e.1)) bs2.dict, .inl ⟨rfl, _, SqL.of g1⟩, _, rfl, _, rfl, (by show 2 ≤ sizeLine; decide), fun p np => ?_⟩
            have bs3 := bs2.keep (same_new (o := .tup [.str (S e.2.1), .int e.2.2]) (Same.refl H2) np)
            have g1' : (upd H2 p (.tup [.str (S e.2.1), .int e.2.2])) (ad e.1) = some (.lst w1) := by
              rw [upd_ne (ne_of_none g1 np)]
              exact g1
            refine ⟨_, _, _, rfl, rfl, g1', sz_lt (by omega), ?_⟩
            have bs4 := bs3.add i1 (x := (e.2.1, e.2.2)) (v := .ref p) (.tup upd_same (.cons (.str _) (.cons (.int _) .nil))) g1'
            have sm4 : Same H (upd (upd H2 p (.tup [.str (S e.2.1), .int e.2.2])) (ad e.1) (.lst (w1 ++ [.ref p]))) := same_put (same_new sm2 np) (fr _ i1)
            generalize upd (upd H2 p (.tup [.str (S e.2.1), .int e.2.2])) (ad e.1) (.lst (w1 ++ [.ref p])) = H4 at bs4 sm4
            -- beside[other].append
            obtain ⟨w2, g3, g4⟩ := bs4.each e.2.1 i2
            have l2 : w2.length = (nbAdd (nbOf (ts.take i)) e.1 (e.2.1, e.2.2) e.2.1).length := by
              have := DtAll.len g4
              rwa [List.length_map] at this
            have l2' := nbOf_len (ts.take i) e.2.1
            have l2'' := nbAdd_len (nb := nbOf (ts.take i)) (a := e.1) (l := e.2.1) (x := (e.2.1, e.2.2))
            refine ⟨_, rfl, _, rfl, D, .ref (ad e.2.1), rfl, by rw [← dkm_get (f := fun l => V.ref (ad l)) i2]; exact DGet.k (k := Sum.inr (S e.2.1)) bs4.dict, .inl ⟨rfl, _, SqL.of g3⟩, _, rfl, _, rfl, (by show 2 ≤ sizeLine; decide), fun p' np' => ?_⟩
            have bs5 := bs4.keep (same_new (o := .tup [.str (S e.1), .int e.2.2]) (Same.refl H4) np')
            have g3' : (upd H4 p' (.tup [.str (S e.1), .int e.2.2])) (ad e.2.1) = some (.lst w2) := by
              rw [upd_ne (ne_of_none g3 np')]
              exact g3
            refine ⟨_, _, _, rfl, rfl, g3', sz_lt (by omega), ?_⟩
            have bs6 := bs5.add i2 (x := (e.1, e.2.2)) (v := .ref p') (.tup upd_same (.cons (.str _) (.cons (.int _) .nil))) g3'
            refine ⟨_, _, _, rfl, same_put (same_new sm4 np') (fr _ i2), ?_⟩
            rw [et, nbOf_snoc]
            exact bs6
        · obtain ⟨x4, x5, x6, rfl, sm2, bs2⟩ := hP
          rw [vl, List.take_length] at bs2
          exact ⟨_, _, _, rfl, sm2, bs2⟩
      · obtain ⟨x4, x5, x6, rfl, sm2, bs2⟩ := hM
        exact ⟨_, rfl, q H2 D ad sm2 nD bs2 fr⟩
end
end Far

namespace Far
open PySem PySem.Spec PyProof.Rows L2
open C8 (pss_cut tCut)
open SX (S)
/-! ### a walk through a tree: fs come to, st to be gone on from, ex being gone on from -/
abbrev s_walk_from : Stmt := topS 10
abbrev N_walk_from : List Str := ["tree", "start", "beside", "back", "lengths", "ahead", "here", "place", "length"]
theorem sc_walk_from : FnScope N_walk_from ["tree", "start"] (defScope s_walk_from) := ⟨rfl, rfl, rfl, by decide +kernel, rfl, by decide +kernel, by decide +kernel⟩
section
variable {P : Program} {w : World} {K : PySem.W.Frag} {mg : Str → Option Value} {base : Heap}
/-- what a walk from u tells, at q -/
structure Walked (H : Hp) (q bk ln : Addr) (pl : List Nm) (ts : List Tie) (u : Nm) (fs : List Nm) (prev : Nm → Nm) : Prop where
  pair : H q = some (.tup [.ref bk, .ref ln])
  back : H bk = some (.dK (dkm fs fun x => .str (S (prev x))))
  lens : H ln = some (.dK (dkm fs fun x => .int (dist ts u x)))
  all : ∀ x, x ∈ fs ↔ x ∈ pl
  pr : ∀ x ∈ fs, x ≠ u → prev x ∈ fs ∧ path ts u x = path ts u (prev x) ++ [x]
def spWalk : Sp := fun vs H Q _ => ∃ (v : V) (pl : List Nm) (ts : List Tie) (u : Nm), vs = [v, .str (S u)] ∧ Dt H v (treeD pl ts) ∧ Fine pl ts ∧ u ∈ pl ∧ ∀ (H' : Hp) (q bk ln : Addr) (fs : List Nm) (prev : Nm → Nm), Same H H' → Walked H' q bk ln pl ts u fs prev → Q (.ref q) H'
theorem ok_walk_from {f : Addr} {fd : FuncData} (F : Fun K "walk_from" "walk_from" s_walk_from f fd) (C_ties_of_each : Cal P w K mg base 1 "_ties_of_each" spTies) : FnOk P w K mg base CX0 2 f fd ["tree", "start"] spWalk := by
  refine F.ok sc_walk_from (fun vs H Q E h => ?_) (fun cdv A outer s H vs Q E hr h => ?_)
  · obtain ⟨v, pl, ts, u, rfl, _⟩ := h
    rfl
  · obtain ⟨v, pl, ts, u, rfl, hd, fine, hu, q⟩ := h
    refine ⟨_, (pss_cons (ps_set (i := 2) sc_walk_from.nd rfl (.inl rfl) (pe_c C_ties_of_each hr (by decide) rfl (pa_cons (pv 0) pa_nil)))
      (pss_cons (ps_set (i := 3) sc_walk_from.nd rfl (.inl rfl) (pe_disp (pps_cons (pv 1) (pv 1) pps_nil) (by rfl) (by rfl) (fun z => by cases z) (by decide)))
      (pss_cons (ps_set (i := 4) sc_walk_from.nd rfl (.inl rfl) (pe_disp (pps_cons (pv 1) pe_int pps_nil) (by rfl) (by rfl) (fun z => by cases z) (by decide)))
      (pss_cons (ps_set (i := 5) sc_walk_from.nd rfl (.inl rfl) (pe_lst (pa_cons (pv 1) pa_nil)))
      (pss_cut (ps_while PassesOwn.never (pt_truth (pv 5) (by intro _; rfl))
        (pss_cons (ps_set (i := 6) sc_walk_from.nd rfl (.inl rfl) (pe_bm0 PySem.F.plainAttrs_list PySem.F.slot_list_pop PySem.F.type_list_pop mt_pop (pv 5)))
        (pss_one (ps_for PassesOwn.never rfl (pi_list (pe_dget (hu_of hr) (pv 2) (pv 6) (fun _ _ => rfl))) (pg_tup rfl (pgs_cons (pg_name (i := 7) sc_walk_from.nd rfl (.inl rfl)) (pgs_cons (pg_name (i := 8) sc_walk_from.nd rfl (.inl rfl)) pgs_nil)))
          (pss_one (ps_if (pt_cmp (pc_dnotin (hu_of hr) (pv 7) (pv 3)))
            (pss_cons (ps_dput (hu_of hr) (pv 3) (pv 7) (pv 6) rfl)
            (pss_cons (ps_dput (hu_of hr) (pv 4) (pv 7) (pe_op op_add (pe_dget (hu_of hr) (pv 4) (pv 6) (fun _ _ => rfl)) (pv 8)) rfl)
            (pss_one (ps_expr (pe_bm PySem.F.plainAttrs_list PySem.F.slot_list_append PySem.F.type_list_append mt_append (pv 5) (pa_cons (pv 7) pa_nil))))))
            pss_nil))))))
      (pss_one (ps_ret (pe_tup (pa_cons (pv 3) (pa_cons (pv 4) pa_nil)))))))))), ?_⟩
    have tr := fine.tree
    have pl1 := fine.len
    have tl1 := tr.len
    refine ⟨_, rfl, v, pl, ts, rfl, hd, fine, fun H1 D ad S1 nD bs fr => ?_⟩
    -- back, lengths, ahead
    refine fun bk nbk => ⟨_, rfl, _, rfl, upd_same, [(Sum.inr (S u), .str (S u))], rfl, (by decide : 1 ≤ 15), ?_⟩
    rw [upd_upd]
    have S2 := same_new (o := .dK (mergeK [] [((Sum.inr (S u) : Key), V.str (S u))])) S1 nbk
    have bs2 := bs.keep (same_new (o := .dK (mergeK [] [((Sum.inr (S u) : Key), V.str (S u))])) (Same.refl H1) nbk)
    refine fun ln nln => ⟨_, rfl, upd_same, [(Sum.inr (S u), .int 0)], rfl, (by decide : 1 ≤ 15), ?_⟩
    rw [upd_upd]
    have S3 := same_new (o := .dK (mergeK [] [((Sum.inr (S u) : Key), V.int 0)])) S2 nln
    have bs3 := bs2.keep (same_new (o := .dK (mergeK [] [((Sum.inr (S u) : Key), V.int 0)])) (Same.refl _) nln)
    refine ⟨_, rfl, (by show 1 ≤ sizeLine; decide), fun ah nah => ?_⟩
    have S4 := same_new (o := .lst [.str (S u)]) S3 nah
    have bs4 := bs3.keep (same_new (o := .lst [.str (S u)]) (Same.refl _) nah)
    have bkln : bk ≠ ln := ne_of_none upd_same nln
    have bkah : bk ≠ ah := ne_of_none (by rw [upd_ne bkln]; exact upd_same) nah
    have lnah : ln ≠ ah := ne_of_none upd_same nah
    have Dbk : D ≠ bk := ne_of_none bs.dict nbk
    have Dln : D ≠ ln := ne_of_none bs2.dict nln
    have Dah : D ≠ ah := ne_of_none bs3.dict nah
    have bk0 : H bk = none := S1.free nbk
    have ln0 : H ln = none := S2.free nln
    have ah0 : H ah = none := S3.free nah
    have adbk : ∀ l ∈ pl, ad l ≠ bk := fun l hl => let ⟨_, h1, _⟩ := bs.each l hl; ne_of_none h1 nbk
    have adln : ∀ l ∈ pl, ad l ≠ ln := fun l hl => let ⟨_, h1, _⟩ := bs2.each l hl; ne_of_none h1 nln
    have adah : ∀ l ∈ pl, ad l ≠ ah := fun l hl => let ⟨_, h1, _⟩ := bs3.each l hl; ne_of_none h1 nah
    have hbk : (upd (upd (upd H1 bk (.dK (mergeK [] [((Sum.inr (S u) : Key), V.str (S u))]))) ln (.dK (mergeK [] [((Sum.inr (S u) : Key), V.int 0)]))) ah (.lst [.str (S u)])) bk = some (.dK (dkm [u] fun x => .str (S u))) := by
      rw [upd_ne bkah, upd_ne bkln]
      exact upd_same
    have hln : (upd (upd (upd H1 bk (.dK (mergeK [] [((Sum.inr (S u) : Key), V.str (S u))]))) ln (.dK (mergeK [] [((Sum.inr (S u) : Key), V.int 0)]))) ah (.lst [.str (S u)])) ln = some (.dK (dkm [u] fun x => .int (dist ts u x))) := by
      rw [upd_ne lnah]
      refine upd_same.trans ?_
      unfold dkm
      rw [List.map_singleton]
      show some (HO.dK [((Sum.inr (S u) : Key), V.int 0)]) = some (HO.dK [((Sum.inr (S u) : Key), V.int (dist ts u u))])
      rw [(tr.dist_self u).1]
    have hah : (upd (upd (upd H1 bk (.dK (mergeK [] [((Sum.inr (S u) : Key), V.str (S u))]))) ln (.dK (mergeK [] [((Sum.inr (S u) : Key), V.int 0)]))) ah (.lst [.str (S u)])) ah = some (.lst (([u].map S).map V.str)) := upd_same
    generalize upd (upd (upd H1 bk (.dK (mergeK [] [((Sum.inr (S u) : Key), V.str (S u))]))) ln (.dK (mergeK [] [((Sum.inr (S u) : Key), V.int 0)]))) ah (.lst [.str (S u)]) = H4 at S4 bs4 hbk hln hah
    refine ⟨fun σ' H' => ∃ (fs : List Nm) (prev : Nm → Nm) (x6 x7 x8 : Option V), σ' = [some v, some (.str (S u)), some (.ref D), some (.ref bk), some (.ref ln), some (.ref ah), x6, x7, x8] ∧ Same H H' ∧ H' bk = some (.dK (dkm fs fun x => .str (S (prev x)))) ∧ H' ln = some (.dK (dkm fs fun x => .int (dist ts u x))) ∧ Wk pl ts u fs [] prev (fun _ => False), ?_, fun σ' H' hM => ?_⟩
    · refine ⟨fun m σ' H' => ∃ (fs st : List Nm) (prev : Nm → Nm) (x6 x7 x8 : Option V), σ' = [some v, some (.str (S u)), some (.ref D), some (.ref bk), some (.ref ln), some (.ref ah), x6, x7, x8] ∧ Same H H' ∧ BesideAt H' D pl ad (nbOf ts) ∧ H' bk = some (.dK (dkm fs fun x => .str (S (prev x)))) ∧ H' ln = some (.dK (dkm fs fun x => .int (dist ts u x))) ∧ H' ah = some (.lst ((st.map S).map V.str)) ∧ Wk pl ts u fs st prev (fun _ => False) ∧ st.length ≤ fs.length ∧ 2 * fs.length + m = 2 * pl.length + st.length,
        ⟨2 * pl.length - 1, [u], [u], fun _ => u, none, none, none, rfl, S4, bs4, hbk, hln, hah, Wk.start tr hu, Nat.le_refl _, by have := List.length_pos_of_mem hu; simp; omega⟩, ?_⟩
      rintro m σ2 H2 ⟨fs, st, prev, x6, x7, x8, rfl, SM, bs5, hbk5, hln5, hah5, wk, sl, em⟩
      refine ⟨_, rfl, _, .inl ⟨_, SqL.of hah5, rfl⟩, ?_⟩
      rcases List.eq_nil_or_concat st with rfl | ⟨st', h, e⟩
      · exact ⟨fs, prev, x6, x7, x8, rfl, SM, hbk5, hln5, wk⟩
      · rw [List.concat_eq_append] at e
        subst e
        have ne : ((st' ++ [h]).map S).map V.str = (st'.map S).map V.str ++ [.str (S h)] := by
          rw [List.map_append, List.map_append]
          rfl
        rw [ne] at hah5 ⊢
        have nb : (!((st'.map S).map V.str ++ [V.str (S h)]).isEmpty) = true := by simp
        rw [nb]
        refine iteT ?_
        obtain ⟨hh, wk1⟩ := wk.pop
        have hpl := wk1.sub h hh
        have fl := nodup_sub_len fs pl wk.nd wk.sub
        rw [List.length_append, List.length_singleton] at em sl
        obtain ⟨ws, hw1, hw2⟩ := bs5.each h hpl
        have wl : ws.length = (nbOf ts h).length := by
          have := DtAll.len hw2
          rwa [List.length_map] at this
        refine ⟨fun σ' H' => ∃ (fs' st'' : List Nm) (prev' : Nm → Nm) (x6 x7 x8 : Option V), σ' = [some v, some (.str (S u)), some (.ref D), some (.ref bk), some (.ref ln), some (.ref ah), x6, x7, x8] ∧ Same H H' ∧ BesideAt H' D pl ad (nbOf ts) ∧ H' bk = some (.dK (dkm fs' fun x => .str (S (prev' x)))) ∧ H' ln = some (.dK (dkm fs' fun x => .int (dist ts u x))) ∧ H' ah = some (.lst ((st''.map S).map V.str)) ∧ Wk pl ts u fs' st'' prev' (fun _ => False) ∧ fs.length ≤ fs'.length ∧ fs'.length + st'.length = fs.length + st''.length, ?_, ?_⟩
        · rintro σ' H' ⟨fs', st'', prev', y6, y7, y8, e1, e2, e3, e4, e5, e6, e7, e8, e9⟩
          have fl' := nodup_sub_len fs' pl e7.nd e7.sub
          exact ⟨2 * pl.length + st''.length - 2 * fs'.length, by omega, fs', st'', prev', y6, y7, y8, e1, e2, e3, e4, e5, e6, e7, by omega, by omega⟩
        · refine ⟨_, rfl, .inl ⟨rfl, _, SqL.of hah5⟩, ah, _, .str (S h), rfl, rfl, hah5, by simp, ?_⟩
          rw [List.dropLast_concat]
          have hbk6 : (upd H2 ah (.lst ((st'.map S).map V.str))) bk = some (.dK (dkm fs fun x => .str (S (prev x)))) := by rw [upd_ne bkah]; exact hbk5
          have hln6 : (upd H2 ah (.lst ((st'.map S).map V.str))) ln = some (.dK (dkm fs fun x => .int (dist ts u x))) := by rw [upd_ne lnah]; exact hln5
          have hw6 : (upd H2 ah (.lst ((st'.map S).map V.str))) (ad h) = some (.lst ws) := by rw [upd_ne (adah h hpl)]; exact hw1
          have SM6 : Same H (upd H2 ah (.lst ((st'.map S).map V.str))) := same_put SM ah0
          have bs6 : BesideAt (upd H2 ah (.lst ((st'.map S).map V.str))) D pl ad (nbOf ts) := bs5.off (TK.mut hah5) Dah adah
          have hah6 : (upd H2 ah (.lst ((st'.map S).map V.str))) ah = some (.lst ((st'.map S).map V.str)) := upd_same
          generalize upd H2 ah (.lst ((st'.map S).map V.str)) = H6 at hbk6 hln6 hw6 SM6 bs6 hah6
          refine ⟨_, rfl, _, rfl, D, .ref (ad h), rfl, by rw [← dkm_get (f := fun l => V.ref (ad l)) hpl]; exact DGet.k (k := Sum.inr (S h)) bs6.dict, ad h, rfl, ⟨_, SqL.of hw6⟩, for_list (K := K) (a := ad h) (xs := ws) (fun i σ' H' => ∃ (fs' st'' : List Nm) (prev' : Nm → Nm) (x7 x8 : Option V), σ' = [some v, some (.str (S u)), some (.ref D), some (.ref bk), some (.ref ln), some (.ref ah), some (.str (S h)), x7, x8] ∧ Same H H' ∧ BesideAt H' D pl ad (nbOf ts) ∧ H' (ad h) = some (.lst ws) ∧ H' bk = some (.dK (dkm fs' fun x => .str (S (prev' x)))) ∧ H' ln = some (.dK (dkm fs' fun x => .int (dist ts u x))) ∧ H' ah = some (.lst ((st''.map S).map V.str)) ∧ Wk pl ts u fs' st'' prev' (fun x => x = h) ∧ fs.length ≤ fs'.length ∧ fs'.length + st'.length = fs.length + st''.length ∧ h ∈ fs' ∧ ∀ p ∈ (nbOf ts h).take i, p.1 ∈ fs')
            ⟨fs, st', prev, x7, x8, rfl, SM6, bs6, hw6, hbk6, hln6, hah6, wk1, Nat.le_refl _, rfl, hh, fun p hp => (by cases hp)⟩ (fun i σ' H' _ hP => ?_) (fun i x σ' H' hi hP => ?_) (fun σ' H' hP => ?_)⟩
          · obtain ⟨_, _, _, _, _, _, _, _, hw, _⟩ := hP
            exact SqL.of hw
          · obtain ⟨fs', st'', prev', y7, y8, rfl, SM7, bs7, hw7, hbk7, hln7, hah7, wk7, le7, em7, hh7, nb7⟩ := hP
            obtain ⟨ws', hw', hA7⟩ := bs7.each h hpl
            rw [hw7] at hw'
            cases hw'
            obtain ⟨d, hd', hx⟩ := DtAll.get hA7 hi
            rw [List.getElem?_map] at hd'
            cases ee : (nbOf ts h)[i]? with
            | none =>
              rw [ee] at hd'
              cases hd'
            | some yk =>
              obtain ⟨y, k⟩ := yk
              rw [ee] at hd'
              have ed : d = pairD (y, k) := (Option.some.inj hd').symm
              subst ed
              obtain ⟨g, rfl, hg⟩ := dt_pairD hx
              have adj : Adj ts h y k := (nbOf_adj ts h y k).mp (List.mem_of_getElem? ee)
              have et : (nbOf ts h).take (i + 1) = (nbOf ts h).take i ++ [(y, k)] := by
                rw [List.take_add_one, ee]
                rfl
              have fl' := nodup_sub_len fs' pl wk7.nd wk7.sub
              have szf : ∀ f : Nm → V, (dkm fs' f).length < sizeLine := fun f => by
                unfold dkm
                rw [List.length_map]
                exact sz_lt (by omega)
              refine ⟨g, _, rfl, SqT.of hg, rfl, _, _, rfl, _, _, rfl, rfl, ?_⟩
              refine ⟨_, rfl, _, rfl, bk, _, rfl, DGet.k (k := Sum.inr (S y)) hbk7, _, rfl, ?_⟩
              rw [dkm_some]
              by_cases hy : y ∈ fs'
              · rw [decide_eq_true hy]
                refine iteF ⟨fs', st'', prev', _, _, rfl, SM7, bs7, hw7, hbk7, hln7, hah7, wk7, le7, em7, hh7, fun p hp => ?_⟩
                rw [et] at hp
                rcases List.mem_append.mp hp with z | z
                · exact nb7 p z
                · rw [List.mem_singleton.mp z]
                  exact hy
              · rw [decide_eq_false hy]
                refine iteT ?_
                obtain ⟨e1, wk8⟩ := wk7.push tr hh7 adj hy
                -- back[place] = here
                refine ⟨_, rfl, _, rfl, _, rfl, bk, _, rfl, DPut.k (k := Sum.inr (S y)) hbk7 (szf _), ?_⟩
                rw [dkm_new hy]
                have SM8 := same_put (o := .dK (dkm (fs' ++ [y]) fun z => if z = y then V.str (S h) else .str (S (prev' z)))) SM7 bk0
                have bs8 := bs7.off (o := .dK (dkm (fs' ++ [y]) fun z => if z = y then V.str (S h) else .str (S (prev' z)))) (tkD hbk7) Dbk adbk
                have hln8 : (upd H' bk (.dK (dkm (fs' ++ [y]) fun z => if z = y then V.str (S h) else .str (S (prev' z))))) ln = some (.dK (dkm fs' fun x => .int (dist ts u x))) := by rw [upd_ne bkln.symm]; exact hln7
                have hah8 : (upd H' bk (.dK (dkm (fs' ++ [y]) fun z => if z = y then V.str (S h) else .str (S (prev' z))))) ah = some (.lst ((st''.map S).map V.str)) := by rw [upd_ne bkah.symm]; exact hah7
                have hw8 : (upd H' bk (.dK (dkm (fs' ++ [y]) fun z => if z = y then V.str (S h) else .str (S (prev' z))))) (ad h) = some (.lst ws) := by rw [upd_ne (adbk h hpl)]; exact hw7
                have hbk8 : (upd H' bk (.dK (dkm (fs' ++ [y]) fun z => if z = y then V.str (S h) else .str (S (prev' z))))) bk = some (.dK (dkm (fs' ++ [y]) fun z => .str (S (if z = y then h else prev' z)))) := by
                  rw [upd_same]
                  exact congrArg (fun z => some (HO.dK z)) (dkm_cong fun z _ => by by_cases q : z = y <;> simp [q])
                generalize upd H' bk (.dK (dkm (fs' ++ [y]) fun z => if z = y then V.str (S h) else .str (S (prev' z)))) = H8 at SM8 bs8 hln8 hah8 hw8 hbk8
                -- lengths[place] = lengths[here] + length
                refine ⟨_, rfl, _, rfl, ln, .int (dist ts u h), rfl, by rw [← dkm_get (f := fun x => V.int (dist ts u x)) hh7]; exact DGet.k (k := Sum.inr (S h)) hln8, _, rfl, _, _, rfl, rfl, _, rfl, _, rfl, ln, _, rfl, DPut.k (k := Sum.inr (S y)) hln8 (szf _), ?_⟩
                rw [dkm_new hy]
                have SM9 := same_put (o := .dK (dkm (fs' ++ [y]) fun z => if z = y then V.int (dist ts u h + k) else .int (dist ts u z))) SM8 ln0
                have bs9 := bs8.off (o := .dK (dkm (fs' ++ [y]) fun z => if z = y then V.int (dist ts u h + k) else .int (dist ts u z))) (tkD hln8) Dln adln
                have hbk9 : (upd H8 ln (.dK (dkm (fs' ++ [y]) fun z => if z = y then V.int (dist ts u h + k) else .int (dist ts u z)))) bk = some (.dK (dkm (fs' ++ [y]) fun z => .str (S (if z = y then h else prev' z)))) := by rw [upd_ne bkln]; exact hbk8
                have hah9 : (upd H8 ln (.dK (dkm (fs' ++ [y]) fun z => if z = y then V.int (dist ts u h + k) else .int (dist ts u z)))) ah = some (.lst ((st''.map S).map V.str)) := by rw [upd_ne lnah.symm]; exact hah8
                have hw9 : (upd H8 ln (.dK (dkm (fs' ++ [y]) fun z => if z = y then V.int (dist ts u h + k) else .int (dist ts u z)))) (ad h) = some (.lst ws) := by rw [upd_ne (adln h hpl)]; exact hw8
                have hln9 : (upd H8 ln (.dK (dkm (fs' ++ [y]) fun z => if z = y then V.int (dist ts u h + k) else .int (dist ts u z)))) ln = some (.dK (dkm (fs' ++ [y]) fun z => .int (dist ts u z))) := by
                  rw [upd_same]
                  refine congrArg (fun z => some (HO.dK z)) (dkm_cong fun z _ => ?_)
                  by_cases q : z = y
                  · rw [if_pos q, q, e1]
                  · rw [if_neg q]
                generalize upd H8 ln (.dK (dkm (fs' ++ [y]) fun z => if z = y then V.int (dist ts u h + k) else .int (dist ts u z))) = H9 at SM9 bs9 hbk9 hah9 hw9 hln9
                -- ahead.append(place)
                have stl : st''.length ≤ 3000 := by omega
                refine ⟨_, rfl, .inl ⟨rfl, _, SqL.of hah9⟩, _, rfl, ah, _, _, rfl, rfl, hah9, by rw [List.length_map, List.length_map]; exact sz_lt (by omega), ?_⟩
                refine ⟨fs' ++ [y], st'' ++ [y], _, _, _, rfl, same_put SM9 ah0, bs9.off (TK.mut hah9) Dah adah, by rw [upd_ne (adah h hpl)]; exact hw9, by rw [upd_ne bkah]; exact hbk9, by rw [upd_ne lnah]; exact hln9, ?_, wk8, by rw [List.length_append]; omega, by rw [List.length_append, List.length_append]; omega, List.mem_append_left _ hh7, fun p hp => ?_⟩
                · rw [upd_same, List.map_append, List.map_append]
                  rfl
                · rw [et] at hp
                  rcases List.mem_append.mp hp with z | z
                  · exact List.mem_append_left _ (nb7 p z)
                  · rw [List.mem_singleton.mp z]
                    exact List.mem_append_right _ (List.mem_singleton.mpr rfl)
          · obtain ⟨fs', st'', prev', y7, y8, rfl, SM7, bs7, hw7, hbk7, hln7, hah7, wk7, le7, em7, hh7, nb7⟩ := hP
            refine ⟨fs', st'', prev', _, _, _, rfl, SM7, bs7, hbk7, hln7, hah7, wk7.shut fun y k ha => ?_, le7, em7⟩
            rw [wl, List.take_length] at nb7
            exact nb7 _ ((nbOf_adj ts h y k).mpr ha)
    · obtain ⟨fs, prev, x6, x7, x8, rfl, SM, hbk5, hln5, wk⟩ := hM
      refine ⟨_, rfl, _, rfl, (by show 2 ≤ sizeLine; decide), fun p np => ?_⟩
      refine q _ p bk ln fs prev (same_new SM np) ⟨upd_same, by rw [upd_ne (ne_of_none hbk5 np)]; exact hbk5, by rw [upd_ne (ne_of_none hln5 np)]; exact hln5, wk.all tr, wk.pr⟩
end
end Far

namespace Far
open PySem PySem.Spec PyProof.Rows L2
section
variable {X : Cx} {o e : Expr} {es : List Expr} {to te : TE} {ta : TA} {f : Str} {p p' p1 p2 pos : Pos}
/-- C0.__init__(self, ..), C0 an own class over ValueError without an __init__ of its own -/
theorem pe_owninit {x : Str} {C0 : Addr} {pl : Sem Bool} (hg : Gl X x) (hm : X.mg x = some (.ref C0)) (rd : PySem.W.readsIn X.K C0 (.type "type") = true) (ga : PySem.W.specialIn X.K (.ref C0) "__getattribute__" = some (some (.builtin "type.__getattribute__")))
    (vV : PySem.W.findCls X.K (.ref C0) (.type "type") "__init__" = some (.val (.builtin "ValueError.__init__"))) (ha : PA X (e :: es) ta)
    (hdb : (x == ("__debug__" : Str)) = false := by decide)
    (hc : eval (.Call (.Attribute (.Name x p1) "__init__" p2) (e :: es) [] pos) X.env = (do
      let ov ← eval (.Name x p1) X.env
      standAt p2.atName
      let (f, first) ← holding [ov] (getMethod ov "__init__" pl)
      callWith pos f first (backTo pos (starEach (e :: es) X.env)) (backToKw pos (keywordEach [] X.env))) := by rfl)
    (he : starEach (e :: es) X.env = (false, eval e X.env) :: starEach es X.env := by rfl) (hpl : (backTo pos (starEach es X.env)).any (·.1) = false := by rfl) :
    PE X (.Call (.Attribute (.Name x p1) "__init__" p2) (e :: es) [] pos) (tVeI X.K ta) := by
  refine ⟨fun pins s σ H Q I h => ?_⟩
  refine PySem.W.methodCall_KW (ld_glob I hg hm ?_ hdb) hc
  refine PySem.W.method_cls I.kIn ga ?_
  refine PySem.W.cls_value I.kIn rd vV (by decide +kernel) ?_
  show wpAny _ _ (callWith pos (Value.builtin "ValueError.__init__") [] (backTo pos (starEach (e :: es) X.env)) []) _ _ _
  refine PyProof.Rows.callWith_method1 (thn (ha.run pos pins _ σ H _ (I.tok _) h) fun us s1 ⟨vs, H1, I1, r1, a, C, ws, ev, hl, T, ea, q⟩ => ?_) he hpl
  subst ev
  cases r1 with
  | @cons _ u0 _ ur ra rw' =>
    obtain rfl : u0 = Value.ref a := ra
    have hlen : ur.length ≤ sizeLine := by
      rw [← Paired.length rw', sizeLine_eq]
      omega
    exact oinit_ok T I1 ea hlen fun s' J => ⟨.non, H1, J, rfl, q⟩
end
end Far

namespace Far
open PySem PySem.Spec PyProof.Rows L2
/-! ### except x as e: name = e, the error kept behind the suite -/
/-- an error that was caught: of the class cls, its own dict at d -/
def caughtO (a : Addr) (cls : Value) (d : Option Addr) : HO := .ext fun h => ∃ (oe : Obj) (vs : Array Value), h.get? a = some oe ∧ Zc cls d oe ∧ oe.data = .fields vs
theorem caughtO_ok {P : Program} {w : World} {H : Hp} {h : Heap} {a : Addr} {cls : Value} {d : Option Addr} {oe : Obj} {vs : Array Value} (e : h.get? a = some oe) (z : Zc cls d oe) (hd : oe.data = .fields vs) : ObjOk P w H h a (caughtO a cls d) :=
  ⟨⟨oe, vs, e, z, hd⟩, ⟨oe, e⟩, fun _ _ ⟨o, v, q, r⟩ k => ⟨o, v, k o q, r⟩⟩
theorem caughtO_at {P : Program} {w : World} {H : Hp} {h : Heap} {a : Addr} {cls : Value} {d : Option Addr} (hok : HOk P w H h) (he : H a = some (caughtO a cls d)) : ∃ (oe : Obj) (vs : Array Value), h.get? a = some oe ∧ Zc cls d oe ∧ oe.data = .fields vs := by
  have x : ObjOk P w H h a (.ext fun h => ∃ (oe : Obj) (vs : Array Value), h.get? a = some oe ∧ Zc cls d oe ∧ oe.data = .fields vs) := hok a _ he
  exact x.1
section
variable {X : Cx} {pins : List (Addr × Obj)} {σ : L2.St} {H : Hp} {s : Shared}
/-- an object that was pinned, new in this call, is tracked from here on -/
theorem adopt {a : Addr} {oe : Obj} {vs : Array Value} {cls : Value} {d : Option Addr} (I : Inv X ((a, oe) :: pins) σ H s) (z : Zc cls d oe) (hd : oe.data = .fields vs) (h0 : X.s_0.heap.get? a = none) (hp : ∀ p ∈ X.pn ++ pins, p.1 ≠ a) :
    Inv X pins σ (upd H a (caughtO a cls d)) s := by
  obtain ⟨pa, na, nL, nF, nc⟩ := I.pin (a, oe) (List.mem_append_right _ List.mem_cons_self)
  have pa : s.heap.get? a = some oe := pa
  have na : H a = none := na
  have nL : a ≠ X.env.locals := nL
  refine ⟨I.ok, I.os, I.bare, ⟨I.base.keep, I.base.slot, fun b o e n hx => ?_, I.base.there, fun b xs e => ?_, fun b o u e => ?_, fun b ps e => ?_⟩, I.loc, I.cell, ?_, fun x c e => ?_, fun p hq => ?_, ?_, I.len⟩
  · have hb : b ≠ a := fun q => by rw [q, h0] at e; cases e
    rw [upd_ne hb]
    exact I.base.free b o e n hx
  · have q := I.base.tups b xs e
    rw [upd_ne (ne_of_none q na)]
    exact q
  · have q := I.base.frzs b o u e
    rw [upd_ne (ne_of_none q na)]
    exact q
  · obtain ⟨more, q⟩ := I.base.tbls b ps e
    refine ⟨more, ?_⟩
    rw [upd_ne (ne_of_none q na)]
    exact q
  · rw [upd_ne (Ne.symm nL)]
    exact I.free
  · obtain ⟨v, hc⟩ := I.cell x c e
    have hb : c ≠ a := fun q => by
      obtain ⟨o, ho, hcl⟩ := hc
      rw [q, pa] at ho
      cases ho
      exact nc v (by first | exact hcl | exact hcl.1 | exact hcl.2)
    rw [upd_ne hb]
    exact I.freeC x c e
  · have m : p ∈ X.pn ++ ((a, oe) :: pins) := by
      rcases List.mem_append.mp hq with h | h
      · exact List.mem_append_left _ h
      · exact List.mem_append_right _ (List.mem_cons_of_mem _ h)
    obtain ⟨q1, q2, q3⟩ := I.pin p m
    exact ⟨q1, by rw [upd_ne (hp p hq)]; exact q2, q3⟩
  · exact I.hok.laidN (fun _ _ q => q) na (caughtO_ok pa z hd)
end
/-- what the clause 'except x as n: m = n' wishes of an exception of the body: slot i is n's, j is m's -/
def wKeep (K : PySem.W.Frag) (c : Value) (i j : Nat) (Wout : WX) (D : Ends) : WX := fun cls d σ H =>
  ∃ b, PySem.W.exmOne K cls c = some b ∧ (b = true → ∀ a, H a = none → D.nx (((σ.set i (some (.ref a))).set j (some (.ref a))).set i none) (upd H a (caughtO a cls d))) ∧
    (b = false → Wout cls d σ H)
section
variable {X : Cx} {x n : Str} {c : Value} {i j : Nat} {body : List Stmt} {b₀ : Stmt} {np pos pos' : Pos} {tb : WX → TS} {ts : TS} {Wout : WX}
theorem ps_try_keep (hs : X.stack = X.env :: X.outer) (hf : X.env.frame = some X.env.locals) (hex : X.ex = []) (hN : X.N.Nodup) (hi : X.N[i]? = some n) (hln : X.env.kindOf n = some .local) (hc : Names X x c) (tk : Takes X Wout)
    (hb : ∀ (W : WX) (pn : List (Addr × Obj)) (xe : Value → Shared → Prop), Takes (X.tr pn xe) W → PassesOwn (model X.prog X.w) X.A X.env xe → PSs (X.tr pn xe) body (tb W))
    (hsu : ∀ (a : Addr) (oe : Obj) (cls : Value) (d : Option Addr) (pn : List (Addr × Obj)), Zc cls d oe → (∃ vs, oe.data = .fields vs) → PSs (X.suite a ((a, oe) :: pn)) [b₀] ts)
    (hts : ∀ (D : Ends) (σ : L2.St) (H : Hp) (a : Addr), σ[i]? = some (some (.ref a)) → D.nx (σ.set j (some (.ref a))) H → ts D σ H) :
    PS X (.Try body [.ExceptHandler (some (.Name x np)) (some n) [b₀] pos'] [] [] pos) (fun D σ H => tb (wKeep X.K c i j Wout D) D σ H) := by
  refine ⟨fun pins s σ H D I h => ?_⟩
  have ok := I.ok
  have hfr : X.A.frames = some (X.env :: X.outer) := by rw [ok.frames, hs]
  have hloc : Loc X.env.scope n := .inl hln
  refine wpAny_Try_except ?_
  refine wpAny_mono ((hb (wKeep X.K c i j Wout D) (X.pn ++ pins) (fun e s₁ => wpAny (model X.prog X.w) X.A (noteFrame e X.env) (fun _ s₂ => wpAny (model X.prog X.w) X.A (setFlight e none) (fun _ s₃ =>
    wpAny (model X.prog X.w) X.A (handleBy e X.env [.ExceptHandler (some (.Name x np)) (some n) [b₀] pos']) (SP X pins D) X.xe s₃) X.xe s₂) X.xe s₁) (fun u s' xx => ?_) PassesOwn.looking).run [] s σ H D (I.toTry _) h) (fun f s1 hsp => ?_) (fun e s1 he => he)
  · obtain ⟨a, B, sI, pins', σ', H', cls, d, rfl, J', nb, up, sky, na, os, ag, b, hb1, hyes, hno⟩ := xx
    have J : Inv X pins σ' H' sI := J'.ofTry ok
    have sky' : Sky B (X.env :: X.outer) a (Zc cls d) X.env.locals s'.heap := by rw [← hs]; exact sky
    show wpAny _ X.A (noteFrame (.ref a) X.env) _ _ _
    refine Sky.land Zc.steady hfr hf sky' fun h3 fl3 up3 => ?_
    have J3 : Inv X pins σ' H' { s' with heap := h3 } := J.landed nb fl3.1 (up.trans up3) os ag
    obtain ⟨oe3, vs3, he3, hz3, hd3⟩ := fl3.there
    have notFr : ∀ {h : Heap} {o : Obj} {vs : Array Value}, h.FunFrames B (X.env :: X.outer) → h.get? a = some o → o.data = .fields vs → a ∉ frs (X.env :: X.outer) := fun {h o vs} ff e dd hm => by
      obtain ⟨_, o', e', hnf⟩ := ff.mem hm
      rw [e] at e'; cases e'
      exact hnf _ dd
    have nfr := notFr fl3.2.2.1 he3 hd3
    have nL : a ≠ X.env.locals := fun z => nfr (List.mem_filterMap.mpr ⟨X.env, List.mem_cons_self, by rw [hf, z]⟩)
    have nF : a ∉ X.fs := fun hm => by
      obtain ⟨e, he, q⟩ := List.mem_filterMap.mp hm
      exact nfr (List.mem_filterMap.mpr ⟨e, List.mem_cons_of_mem _ he, q⟩)
    have nB : B.get? a = none := fl3.2.1
    have nI : sI.heap.get? a = none := by
      cases q : sI.heap.get? a with
      | none => rfl
      | some o =>
        have := nb a o q (by rw [hs]; exact nfr)
        rw [nB] at this
        cases this
    have n0 : X.s_0.heap.get? a = none := by
      cases q : X.s_0.heap.get? a with
      | none => rfl
      | some o =>
        obtain ⟨o', q'⟩ := J.base.there a o q (by rw [hex]; intro z; cases z)
        rw [nI] at q'
        cases q'
    have nP : ∀ p ∈ X.pn ++ pins, p.1 ≠ a := fun p hp z => by
      have := (J.pin p hp).1
      rw [z, nI] at this
      cases this
    have S3 := J3.suite he3 hd3 na nL nF
    refine wpAny_handleBy_cons (codeAny_handlers_test ?_) (by intro q; cases q)
    have LT : PySem.W.Looks (model X.prog X.w) h3 (typeOf (.ref a)) cls := fun A Q E s k q => wpAny_typeOf_ref (k _ _ he3) (by rw [hz3.1]; exact q)
    have LM := PySem.W.exm_one (M := model X.prog X.w) (J3.kIn) LT hb1
    have test : ∀ {Q : Value → Shared → Prop} {E : Value → Shared → Prop}, Q c { s' with heap := h3 } → wpAny (model X.prog X.w) (X.A.mark (some (.ref a))) (eval (.Name x np) X.env) Q E { s' with heap := h3 } := fun {Q E} q => by
      obtain ⟨hg, hdbg, hm | ⟨hm, hv, hnn⟩⟩ := hc
      · exact ld_glob (X := X.suite a ((a, oe3) :: (X.pn ++ pins))) S3 hg hm q hdbg
      · exact ld_blt (X := X.suite a ((a, oe3) :: (X.pn ++ pins))) S3 hg hm hv q hnn hdbg
    refine test (LM.here ?_)
    cases b with
    | true =>
      refine codeAny_handlers_suite_as ?_
      refine HandSPX.lands_againZ fl3 fun h4 fl4 up4 => ?_
      have J4 : Inv X pins σ' H' { s' with heap := h4 } := J.landed nb fl4.1 ((up.trans up3).trans up4) os ag
      obtain ⟨oe4, vs4, he4, hz4, hd4⟩ := fl4.there
      have S4 := J4.suite he4 hd4 na nL nF
      refine store_ok (X := X.suite a ((a, oe4) :: (X.pn ++ pins))) (v := .ref a) S4 hN hi hloc rfl (fun s5 S5 => ?_) (.inr hln)
      have li : i < σ'.length := by
        rw [J4.len]
        exact (List.getElem?_eq_some_iff.mp hi).1
      have run := (hsu a oe4 cls d (X.pn ++ pins) hz4 ⟨_, hd4⟩).run [] s5 (σ'.set i (some (.ref a))) H' { nx := fun σ6 H6 => σ6 = (σ'.set i (some (.ref a))).set j (some (.ref a)) ∧ H6 = H', rt := fun _ _ => False, bk := fun _ _ => False, ct := fun _ _ => False } S5
        (hts _ _ _ a (by simp [li]) ⟨rfl, rfl⟩)
      refine wpAny_mono run (fun f s6 hsp => ?_) (fun _ _ z => False.elim z)
      have end_ : ∀ {σ6 : L2.St} {H6 : Hp} {Q : Shared → Prop}, Inv (X.suite a ((a, oe4) :: (X.pn ++ pins))) [] σ6 H6 s6 → (∀ s7, Inv X ((a, oe4) :: pins) (σ6.set i none) H6 s7 → Q s7) →
          wpAny (model X.prog X.w) X.A (do bindName X.env n .none; unbindBehindTheSuite X.env n pos') (fun _ s7 => Q s7) X.xe s6 := fun {σ6 H6 Q} S6 hq => by
        have S6' : Inv X ((a, oe4) :: pins) σ6 H6 s6 := ⟨ok, S6.os, S6.bare, S6.base, S6.loc, S6.cell, S6.free, S6.freeC, fun p hp => S6.pin p (by
          refine List.mem_append_left _ ?_
          show p ∈ (a, oe4) :: (X.pn ++ pins)
          rcases List.mem_append.mp hp with h | h
          · exact List.mem_cons_of_mem _ (List.mem_append_left _ h)
          · rcases List.mem_cons.mp h with h | h
            · rw [h]; exact List.mem_cons_self
            · exact List.mem_cons_of_mem _ (List.mem_append_right _ h)), S6.hok, S6.len⟩
        exact gone_ok S6' hN hi hln hq
      cases f with
      | next =>
        obtain ⟨σ6, H6, S6, e1, e2⟩ := hsp
        subst e1 e2
        exact end_ S6 fun s7 J7 => ⟨_, _, adopt J7 hz4 hd4 n0 nP, hyes rfl a na⟩
      | brk =>
        obtain ⟨σ6, H6, S6, q6⟩ := hsp
        exact q6.elim
      | cont =>
        obtain ⟨σ6, H6, S6, q6⟩ := hsp
        exact q6.elim
      | ret u =>
        obtain ⟨v6, σ6, H6, S6, r6, q6⟩ := hsp
        exact q6.elim
    | false =>
      show wpAny _ X.A (handleBy (.ref a) X.env []) _ _ _
      refine wpAny_handleBy_nil ?_
      obtain ⟨k1, k2, k3, oe, vs, T, oT, ts', he, hz, hd, h1, hr⟩ := id fl3
      unfold PySem.passOn
      refine wpAny_bind (wpAny_field he hd h1 ?_)
      rw [if_neg (show ¬ ((Value.ref T == Value.none) = true) from by simp)]
      have fin : wpAny (model X.prog X.w) X.A (setFlight (.ref a) X.env.frame) (fun _ s4 => wpAny (model X.prog X.w) X.A (throw (.ref a) : Sem Flow) (SP X pins D) X.xe s4) X.xe { s' with heap := h3 } := by
        rw [hf]
        refine HandSPX.setFlight_upZ fl3 fun h4 hh4 up4 => wpAny_throw (tk _ _ ?_)
        exact ⟨a, B, sI, pins, σ', H', cls, d, rfl, J, nb, (up.trans up3).trans up4, .inr (.inr (by rw [hs]; exact hh4)), na, os, ag, hno rfl⟩
      first
        | exact wpAny_bind (wpAny_pure (wpAny_bind fin))
        | exact wpAny_bind fin
  · cases f with
    | next =>
      obtain ⟨σ', H', J', q⟩ := hsp
      exact wpAny_execs_nil ⟨σ', H', J'.ofTry ok, q⟩
    | brk =>
      obtain ⟨σ', H', J', q⟩ := hsp
      exact ⟨σ', H', J'.ofTry ok, q⟩
    | cont =>
      obtain ⟨σ', H', J', q⟩ := hsp
      exact ⟨σ', H', J'.ofTry ok, q⟩
    | ret u =>
      obtain ⟨v, σ', H', J', r, q⟩ := hsp
      exact ⟨v, σ', H', J'.ofTry ok, r, q⟩
end
end Far

namespace Far
open PySem PySem.Spec PySem.Calls PyProof.Rows L2 PySem.W
section
variable {prog : Program} {w : World} {A : Around} {E : Value → Shared → Prop} {s : Shared} {K : Frag} {x D : Addr} {ox : Obj} {od : Option Obj}
theorem obj_data {C : Addr} {name : Str} {a g : Value} (hc : (clsIn K C).isSome = true) (ha : findIn K (.ref C) name = some (some a)) (hg : specialIn K a "__get__" = some (some g)) (ht : takesIn K a = some true) : findObj K C od name = some (.bind g a) := by
  obtain ⟨cd, hc⟩ := Option.isSome_iff_exists.mp hc
  unfold findObj
  rw [hc, Option.bind_some, ha, Option.bind_some]
  simp [hg, ht]
/-- the class of an own error that has a dict of its own -/
theorem cls_of_own {Q : Option Value → Shared → Prop} (T : ExcC K D) (X : K.In s.heap) (I : InstAt s.heap x ox D od) (h : Q (some (.ref D)) { s with toks := s.toks + 1 }) : wpAny (model prog w) A (getAttr? (.ref x) "__class__") Q E s := by
  have hf : findObj K D od "__class__" = some (.bind (.builtin "getset_descriptor.__get__") (.builtin "object.__class__")) := obj_data (by obtain ⟨cd, hc, _⟩ := any_some T.hd; rw [hc]; rfl) T.ha T.hn T.ht
  obtain ⟨hp, g, d, t, os⟩ := s
  have L0 := I.type (M := model prog w)
  have L1 := looks_findIn (M := model prog w) X T.hg
  have L2 := looks_findIn (M := model prog w) X T.hk
  have L3 := looks_find (M := model prog w) X I hf
  have sub : Looks (model prog w) hp (isInstance (.ref x) (.type "BaseException")) true := L0.andThen (looks_subIn X T.hs)
  have n0 : (false && onTheHeap (Value.builtin "BaseException.__getattribute__")) = false := rfl
  have n2 : (Value.builtin "BaseException.__getattribute__" == Value.builtin "object.__getattribute__") = false := by decide +kernel
  have n1 : (onTheHeap (Value.ref D) && Value.builtin "BaseException.__getattribute__" == Value.builtin "object.__getattribute__") = false := by rw [n2]; rfl
  unfold getAttr? getAttrBy? getAttrBy
  refine wpAny_bind (wpAny_mkText (wpAny_bind (wpAny_attempt (wpAny_holding (wpAny_bind (L0.at (wpAny_bind (L1.at ?_))))))))
  show wpAny _ _ (if (onTheHeap (Value.ref D) && Value.builtin "BaseException.__getattribute__" == Value.builtin "object.__getattribute__") = true then _ else _) _ _ _
  rw [n1, if_neg Bool.false_ne_true]
  unfold getAttrByItsOwn hookBefore
  refine wpAny_bind ?_
  rw [if_pos (show onTheHeap (Value.ref D) = true from rfl)]
  refine L2.at ?_
  refine wpAny_bind (wpAny_attempt (wpAny_holding ?_))
  unfold callGetattribute
  rw [n0, if_neg Bool.false_ne_true]
  unfold boundAndCalled
  rw [PySem.F.excAttr_ValueError.ga.bind (.ref x)]
  refine wpAny_bind (wpAny_pure ?_)
  show wpAny _ _ (call (.builtin "BaseException.__getattribute__") [.ref x, .str "__class__" t]) _ _ _
  refine wpAny_call (codeAny_call_builtin PySem.F.excAttr_ValueError.ga.plain PySem.F.entry_bexc_ga ?_)
  refine @check_slot (model prog w) _ _ ⟨hp, g, d, t + 1, os⟩ "BaseException.__getattribute__" "BaseException" "__getattribute__" (.ref x) [.str "__class__" t] [] _ (by decide +kernel) (by decide +kernel) sub (PySem.F.args_bexc_ga (.ref x) (.str "__class__" t)) ?_
  unfold Builtin.«object.__getattribute__»
  refine wpAny_bind (wpAny_of_eq (a := ((Value.ref x : Value), [Value.str "__class__" t])) (by first | rfl | (simp only [slotArgs]; rfl)) ?_)
  refine wpAny_bind (wpAny_pure (wpAny_bind (L0.at (wpAny_bind (L3.at ?_)))))
  show wpAny _ _ (holding [Value.builtin "object.__class__"] (call (.builtin "getset_descriptor.__get__") [.builtin "object.__class__", .ref x, .ref D]) >>= ret) _ _ _
  refine wpAny_bind (wpAny_holding (wpAny_call (class_get (s := ⟨hp, g, d, t + 1, os⟩) (ox := ox) (od := od) X I T.hm ?_)))
  refine wpAny_pure ?_
  show wpAny _ _ (handedOut (.ref D)) _ _ _
  rw [handedOut_of (v := .ref D) rfl]
  first
    | exact wpAny_pure (wpAny_pure h)
    | exact wpAny_pure h
    | exact wpAny_pure (wpAny_bind (wpAny_pure (wpAny_pure h)))
theorem kitx_own (T : ExcC K D) : KitX K (.ref x) (.ref D) (fun h => InstAt h x ox D od) where
  ty := fun _ _ _ I => I.type
  it := fun _ _ X _ => by
    obtain ⟨cdD, hcD, _⟩ := any_some T.hd
    unfold clsIn at hcD
    split at hcD
    · rename_i c' d' cd' sl' ho
      intro A' Q' E' s' k q
      unfold isType loadHead
      exact wpAny_bind (wpAny_loadPart (k _ _ (X _ _ ho)) (wpAny_pure q))
    · cases hcD
  ne := fun h tp dd its n sl X htp => by
    obtain ⟨cdD, hcD, _⟩ := any_some T.hd
    refine Bool.eq_false_iff.mpr fun q => ?_
    have e : D = tp := Value.ref.inj (beq_iff_eq.mp q)
    subst e
    unfold clsIn at hcD
    split at hcD
    · rename_i c' d' cd' sl' ho
      have z := (X _ _ ho).symm.trans htp
      cases z
    · cases hcD
  ca := fun X I k => cls_of_own T X I k
end
/-- an error that was caught, of the class at D, with its own dict at dd -/
def Caught (H : Hp) (a D dd : Addr) (fs : List (Str × V)) : Prop := H a = some (caughtO a (.ref D) (some dd)) ∧ H dd = some (.xd fs)
theorem Caught.same {H H' : Hp} {a D dd : Addr} {fs : List (Str × V)} (c : Caught H a D dd fs) (s : Same H H') : Caught H' a D dd fs := ⟨s _ _ c.1, s _ _ c.2⟩
section
variable {X : Cx} {pins : List (Addr × Obj)} {σ : L2.St} {H : Hp} {s : Shared}
theorem Caught.inst {a D dd : Addr} {fs : List (Str × V)} (c : Caught H a D dd fs) (I : Inv X pins σ H s) : ∃ (oe od : Obj) (mA : Str → Option Value), InstAt s.heap a oe D (some od) ∧ s.heap.get? dd = some od ∧ (∀ f, RelO (fs.lookup f) (mA f)) ∧ (∀ f, lookIn f od = some (mA f)) := by
  obtain ⟨oe, vs, ha, hz, hd⟩ := caughtO_at I.hok c.1
  have hx : ObjOk X.prog X.w H s.heap dd (.xd fs) := I.hok dd _ c.2
  obtain ⟨mA, hns, hr⟩ := hx
  obtain ⟨od, ho, hl⟩ := lookIn_ns hns
  exact ⟨oe, od, mA, ⟨ha, hz.1, by unfold PySem.W.notCls; rw [hd] <;> rfl, by rw [hz.2]; exact ho⟩, ho, hr, hl⟩
/-- isinstance(e, c), e a caught error that a name holds -/
def rIsC (K : PySem.W.Frag) : List V → Hp → VK → Prop := fun xs H Q => ∃ (a D dd : Addr) (fs : List (Str × V)) (c : V) (cv : Value) (b : Bool), xs = [.ref a, c] ∧ Caught H a D dd fs ∧ ExcC K D ∧ ClsV c cv ∧ PySem.W.kitOne K (.ref D) cv = some b ∧ Q (.bl b) H
theorem call_isC {X : Cx} {K : PySem.W.Frag} (eK : X.K = K := by rfl) : CallR X (.builtin "isinstance") (rIsC K) := by
  subst eK
  intro pins s σ H xs us Q I r h
  obtain ⟨a, D, dd, fs, c, cv, b, rfl, hC, T, k, e, q⟩ := h
  obtain ⟨u1, u2, rfl, r1, r2⟩ := vals2 r
  have e2 := k.eq r2
  subst e2
  cases (show u1 = Value.ref a from r1)
  obtain ⟨oe, od, mA, J, _⟩ := hC.inst I
  exact PySem.W.kia_one (kitx_own T) I.kIn J e (fun z => nomatch z) fun tk => ⟨.bl b, H, I.kept (t' := tk) fun _ _ z => z, rfl, q⟩
/-- e.f, e a caught error that a name holds -/
def tCf (K : PySem.W.Frag) (f : Str) (te : TE) : TE := fun σ H Q => te σ H fun x H1 => ∃ (a D dd : Addr) (fs : List (Str × V)) (v : V), x = .ref a ∧ Caught H1 a D dd fs ∧ XfC K D ∧ PySem.W.findIn K (.ref D) f = some none ∧ fs.lookup f = some v ∧ Q v H1
theorem pe_cf {X : Cx} {e : Expr} {te : TE} {pos : Pos} {n : Str} (he : PE X e te) (hb : attributeBase e n X.env (eval e X.env) = eval e X.env := by rfl) : PE X (.Attribute e n pos) (tCf X.K n te) := by
  refine ⟨fun pins s σ H Q I h => ?_⟩
  refine attr_of hb (thn (he.run pins s σ H _ I h) fun u s1 hh => ?_)
  obtain ⟨x, H1, I1, rx, a, D, dd, fs, v, ex, hC, T, hno, l, q⟩ := hh
  subst ex
  obtain rfl : u = Value.ref a := rx
  obtain ⟨oe, od, mA, J, ho, hr, hl⟩ := hC.inst I1
  obtain ⟨u, hu, ru⟩ := RelO.some_of (v := v) (o := mA n) (by rw [← l]; exact hr n)
  exact HandSPX.exc_get I1.kIn J T.ga T.gg T.exC (PySem.W.findObj_own T.hdC hno rfl (by rw [hl, hu])) (handed_of ru) ⟨v, H1, I1.tok _, ru, q⟩
end
end Far

namespace Far
open PySem PySem.Spec PyProof.Rows L2
open C8 (pss_cut tCut)
open SX (S)
/-- what the written part says of NoPlace (at C), of its __init__ (at fI) and of FarError (at CF) -/
structure NpC (K : PySem.W.Frag) (mg : Str → Option Value) (C fI CF : Addr) : Prop where
  oex : OexC K C
  iC : PySem.W.findIn K (.ref C) "__init__" = some (some (.ref fI))
  tI : PySem.W.typeIn K (.ref fI) = some (.type "function")
  xf : XfC K C
  exc : ExcC K C
  no : PySem.W.findIn K (.ref C) "name" = some none
  gC : mg "NoPlace" = some (.ref C)
  gF : mg "FarError" = some (.ref CF)
  rd : PySem.W.readsIn K CF (.type "type") = true
  ga : PySem.W.specialIn K (.ref CF) "__getattribute__" = some (some (.builtin "type.__getattribute__"))
  vF : PySem.W.findCls K (.ref CF) (.type "type") "__init__" = some (.val (.builtin "ValueError.__init__"))
def clsBody (s : Stmt) : List Stmt := match s with
  | .ClassDef _ _ _ b _ _ _ _ _ _ _ => b
  | _ => []
abbrev s_np_init : Stmt := (clsBody (topS 5)).getD 0 (.Pass ⟨0, 0, 0, 0⟩)
abbrev N_np_init : List Str := ["self", "name"]
theorem sc_np_init : FnScope N_np_init ["self", "name"] (defScope s_np_init) := ⟨rfl, rfl, rfl, by decide +kernel, rfl, by decide +kernel, by decide +kernel⟩
abbrev s_check_places : Stmt := topS 9
abbrev N_check_places : List Str := ["tree", "names", "name"]
theorem sc_check_places : FnScope N_check_places ["tree", "names"] (defScope s_check_places) := ⟨rfl, rfl, rfl, by decide +kernel, rfl, by decide +kernel, by decide +kernel⟩
theorem inV_strsT (l : Nm) (ls : List Nm) : inV (.str (S l)) ((ls.map S).map V.str) = decide (l ∈ ls) := inV_strs l ls
theorem pl0_of {H : Hp} {v : V} {pl : List Nm} {ts : List Tie} (h : Dt H v (treeD pl ts)) : ∃ (t a b : Addr), v = .ref t ∧ H t = some (.tup [.ref a, .ref b]) ∧ TupAt H a ((pl.map S).map V.str) := by
  obtain ⟨t, a, b, vs, e, h1, h2, _⟩ := dt_tree h
  exact ⟨t, a, b, e, h1, h2⟩
section
variable {P : Program} {w : World} {K : PySem.W.Frag} {mg : Str → Option Value} {base : Heap} {C fI CF : Addr}
def spInit (K : PySem.W.Frag) (C : Addr) : Sp := fun vs H Q _ => ∃ (a : Addr) (nm : Str), vs = [.ref a, .str nm] ∧ nm.length ≤ 1000 ∧ H a = some (exo a C none) ∧ ∀ d : Addr, H d = none → d ≠ a → Q .non (upd (upd H d (exd d [("name", .str nm)])) a (exo a C (some d)))
theorem ok_np_init (T : NpC K mg C fI CF) {fd : FuncData} (F : Fun K "__init__" "NoPlace.__init__" s_np_init fI fd) : FnOk P w K mg base (L2.CX P w) 1 fI fd ["self", "name"] (spInit K C) := by
  refine F.okX sc_np_init (fun vs H Q E h => ?_) (fun cdv A outer s H vs Q E hr h => ?_)
  · obtain ⟨a, nm, rfl, _⟩ := h
    rfl
  · obtain ⟨a, nm, rfl, hl, ha, q⟩ := h
    refine ⟨_, (pss_cons (ps_expr (pe_owninit (by rfl) T.gF T.rd T.ga T.vF (pa_cons (pv 0) (pa_cons (pe_joined (.cons (pe_fmt (pv 1)) (.cons pe_str .nil))) pa_nil)))) (pss_one (ps_ost (pv 0) (pv 1)))), ?_⟩
    refine ⟨_, rfl, _, rfl, .inl ⟨nm, rfl, Nat.le_trans hl (by decide), ?_⟩⟩
    have l1 : (Str.empty ++ nm).length ≤ 1000 := by
      rw [PySem.Str.length_append]
      show 0 + nm.length ≤ 1000
      omega
    refine ⟨nm, rfl, Nat.le_trans l1 (by decide), _, rfl, ?_, ?_⟩
    · rw [PySem.Str.length_append]
      have : (Str.ofString " is no place").length = 12 := by decide +kernel
      exact Nat.le_trans (Nat.add_le_add l1 (Nat.le_of_eq this)) (by decide)
    · refine ⟨a, C, _, rfl, (by show 1 ≤ 1000; decide), T.oex, ha, ?_⟩
      exact ⟨_, rfl, _, rfl, a, C, rfl, T.oex, T.no, .inl ⟨ha, fun d nd de => q d nd de⟩⟩
def spCheckX (C : Addr) : Sp := fun vs H Q E => ∃ (v : V) (n : Addr) (pl ns : List Nm) (ts : List Tie), vs = [v, .ref n] ∧ Dt H v (treeD pl ts) ∧ H n = some (.tup ((ns.map S).map V.str)) ∧ (∀ x ∈ ns, NameOk x) ∧ ((∀ x ∈ ns, x ∈ pl) → Q .non H) ∧
  ∀ (pre post : List Nm) (l : Nm), ns = pre ++ l :: post → (∀ x ∈ pre, x ∈ pl) → l ∉ pl → ∀ (H' : Hp) (d : Addr), Same H H' → H' d = some (.xd [("name", .str (S l))]) → E (.ref C) (some d) H'
theorem ok_check_places {f : Addr} {fd fdi : FuncData} (T : NpC K mg C fI CF) (Fi : FnOk P w K mg base (L2.CX P w) 1 fI fdi ["self", "name"] (spInit K C)) (bi : Binds K fdi ["self", "name"] []) (F : Fun K "check_places" "check_places" s_check_places f fd) : FnOk P w K mg base (L2.CX P w) 3 f fd ["tree", "names"] (spCheckX C) := by
  refine F.okX sc_check_places (fun vs H Q E h => ?_) (fun cdv A outer s H vs Q E hr h => ?_)
  · obtain ⟨v, n, pl, ns, ts, rfl, _⟩ := h
    rfl
  · obtain ⟨v, n, pl, ns, ts, rfl, hd, hn, ok, q, qE⟩ := h
    obtain ⟨t, a, b, rfl, ht, ha⟩ := pl0_of hd
    refine ⟨_, (pss_one (ps_for (passes_of rfl) rfl (pi_tup (pv 1)) (pg_name (i := 2) sc_check_places.nd rfl (.inl rfl))
        (pss_one (ps_if (pt_cmpR op_notIn_seq (pv 2) (pe_ix ix_tup (pv 0) pe_int (fun _ _ => rfl)) rfl)
          (pss_one (ps_raise rfl (takes_of rfl rfl rfl rfl) (pmk_oex T.oex T.iC T.tI Fi (hr.mono (by decide)) bi .nil passL (by rfl) T.gC (pa_cons (pv 2) pa_nil))))
          pss_nil)))), ?_⟩
    refine ⟨_, rfl, n, rfl, ⟨_, SqT.of hn⟩, for_tup (K := K) (a := n) (xs := (ns.map S).map V.str) (fun i σ' H' => (∃ x2, σ' = [some (.ref t), some (.ref n), x2]) ∧ H' = H ∧ ∀ x ∈ ns.take i, x ∈ pl) ⟨⟨_, rfl⟩, rfl, fun x hx => by cases hx⟩ (fun i σ' H' _ hP => hP.2.1 ▸ SqT.of hn) (fun i x σ' H' hi hP => ?_) (fun σ' H' hP => ?_)⟩
    · obtain ⟨⟨x2, rfl⟩, rfl, hin⟩ := hP
      have gl : ∃ l, ns[i]? = some l ∧ x = .str (S l) := by
        rw [List.getElem?_map, List.getElem?_map] at hi
        cases el : ns[i]? with
        | none => rw [el] at hi; cases hi
        | some l => rw [el] at hi; exact ⟨l, rfl, (Option.some.inj hi).symm⟩
      obtain ⟨l, el, rfl⟩ := gl
      refine ⟨_, rfl, _, rfl, t, _, 0, .ref a, rfl, rfl, SqT.of ht, atI_nat (j := 0) rfl, a, _, rfl, .inr ha.sq, rfl, flat_strs pl, _, rfl, ?_⟩
      rw [inV_strs]
      by_cases c : l ∈ pl
      · rw [decide_eq_true c]
        refine iteF ⟨⟨_, rfl⟩, rfl, fun y hy => ?_⟩
        rw [List.take_add_one, el] at hy
        rcases List.mem_append.mp hy with h | h
        · exact hin y h
        · have : y = l := by simpa using h
          rw [this]
          exact c
      · rw [decide_eq_false c]
        refine iteT ?_
        have en : ns = ns.take i ++ l :: ns.drop (i + 1) := by
          obtain ⟨hi', ei⟩ := List.getElem?_eq_some_iff.mp el
          rw [← ei, List.getElem_cons_drop hi', List.take_append_drop]
        have sl : (S l).length ≤ 1000 := by
          have := ok l (List.mem_of_getElem? el)
          rw [SX.S_len]
          exact Nat.le_trans this.2.1 (by decide)
        refine ⟨_, rfl, (by show 1 ≤ 1000; decide), fun e ne => ?_⟩
        refine ⟨e, S l, rfl, sl, upd_same, fun d nd de => ⟨rfl, d, _, upd_same, by rw [upd_ne de, upd_same], ?_, ?_⟩⟩
        · rw [upd_ne de] at nd
          exact nd
        · refine qE _ _ l en hin c _ d ?_ upd_same
          intro b o hb
          have ba : b ≠ e := ne_of_none hb ne
          have bd : b ≠ d := fun z => by
            rw [upd_ne de, ← z] at nd
            rw [hb] at nd
            cases nd
          rw [upd_ne bd, del_ne ba, upd_ne ba, upd_ne bd, upd_ne ba]
          exact hb
    · obtain ⟨⟨x2, rfl⟩, rfl, hin⟩ := hP
      rw [List.length_map, List.length_map, List.take_length] at hin
      exact q hin
end
end Far

namespace Far
open PySem PySem.Spec PyProof.Rows L2
open C8 (pss_cut tCut)
open SX (S)
/-- a def that may raise, by its promise -/
structure CalX (P : Program) (w : World) (K : PySem.W.Frag) (mg : Str → Option Value) (base : Heap) (k : Nat) (x : Str) (sp : Sp) : Prop where
  ex : ∃ (f : Addr) (fd : FuncData) (ps : List Str), FnOk P w K mg base (L2.CX P w) k f fd ps sp ∧ mg x = some (.ref f) ∧ PySem.W.keepIn K (.ref f) = true ∧ Binds K fd ps []
theorem pe_cX {X : Cx} {W : WX} {k j : Nat} {x : Str} {sp : Sp} {p pos : Pos} {e : Expr} {es : List Expr} {t : TA} (tk : Takes X W) (c : CalX X.prog X.w X.K X.mg X.base k x sp) (hr : Room j X.A) (hk : k ≤ j) (hg : Gl X x) (ha : PA X (e :: es) t)
    (hdb : (x == ("__debug__" : Str)) = false := by decide) (he : starEach (e :: es) X.env = (false, eval e X.env) :: starEach es X.env := by rfl) (hpl : (backTo pos (starEach es X.env)).any (·.1) = false := by rfl) :
    PE X (.Call (.Name x p) (e :: es) [] pos) (tCallS sp (WE W) t) := by
  obtain ⟨f, fd, ps, F, hm, kp, b⟩ := c.ex
  exact pe_callS F (hr.mono hk) hg hm kp b (fun σ => passAt tk σ) ha hdb he hpl
section
variable {P : Program} {w : World} {K : PySem.W.Frag} {mg : Str → Option Value} {base : Heap} {C fI CF : Addr}
/-- the name that is refused, the first one that is none -/
def BadOne (pl : List Nm) (u x l : Nm) : Prop := (u ∉ pl ∧ l = u) ∨ (u ∈ pl ∧ x ∉ pl ∧ l = x)
theorem bad_of {pl pre post : List Nm} {u x l : Nm} (e : [u, x] = pre ++ l :: post) (hp : ∀ y ∈ pre, y ∈ pl) (hl : l ∉ pl) : BadOne pl u x l := by
  match pre, e with
  | [], e =>
    have e1 := (List.cons.inj e).1
    exact .inl ⟨e1 ▸ hl, e1.symm⟩
  | [z], e =>
    obtain ⟨e1, e2⟩ := List.cons.inj e
    have e3 := (List.cons.inj e2).1
    exact .inr ⟨e1 ▸ hp z (by simp), e3 ▸ hl, e3.symm⟩
  | z :: y :: r, e =>
    obtain ⟨_, e2⟩ := List.cons.inj e
    obtain ⟨_, e3⟩ := List.cons.inj e2
    cases r <;> cases e3
theorem lens_body {H1 : Hp} {q bk ln : Addr} {pl fs : List Nm} {ts : List Tie} {u : Nm} {prev : Nm → Nm} (W : Walked H1 q bk ln pl ts u fs prev) {x : Nm} (hx : x ∈ pl) {H' : Hp} (s : H' ln = H1 ln) : DGet H' ln (.str (S x)) (some (.int (dist ts u x))) := by
  have e := W.lens
  rw [← s] at e
  have := DGet.k (k := Sum.inr (S x)) e
  rw [dkm_get ((W.all x).mpr hx)] at this
  exact this
end
abbrev s_length_between : Stmt := topS 8
abbrev N_length_between : List Str := ["tree", "one", "other", "_", "lengths"]
theorem sc_length_between : FnScope N_length_between ["tree", "one", "other"] (defScope s_length_between) := ⟨rfl, rfl, rfl, by decide +kernel, rfl, by decide +kernel, by decide +kernel⟩
section
variable {P : Program} {w : World} {K : PySem.W.Frag} {mg : Str → Option Value} {base : Heap} {C : Addr}
def spLenX (C : Addr) : Sp := fun vs H Q E => ∃ (v : V) (pl : List Nm) (ts : List Tie) (u x : Nm), vs = [v, .str (S u), .str (S x)] ∧ Dt H v (treeD pl ts) ∧ Fine pl ts ∧ NameOk u ∧ NameOk x ∧ (u ∈ pl → x ∈ pl → ∀ H' : Hp, Same H H' → Q (.int (dist ts u x)) H') ∧
  ∀ l, BadOne pl u x l → ∀ (H' : Hp) (d : Addr), Same H H' → H' d = some (.xd [("name", .str (S l))]) → E (.ref C) (some d) H'
theorem ok_length_between {f : Addr} {fd : FuncData} (F : Fun K "length_between" "length_between" s_length_between f fd) (C_check_places : CalX P w K mg base 3 "check_places" (spCheckX C)) (C_walk_from : Cal P w K mg base 2 "walk_from" spWalk) : FnOk P w K mg base (L2.CX P w) 4 f fd ["tree", "one", "other"] (spLenX C) := by
  refine F.okX sc_length_between (fun vs H Q E h => ?_) (fun cdv A outer s H vs Q E hr h => ?_)
  · obtain ⟨v, pl, ts, u, x, rfl, _⟩ := h
    rfl
  · obtain ⟨v, pl, ts, u, x, rfl, hd, fine, oku, okx, q, qE⟩ := h
    refine ⟨_, (pss_cons (ps_expr (pe_cX (takes_of rfl rfl rfl rfl) C_check_places hr (by decide) rfl (pa_cons (pv 0) (pa_cons (pe_tup (pa_cons (pv 1) (pa_cons (pv 2) pa_nil))) pa_nil))))
      (pss_cons (ps_asg (pe_c C_walk_from hr (by decide) rfl (pa_cons (pv 0) (pa_cons (pv 1) pa_nil))) (pg_tup rfl (pgs_cons (pg_name (i := 3) sc_length_between.nd rfl (.inl rfl)) (pgs_cons (pg_name (i := 4) sc_length_between.nd rfl (.inl rfl)) pgs_nil))))
      (pss_one (ps_ret (pe_dget (hu_of hr) (pv 4) (pv 2) (fun _ _ => rfl)))))), ?_⟩
    refine ⟨_, rfl, _, rfl, _, rfl, (by show 2 ≤ sizeLine; decide), fun p np => ?_⟩
    have s1 := same_new (o := .tup [.str (S u), .str (S x)]) (Same.refl H) np
    refine ⟨v, p, pl, [u, x], ts, rfl, Dt.keep (TK.of s1) hd, upd_same, fun y hy => ?_, fun hin => ?_, fun pre post l e hp hl H' d sm hx => qE l (bad_of e hp hl) H' d (s1.trans sm) hx⟩
    · rcases List.mem_cons.mp hy with z | z
      · exact z ▸ oku
      · exact (List.mem_singleton.mp z) ▸ okx
    have hu : u ∈ pl := hin u (by simp)
    have hx : x ∈ pl := hin x (by simp)
    have q := q hu hx
    refine ⟨_, rfl, _, rfl, v, pl, ts, u, rfl, Dt.keep (TK.of s1) hd, fine, hu, fun H1 g bk ln fs prev S1 W => ?_⟩
    refine ⟨g, _, rfl, SqT.of W.pair, rfl, _, _, rfl, _, _, rfl, rfl, ?_⟩
    exact ⟨_, rfl, _, rfl, ln, _, rfl, lens_body W hx rfl, q H1 (s1.trans S1)⟩
end
abbrev s_way_between : Stmt := topS 7
abbrev N_way_between : List Str := ["tree", "one", "other", "back", "_", "way"]
theorem sc_way_between : FnScope N_way_between ["tree", "one", "other"] (defScope s_way_between) := ⟨rfl, rfl, rfl, by decide +kernel, rfl, by decide +kernel, by decide +kernel⟩
section
variable {P : Program} {w : World} {K : PySem.W.Frag} {mg : Str → Option Value} {base : Heap} {C : Addr}
def spWayX (C : Addr) : Sp := fun vs H Q E => ∃ (v : V) (pl : List Nm) (ts : List Tie) (u x : Nm), vs = [v, .str (S u), .str (S x)] ∧ Dt H v (treeD pl ts) ∧ Fine pl ts ∧ NameOk u ∧ NameOk x ∧ (u ∈ pl → x ∈ pl → ∀ (H' : Hp) (q : Addr), Same H H' → H q = none → H' q = some (.tup (((path ts u x).map S).map V.str)) → Q (.ref q) H') ∧
  ∀ l, BadOne pl u x l → ∀ (H' : Hp) (d : Addr), Same H H' → H' d = some (.xd [("name", .str (S l))]) → E (.ref C) (some d) H'
theorem path_lenW {pl : List Nm} {ts : List Tie} (F : Fine pl ts) {u x : Nm} (hu : u ∈ pl) (hx : x ∈ pl) : (path ts u x).length ≤ 1000 := by
  have w := F.tree.the_way hu hx
  have := nodup_sub_len _ pl w.nodup (w.inside (fun e he => let ⟨a, b, _⟩ := F.tree.ties e he; ⟨a, b⟩) hu)
  have := F.len
  omega
theorem ok_way_between {f : Addr} {fd : FuncData} (F : Fun K "way_between" "way_between" s_way_between f fd) (T : TxtW mg) (C_check_places : CalX P w K mg base 3 "check_places" (spCheckX C)) (C_walk_from : Cal P w K mg base 2 "walk_from" spWalk) : FnOk P w K mg base (L2.CX P w) 4 f fd ["tree", "one", "other"] (spWayX C) := by
  refine F.okX sc_way_between (fun vs H Q E h => ?_) (fun cdv A outer s H vs Q E hr h => ?_)
  · obtain ⟨v, pl, ts, u, x, rfl, _⟩ := h
    rfl
  · obtain ⟨v, pl, ts, u, x, rfl, hd, fine, oku, okx, q, qE⟩ := h
    have tr := fine.tree
    refine ⟨_, (pss_cons (ps_expr (pe_cX (takes_of rfl rfl rfl rfl) C_check_places hr (by decide) rfl (pa_cons (pv 0) (pa_cons (pe_tup (pa_cons (pv 1) (pa_cons (pv 2) pa_nil))) pa_nil))))
      (pss_cons (ps_asg (pe_c C_walk_from hr (by decide) rfl (pa_cons (pv 0) (pa_cons (pv 2) pa_nil))) (pg_tup rfl (pgs_cons (pg_name (i := 3) sc_way_between.nd rfl (.inl rfl)) (pgs_cons (pg_name (i := 4) sc_way_between.nd rfl (.inl rfl)) pgs_nil))))
      (pss_cons (ps_set (i := 5) sc_way_between.nd rfl (.inl rfl) (pe_lst (pa_cons (pv 1) pa_nil)))
      (pss_cut (ps_while (passes_of rfl) (pt_cmpR op_ne (pe_ix ix_list (pv 5) (pe_un un_neg pe_int) (fun _ _ => rfl)) (pv 2) (nomark _))
        (pss_one (ps_expr (pe_bm PySem.F.plainAttrs_list PySem.F.slot_list_append PySem.F.type_list_append mt_append (pv 5) (pa_cons (pe_dget (hu_of hr) (pv 3) (pe_ix ix_list (pv 5) (pe_un un_neg pe_int) (fun _ _ => rfl)) (fun _ _ => rfl)) pa_nil)))))
      (pss_one (ps_ret (pe_tupleOf (by rfl) T.tuple (pv 5)))))))), ?_⟩
    refine ⟨_, rfl, _, rfl, _, rfl, (by show 2 ≤ sizeLine; decide), fun p np => ?_⟩
    have s1 := same_new (o := .tup [.str (S u), .str (S x)]) (Same.refl H) np
    refine ⟨v, p, pl, [u, x], ts, rfl, Dt.keep (TK.of s1) hd, upd_same, fun y hy => ?_, fun hin => ?_, fun pre post l e hp hl H' d sm hx => qE l (bad_of e hp hl) H' d (s1.trans sm) hx⟩
    · rcases List.mem_cons.mp hy with z | z
      · exact z ▸ oku
      · exact (List.mem_singleton.mp z) ▸ okx
    have hu : u ∈ pl := hin u (by simp)
    have hx : x ∈ pl := hin x (by simp)
    have q := q hu hx
    refine ⟨_, rfl, _, rfl, v, pl, ts, x, rfl, Dt.keep (TK.of s1) hd, fine, hx, fun H1 g bk ln fs prev S1 W => ?_⟩
    have s2 := s1.trans S1
    refine ⟨g, _, rfl, SqT.of W.pair, rfl, _, _, rfl, _, _, rfl, rfl, ?_⟩
    refine ⟨_, rfl, (by show 1 ≤ sizeLine; decide), fun wy nwy => ?_⟩
    have bw : bk ≠ wy := ne_of_none W.back nwy
    refine ⟨fun σ' H' => σ' = [some v, some (.str (S u)), some (.str (S x)), some (.ref bk), some (.ref ln), some (.ref wy)] ∧ H' = upd H1 wy (.lst (((path ts u x).map S).map V.str)), ?_, fun σ' H' hM => ?_⟩
    · refine ⟨fun m σ' H' => ∃ (w0 : List Nm) (y : Nm), σ' = [some v, some (.str (S u)), some (.str (S x)), some (.ref bk), some (.ref ln), some (.ref wy)] ∧ y ∈ pl ∧ H' = upd H1 wy (.lst ((((w0 ++ [y])).map S).map V.str)) ∧ w0 ++ (path ts x y).reverse = (path ts x u).reverse ∧ m = (path ts x y).length, ⟨_, [], u, rfl, hu, rfl, rfl, rfl⟩, ?_⟩
      rintro m σ' H' ⟨w0, y, rfl, hy, rfl, hw, rfl⟩
      have e1 : ((w0 ++ [y]).map S).map V.str = (w0.map S).map V.str ++ [.str (S y)] := by
        rw [List.map_append, List.map_append]
        rfl
      rw [e1]
      refine ⟨_, rfl, 1, rfl, wy, _, -1, .str (S y), rfl, rfl, SqL.of upd_same, atI_last _ _, _, rfl, rfl, _, rfl, ?_⟩
      have lw : w0.length ≤ 1000 := by
        have := congrArg List.length hw
        rw [List.length_append, List.length_reverse, List.length_reverse] at this
        have := path_lenW fine hx hu
        omega
      by_cases e : y = x
      · subst e
        rw [decide_eq_true rfl]
        refine iteF ⟨rfl, ?_⟩
        rw [← e1, (tr.dist_self y).2] at *
        have e3 : w0 ++ [y] = path ts u y := by
          rw [(tr.dist_symm hx hu).2, ← hw]
          rfl
        rw [e3]
      · rw [decide_eq_false (fun z => e (SX.S_inj (V.str.inj z)))]
        obtain ⟨p1, p2⟩ := W.pr y ((W.all y).mpr hy) e
        refine iteT ⟨fun σ' H' => ∃ (w0' : List Nm) (y' : Nm), σ' = [some v, some (.str (S u)), some (.str (S x)), some (.ref bk), some (.ref ln), some (.ref wy)] ∧ y' ∈ pl ∧ H' = upd H1 wy (.lst ((((w0' ++ [y'])).map S).map V.str)) ∧ w0' ++ (path ts x y').reverse = (path ts x u).reverse ∧ (path ts x y').length < (path ts x y).length, ?_, ?_⟩
        · rintro σ' H' ⟨w0', y', h1, h2, h3, h4, h5⟩
          exact ⟨_, h5, w0', y', h1, h2, h3, h4, rfl⟩
        · have hb : DGet (upd H1 wy (.lst ((w0.map S).map V.str ++ [.str (S y)]))) bk (.str (S y)) (some (.str (S (prev y)))) := by
            have e5 : (upd H1 wy (.lst ((w0.map S).map V.str ++ [V.str (S y)]))) bk = some (.dK (dkm fs fun x => .str (S (prev x)))) := by
              rw [upd_ne bw]
              exact W.back
            have := DGet.k (k := Sum.inr (S y)) e5
            rw [dkm_get ((W.all y).mpr hy)] at this
            exact this
          refine ⟨_, rfl, .inl ⟨rfl, _, SqL.of upd_same⟩, _, rfl, _, rfl, 1, rfl, wy, _, -1, .str (S y), rfl, rfl, SqL.of upd_same, atI_last _ _, bk, _, rfl, hb, wy, _, _, rfl, rfl, upd_same, by rw [List.length_append, List.length_map, List.length_map]; exact sz_lt (by simp; omega), ?_⟩
          refine ⟨w0 ++ [y], prev y, rfl, (W.all _).mp p1, ?_, ?_, ?_⟩
          · have e6 : (((w0 ++ [y]) ++ [prev y]).map S).map V.str = ((w0 ++ [y]).map S).map V.str ++ [.str (S (prev y))] := by
              rw [List.map_append, List.map_append]
              rfl
            rw [upd_upd, ← e1, e6]
          · rw [← hw, p2, List.reverse_append]
            simp
          · rw [p2]
            simp
    · obtain ⟨rfl, rfl⟩ := hM
      have s3 := same_new (o := .lst (((path ts u x).map S).map V.str)) s2 nwy
      refine ⟨_, rfl, .inl ⟨wy, _, rfl, SqL.of upd_same, fun r nr => ?_⟩⟩
      exact q _ r (same_new s3 nr) (s3.free nr) upd_same
end
end Far

namespace Far
open PySem PySem.Spec PyProof.Rows L2
open C8 (pss_cut tCut)
open SX (S)
/-- the other classes, and what isinstance says of a NoPlace -/
structure KindC (K : PySem.W.Frag) (mg : Str → Option Value) (aNoPlace aNoAsk aNoJoin aNoTree aFarError : Addr) : Prop where
  gNoPlace : mg "NoPlace" = some (.ref aNoPlace)
  gNoAsk : mg "NoAsk" = some (.ref aNoAsk)
  gNoJoin : mg "NoJoin" = some (.ref aNoJoin)
  gNoTree : mg "NoTree" = some (.ref aNoTree)
  gFarError : mg "FarError" = some (.ref aFarError)
  kAsk : PySem.W.kitOne K (.ref aNoPlace) (.ref aNoAsk) = some false
  kJoin : PySem.W.kitOne K (.ref aNoPlace) (.ref aNoJoin) = some false
  kTree : PySem.W.kitOne K (.ref aNoPlace) (.ref aNoTree) = some false
  kFar : PySem.W.kitOne K (.ref aNoPlace) (.ref aFarError) = some true
  kVE : PySem.W.kitOne K (.ref aNoPlace) (.type "ValueError") = some true
structure TxtK (mg : Str → Option Value) : Prop where
  isinstance : mg "isinstance" = none
  ValueError : mg "ValueError" = none
  int : mg "int" = none
  bool : mg "bool" = none
theorem bt_ValueError : bootBuiltins ("ValueError" : Str) = some (.type "ValueError") := by decide +kernel
abbrev s_law_kind : Stmt := topS 21
abbrev N_law_kind : List Str := ["caught", "kinds"]
theorem sc_law_kind : FnScope N_law_kind ["caught"] (defScope s_law_kind) := ⟨rfl, rfl, rfl, by decide +kernel, rfl, by decide +kernel, by decide +kernel⟩
section
variable {P : Program} {w : World} {K : PySem.W.Frag} {mg : Str → Option Value} {base : Heap} {aNoPlace aNoAsk aNoJoin aNoTree aFarError fI : Addr}
def spKind (C : Addr) : Sp := fun vs H Q _ => ∃ (a dd : Addr) (nm : Str), vs = [.ref a] ∧ Caught H a C dd [("name", .str nm)] ∧ ∀ (H' : Hp) (r : Addr), Same H H' → H' r = some (.tup [.str (Str.ofString "place"), .str nm]) → Q (.ref r) H'
theorem ok_kind {f : Addr} {fd : FuncData} (F : Fun K "_law_kind" "_law_kind" s_law_kind f fd) (T : TxtK mg) (G : KindC K mg aNoPlace aNoAsk aNoJoin aNoTree aFarError) (N : NpC K mg aNoPlace fI aFarError) : FnOk P w K mg base CX0 1 f fd ["caught"] (spKind aNoPlace) := by
  refine F.ok sc_law_kind (fun vs H Q E h => ?_) (fun cdv A outer s H vs Q E hr h => ?_)
  · obtain ⟨a, dd, nm, rfl, _⟩ := h
    rfl
  · obtain ⟨a, dd, nm, rfl, hC, q⟩ := h
    have kP : PySem.W.kitOne K (.ref aNoPlace) (.ref aNoPlace) = some true := by
      unfold PySem.W.kitOne
      rw [if_pos (by simp)]
    refine ⟨_, (pss_cons (ps_set (i := 1) sc_law_kind.nd rfl (.inl rfl) (pe_lst (pa_cons (pe_callB (call_isC (K := K)) (by rfl) T.isinstance bt_isinstance (pa_cons (pv 0) (pa_cons (pe_glob (v := .ref aNoAsk) rfl G.gNoAsk rfl) pa_nil))) (pa_cons (pe_callB (call_isC (K := K)) (by rfl) T.isinstance bt_isinstance (pa_cons (pv 0) (pa_cons (pe_glob (v := .ref aNoJoin) rfl G.gNoJoin rfl) pa_nil))) (pa_cons (pe_callB (call_isC (K := K)) (by rfl) T.isinstance bt_isinstance (pa_cons (pv 0) (pa_cons (pe_glob (v := .ref aNoPlace) rfl G.gNoPlace rfl) pa_nil))) pa_nil)))))
      (pss_cons (ps_set (i := 1) sc_law_kind.nd rfl (.inl rfl) (pe_op op_cat (pv 1) (pe_lst (pa_cons (pe_callB (call_isC (K := K)) (by rfl) T.isinstance bt_isinstance (pa_cons (pv 0) (pa_cons (pe_glob (v := .ref aNoTree) rfl G.gNoTree rfl) pa_nil))) pa_nil))))
      (pss_cut (ps_if (PW.pt (pw_or (pt_not (pt_val (pe_callB (call_isC (K := K)) (by rfl) T.isinstance bt_isinstance (pa_cons (pv 0) (pa_cons (pe_glob (v := .ref aFarError) rfl G.gFarError rfl) pa_nil))))) (pw_or (pt_not (pt_val (pe_callB (call_isC (K := K)) (by rfl) T.isinstance bt_isinstance (pa_cons (pv 0) (pa_cons (pe_bltn (v := .ty "ValueError") (by rfl) T.ValueError bt_ValueError rfl) pa_nil))))) (pw_or1 (pt_cmpR op_ne (pe_bm PySem.F.plainAttrs_list PySem.F.slot_list_count PySem.F.type_list_count mt_countV (pv 1) (pa_cons pe_bl pa_nil)) pe_int (nomark _))))))
        (pss_one (ps_ret (pe_tup (pa_cons pe_str pa_nil))))
        pss_nil)
      (pss_cut (ps_if (pt_val (pe_ix ix_list (pv 1) pe_int (fun _ _ => rfl)))
        (pss_one (ps_ret (pe_tup (pa_cons pe_str (pa_cons (pe_cf (pv 0)) pa_nil)))))
        pss_nil)
      (pss_cut (ps_if (pt_val (pe_ix ix_list (pv 1) pe_int (fun _ _ => rfl)))
        (pss_one (ps_ret (pe_ix ix_list (pe_lst (pa_cons (pe_tup (pa_cons pe_str (pa_cons (pe_cf (pv 0)) pa_nil))) (pa_cons (pe_tup (pa_cons pe_str pa_nil)) pa_nil))) (pe_callTy call_int1 (by rfl) T.int bt_int (pa_cons (pe_callB call_isi (by rfl) T.isinstance bt_isinstance (pa_cons (pe_cf (pv 0)) (pa_cons (pe_bltn (v := .ty "bool") (by rfl) T.bool bt_bool rfl) pa_nil))) pa_nil)) (fun _ _ => rfl))))
        pss_nil)
      (pss_one (ps_ret (pe_tup (pa_cons (pe_ix ix_list (pe_lst (pa_cons pe_str (pa_cons pe_str pa_nil))) (pe_bm PySem.F.plainAttrs_list PySem.F.slot_list_index PySem.F.type_list_index mt_index (pv 1) (pa_cons pe_bl pa_nil)) (fun _ _ => rfl)) pa_nil))))))))), ?_⟩
    refine ⟨_, rfl, a, aNoPlace, dd, _, .ref aNoAsk, .ref aNoAsk, false, rfl, hC, N.exc, .own _, G.kAsk, ?_⟩
    refine ⟨_, rfl, a, aNoPlace, dd, _, .ref aNoJoin, .ref aNoJoin, false, rfl, hC, N.exc, .own _, G.kJoin, ?_⟩
    refine ⟨_, rfl, a, aNoPlace, dd, _, .ref aNoPlace, .ref aNoPlace, true, rfl, hC, N.exc, .own _, kP, ?_⟩
    refine ⟨(by show 3 ≤ sizeLine; decide), fun p np => ?_⟩
    have S1 := same_new (o := .lst [.bl false, .bl false, .bl true]) (Same.refl H) np
    have hp : (upd H p (.lst [.bl false, .bl false, .bl true])) p = some (.lst [.bl false, .bl false, .bl true]) := upd_same
    generalize upd H p (.lst [.bl false, .bl false, .bl true]) = H1 at S1 hp
    refine ⟨_, rfl, _, rfl, a, aNoPlace, dd, _, .ref aNoTree, .ref aNoTree, false, rfl, hC.same S1, N.exc, .own _, G.kTree, ?_⟩
    refine ⟨(by show 1 ≤ sizeLine; decide), fun p2 np2 => ?_⟩
    refine ⟨p, p2, _, _, rfl, rfl, by rw [upd_ne (ne_of_none hp np2)]; exact hp, upd_same, (by show 4 ≤ sizeLine; decide), fun r nr => ?_⟩
    have S2 := same_new (o := .lst ([.bl false, .bl false, .bl true] ++ [.bl false])) (same_new (o := .lst [.bl false]) S1 np2) nr
    have hr' : (upd (upd H1 p2 (.lst [.bl false])) r (.lst ([.bl false, .bl false, .bl true] ++ [.bl false]))) r = some (.lst [.bl false, .bl false, .bl true, .bl false]) := upd_same
    generalize upd (upd H1 p2 (.lst [.bl false])) r (.lst ([.bl false, .bl false, .bl true] ++ [.bl false])) = H2 at S2 hr'
    have hC2 := hC.same S2
    refine ⟨fun σ' H' => σ' = [some (.ref a), some (.ref r)] ∧ H' = H2, ?_, fun σ' H' hM => ?_⟩
    · refine ⟨_, rfl, a, aNoPlace, dd, _, .ref aFarError, .ref aFarError, true, rfl, hC2, N.exc, .own _, G.kFar, _, rfl, iteF ?_⟩
      refine ⟨_, rfl, a, aNoPlace, dd, _, .ty "ValueError", .type "ValueError", true, rfl, hC2, N.exc, .ty _, G.kVE, _, rfl, iteF ?_⟩
      refine ⟨_, rfl, .inl ⟨rfl, _, SqL.of hr'⟩, r, _, .bl true, rfl, rfl, SqL.of hr', rfl, rfl, rfl, _, rfl, ?_⟩
      exact iteF ⟨rfl, rfl⟩
    · obtain ⟨rfl, rfl⟩ := hM
      refine ⟨fun σ'' H'' => False, ?_, fun σ'' H'' hM => hM.elim⟩
      refine ⟨_, rfl, r, _, 2, .bl true, rfl, rfl, SqL.of hr', rfl, _, rfl, iteT ?_⟩
      refine ⟨_, rfl, a, aNoPlace, dd, _, .str nm, rfl, hC2, N.xf, N.no, rfl, (by show 2 ≤ sizeLine; decide), fun e ne => ?_⟩
      exact q _ e (same_new S2 ne) upd_same
end
end Far

namespace Far
open PySem PySem.Spec PyProof.Rows L2
open C8 (pss_cut tCut)
open SX (S)
theorem cat_any {K : PySem.W.Frag} {H : Hp} {a b : Addr} {xs ys : List V} {Q : VK} (ha : H a = some (.tup xs)) (hb : H b = some (.tup ys)) (l : xs.length + ys.length ≤ sizeLine) (k : ∀ p H', Same H H' → H' p = some (.tup (xs ++ ys)) → Q (.ref p) H') : rCatA K (.ref a) (.ref b) H Q :=
  ⟨a, b, xs, ys, rfl, rfl, SqT.of ha, SqT.of hb, l, fun e => k b H (Same.refl _) (by rw [e]; exact hb), fun _ e => k a H (Same.refl _) (by rw [e, List.append_nil]; exact ha), fun _ _ p n => k p _ (same_new (Same.refl _) n) upd_same⟩
theorem path_len {pl : List Nm} {ts : List Tie} (F : Fine pl ts) {u x : Nm} (hu : u ∈ pl) (hx : x ∈ pl) : (path ts u x).length ≤ pl.length := by
  have w := F.tree.the_way hu hx
  exact nodup_sub_len _ pl w.nodup (w.inside (fun e he => let ⟨a, b, _⟩ := F.tree.ties e he; ⟨a, b⟩) hu)
abbrev s_law_lengths : Stmt := topS 19
abbrev N_law_lengths : List Str := ["tree", "place", "found", "turn", "one", "other", "length", "here", "there"]
theorem sc_law_lengths : FnScope N_law_lengths ["tree", "place"] (defScope s_law_lengths) := ⟨rfl, rfl, rfl, by decide +kernel, rfl, by decide +kernel, by decide +kernel⟩
/-- fs: places come to, with all that lie on their ways -/
structure Kn (pl : List Nm) (ts : List Tie) (u : Nm) (fs : List Nm) : Prop where
  nd : fs.Nodup
  sub : ∀ x ∈ fs, x ∈ pl
  hu : u ∈ fs
  cl : ∀ x ∈ fs, ∀ y ∈ path ts u x, y ∈ fs
theorem Kn.push {pl : List Nm} {ts : List Tie} (tr : IsTree pl ts) {u h y : Nm} {k : Int} {fs : List Nm} (w : Kn pl ts u fs) (hh : h ∈ fs) (ha : Adj ts h y k) (hy : y ∉ fs) : dist ts u y = dist ts u h + k ∧ path ts u y = path ts u h ++ [y] ∧ Kn pl ts u (fs ++ [y]) := by
  have wh := tr.the_way (w.sub u w.hu) (w.sub h hh)
  have wy := Way.snoc wh ha fun z => hy (w.cl h hh y z)
  obtain ⟨e1, e2⟩ := tr.is_way wy
  have yp : y ∈ pl := by
    rcases ha with z | z
    · exact (tr.ties _ z).2.1
    · exact (tr.ties _ z).1
  refine ⟨e2, e1, nd_snoc' w.nd hy, fun x hx => ?_, List.mem_append_left _ w.hu, fun x hx z hz => ?_⟩
  · rcases List.mem_append.mp hx with z | z
    · exact w.sub x z
    · rw [List.mem_singleton.mp z]
      exact yp
  · rcases List.mem_append.mp hx with q | q
    · exact List.mem_append_left _ (w.cl x q z hz)
    · rw [List.mem_singleton.mp q, e1] at hz
      rcases List.mem_append.mp hz with r | r
      · exact List.mem_append_left _ (w.cl h hh z r)
      · exact List.mem_append_right _ r
/-- all places at most so many behind the first are come to -/
def Rd (pl : List Nm) (ts : List Tie) (u : Nm) (r : Nat) (fs : List Nm) : Prop := ∀ x ∈ pl, (path ts u x).length ≤ r + 1 → x ∈ fs
def NbG (l : List Tie) (ts : List Tie) (u : Nm) (r : Nat) (fs : List Nm) : Prop := ∀ e ∈ l, ((path ts u e.1).length ≤ r + 1 → e.2.1 ∈ fs) ∧ ((path ts u e.2.1).length ≤ r + 1 → e.1 ∈ fs)
theorem Rd.more {pl : List Nm} {ts : List Tie} {u y : Nm} {r : Nat} {fs : List Nm} (h : Rd pl ts u r fs) : Rd pl ts u r (fs ++ [y]) := fun x hx l => List.mem_append_left _ (h x hx l)
theorem Rd.next {pl : List Nm} {ts : List Tie} (tr : IsTree pl ts) {u : Nm} (hu : u ∈ pl) {r : Nat} {fs : List Nm} (h : Rd pl ts u r fs) (n : NbG ts ts u r fs) : Rd pl ts u (r + 1) fs := fun x hx l => by
  by_cases q : (path ts u x).length ≤ r + 1
  · exact h x hx q
  have w := tr.the_way hu hx
  generalize hp : path ts u x = p at w q l
  generalize dist ts u x = L at w
  cases w with
  | nil => exact absurd (show [u].length ≤ r + 1 by simp) q
  | @snoc v w p L k w1 ha hn =>
    have e1 := (tr.is_way w1).1
    rw [List.length_append, List.length_singleton] at l
    rcases ha with z | z
    · exact (n _ z).1 (by rw [e1]; omega)
    · exact (n _ z).2 (by rw [e1]; omega)
structure WaysAt (H0 H' : Hp) (D : Addr) (ts : List Tie) (u : Nm) (fs : List Nm) (ad pw : Nm → Addr) : Prop where
  same : Same H0 H'
  new : H0 D = none
  dict : H' D = some (.dK (dkm fs fun x => .ref (ad x)))
  val : ∀ x ∈ fs, H' (ad x) = some (.tup [.ref (pw x), .int (dist ts u x)]) ∧ H' (pw x) = some (.tup (((path ts u x).map S).map V.str))
theorem WaysAt.keep {H0 H' H1 : Hp} {D : Addr} {ts : List Tie} {u : Nm} {fs : List Nm} {ad pw : Nm → Addr} (w : WaysAt H0 H' D ts u fs ad pw) (s : Same H' H1) : WaysAt H0 H1 D ts u fs ad pw :=
  ⟨w.same.trans s, w.new, s _ _ w.dict, fun x hx => ⟨s _ _ (w.val x hx).1, s _ _ (w.val x hx).2⟩⟩
theorem WaysAt.add {H0 H' : Hp} {D p q : Addr} {ts : List Tie} {u y : Nm} {n : Int} {fs : List Nm} {ad pw : Nm → Addr} (w : WaysAt H0 H' D ts u fs ad pw) (hy : y ∉ fs) (e : dist ts u y = n) (hq : H' q = some (.tup [.ref p, .int n])) (hp : H' p = some (.tup (((path ts u y).map S).map V.str))) :
    WaysAt H0 (upd H' D (.dK (dkm (fs ++ [y]) fun z => if z = y then V.ref q else .ref (ad z)))) D ts u (fs ++ [y]) (fun z => if z = y then q else ad z) (fun z => if z = y then p else pw z) := by
  have nt : ∀ {b : Addr} {xs : List V}, H' b = some (.tup xs) → b ≠ D := fun h => ne_of h w.dict (by intro z; cases z)
  refine ⟨same_put w.same w.new, w.new, ?_, fun x hx => ?_⟩
  · rw [upd_same]
    refine congrArg (fun z => some (HO.dK z)) (dkm_cong fun z _ => ?_)
    by_cases h : z = y
    · rw [if_pos h, if_pos h]
    · rw [if_neg h, if_neg h]
  · rcases List.mem_append.mp hx with z | z
    · have xy : x ≠ y := fun r => hy (r ▸ z)
      obtain ⟨v1, v2⟩ := w.val x z
      show upd H' D _ (if x = y then q else ad x) = some (.tup [.ref (if x = y then p else pw x), _]) ∧ upd H' D _ (if x = y then p else pw x) = _
      rw [if_neg xy, if_neg xy, upd_ne (nt v1), upd_ne (nt v2)]
      exact ⟨v1, v2⟩
    · have xy := List.mem_singleton.mp z
      show upd H' D _ (if x = y then q else ad x) = some (.tup [.ref (if x = y then p else pw x), _]) ∧ upd H' D _ (if x = y then p else pw x) = _
      rw [if_pos xy, if_pos xy, upd_ne (nt hq), upd_ne (nt hp), xy, e]
      exact ⟨hq, hp⟩
structure TxtL (mg : Str → Option Value) : Prop where
  range : mg "range" = none
  len : mg "len" = none
section
variable {P : Program} {w : World} {K : PySem.W.Frag} {mg : Str → Option Value} {base : Heap}
def spWaysTo : Sp := fun vs H Q _ => ∃ (v : V) (pl : List Nm) (ts : List Tie) (u : Nm), vs = [v, .str (S u)] ∧ Dt H v (treeD pl ts) ∧ Fine pl ts ∧ u ∈ pl ∧ ∀ (H' : Hp) (D : Addr) (fs : List Nm) (ad pw : Nm → Addr), WaysAt H H' D ts u fs ad pw → (∀ x ∈ pl, x ∈ fs) → Q (.ref D) H'
theorem ok_ways_to {f : Addr} {fd : FuncData} (F : Fun K "_law_lengths" "_law_lengths" s_law_lengths f fd) (T : TxtL mg) : FnOk P w K mg base CX0 2 f fd ["tree", "place"] spWaysTo := by
  refine F.ok sc_law_lengths (fun vs H Q E h => ?_) (fun cdv A outer s H vs Q E hr h => ?_)
  · obtain ⟨v, pl, ts, u, rfl, _⟩ := h
    rfl
  · obtain ⟨v, pl, ts, u, rfl, hd, fine, hu, q⟩ := h
    obtain ⟨t, a, b, vs, rfl, ht, ha, hb, hA⟩ := dt_tree hd
    have tr := fine.tree
    have pl1 := fine.len
    have sqn : ((pl.map S).map V.str).length = pl.length := by rw [List.length_map, List.length_map]
    have vl : vs.length = ts.length := by
      have := DtAll.len hA
      rwa [List.length_map] at this
    refine ⟨_, (pss_cons (ps_set (i := 2) sc_law_lengths.nd rfl (.inl rfl) (pe_disp (pps_cons (pv 1) (pe_tup (pa_cons (pe_tup (pa_cons (pv 1) pa_nil)) (pa_cons pe_int pa_nil))) pps_nil) (by rfl) (by rfl) (fun z => by cases z) (by decide)))
      (pss_cut (ps_for PassesOwn.never rfl (pi_range1 (by rfl) T.range (pa_cons (pe_callB call_len_seq (by rfl) T.len bt_len (pa_cons (pe_ix ix_tup (pv 0) pe_int (fun _ _ => rfl)) pa_nil)) pa_nil)) (pg_name (i := 3) sc_law_lengths.nd rfl (.inl rfl))
        (pss_one (ps_for PassesOwn.never rfl (pi_tup (pe_ix ix_tup (pv 0) pe_int (fun _ _ => rfl))) (pg_tup rfl (pgs_cons (pg_name (i := 4) sc_law_lengths.nd rfl (.inl rfl)) (pgs_cons (pg_name (i := 5) sc_law_lengths.nd rfl (.inl rfl)) (pgs_cons (pg_name (i := 6) sc_law_lengths.nd rfl (.inl rfl)) pgs_nil))))
          (pss_one (ps_for PassesOwn.never rfl (pi_list (pe_lst (pa_cons (pe_tup (pa_cons (pv 4) (pa_cons (pv 5) pa_nil))) (pa_cons (pe_tup (pa_cons (pv 5) (pa_cons (pv 4) pa_nil))) pa_nil)))) (pg_tup rfl (pgs_cons (pg_name (i := 7) sc_law_lengths.nd rfl (.inl rfl)) (pgs_cons (pg_name (i := 8) sc_law_lengths.nd rfl (.inl rfl)) pgs_nil)))
            (pss_one (ps_if (PW.pt (pw_and (pt_cmp (pc_din (hu_of hr) (pv 7) (pv 2))) (pw_and1 (pt_cmp (pc_dnotin (hu_of hr) (pv 8) (pv 2))))))
              (pss_one (ps_dput (hu_of hr) (pv 2) (pv 8) (pe_tup (pa_cons (pe_op op_catA (pe_ix ix_tup (pe_dget (hu_of hr) (pv 2) (pv 7) (fun _ _ => rfl)) pe_int (fun _ _ => rfl)) (pe_tup (pa_cons (pv 8) pa_nil))) (pa_cons (pe_op op_add (pe_ix ix_tup (pe_dget (hu_of hr) (pv 2) (pv 7) (fun _ _ => rfl)) pe_int (fun _ _ => rfl)) (pv 6)) pa_nil))) rfl))
              pss_nil)))))))
      (pss_one (ps_ret (pv 2))))), ?_⟩
    refine fun D nD => ?_
    refine ⟨_, rfl, _, rfl, (by show 1 ≤ sizeLine; decide), fun p np => ?_⟩
    refine ⟨(by show 2 ≤ sizeLine; decide), fun r nr => ?_⟩
    have S1 := same_new (o := .dK []) (Same.refl H) nD
    have S2 := same_new (o := .tup [.str (S u)]) S1 np
    have S3 := same_new (o := .tup [.ref p, .int 0]) S2 nr
    have pD : p ≠ D := (ne_of_none upd_same np).symm
    have hp3 : (upd (upd (upd H D (.dK [])) p (.tup [.str (S u)])) r (.tup [.ref p, .int 0])) p = some (.tup [.str (S u)]) := (TK.new nr).tup _ _ upd_same
    have hr3 : (upd (upd (upd H D (.dK [])) p (.tup [.str (S u)])) r (.tup [.ref p, .int 0])) r = some (.tup [.ref p, .int 0]) := upd_same
    have hD3 : (upd (upd (upd H D (.dK [])) p (.tup [.str (S u)])) r (.tup [.ref p, .int 0])) D = some (.dK []) := by
      have z : (upd (upd H D (.dK [])) p (.tup [.str (S u)])) D = some (.dK []) := by
        rw [upd_ne pD.symm]
        exact upd_same
      rw [upd_ne (ne_of_none z nr)]
      exact z
    generalize upd (upd (upd H D (.dK [])) p (.tup [.str (S u)])) r (.tup [.ref p, .int 0]) = H3 at S3 hp3 hr3 hD3
    refine ⟨hD3, [(Sum.inr (S u), .ref r)], rfl, (by decide : 1 ≤ 15), ?_⟩
    have W0 : WaysAt H (upd H3 D (.dK (mergeK [] [((Sum.inr (S u) : Key), V.ref r)]))) D ts u [u] (fun _ => r) (fun _ => p) := by
      have nt : ∀ {b : Addr} {xs : List V}, H3 b = some (.tup xs) → b ≠ D := fun h => ne_of h hD3 (by intro z; cases z)
      refine ⟨same_put S3 nD, nD, upd_same, fun x hx => ?_⟩
      rw [List.mem_singleton.mp hx, (tr.dist_self u).1, (tr.dist_self u).2, upd_ne (nt hr3), upd_ne (nt hp3)]
      exact ⟨hr3, hp3⟩
    have K0 : Kn pl ts u [u] := by
      refine ⟨by simp, fun x hx => ?_, by simp, fun x hx => ?_⟩
      · rw [List.mem_singleton.mp hx]
        exact hu
      · rw [List.mem_singleton.mp hx, (tr.dist_self u).2]
        exact fun y hy => hy
    have R0 : Rd pl ts u 0 [u] := fun x hx l => by
      have w := tr.the_way hu hx
      generalize path ts u x = p at w l
      generalize dist ts u x = L at w
      cases w with
      | nil => simp
      | @snoc v w p L k w1 ha hn =>
        obtain ⟨z, rfl⟩ := w1.first
        simp at l
    generalize upd H3 D (.dK (mergeK [] [((Sum.inr (S u) : Key), V.ref r)])) = H4 at W0
    refine ⟨fun σ' H' => ∃ (x3 x4 x5 x6 x7 x8 : Option V) (fs : List Nm) (ad pw : Nm → Addr), σ' = [some (.ref t), some (.str (S u)), some (.ref D), x3, x4, x5, x6, x7, x8] ∧ WaysAt H H' D ts u fs ad pw ∧ Kn pl ts u fs ∧ Rd pl ts u pl.length fs, ?_, fun σ' H' hM => ?_⟩
    · refine ⟨_, rfl, t, _, 0, .ref a, rfl, rfl, SqT.of (W0.same _ _ ht), atI_nat (j := 0) rfl, a, _, rfl, .inr (ha.same W0.same).sq, _, rfl, by rw [sqn]; omega, by rw [sqn]; omega, ?_⟩
      refine for_range (lo := 0) (n := (((((pl.map S).map V.str).length : Nat) : Int)).toNat) (fun i σ' H' => ∃ (x3 x4 x5 x6 x7 x8 : Option V) (fs : List Nm) (ad pw : Nm → Addr), σ' = [some (.ref t), some (.str (S u)), some (.ref D), x3, x4, x5, x6, x7, x8] ∧ WaysAt H H' D ts u fs ad pw ∧ Kn pl ts u fs ∧ Rd pl ts u i fs) ⟨none, none, none, none, none, none, _, _, _, rfl, W0, K0, R0⟩ (fun i σ' H' hi hP => ?_) (fun σ' H' hP => ?_)
      · obtain ⟨x3, x4, x5, x6, x7, x8, fs, ad, pw, rfl, W1, K1, R1⟩ := hP
        refine ⟨_, rfl, t, _, 1, .ref b, rfl, rfl, SqT.of (W1.same _ _ ht), atI_nat (j := 1) rfl, b, rfl, ⟨_, SqT.of (W1.same _ _ hb)⟩, for_tup (K := K) (a := b) (xs := vs) (fun j σ' H' => ∃ (x4 x5 x6 x7 x8 : Option V) (fs : List Nm) (ad pw : Nm → Addr), σ' = [some (.ref t), some (.str (S u)), some (.ref D), some (.int (0 + (i : Int))), x4, x5, x6, x7, x8] ∧ WaysAt H H' D ts u fs ad pw ∧ Kn pl ts u fs ∧ Rd pl ts u i fs ∧ NbG (ts.take j) ts u i fs)
          ⟨_, _, _, _, _, fs, ad, pw, rfl, W1, K1, R1, fun e he => (by cases he)⟩ (fun j σ' H' _ hP => ?_) (fun j x σ' H' hj hP => ?_) (fun σ' H' hP => ?_)⟩
        · obtain ⟨_, _, _, _, _, _, _, _, _, W2, _⟩ := hP
          exact SqT.of (W2.same _ _ hb)
        · clear W1 K1 R1
          clear fs ad pw
          obtain ⟨x4, x5, x6, x7, x8, fs, ad, pw, rfl, W2, K2', R2', nb⟩ := hP
          obtain ⟨d, hd', hx⟩ := DtAll.get hA hj
          rw [List.getElem?_map] at hd'
          cases ee : ts[j]? with
          | none =>
            rw [ee] at hd'
            cases hd'
          | some e =>
            rw [ee] at hd'
            have ed : d = tieD e := (Option.some.inj hd').symm
            subst ed
            obtain ⟨g, rfl, hg⟩ := dt_tie hx
            have hem : e ∈ ts := List.mem_of_getElem? ee
            obtain ⟨i1, i2, _⟩ := tr.ties e hem
            have et : ts.take (j + 1) = ts.take j ++ [e] := by
              rw [List.take_add_one, ee]
              rfl
            refine ⟨g, _, rfl, SqT.of (W2.same _ _ hg), rfl, _, _, rfl, _, _, rfl, _, _, rfl, rfl, ?_⟩
            refine ⟨_, rfl, _, rfl, (by show 2 ≤ sizeLine; decide), fun c1 nc1 => ?_⟩
            have T1 := same_new (o := .tup [.str (S e.1), .str (S e.2.1)]) (Same.refl H') nc1
            refine ⟨_, rfl, _, rfl, (by show 2 ≤ sizeLine; decide), fun c2 nc2 => ?_⟩
            have T2 := same_new (o := .tup [.str (S e.2.1), .str (S e.1)]) T1 nc2
            refine ⟨(by show 2 ≤ sizeLine; decide), fun c3 nc3 => ?_⟩
            have T3 := same_new (o := .lst [.ref c1, .ref c2]) T2 nc3
            have h1 : (upd (upd (upd H' c1 (.tup [.str (S e.1), .str (S e.2.1)])) c2 (.tup [.str (S e.2.1), .str (S e.1)])) c3 (.lst [.ref c1, .ref c2])) c1 = some (.tup [.str (S e.1), .str (S e.2.1)]) := ((TK.new nc2).trans (TK.new nc3)).tup _ _ upd_same
            have h2 : (upd (upd (upd H' c1 (.tup [.str (S e.1), .str (S e.2.1)])) c2 (.tup [.str (S e.2.1), .str (S e.1)])) c3 (.lst [.ref c1, .ref c2])) c2 = some (.tup [.str (S e.2.1), .str (S e.1)]) := (TK.new nc3).tup _ _ upd_same
            have h3 : (upd (upd (upd H' c1 (.tup [.str (S e.1), .str (S e.2.1)])) c2 (.tup [.str (S e.2.1), .str (S e.1)])) c3 (.lst [.ref c1, .ref c2])) c3 = some (.lst [.ref c1, .ref c2]) := upd_same
            have W8 := W2.keep T3
            generalize upd (upd (upd H' c1 (.tup [.str (S e.1), .str (S e.2.1)])) c2 (.tup [.str (S e.2.1), .str (S e.1)])) c3 (.lst [.ref c1, .ref c2]) = H8 at W8 h1 h2 h3
            have c3D : c3 ≠ D := ne_of h3 W8.dict (by intro z; cases z)
            have c1D : c1 ≠ D := ne_of h1 W8.dict (by intro z; cases z)
            have c2D : c2 ≠ D := ne_of h2 W8.dict (by intro z; cases z)
            refine ⟨c3, rfl, ⟨_, SqL.of h3⟩, for_list (K := K) (a := c3) (xs := [.ref c1, .ref c2]) (fun k σ' H9 => ∃ (x7 x8 : Option V) (fs : List Nm) (ad pw : Nm → Addr), σ' = [some (.ref t), some (.str (S u)), some (.ref D), some (.int (0 + (i : Int))), some (.str (S e.1)), some (.str (S e.2.1)), some (.int e.2.2), x7, x8] ∧ WaysAt H H9 D ts u fs ad pw ∧ SmX D H8 H9 ∧ Kn pl ts u fs ∧ Rd pl ts u i fs ∧ NbG (ts.take j) ts u i fs ∧ (1 ≤ k → (path ts u e.1).length ≤ i + 1 → e.2.1 ∈ fs) ∧ (2 ≤ k → (path ts u e.2.1).length ≤ i + 1 → e.1 ∈ fs))
              ⟨_, _, fs, ad, pw, rfl, W8, SmX.refl _, K2', R2', nb, fun z => absurd z (by omega), fun z => absurd z (by omega)⟩ (fun k σ' H9 _ hP => ?_) (fun k x σ' H9 hk hP => ?_) (fun σ' H9 hP => ?_)⟩
            · obtain ⟨_, _, _, _, _, _, _, sm, _⟩ := hP
              exact SqL.of (sm _ _ c3D h3)
            · clear W2 W8 K2' R2' nb
              clear fs ad pw
              obtain ⟨x7, x8, fs, ad, pw, rfl, W9, sm9, K9, R9, nb9, n1, n2⟩ := hP
              obtain ⟨cc, pp, qq, rfl, ccD, hcc, hpq⟩ : ∃ (cc : Addr) (pp qq : Nm), x = .ref cc ∧ cc ≠ D ∧ H8 cc = some (.tup [.str (S pp), .str (S qq)]) ∧ ((k = 0 ∧ pp = e.1 ∧ qq = e.2.1) ∨ (k = 1 ∧ pp = e.2.1 ∧ qq = e.1)) := by
                match k, hk with
                | 0, hk => exact ⟨c1, _, _, (Option.some.inj hk).symm, c1D, h1, .inl ⟨rfl, rfl, rfl⟩⟩
                | 1, hk => exact ⟨c2, _, _, (Option.some.inj hk).symm, c2D, h2, .inr ⟨rfl, rfl, rfl⟩⟩
              have adj : Adj ts pp qq e.2.2 := by
                rcases hpq with ⟨_, z1, z2⟩ | ⟨_, z1, z2⟩ <;> rw [z1, z2]
                · exact .inl hem
                · exact .inr hem
              have ppl : pp ∈ pl := by
                rcases hpq with ⟨_, z1, z2⟩ | ⟨_, z1, z2⟩ <;> rw [z1] <;> assumption
              have fl' := nodup_sub_len fs pl K9.nd K9.sub
              have szf : ∀ f : Nm → V, (dkm fs f).length < sizeLine := fun f => by
                unfold dkm
                rw [List.length_map]
                exact sz_lt (by omega)
              have nx : ∀ fs2 : List Nm, (∀ x ∈ fs, x ∈ fs2) → ((path ts u pp).length ≤ i + 1 → qq ∈ fs2) → Rd pl ts u i fs2 ∧ NbG (ts.take j) ts u i fs2 ∧ (1 ≤ k + 1 → (path ts u e.1).length ≤ i + 1 → e.2.1 ∈ fs2) ∧ (2 ≤ k + 1 → (path ts u e.2.1).length ≤ i + 1 → e.1 ∈ fs2) := fun fs2 sub hq => by
                refine ⟨fun x hx l => sub _ (R9 x hx l), fun e' he' => ⟨fun z => sub _ ((nb9 e' he').1 z), fun z => sub _ ((nb9 e' he').2 z)⟩, fun _ z => ?_, fun z2 z => ?_⟩
                · rcases hpq with ⟨j0, z1, z2⟩ | ⟨j1, z1, z2⟩
                  · rw [← z2]
                    exact hq (by rw [z1]; exact z)
                  · exact sub _ (n1 (by omega) z)
                · rcases hpq with ⟨j0, z1, z2'⟩ | ⟨j1, z1, z2'⟩
                  · omega
                  · rw [← z2']
                    exact hq (by rw [z1]; exact z)
              refine ⟨cc, _, rfl, SqT.of (sm9 _ _ ccD hcc), rfl, _, _, rfl, _, _, rfl, rfl, ?_⟩
              refine ⟨_, rfl, _, rfl, D, _, rfl, DGet.k (k := Sum.inr (S pp)) W9.dict, _, rfl, ?_⟩
              rw [dkm_some]
              by_cases hh : pp ∈ fs
              · rw [decide_eq_true hh]
                refine iteT ⟨_, rfl, _, rfl, D, _, rfl, DGet.k (k := Sum.inr (S qq)) W9.dict, _, rfl, ?_⟩
                rw [dkm_some]
                by_cases hy : qq ∈ fs
                · rw [decide_eq_true hy]
                  obtain ⟨k0, k1, k2, k3⟩ := nx fs (fun _ z => z) fun _ => hy
                  exact iteF ⟨_, _, fs, ad, pw, rfl, W9, sm9, K9, k0, k1, k2, k3⟩
                · rw [decide_eq_false hy]
                  refine iteT ?_
                  obtain ⟨e1, e2, K10⟩ := K9.push tr hh adj hy
                  obtain ⟨v1, v2⟩ := W9.val pp hh
                  refine ⟨_, rfl, _, rfl, D, .ref (ad pp), rfl, by rw [← dkm_get (f := fun x => V.ref (ad x)) hh]; exact DGet.k (k := Sum.inr (S pp)) W9.dict, ad pp, _, 0, .ref (pw pp), rfl, rfl, SqT.of v1, atI_nat (j := 0) rfl, ?_⟩
                  refine ⟨_, rfl, (by show 1 ≤ sizeLine; decide), fun c4 nc4 => ?_⟩
                  have U1 := same_new (o := .tup [.str (S qq)]) (Same.refl H9) nc4
                  have pk := path_len fine hu ppl
                  refine cat_any (U1 _ _ v2) upd_same (by rw [List.length_map, List.length_map]; exact sz_le (by simp; omega)) fun c5 H10 U2 hc5 => ?_
                  have U3 := U1.trans U2
                  have W10 := W9.keep U3
                  refine ⟨_, rfl, _, rfl, D, .ref (ad pp), rfl, by rw [← dkm_get (f := fun x => V.ref (ad x)) hh]; exact DGet.k (k := Sum.inr (S pp)) W10.dict, ad pp, _, 1, .int (dist ts u pp), rfl, rfl, SqT.of (U3 _ _ v1), atI_nat (j := 1) rfl, _, rfl, _, _, rfl, rfl, ?_⟩
                  refine ⟨(by show 2 ≤ sizeLine; decide), fun c6 nc6 => ?_⟩
                  have U4 := same_new (o := .tup [.ref c5, .int (dist ts u pp + e.2.2)]) (Same.refl H10) nc6
                  have W11 := W10.keep U4
                  have hc6 : (upd H10 c6 (.tup [.ref c5, .int (dist ts u pp + e.2.2)])) c6 = some (.tup [.ref c5, .int (dist ts u pp + e.2.2)]) := upd_same
                  have hc5' := U4 _ _ hc5
                  have sm11 : SmX D H8 (upd H10 c6 (.tup [.ref c5, .int (dist ts u pp + e.2.2)])) := sm9.trans fun b o _ h => (U3.trans U4) b o h
                  generalize upd H10 c6 (.tup [.ref c5, .int (dist ts u pp + e.2.2)]) = H11 at W11 hc6 hc5' sm11
                  have ep : ((path ts u pp).map S).map V.str ++ [V.str (S qq)] = ((path ts u qq).map S).map V.str := by
                    rw [e2, List.map_append, List.map_append]
                    rfl
                  rw [ep] at hc5'
                  refine ⟨_, rfl, _, rfl, D, _, rfl, DPut.k (k := Sum.inr (S qq)) W11.dict (szf _), ?_⟩
                  rw [dkm_new hy]
                  obtain ⟨k0, k1, k2, k3⟩ := nx (fs ++ [qq]) (fun _ z => List.mem_append_left _ z) fun _ => List.mem_append_right _ (List.mem_singleton.mpr rfl)
                  exact ⟨_, _, fs ++ [qq], _, _, rfl, W11.add hy e1 hc6 hc5', sm11.mut, K10, k0, k1, k2, k3⟩
              · rw [decide_eq_false hh]
                obtain ⟨k0, k1, k2, k3⟩ := nx fs (fun _ z => z) fun l => absurd (R9 pp ppl l) hh
                exact iteF ⟨_, _, fs, ad, pw, rfl, W9, sm9, K9, k0, k1, k2, k3⟩
            · obtain ⟨x7, x8, fs, ad, pw, rfl, W9, sm9, K9, R9, nb9, n1, n2⟩ := hP
              refine ⟨_, _, _, _, _, fs, ad, pw, rfl, W9, K9, R9, fun e' he' => ?_⟩
              rw [et] at he'
              rcases List.mem_append.mp he' with z | z
              · exact nb9 e' z
              · rw [List.mem_singleton.mp z]
                exact ⟨n1 (by simp), n2 (by simp)⟩
        · obtain ⟨x4, x5, x6, x7, x8, fs, ad, pw, rfl, W2, K2', R2', nb⟩ := hP
          rw [vl, List.take_length] at nb
          exact ⟨_, _, _, _, _, _, fs, ad, pw, rfl, W2, K2', R2'.next tr hu nb⟩
      · obtain ⟨x3, x4, x5, x6, x7, x8, fs, ad, pw, rfl, W1, K1, R1⟩ := hP
        rw [sqn] at R1
        exact ⟨_, _, _, _, _, _, fs, ad, pw, rfl, W1, K1, R1⟩
    · obtain ⟨x3, x4, x5, x6, x7, x8, fs, ad, pw, rfl, W1, K1, R1⟩ := hM
      exact ⟨_, rfl, q H' D fs ad pw W1 fun x hx => R1 x hx (by have := path_len fine hu hx; omega)⟩
end
end Far

namespace Far
open PySem PySem.Spec PyProof.Rows L2
open C8 (pss_cut tCut)
open SX (S)
open RZ (ItzT iZipA pi_zipA)
structure TxtS (mg : Str → Option Value) : Prop where
  isinstance : mg "isinstance" = none
  tuple : mg "tuple" = none
  str : mg "str" = none
  int : mg "int" = none
  bool : mg "bool" = none
  len : mg "len" = none
  zip : mg "zip" = none
/-- what two told things have in common: texts, whole numbers, tuples of such -/
inductive Plain : Nat → PyData → Prop
  | str (n : Nat) (x : Str) : Plain (n + 1) (.str x)
  | int (n : Nat) (i : Int) : Plain (n + 1) (.int i)
  | tup {n : Nat} {ds : List PyData} : (∀ d ∈ ds, Plain n d) → ds.length ≤ 1000 → Plain (n + 1) (.tuple ds)
theorem kit_cls (K : PySem.W.Frag) {a b : String} {r : Bool} (h : kitB a b = some r) : PySem.W.kitOne K (.type a) (.type b) = some r := kit_ty h
abbrev s_law_same : Stmt := topS 20
abbrev N_law_same : List Str := ["found", "due", "one", "other"]
theorem sc_law_same : FnScope N_law_same ["found", "due"] (defScope s_law_same) := ⟨rfl, rfl, rfl, by decide +kernel, rfl, by decide +kernel, by decide +kernel⟩
section
variable {P : Program} {w : World} {K : PySem.W.Frag} {mg : Str → Option Value} {base : Heap}
theorem zip_it {K : PySem.W.Frag} {a b : Addr} {xs ys : List V} {g : TG} {tt : TT} {te : TE} {vs : List Nat} {σ : L2.St} {H1 : Hp} {D : Addr} {Qd : Hp → Prop} (len : xs.length = ys.length) (Pv : Nat → Hp → Prop) (h0 : Pv 0 (upd H1 D (.lst []))) (hl : ∀ i H, Pv i H → SqT K H a xs ∧ SqT K H b ys)
    (hs : ∀ i x y H T, xs[i]? = some x → ys[i]? = some y → Pv i H → H T = none → g (.ref T) (wipe σ vs) (upd H T (.tup [x, y])) fun σ2 H2 => wipe σ2 vs = wipe σ vs ∧ tt σ2 H2 fun b H3 =>
      if b = true then te σ2 H3 fun y H4 => ∃ acc, H4 D = some (.lst acc) ∧ acc.length < sizeLine ∧ Pv (i + 1) (upd H4 D (.lst (acc ++ [y]))) else Pv (i + 1) H3) (hd : ∀ H, Pv xs.length H → Qd H) :
    ∃ W : Nat → Nat → Hp → Prop, (∃ m, W 0 m (upd H1 D (.lst []))) ∧ ∀ i m H, W i m H →
      ((ItzT K a b).stop i H ∧ Qd H) ∨ ((ItzT K a b).go i H ∧ ∃ Nx : Hp → Prop, (∀ H', Nx H' → ∃ m', m' < m ∧ W (i + 1) m' H') ∧ ∀ v H', (ItzT K a b).yld i H v H' → g v (wipe σ vs) H' fun σ2 H2 => wipe σ2 vs = wipe σ vs ∧ tt σ2 H2 fun b H3 =>
        if b = true then te σ2 H3 fun y H4 => ∃ acc, H4 D = some (.lst acc) ∧ acc.length < sizeLine ∧ Nx (upd H4 D (.lst (acc ++ [y]))) else Nx H3) := by
  refine ⟨fun i m H => m = xs.length - i ∧ i ≤ xs.length ∧ Pv i H, ⟨xs.length, by simp, Nat.zero_le _, h0⟩, fun i m H ⟨em, hi, p⟩ => ?_⟩
  obtain ⟨q1, q2⟩ := hl i H p
  by_cases lt : i < xs.length
  · have lt2 : i < ys.length := by omega
    refine .inr ⟨⟨xs, ys, xs[i], ys[i], q1, q2, by simp [lt], by simp [lt2]⟩, Pv (i + 1), fun H' p' => ⟨xs.length - (i + 1), by omega, rfl, lt, p'⟩, fun v H' ⟨T, x, y, ev, nT, eH, hx, hy⟩ => ?_⟩
    rw [ev, eH]
    exact hs i x y H T (hx xs q1) (hy ys q2) p nT
  · have e : i = xs.length := by omega
    rw [e] at p
    exact .inl ⟨⟨xs, ys, q1, q2, .inl (by omega)⟩, hd H p⟩
/-- two that stand for the same data (of depth below n) are the same -/
def spSame (n : Nat) : Sp := fun vs H Q _ => ∃ (u v : V) (d : PyData), vs = [u, v] ∧ Dt H u d ∧ Dt H v d ∧ Plain n d ∧ ∀ H' : Hp, Same H H' → Q (.bl true) H'
theorem dt_any {H : Hp} {u : V} {ds : List PyData} (h : Dt H u (.tuple ds)) : ∃ (a : Addr) (xs : List V), u = .ref a ∧ TupAt H a xs ∧ DtAll H xs ds := by
  cases h with
  | tup ha hs => exact ⟨_, _, rfl, .inl ha, hs⟩
  | @tupZ a pl _ o e n d ha =>
    subst e
    exact ⟨_, _, rfl, .inr ⟨o, d, ha⟩, dt_strs H pl⟩
theorem TupAt.ty {K : PySem.W.Frag} {H : Hp} {a : Addr} {xs : List V} (h : TupAt H a xs) : TyX K H (.ref a) (.type "tuple") := h.elim (fun h => .base (.tup h)) fun ⟨_, _, h⟩ => .fTuple h
theorem ok_same {f : Addr} {fd : FuncData} {n k : Nat} (hk : 1 ≤ k) (F : Fun K "_law_same" "_law_same" s_law_same f fd) (T : TxtS mg) (C_law_same : Cal P w K mg base k "_law_same" (spSame n)) : FnOk P w K mg base CX0 (k + 1) f fd ["found", "due"] (spSame (n + 1)) := by
  refine F.ok sc_law_same (fun vs H Q E h => ?_) (fun cdv A outer s H vs Q E hr h => ?_)
  · obtain ⟨u, v, d, rfl, _⟩ := h
    rfl
  · obtain ⟨u, v, d, rfl, hu, hv, hp, q⟩ := h
    refine ⟨_, (pss_cut (ps_if (pt_val (pe_callB call_isi (by rfl) T.isinstance bt_isinstance (pa_cons (pv 1) (pa_cons (pe_bltn (v := .ty "tuple") (by rfl) T.tuple bt_tuple rfl) pa_nil))))
        (pss_cut (ps_if (PW.pt (pw_or (pt_not (pt_val (pe_callB call_isi (by rfl) T.isinstance bt_isinstance (pa_cons (pv 0) (pa_cons (pe_bltn (v := .ty "tuple") (by rfl) T.tuple bt_tuple rfl) pa_nil))))) (pw_or1 (pt_cmpR op_ne (pe_callB call_len_seq (by rfl) T.len bt_len (pa_cons (pv 0) pa_nil)) (pe_callB call_len_seq (by rfl) T.len bt_len (pa_cons (pv 1) pa_nil)) (nomark _)))))
          (pss_one (ps_ret pe_bl))
          pss_nil)
        (pss_one (ps_ret (pe_cmpR (op_eqD (hd_of hr hk)) (pe_lc (own := [("one", 2), ("other", 3)]) (g := gTup K 2 (gCons (gName 2) (gCons (gName 3) gNil)))  rfl sc_law_same.nd (pi_zipA (by rfl) T.zip (pa_cons (pv 0) (pa_cons (pv 1) pa_nil))) (blkOk_by (N := N_law_same) (sc := defScope s_law_same) (by decide +kernel)) (fun _ _ _ _ _ => (pg_tup rfl (pgs_cons (pg_name (i := 2) sc_law_same.nd rfl (.inl rfl)) (pgs_cons (pg_name (i := 3) sc_law_same.nd rfl (.inl rfl)) pgs_nil)))) (fun _ _ _ _ _ => pts_one (pt_not (pt_val (pe_c C_law_same hr (Nat.le_refl _) rfl (pa_cons (pv 2) (pa_cons (pv 3) pa_nil)))))) (fun _ _ _ _ _ => pe_int)) (pe_lst pa_nil) (nomark _)))))
        pss_nil)
      (pss_cut (ps_if (pt_val (pe_callB call_isi (by rfl) T.isinstance bt_isinstance (pa_cons (pv 1) (pa_cons (pe_bltn (v := .ty "str") (by rfl) T.str bt_str rfl) pa_nil))))
        (pss_one (ps_ret (pe_and (pe_callB call_isi (by rfl) T.isinstance bt_isinstance (pa_cons (pv 0) (pa_cons (pe_bltn (v := .ty "str") (by rfl) T.str bt_str rfl) pa_nil))) (pe_one (pe_cmpR op_eq (pv 0) (pv 1) (nomark _))))))
        pss_nil)
      (pss_one (ps_ret (pe_and (pe_callB call_isi (by rfl) T.isinstance bt_isinstance (pa_cons (pv 0) (pa_cons (pe_bltn (v := .ty "int") (by rfl) T.int bt_int rfl) pa_nil))) (pe_and (pe_not (pe_callB call_isi (by rfl) T.isinstance bt_isinstance (pa_cons (pv 0) (pa_cons (pe_bltn (v := .ty "bool") (by rfl) T.bool bt_bool rfl) pa_nil)))) (pe_one (pe_cmpR op_eq (pv 0) (pv 1) (nomark _))))))))), ?_⟩
    cases hp with
    | str _ x =>
      cases hu
      cases hv
      refine ⟨fun σ' H' => σ' = [some (.str x), some (.str x), none, none] ∧ H' = H, ?_, fun σ' H' hM => ?_⟩
      · exact ⟨_, rfl, _, _, _, _, false, rfl, .ty _, .base (.str x), kit_cls K (by decide +kernel), _, rfl, iteF ⟨rfl, rfl⟩⟩
      · obtain ⟨rfl, rfl⟩ := hM
        refine ⟨fun σ' H' => False, ?_, fun σ' H' hM => hM.elim⟩
        refine ⟨_, rfl, _, _, _, _, true, rfl, .ty _, .base (.str x), kit_cls K (by decide +kernel), _, rfl, iteT ?_⟩
        refine ⟨_, rfl, _, _, _, _, true, rfl, .ty _, .base (.str x), kit_cls K (by decide +kernel), _, rfl, iteT ⟨_, rfl, _, rfl, by simp [scal], ?_⟩⟩
        rw [decide_eq_true rfl]
        exact q _ (Same.refl _)
    | int _ x =>
      cases hu
      cases hv
      refine ⟨fun σ' H' => σ' = [some (.int x), some (.int x), none, none] ∧ H' = H, ?_, fun σ' H' hM => ?_⟩
      · exact ⟨_, rfl, _, _, _, _, false, rfl, .ty _, .base (.int x), kit_cls K (by decide +kernel), _, rfl, iteF ⟨rfl, rfl⟩⟩
      · obtain ⟨rfl, rfl⟩ := hM
        refine ⟨fun σ' H'' => σ' = [some (.int x), some (.int x), none, none] ∧ H'' = H', ?_, fun σ' H'' hM => ?_⟩
        · exact ⟨_, rfl, _, _, _, _, false, rfl, .ty _, .base (.int x), kit_cls K (by decide +kernel), _, rfl, iteF ⟨rfl, rfl⟩⟩
        · obtain ⟨rfl, rfl⟩ := hM
          refine ⟨_, rfl, _, _, _, _, true, rfl, .ty _, .base (.int x), kit_cls K (by decide +kernel), _, rfl, iteT ?_⟩
          refine ⟨_, rfl, _, _, _, _, false, rfl, .ty _, .base (.int x), kit_cls K (by decide +kernel), _, rfl, _, rfl, iteT ⟨_, rfl, _, rfl, by simp [scal], ?_⟩⟩
          rw [decide_eq_true rfl]
          exact q _ (Same.refl _)
    | @tup _ ds hds hl =>
      obtain ⟨a, xs, rfl, ha, hA⟩ := dt_any hu
      obtain ⟨b, ys, rfl, hb, hB⟩ := dt_any hv
      have l1 := DtAll.len hA
      have l2 := DtAll.len hB
      refine ⟨fun σ' H' => False, ?_, fun σ' H' hM => hM.elim⟩
      refine ⟨_, rfl, _, _, _, _, true, rfl, .ty _, hb.ty, kit_cls K (by decide +kernel), _, rfl, iteT ?_⟩
      refine ⟨fun σ' H' => σ' = [some (.ref a), some (.ref b), none, none] ∧ H' = H, ?_, fun σ' H' hM => ?_⟩
      · refine ⟨_, rfl, _, _, _, _, true, rfl, .ty _, ha.ty, kit_cls K (by decide +kernel), _, rfl, iteF ?_⟩
        refine ⟨_, rfl, a, _, rfl, .inr ha.sq, _, rfl, b, _, rfl, .inr hb.sq, rfl, _, rfl, ?_⟩
        rw [l1, l2, decide_eq_true rfl]
        exact iteF ⟨rfl, rfl⟩
      · obtain ⟨rfl, rfl⟩ := hM
        refine ⟨_, rfl, _, rfl, a, b, xs, ys, rfl, .inr ⟨ha.sq, hb.sq, fun D nD => ?_⟩⟩
        refine zip_it (by omega) (fun i H'' => Same H' H'' ∧ H'' D = some (.lst [])) ⟨same_new (Same.refl H') nD, upd_same⟩ (fun i H'' hP => ⟨(ha.same hP.1).sq, (hb.same hP.1).sq⟩) (fun i x y H'' T hx hy hP nT => ?_) (fun H'' hP => ?_)
        · obtain ⟨d1, hd1, hx'⟩ := DtAll.get hA hx
          obtain ⟨d2, hd2, hy'⟩ := DtAll.get hB hy
          have ed : d1 = d2 := Option.some.inj (hd1.symm.trans hd2)
          subst ed
          have sT : Same H' (upd H'' T (.tup [x, y])) := same_new hP.1 nT
          refine ⟨T, _, rfl, SqT.of upd_same, rfl, _, _, rfl, _, _, rfl, rfl, rfl, ?_⟩
          refine ⟨_, rfl, _, rfl, x, y, d1, rfl, Dt.keep (TK.of sT) hx', Dt.keep (TK.of sT) hy', hds d1 (List.mem_of_getElem? hd1), fun H3 S3 => ?_⟩
          refine ⟨_, rfl, iteF ⟨sT.trans S3, S3 _ _ ?_⟩⟩
          rw [upd_ne (ne_of_none hP.2 nT)]
          exact hP.2
        · refine ⟨Nat.zero_le _, fun p np => ?_⟩
          refine ⟨_, _, .lst (SqL.of (by rw [upd_ne (ne_of_none hP.2 np)]; exact hP.2)) .nil, .lst (SqL.of upd_same) .nil, rfl, rfl, ?_⟩
          exact q _ (same_new hP.1 np)
end
end Far

namespace Far
open PySem PySem.Spec PyProof.Rows L2
open C8 (pss_cut tCut)
open SX (S)
abbrev s_law_deck : Stmt := topS 14
abbrev N_law_deck : List Str := ["script"]
theorem sc_law_deck : FnScope N_law_deck ["script"] (defScope s_law_deck) := ⟨rfl, rfl, rfl, by decide +kernel, rfl, by decide +kernel, by decide +kernel⟩
section
variable {P : Program} {w : World} {K : PySem.W.Frag} {mg : Str → Option Value} {base : Heap}
theorem cut_all (xs : List V) (h : xs.length ≤ 63) : cutV xs none (some 63) = xs := by
  unfold cutV
  rw [HT.sIx_none, show HT.sIx xs.length xs.length (some 63) = min 63 xs.length from HT.sIx_nat _ _ 63, Nat.min_eq_right h, List.drop_zero, Nat.sub_zero]
  exact List.take_length
theorem cut_one (x : V) (r : List V) : cutV (x :: r) (some 1) none = r := by
  unfold cutV
  rw [show HT.sIx (x :: r).length 0 (some 1) = min 1 (x :: r).length from HT.sIx_nat _ 0 1, HT.sIx_none]
  have e : min 1 (x :: r).length = 1 := by rw [List.length_cons]; omega
  rw [e]
  show r.take ((x :: r).length - 1) = r
  rw [List.length_cons, Nat.add_sub_cancel]
  exact List.take_length
theorem not_whole (x : V) (r : List V) : ¬ (HT.sIx (x :: r).length 0 (some 1) = 0 ∧ HT.sIx (x :: r).length (x :: r).length none = (x :: r).length) := by
  rw [show HT.sIx (x :: r).length 0 (some 1) = min 1 (x :: r).length from HT.sIx_nat _ 0 1]
  intro z
  have := z.1
  simp at this
def spDeck (K : PySem.W.Frag) : Sp := fun vs H Q _ => ∃ (a : Addr) (ns : List Int), vs = [.ref a] ∧ SqL K H a (ns.map V.int) ∧ ns.length ≤ 63 ∧ ∀ (H' : Hp) (d c : Addr), Same H H' → H d = none → DeckAt H' d c 0 → Q (.ref d) H'
theorem ok_deck {f : Addr} {fd : FuncData} (F : Fun K "_law_deck" "_law_deck" s_law_deck f fd) (T : Txt mg) : FnOk P w K mg base CX0 1 f fd ["script"] (spDeck K) := by
  refine F.ok sc_law_deck (fun vs H Q E h => ?_) (fun cdv A outer s H vs Q E hr h => ?_)
  · obtain ⟨a, ns, rfl, _⟩ := h
    rfl
  · obtain ⟨a, ns, rfl, hS, hl, q⟩ := h
    refine ⟨_, (pss_one (ps_ret (pe_lst (pa_cons (pe_slice sl_list (pv 0) po_none (po_some pe_int)) (pa_cons pe_int (pa_cons pe_int (pa_cons pe_int (pa_cons (pe_callB (cr_sum rfl) (by rfl) T.sum bt_sum (pa_cons (pe_slice sl_list (pv 0) po_none (po_some pe_int)) pa_nil)) pa_nil)))))))), ?_⟩
    have hl' : (ns.map V.int).length ≤ 63 := by rw [List.length_map]; exact hl
    refine ⟨_, rfl, 63, rfl, a, _, rfl, hS, fun c nc => ?_⟩
    rw [cut_all _ hl']
    have S1 : Same H (upd H c (.lst (ns.map V.int))) := same_new (Same.refl H) nc
    refine ⟨_, rfl, 63, rfl, a, _, rfl, S1.seq hS, fun c2 nc2 => ?_⟩
    rw [cut_all _ hl']
    have S2 := same_new (o := .lst (ns.map V.int)) S1 nc2
    refine ⟨c2, ns, rfl, SqL.of upd_same, (by show 5 ≤ sizeLine; decide), fun d nd => ?_⟩
    have S3 := same_new (o := .lst [.ref c, .int 0, .int 0, .int 0, .int ns.sum]) S2 nd
    have h2 : (upd (upd H c (.lst (ns.map V.int))) c2 (.lst (ns.map V.int))) c = some (.lst (ns.map V.int)) := by
      rw [upd_ne (ne_of_none upd_same nc2)]
      exact upd_same
    exact q _ d c S3 (S2.free nd) ⟨ns, 0, 0, 0, ns.sum, upd_same, by rw [upd_ne (ne_of_none h2 nd)]; exact h2, ne_of_none h2 nd, hl, by omega, by omega, by omega, by omega, by omega⟩
end
end Far

namespace Far
open PySem PySem.Spec PyProof.Rows L2
open C8 (pss_cut tCut)
open SX (S)
/-! ### t[::-1], t a text -/
def revS (z : Str) : Str := ⟨z.cps.toList.reverse.toArray⟩
def tRevS (te : TE) : TE := fun σ H Q => te σ H fun x H1 => ∃ z, x = .str z ∧ z.length ≤ sizeLine ∧ Q (.str (revS z)) H1
theorem fm_congrS {α β : Type} {f g : α → Option β} : ∀ {l : List α}, (∀ x ∈ l, f x = g x) → l.filterMap f = l.filterMap g
  | [], _ => rfl
  | x :: r, h => by
    rw [List.filterMap_cons, List.filterMap_cons, h x (List.mem_cons_self ..), fm_congrS fun y hy => h y (List.mem_cons_of_mem _ hy)]
theorem back_allS {α : Type} : ∀ (l : List α), (List.range l.length).filterMap (fun m => l[l.length - 1 - m]?) = l.reverse := by
  intro l
  have h := PySem.W.krv_range l.length
  have e : (List.range l.length).filterMap (fun m => l[l.length - 1 - m]?) = ((List.range l.length).map fun k => l.length - 1 - k).filterMap (fun j => l[j]?) := by
    rw [List.filterMap_map]
    rfl
  rw [e, h, List.filterMap_reverse]
  congr 1
  have := PySem.W.krv_all l.toArray
  simpa using this
theorem revS_pick (z : Str) : (⟨((Builtin.Str.strSliceIndices none none (-1) z.length).filterMap (z.cps[·]?)).toArray⟩ : Str) = revS z := by
  unfold revS
  rw [picked_rev, List.filterMap_map, ← back_allS z.cps.toList]
  congr 2
  show _ = (List.range z.cps.toList.length).filterMap _
  rw [Array.length_toList]
  refine fm_congrS fun m hm => ?_
  rw [Array.getElem?_toList]
  rfl
theorem pe_revS {X : Cx} {e : Expr} {te : TE} {k : Nat} {p1 p2 p3 pos : Pos} (he : PE X e te) : PE X (.Subscript e (.Slice none none (some (.UnaryOp .USub (.Constant (.int 1) k p1) p2)) p3) pos) (tRevS te) := by
  refine ⟨fun pins s σ H Q I h => ?_⟩
  refine Subscript_ (thn (he.run pins s σ H _ I h) fun v s1 ⟨x, H1, I1, r1, q1⟩ => ?_)
  obtain ⟨z, ex, hz, q⟩ := q1
  subst ex
  obtain ⟨t, rfl⟩ := r1
  have hst : PO X (some (.UnaryOp .USub (.Constant (.int 1) k p1) p2)) (tPart (tUn (rU fun i => .int (-i)) (tC (.int 1)))) := po_some (pe_un un_neg pe_int)
  refine wpAny_Slice (thn (po_none.run pins s1 σ H1 (fun o H2 => o = none ∧ H2 = H1) I1 ⟨rfl, rfl⟩) fun vl s2 ⟨l, H2, I2, pl, el, e2⟩ => ?_)
  subst el e2
  refine thn (po_none.run pins s2 σ H2 (fun o H3 => o = none ∧ H3 = H2) I2 ⟨rfl, rfl⟩) fun vu s3 ⟨u, H3, I3, pu, eu, e3⟩ => ?_
  subst eu e3
  refine thn (hst.run pins s3 σ H3 (fun o H4 => o = some (-1) ∧ H4 = H3) I3 ⟨1, rfl, -1, rfl, rfl, rfl⟩) fun vs s4 ⟨o, H4, I4, ps, eo, e4⟩ => ?_
  subst eo e4
  have I5 : Inv X pins σ H4 { s4 with heap := s4.heap.push { cls := .type "slice", data := .fields #[vl, vu, vs] } } := I4.kept (t' := s4.toks) fun b ob q => Heap.get?_push_of_some _ q
  obtain ⟨l, rfl, hl⟩ := IsPart.raw pl
  obtain ⟨u, rfl, hu⟩ := IsPart.raw pu
  obtain ⟨y, rfl, hy⟩ := IsPart.raw ps
  show wpAny (model X.prog X.w) X.A (subscriptTail e (.Slice none none (some (.UnaryOp .USub (.Constant (.int 1) k p1) p2)) p3) (.str z t) (.ref s4.heap.objs.size)) (EP X pins σ Q) X.xe _
  refine tail_any (ops := [.str z t, .ref s4.heap.objs.size]) (typeIs_str _ _ _) (F.slot_str_getitem.lookup) ?_ (by with_unfolding_all rfl)
  have hl' : l = none := by cases l with
    | none => rfl
    | some _ => cases hl
  have hu' : u = none := by cases u with
    | none => rfl
    | some _ => cases hu
  obtain ⟨⟨y1, y2⟩, rfl⟩ : ∃ p, y = some p := by cases y with
    | none => cases hy
    | some p => exact ⟨p, rfl⟩
  have hy' : y1 = -1 := by
    have := Option.some.inj hy
    first | exact this | exact this.symm
  subst hl' hu' hy'
  refine wpAny_getItem_str_slice (l := none) (u := none) (st := some (-1, y2)) ⟨_, Heap.get?_push_size _ rfl, rfl, rfl⟩ rfl ?_
  show Made.post (if ((-1 : Int) == 1 && (Builtin.Str.strSliceIndices none none (-1) z.length).length == z.length) = true then Made.val (.str z t)
    else Made.str ⟨((Builtin.Str.strSliceIndices none none (-1) z.length).filterMap (z.cps[·]?)).toArray⟩) (EP X pins σ Q) _
  rw [if_neg (by simp), revS_pick]
  refine ⟨?_, .str _, H4, I5.tok _, ⟨_, rfl⟩, q⟩
  show z.cps.toList.reverse.toArray.size ≤ sizeLine
  rw [List.size_toArray, List.length_reverse, Array.length_toList]
  exact hz
theorem revS_S (l : List Nat) : revS (S l) = S l.reverse := by
  show (⟨(l.toArray.toList.reverse).toArray⟩ : Str) = _
  rw [List.toList_toArray]
theorem notInK {X : Cx} {K : PySem.W.Frag} (e : X.K = K := by rfl) : OpR X (compareOp .NotIn) (rIn K true) := by
  subst e
  exact op_notIn_seq
open PySem.Builtin PySem.Builtin.Str in
theorem idx_low {n : Nat} {i : Int} (h : i + n ≤ 0) (h0 : i < 0) : strSliceIndices (some i) none 1 n = strSliceIndices (some 0) none 1 n := by
  have h2 : (1 : Int) > 0 := by decide
  have h3 : ¬ ((0 : Int) < 0) := by decide
  simp only [strSliceIndices, h0, h2, h3, if_false, if_true]
  rw [show max (0 : Int) (min (i + n) n) = max (0 : Int) (min (0 : Int) (n : Int)) by omega]
open PySem.Builtin PySem.Builtin.Str in
theorem slice_end8 (a : List Nat) : Txt.slice (S a) (some (-8)) none = S (a.drop (a.length - 8)) := by
  have hl : ((S a).length : Int) = (a.length : Int) := by rw [SX.S_len]
  by_cases h : a.length ≤ 8
  · have e2 : Txt.slice (S a) (some (-8)) none = Txt.slice (S a) (some 0) none := by
      unfold Txt.slice
      rw [SX.S_len, idx_low (by omega) (by decide)]
    rw [e2, SX.slice_from (by decide), show a.length - 8 = 0 by omega]
    rfl
  · have e := beq_iff_eq.mp (PyProof.Rows.slice_closes_from_neg (x := S a) (i := -8) (a := (a.length : Int) - 8) (b := (a.length : Int)) (by omega) (by omega) (by omega) (by omega))
    refine e.trans (TL.ext_tl ?_)
    show (a.drop ((a.length : Int) - 8).toNat).take ((a.length : Int) - ((a.length : Int) - 8)).toNat = a.drop (a.length - 8)
    rw [show ((a.length : Int) - 8).toNat = a.length - 8 by omega]
    exact List.take_of_length_le (by rw [List.length_drop]; omega)
theorem names_about {l : Nm} {r : Int} {g : Nat} (ok : NameOk l) (r0 : 0 ≤ r) (r1 : r < l.length) (og : 97 ≤ g ∧ g ≤ 122) : NameOk (l.take r.toNat ++ [g] ++ l.drop (r + 1).toNat) ∧ NameOk ((l ++ [g]).drop ((l ++ [g]).length - 8)) ∧ NameOk (l.take (r + 1).toNat) := by
  obtain ⟨h1, h8, hc⟩ := ok
  refine ⟨⟨?_, ?_, fun x hx => ?_⟩, ⟨?_, ?_, fun x hx => ?_⟩, ?_, ?_, fun x hx => hc x (List.mem_of_mem_take hx)⟩
  · simp
    omega
  · simp
    omega
  · rcases List.mem_append.mp hx with z | z
    · rcases List.mem_append.mp z with z | z
      · exact hc x (List.mem_of_mem_take z)
      · rw [List.mem_singleton.mp z]
        exact og
    · exact hc x (List.mem_of_mem_drop z)
  · rw [List.length_drop, List.length_append, List.length_singleton]
    omega
  · rw [List.length_drop, List.length_append, List.length_singleton]
    omega
  · rcases List.mem_append.mp (List.mem_of_mem_drop hx) with z | z
    · exact hc x z
    · rw [List.mem_singleton.mp z]
      exact og
  · rw [List.length_take]
    omega
  · rw [List.length_take]
    omega
theorem name_back {l : Nm} (ok : NameOk l) : NameOk l.reverse := ⟨by rw [List.length_reverse]; exact ok.1, by rw [List.length_reverse]; exact ok.2.1, fun x hx => ok.2.2 x (List.mem_reverse.mp hx)⟩
theorem TupAt.tk {H H' : Hp} {a : Addr} {xs : List V} (h : TupAt H a xs) (s : TK H H') : TupAt H' a xs := h.elim (fun h => .inl (s.tup _ _ h)) fun ⟨o, d, h⟩ => .inr ⟨o, d, s.frz _ _ _ h⟩
theorem lit_qx : ("qxqxqxqx" : Str) = S [113, 120, 113, 120, 113, 120, 113, 120] := by decide +kernel
abbrev s_law_no_place : Stmt := topS 24
abbrev N_law_no_place : List Str := ["deck", "places", "name", "at", "sign", "some", "one"]
theorem sc_law_no_place : FnScope N_law_no_place ["deck", "places"] (defScope s_law_no_place) := ⟨rfl, rfl, rfl, by decide +kernel, rfl, by decide +kernel, by decide +kernel⟩
section
variable {P : Program} {w : World} {K : PySem.W.Frag} {mg : Str → Option Value} {base : Heap} {C : Addr}
def spNone : Sp := fun vs H Q _ => ∃ (d c b : Addr) (n : Nat) (pl : List Nm), vs = [.ref d, .ref b] ∧ TupAt H b ((pl.map S).map V.str) ∧ DeckAt H d c n ∧ n < 60000 ∧ 0 < pl.length ∧ pl.length ≤ 30 ∧ (∀ l ∈ pl, NameOk l) ∧ ∀ (H' : Hp) (l : Nm), NameOk l → SmX d H H' → DeckAt H' d c (n + 15) → Q (.str (S l)) H'
theorem ok_no_place {f : Addr} {fd : FuncData} (F : Fun K "_law_no_place" "_law_no_place" s_law_no_place f fd) (T : Txt mg) (C_law_next : Cal P w K mg base 2 "_law_next" spNext) (C_law_name : Cal P w K mg base 3 "_law_name" spName) : FnOk P w K mg base CX0 4 f fd ["deck", "places"] spNone := by
  refine F.ok sc_law_no_place (fun vs H Q E h => ?_) (fun cdv A outer s H vs Q E hr h => ?_)
  · obtain ⟨d, c, b, n, pl, rfl, _⟩ := h
    rfl
  · obtain ⟨d, c, b, n, pl, rfl, hb, DD, hn, plp, p30, ok, q⟩ := h
    refine ⟨_, (pss_cons (ps_set (i := 2) sc_law_no_place.nd rfl (.inl rfl) (pe_ix ix_tup (pv 1) (pe_c C_law_next hr (by decide) rfl (pa_cons (pv 0) (pa_cons (pe_callB call_len_seq (by rfl) T.len bt_len (pa_cons (pv 1) pa_nil)) pa_nil))) (fun _ _ => rfl)))
      (pss_cons (ps_set (i := 3) sc_law_no_place.nd rfl (.inl rfl) (pe_c C_law_next hr (by decide) rfl (pa_cons (pv 0) (pa_cons (pe_callB call_len (by rfl) T.len bt_len (pa_cons (pv 2) pa_nil)) pa_nil))))
      (pss_cons (ps_set (i := 4) sc_law_no_place.nd rfl (.inl rfl) (pe_ix ix_str pe_str (pe_c C_law_next hr (by decide) rfl (pa_cons (pv 0) (pa_cons pe_int pa_nil))) (fun _ _ => rfl)))
      (pss_cons (ps_set (i := 5) sc_law_no_place.nd rfl (.inl rfl) (pe_lst (pa_cons (pe_op op_add_str (pe_op op_add_str (pe_slice C8.sl_txt (pv 2) po_none (po_some (pv 3))) (pv 4)) (pe_slice C8.sl_txt (pv 2) (po_some (pe_op op_add (pv 3) pe_int)) po_none)) (pa_cons (pe_slice C8.sl_txt (pe_op op_add_str (pv 2) (pv 4)) (po_some (pe_un un_neg pe_int)) po_none) (pa_cons (pe_slice C8.sl_txt (pv 2) po_none (po_some (pe_op op_add (pv 3) pe_int))) (pa_cons (pe_c C_law_name hr (by decide) rfl (pa_cons (pv 0) pa_nil)) (pa_cons (pe_revS (pv 2)) pa_nil)))))))
      (pss_cons (ps_set (i := 5) sc_law_no_place.nd rfl (.inl rfl) (pe_op op_cat (pe_lc (own := [("one", 6)]) (g := gName 6)  rfl sc_law_no_place.nd (pi_list (pv 5)) (blkOk_by (N := N_law_no_place) (sc := defScope s_law_no_place) (by decide +kernel)) (fun _ _ _ _ _ => pg_name (i := 6) sc_law_no_place.nd rfl (Or.inl rfl)) (fun _ _ _ _ _ => pts_one (pt_cmpR (notInK (K := K)) (pv 6) (pv 1) rfl)) (fun _ _ _ _ _ => (pv 6))) (pe_lst (pa_cons pe_str pa_nil))))
      (pss_one (ps_ret (pe_ix ix_list (pv 5) (pe_c C_law_next hr (by decide) rfl (pa_cons (pv 0) (pa_cons (pe_callB call_len_seq (by rfl) T.len bt_len (pa_cons (pv 5) pa_nil)) pa_nil))) (fun _ _ => rfl))))))))), ?_⟩
    refine ⟨_, rfl, _, rfl, _, rfl, b, _, rfl, .inr hb.sq, d, c, _, pl.length, by rw [List.length_map, List.length_map]; rfl, DD, by omega, by omega, by omega, fun H1 r r0 r1 S1 D1 => ?_⟩
    have hb1 := hb.tk (DD.tk S1)
    obtain ⟨jj, rfl⟩ : ∃ jj : Nat, r = jj := ⟨r.toNat, by omega⟩
    have jl : jj < pl.length := by omega
    refine ⟨b, _, jj, .str (S pl[jj]), rfl, rfl, hb1.sq, atI_nat (j := jj) (by simp [jl]), ?_⟩
    have oku := ok pl[jj] (List.getElem_mem _)
    generalize pl[jj] = u at oku
    have u8 := oku.2.1
    have u1 := oku.1
    refine ⟨_, rfl, _, rfl, .str (S u), u.length, rfl, ⟨by rw [SX.S_len]; exact sz_le (by omega), (SX.S_len _).symm⟩, d, c, _, _, rfl, D1, by omega, by omega, by omega, fun H2 r5 r50 r51 S2 D2 => ?_⟩
    refine ⟨_, rfl, d, c, _, 26, rfl, D2, by omega, by decide, by decide, fun H3 r6 r60 r61 S3 D3 => ?_⟩
    have hb3 := (hb1.tk (D1.tk S2)).tk (D2.tk S3)
    have SM3 := (S1.trans S2).trans S3
    obtain ⟨sg, hsg, msg⟩ := atI_in (xs := ("abcdefghijklmnopqrstuvwxyz" : Str).cps.toList) r60 (by
      have : ("abcdefghijklmnopqrstuvwxyz" : Str).cps.toList.length = 26 := by decide +kernel
      omega)
    have oks := abc_ok sg msg
    refine ⟨("abcdefghijklmnopqrstuvwxyz" : Str), r6, sg, rfl, rfl, by decide, hsg, ?_⟩
    obtain ⟨n1, n2, n3⟩ := names_about oku r50 (by omega) oks
    refine ⟨_, rfl, _, rfl, r5, rfl, S u, rfl, by rw [SX.S_len]; exact sz_le (by omega), _, rfl, S (u.take r5.toNat), S [sg], congrArg V.str (SX.slice_to r50), rfl, by rw [SX.S_len, SX.S_len, List.length_take, List.length_singleton]; exact sz_le (by omega),
      _, rfl, _, rfl, r5, 1, rfl, rfl, r5 + 1, rfl, S u, rfl, by rw [SX.S_len]; exact sz_le (by omega), S (u.take r5.toNat ++ [sg]), S (u.drop (r5 + 1).toNat), congrArg V.str (SX.S_cat _ _), congrArg V.str (SX.slice_from (by omega)), by rw [SX.S_len, SX.S_len, List.length_append, List.length_take, List.length_drop, List.length_singleton]; exact sz_le (by omega),
      _, rfl, _, rfl, S u, S [sg], rfl, rfl, by rw [SX.S_len, SX.S_len, List.length_singleton]; exact sz_le (by omega), 8, rfl, -8, rfl, S (u ++ [sg]), congrArg V.str (SX.S_cat _ _), by rw [SX.S_len, List.length_append, List.length_singleton]; exact sz_le (by omega),
      _, rfl, _, rfl, r5, 1, rfl, rfl, r5 + 1, rfl, S u, rfl, by rw [SX.S_len]; exact sz_le (by omega), ?_⟩
    refine ⟨_, rfl, d, c, _, rfl, D3, by omega, fun H4 l4 n4 S4 D4 => ?_⟩
    have hb4 := hb3.tk (D3.tk S4)
    have SM4 := SM3.trans S4
    refine ⟨_, rfl, S u, rfl, by rw [SX.S_len]; exact sz_le (by omega), ?_⟩
    rw [SX.S_cat, slice_end8, SX.slice_to (show (0 : Int) ≤ r5 + 1 by omega), revS_S]
    refine ⟨(by show 5 ≤ sizeLine; decide), fun p7 np7 => ?_⟩
    have all5 : ∀ y ∈ [V.str (S (u.take r5.toNat ++ [sg] ++ u.drop (r5 + 1).toNat)), .str (S ((u ++ [sg]).drop ((u ++ [sg]).length - 8))), .str (S (u.take (r5 + 1).toNat)), .str (S l4), .str (S u.reverse)], ∃ l : Nm, y = .str (S l) ∧ NameOk l := fun y hy => by
      simp only [List.mem_cons, List.not_mem_nil, or_false] at hy
      rcases hy with e | e | e | e | e
      · exact ⟨_, e, n1⟩
      · exact ⟨_, e, n2⟩
      · exact ⟨_, e, n3⟩
      · exact ⟨_, e, n4⟩
      · exact ⟨_, e, name_back oku⟩
    have l5 : [V.str (S (u.take r5.toNat ++ [sg] ++ u.drop (r5 + 1).toNat)), .str (S ((u ++ [sg]).drop ((u ++ [sg]).length - 8))), .str (S (u.take (r5 + 1).toNat)), .str (S l4), .str (S u.reverse)].length = 5 := rfl
    have p7d := D4.nd np7
    have SM5 := SM4.new (o := .lst [V.str (S (u.take r5.toNat ++ [sg] ++ u.drop (r5 + 1).toNat)), .str (S ((u ++ [sg]).drop ((u ++ [sg]).length - 8))), .str (S (u.take (r5 + 1).toNat)), .str (S l4), .str (S u.reverse)]) np7
    have D5 := D4.new (o := .lst [V.str (S (u.take r5.toNat ++ [sg] ++ u.drop (r5 + 1).toNat)), .str (S ((u ++ [sg]).drop ((u ++ [sg]).length - 8))), .str (S (u.take (r5 + 1).toNat)), .str (S l4), .str (S u.reverse)]) np7
    have hb5 := hb4.upd (o := .lst [V.str (S (u.take r5.toNat ++ [sg] ++ u.drop (r5 + 1).toNat)), .str (S ((u ++ [sg]).drop ((u ++ [sg]).length - 8))), .str (S (u.take (r5 + 1).toNat)), .str (S l4), .str (S u.reverse)]) np7
    have h7 : (upd H4 p7 (.lst [V.str (S (u.take r5.toNat ++ [sg] ++ u.drop (r5 + 1).toNat)), .str (S ((u ++ [sg]).drop ((u ++ [sg]).length - 8))), .str (S (u.take (r5 + 1).toNat)), .str (S l4), .str (S u.reverse)])) p7 = some (.lst _) := upd_same
    generalize upd H4 p7 (.lst [V.str (S (u.take r5.toNat ++ [sg] ++ u.drop (r5 + 1).toNat)), .str (S ((u ++ [sg]).drop ((u ++ [sg]).length - 8))), .str (S (u.take (r5 + 1).toNat)), .str (S l4), .str (S u.reverse)]) = H5 at SM5 D5 hb5 h7
    generalize [V.str (S (u.take r5.toNat ++ [sg] ++ u.drop (r5 + 1).toNat)), .str (S ((u ++ [sg]).drop ((u ++ [sg]).length - 8))), .str (S (u.take (r5 + 1).toNat)), .str (S l4), .str (S u.reverse)] = ys at h7 all5 l5
    -- those that are none
    refine ⟨_, rfl, p7, rfl, ⟨_, SqL.of h7⟩, fun L nL => ?_⟩
    have Lp : p7 ≠ L := ne_of_none h7 nL
    refine lc_list (K := K) (a := p7) (xs := ys) (fun i H' => ∃ zs : List Nm, zs.length ≤ i ∧ (∀ z ∈ zs, NameOk z) ∧ H' = upd H5 L (.lst ((zs.map S).map V.str))) ⟨[], Nat.le_refl _, fun z hz => (by cases hz), rfl⟩ (fun i H' _ hP => ?_) (fun i y H' hi hP => ?_) (fun H' hP => ?_)
    · obtain ⟨zs, _, _, rfl⟩ := hP
      exact SqL.of (by rw [upd_ne Lp]; exact h7)
    · obtain ⟨zs, zl, zok, rfl⟩ := hP
      obtain ⟨l, rfl, okl⟩ := all5 y (List.mem_of_getElem? hi)
      have il := (List.getElem?_eq_some_iff.mp hi).1
      refine ⟨rfl, _, rfl, _, rfl, b, _, rfl, .inr (hb5.upd nL).sq, rfl, flat_strs pl, ?_⟩
      rw [inV_strs]
      by_cases hin : l ∈ pl
      · rw [decide_eq_true hin]
        exact ⟨_, rfl, iteF ⟨zs, by omega, zok, rfl⟩⟩
      · rw [decide_eq_false hin]
        refine ⟨_, rfl, iteT ⟨_, rfl, _, upd_same, by rw [List.length_map, List.length_map]; exact sz_lt (by omega), zs ++ [l], by rw [List.length_append, List.length_singleton]; omega, fun z hz => ?_, ?_⟩⟩
        · rcases List.mem_append.mp hz with h | h
          · exact zok z h
          · rw [List.mem_singleton.mp h]
            exact okl
        · rw [upd_upd, List.map_append, List.map_append]
          rfl
    · obtain ⟨zs, zl, zok, rfl⟩ := hP
      have SM6 := SM5.new (o := .lst ((zs.map S).map V.str)) nL
      have D6 := D5.new (o := .lst ((zs.map S).map V.str)) nL
      have hL : (upd H5 L (.lst ((zs.map S).map V.str))) L = some (.lst ((zs.map S).map V.str)) := upd_same
      generalize upd H5 L (.lst ((zs.map S).map V.str)) = H6 at SM6 D6 hL
      refine ⟨(by show 1 ≤ sizeLine; decide), fun e ne => ?_⟩
      have zl5 : zs.length ≤ 5 := by omega
      refine ⟨L, e, _, _, rfl, rfl, by rw [upd_ne (ne_of_none hL ne)]; exact hL, upd_same, by rw [List.length_map, List.length_map]; exact sz_le (by simp; omega), fun g ng => ?_⟩
      have SM7 := (SM6.new (o := .lst [V.str ("qxqxqxqx" : Str)]) ne).new (o := .lst ((zs.map S).map V.str ++ [V.str ("qxqxqxqx" : Str)])) ng
      have D7 := (D6.new (o := .lst [V.str ("qxqxqxqx" : Str)]) ne).new (o := .lst ((zs.map S).map V.str ++ [V.str ("qxqxqxqx" : Str)])) ng
      have hg : (upd (upd H6 e (.lst [V.str ("qxqxqxqx" : Str)])) g (.lst ((zs.map S).map V.str ++ [V.str ("qxqxqxqx" : Str)]))) g = some (.lst ((zs.map S).map V.str ++ [V.str ("qxqxqxqx" : Str)])) := upd_same
      have gd : g ≠ d := (D6.new (o := .lst [V.str ("qxqxqxqx" : Str)]) ne).nd ng
      generalize upd (upd H6 e (.lst [V.str ("qxqxqxqx" : Str)])) g (.lst ((zs.map S).map V.str ++ [V.str ("qxqxqxqx" : Str)])) = H7 at SM7 D7 hg
      have ll : ((zs.map S).map V.str ++ [V.str ("qxqxqxqx" : Str)]).length = zs.length + 1 := by simp
      refine ⟨_, rfl, _, rfl, _, rfl, g, _, rfl, .inl (SqL.of hg), d, c, _, _, rfl, D7, by omega, by rw [ll]; omega, by rw [ll]; omega, fun H8 r8 r80 r81 S8 D8 => ?_⟩
      obtain ⟨v, hv, mv⟩ := atI_in r80 r81
      have hl : ∃ l : Nm, v = .str (S l) ∧ NameOk l := by
        rcases List.mem_append.mp mv with h | h
        · obtain ⟨x, hx, rfl⟩ := List.mem_map.mp h
          obtain ⟨z, hz, rfl⟩ := List.mem_map.mp hx
          exact ⟨z, rfl, zok z hz⟩
        · rw [List.mem_singleton.mp h, lit_qx]
          exact ⟨_, rfl, by decide, by decide, by decide⟩
      obtain ⟨l, rfl, okl⟩ := hl
      exact ⟨g, _, r8, _, rfl, rfl, SqL.of (S8 g _ gd hg), hv, q H8 l okl (SM7.trans S8) (D8.mono (by omega))⟩
end
end Far

namespace Far
open PySem PySem.Spec PyProof.Rows L2
open C8 (pss_cut tCut)
open SX (S)
abbrev s_law_asked : Stmt := topS 22
abbrev N_law_asked : List Str := ["way", "tree", "one", "other", "told", "caught", "e"]
theorem sc_law_asked : FnScope N_law_asked ["way", "tree", "one", "other"] (defScope s_law_asked) := ⟨rfl, rfl, rfl, by decide +kernel, rfl, by decide +kernel, by decide +kernel⟩
abbrev s_law_right : Stmt := topS 23
abbrev N_law_right : List Str := ["tree", "one", "other", "due", "way", "found"]
theorem sc_law_right : FnScope N_law_right ["tree", "one", "other"] (defScope s_law_right) := ⟨rfl, rfl, rfl, by decide +kernel, rfl, by decide +kernel, by decide +kernel⟩
structure TxtR (mg : Str → Option Value) : Prop where
  isinstance : mg "isinstance" = none
  range : mg "range" = none
  list : mg "list" = none
/-- what the one or the other must tell -/
noncomputable def dueD (way : Int) (ts : List Tie) (u x : Nm) : PyData := if way = 0 then .tuple ((path ts u x).map strD) else .int (dist ts u x)
theorem names_dt {H : Hp} {q : Addr} {ls : List Nm} (h : H q = some (.tup ((ls.map S).map V.str))) : Dt H (.ref q) (.tuple (ls.map strD)) := .tup h (dt_strs H ls)
section
variable {P : Program} {w : World} {K : PySem.W.Frag} {mg : Str → Option Value} {base : Heap} {C aF : Addr}
def spAsked : Sp := fun vs H Q _ => ∃ (way : Int) (v : V) (pl : List Nm) (ts : List Tie) (u x : Nm), vs = [.int way, v, .str (S u), .str (S x)] ∧ Dt H v (treeD pl ts) ∧ Fine pl ts ∧ NameOk u ∧ NameOk x ∧
  (u ∈ pl → x ∈ pl → ∀ (H' : Hp) (p : Addr) (told : V), Same H H' → H' p = some (.lst [told]) → Dt H' told (dueD way ts u x) → Q (.ref p) H') ∧
  ∀ l, BadOne pl u x l → ∀ (H' : Hp) (r : Addr), Same H H' → H' r = some (.tup [.str (Str.ofString "place"), .str (S l)]) → Q (.ref r) H'
theorem BadOne.not {pl : List Nm} {u x l : Nm} (b : BadOne pl u x l) : ¬ (u ∈ pl ∧ x ∈ pl) := fun ⟨h1, h2⟩ => b.elim (fun z => z.1 h1) fun z => z.2.1 h2
theorem ok_asked {f : Addr} {fd : FuncData} (F : Fun K "_law_asked" "_law_asked" s_law_asked f fd) (gF : mg "FarError" = some (.ref aF)) (kP : PySem.W.exmOne K (.ref C) (.ref aF) = some true) (Cway_between : CalX P w K mg base 4 "way_between" (spWayX C)) (Clength_between : CalX P w K mg base 4 "length_between" (spLenX C)) (C_law_kind : Cal P w K mg base 1 "_law_kind" (spKind C)) : FnOk P w K mg base CX0 5 f fd ["way", "tree", "one", "other"] spAsked := by
  refine F.ok sc_law_asked (fun vs H Q E h => ?_) (fun cdv A outer s H vs Q E hr h => ?_)
  · obtain ⟨way, v, pl, ts, u, x, rfl, _⟩ := h
    rfl
  · obtain ⟨way, v, pl, ts, u, x, rfl, hd, fine, oku, okx, q, qB⟩ := h
    refine ⟨_, (pss_cons (ps_set (i := 4) sc_law_asked.nd rfl (.inl rfl) pe_non)
      (pss_cons (ps_set (i := 5) sc_law_asked.nd rfl (.inl rfl) pe_non)
      (pss_cons (ps_try_keep (i := 6) (j := 5) rfl rfl rfl sc_law_asked.nd rfl rfl ⟨rfl, by decide, .inl gF⟩ takes0 (fun W pn xe tk _ => pss_one (ps_if (pt_cmpR op_eq (pv 0) pe_int (nomark _)) (pss_one (ps_set (i := 4) sc_law_asked.nd rfl (.inl rfl) (pe_cX tk Cway_between hr (by decide) rfl (pa_cons (pv 1) (pa_cons (pv 2) (pa_cons (pv 3) pa_nil)))))) (pss_one (ps_set (i := 4) sc_law_asked.nd rfl (.inl rfl) (pe_cX tk Clength_between hr (by decide) rfl (pa_cons (pv 1) (pa_cons (pv 2) (pa_cons (pv 3) pa_nil)))))))) (fun a oe cls d pn _ _ => pss_one (ps_set (i := 5) sc_law_asked.nd rfl (.inl rfl) (pv 6))) (fun D σ H a h1 h2 => ⟨.ref a, h1, h2⟩))
      (pss_cut (ps_if (pt_cmpR op_notN (pv 5) pe_non (nomark _))
        (pss_one (ps_ret (pe_c C_law_kind hr (by decide) rfl (pa_cons (pv 5) pa_nil))))
        pss_nil)
      (pss_one (ps_ret (pe_lst (pa_cons (pv 4) pa_nil)))))))), ?_⟩
    -- once something is told
    have good : u ∈ pl → x ∈ pl → ∀ (H' : Hp) (told : V), Same H H' → Dt H' told (dueD way ts u x) → ∀ p, H' p = none → Q (.ref p) (upd H' p (.lst [told])) := fun hu hx H' told sm hdt p np => q hu hx _ p told (same_new sm np) upd_same (Dt.keep (TK.new np) hdt)
    refine ⟨_, rfl, rfl, _, rfl, ite2 (fun e => ?_) (fun e => ?_)⟩
    · have w0 : way = 0 := by
        have := of_decide_eq_true e
        exact V.int.inj this
      refine ⟨_, rfl, _, rfl, _, rfl, v, pl, ts, u, x, rfl, hd, fine, oku, okx, fun hu hx H' r sm nr hr' => ?_, fun l bad H' d sm hx => ?_⟩
      · refine ⟨fun σ' H'' => σ' = [some (.int way), some v, some (.str (S u)), some (.str (S x)), some (.ref r), some .non, none] ∧ H'' = H', ?_, fun σ' H'' hM => ?_⟩
        · exact ⟨_, rfl, rfl, _, rfl, iteF ⟨rfl, rfl⟩⟩
        · obtain ⟨rfl, rfl⟩ := hM
          exact ⟨_, rfl, (by show 1 ≤ sizeLine; decide), fun p np => good hu hx _ _ sm (by unfold dueD; rw [if_pos w0]; exact names_dt hr') p np⟩
      · refine ⟨true, kP, fun _ a na => ?_, fun z => by cases z⟩
        have da : d ≠ a := ne_of_none hx na
        have S1 := same_new (o := caughtO a (.ref C) (some d)) sm na
        have hC : Caught (upd H' a (caughtO a (.ref C) (some d))) a C d [("name", .str (S l))] := ⟨upd_same, by rw [upd_ne da]; exact hx⟩
        generalize upd H' a (caughtO a (.ref C) (some d)) = H1 at S1 hC
        refine ⟨fun σ' H'' => False, ?_, fun σ' H'' hM => hM.elim⟩
        refine ⟨_, rfl, rfl, ?_⟩
        rw [show (!decide (V.ref a = V.non)) = true from by simp]
        refine ⟨_, rfl, iteT ?_⟩
        exact ⟨_, rfl, a, d, S l, rfl, hC, fun H2 r S2 hr2 => qB l bad H2 r (S1.trans S2) hr2⟩
    · have w0 : way ≠ 0 := fun z => e (decide_eq_true (by rw [z]))
      refine ⟨_, rfl, _, rfl, _, rfl, v, pl, ts, u, x, rfl, hd, fine, oku, okx, fun hu hx H' sm => ?_, fun l bad H' d sm hx => ?_⟩
      · refine ⟨fun σ' H'' => σ' = [some (.int way), some v, some (.str (S u)), some (.str (S x)), some (.int (dist ts u x)), some .non, none] ∧ H'' = H', ?_, fun σ' H'' hM => ?_⟩
        · exact ⟨_, rfl, rfl, _, rfl, iteF ⟨rfl, rfl⟩⟩
        · obtain ⟨rfl, rfl⟩ := hM
          exact ⟨_, rfl, (by show 1 ≤ sizeLine; decide), fun p np => good hu hx _ _ sm (by unfold dueD; rw [if_neg w0]; exact .int _) p np⟩
      · refine ⟨true, kP, fun _ a na => ?_, fun z => by cases z⟩
        have da : d ≠ a := ne_of_none hx na
        have S1 := same_new (o := caughtO a (.ref C) (some d)) sm na
        have hC : Caught (upd H' a (caughtO a (.ref C) (some d))) a C d [("name", .str (S l))] := ⟨upd_same, by rw [upd_ne da]; exact hx⟩
        generalize upd H' a (caughtO a (.ref C) (some d)) = H1 at S1 hC
        refine ⟨fun σ' H'' => False, ?_, fun σ' H'' hM => hM.elim⟩
        refine ⟨_, rfl, rfl, ?_⟩
        rw [show (!decide (V.ref a = V.non)) = true from by simp]
        refine ⟨_, rfl, iteT ?_⟩
        exact ⟨_, rfl, a, d, S l, rfl, hC, fun H2 r S2 hr2 => qB l bad H2 r (S1.trans S2) hr2⟩
def spRightW : Sp := fun vs H Q _ => ∃ (v : V) (pl : List Nm) (ts : List Tie) (u x : Nm), vs = [v, .str (S u), .str (S x)] ∧ Dt H v (treeD pl ts) ∧ Fine pl ts ∧ u ∈ pl ∧ x ∈ pl ∧ ∀ H' : Hp, Same H H' → Q (.bl true) H'
theorem plain_names (ls : List Nm) (l : ls.length ≤ 1000) : Plain 2 (.tuple (ls.map strD)) :=
  .tup (fun d hd => by
    obtain ⟨x, _, rfl⟩ := List.mem_map.mp hd
    exact .str _ _) (by rw [List.length_map]; exact l)
theorem ok_rightW {f : Addr} {fd : FuncData} (F : Fun K "_law_right" "_law_right" s_law_right f fd) (T : TxtR mg) (C_law_lengths : Cal P w K mg base 2 "_law_lengths" spWaysTo) (C_law_asked : Cal P w K mg base 5 "_law_asked" spAsked) (C_law_same : Cal P w K mg base 3 "_law_same" (spSame 2)) : FnOk P w K mg base CX0 6 f fd ["tree", "one", "other"] spRightW := by
  refine F.ok sc_law_right (fun vs H Q E h => ?_) (fun cdv A outer s H vs Q E hr h => ?_)
  · obtain ⟨v, pl, ts, u, x, rfl, _⟩ := h
    rfl
  · obtain ⟨v, pl, ts, u, x, rfl, hd, fine, hu, hx, q⟩ := h
    refine ⟨_, (pss_cons (ps_set (i := 3) sc_law_right.nd rfl (.inl rfl) (pe_dget (hu_of hr) (pe_c C_law_lengths hr (by decide) rfl (pa_cons (pv 0) (pa_cons (pv 1) pa_nil))) (pv 2) (fun _ _ => rfl)))
      (pss_cut (ps_for PassesOwn.never rfl (pi_range1 (by rfl) T.range (pa_cons pe_int pa_nil)) (pg_name (i := 4) sc_law_right.nd rfl (.inl rfl))
        (pss_cons (ps_set (i := 5) sc_law_right.nd rfl (.inl rfl) (pe_c C_law_asked hr (by decide) rfl (pa_cons (pv 4) (pa_cons (pv 0) (pa_cons (pv 1) (pa_cons (pv 2) pa_nil))))))
        (pss_one (ps_if (PW.pt (pw_or (pt_not (pt_val (pe_callB call_isi (by rfl) T.isinstance bt_isinstance (pa_cons (pv 5) (pa_cons (pe_bltn (v := .ty "list") (by rfl) T.list bt_list rfl) pa_nil))))) (pw_or1 (pt_not (pt_val (pe_c C_law_same hr (by decide) rfl (pa_cons (pe_ix ix_list (pv 5) pe_int (fun _ _ => rfl)) (pa_cons (pe_ix ix_tup (pv 3) (pv 4) (fun _ _ => rfl)) pa_nil))))))))
          (pss_one (ps_ret pe_bl))
          pss_nil))))
      (pss_one (ps_ret pe_bl)))), ?_⟩
    have pk := path_len fine hu hx
    have pl1 := fine.len
    refine ⟨_, rfl, _, rfl, v, pl, ts, u, rfl, hd, fine, hu, fun H1 D fs ad pw W hall => ?_⟩
    have hx' := hall x hx
    refine ⟨_, rfl, D, .ref (ad x), rfl, by rw [← dkm_get (f := fun x => V.ref (ad x)) hx']; exact DGet.k (k := Sum.inr (S x)) W.dict, ?_⟩
    obtain ⟨v1, v2⟩ := W.val x hx'
    refine ⟨fun σ' H' => Same H1 H', ?_, fun σ' H' hM => q _ (W.same.trans hM)⟩
    refine ⟨2, rfl, by decide, by decide, for_range (n := 2) (fun i σ' H' => (∃ x4 x5, σ' = [some v, some (.str (S u)), some (.str (S x)), some (.ref (ad x)), x4, x5]) ∧ Same H1 H') ⟨⟨_, _, rfl⟩, Same.refl _⟩ (fun i σ' H' hi hP => ?_) (fun σ' H' hP => hP.2)⟩
    obtain ⟨⟨x4, x5, rfl⟩, S2⟩ := hP
    have S02 := W.same.trans S2
    refine ⟨_, rfl, _, rfl, _, rfl, _, rfl, 0 + (i : Int), v, pl, ts, u, x, rfl, Dt.keep (TK.of S02) hd, fine, fine.ok u hu, fine.ok x hx, fun _ _ H3 p told S3 hp hdt => ?_, fun l bad => absurd ⟨hu, hx⟩ bad.not⟩
    refine ⟨_, rfl, _, _, _, _, true, rfl, .ty _, .base (.lst hp), kit_cls K (by decide +kernel), _, rfl, iteF ?_⟩
    have dueAt : ∃ dv, atI [V.ref (pw x), .int (dist ts u x)] (0 + (i : Int)) = some dv ∧ Dt H3 dv (dueD (0 + (i : Int)) ts u x) ∧ Plain 2 (dueD (0 + (i : Int)) ts u x) := by
      match i, hi with
      | 0, _ => exact ⟨_, rfl, names_dt (S3 _ _ (S2 _ _ v2)), plain_names _ (by omega)⟩
      | 1, _ => exact ⟨_, rfl, .int _, .int _ _⟩
    obtain ⟨dv, hdv, ddt, pln⟩ := dueAt
    refine ⟨_, rfl, p, _, 0, told, rfl, rfl, SqL.of hp, atI_nat (j := 0) rfl, _, rfl, _, rfl, ad x, _, 0 + (i : Int), dv, rfl, rfl, SqT.of (S3 _ _ (S2 _ _ v1)), hdv, ?_⟩
    exact ⟨told, dv, _, rfl, hdt, ddt, pln, fun H4 S4 => ⟨_, rfl, iteF ⟨⟨_, _, rfl⟩, (S2.trans S3).trans S4⟩⟩⟩
end
end Far

namespace Far
open PySem PySem.Spec PyProof.Rows L2
open C8 (pss_cut tCut)
open SX (S)
abbrev s_law : Stmt := topS 25
abbrev N_law : List Str := ["script", "deck", "turn", "tree", "places", "k", "one", "other", "bad", "worse", "first", "second", "due", "way"]
theorem sc_law : FnScope N_law ["script"] (defScope s_law) := ⟨rfl, rfl, rfl, by decide +kernel, rfl, by decide +kernel, by decide +kernel⟩
def spLaw (K : PySem.W.Frag) : Sp := fun vs H Q _ => ∃ (a : Addr) (ns : List Int), vs = [.ref a] ∧ SqL K H a (ns.map V.int) ∧ ns.length ≤ 63 ∧ ∀ H', Q (.bl true) H'
/-- a tree at t, its places at b, and the deck -/
structure At (H : Hp) (t b d c : Addr) (pl : List Nm) (ts : List Tie) (n : Nat) : Prop where
  dt : Dt H (.ref t) (treeD pl ts)
  pa : TupAt H b ((pl.map S).map V.str)
  dk : DeckAt H d c n
theorem deck_same {H H' : Hp} {d c : Addr} {n : Nat} (h : DeckAt H d c n) (s : Same H H') : DeckAt H' d c n := by
  obtain ⟨cs, i, l, m, z, h1, h2, h3⟩ := h
  exact ⟨cs, i, l, m, z, s _ _ h1, s _ _ h2, h3⟩
theorem At.same {H H' : Hp} {t b d c : Addr} {pl : List Nm} {ts : List Tie} {n : Nat} (h : At H t b d c pl ts n) (s : Same H H') : At H' t b d c pl ts n := ⟨Dt.keep (TK.of s) h.dt, h.pa.same s, deck_same h.dk s⟩
theorem At.step {H H' : Hp} {t b d c : Addr} {pl : List Nm} {ts : List Tie} {n m : Nat} (h : At H t b d c pl ts n) (s : SmX d H H') (k : DeckAt H' d c m) : At H' t b d c pl ts m := ⟨Dt.keep (h.dk.tk s) h.dt, h.pa.tk (h.dk.tk s), k⟩
theorem At.mono {H : Hp} {t b d c : Addr} {pl : List Nm} {ts : List Tie} {n m : Nat} (h : At H t b d c pl ts n) (l : n ≤ m) : At H t b d c pl ts m := ⟨h.dt, h.pa, h.dk.mono l⟩
theorem lit_a : ("a" : Str) = S [97] := by decide +kernel
theorem fineA : Fine [[97]] [] := by
  refine ⟨⟨[[97]], [], .one _, List.Perm.refl _, List.Perm.refl _⟩, fun l hl => ?_, by decide⟩
  rw [List.mem_singleton.mp hl]
  exact ⟨by decide, by decide, by decide⟩
section
variable {P : Program} {w : World} {K : PySem.W.Frag} {mg : Str → Option Value} {base : Heap} {C : Addr}
theorem ok_law {f : Addr} {fd : FuncData} (F : Fun K "law" "law" s_law f fd) (T : Txt mg) (C_law_deck : Cal P w K mg base 1 "_law_deck" (spDeck K)) (C_law_next : Cal P w K mg base 2 "_law_next" spNext) (C_law_tree : Cal P w K mg base 5 "_law_tree" (spTree K))
    (C_law_no_place : Cal P w K mg base 4 "_law_no_place" spNone) (C_law_asked : Cal P w K mg base 5 "_law_asked" spAsked) (C_law_right : Cal P w K mg base 6 "_law_right" spRightW) (Cway_between : CalX P w K mg base 4 "way_between" (spWayX C)) : FnOk P w K mg base CX0 7 f fd ["script"] (spLaw K) := by
  refine F.ok sc_law (fun vs H Q E h => ?_) (fun cdv A outer s H vs Q E hr h => ?_)
  · obtain ⟨a, ns, rfl, _⟩ := h
    rfl
  · obtain ⟨a, ns, rfl, hS, hl, q⟩ := h
    refine ⟨_, (pss_cons (ps_set (i := 1) sc_law.nd rfl (.inl rfl) (pe_c C_law_deck hr (by decide) rfl (pa_cons (pv 0) pa_nil)))
      (pss_cut (ps_for PassesOwn.never rfl (pi_range1 (by rfl) T.range (pa_cons pe_int pa_nil)) (pg_name (i := 2) sc_law.nd rfl (.inl rfl))
        (pss_cons (ps_set (i := 3) sc_law.nd rfl (.inl rfl) (pe_c C_law_tree hr (by decide) rfl (pa_cons (pv 1) (pa_cons pe_int pa_nil))))
        (pss_cons (ps_set (i := 4) sc_law.nd rfl (.inl rfl) (pe_ix ix_tup (pv 3) pe_int (fun _ _ => rfl)))
        (pss_one (ps_for PassesOwn.never rfl (pi_range1 (by rfl) T.range (pa_cons pe_int pa_nil)) (pg_name (i := 5) sc_law.nd rfl (.inl rfl))
          (pss_cons (ps_set (i := 6) sc_law.nd rfl (.inl rfl) (pe_ix ix_tup (pv 4) (pe_c C_law_next hr (by decide) rfl (pa_cons (pv 1) (pa_cons (pe_callB call_len_seq (by rfl) T.len bt_len (pa_cons (pv 4) pa_nil)) pa_nil))) (fun _ _ => rfl)))
          (pss_cons (ps_set (i := 7) sc_law.nd rfl (.inl rfl) (pe_ix ix_list (pe_lst (pa_cons (pe_ix ix_tup (pv 4) (pe_c C_law_next hr (by decide) rfl (pa_cons (pv 1) (pa_cons (pe_callB call_len_seq (by rfl) T.len bt_len (pa_cons (pv 4) pa_nil)) pa_nil))) (fun _ _ => rfl)) (pa_cons (pv 6) (pa_cons (pe_ix ix_tup (pv 4) (pe_un un_neg pe_int) (fun _ _ => rfl)) (pa_cons (pe_ix ix_tup (pv 4) pe_int (fun _ _ => rfl)) pa_nil))))) (pe_c C_law_next hr (by decide) rfl (pa_cons (pv 1) (pa_cons pe_int pa_nil))) (fun _ _ => rfl)))
          (pss_cons (ps_set (i := 8) sc_law.nd rfl (.inl rfl) (pe_c C_law_no_place hr (by decide) rfl (pa_cons (pv 1) (pa_cons (pv 4) pa_nil))))
          (pss_cons (ps_set (i := 9) sc_law.nd rfl (.inl rfl) (pe_c C_law_no_place hr (by decide) rfl (pa_cons (pv 1) (pa_cons (pv 4) pa_nil))))
          (pss_cut (ps_for PassesOwn.never rfl (pi_list (pe_lst (pa_cons (pe_tup (pa_cons (pv 8) (pa_cons (pv 6) (pa_cons (pv 8) pa_nil)))) (pa_cons (pe_tup (pa_cons (pv 6) (pa_cons (pv 8) (pa_cons (pv 8) pa_nil)))) (pa_cons (pe_tup (pa_cons (pv 8) (pa_cons (pv 9) (pa_cons (pv 8) pa_nil)))) pa_nil))))) (pg_tup rfl (pgs_cons (pg_name (i := 10) sc_law.nd rfl (.inl rfl)) (pgs_cons (pg_name (i := 11) sc_law.nd rfl (.inl rfl)) (pgs_cons (pg_name (i := 12) sc_law.nd rfl (.inl rfl)) pgs_nil))))
            (pss_one (ps_if (pt_cmpR op_notIn_seq (pv 12) (pv 4) rfl)
              (pss_one (ps_for PassesOwn.never rfl (pi_range1 (by rfl) T.range (pa_cons pe_int pa_nil)) (pg_name (i := 13) sc_law.nd rfl (.inl rfl))
                (pss_one (ps_if (pt_cmpR (op_neD (hd_of hr (by decide))) (pe_c C_law_asked hr (by decide) rfl (pa_cons (pv 13) (pa_cons (pv 3) (pa_cons (pv 10) (pa_cons (pv 11) pa_nil))))) (pe_tup (pa_cons pe_str (pa_cons (pv 12) pa_nil))) (nomark _))
                  (pss_one (ps_ret pe_bl))
                  pss_nil))))
              pss_nil)))
          (pss_one (ps_if (PW.pt (pw_or (pt_not (pt_val (pe_c C_law_right hr (by decide) rfl (pa_cons (pv 3) (pa_cons (pv 6) (pa_cons (pv 7) pa_nil)))))) (pw_or1 (pt_not (pt_val (pe_c C_law_right hr (by decide) rfl (pa_cons (pv 3) (pa_cons (pv 7) (pa_cons (pv 6) pa_nil)))))))))
            (pss_one (ps_ret pe_bl))
            pss_nil))))))))))))
      (pss_one (ps_ret (pe_cmpR (op_eqD (hd_of hr (by decide))) (pe_cX takes0 Cway_between hr (by decide) rfl (pa_cons (pe_tup (pa_cons (pe_tup (pa_cons pe_str pa_nil)) (pa_cons (pe_tup pa_nil) pa_nil))) (pa_cons pe_str (pa_cons pe_str pa_nil)))) (pe_tup (pa_cons pe_str pa_nil)) (nomark _)))))), ?_⟩
    refine ⟨_, rfl, a, ns, rfl, hS, hl, fun H1 d c S1 d0 D1 => ?_⟩
    refine ⟨fun σ' H' => True, ?_, fun σ' H' _ => ?_⟩
    · refine ⟨5, rfl, by decide, by decide, for_range (n := 5) (fun i σ' H' => (∃ x2 x3 x4 x5 x6 x7 x8 x9 x10 x11 x12 x13, σ' = [some (.ref a), some (.ref d), x2, x3, x4, x5, x6, x7, x8, x9, x10, x11, x12, x13]) ∧ DeckAt H' d c (3000 * i)) ⟨⟨_, _, _, _, _, _, _, _, _, _, _, _, rfl⟩, D1⟩ (fun i σ' H' hi hP => ?_) (fun σ' H' hP => trivial)⟩
      obtain ⟨⟨x2, x3, x4, x5, x6, x7, x8, x9, x10, x11, x12, x13, rfl⟩, D2⟩ := hP
      refine ⟨_, rfl, d, c, _, 30, rfl, D2, by omega, by decide, by decide, fun H2 t pl ts it ok pll hDt hZ S2 D3 => ?_⟩
      have fine : Fine pl ts := ⟨it, ok, by omega⟩
      have p30 : pl.length ≤ 30 := by omega
      have plp : 0 < pl.length := by
        have := it.len
        omega
      obtain ⟨t', b, bt, vs, et, ht, hb, _, _⟩ := dt_tree hDt
      cases et
      refine ⟨_, rfl, t, _, 0, .ref b, rfl, rfl, SqT.of ht, atI_nat (j := 0) rfl, ?_⟩
      have A2 : At H2 t b d c pl ts (3000 * i + 800 + 40 * 0) := ⟨hDt, hb, D3⟩
      have gj : ∀ {j : Nat}, (h : j < pl.length) → ((pl.map S).map V.str)[j]? = some (.str (S pl[j])) := fun h => by simp [h]
      have gl : atI ((pl.map S).map V.str) (-1) = some (.str (S (pl[pl.length - 1]))) := by
        obtain ⟨pre, z, e⟩ : ∃ pre z, pl = pre ++ [z] := by
          rcases List.eq_nil_or_concat pl with e | ⟨pre, z, e⟩
          · exact absurd e (List.length_pos_iff.mp plp)
          · exact ⟨pre, z, by rw [e, List.concat_eq_append]⟩
        subst e
        have : (pre ++ [z])[(pre ++ [z]).length - 1] = z := by simp
        rw [this, List.map_append, List.map_append]
        exact atI_last _ _
      refine ⟨6, rfl, by decide, by decide, for_range (n := 6) (fun k σ' H' => (∃ x5 x6 x7 x8 x9 x10 x11 x12 x13, σ' = [some (.ref a), some (.ref d), some (.int (0 + (i : Nat))), some (.ref t), some (.ref b), x5, x6, x7, x8, x9, x10, x11, x12, x13]) ∧ At H' t b d c pl ts (3000 * i + 800 + 40 * k)) ⟨⟨_, _, _, _, _, _, _, _, _, rfl⟩, A2⟩ (fun k σ' H' hk hP => ?_) (fun σ' H' hP => ?_)⟩
      · obtain ⟨⟨x5, x6, x7, x8, x9, x10, x11, x12, x13, rfl⟩, A3⟩ := hP
        -- the one
        refine ⟨_, rfl, _, rfl, _, rfl, b, _, rfl, .inr A3.pa.sq, d, c, _, pl.length, by rw [List.length_map, List.length_map]; rfl, A3.dk, by omega, by omega, by omega, fun H4 r r0 r1 S4 D4 => ?_⟩
        have A4 := A3.step S4 D4
        obtain ⟨jj, rfl⟩ : ∃ jj : Nat, r = jj := ⟨r.toNat, by omega⟩
        have jl : jj < pl.length := by omega
        refine ⟨b, _, jj, .str (S pl[jj]), rfl, rfl, A4.pa.sq, atI_nat (gj jl), ?_⟩
        obtain ⟨u, eu, hu⟩ : ∃ u : Nm, pl[jj] = u ∧ u ∈ pl := ⟨_, rfl, List.getElem_mem _⟩
        rw [eu]
        -- the other
        refine ⟨_, rfl, _, rfl, _, rfl, b, _, rfl, .inr A4.pa.sq, d, c, _, pl.length, by rw [List.length_map, List.length_map]; rfl, A4.dk, by omega, by omega, by omega, fun H5 r' r0' r1' S5 D5 => ?_⟩
        have A5 := A4.step S5 D5
        obtain ⟨jk, rfl⟩ : ∃ jk : Nat, r' = jk := ⟨r'.toNat, by omega⟩
        have kl : jk < pl.length := by omega
        refine ⟨b, _, jk, .str (S pl[jk]), rfl, rfl, A5.pa.sq, atI_nat (gj kl), _, rfl, _, rfl, 1, rfl, b, _, -1, .str (S pl[pl.length - 1]), rfl, rfl, A5.pa.sq, gl, _, rfl, b, _, 0, .str (S pl[0]), rfl, rfl, A5.pa.sq, atI_nat (j := 0) (gj plp), (by show 4 ≤ sizeLine; decide), fun p np => ?_⟩
        have pd : p ≠ d := A5.dk.nd np
        have A6 := A5.same (same_new (o := .lst [.str (S pl[jk]), .str (S u), .str (S pl[pl.length - 1]), .str (S pl[0])]) (Same.refl _) np)
        have hp6 : (upd H5 p (.lst [.str (S pl[jk]), .str (S u), .str (S pl[pl.length - 1]), .str (S pl[0])])) p = some (.lst [.str (S pl[jk]), .str (S u), .str (S pl[pl.length - 1]), .str (S pl[0])]) := upd_same
        generalize upd H5 p (.lst [.str (S pl[jk]), .str (S u), .str (S pl[pl.length - 1]), .str (S pl[0])]) = H6 at A6 hp6
        refine ⟨_, rfl, d, c, _, 4, rfl, A6.dk, by omega, by decide, by decide, fun H7 r7 r70 r71 S7 D7 => ?_⟩
        have A7 := A6.step S7 D7
        obtain ⟨v, hv, mv⟩ := atI_in (xs := [V.str (S pl[jk]), .str (S u), .str (S pl[pl.length - 1]), .str (S pl[0])]) r70 (by simpa using r71)
        obtain ⟨x, rfl, hx⟩ : ∃ x : Nm, v = .str (S x) ∧ x ∈ pl := by
          simp only [List.mem_cons, List.not_mem_nil, or_false] at mv
          rcases mv with e | e | e | e
          · exact ⟨_, e, List.getElem_mem _⟩
          · exact ⟨_, e, hu⟩
          · exact ⟨_, e, List.getElem_mem _⟩
          · exact ⟨_, e, List.getElem_mem _⟩
        refine ⟨p, _, r7, _, rfl, rfl, SqL.of (S7 p _ pd hp6), hv, ?_⟩
        -- the bad ones
        refine ⟨_, rfl, _, rfl, d, c, b, _, pl, rfl, A7.pa, A7.dk, by omega, plp, p30, ok, fun H8 bad okb S8 D8 => ?_⟩
        have A8 := A7.step S8 D8
        refine ⟨_, rfl, _, rfl, d, c, b, _, pl, rfl, A8.pa, A8.dk, by omega, plp, p30, ok, fun H9 worse okw S9 D9 => ?_⟩
        have A9 := A8.step S9 D9
        have oku := ok u hu
        -- those that are refused
        refine ⟨fun σ' H' => (∃ x10 x11 x12 x13, σ' = [some (.ref a), some (.ref d), some (.int (0 + (i : Nat))), some (.ref t), some (.ref b), some (.int (0 + (k : Nat))), some (.str (S u)), some (.str (S x)), some (.str (S bad)), some (.str (S worse)), x10, x11, x12, x13]) ∧ At H' t b d c pl ts (3000 * i + 800 + 40 * k + 33), ?_, fun σ' H10 hM => ?_⟩
        · refine ⟨_, rfl, _, rfl, _, rfl, (by show 3 ≤ sizeLine; decide), fun c1 nc1 => ?_⟩
          have T1 := same_new (o := .tup [.str (S bad), .str (S u), .str (S bad)]) (Same.refl H9) nc1
          refine ⟨_, rfl, _, rfl, _, rfl, (by show 3 ≤ sizeLine; decide), fun c2 nc2 => ?_⟩
          have T2 := same_new (o := .tup [.str (S u), .str (S bad), .str (S bad)]) T1 nc2
          refine ⟨_, rfl, _, rfl, _, rfl, (by show 3 ≤ sizeLine; decide), fun c3 nc3 => ?_⟩
          have T3 := same_new (o := .tup [.str (S bad), .str (S worse), .str (S bad)]) T2 nc3
          refine ⟨(by show 3 ≤ sizeLine; decide), fun c4 nc4 => ?_⟩
          have T4 := same_new (o := .lst [.ref c1, .ref c2, .ref c3]) T3 nc4
          have h1 : (upd (upd (upd (upd H9 c1 (.tup [.str (S bad), .str (S u), .str (S bad)])) c2 (.tup [.str (S u), .str (S bad), .str (S bad)])) c3 (.tup [.str (S bad), .str (S worse), .str (S bad)])) c4 (.lst [.ref c1, .ref c2, .ref c3])) c1 = some (.tup [.str (S bad), .str (S u), .str (S bad)]) := (((TK.new nc2).trans (TK.new nc3)).trans (TK.new nc4)).tup _ _ upd_same
          have h2 : (upd (upd (upd (upd H9 c1 (.tup [.str (S bad), .str (S u), .str (S bad)])) c2 (.tup [.str (S u), .str (S bad), .str (S bad)])) c3 (.tup [.str (S bad), .str (S worse), .str (S bad)])) c4 (.lst [.ref c1, .ref c2, .ref c3])) c2 = some (.tup [.str (S u), .str (S bad), .str (S bad)]) := ((TK.new nc3).trans (TK.new nc4)).tup _ _ upd_same
          have h3 : (upd (upd (upd (upd H9 c1 (.tup [.str (S bad), .str (S u), .str (S bad)])) c2 (.tup [.str (S u), .str (S bad), .str (S bad)])) c3 (.tup [.str (S bad), .str (S worse), .str (S bad)])) c4 (.lst [.ref c1, .ref c2, .ref c3])) c3 = some (.tup [.str (S bad), .str (S worse), .str (S bad)]) := (TK.new nc4).tup _ _ upd_same
          have h4 : (upd (upd (upd (upd H9 c1 (.tup [.str (S bad), .str (S u), .str (S bad)])) c2 (.tup [.str (S u), .str (S bad), .str (S bad)])) c3 (.tup [.str (S bad), .str (S worse), .str (S bad)])) c4 (.lst [.ref c1, .ref c2, .ref c3])) c4 = some (.lst [.ref c1, .ref c2, .ref c3]) := upd_same
          have A10 := A9.same T4
          generalize upd (upd (upd (upd H9 c1 (.tup [.str (S bad), .str (S u), .str (S bad)])) c2 (.tup [.str (S u), .str (S bad), .str (S bad)])) c3 (.tup [.str (S bad), .str (S worse), .str (S bad)])) c4 (.lst [.ref c1, .ref c2, .ref c3]) = H10 at A10 h1 h2 h3 h4
          refine ⟨c4, rfl, ⟨_, SqL.of h4⟩, for_list (K := K) (a := c4) (xs := [.ref c1, .ref c2, .ref c3]) (fun j σ' H' => (∃ x10 x11 x12 x13, σ' = [some (.ref a), some (.ref d), some (.int (0 + (i : Nat))), some (.ref t), some (.ref b), some (.int (0 + (k : Nat))), some (.str (S u)), some (.str (S x)), some (.str (S bad)), some (.str (S worse)), x10, x11, x12, x13]) ∧ Same H10 H') ⟨⟨_, _, _, _, rfl⟩, Same.refl _⟩ (fun j σ' H' _ hP => SqL.of (hP.2 _ _ h4)) (fun j y σ' H' hj hP => ?_) (fun σ' H' hP => ?_)⟩
          · obtain ⟨⟨y10, y11, y12, y13, rfl⟩, S11⟩ := hP
            obtain ⟨cc, m1, m2, rfl, hcc, ok1, ok2, hbad⟩ : ∃ (cc : Addr) (m1 m2 : Nm), y = .ref cc ∧ H10 cc = some (.tup [.str (S m1), .str (S m2), .str (S bad)]) ∧ NameOk m1 ∧ NameOk m2 ∧ (bad ∉ pl → BadOne pl m1 m2 bad) := by
              match j, hj with
              | 0, hj => exact ⟨c1, _, _, (Option.some.inj hj).symm, h1, okb, oku, fun z => .inl ⟨z, rfl⟩⟩
              | 1, hj => exact ⟨c2, _, _, (Option.some.inj hj).symm, h2, oku, okb, fun z => .inr ⟨hu, z, rfl⟩⟩
              | 2, hj => exact ⟨c3, _, _, (Option.some.inj hj).symm, h3, okb, okw, fun z => .inl ⟨z, rfl⟩⟩
            have A11 := A10.same S11
            refine ⟨cc, _, rfl, SqT.of (S11 _ _ hcc), rfl, _, _, rfl, _, _, rfl, _, _, rfl, rfl, ?_⟩
            refine ⟨_, rfl, _, rfl, b, _, rfl, .inr A11.pa.sq, rfl, flat_strs pl, _, rfl, ?_⟩
            rw [inV_strs]
            by_cases hin : bad ∈ pl
            · rw [decide_eq_true hin]
              exact iteF ⟨⟨_, _, _, _, rfl⟩, S11⟩
            · rw [decide_eq_false hin]
              refine iteT ?_
              have bo := hbad hin
              refine ⟨2, rfl, by decide, by decide, for_range (n := 2) (fun g σ' H' => (∃ x13, σ' = [some (.ref a), some (.ref d), some (.int (0 + (i : Nat))), some (.ref t), some (.ref b), some (.int (0 + (k : Nat))), some (.str (S u)), some (.str (S x)), some (.str (S bad)), some (.str (S worse)), some (.str (S m1)), some (.str (S m2)), some (.str (S bad)), x13]) ∧ Same H10 H') ⟨⟨_, rfl⟩, S11⟩ (fun g σ' H' hg hP => ?_) (fun σ' H' hP => ?_)⟩
              · obtain ⟨⟨z13, rfl⟩, S12⟩ := hP
                have A12 := A10.same S12
                refine ⟨_, rfl, _, rfl, _, rfl, _, rfl, _, .ref t, pl, ts, m1, m2, rfl, A12.dt, fine, ok1, ok2, fun h1 h2 => absurd ⟨h1, h2⟩ bo.not, fun l bl H13 r S13 hr => ?_⟩
                have el : l = bad := by
                  rcases bo with ⟨z1, z2⟩ | ⟨z1, z2, z3⟩ <;> rcases bl with ⟨y1, y2⟩ | ⟨y1, y2, y3⟩
                  · rw [y2, z2]
                  · exact absurd y1 z1
                  · exact absurd z1 y1
                  · rw [y3, z3]
                subst el
                refine ⟨_, rfl, (by show 2 ≤ sizeLine; decide), fun e ne => ?_⟩
                have hr3 : (upd H13 e (.tup [.str (Str.ofString "place"), .str (S l)])) r = some (.tup [.str (Str.ofString "place"), .str (S l)]) := by
                  rw [upd_ne (ne_of_none hr ne)]
                  exact hr
                have so := strOk_S okb
                have sh : SeqAt.shaped (.tuple [.str (Str.ofString "place"), .str (S l)]) = true := by
                  show (((PyData.strOk (Str.ofString "place")) && ((PyData.strOk (S l)) && true)) && decide (_ ≤ 64)) = true
                  rw [so]
                  have : PyData.strOk (Str.ofString "place") = true := by decide +kernel
                  rw [this]
                  rfl
                refine ⟨.tuple [.str (Str.ofString "place"), .str (S l)], .tuple [.str (Str.ofString "place"), .str (S l)], .tup (SqT.of hr3) (.cons (.str _) (.cons (.str _) .nil)), .tup (SqT.of upd_same) (.cons (.str _) (.cons (.str _) .nil)), sh, sh, _, rfl, ?_⟩
                have ee : (PyData.tuple [.str (Str.ofString "place"), .str (S l)]).eqv (.tuple [.str (Str.ofString "place"), .str (S l)]) = true := by
                  show ((Str.ofString "place" == Str.ofString "place") && ((S l == S l) && true)) = true
                  simp
                rw [ee]
                exact iteF ⟨⟨_, rfl⟩, same_new (S12.trans S13) ne⟩
              · obtain ⟨⟨z13, rfl⟩, S12⟩ := hP
                exact ⟨⟨_, _, _, _, rfl⟩, S12⟩
          · obtain ⟨hs, S11⟩ := hP
            exact ⟨hs, (A10.same S11).mono (by omega)⟩
        · obtain ⟨⟨y10, y11, y12, y13, rfl⟩, A10⟩ := hM
          refine ⟨_, rfl, _, rfl, _, rfl, .ref t, pl, ts, u, x, rfl, A10.dt, fine, hu, hx, fun H11 S11 => ⟨_, rfl, iteF ?_⟩⟩
          have A11 := A10.same S11
          refine ⟨_, rfl, _, rfl, _, rfl, .ref t, pl, ts, x, u, rfl, A11.dt, fine, hx, hu, fun H12 S12 => ⟨_, rfl, iteF ⟨⟨_, _, _, _, _, _, _, _, _, rfl⟩, (A11.same S12).mono (by omega)⟩⟩⟩
      · obtain ⟨⟨x5, x6, x7, x8, x9, x10, x11, x12, x13, rfl⟩, A3⟩ := hP
        exact ⟨⟨_, _, _, _, _, _, _, _, _, _, _, _, rfl⟩, A3.dk.mono (by omega)⟩
    · -- the last one
      refine ⟨(by show 1 ≤ sizeLine; decide), fun p1 n1 => ⟨(by show 0 ≤ sizeLine; decide), fun p2 n2 => ⟨(by show 2 ≤ sizeLine; decide), fun p3 n3 => ?_⟩⟩⟩
      rw [lit_a] at *
      have t2 := TK.new (o := .tup []) n2
      have t3 := TK.new (o := .tup [.ref p1, .ref p2]) n3
      have hdt := (Dt.tup (upd_same) (.cons (.tup (t3.tup _ _ (t2.tup _ _ upd_same)) (.cons (.str (S [97])) .nil)) (.cons (.tup (t3.tup _ _ upd_same) .nil) .nil)) : Dt (upd (upd (upd H' p1 (.tup [.str (S [97])])) p2 (.tup [])) p3 (.tup [.ref p1, .ref p2])) (.ref p3) (treeD [[97]] []))
      refine ⟨.ref p3, [[97]], [], [97], [97], rfl, hdt, fineA, ⟨by decide, by decide, by decide⟩, ⟨by decide, by decide, by decide⟩, fun _ _ H1 q1 S1 nq hq => ?_, fun l bl => absurd ⟨by simp, by simp⟩ bl.not⟩
      refine ⟨(by show 1 ≤ sizeLine; decide), fun p5 n5 => ?_⟩
      rw [(fineA.tree.dist_self [97]).2] at hq
      have sh : SeqAt.shaped (.tuple [.str (S [97])]) = true := by decide +kernel
      refine ⟨.tuple [.str (S [97])], .tuple [.str (S [97])], .tup (SqT.of ((same_new (Same.refl _) n5) _ _ hq)) (.cons (.str _) .nil), .tup (SqT.of upd_same) (.cons (.str _) .nil), sh, sh, ?_⟩
      have ee : (PyData.tuple [.str (S [97])]).eqv (.tuple [.str (S [97])]) = true := by
        show ((S [97] == S [97]) && true) = true
        simp
      rw [ee]
      exact q _
end
end Far

namespace Far
open PySem PySem.Spec PyProof.Rows L2
theorem same_none {P : Program} {w : World} {K : PySem.W.Frag} {mg : Str → Option Value} {base : Heap} {f : Addr} {fd : FuncData} : FnOk P w K mg base CX0 1 f fd ["found", "due"] (spSame 0) :=
  ⟨fun vs H Q E h => by obtain ⟨u, v, d, rfl, _⟩ := h; rfl, fun A outer s H args us vs Q E hr e b v h => by obtain ⟨_, _, _, _, _, _, hp, _⟩ := h; cases hp⟩
theorem kit_own {K : PySem.W.Frag} {t : Value} {C : Addr} {b : Bool} {cd : ClassData} (ne : (t == Value.ref C) = false) (h1 : PySem.W.clsIn K C = some cd) (h2 : PySem.W.typeIn K (.ref C) = some (.type "type")) (h3 : PySem.W.subIn K t (.ref C) = some b) : PySem.W.kitOne K t (.ref C) = some b := by
  unfold PySem.W.kitOne PySem.W.kitCls
  rw [if_neg (by rw [ne]; decide)]
  show (if ((PySem.W.clsIn K C).isSome && PySem.W.typeIn K (.ref C) == some (.type "type")) = true then PySem.W.subIn K t (.ref C) else none) = some b
  rw [if_pos (by rw [h1, h2]; rfl)]
  exact h3
theorem kit_ve {K : PySem.W.Frag} {a : Addr} (h : PySem.W.subIn K (.ref a) (.type "ValueError") = some true) : PySem.W.kitOne K (.ref a) (.type "ValueError") = some true := by
  unfold PySem.W.kitOne PySem.W.kitCls
  rw [if_neg (by show ¬ (Value.ref a == Value.type "ValueError") = true; intro z; cases (eq_of_beq z))]
  show (if PySem.W.kitMeta "ValueError" = true then PySem.W.subIn K (.ref a) (.type "ValueError") else none) = some true
  rw [if_pos (by decide +kernel)]
  exact h
theorem exm_own {K : PySem.W.Frag} {t : Value} {C : Addr} {b : Bool} {cd : ClassData} (h0 : PySem.W.subIn K (.ref C) (.type "BaseException") = some true) (h1 : PySem.W.clsIn K C = some cd) (h2 : PySem.W.typeIn K (.ref C) = some (.type "type")) (h3 : PySem.W.subIn K t (.ref C) = some b) : PySem.W.exmOne K t (.ref C) = some b := by
  unfold PySem.W.exmOne PySem.W.kitCls
  rw [if_pos (by rw [h0]; rfl)]
  show (if ((PySem.W.clsIn K C).isSome && PySem.W.typeIn K (.ref C) == some (.type "type")) = true then PySem.W.subIn K t (.ref C) else none) = some b
  rw [if_pos (by rw [h1, h2]; rfl)]
  exact h3
theorem all_mk {l : PySem.W.OpenLaw} {w : World} {K : PySem.W.Frag} {h : Heap} {mg : Str → Option Value} {fa f1 f2 f3 f4 f5 f6 f7 f8 f9 f10 f11 f12 f13 f14 f15 f16 f17 f18 : Addr} (X : K.In h) (G : h.Ns mainGlobals mg) (hfa : mg "law" = some (.ref fa))
    {od1 od2 od3 od4 od5 od6 od7 od8 od9 od10 od11 od12 od13 od14 od15 od16 od17 od18 an1 an2 an3 an4 an5 an6 an7 an8 an9 an10 an11 an12 an13 an14 an15 an16 an17 an18 : Option Addr} {sl1 sl2 sl3 sl4 sl5 sl6 sl7 sl8 sl9 sl10 sl11 sl12 sl13 sl14 sl15 sl16 sl17 sl18 : Array (Option Value)} {oc1 oc2 oc3 oc4 oc5 oc6 oc7 oc8 oc9 oc10 oc11 oc12 oc13 oc14 oc15 oc16 oc17 oc18 kV1 kV2 kV3 kV4 kV5 kV6 kV7 kV8 kV9 kV10 kV11 kV12 kV13 kV14 kV15 kV16 kV17 kV18 dc1 dc2 dc3 dc4 dc5 dc6 dc7 dc8 dc9 dc10 dc11 dc12 dc13 dc14 dc15 dc16 dc17 dc18 pm1 pm2 pm3 pm4 pm5 pm6 pm7 pm8 pm9 pm10 pm11 pm12 pm13 pm14 pm15 pm16 pm17 pm18 cd1 cd2 cd3 cd4 cd5 cd6 cd7 cd8 cd9 cd10 cd11 cd12 cd13 cd14 cd15 cd16 cd17 cd18 ct1 ct2 ct3 ct4 ct5 ct6 ct7 ct8 ct9 ct10 ct11 ct12 ct13 ct14 ct15 ct16 ct17 ct18 : Value}
    {aN aA aJ aT aF fI NN : Addr} {nmN qN : Str} {bsN bmN subN : List Value} {snN : List Str} {abN : Bool} {colN : Option Bool} {ddN odI anI : Option Addr} {j0 j1 j2 j3 j5 : Option Value} {ocI kVI dcI pmI cdI ctI : Value} {slI : Array (Option Value)} {clA clJ clT clF : ClassData}
    (a1 : PySem.W.nsIn K mainGlobals "_law_mix" = some (some (.ref f1))) (l1 : K.lookup f1 = some ⟨oc1, od1, .func (PySem.W.fnOf "_law_mix" "_law_mix" (defArgs s_law_mix) (defBody s_law_mix) (defScope s_law_mix) .none kV1 dc1 pm1 an1 cd1 ct1), sl1⟩) (c1 : PySem.W.codeIn K cd1 "_law_mix" = true) (k1 : PySem.W.keepIn K (.ref f1) = true)
    (a2 : PySem.W.nsIn K mainGlobals "_law_deck" = some (some (.ref f2))) (l2 : K.lookup f2 = some ⟨oc2, od2, .func (PySem.W.fnOf "_law_deck" "_law_deck" (defArgs s_law_deck) (defBody s_law_deck) (defScope s_law_deck) .none kV2 dc2 pm2 an2 cd2 ct2), sl2⟩) (c2 : PySem.W.codeIn K cd2 "_law_deck" = true) (k2 : PySem.W.keepIn K (.ref f2) = true)
    (a3 : PySem.W.nsIn K mainGlobals "_law_next" = some (some (.ref f3))) (l3 : K.lookup f3 = some ⟨oc3, od3, .func (PySem.W.fnOf "_law_next" "_law_next" (defArgs s_law_next) (defBody s_law_next) (defScope s_law_next) .none kV3 dc3 pm3 an3 cd3 ct3), sl3⟩) (c3 : PySem.W.codeIn K cd3 "_law_next" = true) (k3 : PySem.W.keepIn K (.ref f3) = true)
    (a4 : PySem.W.nsIn K mainGlobals "_law_name" = some (some (.ref f4))) (l4 : K.lookup f4 = some ⟨oc4, od4, .func (PySem.W.fnOf "_law_name" "_law_name" (defArgs s_law_name) (defBody s_law_name) (defScope s_law_name) .none kV4 dc4 pm4 an4 cd4 ct4), sl4⟩) (c4 : PySem.W.codeIn K cd4 "_law_name" = true) (k4 : PySem.W.keepIn K (.ref f4) = true)
    (a5 : PySem.W.nsIn K mainGlobals "_law_names" = some (some (.ref f5))) (l5 : K.lookup f5 = some ⟨oc5, od5, .func (PySem.W.fnOf "_law_names" "_law_names" (defArgs s_law_names) (defBody s_law_names) (defScope s_law_names) .none kV5 dc5 pm5 an5 cd5 ct5), sl5⟩) (c5 : PySem.W.codeIn K cd5 "_law_names" = true) (k5 : PySem.W.keepIn K (.ref f5) = true)
    (a6 : PySem.W.nsIn K mainGlobals "_law_tree" = some (some (.ref f6))) (l6 : K.lookup f6 = some ⟨oc6, od6, .func (PySem.W.fnOf "_law_tree" "_law_tree" (defArgs s_law_tree) (defBody s_law_tree) (defScope s_law_tree) .none kV6 dc6 pm6 an6 cd6 ct6), sl6⟩) (c6 : PySem.W.codeIn K cd6 "_law_tree" = true) (k6 : PySem.W.keepIn K (.ref f6) = true)
    (a7 : PySem.W.nsIn K mainGlobals "_law_lengths" = some (some (.ref f7))) (l7 : K.lookup f7 = some ⟨oc7, od7, .func (PySem.W.fnOf "_law_lengths" "_law_lengths" (defArgs s_law_lengths) (defBody s_law_lengths) (defScope s_law_lengths) .none kV7 dc7 pm7 an7 cd7 ct7), sl7⟩) (c7 : PySem.W.codeIn K cd7 "_law_lengths" = true) (k7 : PySem.W.keepIn K (.ref f7) = true)
    (a8 : PySem.W.nsIn K mainGlobals "_law_same" = some (some (.ref f8))) (l8 : K.lookup f8 = some ⟨oc8, od8, .func (PySem.W.fnOf "_law_same" "_law_same" (defArgs s_law_same) (defBody s_law_same) (defScope s_law_same) .none kV8 dc8 pm8 an8 cd8 ct8), sl8⟩) (c8 : PySem.W.codeIn K cd8 "_law_same" = true) (k8 : PySem.W.keepIn K (.ref f8) = true)
    (a9 : PySem.W.nsIn K mainGlobals "_ties_of_each" = some (some (.ref f9))) (l9 : K.lookup f9 = some ⟨oc9, od9, .func (PySem.W.fnOf "_ties_of_each" "_ties_of_each" (defArgs s_ties_of_each) (defBody s_ties_of_each) (defScope s_ties_of_each) .none kV9 dc9 pm9 an9 cd9 ct9), sl9⟩) (c9 : PySem.W.codeIn K cd9 "_ties_of_each" = true) (k9 : PySem.W.keepIn K (.ref f9) = true)
    (a10 : PySem.W.nsIn K mainGlobals "walk_from" = some (some (.ref f10))) (l10 : K.lookup f10 = some ⟨oc10, od10, .func (PySem.W.fnOf "walk_from" "walk_from" (defArgs s_walk_from) (defBody s_walk_from) (defScope s_walk_from) .none kV10 dc10 pm10 an10 cd10 ct10), sl10⟩) (c10 : PySem.W.codeIn K cd10 "walk_from" = true) (k10 : PySem.W.keepIn K (.ref f10) = true)
    (a11 : PySem.W.nsIn K mainGlobals "check_places" = some (some (.ref f11))) (l11 : K.lookup f11 = some ⟨oc11, od11, .func (PySem.W.fnOf "check_places" "check_places" (defArgs s_check_places) (defBody s_check_places) (defScope s_check_places) .none kV11 dc11 pm11 an11 cd11 ct11), sl11⟩) (c11 : PySem.W.codeIn K cd11 "check_places" = true) (k11 : PySem.W.keepIn K (.ref f11) = true)
    (a12 : PySem.W.nsIn K mainGlobals "way_between" = some (some (.ref f12))) (l12 : K.lookup f12 = some ⟨oc12, od12, .func (PySem.W.fnOf "way_between" "way_between" (defArgs s_way_between) (defBody s_way_between) (defScope s_way_between) .none kV12 dc12 pm12 an12 cd12 ct12), sl12⟩) (c12 : PySem.W.codeIn K cd12 "way_between" = true) (k12 : PySem.W.keepIn K (.ref f12) = true)
    (a13 : PySem.W.nsIn K mainGlobals "length_between" = some (some (.ref f13))) (l13 : K.lookup f13 = some ⟨oc13, od13, .func (PySem.W.fnOf "length_between" "length_between" (defArgs s_length_between) (defBody s_length_between) (defScope s_length_between) .none kV13 dc13 pm13 an13 cd13 ct13), sl13⟩) (c13 : PySem.W.codeIn K cd13 "length_between" = true) (k13 : PySem.W.keepIn K (.ref f13) = true)
    (a14 : PySem.W.nsIn K mainGlobals "_law_kind" = some (some (.ref f14))) (l14 : K.lookup f14 = some ⟨oc14, od14, .func (PySem.W.fnOf "_law_kind" "_law_kind" (defArgs s_law_kind) (defBody s_law_kind) (defScope s_law_kind) .none kV14 dc14 pm14 an14 cd14 ct14), sl14⟩) (c14 : PySem.W.codeIn K cd14 "_law_kind" = true) (k14 : PySem.W.keepIn K (.ref f14) = true)
    (a15 : PySem.W.nsIn K mainGlobals "_law_asked" = some (some (.ref f15))) (l15 : K.lookup f15 = some ⟨oc15, od15, .func (PySem.W.fnOf "_law_asked" "_law_asked" (defArgs s_law_asked) (defBody s_law_asked) (defScope s_law_asked) .none kV15 dc15 pm15 an15 cd15 ct15), sl15⟩) (c15 : PySem.W.codeIn K cd15 "_law_asked" = true) (k15 : PySem.W.keepIn K (.ref f15) = true)
    (a16 : PySem.W.nsIn K mainGlobals "_law_right" = some (some (.ref f16))) (l16 : K.lookup f16 = some ⟨oc16, od16, .func (PySem.W.fnOf "_law_right" "_law_right" (defArgs s_law_right) (defBody s_law_right) (defScope s_law_right) .none kV16 dc16 pm16 an16 cd16 ct16), sl16⟩) (c16 : PySem.W.codeIn K cd16 "_law_right" = true) (k16 : PySem.W.keepIn K (.ref f16) = true)
    (a17 : PySem.W.nsIn K mainGlobals "_law_no_place" = some (some (.ref f17))) (l17 : K.lookup f17 = some ⟨oc17, od17, .func (PySem.W.fnOf "_law_no_place" "_law_no_place" (defArgs s_law_no_place) (defBody s_law_no_place) (defScope s_law_no_place) .none kV17 dc17 pm17 an17 cd17 ct17), sl17⟩) (c17 : PySem.W.codeIn K cd17 "_law_no_place" = true) (k17 : PySem.W.keepIn K (.ref f17) = true)
    (a18 : PySem.W.nsIn K mainGlobals "law" = some (some (.ref f18))) (l18 : K.lookup f18 = some ⟨oc18, od18, .func (PySem.W.fnOf "law" "law" (defArgs s_law) (defBody s_law) (defScope s_law) .none kV18 dc18 pm18 an18 cd18 ct18), sl18⟩) (c18 : PySem.W.codeIn K cd18 "law" = true) (k18 : PySem.W.keepIn K (.ref f18) = true)
    (zValueError : PySem.W.nsIn K mainGlobals "ValueError" = some none)
    (zbool : PySem.W.nsIn K mainGlobals "bool" = some none)
    (zint : PySem.W.nsIn K mainGlobals "int" = some none)
    (zisinstance : PySem.W.nsIn K mainGlobals "isinstance" = some none)
    (zlen : PySem.W.nsIn K mainGlobals "len" = some none)
    (zlist : PySem.W.nsIn K mainGlobals "list" = some none)
    (zmax : PySem.W.nsIn K mainGlobals "max" = some none)
    (zrange : PySem.W.nsIn K mainGlobals "range" = some none)
    (zstr : PySem.W.nsIn K mainGlobals "str" = some none)
    (zsum : PySem.W.nsIn K mainGlobals "sum" = some none)
    (ztuple : PySem.W.nsIn K mainGlobals "tuple" = some none)
    (zzip : PySem.W.nsIn K mainGlobals "zip" = some none)
    (gNoPlace : PySem.W.nsIn K mainGlobals "NoPlace" = some (some (.ref aN)))
    (gNoAsk : PySem.W.nsIn K mainGlobals "NoAsk" = some (some (.ref aA)))
    (gNoJoin : PySem.W.nsIn K mainGlobals "NoJoin" = some (some (.ref aJ)))
    (gNoTree : PySem.W.nsIn K mainGlobals "NoTree" = some (some (.ref aT)))
    (gFarError : PySem.W.nsIn K mainGlobals "FarError" = some (some (.ref aF)))
    (lN : K.lookup aN = some (excClassObj nmN qN aN NN bsN bmN true snN subN abN colN ddN j0 j1 j2 j3 j5 "ValueError.__new__"))
    (rN : PySem.HandSPX.refsVE bmN = true)
    (saN : PySem.W.findIn K (.ref aN) "__setattr__" = some (some (.builtin "object.__setattr__")))
    (exN : PySem.W.subIn K (.ref aN) (.type "BaseException") = some true)
    (tyN : PySem.W.typeIn K (.ref aN) = some (.type "type"))
    (kN : PySem.W.keepIn K (.ref aN) = true)
    (iN : PySem.W.findIn K (.ref aN) "__init__" = some (some (.ref fI)))
    (lI : K.lookup fI = some ⟨ocI, odI, .func (PySem.W.fnOf "__init__" "NoPlace.__init__" (defArgs s_np_init) (defBody s_np_init) (defScope s_np_init) .none kVI dcI pmI anI cdI ctI), slI⟩)
    (cI : PySem.W.codeIn K cdI "NoPlace.__init__" = true)
    (kI : PySem.W.keepIn K (.ref fI) = true)
    (tI : PySem.W.typeIn K (.ref fI) = some (.type "function"))
    (gaN : PySem.W.findIn K (.ref aN) "__getattribute__" = some (some (.builtin "BaseException.__getattribute__")))
    (ggN : PySem.W.findIn K (.ref aN) "__getattr__" = some none)
    (hdN : PySem.W.hasDictIn K aN = true)
    (haN : PySem.W.findIn K (.ref aN) "__class__" = some (some (.builtin "object.__class__")))
    (hnN : PySem.W.specialIn K (.builtin "object.__class__") "__get__" = some (some (.builtin "getset_descriptor.__get__")))
    (htN : PySem.W.takesIn K (.builtin "object.__class__") = some true)
    (hmN : PySem.W.mroIn K aN (.type "object") = some true)
    (noN : PySem.W.findIn K (.ref aN) "name" = some none)
    (rdF : PySem.W.readsIn K aF (.type "type") = true)
    (gaF : PySem.W.specialIn K (.ref aF) "__getattribute__" = some (some (.builtin "type.__getattribute__")))
    (vF : PySem.W.findCls K (.ref aF) (.type "type") "__init__" = some (.val (.builtin "ValueError.__init__")))
    (cA : PySem.W.clsIn K aA = some clA)
    (yA : PySem.W.typeIn K (.ref aA) = some (.type "type"))
    (sA : PySem.W.subIn K (.ref aN) (.ref aA) = some false)
    (nA : (Value.ref aN == Value.ref aA) = false)
    (cJ : PySem.W.clsIn K aJ = some clJ)
    (yJ : PySem.W.typeIn K (.ref aJ) = some (.type "type"))
    (sJ : PySem.W.subIn K (.ref aN) (.ref aJ) = some false)
    (nJ : (Value.ref aN == Value.ref aJ) = false)
    (cT : PySem.W.clsIn K aT = some clT)
    (yT : PySem.W.typeIn K (.ref aT) = some (.type "type"))
    (sT : PySem.W.subIn K (.ref aN) (.ref aT) = some false)
    (nT : (Value.ref aN == Value.ref aT) = false)
    (cF : PySem.W.clsIn K aF = some clF)
    (yF : PySem.W.typeIn K (.ref aF) = some (.type "type"))
    (sF : PySem.W.subIn K (.ref aN) (.ref aF) = some true)
    (nF : (Value.ref aN == Value.ref aF) = false)
    (sV : PySem.W.subIn K (.ref aN) (.type "ValueError") = some true)
    (bF : PySem.W.subIn K (.ref aF) (.type "BaseException") = some true) :
    ∃ fd : FuncData, (∀ (s : Shared) (v : Value), BindsTo s fd ⟨[v], []⟩ [("script", v)]) ∧ ∀ base : Heap, K.In base → base.Ns mainGlobals mg → FnOk l.prog w K mg base CX0 7 fa fd ["script"] (spLaw K) := by
  have e := hfa.symm.trans (PySem.W.mg_of X G a18)
  cases e
  have F1 := fun_mk (st := s_law_mix) l1 c1 k1
  have b1 := F1.binds (ps := ["cell", "k"]) fun _ _ _ _ _ _ us hl => match us, hl with | [_, _], _ => rfl
  have F2 := fun_mk (st := s_law_deck) l2 c2 k2
  have b2 := F2.binds (ps := ["script"]) fun _ _ _ _ _ _ us hl => match us, hl with | [_], _ => rfl
  have F3 := fun_mk (st := s_law_next) l3 c3 k3
  have b3 := F3.binds (ps := ["deck", "many"]) fun _ _ _ _ _ _ us hl => match us, hl with | [_, _], _ => rfl
  have F4 := fun_mk (st := s_law_name) l4 c4 k4
  have b4 := F4.binds (ps := ["deck"]) fun _ _ _ _ _ _ us hl => match us, hl with | [_], _ => rfl
  have F5 := fun_mk (st := s_law_names) l5 c5 k5
  have b5 := F5.binds (ps := ["deck", "many"]) fun _ _ _ _ _ _ us hl => match us, hl with | [_, _], _ => rfl
  have F6 := fun_mk (st := s_law_tree) l6 c6 k6
  have b6 := F6.binds (ps := ["deck", "most"]) fun _ _ _ _ _ _ us hl => match us, hl with | [_, _], _ => rfl
  have F7 := fun_mk (st := s_law_lengths) l7 c7 k7
  have b7 := F7.binds (ps := ["tree", "place"]) fun _ _ _ _ _ _ us hl => match us, hl with | [_, _], _ => rfl
  have F8 := fun_mk (st := s_law_same) l8 c8 k8
  have b8 := F8.binds (ps := ["found", "due"]) fun _ _ _ _ _ _ us hl => match us, hl with | [_, _], _ => rfl
  have F9 := fun_mk (st := s_ties_of_each) l9 c9 k9
  have b9 := F9.binds (ps := ["tree"]) fun _ _ _ _ _ _ us hl => match us, hl with | [_], _ => rfl
  have F10 := fun_mk (st := s_walk_from) l10 c10 k10
  have b10 := F10.binds (ps := ["tree", "start"]) fun _ _ _ _ _ _ us hl => match us, hl with | [_, _], _ => rfl
  have F11 := fun_mk (st := s_check_places) l11 c11 k11
  have b11 := F11.binds (ps := ["tree", "names"]) fun _ _ _ _ _ _ us hl => match us, hl with | [_, _], _ => rfl
  have F12 := fun_mk (st := s_way_between) l12 c12 k12
  have b12 := F12.binds (ps := ["tree", "one", "other"]) fun _ _ _ _ _ _ us hl => match us, hl with | [_, _, _], _ => rfl
  have F13 := fun_mk (st := s_length_between) l13 c13 k13
  have b13 := F13.binds (ps := ["tree", "one", "other"]) fun _ _ _ _ _ _ us hl => match us, hl with | [_, _, _], _ => rfl
  have F14 := fun_mk (st := s_law_kind) l14 c14 k14
  have b14 := F14.binds (ps := ["caught"]) fun _ _ _ _ _ _ us hl => match us, hl with | [_], _ => rfl
  have F15 := fun_mk (st := s_law_asked) l15 c15 k15
  have b15 := F15.binds (ps := ["way", "tree", "one", "other"]) fun _ _ _ _ _ _ us hl => match us, hl with | [_, _, _, _], _ => rfl
  have F16 := fun_mk (st := s_law_right) l16 c16 k16
  have b16 := F16.binds (ps := ["tree", "one", "other"]) fun _ _ _ _ _ _ us hl => match us, hl with | [_, _, _], _ => rfl
  have F17 := fun_mk (st := s_law_no_place) l17 c17 k17
  have b17 := F17.binds (ps := ["deck", "places"]) fun _ _ _ _ _ _ us hl => match us, hl with | [_, _], _ => rfl
  have F18 := fun_mk (st := s_law) l18 c18 k18
  have T0 : Txt mg := ⟨PySem.W.mg_none_of X G zlen, PySem.W.mg_none_of X G zsum, PySem.W.mg_none_of X G zrange, PySem.W.mg_none_of X G zint, PySem.W.mg_none_of X G zmax, PySem.W.mg_none_of X G zlist, PySem.W.mg_none_of X G ztuple⟩
  have TW : TxtW mg := ⟨PySem.W.mg_none_of X G ztuple⟩
  have TL : TxtL mg := ⟨PySem.W.mg_none_of X G zrange, PySem.W.mg_none_of X G zlen⟩
  have TS : TxtS mg := ⟨PySem.W.mg_none_of X G zisinstance, PySem.W.mg_none_of X G ztuple, PySem.W.mg_none_of X G zstr, PySem.W.mg_none_of X G zint, PySem.W.mg_none_of X G zbool, PySem.W.mg_none_of X G zlen, PySem.W.mg_none_of X G zzip⟩
  have TKn : TxtK mg := ⟨PySem.W.mg_none_of X G zisinstance, PySem.W.mg_none_of X G zValueError, PySem.W.mg_none_of X G zint, PySem.W.mg_none_of X G zbool⟩
  have TR : TxtR mg := ⟨PySem.W.mg_none_of X G zisinstance, PySem.W.mg_none_of X G zrange, PySem.W.mg_none_of X G zlist⟩
  have FI := fun_mk (st := s_np_init) lI cI kI
  have bI := FI.binds (ps := ["self", "name"]) fun _ _ _ _ _ _ us hl => match us, hl with | [_, _], _ => rfl
  have NP : NpC K mg aN fI aF := ⟨⟨⟨_, _, _, _, _, _, _, _, _, _, _, _, _, _, _, lN, rN⟩, saN, exN, tyN, kN⟩, iN, tI, ⟨gaN, ggN, exN, hdN⟩, ⟨gaN, ggN, exN, hdN, haN, hnN, htN, hmN⟩, noN, PySem.W.mg_of X G gNoPlace, PySem.W.mg_of X G gFarError, rdF, gaF, vF⟩
  have KC : KindC K mg aN aA aJ aT aF := ⟨PySem.W.mg_of X G gNoPlace, PySem.W.mg_of X G gNoAsk, PySem.W.mg_of X G gNoJoin, PySem.W.mg_of X G gNoTree, PySem.W.mg_of X G gFarError, kit_own nA cA yA sA, kit_own nJ cJ yJ sJ, kit_own nT cT yT sT, kit_own nF cF yF sF, kit_ve sV⟩
  have xP : PySem.W.exmOne K (.ref aN) (.ref aF) = some true := exm_own bF cF yF sF
  have C_law_mix : ∀ base : Heap, Cal l.prog w K mg base 1 "_law_mix" spMix := fun base => ⟨f1, _, _, ok_mix F1, PySem.W.mg_of X G a1, k1, b1⟩
  have C_law_deck : ∀ base : Heap, Cal l.prog w K mg base 1 "_law_deck" (spDeck K) := fun base => ⟨f2, _, _, ok_deck F2 T0, PySem.W.mg_of X G a2, k2, b2⟩
  have C_law_next : ∀ base : Heap, Cal l.prog w K mg base 2 "_law_next" spNext := fun base => ⟨f3, _, _, ok_next F3 T0 (C_law_mix base), PySem.W.mg_of X G a3, k3, b3⟩
  have C_law_name : ∀ base : Heap, Cal l.prog w K mg base 3 "_law_name" spName := fun base => ⟨f4, _, _, ok_name F4 T0 (C_law_next base), PySem.W.mg_of X G a4, k4, b4⟩
  have C_law_names : ∀ base : Heap, Cal l.prog w K mg base 4 "_law_names" spNames := fun base => ⟨f5, _, _, ok_names F5 T0 (C_law_next base) (C_law_name base), PySem.W.mg_of X G a5, k5, b5⟩
  have C_law_tree : ∀ base : Heap, Cal l.prog w K mg base 5 "_law_tree" (spTree K) := fun base => ⟨f6, _, _, ok_tree F6 T0 (C_law_next base) (C_law_names base), PySem.W.mg_of X G a6, k6, b6⟩
  have C_law_lengths : ∀ base : Heap, Cal l.prog w K mg base 2 "_law_lengths" spWaysTo := fun base => ⟨f7, _, _, ok_ways_to F7 TL, PySem.W.mg_of X G a7, k7, b7⟩
  have C_same0 : ∀ base : Heap, Cal l.prog w K mg base 1 "_law_same" (spSame 0) := fun base => ⟨f8, _, _, same_none, PySem.W.mg_of X G a8, k8, b8⟩
  have C_same1 : ∀ base : Heap, Cal l.prog w K mg base 2 "_law_same" (spSame 1) := fun base => ⟨f8, _, _, ok_same (by decide) F8 TS (C_same0 base), PySem.W.mg_of X G a8, k8, b8⟩
  have C_same2 : ∀ base : Heap, Cal l.prog w K mg base 3 "_law_same" (spSame 2) := fun base => ⟨f8, _, _, ok_same (by decide) F8 TS (C_same1 base), PySem.W.mg_of X G a8, k8, b8⟩
  have C_ties_of_each : ∀ base : Heap, Cal l.prog w K mg base 1 "_ties_of_each" spTies := fun base => ⟨f9, _, _, ok_ties_of_each F9, PySem.W.mg_of X G a9, k9, b9⟩
  have C_walk_from : ∀ base : Heap, Cal l.prog w K mg base 2 "walk_from" spWalk := fun base => ⟨f10, _, _, ok_walk_from F10 (C_ties_of_each base), PySem.W.mg_of X G a10, k10, b10⟩
  have C_check_places : ∀ base : Heap, CalX l.prog w K mg base 3 "check_places" (spCheckX aN) := fun base => ⟨⟨f11, _, _, ok_check_places NP (ok_np_init NP FI) bI F11, PySem.W.mg_of X G a11, k11, b11⟩⟩
  have Cway_between : ∀ base : Heap, CalX l.prog w K mg base 4 "way_between" (spWayX aN) := fun base => ⟨⟨f12, _, _, ok_way_between F12 TW (C_check_places base) (C_walk_from base), PySem.W.mg_of X G a12, k12, b12⟩⟩
  have Clength_between : ∀ base : Heap, CalX l.prog w K mg base 4 "length_between" (spLenX aN) := fun base => ⟨⟨f13, _, _, ok_length_between F13 (C_check_places base) (C_walk_from base), PySem.W.mg_of X G a13, k13, b13⟩⟩
  have C_law_kind : ∀ base : Heap, Cal l.prog w K mg base 1 "_law_kind" (spKind aN) := fun base => ⟨f14, _, _, ok_kind F14 TKn KC NP, PySem.W.mg_of X G a14, k14, b14⟩
  have C_law_asked : ∀ base : Heap, Cal l.prog w K mg base 5 "_law_asked" spAsked := fun base => ⟨f15, _, _, ok_asked F15 KC.gFarError xP (Cway_between base) (Clength_between base) (C_law_kind base), PySem.W.mg_of X G a15, k15, b15⟩
  have C_law_right : ∀ base : Heap, Cal l.prog w K mg base 6 "_law_right" spRightW := fun base => ⟨f16, _, _, ok_rightW F16 TR (C_law_lengths base) (C_law_asked base) (C_same2 base), PySem.W.mg_of X G a16, k16, b16⟩
  have C_law_no_place : ∀ base : Heap, Cal l.prog w K mg base 4 "_law_no_place" spNone := fun base => ⟨f17, _, _, ok_no_place F17 T0 (C_law_next base) (C_law_name base), PySem.W.mg_of X G a17, k17, b17⟩
  exact ⟨_, fun s v => .of_eq rfl, fun base _ _ => ok_law F18 T0 (C_law_deck base) (C_law_next base) (C_law_tree base) (C_law_no_place base) (C_law_asked base) (C_law_right base) (Cway_between base)⟩
end Far
open PySem PySem.W PyProof.Rows in
set_option maxRecDepth 100000 in
set_option maxHeartbeats 0 in
theorem PySem.Challenge.cw_farplaces_k04_ways_between_holds : PySem.Challenge.rw_farplaces_k04_ways_between.Holds := by
  w_on; o_law; k_head; (case hw => w_witness2)
  k_fill
  refine L2.walk_of (l := PySem.Challenge.rw_farplaces_k04_ways_between) (n := 63) (k := 7) (x := "script") (CX := fun _ => L2.CX0) (sp := fun w => Far.spLaw _) rfl (by decide) rfl ⟨rfl, by decide, by decide⟩ (fun w h Y => PySem.W.kIn_of Y) ?F (fun _ _ a ns hl _ hS => ⟨a, ns, rfl, hS, hl, fun _ => rfl⟩) (fun _ _ _ _ _ h => h)
  case F =>
    intro w mg fa h KX G hmg
    refine' Far.all_mk KX G hmg ?a1 ?l1 ?c1 ?k1 ?a2 ?l2 ?c2 ?k2 ?a3 ?l3 ?c3 ?k3 ?a4 ?l4 ?c4 ?k4 ?a5 ?l5 ?c5 ?k5 ?a6 ?l6 ?c6 ?k6 ?a7 ?l7 ?c7 ?k7 ?a8 ?l8 ?c8 ?k8 ?a9 ?l9 ?c9 ?k9 ?a10 ?l10 ?c10 ?k10 ?a11 ?l11 ?c11 ?k11 ?a12 ?l12 ?c12 ?k12 ?a13 ?l13 ?c13 ?k13 ?a14 ?l14 ?c14 ?k14 ?a15 ?l15 ?c15 ?k15 ?a16 ?l16 ?c16 ?k16 ?a17 ?l17 ?c17 ?k17 ?a18 ?l18 ?c18 ?k18 ?zValueError ?zbool ?zint ?zisinstance ?zlen ?zlist ?zmax ?zrange ?zstr ?zsum ?ztuple ?zzip ?gNoPlace ?gNoAsk ?gNoJoin ?gNoTree ?gFarError ?lN ?rN ?saN ?exN ?tyN ?kN ?iN ?lI ?cI ?kI ?tI ?gaN ?ggN ?hdN ?haN ?hnN ?htN ?hmN ?noN ?rdF ?gaF ?vF ?cA ?yA ?sA ?nA ?cJ ?yJ ?sJ ?nJ ?cT ?yT ?sT ?nT ?cF ?yF ?sF ?nF ?sV ?bF
    (case a1 => k_is); (case l1 => k_is); (case c1 => k_is); (case k1 => k_is); (case a2 => k_is); (case l2 => k_is); (case c2 => k_is); (case k2 => k_is); (case a3 => k_is); (case l3 => k_is); (case c3 => k_is); (case k3 => k_is); (case a4 => k_is); (case l4 => k_is); (case c4 => k_is); (case k4 => k_is); (case a5 => k_is); (case l5 => k_is); (case c5 => k_is); (case k5 => k_is); (case a6 => k_is); (case l6 => k_is); (case c6 => k_is); (case k6 => k_is); (case a7 => k_is); (case l7 => k_is); (case c7 => k_is); (case k7 => k_is); (case a8 => k_is); (case l8 => k_is); (case c8 => k_is); (case k8 => k_is); (case a9 => k_is); (case l9 => k_is); (case c9 => k_is); (case k9 => k_is); (case a10 => k_is); (case l10 => k_is); (case c10 => k_is); (case k10 => k_is); (case a11 => k_is); (case l11 => k_is); (case c11 => k_is); (case k11 => k_is); (case a12 => k_is); (case l12 => k_is); (case c12 => k_is); (case k12 => k_is); (case a13 => k_is); (case l13 => k_is); (case c13 => k_is); (case k13 => k_is); (case a14 => k_is); (case l14 => k_is); (case c14 => k_is); (case k14 => k_is); (case a15 => k_is); (case l15 => k_is); (case c15 => k_is); (case k15 => k_is); (case a16 => k_is); (case l16 => k_is); (case c16 => k_is); (case k16 => k_is); (case a17 => k_is); (case l17 => k_is); (case c17 => k_is); (case k17 => k_is); (case a18 => k_is); (case l18 => k_is); (case c18 => k_is); (case k18 => k_is); (case zValueError => k_is); (case zbool => k_is); (case zint => k_is); (case zisinstance => k_is); (case zlen => k_is); (case zlist => k_is); (case zmax => k_is); (case zrange => k_is); (case zstr => k_is); (case zsum => k_is); (case ztuple => k_is); (case zzip => k_is); (case gNoPlace => k_is); (case gNoAsk => k_is); (case gNoJoin => k_is); (case gNoTree => k_is); (case gFarError => k_is); (case lN => k_is); (case rN => rfl); (case saN => k_is); (case exN => k_is); (case tyN => k_is); (case kN => k_is); (case iN => k_is); (case lI => k_is); (case cI => k_is); (case kI => k_is); (case tI => k_is); (case gaN => k_is); (case ggN => k_is); (case hdN => k_is); (case haN => k_is); (case hnN => k_is); (case htN => k_is); (case hmN => k_is); (case noN => k_is); (case rdF => k_is); (case gaF => k_is); (case vF => k_is); (case cA => k_is); (case yA => k_is); (case sA => k_is); (case nA => rfl); (case cJ => k_is); (case yJ => k_is); (case sJ => k_is); (case nJ => rfl); (case cT => k_is); (case yT => k_is); (case sT => k_is); (case nT => rfl); (case cF => k_is); (case yF => k_is); (case sF => k_is); (case nF => rfl); (case sV => k_is); (case bF => k_is)

